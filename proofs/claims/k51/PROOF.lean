import PyProof.Rows.All
import Wide.All
import OpenK.AllK
import Wide.FinOn
import Lean
import PyProof.EqAt
import PyProof.EqKinds
import PyProof.TupleCall
import KE.KUnpack
import PyProof.NeKinds
import PyProof.EnumFor
import PyProof.EnumStmt
import PyProof.EnumMake
import PyProof.Draws
import PyProof.StrWalks
import PyProof.Rows.FStr
import PyProof.Rows.CallKw2
import PyProof.StrBlockL
import KE.KIntText
import PyProof.ConsumeWalk
import PyProof.StrBlockG
import PyProof.CallStr
import PyProof.Rows.Range3
import PyProof.MeetsDict
import PyProof.DictList
import PyProof.StrLawsChain
import PyProof.StrLawsNeg
import KE.IntTextLaws
import KE.IntTextText
import PyProof.CallFns
import PyProof.CompUse
import PyProof.DictWalks
import KE.KDictSum
import PyProof.FString5
import KE.KLam
import KE.KSortKey
import KE.KNestM
import PyProof.Rows.RuleN_abs
import PyProof.WalkInts
import KE.KMinKey
import KE.KSortTup
import PyProof.DictCompW
import PySem.Challenge.RW_cleanrows_k51_living_in_stretches
local macro_rules | `(f!$_)=>`(by decide +kernel)
open PySem.W (instObj methodObj hideAll hideAll_get of_hideAll lookIn plainGet hasDictIn handedIn plainGet_of isFn plainOver takerIn makesIn emptyDict keepIn methodCall_KW callWith_K callWith_K0 fnOf codeIn excIn clsIn kla_obj tabObj kla_fn codeHdIn nsIn mg_of mg_none_of)
open List (range mem_filter mem_filterMap mem_cons_self mem_cons_of_mem mem_cons mem_append mem_append_left getElem?_set_ne mem_append_right size_toArray length_cons map_cons length_map append_nil nodup_cons replicate length_take getElem?_map mem_of_getElem? length_append length_replicate length_drop length_set any_cons replicate_succ flatten_cons foldl foldl_cons length_singleton nil_append map_nil lookup_cons all_eq_true getD_eq_getElem?_getD map_congr_left mem_singleton take_of_length_le not_mem_nil pairwise_cons filter_cons range' getElem?_eq_none take_add_one getElem_of_mem find?_cons length_nil map_map map_append nodup_append mem_map zip_cons_cons pairwise_map toArray all_append map_set nodup_nil getElem?_inj length_take_le')
open PySem.Heap (lt_size SameBut get?_push_of_some get?_push_size size_push get?_update_self get?_update_other ExtBut)
open Nat (ne_of_lt le_trans le_of_lt ne_of_gt le_refl zero_le le_of_eq lt_succ_self le_succ lt_succ_of_lt lt_trans lt_of_succ_lt toDigits not_lt)
open Array (length_toList getElem?_toList)
open Option (map_some isSome_iff_exists getD_none isSome_map map_eq_some_iff bind_some bind_eq_some_iff)
open Bool (and_eq_true false_eq_true eq_false_iff)
open Int (toNat_natCast)
open PySem.Value (float type builtin)
open PyProof.Rows (KeyOrd)
open PySem.F (slot_tuple_add entry_tuple_add args_tuple_add_2 plainAttrs_list slot_dict_get)
open PySem.Obj (mapSeq)
set_option Elab.async false
set_option linter.all false
set_option maxRecDepth 100000
namespace L2
open PySem PySem.Spec PyProof.Rows
abbrev Key:=Sum Int Str
def zb1:Key->Value->Bool
 | .inl k,v=>Value.isInt k v
 | .inr x,v=>Value.isStrOf x v
def zye(w:World):Key->Int
 | .inl k=>hashInt k
 | .inr x=>hashStr w x
theorem zbq:∀{k:Key}{v:Value},zb1 k v=true->(∃i t,k=Sum.inl i/\v=Value.int i t)\/(∃x t,k=Sum.inr x/\v=Value.str x t)
 | .inl i,v,h=>by
  obtain ⟨t,e⟩:=Value.isInt_shape (k:=i) (v:=v) h
  exact .inl ⟨i,t,rfl,e⟩
 | .inr x,v,h=>by
  obtain ⟨t,e⟩:=Value.isStrOf_shape (x:=x) (v:=v) h
  exact .inr ⟨x,t,rfl,e⟩
theorem zvV(i:Int)(t:Tok):zb1 (.inl i) (.int i t)=true:=by simp [zb1,Value.isInt]
theorem zqC(x:Str)(t:Tok):zb1 (.inr x) (.str x t)=true:=by simp [zb1,Value.isStrOf]
theorem zpd(a b:Int):decide ((Sum.inl a:Key)=Sum.inl b)=(a==b):=by
 by_cases e:a=b
 ·subst e;simp
 ·have h : ¬ (Sum.inl a:Key)=Sum.inl b:=λq=>e (Sum.inl.inj q)
  rw [decide_eq_false h]
  exact (beq_eq_false_iff_ne.mpr e).symm
theorem zqn(a b:Str):decide ((Sum.inr a:Key)=Sum.inr b)=decide (a=b):=by
 by_cases e:a=b
 ·subst e;simp
 ·have h : ¬ (Sum.inr a:Key)=Sum.inr b:=λq=>e (Sum.inr.inj q)
  rw [decide_eq_false h,decide_eq_false e]
theorem zvs(a:Int)(b:Str):decide ((Sum.inl a:Key)=Sum.inr b)=false:=decide_eq_false (λq=>nomatch q)
theorem zuf(a:Str)(b:Int):decide ((Sum.inr a:Key)=Sum.inl b)=false:=decide_eq_false (λq=>nomatch q)
def zaf(prog:Program)(w:World):PySem.KeyKind prog w Key where
 is:=zb1
 hash:=zye w
 inj:=λv a b ha hb=>by
  rcases zbq ha with ⟨i,t,rfl,rfl⟩|⟨x,t,rfl,rfl⟩
  ·rcases zbq hb with ⟨j,u,rfl,e⟩|⟨y,u,rfl,e⟩
   ·injection e with e1 _;rw [e1]
   ·exact nomatch e
  ·rcases zbq hb with ⟨j,u,rfl,e⟩|⟨y,u,rfl,e⟩
   ·exact nomatch e
   ·injection e with e1 _;rw [e1]
 byValue:=λk v h=>by
  rcases zbq h with ⟨i,t,rfl,rfl⟩|⟨x,t,rfl,rfl⟩<;>rfl
 pyHash:=λhv h=>by
  rcases zbq hv with ⟨i,t,rfl,rfl⟩|⟨x,t,rfl,rfl⟩
  ·exact wpAny_pyHash_int h
  ·exact wpAny_pyHash_str h
 eqBool:=λhu hv h=>by
  rcases zbq hu with ⟨i,t,rfl,rfl⟩|⟨x,t,rfl,rfl⟩
  ·rcases zbq hv with ⟨j,u,rfl,rfl⟩|⟨y,u,rfl,rfl⟩
   ·rw [zpd] at h;exact wpAny_eqBool_int h
   ·rw [zvs] at h;exact SeqAt.EqAt.int_str i t y u _ _ _ _ h
  ·rcases zbq hv with ⟨j,u,rfl,rfl⟩|⟨y,u,rfl,rfl⟩
   ·rw [zuf] at h;exact SeqAt.EqAt.str_int x t j u _ _ _ _ h
   ·rw [zqn] at h;exact wpAny_eqBool_str h
 «strs»:=λk x t v h=>by
  rcases zbq h with ⟨i,u,rfl,e⟩|⟨y,u,rfl,e⟩
  ·exact nomatch e
  ·injection e with e1 _
   subst e1
   cases v<;>rfl
theorem zrd(prog:Program)(w:World)(i:Int)(t:Tok):(zaf prog w).is (.inl i) (.int i t)=true:=zvV i t
theorem zwt(prog:Program)(w:World)(x:Str)(t:Tok):(zaf prog w).is (.inr x) (.str x t)=true:=zqC x t
inductive V where
 | non|bl (b:Bool)|int (i:Int)|str (x:Str)|byt (b:Array UInt8)|flt (b:UInt64)|ref (a:Addr)|ty (n:String)
 deriving DecidableEq
def zm:V->Value->Prop
 | .non,u=>u=Value.none
 | .bl b,u=>u=Value.bool b
 | .int i,u=>∃t,u=Value.int i t
 | .str x,u=>∃t,u=Value.str x t
 | .byt b,u=>∃t,u=Value.bytes b t
 | .flt b,u=>∃t,u=float b t
 | .ref a,u=>u=Value.ref a
 | .ty n,u=>u=type n
abbrev zj:List V->List Value->Prop:=Paired zm
theorem zj.length{xs:List V}{us:List Value}(r:zj xs us):xs.length=us.length:=Paired.length r
theorem zj.get:∀{xs:List V}{us:List Value}{i:Nat}{x:V},zj xs us->xs[i]?=some x->∃u,us[i]?=some u/\zm x u
 | _,_,_,_,.nil,e=>by simp at e
 | _,_,0,_,.cons r _,e=>by simp at e;subst e;exact ⟨_,rfl,r⟩
 | _,_,i+1,x,.cons _ t,e=>by
  obtain ⟨u,h1,h2⟩:=zj.get (i:=i) (x:=x) t (by simpa using e)
  exact ⟨u,by simpa using h1,h2⟩
theorem zj.set{x:V}{u:Value}(r:zm x u):∀{xs:List V}{us:List Value}(i:Nat),zj xs us->zj (xs.set i x) (us.set i u)
 | _,_,_,.nil=>.nil
 | _,_,0,.cons _ t=>.cons r t
 | _,_,i+1,.cons q t=>.cons q (zj.set r i t)
theorem zj.append:∀{xs ys:List V}{us ws:List Value},zj xs us->zj ys ws->zj (xs++ys) (us++ws)
 | _,_,_,_,.nil,s=>s
 | _,_,_,_,.cons r t,s=>.cons r (zj.append t s)
theorem zj.take:∀{xs:List V}{us:List Value}(n:Nat),zj xs us->zj (xs.take n) (us.take n)
 | _,_,0,_=>.nil
 | _,_,_+1,.nil=>.nil
 | _,_,n+1,.cons r t=>.cons r (zj.take n t)
theorem zj.drop:∀{xs:List V}{us:List Value}(n:Nat),zj xs us->zj (xs.drop n) (us.drop n)
 | _,_,0,r=>r
 | _,_,_+1,.nil=>.nil
 | _,_,n+1,.cons _ t=>zj.drop n t
def zaB:Option V->Option Value->Prop
 | some v,some u=>zm v u
 | none,none=>True
 | _,_=>False
def KV{κ:Type}:List (κ×V)->List (κ×Value)->Prop:=Paired λ(p:κ×V)(q:κ×Value)=>p.1=q.1/\zm p.2 q.2
def kV:Key->V
 | .inl i=>.int i
 | .inr x=>.str x
inductive HO where
 | lst (xs:List V)
 | tup (xs:List V)
 | dK (kvs:List (Key×V))|dT (kvs:List (List Key×V))
 | set (S:Int->Bool) (n:Nat)
 | ins (C dx:Addr) (fs:List (Str×V))
 | own (x:Addr)
 | xd (fs:List (Str×V))
 | met (f x:Addr)
 | rng (lo hi:Int)
 | frz (o:Obj) (u:HO)
 | tbl (ps:Array Value)
 | ext (φ:Heap->Prop)
abbrev Hp:=Addr->Option HO
def upd(H:Hp)(a:Addr)(o:HO):Hp:=λb=>if b=a then some o else H b
theorem zq{H:Hp}{a:Addr}{o:HO}:upd H a o a=some o:=by unfold upd;rw [if_pos rfl]
theorem zd{H:Hp}{a b:Addr}{o:HO}(h:b≠a):upd H a o b=H b:=by unfold upd;rw [if_neg h]
theorem zbX{H:Hp}{a:Addr}{o u:HO}:upd (upd H a o) a u=upd H a u:=by
 funext b;unfold upd;split<;>rfl
theorem zs0{H:Hp}{a b:Addr}{o u:HO}(h:H a=some o)(h':H b=some u)(d:o≠u):a≠b:=by
 intro e;subst e;rw [h] at h';exact d (Option.some.inj h')
theorem zA{H:Hp}{a b:Addr}{o:HO}(h:H a=some o)(h':H b=none):a≠b:=by
 intro e;subst e;rw [h] at h';cases h'
section
variable (P:Program) (w:World)
def zW(H:Hp)(h:Heap)(a:Addr):HO->Prop
 | .lst xs=>xs.length<=sizeLine/\∃(its:List Value)(n:Nat),zj xs its/\h.get? a=some { cls:=.type "list",data:=.seq its.toArray n }
 | .tup xs=>xs.length<=sizeLine/\∃its:List Value,zj xs its/\IsTup h a its.toArray
 | .dK kvs=>kvs.length<=sizeLine/\(a==sysModules)=false/\∃vs,KV kvs vs/\h.DictOf (zaf P w) a vs
 | .dT kvs=>kvs.length<=sizeLine/\(a==sysModules)=false/\∃xs:List (List Key×Addr×Value),
   Paired (λ(p:List Key×V)(q:List Key×Addr×Value)=>p.1=q.1/\H q.2.1=some (.tup (p.1.map kV))/\zm p.2 q.2.2) kvs xs /\
   ∃o es ep,h.get? a=some o/\o.ExactDict/\o.data = .dict es ep/\es.toList=xs.map (entryOfKey (tupleKind (zaf P w)))/\(xs.map (·.1)).Nodup
 | .set S n=>h.SetOf (intKind P w) a S n
 | .ins C dx fs=>H dx=some (.own a)/\fs.length<=1000/\dx≠a/\h.get? a=some (instObj C dx) /\
   ∃mA,h.Ns1 dx mA/\(∀f,zaB (fs.lookup f) (mA f))/\PySem.Within mA (fs.map (·.1))
 | .own _=>∃o,h.get? a=some o
 | .xd fs=>∃mA,h.Ns1 a mA/\∀f,zaB (fs.lookup f) (mA f)
 | .rng lo hi=>∃t u v,h.get? a=some { cls:=.type "range",data:=.fields #[.int lo t,.int hi u,.int 1 v] }
 | .frz o u=>h.get? a=some o/\zW H h a u
 | .tbl ps=>h.get? a=some { cls:=.none,data:=.fields ps }
 | .met f x=>h.get? a=some (methodObj (.ref f) (.ref x))
 | .ext φ=>φ h/\(∃o,h.get? a=some o)/\∀h1 h2:Heap,φ h1->(∀o,h1.get? a=some o->h2.get? a=some o)->φ h2
def HOk(H:Hp)(h:Heap):Prop:=∀a o,H a=some o->zW P w H h a o
end
section
variable {P:Program}{w:World}{H H':Hp}{h h':Heap}{a:Addr}{o:HO}
theorem zW.lt(x:zW P w H h a o):a<h.objs.size:=by
 cases o with
 | lst xs=>obtain ⟨_,_,_,_,e⟩:=x;exact lt_size e
 | tup xs=>obtain ⟨_,_,_,p⟩:=x;exact p.lt
 | dK kvs=>obtain ⟨_,_,_,_,o,_,_,e,_⟩:=x;exact lt_size e
 | dT kvs=>obtain ⟨_,_,_,_,o,_,_,e,_⟩:=x;exact lt_size e
 | set S n=>obtain ⟨o,_,_,_,e,_⟩:=x;exact lt_size e
 | ins C dx fs=>obtain ⟨_,_,_,e,_⟩:=x;exact lt_size e
 | own y=>obtain ⟨_,e⟩:=x;exact lt_size e
 | xd fs=>obtain ⟨_,⟨_,_,_,e,_⟩,_⟩:=x;exact lt_size e
 | rng lo hi=>obtain ⟨_,_,_,e⟩:=x;exact lt_size e
 | frz ob u=>obtain ⟨e,_⟩:=x;exact lt_size e
 | tbl ps=>exact lt_size (show h.get? a=some _ from x)
 | met f y=>exact lt_size (show h.get? a=some _ from x)
 | ext φ=>obtain ⟨_,⟨_,e⟩,_⟩:=x;exact lt_size e
theorem Paired.mapP{α β:Type}{F G:α->β->Prop}:∀{l₁:List α}{l₂:List β},Paired F l₁ l₂->(∀a b,F a b->G a b)->Paired G l₁ l₂
 | _,_,.nil,_=>.nil
 | _,_,.cons r t,f=>.cons (f _ _ r) (Paired.mapP t f)
theorem zW.stay(x:zW P w H h a o)(k:∀b u,(b=a\/H b=some (.own a))->h.get? b=some u->h'.get? b=some u)
  (ho:∀b,H b=some (.own a)->H' b=some (.own a)) (ht:∀b xs,H b=some (.tup xs)->H' b=some (.tup xs)):zW P w H' h' a o:=by
 induction o with
 | lst xs=>obtain ⟨z,its,n,r,e⟩:=x;exact ⟨z,its,n,r,k _ _ (.inl rfl) e⟩
 | tup xs=>obtain ⟨z,its,r,ob,e,c⟩:=x;exact ⟨z,its,r,ob,k _ _ (.inl rfl) e,c⟩
 | dK kvs=>obtain ⟨z,y,vs,r,ob,es,ep,e,c⟩:=x;exact ⟨z,y,vs,r,ob,es,ep,k _ _ (.inl rfl) e,c⟩
 | dT kvs =>
  obtain ⟨z,y,xs,r,ob,es,ep,e,c⟩:=x
  exact ⟨z,y,xs,Paired.mapP r λp q z=>⟨z.1,ht _ _ z.2.1,z.2.2⟩,ob,es,ep,k _ _ (.inl rfl) e,c⟩
 | set S n=>obtain ⟨ob,es,ep,t,e,c⟩:=x;exact ⟨ob,es,ep,t,k _ _ (.inl rfl) e,c⟩
 | ins C dx fs =>
  obtain ⟨d,z,ne,e,mA,⟨od,es,ep,e2,c⟩,r⟩:=x
  exact ⟨ho _ d,z,ne,k _ _ (.inl rfl) e,mA,⟨od,es,ep,k _ _ (.inr d) e2,c⟩,r⟩
 | own y=>obtain ⟨ob,e⟩:=x;exact ⟨ob,k _ _ (.inl rfl) e⟩
 | xd fs=>obtain ⟨mA,⟨od,es,ep,e,c⟩,r⟩:=x;exact ⟨mA,⟨od,es,ep,k _ _ (.inl rfl) e,c⟩,r⟩
 | rng lo hi=>obtain ⟨t,u,v,e⟩:=x;exact ⟨t,u,v,k _ _ (.inl rfl) e⟩
 | frz ob u ih=>obtain ⟨e,q⟩:=x;exact ⟨k _ _ (.inl rfl) e,ih q⟩
 | tbl ps =>
  have e:h.get? a=some { cls:=.none,data:=.fields ps }:=x
  show h'.get? a=some { cls:=.none,data:=.fields ps }
  exact k a _ (.inl rfl) e
 | met f y =>
  have e:h.get? a=some (methodObj (.ref f) (.ref y)):=x
  show h'.get? a=some (methodObj (.ref f) (.ref y))
  exact k a _ (.inl rfl) e
 | ext φ=>obtain ⟨p,⟨o,e⟩,st⟩:=x;exact ⟨st _ _ p λo q=>k _ _ (.inl rfl) q,⟨o,k _ _ (.inl rfl) e⟩,st⟩
theorem HOk.lt(x:HOk P w H h)(e:H a=some o):a<h.objs.size:=(x a o e).lt
theorem HOk.fresh(x:HOk P w H h)(e:h.objs.size<=a):H a=none:=by
 cases q:H a with
 | none=>rfl
 | some u=>exact absurd (Nat.lt_of_lt_of_le (x.lt q) e) (Nat.lt_irrefl _)
theorem HOk.kept(x:HOk P w H h)(k:∀b u,h.get? b=some u->h'.get? b=some u):HOk P w H h':=λa o e =>
 (x a o e).stay (λb u _ q=>k b u q) (λ_ q=>q) λ_ _ q=>q
theorem HOk.laid(x:HOk P w H h)(k:∀b u,h.get? b=some u->h'.get? b=some u)(hp:h.objs.size<=a)(new:zW P w (upd H a o) h' a o):HOk P w (upd H a o) h':=λb u e=>by
 have hn:=x.fresh hp
 by_cases hb:b=a
 ·subst hb;rw [zq] at e;cases e;exact new
 ·rw [zd hb] at e
  exact (x b u e).stay (λc v _ q=>k c v q) (λc q=>by rw [zd (zA q hn)];exact q) λc xs q=>by rw [zd (zA q hn)];exact q
end
def Rd(H:Hp)(a:Addr)(u:HO):Prop:=H a=some u\/∃o,H a=some (.frz o u)
theorem Rd.ok{P:Program}{w:World}{H:Hp}{h:Heap}{a:Addr}{u:HO}(r:Rd H a u)(x:HOk P w H h):zW P w H h a u:=by
 rcases r with r|⟨o,r⟩
 ·exact x a u r
 ·obtain ⟨_,q⟩:=x a _ r
  exact q
def Mut:Option HO->Prop
 | some (.lst _)=>True
 | some (.dK _)=>True
 | some (.dT _)=>True
 | some (.set _ _)=>True
 | some (.ins _ _ _)=>True
 | some (.ext _)=>True
 | _=>False
section
variable {P:Program}{w:World}{H:Hp}{h h':Heap}{x e:Addr}{o':HO}
theorem HOk.write(ok:HOk P w H h)(mu:Mut (H x))(he:e=x\/H e=some (.own x))(k:∀b u,b≠e->h.get? b=some u->h'.get? b=some u)(heo:∃u,h'.get? e=some u)
  (new:zW P w (upd H x o') h' x o'):HOk P w (upd H x o') h':=λb u q=>by
 have nown:∀c y,H c=some (.own y)->c≠x:=λc y r z=>by subst z;rw [r] at mu;exact mu
 have ntup:∀c xs,H c=some (.tup xs)->c≠x:=λc xs r z=>by subst z;rw [r] at mu;exact mu
 by_cases hb:b=x
 ·subst hb;rw [zq] at q;cases q;exact new
 ·rw [zd hb] at q
  by_cases hbe:b=e
  ·have q':H b=some (.own x):=by
    rcases he with z|z
    ·exact absurd (hbe.trans z) hb
    ·rw [hbe];exact z
   rw [q] at q';cases q'
   obtain ⟨v,hv⟩:=heo
   exact ⟨v,by rw [hbe];exact hv⟩
  ·refine (ok b u q).stay (λc v hc r=>k c v ?_ r) (λc r=>by rw [zd (nown c b r)];exact r) λc xs r=>by rw [zd (ntup c xs r)];exact r
   rcases hc with rfl|hc
   ·exact hbe
   ·rintro rfl
    rcases he with z|z
    ·exact nown c b hc z
    ·rw [hc] at z;cases z;exact hb rfl
end
structure Un(fs ex:List Addr)(H H':Hp)(h h':Heap):Prop where
 keep:∀b o,h.get? b=some o->H b=none->b∉fs->b∉ex->h'.get? b=some o
 slot:∀b o,h.get? b=some o->H b=none->b∈fs->b∉ex->∃sl,h'.get? b=some { o with slots:=sl }
 free:∀b o,h.get? b=some o->H b=none->b∉ex->H' b=none
 there:∀b o,h.get? b=some o->b∉ex->∃o',h'.get? b=some o'
 tups:∀b xs,H b=some (.tup xs)->H' b=some (.tup xs)
 frzs:∀b o u,H b=some (.frz o u)->H' b=some (.frz o u)
 tbls:∀b ps,H b=some (.tbl ps)->∃more,H' b=some (.tbl (ps++more))
section
variable {fs fs' ex ex':List Addr}{H H1 H2:Hp}{h h1 h2 h':Heap}{a x e:Addr}{o:HO}
theorem Un.any(u:Un fs ex H H1 h h1){b:Addr}{ob:Obj}(q:h.get? b=some ob)(n:H b=none)(hx:b∉ex):∃sl,h1.get? b=some { ob with slots:=sl }:=by
 by_cases hb:b∈fs
 ·exact u.slot b ob q n hb hx
 ·exact ⟨ob.slots,u.keep b ob q n hb hx⟩
theorem Un.kept(k:∀b u,h.get? b=some u->h'.get? b=some u):Un fs ex H H h h' :=
 ⟨λb ob q _ _ _=>k b ob q,λb ob q _ _ _=>⟨ob.slots,k b ob q⟩,λ_ _ _ n _=>n,λb ob q _=>⟨ob,k b ob q⟩,λ_ _ q=>q,λ_ _ _ q=>q,λ_ ps q=>⟨#[],by rw [q];simp⟩⟩
theorem Un.refl:Un fs ex H H h h:=Un.kept λ_ _ q=>q
theorem Un.laid(k:∀b u,h.get? b=some u->h'.get? b=some u)(hp:h.objs.size<=a)(hn:H a=none):Un fs ex H (upd H a o) h h' where
 keep:=λb u q _ _ _=>k b u q
 slot:=λb u q _ _ _=>⟨u.slots,k b u q⟩
 free:=λb u q n _=>by rw [zd (ne_of_lt (Nat.lt_of_lt_of_le (lt_size q) hp))];exact n
 there:=λb u q _=>⟨u,k b u q⟩
 tups:=λb xs q=>by rw [zd (zA q hn)];exact q
 frzs:=λb u xs q=>by rw [zd (zA q hn)];exact q
 tbls:=λb ps q=>⟨#[],by rw [zd (zA q hn),q];simp⟩
theorem Un.write(mu:Mut (H x))(he:e=x\/H e=some (.own x))(k:∀b u,b≠e->h.get? b=some u->h'.get? b=some u)(heo:∃u,h'.get? e=some u):Un fs ex H (upd H x o) h h':=by
 have hx:∀b,H b=none->b≠x:=λb n z=>by subst z;rw [n] at mu;exact mu
 have hb:∀b,H b=none->b≠e:=λb n z=>by
  subst z
  rcases he with r|r
  ·exact hx b n r
  ·rw [n] at r;cases r
 have hm:∀b u,H b=some u->¬ Mut (some u)->b≠x:=λb u q nm z=>by subst z;rw [q] at mu;exact nm mu
 refine ⟨λb u q n _ _=>k b u (hb b n) q,λb u q n _ _=>⟨u.slots,k b u (hb b n) q⟩,λb u q n _=>by rw [zd (hx b n)];exact n,λb u q _=>?_,
  λb xs q=>by rw [zd (hm b _ q λz=>z)];exact q,λb u xs q=>by rw [zd (hm b _ q λz=>z)];exact q,λb ps q=>⟨#[],by rw [zd (hm b _ q λz=>z),q];simp⟩⟩
 by_cases hbe:b=e
 ·subst hbe;exact heo
 ·exact ⟨u,k b u hbe q⟩
end
def trk(h:Heap)(H:Hp):List Addr:=(range h.objs.size).filter λa=>(H a).isSome
def zbD(h:Heap)(H:Hp):Heap:=hideAll h (trk h H)
theorem zqL(h:Heap)(H:Hp):(zbD h H).objs.size=h.objs.size:=PySem.W.hideAll_size _ _
theorem ztj{h:Heap}{H:Hp}{b:Addr}{o:Obj}(e:h.get? b=some o)(n:H b=none):(zbD h H).get? b=some o :=
 hideAll_get _ e λhm=>by
  have q:(H b).isSome=true:=(mem_filter.mp hm).2
  rw [n] at q;simp at q
theorem zx0{h:Heap}{H:Hp}{b:Addr}{o:Obj}(e:(zbD h H).get? b=some o):h.get? b=some o/\H b=none:=by
 have e':h.get? b=some o:=of_hideAll (trk h H) e
 refine ⟨e',?_⟩
 cases q:H b with
 | none=>rfl
 | some x =>
  have hm:b∈trk h H:=mem_filter.mpr ⟨List.mem_range.mpr (lt_size e'),by simp [q]⟩
  have z:(zbD h H).get? b=none:=PySem.W.hideAll_none (trk h H) hm
  rw [z] at e;cases e
def zcd(g h:Heap)(L:Addr):List (Addr×Obj):=(range h.objs.size).filterMap λa=>if a=L\/(g.get? a).isSome=true then none else (h.get? a).map λo=>(a,o)
theorem zyg{g h:Heap}{L a:Addr}{o:Obj}(h1:a≠L)(h2:g.get? a=none)(h3:h.get? a=some o):(a,o)∈zcd g h L :=
 mem_filterMap.mpr ⟨a,List.mem_range.mpr (lt_size h3),by simp [h1,h2,h3]⟩
theorem znK{g h:Heap}{L:Addr}{p:Addr×Obj}(hp:p∈zcd g h L):p.1≠L/\g.get? p.1=none/\h.get? p.1=some p.2:=by
 obtain ⟨b,_,e⟩:=mem_filterMap.mp hp
 split at e
 ·cases e
 ·rename_i hn
  cases q:h.get? b with
  | none=>rw [q] at e;simp at e
  | some u =>
   rw [q] at e
   simp only [map_some,Option.some.injEq] at e
   subst e
   refine ⟨λz=>hn (.inl z),?_,q⟩
   show g.get? b=none
   cases r:g.get? b with
   | none=>rfl
   | some v=>exact (hn (.inr (by simp [r]))).elim
def zab(g h:Heap)(L d:Addr):List (Addr×Obj):=(zcd g h L).filter λp=>decide (p.1≠d)
theorem zwo{g h:Heap}{L:Addr}:News g L h (zcd g h L):=λp hp=>let ⟨a,b,c⟩:=znK hp;⟨c,a,b⟩
structure Mod(K:PySem.W.Frag)(mg:Str->Option Value)(base:Heap):Prop where
 kin:K.In base
 glob:base.Ns mainGlobals mg
 blt:∃mb,base.Ns builtinsNs mb/\∀x:Str,x≠"__name__"->mb x=bootBuiltins x
 nolimit:base.NoLimit
def zeJ(A:Around)(H:Hp):Prop:=A.handled=none\/∃(a:Addr)(o:Obj)(vs:Array Value),A.handled=some (.ref a)/\H a=some (.frz o (.own 0))/\o.data = .fields vs/\vs[2]?=some .none/\∃C,o.cls = .ref C
theorem zeJ.same{A:Around}{H H':Hp}(x:zeJ A H)(k:∀b o u,H b=some (.frz o u)->H' b=some (.frz o u)):zeJ A H':=by
 rcases x with x|⟨a,o,vs,h1,h2,h3⟩
 ·exact .inl x
 ·exact .inr ⟨a,o,vs,h1,k _ _ _ h2,h3⟩
structure Cx where
 prog:Program
 w:World
 K:PySem.W.Frag
 mg:Str->Option Value
 base:Heap
 A:Around
 N:List Str
 s₀:Shared
 H₀:Hp
 env:Env
 outer:List Env
 stack:List Env
 ex:List Addr
 fn:Str->Bool
 calm:Bool
 pn:List (Addr×Obj)
 xe:Value->Shared->Prop
def frs(l:List Env):List Addr:=l.filterMap (·.frame)
abbrev Cx.fs(X:Cx):List Addr:=frs X.outer
def Vis(sc:Scope)(x:Str):Prop:=sc.names.lookup x=some .local\/sc.names.lookup x=some .cell\/sc.names.lookup x=some .free
def Loc(sc:Scope)(x:Str):Prop:=sc.names.lookup x=some .local\/sc.names.lookup x=some .cell
def zns(env:Env)(h:Heap)(m:Str->Option Value)(x:Str)(u:Value):Prop :=
 (env.kindOf x=some .local/\m x=some u)\/((env.kindOf x=some .cell\/env.kindOf x=some .free)/\∃c,env.cells.lookup x=some c/\h.IsCell c (some u))
structure Cx.Ok(X:Cx):Prop where
 mod:Mod X.K X.mg X.base
 kind:X.env.scope.kind = .function
 glob:X.env.globals=mainGlobals
 blt:X.env.builtins=builtinsNs
 above:X.s₀.heap.objs.size<=X.env.locals
 inj:∀x y c,X.env.cells.lookup x=some c->X.env.cells.lookup y=some c->x=y
 has:∀x,(X.env.kindOf x=some .cell\/X.env.kindOf x=some .free)->∃c,X.env.cells.lookup x=some c
 cab:∀x c,X.fn x=true->X.env.cells.lookup x=some c->X.s₀.heap.objs.size<=c
 hd:X.calm=true->X.A.handled=none
 frames:X.A.frames=some X.stack
 stk:X.stack=X.outer\/(X.stack=X.env::X.outer/\X.env.frame=some X.env.locals)
 exf:∀b∈X.ex,b≠X.env.locals/\∀x c,X.env.cells.lookup x=some c->c≠b
 bs:∀b o,X.base.get? b=some o->X.s₀.heap.get? b=some o/\X.H₀ b=none
 bsz:X.base.objs.size<=X.s₀.heap.objs.size
 noex:∀b o,X.base.get? b=some o->b∉X.ex
 exfs:∀b∈X.ex,b∉X.fs
 funs:X.s₀.heap.FunFrames X.base X.outer
 frf:∀b∈X.fs,X.H₀ b=none
structure Inv(X:Cx)(Ga:List (Addr×Obj))(σ:List (Option V))(H:Hp)(s:Shared):Prop where
 ok:X.Ok
 os:s.os=X.s₀.os
 bare:AllBare s.gens
 base:Un X.fs X.ex X.H₀ H X.s₀.heap s.heap
 loc:∃m,s.heap.Ns X.env.locals m/\∀(i:Nat)(x:Str)(v:V),X.N[i]?=some x->σ[i]?=some (some v)->Vis X.env.scope x->∃u,zm v u/\zns X.env s.heap m x u
 cell:∀x c,X.env.cells.lookup x=some c->∃v,s.heap.IsCell c v
 free:H X.env.locals=none
 freeC:∀x c,X.env.cells.lookup x=some c->H c=none
 pin:∀p∈X.pn++Ga,s.heap.get? p.1=some p.2/\H p.1=none/\p.1≠X.env.locals/\p.1∉X.fs/\∀v,p.2.data≠.cell v
 hok:HOk X.prog X.w H s.heap
 len:σ.length=X.N.length
 hdk:zeJ X.A H
section
variable {X:Cx}{Ga:List (Addr×Obj)}{σ:List (Option V)}{H H':Hp}{s:Shared}{h':Heap}
theorem Cx.Ok.nofr(ok:X.Ok){b:Addr}{o:Obj}(e:X.base.get? b=some o):b∉X.fs:=λhb=>by
 have:=(ok.funs.mem hb).1
 rw [e] at this;cases this
theorem Inv.bs(I:Inv X Ga σ H s):∀b o,X.base.get? b=some o->s.heap.get? b=some o/\H b=none:=λb o e =>
 ⟨I.base.keep b o (I.ok.bs b o e).1 (I.ok.bs b o e).2 (I.ok.nofr e) (I.ok.noex b o e),I.base.free b o (I.ok.bs b o e).1 (I.ok.bs b o e).2 (I.ok.noex b o e)⟩
theorem Inv.bk(I:Inv X Ga σ H s):∀b o,X.base.get? b=some o->s.heap.get? b=some o:=λb o e=>(I.bs b o e).1
theorem Inv.mod(I:Inv X Ga σ H s):Mod X.K X.mg X.base:=I.ok.mod
theorem Inv.kIn(I:Inv X Ga σ H s):X.K.In s.heap:=I.ok.mod.kin.keeps I.bk
theorem Inv.fr(I:Inv X Ga σ H s):∃m,Fr X.base X.env.locals s.heap m :=
 let ⟨m,hn,_⟩:=I.loc
 ⟨m,hn,I.bk,le_trans I.ok.bsz I.ok.above⟩
theorem Inv.lt(I:Inv X Ga σ H s):X.env.locals<s.heap.objs.size:=let ⟨_,hn,_⟩:=I.loc;hn.lt
theorem Inv.sz(I:Inv X Ga σ H s):X.s₀.heap.objs.size<=s.heap.objs.size:=le_trans I.ok.above (le_of_lt I.lt)
theorem Inv.nofs(I:Inv X Ga σ H s){a:Addr}(h:s.heap.objs.size<=a):a∉X.fs:=λhb=>by
 obtain ⟨_,o,ho,_⟩:=I.ok.funs.mem hb
 exact absurd (Nat.lt_of_lt_of_le (lt_size ho) (le_trans I.sz h)) (Nat.lt_irrefl _)
theorem Inv.cne(I:Inv X Ga σ H s):∀x c,X.env.cells.lookup x=some c->c≠X.env.locals:=λx c e z=>by
 obtain ⟨v,o,ho,hd⟩:=I.cell x c e
 obtain ⟨m,⟨o',es,ep,ho',hd',_⟩,_⟩:=I.loc
 rw [z,ho'] at ho;cases ho;rw [hd'] at hd;cases hd
theorem Inv.funs(I:Inv X Ga σ H s):s.heap.FunFrames X.base X.outer:=by
 have all:∀(l:List Env),(∀b∈frs l,b∈X.fs)->X.s₀.heap.FunFrames X.base l->s.heap.FunFrames X.base l:=by
  intro l
  induction l with
  | nil=>intro _ _;trivial
  | cons env r ih =>
   intro hs hl
   obtain ⟨hk,⟨L,o,hf,hn,ho,hd⟩,hr⟩:=hl
   have hL:L∈X.fs:=hs L (by unfold frs;rw [List.filterMap_cons,hf];exact mem_cons_self)
   obtain ⟨sl,e⟩:=I.base.slot L o ho (I.ok.frf L hL) hL λz=>I.ok.exfs L z hL
   exact ⟨hk,⟨L,_,hf,hn,e,hd⟩,ih (λb hb=>hs b (by unfold frs;rw [List.filterMap_cons,hf];exact mem_cons_of_mem _ hb)) hr⟩
 exact all X.outer (λ_ hb=>hb) I.ok.funs
theorem Inv.stack(I:Inv X Ga σ H s):s.heap.FunFrames X.base X.stack:=by
 rcases I.ok.stk with e|⟨e,hf⟩
 ·rw [e];exact I.funs
 ·rw [e]
  obtain ⟨m,hn,_⟩:=I.loc
  refine .cons (by rw [I.ok.kind];decide) hf hn ?_ I.funs
  exact Heap.get?_none_of_le (le_trans I.ok.bsz I.ok.above)
theorem Inv.stkSub(I:Inv X Ga σ H s):∀b∈frs X.stack,b∈X.env.locals::X.fs:=λb hb=>by
 rcases I.ok.stk with e|⟨e,hf⟩
 ·rw [e] at hb;exact mem_cons_of_mem _ hb
 ·rw [e] at hb
  unfold frs at hb
  rw [List.filterMap_cons,hf] at hb
  exact hb
theorem Inv.stkFree(I:Inv X Ga σ H s):∀b∈frs X.stack,H b=none:=λb hb=>by
 rcases mem_cons.mp (I.stkSub b hb) with e|hb
 ·rw [e];exact I.free
 ·obtain ⟨_,o,ho,_⟩:=I.ok.funs.mem hb
  exact I.base.free b o ho (I.ok.frf b hb) λz=>I.ok.exfs b z hb
theorem Inv.step{g':Array GenState}{t':Nat}{d':Drawn}{ch:List Addr}(I:Inv X Ga σ H s)
  (hch:∀b∈ch,(b∈X.ex\/X.s₀.heap.objs.size<=b)/\b≠X.env.locals/\(∀x c,X.env.cells.lookup x=some c->c≠b)/\∀p∈X.pn++Ga,p.1≠b)
  (keep:∀b o,b≠X.env.locals->b∉X.fs->b∉ch->s.heap.get? b=some o->H b=none->h'.get? b=some o)
  (slot:∀b o,b≠X.env.locals->b∈X.fs->b∉ch->s.heap.get? b=some o->H b=none->∃sl,h'.get? b=some { o with slots:=sl }) (free:∀b o,b∉ch->s.heap.get? b=some o->H b=none->H' b=none)
  (there:∀b o,b∉ch->s.heap.get? b=some o->∃o',h'.get? b=some o')
  (tups:∀b xs,H b=some (.tup xs)->H' b=some (.tup xs)) (frzs:∀b o u,H b=some (.frz o u)->H' b=some (.frz o u)) (tbls:∀b ps,H b=some (.tbl ps)->∃more,H' b=some (.tbl (ps++more)))
  (ns:∀m,s.heap.Ns X.env.locals m->h'.Ns X.env.locals m) (hok:HOk X.prog X.w H' h') (hg:AllBare g') :
  Inv X Ga σ H' { s with heap:=h',gens:=g',drawn:=d',toks:=t' }:=by
 have neL:∀b o,X.s₀.heap.get? b=some o->b≠X.env.locals:=λb o e=>ne_of_lt (Nat.lt_of_lt_of_le (lt_size e) I.ok.above)
 have neC:∀b o,X.s₀.heap.get? b=some o->b∉X.ex->b∉ch:=λb o e hx hb=>by
  rcases (hch b hb).1 with z|z
  ·exact hx z
  ·exact absurd (Nat.lt_of_lt_of_le (lt_size e) z) (Nat.lt_irrefl _)
 have cellK:∀x c,X.env.cells.lookup x=some c->∀v,s.heap.IsCell c v->h'.IsCell c v:=λx c e v ⟨o,ho,hd⟩=>by
  have nch:c∉ch:=λz=>(hch c z).2.2.1 x c e rfl
  by_cases hc:c∈X.fs
  ·obtain ⟨sl,q⟩:=slot c o (I.cne x c e) hc nch ho (I.freeC x c e)
   exact ⟨_,q,hd⟩
  ·exact ⟨o,keep c o (I.cne x c e) hc nch ho (I.freeC x c e),hd⟩
 refine ⟨I.ok,I.os,hg,⟨λb o e n hb hx=>?_,λb o e n hb hx=>?_,λb o e n hx=>?_,λb o e hx=>?_,λb xs e=>tups b xs (I.base.tups b xs e),λb o xs e=>frzs b o xs (I.base.frzs b o xs e),λb ps e=>?_⟩,?_,λx c e=>?_,?_,λx c e=>?_,λp hp=>?_,hok,I.len,I.hdk.same frzs⟩
 ·exact keep b o (neL b o e) hb (neC b o e hx) (I.base.keep b o e n hb hx) (I.base.free b o e n hx)
 ·obtain ⟨sl,e1⟩:=I.base.slot b o e n hb hx
  obtain ⟨sl',e2⟩:=slot b _ (neL b o e) hb (neC b o e hx) e1 (I.base.free b o e n hx)
  exact ⟨sl',e2⟩
 ·obtain ⟨o',e1⟩:=I.base.there b o e hx
  exact free b o' (neC b o e hx) e1 (I.base.free b o e n hx)
 ·obtain ⟨o',e1⟩:=I.base.there b o e hx
  exact there b o' (neC b o e hx) e1
 ·obtain ⟨m1,e1⟩:=I.base.tbls b ps e
  obtain ⟨m2,e2⟩:=tbls b _ e1
  exact ⟨m1++m2,by rw [e2,Array.append_assoc]⟩
 ·obtain ⟨m,hn,hl⟩:=I.loc
  refine ⟨m,ns m hn,λi x v e1 e2 e3=>?_⟩
  obtain ⟨u,r,l⟩:=hl i x v e1 e2 e3
  refine ⟨u,r,?_⟩
  rcases l with l|⟨k,c,e,z⟩
  ·exact .inl l
  ·exact .inr ⟨k,c,e,cellK x c e _ z⟩
 ·obtain ⟨v,z⟩:=I.cell x c e
  exact ⟨v,cellK x c e v z⟩
 ·obtain ⟨m,⟨o,_,_,ho,_⟩,_⟩:=I.loc
  exact free _ o (λz=>(hch _ z).2.1 rfl) ho I.free
 ·obtain ⟨v,o,ho,hd⟩:=I.cell x c e
  exact free c o (λz=>(hch c z).2.2.1 x c e rfl) ho (I.freeC x c e)
 ·obtain ⟨e,n,ne,nf,d⟩:=I.pin p hp
  have nch:p.1∉ch:=λz=>(hch p.1 z).2.2.2 p hp rfl
  exact ⟨keep p.1 p.2 ne nf nch e n,free p.1 p.2 nch e n,ne,nf,d⟩
theorem Inv.un{t':Nat}(I:Inv X Ga σ H s)(u:Un X.fs [] H H' s.heap h')(hok:HOk X.prog X.w H' h'):Inv X Ga σ H' { s with heap:=h',toks:=t' }:=by
 obtain ⟨m,⟨o,es,ep,ho,r⟩,_⟩:=id I.loc
 obtain ⟨sl,hL⟩:=u.any ho I.free (by simp)
 exact I.step (g':=s.gens) (d':=s.drawn) (ch:=[]) (λ_ z=>nomatch z) (λb o _ hb _ e n=>u.keep b o e n hb (by simp)) (λb o _ hb _ e n=>u.slot b o e n hb (by simp)) (λb o _ e n=>u.free b o e n (by simp)) (λb o _ e=>u.there b o e (by simp)) u.tups u.frzs u.tbls (λm' hm=>by
  obtain ⟨o',es',ep',ho',r'⟩:=hm
  rw [ho] at ho';cases ho'
  exact ⟨_,es',ep',hL,r'⟩) hok I.bare
theorem Inv.call{g':Array GenState}{t':Nat}{d':Drawn}{ch:List Addr}(I:Inv X Ga σ H s)(u:Un (frs X.stack) ch H H' s.heap h')(hok:HOk X.prog X.w H' h')(hg:AllBare g')
  (hch:∀b∈ch,(b∈X.ex\/X.s₀.heap.objs.size<=b)/\b≠X.env.locals/\(∀x c,X.env.cells.lookup x=some c->c≠b)/\∀p∈X.pn++Ga,p.1≠b) :
  Inv X Ga σ H' { s with heap:=h',gens:=g',drawn:=d',toks:=t' }:=by
 obtain ⟨m,⟨o,es,ep,ho,r⟩,_⟩:=id I.loc
 obtain ⟨sl,hL⟩:=u.any ho I.free λz=>(hch _ z).2.1 rfl
 exact I.step (ch:=ch) hch (λb o hL hb hc e n=>u.keep b o e n (λz=>(mem_cons.mp (I.stkSub b z)).elim hL hb) hc) (λb o _ _ hc e n=>u.any e n hc) (λb o hc e n=>u.free b o e n hc) (λb o hc e=>u.there b o e hc) u.tups u.frzs u.tbls (λm' hm=>by
  obtain ⟨o',es',ep',ho',r'⟩:=hm
  rw [ho] at ho';cases ho'
  exact ⟨_,es',ep',hL,r'⟩) hok hg
theorem Inv.turned{t':Nat}{it:Addr}(I:Inv X Ga σ H s)(k:∀b o,b≠it->s.heap.get? b=some o->h'.get? b=some o)(hn:H it=none)(hL:it≠X.env.locals)
  (h1:it∈X.ex\/X.s₀.heap.objs.size<=it) (h2:∀x c,X.env.cells.lookup x=some c->c≠it) (h3:∀p∈X.pn++Ga,p.1≠it):Inv X Ga σ H { s with heap:=h',toks:=t' }:=by
 have nit:∀b u,H b=some u->b≠it:=λb u e z=>by rw [z,hn] at e;cases e
 refine I.step (g':=s.gens) (d':=s.drawn) (ch:=[it]) (λb hb=>?_) (λb o _ _ hc e _=>k b o (λz=>hc (by simp [z])) e) (λb o _ _ hc e _=>⟨o.slots,k b o (λz=>hc (by simp [z])) e⟩) (λ_ _ _ _ n=>n)
  (λb o hc e=>⟨o,k b o (λz=>hc (by simp [z])) e⟩) (λ_ _ e=>e) (λ_ _ _ e=>e) (λb ps e=>⟨#[],by rw [e];simp⟩) (λm hm=>?_) (λb u e=>?_) I.bare
 ·have e:b=it:=by simpa using hb
  subst e
  exact ⟨h1,hL,h2,h3⟩
 ·obtain ⟨o,es,ep,ho,r⟩:=hm
  exact ⟨o,es,ep,k _ o (Ne.symm hL) ho,r⟩
 ·refine (I.hok b u e).stay (λc v hc q=>k c v ?_ q) (λ_ q=>q) λ_ _ q=>q
  rcases hc with z|z
  ·rw [z];exact nit b u e
  ·exact nit c _ z
theorem Inv.tok(I:Inv X Ga σ H s)(t:Nat):Inv X Ga σ H { s with toks:=t }:=I.un (h':=s.heap) (t':=t) Un.refl I.hok
theorem Inv.kept{t':Nat}(I:Inv X Ga σ H s)(k:∀b u,s.heap.get? b=some u->h'.get? b=some u):Inv X Ga σ H { s with heap:=h',toks:=t' }:=I.un (Un.kept k) (I.hok.kept k)
theorem Inv.laid{a:Addr}{o:HO}{t':Nat}(I:Inv X Ga σ H s)(k:∀b u,s.heap.get? b=some u->h'.get? b=some u)(hp:s.heap.objs.size<=a)(new:zW X.prog X.w (upd H a o) h' a o) :
  Inv X Ga σ (upd H a o) { s with heap:=h',toks:=t' }:=I.un (Un.laid k hp (I.hok.fresh hp)) (I.hok.laid k hp new)
theorem Inv.write{x e:Addr}{o:HO}{t':Nat}(I:Inv X Ga σ H s)(mu:Mut (H x))(he:e=x\/H e=some (.own x))(k:∀b u,b≠e->s.heap.get? b=some u->h'.get? b=some u)(heo:∃u,h'.get? e=some u)
  (new:zW X.prog X.w (upd H x o) h' x o):Inv X Ga σ (upd H x o) { s with heap:=h',toks:=t' }:=I.un (Un.write mu he k heo) (I.hok.write mu he k heo new)
theorem Inv.pins_of{pins':List (Addr×Obj)}(I:Inv X Ga σ H s)(h:∀p∈pins',s.heap.get? p.1=some p.2/\H p.1=none/\p.1≠X.env.locals/\p.1∉X.fs/\∀v,p.2.data≠.cell v):Inv X pins' σ H s :=
 ⟨I.ok,I.os,I.bare,I.base,I.loc,I.cell,I.free,I.freeC,λp hp=>(mem_append.mp hp).elim (λz=>I.pin p (mem_append_left _ z)) (h p),I.hok,I.len,I.hdk⟩
theorem zi2{N:List Str}(hN:N.Nodup){i j:Nat}{x:Str}(a:N[i]?=some x)(b:N[j]?=some x):i=j:=by
 obtain ⟨h1,e1⟩:=List.getElem?_eq_some_iff.mp a
 obtain ⟨h2,e2⟩:=List.getElem?_eq_some_iff.mp b
 exact (List.getElem_inj hN).mp (e1.trans e2.symm)
theorem zoi{M:Model}{A:Around}{E:Value->Shared->Prop}{i:Nat}{x:Str}{v:V}{u:Value}{Q:Unit->Shared->Prop}(I:Inv X Ga σ H s)(hN:X.N.Nodup)(hi:X.N[i]?=some x)(hx:Loc X.env.scope x)(r:zm v u)
  (h:∀s',Inv X Ga (σ.set i (some v)) H s'->(∃a,SameBut a s.heap s'.heap/\(a=X.env.locals\/X.env.cells.lookup x=some a))->Q () s') (hf:X.fn x=true\/X.env.scope.names.lookup x=some .local:=by first|exact .inl rfl|exact .inr rfl|assumption):wpAny M A (storeName X.env x u) Q E s:=by
 obtain ⟨m,hn,hl⟩:=id I.loc
 have hcls:(X.env.scope.kind == .class||(X.env.scope.kind == .module&&X.env.locals != X.env.globals))=false:=by rw [I.ok.kind];rfl
 have hiσ:i<σ.length:=by rw [I.len];exact (List.getElem?_eq_some_iff.mp hi).1
 have cne:=I.cne
 have tracked:∀{a:Addr}{h':Heap},(∃o,s.heap.get? a=some o/\H a=none)->SameBut a s.heap h'->HOk X.prog X.w H h':=λ{a h'} ha hs b ob e=>by
  obtain ⟨_,_,hfree⟩:=ha
  refine (I.hok b ob e).stay (λc w' hc q=>(hs.2 c ?_).trans q) (λ_ q=>q) λ_ _ q=>q
  rintro rfl
  rcases hc with rfl|hc
  ·rw [hfree] at e;cases e
  ·rw [hfree] at hc;cases hc
 rcases hx with hk|hk
 ·refine wpAny_storeName_local hk hn (λh' hn' hs=>?_) hcls
  obtain ⟨oL,_,_,hoL,_⟩:=id hn
  refine h _ ⟨I.ok,I.os,I.bare,⟨λb o e n hb hx=>?_,λb o e n hb hx=>?_,I.base.free,λb o e hx=>?_,I.base.tups,I.base.frzs,I.base.tbls⟩,⟨_,hn',λj y v' e1 e2 e3=>?_⟩,λy c e=>?_,I.free,I.freeC,λp hp=>?_,tracked ⟨oL,hoL,I.free⟩ hs,by simpa using I.len,I.hdk⟩ ⟨_,hs,.inl rfl⟩
  ·exact (hs.2 b (ne_of_lt (Nat.lt_of_lt_of_le (lt_size e) I.ok.above))).trans (I.base.keep b o e n hb hx)
  ·obtain ⟨sl,e1⟩:=I.base.slot b o e n hb hx
   exact ⟨sl,(hs.2 b (ne_of_lt (Nat.lt_of_lt_of_le (lt_size e) I.ok.above))).trans e1⟩
  ·obtain ⟨o',e1⟩:=I.base.there b o e hx
   exact ⟨o',(hs.2 b (ne_of_lt (Nat.lt_of_lt_of_le (lt_size e) I.ok.above))).trans e1⟩
  ·by_cases hj:j=i
   ·subst hj
    rw [hi] at e1;cases e1
    rw [List.getElem?_set_self hiσ] at e2
    cases e2
    exact ⟨u,r,.inl ⟨hk,by simp⟩⟩
   ·rw [getElem?_set_ne (Ne.symm hj)] at e2
    obtain ⟨u',r',q⟩:=hl j y v' e1 e2 e3
    refine ⟨u',r',?_⟩
    rcases q with ⟨k,e⟩|⟨k,c,e,z⟩
    ·refine .inl ⟨k,?_⟩
     have:y≠x:=λe=>hj (zi2 hN e1 (e ▸ hi))
     simp [this,e]
    ·exact .inr ⟨k,c,e,z.sameBut hs (cne y c e)⟩
  ·obtain ⟨w',z⟩:=I.cell y c e
   exact ⟨w',z.sameBut hs (cne y c e)⟩
  ·obtain ⟨e,n,ne,nf,d⟩:=I.pin p hp
   exact ⟨(hs.2 p.1 ne).trans e,n,ne,nf,d⟩
 ·have hfn:X.fn x=true:=by
   rcases hf with z|z
   ·exact z
   ·rw [z] at hk;cases hk
  obtain ⟨c,hc⟩:=I.ok.has x (.inl hk)
  obtain ⟨w',z⟩:=I.cell x c hc
  refine wpAny_storeName_cell I.ok.kind hk hc z (λh' hc' hs=>?_)
  obtain ⟨oc,hoc,hocd⟩:=id z
  refine h { s with heap:=h' } ⟨I.ok,I.os,I.bare,⟨λb o e n hb hx=>?_,λb o e n hb hx=>?_,I.base.free,λb o e hx=>?_,I.base.tups,I.base.frzs,I.base.tbls⟩,⟨m,hn.sameBut hs (Ne.symm (cne x c hc)),λj y v' e1 e2 e3=>?_⟩,λy c' e=>?_,I.free,I.freeC,λp hp=>?_,tracked ⟨oc,hoc,I.freeC x c hc⟩ hs,by simpa using I.len,I.hdk⟩ ⟨c,hs,.inr hc⟩
  ·exact (hs.2 b (ne_of_lt (Nat.lt_of_lt_of_le (lt_size e) (I.ok.cab x c hfn hc)))).trans (I.base.keep b o e n hb hx)
  ·obtain ⟨sl,e1⟩:=I.base.slot b o e n hb hx
   exact ⟨sl,(hs.2 b (ne_of_lt (Nat.lt_of_lt_of_le (lt_size e) (I.ok.cab x c hfn hc)))).trans e1⟩
  ·obtain ⟨o',e1⟩:=I.base.there b o e hx
   exact ⟨o',(hs.2 b (ne_of_lt (Nat.lt_of_lt_of_le (lt_size e) (I.ok.cab x c hfn hc)))).trans e1⟩
  ·by_cases hj:j=i
   ·subst hj
    rw [hi] at e1;cases e1
    rw [List.getElem?_set_self hiσ] at e2
    cases e2
    exact ⟨u,r,.inr ⟨.inl hk,c,hc,hc'⟩⟩
   ·rw [getElem?_set_ne (Ne.symm hj)] at e2
    obtain ⟨u',r',q⟩:=hl j y v' e1 e2 e3
    refine ⟨u',r',?_⟩
    rcases q with q|⟨k,c',e,z'⟩
    ·exact .inl q
    ·refine .inr ⟨k,c',e,z'.sameBut hs ?_⟩
     rintro rfl
     exact hj (zi2 hN e1 (I.ok.inj _ _ _ e hc ▸ hi))
  ·by_cases hcc:c'=c
   ·subst hcc;exact ⟨_,hc'⟩
   ·obtain ⟨w2,z2⟩:=I.cell y c' e
    exact ⟨w2,z2.sameBut hs hcc⟩
  ·obtain ⟨e,n,ne,nf,d⟩:=I.pin p hp
   refine ⟨(hs.2 p.1 ?_).trans e,n,ne,nf,d⟩
   intro q
   rw [q,hoc] at e
   have q':oc=p.2:=Option.some.inj e
   exact d w' (by rw [<- q'];exact hocd)
theorem ziE{M:Model}{A:Around}{E:Value->Shared->Prop}{i:Nat}{x:Str}{v:V}{u:Value}{Q:Unit->Shared->Prop}(I:Inv X Ga σ H s)(hN:X.N.Nodup)(hi:X.N[i]?=some x)(hx:Loc X.env.scope x)(r:zm v u)
  (h:∀s',Inv X Ga (σ.set i (some v)) H s'->Q () s') (hf:X.fn x=true\/X.env.scope.names.lookup x=some .local:=by first|exact .inl rfl|exact .inr rfl|assumption):wpAny M A (storeName X.env x u) Q E s :=
 zoi I hN hi hx r (λs' I' _=>h s' I') hf
theorem Inv.call'{s':Shared}{ch:List Addr}(I:Inv X Ga σ H s)(ho:s'.os=s.os)(u:Un (frs X.stack) ch H H' s.heap s'.heap)(hok:HOk X.prog X.w H' s'.heap)(hg:AllBare s'.gens)
  (hch:∀b∈ch,(b∈X.ex\/X.s₀.heap.objs.size<=b)/\b≠X.env.locals/\(∀x c,X.env.cells.lookup x=some c->c≠b)/\∀p∈X.pn++Ga,p.1≠b):Inv X Ga σ H' s':=by
 obtain ⟨h',g',d',t',o'⟩:=s'
 have e:o'=s.os:=ho
 subst e
 exact I.call (g':=g') (t':=t') (d':=d') u hok hg hch
end
abbrev XK:=Value->Option Addr->Hp->Prop
abbrev St:=List (Option V)
abbrev VK:=V->Hp->Prop
abbrev TE:=St->Hp->VK->Prop
abbrev TT:=St->Hp->(Bool->Hp->Prop)->Prop
abbrev TA:=St->Hp->(List V->Hp->Prop)->Prop
structure zap where
 nx:St->Hp->Prop
 rt:VK
 bk:St->Hp->Prop:=λ_ _=>False
 ct:St->Hp->Prop:=λ_ _=>False
abbrev TS:=zap->St->Hp->Prop
def EP(X:Cx)(Ga:List (Addr×Obj))(σ:St)(Q:VK)(u:Value)(s':Shared):Prop:=∃v H',Inv X Ga σ H' s'/\zm v u/\Q v H'
def TP(X:Cx)(Ga:List (Addr×Obj))(σ:St)(Q:Bool->Hp->Prop)(b:Bool)(s':Shared):Prop:=∃H',Inv X Ga σ H' s'/\Q b H'
def AP(X:Cx)(Ga:List (Addr×Obj))(σ:St)(Q:List V->Hp->Prop)(us:List Value)(s':Shared):Prop:=∃vs H',Inv X Ga σ H' s'/\zj vs us/\Q vs H'
def SP(X:Cx)(Ga:List (Addr×Obj))(D:zap)(f:Flow)(s':Shared):Prop :=
 match f with
 | .next=>∃σ' H',Inv X Ga σ' H' s'/\D.nx σ' H'
 | .brk=>∃σ' H',Inv X Ga σ' H' s'/\D.bk σ' H'
 | .cont=>∃σ' H',Inv X Ga σ' H' s'/\D.ct σ' H'
 | .ret u=>∃v σ' H',Inv X Ga σ' H' s'/\zm v u/\D.rt v H'
def PE(X:Cx)(e:Expr)(t:TE):Prop :=
 ∀(Ga:List (Addr×Obj))(s:Shared)(σ:St)(H:Hp)(Q:VK),Inv X Ga σ H s->t σ H Q->wpAny (model X.prog X.w) X.A (eval e X.env) (EP X Ga σ Q) X.xe s
def PT(X:Cx)(e:Expr)(t:TT):Prop :=
 ∀(Ga:List (Addr×Obj))(s:Shared)(σ:St)(H:Hp)(Q:Bool->Hp->Prop),Inv X Ga σ H s->t σ H Q->wpAny (model X.prog X.w) X.A (isTrue e X.env (eval e X.env)) (TP X Ga σ Q) X.xe s
def PW(X:Cx)(e:Expr)(t:TT):Prop :=
 ∀(whole:Sem Value)(Ga:List (Addr×Obj))(s:Shared)(σ:St)(H:Hp)(Q:Bool->Hp->Prop),Inv X Ga σ H s->t σ H Q->wpAny (model X.prog X.w) X.A (isTrue e X.env whole) (TP X Ga σ Q) X.xe s
theorem PW.pt{X:Cx}{e:Expr}{t:TT}(h:PW X e t):PT X e t:=h _
def PA(X:Cx)(es:List Expr)(t:TA):Prop :=
 ∀(pos:Pos)(Ga:List (Addr×Obj))(s:Shared)(σ:St)(H:Hp)(Q:List V->Hp->Prop),Inv X Ga σ H s->t σ H Q->wpAny (model X.prog X.w) X.A (spliced (backTo pos (starEach es X.env))) (AP X Ga σ Q) X.xe s
def PS(X:Cx)(st:Stmt)(t:TS):Prop :=
 ∀(Ga:List (Addr×Obj))(s:Shared)(σ:St)(H:Hp)(D:zap),Inv X Ga σ H s->t D σ H->wpAny (model X.prog X.w) X.A (exec st X.env) (SP X Ga D) X.xe s
def PSs(X:Cx)(st:List Stmt)(t:TS):Prop :=
 ∀(Ga:List (Addr×Obj))(s:Shared)(σ:St)(H:Hp)(D:zap),Inv X Ga σ H s->t D σ H->wpAny (model X.prog X.w) X.A (execs st X.env) (SP X Ga D) X.xe s
theorem thn{α:Type}{t:Sem α}{Q Q':α->Shared->Prop}{M:Model}{A:Around}{E:Value->Shared->Prop}{s:Shared}(h:wpAny M A t Q E s)(hQ:∀a s,Q a s->Q' a s):wpAny M A t Q' E s:=wpAny_mono h hQ λ_ _ x=>x
section
variable {X:Cx}
theorem bin{a b:Expr}{ta tb:TE}(ha:PE X a ta)(hb:PE X b tb){Ga:List (Addr×Obj)}{s:Shared}{σ:St}{H:Hp}{R:V->V->Hp->Prop}(I:Inv X Ga σ H s)(h:ta σ H λx H1=>tb σ H1 λy H2=>R x y H2)
  {α:Type}{Q:α->Shared->Prop}{f:Value->Value->Sem α}
  (hf:∀v u s2 x y H2,Inv X Ga σ H2 s2->zm x v->zm y u->R x y H2->wpAny (model X.prog X.w) X.A (f v u) Q X.xe s2) :
  wpAny (model X.prog X.w) X.A (eval a X.env) (λv s₁=>wpAny (model X.prog X.w) X.A (eval b X.env) (λu s₂=>wpAny (model X.prog X.w) X.A (f v u) Q X.xe s₂) X.xe s₁) X.xe s:=by
 refine thn (ha Ga s σ H _ I h) λv s1 ⟨x,H1,I1,r1,q1⟩=>?_
 refine thn (hb Ga s1 σ H1 _ I1 q1) λu s2 ⟨y,H2,I2,r2,q2⟩=>?_
 exact hf v u s2 x y H2 I2 r1 r2 q2
def zeP(i:Nat):TE:=λσ H Q=>∃v,σ[i]?=some (some v)/\Q v H
def tC(v:V):TE:=λ_ H Q=>Q v H
theorem zmX{i:Nat}{x:Str}{pos:Pos}(hN:X.N[i]?=some x)(hv:Vis X.env.scope x)(hd:(x==("__debug__":Str))=false:=by decide)(hcd:(x==("__classdict__":Str))=false:=by decide):PE X (.Name x pos) (zeP i):=by
 intro Ga s σ H Q I h
 obtain ⟨v,e,h⟩:=h
 obtain ⟨m,hn,hl⟩:=I.loc
 obtain ⟨u,r,l⟩:=hl i x v hN e hv
 have fin:EP X Ga σ Q u s:=⟨v,H,I,r,h⟩
 rcases l with ⟨hk,hm⟩|⟨hk,c,hc,hcell⟩
 ·exact wpAny_Name (wpAny_loadName_local I.ok.kind hk hn hm fin) hd
 ·rcases hk with hk|hk
  ·exact wpAny_Name (wpAny_loadName_cell I.ok.kind hk hc hcell fin) hd
  ·exact wpAny_Name (wpAny_loadName_free I.ok.kind hk hc hcell fin hcd) hd
theorem zil{i j pos}:PE X (.Constant (.int i) j pos) (tC (.int i)):=λ_ _ _ H _ I h=>wpAny_Constant_int ⟨.int i,H,I.tok _,⟨_,rfl⟩,h⟩
theorem zxm{b j pos}:PE X (.Constant (.bool b) j pos) (tC (.bl b)):=λ_ _ _ H _ I h=>Constant_bool ⟨.bl b,H,I,rfl,h⟩
theorem zxF{j pos}:PE X (.Constant .none j pos) (tC .non):=λ_ _ _ H _ I h=>Constant_none ⟨.non,H,I,rfl,h⟩
theorem zok{x j pos}:PE X (.Constant (.str x) j pos) (tC (.str x)):=λ_ _ _ H _ I h=>Calls.Constant_str ⟨.str x,H,I.tok _,⟨_,rfl⟩,h⟩
def Gl(X:Cx)(x:Str):Prop:=X.env.kindOf x=some .globalImplicit
theorem zcK{E:Value->Shared->Prop}{Ga:List (Addr×Obj)}{s:Shared}{σ:St}{H:Hp}{x:Str}{u:Value}{pos:Pos}{Q:Value->Shared->Prop}(I:Inv X Ga σ H s)(hg:Gl X x)(hm:X.mg x=some u)(h:Q u s)
  (hd:(x==("__debug__":Str))=false:=by decide):wpAny (model X.prog X.w) X.A (eval (.Name x pos) X.env) Q E s :=
 Calls.Name_function_global I.ok.kind hg (Calls.loadGlobal_global (by rw [I.ok.glob];exact I.mod.glob.keeps I.bk) hm h) hd
theorem zb7{E:Value->Shared->Prop}{Ga:List (Addr×Obj)}{s:Shared}{σ:St}{H:Hp}{x:Str}{u:Value}{pos:Pos}{Q:Value->Shared->Prop}(I:Inv X Ga σ H s)(hg:Gl X x)(hm:X.mg x=none)(hv:bootBuiltins x=some u)(h:Q u s)
  (hn:x≠"__name__":=by decide) (hd:(x==("__debug__":Str))=false:=by decide):wpAny (model X.prog X.w) X.A (eval (.Name x pos) X.env) Q E s:=by
 obtain ⟨mb,h1,h2⟩:=I.mod.blt
 exact Calls.Name_function_global I.ok.kind hg (Calls.loadGlobal_builtin (by rw [I.ok.glob];exact I.mod.glob.keeps I.bk) hm (by rw [I.ok.blt];exact h1.keeps I.bk) ((h2 x hn).trans hv) h) hd
theorem zqB{x:Str}{v:V}{u:Value}{pos:Pos}(hg:Gl X x)(hm:X.mg x=some u)(r:zm v u)(hd:(x==("__debug__":Str))=false:=by decide):PE X (.Name x pos) (tC v) :=
 λ_ _ _ H _ I h=>zcK I hg hm ⟨v,H,I,r,h⟩ hd
theorem zv8{x:Str}{v:V}{u:Value}{pos:Pos}(hg:Gl X x)(hm:X.mg x=none)(hv:bootBuiltins x=some u)(r:zm v u)(hn:x≠"__name__":=by decide)(hd:(x==("__debug__":Str))=false:=by decide):PE X (.Name x pos) (tC v) :=
 λ_ _ _ H _ I h=>zb7 I hg hm hv ⟨v,H,I,r,h⟩ hn hd
variable {a b:Expr}{ta tb:TE}{pos:Pos}
def tB(t:TE):TT:=λσ H Q=>t σ H λx H1=>∃c,x = .bl c/\Q c H1
variable {tA tB':TT}{zab:List Expr}
def zhI(t u:TT):TT:=λσ H Q=>t σ H λc H1=>if c=true then u σ H1 Q else Q false H1
def tOr(t u:TT):TT:=λσ H Q=>t σ H λc H1=>if c=true then Q true H1 else u σ H1 Q
def zik(t:TT):TT:=λσ H Q=>t σ H λc H1=>Q (!c) H1
theorem zvv(ha:PT X a tA):PW X (.BoolOp .And [a] pos) tA:=by
 intro wh Ga s σ H Q I h
 refine isTrue_and (thn (ha Ga s σ H Q I h) λc s1 e=>?_)
 cases c with
 | true=>exact isTrue_and_nil e
 | false=>exact e
theorem zwC(ha:PT X a tA):PW X (.BoolOp .Or [a] pos) tA:=by
 intro wh Ga s σ H Q I h
 refine isTrue_or (thn (ha Ga s σ H Q I h) λc s1 e=>?_)
 cases c with
 | false=>exact isTrue_or_nil e
 | true=>exact e
theorem zn1(ha:PT X a tA)(hb:PW X (.BoolOp .And (b::zab) pos) tB'):PW X (.BoolOp .And (a::b::zab) pos) (zhI tA tB'):=by
 intro wh Ga s σ H Q I h
 refine isTrue_and (thn (ha Ga s σ H _ I h) λc s1 ⟨H1,I1,q1⟩=>?_)
 cases c with
 | true=>exact hb wh Ga s1 σ H1 Q I1 q1
 | false=>exact ⟨H1,I1,q1⟩
theorem zwe(ha:PT X a tA)(hb:PW X (.BoolOp .Or (b::zab) pos) tB'):PW X (.BoolOp .Or (a::b::zab) pos) (tOr tA tB'):=by
 intro wh Ga s σ H Q I h
 refine isTrue_or (thn (ha Ga s σ H _ I h) λc s1 ⟨H1,I1,q1⟩=>?_)
 cases c with
 | true=>exact ⟨H1,I1,q1⟩
 | false=>exact hb wh Ga s1 σ H1 Q I1 q1
theorem znz(ha:PT X a tA):PT X (.UnaryOp .Not a pos) (zik tA):=by
 intro Ga s σ H Q I h
 exact isTrue_not (ha Ga s σ H (λc H1=>Q (!c) H1) I h)
def ziC(ta tb:TE):TE:=λσ H Q=>ta σ H λx H1=>∃c,x = .bl c/\if c=true then tb σ H1 Q else Q (.bl false) H1
def zrH(ta tb:TE):TE:=λσ H Q=>ta σ H λx H1=>∃c,x = .bl c/\if c=true then Q (.bl true) H1 else tb σ H1 Q
def zgZ(ta:TE):TE:=λσ H Q=>ta σ H λx H1=>∃c,x = .bl c/\Q (.bl (!c)) H1
theorem zo4{op}{t:TE}(h:PE X a t):PE X (.BoolOp op [a] pos) t:=λGa s σ H Q I hw=>BoolOp_one (h Ga s σ H Q I hw)
theorem zwu(ha:PE X a ta)(hb:PE X (.BoolOp .And (b::zab) pos) tb):PE X (.BoolOp .And (a::b::zab) pos) (ziC ta tb):=by
 intro Ga s σ H Q I h
 refine BoolOp_and (thn (ha Ga s σ H _ I h) λv s1 ⟨x,H1,I1,r1,q1⟩=>?_)
 obtain ⟨c,rfl,q1⟩:=q1
 cases r1
 refine wpAny_truthy_bool ?_
 cases c with
 | true=>exact hb Ga s1 σ H1 Q I1 q1
 | false=>exact ⟨.bl false,H1,I1,rfl,q1⟩
theorem zsA(ha:PE X a ta):PE X (.UnaryOp .Not a pos) (zgZ ta):=by
 intro Ga s σ H Q I h
 refine UnaryOp_ (thn (ha Ga s σ H _ I h) λv s1 ⟨x,H1,I1,r1,q1⟩=>?_)
 obtain ⟨c,rfl,q1⟩:=q1
 cases r1
 exact not_of (wpAny_truthy_bool ⟨.bl (!c),H1,I1,rfl,q1⟩)
def tIf(t:TT)(ta tb:TE):TE:=λσ H Q=>t σ H λc H1=>if c=true then ta σ H1 Q else tb σ H1 Q
theorem zoc{c:Expr}(hc:PT X c tA)(ha:PE X a ta)(hb:PE X b tb):PE X (.IfExp c a b pos) (tIf tA ta tb):=by
 intro Ga s σ H Q I h
 refine wpAny_IfExp (thn (hc Ga s σ H _ I h) λd s1 ⟨H1,I1,q1⟩=>?_)
 cases d with
 | true=>exact ha Ga s1 σ H1 Q I1 q1
 | false=>exact hb Ga s1 σ H1 Q I1 q1
end
def SqL(K:PySem.W.Frag)(H:Hp)(a:Addr)(xs:List V):Prop :=
 Rd H a (.lst xs) \/
  ∃(o:Obj)(its:Array Value)(n:Nat),K.lookup a=some o/\o.cls = .type "list"/\o.dict=none/\o.data = .seq its n/\its.size<=sizeLine/\zj xs its.toList
def SqT(K:PySem.W.Frag)(H:Hp)(a:Addr)(xs:List V):Prop :=
 Rd H a (.tup xs) \/
  ∃(o:Obj)(its:Array Value)(n:Nat),K.lookup a=some o/\o.cls = .type "tuple"/\o.data = .seq its n/\its.size<=sizeLine/\zj xs its.toList
def zsc:Value->Option V
 | .none=>some .non
 | .bool b=>some (.bl b)
 | .int i _=>some (.int i)
 | .str x _=>some (.str x)
 | .bytes b _=>some (.byt b)
 | .float b _=>some (.flt b)
 | .ref a=>some (.ref a)
 | .type n=>some (.ty n)
 | _=>none
theorem zm.abs{x:V}{u:Value}(r:zm x u):zsc u=some x:=by
 cases x with
 | non=>cases r;rfl
 | bl _=>cases r;rfl
 | int _=>obtain ⟨t,rfl⟩:=r;rfl
 | str _=>obtain ⟨t,rfl⟩:=r;rfl
 | byt _=>obtain ⟨t,rfl⟩:=r;rfl
 | flt _=>obtain ⟨t,rfl⟩:=r;rfl
 | ref _=>cases r;rfl
 | ty _=>cases r;rfl
theorem zm.inj{x y:V}{u:Value}(r:zm x u)(q:zm y u):x=y:=Option.some.inj (r.abs.symm.trans q.abs)
theorem zj.inj:∀{xs ys:List V}{us:List Value},zj xs us->zj ys us->xs=ys
 | _,_,_,.nil,.nil=>rfl
 | _,_,_,.cons r t,.cons r' t'=>by rw [r.inj r',zj.inj t t']
section
variable {X:Cx}{Ga:List (Addr×Obj)}{σ:St}{H:Hp}{s:Shared}{a:Addr}{xs ys:List V}
theorem SqL.of{K:PySem.W.Frag}(h:H a=some (.lst xs)):SqL K H a xs:=.inl (.inl h)
theorem SqT.of{K:PySem.W.Frag}(h:H a=some (.tup xs)):SqT K H a xs:=.inl (.inl h)
theorem Inv.list(I:Inv X Ga σ H s)(h:SqL X.K H a xs):∃its:List Value,zj xs its/\PlainL s.heap a its.toArray/\xs.length<=sizeLine:=by
 rcases h with h|⟨o,its,n,hk,hc,hd,hs,hz,r⟩
 ·obtain ⟨z,its,n,r,e⟩:=h.ok I.hok
  exact ⟨its,r,⟨_,n,e,rfl,rfl,rfl⟩,z⟩
 ·refine ⟨its.toList,r,⟨o,n,I.kIn a o hk,hc,hd,by simpa using hs⟩,?_⟩
  have e:=r.length
  simp only [length_toList] at e
  omega
theorem Inv.tuple(I:Inv X Ga σ H s)(h:SqT X.K H a xs):∃its:List Value,zj xs its/\IsTup s.heap a its.toArray/\xs.length<=sizeLine:=by
 rcases h with h|⟨o,its,n,hk,hc,hs,hz,r⟩
 ·obtain ⟨z,its,r,p⟩:=h.ok I.hok
  exact ⟨its,r,p,z⟩
 ·refine ⟨its.toList,r,⟨o,I.kIn a o hk,hc,n,by simpa using hs⟩,?_⟩
  have e:=r.length
  simp only [length_toList] at e
  omega
theorem Inv.list_inj(I:Inv X Ga σ H s)(h:SqL X.K H a xs)(h':SqL X.K H a ys):xs=ys:=by
 obtain ⟨its,r,⟨o,n,e,_,_,d⟩,_⟩:=I.list h
 obtain ⟨its',r',⟨o',n',e',_,_,d'⟩,_⟩:=I.list h'
 rw [e] at e';cases e'
 rw [d] at d'
 injection d' with d1 _
 have:its=its':=by simpa using congrArg Array.toList d1
 subst this
 exact r.inj r'
theorem Inv.tuple_inj(I:Inv X Ga σ H s)(h:SqT X.K H a xs)(h':SqT X.K H a ys):xs=ys:=by
 obtain ⟨its,r,⟨o,e,_,n,d⟩,_⟩:=I.tuple h
 obtain ⟨its',r',⟨o',e',_,n',d'⟩,_⟩:=I.tuple h'
 rw [e] at e';cases e'
 rw [d] at d'
 injection d' with d1 _
 have:its=its':=by simpa using congrArg Array.toList d1
 subst this
 exact r.inj r'
end
abbrev Cx.wish(X:Cx)(E:Value->Shared->Prop):Cx:={ X with xe:=E }
abbrev Cx.nox(X:Cx):Cx:=X.wish λ_ _=>False
theorem Cx.Ok.wish{X:Cx}(ok:X.Ok)(E:Value->Shared->Prop):(X.wish E).Ok :=
 ⟨ok.mod,ok.kind,ok.glob,ok.blt,ok.above,ok.inj,ok.has,ok.cab,ok.hd,ok.frames,ok.stk,ok.exf,ok.bs,ok.bsz,ok.noex,ok.exfs,ok.funs,ok.frf⟩
theorem Cx.Ok.unwish{X:Cx}{E:Value->Shared->Prop}(ok:(X.wish E).Ok):X.Ok :=
 ⟨ok.mod,ok.kind,ok.glob,ok.blt,ok.above,ok.inj,ok.has,ok.cab,ok.hd,ok.frames,ok.stk,ok.exf,ok.bs,ok.bsz,ok.noex,ok.exfs,ok.funs,ok.frf⟩
section
variable {X:Cx}{Ga:List (Addr×Obj)}{σ:St}{H:Hp}{s:Shared}{E:Value->Shared->Prop}
theorem Inv.wish(I:Inv X Ga σ H s)(E:Value->Shared->Prop):Inv (X.wish E) Ga σ H s:=⟨I.ok.wish E,I.os,I.bare,I.base,I.loc,I.cell,I.free,I.freeC,I.pin,I.hok,I.len,I.hdk⟩
theorem Inv.unwish(I:Inv (X.wish E) Ga σ H s):Inv X Ga σ H s:=⟨I.ok.unwish,I.os,I.bare,I.base,I.loc,I.cell,I.free,I.freeC,I.pin,I.hok,I.len,I.hdk⟩
theorem SP.unwish{D:zap}{f:Flow}{s':Shared}(h:SP (X.wish E) Ga D f s'):SP X Ga D f s':=by
 cases f with
 | next=>obtain ⟨σ',H',I,q⟩:=h;exact ⟨σ',H',I.unwish,q⟩
 | brk=>obtain ⟨σ',H',I,q⟩:=h;exact ⟨σ',H',I.unwish,q⟩
 | cont=>obtain ⟨σ',H',I,q⟩:=h;exact ⟨σ',H',I.unwish,q⟩
 | ret u=>obtain ⟨v,σ',H',I,r,q⟩:=h;exact ⟨v,σ',H',I.unwish,r,q⟩
theorem PSs.nox{st:List Stmt}{t:TS}(h:PSs X.nox st t):PSs X st t:=λGa s σ H D I hw =>
 wpAny_mono (h Ga s σ H D (I.wish _) hw) (λ_ _ q=>q.unwish) λ_ _ z=>False.elim z
end
section
variable {X:Cx}{st:Stmt}{zab:List Stmt}{t u:TS}{e:Expr}{te:TE}{pos:Pos}
def zgb:TS:=λD σ H=>D.nx σ H
def zg4(t u:TS):TS:=λD σ H=>t { D with nx:=u D } σ H
theorem zjt:PSs X [] zgb:=λ_ _ σ H _ I h=>wpAny_execs_nil ⟨σ,H,I,h⟩
theorem zlY(h1:PS X st t)(h2:PSs X zab u):PSs X (st::zab) (zg4 t u):=by
 intro Ga s σ H D I h
 refine wpAny_execs_cons (thn (h1 Ga s σ H { D with nx:=u D } I h) λf s1 q=>?_)
 cases f with
 | next =>
  obtain ⟨σ',H',I',q⟩:=q
  exact h2 Ga s1 σ' H' D I' q
 | ret v=>exact q
 | brk=>exact q
 | cont=>exact q
theorem zgS(h1:PS X st t):PSs X [st] t:=by
 intro Ga s σ H D I h
 refine wpAny_execs_cons (thn (h1 Ga s σ H D I h) λf s1 q=>?_)
 cases f with
 | next=>exact wpAny_execs_nil q
 | ret v=>exact q
 | brk=>exact q
 | cont=>exact q
def zsn:TS:=λD σ H=>D.bk σ H
def zss:TS:=λD σ H=>D.ct σ H
theorem Inv.quiet{Ga:List (Addr×Obj)}{σ:St}{H:Hp}{s:Shared}(I:Inv X Ga σ H s):interactive X.env=false:=by simp [interactive,I.ok.kind]
def zhw(te:TE):TS:=λD σ H=>te σ H λ_ H1=>D.nx σ H1
theorem ztA(he:PE X e te)(hs:swapsWith e none pos.line X.env=pure false:=by rfl):PS X (.Expr e pos) (zhw te):=by
 intro Ga s σ H D I h
 exact wpAny_Expr_any (thn (he Ga s σ H _ I h) λv s1 ⟨x,H1,I1,r1,q1⟩=>⟨σ,H1,I1,q1⟩) I.quiet hs
def zhH(te:TE):TS:=λD σ H=>te σ H D.rt
theorem zgd(he:PE X e te):PS X (.Return (some e) pos) (zhH te):=by
 intro Ga s σ H D I h
 exact wpAny_Return_some (thn (he Ga s σ H _ I h) λv s1 ⟨x,H1,I1,r1,q1⟩=>⟨x,σ,H1,I1,r1,q1⟩)
def zrq:TS:=λD _ H=>D.rt .non H
def zhj(c:TT)(t u:TS):TS:=λD σ H=>c σ H λb H1=>if b=true then t D σ H1 else u D σ H1
theorem zkg{c:Expr}{a b:List Stmt}{tc:TT}(hc:PT X c tc)(ha:PSs X a t)(hb:PSs X b u):PS X (.If c a b pos) (zhj tc t u):=by
 intro Ga s σ H D I h
 refine wpAny_If (thn (hc Ga s σ H _ I h) λd s1 ⟨H1,I1,q1⟩=>?_)
 cases d with
 | true=>exact ha Ga s1 σ H1 D I1 q1
 | false=>exact hb Ga s1 σ H1 D I1 q1
end
abbrev TG:=V->St->Hp->(St->Hp->Prop)->Prop
abbrev TGs:=List V->St->Hp->(St->Hp->Prop)->Prop
def PG(X:Cx)(target:Expr)(t:TG):Prop :=
 ∀(Ga:List (Addr×Obj))(s:Shared)(σ:St)(H:Hp)(v:V)(u:Value)(Q:St->Hp->Prop),Inv X Ga σ H s->zm v u->t v σ H Q ->
  wpAny (model X.prog X.w) X.A (assign target X.env u) (λ_ s'=>∃σ' H',Inv X Ga σ' H' s'/\Q σ' H') X.xe s
def PGs(X:Cx)(ts:List Expr)(t:TGs):Prop :=
 ∀(Ga:List (Addr×Obj))(s:Shared)(σ:St)(H:Hp)(vs:List V)(us:List Value)(Q:St->Hp->Prop),Inv X Ga σ H s->zj vs us->t vs σ H Q ->
  wpAny (model X.prog X.w) X.A (assignInOrder ((assignEach ts X.env).map (·.2)) us) (λ_ s'=>∃σ' H',Inv X Ga σ' H' s'/\Q σ' H') X.xe s
abbrev zf2:=V->V->V->Hp->(Hp->Prop)->Prop
def zfL(X:Cx)(t:zf2):Prop :=
 ∀(Ga:List (Addr×Obj))(s:Shared)(σ:St)(H:Hp)(o i v:V)(ov iv u:Value)(Q:Hp->Prop),Inv X Ga σ H s->zm o ov->zm i iv->zm v u->t o i v H Q ->
  wpAny (model X.prog X.w) X.A (setItem ov iv u) (λ_ s'=>∃H',Inv X Ga σ H' s'/\Q H') X.xe s
abbrev TIp:=V->V->Hp->VK->Prop
def PIp(X:Cx)(op:Operator)(t:TIp):Prop :=
 ∀(Ga:List (Addr×Obj))(s:Shared)(σ:St)(H:Hp)(x y:V)(v u:Value)(Q:VK),Inv X Ga σ H s->zm x v->zm y u->t x y H Q ->
  wpAny (model X.prog X.w) X.A (inplaceOp op v u) (EP X Ga σ Q) X.xe s
section
variable {X:Cx}{pos:Pos}
def zbR(i:Nat):TG:=λv σ H Q=>Q (σ.set i (some v)) H
theorem zjI{i:Nat}{x:Str}(hN:X.N.Nodup)(hi:X.N[i]?=some x)(hx:Loc X.env.scope x)(hf:X.fn x=true\/X.env.scope.names.lookup x=some .local:=by first|exact .inl rfl|exact .inr rfl|assumption):PG X (.Name x pos) (zbR i):=by
 intro Ga s σ H v u Q I r h
 exact wpAny_assign_Name (ziE I hN hi hx r (λs' I'=>⟨_,H,I',h⟩) hf)
def zhz:TGs:=λvs σ H Q=>vs=[]/\Q σ H
def zh7(t:TG)(u:TGs):TGs:=λvs σ H Q=>∃v r,vs=v::r/\t v σ H λσ' H'=>u r σ' H' Q
theorem ztX:PGs X [] zhz:=by
 intro Ga s σ H vs us Q I r h
 obtain ⟨e,h⟩:=h
 subst e
 cases r
 exact assignInOrder_nil ⟨σ,H,I,h⟩
theorem zxt{e:Expr}{es:List Expr}{t:TG}{u:TGs}(h1:PG X e t)(h2:PGs X es u)
  (hs:(assignEach (e::es) X.env).map (·.2)=assign e X.env::(assignEach es X.env).map (·.2):=by rfl):PGs X (e::es) (zh7 t u):=by
 intro Ga s σ H vs us Q I r h
 obtain ⟨v,vr,e1,h⟩:=h
 subst e1
 cases r with
 | cons r rr =>
  rw [hs]
  refine assignInOrder_cons (thn (h1 Ga s σ H _ _ _ I r h) λ_ s1 ⟨σ1,H1,I1,q1⟩=>?_)
  exact h2 Ga s1 σ1 H1 _ _ Q I1 rr q1
def zfo(K:PySem.W.Frag)(n:Nat)(t:TGs):TG:=λv σ H Q=>∃a xs,v = .ref a/\SqT K H a xs/\xs.length=n/\t xs σ H Q
def zhW(to ti:TE)(t:zf2):TG:=λv σ H Q=>to σ H λo H1=>ti σ H1 λi H2=>t o i v H2 λH3=>Q σ H3
theorem zqe{o i:Expr}{to ti:TE}{t:zf2}(ho:PE X o to)(hi:PE X i ti)(hs:zfL X t)
  (ha:∀v,assign (.Subscript o i pos) X.env v=(do
   let ov<-holding [v] (eval o X.env)
   let iv<-holding [v,ov] (eval i X.env)
   standAt pos
   holding [v,ov,iv] (setItem ov iv v)
   release [v,ov,iv] []):=by intro _;rfl):PG X (.Subscript o i pos) (zhW to ti t):=by
 intro Ga s σ H v u Q I r h
 rw [ha]
 refine wpAny_bind (wpAny_holding (thn (ho Ga s σ H _ I h) λov s1 ⟨x,H1,I1,r1,q1⟩=>?_))
 refine wpAny_bind (wpAny_holding (thn (hi Ga s1 σ H1 _ I1 q1) λiv s2 ⟨y,H2,I2,r2,q2⟩=>?_))
 refine wpAny_bind (wpAny_standAt (wpAny_bind (wpAny_holding (thn (hs Ga s2 σ H2 x y v ov iv u _ I2 r1 r2 r q2) λ_ s3 ⟨H3,I3,q3⟩=>?_))))
 exact wpAny_release ⟨σ,H3,I3,q3⟩
def zcX(te:TE)(g:TG):TS:=λD σ H=>te σ H λx H1=>g x σ H1 D.nx
theorem zrf{tg e:Expr}{te:TE}{g:TG}(he:PE X e te)(hg:PG X tg g)(hs:swapsWithSole [tg] e pos.line X.env=pure false:=by rfl)(hw:swappedStores [tg] e X.env=pure none:=by rfl)
  (h1:(assignEach [tg] X.env).map (·.2)=[assign tg X.env]:=by rfl):PS X (.Assign [tg] e pos) (zcX te g):=by
 intro Ga s σ H D I h
 refine wpAny_Assign_stores (thn (he Ga s σ H _ I h) λv s1 ⟨x,H1,I1,r1,q1⟩=>?_) hs hw
 rw [h1]
 exact thn (hg Ga s1 σ H1 x v _ I1 r1 q1) λ_ s2 q=>q
theorem zrE{i:Nat}{x:Str}{e:Expr}{te:TE}{pos':Pos}(hN:X.N.Nodup)(hi:X.N[i]?=some x)(hx:Loc X.env.scope x)(he:PE X e te)(hs:swapsWith e (some (.Name x pos')) pos.line X.env=pure false:=by rfl)(hf:X.fn x=true\/X.env.scope.names.lookup x=some .local:=by first|exact .inl rfl|exact .inr rfl|assumption) :
  PS X (.Assign [.Name x pos'] e pos) (zcX te (zbR i)):=by
 intro Ga s σ H D I h
 refine wpAny_Assign_Name (thn (he Ga s σ H _ I h) λv s1 ⟨y,H1,I1,r1,q1⟩=>?_) hs
 exact ziE I1 hN hi hx r1 (λs2 I2=>⟨_,H1,I2,q1⟩) hf
def zhm(i:Nat)(te:TE)(ti:TIp):TS:=λD σ H=>∃x,σ[i]?=some (some x)/\te σ H λy H1=>ti x y H1 λz H2=>D.nx (σ.set i (some z)) H2
theorem znn{i:Nat}{x:Str}{e:Expr}{te:TE}{op:Operator}{ti:TIp}{pos':Pos}(hN:X.N.Nodup)(hi:X.N[i]?=some x)(hx:Loc X.env.scope x)(he:PE X e te)(ho:PIp X op ti)(hf:X.fn x=true\/X.env.scope.names.lookup x=some .local:=by first|exact .inl rfl|exact .inr rfl|assumption) :
  PS X (.AugAssign (.Name x pos') op e pos) (zhm i te ti):=by
 intro Ga s σ H D I h
 obtain ⟨v,e1,h⟩:=h
 obtain ⟨m,hn,hl⟩:=I.loc
 have vis:Vis X.env.scope x:=by rcases hx with k|k;exact .inl k;exact .inr (.inl k)
 obtain ⟨u,r,l⟩:=hl i x v hi e1 vis
 refine wpAny_AugAssign_Name ?_
 have go:wpAny (model X.prog X.w) X.A (eval e X.env) (λw s₂=>wpAny (model X.prog X.w) X.A (inplaceOp op u w) (λr s₃=>wpAny (model X.prog X.w) X.A (storeName X.env x r) (λ_=>SP X Ga D .next) X.xe s₃) X.xe s₂) X.xe s:=by
  refine thn (he Ga s σ H _ I h) λw s1 ⟨y,H1,I1,r1,q1⟩=>?_
  refine thn (ho Ga s1 σ H1 v y u w _ I1 r r1 q1) λz s2 ⟨zv,H2,I2,r2,q2⟩=>?_
  exact ziE I2 hN hi hx r2 (λs3 I3=>⟨_,H2,I3,q2⟩) hf
 rcases l with ⟨hk,hm⟩|⟨hk,c,hc,hcell⟩
 ·exact wpAny_loadName_local I.ok.kind hk hn hm go
 ·rcases hk with hk|hk
  ·exact wpAny_loadName_cell I.ok.kind hk hc hcell go
  ·rcases hx with k|k
   ·have:X.env.scope.names.lookup x=some .free:=hk
    rw [k] at this;cases this
   ·have:X.env.scope.names.lookup x=some .free:=hk
    rw [k] at this;cases this
def ipI(f:Int->Int->Int):TIp:=λx y H Q=>∃i j,x = .int i/\y = .int j/\Q (.int (f i j)) H
theorem zrS:PIp X .Add (ipI λi j=>i+j):=by
 intro Ga s σ H x y v u Q I r1 r2 h
 obtain ⟨i,j,e1,e2,q⟩:=h
 subst e1;subst e2
 obtain ⟨t,rfl⟩:=r1
 obtain ⟨t',rfl⟩:=r2
 exact iadd_int ⟨.int _,H,I.tok _,⟨_,rfl⟩,q⟩
end
structure It where
 go:Nat->Hp->Prop
 yld:Nat->Hp->V->Hp->Prop
 stop:Nat->Hp->Prop
def zaL(X:Cx)(Ga:List (Addr×Obj))(H:Hp)(b:Addr):Prop :=
 H b=none/\b≠X.env.locals/\b∉X.fs/\(b∈X.ex\/X.s₀.heap.objs.size<=b)/\(∀x c,X.env.cells.lookup x=some c->c≠b)/\∀p∈X.pn++Ga,p.1≠b
theorem Inv.fpOk{X:Cx}{Ga:List (Addr×Obj)}{σ:St}{H H':Hp}{s:Shared}{b:Addr}(I:Inv X Ga σ H s)(hb:s.heap.objs.size<=b)(hn:H' b=none):zaL X Ga H' b:=by
 refine ⟨hn,ne_of_gt (Nat.lt_of_lt_of_le I.lt hb),I.nofs hb,.inr (le_trans I.sz hb),λx c e z=>?_,λp hp z=>?_⟩
 ·obtain ⟨v,q⟩:=I.cell x c e
  exact absurd (Nat.lt_of_lt_of_le q.lt (by rw [z];exact hb)) (Nat.lt_irrefl _)
 ·exact absurd (Nat.lt_of_lt_of_le (lt_size (I.pin p hp).1) (by rw [z];exact hb)) (Nat.lt_irrefl _)
structure zc4(c:Bool)(P:Program)(w:World)(K:PySem.W.Frag)(tg:Expr)(J:It)(fp:List Addr)(it:Addr)(tn:Nat->Heap->Prop):Prop where
 mem:it∈fp
 obj:∀i h,tn i h->∀b∈fp,∃o,h.get? b=some o/\∀v,o.data≠.cell v
 keep:∀i h h',tn i h->(∀b∈fp,∀o,h.get? b=some o->h'.get? b=some o)->tn i h'
 item:∀(X:Cx),X.prog=P->X.w=w->X.K=K->(c=true->X.calm=true)->∀(i:Nat)(Ga:List (Addr×Obj))(s:Shared)(σ:St)(H:Hp)(E:Value->Shared->Prop),Inv X Ga σ H s->(∀b∈fp,zaL X Ga H b)->tn i s.heap->J.go i H ->
  wpAny (model P w) X.A (pyNext (.ref it)) (λr s1=>∃u,r=some u /\
   wpAny (model P w) X.A (letOwnedTupleGo tg (.ref it) u) (λ_ s2=>∃x H',Inv X Ga σ H' s2/\zm x u/\J.yld i H x H'/\tn (i+1) s2.heap/\∀b∈fp,H' b=none) E s1) E s
 done:∀(X:Cx),X.prog=P->X.w=w->X.K=K->(c=true->X.calm=true)->∀(i:Nat)(Ga:List (Addr×Obj))(s:Shared)(σ:St)(H:Hp)(E:Value->Shared->Prop),Inv X Ga σ H s->(∀b∈fp,zaL X Ga H b)->tn i s.heap->J.stop i H ->
  wpAny (model P w) X.A (pyNext (.ref it)) (λr s1=>r=none/\Inv X Ga σ H s1) E s
 self:∀(A:Around)(i:Nat)(s:Shared)(Q:Value->Shared->Prop)(E:Value->Shared->Prop),tn i s.heap->Q (.ref it) s->wpAny (model P w) A (pyIter (.ref it)) Q E s
abbrev TI:=St->Hp->(It->Hp->Prop)->Prop
def PIE(c:Bool)(X:Cx)(Ga:List (Addr×Obj))(σ:St)(tg:Expr)(R:It->Hp->Prop)(itv:Value)(s2:Shared):Prop :=
 ∃(it:Addr)(fp:List Addr)(tn:Nat->Heap->Prop)(J:It)(H':Hp),itv = .ref it/\Inv X Ga σ H' s2/\zc4 c X.prog X.w X.K tg J fp it tn/\tn 0 s2.heap/\(∀b∈fp,zaL X Ga H' b)/\R J H'
def PIc(c:Bool)(X:Cx)(tg iter:Expr)(wi:TI):Prop :=
 ∀(Ga:List (Addr×Obj))(s:Shared)(σ:St)(H:Hp)(R:It->Hp->Prop),Inv X Ga σ H s->wi σ H R ->
  wpAny (model X.prog X.w) X.A (eval iter X.env) (λv s1=>wpAny (model X.prog X.w) X.A (pyIter v) (PIE c X Ga σ tg R) X.xe s1) X.xe s
abbrev PI:=PIc true
theorem zf1{M:Model}{A:Around}{E:Value->Shared->Prop}{s:Shared}{tg:Expr}{it:Addr}{u:Value}{o:Obj}{n:String}{vs:Array Value}{Q:Unit->Shared->Prop}(ho:s.heap.get? it=some o)(hc:o.cls = .type n)(hd:o.data = .fields vs)
  (hn:["enumerate","zip","dict_itemiterator","dict_reverseitemiterator","odict_iterator","itertools.zip_longest","itertools.pairwise"].contains n=false) (hQ:Q () s):wpAny M A (letOwnedTupleGo tg (.ref it) u) Q E s:=by
 unfold letOwnedTupleGo
 cases tg<;>first
  | exact wpAny_pure hQ
  | (cases u<;>first
    | exact wpAny_pure hQ
    | (refine wpAny_bind (wpAny_load ho ?_)
       rw [hc, hd]
       show wpAny M A (if (["enumerate", "zip", "dict_itemiterator", "dict_reverseitemiterator", "odict_iterator", "itertools.zip_longest", "itertools.pairwise"].contains n && vs[0]? == some (rawInt _)) = true then _ else _) Q E s
       rw [if_neg (by intro h; rw [hn, Bool.false_and] at h; cases h)]
       exact wpAny_pure hQ))
def Itl(K:PySem.W.Frag)(a:Addr):It :=
 ⟨λi H=>∃xs x,SqL K H a xs/\xs[i]?=some x,λi H x H'=>H'=H/\∀xs,SqL K H a xs->xs[i]?=some x,λi H=>∃xs,SqL K H a xs/\xs.length<=i⟩
def Itt(K:PySem.W.Frag)(a:Addr):It :=
 ⟨λi H=>∃xs x,SqT K H a xs/\xs[i]?=some x,λi H x H'=>H'=H/\∀xs,SqT K H a xs->xs[i]?=some x,λi H=>∃xs,SqT K H a xs/\xs.length<=i⟩
def Itr(lo:Int)(n:Nat):It:=⟨λi _=>i<n,λi H x H'=>H'=H/\x = .int (lo+i),λi _=>n<=i⟩
theorem zkp{P:Program}{w:World}{K:PySem.W.Frag}{tg:Expr}(a it:Addr):zc4 true P w K tg (Itl K a) [it] it (λi h=>h.IsListIter it a i) where
 mem:=by simp
 obj:=λi h st b hb=>by
  have e:b=it:=by simpa using hb
  subst e
  obtain ⟨o,e,c,d⟩:=st
  exact ⟨o,e,λv z=>by rw [d] at z;cases z⟩
 keep:=λi h h' st k=>st.at λo e=>k it (by simp) o e
 item:=by
  intro X hP hw hK hc i Ga s σ H E I hf st hg
  subst hP hw hK
  obtain ⟨xs,x,hq,hx⟩:=hg
  obtain ⟨its,rv,p,hz⟩:=I.list hq
  obtain ⟨u,hu,ru⟩:=rv.get hx
  obtain ⟨f0,f1,f2,f3,f4,f5⟩:=hf it (by simp)
  refine wpAny_pyNext_list_item st p.isList (x:=u) (by simpa using hu) λh' st' sb=>?_
  have I1:Inv X Ga σ H { s with heap:=h' }:=I.turned (t':=s.toks) (λb o hb e=>(sb.2 b hb).trans e) f0 f1 f3 f4 f5
  obtain ⟨o,e,c,d⟩:=id st'
  exact ⟨u,rfl,zf1 (s:={ s with heap:=h' }) e c d (by decide) ⟨x,H,I1,ru,⟨rfl,λys hy=>by rw [I.list_inj hy hq];exact hx⟩,st',λb hb=>(hf b hb).1⟩⟩
 done:=by
  intro X hP hw hK hc i Ga s σ H E I hf st hg
  subst hP hw hK
  obtain ⟨xs,hq,hx⟩:=hg
  obtain ⟨its,rv,p,hz⟩:=I.list hq
  obtain ⟨f0,f1,f2,f3,f4,f5⟩:=hf it (by simp)
  have hl:=rv.length
  exact wpAny_pyNext_list_end (I.ok.hd (hc rfl)) st p.isList (by simp;omega) λh' eb=>⟨rfl,I.turned (t':=s.toks) (λb o hb e=>eb b o hb e) f0 f1 f3 f4 f5⟩
 self:=λ_ _ _ _ _ st h=>wpAny_pyIter_listiter st h
theorem znG{P:Program}{w:World}{K:PySem.W.Frag}{tg:Expr}(a it:Addr):zc4 true P w K tg (Itt K a) [it] it (λi h=>h.IsTupleIter it a i) where
 mem:=by simp
 obj:=λi h st b hb=>by
  have e:b=it:=by simpa using hb
  subst e
  obtain ⟨o,e,c,d⟩:=st
  exact ⟨o,e,λv z=>by rw [d] at z;cases z⟩
 keep:=λi h h' st k=>st.at λo e=>k it (by simp) o e
 item:=by
  intro X hP hw hK hc i Ga s σ H E I hf st hg
  subst hP hw hK
  obtain ⟨xs,x,hq,hx⟩:=hg
  obtain ⟨its,rv,p,hz⟩:=I.tuple hq
  obtain ⟨u,hu,ru⟩:=rv.get hx
  obtain ⟨f0,f1,f2,f3,f4,f5⟩:=hf it (by simp)
  refine wpAny_pyNext_tuple_item st (show s.heap.IsTuple a its.toArray from p) (x:=u) (by simpa using hu) λh' st' sb=>?_
  have I1:Inv X Ga σ H { s with heap:=h' }:=I.turned (t':=s.toks) (λb o hb e=>(sb.2 b hb).trans e) f0 f1 f3 f4 f5
  obtain ⟨o,e,c,d⟩:=id st'
  exact ⟨u,rfl,zf1 (s:={ s with heap:=h' }) e c d (by decide) ⟨x,H,I1,ru,⟨rfl,λys hy=>by rw [I.tuple_inj hy hq];exact hx⟩,st',λb hb=>(hf b hb).1⟩⟩
 done:=by
  intro X hP hw hK hc i Ga s σ H E I hf st hg
  subst hP hw hK
  obtain ⟨xs,hq,hx⟩:=hg
  obtain ⟨its,rv,p,hz⟩:=I.tuple hq
  obtain ⟨f0,f1,f2,f3,f4,f5⟩:=hf it (by simp)
  have hl:=rv.length
  exact wpAny_pyNext_tuple_end (I.ok.hd (hc rfl)) st (show s.heap.IsTuple a its.toArray from p) (by simp;omega) λh' eb=>⟨rfl,I.turned (t':=s.toks) (λb o hb e=>eb b o hb e) f0 f1 f3 f4 f5⟩
 self:=λ_ _ _ _ _ st h=>wpAny_pyIter_tupleiter st h
theorem zwj{P:Program}{w:World}{K:PySem.W.Frag}{tg:Expr}(it:Addr)(lo:Int)(n:Nat):zc4 true P w K tg (Itr lo n) [it] it (λi h=>IsRangeIter h it (lo+(i:Nat)*1) ((n:Int)-(i:Nat)) 1) where
 mem:=by simp
 obj:=λi h st b hb=>by
  have e:b=it:=by simpa using hb
  subst e
  exact ⟨_,st,λv z=>by
   have z':Data.fields _=Data.cell v:=z
   cases z'⟩
 keep:=λi h h' st k=>k it (by simp) _ st
 item:=by
  intro X hP hw hK hc i Ga s σ H E I hf st hg
  subst hP hw hK
  obtain ⟨f0,f1,f2,f3,f4,f5⟩:=hf it (by simp)
  have W:=Walks.range (prog:=X.prog) (w:=X.w) (I.ok.hd (hc rfl)) it lo 1 n
  refine W.item i s _ _ hg st λv h' tk hv st' kk=>?_
  obtain ⟨t,rfl⟩:=hv
  have I1:Inv X Ga σ H { s with heap:=h',toks:=tk }:=I.turned (λb o hb e=>kk b o (by simpa using hb) e) f0 f1 f3 f4 f5
  refine ⟨_,rfl,zf1 (s:={ s with heap:=h',toks:=tk }) (n:="range_iterator") st' rfl rfl (by decide) ⟨.int (lo+i),H,I1,⟨t,?_⟩,⟨rfl,rfl⟩,st',λb hb=>(hf b hb).1⟩⟩
  rw [Int.mul_one]
 done:=by
  intro X hP hw hK hc i Ga s σ H E I hf st hg
  subst hP hw hK
  obtain ⟨f0,f1,f2,f3,f4,f5⟩:=hf it (by simp)
  exact wpAny_pyNext_range_end (I.ok.hd (hc rfl)) st (by have:n<=i:=hg;omega) λh' eb=>⟨rfl,I.turned (t':=s.toks) (λb o hb e=>eb b o hb e) f0 f1 f3 f4 f5⟩
 self:=λ_ _ _ _ _ st h=>wpAny_pyIter_rangeiter st h
section
variable {X:Cx}{tg:Expr}
def zh1(K:PySem.W.Frag)(tl:TE):TI:=λσ H R=>tl σ H λx H1=>∃a,x = .ref a/\(∃xs,SqL K H1 a xs)/\R (Itl K a) H1
def zmG(K:PySem.W.Frag)(tl:TE):TI:=λσ H R=>tl σ H λx H1=>∃a,x = .ref a/\(∃xs,SqT K H1 a xs)/\R (Itt K a) H1
theorem zwE{l:Expr}{tl:TE}(hl:PE X l tl):PI X tg l (zh1 X.K tl):=by
 intro Ga s σ H R I h
 refine thn (hl Ga s σ H _ I h) λv s1 ⟨x,H1,I1,r1,q1⟩=>?_
 obtain ⟨a,e,⟨xs,hq⟩,q⟩:=q1
 subst e
 cases r1
 obtain ⟨its,rv,p,hz⟩:=I1.list hq
 refine wpAny_pyIter_list p.isList ?_
 refine ⟨s1.heap.objs.size,[s1.heap.objs.size],_,_,H1,rfl,I1.kept (t':=s1.toks) λb o e=>get?_push_of_some _ e,zkp a _,⟨_,get?_push_size _ rfl,rfl,rfl⟩,λb hb=>?_,q⟩
 have e:b=s1.heap.objs.size:=by simpa using hb
 subst e
 exact I1.fpOk (le_refl _) (I1.hok.fresh (le_refl _))
theorem ztU{Ga:List (Addr×Obj)}{σ:St}{H:Hp}{s:Shared}{R:It->Hp->Prop}{E:Value->Shared->Prop}{lo hi:Int}{t u v:Tok}{tk:Nat}(I:Inv X Ga σ H s)(h1 : -(2 ^ 62)<=lo)(h2:lo<2 ^ 62)(h3 : -(2 ^ 62)<=hi)(h4:hi<2 ^ 62)
  (q:R (Itr lo (hi-lo).toNat) H):wpAny (model X.prog X.w) X.A (pyIter (.ref s.heap.objs.size)) (PIE true X Ga σ tg R) E { s with heap:=s.heap.push { cls:=.type "range",data:=.fields #[.int lo t,.int hi u,.int 1 v] },toks:=tk }:=by
 refine wpAny_pyIter_range (IsRange.new ..) (small_one h1 h2 h3 h4) ?_
 have I1:Inv X Ga σ H { s with heap:=s.heap.push { cls:=.type "range",data:=.fields #[.int lo t,.int hi u,.int 1 v] },toks:=tk }:=I.kept λb o e=>get?_push_of_some _ e
 refine ⟨(s.heap.push { cls:=.type "range",data:=.fields #[.int lo t,.int hi u,.int 1 v] }).objs.size,[(s.heap.push { cls:=.type "range",data:=.fields #[.int lo t,.int hi u,.int 1 v] }).objs.size],_,_,H,rfl,
  I1.kept (t':=tk) λb o e=>get?_push_of_some _ e,zwj _ lo (hi-lo).toNat,?_,λb hb=>?_,q⟩
 ·have e1:lo+((0:Nat):Int)*1=lo:=by simp
  have e2:(((hi-lo).toNat:Nat):Int)-((0:Nat):Int)=Builtin.Range.rangeSize lo hi 1:=by rw [rangeSize_one];split<;>omega
  show IsRangeIter _ _ (lo+((0:Nat):Int)*1) ((((hi-lo).toNat:Nat):Int)-((0:Nat):Int)) 1
  rw [e1,e2]
  exact get?_push_size _ rfl
 ·have e:b=(s.heap.push { cls:=.type "range",data:=.fields #[.int lo t,.int hi u,.int 1 v] }).objs.size:=by simpa using hb
  subst e
  exact I1.fpOk (le_refl _) (I1.hok.fresh (le_refl _))
def zf6(ta:TA):TI:=λσ H R=>ta σ H λvs H1=>∃j:Int,vs=[.int j]/\-(2 ^ 62)<=j/\j<2 ^ 62/\R (Itr 0 j.toNat) H1
def znM(ta:TA):TI:=λσ H R=>ta σ H λvs H1=>∃i j:Int,vs=[.int i,.int j]/\(-(2 ^ 62)<=i/\i<2 ^ 62/\-(2 ^ 62)<=j/\j<2 ^ 62)/\R (Itr i (j-i).toNat) H1
theorem zo6{a:Expr}{ta:TA}{p pos:Pos}(hg:Gl X "range")(hm:X.mg "range"=none)(ha:PA X [a] ta)(hs:starEach [a] X.env=[(false,eval a X.env)]:=by rfl):PI X tg (.Call (.Name "range" p) [a] [] pos) (zf6 ta):=by
 intro Ga s σ H R I h
 refine Call_ (zb7 I hg hm boot_range (PyProof.Rows.callWith_type1 (thn (ha pos Ga s σ H _ I h) λus s1 ⟨vs,H1,I1,r1,q1⟩=>?_) hs rfl))
 obtain ⟨j,e,q1,q2,q⟩:=q1
 subst e
 cases r1 with
 | cons r rr =>
  cases rr
  obtain ⟨t,rfl⟩:=r
  exact call_range_1 (ztU I1 (by omega) (by omega) q1 q2 (by simpa using q))
def zhh(wi:TI)(g:TG)(tb:TS):TS:=λD σ H=>wi σ H λJ H1=>∃W:Nat->Nat->St->Hp->Prop,(∃m,W 0 m σ H1)/\∀i m σ H,W i m σ H ->
 (J.stop i H/\D.nx σ H)\/(J.go i H/\∃N:St->Hp->Prop,(∀σ' H',N σ' H'->∃m',m'<m/\W (i+1) m' σ' H')/\∀x H',J.yld i H x H'->g x σ H' λσ2 H2=>tb { D with nx:=N,ct:=N,bk:=D.nx } σ2 H2)
def zcJ(fp:List Addr)(h:Heap):List (Addr×Obj):=fp.filterMap λb=>(h.get? b).map λo=>(b,o)
theorem zeN{fp:List Addr}{h:Heap}{b:Addr}{o:Obj}(hb:b∈fp)(e:h.get? b=some o):(b,o)∈zcJ fp h:=mem_filterMap.mpr ⟨b,hb,by rw [e];rfl⟩
theorem zm4{fp:List Addr}{h:Heap}{p:Addr×Obj}(hp:p∈zcJ fp h):p.1∈fp/\h.get? p.1=some p.2:=by
 obtain ⟨b,hb,e⟩:=mem_filterMap.mp hp
 cases q:h.get? b with
 | none=>rw [q] at e;cases e
 | some o =>
  rw [q] at e
  have e':(b,o)=p:=Option.some.inj e
  subst e'
  exact ⟨hb,q⟩
theorem Inv.pinned{Ga:List (Addr×Obj)}{σ:St}{H:Hp}{s:Shared}{fp:List Addr}(I:Inv X Ga σ H s)(hf:∀b∈fp,zaL X Ga H b)(ho:∀b∈fp,∃o,s.heap.get? b=some o/\∀v,o.data≠.cell v):Inv X (Ga++zcJ fp s.heap) σ H s :=
 I.pins_of λp hp=>(mem_append.mp hp).elim (λz=>I.pin p (mem_append_right _ z)) λz=>by
  obtain ⟨hb,e⟩:=zm4 z
  obtain ⟨f0,f1,f2,_⟩:=hf p.1 hb
  obtain ⟨o,e',d⟩:=ho p.1 hb
  rw [e] at e';cases e'
  exact ⟨e,f0,f1,f2,d⟩
theorem Inv.unpinned{Ga pl:List (Addr×Obj)}{σ:St}{H:Hp}{s:Shared}(I:Inv X (Ga++pl) σ H s):Inv X Ga σ H s:=I.pins_of λp hp=>I.pin p (mem_append_right _ (mem_append_left _ hp))
theorem zwv{c:Bool}{iter:Expr}{body:List Stmt}{wi:TI}{g:TG}{tb:TS}{pos:Pos}(hp:PassesOwn (model X.prog X.w) X.A X.env X.xe)(hc:c=true->X.calm=true)(hi:PIc c X tg iter wi)(hg:PG X tg g)(hb:PSs X body tb)
  (hs:∀x,foldedSetIterable iter X.env x=pure x:=by intro _;rfl):PS X (.For tg iter body [] pos) (zhh wi g tb):=by
 intro Ga s σ H D I h
 refine wpAny_For (thn (hi Ga s σ H _ I h) λv s1 h1=>thn h1 λitv s2 h2=>?_) hs
 obtain ⟨it,fp,tn,J,H2,e,I2,T,st2,f2,W,⟨m0,w0⟩,turn⟩:=h2
 subst e
 have stat:∀{H':Hp},(∀b∈fp,H' b=none)->∀b∈fp,zaL X Ga H' b:=λhn b hb=>⟨hn b hb,(f2 b hb).2⟩
 refine codeAny_forLoop_any (λn s'=>∃i σ' H',Inv X Ga σ' H' s'/\tn i s'.heap/\(∀b∈fp,H' b=none)/\W i n σ' H') ?_ m0 ⟨0,σ,H2,I2,st2,λb hb=>(f2 b hb).1,w0⟩
 rintro n s3 ⟨i,σ3,H3,I3,st3,fr3,w3⟩
 rcases turn i n σ3 H3 w3 with ⟨stop,qn⟩|⟨go,N,hN,step⟩
 ·refine wpAny_passesOwn hp (thn (T.done X rfl rfl rfl hc i Ga s3 σ3 H3 X.xe I3 (stat fr3) st3 stop) λr s4 ⟨hr,I4⟩=>?_)
  subst hr
  exact wpAny_execs_nil ⟨σ3,H3,I4,qn⟩
 ·refine wpAny_passesOwn hp (thn (T.item X rfl rfl rfl hc i Ga s3 σ3 H3 X.xe I3 (stat fr3) st3 go) λr s4 ⟨u,hr,h4⟩=>?_)
  subst hr
  refine wpAny_passesOwn hp (thn h4 λ_ s5 ⟨x,H5,I5,r5,y5,st5,fr5⟩=>?_)
  have I5':=I5.pinned (stat fr5) (T.obj _ _ st5)
  refine wpAny_passesOwn hp (thn (hg _ s5 σ3 H5 x u _ I5' r5 (step x H5 y5)) λ_ s6 ⟨σ6,H6,I6,q6⟩=>?_)
  refine wpAny_passesOwn hp (thn (hb _ s6 σ6 H6 _ I6 q6) λf s7 q7=>?_)
  have again:∀{σ7:St}{H7:Hp},Inv X (Ga++zcJ fp s5.heap) σ7 H7 s7->N σ7 H7->∃m,m<n/\∃i σ' H',Inv X Ga σ' H' s7/\tn i s7.heap/\(∀b∈fp,H' b=none)/\W i m σ' H':=λ{σ7 H7} I7 n7=>by
   obtain ⟨m',hm,w7⟩:=hN σ7 H7 n7
   refine ⟨m',hm,i+1,σ7,H7,I7.unpinned,T.keep _ _ _ st5 λb hb o e=>(I7.pin (b,o) (mem_append_right _ (mem_append_right _ (zeN hb e)))).1,λb hb=>?_,w7⟩
   obtain ⟨o,e,d⟩:=T.obj _ _ st5 b hb
   exact (I7.pin (b,o) (mem_append_right _ (mem_append_right _ (zeN hb e)))).2.1
  cases f with
  | next=>obtain ⟨σ7,H7,I7,n7⟩:=q7;exact again I7 n7
  | cont=>obtain ⟨σ7,H7,I7,n7⟩:=q7;exact again I7 n7
  | brk=>obtain ⟨σ7,H7,I7,q7⟩:=q7;exact ⟨σ7,H7,I7.unpinned,q7⟩
  | ret v=>obtain ⟨x7,σ7,H7,I7,r7,q7⟩:=q7;exact ⟨x7,σ7,H7,I7.unpinned,r7,q7⟩
end
theorem zpp{K:PySem.W.Frag}{a:Addr}{xs:List V}{g:TG}{tb:TS}{D:zap}{σ:St}{H:Hp}(Pv:Nat->St->Hp->Prop)(h0:Pv 0 σ H)(hl:∀i σ H,i<=xs.length->Pv i σ H->SqL K H a xs)
  (hs:∀i x σ H,xs[i]?=some x->Pv i σ H->g x σ H λσ2 H2=>tb { D with nx:=Pv (i+1),ct:=Pv (i+1),bk:=D.nx } σ2 H2) (hd:∀σ H,Pv xs.length σ H->D.nx σ H) :
  ∃W:Nat->Nat->St->Hp->Prop,(∃m,W 0 m σ H)/\∀i m σ H,W i m σ H ->
   ((Itl K a).stop i H/\D.nx σ H)\/((Itl K a).go i H/\∃N:St->Hp->Prop,(∀σ' H',N σ' H'->∃m',m'<m/\W (i+1) m' σ' H')/\∀x H',(Itl K a).yld i H x H'->g x σ H' λσ2 H2=>tb { D with nx:=N,ct:=N,bk:=D.nx } σ2 H2):=by
 refine ⟨λi m σ H=>m=xs.length-i/\i<=xs.length/\Pv i σ H,⟨xs.length,by simp,zero_le _,h0⟩,?_⟩
 rintro i m σ H ⟨rfl,hi,p⟩
 have q:=hl i σ H hi p
 by_cases hlt:i<xs.length
 ·refine .inr ⟨⟨xs,xs[i],q,by simp [hlt]⟩,Pv (i+1),λσ' H' p'=>⟨xs.length-(i+1),by omega,rfl,hlt,p'⟩,λx H' y=>?_⟩
  obtain ⟨e,y⟩:=y
  subst e
  exact hs i x σ _ (y xs q) p
 ·have e:i=xs.length:=by omega
  subst e
  exact .inl ⟨⟨xs,q,le_refl _⟩,hd σ H p⟩
theorem zn8{K:PySem.W.Frag}{a:Addr}{xs:List V}{g:TG}{tb:TS}{D:zap}{σ:St}{H:Hp}(Pv:Nat->St->Hp->Prop)(h0:Pv 0 σ H)(hl:∀i σ H,i<=xs.length->Pv i σ H->SqT K H a xs)
  (hs:∀i x σ H,xs[i]?=some x->Pv i σ H->g x σ H λσ2 H2=>tb { D with nx:=Pv (i+1),ct:=Pv (i+1),bk:=D.nx } σ2 H2) (hd:∀σ H,Pv xs.length σ H->D.nx σ H) :
  ∃W:Nat->Nat->St->Hp->Prop,(∃m,W 0 m σ H)/\∀i m σ H,W i m σ H ->
   ((Itt K a).stop i H/\D.nx σ H)\/((Itt K a).go i H/\∃N:St->Hp->Prop,(∀σ' H',N σ' H'->∃m',m'<m/\W (i+1) m' σ' H')/\∀x H',(Itt K a).yld i H x H'->g x σ H' λσ2 H2=>tb { D with nx:=N,ct:=N,bk:=D.nx } σ2 H2):=by
 refine ⟨λi m σ H=>m=xs.length-i/\i<=xs.length/\Pv i σ H,⟨xs.length,by simp,zero_le _,h0⟩,?_⟩
 rintro i m σ H ⟨rfl,hi,p⟩
 have q:=hl i σ H hi p
 by_cases hlt:i<xs.length
 ·refine .inr ⟨⟨xs,xs[i],q,by simp [hlt]⟩,Pv (i+1),λσ' H' p'=>⟨xs.length-(i+1),by omega,rfl,hlt,p'⟩,λx H' y=>?_⟩
  obtain ⟨e,y⟩:=y
  subst e
  exact hs i x σ _ (y xs q) p
 ·have e:i=xs.length:=by omega
  subst e
  exact .inl ⟨⟨xs,q,le_refl _⟩,hd σ H p⟩
theorem zn4{lo:Int}{n:Nat}{g:TG}{tb:TS}{D:zap}{σ:St}{H:Hp}(Pv:Nat->St->Hp->Prop)(h0:Pv 0 σ H)
  (hs:∀i σ H,i<n->Pv i σ H->g (.int (lo+i)) σ H λσ2 H2=>tb { D with nx:=Pv (i+1),ct:=Pv (i+1),bk:=D.nx } σ2 H2) (hd:∀σ H,Pv n σ H->D.nx σ H) :
  ∃W:Nat->Nat->St->Hp->Prop,(∃m,W 0 m σ H)/\∀i m σ H,W i m σ H ->
   ((Itr lo n).stop i H/\D.nx σ H)\/((Itr lo n).go i H/\∃N:St->Hp->Prop,(∀σ' H',N σ' H'->∃m',m'<m/\W (i+1) m' σ' H')/\∀x H',(Itr lo n).yld i H x H'->g x σ H' λσ2 H2=>tb { D with nx:=N,ct:=N,bk:=D.nx } σ2 H2):=by
 refine ⟨λi m σ H=>m=n-i/\i<=n/\Pv i σ H,⟨n,by simp,zero_le _,h0⟩,?_⟩
 rintro i m σ H ⟨rfl,hi,p⟩
 by_cases hlt:i<n
 ·refine .inr ⟨hlt,Pv (i+1),λσ' H' p'=>⟨n-(i+1),by omega,rfl,hlt,p'⟩,λx H' y=>?_⟩
  obtain ⟨e,y⟩:=y
  subst e y
  exact hs i σ _ hlt p
 ·have e:i=n:=by omega
  subst e
  exact .inl ⟨le_refl _,hd σ H p⟩
abbrev R2:=V->V->Hp->VK->Prop
def OpR(X:Cx)(f:Value->Value->Sem Value)(r:R2):Prop :=
 ∀(Ga:List (Addr×Obj))(s:Shared)(σ:St)(H:Hp)(x y:V)(v u:Value)(Q:VK),Inv X Ga σ H s->zm x v->zm y u->r x y H Q ->
  wpAny (model X.prog X.w) X.A (f v u) (EP X Ga σ Q) X.xe s
def UnR(X:Cx)(f:Value->Sem Value)(r:V->Hp->VK->Prop):Prop :=
 ∀(Ga:List (Addr×Obj))(s:Shared)(σ:St)(H:Hp)(x:V)(v:Value)(Q:VK),Inv X Ga σ H s->zm x v->r x H Q ->
  wpAny (model X.prog X.w) X.A (f v) (EP X Ga σ Q) X.xe s
def zK(X:Cx)(f:Value)(r:List V->Hp->VK->Prop):Prop :=
 ∀(Ga:List (Addr×Obj))(s:Shared)(σ:St)(H:Hp)(xs:List V)(us:List Value)(Q:VK),Inv X Ga σ H s->zj xs us->r xs H Q ->
  wpAny (model X.prog X.w) X.A (call f us) (EP X Ga σ Q) X.xe s
def zn2(X:Cx)(r:V->Hp->(Bool->Hp->Prop)->Prop):Prop :=
 ∀(Ga:List (Addr×Obj))(s:Shared)(σ:St)(H:Hp)(x:V)(v:Value)(Q:Bool->Hp->Prop),Inv X Ga σ H s->zm x v->r x H Q ->
  wpAny (model X.prog X.w) X.A (truthy v) (TP X Ga σ Q) X.xe s
def tOp(r:R2)(ta tb:TE):TE:=λσ H Q=>ta σ H λx H1=>tb σ H1 λy H2=>r x y H2 Q
def tUn(r:V->Hp->VK->Prop)(ta:TE):TE:=λσ H Q=>ta σ H λx H1=>r x H1 Q
def rI(C:Int->Int->Prop)(g:Int->Int->V):R2:=λx y H Q=>∃i j,x = .int i/\y = .int j/\C i j/\Q (g i j) H
def rI0(g:Int->Int->V):R2:=λx y H Q=>∃i j,x = .int i/\y = .int j/\Q (g i j) H
def rU(g:Int->V):V->Hp->VK->Prop:=λx H Q=>∃i,x = .int i/\Q (g i) H
section
variable {X:Cx}{a b c:Expr}{ta tb tc:TE}{pos:Pos}
theorem zis(ha:PE X a ta)(hb:PE X b tb){Ga:List (Addr×Obj)}{s:Shared}{σ:St}{H:Hp}{R:V->V->Hp->Prop}(I:Inv X Ga σ H s)
  (h:ta σ H λx H1=>tb σ H1 λy H2=>R x y H2) {Q:Value->Shared->Prop}{f:Value->Value->Sem Value}
  (hf:∀v u s2 x y H2,Inv X Ga σ H2 s2->zm x v->zm y u->R x y H2->wpAny (model X.prog X.w) X.A (f v u) Q X.xe s2) :
  wpAny (model X.prog X.w) X.A (eval a X.env) (λv s₁=>wpAny (model X.prog X.w) X.A (eval b X.env) (λu s₂=>wpAny (model X.prog X.w) X.A (f v u) Q X.xe s₂) X.xe s₁) X.xe s:=by
 refine thn (ha Ga s σ H _ I h) λv s1 ⟨x,H1,I1,r1,q1⟩=>?_
 refine thn (hb Ga s1 σ H1 _ I1 q1) λu s2 ⟨y,H2,I2,r2,q2⟩=>?_
 exact hf v u s2 x y H2 I2 r1 r2 q2
theorem zrT{op:Operator}{r:R2}(ho:OpR X (binaryOp op) r)(ha:PE X a ta)(hb:PE X b tb):PE X (.BinOp a op b pos) (tOp r ta tb):=by
 intro Ga s σ H Q I h
 exact wpAny_BinOp (zis ha hb I h λv u s2 x y H2 I2 rx ry q=>ho Ga s2 σ H2 x y v u Q I2 rx ry q)
theorem zoD{op:UnaryOp}{r:V->Hp->VK->Prop}(ho:UnR X (unaryOp op) r)(ha:PE X a ta):PE X (.UnaryOp op a pos) (tUn r ta):=by
 intro Ga s σ H Q I h
 exact UnaryOp_ (thn (ha Ga s σ H _ I h) λv s1 ⟨x,H1,I1,r1,q1⟩=>ho Ga s1 σ H1 x v Q I1 r1 q1)
theorem opI{f:Value->Value->Sem Value}{C:Int->Int->Prop}{g:Int->Int->Int}
  (rule:∀(i j:Int)(t u:Tok)(s:Shared)(Q:Value->Shared->Prop)(E:Value->Shared->Prop),C i j->Q (.int (g i j) s.toks) { s with toks:=s.toks+1 }->wpAny (model X.prog X.w) X.A (f (.int i t) (.int j u)) Q E s) :
  OpR X f (rI C λi j=>.int (g i j)):=by
 intro Ga s σ H x y v u Q I rx ry h
 obtain ⟨i,j,rfl,rfl,hc,q⟩:=h
 obtain ⟨t,rfl⟩:=rx
 obtain ⟨t',rfl⟩:=ry
 exact rule i j t t' s _ _ hc ⟨.int (g i j),H,I.tok _,⟨_,rfl⟩,q⟩
theorem zjo{f:Value->Value->Sem Value}{g:Int->Int->Int}
  (rule:∀(i j:Int)(t u:Tok)(s:Shared)(Q:Value->Shared->Prop)(E:Value->Shared->Prop),Q (.int (g i j) s.toks) { s with toks:=s.toks+1 }->wpAny (model X.prog X.w) X.A (f (.int i t) (.int j u)) Q E s) :
  OpR X f (rI0 λi j=>.int (g i j)):=by
 intro Ga s σ H x y v u Q I rx ry h
 obtain ⟨i,j,rfl,rfl,q⟩:=h
 obtain ⟨t,rfl⟩:=rx
 obtain ⟨t',rfl⟩:=ry
 exact rule i j t t' s _ _ ⟨.int (g i j),H,I.tok _,⟨_,rfl⟩,q⟩
theorem zit{f:Value->Value->Sem Value}{g:Int->Int->Bool}
  (rule:∀(i j:Int)(t u:Tok)(s:Shared)(Q:Value->Shared->Prop)(E:Value->Shared->Prop),Q (.bool (g i j)) s->wpAny (model X.prog X.w) X.A (f (.int i t) (.int j u)) Q E s) :
  OpR X f (rI0 λi j=>.bl (g i j)):=by
 intro Ga s σ H x y v u Q I rx ry h
 obtain ⟨i,j,rfl,rfl,q⟩:=h
 obtain ⟨t,rfl⟩:=rx
 obtain ⟨t',rfl⟩:=ry
 exact rule i j t t' s _ _ ⟨.bl (g i j),H,I,rfl,q⟩
def ztc(i j:Int):Prop:=0<j/\j<1073741824
def zxq(i j:Int):Prop:=0<=j/\j<=1000000/\i.natAbs<2 ^ 64
def zdt(i j:Int):Prop:=(-(2 ^ 64)<i/\i<2 ^ 64)\/(-(2 ^ 64)<j/\j<2 ^ 64)
theorem zdt.ok{i j:Int}(h:zdt i j):IntMulOk i j:=by
 rcases h with ⟨h1,h2⟩|⟨h1,h2⟩
 ·exact .of_left (intBits_le_64 h1 h2)
 ·exact .of_right (intBits_le_64 h1 h2)
theorem zru:OpR X (binaryOp .Add) (rI0 λi j=>.int (i+j)):=zjo λ_ _ _ _ _ _ _ q=>add_int q
theorem zdu:OpR X (binaryOp .Sub) (rI0 λi j=>.int (i-j)):=zjo λ_ _ _ _ _ _ _ q=>sub_int q
theorem zsI:OpR X (binaryOp .Mult) (rI zdt λi j=>.int (i*j)):=opI λ_ _ _ _ _ _ _ hc q=>mul_int q hc.ok
theorem zx4:OpR X (binaryOp .FloorDiv) (rI ztc λi j=>.int (i / j)):=opI λi j _ _ _ _ _ hc q=>by
 have h1:(0:Int)<j:=hc.1
 have h2:j<1073741824:=hc.2
 exact floordiv_int (by omega) (by rw [Int.fdiv_eq_ediv_of_nonneg i (by omega)];exact q) (.inl (PyProof.noPylong_small (by omega)))
theorem zdK:OpR X (binaryOp .Mod) (rI (λ_ j=>0<j) λi j=>.int (i % j)):=opI λi j _ _ _ _ _ hc q=>by
 have h1:(0:Int)<j:=hc
 exact mod_int' (by omega) (by rw [Int.fmod_eq_emod_of_nonneg i (by omega)];exact q)
theorem zhb:OpR X (binaryOp .Pow) (rI zxq λi j=>.int (i ^ j.toNat)):=opI λ_ _ _ _ _ _ _ hc q=>pow_int_small hc.1 hc.2.1 hc.2.2 q
theorem unI{f:Value->Sem Value}{g:Int->Int}
  (rule:∀(i:Int)(t:Tok)(s:Shared)(Q:Value->Shared->Prop)(E:Value->Shared->Prop),Q (.int (g i) s.toks) { s with toks:=s.toks+1 }->wpAny (model X.prog X.w) X.A (f (.int i t)) Q E s) :
  UnR X f (rU λi=>.int (g i)):=by
 intro Ga s σ H x v Q I rx h
 obtain ⟨i,rfl,q⟩:=h
 obtain ⟨t,rfl⟩:=rx
 exact rule i t s _ _ ⟨.int (g i),H,I.tok _,⟨_,rfl⟩,q⟩
theorem zvr:UnR X (unaryOp .USub) (rU λi=>.int (-i)):=unI λ_ _ _ _ _ q=>neg_int q
end
def zbF:V->V->Bool
 | .non,.non=>true | .non,.int _=>true | .int _,.non=>true | .non,.bl _=>true | .bl _,.non=>true | .non,.str _=>true | .str _,.non=>true
 | .int _,.int _=>true | .bl _,.bl _=>true | .str _,.str _=>true | .byt _,.byt _=>true
 | .int _,.str _=>true | .str _,.int _=>true | .bl _,.str _=>true | .str _,.bl _=>true
 | _,_=>false
def rEq:R2:=λx y H Q=>zbF x y=true/\Q (.bl (decide (x=y))) H
def rNe:R2:=λx y H Q=>zbF x y=true/\Q (.bl (!decide (x=y))) H
theorem zju{i j:Int}:decide (V.int i=V.int j)=(i==j):=by
 rw [Bool.eq_iff_iff]
 simp
theorem zmn{i j:Bool}:decide (V.bl i=V.bl j)=(i==j):=by
 rw [Bool.eq_iff_iff]
 simp
theorem zja{i j:Str}:decide (V.str i=V.str j)=(i==j):=by
 rw [Bool.eq_iff_iff]
 simp
theorem zji{i j:Array UInt8}:decide (V.byt i=V.byt j)=(i.toList==j.toList):=by
 rw [Bool.eq_iff_iff]
 cases i
 cases j
 simp
section
variable {X:Cx}{a b c:Expr}{ta tb tc:TE}{pos:Pos}
theorem zU{Ga:List (Addr×Obj)}{σ:St}{H:Hp}{s:Shared}{Q:VK}{k k':Bool}(I:Inv X Ga σ H s)(q:Q (.bl k) H)(e:k=k'):EP X Ga σ Q (.bool k') s:=by
 subst e
 exact ⟨.bl k,H,I,rfl,q⟩
theorem zqg:OpR X (compareOp .Eq) rEq:=by
 intro Ga s σ H x y v u Q I rx ry h
 obtain ⟨hs,q⟩:=h
 cases x with
 | non =>
  cases rx
  cases y with
  | non=>cases ry;exact PySem.EqNone.eq_none_none (zU I q (by simp))
  | bl j=>cases ry;exact PySem.EqNone.eq_none_bool (zU I q (by simp))
  | int j=>obtain ⟨t',rfl⟩:=ry;exact PySem.EqNone.eq_none_int (zU I q (by simp))
  | str j=>obtain ⟨t',rfl⟩:=ry;exact PySem.EqNone.eq_none_str (zU I q (by simp))
  | _=>exact absurd (show false=true from hs) Bool.false_ne_true
 | bl i =>
  cases rx
  cases y with
  | non=>cases ry;exact PySem.EqNone.eq_bool_none (zU I q (by simp))
  | bl j=>cases ry;exact eq_bool (zU I q zmn)
  | str j=>obtain ⟨t',rfl⟩:=ry;exact PySem.EqMixed.eq_bool_str (zU I q (by simp))
  | _=>exact absurd (show false=true from hs) Bool.false_ne_true
 | int i =>
  obtain ⟨t,rfl⟩:=rx
  cases y with
  | non=>cases ry;exact PySem.EqNone.eq_int_none (zU I q (by simp))
  | int j=>obtain ⟨t',rfl⟩:=ry;exact eq_int (zU I q zju)
  | str j=>obtain ⟨t',rfl⟩:=ry;exact PySem.EqMixed.eq_int_str (zU I q (by simp))
  | _=>exact absurd (show false=true from hs) Bool.false_ne_true
 | str i =>
  obtain ⟨t,rfl⟩:=rx
  cases y with
  | non=>cases ry;exact PySem.EqNone.eq_str_none (zU I q (by simp))
  | bl j=>cases ry;exact PySem.EqMixed.eq_str_bool (zU I q (by simp))
  | int j=>obtain ⟨t',rfl⟩:=ry;exact PySem.EqMixed.eq_str_int (zU I q (by simp))
  | str j=>obtain ⟨t',rfl⟩:=ry;exact eq_str (zU I q zja)
  | _=>exact absurd (show false=true from hs) Bool.false_ne_true
 | byt i =>
  obtain ⟨t,rfl⟩:=rx
  cases y with
  | byt j=>obtain ⟨t',rfl⟩:=ry;exact PySem.W.eq_bytes (zU I q zji)
  | _=>exact absurd (show false=true from hs) Bool.false_ne_true
 | _=>cases y<;>exact absurd (show false=true from hs) Bool.false_ne_true
theorem zyh:OpR X (compareOp .NotEq) rNe:=by
 intro Ga s σ H x y v u Q I rx ry h
 obtain ⟨hs,q⟩:=h
 cases x with
 | non =>
  cases rx
  cases y with
  | non=>cases ry;exact PySem.EqNone.ne_none_none (zU I q (by simp))
  | bl j=>cases ry;exact PySem.EqNone.ne_none_bool (zU I q (by simp))
  | int j=>obtain ⟨t',rfl⟩:=ry;exact PySem.EqNone.ne_none_int (zU I q (by simp))
  | str j=>obtain ⟨t',rfl⟩:=ry;exact PySem.EqNone.ne_none_str (zU I q (by simp))
  | _=>exact absurd (show false=true from hs) Bool.false_ne_true
 | bl i =>
  cases rx
  cases y with
  | non=>cases ry;exact PySem.EqNone.ne_bool_none (zU I q (by simp))
  | bl j=>cases ry;exact ne_bool (zU I q (congrArg not zmn))
  | str j=>obtain ⟨t',rfl⟩:=ry;exact PySem.EqMixed.ne_bool_str (zU I q (by simp))
  | _=>exact absurd (show false=true from hs) Bool.false_ne_true
 | int i =>
  obtain ⟨t,rfl⟩:=rx
  cases y with
  | non=>cases ry;exact PySem.EqNone.ne_int_none (zU I q (by simp))
  | int j=>obtain ⟨t',rfl⟩:=ry;exact ne_int (zU I q (congrArg not zju))
  | str j=>obtain ⟨t',rfl⟩:=ry;exact PySem.EqMixed.ne_int_str (zU I q (by simp))
  | _=>exact absurd (show false=true from hs) Bool.false_ne_true
 | str i =>
  obtain ⟨t,rfl⟩:=rx
  cases y with
  | non=>cases ry;exact PySem.EqNone.ne_str_none (zU I q (by simp))
  | bl j=>cases ry;exact PySem.EqMixed.ne_str_bool (zU I q (by simp))
  | int j=>obtain ⟨t',rfl⟩:=ry;exact PySem.EqMixed.ne_str_int (zU I q (by simp))
  | str j=>obtain ⟨t',rfl⟩:=ry;exact ne_str (zU I q (congrArg not zja))
  | _=>exact absurd (show false=true from hs) Bool.false_ne_true
 | byt i =>
  obtain ⟨t,rfl⟩:=rx
  cases y with
  | byt j=>obtain ⟨t',rfl⟩:=ry;exact PySem.W.ne_bytes (zU I q (congrArg not zji))
  | _=>exact absurd (show false=true from hs) Bool.false_ne_true
 | _=>cases y<;>exact absurd (show false=true from hs) Bool.false_ne_true
theorem zfg:OpR X (compareOp .Lt) (rI0 λi j=>.bl (decide (i<j))):=zit λ_ _ _ _ _ _ _ q=>lt_int q
theorem zms:OpR X (compareOp .LtE) (rI0 λi j=>.bl (decide (i<=j))):=zit λ_ _ _ _ _ _ _ q=>le_int q
theorem zhB:OpR X (compareOp .Gt) (rI0 λi j=>.bl (decide (j<i))):=zit λ_ _ _ _ _ _ _ q=>gt_int q
theorem zvD:OpR X (compareOp .In) (λx y H Q=>∃i j,x = .str i/\y = .str j/\Q (.bl (!(Builtin.Str.occurrences j i 0 j.length 1).isEmpty)) H):=by
 intro Ga s σ H x y v u Q I rx ry h
 obtain ⟨i,j,rfl,rfl,q⟩:=h
 obtain ⟨t,rfl⟩:=rx
 obtain ⟨t',rfl⟩:=ry
 exact in_str (zU I q rfl)
theorem zul:OpR X (compareOp .IsNot) (λx y H Q=>y = .non/\Q (.bl (!decide (x = .non))) H):=by
 intro Ga s σ H x y v u Q I rx ry h
 obtain ⟨rfl,q⟩:=h
 cases ry
 refine isnot_none_gen (zU I q ?_)
 cases x<;>first
  | (cases rx;rfl)
  | (obtain ⟨t,rfl⟩:=rx;rfl)
theorem OpR.or{f:Value->Value->Sem Value}{r r':R2}(h:OpR X f r)(h':OpR X f r'):OpR X f (λx y H Q=>r x y H Q\/r' x y H Q):=by
 intro Ga s σ H x y v u Q I rx ry q
 rcases q with q|q
 ·exact h Ga s σ H x y v u Q I rx ry q
 ·exact h' Ga s σ H x y v u Q I rx ry q
theorem zaa(b:Expr){op:CmpOp}(h:op≠.In:=by decide)(h2:op≠.NotIn:=by decide):behindInMarks op b=false:=by
 have e1:(op==CmpOp.In)=false:=by cases op<;>first|rfl|exact absurd rfl h
 have e2:(op==CmpOp.NotIn)=false:=by cases op<;>first|rfl|exact absurd rfl h2
 cases b<;>simp [behindInMarks,e1,e2]
theorem zuO{op:CmpOp}{r:R2}(ho:OpR X (compareOp op) r)(ha:PE X a ta)(hb:PE X b tb)(hm:behindInMarks op b=false):PE X (.Compare a [op] [b] pos) (tOp r ta tb):=by
 intro Ga s σ H Q I h
 exact wpAny_Compare1 (zis ha hb I h λv u s2 x y H2 I2 rx ry q=>ho Ga s2 σ H2 x y v u Q I2 rx ry q) hm
def zgC(t:TE):TT:=λσ H Q=>t σ H λx H'=>∃k,x = .bl k/\Q k H'
theorem zmf{op:CmpOp}{r:R2}(ho:OpR X (compareOp op) r)(ha:PE X a ta)(hb:PE X b tb)(hm:behindInMarks op b=false):PT X (.Compare a [op] [b] pos) (zgC (tOp r ta tb)):=by
 intro Ga s σ H Q I h
 refine wpAny_isTrue_Compare1 (thn (ha Ga s σ H _ I h) λv s1 ⟨x,H1,I1,r1,q1⟩=>thn (hb Ga s1 σ H1 _ I1 q1) λu s2 ⟨y,H2,I2,r2,q2⟩ =>
  thn (ho Ga s2 σ H2 x y v u _ I2 r1 r2 q2) λc s3 ⟨z,H3,I3,r3,k,e,q3⟩=>?_) hm
 subst e
 cases r3
 exact wpAny_truthy_bool ⟨H3,I3,q3⟩
def zgD(r r':R2)(ta tb tc:TE):TE:=λσ H Q=>ta σ H λx H1=>tb σ H1 λy H2=>r x y H2 λz H3=>∃k,z = .bl k /\
 (if k=true then tc σ H3 λw' H4=>r' y w' H4 Q else Q (.bl false) H3)
theorem zsq{op op':CmpOp}{r r':R2}(ho:OpR X (compareOp op) r)(ho':OpR X (compareOp op') r')(ha:PE X a ta)(hb:PE X b tb)(hc:PE X c tc)
  (hm:lastMarks [op,op'] [b,c]=false:=by with_unfolding_all rfl):PE X (.Compare a [op,op'] [b,c] pos) (zgD r r' ta tb tc):=by
 intro Ga s σ H Q I h
 refine Compare_chain (thn (ha Ga s σ H _ I h) λv s1 ⟨x,H1,I1,r1,q1⟩=>chain_link (thn (hb Ga s1 σ H1 _ I1 q1) λu s2 ⟨y,H2,I2,r2,q2⟩ =>
  thn (ho Ga s2 σ H2 x y v u _ I2 r1 r2 q2) λd s3 ⟨z,H3,I3,r3,k,e,q3⟩=>?_)) hm
 subst e
 cases r3
 refine wpAny_truthy_bool ?_
 cases k with
 | false=>exact ite_ff ⟨.bl false,H3,I3,rfl,q3⟩
 | true=>exact ite_tt (chain_last (thn (hc Ga s3 σ H3 _ I3 q3) λw' s4 ⟨z',H4,I4,r4,q4⟩=>ho' Ga s4 σ H4 y z' u w' Q I4 r2 r4 q4))
def zcx(K:PySem.W.Frag)(x:V)(H:Hp)(k:Bool):Prop :=
 match x with
 | .non=>k=false
 | .bl b=>k=b
 | .int i=>k=(i != 0)
 | .str y=>y.length<=sizeLine/\k=((y.length:Int) != 0)
 | .byt y=>y.size<=sizeLine/\k=((y.size:Int) != 0)
 | .ref p=>(∃xs,SqL K H p xs/\k = !xs.isEmpty)\/(∃xs,SqT K H p xs/\k = !xs.isEmpty)\/∃kvs,H p=some (.dK kvs)/\k = !kvs.isEmpty
 | _=>False
theorem zri{κ:Type}{kvs:List (κ×V)}{vs:List (κ×Value)}(r:KV kvs vs):(!vs.isEmpty) = !kvs.isEmpty:=by
 cases r<;>rfl
theorem zkL{xs:List V}{its:List Value}(r:zj xs its):(!its.toArray.isEmpty) = !xs.isEmpty:=by
 cases r<;>simp
theorem zcV:(sizeLine:Nat)<2 ^ 63:=by rw [sizeLine_eq];decide
theorem zqm:zn2 X (λx H Q=>∃k,zcx X.K x H k/\Q k H):=by
 intro Ga s σ H x v Q I rx h
 obtain ⟨k,e,q⟩:=h
 have hl:=zcV
 have hs:sizeLine=16777216:=sizeLine_eq
 cases x with
 | non =>
  cases rx
  have e':k=false:=e
  subst e'
  exact truthy_none ⟨H,I,q⟩
 | bl b =>
  cases rx
  have e':k=b:=e
  subst e'
  exact wpAny_truthy_bool ⟨H,I,q⟩
 | int i =>
  obtain ⟨t,rfl⟩:=rx
  have e':k=(i != 0):=e
  subst e'
  exact PySem.P.truthy_int ⟨H,I,q⟩
 | str y =>
  obtain ⟨t,rfl⟩:=rx
  obtain ⟨hy,e'⟩:y.length<=sizeLine/\k=((y.length:Int) != 0):=e
  subst e'
  exact PySem.P.truthy_str (by omega) ⟨H,I.tok _,q⟩
 | byt y =>
  obtain ⟨t,rfl⟩:=rx
  obtain ⟨hy,e'⟩:y.size<=sizeLine/\k=((y.size:Int) != 0):=e
  subst e'
  exact PySem.W.truthy_bytes (by omega) ⟨H,I.tok _,q⟩
 | ref p =>
  cases rx
  have e':(∃xs,SqL X.K H p xs/\k = !xs.isEmpty)\/(∃xs,SqT X.K H p xs/\k = !xs.isEmpty)\/∃kvs,H p=some (.dK kvs)/\k = !kvs.isEmpty:=e
  rcases e' with ⟨xs,hx,e'⟩|⟨xs,hx,e'⟩|⟨kvs,hx,e'⟩
  ·subst e'
   obtain ⟨its,r,pl,hz⟩:=I.list hx
   have hlen:=r.length
   exact wpAny_truthy_list pl.isList (by simp only [size_toArray];omega) ⟨H,I.tok _,by rw [zkL r];exact q⟩
  ·subst e'
   obtain ⟨its,r,pl,hz⟩:=I.tuple hx
   have hlen:=r.length
   exact truthy_tuple pl (by simp only [size_toArray];omega) ⟨H,I.tok _,by rw [zkL r];exact q⟩
  ·subst e'
   obtain ⟨hz,hS,vs,r,m⟩:kvs.length<=sizeLine/\(p==sysModules)=false/\∃vs,KV kvs vs/\s.heap.DictOf (zaf X.prog X.w) p vs:=I.hok p _ hx
   have hlen:kvs.length=vs.length:=Paired.length r
   exact wpAny_truthy_dict hS m (by omega) ⟨H,I.tok _,by rw [zri r];exact q⟩
 | _=>exact (show False from e).elim
theorem zsX(ha:PE X a ta)(he:∀whole,isTrue a X.env whole=(do let v<-whole;standAt a.pos;holding [v] (truthy v))) :
  PT X a (λσ H Q=>ta σ H λx H'=>∃k,zcx X.K x H' k/\Q k H'):=by
 intro Ga s σ H Q I h
 exact isTrue_plain (thn (ha Ga s σ H _ I h) λv s1 ⟨x,H1,I1,r1,q1⟩=>zqm Ga s1 σ H1 x v Q I1 r1 q1) (he _)
theorem zwp:OpR X (binaryOp .Add) (λx y H Q=>∃i j,x = .str i/\y = .str j/\i.length+j.length<=sizeLine/\Q (.str (i++j)) H):=by
 intro Ga s σ H x y v u Q I rx ry h
 obtain ⟨i,j,rfl,rfl,hz,q⟩:=h
 obtain ⟨t,rfl⟩:=rx
 obtain ⟨t',rfl⟩:=ry
 exact add_str (λt' tk=>⟨.str (i++j),H,I.tok _,⟨_,rfl⟩,q⟩) hz
theorem za6{x:V}{us:List Value}(r:zj [x] us):∃u,us=[u]/\zm x u:=by
 cases r with
 | cons r1 r2=>cases r2;exact ⟨_,rfl,r1⟩
theorem zgs{x y:V}{us:List Value}(r:zj [x,y] us):∃u w',us=[u,w']/\zm x u/\zm y w':=by
 cases r with
 | cons r1 r2 =>
  cases r2 with
  | cons r3 r4=>cases r4;exact ⟨_,_,rfl,r1,r3⟩
theorem zoL(hc:X.calm=true):zK X (.builtin "max") (λxs H Q=>∃i j,xs=[.int i,.int j]/\Q (.int (if j>i then j else i)) H):=by
 intro Ga s σ H xs us Q I r h
 obtain ⟨i,j,rfl,q⟩:=h
 obtain ⟨u,w',rfl,⟨t,rfl⟩,⟨t',rfl⟩⟩:=zgs r
 refine max_two_ints (I.ok.hd hc) λh' tk k=>⟨_,H,I.kept k,?_,q⟩
 by_cases hj:j>i
 ·rw [if_pos hj,if_pos hj];exact ⟨_,rfl⟩
 ·rw [if_neg hj,if_neg hj];exact ⟨_,rfl⟩
theorem zpb(hc:X.calm=true):zK X (.builtin "min") (λxs H Q=>∃i j,xs=[.int i,.int j]/\Q (.int (if j<i then j else i)) H):=by
 intro Ga s σ H xs us Q I r h
 obtain ⟨i,j,rfl,q⟩:=h
 obtain ⟨u,w',rfl,⟨t,rfl⟩,⟨t',rfl⟩⟩:=zgs r
 refine min_two_ints (I.ok.hd hc) λh' tk k=>⟨_,H,I.kept k,?_,q⟩
 by_cases hj:j<i
 ·rw [if_pos hj,if_pos hj];exact ⟨_,rfl⟩
 ·rw [if_neg hj,if_neg hj];exact ⟨_,rfl⟩
theorem zuY:zK X (.type "int") (λxs H Q=>(∃i,xs=[.int i]/\Q (.int i) H)\/∃k,xs=[.bl k]/\Q (.int (if k then 1 else 0)) H):=by
 intro Ga s σ H xs us Q I r h
 rcases h with ⟨i,rfl,q⟩|⟨k,rfl,q⟩
 ·obtain ⟨u,rfl,t,rfl⟩:=za6 r
  exact call_int_int ⟨.int i,H,I,⟨_,rfl⟩,q⟩
 ·obtain ⟨u,rfl,r1⟩:=za6 r
  cases r1
  exact call_int_bool ⟨.int (if k then 1 else 0),H,I.tok _,⟨_,rfl⟩,q⟩
theorem zum:zK X (.type "str") (λxs H Q=>∃i,xs=[.int i]/\i.natAbs.log2<1920/\Q (.str (toString i)) H):=by
 intro Ga s σ H xs us Q I r h
 obtain ⟨i,rfl,hz,q⟩:=h
 obtain ⟨u,rfl,t,rfl⟩:=za6 r
 exact PySem.P.str_of_int hz ⟨.str _,H,I.tok _,⟨_,rfl⟩,q⟩
theorem zuI:zK X (.builtin "ord") (λxs H Q=>∃x,xs=[.str x]/\x.length=1/\Q (.int (x.cps.getD 0 0:Nat)) H):=by
 intro Ga s σ H xs us Q I r h
 obtain ⟨x,rfl,hz,q⟩:=h
 obtain ⟨u,rfl,t,rfl⟩:=za6 r
 exact ord_of_one hz ⟨.int _,H,I.tok _,⟨_,rfl⟩,q⟩
end
structure zdd(h:Heap)(x dx C:Addr)(mA:Str->Option Value):Prop where
 obj:h.get? x=some (instObj C dx)
 ns:h.Ns1 dx mA
 ne:dx≠x
theorem zm5{h:Heap}{dx:Addr}{mA:Str->Option Value}(n:h.Ns1 dx mA):∃od,h.get? dx=some od/\∀name,lookIn name od=some (mA name):=by
 obtain ⟨o,es,ep,ho,hd,hk,_,hm⟩:=n
 refine ⟨o,ho,λname=>?_⟩
 have e:=hm name
 unfold nsFind findBy at e
 rw [<- Array.find?_toList] at e
 unfold lookIn
 rw [hd]
 dsimp only
 split
 ·rename_i y q
  rw [q] at e
  exact congrArg some e
 ·rename_i q
  rw [q] at e
  have a:es.toList.any (·.refKey)=false:=by
   rw [List.any_eq_false]
   intro y hy
   obtain ⟨z,t,hkey⟩:=hk y (Array.mem_toList_iff.mp hy)
   simp [DictEntry.refKey,hkey]
  have a' : ¬ es.toList.any (·.refKey)=true:=by rw [a];exact Bool.false_ne_true
  rw [if_neg a']
  exact congrArg some e
theorem zdd.look{h:Heap}{x dx C:Addr}{mA:Str->Option Value}(I:zdd h x dx C mA):∃od,PySem.W.InstAt h x (instObj C dx) C (some od)/\∀name,lookIn name od=some (mA name) :=
 let ⟨od,ho,hl⟩:=zm5 I.ns
 ⟨od,⟨I.obj,rfl,rfl,ho⟩,hl⟩
section
variable {prog:Program}{w:World}{A:Around}{E:Value->Shared->Prop}{s:Shared}{K:PySem.W.Frag}{x dx C f:Addr}{mA:Str->Option Value}{name:Str}{v:Value}
theorem zqt{expr:Bool}{Q:Value->Shared->Prop}(X:K.In s.heap)(I:zdd s.heap x dx C mA)(hg:plainGet K C name=true)(hh:hasDictIn K C=true)
  (ha:PySem.W.findIn K (.ref C) name=some none) (hv:mA name=some v) (hv':handedIn v=true) (h:Q v { s with toks:=s.toks+1 }) :
  wpAny (model prog w) A (getAttr (.ref x) name expr) Q E s:=by
 obtain ⟨od,J,hl⟩:=I.look
 exact PySem.W.get_value X J (plainGet_of hg).1 (PySem.W.findObj_own hh ha rfl (by rw [hl,hv])) hv' h
theorem zxU{pl:Sem Bool}{Q:Value×List Value->Shared->Prop}(X:K.In s.heap)(I:zdd s.heap x dx C mA)(hg:plainGet K C name=true)
  (hf:PySem.W.findIn K (.ref C) name=some (some (.ref f))) (ht:isFn K (.ref f)=true) (hv:mA name=none) (h:Q (.ref f,[.ref x]) s) :
  wpAny (model prog w) A (getMethod (.ref x) name pl) Q E s:=by
 obtain ⟨od,J,hl⟩:=I.look
 exact PySem.W.method_fn X J (plainGet_of hg).1 (plainGet_of hg).2 hf (beq_iff_eq.mp ht) (by show (lookIn name od).map (·.isSome)=some false;rw [hl,hv];rfl) h
theorem zo1{ns:List Str}{Q:Unit->Shared->Prop}(X:K.In s.heap)(I:zdd s.heap x dx C mA)
  (hs:PySem.W.findIn K (.ref C) "__setattr__"=some (some (.builtin "object.__setattr__"))) (hp:plainOver K C=true) (ht:takerIn K C name=some none) (hh:hasDictIn K C=true)
  (hw:PySem.Within mA ns) (hsz:ns.length<=sizeLine)
  (h:∀h',zdd h' x dx C (λy=>if y=name then some v else mA y)->SameBut dx s.heap h'->Q () { s with heap:=h',toks:=s.toks+2 }) :
  wpAny (model prog w) A (setAttr (.ref x) name v) Q E s:=by
 obtain ⟨od,J,hl⟩:=I.look
 refine PySem.W.set_plain X J hs (PySem.W.osa_open (s:={ s with toks:=s.toks+1 }) (r:=none) X J hp ht λb=>?_)
 obtain ⟨cd,hc,hd'⟩:=PySem.W.any_some hh
 have hx:s.heap.get? x=some ⟨.ref C,some dx,.plain,#[]⟩:=I.obj
 refine wpAny_bind (wpAny_pure (wpAny_bind (wpAny_bind (wpAny_loadPart hx (wpAny_bind (PySem.W.Looks.here (s:={ s with toks:=s.toks+1 }) (PySem.W.looks_clsIn X hc) ?_))))))
 rw [hd']
 refine wpAny_pure (a:=some dx) (wpAny_bind (wpAny_pure (wpAny_bind ?_)))
 refine wpAny_nsSet1 (s:={ s with toks:=s.toks+1 }) I.ns λh' hn2 hs2=>?_
 obtain ⟨oD,esD,epD,hoD,hdD,hcD⟩:=hn2.count (PySem.Within.cons name v hw)
 refine wpAny_bind (wpAny_lookBehind hoD (by rw [hdD];exact pastItsLine_dict (le_trans hcD (by rw [length_cons];omega))) ?_)
 exact wpAny_pure (h _ ⟨(hs2.2 _ (Ne.symm I.ne)).trans I.obj,hn2,I.ne⟩ hs2)
theorem zjn{R:Result->Shared->Prop}{vs:List Value}{kw:List (Str×Value)}(X:K.In s.heap)(hm:makesIn K C=true)
  (hi:PySem.W.findIn K (.ref C) "__init__"=some (some (.ref f))) (hf:PySem.W.typeIn K (.ref f)=some (.type "function"))
  (h:codeAny (model prog w) (A.under (.builtin "type.__call__" ⟨.ref C::vs,kw⟩)) (.call (.ref f) ⟨.ref (s.heap.objs.size+1)::vs,kw⟩) (PySem.W.InitBack (s.heap.objs.size+1) R)
   { s with heap:=(s.heap.push emptyDict).push (instObj C s.heap.objs.size) }) :
  codeAny (model prog w) A (.call (.ref C) ⟨vs,kw⟩) R s:=by
 obtain ⟨hh,g,d,t,os⟩:=s
 exact PySem.W.make_core (PySem.W.makes_of X hm) (PySem.W.looks_findIn X hi) (λself=>PySem.W.bind_fn X self hf) (.inl rfl) h
end
def zB(f:Str)(v:V):List (Str×V)->List (Str×V)
 | []=>[(f,v)]
 | (g,x)::r=>if g=f then (g,v)::r else (g,x)::zB f v r
theorem zjh(f g:Str)(v:V):∀fs:List (Str×V),(zB f v fs).lookup g=if g=f then some v else fs.lookup g
 | []=>by
  show List.lookup g [(f,v)]=_
  by_cases h:g=f
  ·have hb:(g==f)=true:=beq_iff_eq.mpr h
   simp only [List.lookup,hb,if_pos h]
  ·have hb:(g==f)=false:=beq_eq_false_iff_ne.mpr h
   simp only [List.lookup,hb,if_neg h]
 | (k,x)::r=>by
  have ih:=zjh f g v r
  rw [show zB f v ((k,x)::r)=(if k=f then (k,v)::r else (k,x)::zB f v r) from rfl]
  by_cases hk:k=f
  ·rw [if_pos hk]
   by_cases h:g=k
   ·have hb:(g==k)=true:=beq_iff_eq.mpr h
    simp only [List.lookup,hb,if_pos (h.trans hk)]
   ·have hb:(g==k)=false:=beq_eq_false_iff_ne.mpr h
    simp only [List.lookup,hb,if_neg (λe:g=f=>h (e.trans hk.symm))]
  ·rw [if_neg hk]
   by_cases h:g=k
   ·have hb:(g==k)=true:=beq_iff_eq.mpr h
    simp only [List.lookup,hb,if_neg (λe:g=f=>hk (h.symm.trans e))]
   ·have hb:(g==k)=false:=beq_eq_false_iff_ne.mpr h
    simp only [List.lookup,hb]
    exact ih
theorem zgl(f:Str)(v:V):∀fs:List (Str×V),f∈(zB f v fs).map (·.1)/\∀g,g∈fs.map (·.1)->g∈(zB f v fs).map (·.1)
 | []=>⟨by simp [zB],λg h=>by simp at h⟩
 | (k,x)::r=>by
  obtain ⟨i1,i2⟩:=zgl f v r
  rw [show zB f v ((k,x)::r)=(if k=f then (k,v)::r else (k,x)::zB f v r) from rfl]
  by_cases hk:k=f
  ·rw [if_pos hk]
   subst hk
   exact ⟨by simp,λg h=>by simpa using h⟩
  ·rw [if_neg hk]
   refine ⟨?_,λg h=>?_⟩
   ·rw [map_cons]
    exact mem_cons_of_mem _ i1
   ·rw [map_cons] at h ⊢
    rcases mem_cons.mp h with e|e
    ·exact mem_cons.mpr (.inl e)
    ·exact mem_cons_of_mem _ (i2 g e)
theorem zlk(f:Str)(v:V):∀fs:List (Str×V),(zB f v fs).length<=fs.length+1
 | []=>by simp [zB]
 | (k,x)::r=>by
  have ih:=zlk f v r
  rw [show zB f v ((k,x)::r)=(if k=f then (k,v)::r else (k,x)::zB f v r) from rfl]
  by_cases hk:k=f
  ·rw [if_pos hk,length_cons,length_cons];omega
  ·rw [if_neg hk,length_cons,length_cons];omega
theorem zaB.some_of{v:V}{o:Option Value}(r:zaB (some v) o):∃u,o=some u/\zm v u:=by
 cases o with
 | none=>exact (show False from r).elim
 | some u=>exact ⟨u,rfl,r⟩
theorem zaB.none_of{o:Option Value}(r:zaB none o):o=none:=by
 cases o with
 | none=>rfl
 | some u=>exact (show False from r).elim
theorem zv3{v:V}{u:Value}(r:zm v u):handedIn u=true:=by
 cases v with
 | non=>cases (show u=Value.none from r);rfl
 | bl b=>cases (show u=Value.bool b from r);rfl
 | int i=>obtain ⟨t,e⟩:=(show ∃t,u=Value.int i t from r);cases e;rfl
 | str x=>obtain ⟨t,e⟩:=(show ∃t,u=Value.str x t from r);cases e;rfl
 | byt b=>obtain ⟨t,e⟩:=(show ∃t,u=Value.bytes b t from r);cases e;rfl
 | flt b=>obtain ⟨t,e⟩:=(show ∃t,u=float b t from r);cases e;rfl
 | ref a=>cases (show u=Value.ref a from r);rfl
 | ty n=>cases (show u=type n from r);rfl
section
variable {P:Program}{w:World}{H H':Hp}{h h':Heap}{a C dx:Addr}{fs fs':List (Str×V)}
theorem zfq(hok:HOk P w H h)(e:H a=some (.ins C dx fs)):∃mA,zdd h a dx C mA/\(∀f,zaB (fs.lookup f) (mA f))/\PySem.Within mA (fs.map (·.1))/\fs.length<=1000/\H dx=some (.own a):=by
 obtain ⟨d,z,ne,ob,mA,n,r,q⟩:=(show zW P w H h a (.ins C dx fs) from hok a _ e)
 exact ⟨mA,⟨ob,n,ne⟩,r,q,z,d⟩
end
structure Cls(K:PySem.W.Frag)(C:Addr):Prop where
 pg:plainGet K C Str.empty=true
 hd:hasDictIn K C=true
 po:plainOver K C=true
 sa:PySem.W.findIn K (.ref C) "__setattr__"=some (some (.builtin "object.__setattr__"))
theorem Cls.get{K:PySem.W.Frag}{C:Addr}(c:Cls K C)(f:Str):plainGet K C f=true:=c.pg
def zaq(K:PySem.W.Frag)(C:Addr)(f:Str):Prop:=PySem.W.findIn K (.ref C) f=some none
theorem zaq.taker{K:PySem.W.Frag}{C:Addr}{f:Str}(n:zaq K C f):takerIn K C f=some none:=by
 unfold takerIn
 rw [show PySem.W.findIn K (.ref C) f=some none from n]
 rfl
structure zcm(K:PySem.W.Frag)(C:Addr)(m:Str)(f:Addr):Prop where
 at_:PySem.W.findIn K (.ref C) m=some (some (.ref f))
 fn:isFn K (.ref f)=true
 kp:keepIn K (.ref f)=true
section
variable {X:Cx}{Ga:List (Addr×Obj)}{σ:St}{H:Hp}{s:Shared}{a C dx:Addr}{fs:List (Str×V)}{f:Str}{v:V}{A:Around}{E:Value->Shared->Prop}
theorem zkH{b:Bool}{Q:Value->Shared->Prop}(I:Inv X Ga σ H s)(e:H a=some (.ins C dx fs))(c:Cls X.K C)(n:zaq X.K C f)(l:fs.lookup f=some v)
  (h:∀u s',Inv X Ga σ H s'->zm v u->Q u s'):wpAny (model X.prog X.w) A (getAttr (.ref a) f b) Q E s:=by
 obtain ⟨mA,O,r,_,_,_⟩:=zfq I.hok e
 obtain ⟨u,hu,ru⟩:=zaB.some_of (v:=v) (o:=mA f) (by rw [<- l];exact r f)
 exact zqt I.kIn O (c.get f) c.hd n hu (zv3 ru) (h u _ (I.tok _) ru)
theorem zeq{m:Str}{g:Addr}{pl:Sem Bool}{Q:Value×List Value->Shared->Prop}(I:Inv X Ga σ H s)(e:H a=some (.ins C dx fs))(c:Cls X.K C)(k:zcm X.K C m g)(l:fs.lookup m=none)
  (h:Q (.ref g,[.ref a]) s):wpAny (model X.prog X.w) A (getMethod (.ref a) m pl) Q E s:=by
 obtain ⟨mA,O,r,_,_,_⟩:=zfq I.hok e
 have hn:mA m=none:=zaB.none_of (by rw [<- l];exact r m)
 exact zxU I.kIn O (c.get m) k.at_ k.fn hn h
theorem zk2{y:V}{u:Value}{Q:Unit->Shared->Prop}(I:Inv X Ga σ H s)(e:H a=some (.ins C dx fs))(c:Cls X.K C)(n:zaq X.K C f)(hl:fs.length<1000)(ry:zm y u)
  (h:∀s',Inv X Ga σ (upd H a (.ins C dx (zB f y fs))) s'->Q () s'):wpAny (model X.prog X.w) A (setAttr (.ref a) f u) Q E s:=by
 obtain ⟨mA,O,r,wi,_,ho⟩:=zfq I.hok e
 have hz:(fs.map (·.1)).length<=sizeLine:=by rw [length_map,sizeLine_eq];omega
 refine zo1 I.kIn O c.sa c.po n.taker c.hd wi hz λh' O' sb=>h _ ?_
 have hd:∃o,h'.get? dx=some o:=let ⟨o,_,_,e',_⟩:=O'.ns;⟨o,e'⟩
 refine I.write (x:=a) (e:=dx) (by rw [e];exact True.intro) (.inr ho) (λb q hb z=>(sb.2 b hb).trans z) hd ?_
 refine ⟨by rw [zd O.ne];exact ho,?_,O.ne,O'.obj,_,O'.ns,λg=>?_,λg hg=>?_⟩
 ·have:=zlk f y fs;omega
 ·show zaB ((zB f y fs).lookup g) (if g=f then some u else mA g)
  rw [zjh]
  by_cases q:g=f
  ·rw [if_pos q,if_pos q];exact ry
  ·rw [if_neg q,if_neg q];exact r g
 ·by_cases q:g=f
  ·rw [q];exact (zgl f y fs).1
  ·refine (zgl f y fs).2 g (wi g λz=>hg ?_)
   show (if g=f then some u else mA g)=none
   rw [if_neg q];exact z
theorem Inv.made(I:Inv X Ga σ H s):Inv X Ga σ (upd (upd H s.heap.objs.size (.own (s.heap.objs.size+1))) (s.heap.objs.size+1) (.ins C s.heap.objs.size []))
  { s with heap:=(s.heap.push emptyDict).push (instObj C s.heap.objs.size) }:=by
 have e1:(s.heap.push emptyDict).get? s.heap.objs.size=some emptyDict:=get?_push_size s.heap rfl
 have e2:((s.heap.push emptyDict).push (instObj C s.heap.objs.size)).get? (s.heap.objs.size+1)=some (instObj C s.heap.objs.size):=by
  have:=get?_push_size (s.heap.push emptyDict) (o:=instObj C s.heap.objs.size) rfl
  rwa [size_push] at this
 have e3:(s.heap.push emptyDict).Ns s.heap.objs.size (λ_=>none):=⟨emptyDict,#[],_,e1,rfl,(λe he=>absurd he (by simp)),λ_=>rfl⟩
 have I1:=I.laid (a:=s.heap.objs.size) (o:=.own (s.heap.objs.size+1)) (h':=s.heap.push emptyDict) (t':=s.toks) (λb u q=>get?_push_of_some _ q) (le_refl _) ⟨_,e1⟩
 refine I1.laid (a:=s.heap.objs.size+1) (o:=.ins C s.heap.objs.size []) (t':=s.toks) (λb u q=>get?_push_of_some _ q) (le_of_eq (size_push _ _)) ?_
 have ne:s.heap.objs.size≠s.heap.objs.size+1:=ne_of_lt (lt_succ_self _)
 refine ⟨by rw [zd ne,zq],zero_le _,ne,e2,λ_=>none,(Heap.Ns1.of_empty e3).at λo q=>get?_push_of_some _ q,λ_=>True.intro,λy hy=>absurd rfl hy⟩
theorem zpm{prog:Program}{w:World}{env:Env}{e:Expr}{f:Str}{pos:Pos}{s:Shared}{Q:Value->Shared->Prop}(hb:attributeBase e f env (eval e env)=eval e env)
  (h:wpAny (model prog w) A (eval e env) (λo s₁=>wpAny (model prog w) A (getAttr o f true) Q E s₁) E s):wpAny (model prog w) A (eval (.Attribute e f pos) env) Q E s :=
 Attribute_any_ h (by rw [arm_eval_Attribute,hb])
end
def zfH(X:Cx)(op:Operator)(rd:V->V->Hp->VK->Prop):Prop :=
 ∀(Ga:List (Addr×Obj))(s:Shared)(σ:St)(H:Hp)(x y:V)(u v:Value)(Q:VK),Inv X Ga σ H s->zm x u->zm y v->rd x y H Q->wpAny (model X.prog X.w) X.A (inplaceOp op u v) (EP X Ga σ Q) X.xe s
section
variable {X:Cx}{o e value:Expr}{f:Str}{pos pos' tpos:Pos}{ta tv:TE}
def zie:V->V->Hp->VK->Prop:=λx y H Q=>∃i j,x = .int i/\y = .int j/\Q (.int (i+j)) H
def zhY:V->V->Hp->VK->Prop:=λx y H Q=>∃i j,x = .int i/\y = .int j/\Q (.int (i-j)) H
theorem zvn:zfH X .Add zie:=by
 rintro Ga s σ H x y u v Q I rx ry ⟨i,j,rfl,rfl,q⟩
 obtain ⟨t,rfl⟩:=(show ∃t,u=Value.int i t from rx)
 obtain ⟨t',rfl⟩:=(show ∃t',v=Value.int j t' from ry)
 exact PyProof.Rows.iadd_int ⟨.int (i+j),H,I.tok _,⟨_,rfl⟩,q⟩
theorem zo7:zfH X .Sub zhY:=by
 rintro Ga s σ H x y u v Q I rx ry ⟨i,j,rfl,rfl,q⟩
 obtain ⟨t,rfl⟩:=(show ∃t,u=Value.int i t from rx)
 obtain ⟨t',rfl⟩:=(show ∃t',v=Value.int j t' from ry)
 exact PyProof.Rows.isub_int ⟨.int (i-j),H,I.tok _,⟨_,rfl⟩,q⟩
theorem zy9{pl:Sem Bool}{m:Str}{apos:Pos}{args:List Expr}{Ga:List (Addr×Obj)}{s:Shared}{σ:St}{H:Hp}{Q:Value->Shared->Prop}{te:TE}(he:PE X e te)(I:Inv X Ga σ H s)
  (h:te σ H λx H1=>∃a C dx fs g,x = .ref a/\H1 a=some (.ins C dx fs)/\Cls X.K C/\zcm X.K C m g/\fs.lookup m=none /\
   ∀s1,Inv X Ga σ H1 s1->wpAny (model X.prog X.w) X.A (callWith pos (.ref g) [.ref a] (backTo pos (starEach args X.env)) (backToKw pos (keywordEach [] X.env))) Q X.xe s1)
  (ht:eval (.Call (.Attribute e m apos) args [] pos) X.env=(do
   let ov<-eval e X.env
   standAt apos.atName
   let (f,first)<-holding [ov] (getMethod ov m pl)
   callWith pos f first (backTo pos (starEach args X.env)) (backToKw pos (keywordEach [] X.env)))) :
  wpAny (model X.prog X.w) X.A (eval (.Call (.Attribute e m apos) args [] pos) X.env) Q X.xe s:=by
 refine methodCall_KW (pl:=pl) (thn (he Ga s σ H _ I h) λu s1 ⟨x,H1,I1,rx,a,C,dx,fs,g,ex,ea,c,k,l,q⟩=>?_) ht
 subst ex
 obtain rfl:u=Value.ref a:=rx
 exact zeq I1 ea c k l (q s1 I1)
end
section
variable {X:Cx}{Ga:List (Addr×Obj)}{σ:St}{H:Hp}{s:Shared}{A:Around}{E:Value->Shared->Prop}{Q:Value->Shared->Prop}{c:Value}{b:Bool}
inductive za2(K:PySem.W.Frag)(H:Hp):V->Value->Prop where
 | non:za2 K H .non (.type "NoneType")
 | bl (x:Bool):za2 K H (.bl x) (.type "bool")
 | int (i:Int):za2 K H (.int i) (.type "int")
 | str (x:Str):za2 K H (.str x) (.type "str")
 | flt (x:UInt64):za2 K H (.flt x) (.type "float")
 | lst {a:Addr}{xs:List V} (e:H a=some (.lst xs)):za2 K H (.ref a) (.type "list")
 | frz {a:Addr}{o:Obj}{xs:List V} (e:H a=some (.frz o (.lst xs))):za2 K H (.ref a) (.type "list")
 | tup {a:Addr}{xs:List V} (e:H a=some (.tup xs)):za2 K H (.ref a) (.type "tuple")
 | dK {a:Addr}{kvs:List (Key×V)} (e:H a=some (.dK kvs)):za2 K H (.ref a) (.type "dict")
 | dT {a:Addr}{kvs:List (List Key×V)} (e:H a=some (.dT kvs)):za2 K H (.ref a) (.type "dict")
 | ins {a C dx:Addr}{fs:List (Str×V)} (e:H a=some (.ins C dx fs)) (cl:Cls K C) (ha:PySem.W.findIn K (.ref C) "__class__"=some (some (.builtin "object.__class__")))
   (hn:PySem.W.specialIn K (.builtin "object.__class__") "__get__"=some (some (.builtin "getset_descriptor.__get__"))) (htk:PySem.W.takesIn K (.builtin "object.__class__")=some true)
   (hm:PySem.W.mroIn K C (.type "object")=some true):za2 K H (.ref a) (.ref C)
theorem zvx{x:V}{u t:Value}(I:Inv X Ga σ H s)(rx:zm x u)(ty:za2 X.K H x t)(e:PySem.W.kitOne X.K t c=some b)(h:∀tk,Q (.bool b) { s with toks:=tk }) :
  wpAny (model X.prog X.w) A (call (.builtin "isinstance") [u,c]) Q E s:=by
 cases ty with
 | non=>cases (show u=Value.none from rx);exact PySem.W.kia_one PySem.W.kitx_none I.kIn True.intro e (λz=>nomatch z) h
 | bl y=>cases (show u=Value.bool y from rx);exact PySem.W.kia_one PySem.W.kitx_bool I.kIn True.intro e (λz=>nomatch z) h
 | int i=>obtain ⟨t,q⟩:=(show ∃t,u=Value.int i t from rx);cases q;exact PySem.W.kia_one PySem.W.kitx_int I.kIn True.intro e (λz=>nomatch z) h
 | str y=>obtain ⟨t,q⟩:=(show ∃t,u=Value.str y t from rx);cases q;exact PySem.W.kia_one PySem.W.kitx_str I.kIn True.intro e (λz=>nomatch z) h
 | flt y=>obtain ⟨t,q⟩:=(show ∃t,u=float y t from rx);cases q;exact PySem.W.kia_one PySem.W.kitx_float I.kIn True.intro e (λz=>nomatch z) h
 | @lst a xs ea =>
  cases (show u=Value.ref a from rx)
  obtain ⟨_,_,n,_,h1⟩:=(show zW X.prog X.w H s.heap a (.lst xs) from I.hok a _ ea)
  exact PySem.W.kia_one PySem.W.kitx_list I.kIn ⟨_,h1,rfl⟩ e (λz=>nomatch z) h
 | @frz a ob xs ea =>
  cases (show u=Value.ref a from rx)
  obtain ⟨_,_,_,n,_,h1⟩:=(show zW X.prog X.w H s.heap a (.frz ob (.lst xs)) from I.hok a _ ea)
  exact PySem.W.kia_one PySem.W.kitx_list I.kIn ⟨_,h1,rfl⟩ e (λz=>nomatch z) h
 | @tup a xs ea =>
  cases (show u=Value.ref a from rx)
  obtain ⟨_,_,_,p⟩:=(show zW X.prog X.w H s.heap a (.tup xs) from I.hok a _ ea)
  obtain ⟨o,h1,h2,_⟩:=p
  exact PySem.W.kia_one PySem.W.kitx_tuple I.kIn ⟨o,h1,h2⟩ e (λz=>nomatch z) h
 | @dK a kvs ea =>
  cases (show u=Value.ref a from rx)
  obtain ⟨_,_,vs,_,p⟩:=(show zW X.prog X.w H s.heap a (.dK kvs) from I.hok a _ ea)
  obtain ⟨o,es,ep,h1,h2,_⟩:=p
  exact PySem.W.kia_one PySem.W.kitx_dict I.kIn ⟨o,h1,h2.1⟩ e (λz=>nomatch z) h
 | @dT a kvs ea =>
  cases (show u=Value.ref a from rx)
  obtain ⟨_,_,xs,_,o,es,ep,h1,h2,_⟩:=(show zW X.prog X.w H s.heap a (.dT kvs) from I.hok a _ ea)
  exact PySem.W.kia_one PySem.W.kitx_dict I.kIn ⟨o,h1,h2.1⟩ e (λz=>nomatch z) h
 | @ins a C dx fs ea cl ha hn htk hm =>
  cases (show u=Value.ref a from rx)
  obtain ⟨mA,O,_⟩:=zfq I.hok ea
  obtain ⟨od,J,_⟩:=O.look
  exact PySem.W.kia_one (PySem.W.kitx_own (cl.get _) cl.hd ha hn htk hm) I.kIn J e (λz=>nomatch z) h
end
structure zx(c:Bool)(k:Nat)(A:Around):Prop where
 hd:c=true->A.handled=none
 dp:A.depth+3*k+5<recursionLimit
 un:A.units+16*k+200<cLine
 gd:A.guards=some []
theorem zx.mono{c:Bool}{j k:Nat}{A:Around}(r:zx c k A)(h:j<=k):zx c j A:=⟨r.hd,by have:=r.dp;omega,by have:=r.un;omega,r.gd⟩
theorem zx.deeper{c:Bool}{k:Nat}{A:Around}(r:zx c (k+1) A)(env:Env):zx c k (A.deeper env) :=
 ⟨r.hd,by have:=r.dp;show A.depth+1+3*k+5<_;omega,by have:=r.un;show A.units+3+16*k+200<_;omega,by first|exact r.gd|simpa [Around.deeper,Around.under,Code.isGuard] using r.gd⟩
theorem znu{A:Around}{C:Addr}{us:List Value}{kw:List (Str×Value)}:(A.under (.builtin "type.__call__" ⟨.ref C::us,kw⟩)).depth=A.depth+1:=by
 first|rfl|simp [Around.under,Code.weight,Code.isCreation,Code.isGuard,Code.isCaller,Code.frames,Code.isFrame,guardIds]
theorem zta{A:Around}{C:Addr}{us:List Value}{kw:List (Str×Value)}:(A.under (.builtin "type.__call__" ⟨.ref C::us,kw⟩)).units=A.units+1:=by
 first|rfl|simp [Around.under,Code.cUnits,Code.frames,Code.isFrame]
theorem zx.make{c:Bool}{k:Nat}{A:Around}(r:zx c (k+1) A)(C:Addr)(us:List Value)(kw:List (Str×Value)):zx c k (A.under (.builtin "type.__call__" ⟨.ref C::us,kw⟩)) :=
 ⟨r.hd,by have:=r.dp;rw [znu];omega,by have:=r.un;rw [zta];omega,by first|exact r.gd|simpa [Around.under,Code.isGuard,guardIds] using r.gd⟩
theorem zx.depth{c:Bool}{k:Nat}{A:Around}(r:zx c k A):A.depth<recursionLimit:=by have:=r.dp;omega
theorem zx.units{c:Bool}{k:Nat}{A:Around}(r:zx c k A):A.units+64<cLine:=by have:=r.un;omega
def za0:TA:=λ_ H Q=>Q [] H
def zeZ(ta:TE)(tr:TA):TA:=λσ H Q=>ta σ H λx H1=>tr σ H1 λxs H2=>Q (x::xs) H2
section
variable {X:Cx}{e:Expr}{es:List Expr}{te:TE}{t:TA}{pos:Pos}
theorem zce:PA X [] za0:=λ_ _ _ _ H Q I h=>Calls.spliced_nil ⟨[],H,I,.nil,h⟩
theorem zcs(ha:PE X e te)(hr:PA X es t)(hs:starEach (e::es) X.env=(false,eval e X.env)::starEach es X.env:=by rfl):PA X (e::es) (zeZ te t):=by
 intro pos Ga s σ H Q I h
 rw [hs]
 show wpAny _ _ (spliced ((false,eval e X.env)::backTo pos (starEach es X.env))) _ _ s
 refine Calls.spliced_cons (thn (ha Ga s σ H _ I h) λu s1 ⟨x,H1,I1,r1,q1⟩=>?_)
 exact thn (hr pos Ga s1 σ H1 _ I1 q1) λus s2 ⟨xs,H2,I2,r2,q2⟩=>⟨x::xs,H2,I2,.cons r1 r2,q2⟩
def zrm(t:TA):TE:=λσ H Q=>t σ H λxs H1=>xs.length<=sizeLine/\∀p,H1 p=none->Q (.ref p) (upd H1 p (.tup xs))
theorem zvM{x1}(h:PA X es t):PE X (.Tuple es x1 pos) (zrm t):=by
 intro Ga s σ H Q I hq
 refine wpAny_Tuple_spliced (thn (h pos Ga s σ H _ I hq) λus s1 ⟨xs,H1,I1,r,z,q⟩=>⟨by rw [<- r.length];exact z,?_⟩)
 have hf:H1 s1.heap.objs.size=none:=I1.hok.fresh (le_refl _)
 refine ⟨.ref s1.heap.objs.size,upd H1 s1.heap.objs.size (.tup xs),I1.laid (t':=s1.toks) (λb u e=>get?_push_of_some _ e) (le_refl _) ?_,rfl,q _ hf⟩
 exact ⟨z,us,r,⟨_,get?_push_size _ rfl,rfl,_,rfl⟩⟩
end
abbrev Sp:=List V->Hp->VK->XK->Prop
abbrev CXT:=List Env->Hp->Shared->XK->Value->Shared->Prop
structure zc1(P:Program)(w:World)(K:PySem.W.Frag)(mg:Str->Option Value)(base:Heap)(A:Around)(outer:List Env)(s:Shared)(H:Hp):Prop where
 frames:A.frames=some outer
 hdk:zeJ A H
 mod:Mod K mg base
 bs:∀b o,base.get? b=some o->s.heap.get? b=some o/\H b=none
 bsz:base.objs.size<=s.heap.objs.size
 funs:s.heap.FunFrames base outer
 frf:∀b∈frs outer,H b=none
 hok:HOk P w H s.heap
 bare:AllBare s.gens
def CE(outer:List Env)(P:Program)(w:World)(H:Hp)(s:Shared)(Q:VK)(u:Value)(s':Shared):Prop :=
 ∃v H',s'.os=s.os/\AllBare s'.gens/\Un (frs outer) [] H H' s.heap s'.heap/\HOk P w H' s'.heap/\zm v u/\Q v H'
def CR(CX:CXT)(outer:List Env)(P:Program)(w:World)(H:Hp)(s:Shared)(Q:VK)(E:XK)(r:Result)(s':Shared):Prop :=
 match r with
 | .ok (.ret u)=>CE outer P w H s Q u s'
 | .ok _=>False
 | .error e=>CX outer H s E e s'
structure zo(P:Program)(w:World)(K:PySem.W.Frag)(mg:Str->Option Value)(base:Heap)(CX:CXT)(c:Bool)(k:Nat)(f:Addr)(fd:FuncData)(ps:List Str)(sp:Sp):Prop where
 len:∀vs H Q E,sp vs H Q E->vs.length=ps.length
 run:∀(A:Around)(outer:List Env)(s:Shared)(H:Hp)(args:Args)(us:List Value)(vs:List V)(Q:VK)(E:XK),zx c k A->zc1 P w K mg base A outer s H->BindsTo s fd args (ps.zip us)->zj vs us->sp vs H Q E ->
  codeAny (model P w) A (.call (.ref f) args) (CR CX outer P w H s Q E) s
theorem zo.imp{P:Program}{w:World}{K:PySem.W.Frag}{mg:Str->Option Value}{base:Heap}{CX:CXT}{c:Bool}{k:Nat}{f:Addr}{fd:FuncData}{ps:List Str}{sp sp':Sp}(F:zo P w K mg base CX c k f fd ps sp)
  (h:∀vs H Q E,sp' vs H Q E->sp vs H Q E):zo P w K mg base CX c k f fd ps sp' :=
 ⟨λvs H Q E q=>F.len vs H Q E (h _ _ _ _ q),λA outer s H args us vs Q E hr he hb hv hs=>F.run A outer s H args us vs Q E hr he hb hv (h _ _ _ _ hs)⟩
theorem zc1.make{P:Program}{w:World}{K:PySem.W.Frag}{mg:Str->Option Value}{base:Heap}{A:Around}{outer:List Env}{s:Shared}{H:Hp}(e:zc1 P w K mg base A outer s H)(C:Addr)(us:List Value)(kw:List (Str×Value)) :
  zc1 P w K mg base (A.under (.builtin "type.__call__" ⟨.ref C::us,kw⟩)) outer s H:=⟨by first|exact e.frames|(simpa [Around.under,Code.envs,Code.isFrame,pushEnvs] using e.frames),e.hdk,e.mod,e.bs,e.bsz,e.funs,e.frf,e.hok,e.bare⟩
section
variable {X:Cx}{Ga:List (Addr×Obj)}{σ:St}{H:Hp}{s s':Shared}
theorem Inv.env0(I:Inv X Ga σ H s):zc1 X.prog X.w X.K X.mg X.base X.A X.stack s H :=
 ⟨I.ok.frames,I.hdk,I.ok.mod,I.bs,le_trans I.ok.bsz I.sz,I.stack,I.stkFree,I.hok,I.bare⟩
theorem Inv.after{Q:VK}{u:Value}(I:Inv X Ga σ H s)(h:CE X.stack X.prog X.w H s Q u s'):EP X Ga σ Q u s':=by
 obtain ⟨v,H',os,bare,un,hok,r,q⟩:=h
 obtain ⟨hh,g,d,t,os'⟩:=s'
 obtain rfl:os'=s.os:=os
 exact ⟨v,H',I.call (h':=hh) (g':=g) (d':=d) (t':=t) (ch:=[]) un hok bare (λb z=>absurd z (by simp)),r,q⟩
end
def zeu(sp:Sp)(dvs:List V)(E:XK)(t:TA):TE:=λσ H Q=>t σ H λvs H1=>sp (vs++dvs) H1 Q E
def zci(C:Addr)(m:Str)(sp:Sp)(dvs:List V)(E:XK)(ta:TE)(t:TA):TE:=λσ H Q=>ta σ H λx H1=>∃a dx fs,x = .ref a/\H1 a=some (.ins C dx fs)/\fs.lookup m=none /\
 t σ H1 λvs H2=>sp (x::(vs++dvs)) H2 Q E
def zkK(C:Addr)(sp:Sp)(dvs:List V)(E:XK)(t:TA):TE:=λσ H Q=>t σ H λvs H1=>∀x dx,H1 x=none->H1 dx=none->dx≠x ->
 sp (.ref x::(vs++dvs)) (upd (upd H1 dx (.own x)) x (.ins C dx [])) (λv H2=>v = .non/\Q (.ref x) H2) E
def zax(K:PySem.W.Frag)(fd:FuncData)(ps:List Str)(ds:List Value):Prop :=
 ∀(s:Shared)(us:List Value),K.In s.heap->(us++ds).length=ps.length->BindsTo s fd ⟨us,[]⟩ (ps.zip (us++ds))
theorem zax.all{K:PySem.W.Frag}{fd:FuncData}{ps:List Str}(h:∀us:List Value,us.length=ps.length->bindArgs fd ⟨us,[]⟩=pure (ps.zip us)):zax K fd ps []:=λs us _ hl=>by
 rw [append_nil] at hl ⊢
 exact .of_eq (h us hl)
def zch(CX:CXT)(X:Cx)(E:XK):Prop:=∀(Ga:List (Addr×Obj))(σ:St)(H:Hp)(s:Shared)(e:Value)(s':Shared),Inv X Ga σ H s->CX X.stack H s E e s'->X.xe e s'
section
variable {X:Cx}{CX:CXT}{cm:Bool}{k:Nat}{f C:Addr}{fd:FuncData}{ps:List Str}{sp:Sp}{dvs:List V}{ds:List Value}{E:XK}{x m:Str}{p pos apos:Pos}{e o:Expr}{es:List Expr}{ta:TE}{t:TA}
theorem zgN{Ga:List (Addr×Obj)}{σ:St}{H:Hp}{s:Shared}{Q:VK}{us:List Value}{vs:List V}(F:zo X.prog X.w X.K X.mg X.base CX cm k f fd ps sp)(hr:zx cm k X.A)(hb:zax X.K fd ps ds)(hd:zj dvs ds)(hx:zch CX X E)
  (I:Inv X Ga σ H s) (r:zj vs us) (h:sp (vs++dvs) H Q E):wpAny (model X.prog X.w) X.A (call (.ref f) us) (EP X Ga σ Q) X.xe s:=by
 have r2:zj (vs++dvs) (us++ds):=r.append hd
 have hl:(us++ds).length=ps.length:=by rw [<- r2.length];exact F.len _ _ _ _ h
 refine wpAny_call (codeAny_mono (F.run X.A X.stack s H ⟨us,[]⟩ (us++ds) (vs++dvs) Q E hr I.env0 (hb s us I.kIn hl) r2 h) λr s' hq=>?_)
 cases r with
 | error e=>exact hx Ga σ H s e s' I hq
 | ok fl =>
  cases fl with
  | ret u=>exact I.after hq
  | next=>exact False.elim hq
  | brk=>exact False.elim hq
  | cont=>exact False.elim hq
theorem ztJ(F:zo X.prog X.w X.K X.mg X.base CX cm k f fd ps sp)(hr:zx cm k X.A)(hg:Gl X x)(hm:X.mg x=some (.ref f))(hk:keepIn X.K (.ref f)=true)(hb:zax X.K fd ps ds)(hd:zj dvs ds)(hx:zch CX X E)
  (ha:PA X (e::es) t) (hdb:(x==("__debug__":Str))=false:=by decide) (he:starEach (e::es) X.env=(false,eval e X.env)::starEach es X.env:=by rfl) (hpl:(backTo pos (starEach es X.env)).any (·.1)=false:=by rfl) :
  PE X (.Call (.Name x p) (e::es) [] pos) (zeu sp dvs E t):=by
 intro Ga s σ H Q I h
 refine wpAny_Call_Name_kw (zcK I hg hm ?_ hdb)
 refine callWith_K (h₀:=X.base) I.ok.mod.kin hk (thn (ha pos Ga s σ H _ I h) λus s1 ⟨vs,H1,I1,r,q⟩=>⟨I1.kIn,?_⟩) he hpl
 exact zgN F hr hb hd hx I1 r q
theorem zrg{pl:Sem Bool}(he:PE X o ta)(c:Cls X.K C)(hm:zcm X.K C m f)(F:zo X.prog X.w X.K X.mg X.base CX cm k f fd ps sp)(hr:zx cm k X.A)(hb:zax X.K fd ps ds)(hd:zj dvs ds)(hx:zch CX X E)(ha:PA X (e::es) t)
  (hst:starEach (e::es) X.env=(false,eval e X.env)::starEach es X.env:=by rfl) (hpl:(backTo pos (starEach es X.env)).any (·.1)=false:=by rfl)
  (ht:eval (.Call (.Attribute o m apos) (e::es) [] pos) X.env=(do
   let ov<-eval o X.env
   standAt apos.atName
   let (f,first)<-holding [ov] (getMethod ov m pl)
   callWith pos f first (backTo pos (starEach (e::es) X.env)) (backToKw pos (keywordEach [] X.env))):=by rfl) :
  PE X (.Call (.Attribute o m apos) (e::es) [] pos) (zci C m sp dvs E ta t):=by
 intro Ga s σ H Q I h
 refine methodCall_KW (pl:=pl) (thn (he Ga s σ H _ I h) λu s1 ⟨x,H1,I1,rx,a,dx,fs,ex,ea,l,q⟩=>?_) ht
 subst ex
 obtain rfl:u=Value.ref a:=rx
 refine zeq I1 ea c hm l ?_
 refine callWith_K (first:=[.ref a]) (h₀:=X.base) I.ok.mod.kin hm.kp (thn (ha pos Ga s1 σ H1 _ I1 q) λus s2 ⟨vs,H2,I2,r,q2⟩=>⟨I2.kIn,?_⟩) hst hpl
 exact zgN (us:=.ref a::us) (vs:=.ref a::vs) F hr hb hd hx I2 (.cons rfl r) q2
theorem zwb{pl:Sem Bool}(he:PE X o ta)(c:Cls X.K C)(hm:zcm X.K C m f)(F:zo X.prog X.w X.K X.mg X.base CX cm k f fd ps sp)(hr:zx cm k X.A)(hb:zax X.K fd ps ds)(hd:zj dvs ds)(hx:zch CX X E)
  (ht:eval (.Call (.Attribute o m apos) [] [] pos) X.env=(do
   let ov<-eval o X.env
   standAt apos.atName
   let (f,first)<-holding [ov] (getMethod ov m pl)
   callWith pos f first (backTo pos (starEach [] X.env)) (backToKw pos (keywordEach [] X.env))):=by rfl) :
  PE X (.Call (.Attribute o m apos) [] [] pos) (zci C m sp dvs E ta za0):=by
 intro Ga s σ H Q I h
 refine methodCall_KW (pl:=pl) (thn (he Ga s σ H _ I h) λu s1 ⟨x,H1,I1,rx,a,dx,fs,ex,ea,l,q⟩=>?_) ht
 subst ex
 obtain rfl:u=Value.ref a:=rx
 refine zeq I1 ea c hm l ?_
 exact callWith_K0 (first:=[.ref a]) I1.kIn hm.kp (zgN (us:=[.ref a]) (vs:=[.ref a]) F hr hb hd hx I1 (.cons rfl .nil) q)
structure Mk(K:PySem.W.Frag)(C f:Addr):Prop where
 makes:makesIn K C=true
 init:PySem.W.findIn K (.ref C) "__init__"=some (some (.ref f))
 fn:isFn K (.ref f)=true
 kp:keepIn K (.ref C)=true
theorem zl5{Ga:List (Addr×Obj)}{σ:St}{H:Hp}{s:Shared}{Q:VK}{us:List Value}{vs:List V}(M:Mk X.K C f)(F:zo X.prog X.w X.K X.mg X.base CX cm k f fd ps sp)(hr:zx cm (k+1) X.A)(hb:zax X.K fd ps ds)(hd:zj dvs ds)
  (hx:zch CX X E) (I:Inv X Ga σ H s) (r:zj vs us)
  (h:∀x dx,H x=none->H dx=none->dx≠x->sp (.ref x::(vs++dvs)) (upd (upd H dx (.own x)) x (.ins C dx [])) (λv H2=>v = .non/\Q (.ref x) H2) E) :
  wpAny (model X.prog X.w) X.A (call (.ref C) us) (EP X Ga σ Q) X.xe s:=by
 have hq:=h (s.heap.objs.size+1) s.heap.objs.size (I.hok.fresh (le_succ _)) (I.hok.fresh (le_refl _)) (ne_of_lt (lt_succ_self _))
 have I2:=Inv.made (C:=C) I
 have r2:zj (V.ref (s.heap.objs.size+1)::(vs++dvs)) (Value.ref (s.heap.objs.size+1)::(us++ds)):=.cons rfl (r.append hd)
 have hl:(Value.ref (s.heap.objs.size+1)::us++ds).length=ps.length:=by
  have e:=r2.length
  rw [F.len _ _ _ _ hq] at e
  exact e.symm
 refine wpAny_call (zjn (f:=f) I.kIn M.makes M.init (beq_iff_eq.mp M.fn) (codeAny_mono (F.run _ X.stack _ _ ⟨Value.ref (s.heap.objs.size+1)::us,[]⟩ (Value.ref (s.heap.objs.size+1)::(us++ds)) _ _ E (hr.make C us [])
  (I2.env0.make C us []) (hb _ (Value.ref (s.heap.objs.size+1)::us) I2.kIn hl) r2 hq) λr s' hq'=>?_))
 cases r with
 | error e=>exact hx Ga σ _ _ e s' I2 hq'
 | ok fl =>
  cases fl with
  | ret u =>
   obtain ⟨v,H',I3,rv,ev,q3⟩:=I2.after hq'
   subst ev
   exact ⟨rv,⟨V.ref (s.heap.objs.size+1),H',I3,rfl,q3⟩⟩
  | next=>exact False.elim hq'
  | brk=>exact False.elim hq'
  | cont=>exact False.elim hq'
theorem zmQ(M:Mk X.K C f)(F:zo X.prog X.w X.K X.mg X.base CX cm k f fd ps sp)(hr:zx cm (k+1) X.A)(hg:Gl X x)(hm:X.mg x=some (.ref C))(hb:zax X.K fd ps ds)(hd:zj dvs ds)(hx:zch CX X E)
  (ha:PA X (e::es) t) (hdb:(x==("__debug__":Str))=false:=by decide) (he:starEach (e::es) X.env=(false,eval e X.env)::starEach es X.env:=by rfl) (hpl:(backTo pos (starEach es X.env)).any (·.1)=false:=by rfl) :
  PE X (.Call (.Name x p) (e::es) [] pos) (zkK C sp dvs E t):=by
 intro Ga s σ H Q I h
 refine wpAny_Call_Name_kw (zcK I hg hm ?_ hdb)
 refine callWith_K (h₀:=X.base) I.ok.mod.kin M.kp (thn (ha pos Ga s σ H _ I h) λus s1 ⟨vs,H1,I1,r,q⟩=>⟨I1.kIn,?_⟩) he hpl
 exact zl5 M F hr hb hd hx I1 r q
theorem zp4(M:Mk X.K C f)(F:zo X.prog X.w X.K X.mg X.base CX cm k f fd ps sp)(hr:zx cm (k+1) X.A)(hg:Gl X x)(hm:X.mg x=some (.ref C))(hb:zax X.K fd ps ds)(hd:zj dvs ds)(hx:zch CX X E)
  (hdb:(x==("__debug__":Str))=false:=by decide):PE X (.Call (.Name x p) [] [] pos) (zkK C sp dvs E za0):=by
 intro Ga s σ H Q I h
 refine wpAny_Call_Name_kw (zcK I hg hm ?_ hdb)
 exact callWith_K0 I.kIn M.kp (zl5 (us:=[]) M F hr hb hd hx I .nil h)
end
section
variable {X:Cx}{CX:CXT}{cm:Bool}{k:Nat}{f C:Addr}{fd:FuncData}{ps ks:List Str}{sp:Sp}{E:XK}{x m:Str}{p pos apos kpos:Pos}{e o:Expr}{es:List Expr}{kws:List Keyword}{te ta:TE}{t tk:TA}{nm:Option Str}
variable {g:List Value->List Value->List Value}{gV:List V->List V->List V}
end
structure zu(N P:List Str)(sc:Scope):Prop where
 kind:sc.kind = .function
 co:sc.isCoroutine=false
 gen:sc.isGenerator=false
 nd:N.Nodup
 pre:N.take P.length=P
 par:∀x∈P,sc.names.lookup x=some .local\/sc.names.lookup x=some .cell
 nofree:∀y∈sc.names,y.2≠.free
theorem zjA{kindOf:Str->Option NameKind}{x:Str}:∀{binds:List (Str×Value)}{m:Str->Option Value},(∀v,(x,v)∉binds)->bindL kindOf binds m x=m x
 | [],_,_=>rfl
 | (n,v)::r,m,h=>by
  unfold bindL
  rw [zjA λw hw=>h w (mem_cons_of_mem _ hw)]
  split
  ·have:x≠n:=by rintro rfl;exact h v mem_cons_self
   simp [this]
  ·rfl
theorem zi0{kindOf:Str->Option NameKind}{x:Str}:∀{binds:List (Str×Value)}{m:Str->Option Value},(∀v,(x,v)∉binds)->bindC kindOf binds m x=m x
 | [],_,_=>rfl
 | (n,v)::r,m,h=>by
  unfold bindC
  rw [zi0 λw hw=>h w (mem_cons_of_mem _ hw)]
  split
  ·rfl
  ·have:x≠n:=by rintro rfl;exact h v mem_cons_self
   simp [this]
theorem zmy{kindOf:Str->Option NameKind}{x:Str}{v:Value}:∀{P:List Str}{vs:List Value}{i:Nat}{m:Str->Option Value},P.Nodup->P[i]?=some x->vs[i]?=some v->kindOf x=some .local ->
  bindL kindOf (P.zip vs) m x=some v
 | [],_,_,_,_,h,_,_=>by simp at h
 | _::_,[],_,_,_,_,h,_=>by simp at h
 | p::P,w::vs,0,m,nd,h1,h2,hk=>by
  simp at h1 h2;subst h1;subst h2
  show bindL kindOf ((p,w)::P.zip vs) m p=_
  unfold bindL
  rw [zjA λv hv=>(nodup_cons.mp nd).1 (List.of_mem_zip hv).1,if_pos hk]
  simp
 | p::P,w::vs,i+1,m,nd,h1,h2,hk=>by
  show bindL kindOf ((p,w)::P.zip vs) m x=_
  unfold bindL
  exact zmy (i:=i) (nodup_cons.mp nd).2 (by simpa using h1) (by simpa using h2) hk
theorem zjC{kindOf:Str->Option NameKind}{x:Str}{v:Value}:∀{P:List Str}{vs:List Value}{i:Nat}{m:Str->Option Value},P.Nodup->P[i]?=some x->vs[i]?=some v->kindOf x≠some .local ->
  bindC kindOf (P.zip vs) m x=some v
 | [],_,_,_,_,h,_,_=>by simp at h
 | _::_,[],_,_,_,_,h,_=>by simp at h
 | p::P,w::vs,0,m,nd,h1,h2,hk=>by
  simp at h1 h2;subst h1;subst h2
  show bindC kindOf ((p,w)::P.zip vs) m p=_
  unfold bindC
  rw [zi0 λv hv=>(nodup_cons.mp nd).1 (List.of_mem_zip hv).1,if_neg hk]
  simp
 | p::P,w::vs,i+1,m,nd,h1,h2,hk=>by
  show bindC kindOf ((p,w)::P.zip vs) m x=_
  unfold bindC
  exact zjC (i:=i) (nodup_cons.mp nd).2 (by simpa using h1) (by simpa using h2) hk
def start(N:List Str)(vs:List V):St:=vs.map some++replicate (N.length-vs.length) none
def za3(CX:CXT)(cm:Bool)(P:Program)(w:World)(K:PySem.W.Frag)(mg:Str->Option Value)(base:Heap)(N:List Str)(qual:Str)(scope:Scope)(f:Addr)(cd:Value)(A:Around)(outer:List Env)(s:Shared)(H:Hp)(E:XK):Cx where
 prog:=P
 w:=w
 K:=K
 mg:=mg
 base:=base
 A:=A.deeper (envOfC qual scope s.heap.objs.size f cd)
 N:=N
 s₀:=s
 H₀:=H
 env:=envOfC qual scope s.heap.objs.size f cd
 outer:=outer
 stack:=envOfC qual scope s.heap.objs.size f cd::outer
 ex:=[]
 calm:=cm
 fn:=λ_=>true
 pn:=[]
 xe:=λe s'=>wpAny (model P w) (A.deeper (envOfC qual scope s.heap.objs.size f cd)) (leaving (envOfC qual scope s.heap.objs.size f cd) e) (λ_ s''=>CX outer H s E e s'') (λe' s''=>CX outer H s E e' s'') s'
theorem zkF{sc:Scope}{n:Nat}{x:Str}(h:sc.names.lookup x=some .cell):∃c,(cellsFrom n sc.names []).lookup x=some c:=by
 have q:=PySem.W.cellsFrom_some sc.names n [] (.inl h)
 exact isSome_iff_exists.mp q
theorem ztp{CX:CXT}{cm:Bool}{P:Program}{w:World}{K:PySem.W.Frag}{mg:Str->Option Value}{base:Heap}{N ps:List Str}{qual:Str}{scope:Scope}{f:Addr}{cd:Value}{A:Around}{outer:List Env}{s s1:Shared}{H:Hp}{E:XK}{us:List Value}{vs:List V}
  (S:zu N ps scope) (hd:cm=true->A.handled=none) (e0:zc1 P w K mg base A outer s H) (hl:vs.length=ps.length) (r:zj vs us)
  (x:InCallC s s.heap.objs.size (bindL (envOfC qual scope s.heap.objs.size f cd).kindOf (ps.zip us) λ_=>none) (cellsFrom (s.heap.objs.size+1) scope.names []) (bindC (envOfC qual scope s.heap.objs.size f cd).kindOf (ps.zip us) λ_=>none) s1) :
  Inv (za3 CX cm P w K mg base N qual scope f cd A outer s H E) [] (start N vs) H s1:=by
 have hpl:ps.length<=N.length:=by have:=congrArg List.length S.pre;rw [length_take] at this;omega
 obtain ⟨h1,tk,rfl,hk⟩:=x.done
 have noA:∀b:Addr,b∉(za3 CX cm P w K mg base N qual scope f cd A outer s H E).ex:=λb z=>absurd (show b∈([]:List Addr) from z) (by simp)
 refine ⟨⟨e0.mod,S.kind,rfl,rfl,le_refl _,λy z c h1 h2=>?_,λy hy=>?_,λy c _ h=>?_,hd,Around.frames_deeper e0.frames,.inr ⟨rfl,rfl⟩,λb z=>absurd z (noA b),e0.bs,e0.bsz,λb _ _=>noA b,λb z=>absurd z (noA b),e0.funs,e0.frf⟩,
  rfl,e0.bare,Un.kept hk,⟨_,x.toInCall.ns,λi y v h1 h2 h3=>?_⟩,λy c h=>⟨_,x.cell y c h⟩,e0.hok.fresh (le_refl _),λy c h=>?_,λp hp=>absurd (show p∈([]:List (Addr×Obj)) from hp) (by simp),e0.hok.kept hk,?_,e0.hdk⟩
 ·exact name_of_addr x.apart (PySem.mem_of_lookup h1) (PySem.mem_of_lookup h2)
 ·have hy:scope.names.lookup y=some .cell\/scope.names.lookup y=some .free:=hy
  rcases hy with hy|hy
  ·exact zkF hy
  ·exact absurd rfl (S.nofree _ (PySem.mem_of_lookup hy))
 ·exact le_of_lt (x.above y c (PySem.mem_of_lookup h))
 ·have hi:i<vs.length:=by
   unfold start at h2
   by_cases hi:i<vs.length
   ·exact hi
   ·rw [List.getElem?_append_right (by simpa using hi)] at h2
    rw [List.getElem?_replicate] at h2
    split at h2<;>cases h2
  have ha:vs[i]?=some v:=by
   unfold start at h2
   rw [List.getElem?_append_left (by simpa using hi),getElem?_map] at h2
   cases e:vs[i]? with
   | none=>rw [e] at h2;cases h2
   | some a=>rw [e] at h2;cases h2;rfl
  obtain ⟨u,hu,rv⟩:=r.get ha
  have hp:ps[i]?=some y:=by
   rw [<- S.pre,List.getElem?_take_of_lt (by omega)];exact h1
  have ndP:ps.Nodup:=by rw [<- S.pre];exact S.nd.sublist (List.take_sublist _ _)
  refine ⟨u,rv,?_⟩
  rcases S.par y (mem_of_getElem? hp) with k|k
  ·exact .inl ⟨k,zmy ndP hp hu k⟩
  ·obtain ⟨c,e⟩:=zkF (n:=s.heap.objs.size+1) k
   refine .inr ⟨.inl k,c,e,?_⟩
   have q:=x.cell y c e
   rw [zjC ndP hp hu (by show scope.names.lookup y≠_;rw [k];decide)] at q
   exact q
 ·exact e0.hok.fresh (le_of_lt (x.above y c (PySem.mem_of_lookup h)))
 ·unfold start
  show _=N.length
  rw [length_append,length_map,length_replicate]
  omega
theorem zhk{CX:CXT}{cm:Bool}{P:Program}{w:World}{K:PySem.W.Frag}{mg:Str->Option Value}{base:Heap}{k:Nat}{f:Addr}{name qual:Str}{params:Arguments}{body:List Stmt}{scope:Scope}{dV kV doc pm cdv ct oc:Value}{an od:Option Addr}
  {osl:Array (Option Value)}{N ps:List Str}{sp:Sp} (lk:K.lookup f=some ⟨oc,od,.func (fnOf name qual params body scope dV kV doc pm an cdv ct),osl⟩) (hcd:codeIn K cdv qual=true) (S:zu N ps scope)
  (len:∀vs H Q E,sp vs H Q E->vs.length=ps.length)
  (hbody:∀(A:Around)(outer:List Env)(s:Shared)(H:Hp)(vs:List V)(Q:VK)(E:XK),zx cm k (A.deeper (envOfC qual scope s.heap.objs.size f cdv))->sp vs H Q E ->
   ∃t,PSs (za3 CX cm P w K mg base N qual scope f cdv A outer s H E) body t/\t { nx:=λ_ H'=>Q .non H',rt:=Q } (start N vs) H) :
  zo P w K mg base CX cm (k+1) f (fnOf name qual params body scope dV kV doc pm an cdv ct) ps sp:=by
 refine ⟨len,λA outer s H args us vs Q E hr e0 hb r hsp=>?_⟩
 have hl:=len _ _ _ _ hsp
 have KX:K.In s.heap:=e0.mod.kin.keeps λb o e=>(e0.bs b o e).1
 have lim:s.heap.NoLimit:=e0.mod.nolimit.keeps λb o e=>(e0.bs b o e).1
 have hkind:∀y∈ps.zip us,scope.names.lookup y.1=some .local\/(scope.names.lookup y.1=some .cell/\((cellsFrom (s.heap.objs.size+1) scope.names []).lookup y.1).isSome=true):=λ⟨n,v⟩ hy=>by
  rcases S.par n (List.of_mem_zip hy).1 with q|q
  ·exact .inl q
  ·exact .inr ⟨q,PySem.W.cellsFrom_some _ _ _ (.inl q)⟩
 refine codeAny_call_function hr.depth (KX _ _ lk) rfl S.co S.gen rfl (PySem.W.codeRec_of KX hcd) (hb _ _ _ _ ?_)
 refine wpAny_newFunctionEnv_cells S.kind hkind λenv he s1 x=>?_
 subst he
 refine ⟨lim.keeps x.toInCall.keep,codeAny_func ?_⟩
 obtain ⟨t,ht,hq⟩:=hbody A outer s H vs Q E (hr.deeper _) hsp
 have I:Inv (za3 CX cm P w K mg base N qual scope f cdv A outer s H E) [] (start N vs) H s1:=ztp S hr.hd e0 hl r x
 refine wpAny_mono (ht [] s1 (start N vs) H _ I hq) (λfl s' hs=>?_) λe s' hs=>hs
 have fin:∀{σ':St}{H':Hp}{v:V}{u:Value},Inv (za3 CX cm P w K mg base N qual scope f cdv A outer s H E) [] σ' H' s'->zm v u->Q v H'->CE outer P w H s Q u s' :=
  λ{σ' H' v u} J rv q=>⟨v,H',J.os,J.bare,J.base,J.hok,rv,q⟩
 cases fl with
 | ret u =>
  obtain ⟨v,σ',H',J,rv,q⟩:=hs
  exact fin J rv q
 | next =>
  obtain ⟨σ',H',J,q⟩:=hs
  exact fin (v:=V.non) (u:=Value.none) J rfl q
 | brk =>
  obtain ⟨_,_,_,q⟩:=hs
  exact False.elim q
 | cont =>
  obtain ⟨_,_,_,q⟩:=hs
  exact False.elim q
section
variable {X:Cx}{x:Str}{p pos:Pos}{e:Expr}{es:List Expr}{t:TA}{id T:String}{r:List V->Hp->VK->Prop}
def tCB(r:List V->Hp->VK->Prop)(t:TA):TE:=λσ H Q=>t σ H λvs H1=>r vs H1 Q
theorem zjb(hc:zK X (.builtin id) r)(hg:Gl X x)(hm:X.mg x=none)(hv:bootBuiltins x=some (.builtin id))(ha:PA X (e::es) t)(hn:x≠"__name__":=by decide)(hdb:(x==("__debug__":Str))=false:=by decide)
  (he:starEach (e::es) X.env=(false,eval e X.env)::starEach es X.env:=by rfl) (hpl:(backTo pos (starEach es X.env)).any (·.1)=false:=by rfl):PE X (.Call (.Name x p) (e::es) [] pos) (tCB r t):=by
 intro Ga s σ H Q I h
 refine wpAny_Call_Name_kw (zb7 I hg hm hv ?_ hn hdb)
 exact PyProof.Rows.callWith_builtin1 (thn (ha pos Ga s σ H _ I h) λus s1 ⟨vs,H1,I1,r1,q1⟩=>hc Ga s1 σ H1 vs us Q I1 r1 q1) he hpl
theorem zoV(hc:zK X (.type T) r)(hg:Gl X x)(hm:X.mg x=none)(hv:bootBuiltins x=some (.type T))(ha:PA X (e::es) t)(hn:x≠"__name__":=by decide)(hdb:(x==("__debug__":Str))=false:=by decide)
  (he:starEach (e::es) X.env=(false,eval e X.env)::starEach es X.env:=by rfl) (hpl:(backTo pos (starEach es X.env)).any (·.1)=false:=by rfl):PE X (.Call (.Name x p) (e::es) [] pos) (tCB r t):=by
 intro Ga s σ H Q I h
 refine wpAny_Call_Name_kw (zb7 I hg hm hv ?_ hn hdb)
 exact PyProof.Rows.callWith_type1 (thn (ha pos Ga s σ H _ I h) λus s1 ⟨vs,H1,I1,r1,q1⟩=>hc Ga s1 σ H1 vs us Q I1 r1 q1) he hpl
end
end L2
namespace HT
open PySem PyProof.Rows
section
open PySem.SeqAt
open PySem.AutoSeq1 (wpAny_loadPart')
open PySem.MeetsSeq PySem.MeetsSeq2 PySem.MeetsSeq3
end
section
variable {prog:Program}{w:World}{A:Around}{E:Value->Shared->Prop}{s:Shared}
theorem cat_tup{t b:Addr}{vs ws:List Value}{Q:Value->Shared->Prop}(ht:IsTup s.heap t vs.toArray)(hb:IsTup s.heap b ws.toArray)(hv:vs≠[])
  (h1:ws=[]->Q (.ref t) s) (h2:ws≠[]->Q (.ref s.heap.objs.size) { s with heap:=s.heap.push { cls:=.type "tuple",data:=.seq (vs++ws).toArray } })
  (hsz:vs.length+ws.length<=sizeLine):wpAny (model prog w) A (binaryOp .Add (.ref t) (.ref b)) Q E s:=by
 obtain ⟨⟨cls,dd,data,sl⟩,ho,hc,n,hd⟩:=id ht
 obtain ⟨⟨cls2,dd2,data2,sl2⟩,ho2,hc2,n2,hd2⟩:=id hb
 simp only at hc hd hc2 hd2
 subst hc hd hc2 hd2
 have e:vs.toArray++ws.toArray=(vs++ws).toArray:=by simp
 by_cases hw:ws=[]
 ·exact concat_meets ⟨_,ho,rfl⟩ ⟨_,ho2,rfl⟩ noFill_tuple_add seq_tuple_add slot_tuple_add entry_tuple_add (args_tuple_add_2 _ _)
   (tuple_addW1 t b vs.toArray ws.toArray n n2 dd dd2 sl sl2 (by simpa using hv) (by simp [hw])) ⟨ho,ho2,h1 hw⟩
 ·refine concat_meets ⟨_,ho,rfl⟩ ⟨_,ho2,rfl⟩ noFill_tuple_add seq_tuple_add slot_tuple_add entry_tuple_add (args_tuple_add_2 _ _)
   (tuple_addW2 t b vs.toArray ws.toArray n n2 dd dd2 sl sl2 (by simpa using hv) (by simpa using hw) (by rw [size_toArray,size_toArray];exact hsz)) ⟨ho,ho2,?_⟩
  rw [e]
  exact h2 hw
def sIx(n d:Nat):Option Int->Nat
 | none=>d
 | some v=>if v<0 then (v+(n:Int)).toNat else min v.toNat n
theorem sIx_none(n d:Nat):sIx n d none=d:=rfl
theorem sIx_nat(n d k:Nat):sIx n d (some (k:Int))=min k n:=by
 show (if (k:Int)<0 then ((k:Int)+(n:Int)).toNat else min (k:Int).toNat n)=min k n
 rw [if_neg (by omega),toNat_natCast]
theorem zuy(n d:Nat)(hd:d<=n)(o:Option Int):sIx n d o<=n:=by
 cases o with
 | none=>exact hd
 | some v =>
  show (if v<0 then (v+(n:Int)).toNat else min v.toNat n)<=n
  by_cases hv:v<0
  ·rw [if_pos hv];omega
  ·rw [if_neg hv];exact Nat.min_le_right _ _
theorem zmv(v:Int)(n d:Nat):(if v<0 then max (v+(n:Int)) 0 else min v (n:Int))=((sIx n d (some v):Nat):Int):=by
 show (if v<0 then max (v+(n:Int)) 0 else min v (n:Int))=(((if v<0 then (v+(n:Int)).toNat else min v.toNat n):Nat):Int)
 by_cases hv:v<0
 ·simp only [if_pos hv];omega
 ·simp only [if_neg hv];omega
theorem znW(lo hi:Option Int)(n:Nat):Builtin.Slice.sliceAdjust lo hi 1 (n:Int)=(((sIx n 0 lo:Nat):Int),((sIx n n hi:Nat):Int)):=by
 have h1 : ¬ ((1:Int)<0):=by omega
 unfold Builtin.Slice.sliceAdjust
 simp only [h1,if_false]
 refine Prod.ext ?_ ?_
 ·cases lo with
  | none=>rfl
  | some v=>exact zmv v n 0
 ·cases hi with
  | none=>rfl
  | some v=>exact zmv v n n
theorem znj(i j:Nat):Builtin.Slice.slicePlaces (i:Int) (j:Int) 1=j-i:=by
 unfold Builtin.Slice.slicePlaces
 have h1:(1:Int)>0:=by omega
 simp only [h1,if_true,Int.ediv_one]
 split<;>omega
theorem zkh{v:Value}{o:Option Int}{Q:Option Int->Shared->Prop}(p:IsPart v o)(h:Q o s):wpAny (model prog w) A (Builtin.Slice.slicePartIndex v) Q E s:=by
 cases p with
 | none=>exact slicePart_none h
 | int i t=>exact slicePart_int h
theorem zlz{sl:Addr}{vl vu:Value}{lo hi:Option Int}{n:Nat}{Q:Int×Int×Nat->Shared->Prop}(hs:s.heap.IsSliceOf sl vl vu .none)(pl:IsPart vl lo)(pu:IsPart vu hi)
  (h:Q (((sIx n 0 lo:Nat):Int),1,sIx n n hi-sIx n 0 lo) s):wpAny (model prog w) A (Builtin.Slice.sliceApplied (.ref sl) (pure (n:Int))) Q E s:=by
 obtain ⟨os,hos,hcs,hds⟩:=id hs
 unfold Builtin.Slice.sliceApplied Builtin.Slice.sliceFields
 refine wpAny_bind (wpAny_bind (wpAny_field hos hds (x:=vl) rfl (wpAny_bind (wpAny_field hos hds (x:=vu) rfl (wpAny_bind (wpAny_field hos hds (x:=.none) rfl (wpAny_pure ?_)))))))
 refine wpAny_bind (slicePart_none ?_)
 show wpAny _ _ (if ((1:Int)==0)=true then _ else _) _ _ s
 rw [if_neg (by decide)]
 refine wpAny_bind (zkh pl (wpAny_bind (zkh pu (wpAny_bind (wpAny_pure ?_)))))
 show wpAny _ _ (match Builtin.Slice.sliceAdjust lo hi 1 (n:Int) with|(lo,hi)=>pure (lo,(1:Int),Builtin.Slice.slicePlaces lo hi 1)) _ _ s
 rw [znW lo hi n]
 show wpAny _ _ (pure (((sIx n 0 lo:Nat):Int),(1:Int),Builtin.Slice.slicePlaces ((sIx n 0 lo:Nat):Int) ((sIx n n hi:Nat):Int) 1)) _ _ s
 rw [znj]
 exact wpAny_pure h
theorem zn3(xs:Array Value)(i k:Nat):((range k).filterMap λ(m:Nat)=>xs[((i:Int)+(m:Int)*1).toNat]?).toArray=((xs.toList.drop i).take k).toArray:=by
 have e:(λ(m:Nat)=>xs[((i:Int)+(m:Int)*1).toNat]?)=λm=>xs[i+m]?:=by
  funext m
  have:((i:Int)+(m:Int)*1).toNat=i+m:=by omega
  rw [this]
 rw [e]
 have:=pick_run xs i k
 rw [List.filterMap_map] at this
 have e2:((λx=>xs[x]?)∘λx=>i+x)=λm=>xs[i+m]?:=rfl
 rw [e2] at this
 rw [this]
theorem getItem_tuple_cut{t sl:Addr}{items:Array Value}{vl vu:Value}{lo hi:Option Int}{Q:Value->Shared->Prop}(ht:IsTup s.heap t items)(hs:s.heap.IsSliceOf sl vl vu .none)(pl:IsPart vl lo)(pu:IsPart vu hi)
  (hw : ¬ (sIx items.size 0 lo=0/\sIx items.size items.size hi=items.size))
  (h:Q (.ref s.heap.objs.size) { s with heap:=s.heap.push { cls:=.type "tuple",data:=.seq ((items.toList.drop (sIx items.size 0 lo)).take (sIx items.size items.size hi-sIx items.size 0 lo)).toArray } })
  (hsz:items.size<=sizeLine):wpAny (model prog w) A (getItem (.ref t) (.ref sl)) Q E s:=by
 have htake:sizeOk (.seq ((items.toList.drop (sIx items.size 0 lo)).take (sIx items.size items.size hi-sIx items.size 0 lo)).toArray):=by
  show ((items.toList.drop (sIx items.size 0 lo)).take (sIx items.size items.size hi-sIx items.size 0 lo)).toArray.size<=sizeLine
  rw [size_toArray,length_take,length_drop,length_toList]
  omega
 have hj:sIx items.size items.size hi<=items.size:=zuy _ _ (le_refl _) hi
 obtain ⟨os,hos,hcs,hds⟩:=id hs
 have hTs:s.TypeIs (.ref sl) "slice":=⟨os,hos,hcs⟩
 unfold getItem
 try with_reducible refine wpAny_holding ?_
 first|refine wpAny_bind (wpAny_pure ?_)|skip
 refine wpAny_bind (wpAny_sequenceKey ht.typeIs (by decide) ?_)
 refine wpAny_bind (wpAny_callSpecial?_slot (name:=Str.ofString "__getitem__") ht.typeIs PyProof.Rows.slot_tuple_getitem
  (wpAny_call_entry PyProof.Rows.slot_tuple_getitem ht.typeIs entry_tuple_getitem ?_ (args_tuple_getitem _ _)))
 show wpAny _ _ (Builtin.Tuple.tupleItemsOf (.ref t)>>=_) _ _ s
 refine wpAny_bind (tupleItemsOf_ ht ?_)
 refine wpAny_bind (wpAny_typeOf hTs ?_)
 rw [if_pos (by decide)]
 refine wpAny_bind (zlz hs pl pu ?_)
 have hno : ¬ ((((sIx items.size 0 lo:Nat):Int)==0&&(1:Int)==1&&(sIx items.size items.size hi-sIx items.size 0 lo)==items.size)=true):=by
  intro q
  rw [and_eq_true,and_eq_true] at q
  have q1:((sIx items.size 0 lo:Nat):Int)=0:=eq_of_beq q.1.1
  have q2:sIx items.size items.size hi-sIx items.size 0 lo=items.size:=eq_of_beq q.2
  exact hw ⟨by omega,by omega⟩
 show wpAny _ _ (if (((sIx items.size 0 lo:Nat):Int)==0&&(1:Int)==1&&(sIx items.size items.size hi-sIx items.size 0 lo)==items.size)=true then _ else _) _ _ s
 rw [if_neg hno,zn3]
 first
  | exact wpAny_bind (m:=Builtin.Tuple.tupleExact _) (wpAny_newObj_type (wpAny_pure ⟨_,rfl,wpAny_pure h⟩) htake)
  | exact wpAny_bind (m:=Builtin.Tuple.tupleExact _) (wpAny_newObj_type (wpAny_bind (wpAny_pure (wpAny_pure ⟨_,rfl,wpAny_pure h⟩))) htake)
  | exact wpAny_bind (wpAny_bind (m:=Builtin.Tuple.tupleExact _) (wpAny_newObj_type (wpAny_pure (wpAny_pure ⟨_,rfl,wpAny_pure h⟩)) htake))
  | exact wpAny_bind (wpAny_bind (m:=Builtin.Tuple.tupleExact _) (wpAny_newObj_type (wpAny_pure ⟨_,rfl,wpAny_pure h⟩) htake))
end
end HT
namespace L2
open PySem PySem.Spec PyProof.Rows
abbrev TO:=St->Hp->(Option Int->Hp->Prop)->Prop
def PO(X:Cx)(e:Option Expr)(t:TO):Prop :=
 ∀(Ga:List (Addr×Obj))(s:Shared)(σ:St)(H:Hp)(Q:Option Int->Hp->Prop),Inv X Ga σ H s->t σ H Q ->
  wpAny (model X.prog X.w) X.A (evalPart e X.env) (λu s'=>∃o H',Inv X Ga σ H' s'/\IsPart u o/\Q o H') X.xe s
def zgF:TO:=λ_ H Q=>Q none H
def zgY(t:TE):TO:=λσ H Q=>t σ H λx H1=>∃i,x = .int i/\Q (some i) H1
section
variable {X:Cx}{e:Expr}{te:TE}{lo hi:Option Expr}{tl th:TO}{pos p2:Pos}
theorem znC:PO X none zgF:=by
 intro Ga s σ H Q I h
 rw [evalPart_none]
 exact wpAny_pure ⟨none,H,I,.none,h⟩
theorem zq2(h:PE X e te):PO X (some e) (zgY te):=by
 intro Ga s σ H Q I hw
 rw [evalPart_some]
 refine thn (h Ga s σ H _ I hw) λu s1 ⟨x,H1,I1,r1,q1⟩=>?_
 obtain ⟨i,rfl,q⟩:=q1
 obtain ⟨t,rfl⟩:=r1
 exact ⟨some i,H1,I1,.int i t,q⟩
def SlR(X:Cx)(r:V->Option Int->Option Int->Hp->VK->Prop):Prop :=
 ∀(Ga:List (Addr×Obj))(s:Shared)(σ:St)(H:Hp)(x:V)(v vl vu:Value)(lo hi:Option Int)(sl:Addr)(Q:VK),Inv X Ga σ H s->zm x v->s.heap.IsSliceOf sl vl vu .none->IsPart vl lo->IsPart vu hi->r x lo hi H Q ->
  ∃T id,typeLookup (.type T) "__getitem__"=pure (some (.builtin id))/\s.TypeIs v T/\wpAny (model X.prog X.w) X.A (getItem v (.ref sl)) (EP X Ga σ Q) X.xe s
theorem SlR.or{r r':V->Option Int->Option Int->Hp->VK->Prop}(h:SlR X r)(h':SlR X r'):SlR X (λx lo hi H Q=>r x lo hi H Q\/r' x lo hi H Q):=by
 intro Ga s σ H x v vl vu lo hi sl Q I rx hs pl pu q
 rcases q with q|q
 ·exact h Ga s σ H x v vl vu lo hi sl Q I rx hs pl pu q
 ·exact h' Ga s σ H x v vl vu lo hi sl Q I rx hs pl pu q
def tSl(r:V->Option Int->Option Int->Hp->VK->Prop)(te:TE)(tl th:TO):TE:=λσ H Q=>te σ H λx H1=>tl σ H1 λl H2=>th σ H2 λu H3=>r x l u H3 Q
theorem zwX{r:V->Option Int->Option Int->Hp->VK->Prop}(hr:SlR X r)(he:PE X e te)(hl:PO X lo tl)(hu:PO X hi th):PE X (.Subscript e (.Slice lo hi none p2) pos) (tSl r te tl th):=by
 intro Ga s σ H Q I h
 refine Subscript_ (thn (he Ga s σ H _ I h) λv s1 ⟨x,H1,I1,r1,q1⟩=>?_)
 refine wpAny_Slice (thn (hl Ga s1 σ H1 _ I1 q1) λvl s2 ⟨l,H2,I2,pl,q2⟩=>thn (hu Ga s2 σ H2 _ I2 q2) λvu s3 ⟨u,H3,I3,pu,q3⟩=>?_)
 rw [evalPart_none]
 refine wpAny_pure ?_
 have I4:Inv X Ga σ H3 { s3 with heap:=s3.heap.push { cls:=.type "slice",data:=.fields #[vl,vu,.none] } }:=I3.kept (t':=s3.toks) λb ob q=>get?_push_of_some _ q
 obtain ⟨T,id,hT,ht,hg⟩:=hr Ga { s3 with heap:=s3.heap.push { cls:=.type "slice",data:=.fields #[vl,vu,.none] } } σ H3 x v vl vu l u s3.heap.objs.size Q I4 r1 (Heap.IsSliceOf.new ..) pl pu q3
 show wpAny (model X.prog X.w) X.A (subscriptTail e (.Slice lo hi none p2) v (.ref s3.heap.objs.size)) (EP X Ga σ Q) X.xe { s3 with heap:=s3.heap.push { cls:=.type "slice",data:=.fields #[vl,vu,.none] } }
 exact tail_any (ops:=[.ref s3.heap.objs.size,v]) ht hT hg (by with_unfolding_all rfl)
def zaw(xs:List V)(lo hi:Option Int):List V:=(xs.drop (HT.sIx xs.length 0 lo)).take (HT.sIx xs.length xs.length hi-HT.sIx xs.length 0 lo)
theorem zkd(xs:List V)(lo hi:Option Int):(zaw xs lo hi).length<=xs.length:=by
 unfold zaw
 rw [length_take,length_drop]
 omega
def zuh(K:PySem.W.Frag):V->Option Int->Option Int->Hp->VK->Prop:=λx lo hi H Q=>∃a xs,x = .ref a/\SqT K H a xs /\
 ¬ (HT.sIx xs.length 0 lo=0/\HT.sIx xs.length xs.length hi=xs.length)/\∀p,H p=none->Q (.ref p) (upd H p (.tup (zaw xs lo hi)))
theorem zrG:SlR X (zuh X.K):=by
 intro Ga s σ H x v vl vu lo hi sl Q I rx hs pl pu h
 obtain ⟨a,xs,rfl,hx,hw,q⟩:=h
 cases rx
 obtain ⟨its,r,ht,hz⟩:=I.tuple hx
 have hlen:its.toArray.size=xs.length:=by rw [size_toArray];exact r.length.symm
 refine ⟨"tuple",_,PyProof.Rows.slot_tuple_getitem.lookup,ht.typeIs,?_⟩
 refine HT.getItem_tuple_cut ht hs pl pu (by rw [hlen];exact hw) ?_ (by rw [hlen];exact hz)
 rw [hlen]
 refine ⟨.ref s.heap.objs.size,_,I.laid (t':=s.toks) (o:=.tup (zaw xs lo hi)) (λb ob q=>get?_push_of_some _ q) (le_refl _) ?_,rfl,q _ (I.hok.fresh (le_refl _))⟩
 exact ⟨le_trans (zkd xs lo hi) hz,_,(r.drop (HT.sIx xs.length 0 lo)).take (HT.sIx xs.length xs.length hi-HT.sIx xs.length 0 lo),IsTup.new _ _⟩
def zq7(K:PySem.W.Frag):R2:=λx y H Q=>∃a b xs ys,x = .ref a/\y = .ref b/\SqT K H a xs/\SqT K H b ys/\xs≠[]/\xs.length+ys.length<=sizeLine /\
 (ys=[]->Q (.ref a) H)/\(ys≠[]->∀p,H p=none->Q (.ref p) (upd H p (.tup (xs++ys))))
theorem zj.nil_iff{xs:List V}{us:List Value}(r:zj xs us):us=[]↔xs=[]:=by
 cases r with
 | nil=>simp
 | cons _ _=>simp
theorem zwd:OpR X (binaryOp .Add) (zq7 X.K):=by
 intro Ga s σ H x y v u Q I rx ry h
 obtain ⟨a,b,xs,ys,rfl,rfl,ha,hb,hx,hz,q1,q2⟩:=h
 cases rx
 cases ry
 obtain ⟨its,r1,p1,_⟩:=I.tuple ha
 obtain ⟨its2,r2,p2,_⟩:=I.tuple hb
 refine HT.cat_tup p1 p2 (λz=>hx (r1.nil_iff.mp z)) (λz=>⟨.ref a,H,I,rfl,q1 (r2.nil_iff.mp z)⟩) (λz=>?_) (by rw [<- r1.length,<- r2.length];exact hz)
 refine ⟨.ref s.heap.objs.size,_,I.laid (t':=s.toks) (o:=.tup (xs++ys)) (λb ob q=>get?_push_of_some _ q) (le_refl _) ?_,rfl,q2 (λw=>z (r2.nil_iff.mpr w)) _ (I.hok.fresh (le_refl _))⟩
 exact ⟨by rw [length_append];exact hz,_,r1.append r2,IsTup.new _ _⟩
end
def ixN(n:Nat)(i:Int):Option Nat:=if 0<=i then (if i<n then some i.toNat else none) else if -(n:Int)<=i then some (i+n).toNat else none
def atI{α:Type}(xs:List α)(i:Int):Option α:=(ixN xs.length i).bind λj=>xs[j]?
theorem zj5{n:Nat}{i:Int}{j:Nat}(h:ixN n i=some j):seqIndex? i n=some j/\j<n/\-(n:Int)<=i/\i<n:=by
 unfold ixN at h
 by_cases h0:0<=i
 ·rw [if_pos h0] at h
  by_cases h1:i<n
  ·rw [if_pos h1] at h
   have e:i.toNat=j:=Option.some.inj h
   exact ⟨by rw [seqIndex_of h0 h1,e],by omega,by omega,h1⟩
  ·rw [if_neg h1] at h;cases h
 ·rw [if_neg h0] at h
  by_cases h1 : -(n:Int)<=i
  ·rw [if_pos h1] at h
   have e:(i+n).toNat=j:=Option.some.inj h
   exact ⟨by rw [seqIndex_neg (by omega) h1,e],by omega,h1,by omega⟩
  ·rw [if_neg h1] at h;cases h
theorem zhv{α:Type}{xs:List α}{i:Int}{v:α}(h:atI xs i=some v):∃j,seqIndex? i xs.length=some j/\xs[j]?=some v/\j<xs.length/\-(xs.length:Int)<=i/\i<xs.length:=by
 unfold atI at h
 cases e:ixN xs.length i with
 | none=>rw [e] at h;cases h
 | some j =>
  rw [e] at h
  obtain ⟨h1,h2,h3,h4⟩:=zj5 e
  exact ⟨j,h1,h,h2,h3,h4⟩
theorem zcZ{α:Type}{xs:List α}{j:Nat}{v:α}(h:xs[j]?=some v):atI xs (j:Int)=some v:=by
 have hj:j<xs.length:=(List.getElem?_eq_some_iff.mp h).1
 have e:ixN xs.length (j:Int)=some j:=by
  unfold ixN
  rw [if_pos (by omega),if_pos (by omega)];simp
 unfold atI;rw [e];exact h
theorem zuA{α:Type}(xs:List α)(v:α):atI (xs++[v]) (-1)=some v:=by
 have hl:(xs++[v]).length=xs.length+1:=by simp
 have e:ixN (xs++[v]).length (-1)=some xs.length:=by
  unfold ixN
  rw [hl,if_neg (by decide),if_pos (by omega)]
  congr 1
  omega
 unfold atI
 rw [e]
 show (xs++[v])[xs.length]?=some v
 simp
def zjX(b:Expr):Prop:=∀o i,subscripted b false o i=operate [o,i] (getItem o i)
def IxR(X:Cx)(r:R2):Prop :=
 ∀(value slice:Expr)(Ga:List (Addr×Obj))(s:Shared)(σ:St)(H:Hp)(x y:V)(v u:Value)(Q:VK),Inv X Ga σ H s->zm x v->zm y u->r x y H Q ->
  subscripted slice false v u=operate [v,u] (getItem v u)->wpAny (model X.prog X.w) X.A (subscriptTail value slice v u) (EP X Ga σ Q) X.xe s
def MtR(X:Cx)(id:String)(r:V->List V->Hp->VK->Prop):Prop :=
 ∀(Ga:List (Addr×Obj))(s:Shared)(σ:St)(H:Hp)(x:V)(xs:List V)(v:Value)(us:List Value)(Q:VK),Inv X Ga σ H s->zm x v->zj xs us->r x xs H Q ->
  wpAny (model X.prog X.w) X.A (call (.builtin id) (v::us)) (EP X Ga σ Q) X.xe s
section
variable {X:Cx}{a b:Expr}{ta tb:TE}{pos:Pos}
theorem IxR.or{r r':R2}(h:IxR X r)(h':IxR X r'):IxR X (λx y H Q=>r x y H Q\/r' x y H Q):=by
 intro value slice Ga s σ H x y v u Q I rx ry q hs
 rcases q with q|q
 ·exact h value slice Ga s σ H x y v u Q I rx ry q hs
 ·exact h' value slice Ga s σ H x y v u Q I rx ry q hs
theorem zi4{r:R2}(hr:IxR X r)(ha:PE X a ta)(hb:PE X b tb)(hs:zjX b):PE X (.Subscript a b pos) (tOp r ta tb):=by
 intro Ga s σ H Q I h
 exact Subscript_ (zis ha hb I h λv u s2 x y H2 I2 rx ry q=>hr a b Ga s2 σ H2 x y v u Q I2 rx ry q (hs _ _))
def zlu(K:PySem.W.Frag):R2:=λx y H Q=>∃p xs i v,x = .ref p/\y = .int i/\SqL K H p xs/\atI xs i=some v/\Q v H
def zje(K:PySem.W.Frag):R2:=λx y H Q=>∃p xs i v,x = .ref p/\y = .int i/\SqT K H p xs/\atI xs i=some v/\Q v H
def zkJ:R2:=λx y H Q=>∃z i c,x = .str z/\y = .int i/\z.length<=sizeLine/\atI z.cps.toList i=some c/\Q (.str ⟨#[c]⟩) H
theorem zkv:IxR X (zlu X.K):=by
 intro value slice Ga s σ H x y v u Q I rx ry h hs
 obtain ⟨p,xs,i,z,rfl,rfl,hq,he,q⟩:=h
 cases rx
 obtain ⟨t,rfl⟩:=ry
 obtain ⟨its,r,pl,hz⟩:=I.list hq
 obtain ⟨j,h1,h2,h3,h4,h5⟩:=zhv he
 obtain ⟨w,ew,rw'⟩:=r.get h2
 have hl:=r.length
 have hn:=zcV
 have fin:EP X Ga σ Q w s:=⟨z,H,I,rw',q⟩
 by_cases h0:0<=i
 ·have hj:i.toNat=j:=by
   rw [seqIndex_of h0 h5] at h1
   exact Option.some.inj h1
  exact item_listR pl.isList h0 (by omega) (by rw [hj];simpa using ew) fin hs
 ·have hj:(i+(its.toArray.size:Int)).toNat=j:=by
   rw [seqIndex_neg (by omega) h4] at h1
   rw [size_toArray,<- hl]
   exact Option.some.inj h1
  exact subscriptTail_builtinR (x:=w) pl.isList.typeIs slot_list_getitem.lookup
   (wpAny_getItem_list_neg (Q:=λr s'=>r=w/\EP X Ga σ Q r s') pl.isList (by omega) (by rw [size_toArray]<;>omega) (by omega) (by rw [hj];simpa using ew) ⟨rfl,fin⟩) hs
theorem zup:IxR X (zje X.K):=by
 intro value slice Ga s σ H x y v u Q I rx ry h hs
 obtain ⟨p,xs,i,z,rfl,rfl,hq,he,q⟩:=h
 cases rx
 obtain ⟨t,rfl⟩:=ry
 obtain ⟨its,r,pl,hz⟩:=I.tuple hq
 obtain ⟨j,h1,h2,h3,h4,h5⟩:=zhv he
 obtain ⟨w,ew,rw'⟩:=r.get h2
 have hl:=r.length
 have hn:=zcV
 have fin:EP X Ga σ Q w s:=⟨z,H,I,rw',q⟩
 exact subscriptTail_builtinR (x:=w) pl.typeIs slot_tuple_getitem.lookup
  (getItem_tuple (j:=j) (Q:=λr s'=>r=w/\EP X Ga σ Q r s') pl (by omega) (by omega) (by rw [size_toArray,<- hl];exact h1) (by simpa using ew) ⟨rfl,fin⟩) hs
theorem zvZ:IxR X zkJ:=by
 intro value slice Ga s σ H x y v u Q I rx ry h hs
 obtain ⟨z,i,c,rfl,rfl,hz,he,q⟩:=h
 obtain ⟨t,rfl⟩:=rx
 obtain ⟨t',rfl⟩:=ry
 obtain ⟨j,h1,h2,h3,h4,h5⟩:=zhv he
 have hl:z.cps.toList.length=z.length:=by simp [Str.length]
 rw [hl] at h1 h4 h5
 have hn:=zcV
 exact tail_any (typeIs_str s z t) slot_str_getitem.lookup (getItem_str (c:=c) (by
  have e1:decide (i < -(2 ^ 63:Int))=false:=decide_eq_false (by omega)
  have e2:decide (i ≥ 2 ^ 63)=false:=decide_eq_false (by omega)
  rw [e1,e2,Bool.or_false]) (by rw [h1];simpa using h2) ⟨.str ⟨#[c]⟩,H,I.tok _,⟨_,rfl⟩,q⟩) hs
def rIx(K:PySem.W.Frag):R2:=λx y H Q=>zlu K x y H Q\/zje K x y H Q\/zkJ x y H Q
theorem ztW:IxR X (rIx X.K):=zkv.or (zup.or zvZ)
theorem zvd(its:List Value)(n j:Nat)(u:Value):mapSeq (·.setIfInBounds j u) { cls:=.type "list",data:=.seq its.toArray n }={ cls:=.type "list",data:=.seq (its.set j u).toArray n }:=by
 simp [mapSeq]
theorem Inv.lst{Ga:List (Addr×Obj)}{σ:St}{H:Hp}{s:Shared}{p:Addr}{xs:List V}(I:Inv X Ga σ H s)(h:H p=some (.lst xs)) :
  ∃(its:List Value)(n:Nat),zj xs its/\s.heap.get? p=some { cls:=.type "list",data:=.seq its.toArray n }/\xs.length<=sizeLine:=by
 obtain ⟨z,its,n,r,e⟩:=I.hok p _ h
 exact ⟨its,n,r,e,z⟩
theorem Inv.lstUpd{Ga:List (Addr×Obj)}{σ:St}{H:Hp}{s:Shared}{p:Addr}{xs ys:List V}{its its':List Value}{n n':Nat}{f:Obj->Obj}(I:Inv X Ga σ H s)(h:H p=some (.lst xs))
  (ho:s.heap.get? p=some { cls:=.type "list",data:=.seq its.toArray n }) (hf:f { cls:=.type "list",data:=.seq its.toArray n }={ cls:=.type "list",data:=.seq its'.toArray n' }) (r:zj ys its') (hz:ys.length<=sizeLine) (t:Nat) :
  Inv X Ga σ (upd H p (.lst ys)) { s with heap:=s.heap.update p f,toks:=t }:=by
 have e:(s.heap.update p f).get? p=some { cls:=.type "list",data:=.seq its'.toArray n' }:=by
  rw [get?_update_self f ho (by rw [hf]<;>rfl),hf]
 refine I.write (x:=p) (e:=p) (by rw [h];trivial) (.inl rfl) (λb u hb q=>(get?_update_other _ _ (Ne.symm hb)).trans q) ⟨_,e⟩ ?_
 exact ⟨hz,its',n',r,e⟩
def zgf:V->V->V->Hp->(Hp->Prop)->Prop:=λo i v H Q=>∃p xs k j,o = .ref p/\i = .int k/\H p=some (.lst xs)/\ixN xs.length k=some j/\Q (upd H p (.lst (xs.set j v)))
theorem zdC:zfL X zgf:=by
 intro Ga s σ H o i v ov iv u Q I ro ri rv h
 obtain ⟨p,xs,k,j,rfl,rfl,hp,hj,q⟩:=h
 cases ro
 obtain ⟨t,rfl⟩:=ri
 obtain ⟨its,n,r,ho,hz⟩:=I.lst hp
 obtain ⟨h1,h2,h3,h4⟩:=zj5 hj
 have hl:=r.length
 have hn:=zcV
 have I':Inv X Ga σ (upd H p (.lst (xs.set j v))) { s with heap:=s.heap.update p (mapSeq (·.setIfInBounds j u)) } :=
  I.lstUpd hp ho (zvd its n j u) (r.set rv j) (by rw [length_set];exact hz) s.toks
 by_cases h0:0<=k
 ·have hk:k.toNat=j:=by
   rw [seqIndex_of h0 h4] at h1
   exact Option.some.inj h1
  exact PySem.W.ki_setAt ho h0 (by omega) (by rw [size_toArray,<- hl];exact h4) (by rw [hk];exact ⟨_,I',q⟩)
 ·have hk:(k+(its.toArray.size:Int)).toNat=j:=by
   rw [seqIndex_neg (by omega) h3] at h1
   rw [size_toArray,<- hl]
   exact Option.some.inj h1
  exact PySem.W.ki_setBack ho (by omega) (by rw [size_toArray,<- hl];exact h3) (by omega) (by rw [hk];exact ⟨_,I',q⟩)
theorem zqy(lo hi:Option Int)(n:Nat):(sliceBounds lo hi none n).1=((HT.sIx n 0 lo:Nat):Int)/\(sliceBounds lo hi none n).2.1=((HT.sIx n n hi:Nat):Int)/\(sliceBounds lo hi none n).2.2=1:=by
 refine ⟨?_,?_,rfl⟩
 ·cases lo with
  | none=>simp [sliceBounds,HT.sIx]
  | some i =>
   simp only [sliceBounds,HT.sIx,getD_none,show (1:Int)>0 by decide,if_true]
   by_cases h:i<0
   ·simp only [h,if_true]<;>omega
   ·simp only [h,if_false]<;>omega
 ·cases hi with
  | none=>simp [sliceBounds,HT.sIx]
  | some i =>
   simp only [sliceBounds,HT.sIx,getD_none,show (1:Int)>0 by decide,if_true]
   by_cases h:i<0
   ·simp only [h,if_true]<;>omega
   ·simp only [h,if_false]<;>omega
theorem zwQ(its:List Value)(lo hi:Option Int):slicePick its.toArray lo hi none=((its.drop (HT.sIx its.length 0 lo)).take (HT.sIx its.length its.length hi-HT.sIx its.length 0 lo)).toArray:=by
 obtain ⟨h1,h2,h3⟩:=zqy lo hi its.toArray.size
 unfold slicePick
 rw [h1,h2,h3]
 simp only [sliceRange_one,pick_run,size_toArray]<;>rfl
def zoa(K:PySem.W.Frag):V->Option Int->Option Int->Hp->VK->Prop:=λx lo hi H Q=>∃a xs,x = .ref a/\SqL K H a xs/\∀p,H p=none->Q (.ref p) (upd H p (.lst (zaw xs lo hi)))
theorem zuL:SlR X (zoa X.K):=by
 intro Ga s σ H x v vl vu lo hi sl Q I rx hs pl pu h
 obtain ⟨a,xs,rfl,hx,q⟩:=h
 cases rx
 obtain ⟨its,r,ht,hz⟩:=I.list hx
 have hlen:=r.length
 refine ⟨"list",_,slot_list_getitem.lookup,ht.isList.typeIs,?_⟩
 refine wpAny_getItem_list_slice ht.isList hs pl pu .none (by simp) ?_ (by rw [size_toArray]<;>omega)
 rw [zwQ,<- hlen]
 refine ⟨.ref s.heap.objs.size,_,I.laid (t':=s.toks) (o:=.lst (zaw xs lo hi)) (λb ob q=>get?_push_of_some _ q) (le_refl _) ?_,rfl,q _ (I.hok.fresh (le_refl _))⟩
 exact ⟨le_trans (zkd xs lo hi) hz,_,0,(r.drop (HT.sIx xs.length 0 lo)).take (HT.sIx xs.length xs.length hi-HT.sIx xs.length 0 lo),get?_push_size _ rfl⟩
def zP:V->Bool
 | .non=>true
 | .bl _=>true
 | .int _=>true
 | .str _=>true
 | _=>false
def eqV:V->V->Bool
 | .non,.non=>true
 | .bl a,.bl b=>a==b
 | .bl a,.int b=>(if a then 1 else 0)==b
 | .int a,.bl b=>a==(if b then 1 else 0)
 | .int a,.int b=>a==b
 | .str a,.str b=>a==b
 | _,_=>false
theorem zkO{A:Around}{s:Shared}{y x:V}{u v:Value}(ry:zm y u)(rx:zm x v)(fy:zP y=true)(fx:zP x=true):SeqAt.EqAt A s u v (eqV y x):=by
 cases y with
 | non =>
  cases ry
  cases x with
  | non=>cases rx;exact SeqAt.EqAt.same _
  | bl b=>cases rx;exact SeqAt.EqAt.none_bool b
  | int b=>obtain ⟨t,rfl⟩:=rx;exact SeqAt.EqAt.none_int b t
  | str b=>obtain ⟨t,rfl⟩:=rx;exact SeqAt.EqAt.none_str b t
  | _=>exact absurd (show false=true from fx) Bool.false_ne_true
 | bl a =>
  cases ry
  cases x with
  | non=>cases rx;exact SeqAt.EqAt.bool_none a
  | bl b=>cases rx;exact SeqAt.EqAt.bool_bool a b
  | int b=>obtain ⟨t,rfl⟩:=rx;exact SeqAt.EqAt.bool_int a b t
  | str b=>obtain ⟨t,rfl⟩:=rx;exact SeqAt.EqAt.bool_str a b t
  | _=>exact absurd (show false=true from fx) Bool.false_ne_true
 | int a =>
  obtain ⟨t',rfl⟩:=ry
  cases x with
  | non=>cases rx;exact SeqAt.EqAt.int_none a t'
  | bl b=>cases rx;exact SeqAt.EqAt.int_bool a t' b
  | int b=>obtain ⟨t,rfl⟩:=rx;exact SeqAt.EqAt.int_int a t' b t
  | str b=>obtain ⟨t,rfl⟩:=rx;exact SeqAt.EqAt.int_str a t' b t
  | _=>exact absurd (show false=true from fx) Bool.false_ne_true
 | str a =>
  obtain ⟨t',rfl⟩:=ry
  cases x with
  | non=>cases rx;exact SeqAt.EqAt.str_none a t'
  | bl b=>cases rx;exact SeqAt.EqAt.str_bool a t' b
  | int b=>obtain ⟨t,rfl⟩:=rx;exact SeqAt.EqAt.str_int a t' b t
  | str b=>obtain ⟨t,rfl⟩:=rx;exact SeqAt.EqAt.str_str a t' b t
  | _=>exact absurd (show false=true from fx) Bool.false_ne_true
 | _=>exact absurd (show false=true from fy) Bool.false_ne_true
def eqU(x:V)(u:Value):Bool:=match u with
 | .none=>eqV .non x
 | .bool b=>eqV (.bl b) x
 | .int i _=>eqV (.int i) x
 | .str z _=>eqV (.str z) x
 | _=>false
theorem zjG{x y:V}{u:Value}(r:zm y u)(f:zP y=true):eqU x u=eqV y x:=by
 cases y with
 | non=>cases r;rfl
 | bl b=>cases r;rfl
 | int i=>obtain ⟨t,rfl⟩:=r;rfl
 | str z=>obtain ⟨t,rfl⟩:=r;rfl
 | _=>exact absurd (show false=true from f) Bool.false_ne_true
theorem zhi{x:V}:∀{xs:List V}{us:List Value},zj xs us->xs.all zP=true->us.any (eqU x)=xs.any λy=>eqV y x
 | _,_,.nil,_=>rfl
 | y::xs,u::us,.cons r t,f=>by
  rw [List.all_cons,and_eq_true] at f
  rw [any_cons,any_cons,zjG r f.1,zhi t f.2]
theorem zg0{A:Around}{s:Shared}{x:V}{v:Value}(rx:zm x v)(fx:zP x=true):∀{xs:List V}{us:List Value},zj xs us->xs.all zP=true->∀u∈us,SeqAt.EqAt A s u v (eqU x u)
 | _,_,.nil,_=>λu hu=>by cases hu
 | y::xs,u::us,.cons r t,f=>λu' hu=>by
  rw [List.all_cons,and_eq_true] at f
  rcases mem_cons.mp hu with rfl|hu
  ·rw [zjG r f.1];exact zkO r rx f.1 fx
  ·exact zg0 rx fx t f.2 u' hu
def inV(x:V)(xs:List V):Bool:=xs.any λy=>eqV y x
def rIn(K:PySem.W.Frag)(neg:Bool):R2:=λx y H Q=>∃p xs,y = .ref p/\(SqL K H p xs\/SqT K H p xs)/\zP x=true/\xs.all zP=true/\Q (.bl (if neg then !inV x xs else inV x xs)) H
theorem ztD:OpR X (compareOp .In) (rIn X.K false):=by
 intro Ga s σ H x y v u Q I rx ry h
 obtain ⟨p,xs,rfl,hq,fx,fs,q⟩:=h
 cases ry
 rcases hq with hq|hq
 ·obtain ⟨its,r,pl,hz⟩:=I.list hq
  refine SeqAt.in_listAt (eqU x) pl.isList (λw hw=>zg0 rx fx r fs w (by simpa using hw)) ⟨.bl _,H,I,rfl,?_⟩
  rw [show its.toArray.any (eqU x)=its.any (eqU x) by simp,zhi r fs]
  exact q
 ·obtain ⟨its,r,pl,hz⟩:=I.tuple hq
  refine SeqAt.in_tupleAt (eqU x) pl (λw hw=>zg0 rx fx r fs w (by simpa using hw)) ⟨.bl _,H,I,rfl,?_⟩
  rw [show its.toArray.any (eqU x)=its.any (eqU x) by simp,zhi r fs]
  exact q
theorem zgc:zK X (.builtin "len") (λxs H Q=>∃p ys,xs=[.ref p]/\(SqL X.K H p ys\/SqT X.K H p ys)/\Q (.int ys.length) H):=by
 intro Ga s σ H xs us Q I r h
 obtain ⟨p,ys,rfl,hq,q⟩:=h
 obtain ⟨u,rfl,rx⟩:=za6 r
 cases rx
 have hn:=zcV
 rcases hq with hq|hq
 ·obtain ⟨its,r',pl,hz⟩:=I.list hq
  have hlen:=r'.length
  exact Calls.call_len_list pl.isList (by simp only [size_toArray]<;>omega) ⟨.int ys.length,H,I.tok _,⟨s.toks+1,by rw [size_toArray,hlen]⟩,q⟩
 ·obtain ⟨its,r',pl,hz⟩:=I.tuple hq
  have hlen:=r'.length
  exact len_tuple pl (by simp only [size_toArray]<;>omega) ⟨.int ys.length,H,I.tok _,⟨s.toks+1,by rw [size_toArray,hlen]⟩,q⟩
theorem zvH:zK X (.builtin "len") (λxs H Q=>∃z,xs=[.str z]/\z.length<=sizeLine/\Q (.int z.length) H):=by
 intro Ga s σ H xs us Q I r h
 obtain ⟨z,rfl,hz,q⟩:=h
 obtain ⟨u,rfl,t,rfl⟩:=za6 r
 have hn:=zcV
 exact len_str (by omega) ⟨.int z.length,H,I.tok _,⟨_,rfl⟩,q⟩
theorem zK.or{f:Value}{r r':List V->Hp->VK->Prop}(h:zK X f r)(h':zK X f r'):zK X f (λxs H Q=>r xs H Q\/r' xs H Q):=by
 intro Ga s σ H xs us Q I rs q
 rcases q with q|q
 ·exact h Ga s σ H xs us Q I rs q
 ·exact h' Ga s σ H xs us Q I rs q
theorem zxf:zK X (.type "list") (λxs H Q=>∃p ys,xs=[.ref p]/\(SqL X.K H p ys\/SqT X.K H p ys)/\∀l,H l=none->Q (.ref l) (upd H l (.lst ys))):=by
 intro Ga s σ H xs us Q I r h
 obtain ⟨p,ys,rfl,hq,q⟩:=h
 obtain ⟨u,rfl,rx⟩:=za6 r
 cases rx
 have fin:∀(its:List Value),zj ys its->ys.length<=sizeLine->∀(h':Heap)(c':Nat),(∀b o',s.heap.get? b=some o'->h'.get? b=some o') ->
   h'.get? s.heap.objs.size=some { cls:=.type "list",dict:=none,data:=.seq its.toArray c',slots:=#[] }->EP X Ga σ Q (.ref s.heap.objs.size) { s with heap:=h' }:=λits r' hz h' c' kp e =>
  ⟨.ref s.heap.objs.size,_,I.laid (t':=s.toks) kp (le_refl _) (show zW X.prog X.w _ h' _ (.lst ys) from ⟨hz,its,c',r',e⟩),rfl,q _ (I.hok.fresh (le_refl _))⟩
 rcases hq with hq|hq
 ·obtain ⟨its,r',pl,hz⟩:=I.list hq
  have hlen:=r'.length
  obtain ⟨o,ho,hc,n,hd⟩:=pl.isList
  exact call_list_seq p (.inl rfl) ho hc hd (λh' c' kp e=>fin its r' hz h' c' kp e) (by simp only [size_toArray]<;>omega)
 ·obtain ⟨its,r',pl,hz⟩:=I.tuple hq
  have hlen:=r'.length
  obtain ⟨o,ho,hc,n,hd⟩:=pl
  exact call_list_seq p (.inr rfl) ho hc hd (λh' c' kp e=>fin its r' hz h' c' kp e) (by simp only [size_toArray]<;>omega)
def tyV(K:PySem.W.Frag)(T:String)(x:V)(H:Hp):Prop:=match x with
 | .str _=>T="str"
 | .int _=>T="int"
 | .ref p=>(T="list"/\∃xs,SqL K H p xs)\/(T="tuple"/\∃o,K.lookup p=some o/\o.cls = .type "tuple"/\o.dict=none) \/
   (T="dict"/\((∃kvs,H p=some (.dK kvs))\/∃kvs,H p=some (.dT kvs)))\/(T="set"/\∃S n,H p=some (.set S n))
 | _=>False
theorem zfD{Ga:List (Addr×Obj)}{σ:St}{H:Hp}{s:Shared}{T:String}{x:V}{v:Value}(I:Inv X Ga σ H s)(r:zm x v)(ty:tyV X.K T x H) :
  s.TypeIs v T/\∀a,v = .ref a->∃ob,s.heap.get? a=some ob/\ob.dict=none:=by
 cases x with
 | str z =>
  obtain ⟨t,rfl⟩:=r
  cases (show T="str" from ty)
  exact ⟨typeIs_str s z t,λ_ e=>nomatch e⟩
 | int i =>
  obtain ⟨t,rfl⟩:=r
  cases (show T="int" from ty)
  exact ⟨typeIs_int s i t,λ_ e=>nomatch e⟩
 | ref p =>
  cases r
  rcases ty with ⟨rfl,xs,hq⟩|⟨rfl,o,hk,hc,hd⟩|⟨rfl,hk⟩|⟨rfl,S,n,hk⟩
  ·obtain ⟨its,_,pl,_⟩:=I.list hq
   refine ⟨pl.isList.typeIs,λa e=>?_⟩
   cases e
   obtain ⟨o,n,e,c,hd,_⟩:=pl
   exact ⟨o,e,hd⟩
  ·refine ⟨⟨o,I.kIn p o hk,hc⟩,λa e=>?_⟩
   cases e
   exact ⟨o,I.kIn _ o hk,hd⟩
  ·have z:∃o,s.heap.get? p=some o/\o.ExactDict:=by
    rcases hk with ⟨kvs,hk⟩|⟨kvs,hk⟩
    ·obtain ⟨_,_,_,_,o,_,_,e,ex,_⟩:=I.hok p _ hk
     exact ⟨o,e,ex⟩
    ·obtain ⟨_,_,_,_,o,_,_,e,ex,_⟩:=I.hok p _ hk
     exact ⟨o,e,ex⟩
   obtain ⟨o,e,ex⟩:=z
   refine ⟨⟨o,e,ex.1⟩,λa e2=>?_⟩
   cases e2
   exact ⟨o,e,ex.2.1⟩
  ·obtain ⟨o,_,_,_,e,ex,_⟩:=I.hok p _ hk
   refine ⟨⟨o,e,ex.1⟩,λa e2=>?_⟩
   cases e2
   exact ⟨o,e,ex.2.1⟩
 | _=>exact False.elim ty
variable {o e:Expr}{es:List Expr}{to:TE}{t:TA}{name:Str}{apos cpos:Pos}{T id:String}{r:V->List V->Hp->VK->Prop}
end
def MtM(X:Cx)(id:String)(r:V->List V->Hp->VK->Prop):Prop :=
 ∀(Ga:List (Addr×Obj))(s:Shared)(σ:St)(H:Hp)(x:V)(xs:List V)(v:Value)(us:List Value)(Q:VK),Inv X Ga σ H s->zm x v->zj xs us->r x xs H Q ->
  wpAny (model X.prog X.w) X.A (call (.builtin id) (v::us)) (EP X Ga σ Q) X.xe s
theorem zj.one:∀{x:V}{us:List Value},zj [x] us->∃u,us=[u]/\zm x u
 | _,_,.cons r .nil=>⟨_,rfl,r⟩
theorem zj.zero:∀{us:List Value},zj [] us->us=[]
 | _,.nil=>rfl
theorem zj.dropLast{xs:List V}{us:List Value}(h:zj xs us):zj xs.dropLast us.dropLast:=by
 induction h with
 | nil=>exact .nil
 | cons r t ih =>
  cases t with
  | nil=>exact .nil
  | cons q t'=>exact .cons r ih
theorem zj.eraseIdx:∀{xs:List V}{us:List Value}(i:Nat),zj xs us->zj (xs.eraseIdx i) (us.eraseIdx i)
 | _,_,_,.nil=>.nil
 | _,_,0,.cons _ t=>t
 | _,_,i+1,.cons r t=>.cons r (zj.eraseIdx i t)
theorem zj.rep{xs:List V}{us:List Value}(h:zj xs us):∀k:Nat,zj (replicate k xs).flatten (replicate k us).flatten
 | 0=>.nil
 | k+1=>by
  rw [replicate_succ,replicate_succ,flatten_cons,flatten_cons]
  exact zj.append h (zj.rep h k)
theorem ztg{α:Type}(l:List α):l.eraseIdx (l.length-1)=l.dropLast:=by
 induction l with
 | nil=>rfl
 | cons a r ih =>
  cases r with
  | nil=>rfl
  | cons b r =>
   have e:(a::b::r).length-1=((b::r).length-1)+1:=by
    have h1:(a::b::r).length=r.length+2:=rfl
    have h2:(b::r).length=r.length+1:=rfl
    omega
   rw [e,List.eraseIdx_cons_succ,ih]
   all_goals rfl
theorem zkj{α:Type}:∀(l:List α)(i:Nat),(l.eraseIdx i).length<=l.length
 | [],_=>le_refl _
 | _::_,0=>le_succ _
 | _::r,i+1=>Nat.succ_le_succ (zkj r i)
theorem zlW(its:List Value):∀(k:Nat)(acc:List Value),
  foldl (λx1 x2=>x1++x2) acc.toArray (replicate k its.toArray)=(acc++(replicate k its).flatten).toArray
 | 0,acc=>by simp
 | k+1,acc=>by
  have e:acc.toArray++its.toArray=(acc++its).toArray:=by simp
  have e2:(acc++its)++(replicate k its).flatten=acc++(replicate (k+1) its).flatten:=by
   rw [replicate_succ,flatten_cons,List.append_assoc]
  rw [<- e2,<- zlW its k (acc++its),<- e,replicate_succ,foldl_cons]
section
variable {X:Cx}{Ga:List (Addr×Obj)}{σ:St}{H:Hp}{s:Shared}{l b:Addr}{xs ys zs:List V}
theorem Inv.lset{its its':List Value}{n:Nat}{f:Array Value->Array Value}{t':Nat}(I:Inv X Ga σ H s)(hH:H l=some (.lst xs))
  (e:s.heap.get? l=some { cls:=.type "list",data:=.seq its.toArray n }) (hf:f its.toArray=its'.toArray) (hv:zj ys its') (hz:ys.length<=sizeLine) :
  Inv X Ga σ (upd H l (.lst ys)) { s with heap:=s.heap.update l (mapSeq f),toks:=t' }:=by
 have q:=PySem.IsL.update e f
 rw [hf] at q
 refine I.write (x:=l) (e:=l) (by rw [hH];exact trivial) (.inl rfl) (λb' u hb hu=>(get?_update_other s.heap (mapSeq f) (Ne.symm hb)).trans hu) ⟨_,q⟩ ?_
 exact ⟨hz,its',_,hv,q⟩
theorem Inv.lnew{its:List Value}{t':Nat}(I:Inv X Ga σ H s)(hv:zj ys its)(hz:ys.length<=sizeLine) :
  Inv X Ga σ (upd H s.heap.objs.size (.lst ys)) { s with heap:=s.heap.push { cls:=.type "list",data:=.seq its.toArray },toks:=t' } :=
 I.laid (λ_ _ q=>get?_push_of_some _ q) (le_refl _) ⟨hz,its,0,hv,get?_push_size _ rfl⟩
theorem Inv.fresh(I:Inv X Ga σ H s):H s.heap.objs.size=none:=I.hok.fresh (le_refl _)
theorem Inv.lstM(I:Inv X Ga σ H s)(hH:H l=some (.lst xs)):xs.length<=sizeLine/\∃(its:List Value)(n:Nat),zj xs its/\xs.length=its.length/\s.heap.get? l=some { cls:=.type "list",data:=.seq its.toArray n }:=by
 obtain ⟨z,its,n,r,e⟩:=I.hok l _ hH
 exact ⟨z,its,n,r,r.length,e⟩
theorem zjB{n:Nat}(h:n<=sizeLine):Builtin.List.listTooLong n=false:=by
 unfold Builtin.List.listTooLong
 exact decide_eq_false (by omega)
end
section
variable {X:Cx}
def zsD:V->List V->Hp->VK->Prop:=λx vs H Q=>∃l xs y,x = .ref l/\vs=[y]/\H l=some (.lst xs)/\xs.length<sizeLine/\Q .non (upd H l (.lst (xs++[y])))
theorem zpT:MtM X "list.append" zsD:=by
 intro Ga s σ H x vs v us Q I rx rv h
 obtain ⟨l,xs,y,rfl,rfl,hH,hz,q⟩:=h
 cases rx
 obtain ⟨u,rfl,ru⟩:=rv.one
 obtain ⟨z,its,n,r,hl,e⟩:=I.lstM hH
 refine call_meets F.slot_list_append ⟨_,e,rfl⟩ F.entry_list_append (F.args_list_append_2 _ _) (PySem.list_append l its.toArray n u (by rw [size_toArray];omega)) ⟨e,?_⟩
 refine ⟨.non,_,I.lset (its':=its++[u]) hH e (by simp) (r.append (.cons ru .nil)) ?_,rfl,q⟩
 rw [length_append,length_singleton]
 omega
def zrh:V->List V->Hp->VK->Prop:=λx vs H Q=>∃l b xs zs,x = .ref l/\vs=[.ref b]/\H l=some (.lst xs)/\H b=some (.lst zs)/\xs.length+zs.length<=sizeLine/\Q .non (upd H l (.lst (xs++zs)))
theorem zy8:MtM X "list.extend" zrh:=by
 intro Ga s σ H x vs v us Q I rx rv h
 obtain ⟨l,b,xs,zs,rfl,rfl,hH,hB,hz,q⟩:=h
 cases rx
 obtain ⟨u,rfl,ru⟩:=rv.one
 cases ru
 obtain ⟨z,its,n,r,hl,e⟩:=I.lstM hH
 obtain ⟨z2,its2,n2,r2,hl2,e2⟩:=I.lstM hB
 have hsz:its.toArray.size+its2.toArray.size<=sizeLine:=by rw [size_toArray,size_toArray];omega
 have hlong : ¬ (!its.toArray.isEmpty&&Builtin.List.listTooLong (its.toArray.size+its2.toArray.size))=true:=by
  rw [zjB hsz,Bool.and_false]
  exact Bool.false_ne_true
 refine call_meets F.slot_list_extend ⟨_,e,rfl⟩ F.entry_list_extend (F.args_list_extend_2 _ _)
  (AutoSeq1.list_extend_list_list_0 l its.toArray n b its2.toArray n2 hlong (by rw [size_toArray];omega) (by omega)) ⟨e,e2,?_⟩
 refine ⟨.non,_,I.lset (its':=its++its2) hH e (by simp) (r.append r2) ?_,rfl,q⟩
 rw [length_append]
 omega
def zrs:V->List V->Hp->VK->Prop:=λx vs H Q=>∃l xs y,x = .ref l/\vs=[]/\H l=some (.lst xs)/\xs[xs.length-1]?=some y/\Q y (upd H l (.lst xs.dropLast))
theorem zy6:MtM X "list.pop" zrs:=by
 intro Ga s σ H x vs v us Q I rx rv h
 obtain ⟨l,xs,y,rfl,rfl,hH,hy,q⟩:=h
 cases rx
 have hus:=rv.zero
 subst hus
 obtain ⟨z,its,n,r,hl,e⟩:=I.lstM hH
 obtain ⟨u,hu,ru⟩:=r.get hy
 have hy':its.toArray[its.toArray.size-1]?=some u:=by
  show its.toArray[its.length-1]?=some u
  rw [<- getElem?_toList,<- hl]
  exact hu
 refine call_meets F.slot_list_pop ⟨_,e,rfl⟩ F.entry_list_pop (F.args_list_pop_1 _) (MeetsSeq.list_pop_last l its.toArray n u hy' (by rw [size_toArray];omega)) ⟨e,?_⟩
 refine ⟨y,_,I.lset (its':=its.dropLast) hH e ?_ r.dropLast ?_,ru,q⟩
 ·show its.toArray.eraseIdxIfInBounds (its.toArray.size-1)=its.dropLast.toArray
  rw [size_toArray,List.eraseIdxIfInBounds_toArray,ztg]
 ·rw [List.length_dropLast]
  omega
def zqD:V->List V->Hp->VK->Prop:=λx vs H Q=>∃l xs i k y,x = .ref l/\vs=[.int i]/\H l=some (.lst xs)/\-(2 ^ 63)<=i/\i<2 ^ 63/\seqIndex? i xs.length=some k/\xs[k]?=some y/\Q y (upd H l (.lst (xs.eraseIdx k)))
theorem ztl:MtM X "list.pop" zqD:=by
 intro Ga s σ H x vs v us Q I rx rv h
 obtain ⟨l,xs,i,k,y,rfl,rfl,hH,h1,h2,hk,hy,q⟩:=h
 cases rx
 obtain ⟨u,rfl,ru⟩:=rv.one
 obtain ⟨t,rfl⟩:=ru
 obtain ⟨z,its,n,r,hl,e⟩:=I.lstM hH
 obtain ⟨w,hw,rw'⟩:=r.get hy
 refine call_meets F.slot_list_pop ⟨_,e,rfl⟩ F.entry_list_pop (F.args_list_pop_2 _ _)
  (MeetsSeq.list_pop_at l its.toArray n i t k w (fitsIndex_both h1 h2) (by rw [size_toArray,<- hl];exact hk) (by rw [<- getElem?_toList];exact hw) (by rw [size_toArray];omega)) ⟨e,?_⟩
 refine ⟨y,_,I.lset (its':=its.eraseIdx k) hH e ?_ (r.eraseIdx k) ?_,rw',q⟩
 ·show its.toArray.eraseIdxIfInBounds k=(its.eraseIdx k).toArray
  rw [List.eraseIdxIfInBounds_toArray]
 ·have:=zkj xs k
  omega
def znB:V->List V->Hp->VK->Prop:=λx vs H Q=>∃l xs,x = .ref l/\vs=[]/\H l=some (.lst xs)/\Q .non (upd H l (.lst []))
theorem zrY:MtM X "list.clear" znB:=by
 intro Ga s σ H x vs v us Q I rx rv h
 obtain ⟨l,xs,rfl,rfl,hH,q⟩:=h
 cases rx
 have hus:=rv.zero
 subst hus
 obtain ⟨z,its,n,r,hl,e⟩:=I.lstM hH
 refine call_meets F.slot_list_clear ⟨_,e,rfl⟩ F.entry_list_clear (F.args_list_clear_1 _) (AutoSeq1.list_clear_list_0 l its.toArray n (by rw [size_toArray];omega)) ⟨e,?_⟩
 exact ⟨.non,_,I.lset (its':=[]) (ys:=[]) hH e rfl .nil (zero_le _),rfl,q⟩
def zto:R2:=λx y H Q=>∃l b xs zs,x = .ref l/\y = .ref b/\H l=some (.lst xs)/\H b=some (.lst zs)/\xs.length+zs.length<=sizeLine/\∀p,H p=none->Q (.ref p) (upd H p (.lst (xs++zs)))
theorem zwV:OpR X (binaryOp .Add) zto:=by
 intro Ga s σ H x y v u Q I rx ry h
 obtain ⟨l,b,xs,zs,rfl,rfl,hH,hB,hz,q⟩:=h
 cases rx
 cases ry
 obtain ⟨z,its,n,r,hl,e⟩:=I.lstM hH
 obtain ⟨z2,its2,n2,r2,hl2,e2⟩:=I.lstM hB
 refine PySem.P.add_list e e2 ?_ (by rw [size_toArray,size_toArray];omega)
 have ea:its.toArray++its2.toArray=(its++its2).toArray:=by simp
 rw [ea]
 exact ⟨.ref _,_,I.lnew (t':=s.toks) (r.append r2) (by rw [length_append];omega),rfl,q _ I.fresh⟩
def zu8:R2:=λx y H Q=>∃l k xs,x = .ref l/\y = .int k/\H l=some (.lst xs)/\-(2 ^ 63)<=k/\k<2 ^ 63/\xs.length*k.toNat<=sizeLine /\
 ∀p,H p=none->Q (.ref p) (upd H p (.lst (replicate k.toNat xs).flatten))
theorem zua{α:Type}(xs:List α)(k:Nat):(replicate k xs).flatten.length=k*xs.length:=by
 induction k with
 | zero=>simp
 | succ k ih=>rw [replicate_succ,flatten_cons,length_append,ih,Nat.succ_mul,Nat.add_comm]
theorem zx8:OpR X (binaryOp .Mult) zu8:=by
 intro Ga s σ H x y v u Q I rx ry h
 obtain ⟨l,k,xs,rfl,rfl,hH,h1,h2,hz,q⟩:=h
 cases rx
 obtain ⟨t,rfl⟩:=ry
 obtain ⟨z,its,n,r,hl,e⟩:=I.lstM hH
 have hlen:its.toArray.size*k.toNat<=sizeLine:=by rw [size_toArray,<- hl];exact hz
 have hcap : ¬ its.toArray.size*k.toNat>(2 ^ 63-1) / 8:=by
  have:(sizeLine:Nat)<=(2 ^ 63-1) / 8:=by decide
  omega
 have hfit : ¬ (!Builtin.List.listFitsIndex k)=true:=by
  rw [fitsIndex_both h1 h2]
  exact Bool.false_ne_true
 have hlong : ¬ Builtin.List.listTooLong (its.toArray.size*k.toNat)=true:=by
  rw [zjB hlen]
  exact Bool.false_ne_true
 have hnew:foldl (λx1 x2=>x1++x2) #[] (replicate (if its.toArray.isEmpty=true then 0 else k.toNat) its.toArray)=(replicate k.toNat its).flatten.toArray:=by
  have f0:∀m:Nat,foldl (λx1 x2=>x1++x2) #[] (replicate m its.toArray)=(replicate m its).flatten.toArray:=λm=>by
   have:=zlW its m []
   rw [nil_append] at this
   exact this
  rw [f0]
  cases its with
  | nil=>simp
  | cons a r'=>rw [if_neg (by simp)]
 refine wpAny_binaryOp_repeat_ref (T:="list") (U:="int") (by decide) ⟨_,e,rfl⟩ (λs'=>typeIs_int s' k t) noFill_list_mul F.fills_int_mul F.slot_int_rmul repeat_list F.slot_int_index.lookup
  (call_meets F.slot_int_rmul (typeIs_int s k t) F.entry_int_rmul (F.args_int_rmul_2 _ _) (int___rmul___int_list k t l its.toArray n)
   ⟨e,rfl,⟨_,e,rfl⟩,call_meets F.slot_list_mul ⟨_,e,rfl⟩ F.entry_list_mul (F.args_list_mul_2 _ _) (AutoListH.list___mul___list_int_3 l its.toArray n k t hfit hcap hlong) ⟨e,?_⟩⟩)
 rw [hnew]
 exact ⟨.ref _,_,I.lnew (t':=s.toks) (r.rep k.toNat) (by rw [zua,Nat.mul_comm];exact hz),rfl,q _ I.fresh⟩
end
section
variable {prog:Program}{w:World}{A:Around}{E:Value->Shared->Prop}{s:Shared}
end
section
variable {X:Cx}
end
end L2
namespace Att
open PySem PySem.W PySem.Calls PyProof.Rows
theorem zre{P:Params}{h:Heap}:∀(ns:List Int)(vs:List Value),WellAll P h vs (ns.map WData.int)->IntsAre vs ns:=by
 intro ns
 induction ns with
 | nil =>
  intro vs w
  rw [map_nil] at w
  cases w
  exact .nil
 | cons n ns ih =>
  intro vs w
  rw [map_cons] at w
  cases w with
  | cons a b =>
   cases a
   exact .cons _ _ (ih _ b)
theorem zsP{l:OpenLaw}{n:Nat}(hn:l.most=some n){P:Params}{h:Heap}{args:List WData}{vals:List Value}
  (hpre:l.row.toRowW.claim.pre args=true) (hwl:WellAll P h vals args) :
  ∃a vs ns,vals=[Value.ref a]/\args=[WData.list (ns.map WData.int)]/\h.get? a=some { cls:=.type "list",data:=.seq vs.toArray }/\IntsAre vs ns/\ns.length<=n:=by
 have hsh:WShape.hasAll [] args [.list .int]=true:=(pre_splitW hpre).1
 have hc:l.pre.holds [] { args:=args }=true:=(pre_splitW hpre).2
 obtain ⟨d,r,rfl,h1,h2⟩:=hasAllW_cons hsh
 obtain rfl:=hasAllW_nil h2
 obtain ⟨xs,rfl,h3⟩:=hasW_list h1
 obtain ⟨ns,rfl⟩:=items_int h3
 have hlen:ns.length<=n:=by
  unfold OpenLaw.pre at hc
  have h4:(WTm.not (.lt (.lit (.int (n:Int))) (.len (.arg 0)))).holds [] { args:=[.list (ns.map .int)] }=true:=by
   have h4:=(holds_andW hc).1
   rw [hn] at h4
   exact h4
  have h5:=condW_of h4 (w_not (w_lt w_lit (w_len_list (w_arg rfl))))
  rw [length_map] at h5
  refine Nat.le_of_not_lt λq=>?_
  have q':(n:Int)<((ns.length:Nat):Int):=by omega
  first
   | (rw [decide_eq_true q'] at h5;exact absurd h5 (by decide))
   | (simp at h5;omega)
 cases hwl with
 | cons w1 w2 =>
  cases w2
  cases w1 with
  | list ho hall=>exact ⟨_,_,ns,rfl,rfl,ho,zre ns _ hall,hlen⟩
theorem zxE(l:OpenLaw)(args:List WData):l.row.toRowW.claim.post args (.bool true) args=true :=
 postW_of (r:=l.row.toRowW) (X:=(true==true))
  (show WShape.has [] (.bool true) .bool=true by first|rfl|decide|simp [WShape.has,WShape.arms,WShape.armsAll])
  (show (WTm.eq .res (.lit (.bool true))).value [] { args:=args,res:=some (.bool true),after:=args }=some (.bool (true==true)) from w_eq_bool (w_res rfl) w_lit) rfl
theorem attach_call{l:OpenLaw}{n:Nat}{q:Program}{loose:List Str}{XP:(Str->Option Value)->Heap->Prop}{YP:World->Heap->Prop}{d:DefRec}
  (hn:l.most=some n) (hdf:d.params.defaults=[])
  (call:∀(w:World)(s₀ s₁:Shared)(mg mb:Str->Option Value)(fa:Addr)(o:Obj)(pm cd doc:Value)(a:Addr)(vs:List Value)(ns:List Int),
   Ground q loose [] XP w s₀ mg mb s₁.heap->YP w s₁.heap ->
   s₁.heap.get? fa=some o->o.data = .func (docDef d.name d.params d.body d.scope pm cd doc)->s₁.heap.CodeRec cd d.name->mg d.name=some (.ref fa) ->
   s₁.heap.get? a=some { cls:=.type "list",data:=.seq vs.toArray }->IntsAre vs ns->ns.length<=n->s₁.gens = #[] ->
   codeAny (model l.prog w) callerA (.call (.ref fa) ⟨[.ref a],[]⟩) (λr s'=>r = .ok (.ret (.bool true))/\OldK s₁.heap s'.heap/\s'.os=s₁.os/\AllBare s'.gens) s₁) :
  WalkO q loose XP YP l.row.toRowW d [] (λf vs=>PySem.call f vs):=by
 intro w s₀ s₁ mg mb G Y fa o pm cd doc dV kV ho hd hcd hD hmg hg args vals as hpre hlay hrd hwl hlo
 obtain rfl:dV = .none:=Dflts.none hD hdf
 obtain rfl:kV = .none:=Dflts.noKw hD
 obtain ⟨a,vs,ns,rfl,rfl,hobj,hints,hlen⟩:=zsP hn hpre hwl
 refine enter_call (codeAny_mono (call w s₀ s₁ mg mb fa o pm cd doc a vs ns G Y ho (fd_plain hd) hcd hmg hobj hints hlen hg) λr s' hq=>?_)
 obtain ⟨rfl,h2,h3,h4⟩:=hq
 exact ⟨.inl ⟨.bool true,.bool true,[],rfl,λ_=>rfl,.bool true,zxE l _,λ_=>⟨List.Pairwise.nil,λ_ hm=>(nomatch hm)⟩⟩,h2,h3,h4⟩
section
variable {prog:Program}{w:World}{A:Around}{E:Value->Shared->Prop}{s:Shared}{K:Frag}
end
end Att
namespace L2
open PySem PySem.Spec PyProof.Rows
theorem zgA:∀{vs:List Value}{ns:List Int},IntsAre vs ns->zj (ns.map V.int) vs
 | _,_,.nil=>.nil
 | _,_,.cons n t h=>.cons ⟨t,rfl⟩ (zgA h)
def zag(s:Stmt)(j:Nat):Stmt:=match s with
 | .ClassDef _ _ _ body _ _ _ _ _ _ _=>body.getD j (.Pass ⟨0,0,0,0⟩)
 | _=>.Pass ⟨0,0,0,0⟩
def zw(s:Stmt):Arguments:=match s with
 | .FunctionDef _ a _ _ _ _ _ _ _ _=>a
 | _=>{ posonlyargs:=[],args:=[],vararg:=none,kwonlyargs:=[],kw_defaults:=[],kwarg:=none,defaults:=[] }
def zt(s:Stmt):List Stmt:=match s with
 | .FunctionDef _ _ b _ _ _ _ _ _ _=>b
 | _=>[]
def ze(s:Stmt):Scope:=match s with
 | .FunctionDef _ _ _ _ _ _ sc _ _ _=>sc
 | _=>{ kind:=.function,names:=[],isGenerator:=false,isCoroutine:=false }
abbrev CX0:CXT:=λ_ _ _ _ _ _=>False
abbrev E0:XK:=λ_ _ _=>False
theorem zej{X:Cx}:zch CX0 X E0:=λ_ _ _ _ _ _ _ h=>h.elim
structure Fun(K:PySem.W.Frag)(x qual:Str)(st:Stmt)(f:Addr)(fd:FuncData):Prop where
 ex:∃(oc:Value)(od:Option Addr)(kV doc pm:Value)(an:Option Addr)(cdv ct:Value)(osl:Array (Option Value)),
  fd=fnOf x qual (zw st) (zt st) (ze st) .none kV doc pm an cdv ct/\K.lookup f=some ⟨oc,od,.func fd,osl⟩/\codeIn K cdv qual=true
 kp:keepIn K (.ref f)=true
section
variable {P:Program}{w:World}{K:PySem.W.Frag}{mg:Str->Option Value}{base:Heap}
theorem Fun.ok{x qual:Str}{st:Stmt}{f:Addr}{fd:FuncData}{N ps:List Str}{cm:Bool}{k:Nat}{sp:Sp}(F:Fun K x qual st f fd)(S:zu N ps (ze st))(len:∀vs H Q E,sp vs H Q E->vs.length=ps.length)
  (hbody:∀(cdv:Value)(A:Around)(outer:List Env)(s:Shared)(H:Hp)(vs:List V)(Q:VK)(E:XK),zx cm k (A.deeper (envOfC qual (ze st) s.heap.objs.size f cdv))->sp vs H Q E ->
   ∃t,PSs (za3 CX0 cm P w K mg base N qual (ze st) f cdv A outer s H E).nox (zt st) t/\t { nx:=λ_ H'=>Q .non H',rt:=Q } (start N vs) H):zo P w K mg base CX0 cm (k+1) f fd ps sp:=by
 obtain ⟨oc,od,kV,doc,pm,an,cdv,ct,osl,rfl,lk,hcd⟩:=F.ex
 refine zhk lk hcd S len λA outer s H vs Q E hr hsp=>?_
 obtain ⟨t,h,q⟩:=hbody cdv A outer s H vs Q E hr hsp
 exact ⟨t,h.nox,q⟩
theorem Fun.binds{x qual:Str}{st:Stmt}{f:Addr}{fd:FuncData}{ps:List Str}(F:Fun K x qual st f fd)
  (h:∀(kV doc pm:Value)(an:Option Addr)(cdv ct:Value)(us:List Value),us.length=ps.length->bindArgs (fnOf x qual (zw st) (zt st) (ze st) .none kV doc pm an cdv ct) ⟨us,[]⟩=pure (ps.zip us)):zax K fd ps []:=by
 obtain ⟨oc,od,kV,doc,pm,an,cdv,ct,osl,rfl,lk,hcd⟩:=F.ex
 exact .all (h kV doc pm an cdv ct)
theorem zC{x qual:Str}{st:Stmt}{f:Addr}{oc:Value}{od an:Option Addr}{osl:Array (Option Value)}{kV doc pm cdv ct:Value}(l:K.lookup f=some ⟨oc,od,.func (fnOf x qual (zw st) (zt st) (ze st) .none kV doc pm an cdv ct),osl⟩)
  (c:codeIn K cdv qual=true) (k:keepIn K (.ref f)=true):Fun K x qual st f (fnOf x qual (zw st) (zt st) (ze st) .none kV doc pm an cdv ct):=⟨⟨oc,od,kV,doc,pm,an,cdv,ct,osl,rfl,l,c⟩,k⟩
end
theorem zX{A:Around}{c:Bool}{k:Nat}(hr:zx c k A):A.units+1<cLine:=Nat.lt_of_le_of_lt (Nat.add_le_add_left (by decide:1<=64) _) hr.units
theorem zhT{n:Nat}(h:n<=1000):n<sizeLine:=Nat.lt_of_le_of_lt h (by decide)
section
variable {X:Cx}
theorem pv(i:Nat){x:Str}{pos:Pos}(hN:X.N[i]?=some x:=by rfl)(hv:Vis X.env.scope x:=by first|exact Or.inl rfl|exact Or.inr (Or.inl rfl)|exact Or.inr (Or.inr rfl))(hd:(x==("__debug__":Str))=false:=by decide)
  (hcd:(x==("__classdict__":Str))=false:=by decide):PE X (.Name x pos) (zeP i):=zmX hN hv hd hcd
end
theorem zeY{A B:Prop}(h:B):if false=true then A else B:=by
 rw [if_neg Bool.false_ne_true]
 exact h
theorem zfU{A B:Prop}(h:A):if true=true then A else B:=by
 rw [if_pos rfl]
 exact h
theorem zaV{c A B:Prop} [Decidable c] (h1:c->A) (h2 : ¬ c->B):if c then A else B:=by
 by_cases h:c
 ·rw [if_pos h]
  exact h1 h
 ·rw [if_neg h]
  exact h2 h
def zl(H H':Hp):Prop:=∀b o,H b=some o->H' b=some o
theorem zl.refl(H:Hp):zl H H:=λ_ _ h=>h
theorem zl.trans{H H1 H2:Hp}(a:zl H H1)(b:zl H1 H2):zl H H2:=λc o h=>b c o (a c o h)
theorem zl.free{H H':Hp}(e:zl H H'){l:Addr}(h:H' l=Option.none):H l=Option.none:=by
 cases q:H l with
 | none=>rfl
 | some o =>
  rw [e l o q] at h
  cases h
end L2
set_option maxHeartbeats 4000000
namespace L2
open PySem PySem.Spec PyProof.Rows
def zan(cells:List (Str×Addr)):List (Str×NameKind)->List (Str×Addr)->List (Str×Addr)
 | [],cs=>cs
 | (n,k)::r,cs=>zan cells r (if k == .free then (match cells.lookup n with|some c=>(n,c)::cs|none=>cs) else cs)
theorem zgV{scope:Scope}{env:Env}(h:∀y∈scope.names,y.2 = .free->∃c,env.cells.lookup y.1=some c):closureFor scope env=pure (zan env.cells scope.names []):=by
 simp only [closureFor]
 have all:∀(l:List (Str×NameKind))(cs:List (Str×Addr)),(∀y∈l,y.2 = .free->∃c,env.cells.lookup y.1=some c) ->
   (forIn l cs λ(x:Str×NameKind)(r:List (Str×Addr))=>match x with|(name,kind)=>if (kind==NameKind.free)=true then do let a<-cellOf env name;pure (ForInStep.yield ((name,a)::r)) else pure (ForInStep.yield r):Sem (List (Str×Addr)))=pure (zan env.cells l cs):=by
  intro l
  induction l with
  | nil=>intro cs _;rfl
  | cons y r ih =>
   intro cs hy
   obtain ⟨n,k⟩:=y
   rw [List.forIn_cons]
   by_cases hk:k = .free
   ·subst hk
    obtain ⟨c,hc⟩:=hy (n,.free) mem_cons_self rfl
    have hc':env.cells.lookup n=some c:=hc
    simp only [cellOf,hc',zan,beq_self_eq_true,if_true]
    exact ih _ λz hz=>hy z (mem_cons_of_mem _ hz)
   ·have hb:(k==NameKind.free)=false:=by simpa using hk
    simp only [zan,hb,false_eq_true,if_false]
    exact ih _ λz hz=>hy z (mem_cons_of_mem _ hz)
 have e:=all scope.names [] h
 show (do let cs<-forIn scope.names [] _;pure cs)=_
 first
  | (rw [bind_pure];exact e)
  | exact e
  | (simpa using e)
theorem zeH{cells:List (Str×Addr)}:∀{l:List (Str×NameKind)}{cs:List (Str×Addr)}{x:Str}{c:Addr},(zan cells l cs).lookup x=some c->cs.lookup x=some c\/(cells.lookup x=some c/\(x,NameKind.free)∈l)
 | [],_,_,_,h=>.inl h
 | (n,k)::r,cs,x,c,h=>by
  unfold zan at h
  rcases zeH h with h|⟨h1,h2⟩
  ·by_cases hk:k = .free
   ·subst hk
    simp only [beq_self_eq_true,if_true] at h
    cases e:cells.lookup n with
    | none=>rw [e] at h;exact .inl h
    | some c' =>
     rw [e] at h
     simp only [lookup_cons] at h
     by_cases hx:x=n
     ·subst hx
      simp only [beq_self_eq_true] at h
      cases h
      exact .inr ⟨e,mem_cons_self⟩
     ·have hb:(x==n)=false:=by simpa using hx
      rw [hb] at h
      exact .inl h
   ·have hb:(k==NameKind.free)=false:=by simpa using hk
    rw [hb] at h
    exact .inl h
  ·exact .inr ⟨h1,mem_cons_of_mem _ h2⟩
theorem zmp{cells:List (Str×Addr)}:∀{l:List (Str×NameKind)}{cs:List (Str×Addr)}{x:Str},(cs.lookup x).isSome=true->((zan cells l cs).lookup x).isSome=true
 | [],_,_,h=>h
 | (n,k)::r,cs,x,h=>by
  unfold zan
  refine zmp ?_
  split
  ·split
   ·simp only [lookup_cons]
    split
    ·rfl
    ·exact h
   ·exact h
  ·exact h
theorem ziW{cells:List (Str×Addr)}:∀{l:List (Str×NameKind)}{cs:List (Str×Addr)}{x:Str}{c:Addr},(x,NameKind.free)∈l->cells.lookup x=some c->((zan cells l cs).lookup x).isSome=true
 | (n,k)::r,cs,x,c,hm,hc=>by
  unfold zan
  rcases mem_cons.mp hm with e|hm
  ·cases e
   refine zmp ?_
   simp only [beq_self_eq_true,if_true,hc,lookup_cons]
   rfl
  ·exact ziW hm hc
def zaF(sc:Scope)(names:List (Str×NameKind))(N N':List Str)(ix:List (Option Nat)):Bool :=
 sc.kind == .function&&sc.names.all (λy=>y.2 != .cell&&(y.2 != .local||sc.names.lookup y.1==some .local)&&(y.2 != .free||(names.lookup y.1==some .cell&&sc.names.lookup y.1==some .free)) ) &&
 ix.length==N'.length&&(range ix.length).all (λi=>match ix.getD i none with
  | none=>true
  | some j=>(match N'[i]?,N[j]? with|some x,some y=>x==y&&sc.names.lookup x==some .free|_,_=>false))
def zaN(ix:List (Option Nat))(σ:St):St:=ix.map λo=>o.bind λj=>(σ[j]?).join
structure zah(X:Cx)(sc:Scope)(N':List Str)(ix:List (Option Nat)):Prop where
 kind:sc.kind = .function
 cell:∀y∈sc.names,y.2≠.cell
 names:∀y∈sc.names,y.2 = .local->sc.names.lookup y.1=some .local
 free:∀y∈sc.names,y.2 = .free->X.env.kindOf y.1=some .cell/\sc.names.lookup y.1=some .free
 len:ix.length=N'.length
 at_:∀(i j:Nat),ix[i]?=some (some j)->∃x,N'[i]?=some x/\X.N[j]?=some x/\sc.names.lookup x=some .free
theorem zah.of{X:Cx}{sc:Scope}{N':List Str}{ix:List (Option Nat)}(h:zaF sc X.env.scope.names X.N N' ix=true):zah X sc N' ix:=by
 unfold zaF at h
 simp only [and_eq_true,all_eq_true] at h
 obtain ⟨⟨⟨h1,h2⟩,h3⟩,h4⟩:=h
 refine ⟨by simpa using h1,λy hy=>?_,λy hy hk=>?_,λy hy hk=>?_,by simpa using h3,λi j e=>?_⟩
 ·simpa using (h2 y hy).1.1
 ·have q:=(h2 y hy).1.2
  rw [hk] at q
  simpa using q
 ·have q:=(h2 y hy).2
  rw [hk] at q
  simp only [bne_self_eq_false,Bool.false_or,and_eq_true,beq_iff_eq] at q
  exact q
 ·have hi:i<ix.length:=(List.getElem?_eq_some_iff.mp e).1
  have:=h4 i (List.mem_range.mpr hi)
  have eg:ix.getD i none=some j:=by rw [getD_eq_getElem?_getD,e];rfl
  rw [eg] at this
  dsimp only at this
  cases e1:N'[i]? with
  | none=>rw [e1] at this;simp at this
  | some x =>
   cases e2:X.N[j]? with
   | none=>rw [e1,e2] at this;simp at this
   | some y =>
    rw [e1,e2] at this
    simp only [and_eq_true,beq_iff_eq] at this
    exact ⟨x,rfl,by rw [this.1],this.2⟩
def zz(X:Cx)(sc:Scope)(N':List Str)(Ga:List (Addr×Obj))(C:Addr)(fp:List Addr)(s:Shared)(H:Hp):Cx :=
 { X with N:=N',s₀:=s,H₀:=H,env:=compEnvC sc (zan X.env.cells sc.names []) C X.env,outer:=X.stack,stack:=X.stack,ex:=fp,fn:=λ_=>false,pn:=X.pn++Ga,xe:=λ_ _=>False }
theorem HOk.add{P:Program}{w:World}{H:Hp}{h:Heap}{D:Addr}{o:HO}(x:HOk P w H h)(hn:H D=none)(new:zW P w (upd H D o) h D o):HOk P w (upd H D o) h:=λb u e=>by
 by_cases hb:b=D
 ·subst hb;rw [zq] at e;cases e;exact new
 ·rw [zd hb] at e
  exact (x b u e).stay (λ_ _ _ q=>q) (λc q=>by rw [zd (zA q hn)];exact q) λc xs q=>by rw [zd (zA q hn)];exact q
theorem HOk.but{P:Program}{w:World}{H:Hp}{h h':Heap}{C:Addr}(x:HOk P w H h)(hn:H C=none)(k:∀b u,b≠C->h.get? b=some u->h'.get? b=some u):HOk P w H h':=λb u e =>
 (x b u e).stay (λc v hc q=>k c v (by
  rcases hc with z|z
  ·rw [z];exact zA e hn
  ·exact zA z hn) q) (λ_ q=>q) λ_ _ q=>q
theorem zxh{sc:Scope}{env:Env}(hk:env.scope.kind = .function)(hf:∀y∈sc.names,y.2 = .free->env.kindOf y.1=some .cell) :
  ∀x,(relabel sc env).names.lookup x=(sc.names.lookup x).map λk=>if k == .free then .cell else k:=by
 intro x
 have em:(relabel sc env).names=sc.names.map λy=>(y.1,if y.2 == .free then NameKind.cell else y.2):=by
  show sc.names.map _=_
  refine map_congr_left λy hy=>?_
  obtain ⟨n,k⟩:=y
  by_cases hk':k = .free
  ·subst hk'
   have e:env.kindOf n=some .cell:=hf (n,.free) hy rfl
   simp [hk,e]
  ·have hb:(k==NameKind.free)=false:=by simpa using hk'
   simp [hb]
 rw [em]
 generalize sc.names=l
 induction l with
 | nil=>rfl
 | cons y r ih =>
  obtain ⟨n,k⟩:=y
  simp only [map_cons,lookup_cons]
  cases x==n with
  | true=>rfl
  | false=>exact ih
section
variable {X:Cx}{sc:Scope}{N':List Str}{ix:List (Option Nat)}
theorem zva{σ:St}{i:Nat}{v:V}(h:(zaN ix σ)[i]?=some (some v)):∃j,ix[i]?=some (some j)/\σ[j]?=some (some v):=by
 unfold zaN at h
 rw [getElem?_map] at h
 cases e:ix[i]? with
 | none=>rw [e] at h;cases h
 | some o =>
  rw [e] at h
  have h':(o.bind λj=>(σ[j]?).join)=some v:=Option.some.inj h
  cases o with
  | none=>cases h'
  | some j =>
   have h'':(σ[j]?).join=some v:=h'
   cases e2:σ[j]? with
   | none=>rw [e2] at h'';cases h''
   | some z =>
    rw [e2] at h''
    have:z=some v:=h''
    exact ⟨j,rfl,by rw [e2,this]⟩
theorem zgK{Ga:List (Addr×Obj)}{σ:St}{H:Hp}{s:Shared}{fp:List Addr}{h₁:Heap}{C:Addr}{tk:Nat}{m:Str->Option Value}(I:Inv X Ga σ H s)(L:zah X sc N' ix)(f:∀b∈fp,zaL X Ga H b)(fl:∀b∈fp,b<s.heap.objs.size)
  (hC:s.heap.objs.size<=C) (hns:h₁.Ns C m) (old:∀b o,s.heap.get? b=some o->h₁.get? b=some o) :
  Inv (zz X sc N' Ga C fp s H) [] (zaN ix σ) H { s with heap:=h₁,toks:=tk }:=by
 have cof:∀x c,(zan X.env.cells sc.names []).lookup x=some c->X.env.cells.lookup x=some c/\(x,NameKind.free)∈sc.names:=λx c h=>by
  rcases zeH h with h|h
  ·cases h
  ·exact h
 have rl:=zxh (sc:=sc) (env:=X.env) I.ok.kind λy hy hk=>(L.free y hy hk).1
 have chas:∀x,sc.names.lookup x=some .free->∃c,(zan X.env.cells sc.names []).lookup x=some c/\X.env.cells.lookup x=some c:=λx hx=>by
  have hm:(x,NameKind.free)∈sc.names:=PySem.mem_of_lookup hx
  obtain ⟨c,hc⟩:=I.ok.has x (.inl (L.free _ hm rfl).1)
  obtain ⟨c',hc'⟩:=isSome_iff_exists.mp (ziW (cs:=[]) hm hc)
  exact ⟨c',hc',(cof x c' hc').1⟩
 refine ⟨⟨I.ok.mod,L.kind,I.ok.glob,I.ok.blt,hC,λx y c h1 h2=>I.ok.inj x y c (cof x c h1).1 (cof y c h2).1,λx hx=>?_,λx c h=>(nomatch h),I.ok.hd,I.ok.frames,.inl rfl,λb hb=>⟨ne_of_lt (Nat.lt_of_lt_of_le (fl b hb) hC),λx c h=>(f b hb).2.2.2.2.1 x c (cof x c h).1⟩,
   I.bs,le_trans I.ok.bsz I.sz,λb o e hb=>?_,λb hb z=>?_,I.stack,I.stkFree⟩,rfl,I.bare,Un.kept old,⟨m,hns,λi x v e1 e2 e3=>?_⟩,λx c h=>?_,I.hok.fresh hC,λx c h=>I.freeC x c (cof x c h).1,λp hp=>?_,I.hok.kept old,?_,I.hdk⟩
 ·have hx':(relabel sc X.env).names.lookup x=some .cell\/(relabel sc X.env).names.lookup x=some .free:=hx
  rw [rl x] at hx'
  cases e:sc.names.lookup x with
  | none=>rw [e] at hx';simp at hx'
  | some k =>
   have hk:k = .free:=by
    cases k with
    | free=>rfl
    | cell=>exact absurd rfl (L.cell _ (PySem.mem_of_lookup e))
    | _=>rw [e] at hx';revert hx';decide
   subst hk
   obtain ⟨c,h1,_⟩:=chas x e
   exact ⟨c,h1⟩
 ·rcases (f b hb).2.2.2.1 with z|z
  ·exact I.ok.noex b o e z
  ·exact absurd (Nat.lt_of_lt_of_le (lt_size (I.ok.bs b o e).1) z) (Nat.lt_irrefl _)
 ·rcases mem_cons.mp (I.stkSub b z) with e|e
  ·exact (f b hb).2.1 e
  ·exact (f b hb).2.2.1 e
 ·obtain ⟨j,hj,hv⟩:=zva e2
  obtain ⟨y,n1,n2,n3⟩:=L.at_ i j hj
  have exy:x=y:=Option.some.inj ((show N'[i]?=some x from e1).symm.trans n1)
  subst exy
  obtain ⟨c,c1,c2⟩:=chas x n3
  have kf:=(L.free _ (PySem.mem_of_lookup n3) rfl).1
  obtain ⟨m0,hn0,hl⟩:=I.loc
  obtain ⟨u,r,l⟩:=hl j x v n2 hv (.inr (.inl kf))
  refine ⟨u,r,.inr ⟨.inl ?_,c,c1,?_⟩⟩
  ·show (relabel sc X.env).names.lookup x=some .cell
   rw [rl x,n3];rfl
  ·rcases l with ⟨hk,_⟩|⟨_,c',hc',z⟩
   ·have kf':X.env.kindOf x=some .cell:=kf
    rw [hk] at kf';cases kf'
   ·rw [c2] at hc'
    cases hc'
    obtain ⟨oc,ho,hd⟩:=z
    exact ⟨oc,old _ _ ho,hd⟩
 ·obtain ⟨v,oc,ho,hd⟩:=I.cell x c (cof x c h).1
  exact ⟨v,oc,old _ _ ho,hd⟩
 ·have hp':p∈X.pn++Ga:=by
   have:p∈(X.pn++Ga)++[]:=hp
   simpa using this
  obtain ⟨a,b,c,d,e⟩:=I.pin p hp'
  exact ⟨old _ _ a,b,ne_of_lt (Nat.lt_of_lt_of_le (lt_size a) hC),λz=>(mem_cons.mp (I.stkSub p.1 z)).elim c d,e⟩
 ·show (zaN ix σ).length=N'.length
  unfold zaN
  rw [length_map,L.len]
end
def PTs(X:Cx)(ifs:List Expr)(t:TT):Prop :=
 ∀(Ga:List (Addr×Obj))(s:Shared)(σ:St)(H:Hp)(Q:Bool->Hp->Prop),Inv X Ga σ H s->t σ H Q ->
  wpAny (model X.prog X.w) X.A (forIn ifs true λc r=>if r=true then do let ok<-isTrue c X.env (eval c X.env);pure (ForInStep.yield ok) else pure (ForInStep.yield r)) (TP X Ga σ Q) X.xe s
def zf8:TT:=λ_ H Q=>Q true H
theorem znd{X:Cx}:PTs X [] zf8:=λ_ _ _ H _ I h=>wpAny_tests_nil ⟨H,I,h⟩
theorem zxk{X:Cx}{c:Expr}{t:TT}(h:PT X c t):PTs X [c] t:=λGa s σ H Q I q=>wpAny_tests_one (h Ga s σ H Q I q)
theorem zj2{prog:Program}{w:World}{A:Around}{R:Result->Shared->Prop}{s:Shared}{elt target iter:Expr}{ifs:List Expr}{scope:Scope}{pos:Pos}{it acc:Value}{env:Env}(I:Nat->Shared->Prop)
  (turn:∀n s,I n s->wpAny (model prog w) A (pyNext it) (λr s₁=>match r with
   | none=>R (.ok .next) s₁
   | some v=>wpAny (model prog w) A (letOwnedTupleGo target it v) (λ_ s₁'=>wpAny (model prog w) A (assign target env v) (λ_ s₂ =>
     wpAny (model prog w) A (forIn ifs true λc r=>if r=true then do let ok<-isTrue c env (eval c env);pure (ForInStep.yield ok) else pure (ForInStep.yield r)) (λok s₃ =>
      if ok=true then wpAny (model prog w) A (eval elt env) (λx s₄ =>
       wpAny (model prog w) A (call (.builtin "list.append") [acc,x]) (λ_ s₅=>∃m,m<n/\I m s₅) (λ_ _=>False) s₄) (λ_ _=>False) s₃
      else ∃m,m<n/\I m s₃) (λ_ _=>False) s₂) (λ_ _=>False) s₁') (λ_ _=>False) s₁) (λ_ _=>False) s)
  (n:Nat) (h:I n s):codeAny (model prog w) A (.compLoop (.ListComp elt [⟨target,iter,ifs,0⟩] scope pos) 0 it acc env) R s:=by
 refine codeAny_loop rfl I (λn s hI=>?_) n h
 show wpAny _ A ((compTurn (.ListComp elt [⟨target,iter,ifs,0⟩] scope pos) 0 it acc env).onRaise (λx=>do noteFrame x env;theTreesLotGoes x)) _ _ s
 refine wpAny_noted (wpAny_mono (E:=λ_ _=>False) ?_ (λ_ _ q=>q) λ_ _ z=>z.elim)
 rw [compTurn_list]
 refine wpAny_bind (wpAny_standAt (wpAny_bind (wpAny_mono (turn n s hI) (λr s₁ h₁=>?_) λ_ _ h'=>h')))
 cases r with
 | none=>exact wpAny_pure h₁
 | some v =>
  refine wpAny_bind (wpAny_mono h₁ (λ_ s₁' h₁'=>?_) λ_ _ h'=>h')
  refine wpAny_bind (wpAny_mono h₁' (λ_ s₂ h₂=>wpAny_bind (wpAny_mono h₂ (λok s₃ h₃=>?_) λ_ _ h'=>h')) λ_ _ h'=>h')
  cases ok with
  | false=>exact wpAny_pure ⟨rfl,h₃⟩
  | true=>exact wpAny_bind (wpAny_bind (wpAny_mono h₃ (λx s₄ h₄=>wpAny_bind (wpAny_mono h₄ (λ_ s₅ h₅=>wpAny_pure (wpAny_pure ⟨rfl,h₅⟩)) λ_ _ h'=>h')) λ_ _ h'=>h'))
def tLC(ix:List (Option Nat))(wi:TI)(g:TG)(tt:TT)(te:TE):TE:=λσ H Q=>wi σ H λJ H1=>∃W:Nat->Nat->St->List V->Hp->Prop,(∃m,W 0 m (zaN ix σ) [] H1)/\∀i m τ ys H2,W i m τ ys H2->ys.length<sizeLine /\
 ((J.stop i H2 ∧ ∀ D, H2 D = none → D ≠ sysModules → Q (.ref D) (upd H2 D (.lst ys))) ∨
  (J.go i H2 ∧ ∀ x H3, J.yld i H2 x H3 → g x τ H3 fun τ1 H4 => tt τ1 H4 fun ok H5 => if ok = true then te τ1 H5 fun y H6 => ∃ m', m' < m ∧ W (i + 1) m' τ1 (ys ++ [y]) H6 else ∃ m', m' < m ∧ W (i + 1) m' τ1 ys H5))
theorem zyi{c:Bool}{X:Cx}{elt tg iter:Expr}{ifs:List Expr}{sc:Scope}{pos:Pos}{N':List Str}{ix:List (Option Nat)}{wi:TI}{g:TG}{tt:TT}{te:TE}(hc:c=true->X.calm=true)(L:zah X sc N' ix)(hi:PIc c X tg iter wi)
  (hg:∀Ga C fp s H,PG (zz X sc N' Ga C fp s H) tg g) (ht:∀Ga C fp s H,PTs (zz X sc N' Ga C fp s H) ifs tt) (he:∀Ga C fp s H,PE (zz X sc N' Ga C fp s H) elt te)
  (hs:∀x,foldedSetIterable iter X.env x=pure x:=by intro _;rfl):PE X (.ListComp elt [⟨tg,iter,ifs,0⟩] sc pos) (tLC ix wi g tt te):=by
 intro Ga s σ H Q I h
 rw [eval_ListComp]
 have hclos:closureFor sc X.env=pure (zan X.env.cells sc.names []):=zgV λy hy hk=>I.ok.has y.1 (.inl (L.free y hy hk).1)
 refine wpAny_comprehension_free (use:=none) rfl hs hclos L.kind L.names (thn (hi Ga s σ H _ I h) λv s1 h1=>thn h1 λitv s2 h2=>?_)
 obtain ⟨it,fp,tn,J,H2,e,I2,T,st2,f2,W,⟨m0,w0⟩,turn⟩:=h2
 subst e
 refine wpAny_newObj_type (wpAny_newFunctionEnv L.cell (by intro y hy;simp at hy) (λh₁ hns₁ hsb₁=>?_) L.kind)
 dsimp only at hns₁ hsb₁ ⊢
 generalize hH2:s2.heap.push { cls:=.type "list",dict:=none,data:=.seq ([]:List Value).toArray }=G2 at hns₁ hsb₁ ⊢
 have hC:G2.objs.size=s2.heap.objs.size+1:=by rw [<- hH2,size_push]
 have hDC:s2.heap.objs.size≠G2.objs.size:=by rw [hC];exact ne_of_lt (lt_succ_self _)
 have hCle:s2.heap.objs.size<=G2.objs.size:=by rw [hC];exact le_succ _
 have below:∀b,b<s2.heap.objs.size->b≠G2.objs.size/\b≠s2.heap.objs.size:=λb hb=>⟨by rw [hC];exact ne_of_lt (lt_succ_of_lt hb),ne_of_lt hb⟩
 have old:∀b o,s2.heap.get? b=some o->h₁.get? b=some o:=λb o e=>hsb₁.extBut b o (below b (lt_size e)).1 (get?_push_of_some _ (hH2 ▸ get?_push_of_some _ e))
 have hacc:h₁.get? s2.heap.objs.size=some { cls:=.type "list",data:=.seq ([]:List Value).toArray 0 }:=hsb₁.extBut _ _ hDC (get?_push_of_some _ (hH2 ▸ get?_push_size _ rfl))
 have fl:∀b∈fp,b<s2.heap.objs.size:=λb hb=>by
  obtain ⟨o,e,_⟩:=T.obj 0 _ st2 b hb
  exact lt_size e
 have hDfp:s2.heap.objs.size∉fp:=λz=>Nat.lt_irrefl _ (fl _ z)
 generalize hD:s2.heap.objs.size=D at *
 generalize hCe:G2.objs.size=C at *
 have cof:∀x c,(zan X.env.cells sc.names []).lookup x=some c->X.env.cells.lookup x=some c:=λx c h=>by
  rcases zeH h with h|h
  ·cases h
  ·exact h.1
 have st1:tn 0 h₁:=T.keep _ _ _ st2 λb _ o e=>old b o e
 have I3:Inv (zz X sc N' Ga C fp s2 H2) [] (zaN ix σ) H2 { s2 with heap:=h₁,toks:=s2.toks+([]:List (Str×Value)).length }:=zgK I2 L f2 (λb hb=>by rw [hD];exact fl b hb) (by rw [hD];exact hCle) hns₁ old
 have D0:H2 D=none:=I2.hok.fresh (le_of_eq hD)
 have fD:∀{H':Hp},H' D=none->zaL (zz X sc N' Ga C fp s2 H2) [] H' D:=λ{H'} hn=>by
  refine ⟨hn,hDC,λz=>?_,.inr (le_of_eq hD),λx c hx z=>?_,λp hp z=>?_⟩
  ·obtain ⟨_,o,ho,_⟩:=I2.stack.mem (show D∈frs X.stack from z)
   exact absurd (lt_size ho) (by rw [hD];exact Nat.lt_irrefl _)
  ·obtain ⟨v,q⟩:=I2.cell x c (cof x c hx)
   have:=q.lt
   rw [z,hD] at this
   exact Nat.lt_irrefl _ this
  ·have hp':p∈X.pn++Ga:=by
    have:p∈(X.pn++Ga)++[]:=hp
    simpa using this
   have:=lt_size (I2.pin p hp').1
   rw [z,hD] at this
   exact Nat.lt_irrefl _ this
 have fF:∀{H':Hp},(∀b∈fp,H' b=none)->∀b∈fp,zaL (zz X sc N' Ga C fp s2 H2) [] H' b:=λ{H'} hn b hb=>by
  obtain ⟨_,g1,g2,g3,g4,g5⟩:=f2 b hb
  refine ⟨hn b hb,(below b (fl b hb)).1,λz=>?_,.inl hb,λx c hx=>g4 x c (cof x c hx),λp hp=>g5 p ?_⟩
  ·rcases mem_cons.mp (I2.stkSub b z) with e|e
   ·exact g1 e
   ·exact g2 e
  ·have:p∈(X.pn++Ga)++[]:=hp
   simpa using this
 have loop:∀s₃:Shared,s₃={ s2 with heap:=h₁,toks:=s2.toks+([]:List (Str×Value)).length } ->
   codeAny (model X.prog X.w) X.A (.compLoop (.ListComp elt [⟨tg,iter,ifs,0⟩] sc pos) 0 (.ref it) (.ref D) (compEnvC sc (zan X.env.cells sc.names []) C X.env))
    (compPost (model X.prog X.w) X.A X.xe none (EP X Ga σ Q) (.ref D) C) s₃:=by
  rintro s₃ rfl
  refine zj2 (λn s'=>∃i τ ys H',Inv (zz X sc N' Ga C fp s2 H2) [] τ H' s'/\tn i s'.heap/\(∀b∈fp,H' b=none)/\H' D=none/\(∃its k,zj ys its/\s'.heap.get? D=some { cls:=.type "list",data:=.seq its.toArray k })/\W i n τ ys H')
   ?_ m0 ⟨0,_,[],H2,I3,st1,λb hb=>(f2 b hb).1,D0,⟨[],0,.nil,hacc⟩,w0⟩
  rintro n s4 ⟨i,τ,ys,H4,I4,st4,fr4,dn4,⟨its,k,rv,dg⟩,w4⟩
  obtain ⟨hlen,step⟩:=turn i n τ ys H4 w4
  rcases step with ⟨stop,fin⟩|⟨go,step⟩
  ·refine thn (T.done (zz X sc N' Ga C fp s2 H2) rfl rfl rfl hc i [(D,({ cls:=.type "list",data:=.seq its.toArray k }:Obj))] s4 τ H4 (λ_ _=>False) (I4.pins_of λp hp=>?_) (λb hb=>?_) st4 stop) λr s5 ⟨hr,I5⟩=>?_
   ·have e:p=(D,{ cls:=.type "list",data:=.seq its.toArray k }):=by simpa using hp
    subst e
    obtain ⟨g0,g1,g2,_⟩:=fD dn4
    exact ⟨dg,g0,g1,g2,λv z=>(nomatch z)⟩
   ·obtain ⟨g0,g1,g2,g3,g4,g5⟩:=fF fr4 b hb
    refine ⟨g0,g1,g2,g3,g4,λp hp=>?_⟩
    rcases mem_append.mp hp with z|z
    ·exact g5 p (mem_append_left _ z)
    ·have e:p=(D,{ cls:=.type "list",data:=.seq its.toArray k }):=by simpa using z
     subst e
     exact λq=>hDfp (by have q':D=b:=q;rw [q'];exact hb)
   ·subst hr
    have dg5:=(I5.pin (D,_) (mem_append_right _ (mem_singleton.mpr rfl))).1
    obtain ⟨m5,hn5,_⟩:=id I5.loc
    refine ⟨m5,hn5,λh' hsb=>?_⟩
    have kb:∀b u,b≠C->s5.heap.get? b=some u->h'.get? b=some u:=λb u hb e=>(hsb.2 b hb).trans e
    have hlt:∀b o,s2.heap.get? b=some o->b≠C/\b≠D:=λb o e=>by
     have:=lt_size e
     rw [hD] at this
     exact below b this
    have U:=I5.base
    refine ⟨.ref D,upd H4 D (.lst ys),I2.call' (s':={ s5 with heap:=h' }) (ch:=fp) I5.os ⟨λb o e n hb hx=>kb b o (hlt b o e).1 (U.keep b o e n hb hx),λb o e n hb hx=>?_,λb o e n hx=>?_,λb o e hx=>?_,λb xs e=>?_,λb o u e=>?_,λb ps e=>?_⟩ ?_ I5.bare (λb hb=>?_),rfl,fin D dn4 (by have h:mainGlobals<s2.heap.objs.size:=(I2.mod.glob.keeps I2.bk).lt;rw [hD] at h;exact ne_of_gt (lt_trans (by decide) h))⟩
    ·obtain ⟨sl,q⟩:=U.slot b o e n hb hx
     exact ⟨sl,kb b _ (hlt b o e).1 q⟩
    ·rw [zd (hlt b o e).2]
     exact U.free b o e n hx
    ·obtain ⟨o',q⟩:=U.there b o e hx
     exact ⟨o',kb b _ (hlt b o e).1 q⟩
    ·have q:=U.tups b xs e
     rw [zd (zA q dn4)]
     exact q
    ·have q:=U.frzs b o u e
     rw [zd (zA q dn4)]
     exact q
    ·obtain ⟨more,q⟩:=U.tbls b ps e
     exact ⟨more,by rw [zd (zA q dn4)];exact q⟩
    ·refine (I5.hok.but I5.free kb).add dn4 ?_
     exact ⟨le_of_lt hlen,its,k,rv,kb _ _ hDC dg5⟩
    ·obtain ⟨_,g1,g2,g3,g4,g5⟩:=f2 b hb
     exact ⟨g3,g1,g4,g5⟩
  ·refine thn (T.item (zz X sc N' Ga C fp s2 H2) rfl rfl rfl hc i [(D,({ cls:=.type "list",data:=.seq its.toArray k }:Obj))] s4 τ H4 (λ_ _=>False) (I4.pins_of λp hp=>?_) (λb hb=>?_) st4 go) λr s5 ⟨u,hr,h5⟩=>?_
   ·have e:p=(D,{ cls:=.type "list",data:=.seq its.toArray k }):=by simpa using hp
    subst e
    obtain ⟨g0,g1,g2,_⟩:=fD dn4
    exact ⟨dg,g0,g1,g2,λv z=>(nomatch z)⟩
   ·obtain ⟨g0,g1,g2,g3,g4,g5⟩:=fF fr4 b hb
    refine ⟨g0,g1,g2,g3,g4,λp hp=>?_⟩
    rcases mem_append.mp hp with z|z
    ·exact g5 p (mem_append_left _ z)
    ·have e:p=(D,{ cls:=.type "list",data:=.seq its.toArray k }):=by simpa using z
     subst e
     exact λq=>hDfp (by have q':D=b:=q;rw [q'];exact hb)
   ·subst hr
    refine thn h5 λ_ s6 ⟨x,H6,I6,r6,y6,st6,fr6⟩=>?_
    obtain ⟨dg6,dn6,_⟩:=I6.pin (D,_) (mem_append_right _ (mem_singleton.mpr rfl))
    have dn6':H6 D=none:=dn6
    have all6:∀b∈D::fp,zaL (zz X sc N' Ga C fp s2 H2) [] H6 b:=λb hb=>by
     rcases mem_cons.mp hb with z|z
     ·subst z;exact fD dn6'
     ·exact fF fr6 b z
    have obj6:∀b∈D::fp,∃o,s6.heap.get? b=some o/\∀v,o.data≠.cell v:=λb hb=>by
     rcases mem_cons.mp hb with z|z
     ·subst z;exact ⟨_,dg6,λv q=>(nomatch q)⟩
     ·exact T.obj _ _ st6 b z
    have I6':=(I6.unpinned (Ga:=[])).pinned all6 obj6
    refine thn (hg Ga C fp s2 H2 _ s6 τ H6 x u _ I6' r6 (step x H6 y6)) λ_ s7 ⟨τ7,H7,I7,q7⟩=>?_
    refine thn (ht Ga C fp s2 H2 _ s7 τ7 H7 _ I7 q7) λok s8 ⟨H8,I8,q8⟩=>?_
    have back:∀{s9:Shared}{H9:Hp},Inv (zz X sc N' Ga C fp s2 H2) ([]++zcJ (D::fp) s6.heap) τ7 H9 s9->s9.heap.get? D=some { cls:=.type "list",data:=.seq its.toArray k }/\H9 D=none/\tn (i+1) s9.heap/\∀b∈fp,H9 b=none:=λ{s9 H9} I9=>by
     have pin:∀b o,b∈D::fp->s6.heap.get? b=some o->s9.heap.get? b=some o/\H9 b=none:=λb o hb e=>by
      have q:=I9.pin (b,o) (mem_append_right _ (mem_append_right _ (zeN hb e)))
      exact ⟨q.1,q.2.1⟩
     refine ⟨(pin D _ mem_cons_self dg6).1,(pin D _ mem_cons_self dg6).2,T.keep _ _ _ st6 λb hb o e=>(pin b o (mem_cons_of_mem _ hb) e).1,λb hb=>?_⟩
     obtain ⟨o,e,_⟩:=T.obj _ _ st6 b hb
     exact (pin b o (mem_cons_of_mem _ hb) e).2
    cases ok with
    | false =>
     obtain ⟨b1,b2,b3,b4⟩:=back I8
     simp only [false_eq_true,if_false] at q8 ⊢
     obtain ⟨m',hm,w'⟩:=q8
     exact ⟨m',hm,i+1,τ7,ys,H8,I8.unpinned,b3,b4,b2,⟨its,k,rv,b1⟩,w'⟩
    | true =>
     simp only [if_true] at q8 ⊢
     refine thn (he Ga C fp s2 H2 _ s8 τ7 H8 _ I8 q8) λy s9 ⟨yv,H9,I9,r9,m',hm,w'⟩=>?_
     obtain ⟨b1,b2,b3,b4⟩:=back I9
     have el:its.toArray.size<=sizeLine:=by
      have:=rv.length
      simp only [size_toArray]
      omega
     refine append_at (hsz:=el) b1 λh10 sb hD10=>?_
     obtain ⟨_,g1,_,g3,g4,g5⟩:=fD b2
     refine ⟨m',hm,i+1,τ7,ys++[yv],H9,(I9.unpinned (Ga:=[])).turned (t':=s9.toks) (λb o hb e=>(sb.2 b hb).trans e) b2 g1 g3 g4 g5,T.keep _ _ _ b3 λb hb o e=>(sb.2 b λq=>hDfp (by rw [<- q];exact hb)).trans e,b4,b2,⟨its++[y],k+1,rv.append (.cons r9 .nil),?_⟩,w'⟩
     show h10.get? D=_
     rw [hD10]
     simp
 exact codeAny_compStart_list (loop _ rfl) (T.self _ 0 _ _ _ st1 (loop _ rfl))
structure za9(B:Heap)(l:List Env)(e:Addr)(cls fl:Value)(h:Heap):Prop where
 stays:B.StaysIn h
 new:B.get? e=none
 frames:h.FunFrames B l
 obj:∃oe vs,h.get? e=some oe/\oe.cls=cls/\oe.dict=none/\oe.data = .fields vs/\2<vs.size/\vs[2]?=some .none /\
  (vs[1]?=some .none\/∃T oT ts,vs[1]?=some (.ref T)/\B.get? T=none/\T≠e/\h.get? T=some oT/\oT.data = .fields ts/\ts[3]?=some fl)
section
variable {M:Model}{A:Around}{E:Value->Shared->Prop}{s:Shared}{B:Heap}{env:Env}{outer l:List Env}{L e:Addr}{cls fl:Value}
theorem zyJ(o:Obj)(f:Array Value->Array Value):(o.mapFields f).dict=o.dict:=by
 obtain ⟨c,d,dt,sl⟩:=o
 cases dt<;>rfl
theorem zmt{oe:Obj}{vs:Array Value}{head:Value}{had:Bool}{Q:Unit->Shared->Prop}(hfr:A.frames=some (env::outer))(hf:env.frame=some L)(st:B.StaysIn s.heap)(hn:B.get? e=none)
  (hl:s.heap.FunFrames B (env::outer)) (he:s.heap.get? e=some oe) (hc:oe.cls=cls) (hdi:oe.dict=none) (hd:oe.data = .fields vs) (hz:2<vs.size) (h2:vs[2]?=some .none)
  (k:∀h',za9 B (env::outer) e cls (rawInt L) h'->s.heap.UpToSlots h'->Q () { s with heap:=h' }) :
  wpAny M A (do let a<-frameOf env;let pl<-entryPlaceOf L had;let b<-EntryCells.newEntry head a .none (rawInt L) .none pl;setField (.ref e) 1 b) Q E s:=by
 have nfr:e∉(env::outer).filterMap (·.frame):=λz=>by
  obtain ⟨_,o,ho,nf⟩:=hl.mem z
  rw [he] at ho
  cases ho
  exact nf vs hd
 refine wpAny_bind (wpAny_frameOf_fun hfr hl hf λg only=>?_)
 obtain ⟨_,same,slots⟩:=only
 refine wpAny_bind (wpAny_entryPlaceOf λpl hpl=>?_)
 have key:∀(tb:Obj)(ts:Array Value),tb.data = .fields ts->ts[3]?=some (rawInt L)->wpAny M A (setField (.ref e) 1 (.ref g.objs.size)) Q E { s with heap:=g.push tb }:=by
  intro tb ts td t3
  have e1:g.get? e=some oe:=(same e nfr).trans he
  have e2:(g.push tb).get? e=some oe:=get?_push_of_some _ e1
  have hT:(g.push tb).get? g.objs.size=some tb:=get?_push_size _ (by rw [Obj.isFreed_of_fields td])
  have hne:g.objs.size≠e:=ne_of_gt (lt_size e1)
  have fresh:B.get? g.objs.size=none:=by
   cases q:B.get? g.objs.size with
   | none=>rfl
   | some o =>
    obtain ⟨sl,z⟩:=slots _ o (st _ o q)
    exact absurd (lt_size z) (Nat.lt_irrefl _)
  have up:∀b o,b≠e->g.get? b=some o->((g.push tb).update e (Obj.mapFields (·.setIfInBounds 1 (.ref g.objs.size)))).get? b=some o:=λb o hb q =>
   (get?_update_other _ _ (Ne.symm hb)).trans (get?_push_of_some _ q)
  have notE:∀b o,s.heap.get? b=some o->(∀ws,o.data≠.fields ws)->b≠e:=λb o q nf z=>by
   rw [z,he] at q
   cases q
   exact nf vs hd
  have dd:=Obj.data_mapFields hd (·.setIfInBounds 1 (Value.ref g.objs.size))
  refine wpAny_setField e2 hd (by omega) (k _ ⟨λb o q=>?_,hn,?_,?_⟩ λb o q nf=>?_)
  ·refine up b o (λz=>by rw [z,hn] at q;cases q) ((same b λz=>?_).trans (st b o q))
   rw [(hl.mem z).1] at q
   cases q
  ·refine hl.of_keeps λb o q nf=>?_
   obtain ⟨sl,z⟩:=slots b o q
   exact ⟨_,up b _ (notE b o q nf) z,rfl⟩
  ·refine ⟨_,_,get?_update_self _ e2 (Obj.isFreed_of_fields dd),(Obj.cls_mapFields _ _).trans hc,(zyJ _ _).trans hdi,dd,by simpa using hz,by rw [Array.getElem?_setIfInBounds_ne (by decide)];exact h2,.inr ⟨g.objs.size,tb,ts,?_,fresh,hne,?_,td,t3⟩⟩
   ·rw [Array.getElem?_setIfInBounds_self_of_lt (by omega)]
   ·rw [get?_update_other _ _ (Ne.symm hne)]
    exact hT
  ·obtain ⟨sl,z⟩:=slots b o q
   exact ⟨sl,up b _ (notE b o q nf) z⟩
 unfold EntryCells.newEntry newFields
 refine wpAny_bind (wpAny_newObj_type ?_ (hpl.sizeOk5 _ _ _ _ _))
 exact key _ _ rfl (by simp)
theorem zjR{Q:Unit->Shared->Prop}(hfr:A.frames=some (env::outer))(hf:env.frame=some L)(x:za9 B (env::outer) e cls fl s.heap)
  (k:∀h',za9 B (env::outer) e cls (rawInt L) h'->s.heap.UpToSlots h'->Q () { s with heap:=h' }):wpAny M A (noteFrame (.ref e) env) Q E s:=by
 obtain ⟨st,hn,hl,oe,vs,he,hc,hdi,hd,hz,h2,h1⟩:=x
 unfold noteFrame
 simp only [hf]
 rcases h1 with h1|⟨T,oT,ts,h1,nT,Te,gT,dT,t3⟩
 ·refine wpAny_bind (wpAny_field he hd h1 ?_)
  rw [if_neg (show ¬ ((Value.none != Value.none)=true) by decide)]
  exact zmt hfr hf st hn hl he hc hdi hd hz h2 k
 ·refine wpAny_bind (wpAny_field he hd h1 ?_)
  rw [if_pos (show (Value.ref T != Value.none)=true by simp)]
  refine wpAny_bind (wpAny_field gT dT t3 ?_)
  by_cases hfl:fl=rawInt L
  ·subst hfl
   rw [if_pos (show (rawInt L==rawInt L)=true by simp)]
   exact wpAny_pure (k s.heap ⟨st,hn,hl,oe,vs,he,hc,hdi,hd,hz,h2,.inr ⟨T,oT,ts,h1,nT,Te,gT,dT,t3⟩⟩ (Heap.UpToSlots.refl _))
  ·rw [if_neg (show ¬ ((fl==rawInt L)=true) by simpa using hfl)]
   refine wpAny_bind (wpAny_setField gT dT (Array.getElem?_eq_some_iff.mp t3).1 ?_)
   have oth:∀b,b≠T->(s.heap.update T (Obj.mapFields (·.setIfInBounds 3 Value.none))).get? b=s.heap.get? b:=λb hb=>get?_update_other _ _ (Ne.symm hb)
   have notT:∀b o,s.heap.get? b=some o->(∀ws,o.data≠.fields ws)->b≠T:=λb o q nf z=>by
    rw [z,gT] at q
    cases q
    exact nf ts dT
   refine zmt (B:=B) (cls:=cls) hfr hf (λb o q=>?_) hn (hl.of_keeps λb o q nf=>⟨o,(oth b (notT b o q nf)).trans q,rfl⟩) ((oth e (Ne.symm Te)).trans he) hc hdi hd hz h2 λh' y up=>k h' y λb o q nf=>up b o ((oth b (notT b o q nf)).trans q) nf
   exact (oth b λz=>by rw [z,nT] at q;cases q).trans (st b o q)
theorem zg5{Q:Unit->Shared->Prop}(x:za9 B l e cls fl s.heap)(k:∀h',za9 B l e cls .none h'->s.heap.UpToSlots h'->Q () { s with heap:=h' }):wpAny M A (setFlight (.ref e) none) Q E s:=by
 obtain ⟨st,hn,hl,oe,vs,he,hc,hdi,hd,hz,h2,h1⟩:=x
 unfold setFlight
 rcases h1 with h1|⟨T,oT,ts,h1,nT,Te,gT,dT,t3⟩
 ·refine wpAny_bind (wpAny_field he hd h1 ?_)
  rw [if_neg (show ¬ ((Value.none != Value.none)=true) by decide)]
  exact wpAny_pure (k s.heap ⟨st,hn,hl,oe,vs,he,hc,hdi,hd,hz,h2,.inl h1⟩ (Heap.UpToSlots.refl _))
 ·refine wpAny_bind (wpAny_field he hd h1 ?_)
  rw [if_pos (show (Value.ref T != Value.none)=true by simp)]
  have lt3:3<ts.size:=(Array.getElem?_eq_some_iff.mp t3).1
  have dd:=Obj.data_mapFields dT (·.setIfInBounds 3 Value.none)
  have oth:∀b,b≠T->(s.heap.update T (Obj.mapFields (·.setIfInBounds 3 Value.none))).get? b=s.heap.get? b:=λb hb=>get?_update_other _ _ (Ne.symm hb)
  have notT:∀b o,s.heap.get? b=some o->(∀ws,o.data≠.fields ws)->b≠T:=λb o q nf z=>by
   rw [z,gT] at q
   cases q
   exact nf ts dT
  refine wpAny_setField gT dT lt3 (k _ ⟨λb o q=>(oth b λz=>by rw [z,nT] at q;cases q).trans (st b o q),hn,hl.of_keeps λb o q nf=>⟨o,(oth b (notT b o q nf)).trans q,rfl⟩,oe,vs,(oth e (Ne.symm Te)).trans he,hc,hdi,hd,hz,h2,
   .inr ⟨T,_,_,h1,nT,Te,get?_update_self _ gT (Obj.isFreed_of_fields dd),dd,?_⟩⟩ λb o q nf=>⟨o.slots,(oth b (notT b o q nf)).trans q⟩)
  rw [Array.getElem?_setIfInBounds_self_of_lt lt3]
theorem zuN{Q:Unit->Shared->Prop}(hfr:A.frames=some (env::outer))(hf:env.frame=some L)(x:za9 B (env::outer) e cls fl s.heap)
  (k:∀h',za9 B outer e cls .none h'->s.heap.UpToSlots h'->Q () { s with heap:=h' }):wpAny M A (leaving env (.ref e)) Q E s:=by
 unfold leaving
 refine wpAny_bind (zjR hfr hf x λh1 y u1=>zg5 (s:={ s with heap:=h1 }) y λh2 z u2=>?_)
 obtain ⟨a,b,⟨_,_,c⟩,d⟩:=z
 exact k h2 ⟨a,b,c,d⟩ (u1.trans u2)
end
def CXW(P:Program)(w:World):CXT:=λouter H s E e s'=>∃(ea C:Addr)(B:Heap)(H':Hp)(sI:Shared),e = .ref ea/\za9 B outer ea (.ref C) .none s'.heap/\Un (frs outer) [] H H' s.heap sI.heap/\HOk P w H' sI.heap /\
 sI.os=s.os/\AllBare sI.gens/\s'.os=s.os/\AllBare s'.gens/\(∀b o,sI.heap.get? b=some o->b∉frs outer->B.get? b=some o)/\sI.heap.UpToSlots s'.heap/\E (.ref C) none H'
def zas(X:Cx)(Ex:Addr->St->Hp->Prop):Prop:=∀(Ga:List (Addr×Obj))(σ:St)(H:Hp)(sI:Shared)(ea C:Addr)(B:Heap)(fl:Value)(s':Shared),Inv X Ga σ H sI->za9 B X.stack ea (.ref C) fl s'.heap->s'.os=sI.os->AllBare s'.gens ->
 (∀b o,sI.heap.get? b=some o->b∉frs X.stack->B.get? b=some o)->sI.heap.UpToSlots s'.heap->Ex C σ H->X.xe (.ref ea) s'
theorem zcj{X:Cx}:zas X (λ_ _ _=>False):=λ_ _ _ _ _ _ _ _ _ _ _ _ _ _ _ h=>h.elim
theorem zas.imp{X:Cx}{Ex Ex':Addr->St->Hp->Prop}(T:zas X Ex)(h:∀C σ H,Ex' C σ H->Ex C σ H):zas X Ex':=λGa σ H sI ea C B fl s' I f a b c d q=>T Ga σ H sI ea C B fl s' I f a b c d (h _ _ _ q)
theorem zdE{cm:Bool}{P:Program}{w:World}{K:PySem.W.Frag}{mg:Str->Option Value}{base:Heap}{N:List Str}{qual:Str}{scope:Scope}{f:Addr}{cd:Value}{A:Around}{outer:List Env}{s:Shared}{H:Hp}{E:XK} :
  zas (za3 (CXW P w) cm P w K mg base N qual scope f cd A outer s H E) (λC _ H'=>E (.ref C) none H'):=by
 intro Ga σ H' sI ea C B fl s' I x os bare hB up q
 have ff:A.frames=some outer:=by
  have:=I.ok.frames
  cases h:A.frames with
  | none =>
   have z:(A.deeper (envOfC qual scope s.heap.objs.size f cd)).frames=none:=by
    first|(show (A.frames.map _)=none;rw [h];rfl)|simp [Around.deeper,Around.under,h]
   rw [show (za3 (CXW P w) cm P w K mg base N qual scope f cd A outer s H E).A=A.deeper (envOfC qual scope s.heap.objs.size f cd) from rfl,z] at this
   cases this
  | some l =>
   have z:=Around.frames_deeper (env:=envOfC qual scope s.heap.objs.size f cd) h
   rw [show (za3 (CXW P w) cm P w K mg base N qual scope f cd A outer s H E).A=A.deeper (envOfC qual scope s.heap.objs.size f cd) from rfl,z] at this
   have:=Option.some.inj this
   exact congrArg some (List.cons.inj this).2
 show wpAny (model P w) (A.deeper (envOfC qual scope s.heap.objs.size f cd)) (leaving (envOfC qual scope s.heap.objs.size f cd) (.ref ea)) _ _ s'
 refine zuN (L:=s.heap.objs.size) (Around.frames_deeper ff) rfl x λh' y u=>?_
 have hid:∀b o,b≠s.heap.objs.size->sI.heap.get? b=some o->(hideAll sI.heap [s.heap.objs.size]).get? b=some o:=λb o hb e=>hideAll_get _ e (by simpa using hb)
 have U:=I.base
 have lt:∀b o,s.heap.get? b=some o->b≠s.heap.objs.size:=λb o e=>ne_of_lt (lt_size e)
 have nl:∀b:Addr,b∉(za3 (CXW P w) cm P w K mg base N qual scope f cd A outer s H E).ex:=λb z=>absurd (show b∈([]:List Addr) from z) (by simp)
 refine ⟨ea,C,B,H',{ sI with heap:=hideAll sI.heap [s.heap.objs.size] },rfl,y,⟨λb o e n hb _=>hid b o (lt b o e) (U.keep b o e n hb (nl b)),λb o e n hb _=>?_,λb o e n _=>U.free b o e n (nl b),λb o e _=>?_,U.tups,U.frzs,U.tbls⟩,
  I.hok.but (C:=s.heap.objs.size) I.free hid,I.os,I.bare,os.trans I.os,bare,λb o e hb=>?_,λb o e nf=>?_,q⟩
 ·obtain ⟨sl,z⟩:=U.slot b o e n hb (nl b)
  exact ⟨sl,hid b _ (lt b o e) z⟩
 ·obtain ⟨o',z⟩:=U.there b o e (nl b)
  exact ⟨o',hid b _ (lt b o e) z⟩
 ·have e':=of_hideAll _ e
  refine hB b o e' λz=>?_
  have z':b∈s.heap.objs.size::frs outer:=z
  rcases mem_cons.mp z' with r|r
  ·rw [r] at e
   have z9:(hideAll sI.heap [s.heap.objs.size]).get? s.heap.objs.size=none:=PySem.W.hideAll_none _ (by simp)
   exact absurd (z9.symm.trans e) (by simp)
  ·exact hb r
 ·exact (up.trans u) b o (of_hideAll _ e) nf
def XE(Ex:Addr->St->Hp->Prop)(σ:St):XK:=λc _ H'=>∃C,c = .ref C/\Ex C σ H'
def zvO(sp:Sp)(dvs:List V)(Ex:Addr->St->Hp->Prop)(t:TA):TE:=λσ H Q=>t σ H λvs H1=>sp (vs++dvs) H1 Q (XE Ex σ)
def zcc(C:Addr)(m:Str)(sp:Sp)(dvs:List V)(Ex:Addr->St->Hp->Prop)(ta:TE)(t:TA):TE:=λσ H Q=>ta σ H λx H1=>∃a dx fs,x = .ref a/\H1 a=some (.ins C dx fs)/\fs.lookup m=none /\
 t σ H1 λvs H2=>sp (x::(vs++dvs)) H2 Q (XE Ex σ)
def zod(C:Addr)(sp:Sp)(dvs:List V)(Ex:Addr->St->Hp->Prop)(t:TA):TE:=λσ H Q=>t σ H λvs H1=>∀x dx,H1 x=none->H1 dx=none->dx≠x ->
 sp (.ref x::(vs++dvs)) (upd (upd H1 dx (.own x)) x (.ins C dx [])) (λv H2=>v = .non/\Q (.ref x) H2) (XE Ex σ)
section
variable {X:Cx}{cm:Bool}{k:Nat}{f C:Addr}{fd:FuncData}{ps:List Str}{sp:Sp}{dvs:List V}{ds:List Value}{Ex:Addr->St->Hp->Prop}{x m:Str}{p pos apos:Pos}{e o:Expr}{es:List Expr}{ta:TE}{t:TA}
theorem zas.of{Ga:List (Addr×Obj)}{σ:St}{H:Hp}{s s':Shared}{v:Value}(T:zas X Ex)(I:Inv X Ga σ H s)(h:CXW X.prog X.w X.stack H s (XE Ex σ) v s'):X.xe v s':=by
 obtain ⟨ea,C,B,H',sI,rfl,y,un,hok,os,bare,os',bare',hB,up,C',ec,q⟩:=h
 cases ec
 exact T Ga σ H' sI ea C B .none s' (I.call' os un hok bare λb z=>absurd z (by simp)) y (os'.trans os.symm) bare' hB up q
theorem ziQ{Ga:List (Addr×Obj)}{σ:St}{H:Hp}{s:Shared}{Q:VK}{us:List Value}{vs:List V}(T:zas X Ex)(F:zo X.prog X.w X.K X.mg X.base (CXW X.prog X.w) cm k f fd ps sp)(hr:zx cm k X.A)(hb:zax X.K fd ps ds)(hd:zj dvs ds)
  (I:Inv X Ga σ H s) (r:zj vs us) (h:sp (vs++dvs) H Q (XE Ex σ)):wpAny (model X.prog X.w) X.A (call (.ref f) us) (EP X Ga σ Q) X.xe s:=by
 have r2:zj (vs++dvs) (us++ds):=r.append hd
 have hl:(us++ds).length=ps.length:=by rw [<- r2.length];exact F.len _ _ _ _ h
 refine wpAny_call (codeAny_mono (F.run X.A X.stack s H ⟨us,[]⟩ (us++ds) (vs++dvs) Q (XE Ex σ) hr I.env0 (hb s us I.kIn hl) r2 h) λr s' hq=>?_)
 cases r with
 | error v=>exact T.of I hq
 | ok fl =>
  cases fl with
  | ret u=>exact I.after hq
  | next=>exact False.elim hq
  | brk=>exact False.elim hq
  | cont=>exact False.elim hq
theorem zyU{pl:Sem Bool}(he:PE X o ta)(c:Cls X.K C)(hm:zcm X.K C m f)(T:zas X Ex)(F:zo X.prog X.w X.K X.mg X.base (CXW X.prog X.w) cm k f fd ps sp)(hr:zx cm k X.A)(hb:zax X.K fd ps ds)(hd:zj dvs ds)(ha:PA X (e::es) t)
  (hst:starEach (e::es) X.env=(false,eval e X.env)::starEach es X.env:=by rfl) (hpl:(backTo pos (starEach es X.env)).any (·.1)=false:=by rfl)
  (ht:eval (.Call (.Attribute o m apos) (e::es) [] pos) X.env=(do
   let ov<-eval o X.env
   standAt apos.atName
   let (f,first)<-holding [ov] (getMethod ov m pl)
   callWith pos f first (backTo pos (starEach (e::es) X.env)) (backToKw pos (keywordEach [] X.env))):=by rfl) :
  PE X (.Call (.Attribute o m apos) (e::es) [] pos) (zcc C m sp dvs Ex ta t):=by
 intro Ga s σ H Q I h
 refine methodCall_KW (pl:=pl) (thn (he Ga s σ H _ I h) λu s1 ⟨x,H1,I1,rx,a,dx,fs,ex,ea,l,q⟩=>?_) ht
 subst ex
 obtain rfl:u=Value.ref a:=rx
 refine zeq I1 ea c hm l ?_
 refine callWith_K (first:=[.ref a]) (h₀:=X.base) I.ok.mod.kin hm.kp (thn (ha pos Ga s1 σ H1 _ I1 q) λus s2 ⟨vs,H2,I2,r,q2⟩=>⟨I2.kIn,?_⟩) hst hpl
 exact ziQ (us:=.ref a::us) (vs:=.ref a::vs) T F hr hb hd I2 (.cons rfl r) q2
theorem zn7{pl:Sem Bool}(he:PE X o ta)(c:Cls X.K C)(hm:zcm X.K C m f)(T:zas X Ex)(F:zo X.prog X.w X.K X.mg X.base (CXW X.prog X.w) cm k f fd ps sp)(hr:zx cm k X.A)(hb:zax X.K fd ps ds)(hd:zj dvs ds)
  (ht:eval (.Call (.Attribute o m apos) [] [] pos) X.env=(do
   let ov<-eval o X.env
   standAt apos.atName
   let (f,first)<-holding [ov] (getMethod ov m pl)
   callWith pos f first (backTo pos (starEach [] X.env)) (backToKw pos (keywordEach [] X.env))):=by rfl) :
  PE X (.Call (.Attribute o m apos) [] [] pos) (zcc C m sp dvs Ex ta za0):=by
 intro Ga s σ H Q I h
 refine methodCall_KW (pl:=pl) (thn (he Ga s σ H _ I h) λu s1 ⟨x,H1,I1,rx,a,dx,fs,ex,ea,l,q⟩=>?_) ht
 subst ex
 obtain rfl:u=Value.ref a:=rx
 refine zeq I1 ea c hm l ?_
 exact callWith_K0 (first:=[.ref a]) I1.kIn hm.kp (ziQ (us:=[.ref a]) (vs:=[.ref a]) T F hr hb hd I1 (.cons rfl .nil) q)
theorem zxv(M:Mk X.K C f)(T:zas X Ex)(F:zo X.prog X.w X.K X.mg X.base (CXW X.prog X.w) cm k f fd ps sp)(hr:zx cm (k+1) X.A)(hg:Gl X x)(hm:X.mg x=some (.ref C))(hb:zax X.K fd ps ds)(hd:zj dvs ds)
  (ha:PA X (e::es) t) (hdb:(x==("__debug__":Str))=false:=by decide) (he:starEach (e::es) X.env=(false,eval e X.env)::starEach es X.env:=by rfl) (hpl:(backTo pos (starEach es X.env)).any (·.1)=false:=by rfl) :
  PE X (.Call (.Name x p) (e::es) [] pos) (zod C sp dvs Ex t):=by
 intro Ga s σ H Q I h
 refine wpAny_Call_Name_kw (zcK I hg hm ?_ hdb)
 refine callWith_K (h₀:=X.base) I.ok.mod.kin M.kp (thn (ha pos Ga s σ H _ I h) λus s1 ⟨vs,H1,I1,r,q⟩=>⟨I1.kIn,?_⟩) he hpl
 have hq:=q (s1.heap.objs.size+1) s1.heap.objs.size (I1.hok.fresh (le_succ _)) (I1.hok.fresh (le_refl _)) (ne_of_lt (lt_succ_self _))
 have I2:=Inv.made (C:=C) I1
 have r2:zj (V.ref (s1.heap.objs.size+1)::(vs++dvs)) (Value.ref (s1.heap.objs.size+1)::(us++ds)):=.cons rfl (r.append hd)
 have hl:(Value.ref (s1.heap.objs.size+1)::us++ds).length=ps.length:=by
  have e:=r2.length
  rw [F.len _ _ _ _ hq] at e
  exact e.symm
 refine wpAny_call (zjn (f:=f) I1.kIn M.makes M.init (beq_iff_eq.mp M.fn) (codeAny_mono (F.run _ X.stack _ _ ⟨Value.ref (s1.heap.objs.size+1)::us,[]⟩ (Value.ref (s1.heap.objs.size+1)::(us++ds)) _ _ (XE Ex σ) (hr.make C us [])
  (I2.env0.make C us []) (hb _ (Value.ref (s1.heap.objs.size+1)::us) I2.kIn hl) r2 hq) λr s' hq'=>?_))
 cases r with
 | error e=>exact T.of I2 hq'
 | ok fl =>
  cases fl with
  | ret u =>
   obtain ⟨v,H',I3,rv,ev,q3⟩:=I2.after hq'
   subst ev
   exact ⟨rv,⟨V.ref (s1.heap.objs.size+1),H',I3,rfl,q3⟩⟩
  | next=>exact False.elim hq'
  | brk=>exact False.elim hq'
  | cont=>exact False.elim hq'
end
theorem PS.nox{X:Cx}{st:Stmt}{t:TS}(h:PS X.nox st t):PS X st t:=λGa s σ H D I hw =>
 wpAny_mono (h Ga s σ H D (I.wish _) hw) (λ_ _ q=>q.unwish) λ_ _ z=>False.elim z
theorem Fun.okW{P:Program}{w:World}{K:PySem.W.Frag}{mg:Str->Option Value}{base:Heap}{x qual:Str}{st:Stmt}{f:Addr}{fd:FuncData}{N ps:List Str}{cm:Bool}{k:Nat}{sp:Sp}(F:Fun K x qual st f fd)(S:zu N ps (ze st))(len:∀vs H Q E,sp vs H Q E->vs.length=ps.length)
  (hbody:∀(cdv:Value)(A:Around)(outer:List Env)(s:Shared)(H:Hp)(vs:List V)(Q:VK)(E:XK),zx cm k (A.deeper (envOfC qual (ze st) s.heap.objs.size f cdv))->sp vs H Q E ->
   ∃t,PSs (za3 (CXW P w) cm P w K mg base N qual (ze st) f cdv A outer s H E) (zt st) t/\t { nx:=λ_ H'=>Q .non H',rt:=Q } (start N vs) H):zo P w K mg base (CXW P w) cm (k+1) f fd ps sp:=by
 obtain ⟨oc,od,kV,doc,pm,an,cdv,ct,osl,rfl,lk,hcd⟩:=F.ex
 exact zhk lk hcd S len λA outer s H vs Q E hr hsp=>hbody cdv A outer s H vs Q E hr hsp
def bmV:List Value:=[.type "ValueError",.type "Exception",.type "BaseException",.type "object"]
def zaY(K:PySem.W.Frag)(C:Addr):Prop:=excIn K C bmV "ValueError.__new__"=true
structure zgp(h:Heap)(C:Addr)(mro:List Value):Prop where
 ex:∃bm N nm q bs hdct sn sub ab col dd k0 k1 k2 k3 k5 mN,mro = .ref C::bm/\h.get? C=some (excClassObj nm q C N bs bm hdct sn sub ab col dd k0 k1 k2 k3 k5 "ValueError.__new__")/\h.Ns N mN/\mN "__init__"=none/\OwnTail h bmV bm
theorem zaY.obj{K:PySem.W.Frag}{C:Addr}{h:Heap}(x:zaY K C)(X:K.In h):∃cd,clsIn K C=some cd/\zgp h C cd.mro:=by
 unfold zaY excIn at x
 split at x
 ·rename_i dd cd sl look
  have hc:clsIn K C=some cd:=by
   unfold clsIn
   rw [look]
  refine ⟨cd,hc,?_⟩
  split at x
  ·rename_i C' bm k0 k1 k2 k3 n k5 em es
   simp only [and_eq_true,beq_iff_eq,Bool.not_eq_true'] at x
   obtain ⟨⟨⟨⟨⟨c1,c2⟩,c3⟩,c4⟩,c5⟩,c6⟩:=x
   subst c1 c2
   obtain ⟨a1,a2,a3,a4,a5,a6,a7,a8,a9,a10,a11⟩:=cd
   dsimp only at em c3 c5 c6 ⊢
   subst em c3
   obtain ⟨sl⟩:=sl
   dsimp only at es
   subst es
   exact ⟨bm,a4,a1,a5,a2,a6,a7,a8,a9,a10,dd,k0,k1,k2,k3,k5,_,rfl,X _ _ look,.of_isNs (PySem.W.isNs_of_in X c5),PySem.W.nsMap_none_of_in X c5 c6,PySem.W.tail_of_in X c4⟩
  ·cases x
 ·cases x
def zfd(C:Addr)(Ex:Addr->St->Hp->Prop)(t:TA):TS:=λ_ σ H=>t σ H λvs H1=>vs.length<=sizeLine/\Ex C σ H1
theorem zvU{X:Cx}{Ex:Addr->St->Hp->Prop}{C:Addr}{x:Str}{np cpos pos:Pos}{e:Expr}{es:List Expr}{t:TA}(hc:X.calm=true)(T:zas X Ex)(O:zaY X.K C)(hg:Gl X x)(hm:X.mg x=some (.ref C))(ha:PA X (e::es) t)
  (hdb:(x==("__debug__":Str))=false:=by decide) (hst:starEach (e::es) X.env=(false,eval e X.env)::starEach es X.env:=by rfl) (hpl:(backTo cpos (starEach es X.env)).any (·.1)=false:=by rfl) :
  PS X (.Raise (some (.Call (.Name x np) (e::es) [] cpos)) none pos) (zfd C Ex t):=by
 intro Ga s σ H D I h
 obtain ⟨cd,_,⟨bm,N,nm,q,bs,hdct,sn,sub,ab,col,dd,k0,k1,k2,k3,k5,mN,em,hC,hN,hni,TL⟩⟩:=O.obj I.ok.mod.kin
 refine wpAny_Raise_call_subT (C:=C) (nm:=nm) (q:=q) (N:=N) (bs:=bs) (bm:=bm) (hdct:=hdct) (sn:=sn) (sub:=sub) (ab:=ab) (col:=col) (dd:=dd) (k0:=k0) (k1:=k1) (k2:=k2) (k3:=k3) (k5:=k5) (mN:=mN) PySem.F.excBase_ValueError (TL.hasType (by decide)) (I.ok.hd hc)
  (by rw [hst];show (false||(backTo cpos (starEach es X.env)).any (·.1))=false;rw [hpl];rfl) hni (zcK I hg hm ⟨rfl,?_⟩ hdb)
 have hA:=ha cpos Ga s σ H _ I h
 rw [hst] at hA ⊢
 refine Calls.evalArgs_plain (thn hA λus s2 ⟨vs,H2,I2,r2,hz,q2⟩=>⟨rfl,by rw [<- r2.length];exact hz,I2.bk _ _ hC,hN.keeps I2.bk,TL.keeps I2.bk,λh' ea hm'=>?_⟩)
 obtain ⟨tt,he,htn,_⟩:=hm'.there
 have hin:∀env∈X.stack,∀a,env.frame=some a->a∈frs X.stack:=λenv hm a ha=>mem_filterMap.mpr ⟨env,hm,ha⟩
 refine T Ga σ H2 s2 ea C (hideAll s2.heap (frs X.stack)) .none { s2 with heap:=h' } I2 ⟨λb o e=>hm'.keeps b o (of_hideAll _ e),?_,?_,?_⟩ rfl I2.bare (λb o e hb=>hideAll_get _ e hb) (λb o e _=>⟨o.slots,hm'.keeps b o e⟩) q2
 ·cases z:(hideAll s2.heap (frs X.stack)).get? ea with
  | none=>rfl
  | some o =>
   have:=of_hideAll _ z
   rw [hm'.new] at this
   cases this
 ·exact (PySem.W.funFrames_hide I2.stack hin).of_keeps λb o e _=>⟨o,hm'.keeps b o e,rfl⟩
 ·exact ⟨_,_,he,rfl,rfl,rfl,by simp,rfl,.inl rfl⟩
section
variable {M:Model}{A:Around}{E:Value->Shared->Prop}
theorem zpO{h:Heap}{g:Array GenState}{d:Drawn}{t:Nat}{os:OsState}{e C D:Addr}{oe:Obj}{mC mD:List Value}{Q:Bool->Shared->Prop}(OC:zgp h C mC)(OD:zgp h D mD)(he:h.get? e=some oe)(hcls:oe.cls = .ref C)
  (hsub:mC.contains (.ref D)=true) (hq:Q true ⟨h,g,d,t,os⟩):wpAny M A (excMatches (.ref e) (.ref D)) Q E ⟨h,g,d,t,os⟩:=by
 obtain ⟨bm,N,nm,q,bs,hdct,sn,sub,ab,col,dd,k0,k1,k2,k3,k5,mN,rfl,hC,_,_,TC⟩:=OC
 obtain ⟨bm',N',nm',q',bs',hdct',sn',sub',ab',col',dd',j0,j1,j2,j3,j5,mN',rfl,hD,_,_,TD⟩:=OD
 have b1:(Value.ref D::bm').contains (.type "BaseException")=true:=by
  rw [List.contains_cons,TD.hasType (X:="BaseException") (b:=true) (by decide),Bool.or_true]
 have b2:=tc_notTuple
 unfold excMatches
 repeat (first|(with_reducible refine wpAny_loadPart_at he ?_;rw [hcls])|with_reducible refine wpAny_loadPart_at hD ?_|(with_reducible refine wpAny_isSubtype_exc hD ?_;rw [b1])|(with_reducible refine wpAny_isSubtype_exc hC ?_;rw [hsub])|wp_step)
 exact hq
end
theorem zW.ex{P:Program}{w:World}{H:Hp}{h:Heap}{a:Addr}{o:HO}(x:zW P w H h a o):∃ob,h.get? a=some ob:=by
 cases o with
 | lst xs=>obtain ⟨_,_,_,_,e⟩:=x;exact ⟨_,e⟩
 | tup xs=>obtain ⟨_,_,_,o,e,_⟩:=x;exact ⟨_,e⟩
 | dK kvs=>obtain ⟨_,_,_,_,o,_,_,e,_⟩:=x;exact ⟨_,e⟩
 | dT kvs=>obtain ⟨_,_,_,_,o,_,_,e,_⟩:=x;exact ⟨_,e⟩
 | set S n=>obtain ⟨o,_,_,_,e,_⟩:=x;exact ⟨_,e⟩
 | ins C dx fs=>obtain ⟨_,_,_,e,_⟩:=x;exact ⟨_,e⟩
 | own y=>exact x
 | xd fs=>obtain ⟨_,⟨_,_,_,e,_⟩,_⟩:=x;exact ⟨_,e⟩
 | rng lo hi=>obtain ⟨_,_,_,e⟩:=x;exact ⟨_,e⟩
 | frz ob u=>exact ⟨_,x.1⟩
 | tbl ps=>exact ⟨_,x⟩
 | met f y=>exact ⟨_,x⟩
 | ext φ=>exact x.2.1
abbrev cxP(X:Cx)(Ga:List (Addr×Obj)):Cx:={ X with pn:=X.pn++Ga }
theorem Cx.Ok.p{X:Cx}(ok:X.Ok)(Ga:List (Addr×Obj)):(cxP X Ga).Ok :=
 ⟨ok.mod,ok.kind,ok.glob,ok.blt,ok.above,ok.inj,ok.has,ok.cab,ok.hd,ok.frames,ok.stk,ok.exf,ok.bs,ok.bsz,ok.noex,ok.exfs,ok.funs,ok.frf⟩
theorem Inv.p{X:Cx}{Ga:List (Addr×Obj)}{σ:St}{H:Hp}{s:Shared}(I:Inv X Ga σ H s):Inv (cxP X Ga) [] σ H s :=
 ⟨I.ok.p Ga,I.os,I.bare,I.base,I.loc,I.cell,I.free,I.freeC,λp hp=>I.pin p (by have h:p∈(X.pn++Ga)++[]:=hp;simpa using h),I.hok,I.len,I.hdk⟩
theorem Inv.unp{X:Cx}{Ga:List (Addr×Obj)}{σ:St}{H:Hp}{s:Shared}(ok:X.Ok)(I:Inv (cxP X Ga) [] σ H s):Inv X Ga σ H s :=
 ⟨ok,I.os,I.bare,I.base,I.loc,I.cell,I.free,I.freeC,λp hp=>I.pin p (by show p∈(X.pn++Ga)++[];simpa using hp),I.hok,I.len,I.hdk⟩
abbrev zgX(X:Cx)(Ga:List (Addr×Obj))(Ex:Addr->St->Hp->Prop):Cx:=(cxP X Ga).wish λe s'=>∃(ea C:Addr)(B:Heap)(H':Hp)(fl:Value)(σ:St)(sI:Shared),e = .ref ea/\Inv (cxP X Ga) [] σ H' sI/\za9 B X.stack ea (.ref C) fl s'.heap /\
 s'.os=sI.os/\AllBare s'.gens/\(∀b o,sI.heap.get? b=some o->b∉frs X.stack->B.get? b=some o)/\sI.heap.UpToSlots s'.heap/\Ex C σ H'
theorem zkr{X:Cx}{Ga:List (Addr×Obj)}{Ex:Addr->St->Hp->Prop}:zas (zgX X Ga Ex) Ex:=λps σ H sI ea C B fl s' I y os bare hB up q =>
 ⟨ea,C,B,H,fl,σ,sI,rfl,(I.unwish.pins_of λp hp=>(nomatch hp)),y,os,bare,hB,up,q⟩
abbrev zei(X:Cx)(Ga:List (Addr×Obj))(ea:Addr):Cx:={ X with pn:=X.pn++Ga,A:=X.A.mark (some (.ref ea)),calm:=false,xe:=λ_ _=>False }
def ze4(C:Addr)(o:Obj):Prop:=o.cls = .ref C/\o.dict=none/\∃vs,o.data = .fields vs
theorem zj3{X:Cx}{Ga:List (Addr×Obj)}{σ:St}{H:Hp}{sI s':Shared}{ea C:Addr}{B:Heap}{fl:Value}(hex:X.ex=[])(I:Inv (cxP X Ga) [] σ H sI)(y:za9 B X.stack ea (.ref C) fl s'.heap)(os:s'.os=sI.os)(bare:AllBare s'.gens)
  (hB:∀b o,sI.heap.get? b=some o->b∉frs X.stack->B.get? b=some o) (up:sI.heap.UpToSlots s'.heap) :
  H ea=none/\∃oe,ze4 C oe/\s'.heap.get? ea=some oe/\Inv (zei X Ga ea) [] σ (upd H ea (.frz oe (.own 0))) s':=by
 obtain ⟨st,hn,hl,oe,vs,he,hc,hdi,hd,hz,h2,h1⟩:=y
 have nea:ea∉frs X.stack:=λz=>by
  obtain ⟨_,o,ho,nf⟩:=hl.mem z
  rw [he] at ho
  cases ho
  exact nf vs hd
 have new:sI.heap.get? ea=none:=by
  cases q:sI.heap.get? ea with
  | none=>rfl
  | some o =>
   have:=hB _ o q nea
   rw [hn] at this
   cases this
 have hH:H ea=none:=by
  cases q:H ea with
  | none=>rfl
  | some u =>
   obtain ⟨ob,z⟩:=(I.hok ea u q).ex
   rw [new] at z
   cases z
 have keep:∀b o,sI.heap.get? b=some o->b∉frs X.stack->s'.heap.get? b=some o:=λb o e hb=>st b o (hB b o e hb)
 have slot:∀b o,sI.heap.get? b=some o->b∈frs X.stack->∃sl,s'.heap.get? b=some { o with slots:=sl }:=λb o e hb=>by
  obtain ⟨_,o',ho',nf⟩:=I.stack.mem (show b∈(cxP X Ga).stack.filterMap (·.frame) from hb)
  rw [e] at ho'
  cases ho'
  exact up b o e nf
 have I1:Inv (cxP X Ga) [] σ H s':=I.call' (ch:=[]) os ⟨λb o e _ hb _=>keep b o e hb,λb o e _ hb _=>slot b o e hb,λ_ _ _ n _=>n,λb o e _=>?_,λ_ _ e=>e,λ_ _ _ e=>e,λb ps e=>⟨#[],by rw [e];simp⟩⟩
  (λb u e=>(I.hok b u e).stay (λc v hc q=>keep c v q λz=>?_) (λ_ q=>q) λ_ _ q=>q) bare λb z=>absurd z (by simp)
 ·have nel:ea≠X.env.locals:=λz=>by
   obtain ⟨m,⟨o,es,ep,ho,hdd,_⟩,_⟩:=I1.loc
   have ho':s'.heap.get? ea=some o:=by rw [z];exact ho
   rw [he] at ho'
   cases ho'
   rw [hd] at hdd
   cases hdd
  refine ⟨hH,oe,⟨hc,hdi,vs,hd⟩,he,⟨⟨I1.ok.mod,I1.ok.kind,I1.ok.glob,I1.ok.blt,I1.ok.above,I1.ok.inj,I1.ok.has,I1.ok.cab,λz=>(nomatch z),I1.ok.frames,I1.ok.stk,I1.ok.exf,I1.ok.bs,I1.ok.bsz,I1.ok.noex,I1.ok.exfs,I1.ok.funs,I1.ok.frf⟩,I1.os,I1.bare,
   ⟨I1.base.keep,I1.base.slot,λb o e n hx=>?_,I1.base.there,λb xs e=>?_,λb o u e=>?_,λb ps e=>?_⟩,I1.loc,I1.cell,?_,λx c e=>?_,λp hp=>?_,I1.hok.add hH ⟨he,oe,he⟩,I1.len,.inr ⟨ea,oe,vs,rfl,zq,hd,h2,C,hc⟩⟩⟩
  ·obtain ⟨o',z⟩:=I.base.there b o e hx
   rw [zd (λw=>by rw [w,new] at z;cases z)]
   exact I1.base.free b o e n hx
  ·have z:=I1.base.tups b xs e
   rw [zd (zA z hH)]
   exact z
  ·have z:=I1.base.frzs b o u e
   rw [zd (zA z hH)]
   exact z
  ·obtain ⟨more,z⟩:=I1.base.tbls b ps e
   exact ⟨more,by rw [zd (zA z hH)];exact z⟩
  ·rw [zd (Ne.symm nel)]
   exact I1.free
  ·have nc:c≠ea:=λw=>by
    obtain ⟨v,o,ho,hdd⟩:=I1.cell x c e
    rw [w,he] at ho
    cases ho
    rw [hd] at hdd
    cases hdd
   rw [zd nc]
   exact I1.freeC x c e
  ·obtain ⟨a,b,c,d,f⟩:=I1.pin p hp
   refine ⟨a,?_,c,d,f⟩
   rw [zd λw=>?_]
   ·exact b
   ·have:=(I.pin p hp).1
    rw [w,new] at this
    cases this
 ·by_cases hb:b∈frs X.stack
  ·obtain ⟨sl,z⟩:=slot b o e hb
   exact ⟨_,z⟩
  ·exact ⟨o,keep b o e hb⟩
 ·have zf:H c=none:=I.stkFree c z
  rcases hc with w|w
  ·rw [w] at zf
   rw [zf] at e
   cases e
  ·rw [zf] at w
   cases w
theorem Inv.unsuite{X:Cx}{Ga:List (Addr×Obj)}{σ:St}{H:Hp}{s:Shared}{ea:Addr}(ok:X.Ok)(hh:X.A.handled=none)(I:Inv (zei X Ga ea) [] σ H s):Inv X Ga σ H s :=
 ⟨ok,I.os,I.bare,I.base,I.loc,I.cell,I.free,I.freeC,λp hp=>I.pin p (by show p∈(X.pn++Ga)++[];simpa using hp),I.hok,I.len,.inl hh⟩
end L2
namespace L2
open PySem PySem.Spec PyProof.Rows PySem.W
section
variable {prog:Program}{w:World}{A:Around}{E:Value->Shared->Prop}{K:Frag}{h:Heap}{g:Array GenState}{d:Drawn}{t:Nat}{os:OsState}{e C:Addr}{oe:Obj}
theorem zxj{tk:Tok}{Q:Fin->Shared->Prop}(X:K.In h)(I:InstAt h e oe C none)(f3:findIn K (.ref C) "__class__"=some (some (.builtin "object.__class__")))(hm:mroIn K C (.type "object")=some true)
  (hq:Q (.done (.ret (.ref C))) ⟨h,g,d,t,os⟩):wpAny (model prog w) A (Builtin.«object.__getattribute__» ⟨[.ref e,.str "__class__" tk],[]⟩) Q E ⟨h,g,d,t,os⟩:=by
 have L0:=I.type (M:=model prog w)
 have L3:=looks_findIn (M:=model prog w) X f3
 have f5:=F.typeOf_object_class
 have f6:=F.slot_gs_get.lookup
 have f7:=F.slot_gs_set.lookup
 repeat (any_goals (first|assumption|with_reducible refine L0.at ?_|with_reducible refine L3.at ?_|wp_step))
 exact class_get (s:=⟨h,g,d,t,os⟩) X I hm (wpAny_pure hq)
theorem zsM{nameV:Value}{Q:Unit->Shared->Prop}(X:K.In h)(I:InstAt h e oe C none)(hb:mroIn K C (.type "BaseException")=some true)(hq:Q () ⟨h,g,d,t,os⟩) :
  wpAny (model prog w) A (checkBuiltinCall "BaseException.__getattribute__" ⟨[.ref e,nameV],[]⟩) Q E ⟨h,g,d,t,os⟩:=by
 have L0:=I.type (M:=model prog w)
 have L4:=looks_mroIn (M:=model prog w) X hb
 have c1:builtinKind "BaseException.__getattribute__"=some .slot:=by decide +kernel
 have c2:splitId "BaseException.__getattribute__"=some ("BaseException","__getattribute__"):=by decide +kernel
 have c3:=F.args_bexc_ga (.ref e) nameV
 simp only [checkBuiltinCall,c1,c2]
 refine wpAny_bind ?_
 unfold isInstance
 repeat (first|with_reducible refine L0.at ?_|with_reducible refine L4.at ?_|wp_step)
 exact hq
theorem zxM{Q:Option Value->Shared->Prop}(X:K.In h)(I:InstAt h e oe C none)(f1:findIn K (.ref C) "__getattribute__"=some (some (.builtin "BaseException.__getattribute__")))(f2:findIn K (.ref C) "__getattr__"=some none)
  (f3:findIn K (.ref C) "__class__"=some (some (.builtin "object.__class__"))) (hm:mroIn K C (.type "object")=some true) (hb:mroIn K C (.type "BaseException")=some true) (hq:Q (some (.ref C)) ⟨h,g,d,t+1,os⟩) :
  wpAny (model prog w) A (getAttr? (.ref e) "__class__") Q E ⟨h,g,d,t,os⟩:=by
 have L0:=I.type (M:=model prog w)
 have L1:=looks_findIn (M:=model prog w) X f1
 have L2:=looks_findIn (M:=model prog w) X f2
 have f4:=PySem.F.attr_ValueError.ga.bind (.ref e)
 have x2:(builtin "BaseException.__getattribute__" == builtin "object.__getattribute__")=false:=by decide +kernel
 have x1:(onTheHeap (Value.ref C)&&builtin "BaseException.__getattribute__" == builtin "object.__getattribute__")=false:=by rw [x2];rfl
 have x0:(false&&onTheHeap (builtin "BaseException.__getattribute__"))=false:=rfl
 unfold getAttr? getAttrBy?
 refine wpAny_bind (wpAny_mkText (wpAny_bind (wpAny_attempt ?_)))
 repeat (any_goals (first|assumption|with_reducible refine L0.at ?_|with_reducible refine L1.at ?_|with_reducible refine L2.at ?_|wp_step))
 refine codeAny_call_builtin PySem.F.attr_ValueError.ga.plain F.entry_bexc_ga (zsM X I hb (zxj X I f3 hm ?_))
 repeat (any_goals (first|assumption|wp_step))
structure zjU(K:Frag)(C:Addr):Prop where
 err:zaY K C
 ga:findIn K (.ref C) "__getattribute__"=some (some (.builtin "BaseException.__getattribute__"))
 gr:findIn K (.ref C) "__getattr__"=some none
 cl:findIn K (.ref C) "__class__"=some (some (.builtin "object.__class__"))
 ob:mroIn K C (.type "object")=some true
 ba:mroIn K C (.type "BaseException")=some true
theorem zyq(O:zjU K C):KitX K (.ref e) (.ref C) (λh=>InstAt h e oe C none) where
 ty:=λ_ _ _ I=>I.type
 it:=λM h X I=>by
  obtain ⟨cd,_,⟨bm,N,nm,q,bs,hdct,sn,sub,ab,col,dd,k0,k1,k2,k3,k5,mN,_,hC,_⟩⟩:=O.err.obj X
  intro A' Q' E' s' k q'
  unfold isType loadHead
  exact wpAny_bind (wpAny_loadPart (k _ _ hC) (wpAny_pure q'))
 ne:=λh tp dd its n sl X htp=>by
  obtain ⟨cd,_,⟨bm,N,nm,q,bs,hdct,sn,sub,ab,col,d1,k0,k1,k2,k3,k5,mN,_,hC,_⟩⟩:=O.err.obj X
  refine eq_false_iff.mpr λz=>?_
  have ec:C=tp:=Value.ref.inj (beq_iff_eq.mp z)
  subst ec
  have wd:=congrArg Obj.data (Option.some.inj (hC.symm.trans htp))
  cases wd
 ca:=λ{prog w A E Q s} X I k=>by
  obtain ⟨h,g,d,t,os⟩:=s
  exact zxM X I O.ga O.gr O.cl O.ob O.ba k
end
def zu5:V->Option Value
 | .ref a=>some (.ref a)
 | .ty n=>some (.type n)
 | _=>none
inductive TyX(K:Frag)(H:Hp):V->Value->Prop where
 | of {x:V}{t:Value} (h:za2 K H x t):TyX K H x t
 | exc {a C:Addr}{o:Obj} (e:H a=some (.frz o (.own 0))) (ho:ze4 C o) (O:zjU K C):TyX K H (.ref a) (.ref C)
def zgU(K:Frag):List V->Hp->VK->Prop:=λxs H Q=>∃x c t u b,xs=[x,c]/\zu5 c=some u/\TyX K H x t/\kitOne K t u=some b/\Q (.bl b) H
theorem zhL{X:Cx}:zK X (.builtin "isinstance") (zgU X.K):=by
 intro Ga s σ H xs us Q I r h
 obtain ⟨x,c,t,u,b,rfl,hc,ty,hk,q⟩:=h
 cases r with
 | cons r1 rr =>
  cases rr with
  | cons r2 rr =>
   cases rr
   rename_i v1 v2
   have e2:v2=u:=by
    cases c with
    | ref a=>cases hc;exact r2
    | ty n=>cases hc;exact r2
    | _=>cases hc
   subst e2
   cases ty with
   | of ty=>exact zvx I r1 ty hk λtk=>⟨.bl b,H,I.tok tk,rfl,q⟩
   | exc e ho O =>
    rename_i a C o
    obtain rfl:v1=Value.ref a:=r1
    obtain ⟨z,_⟩:=I.hok a _ e
    obtain ⟨c1,c2,vs,c3⟩:=ho
    have J:InstAt s.heap a o C none:=⟨z,c1,by unfold notCls;rw [c3],by rw [c2];trivial⟩
    exact kia_one (zyq O) I.kIn J hk (λw=>nomatch w) λtk=>⟨.bl b,H,I.tok tk,rfl,q⟩
end L2
namespace L2
open PySem PySem.Spec PyProof.Rows
def Hnd(A:Around)(h:Heap):Prop:=A.handled=none\/∃(a:Addr)(o:Obj)(vs:Array Value),A.handled=some (.ref a)/\h.get? a=some o/\o.data = .fields vs/\vs[2]?=some .none/\∃C,o.cls = .ref C
theorem Inv.hnd{X:Cx}{Ga:List (Addr×Obj)}{σ:St}{H:Hp}{s:Shared}(I:Inv X Ga σ H s):Hnd X.A s.heap:=by
 rcases I.hdk with h|⟨a,o,vs,h1,h2,h3⟩
 ·exact .inl h
 ·exact .inr ⟨a,o,vs,h1,(I.hok a _ h2).1,h3⟩
theorem Hnd.keeps{A:Around}{h h':Heap}(x:Hnd A h)(k:∀b o,(∃C,o.cls = .ref C)->h.get? b=some o->h'.get? b=some o):Hnd A h':=by
 rcases x with x|⟨a,o,vs,h1,h2,h3,h4,h5⟩
 ·exact .inl x
 ·exact .inr ⟨a,o,vs,h1,k a o h5 h2,h3,h4,h5⟩
theorem zqS:entryFor table "proto.unchain"=some Builtin.«proto.unchain»:=entryFor_of_tree (by kernel_rfl)
section
variable {prog:Program}{w:World}{A:Around}{E:Value->Shared->Prop}{s:Shared}
theorem zwO{α:Type}{e:Addr}{oe:Obj}{ws:Array Value}{Q:α->Shared->Prop}(hh:Hnd A s.heap)(he:s.heap.get? e=some oe)(hd:oe.data = .fields ws)(hz:2<ws.size)(hc:∀C,oe.cls≠.ref C)
  (k:∀h',SameBut e s.heap h'->(∃o,h'.get? e=some o/\o.cls=oe.cls)->E (.ref e) { s with heap:=h' }):wpAny (model prog w) A (raiseNew (.ref e):Sem α) Q E s:=by
 unfold raiseNew
 refine wpAny_bind (wpAny_handled ?_)
 rcases hh with hh|⟨a,o,vs,h1,h2,h3,h4,C,h5⟩
 ·rw [hh]
  exact wpAny_bind (wpAny_pure (wpAny_throw (k s.heap (SameBut.refl _ _) ⟨oe,he,rfl⟩)))
 ·rw [h1]
  have ne:a≠e:=λz=>by rw [z,he] at h2;cases h2;exact hc C h5
  dsimp only
  rw [if_pos (show (Value.ref a != Value.ref e)=true by simpa using ne)]
  refine wpAny_bind (wpAny_holding (wpAny_runValue (codeAny_builtin zqS ?_)))
  refine wpAny_bind (m:=field (.ref a) 2) (wpAny_field h2 h3 h4 ?_)
  rw [if_pos (show (Value.none==Value.none)=true by rfl)]
  refine wpAny_pure (wpAny_bind ?_)
  show wpAny _ _ (setField (.ref e) 2 (.ref a)) _ _ _
  have dd:=Obj.data_mapFields hd (·.setIfInBounds 2 (Value.ref a))
  exact wpAny_setField he hd hz (wpAny_throw (k _ (SameBut.update ..) ⟨_,get?_update_self _ he (Obj.isFreed_of_fields dd),Obj.cls_mapFields _ _⟩))
theorem zw0{α:Type}{Q:α->Shared->Prop}(hh:Hnd A s.heap)(k:∀h' e,(∀b o,s.heap.get? b=some o->h'.get? b=some o)->(∃o,h'.get? e=some o/\o.cls = .type "StopIteration")->E (.ref e) { s with heap:=h' }) :
  wpAny (model prog w) A (newExc (.type "StopIteration") []>>=λe=>(raiseNew e:Sem α)) Q E s:=by
 refine wpAny_bind ?_
 simp only [newExc,newTuple]
 refine wpAny_bind (wpAny_newObj_type (wpAny_bind (m:=firstArgMember _ _) (wpAny_of_eq (a:=Value.none) (by first|rfl|(simp only [firstArgMember];rfl)) (wpAny_newObj_type ?_ (by size_fits)))) (by size_fits))
 have old:∀(o1 o2:Obj) b o,s.heap.get? b=some o->((s.heap.push o1).push o2).get? b=some o:=λo1 o2 b o q=>get?_push_of_some _ (get?_push_of_some _ q)
 refine zwO (hh.keeps λb o _ q=>old _ _ b o q) (get?_push_size _ rfl) rfl (by simp;omega) (λC z=>by cases z) λh' sb ⟨o,g,c⟩=>k h' _ (λb o q=>?_) ⟨o,g,c⟩
 refine (sb.2 b (λz=>?_)).trans (old _ _ b o q)
 have:=lt_size q
 rw [z,size_push] at this
 exact absurd (lt_of_succ_lt this) (Nat.lt_irrefl _)
theorem zwM{it t:Addr}{i:Nat}{items:Array Value}{Q:Option Value->Shared->Prop}(hh:Hnd A s.heap)(hit:s.heap.IsTupleIter it t i)(ht:s.heap.IsTuple t items)(hx:items[i]?=none)
  (k:∀h',ExtBut it s.heap h'->Q none { s with heap:=h' }):wpAny (model prog w) A (pyNext (.ref it)) Q E s:=by
 obtain ⟨o,ho,hc,hd⟩:=id hit
 obtain ⟨ol,hol,_,nl,hdl⟩:=ht
 unfold pyNext
 refine wpAny_bind (wpAny_attempt (wpAny_callSpecial?_slot (name:=Str.ofString "__next__") hit.typeIs F.slot_tuple_iterator_next (wpAny_call_entry F.slot_tuple_iterator_next hit.typeIs F.entry_tuple_iterator_next ?_ (F.args_tuple_iterator_next_1 _))))
 refine wpAny_bind (m:=field (.ref it) 0) (wpAny_field ho hd (x:=.ref t) rfl ?_)
 rw [if_neg (show ¬ ((Value.ref t==Value.none)=true) by simp)]
 refine wpAny_bind (m:=field (.ref it) 1) (wpAny_field ho hd (x:=.int i 0) rfl (wpAny_bind (m:=seqItems? (.ref t)) (wpAny_seqItems hol hdl ?_)))
 simp only [toNat_natCast,hx]
 refine wpAny_bind (wpAny_rule (wpAny_bind (wpAny_setField ho hd (by simp) ?_)))
 refine zw0 (hh.keeps λb q hq e=>(get?_update_other _ _ λz=>?_).trans e) λh' e up ⟨o',g',c'⟩ =>
  wpAny_bind (wpAny_isInstance (T:="StopIteration") (b:=true) ⟨o',g',c'⟩ isSubtype_stop (wpAny_pure (k h' λb q hb z=>up b q ((get?_update_other _ _ (Ne.symm hb)).trans z))))
 obtain ⟨C,hC⟩:=hq
 rw [<- z,ho] at e
 cases e
 rw [hc] at hC
 cases hC
theorem zpn{env:Env}{elts:List Expr}{x1}{pos:Pos}{t:Addr}{items:Array Value}{Q:Unit->Shared->Prop}(hh:Hnd A s.heap)(ht:IsTup s.heap t items)(hn:(assignEach elts env).length=items.size)(hstar:(assignEach elts env).findIdx? (·.1)=none)
  (h:∀h',ExtBut s.heap.objs.size s.heap h'->wpAny (model prog w) A (assignInOrder ((assignEach elts env).map (·.2)) items.toList) Q E { s with heap:=h' }):wpAny (model prog w) A (assign (.Tuple elts x1 pos) env (.ref t)) Q E s:=by
 have lt:t≠s.heap.objs.size:=by obtain ⟨o,ho,_⟩:=ht;exact ne_of_lt (lt_size ho)
 have all:List.take items.size (List.drop 0 items.toList)=items.toList:=by rw [List.drop_zero];exact take_of_length_le (by simp)
 have core:wpAny (model prog w) A (unpackItems (.ref t) items.size none) (λvs s'=>∃h',vs=items.toList/\s'={ s with heap:=h' }/\ExtBut s.heap.objs.size s.heap h') E s:=by
  unfold unpackItems
  refine wpAny_bind ?_
  unfold notIterableAtAll
  refine wpAny_bind (wpAny_specialOf ht.typeIs slot_tuple_iter.lookup (wpAny_pure ?_))
  simp only [false_eq_true,if_false]
  refine wpAny_bind (wpAny_holding (iter_tuple ht (wpAny_bind (wpAny_holding (draw_tuple lt items.size 0 _ _ ⟨_,get?_push_size _ rfl,rfl,rfl⟩ (ht.push _) (by omega) λh1 it1 s1=>?_)))))
  rw [all,if_neg (by simp)]
  have t1:IsTup h1 t items:=(ht.push _).extBut s1.extBut lt
  have up1:∀b o,b≠s.heap.objs.size->s.heap.get? b=some o->h1.get? b=some o:=λb o hb e=>s1.extBut b o hb (get?_push_of_some _ e)
  refine wpAny_bind (wpAny_holding (zwM (s:={ s with heap:=h1 }) (hh.keeps λb o _ e=>up1 b o (ne_of_lt (lt_size e)) e) it1 t1 (by simp) λh2 e2=>?_))
  simp only [Option.isSome_none,false_eq_true,if_false]
  exact wpAny_pure ⟨h2,rfl,rfl,λb o hb e=>e2 b o hb (up1 b o hb e)⟩
 rw [assign_Tuple]
 refine wpAny_bind (wpAny_standAt ?_)
 unfold unpack
 rw [hstar,hn]
 refine wpAny_bind (wpAny_holding (wpAny_mono core (λvs s' ⟨h',e1,e2,x⟩=>?_) λ_ _ z=>z))
 subst e1 e2
 exact h h' x
end
theorem ziP{X:Cx}{pos:Pos}{es:List Expr}{k:Nat}{t:TGs}{n:Nat}(h:PGs X es t)(hl:(assignEach es X.env).length=n:=by rfl)(hst:(assignEach es X.env).findIdx? (·.1)=none:=by rfl):PG X (.Tuple es k pos) (zfo X.K n t):=by
 intro Ga s σ H v u Q I r q
 obtain ⟨a,xs,rfl,hx,hn,q⟩:=q
 obtain rfl:u=Value.ref a:=r
 obtain ⟨its,rv,ht,hz⟩:=I.tuple hx
 refine zpn I.hnd ht (by rw [hl,<- hn,rv.length];simp) hst λh' ex=>?_
 have I1:Inv X Ga σ H { s with heap:=h' }:=I.kept (t':=s.toks) λb o e=>ex b o (ne_of_lt (lt_size e)) e
 have:=h Ga { s with heap:=h' } σ H xs its Q I1 rv q
 simpa using this
section
variable {prog:Program}{w:World}{A:Around}{E:Value->Shared->Prop}{s:Shared}
end
def Itz(K:PySem.W.Frag)(a b:Addr):It :=
 ⟨λi H=>∃xs ys x y,SqL K H a xs/\SqL K H b ys/\xs[i]?=some x/\ys[i]?=some y,λi H v H'=>∃T x y,H T=none/\v = .ref T/\H'=upd H T (.tup [x,y])/\(∀xs,SqL K H a xs->xs[i]?=some x)/\∀ys,SqL K H b ys->ys[i]?=some y,
  λi H=>∃xs ys,SqL K H a xs/\SqL K H b ys/\xs.length<=i⟩
def eqL(xs ys:List V):Bool:=xs.length==ys.length&&(range xs.length).all λi=>eqV (xs.getD i .non) (ys.getD i .non)
section
variable {X:Cx}
def zjx(K:PySem.W.Frag)(neg:Bool):R2:=λx y H Q=>∃a b xs ys,x = .ref a/\y = .ref b/\SqL K H a xs/\SqL K H b ys/\xs.all zP=true/\ys.all zP=true/\Q (.bl (if neg then !eqL xs ys else eqL xs ys)) H
theorem zlf{Ga:List (Addr×Obj)}{σ:St}{H:Hp}{s:Shared}{a b:Addr}{xs ys:List V}(I:Inv X Ga σ H s)(ha:SqL X.K H a xs)(hb:SqL X.K H b ys)(fx:xs.all zP=true)(fy:ys.all zP=true) :
  ∃is js:List Value,s.heap.IsList a is.toArray/\s.heap.IsList b js.toArray/\xs.length=is.length/\ys.length=js.length/\∀(A:Around)(j:Nat)(h1:j<is.toArray.size)(h2:j<js.toArray.size),SeqAt.EqAt A s is.toArray[j] js.toArray[j] (eqV (xs.getD j .non) (ys.getD j .non)):=by
 obtain ⟨is,r1,p1,_⟩:=I.list ha
 obtain ⟨js,r2,p2,_⟩:=I.list hb
 refine ⟨is,js,p1.isList,p2.isList,r1.length,r2.length,λA j h1 h2=>?_⟩
 have l1:=r1.length
 have l2:=r2.length
 simp only [size_toArray] at h1 h2
 have e1:xs[j]?=some (xs.getD j .non):=by rw [getD_eq_getElem?_getD,List.getElem?_eq_getElem (by omega)];rfl
 have e2:ys[j]?=some (ys.getD j .non):=by rw [getD_eq_getElem?_getD,List.getElem?_eq_getElem (by omega)];rfl
 obtain ⟨u,g1,q1⟩:=r1.get e1
 obtain ⟨v,g2,q2⟩:=r2.get e2
 rw [List.getElem?_eq_getElem h1] at g1
 rw [List.getElem?_eq_getElem h2] at g2
 have f1:=all_eq_true.mp fx _ (mem_of_getElem? e1)
 have f2:=all_eq_true.mp fy _ (mem_of_getElem? e2)
 have z:=zkO (A:=A) (s:=s) q1 q2 f1 f2
 have w1:is.toArray[j]=u:=by simpa using Option.some.inj g1
 have w2:js.toArray[j]=v:=by simpa using Option.some.inj g2
 rw [w1,w2]
 exact z
theorem zi7(hu:X.A.units<cLine):OpR X (compareOp .Eq) (zjx X.K false):=by
 intro Ga s σ H x y v u Q I rx ry h
 obtain ⟨a,b,xs,ys,rfl,rfl,ha,hb,fx,fy,q⟩:=h
 cases rx
 cases ry
 obtain ⟨is,js,p1,p2,l1,l2,eq⟩:=zlf I ha hb fx fy
 by_cases hz:is.toArray.size=js.toArray.size
 ·refine SeqAt.eq_listAt p1 p2 hz hu (λj h1 h2=>eq _ j h1 h2) ⟨.bl _,H,I,rfl,?_⟩
  have e:eqL xs ys=(range is.toArray.size).all λj=>eqV (xs.getD j .non) (ys.getD j .non):=by
   unfold eqL
   simp only [size_toArray] at hz ⊢
   rw [l1,l2,hz]
   simp
  rw [<- e]
  exact q
 ·refine SeqAt.eq_list_lengthsAt p1 p2 (by simpa using hz) hu ⟨.bl false,H,I,rfl,?_⟩
  have e:eqL xs ys=false:=by
   unfold eqL
   have:(xs.length==ys.length)=false:=by simp only [size_toArray] at hz;rw [l1,l2];simpa using hz
   rw [this,Bool.false_and]
  have q':Q (.bl (eqL xs ys)) H:=q
  rw [e] at q'
  exact q'
theorem zma(hu:X.A.units<cLine):OpR X (compareOp .NotEq) (zjx X.K true):=by
 intro Ga s σ H x y v u Q I rx ry h
 obtain ⟨a,b,xs,ys,rfl,rfl,ha,hb,fx,fy,q⟩:=h
 cases rx
 cases ry
 obtain ⟨is,js,p1,p2,l1,l2,eq⟩:=zlf I ha hb fx fy
 have q':Q (.bl (!eqL xs ys)) H:=q
 by_cases hz:is.toArray.size=js.toArray.size
 ·refine SeqAt.RcNeAt.lists p1 p2 hz hu (λj h1 h2=>eq _ j h1 h2) _ _ _ _ ⟨.bl _,H,I,rfl,?_⟩
  have e:eqL xs ys=(range is.toArray.size).all λj=>eqV (xs.getD j .non) (ys.getD j .non):=by
   unfold eqL
   simp only [size_toArray] at hz ⊢
   rw [l1,l2,hz]
   simp
  rw [<- e]
  exact q'
 ·refine SeqAt.RcNeAt.lists_lengths p1 p2 (by simpa using hz) hu _ _ _ _ ⟨.bl true,H,I,rfl,?_⟩
  have e:eqL xs ys=false:=by
   unfold eqL
   have:(xs.length==ys.length)=false:=by simp only [size_toArray] at hz;rw [l1,l2];simpa using hz
   rw [this,Bool.false_and]
  rw [e] at q'
  exact q'
mutual
inductive zaZ(H:Hp):V->PyData->Prop
 | non:zaZ H .non .none
 | bl (b:Bool):zaZ H (.bl b) (.bool b)
 | int (i:Int):zaZ H (.int i) (.int i)
 | str (x:Str):zaZ H (.str x) (.str x)
 | lst {a:Addr}{xs:List V}{ds:List PyData}:a≠sysModules->H a=some (.lst xs)->zbv H xs ds->zaZ H (.ref a) (.list ds)
 | tup {a:Addr}{xs:List V}{ds:List PyData}:H a=some (.tup xs)->zbv H xs ds->zaZ H (.ref a) (.tuple ds)
 | dic {a:Addr}:H a=some (.dK [])->zaZ H (.ref a) (.dict [])
inductive zbv(H:Hp):List V->List PyData->Prop
 | nil:zbv H [] []
 | cons {x:V}{xs:List V}{d:PyData}{ds:List PyData}:zaZ H x d->zbv H xs ds->zbv H (x::xs) (d::ds)
end
mutual
theorem zaZ.reads{Ga:List (Addr×Obj)}{σ:St}{H:Hp}{s:Shared}(I:Inv X Ga σ H s):∀{x:V}{d:PyData}{u:Value},zaZ H x d->zm x u->∃as,Reads s.heap u d as/\sysModules∉as
 | _,_,u,.non,r=>⟨[],by cases (show u=Value.none from r);exact .none,by simp⟩
 | _,_,u,.bl b,r=>⟨[],by cases (show u=Value.bool b from r);exact .bool b,by simp⟩
 | _,_,u,.int i,r=>⟨[],by obtain ⟨t,rfl⟩:=r;exact .int i t,by simp⟩
 | _,_,u,.str x,r=>⟨[],by obtain ⟨t,rfl⟩:=r;exact .str x t,by simp⟩
 | _,_,u,.lst (a:=a) na h ds,r=>by
  obtain rfl:u=Value.ref a:=r
  obtain ⟨z,its,n,rv,e⟩:=I.hok a _ h
  obtain ⟨as,q,hn⟩:=zbv.reads I ds rv
  refine ⟨a::as,.list e rfl rfl q,λw=>?_⟩
  rcases mem_cons.mp w with w|w
  ·exact na w.symm
  ·exact hn w
 | _,_,u,.tup (a:=a) h ds,r=>by
  obtain rfl:u=Value.ref a:=r
  obtain ⟨z,its,rv,o,e,hc,n,hd⟩:=I.hok a _ h
  obtain ⟨as,q,hn⟩:=zbv.reads I ds rv
  exact ⟨as,.tuple e hc hd q,hn⟩
 | _,_,u,.dic (a:=a) h,r=>by
  obtain rfl:u=Value.ref a:=r
  obtain ⟨z,hs,vs,kv,o,es,ep,e,ed,ee,er⟩:=I.hok a _ h
  cases kv
  have e0:es.toList=[]:=by
   have w:=er.2.1
   generalize es.toList=l at w
   cases w
   rfl
  refine ⟨[a]++[],.dict (kvs:=[]) (as:=[]) (bs:=[]) e ed.1 ee (by rw [e0];exact .nil) (by rw [e0];exact .nil),λw=>?_⟩
  have w':sysModules=a:=by simpa using w
  rw [w'] at hs
  simp at hs
theorem zbv.reads{Ga:List (Addr×Obj)}{σ:St}{H:Hp}{s:Shared}(I:Inv X Ga σ H s):∀{xs:List V}{ds:List PyData}{us:List Value},zbv H xs ds->zj xs us->∃as,ReadsAll s.heap us ds as/\sysModules∉as
 | _,_,_,.nil,.nil=>⟨[],.nil,by simp⟩
 | _,_,_,.cons d ds,.cons r rs=>by
  obtain ⟨as,q,hn⟩:=zaZ.reads I d r
  obtain ⟨bs,qs,hm⟩:=zbv.reads I ds rs
  exact ⟨as++bs,.cons q qs,λw=>(mem_append.mp w).elim hn hm⟩
end
def zjK(A:Around):List V->Hp->VK->Prop:=λxs H Q=>∃a d,xs=[.ref a]/\zaZ H (.ref a) d/\d.showable=true/\A.units+(d.depth+1)<cLine/\d.shown.length<=sizeLine/\Q (.str d.shown) H
theorem zsC(hg:X.A.guards=some []):zK X (.builtin "repr") (zjK X.A):=by
 intro Ga s σ H xs us Q I r h
 obtain ⟨a,d,rfl,dv,hs,hu,hz,q⟩:=h
 cases r with
 | cons r1 rr =>
  cases rr
  obtain ⟨as,rd,hn⟩:=dv.reads I r1
  rename_i u
  obtain rfl:u=Value.ref a:=r1
  exact repr_of_reads' rd hs (λ_=>hn) hg hu (λ_ _ e=>e) (λh' u tk k=>⟨.str d.shown,H,I.kept k,⟨_,rfl⟩,q⟩) hz
theorem Inv.big{Ga:List (Addr×Obj)}{σ:St}{H:Hp}{s:Shared}(I:Inv X Ga σ H s):sysModules<s.heap.objs.size:=by
 have h:mainGlobals<s.heap.objs.size:=(I.mod.glob.keeps I.bk).lt
 exact lt_trans (by decide) h
def zw7:TE:=λ_ H Q=>∀p,H p=none->Q (.ref p) (upd H p (.dK []))
theorem zwA{pos:Pos}:PE X (.Dict [] [] pos) zw7:=λGa s σ H Q I h =>
 wpAny_Dict_empty ⟨.ref s.heap.objs.size,_,I.laid (a:=s.heap.objs.size) (o:=.dK []) (t':=s.toks) (λ_ _ q=>get?_push_of_some _ q) (le_refl _) ⟨zero_le _,beq_eq_false_iff_ne.mpr (Ne.symm (ne_of_lt I.big)),[],.nil,Heap.DictOf.new s.heap⟩,rfl,h _ (I.hok.fresh (le_refl _))⟩
def zjH(K:PySem.W.Frag)(ta:TA):TI:=λσ H R=>ta σ H λvs H1=>∃a b,vs=[.ref a,.ref b]/\(∃xs,SqL K H1 a xs)/\(∃ys,SqL K H1 b ys)/\R (Itz K a b) H1
end
theorem zx.mark{c:Bool}{k:Nat}{A:Around}{v:Option Value}(r:zx c k A):zx false k (A.mark v):=⟨λh=>(nomatch h),r.dp,r.un,r.gd⟩
def zO:Expr->Bool
 | .Starred _ _=>false
 | _=>true
theorem zbu{e:Expr}{es:List Expr}{env:Env}(h:zO e=true):starEach (e::es) env=(false,eval e env)::starEach es env:=by
 cases e<;>first|rfl|(exact absurd (show false=true from h) Bool.false_ne_true)
def zaz(es:List Expr):Bool:=es.all zO
theorem ziS{env:Env}:∀{es:List Expr}(h:zaz es=true),(starEach es env).any (·.1)=false
 | [],_=>rfl
 | e::es,h=>by
  unfold zaz at h
  rw [List.all_cons,and_eq_true] at h
  rw [zbu h.1,any_cons,ziS h.2]
  rfl
theorem zcw{pos:Pos}{env:Env}{es:List Expr}(h:zaz es=true):(backTo pos (starEach es env)).any (·.1)=false:=by
 have q:=ziS (env:=env) h
 unfold backTo
 rw [List.any_map]
 exact q
theorem zct{e:Expr}{env:Env}(h:zO e=true):starEach [e] env=[(false,eval e env)]:=(zbu h).trans rfl
section
variable {X:Cx}
theorem znS{e:Expr}{es:List Expr}{te:TE}{t:TA}(ha:PE X e te)(hr:PA X es t)(hp:zO e=true:=by rfl):PA X (e::es) (zeZ te t):=zcs ha hr (zbu hp)
theorem zoE{id:String}{r:List V->Hp->VK->Prop}{x:Str}{e:Expr}{es:List Expr}{t:TA}{p pos:Pos}(hc:zK X (.builtin id) r)(hg:Gl X x)(hm:X.mg x=none)(hv:bootBuiltins x=some (.builtin id))(ha:PA X (e::es) t)(hp:zO e=true:=by rfl)(hps:zaz es=true:=by rfl)(hn:x≠"__name__":=by decide)(hdb:(x==("__debug__":Str))=false:=by decide):PE X (.Call (.Name x p) (e::es) [] pos) (tCB r t) :=
 zjb hc hg hm hv ha hn hdb (zbu hp) (zcw hps)
theorem zpa{T:String}{r:List V->Hp->VK->Prop}{x:Str}{e:Expr}{es:List Expr}{t:TA}{p pos:Pos}(hc:zK X (.type T) r)(hg:Gl X x)(hm:X.mg x=none)(hv:bootBuiltins x=some (.type T))(ha:PA X (e::es) t)(hp:zO e=true:=by rfl)(hps:zaz es=true:=by rfl)(hn:x≠"__name__":=by decide)(hdb:(x==("__debug__":Str))=false:=by decide):PE X (.Call (.Name x p) (e::es) [] pos) (tCB r t) :=
 zoV hc hg hm hv ha hn hdb (zbu hp) (zcw hps)
theorem zrr{tg a:Expr}{ta:TA}{p pos:Pos}(hg:Gl X "range")(hm:X.mg "range"=none)(ha:PA X [a] ta)(hp:zO a=true:=by rfl):PIc true X tg (.Call (.Name "range" p) [a] [] pos) (zf6 ta):=zo6 hg hm ha (zct hp)
theorem zxr{Ex:Addr->St->Hp->Prop}{C:Addr}{x:Str}{np cpos pos:Pos}{e:Expr}{es:List Expr}{t:TA}(hc:X.calm=true)(T:zas X Ex)(O:zaY X.K C)(hg:Gl X x)(hm:X.mg x=some (.ref C))(ha:PA X (e::es) t)(hp:zO e=true:=by rfl)(hps:zaz es=true:=by rfl)
  (hdb:(x==("__debug__":Str))=false:=by decide):PS X (.Raise (some (.Call (.Name x np) (e::es) [] cpos)) none pos) (zfd C Ex t):=zvU hc T O hg hm ha hdb (zbu hp) (zcw hps)
end
structure New(H:Hp)(p:Addr)(o:HO)(H':Hp):Prop where
 no:H p=none
 at_:H' p=some o
 same:zl H H'
theorem New.mk'{H:Hp}{p:Addr}{o:HO}(h:H p=none):New H p o (upd H p o):=⟨h,zq,λb u e=>by rw [zd (zA e h)];exact e⟩
section
variable {X:Cx}
def zgy(t:TA):TE:=λσ H Q=>t σ H λxs H1=>xs.length<=sizeLine/\∀p H2,New H1 p (.lst xs) H2->p≠sysModules->Q (.ref p) H2
theorem zvA{es:List Expr}{t:TA}{pos:Pos}(h:PA X es t):PE X (.List es pos) (zgy t):=by
 intro Ga s σ H Q I hq
 refine wpAny_List_spliced (thn (h pos Ga s σ H _ I hq) λus s1 ⟨xs,H1,I1,r,z,q⟩=>⟨by rw [<- r.length];exact z,?_⟩)
 have hf:H1 s1.heap.objs.size=none:=I1.hok.fresh (le_refl _)
 refine ⟨.ref s1.heap.objs.size,upd H1 s1.heap.objs.size (.lst xs),I1.laid (t':=s1.toks) (λb u e=>get?_push_of_some _ e) (le_refl _) ?_,rfl,q _ _ (.mk' hf) (ne_of_gt I1.big)⟩
 exact ⟨z,us,0,r,get?_push_size _ rfl⟩
def zhu(t:TA):TE:=λσ H Q=>t σ H λxs H1=>xs.length<=sizeLine/\∀p H2,New H1 p (.tup xs) H2->Q (.ref p) H2
theorem zlK{es:List Expr}{t:TA}{R R':List V->Hp->Prop}(hw:∀xs H,R xs H->R' xs H)(h:PA X es t)(pos:Pos)(Ga:List (Addr×Obj))(s:Shared)(σ:St)(H:Hp)(I:Inv X Ga σ H s)(q:t σ H R) :
  wpAny (model X.prog X.w) X.A (spliced (backTo pos (starEach es X.env))) (AP X Ga σ R') X.xe s :=
 thn (h pos Ga s σ H R I q) λ_ _ ⟨vs,H',a,b,c⟩=>⟨vs,H',a,b,hw _ _ c⟩
theorem zo2{es:List Expr}{t:TA}{x1}{pos:Pos}(h:PA X es t):PE X (.Tuple es x1 pos) (zhu t):=by
 have h':PA X es (λσ H Q=>∃R:List V->Hp->Prop,t σ H R/\∀xs H,R xs H->Q xs H):=λpos Ga s σ H Q I ⟨R,q,hw⟩=>zlK hw h pos Ga s σ H I q
 intro Ga s σ H Q I hq
 exact zvM h' Ga s σ H Q I ⟨_,hq,λxs H1 ⟨z,q⟩=>⟨z,λp hp=>q p _ (.mk' hp)⟩⟩
def zgG:TE:=λ_ H Q=>∀p H2,New H p (.dK []) H2->Q (.ref p) H2
theorem znv{pos:Pos}:PE X (.Dict [] [] pos) zgG:=λGa s σ H Q I h=>zwA Ga s σ H Q I λp hp=>h p _ (.mk' hp)
end
def uR(v:V)(q:Addr->Prop):Prop:=∃a,v = .ref a/\q a
def zia(to te:TE):TE:=λσ H Q=>to σ H λx H1=>uR x λl=>(∃xs,H1 l=some (.lst xs))/\te σ H1 λy H2=>∃xs,H2 l=some (.lst xs)/\xs.length<sizeLine/\Q .non (upd H2 l (.lst (xs++[y])))
section
variable {X:Cx}
theorem OpR.weak{f:Value->Value->Sem Value}{r r':R2}(h:OpR X f r)(hw:∀x y H Q,r' x y H Q->r x y H Q):OpR X f r' :=
 λGa s σ H x y v u Q I rx ry q=>h Ga s σ H x y v u Q I rx ry (hw x y H Q q)
theorem zK.weak{f:Value}{r r':List V->Hp->VK->Prop}(h:zK X f r)(hw:∀xs H Q,r' xs H Q->r xs H Q):zK X f r' :=
 λGa s σ H xs us Q I rs q=>h Ga s σ H xs us Q I rs (hw xs H Q q)
theorem IxR.weak{r r':R2}(h:IxR X r)(hw:∀x y H Q,r' x y H Q->r x y H Q):IxR X r' :=
 λvalue slice Ga s σ H x y v u Q I rx ry q hs=>h value slice Ga s σ H x y v u Q I rx ry (hw x y H Q q) hs
def zbr:R2:=λx y H Q=>(∃i j,x = .int i/\y = .int j/\Q (.int (i+j)) H)\/(∃i j,x = .str i/\y = .str j/\i.length+j.length<=sizeLine/\Q (.str (i++j)) H) \/
 (∃l b xs zs,x = .ref l/\y = .ref b/\H l=some (.lst xs)/\H b=some (.lst zs)/\xs.length+zs.length<=sizeLine/\∀p H2,New H p (.lst (xs++zs)) H2->Q (.ref p) H2)
theorem zau:OpR X (binaryOp .Add) zbr:=zru.or (zwp.or (zwV.weak λx y H Q h=>by
 obtain ⟨l,b,xs,zs,e1,e2,h1,h2,h3,h4⟩:=h
 exact ⟨l,b,xs,zs,e1,e2,h1,h2,h3,λp hp=>h4 p _ (.mk' hp)⟩))
def zca:R2:=λx y H Q=>(∃i j,x = .int i/\y = .int j/\zdt i j/\Q (.int (i*j)) H) \/
 (∃l k xs,x = .ref l/\y = .int k/\H l=some (.lst xs)/\-(2 ^ 63)<=k/\k<2 ^ 63/\xs.length*k.toNat<=sizeLine/\∀p H2,New H p (.lst (replicate k.toNat xs).flatten) H2->Q (.ref p) H2)
theorem zrN:OpR X (binaryOp .Mult) zca:=zsI.or (zx8.weak λx y H Q h=>by
 obtain ⟨l,k,xs,e1,e2,h1,h2,h3,h5,h4⟩:=h
 exact ⟨l,k,xs,e1,e2,h1,h2,h3,h5,λp hp=>h4 p _ (.mk' hp)⟩)
def uIx:R2:=λx y H Q=>(∃p xs i v,x = .ref p/\y = .int i/\H p=some (.lst xs)/\atI xs i=some v/\Q v H) \/
 (∃p xs i v,x = .ref p/\y = .int i/\H p=some (.tup xs)/\atI xs i=some v/\Q v H)\/(∃z i c,x = .str z/\y = .int i/\z.length<=sizeLine/\atI z.cps.toList i=some c/\Q (.str ⟨#[c]⟩) H)
theorem zQ:IxR X uIx:=ztW.weak λx y H Q h=>by
 rcases h with ⟨p,xs,i,v,e1,e2,h,r⟩|⟨p,xs,i,v,e1,e2,h,r⟩|h
 ·exact .inl ⟨p,xs,i,v,e1,e2,SqL.of h,r⟩
 ·exact .inr (.inl ⟨p,xs,i,v,e1,e2,SqT.of h,r⟩)
 ·exact .inr (.inr h)
def ze0:List V->Hp->VK->Prop:=λxs H Q=>(∃p ys,xs=[.ref p]/\H p=some (.lst ys)/\Q (.int ys.length) H)\/(∃p ys,xs=[.ref p]/\H p=some (.tup ys)/\Q (.int ys.length) H) \/
 (∃z,xs=[.str z]/\z.length<=sizeLine/\Q (.int z.length) H)
theorem zaI:zK X (.builtin "len") ze0:=(zgc.or zvH).weak λxs H Q h=>by
 rcases h with ⟨p,ys,e,h,q⟩|⟨p,ys,e,h,q⟩|h
 ·exact .inl ⟨p,ys,e,.inl (SqL.of h),q⟩
 ·exact .inl ⟨p,ys,e,.inr (SqT.of h),q⟩
 ·exact .inr h
def uEq(neg:Bool):R2:=λx y H Q=>(zbF x y=true/\Q (.bl (if neg then !decide (x=y) else decide (x=y))) H) \/
 (∃a b xs ys,x = .ref a/\y = .ref b/\H a=some (.lst xs)/\H b=some (.lst ys)/\xs.all zP=true/\ys.all zP=true/\Q (.bl (if neg then !eqL xs ys else eqL xs ys)) H)
theorem zbA(hu:X.A.units<cLine):OpR X (compareOp .Eq) (uEq false):=(zqg.or (zi7 hu)).weak λx y H Q h=>by
 rcases h with h|⟨a,b,xs,ys,e1,e2,h1,h2,r⟩
 ·exact .inl ⟨h.1,by simpa using h.2⟩
 ·exact .inr ⟨a,b,xs,ys,e1,e2,SqL.of h1,SqL.of h2,r⟩
theorem zgB(hu:X.A.units<cLine):OpR X (compareOp .NotEq) (uEq true):=(zyh.or (zma hu)).weak λx y H Q h=>by
 rcases h with h|⟨a,b,xs,ys,e1,e2,h1,h2,r⟩
 ·exact .inl ⟨h.1,by simpa using h.2⟩
 ·exact .inr ⟨a,b,xs,ys,e1,e2,SqL.of h1,SqL.of h2,r⟩
def zgx(K:PySem.W.Frag)(ta:TE):TT:=λσ H Q=>ta σ H λx H'=>∃k,zcx K x H' k/\Q k H'
theorem zni{a:Expr}{ta:TE}(ha:PE X a ta)(he:∀whole,isTrue a X.env whole=(do let v<-whole;standAt a.pos;holding [v] (truthy v)):=by intro _;rfl):PT X a (zgx X.K ta):=zsX ha he
def zfF(C:Addr)(ta:TE)(f:Str):TE:=λσ H Q=>ta σ H λx H1=>∃a dx fs v,x = .ref a/\H1 a=some (.ins C dx fs)/\fs.lookup f=some v/\Q v H1
theorem zxV{C:Addr}{e:Expr}{ta:TE}{f:Str}{pos:Pos}(c:Cls X.K C)(n:zaq X.K C f)(he:PE X e ta)(hb:attributeBase e f X.env (eval e X.env)=eval e X.env:=by rfl):PE X (.Attribute e f pos) (zfF C ta f):=by
 intro Ga s σ H Q I h
 refine zpm hb (thn (he Ga s σ H _ I h) λu s1 ⟨x,H1,I1,rx,a,dx,fs,v,ex,ea,l,q⟩=>?_)
 subst ex
 obtain rfl:u=Value.ref a:=rx
 exact zkH I1 ea c n l λu' s2 I2 ru=>⟨v,H1,I2,ru,q⟩
def zfM(C:Addr)(ta tv:TE)(f:Str):TS:=λD σ H=>tv σ H λy H1=>ta σ H1 λx H2=>∃a dx fs,x = .ref a/\H2 a=some (.ins C dx fs)/\fs.length<1000/\D.nx σ (upd H2 a (.ins C dx (zB f y fs)))
theorem zs6{C:Addr}{o value:Expr}{ta tv:TE}{f:Str}{pos pos':Pos}(c:Cls X.K C)(n:zaq X.K C f)(ha:PE X o ta)(hv:PE X value tv)(hs:swapsWith value (some (.Attribute o f pos')) pos.line X.env=pure false:=by rfl):PS X (.Assign [.Attribute o f pos'] value pos) (zfM C ta tv f):=by
 intro Ga s σ H D I h
 refine plainObj_wpAny_Assign_Attribute (thn (hv Ga s σ H _ I h) λu s1 ⟨y,H1,I1,ry,q⟩=>thn (ha Ga s1 σ H1 _ I1 q) λov s2 ⟨x,H2,I2,rx,a,dx,fs,ex,ea,l,q2⟩=>?_) hs
 subst ex
 obtain rfl:ov=Value.ref a:=rx
 exact zk2 I2 ea c n l ry λs3 I3=>⟨σ,_,I3,q2⟩
structure GF(P:Program)(w:World)(K:PySem.W.Frag)(mg:Str->Option Value)(base:Heap)(cm:Bool)(k:Nat)(x:Str)(ps:List Str)(sp:Sp):Prop where
 ex:∃(f:Addr)(fd:FuncData),zo P w K mg base CX0 cm k f fd ps sp/\mg x=some (.ref f)/\keepIn K (.ref f)=true/\zax K fd ps []
structure GM(P:Program)(w:World)(K:PySem.W.Frag)(mg:Str->Option Value)(base:Heap)(cm:Bool)(k:Nat)(C:Addr)(m:Str)(ps:List Str)(sp:Sp):Prop where
 ex:∃(f:Addr)(fd:FuncData),zo P w K mg base CX0 cm k f fd ps sp/\zcm K C m f/\zax K fd ps []
structure GMX(P:Program)(w:World)(K:PySem.W.Frag)(mg:Str->Option Value)(base:Heap)(cm:Bool)(k:Nat)(C:Addr)(m:Str)(ps:List Str)(sp:Sp):Prop where
 ex:∃(f:Addr)(fd:FuncData),zo P w K mg base (CXW P w) cm k f fd ps sp/\zcm K C m f/\zax K fd ps []
structure GC(P:Program)(w:World)(K:PySem.W.Frag)(mg:Str->Option Value)(base:Heap)(cm:Bool)(k:Nat)(x:Str)(C:Addr)(ps:List Str)(sp:Sp):Prop where
 ex:∃(f:Addr)(fd:FuncData),zo P w K mg base CX0 cm k f fd ps sp/\mg x=some (.ref C)/\Mk K C f/\zax K fd ps []
structure GCX(P:Program)(w:World)(K:PySem.W.Frag)(mg:Str->Option Value)(base:Heap)(cm:Bool)(k:Nat)(x:Str)(C:Addr)(ps:List Str)(sp:Sp):Prop where
 ex:∃(f:Addr)(fd:FuncData),zo P w K mg base (CXW P w) cm k f fd ps sp/\mg x=some (.ref C)/\Mk K C f/\zax K fd ps []
variable {cm:Bool}{k j:Nat}{x m:Str}{C:Addr}{ps:List Str}{sp:Sp}{e o:Expr}{es:List Expr}{t:TA}{ta:TE}{p pos apos:Pos}{Ex:Addr->St->Hp->Prop}
theorem znV(G:GF X.prog X.w X.K X.mg X.base cm j x ps sp)(hr:zx cm k X.A)(hg:Gl X x)(ha:PA X (e::es) t)(hj:j<=k:=by decide)(hdb:(x==("__debug__":Str))=false:=by decide)(hp:zO e=true:=by rfl)(hps:zaz es=true:=by rfl) :
  PE X (.Call (.Name x p) (e::es) [] pos) (zeu sp [] E0 t):=by
 obtain ⟨f,fd,F,hm,hk,hb⟩:=G.ex
 exact ztJ F (hr.mono hj) hg hm hk hb .nil zej ha hdb (zbu hp) (zcw hps)
theorem zpH{pl:Sem Bool}(he:PE X o ta)(c:Cls X.K C)(G:GM X.prog X.w X.K X.mg X.base cm j C m ps sp)(hr:zx cm k X.A)(ha:PA X (e::es) t)(hj:j<=k:=by decide)
  (hp:zO e=true:=by rfl) (hps:zaz es=true:=by rfl)
  (ht:eval (.Call (.Attribute o m apos) (e::es) [] pos) X.env=(do
   let ov<-eval o X.env
   standAt apos.atName
   let (f,first)<-holding [ov] (getMethod ov m pl)
   callWith pos f first (backTo pos (starEach (e::es) X.env)) (backToKw pos (keywordEach [] X.env))):=by rfl) :
  PE X (.Call (.Attribute o m apos) (e::es) [] pos) (zci C m sp [] E0 ta t):=by
 obtain ⟨f,fd,F,hm,hb⟩:=G.ex
 exact zrg he c hm F (hr.mono hj) hb .nil zej ha (zbu hp) (zcw hps) ht
theorem zvb{pl:Sem Bool}(he:PE X o ta)(c:Cls X.K C)(G:GM X.prog X.w X.K X.mg X.base cm j C m ps sp)(hr:zx cm k X.A)(hj:j<=k:=by decide)
  (ht:eval (.Call (.Attribute o m apos) [] [] pos) X.env=(do
   let ov<-eval o X.env
   standAt apos.atName
   let (f,first)<-holding [ov] (getMethod ov m pl)
   callWith pos f first (backTo pos (starEach [] X.env)) (backToKw pos (keywordEach [] X.env))):=by rfl) :
  PE X (.Call (.Attribute o m apos) [] [] pos) (zci C m sp [] E0 ta za0):=by
 obtain ⟨f,fd,F,hm,hb⟩:=G.ex
 exact zwb he c hm F (hr.mono hj) hb .nil zej ht
theorem zy3{pl:Sem Bool}(he:PE X o ta)(c:Cls X.K C)(T:zas X Ex)(G:GMX X.prog X.w X.K X.mg X.base cm j C m ps sp)(hr:zx cm k X.A)(ha:PA X (e::es) t)(hj:j<=k:=by decide)
  (hp:zO e=true:=by rfl) (hps:zaz es=true:=by rfl)
  (ht:eval (.Call (.Attribute o m apos) (e::es) [] pos) X.env=(do
   let ov<-eval o X.env
   standAt apos.atName
   let (f,first)<-holding [ov] (getMethod ov m pl)
   callWith pos f first (backTo pos (starEach (e::es) X.env)) (backToKw pos (keywordEach [] X.env))):=by rfl) :
  PE X (.Call (.Attribute o m apos) (e::es) [] pos) (zcc C m sp [] Ex ta t):=by
 obtain ⟨f,fd,F,hm,hb⟩:=G.ex
 exact zyU he c hm T F (hr.mono hj) hb .nil ha (zbu hp) (zcw hps) ht
theorem zqd{pl:Sem Bool}(he:PE X o ta)(c:Cls X.K C)(T:zas X Ex)(G:GMX X.prog X.w X.K X.mg X.base cm j C m ps sp)(hr:zx cm k X.A)(hj:j<=k:=by decide)
  (ht:eval (.Call (.Attribute o m apos) [] [] pos) X.env=(do
   let ov<-eval o X.env
   standAt apos.atName
   let (f,first)<-holding [ov] (getMethod ov m pl)
   callWith pos f first (backTo pos (starEach [] X.env)) (backToKw pos (keywordEach [] X.env))):=by rfl) :
  PE X (.Call (.Attribute o m apos) [] [] pos) (zcc C m sp [] Ex ta za0):=by
 obtain ⟨f,fd,F,hm,hb⟩:=G.ex
 exact zn7 he c hm T F (hr.mono hj) hb .nil ht
structure ze5(H:Hp)(C x dx:Addr)(H':Hp):Prop where
 no:H x=none
 nod:H dx=none
 ne:dx≠x
 at_:H' x=some (.ins C dx [])
 own:H' dx=some (.own x)
 same:zl H H'
theorem ze5.mk'{H:Hp}{C x dx:Addr}(h:H x=none)(hd:H dx=none)(ne:dx≠x):ze5 H C x dx (upd (upd H dx (.own x)) x (.ins C dx [])) :=
 ⟨h,hd,ne,zq,by rw [zd ne,zq],λb u e=>by rw [zd (zA e h),zd (zA e hd)];exact e⟩
def zeB(C:Addr)(sp:Sp)(t:TA):TE:=λσ H Q=>t σ H λvs H1=>∀x dx H2,ze5 H1 C x dx H2->sp (.ref x::vs) H2 (λv H3=>v = .non/\Q (.ref x) H3) E0
def zgk(C:Addr)(sp:Sp)(Ex:Addr->St->Hp->Prop)(t:TA):TE:=λσ H Q=>t σ H λvs H1=>∀x dx H2,ze5 H1 C x dx H2->sp (.ref x::vs) H2 (λv H3=>v = .non/\Q (.ref x) H3) (XE Ex σ)
theorem PA.any{es:List Expr}{t:TA}(h:PA X es t):PA X es (λσ H Q=>∃R:List V->Hp->Prop,t σ H R/\∀xs H,R xs H->Q xs H):=λpos Ga s σ H Q I ⟨R,q,hw⟩=>zlK hw h pos Ga s σ H I q
theorem znO(G:GC X.prog X.w X.K X.mg X.base cm j x C ps sp)(hr:zx cm k X.A)(hg:Gl X x)(ha:PA X (e::es) t)(hj:j+1<=k:=by decide)(hdb:(x==("__debug__":Str))=false:=by decide)(hp:zO e=true:=by rfl)(hps:zaz es=true:=by rfl) :
  PE X (.Call (.Name x p) (e::es) [] pos) (zeB C sp t):=by
 obtain ⟨f,fd,F,hm,M,hb⟩:=G.ex
 intro Ga s σ H Q I h
 exact zmQ M F (hr.mono hj) hg hm hb .nil zej ha.any hdb (zbu hp) (zcw hps) Ga s σ H Q I ⟨_,h,λvs H1 q x dx hx hd ne=>by rw [append_nil];exact q x dx _ (.mk' hx hd ne)⟩
theorem zxc(T:zas X Ex)(G:GCX X.prog X.w X.K X.mg X.base cm j x C ps sp)(hr:zx cm k X.A)(hg:Gl X x)(ha:PA X (e::es) t)(hj:j+1<=k:=by decide)(hdb:(x==("__debug__":Str))=false:=by decide)(hp:zO e=true:=by rfl)(hps:zaz es=true:=by rfl) :
  PE X (.Call (.Name x p) (e::es) [] pos) (zgk C sp Ex t):=by
 obtain ⟨f,fd,F,hm,M,hb⟩:=G.ex
 intro Ga s σ H Q I h
 exact zxv M T F (hr.mono hj) hg hm hb .nil ha.any hdb (zbu hp) (zcw hps) Ga s σ H Q I ⟨_,h,λvs H1 q x dx hx hd ne=>by rw [append_nil];exact q x dx _ (.mk' hx hd ne)⟩
theorem zsZ{v:V}{pos:Pos}(hg:Gl X x)(hm:∃u,X.mg x=some u/\zm v u)(hd:(x==("__debug__":Str))=false:=by decide):PE X (.Name x pos) (tC v):=by
 obtain ⟨u,hm,r⟩:=hm
 exact zqB hg hm r hd
theorem zqJ{o e:Expr}{to te:TE}{apos cpos:Pos}(ho:PE X o to)(he:PE X e te)
  (hbase:attributeBase o "append" X.env (eval o X.env)=eval o X.env:=by rfl)
  (hline:(apos.endLine==cpos.line)=true:=by rfl) (hp:zO e=true:=by rfl):PE X (.Call (.Attribute o "append" apos) [e] [] cpos) (zia to te):=by
 intro Ga s σ H Q I h
 have hs:starEach [e] X.env=[(false,eval e X.env)]:=zct hp
 refine wpAny_Call_method_late hbase (by rw [hs];rfl) hline rfl (thn (ho Ga s σ H _ I h) λv s1 ⟨x,H1,I1,r1,l,ex,⟨xs,hx⟩,q1⟩=>?_)
 subst ex
 obtain ⟨h1,h2⟩:=zfD (T:="list") I1 r1 (.inl ⟨rfl,xs,SqL.of hx⟩)
 refine ⟨"list","list.append",plainAttrs_list,PySem.F.slot_list_append,PySem.F.type_list_append,h1,h2,?_⟩
 rw [hs]
 refine Calls.callWith_builtin rfl (Calls.evalArgs_plain ?_)
 have hA:=zcs he zce (hs:=hs) cpos Ga s1 σ H1 (λys H2=>match ys with|[y]=>∃xs,H2 l=some (.lst xs)/\xs.length<sizeLine/\Q .non (upd H2 l (.lst (xs++[y])))|_=>False) I1 q1
 rw [hs] at hA
 refine thn hA λus s2 ⟨vs,H2,I2,r2,q2⟩=>?_
 match vs,q2,r2 with
 | [y],⟨xs2,hx2,hl2,q2⟩,r2=>exact zpT Ga s2 σ H2 (.ref l) [y] v us Q I2 r1 r2 ⟨l,xs2,y,rfl,rfl,hx2,hl2,q2⟩
end
section
variable {X:Cx}
def zbN:List V->Hp->VK->Prop:=λxs H Q=>(∃i,xs=[.int i]/\Q (.int i) H)\/∃k,xs=[.bl k]/\Q (.int (if k then 1 else 0)) H
theorem ztt:zK X (.type "int") zbN:=zuY
def zcL:List V->Hp->VK->Prop:=λxs H Q=>∃i,xs=[.int i]/\i.natAbs.log2<1920/\Q (.str (toString i)) H
theorem znY:zK X (.type "str") zcL:=zum
theorem zpf{i:Int}{H:Hp}{Q:VK}:zbN [.int i] H Q=Q (.int i) H:=by simp [zbN]
theorem zwS{k:Bool}{H:Hp}{Q:VK}:zbN [.bl k] H Q=Q (.int (if k then 1 else 0)) H:=by simp [zbN]
theorem zy2{i:Int}{H:Hp}{Q:VK}:zcL [.int i] H Q=(i.natAbs.log2<1920/\Q (.str (toString i)) H):=by simp [zcL]
def zhd:List V->Hp->VK->Prop:=λxs H Q=>∃i j,xs=[.int i,.int j]/\Q (.int (if j>i then j else i)) H
def ziZ:List V->Hp->VK->Prop:=λxs H Q=>∃i j,xs=[.int i,.int j]/\Q (.int (if j<i then j else i)) H
theorem zmF(hc:X.calm=true):zK X (.builtin "max") zhd:=zoL hc
theorem zgH(hc:X.calm=true):zK X (.builtin "min") ziZ:=zpb hc
theorem ziH{i j:Int}{H:Hp}{Q:VK}:zhd [.int i,.int j] H Q=Q (.int (if j>i then j else i)) H:=by
 apply propext;constructor
 ·rintro ⟨a,b,e,q⟩;cases e;exact q
 ·exact λq=>⟨i,j,rfl,q⟩
theorem zof{i j:Int}{H:Hp}{Q:VK}:ziZ [.int i,.int j] H Q=Q (.int (if j<i then j else i)) H:=by
 apply propext;constructor
 ·rintro ⟨a,b,e,q⟩;cases e;exact q
 ·exact λq=>⟨i,j,rfl,q⟩
end
section
variable {Y:Cx}{sc:Scope}{N':List Str}{Ga:List (Addr×Obj)}{D:Addr}{fp:List Addr}{s:Shared}{H:Hp}
theorem zv7{pos:Pos}{es:List Expr}{k:Nat}{t:TGs}{n:Nat}(h:PGs (zz Y sc N' Ga D fp s H) es t)(hl:(assignEach es (zz Y sc N' Ga D fp s H).env).length=n:=by rfl)(hst:(assignEach es (zz Y sc N' Ga D fp s H).env).findIdx? (·.1)=none:=by rfl):PG (zz Y sc N' Ga D fp s H) (.Tuple es k pos) (zfo Y.K n t):=ziP h hl hst
end
theorem zmL{t:TG}{u:TGs}{v:V}{r:List V}{σ:St}{H:Hp}{Q:St->Hp->Prop}:zh7 t u (v::r) σ H Q=t v σ H λσ' H'=>u r σ' H' Q:=by
 apply propext;constructor
 ·rintro ⟨v,r,e,h⟩;cases e;exact h
 ·exact λh=>⟨v,r,rfl,h⟩
theorem zq9{σ:St}{H:Hp}{Q:St->Hp->Prop}:zhz [] σ H Q=Q σ H:=by
 apply propext;constructor
 ·exact λh=>h.2
 ·exact λh=>⟨rfl,h⟩
section
variable {H:Hp}{Q:VK}{i j:Int}{x y:Str}{a b:Addr}{K:PySem.W.Frag}{g:Int->Int->V}{C:Int->Int->Prop}{k c:Bool}{QB:Bool->Hp->Prop}
theorem zdg:zbr (.int i) (.int j) H Q=Q (.int (i+j)) H:=by simp [zbr]
theorem zxT:zbr (.str x) (.str y) H Q=(x.length+y.length<=sizeLine/\Q (.str (x++y)) H):=by simp [zbr]
theorem zdm:zbr (.ref a) (.ref b) H Q = ∃xs zs,H a=some (.lst xs)/\H b=some (.lst zs)/\xs.length+zs.length<=sizeLine/\∀p H2,New H p (.lst (xs++zs)) H2->Q (.ref p) H2:=by simp [zbr]
theorem zlD:zca (.int i) (.int j) H Q=(zdt i j/\Q (.int (i*j)) H):=by simp [zca]
theorem zpW:zca (.ref a) (.int i) H Q = ∃xs,H a=some (.lst xs)/\-(2 ^ 63)<=i/\i<2 ^ 63/\xs.length*i.toNat<=sizeLine/\∀p H2,New H p (.lst (replicate i.toNat xs).flatten) H2->Q (.ref p) H2:=by simp [zca]
theorem zcM:uIx (.ref a) (.int i) H Q = ∃xs,(H a=some (.lst xs)\/H a=some (.tup xs))/\∃v,atI xs i=some v/\Q v H:=by
 apply propext;constructor
 ·rintro (⟨p,xs,i,v,e1,e2,h,r⟩|⟨p,xs,i,v,e1,e2,h,r⟩|⟨z,i,c,e,_⟩)
  ·cases e1;cases e2;exact ⟨xs,.inl h,v,r⟩
  ·cases e1;cases e2;exact ⟨xs,.inr h,v,r⟩
  ·cases e
 ·rintro ⟨xs,h|h,v,r⟩
  ·exact .inl ⟨_,xs,_,v,rfl,rfl,h,r⟩
  ·exact .inr (.inl ⟨_,xs,_,v,rfl,rfl,h,r⟩)
theorem zgo:uIx (.str x) (.int i) H Q=(x.length<=sizeLine/\∃c,atI x.cps.toList i=some c/\Q (.str ⟨#[c]⟩) H):=by simp [uIx]
theorem zfs:ze0 [.ref a] H Q = ∃ys,(H a=some (.lst ys)\/H a=some (.tup ys))/\Q (.int ys.length) H:=by
 apply propext;constructor
 ·rintro (⟨p,xs,e1,h,r⟩|⟨p,xs,e1,h,r⟩|⟨z,e,_⟩)
  ·cases e1;exact ⟨xs,.inl h,r⟩
  ·cases e1;exact ⟨xs,.inr h,r⟩
  ·cases e
 ·rintro ⟨xs,h|h,r⟩
  ·exact .inl ⟨_,xs,rfl,h,r⟩
  ·exact .inr (.inl ⟨_,xs,rfl,h,r⟩)
theorem zmx:ze0 [.str x] H Q=(x.length<=sizeLine/\Q (.int x.length) H):=by simp [ze0]
theorem zwZ:rI C g (.int i) (.int j) H Q=(C i j/\Q (g i j) H):=by simp [rI]
theorem zmb:rI0 g (.int i) (.int j) H Q=Q (g i j) H:=by simp [rI0]
theorem znU{g:Int->V}:rU g (.int i) H Q=Q (g i) H:=by simp [rU]
theorem zke:uEq c (.int i) (.int j) H Q=Q (.bl (if c then !decide (i=j) else decide (i=j))) H:=by simp [uEq,zbF]
theorem zhs:uEq c (.str x) (.str y) H Q=Q (.bl (if c then !decide (x=y) else decide (x=y))) H:=by simp [uEq,zbF]
theorem zyM:uEq c (.bl k) (.bl k') H Q=Q (.bl (if c then !decide (k=k') else decide (k=k'))) H:=by simp [uEq,zbF]
theorem zem:uEq c (.ref a) (.ref b) H Q = ∃xs ys,H a=some (.lst xs)/\H b=some (.lst ys)/\xs.all zP=true/\ys.all zP=true/\Q (.bl (if c then !eqL xs ys else eqL xs ys)) H:=by simp [uEq,zbF]
def zde(K:PySem.W.Frag)(v:V)(H:Hp)(Q:Bool->Hp->Prop):Prop:=∃k,zcx K v H k/\Q k H
theorem ztB:zde K (.bl k) H QB=QB k H:=by simp [zde,zcx]
theorem zyo:zde K .non H QB=QB false H:=by simp [zde,zcx]
theorem zxo:zde K (.int i) H QB=QB (i != 0) H:=by simp [zde,zcx]
theorem zuF{ta:TE}{σ:St}:zgx K ta σ H QB=ta σ H λx H'=>zde K x H' QB:=rfl
def uB(v:V)(q:Bool->Prop):Prop:=∃c,v = .bl c/\q c
theorem zkN{q:Bool->Prop}:uB (.bl k) q=q k:=by simp [uB]
theorem zt8{t:TE}{σ:St}:tB t σ H QB=t σ H λx H1=>uB x λc=>QB c H1:=rfl
theorem zrB{t:TE}{σ:St}:zgC t σ H QB=t σ H λx H1=>uB x λc=>QB c H1:=rfl
theorem zun{t u:TE}{σ:St}:ziC t u σ H Q=t σ H λx H1=>uB x λc=>if c=true then u σ H1 Q else Q (.bl false) H1:=rfl
theorem zqj{t u:TE}{σ:St}:zrH t u σ H Q=t σ H λx H1=>uB x λc=>if c=true then Q (.bl true) H1 else u σ H1 Q:=rfl
theorem zqw{t:TE}{σ:St}:zgZ t σ H Q=t σ H λx H1=>uB x λc=>Q (.bl (!c)) H1:=rfl
theorem zmS{r r':R2}{ta tb tc:TE}{σ:St}:zgD r r' ta tb tc σ H Q=ta σ H λx H1=>tb σ H1 λy H2=>r x y H2 λz H3=>uB z λk=>if k=true then tc σ H3 λw' H4=>r' y w' H4 Q else Q (.bl false) H3:=rfl
theorem zhF{q:Addr->Prop}:uR (.ref a) q=q a:=by simp [uR]
theorem zsG{C:Addr}{ta:TE}{f:Str}{σ:St}:zfF C ta f σ H Q=ta σ H λx H1=>uR x λa=>∃dx fs v,H1 a=some (.ins C dx fs)/\fs.lookup f=some v/\Q v H1:=by
 unfold zfF uR
 congr;funext x H1
 apply propext
 constructor
 ·rintro ⟨a,dx,fs,v,h1,h2,h3,h4⟩;exact ⟨a,h1,dx,fs,v,h2,h3,h4⟩
 ·rintro ⟨a,h1,dx,fs,v,h2,h3,h4⟩;exact ⟨a,dx,fs,v,h1,h2,h3,h4⟩
theorem zw1{C:Addr}{ta tv:TE}{f:Str}{σ:St}{D:zap}:zfM C ta tv f D σ H=tv σ H λy H1=>ta σ H1 λx H2=>uR x λa=>∃dx fs,H2 a=some (.ins C dx fs)/\fs.length<1000/\D.nx σ (upd H2 a (.ins C dx (zB f y fs))):=by
 unfold zfM uR
 congr;funext x H1;congr;funext x2 H2
 apply propext
 constructor
 ·rintro ⟨a,dx,fs,h1,h2,h3,h4⟩;exact ⟨a,h1,dx,fs,h2,h3,h4⟩
 ·rintro ⟨a,h1,dx,fs,h2,h3,h4⟩;exact ⟨a,dx,fs,h1,h2,h3,h4⟩
theorem zse{C:Addr}{m:Str}{sp:Sp}{dvs:List V}{E:XK}{ta:TE}{t:TA}{σ:St}:zci C m sp dvs E ta t σ H Q=ta σ H λx H1=>uR x λa=>∃dx fs,H1 a=some (.ins C dx fs)/\fs.lookup m=none/\t σ H1 λvs H2=>sp (.ref a::(vs++dvs)) H2 Q E:=by
 unfold zci uR
 congr;funext x H1
 apply propext
 constructor
 ·rintro ⟨a,dx,fs,rfl,h2,h3,h4⟩;exact ⟨a,rfl,dx,fs,h2,h3,h4⟩
 ·rintro ⟨a,rfl,dx,fs,h2,h3,h4⟩;exact ⟨a,dx,fs,rfl,h2,h3,h4⟩
theorem zop{C:Addr}{m:Str}{sp:Sp}{dvs:List V}{Ex:Addr->St->Hp->Prop}{ta:TE}{t:TA}{σ:St}:zcc C m sp dvs Ex ta t σ H Q=ta σ H λx H1=>uR x λa=>∃dx fs,H1 a=some (.ins C dx fs)/\fs.lookup m=none/\t σ H1 λvs H2=>sp (.ref a::(vs++dvs)) H2 Q (XE Ex σ):=by
 unfold zcc uR
 congr;funext x H1
 apply propext
 constructor
 ·rintro ⟨a,dx,fs,rfl,h2,h3,h4⟩;exact ⟨a,rfl,dx,fs,h2,h3,h4⟩
 ·rintro ⟨a,rfl,dx,fs,h2,h3,h4⟩;exact ⟨a,dx,fs,rfl,h2,h3,h4⟩
end
section
variable {K:PySem.W.Frag}{g:TG}{tb:TS}{D:zap}{σ:St}{H:Hp}{ta:TA}{tl:TE}{wi:TI}{R:It->Hp->Prop}{j:Int}{tt:TT}{te:TE}{ix:List (Option Nat)}{Q:VK}
def zad(J:It)(g:TG)(tb:TS)(D:zap)(σ:St)(H:Hp):Prop:=∃W:Nat->Nat->St->Hp->Prop,(∃m,W 0 m σ H)/\∀i m σ H,W i m σ H ->
 (J.stop i H/\D.nx σ H)\/(J.go i H/\∃N:St->Hp->Prop,(∀σ' H',N σ' H'->∃m',m'<m/\W (i+1) m' σ' H')/\∀x H',J.yld i H x H'->g x σ H' λσ2 H2=>tb { D with nx:=N,ct:=N,bk:=D.nx } σ2 H2)
theorem znP:zhh wi g tb D σ H=wi σ H λJ H1=>zad J g tb D σ H1:=rfl
def uI1(vs:List V)(q:Int->Prop):Prop:=∃j,vs=[.int j]/\q j
theorem zpE{q:Int->Prop}:uI1 [.int j] q=q j:=by simp [uI1]
theorem ztF:zf6 ta σ H R=ta σ H λvs H1=>uI1 vs λj=>-(2 ^ 62)<=j/\j<2 ^ 62/\R (Itr 0 j.toNat) H1:=rfl
theorem zyb:zh1 K tl σ H R=tl σ H λx H1=>uR x λa=>(∃xs,SqL K H1 a xs)/\R (Itl K a) H1:=rfl
theorem zxJ:zmG K tl σ H R=tl σ H λx H1=>uR x λa=>(∃xs,SqT K H1 a xs)/\R (Itt K a) H1:=rfl
def uR2(vs:List V)(q:Addr->Addr->Prop):Prop:=∃a b,vs=[.ref a,.ref b]/\q a b
theorem zrn{q:Addr->Addr->Prop}{a b:Addr}:uR2 [.ref a,.ref b] q=q a b:=by
 apply propext
 constructor
 ·rintro ⟨c,d,e,h⟩;cases e;exact h
 ·exact λh=>⟨a,b,rfl,h⟩
theorem zxX:zjH K ta σ H R=ta σ H λvs H1=>uR2 vs λa b=>(∃xs,SqL K H1 a xs)/\(∃ys,SqL K H1 b ys)/\R (Itz K a b) H1:=by
 unfold zjH uR2
 rfl
def zV(J:It)(g:TG)(tt:TT)(te:TE)(τ:St)(H:Hp)(Q:VK):Prop:=∃W:Nat->Nat->St->List V->Hp->Prop,(∃m,W 0 m τ [] H)/\∀i m τ ys H2,W i m τ ys H2->ys.length<sizeLine /\
 ((J.stop i H2 ∧ ∀ D, H2 D = none → D ≠ sysModules → Q (.ref D) (upd H2 D (.lst ys))) ∨
  (J.go i H2 ∧ ∀ x H3, J.yld i H2 x H3 → g x τ H3 fun τ1 H4 => tt τ1 H4 fun ok H5 => if ok = true then te τ1 H5 fun y H6 => ∃ m', m' < m ∧ W (i + 1) m' τ1 (ys ++ [y]) H6 else ∃ m', m' < m ∧ W (i + 1) m' τ1 ys H5))
theorem zyP:tLC ix wi g tt te σ H Q=wi σ H λJ H1=>zV J g tt te (zaN ix σ) H1 Q:=rfl
theorem zad.rng{lo:Int}{n:Nat}(Pv:Nat->St->Hp->Prop)(h0:Pv 0 σ H)
  (hs:∀i σ H,i<n->Pv i σ H->g (.int (lo+i)) σ H λσ2 H2=>tb { D with nx:=Pv (i+1),ct:=Pv (i+1),bk:=D.nx } σ2 H2) (hd:∀σ H,Pv n σ H->D.nx σ H):zad (Itr lo n) g tb D σ H:=zn4 Pv h0 hs hd
theorem zad.lst{a:Addr}{xs:List V}(Pv:Nat->St->Hp->Prop)(h0:Pv 0 σ H)(hl:∀i σ H,i<=xs.length->Pv i σ H->SqL K H a xs)
  (hs:∀i x σ H,xs[i]?=some x->Pv i σ H->g x σ H λσ2 H2=>tb { D with nx:=Pv (i+1),ct:=Pv (i+1),bk:=D.nx } σ2 H2) (hd:∀σ H,Pv xs.length σ H->D.nx σ H):zad (Itl K a) g tb D σ H:=zpp Pv h0 hl hs hd
def zbE(N:St->List V->Hp->Prop)(ys:List V)(τ1:St)(te:TE)(ok:Bool)(H5:Hp):Prop:=if ok=true then te τ1 H5 λy H6=>N τ1 (ys++[y]) H6 else N τ1 ys H5
theorem zx6{N:St->List V->Hp->Prop}{ys:List V}{τ:St}:zbE N ys τ te true H=te τ H λy H6=>N τ (ys++[y]) H6:=rfl
theorem zwf{N:St->List V->Hp->Prop}{ys:List V}{τ:St}:zbE N ys τ te false H=N τ ys H:=rfl
theorem zV.rng{lo:Int}{n:Nat}{τ:St}(Pv:Nat->St->List V->Hp->Prop)(hz:∀i τ ys H,Pv i τ ys H->ys.length<sizeLine)(h0:Pv 0 τ [] H)
  (hs:∀(N:St->List V->Hp->Prop) i τ ys H,i<n->Pv i τ ys H->(∀τ ys H,Pv (i+1) τ ys H->N τ ys H)->g (.int (lo+i)) τ H λτ1 H4=>tt τ1 H4 λok H5=>zbE N ys τ1 te ok H5) (hd:∀τ ys H,Pv n τ ys H->∀D H',New H D (.lst ys) H'->Q (.ref D) H'):zV (Itr lo n) g tt te τ H Q:=by
 refine ⟨λi m τ ys H=>m=n-i/\i<=n/\Pv i τ ys H,⟨n,by simp,zero_le _,h0⟩,?_⟩
 rintro i m τ ys H2 ⟨rfl,hi,p⟩
 refine ⟨hz i τ ys H2 p,?_⟩
 by_cases hlt:i<n
 ·refine .inr ⟨hlt,λx H' y=>?_⟩
  obtain ⟨e,y⟩:=y
  subst e y
  exact hs (λτ1 ys H=>∃m',m'<n-i/\m'=n-(i+1)/\i+1<=n/\Pv (i+1) τ1 ys H) i τ ys _ hlt p λτ1 zs H q=>⟨n-(i+1),by omega,rfl,hlt,q⟩
 ·have e:i=n:=by omega
  subst e
  exact .inl ⟨le_refl _,λD hD _=>hd τ ys H2 p D _ (.mk' hD)⟩
end
section
variable {X:Cx}
def ze3:V->Option Int->Option Int->Hp->VK->Prop:=λx lo hi H Q=>∃z,x = .str z/\z.length<=sizeLine/\Q (.str (Txt.slice z lo hi)) H
theorem zsk{h:Heap}{sl:Addr}{vl vu:Value}{lo hi:Option Int}(hs:h.IsSliceOf sl vl vu .none)(pl:IsPart vl lo)(pu:IsPart vu hi):∃l u:Option (Int×Tok),h.IsSlice sl l u none/\l.map (·.1)=lo/\u.map (·.1)=hi:=by
 obtain ⟨o,h1,h2,h3⟩:=hs
 cases pl with
 | none =>
  cases pu with
  | none=>exact ⟨none,none,⟨o,h1,h2,h3⟩,rfl,rfl⟩
  | int j t=>exact ⟨none,some (j,t),⟨o,h1,h2,h3⟩,rfl,rfl⟩
 | int i t' =>
  cases pu with
  | none=>exact ⟨some (i,t'),none,⟨o,h1,h2,h3⟩,rfl,rfl⟩
  | int j t=>exact ⟨some (i,t'),some (j,t),⟨o,h1,h2,h3⟩,rfl,rfl⟩
theorem zyy:SlR X ze3:=by
 intro Ga s σ H x v vl vu lo hi sl Q I rx hs pl pu h
 obtain ⟨z,rfl,hz,q⟩:=h
 obtain ⟨t,rfl⟩:=rx
 obtain ⟨l,u,hS,e1,e2⟩:=zsk hs pl pu
 subst e1 e2
 exact ⟨"str",_,F.slot_str_getitem.lookup,typeIs_str _ _ _,wpAny_getItem_str_slice (l:=l) (u:=u) (st:=none) hS rfl
  (post_val_or_str ⟨le_trans (Txt.slice_le z _ _) hz,λt' k=>⟨.str _,H,I.tok k,⟨_,rfl⟩,q⟩⟩)⟩
def uSl:V->Option Int->Option Int->Hp->VK->Prop:=λx lo hi H Q=>(∃a xs,x = .ref a/\H a=some (.lst xs)/\∀p H2,New H p (.lst (zaw xs lo hi)) H2->Q (.ref p) H2)\/ze3 x lo hi H Q
theorem SlR.weak{r r':V->Option Int->Option Int->Hp->VK->Prop}(h:SlR X r)(hw:∀x l u H Q,r' x l u H Q->r x l u H Q):SlR X r' :=
 λGa s σ H x v vl vu lo hi sl Q I rx hs pl pu q=>h Ga s σ H x v vl vu lo hi sl Q I rx hs pl pu (hw _ _ _ _ _ q)
theorem zfI:SlR X uSl:=((zuL (X:=X)).or zyy).weak λx l u H Q h=>by
 rcases h with ⟨a,xs,e,h,q⟩|h
 ·exact .inl ⟨a,xs,e,SqL.of h,λp hp=>q p _ (.mk' hp)⟩
 ·exact .inr h
def zgq(v:V)(q:Int->Prop):Prop:=∃i,v = .int i/\q i
theorem zlr{i:Int}{q:Int->Prop}:zgq (.int i) q=q i:=by simp [zgq]
theorem zog{t:TE}{σ:St}{H:Hp}{Q:Option Int->Hp->Prop}:zgY t σ H Q=t σ H λx H1=>zgq x λi=>Q (some i) H1:=rfl
theorem zl1{z:Str}{lo hi:Option Int}{H:Hp}{Q:VK}:uSl (.str z) lo hi H Q=(z.length<=sizeLine/\Q (.str (Txt.slice z lo hi)) H):=by simp [uSl,ze3]
theorem zg2{a:Addr}{lo hi:Option Int}{H:Hp}{Q:VK}:uSl (.ref a) lo hi H Q = ∃xs,H a=some (.lst xs)/\∀p H2,New H p (.lst (zaw xs lo hi)) H2->Q (.ref p) H2:=by simp [uSl,ze3]
theorem zy1{ys:List Str}:∀{us:List Value},zj (ys.map V.str) us->StrsAre us ys:=by
 induction ys with
 | nil=>intro us r;rw [map_nil] at r;cases r;exact .nil
 | cons n ns ih =>
  intro us r
  rw [map_cons] at r
  cases r with
  | cons r1 r2 =>
   obtain ⟨t,e⟩:=r1
   subst e
   exact .cons n t (ih r2)
def zeT:V->List V->Hp->VK->Prop:=λx vs H Q=>∃z p ys,x = .str z/\vs=[.ref p]/\H p=some (.lst (ys.map V.str))/\(ys.map (·.length)).sum+ys.length*z.length<=16777216/\Q (.str (Txt.join z ys)) H
theorem zuU:MtR X "str.join" zeT:=by
 intro Ga s σ H x xs v us Q I rx rs h
 obtain ⟨z,p,ys,rfl,rfl,hp,hz,q⟩:=h
 obtain ⟨t,rfl⟩:=rx
 cases rs with
 | cons r1 rr =>
  cases rr
  cases (show _=Value.ref p from r1)
  obtain ⟨its,r,ht,_⟩:=I.list (SqL.of (K:=X.K) hp)
  exact join_list ht.isList (by simpa using zy1 r) hz λt' k=>⟨.str _,H,I.tok k,⟨_,rfl⟩,q⟩
def zeM(z:Str)(n:Nat):Str:=⟨((replicate n z.cps.toList).flatten).toArray⟩
theorem zlx{α:Type}(l:List α):∀(n:Nat)(acc:List α),foldl (λx1 x2:Array α=>x1++x2) acc.toArray (replicate n l.toArray)=(acc++(replicate n l).flatten).toArray
 | 0,acc=>by simp
 | n+1,acc=>by
  rw [replicate_succ,foldl_cons,List.append_toArray,zlx l n (acc++l)]
  simp [replicate_succ]
theorem zt6(z:Str)(n:Nat):(⟨(replicate n z.cps).foldl (·++·) #[]⟩:Str)=zeM z n:=by
 have h:=zlx z.cps.toList n []
 unfold zeM
 congr 1
theorem zjO{α:Type}(l:List α):∀n:Nat,((replicate n l).flatten).length=l.length*n
 | 0=>by simp
 | n+1=>by rw [replicate_succ,flatten_cons,length_append,zjO l n,Nat.mul_succ];omega
theorem zww(z:Str)(n:Nat):(zeM z n).length=z.length*n:=by
 show (((replicate n z.cps.toList).flatten).toArray).size=_
 rw [size_toArray,zjO]
 rfl
def zeG:R2:=λx y H Q=>∃z n,x = .str z/\y = .int n/\1<n/\n<2 ^ 31/\z.length≠0/\z.length*n.toNat<=sizeLine/\Q (.str (zeM z n.toNat)) H
theorem zmK:OpR X (binaryOp .Mult) zeG:=by
 intro Ga s σ H x y v u Q I rx ry h
 obtain ⟨z,n,rfl,rfl,h1,h2,h3,h4,q⟩:=h
 obtain ⟨t,rfl⟩:=rx
 obtain ⟨t',rfl⟩:=ry
 have hs:sizeLine=16777216:=sizeLine_eq
 have hc:(n==1||z.length==0)=false:=by
  rw [Bool.or_eq_false_iff]
  exact ⟨beq_eq_false_iff_ne.mpr (by omega),beq_eq_false_iff_ne.mpr h3⟩
 have hz:z.length<=16777216:=by
  have:z.length*1<=z.length*n.toNat:=Nat.mul_le_mul_left _ (by omega)
  omega
 refine PySem.P.mul_str ?_ ?_ ?_ ?_
 ·rw [decide_eq_false (show ¬ n < -(2 ^ 63:Int) by omega),decide_eq_false (show ¬ n ≥ 2 ^ 63 by omega)];rfl
 ·intro _ _ hgt
  have:(16777216:Int)<=(2 ^ 63-1) / n:=Int.le_ediv_of_mul_le (by omega) (by omega)
  omega
 ·intro _ _
  exact decide_eq_false (by omega)
 ·rw [if_neg (show ¬ n<1 by omega),if_neg (by rw [hc];exact Bool.false_ne_true),zt6]
  exact ⟨by rw [zww];omega,⟨.str _,H,I.tok _,⟨_,rfl⟩,q⟩⟩
theorem zko{p:Addr}{k:Int}{v:V}{H:Hp}{Q:Hp->Prop}:zgf (.ref p) (.int k) v H Q = ∃xs j,H p=some (.lst xs)/\ixN xs.length k=some j/\Q (upd H p (.lst (xs.set j v))):=by
 apply propext;constructor
 ·rintro ⟨p',xs,k',j,e1,e2,h⟩;cases e1;cases e2;exact ⟨xs,j,h⟩
 ·rintro ⟨xs,j,h⟩;exact ⟨p,xs,k,j,rfl,rfl,h⟩
def zlw:List V->Hp->VK->Prop:=λxs H Q=>∃p ys,xs=[.ref p]/\(H p=some (.lst ys)\/H p=some (.tup ys))/\∀l H2,New H l (.lst ys) H2->Q (.ref l) H2
theorem zlT:zK X (.type "list") zlw:=zxf.weak λxs H Q h=>by
 obtain ⟨p,ys,e,h1,q⟩:=h
 exact ⟨p,ys,e,h1.elim (λh=>.inl (SqL.of h)) (λh=>.inr (SqT.of h)),λl hl=>q l _ (.mk' hl)⟩
theorem zvp{a:Addr}{H:Hp}{Q:VK}:zlw [.ref a] H Q = ∃ys,(H a=some (.lst ys)\/H a=some (.tup ys))/\∀l H2,New H l (.lst ys) H2->Q (.ref l) H2:=by
 apply propext;constructor
 ·rintro ⟨p,ys,e,h⟩;cases e;exact ⟨ys,h⟩
 ·rintro ⟨ys,h⟩;exact ⟨a,ys,rfl,h⟩
def zig(to:TE):TE:=λσ H Q=>to σ H λx H1=>uR x λl=>∃xs,H1 l=some (.lst xs)/\Q .non (upd H1 l (.lst []))
theorem zoA{o:Expr}{to:TE}{apos cpos:Pos}(ho:PE X o to)(hbase:attributeBase o "clear" X.env (eval o X.env)=eval o X.env:=by rfl)(hline:(apos.endLine==cpos.line)=true:=by rfl):PE X (.Call (.Attribute o "clear" apos) [] [] cpos) (zig to):=by
 intro Ga s σ H Q I h
 refine wpAny_Call_method0_late hbase hline (thn (ho Ga s σ H _ I h) λv s1 ⟨x,H1,I1,r1,l,ex,xs,hx,q1⟩=>?_)
 subst ex
 obtain ⟨h1,h2⟩:=zfD (T:="list") I1 r1 (.inl ⟨rfl,xs,SqL.of hx⟩)
 exact ⟨"list","list.clear",plainAttrs_list,PySem.F.slot_list_clear,PySem.F.type_list_clear,h1,h2,Calls.callWith_builtin rfl (PySem.evalArgs_none (zrY Ga s1 σ H1 (.ref l) [] v [] Q I1 r1 .nil ⟨l,xs,rfl,rfl,hx,q1⟩))⟩
theorem zmc{z:Str}{p:Addr}{H:Hp}{Q:VK}:zeT (.str z) [.ref p] H Q = ∃ys:List Str,H p=some (.lst (ys.map V.str))/\(ys.map (·.length)).sum+ys.length*z.length<=16777216/\Q (.str (Txt.join z ys)) H:=by
 apply propext;constructor
 ·rintro ⟨z',p',ys,e1,e2,h⟩;cases e1;cases e2;exact ⟨ys,h⟩
 ·rintro ⟨ys,h⟩;exact ⟨z,p,ys,rfl,rfl,h⟩
end
def Ite(K:PySem.W.Frag)(a:Addr):It :=
 ⟨λi H=>∃xs x,SqL K H a xs/\xs[i]?=some x,λi H v H'=>∃T x,H T=none/\v = .ref T/\H'=upd H T (.tup [.int i,x])/\∀xs,SqL K H a xs->xs[i]?=some x,λi H=>∃xs,SqL K H a xs/\xs.length<=i⟩
structure zyu(e it l:Addr)(i:Nat)(h:Heap):Prop where
 z:∃old,IsEnum h e it i old
 a:h.IsListIter it l i
theorem zn0{P:Program}{w:World}{K:PySem.W.Frag}{elts:List Expr}{kk:Nat}{tp:Pos}{l e it:Addr}(hne:e≠it) :
  zc4 true P w K (.Tuple elts kk tp) (Ite K l) [e,it] e (zyu e it l) where
 mem:=by simp
 obj:=λi h st b hb=>by
  obtain ⟨⟨old,a1⟩,⟨o4,a4,_,d4⟩⟩:=st
  simp only [mem_cons,not_mem_nil,or_false] at hb
  rcases hb with rfl|rfl
  ·exact ⟨_,a1,λv q=>nomatch q⟩
  ·exact ⟨_,a4,λv q=>by rw [d4] at q;cases q⟩
 keep:=λi h h' st k=>by
  obtain ⟨⟨old,a1⟩,a4⟩:=st
  exact ⟨⟨old,k _ (by simp) _ a1⟩,a4.at λo e=>k _ (by simp) o e⟩
 item:=by
  intro X hP hw hK hc i Ga s σ H E I hf st hg
  subst hP hw hK
  obtain ⟨xs,x,hq1,hx⟩:=hg
  obtain ⟨is1,rv1,p1,hz1⟩:=I.list hq1
  obtain ⟨u1,hu1,ru1⟩:=rv1.get hx
  obtain ⟨⟨old,a1⟩,a4⟩:=st
  refine wpAny_pyNext_enum_item a1 a4 p1.isList (x:=u1) (by simpa using hu1) hne λh' b1 b2 b3 b4 b5=>?_
  refine ⟨_,rfl,wpAny_letOwnedTupleGo_enum (s:={ s with heap:=h',toks:=s.toks+1 }) b1 λh2 c1 c2=>?_⟩
  have zlt:e<s.heap.objs.size:=lt_size a1
  have nz:s.heap.objs.size≠e:=ne_of_gt zlt
  have all:∀c o,c≠e->c≠it->s.heap.get? c=some o->h2.get? c=some o:=λc o n1 n2 q=>c2.extBut c o n1 (b5 c o n1 n2 q)
  have tT:h2.get? s.heap.objs.size=some { cls:=.type "tuple",data:=.seq #[.int i s.toks,u1] }:=c2.extBut _ _ nz b3
  have hfr:H s.heap.objs.size=none:=I.hok.fresh (le_refl _)
  have hok0:HOk X.prog X.w H h2:=λb u q0=>by
   refine (I.hok b u q0).stay (λc v hc q=>?_) (λ_ q=>q) λ_ _ q=>q
   have hnn:∀d∈[e,it],c≠d:=λd hd w=>by
    have fd:=(hf d hd).1
    rcases hc with k|k
    ·rw [k] at w;rw [w,fd] at q0;cases q0
    ·rw [w,fd] at k;cases k
   exact all c v (hnn e (by simp)) (hnn it (by simp)) q
  have lt0:∀b o,s.heap.get? b=some o->b≠s.heap.objs.size:=λb o e=>ne_of_lt (lt_size e)
  have I2:Inv X Ga σ (upd H s.heap.objs.size (.tup [.int i,x])) { s with heap:=h2,toks:=s.toks+1 }:=by
   refine I.step (g':=s.gens) (d':=s.drawn) (t':=s.toks+1) (ch:=[e,it]) (λb hb=>?_) (λb o _ _ hb q _=>?_) (λb o _ _ hb q _=>?_) (λb o _ q n=>?_) (λb o hb q=>?_) (λb ps q=>?_) (λb o u q=>?_) (λb ps q=>?_) (λm hm=>?_) (hok0.add hfr ?_) I.bare
   ·obtain ⟨f0,f1,f2,f3,f4,f5⟩:=hf b hb
    exact ⟨f3,f1,f4,f5⟩
   ·simp only [mem_cons,not_mem_nil,or_false,not_or] at hb
    exact all b o hb.1 hb.2 q
   ·simp only [mem_cons,not_mem_nil,or_false,not_or] at hb
    exact ⟨o.slots,all b o hb.1 hb.2 q⟩
   ·rw [zd (lt0 b o q)];exact n
   ·simp only [mem_cons,not_mem_nil,or_false,not_or] at hb
    exact ⟨o,all b o hb.1 hb.2 q⟩
   ·rw [zd (zA q hfr)];exact q
   ·rw [zd (zA q hfr)];exact q
   ·exact ⟨#[],by rw [zd (zA q hfr),q];simp⟩
   ·obtain ⟨o,es,ep,ho,r⟩:=hm
    exact ⟨o,es,ep,all _ o (Ne.symm (hf e (by simp)).2.1) (Ne.symm (hf it (by simp)).2.1) ho,r⟩
   ·exact ⟨by show 2<=sizeLine;decide,[.int i s.toks,u1],.cons ⟨_,rfl⟩ (.cons ru1 .nil),⟨_,tT,rfl,_,rfl⟩⟩
  refine ⟨.ref s.heap.objs.size,_,I2,rfl,⟨_,x,hfr,rfl,rfl,λzs hz=>by rw [I.list_inj hz hq1];exact hx⟩,?_,λb hb=>?_⟩
  ·exact ⟨⟨_,c1⟩,b2.extBut c2.extBut (Ne.symm hne)⟩
  ·have ne:b≠s.heap.objs.size:=λq=>by
    have:b<s.heap.objs.size:=by
     simp only [mem_cons,not_mem_nil,or_false] at hb
     obtain ⟨o4,a4,_⟩:=a4
     rcases hb with rfl|rfl
     ·exact zlt
     ·exact lt_size a4
    exact absurd (q ▸ this) (Nat.lt_irrefl _)
   rw [zd ne]
   exact (hf b hb).1
 done:=by
  intro X hP hw hK hc i Ga s σ H E I hf st hg
  subst hP hw hK
  obtain ⟨xs,hq1,hx⟩:=hg
  obtain ⟨is1,rv1,p1,hz1⟩:=I.list hq1
  have hl:=rv1.length
  obtain ⟨⟨old,a1⟩,a4⟩:=st
  refine wpAny_pyNext_enum_end (I.ok.hd (hc rfl)) a1 a4 p1.isList (by simp;omega) λh' up=>⟨rfl,?_⟩
  refine I.step (g':=s.gens) (d':=s.drawn) (t':=s.toks) (ch:=[it]) (λb hb=>?_) (λb o _ _ hb q _=>?_) (λb o _ _ hb q _=>?_) (λ_ _ _ _ n=>n) (λb o hb q=>?_) (λ_ _ q=>q) (λ_ _ _ q=>q) (λb ps q=>⟨#[],by rw [q];simp⟩) (λm hm=>?_) (λb u q0=>?_) I.bare
  ·have hb':b∈[e,it]:=by simp only [mem_cons,not_mem_nil,or_false] at hb ⊢;exact .inr hb
   obtain ⟨f0,f1,f2,f3,f4,f5⟩:=hf b hb'
   exact ⟨f3,f1,f4,f5⟩
  ·simp only [mem_cons,not_mem_nil,or_false] at hb
   exact up b o hb q
  ·simp only [mem_cons,not_mem_nil,or_false] at hb
   exact ⟨o.slots,up b o hb q⟩
  ·simp only [mem_cons,not_mem_nil,or_false] at hb
   exact ⟨o,up b o hb q⟩
  ·obtain ⟨o,es,ep,ho,r⟩:=hm
   exact ⟨o,es,ep,up _ o (Ne.symm (hf it (by simp)).2.1) ho,r⟩
  ·refine (I.hok b u q0).stay (λc v hc q=>?_) (λ_ q=>q) λ_ _ q=>q
   have hnn:c≠it:=λw=>by
    have fd:=(hf it (by simp)).1
    rcases hc with k|k
    ·rw [k] at w;rw [w,fd] at q0;cases q0
    ·rw [w,fd] at k;cases k
   exact up c v hnn q
 self:=λ_ _ _ _ _ st h=>by
  obtain ⟨old,a1⟩:=st.z
  exact wpAny_pyIter_enum a1 h
section
variable {X:Cx}
def zhJ(K:PySem.W.Frag)(ta:TA):TI:=λσ H R=>ta σ H λvs H1=>∃a,vs=[.ref a]/\(∃xs,SqL K H1 a xs)/\R (Ite K a) H1
theorem zyD{elts:List Expr}{kk:Nat}{tp p pos:Pos}{a:Expr}{ta:TA}(hg:Gl X "enumerate")(hm:X.mg "enumerate"=none)(ha:PA X [a] ta)(hp:zO a=true:=by rfl) :
  PIc true X (.Tuple elts kk tp) (.Call (.Name "enumerate" p) [a] [] pos) (zhJ X.K ta):=by
 intro Ga s σ H R I h
 have hs:starEach [a] X.env=[(false,eval a X.env)]:=zct hp
 refine Call_ (zb7 I hg hm boot_enumerate (PyProof.Rows.callWith_type1 (thn (ha pos Ga s σ H _ I h) λus s1 ⟨vs,H1,I1,r1,q1⟩=>?_) hs rfl))
 obtain ⟨l1,e,⟨xs,h1⟩,q⟩:=q1
 subst e
 cases r1 with
 | cons r rr =>
  cases rr
  cases (show _=Value.ref l1 from r)
  obtain ⟨is1,rv1,p1,_⟩:=I1.list h1
  refine call_enumerate_list p1.isList λh' a1 a4 a6 a7=>wpAny_pyIter_enum (s:={ s1 with heap:=h' }) a1 ?_
  refine ⟨_,_,_,_,H1,rfl,I1.kept (t':=s1.toks) a7,zn0 (Nat.succ_ne_self _),⟨⟨_,a1⟩,a4⟩,λb hb=>?_,q⟩
  have le:s1.heap.objs.size<=b:=by
   simp only [mem_cons,not_mem_nil,or_false] at hb
   rcases hb with rfl|rfl<;>omega
  exact I1.fpOk le (I1.hok.fresh le)
end
section
variable {K:PySem.W.Frag}{g:TG}{tb:TS}{D:zap}{σ:St}{H:Hp}{ta:TA}{R:It->Hp->Prop}
def uR1(vs:List V)(q:Addr->Prop):Prop:=∃a,vs=[.ref a]/\q a
theorem zb2{q:Addr->Prop}{a:Addr}:uR1 [.ref a] q=q a:=by
 apply propext;constructor
 ·rintro ⟨c,e,h⟩;cases e;exact h
 ·exact λh=>⟨a,rfl,h⟩
theorem zoj:zhJ K ta σ H R=ta σ H λvs H1=>uR1 vs λa=>(∃xs,SqL K H1 a xs)/\R (Ite K a) H1:=rfl
theorem zad.enum{a:Addr}{xs:List V}(Pv:Nat->St->Hp->Prop)(h0:Pv 0 σ H)(hl:∀i σ H,i<=xs.length->Pv i σ H->SqL K H a xs)
  (hs:∀i x p σ H,xs[i]?=some x->Pv i σ H->H p=none->g (.ref p) σ (upd H p (.tup [.int i,x])) λσ2 H2=>tb { D with nx:=Pv (i+1),ct:=Pv (i+1),bk:=D.nx } σ2 H2) (hd:∀σ H,Pv xs.length σ H->D.nx σ H):zad (Ite K a) g tb D σ H:=by
 refine ⟨λi m σ H=>m=xs.length-i/\i<=xs.length/\Pv i σ H,⟨xs.length,by simp,zero_le _,h0⟩,?_⟩
 rintro i m σ H ⟨rfl,hi,p⟩
 have q:=hl i σ H hi p
 by_cases hlt:i<xs.length
 ·refine .inr ⟨⟨xs,xs[i],q,by simp [hlt]⟩,Pv (i+1),λσ' H' p'=>⟨xs.length-(i+1),by omega,rfl,hlt,p'⟩,λx H' y=>?_⟩
  obtain ⟨T,z,hT,rfl,rfl,hz⟩:=y
  exact hs i z T σ _ (hz xs q) p hT
 ·have e:i=xs.length:=by omega
  subst e
  exact .inl ⟨⟨xs,q,le_refl _⟩,hd σ H p⟩
end
section
variable {X:Cx}
def zgi(C:Addr)(ta tv:TE)(rd:V->V->Hp->VK->Prop)(f:Str):TS:=λD σ H=>ta σ H λx H1=>uR x λa=>∃dx fs v,H1 a=some (.ins C dx fs)/\fs.lookup f=some v /\
 tv σ H1 λy H2=>rd v y H2 λz H3=>∃dx' fs',H3 a=some (.ins C dx' fs')/\fs'.length<1000/\D.nx σ (upd H3 a (.ins C dx' (zB f z fs')))
theorem znD{C:Addr}{o value:Expr}{f:Str}{tpos pos:Pos}{ta tv:TE}{op:Operator}{rd:V->V->Hp->VK->Prop}(c:Cls X.K C)(n:zaq X.K C f)(ha:PE X o ta)(hv:PE X value tv)(hop:zfH X op rd):PS X (.AugAssign (.Attribute o f tpos) op value pos) (zgi C ta tv rd f):=by
 intro Ga s σ H D I h
 refine wpAny_AugAssign_AttributeAny (thn (ha Ga s σ H _ I h) λov s1 ⟨x,H1,I1,rx,a,ex,dx,fs,v,ea,l,q⟩=>?_)
 subst ex
 obtain rfl:ov=Value.ref a:=rx
 refine zkH I1 ea c n l λu s2 I2 ru=>thn (hv Ga s2 σ H1 _ I2 q) λw3 s3 ⟨y,H2,I3,ry,q3⟩=>thn (hop Ga s3 σ H2 v y u w3 _ I3 ru ry q3) λw4 s4 ⟨z,H3,I4,rz,dx',fs',ea',l',q4⟩=>?_
 exact zk2 I4 ea' c n l' rz λs5 I5=>⟨σ,_,I5,q4⟩
theorem zuC{i j:Int}{H:Hp}{Q:VK}:zie (.int i) (.int j) H Q=Q (.int (i+j)) H:=by simp [zie]
theorem zu7{i j:Int}{H:Hp}{Q:VK}:zhY (.int i) (.int j) H Q=Q (.int (i-j)) H:=by simp [zhY]
def zbQ(neg:Bool):R2:=λx y H Q=>y = .non/\Q (.bl (if neg then !decide (x = .non) else decide (x = .non))) H
theorem zfl:OpR X (compareOp .IsNot) (zbQ true):=zul.weak λx y H Q h=>⟨h.1,by simpa using h.2⟩
theorem zyk{c:Bool}{H:Hp}{Q:VK}:zbQ c .non .non H Q=Q (.bl (if c then false else true)) H:=by simp [zbQ]
theorem zr7{c:Bool}{i:Int}{H:Hp}{Q:VK}:zbQ c (.int i) .non H Q=Q (.bl (if c then true else false)) H:=by simp [zbQ]
def zcW:R2:=λx y H Q=>zca x y H Q\/zeG x y H Q
theorem zd4:OpR X (binaryOp .Mult) zcW:=zrN.or zmK
theorem zi8{i j:Int}{H:Hp}{Q:VK}:zcW (.int i) (.int j) H Q=(zdt i j/\Q (.int (i*j)) H):=by simp [zcW,zlD,zeG]
theorem zqf{a:Addr}{i:Int}{H:Hp}{Q:VK}:zcW (.ref a) (.int i) H Q=zca (.ref a) (.int i) H Q:=by simp [zcW,zeG]
theorem zu6{z:Str}{i:Int}{H:Hp}{Q:VK}:zcW (.str z) (.int i) H Q=(1<i/\i<2 ^ 31/\z.length≠0/\z.length*i.toNat<=sizeLine/\Q (.str (zeM z i.toNat)) H):=by
 simp [zcW,zca,zeG]
def uS(v:V)(q:Str->Prop):Prop:=∃z,v = .str z/\q z
theorem zfR{z:Str}{q:Str->Prop}:uS (.str z) q=q z:=by simp [uS]
def zix(to te:TE):TE:=λσ H Q=>to σ H λx H1=>uS x λz=>te σ H1 λy H2=>zeT (.str z) [y] H2 Q
theorem zq8{o e:Expr}{to te:TE}{apos cpos:Pos}(ho:PE X o to)(he:PE X e te)(hbase:attributeBase o "join" X.env (eval o X.env)=eval o X.env:=by rfl)(hline:(apos.endLine==cpos.line)=true:=by rfl)(hp:zO e=true:=by rfl) :
  PE X (.Call (.Attribute o "join" apos) [e] [] cpos) (zix to te):=by
 intro Ga s σ H Q I h
 have hs:starEach [e] X.env=[(false,eval e X.env)]:=zct hp
 refine wpAny_Call_method_late hbase (by rw [hs];rfl) hline rfl (thn (ho Ga s σ H _ I h) λv s1 ⟨x,H1,I1,r1,z,ex,q1⟩=>?_)
 subst ex
 obtain ⟨h1,h2⟩:=zfD (T:="str") I1 r1 rfl
 refine ⟨"str","str.join",PySem.F.plainAttrs_str,PySem.F.slot_str_join,PySem.F.type_str_join,h1,h2,?_⟩
 rw [hs]
 refine Calls.callWith_builtin rfl (Calls.evalArgs_plain ?_)
 have hA:=zcs he zce (hs:=hs) cpos Ga s1 σ H1 (λys H2=>match ys with|[y]=>zeT (.str z) [y] H2 Q|_=>False) I1 q1
 rw [hs] at hA
 refine thn hA λus s2 ⟨vs,H2,I2,r2,q2⟩=>?_
 match vs,q2,r2 with
 | [y],q2,r2=>exact zuU Ga s2 σ H2 (.str z) [y] v us Q I2 r1 r2 q2
def zwn(te:TE):TE:=λσ H Q=>te σ H λx H1=>uR x λa=>∃xs,H1 a=some (.lst xs)/\∀ys:List V,(∀y∈ys,y∈xs)->ys.length<=xs.length->∀p H2,New H1 p (.lst ys) H2->Q (.ref p) H2
end
section
variable {K:PySem.W.Frag}{g:TG}{tb:TS}{D:zap}{σ:St}{H:Hp}{ta:TA}{tl:TE}{wi:TI}{R:It->Hp->Prop}{j:Int}{tt:TT}{te:TE}{ix:List (Option Nat)}{Q:VK}
def uI2(vs:List V)(q:Int->Int->Prop):Prop:=∃i j,vs=[.int i,.int j]/\q i j
theorem zve{i:Int}{q:Int->Int->Prop}:uI2 [.int i,.int j] q=q i j:=by
 apply propext;constructor
 ·rintro ⟨a,b,e,h⟩;cases e;exact h
 ·exact λh=>⟨i,j,rfl,h⟩
theorem zv1:znM ta σ H R=ta σ H λvs H1=>uI2 vs λi j=>(-(2 ^ 62)<=i/\i<2 ^ 62/\-(2 ^ 62)<=j/\j<2 ^ 62)/\R (Itr i (j-i).toNat) H1:=rfl
theorem zad.tup{a:Addr}{xs:List V}(Pv:Nat->St->Hp->Prop)(h0:Pv 0 σ H)(hl:∀i σ H,i<=xs.length->Pv i σ H->SqT K H a xs)
  (hs:∀i x σ H,xs[i]?=some x->Pv i σ H->g x σ H λσ2 H2=>tb { D with nx:=Pv (i+1),ct:=Pv (i+1),bk:=D.nx } σ2 H2) (hd:∀σ H,Pv xs.length σ H->D.nx σ H):zad (Itt K a) g tb D σ H:=zn8 Pv h0 hl hs hd
theorem zV.lst{a:Addr}{xs:List V}{τ:St}(Pv:Nat->St->List V->Hp->Prop)(hz:∀i τ ys H,Pv i τ ys H->ys.length<sizeLine)(ha:∀i τ ys H,Pv i τ ys H->SqL K H a xs)(h0:Pv 0 τ [] H)
  (hs:∀(N:St->List V->Hp->Prop) i x τ ys H,xs[i]?=some x->Pv i τ ys H->(∀τ ys H,Pv (i+1) τ ys H->N τ ys H)->g x τ H λτ1 H4=>tt τ1 H4 λok H5=>zbE N ys τ1 te ok H5) (hd:∀τ ys H,Pv xs.length τ ys H->∀D H',New H D (.lst ys) H'->Q (.ref D) H'):zV (Itl K a) g tt te τ H Q:=by
 refine ⟨λi m τ ys H=>m=xs.length-i/\i<=xs.length/\Pv i τ ys H,⟨xs.length,by simp,zero_le _,h0⟩,?_⟩
 rintro i m τ ys H2 ⟨rfl,hi,p⟩
 refine ⟨hz i τ ys H2 p,?_⟩
 have q:=ha i τ ys H2 p
 by_cases hlt:i<xs.length
 ·refine .inr ⟨⟨xs,xs[i],q,by simp [hlt]⟩,λx H' y=>?_⟩
  obtain ⟨e,y⟩:=y
  subst e
  exact hs (λτ1 ys H=>∃m',m'<xs.length-i/\m'=xs.length-(i+1)/\i+1<=xs.length/\Pv (i+1) τ1 ys H) i x τ ys _ (y xs q) p λτ1 zs H q=>⟨xs.length-(i+1),by omega,rfl,hlt,q⟩
 ·have e:i=xs.length:=by omega
  subst e
  exact .inl ⟨⟨xs,q,le_refl _⟩,λD hD _=>hd τ ys H2 p D _ (.mk' hD)⟩
end
structure W(p:Prop):Prop where
 h:p
section
variable {X:Cx}
theorem zam  : W (PSs X [] zgb):=⟨zjt ⟩
theorem zg{st:Stmt}{zab:List Stmt}{t:TS}{u:TS}(h1:W (PS X st t))(h2:W (PSs X zab u)):W (PSs X (st::zab) (zg4 t u)):=⟨zlY (h1:=h1.h) (h2:=h2.h)⟩
theorem zk{st:Stmt}{t:TS}(h1:W (PS X st t)):W (PSs X [st] t):=⟨zgS (h1:=h1.h)⟩
theorem zH{e:Expr}{te:TE}{pos:Pos}(he:W (PE X e te)):W (PS X (.Return (some e) pos) (zhH te)):=⟨zgd (he:=he.h)⟩
theorem zZ{e:Expr}{te:TE}{pos:Pos}(he:W (PE X e te))(hs:swapsWith e none pos.line X.env=pure false:=by rfl):W (PS X (.Expr e pos) (zhw te)):=⟨ztA (he:=he.h) (hs:=hs)⟩
theorem zF{pos:Pos}{i:Nat}{x:Str}{e:Expr}{te:TE}{pos':Pos}(hN:X.N.Nodup)(hi:X.N[i]?=some x)(hx:Loc X.env.scope x)(he:W (PE X e te))(hs:swapsWith e (some (.Name x pos')) pos.line X.env=pure false:=by rfl)(hf:X.fn x=true\/X.env.scope.names.lookup x=some .local:=by first|exact .inl rfl|exact .inr rfl|assumption):W (PS X (.Assign [.Name x pos'] e pos) (zcX te (zbR i))):=⟨zrE (hN:=hN) (hi:=hi) (hx:=hx) (he:=he.h) (hs:=hs) (hf:=hf)⟩
theorem zay{C:Addr}{o value:Expr}{ta tv:TE}{f:Str}{pos pos':Pos}(c:Cls X.K C)(n:zaq X.K C f)(ha:W (PE X o ta))(hv:W (PE X value tv))(hs:swapsWith value (some (.Attribute o f pos')) pos.line X.env=pure false:=by rfl):W (PS X (.Assign [.Attribute o f pos'] value pos) (zfM C ta tv f)):=⟨zs6 (c:=c) (n:=n) (ha:=ha.h) (hv:=hv.h) (hs:=hs)⟩
theorem zbz{pos:Pos}{tg e:Expr}{te:TE}{g:TG}(he:W (PE X e te))(hg:W (PG X tg g))(hs:swapsWithSole [tg] e pos.line X.env=pure false:=by rfl)(hw:swappedStores [tg] e X.env=pure none:=by rfl)(h1:(assignEach [tg] X.env).map (·.2)=[assign tg X.env]:=by rfl):W (PS X (.Assign [tg] e pos) (zcX te g)):=⟨zrf (he:=he.h) (hg:=hg.h) (hs:=hs) (hw:=hw) (h1:=h1)⟩
theorem zsj{pos:Pos}{i:Nat}{x:Str}{e:Expr}{te:TE}{op:Operator}{ti:TIp}{pos':Pos}(hN:X.N.Nodup)(hi:X.N[i]?=some x)(hx:Loc X.env.scope x)(he:W (PE X e te))(ho:PIp X op ti)(hf:X.fn x=true\/X.env.scope.names.lookup x=some .local:=by first|exact .inl rfl|exact .inr rfl|assumption):W (PS X (.AugAssign (.Name x pos') op e pos) (zhm i te ti)):=⟨znn (hN:=hN) (hi:=hi) (hx:=hx) (he:=he.h) (ho:=ho) (hf:=hf)⟩
theorem z7{t:TS}{u:TS}{pos:Pos}{c:Expr}{a b:List Stmt}{tc:TT}(hc:W (PT X c tc))(ha:W (PSs X a t))(hb:W (PSs X b u)):W (PS X (.If c a b pos) (zhj tc t u)):=⟨zkg (hc:=hc.h) (ha:=ha.h) (hb:=hb.h)⟩
theorem zbd{tg:Expr}{c:Bool}{iter:Expr}{body:List Stmt}{wi:TI}{g:TG}{tb:TS}{pos:Pos}(hp:PassesOwn (model X.prog X.w) X.A X.env X.xe)(hc:c=true->X.calm=true)(hi:W (PIc c X tg iter wi))(hg:W (PG X tg g))(hb:W (PSs X body tb))(hs:∀x,foldedSetIterable iter X.env x=pure x:=by intro _;rfl):W (PS X (.For tg iter body [] pos) (zhh wi g tb)):=⟨zwv (hp:=hp) (hc:=hc) (hi:=hi.h) (hg:=hg.h) (hb:=hb.h) (hs:=hs)⟩
theorem ze7{Ex:Addr->St->Hp->Prop}{C:Addr}{x:Str}{np cpos pos:Pos}{e:Expr}{es:List Expr}{t:TA}(hc:X.calm=true)(T:zas X Ex)(O:zaY X.K C)(hg:Gl X x)(hm:X.mg x=some (.ref C))(ha:W (PA X (e::es) t))(hp:zO e=true:=by rfl)(hps:zaz es=true:=by rfl)(hdb:(x==("__debug__":Str))=false:=by decide):W (PS X (.Raise (some (.Call (.Name x np) (e::es) [] cpos)) none pos) (zfd C Ex t)):=⟨zxr (hc:=hc) (T:=T) (O:=O) (hg:=hg) (hm:=hm) (ha:=ha.h) (hp:=hp) (hps:=hps) (hdb:=hdb)⟩
theorem zb0{tg a:Expr}{ta:TA}{p pos:Pos}(hg:Gl X "range")(hm:X.mg "range"=none)(ha:W (PA X [a] ta))(hp:zO a=true:=by rfl):W (PIc true X tg (.Call (.Name "range" p) [a] [] pos) (zf6 ta)):=⟨zrr (hg:=hg) (hm:=hm) (ha:=ha.h) (hp:=hp)⟩
theorem zbg{tg:Expr}{l:Expr}{tl:TE}(hl:W (PE X l tl)):W (PI X tg l (zh1 X.K tl)):=⟨zwE (hl:=hl.h)⟩
theorem zc  : W (PA X [] za0):=⟨zce ⟩
theorem zb{e:Expr}{es:List Expr}{te:TE}{t:TA}(ha:W (PE X e te))(hr:W (PA X es t))(hp:zO e=true:=by rfl):W (PA X (e::es) (zeZ te t)):=⟨znS (ha:=ha.h) (hr:=hr.h) (hp:=hp)⟩
theorem zbV{a:Expr}{pos:Pos}{tA:TT}(ha:W (PT X a tA)):W (PT X (.UnaryOp .Not a pos) (zik tA)):=⟨znz (ha:=ha.h)⟩
theorem zkn{a:Expr}{pos:Pos}{tA:TT}(ha:W (PT X a tA)):W (PW X (.BoolOp .And [a] pos) tA):=⟨zvv (ha:=ha.h)⟩
theorem zjF{a:Expr}{pos:Pos}{tA:TT}(ha:W (PT X a tA)):W (PW X (.BoolOp .Or [a] pos) tA):=⟨zwC (ha:=ha.h)⟩
theorem zlB{a:Expr}{b:Expr}{pos:Pos}{tA:TT}{tB':TT}{zab:List Expr}(ha:W (PT X a tA))(hb:W (PW X (.BoolOp .And (b::zab) pos) tB')):W (PW X (.BoolOp .And (a::b::zab) pos) (zhI tA tB')):=⟨zn1 (ha:=ha.h) (hb:=hb.h)⟩
theorem zkk{a:Expr}{b:Expr}{pos:Pos}{tA:TT}{tB':TT}{zab:List Expr}(ha:W (PT X a tA))(hb:W (PW X (.BoolOp .Or (b::zab) pos) tB')):W (PW X (.BoolOp .Or (a::b::zab) pos) (tOr tA tB')):=⟨zwe (ha:=ha.h) (hb:=hb.h)⟩
theorem zal{a:Expr}{b:Expr}{ta:TE}{tb:TE}{pos:Pos}{op:CmpOp}{r:R2}(ho:OpR X (compareOp op) r)(ha:W (PE X a ta))(hb:W (PE X b tb))(hm:behindInMarks op b=false):W (PT X (.Compare a [op] [b] pos) (zgC (tOp r ta tb))):=⟨zmf (ho:=ho) (ha:=ha.h) (hb:=hb.h) (hm:=hm)⟩
theorem zaU{a:Expr}{ta:TE}(ha:W (PE X a ta))(he:∀whole,isTrue a X.env whole=(do let v<-whole;standAt a.pos;holding [v] (truthy v)):=by intro _;rfl):W (PT X a (zgx X.K ta)):=⟨zni (ha:=ha.h) (he:=he)⟩
theorem za(i:Nat){x:Str}{pos:Pos}(hN:X.N[i]?=some x:=by rfl)(hv:Vis X.env.scope x:=by first|exact Or.inl rfl|exact Or.inr (Or.inl rfl)|exact Or.inr (Or.inr rfl))(hd:(x==("__debug__":Str))=false:=by decide)(hcd:(x==("__classdict__":Str))=false:=by decide):W (PE X (.Name x pos) (zeP i)):=⟨pv (i:=i) (hN:=hN) (hv:=hv) (hd:=hd) (hcd:=hcd)⟩
theorem zey{x:Str}{v:V}{pos:Pos}(hg:Gl X x)(hm:∃u,X.mg x=some u/\zm v u)(hd:(x==("__debug__":Str))=false:=by decide):W (PE X (.Name x pos) (tC v)):=⟨zsZ (hg:=hg) (hm:=hm) (hd:=hd)⟩
theorem zgt{x:Str}{v:V}{u:Value}{pos:Pos}(hg:Gl X x)(hm:X.mg x=none)(hv:bootBuiltins x=some u)(r:zm v u)(hn:x≠"__name__":=by decide)(hd:(x==("__debug__":Str))=false:=by decide):W (PE X (.Name x pos) (tC v)):=⟨zv8 (hg:=hg) (hm:=hm) (hv:=hv) (r:=r) (hn:=hn) (hd:=hd)⟩
theorem zbt{j pos}:W (PE X (.Constant .none j pos) (tC .non)):=⟨zxF ⟩
theorem zbc{b j pos}:W (PE X (.Constant (.bool b) j pos) (tC (.bl b))):=⟨zxm ⟩
theorem zi{i j pos}:W (PE X (.Constant (.int i) j pos) (tC (.int i))):=⟨zil ⟩
theorem zS{x j pos}:W (PE X (.Constant (.str x) j pos) (tC (.str x))):=⟨zok ⟩
theorem zG{a:Expr}{b:Expr}{ta:TE}{tb:TE}{pos:Pos}{op:Operator}{r:R2}(ho:OpR X (binaryOp op) r)(ha:W (PE X a ta))(hb:W (PE X b tb)):W (PE X (.BinOp a op b pos) (tOp r ta tb)):=⟨zrT (ho:=ho) (ha:=ha.h) (hb:=hb.h)⟩
theorem zpL{a:Expr}{ta:TE}{pos:Pos}(ha:W (PE X a ta)):W (PE X (.UnaryOp .Not a pos) (zgZ ta)):=⟨zsA (ha:=ha.h)⟩
theorem zwH{a:Expr}{ta:TE}{pos:Pos}{op:UnaryOp}{r:V->Hp->VK->Prop}(ho:UnR X (unaryOp op) r)(ha:W (PE X a ta)):W (PE X (.UnaryOp op a pos) (tUn r ta)):=⟨zoD (ho:=ho) (ha:=ha.h)⟩
theorem zjs{a:Expr}{pos:Pos}{op}{t:TE}(h:W (PE X a t)):W (PE X (.BoolOp op [a] pos) t):=⟨zo4 (h:=h.h)⟩
theorem zj6{a:Expr}{b:Expr}{ta:TE}{tb:TE}{pos:Pos}{zab:List Expr}(ha:W (PE X a ta))(hb:W (PE X (.BoolOp .And (b::zab) pos) tb)):W (PE X (.BoolOp .And (a::b::zab) pos) (ziC ta tb)):=⟨zwu (ha:=ha.h) (hb:=hb.h)⟩
theorem zeD{a:Expr}{b:Expr}{ta:TE}{tb:TE}{pos:Pos}{op:CmpOp}{r:R2}(ho:OpR X (compareOp op) r)(ha:W (PE X a ta))(hb:W (PE X b tb))(hm:behindInMarks op b=false):W (PE X (.Compare a [op] [b] pos) (tOp r ta tb)):=⟨zuO (ho:=ho) (ha:=ha.h) (hb:=hb.h) (hm:=hm)⟩
theorem zuW{a:Expr}{b:Expr}{c:Expr}{ta:TE}{tb:TE}{tc:TE}{pos:Pos}{op op':CmpOp}{r r':R2}(ho:OpR X (compareOp op) r)(ho':OpR X (compareOp op') r')(ha:W (PE X a ta))(hb:W (PE X b tb))(hc:W (PE X c tc))(hm:lastMarks [op,op'] [b,c]=false:=by with_unfolding_all rfl):W (PE X (.Compare a [op,op'] [b,c] pos) (zgD r r' ta tb tc)):=⟨zsq (ho:=ho) (ho':=ho') (ha:=ha.h) (hb:=hb.h) (hc:=hc.h) (hm:=hm)⟩
theorem zrW{a:Expr}{b:Expr}{ta:TE}{tb:TE}{pos:Pos}{tA:TT}{c:Expr}(hc:W (PT X c tA))(ha:W (PE X a ta))(hb:W (PE X b tb)):W (PE X (.IfExp c a b pos) (tIf tA ta tb)):=⟨zoc (hc:=hc.h) (ha:=ha.h) (hb:=hb.h)⟩
theorem zat{es:List Expr}{t:TA}{pos:Pos}(h:W (PA X es t)):W (PE X (.List es pos) (zgy t)):=⟨zvA (h:=h.h)⟩
theorem zav{es:List Expr}{t:TA}{x1}{pos:Pos}(h:W (PA X es t)):W (PE X (.Tuple es x1 pos) (zhu t)):=⟨zo2 (h:=h.h)⟩
theorem zhM{pos:Pos}:W (PE X (.Dict [] [] pos) zgG):=⟨znv ⟩
theorem zY{C:Addr}{e:Expr}{ta:TE}{f:Str}{pos:Pos}(c:Cls X.K C)(n:zaq X.K C f)(he:W (PE X e ta))(hb:attributeBase e f X.env (eval e X.env)=eval e X.env:=by rfl):W (PE X (.Attribute e f pos) (zfF C ta f)):=⟨zxV (c:=c) (n:=n) (he:=he.h) (hb:=hb)⟩
theorem zL{a:Expr}{b:Expr}{ta:TE}{tb:TE}{pos:Pos}{r:R2}(hr:IxR X r)(ha:W (PE X a ta))(hb:W (PE X b tb))(hs:zjX b):W (PE X (.Subscript a b pos) (tOp r ta tb)):=⟨zi4 (hr:=hr) (ha:=ha.h) (hb:=hb.h) (hs:=hs)⟩
theorem zdn{e:Expr}{te:TE}{lo:Option Expr}{hi:Option Expr}{tl:TO}{th:TO}{pos:Pos}{p2:Pos}{r:V->Option Int->Option Int->Hp->VK->Prop}(hr:SlR X r)(he:W (PE X e te))(hl:W (PO X lo tl))(hu:W (PO X hi th)):W (PE X (.Subscript e (.Slice lo hi none p2) pos) (tSl r te tl th)):=⟨zwX (hr:=hr) (he:=he.h) (hl:=hl.h) (hu:=hu.h)⟩
theorem zr{cm:Bool}{k:Nat}{j:Nat}{x:Str}{ps:List Str}{sp:Sp}{e:Expr}{es:List Expr}{t:TA}{p:Pos}{pos:Pos}(G:GF X.prog X.w X.K X.mg X.base cm j x ps sp)(hr:zx cm k X.A)(hg:Gl X x)(ha:W (PA X (e::es) t))(hj:j<=k:=by decide)(hdb:(x==("__debug__":Str))=false:=by decide)(hp:zO e=true:=by rfl)(hps:zaz es=true:=by rfl):W (PE X (.Call (.Name x p) (e::es) [] pos) (zeu sp [] E0 t)):=⟨znV (G:=G) (hr:=hr) (hg:=hg) (ha:=ha.h) (hj:=hj) (hdb:=hdb) (hp:=hp) (hps:=hps)⟩
theorem zty{cm:Bool}{k:Nat}{j:Nat}{x:Str}{C:Addr}{ps:List Str}{sp:Sp}{e:Expr}{es:List Expr}{t:TA}{p:Pos}{pos:Pos}(G:GC X.prog X.w X.K X.mg X.base cm j x C ps sp)(hr:zx cm k X.A)(hg:Gl X x)(ha:W (PA X (e::es) t))(hj:j+1<=k:=by decide)(hdb:(x==("__debug__":Str))=false:=by decide)(hp:zO e=true:=by rfl)(hps:zaz es=true:=by rfl):W (PE X (.Call (.Name x p) (e::es) [] pos) (zeB C sp t)):=⟨znO (G:=G) (hr:=hr) (hg:=hg) (ha:=ha.h) (hj:=hj) (hdb:=hdb) (hp:=hp) (hps:=hps)⟩
theorem zml{cm:Bool}{k:Nat}{j:Nat}{x:Str}{C:Addr}{ps:List Str}{sp:Sp}{e:Expr}{es:List Expr}{t:TA}{p:Pos}{pos:Pos}{Ex:Addr->St->Hp->Prop}(T:zas X Ex)(G:GCX X.prog X.w X.K X.mg X.base cm j x C ps sp)(hr:zx cm k X.A)(hg:Gl X x)(ha:W (PA X (e::es) t))(hj:j+1<=k:=by decide)(hdb:(x==("__debug__":Str))=false:=by decide)(hp:zO e=true:=by rfl)(hps:zaz es=true:=by rfl):W (PE X (.Call (.Name x p) (e::es) [] pos) (zgk C sp Ex t)):=⟨zxc (T:=T) (G:=G) (hr:=hr) (hg:=hg) (ha:=ha.h) (hj:=hj) (hdb:=hdb) (hp:=hp) (hps:=hps)⟩
theorem zM{id:String}{r:List V->Hp->VK->Prop}{x:Str}{e:Expr}{es:List Expr}{t:TA}{p pos:Pos}(hc:zK X (.builtin id) r)(hg:Gl X x)(hm:X.mg x=none)(hv:bootBuiltins x=some (.builtin id))(ha:W (PA X (e::es) t))(hp:zO e=true:=by rfl)(hps:zaz es=true:=by rfl)(hn:x≠"__name__":=by decide)(hdb:(x==("__debug__":Str))=false:=by decide):W (PE X (.Call (.Name x p) (e::es) [] pos) (tCB r t)):=⟨zoE (hc:=hc) (hg:=hg) (hm:=hm) (hv:=hv) (ha:=ha.h) (hp:=hp) (hps:=hps) (hn:=hn) (hdb:=hdb)⟩
theorem zdI{T:String}{r:List V->Hp->VK->Prop}{x:Str}{e:Expr}{es:List Expr}{t:TA}{p pos:Pos}(hc:zK X (.type T) r)(hg:Gl X x)(hm:X.mg x=none)(hv:bootBuiltins x=some (.type T))(ha:W (PA X (e::es) t))(hp:zO e=true:=by rfl)(hps:zaz es=true:=by rfl)(hn:x≠"__name__":=by decide)(hdb:(x==("__debug__":Str))=false:=by decide):W (PE X (.Call (.Name x p) (e::es) [] pos) (tCB r t)):=⟨zpa (hc:=hc) (hg:=hg) (hm:=hm) (hv:=hv) (ha:=ha.h) (hp:=hp) (hps:=hps) (hn:=hn) (hdb:=hdb)⟩
theorem zaX {cm : Bool} {k : Nat} {j : Nat} {m : Str} {C : Addr} {ps : List Str} {sp : Sp} {e : Expr} {o : Expr} {es : List Expr} {t : TA} {ta : TE} {pos : Pos} {apos : Pos} {pl : Sem Bool} (he : W (PE X o ta)) (c : Cls X.K C) (G : GM X.prog X.w X.K X.mg X.base cm j C m ps sp) (hr : zx cm k X.A) (ha : W (PA X (e :: es) t)) (hj : j ≤ k := by decide) (hp : zO e = true := by rfl) (hps : zaz es = true := by rfl) (ht : eval (.Call (.Attribute o m apos) (e :: es) [] pos) X.env = (do
      let ov ← eval o X.env
      standAt apos.atName
      let (f, first) ← holding [ov] (getMethod ov m pl)
      callWith pos f first (backTo pos (starEach (e :: es) X.env)) (backToKw pos (keywordEach [] X.env))) := by rfl) : W (PE X (.Call (.Attribute o m apos) (e :: es) [] pos) (zci C m sp [] E0 ta t)) := ⟨zpH (he := he.h) (c := c) (G := G) (hr := hr) (ha := ha.h) (hj := hj) (hp := hp) (hps := hps) (ht := ht)⟩
theorem zbY {cm : Bool} {k : Nat} {j : Nat} {m : Str} {C : Addr} {ps : List Str} {sp : Sp} {o : Expr} {ta : TE} {pos : Pos} {apos : Pos} {pl : Sem Bool} (he : W (PE X o ta)) (c : Cls X.K C) (G : GM X.prog X.w X.K X.mg X.base cm j C m ps sp) (hr : zx cm k X.A) (hj : j ≤ k := by decide) (ht : eval (.Call (.Attribute o m apos) [] [] pos) X.env = (do
      let ov ← eval o X.env
      standAt apos.atName
      let (f, first) ← holding [ov] (getMethod ov m pl)
      callWith pos f first (backTo pos (starEach [] X.env)) (backToKw pos (keywordEach [] X.env))) := by rfl) : W (PE X (.Call (.Attribute o m apos) [] [] pos) (zci C m sp [] E0 ta za0)) := ⟨zvb (he := he.h) (c := c) (G := G) (hr := hr) (hj := hj) (ht := ht)⟩
theorem zdb {cm : Bool} {k : Nat} {j : Nat} {m : Str} {C : Addr} {ps : List Str} {sp : Sp} {e : Expr} {o : Expr} {es : List Expr} {t : TA} {ta : TE} {pos : Pos} {apos : Pos} {Ex : Addr → St → Hp → Prop} {pl : Sem Bool} (he : W (PE X o ta)) (c : Cls X.K C) (T : zas X Ex) (G : GMX X.prog X.w X.K X.mg X.base cm j C m ps sp) (hr : zx cm k X.A) (ha : W (PA X (e :: es) t)) (hj : j ≤ k := by decide) (hp : zO e = true := by rfl) (hps : zaz es = true := by rfl) (ht : eval (.Call (.Attribute o m apos) (e :: es) [] pos) X.env = (do
      let ov ← eval o X.env
      standAt apos.atName
      let (f, first) ← holding [ov] (getMethod ov m pl)
      callWith pos f first (backTo pos (starEach (e :: es) X.env)) (backToKw pos (keywordEach [] X.env))) := by rfl) : W (PE X (.Call (.Attribute o m apos) (e :: es) [] pos) (zcc C m sp [] Ex ta t)) := ⟨zy3 (he := he.h) (c := c) (T := T) (G := G) (hr := hr) (ha := ha.h) (hj := hj) (hp := hp) (hps := hps) (ht := ht)⟩
theorem zc9 {cm : Bool} {k : Nat} {j : Nat} {m : Str} {C : Addr} {ps : List Str} {sp : Sp} {o : Expr} {ta : TE} {pos : Pos} {apos : Pos} {Ex : Addr → St → Hp → Prop} {pl : Sem Bool} (he : W (PE X o ta)) (c : Cls X.K C) (T : zas X Ex) (G : GMX X.prog X.w X.K X.mg X.base cm j C m ps sp) (hr : zx cm k X.A) (hj : j ≤ k := by decide) (ht : eval (.Call (.Attribute o m apos) [] [] pos) X.env = (do
      let ov ← eval o X.env
      standAt apos.atName
      let (f, first) ← holding [ov] (getMethod ov m pl)
      callWith pos f first (backTo pos (starEach [] X.env)) (backToKw pos (keywordEach [] X.env))) := by rfl) : W (PE X (.Call (.Attribute o m apos) [] [] pos) (zcc C m sp [] Ex ta za0)) := ⟨zqd (he := he.h) (c := c) (T := T) (G := G) (hr := hr) (hj := hj) (ht := ht)⟩
theorem zeL{o e:Expr}{to te:TE}{apos cpos:Pos}(ho:W (PE X o to))(he:W (PE X e te))(hbase:attributeBase o "append" X.env (eval o X.env)=eval o X.env:=by rfl)(hline:(apos.endLine==cpos.line)=true:=by rfl)(hp:zO e=true:=by rfl):W (PE X (.Call (.Attribute o "append" apos) [e] [] cpos) (zia to te)):=⟨zqJ (ho:=ho.h) (he:=he.h) (hbase:=hbase) (hline:=hline) (hp:=hp)⟩
theorem zbS{c:Bool}{X:Cx}{elt tg iter:Expr}{ifs:List Expr}{sc:Scope}{pos:Pos}{N':List Str}{ix:List (Option Nat)}{wi:TI}{g:TG}{tt:TT}{te:TE}(hc:c=true->X.calm=true)(L:zah X sc N' ix)(hi:W (PIc c X tg iter wi))(hg:∀Ga C fp s H,W (PG (zz X sc N' Ga C fp s H) tg g))(ht:∀Ga C fp s H,W (PTs (zz X sc N' Ga C fp s H) ifs tt))(he:∀Ga C fp s H,W (PE (zz X sc N' Ga C fp s H) elt te))(hs:∀x,foldedSetIterable iter X.env x=pure x:=by intro _;rfl):W (PE X (.ListComp elt [⟨tg,iter,ifs,0⟩] sc pos) (tLC ix wi g tt te)):=⟨zyi (hc:=hc) (L:=L) (hi:=hi.h) (hg:=λz0 z1 z2 z3 z4=>(hg z0 z1 z2 z3 z4).h) (ht:=λz0 z1 z2 z3 z4=>(ht z0 z1 z2 z3 z4).h) (he:=λz0 z1 z2 z3 z4=>(he z0 z1 z2 z3 z4).h) (hs:=hs)⟩
theorem zI{pos:Pos}{i:Nat}{x:Str}(hN:X.N.Nodup)(hi:X.N[i]?=some x)(hx:Loc X.env.scope x)(hf:X.fn x=true\/X.env.scope.names.lookup x=some .local:=by first|exact .inl rfl|exact .inr rfl|assumption):W (PG X (.Name x pos) (zbR i)):=⟨zjI (hN:=hN) (hi:=hi) (hx:=hx) (hf:=hf)⟩
theorem zdp{X:Cx}{pos:Pos}{es:List Expr}{k:Nat}{t:TGs}{n:Nat}(h:W (PGs X es t))(hl:(assignEach es X.env).length=n:=by rfl)(hst:(assignEach es X.env).findIdx? (·.1)=none:=by rfl):W (PG X (.Tuple es k pos) (zfo X.K n t)):=⟨ziP (h:=h.h) (hl:=hl) (hst:=hst)⟩
theorem zbk  : W (PGs X [] zhz):=⟨ztX ⟩
theorem z6{e:Expr}{es:List Expr}{t:TG}{u:TGs}(h1:W (PG X e t))(h2:W (PGs X es u))(hs:(assignEach (e::es) X.env).map (·.2)=assign e X.env::(assignEach es X.env).map (·.2):=by rfl):W (PGs X (e::es) (zh7 t u)):=⟨zxt (h1:=h1.h) (h2:=h2.h) (hs:=hs)⟩
theorem zbI{X:Cx}:W (PTs X [] zf8):=⟨znd ⟩
theorem zeE{X:Cx}{c:Expr}{t:TT}(h:W (PT X c t)):W (PTs X [c] t):=⟨zxk (h:=h.h)⟩
theorem zds{Y:Cx}{sc:Scope}{N':List Str}{Ga:List (Addr×Obj)}{D:Addr}{fp:List Addr}{s:Shared}{H:Hp}{pos:Pos}{es:List Expr}{k:Nat}{t:TGs}{n:Nat}(h:W (PGs (zz Y sc N' Ga D fp s H) es t))(hl:(assignEach es (zz Y sc N' Ga D fp s H).env).length=n:=by rfl)(hst:(assignEach es (zz Y sc N' Ga D fp s H).env).findIdx? (·.1)=none:=by rfl):W (PG (zz Y sc N' Ga D fp s H) (.Tuple es k pos) (zfo Y.K n t)):=⟨zv7 (h:=h.h) (hl:=hl) (hst:=hst)⟩
theorem zl0{o:Expr}{to:TE}{apos cpos:Pos}(ho:W (PE X o to))(hbase:attributeBase o "clear" X.env (eval o X.env)=eval o X.env:=by rfl)(hline:(apos.endLine==cpos.line)=true:=by rfl):W (PE X (.Call (.Attribute o "clear" apos) [] [] cpos) (zig to)):=⟨zoA (ho:=ho.h) (hbase:=hbase) (hline:=hline)⟩
theorem ztS{o e:Expr}{to te:TE}{apos cpos:Pos}(ho:W (PE X o to))(he:W (PE X e te))(hbase:attributeBase o "join" X.env (eval o X.env)=eval o X.env:=by rfl)(hline:(apos.endLine==cpos.line)=true:=by rfl)(hp:zO e=true:=by rfl):W (PE X (.Call (.Attribute o "join" apos) [e] [] cpos) (zix to te)):=⟨zq8 (ho:=ho.h) (he:=he.h) (hbase:=hbase) (hline:=hline) (hp:=hp)⟩
theorem zht{elts:List Expr}{kk:Nat}{tp p pos:Pos}{a:Expr}{ta:TA}(hg:Gl X "enumerate")(hm:X.mg "enumerate"=none)(ha:W (PA X [a] ta))(hp:zO a=true:=by rfl):W (PIc true X (.Tuple elts kk tp) (.Call (.Name "enumerate" p) [a] [] pos) (zhJ X.K ta)):=⟨zyD (hg:=hg) (hm:=hm) (ha:=ha.h) (hp:=hp)⟩
theorem zlv{C:Addr}{o value:Expr}{f:Str}{tpos pos:Pos}{ta tv:TE}{op:Operator}{rd:V->V->Hp->VK->Prop}(c:Cls X.K C)(n:zaq X.K C f)(ha:W (PE X o ta))(hv:W (PE X value tv))(hop:zfH X op rd):W (PS X (.AugAssign (.Attribute o f tpos) op value pos) (zgi C ta tv rd f)):=⟨znD (c:=c) (n:=n) (ha:=ha.h) (hv:=hv.h) (hop:=hop)⟩
theorem zb4 {pos : Pos} {o i : Expr} {to ti : TE} {t : zf2} (ho : W (PE X o to)) (hi : W (PE X i ti)) (hs : zfL X t) (ha : ∀ v, assign (.Subscript o i pos) X.env v = (do
      let ov ← holding [v] (eval o X.env)
      let iv ← holding [v, ov] (eval i X.env)
      standAt pos
      holding [v, ov, iv] (setItem ov iv v)
      release [v, ov, iv] []) := by intro _; rfl) : W (PG X (.Subscript o i pos) (zhW to ti t)) := ⟨zqe (ho := ho.h) (hi := hi.h) (hs := hs) (ha := ha)⟩
theorem zdy  : W (PO X none zgF):=⟨znC ⟩
theorem zdJ{e:Expr}{te:TE}(h:W (PE X e te)):W (PO X (some e) (zgY te)):=⟨zq2 (h:=h.h)⟩
theorem zfJ{e:Expr}{t:TT}(h:W (PW X e t)):W (PT X e t):=⟨PW.pt h.h⟩
theorem zyH{st:Stmt}{t:TS}(h:W (PS X.nox st t)):W (PS X st t):=⟨PS.nox h.h⟩
end
def asc(z:Str):Bool:=z.cps.all (· < 128)
def Its(z:Str):It:=⟨λi _=>i<z.cps.size,λi H x H'=>H'=H/\∃c,z.cps[i]?=some c/\x = .str ⟨#[c]⟩,λi _=>z.cps.size<=i⟩
section
variable {X:Cx}{tg:Expr}
def zqT(tl:TE):TI:=λσ H R=>tl σ H λx H1=>uS x λz=>asc z=true/\R (Its z) H1
theorem zv4{tl:TE}{σ:St}{H:Hp}{R:It->Hp->Prop}:zqT tl σ H R=tl σ H λx H1=>uS x λz=>asc z=true/\R (Its z) H1:=rfl
end
theorem Draws.later{prog:Program}{w:World}{A:Around}{it:Addr}{fp:List Addr}{n k:Nat}{P:Nat->Value->Prop}{St:Nat->Heap->Prop}(D:Draws prog w A it fp n P St) :
  Draws prog w A it fp (n+k) (λi v=>P (i-k) v) (λi h=>k<=i/\St (i-k) h) where
 live:=λ_ _ st=>D.live _ _ st.2
 frame:=λ_ _ _ st hk=>⟨st.1,D.frame _ _ _ st.2 hk⟩
 item:=λi s Q E hi st hQ=>D.item (i-k) s Q E (by have:=st.1;omega) st.2 λx h' tk p st' sb=>hQ x h' tk p ⟨by have:=st.1;omega,by
  have e:i+1-k=i-k+1:=by have:=st.1;omega
  rw [e];exact st'⟩ sb
 done:=λs Q E st hE=>D.done s Q E (by
  have e:n+k-k=n:=by omega
  have:=st.2;rwa [e] at this) hE
def zd3(z:Str)(k:Nat):It :=
 ⟨λi _=>i<z.cps.size,λi H v H'=>∃T c,H T=none/\v = .ref T/\z.cps[i]?=some c/\H'=upd H T (.tup [.int ((i:Nat)+k:Nat),.str ⟨#[c]⟩]),λi _=>i=z.cps.size⟩
structure zvJ(e it:Addr)(z:Str)(k i:Nat)(h:Heap):Prop where
 en:∃old,IsEnum h e it ((i+k:Nat):Int) old
 a:∃t,h.IsStrIter it "str_ascii_iterator" z t i
theorem zkT{P:Program}{w:World}{K:PySem.W.Frag}{elts:List Expr}{kk:Nat}{tp:Pos}{z:Str}{k:Nat}{e it:Addr}(hne:e≠it) :
  zc4 true P w K (.Tuple elts kk tp) (zd3 z k) [e,it] e (zvJ e it z k) where
 mem:=by simp
 obj:=λi h st b hb=>by
  obtain ⟨⟨old,a1⟩,⟨t,o4,a4,_,d4⟩⟩:=st
  simp only [mem_cons,not_mem_nil,or_false] at hb
  rcases hb with rfl|rfl
  ·exact ⟨_,a1,λv q=>nomatch q⟩
  ·exact ⟨_,a4,λv q=>by rw [d4] at q;cases q⟩
 keep:=λi h h' st k=>by
  obtain ⟨⟨old,a1⟩,⟨t,o,a4,r⟩⟩:=st
  exact ⟨⟨old,k _ (by simp) _ a1⟩,t,o,k _ (by simp) o a4,r⟩
 item:=by
  intro X hP hw hK hc i Ga s σ H E I hf st hg
  subst hP hw hK
  obtain ⟨⟨old,a1⟩,⟨t,a4⟩⟩:=st
  have hi:i<z.cps.size:=hg
  have hid:=I.ok.hd (hc rfl)
  have D:=Draws.later (k:=k) (Draws.strAscii (prog:=X.prog) (w:=X.w) (A:=X.A.in1) hid it z t)
  refine wpAny_pyNext_enum_itemD D a1 (i:=i+k) ⟨by omega,by rw [Nat.add_sub_cancel];exact a4⟩ (by omega) hne (by simpa using hne) λx h' tk px b1 b2 b3 b4 b5=>?_
  obtain ⟨c,u,hcc,rfl⟩:=px
  rw [Nat.add_sub_cancel] at hcc
  refine ⟨_,rfl,wpAny_letOwnedTupleGo_enum (s:={ s with heap:=h',toks:=tk+1 }) b1 λh2 c1 c2=>?_⟩
  have zlt:e<s.heap.objs.size:=lt_size a1
  have nz:s.heap.objs.size≠e:=ne_of_gt zlt
  have all:∀c o,c≠e->c≠it->s.heap.get? c=some o->h2.get? c=some o:=λc o n1 n2 q=>c2.extBut c o n1 (b5 c o n1 n2 q)
  have tT:h2.get? s.heap.objs.size=some { cls:=.type "tuple",data:=.seq #[.int ((i+k:Nat):Int) tk,.str ⟨#[c]⟩ u] }:=c2.extBut _ _ nz b3
  have hfr:H s.heap.objs.size=none:=I.hok.fresh (le_refl _)
  have hok0:HOk X.prog X.w H h2:=λb u q0=>by
   refine (I.hok b u q0).stay (λc v hc q=>?_) (λ_ q=>q) λ_ _ q=>q
   have hnn:∀d∈[e,it],c≠d:=λd hd w=>by
    have fd:=(hf d hd).1
    rcases hc with k|k
    ·rw [k] at w;rw [w,fd] at q0;cases q0
    ·rw [w,fd] at k;cases k
   exact all c v (hnn e (by simp)) (hnn it (by simp)) q
  have lt0:∀b o,s.heap.get? b=some o->b≠s.heap.objs.size:=λb o e=>ne_of_lt (lt_size e)
  have I2:Inv X Ga σ (upd H s.heap.objs.size (.tup [.int ((i+k:Nat):Int),.str ⟨#[c]⟩])) { s with heap:=h2,toks:=tk+1 }:=by
   refine I.step (g':=s.gens) (d':=s.drawn) (t':=tk+1) (ch:=[e,it]) (λb hb=>?_) (λb o _ _ hb q _=>?_) (λb o _ _ hb q _=>?_) (λb o _ q n=>?_) (λb o hb q=>?_) (λb ps q=>?_) (λb o u q=>?_) (λb ps q=>?_) (λm hm=>?_) (hok0.add hfr ?_) I.bare
   ·obtain ⟨f0,f1,f2,f3,f4,f5⟩:=hf b hb
    exact ⟨f3,f1,f4,f5⟩
   ·simp only [mem_cons,not_mem_nil,or_false,not_or] at hb
    exact all b o hb.1 hb.2 q
   ·simp only [mem_cons,not_mem_nil,or_false,not_or] at hb
    exact ⟨o.slots,all b o hb.1 hb.2 q⟩
   ·rw [zd (lt0 b o q)];exact n
   ·simp only [mem_cons,not_mem_nil,or_false,not_or] at hb
    exact ⟨o,all b o hb.1 hb.2 q⟩
   ·rw [zd (zA q hfr)];exact q
   ·rw [zd (zA q hfr)];exact q
   ·exact ⟨#[],by rw [zd (zA q hfr),q];simp⟩
   ·obtain ⟨o,es,ep,ho,r⟩:=hm
    exact ⟨o,es,ep,all _ o (Ne.symm (hf e (by simp)).2.1) (Ne.symm (hf it (by simp)).2.1) ho,r⟩
   ·exact ⟨by show 2<=sizeLine;decide,[.int ((i+k:Nat):Int) tk,.str ⟨#[c]⟩ u],.cons ⟨_,rfl⟩ (.cons ⟨_,rfl⟩ .nil),⟨_,tT,rfl,_,rfl⟩⟩
  refine ⟨.ref s.heap.objs.size,_,I2,rfl,⟨_,c,hfr,rfl,hcc,rfl⟩,?_,λb hb=>?_⟩
  ·obtain ⟨_,b2⟩:=b2
   have e1:i+k+1-k=i+1:=by omega
   rw [e1] at b2
   obtain ⟨o,b2,r⟩:=b2
   have e3:((i+1+k:Nat):Int)=((i+k:Nat):Int)+1:=by omega
   refine ⟨?_,t,o,c2.extBut _ _ (Ne.symm hne) b2,r⟩
   rw [e3]
   exact ⟨_,c1⟩
  ·have ne:b≠s.heap.objs.size:=λq=>by
    have:b<s.heap.objs.size:=by
     simp only [mem_cons,not_mem_nil,or_false] at hb
     obtain ⟨o4,a4,_⟩:=a4
     rcases hb with rfl|rfl
     ·exact zlt
     ·exact lt_size a4
    exact absurd (q ▸ this) (Nat.lt_irrefl _)
   rw [zd ne]
   exact (hf b hb).1
 done:=by
  intro X hP hw hK hc i Ga s σ H E I hf st hg
  subst hP hw hK
  obtain ⟨⟨old,a1⟩,⟨t,a4⟩⟩:=st
  have hi:i=z.cps.size:=hg
  have hid:=I.ok.hd (hc rfl)
  have D:=Draws.strAscii (prog:=X.prog) (w:=X.w) (A:=X.A.in1) hid it z t
  rw [hi] at a4
  refine wpAny_pyNext_enum_endD D a1 a4 λh' up=>⟨rfl,?_⟩
  refine I.step (g':=s.gens) (d':=s.drawn) (t':=s.toks) (ch:=[it]) (λb hb=>?_) (λb o _ _ hb q _=>?_) (λb o _ _ hb q _=>?_) (λ_ _ _ _ n=>n) (λb o hb q=>?_) (λ_ _ q=>q) (λ_ _ _ q=>q) (λb ps q=>⟨#[],by rw [q];simp⟩) (λm hm=>?_) (λb u q0=>?_) I.bare
  ·have hb':b∈[e,it]:=by simp only [mem_cons,not_mem_nil,or_false] at hb ⊢;exact .inr hb
   obtain ⟨f0,f1,f2,f3,f4,f5⟩:=hf b hb'
   exact ⟨f3,f1,f4,f5⟩
  ·simp only [mem_cons,not_mem_nil,or_false] at hb
   exact up b o hb q
  ·simp only [mem_cons,not_mem_nil,or_false] at hb
   exact ⟨o.slots,up b o hb q⟩
  ·simp only [mem_cons,not_mem_nil,or_false] at hb
   exact ⟨o,up b o hb q⟩
  ·obtain ⟨o,es,ep,ho,r⟩:=hm
   exact ⟨o,es,ep,up _ o (Ne.symm (hf it (by simp)).2.1) ho,r⟩
  ·refine (I.hok b u q0).stay (λc v hc q=>?_) (λ_ q=>q) λ_ _ q=>q
   have hnn:c≠it:=λw=>by
    have fd:=(hf it (by simp)).1
    rcases hc with k|k
    ·rw [k] at w;rw [w,fd] at q0;cases q0
    ·rw [w,fd] at k;cases k
   exact up c v hnn q
 self:=λ_ _ _ _ _ st h=>by
  obtain ⟨old,a1⟩:=st.en
  exact wpAny_pyIter_enum a1 h
section
variable {prog:Program}{w:World}{A:Around}{E:Value->Shared->Prop}{s:Shared}
theorem zwG(a b:Value):checkTypeCall "enumerate" ⟨[a],[(Str.ofString "start",b)]⟩=pure ():=by kernel_rfl
theorem zrF(a b:Value):checkBuiltinCall "enumerate.__new__" ⟨[.type "enumerate",a],[(Str.ofString "start",b)]⟩=pure ():=by kernel_rfl
theorem zqY(o a b:Value):argsOk "object.__init__" ⟨[o,a],[(Str.ofString "start",b)]⟩:=by
 unfold argsOk;kernel_rfl
theorem zuz (x : Str) (t u : Tok) : Meets (Builtin.«enumerate.__new__» ⟨[.type "enumerate", .str x t], [(Str.ofString "start", .int 1 u)]⟩) (fun _ R s =>
      R (.ok (.ret (.ref (s.heap.push { cls := .type (strIterType x), data := .fields #[.str x t, .int 0 0] }).objs.size)))
        { s with heap := (s.heap.push { cls := .type (strIterType x), data := .fields #[.str x t, .int 0 0] }).push { cls := .type "enumerate", data := .fields #[.none, .bool false, .ref s.heap.objs.size, rawInt 1, .none, .none] } }) :=
 .of_wp λprog w A R s h=>by
  obtain ⟨hp,g,d,tk,os⟩:=s
  have hsub:=sub_enumerate
  wp_walk
  refine wpAny_stack_any λst=>wpAny_pure ?_
  split
  ·rename_i c _ _ _ _ _
   cases (c==type "enumerate")
   ·wp_walk using wpAny_pyIter_strU
    exact ⟨_,rfl,h⟩
   ·wp_walk using wpAny_pyIter_strU
    exact ⟨_,rfl,h⟩
  ·wp_walk using wpAny_pyIter_strU
   exact ⟨_,rfl,h⟩
theorem zvw{T newId:String}{self a:Value}{kws:List (Str×Value)}(hl:typeLookup (.type T) "__init__"=pure (some (.builtin "object.__init__")))
  (hm:Bind.madeBy (.type T)=pure (some newId)) (hne:(some newId != some "object.__new__")=true):Meets (Builtin.«object.__init__» ⟨[self,a],kws⟩) (λ_ R s=>s.TypeIs self T/\R (.ok (.ret .none)) s):=by
 refine Meets.of_wp λprog w A R s ⟨hT,hq⟩=>?_
 repeat (any_goals (first|assumption|wp_step))
 exact ⟨_,rfl,hq⟩
theorem zu9{T newId:String}{Bn:Builtin}{a:Value}{kws:List (Str×Value)}{S:PySem.Spec}{Q:Value->Shared->Prop}(ft:TypeCalled T newId "object.__init__")(hne:(some newId != some "object.__new__")=true)
  (hct:checkTypeCall T ⟨[a],kws⟩=pure ()) (hcn:checkBuiltinCall newId ⟨[.type T,a],kws⟩=pure ()) (hok:∀obj,argsOk "object.__init__" ⟨[obj,a],kws⟩) (entryN:entryFor table newId=some Bn) (g:Meets (Bn ⟨[.type T,a],kws⟩) S)
  (h:S A.in1 (wants (λobj s₁=>s₁.TypeIs obj T/\Q obj s₁) E) s):wpAny (model prog w) A (call (.type T) [a] kws) Q E s:=by
 obtain ⟨c,tl,hmro⟩:=ft.mro
 have hmade:=ft.made
 have hsub:=ft.sub
 refine wpAny_call (A:=A) (codeAny_of_tree (A:=A) ?_)
 show wpAny (model prog w) _ (callAny (.type T) _) _ _ _
 refine wpAny_pure ⟨Code.quiet_builtin _ (f!""),codeAny_builtin (A:=A) F.entry_type_call ?_⟩
 rw [Around.under_plain (weight_type_call_type T [a] kws) (units_type_call_type T [a] kws)]
 have k1:=ft.notType
 have k2:=ft.canCreate
 repeat (any_goals (first|assumption|wp_step))
 refine codeAny_mono (codeAny_call_builtin ft.plain entryN (wpAny_of_eq hcn (g prog w A.in1 _ s h))) λr s1 hr=>?_
 cases r with
 | error e=>exact hr
 | ok fl =>
  cases fl with
  | ret obj =>
   have hli:=ft.init.lookup
   have hbi:=ft.init.bind obj
   have hT:=hr.1
   repeat (any_goals (first|assumption|wp_step))
   refine codeAny_mono (codeAny_call_builtin ft.init.plain F.entry_object_init (ft.init.check _ _ _ _ _ _ _ _ hr.1 (hok obj) (zvw ft.init.lookup ft.made hne prog w A.in1 (wants (λr s2=>r = .none/\Q obj s2) E) s1 ⟨hr.1,rfl,hr.2⟩))) λr2 s2 hr2=>?_
   cases r2 with
   | error e=>exact hr2
   | ok fl2 =>
    cases fl2 with
    | ret r =>
     obtain ⟨rfl,hq⟩:=hr2
     repeat (any_goals (first|assumption|wp_step))
    | _=>exact hr2.elim
  | _=>exact hr.elim
theorem zm3{x:Str}{t u:Tok}{Q:Value->Shared->Prop}
  (h:∀h',IsEnum h' (s.heap.objs.size+1) s.heap.objs.size 1 .none->h'.IsStrIter s.heap.objs.size (strIterType x) x t 0->h'.objs.size=s.heap.objs.size+2->(∀b o,s.heap.get? b=some o->h'.get? b=some o)->Q (.ref (s.heap.objs.size+1)) { s with heap:=h' }) :
  wpAny (model prog w) A (call (.type "enumerate") [.str x t] [(Str.ofString "start",.int 1 u)]) Q E s:=by
 refine zu9 F.called_enumerate (by decide) (zwG _ _) (zrF _ _) (λobj=>zqY obj _ _) F.entry_enumerate_new (zuz x t u) ?_
 have hz:(s.heap.push { cls:=.type (strIterType x),data:=.fields #[.str x t,.int 0 0] }).objs.size=s.heap.objs.size+1:=size_push ..
 show _/\_
 rw [hz]
 have he:IsEnum ((s.heap.push { cls:=.type (strIterType x),data:=.fields #[.str x t,.int 0 0] }).push { cls:=.type "enumerate",data:=.fields #[.none,.bool false,.ref s.heap.objs.size,rawInt 1,.none,.none] }) (s.heap.objs.size+1) s.heap.objs.size 1 .none:=by
  have q:=get?_push_size (s.heap.push { cls:=.type (strIterType x),data:=.fields #[.str x t,.int 0 0] }) (o:={ cls:=.type "enumerate",data:=.fields #[.none,.bool false,.ref s.heap.objs.size,rawInt 1,.none,.none] }) rfl
  rw [hz] at q;exact q
 exact ⟨⟨_,he,rfl⟩,h _ he ⟨_,get?_push_of_some _ (get?_push_size _ rfl),rfl,rfl⟩ (by rw [size_push,hz]) λb o y=>get?_push_of_some _ (get?_push_of_some _ y)⟩
theorem zuR{M:Model}{pos:Pos}{T:String}{args:List (Bool×Sem Value)}{keywords:List (Option Str×Sem Value)}{Q:Value->Shared->Prop}(hplain:args.any (·.1)=false)(hkw:keywords.any (·.1.isNone)=false)
  (h:wpAny M A (evalArgs (.type T) true args keywords) (λa s1=>wpAny M A (call (.type T) a.pos a.kw) Q E s1) E s):wpAny M A (callWith pos (.type T) [] args keywords) Q E s:=by
 unfold callWith
 refine wpAny_bind (wpAny_holding (wpAny_mono h (λa s1 h1=>wpAny_bind (wpAny_standAt ?_)) λ_ _ x=>x))
 simp only [hplain,hkw,Bool.or_false]
 exact wpAny_bind (wpAny_pure (wpAny_bind (wpAny_mono h1 (λr s2 hr=>wpAny_bind (wpAny_holding (wpAny_point (wpAny_pure hr)))) λ_ _ x=>x)))
end
section
variable {X:Cx}
def zff(k:Nat)(ta:TE):TI:=λσ H R=>ta σ H λx H1=>uS x λz=>asc z=true/\R (zd3 z k) H1
theorem zp8{k:Nat}{ta:TE}{σ:St}{H:Hp}{R:It->Hp->Prop}:zff k ta σ H R=ta σ H λx H1=>uS x λz=>asc z=true/\R (zd3 z k) H1:=rfl
theorem zkm{z:Str}(h:asc z=true):strIterType z="str_ascii_iterator":=by
 unfold strIterType;rw [show z.cps.all (· < 128)=true from h];rfl
theorem zza{elts:List Expr}{kk:Nat}{tp p pos:Pos}{a:Expr}{ta:TE}(hg:Gl X "enumerate")(hm:X.mg "enumerate"=none)(ha:PE X a ta)(hp:zO a=true:=by rfl) :
  PIc true X (.Tuple elts kk tp) (.Call (.Name "enumerate" p) [a] [] pos) (zff 0 ta):=by
 intro Ga s σ H R I h
 have hs:starEach [a] X.env=[(false,eval a X.env)]:=zct hp
 have hA:=zcs ha zce (hs:=hs) pos Ga s σ H (λys H2=>match ys with|[y]=>uS y λz=>asc z=true/\R (zd3 z 0) H2|_=>False) I h
 refine Call_ (zb7 I hg hm boot_enumerate (PyProof.Rows.callWith_type1 (thn hA λus s1 ⟨vs,H1,I1,r1,q1⟩=>?_) hs rfl))
 match vs,q1,r1 with
 | [y],⟨z,ey,hz,q⟩,r1 =>
  subst ey
  cases r1 with
  | cons r rr =>
   cases rr
   obtain ⟨t,rfl⟩:=r
   refine call_enumerate_str λh' a1 a4 a6 a7=>wpAny_pyIter_enum (s:={ s1 with heap:=h' }) a1 ?_
   rw [zkm hz] at a4
   refine ⟨_,_,_,_,H1,rfl,I1.kept (t':=s1.toks) a7,zkT (Nat.succ_ne_self _),⟨⟨_,a1⟩,t,a4⟩,λb hb=>?_,q⟩
   have le:s1.heap.objs.size<=b:=by
    simp only [mem_cons,not_mem_nil,or_false] at hb
    rcases hb with rfl|rfl<;>omega
   exact I1.fpOk le (I1.hok.fresh le)
theorem zrb{elts:List Expr}{kk j:Nat}{tp p pos kp cp:Pos}{a:Expr}{ta:TE}(hg:Gl X "enumerate")(hm:X.mg "enumerate"=none)(ha:PE X a ta)(hp:zO a=true:=by rfl) :
  PIc true X (.Tuple elts kk tp) (.Call (.Name "enumerate" p) [a] [⟨some (Str.ofString "start"),.Constant (.int 1) j cp,kp⟩] pos) (zff 1 ta):=by
 intro Ga s σ H R I h
 have hs:starEach [a] X.env=[(false,eval a X.env)]:=zct hp
 have hA:=zcs ha zce (hs:=hs) pos Ga s σ H (λys H2=>match ys with|[y]=>uS y λz=>asc z=true/\R (zd3 z 1) H2|_=>False) I h
 refine wpAny_Call_Name_kw (zb7 I hg hm boot_enumerate (zuR (by rw [hs];rfl) rfl ?_))
 rw [hs] at hA ⊢
 refine evalArgs_kwB rfl (thn hA λus s1 ⟨vs,H1,I1,r1,q1⟩=>kws_cons (thn (zil Ga s1 σ H1 (λv H=>v = .int 1/\H=H1) I1 ⟨rfl,rfl⟩) λw2 s2 ⟨y2,H2,I2,r2,ey2,eH2⟩=>kws_nil ?_))
 subst ey2 eH2
 obtain ⟨t2,rfl⟩:=r2
 match vs,q1,r1 with
 | [y],⟨z,ey,hz,q⟩,r1 =>
  subst ey
  cases r1 with
  | cons r rr =>
   cases rr
   obtain ⟨t,rfl⟩:=r
   refine zm3 (s:=s2) λh' a1 a4 a6 a7=>wpAny_pyIter_enum (s:={ s2 with heap:=h' }) a1 ?_
   rw [zkm hz] at a4
   refine ⟨_,_,_,_,H2,rfl,I2.kept (t':=s2.toks) a7,zkT (Nat.succ_ne_self _),⟨⟨_,a1⟩,t,a4⟩,λb hb=>?_,q⟩
   have le:s2.heap.objs.size<=b:=by
    simp only [mem_cons,not_mem_nil,or_false] at hb
    rcases hb with rfl|rfl
    ·exact le_succ _
    ·exact le_refl _
   exact I2.fpOk le (I2.hok.fresh le)
end
section
variable {K:PySem.W.Frag}{g:TG}{tb:TS}{D:zap}{σ:St}{H:Hp}{tt:TT}{te:TE}{Q:VK}
theorem zad.enumS{z:Str}{k:Nat}(Pv:Nat->St->Hp->Prop)(h0:Pv 0 σ H)
  (hs:∀i c p σ H,z.cps[i]?=some c->Pv i σ H->H p=none->g (.ref p) σ (upd H p (.tup [.int ((i+k:Nat):Int),.str ⟨#[c]⟩])) λσ2 H2=>tb { D with nx:=Pv (i+1),ct:=Pv (i+1),bk:=D.nx } σ2 H2) (hd:∀σ H,Pv z.cps.size σ H->D.nx σ H):zad (zd3 z k) g tb D σ H:=by
 refine ⟨λi m σ H=>m=z.cps.size-i/\i<=z.cps.size/\Pv i σ H,⟨z.cps.size,by simp,zero_le _,h0⟩,?_⟩
 rintro i m σ H ⟨rfl,hi,p⟩
 by_cases hlt:i<z.cps.size
 ·refine .inr ⟨hlt,Pv (i+1),λσ' H' p'=>⟨z.cps.size-(i+1),by omega,rfl,hlt,p'⟩,λx H' y=>?_⟩
  obtain ⟨T,c,hT,rfl,hc,rfl⟩:=y
  exact hs i c T σ _ hc p hT
 ·have e:i=z.cps.size:=by omega
  subst e
  exact .inl ⟨rfl,hd σ H p⟩
theorem zV.str{z:Str}{τ:St}(Pv:Nat->St->List V->Hp->Prop)(hz:∀i τ ys H,Pv i τ ys H->ys.length<sizeLine)(h0:Pv 0 τ [] H)
  (hs:∀(N:St->List V->Hp->Prop) i c τ ys H,z.cps[i]?=some c->Pv i τ ys H->(∀τ ys H,Pv (i+1) τ ys H->N τ ys H)->g (.str ⟨#[c]⟩) τ H λτ1 H4=>tt τ1 H4 λok H5=>zbE N ys τ1 te ok H5) (hd:∀τ ys H,Pv z.cps.size τ ys H->∀D H',New H D (.lst ys) H'->Q (.ref D) H'):zV (Its z) g tt te τ H Q:=by
 refine ⟨λi m τ ys H=>m=z.cps.size-i/\i<=z.cps.size/\Pv i τ ys H,⟨z.cps.size,by simp,zero_le _,h0⟩,?_⟩
 rintro i m τ ys H2 ⟨rfl,hi,p⟩
 refine ⟨hz i τ ys H2 p,?_⟩
 by_cases hlt:i<z.cps.size
 ·refine .inr ⟨hlt,λx H' y=>?_⟩
  obtain ⟨e,c,hc,rfl⟩:=y
  subst e
  exact hs (λτ1 ys H=>∃m',m'<z.cps.size-i/\m'=z.cps.size-(i+1)/\i+1<=z.cps.size/\Pv (i+1) τ1 ys H) i c τ ys _ hc p λτ1 zs H q=>⟨z.cps.size-(i+1),by omega,rfl,hlt,q⟩
 ·have e:i=z.cps.size:=by omega
  subst e
  exact .inl ⟨le_refl _,λD hD _=>hd τ ys H2 p D _ (.mk' hD)⟩
end
section
variable {X:Cx}
def zmW:List V->Hp->VK->Prop:=λxs H Q=>uR1 xs λp=>∃bs:List Bool,H p=some (.lst (bs.map V.bl))/\Q (.bl (bs.all id)) H
theorem zxi{p:Addr}{H:Hp}{Q:VK}:zmW [.ref p] H Q = ∃bs:List Bool,H p=some (.lst (bs.map V.bl))/\Q (.bl (bs.all id)) H:=zb2
def uIs(neg:Bool):R2:=λx y H Q=>(y = .non\/∃b,y = .bl b/\zP x=true)/\Q (.bl (if neg then !decide (x=y) else decide (x=y))) H
theorem zoZ{c b:Bool}{x:V}{H:Hp}{Q:VK}:uIs c x (.bl b) H Q=(zP x=true/\Q (.bl (if c then !decide (x = .bl b) else decide (x = .bl b))) H):=by simp [uIs]
theorem zpZ{c:Bool}{x:V}{H:Hp}{Q:VK}:uIs c x .non H Q=Q (.bl (if c then !decide (x = .non) else decide (x = .non))) H:=by simp [uIs]
def uIn:R2:=λx y H Q=>(∃i j,x = .str i/\y = .str j/\Q (.bl (!(Builtin.Str.occurrences j i 0 j.length 1).isEmpty)) H)\/∃p xs,y = .ref p/\(H p=some (.lst xs)\/H p=some (.tup xs))/\zP x=true/\xs.all zP=true/\Q (.bl (inV x xs)) H
theorem zsW(hu:X.A.units<cLine):OpR X (compareOp .In) uIn:=(zvD.or ztD).weak λx y H Q h=>by
 rcases h with h|⟨p,xs,e,h,f1,f2,q⟩
 ·exact .inl h
 ·exact .inr ⟨p,xs,e,h.elim (λh=>.inl (SqL.of h)) (λh=>.inr (SqT.of h)),f1,f2,by simpa using q⟩
theorem zlJ{x y:Str}{H:Hp}{Q:VK}:uIn (.str x) (.str y) H Q=Q (.bl (!(Builtin.Str.occurrences y x 0 y.length 1).isEmpty)) H:=by simp [uIn]
theorem zmm{x:V}{p:Addr}{H:Hp}{Q:VK}:uIn x (.ref p) H Q = ∃xs,(H p=some (.lst xs)\/H p=some (.tup xs))/\zP x=true/\xs.all zP=true/\Q (.bl (inV x xs)) H:=by simp [uIn]
def uM1(to te:TE)(r:Str->V->Hp->VK->Prop):TE:=λσ H Q=>to σ H λx H1=>uS x λz=>te σ H1 λy H2=>r z y H2 Q
theorem zwB{to te:TE}{r:Str->V->Hp->VK->Prop}{σ:St}{H:Hp}{Q:VK}:uM1 to te r σ H Q=to σ H λx H1=>uS x λz=>te σ H1 λy H2=>r z y H2 Q:=rfl
def zyl:Str->V->Hp->VK->Prop:=λz y H Q=>uS y λq=>Q (.int (PySem.Txt.rfind z q)) H
theorem zrR{z q:Str}{H:Hp}{Q:VK}:zyl z (.str q) H Q=Q (.int (PySem.Txt.rfind z q)) H:=zfR
def zsK:Str->V->Hp->VK->Prop:=λz y H Q=>uS y λq=>(q.length==0)=false/\z.length<sizeLine/\(PySem.Txt.split z q).length<=sizeLine/\∀p H2,New H p (.lst ((PySem.Txt.split z q).map V.str)) H2->Q (.ref p) H2
theorem zqG{z q:Str}{H:Hp}{Q:VK}:zsK z (.str q) H Q=((q.length==0)=false/\z.length<sizeLine/\(PySem.Txt.split z q).length<=sizeLine/\∀p H2,New H p (.lst ((PySem.Txt.split z q).map V.str)) H2->Q (.ref p) H2):=zfR
def zg7(te:TE):TE:=λσ H Q=>te σ H λx H1=>(∃z,x = .str z/\z.length<=sizeLine/\Q (.str z) H1)\/∃i,x = .int i/\i.natAbs.log2<1920/\Q (.str (toString i)) H1
def zek:V->Hp->VK->Prop:=λx H1 Q=>(∃z,x = .str z/\z.length<=sizeLine/\Q (.str z) H1)\/∃i,x = .int i/\i.natAbs.log2<1920/\Q (.str (toString i)) H1
theorem zv2{te:TE}{σ:St}{H:Hp}{Q:VK}:zg7 te σ H Q=te σ H λx H1=>zek x H1 Q:=rfl
theorem zxg{z:Str}{H:Hp}{Q:VK}:zek (.str z) H Q=(z.length<=sizeLine/\Q (.str z) H):=by simp [zek]
theorem zpg{i:Int}{H:Hp}{Q:VK}:zek (.int i) H Q=(i.natAbs.log2<1920/\Q (.str (toString i)) H):=by simp [zek]
theorem znR{e:Expr}{te:TE}{pos:Pos}(he:PE X e te):PE X (.FormattedValue e (-1) none pos) (zg7 te):=by
 intro Ga s σ H Q I h
 refine FormattedValue_plain (thn (he Ga s σ H _ I h) λv s1 ⟨x,H1,I1,r1,q1⟩=>?_)
 rcases q1 with ⟨z,rfl,hz,q⟩|⟨i,rfl,hi,q⟩
 ·obtain ⟨t,rfl⟩:=r1
  exact formatField_str (λt' tk=>⟨.str z,H1,I1.tok _,⟨_,rfl⟩,q⟩) hz
 ·obtain ⟨t,rfl⟩:=r1
  exact formatField_int_small hi ⟨.str _,H1,I1.tok _,⟨_,rfl⟩,q⟩
abbrev TJ:=Str->TE
def PJ(X:Cx)(es:List Expr)(tj:TJ):Prop:=∀(out:Str)(Ga:List (Addr×Obj))(s:Shared)(σ:St)(H:Hp)(Q:VK),Inv X Ga σ H s->tj out σ H Q ->
 wpAny (model X.prog X.w) X.A (joinParts out (evalEach es X.env)) (λu s1=>∃x H',Inv X Ga σ H' s1/\zm x u/\Q x H') X.xe s
def zgR:TJ:=λout _ H Q=>out.length<=sizeLine/\Q (.str out) H
def zhU(te:TE)(tj:TJ):TJ:=λout σ H Q=>te σ H λx H1=>uS x λy=>(out++y).length<=sizeLine/\tj (out++y) σ H1 Q
theorem zoK:PJ X [] zgR:=λout Ga s σ H Q I h=>joinParts_nil ⟨.str out,H,I.tok _,⟨_,rfl⟩,h.2⟩ h.1
theorem zth{e:Expr}{es:List Expr}{te:TE}{tj:TJ}(he:PE X e te)(hj:PJ X es tj):PJ X (e::es) (zhU te tj):=λout Ga s σ H Q I h=>by
 refine joinParts_cons (thn (he Ga s σ H _ I h) λv s1 ⟨x,H1,I1,r1,q1⟩=>?_)
 obtain ⟨y,rfl,hy,q⟩:=q1
 obtain ⟨t,rfl⟩:=r1
 exact ⟨hy,hj _ Ga s1 σ H1 Q I1 q⟩
def ziA(tj:TJ):TE:=tj Str.empty
theorem zrX{tj:TJ}:ziA tj=tj Str.empty:=rfl
theorem zso{e e':Expr}{es:List Expr}{tj:TJ}{pos:Pos}(h:PJ X (e::e'::es) tj):PE X (.JoinedStr (e::e'::es) pos) (ziA tj):=λGa s σ H Q I q=>JoinedStr_many (h Str.empty Ga s σ H Q I q)
def zcB:List V->Hp->VK->Prop:=λxs H Q=>zbN xs H Q\/∃z n,xs=[.str z]/\z.length<=640/\PySem.intText? z=some n/\Q (.int n) H
theorem zxn:zK X (.type "int") zcB:=by
 intro Ga s σ H xs us Q I r h
 rcases h with h|⟨z,n,rfl,hl,hn,q⟩
 ·exact ztt Ga s σ H xs us Q I r h
 ·cases r with
  | cons r1 rr =>
   cases rr
   obtain ⟨t,rfl⟩:=r1
   exact PySem.W.KIN.call_text hn hl ⟨.int n,H,I.tok _,⟨_,rfl⟩,q⟩
theorem zvK{i:Int}{H:Hp}{Q:VK}:zcB [.int i] H Q=Q (.int i) H:=by simp [zcB,zbN]
theorem ziL{k:Bool}{H:Hp}{Q:VK}:zcB [.bl k] H Q=Q (.int (if k then 1 else 0)) H:=by simp [zcB,zbN]
theorem zm9{z:Str}{H:Hp}{Q:VK}:zcB [.str z] H Q = ∃n,z.length<=640/\PySem.intText? z=some n/\Q (.int n) H:=by simp [zcB,zbN]
def zcU:List V->Hp->VK->Prop:=λxs H Q=>zcL xs H Q\/∃z,xs=[.str z]/\Q (.str z) H
theorem zmH:zK X (.type "str") zcU:=by
 intro Ga s σ H xs us Q I r h
 rcases h with h|⟨z,rfl,q⟩
 ·exact znY Ga s σ H xs us Q I r h
 ·cases r with
  | cons r1 rr =>
   cases rr
   obtain ⟨t,rfl⟩:=r1
   exact PySem.P.str_of_str ⟨.str z,H,I,⟨_,rfl⟩,q⟩
theorem zlC{i:Int}{H:Hp}{Q:VK}:zcU [.int i] H Q=(i.natAbs.log2<1920/\Q (.str (toString i)) H):=by simp [zcU,zcL]
theorem zlU{z:Str}{H:Hp}{Q:VK}:zcU [.str z] H Q=Q (.str z) H:=by simp [zcU,zcL]
def zyt:List V->Hp->VK->Prop:=λxs H Q=>uR1 xs λp=>∃ys,H p=some (.lst ys)/\∀l H2,New H l (.tup ys) H2->Q (.ref l) H2
theorem znJ{p:Addr}{H:Hp}{Q:VK}:zyt [.ref p] H Q = ∃ys,H p=some (.lst ys)/\∀l H2,New H l (.tup ys) H2->Q (.ref l) H2:=zb2
def zhP:List V->Hp->VK->Prop:=λxs H Q=>∃x,xs=[.str x]/\x.length=1/\Q (.int (x.cps.getD 0 0:Nat)) H
theorem zqo:zK X (.builtin "ord") zhP:=zuI
theorem zxY{x:Str}{H:Hp}{Q:VK}:zhP [.str x] H Q=(x.length=1/\Q (.int (x.cps.getD 0 0:Nat)) H):=by simp [zhP]
def zcO:R2:=λx y H Q=>uEq false x y H Q\/∃a b xs ys,x = .ref a/\y = .ref b/\H a=some (.tup xs)/\H b=some (.tup ys)/\xs.all zP=true/\ys.all zP=true/\Q (.bl (eqL xs ys)) H
theorem zy4{i j:Int}{H:Hp}{Q:VK}:zcO (.int i) (.int j) H Q=Q (.bl (decide (i=j))) H:=by simp [zcO,uEq,zbF]
theorem zte{x y:Str}{H:Hp}{Q:VK}:zcO (.str x) (.str y) H Q=Q (.bl (decide (x=y))) H:=by simp [zcO,uEq,zbF]
theorem zw4{x y:Bool}{H:Hp}{Q:VK}:zcO (.bl x) (.bl y) H Q=Q (.bl (decide (x=y))) H:=by simp [zcO,uEq,zbF]
theorem zp6{a b:Addr}{H:Hp}{Q:VK}:zcO (.ref a) (.ref b) H Q = ∃xs ys,((H a=some (.lst xs)/\H b=some (.lst ys))\/(H a=some (.tup xs)/\H b=some (.tup ys)))/\xs.all zP=true/\ys.all zP=true/\Q (.bl (eqL xs ys)) H:=by
 apply propext;constructor
 ·rintro (h|⟨a',b',xs,ys,e1,e2,h1,h2,f1,f2,q⟩)
  ·rw [zem] at h
   obtain ⟨xs,ys,h1,h2,f1,f2,q⟩:=h
   exact ⟨xs,ys,.inl ⟨h1,h2⟩,f1,f2,q⟩
  ·cases e1;cases e2;exact ⟨xs,ys,.inr ⟨h1,h2⟩,f1,f2,q⟩
 ·rintro ⟨xs,ys,⟨h1,h2⟩|⟨h1,h2⟩,f1,f2,q⟩
  ·exact .inl (by rw [zem];exact ⟨xs,ys,h1,h2,f1,f2,q⟩)
  ·exact .inr ⟨a,b,xs,ys,rfl,rfl,h1,h2,f1,f2,q⟩
def zmu(kvs:List (Str×Addr))(z:Str):V:=match kvs.find? (λp=>p.1=z) with|some p=>.ref p.2|none=>.non
def zpl(kvs:List (Str×Addr))(te:TE):TE:=λσ H Q=>te σ H λy H1=>uS y λz=>Q (zmu kvs z) H1
theorem zuE{kvs:List (Str×Addr)}{te:TE}{σ:St}{H:Hp}{Q:VK}:zpl kvs te σ H Q=te σ H λy H1=>uS y λz=>Q (zmu kvs z) H1:=rfl
end
def zmd(lo st:Int)(n:Nat):It:=⟨λi _=>i<n,λi H x H'=>H'=H/\x = .int (lo+i*st),λi _=>n<=i⟩
section
variable {X:Cx}{tg:Expr}
def uI3(vs:List V)(q:Int->Int->Int->Prop):Prop:=∃i j k,vs=[.int i,.int j,.int k]/\q i j k
theorem zqZ{i j k:Int}{q:Int->Int->Int->Prop}:uI3 [.int i,.int j,.int k] q=q i j k:=by
 apply propext;constructor
 ·rintro ⟨a,b,c,e,h⟩;cases e;exact h
 ·exact λh=>⟨i,j,k,rfl,h⟩
def zyT(ta:TA):TI:=λσ H R=>ta σ H λvs H1=>uI3 vs λi j k=>(0<=i/\i<=j/\j<2 ^ 20/\0<k/\k<2 ^ 20)/\R (zmd i k ((j-i+k-1) / k).toNat) H1
theorem ztv{ta:TA}{σ:St}{H:Hp}{R:It->Hp->Prop}:zyT ta σ H R=ta σ H λvs H1=>uI3 vs λi j k=>(0<=i/\i<=j/\j<2 ^ 20/\0<k/\k<2 ^ 20)/\R (zmd i k ((j-i+k-1) / k).toNat) H1:=rfl
end
section
variable {g:TG}{tb:TS}{D:zap}{σ:St}{H:Hp}
end
section
variable {prog:Program}{w:World}{A:Around}{E:Value->Shared->Prop}{s:Shared}
end
def zlZ(K:PySem.W.Frag)(a b:Addr):It :=
 ⟨λi H=>∃xs ys x y,SqT K H a xs/\SqL K H b ys/\xs[i]?=some x/\ys[i]?=some y,λi H v H'=>∃T x y,H T=none/\v = .ref T/\H'=upd H T (.tup [x,y])/\(∀xs,SqT K H a xs->xs[i]?=some x)/\∀ys,SqL K H b ys->ys[i]?=some y,
  λi H=>∃xs ys,SqT K H a xs/\SqL K H b ys/\xs.length<=i⟩
section
variable {X:Cx}
def zpN(K:PySem.W.Frag)(ta:TA):TI:=λσ H R=>ta σ H λvs H1=>∃a b,vs=[.ref a,.ref b]/\(∃xs,SqT K H1 a xs)/\(∃ys,SqL K H1 b ys)/\R (zlZ K a b) H1
end
section
variable {K:PySem.W.Frag}{g:TG}{tb:TS}{D:zap}{σ:St}{H:Hp}{ta:TA}{R:It->Hp->Prop}
theorem zpM:zpN K ta σ H R=ta σ H λvs H1=>uR2 vs λa b=>(∃xs,SqT K H1 a xs)/\(∃ys,SqL K H1 b ys)/\R (zlZ K a b) H1:=by
 apply propext
 constructor
 ·intro h
  exact h
 ·intro h
  exact h
end
section
variable {X:Cx}
theorem zs3{elts:List Expr}{kk j:Nat}{tp p pos kp cp:Pos}{a:Expr}{ta:TE}(hg:Gl X "enumerate")(hm:X.mg "enumerate"=none)(ha:W (PE X a ta))(hp:zO a=true:=by rfl):W (PIc true X (.Tuple elts kk tp) (.Call (.Name "enumerate" p) [a] [⟨some (Str.ofString "start"),.Constant (.int 1) j cp,kp⟩] pos) (zff 1 ta)):=⟨zrb (hg:=hg) (hm:=hm) (ha:=ha.h) (hp:=hp)⟩
theorem zjT{e:Expr}{te:TE}{pos:Pos}(he:W (PE X e te)):W (PE X (.FormattedValue e (-1) none pos) (zg7 te)):=⟨znR (he:=he.h)⟩
theorem ztE  : W (PJ X [] zgR):=⟨zoK ⟩
theorem zgh{e:Expr}{es:List Expr}{te:TE}{tj:TJ}(he:W (PE X e te))(hj:W (PJ X es tj)):W (PJ X (e::es) (zhU te tj)):=⟨zth (he:=he.h) (hj:=hj.h)⟩
theorem zrK{e e':Expr}{es:List Expr}{tj:TJ}{pos:Pos}(h:W (PJ X (e::e'::es) tj)):W (PE X (.JoinedStr (e::e'::es) pos) (ziA tj)):=⟨zso (h:=h.h)⟩
end
def tx(l:List Nat):Str:=⟨l.toArray⟩
def sg(z:Str):List Nat:=z.cps.toList
theorem zaS(l:List Nat):sg (tx l)=l:=by simp [sg,tx]
theorem zer(z:Str):tx (sg z)=z:=by cases z;simp [sg,tx]
theorem zfy{a b:Str}(h:sg a=sg b):a=b:=by rw [<- zer a,h,zer]
theorem zbs(a b:Str):sg (a++b)=sg a++sg b:=by simp [sg,Str.cps_append]
theorem zac(z:Str):(sg z).length=z.length:=by simp [sg,Str.length]
theorem zkf(l:List Nat):(tx l).length=l.length:=by simp [tx,Str.length]
def c1(c:Nat):Str:=⟨#[c]⟩
theorem zlR{x:Str}{c i:Nat}:StrLaws.At x (c1 c) x.length i↔(sg x)[i]?=some c:=by
 unfold StrLaws.At
 rw [StrLaws.subAt_eq]
 show i+1<=x.length/\((((sg x).drop i).take 1)==[c])=true↔_
 rw [<- zac x]
 constructor
 ·rintro ⟨h1,h2⟩
  have h2:=eq_of_beq h2
  rw [List.getElem?_eq_getElem (by omega)]
  have h3:((sg x).drop i).take 1=[(sg x)[i]'(by omega)]:=by
   rw [List.drop_eq_getElem_cons (by omega)];rfl
  rw [h3] at h2
  injection h2 with h2 _
  rw [h2]
 ·intro h
  obtain ⟨h1,h2⟩:=List.getElem?_eq_some_iff.mp h
  refine ⟨by omega,?_⟩
  rw [List.drop_eq_getElem_cons h1,h2]
  simp
def zaJ(c:Nat):List Nat->List (List Nat)
 | []=>[[]]
 | x::t=>if x=c then []::zaJ c t else match zaJ c t with
  | []=>[[x]]
  | h::r=>(x::h)::r
def zdf(p:List Nat):List (List Nat)->List (List Nat)
 | []=>[p]
 | h::r=>(p++h)::r
theorem zfi(c:Nat):∀l,∃h r,zaJ c l=h::r
 | []=>⟨_,_,rfl⟩
 | x::t=>by
  unfold zaJ
  split
  ·exact ⟨_,_,rfl⟩
  ·obtain ⟨h,r,e⟩:=zfi c t
   rw [e];exact ⟨_,_,rfl⟩
theorem zhD(c x:Nat)(t:List Nat)(h:x≠c):zaJ c (x::t)=zdf [x] (zaJ c t):=by
 obtain ⟨a,r,e⟩:=zfi c t
 show (if x=c then _ else _)=_
 rw [if_neg h,e]
 rfl
theorem zw6(p q:List Nat)(l:List (List Nat)):zdf p (zdf q l)=zdf (p++q) l:=by
 cases l<;>simp [zdf]
theorem zhQ(s:Str)(c hi limit:Nat):∀(l:List Nat)(st:Array Nat×Nat),(∀i∈l,st.2<=i)->l.Pairwise (· < ·)->st.1.size+l.length<=limit ->
  (forIn l st (StrLaws.occBody s (c1 c) hi limit)).run.fst.toList=st.1.toList++l.filter λi=>decide (i+1<=hi)&&Builtin.Str.subAt s (c1 c) i
 | [],st,_,_,_=>by simp
 | a::l,st,h1,h2,h3=>by
  rw [List.forIn_cons]
  unfold StrLaws.occBody
  have ha:=h1 a (mem_cons_self ..)
  rw [pairwise_cons] at h2
  simp only [length_cons] at h3
  split
  ·rename_i hc
   have ih:=zhQ s c hi limit l (st.1.push a,a+(c1 c).length) (λi hi=>by have:=h2.1 i hi;show a+1<=i;omega) h2.2 (by simp;omega)
   have e2:(decide (a+1<=hi)&&Builtin.Str.subAt s (c1 c) a)=true:=by rw [and_eq_true];exact ⟨decide_eq_true hc.1.2,hc.2⟩
   rw [filter_cons,e2,if_pos rfl]
   refine Eq.trans ih ?_
   simp
  ·rename_i hc
   have ih:=zhQ s c hi limit l st (λi hi=>h1 i (mem_cons_of_mem _ hi)) h2.2 (by omega)
   have e2:(decide (a+1<=hi)&&Builtin.Str.subAt s (c1 c) a)=false:=by
    rw [eq_false_iff]
    intro h
    rw [and_eq_true] at h
    exact hc ⟨⟨⟨by omega,ha⟩,of_decide_eq_true h.1⟩,h.2⟩
   rw [filter_cons,e2,if_neg (by simp)]
   exact ih
theorem zjm(x:Str)(c:Nat):Builtin.Str.occurrences x (c1 c) 0 x.length (x.length+1)=(range' 0 (x.length+1)).filter λi=>(sg x)[i]? == some c:=by
 rw [StrLaws.occ_eq]
 rw [zhQ x c x.length (x.length+1) _ _ (λ_ _=>zero_le _) (List.pairwise_lt_range' (s:=0) (n:=x.length+1-0)) (by simp)]
 simp only [nil_append,Nat.sub_zero]
 refine List.filter_congr λi _=>?_
 rw [Bool.eq_iff_iff]
 have:=zlR (x:=x) (c:=c) (i:=i)
 unfold StrLaws.At at this
 rw [and_eq_true,decide_eq_true_eq,beq_iff_eq]
 exact this
theorem ziK(x:Str)(c:Nat):∀(k a i:Nat),i+k=x.length->a<=i->StrLaws.partsFrom x 1 a ((range' i (k+1)).filter λi=>(sg x)[i]? == some c)=(zdf (((sg x).drop a).take (i-a)) (zaJ c ((sg x).drop i))).map tx
 | 0,a,i,h,ha=>by
  have hl:=zac x
  have e1:(sg x)[i]?=none:=getElem?_eq_none (by omega)
  have e2:(sg x).drop i=[]:=List.drop_eq_nil_of_le (by omega)
  have e3:(range' i (0+1)).filter (λi=>(sg x)[i]? == some c)=[]:=by
   show List.filter _ [i]=[]
   rw [filter_cons,e1];rfl
  rw [e2,e3]
  show [Builtin.Str.strSub x a x.length]=[tx _]
  refine congrArg (·::[]) (zfy ?_)
  rw [zaS]
  show (Builtin.Str.strSub x a x.length).cps.toList=_
  rw [StrLaws.strSub_toList,show x.length=i by omega]
  simp [zaJ,sg]
 | k+1,a,i,h,ha=>by
  have hl:=zac x
  have hi:i<(sg x).length:=by omega
  have e0:(sg x)[i]?=some ((sg x)[i]):=List.getElem?_eq_getElem hi
  have ed:(sg x).drop i=(sg x)[i]::(sg x).drop (i+1):=List.drop_eq_getElem_cons hi
  rw [List.range'_succ,filter_cons,e0,ed]
  by_cases hc:(sg x)[i]=c
  ·rw [if_pos (by simp [hc])]
   have ih:=ziK x c k (i+1) (i+1) (by omega) (le_refl _)
   show Builtin.Str.strSub x a i::StrLaws.partsFrom x 1 (i+1) _=_
   rw [ih]
   have e4:zaJ c ((sg x)[i]::(sg x).drop (i+1))=[]::zaJ c ((sg x).drop (i+1)):=by
    show (if _=c then _ else _)=_
    rw [if_pos hc]
   rw [e4]
   obtain ⟨p,r,e⟩:=zfi c ((sg x).drop (i+1))
   rw [e]
   simp only [Nat.sub_self,List.take_zero,zdf,nil_append,append_nil,map_cons]
   refine congrArg (·::_) (zfy ?_)
   rw [zaS]
   exact StrLaws.strSub_toList x a i
  ·rw [if_neg (by simp [hc])]
   rw [ziK x c k a (i+1) (by omega) (by omega),zhD c _ _ hc,zw6]
   have e5:((sg x).drop a).take (i+1-a)=((sg x).drop a).take (i-a)++[(sg x)[i]]:=by
    rw [show i+1-a=(i-a)+1 by omega,take_add_one]
    congr 1
    rw [List.getElem?_drop,show a+(i-a)=i by omega,e0]
    rfl
   rw [e5]
theorem zku{c:Nat}:∀{l:List Nat},c∉l->zaJ c l=[l]
 | [],_=>rfl
 | x::t,h=>by
  rw [mem_cons,not_or] at h
  rw [zhD c x t (Ne.symm h.1),zku h.2]
  rfl
theorem zob(x:Str){c:Nat}(hc:c<128):PySem.Txt.split x (c1 c)=(zaJ c (sg x)).map tx:=by
 have hk:Builtin.Str.strKind (c1 c)=1:=by
  unfold Builtin.Str.strKind
  rw [if_pos]
  show (#[c]:Array Nat).all (· < 256)=true
  simp;omega
 have hk2 : ¬ Builtin.Str.strKind x<Builtin.Str.strKind (c1 c):=by
  rw [hk]
  unfold Builtin.Str.strKind
  split<;>(try split)<;>omega
 have whole:c∉sg x->[x]=(zaJ c (sg x)).map tx:=λh=>by rw [zku h];show [x]=[tx (sg x)];rw [zer]
 unfold PySem.Txt.split
 split
 ·rename_i h
  rw [decide_eq_false hk2,Bool.or_false,decide_eq_true_eq] at h
  have h:x.length<1:=h
  rw [<- zac] at h
  refine whole ?_
  have e0:sg x=[]:=List.eq_nil_of_length_eq_zero (by omega)
  rw [e0]
  exact not_mem_nil
 ·split
  ·rename_i h
   refine whole λhm=>?_
   obtain ⟨i,hi,e⟩:=getElem_of_mem hm
   rw [zjm] at h
   have:i∈(range' 0 (x.length+1)).filter λi=>(sg x)[i]? == some c:=by
    rw [mem_filter]
    refine ⟨?_,by rw [List.getElem?_eq_getElem hi,e];simp⟩
    rw [List.mem_range'_1]
    rw [zac] at hi
    omega
   rw [List.isEmpty_iff.mp h] at this
   exact absurd this not_mem_nil
  ·rw [StrLaws.partsBetween_eq,zjm]
   show StrLaws.partsFrom x 1 0 _=_
   rw [ziK x c x.length 0 0 (by omega) (le_refl _)]
   simp only [Nat.sub_self,List.take_zero,List.drop_zero]
   obtain ⟨h,r,e⟩:=zfi c (sg x)
   rw [e];rfl
theorem zh3{c:Nat}:∀(w:List Nat)(ws:List (List Nat)),(∀v∈w::ws,c∉v)->zaJ c (w++(ws.map (c::·)).flatten)=w::ws
 | [],[],_=>rfl
 | [],v::ws,h=>by
  have ih:=zh3 v ws λu hu=>h u (mem_cons_of_mem _ hu)
  show zaJ c (c::(v++(ws.map (c::·)).flatten))=_
  show (if c=c then _ else _)=_
  rw [if_pos rfl,ih]
 | x::w,ws,h=>by
  have hx:=h _ (mem_cons_self ..)
  rw [mem_cons,not_or] at hx
  have ih:=zh3 w ws λu hu=>by
   rcases mem_cons.mp hu with rfl|hu
   ·exact hx.2
   ·exact h u (mem_cons_of_mem _ hu)
  show zaJ c (x::(w++(ws.map (c::·)).flatten))=_
  rw [zhD c x _ (Ne.symm hx.1),ih]
  rfl
theorem zhn(x:Str)(c hi:Nat):∀(l:List Nat)(st:Option Nat),(forIn l st (λi r=>if (decide (i+(c1 c).length<=hi)&&Builtin.Str.subAt x (c1 c) i)=true then (pure (ForInStep.yield (some i)):Id _) else pure (ForInStep.yield r))).run =
  l.foldl (λacc i=>if (decide (i+1<=hi)&&Builtin.Str.subAt x (c1 c) i)=true then some i else acc) st
 | [],st=>rfl
 | a::l,st=>by
  rw [List.forIn_cons,foldl_cons]
  show _=l.foldl _ (if (decide (a+(c1 c).length<=hi)&&Builtin.Str.subAt x (c1 c) a)=true then some a else st)
  split
  ·exact zhn x c hi l _
  ·exact zhn x c hi l _
theorem zrQ(x:Str)(c:Nat):Builtin.Str.lastOccurrence x (c1 c) 0 x.length=(range' 0 (x.length+1)).foldl (λacc i=>if (sg x)[i]?=some c then some i else acc) none:=by
 have e:Builtin.Str.lastOccurrence x (c1 c) 0 x.length=(forIn (range' 0 (x.length+1)) none (λi r=>if (decide (i+(c1 c).length<=x.length)&&Builtin.Str.subAt x (c1 c) i)=true then (pure (ForInStep.yield (some i)):Id _) else pure (ForInStep.yield r))).run:=by
  unfold Builtin.Str.lastOccurrence
  simp
 rw [e,zhn]
 congr 1
 funext acc i
 have:=zlR (x:=x) (c:=c) (i:=i)
 unfold StrLaws.At at this
 by_cases h:(sg x)[i]?=some c
 ·rw [if_pos h,if_pos]
  rw [and_eq_true,decide_eq_true_eq]
  exact this.mpr h
 ·rw [if_neg h,if_neg]
  intro q
  rw [and_eq_true,decide_eq_true_eq] at q
  exact h (this.mp q)
theorem zkc{p:Nat->Prop} [DecidablePred p]:∀(l:List Nat)(a:Option Nat),(∀i∈l,¬ p i)->l.foldl (λacc i=>if p i then some i else acc) a=a
 | [],_,_=>rfl
 | x::l,a,h=>by
  rw [foldl_cons,if_neg (h x (mem_cons_self ..))]
  exact zkc l a λi hi=>h i (mem_cons_of_mem _ hi)
theorem ztC{x:Str}{c:Nat}{a b:List Nat}(h:sg x=a++c::b)(hb:c∉b):PySem.Txt.rfind x (c1 c)=a.length:=by
 have hl:x.length=a.length+(b.length+1):=by rw [<- zac,h];simp
 have e:Builtin.Str.lastOccurrence x (c1 c) 0 x.length=some a.length:=by
  rw [zrQ,show x.length+1=a.length+((b.length+1)+1) by omega,<- List.range'_append_1,List.foldl_append,List.range'_succ,foldl_cons]
  rw [if_pos (by rw [h];simp),Nat.zero_add]
  refine zkc (p:=λi=>(sg x)[i]?=some c) _ _ λi hi=>?_
  rw [List.mem_range'_1] at hi
  intro q
  rw [h,List.getElem?_append_right (by omega)] at q
  obtain ⟨j,hj⟩:∃j,i-a.length=j+1:=⟨i-a.length-1,by omega⟩
  rw [hj,List.getElem?_cons_succ] at q
  exact hb (mem_of_getElem? q)
 show (match Builtin.Str.lastOccurrence x (c1 c) 0 x.length with|some i=>(i:Int)|none=>-1)=_
 rw [e]
theorem zho{x:Str}{j:Nat}(h:j<=(sg x).length):PySem.Txt.slice x none (some (j:Int))=tx ((sg x).take j):=by
 have e:=StrLaws.sliceText_to (x:=x) (j:=(j:Int)) ⟨by omega,by simpa [sg] using h⟩
 refine Eq.trans (show PySem.Txt.slice x none (some (j:Int))=StrLaws.sliceText x none (some (j:Int)) from rfl) (e.trans ?_)
 show tx _=tx _
 simp [sg]
theorem zqh{x:Str}(h:0<(sg x).length):PySem.Txt.slice x none (some (-1))=tx ((sg x).dropLast):=by
 rw [zac] at h
 have e:=StrLaws.sliceText_to_neg (x:=x) (j:=-1) (by omega) (by omega)
 refine Eq.trans (show PySem.Txt.slice x none (some (-1))=StrLaws.sliceText x none (some (-1)) from rfl) (e.trans ?_)
 show tx _=tx _
 rw [List.dropLast_eq_take,zac,List.drop_zero,show (-1+(x.length:Int)-0).toNat=x.length-1 by omega]
 rfl
theorem zeX(m:Nat):sg (toString ((m:Nat):Int):Str)=(toDigits 10 m).map Char.toNat:=PySem.W.KIN.signs_num m
section
variable {X:Cx}{tg:Expr}
def zg9(K:PySem.W.Frag)(tl:TE):TI:=λσ H R=>tl σ H λx H1=>uR x λa=>(∃xs,SqL K H1 a xs/\R (Itl K a) H1)\/∃xs,SqT K H1 a xs/\R (Itt K a) H1
theorem zol{K:PySem.W.Frag}{tl:TE}{σ:St}{H:Hp}{R:It->Hp->Prop}:zg9 K tl σ H R=tl σ H λx H1=>uR x λa=>(∃xs,SqL K H1 a xs/\R (Itl K a) H1)\/∃xs,SqT K H1 a xs/\R (Itt K a) H1:=rfl
theorem zwk{l:Expr}{tl:TE}(hl:PE X l tl):PIc true X tg l (zg9 X.K tl):=by
 intro Ga s σ H R I h
 refine thn (hl Ga s σ H _ I h) λv s1 ⟨x,H1,I1,r1,q1⟩=>?_
 obtain ⟨a,e,q1⟩:=q1
 subst e
 cases r1
 rcases q1 with ⟨xs,hq,q⟩|⟨xs,hq,q⟩
 ·obtain ⟨its,rv,p,hz⟩:=I1.list hq
  refine wpAny_pyIter_list p.isList ⟨s1.heap.objs.size,[s1.heap.objs.size],_,_,H1,rfl,I1.kept (t':=s1.toks) λb o e=>get?_push_of_some _ e,zkp a _,⟨_,get?_push_size _ rfl,rfl,rfl⟩,λb hb=>?_,q⟩
  have e:b=s1.heap.objs.size:=by simpa using hb
  subst e
  exact I1.fpOk (le_refl _) (I1.hok.fresh (le_refl _))
 ·obtain ⟨its,rv,p,hz⟩:=I1.tuple hq
  refine wpAny_pyIter_tuple (show s1.heap.IsTuple a its.toArray from p) ⟨s1.heap.objs.size,[s1.heap.objs.size],_,_,H1,rfl,I1.kept (t':=s1.toks) λb o e=>get?_push_of_some _ e,znG a _,⟨_,get?_push_size _ rfl,rfl,rfl⟩,λb hb=>?_,q⟩
  have e:b=s1.heap.objs.size:=by simpa using hb
  subst e
  exact I1.fpOk (le_refl _) (I1.hok.fresh (le_refl _))
theorem ztb{l:Expr}{tl:TE}(hl:W (PE X l tl)):W (PIc true X tg l (zg9 X.K tl)):=⟨zwk hl.h⟩
end
section
variable {K:PySem.W.Frag}{g:TG}{tt:TT}{te:TE}{H:Hp}{Q:VK}{R:It->Hp->Prop}
theorem zV.tup{a:Addr}{xs:List V}{τ:St}(Pv:Nat->St->List V->Hp->Prop)(hz:∀i τ ys H,Pv i τ ys H->ys.length<sizeLine)(ha:∀i τ ys H,Pv i τ ys H->SqT K H a xs)(h0:Pv 0 τ [] H)
  (hs:∀(N:St->List V->Hp->Prop) i x τ ys H,xs[i]?=some x->Pv i τ ys H->(∀τ ys H,Pv (i+1) τ ys H->N τ ys H)->g x τ H λτ1 H4=>tt τ1 H4 λok H5=>zbE N ys τ1 te ok H5) (hd:∀τ ys H,Pv xs.length τ ys H->∀D H',New H D (.lst ys) H'->Q (.ref D) H'):zV (Itt K a) g tt te τ H Q:=by
 refine ⟨λi m τ ys H=>m=xs.length-i/\i<=xs.length/\Pv i τ ys H,⟨xs.length,by simp,zero_le _,h0⟩,?_⟩
 rintro i m τ ys H2 ⟨rfl,hi,p⟩
 refine ⟨hz i τ ys H2 p,?_⟩
 have q:=ha i τ ys H2 p
 by_cases hlt:i<xs.length
 ·refine .inr ⟨⟨xs,xs[i],q,by simp [hlt]⟩,λx H' y=>?_⟩
  obtain ⟨e,y⟩:=y
  subst e
  exact hs (λτ1 ys H=>∃m',m'<xs.length-i/\m'=xs.length-(i+1)/\i+1<=xs.length/\Pv (i+1) τ1 ys H) i x τ ys _ (y xs q) p λτ1 zs H q=>⟨xs.length-(i+1),by omega,rfl,hlt,q⟩
 ·have e:i=xs.length:=by omega
  subst e
  exact .inl ⟨⟨xs,q,le_refl _⟩,λD hD _=>hd τ ys H2 p D _ (.mk' hD)⟩
theorem zyE{c:Bool}{a:Addr}{H:Hp}{Q:VK}:zbQ c (.ref a) .non H Q=Q (.bl (if c then true else false)) H:=by simp [zbQ]
theorem zoq{c:Bool}{a:Str}{H:Hp}{Q:VK}:zbQ c (.str a) .non H Q=Q (.bl (if c then true else false)) H:=by simp [zbQ]
theorem zaQ(z:Str):asc z=(sg z).all (· < 128):=by simp [asc,sg]
end
section
variable {M:Model}{A:Around}{E:Value->Shared->Prop}{s:Shared}{B:Heap}{env:Env}{outer l:List Env}{L e:Addr}{cls fl:Value}
end
section
variable {X:Cx}
def zrp:R2:=λx y H Q=>uEq true x y H Q\/∃a b xs ys,x = .ref a/\y = .ref b/\H a=some (.tup xs)/\H b=some (.tup ys)/\xs.all zP=true/\ys.all zP=true/\Q (.bl (!eqL xs ys)) H
theorem zyF{a b:Addr}{H:Hp}{Q:VK}:zrp (.ref a) (.ref b) H Q = ∃xs ys,((H a=some (.lst xs)/\H b=some (.lst ys))\/(H a=some (.tup xs)/\H b=some (.tup ys)))/\xs.all zP=true/\ys.all zP=true/\Q (.bl (!eqL xs ys)) H:=by
 apply propext;constructor
 ·rintro (h|⟨a',b',xs,ys,e1,e2,h1,h2,f1,f2,q⟩)
  ·rw [zem] at h
   obtain ⟨xs,ys,h1,h2,f1,f2,q⟩:=h
   exact ⟨xs,ys,.inl ⟨h1,h2⟩,f1,f2,q⟩
  ·cases e1;cases e2;exact ⟨xs,ys,.inr ⟨h1,h2⟩,f1,f2,q⟩
 ·rintro ⟨xs,ys,⟨h1,h2⟩|⟨h1,h2⟩,f1,f2,q⟩
  ·exact .inl (by rw [zem];exact ⟨xs,ys,h1,h2,f1,f2,q⟩)
  ·exact .inr ⟨a,b,xs,ys,rfl,rfl,h1,h2,f1,f2,q⟩
def zvY:Str->V->Hp->VK->Prop:=λz y H Q=>uS y λq=>Q (.int (PySem.Txt.find z q)) H
theorem zub{z q:Str}{H:Hp}{Q:VK}:zvY z (.str q) H Q=Q (.int (PySem.Txt.find z q)) H:=zfR
def zf3(A:Around):List V->Hp->VK->Prop:=λxs H Q=>zjK A xs H Q\/(∃z,xs=[.str z]/\(PyData.str z).shown.length<=sizeLine/\Q (.str (PyData.str z).shown) H)\/(∃i,xs=[.int i]/\i.natAbs.log2<1920/\Q (.str (toString i)) H) \/
 (∃b:Bool,xs=[.bl b]/\Q (.str (if b then "True" else "False")) H)\/(xs=[.non]/\Q (.str "None") H)
theorem zfe(hg:X.A.guards=some []):zK X (.builtin "repr") (zf3 X.A):=by
 intro Ga s σ H xs us Q I r h
 rcases h with h|⟨z,rfl,hz,q⟩|⟨i,rfl,hi,q⟩|⟨b,rfl,q⟩|⟨rfl,q⟩
 ·exact zsC hg Ga s σ H xs us Q I r h
 ·cases r with
  | cons r1 rr =>
   cases rr
   obtain ⟨t,rfl⟩:=r1
   have e:(PyData.str z).shown=PySem.reprText z:=by simp only [PyData.shown]
   rw [e] at hz q
   exact PySem.P.repr_of_str ⟨.str _,H,I.tok _,⟨_,rfl⟩,q⟩ hz
 ·cases r with
  | cons r1 rr =>
   cases rr
   obtain ⟨t,rfl⟩:=r1
   exact PySem.P.repr_of_int hi ⟨.str _,H,I.tok _,⟨_,rfl⟩,q⟩
 ·cases r with
  | cons r1 rr =>
   cases rr
   cases (show _=Value.bool b from r1)
   exact PySem.P.repr_of_bool ⟨.str _,H,I.tok _,⟨_,by cases b<;>rfl⟩,q⟩
 ·cases r with
  | cons r1 rr =>
   cases rr
   cases (show _=Value.none from r1)
   exact PySem.P.repr_of_none ⟨.str _,H,I.tok _,⟨_,rfl⟩,q⟩
def zcD:List V->Hp->VK->Prop:=λxs H Q=>zcU xs H Q\/∃b:Bool,xs=[.bl b]/\Q (.str (if b then "True" else "False")) H
theorem zsQ:zK X (.type "str") zcD:=by
 intro Ga s σ H xs us Q I r h
 rcases h with h|⟨b,rfl,q⟩
 ·exact zmH Ga s σ H xs us Q I r h
 ·cases r with
  | cons r1 rr =>
   cases rr
   cases (show _=Value.bool b from r1)
   exact PySem.P.str_of_bool ⟨.str _,H,I.tok _,⟨_,by cases b<;>rfl⟩,q⟩
theorem zvf{i:Int}{H:Hp}{Q:VK}:zcD [.int i] H Q=(i.natAbs.log2<1920/\Q (.str (toString i)) H):=by simp [zcD,zlC]
theorem zxK{z:Str}{H:Hp}{Q:VK}:zcD [.str z] H Q=Q (.str z) H:=by simp [zcD,zlU]
theorem znr{b:Bool}{H:Hp}{Q:VK}:zcD [.bl b] H Q=Q (.str (if b then "True" else "False")) H:=by simp [zcD,zcU,zcL]
end
theorem zt2{c:Bool}{X:Cx}{elt tg iter:Expr}{ifs:List Expr}{sc:Scope}{pos pos' pos0:Pos}{N':List Str}{ix:List (Option Nat)}{wi:TI}{g:TG}{tt:TT}{te:TE}{i0:Nat}{x0:Str}(hN0:X.N.Nodup)(hi0:X.N[i0]?=some x0)(hx0:Loc X.env.scope x0)(hc:c=true->X.calm=true)(L:zah X sc N' ix)(hi:PIc c X tg iter wi)
  (hg:∀Ga C fp s H,PG (zz X sc N' Ga C fp s H) tg g) (ht:∀Ga C fp s H,PTs (zz X sc N' Ga C fp s H) ifs tt) (he:∀Ga C fp s H,PE (zz X sc N' Ga C fp s H) elt te)
  (hs:∀x,foldedSetIterable iter X.env x=pure x:=by intro _;rfl) (hsw:swapsWith (.ListComp elt [⟨tg,iter,ifs,0⟩] sc pos) (some (.Name x0 pos')) pos0.line X.env=pure true:=by rfl) (hf0:X.fn x0=true\/X.env.scope.names.lookup x0=some .local:=by first|exact .inl rfl|exact .inr rfl|assumption) :
  PS X (.Assign [.Name x0 pos'] (.ListComp elt [⟨tg,iter,ifs,0⟩] sc pos) pos0) (zcX (tLC ix wi g tt te) (zbR i0)):=by
 intro Ga s σ H Z I h
 rw [exec_Assign_Name_used x0 pos' _ pos0 hsw]
 refine wpAny_bind (wpAny_standAt (wpAny_bind ?_))
 rw [arm_evalThenUse_ListComp]
 have hclos:closureFor sc X.env=pure (zan X.env.cells sc.names []):=zgV λy hy hk=>I.ok.has y.1 (.inl (L.free y hy hk).1)
 show wpAny (model X.prog X.w) X.A (comprehension (.ListComp elt [⟨tg,iter,ifs,0⟩] sc pos) sc X.env (firstIterPos [⟨tg,iter,ifs,0⟩] pos) (newList []) (firstAsync [⟨tg,iter,ifs,0⟩]) (firstIter [⟨tg,iter,ifs,0⟩] X.env) (some (assign (.Name x0 pos') X.env))>>=λ_=>pure ()) _ _ _
 refine wpAny_bind ?_
 refine wpAny_comprehension_free (use:=some (assign (.Name x0 pos') X.env)) rfl hs hclos L.kind L.names (thn (hi Ga s σ H _ I h) λv s1 h1=>thn h1 λitv s2 h2=>?_)
 obtain ⟨it,fp,tn,J,H2,e,I2,T,st2,f2,W,⟨m0,w0⟩,turn⟩:=h2
 subst e
 refine wpAny_newObj_type (wpAny_newFunctionEnv L.cell (by intro y hy;simp at hy) (λh₁ hns₁ hsb₁=>?_) L.kind)
 dsimp only at hns₁ hsb₁ ⊢
 generalize hH2:s2.heap.push { cls:=.type "list",dict:=none,data:=.seq ([]:List Value).toArray }=G2 at hns₁ hsb₁ ⊢
 have hC:G2.objs.size=s2.heap.objs.size+1:=by rw [<- hH2,size_push]
 have hDC:s2.heap.objs.size≠G2.objs.size:=by rw [hC];exact ne_of_lt (lt_succ_self _)
 have hCle:s2.heap.objs.size<=G2.objs.size:=by rw [hC];exact le_succ _
 have below:∀b,b<s2.heap.objs.size->b≠G2.objs.size/\b≠s2.heap.objs.size:=λb hb=>⟨by rw [hC];exact ne_of_lt (lt_succ_of_lt hb),ne_of_lt hb⟩
 have old:∀b o,s2.heap.get? b=some o->h₁.get? b=some o:=λb o e=>hsb₁.extBut b o (below b (lt_size e)).1 (get?_push_of_some _ (hH2 ▸ get?_push_of_some _ e))
 have hacc:h₁.get? s2.heap.objs.size=some { cls:=.type "list",data:=.seq ([]:List Value).toArray 0 }:=hsb₁.extBut _ _ hDC (get?_push_of_some _ (hH2 ▸ get?_push_size _ rfl))
 have fl:∀b∈fp,b<s2.heap.objs.size:=λb hb=>by
  obtain ⟨o,e,_⟩:=T.obj 0 _ st2 b hb
  exact lt_size e
 have hDfp:s2.heap.objs.size∉fp:=λz=>Nat.lt_irrefl _ (fl _ z)
 generalize hD:s2.heap.objs.size=D at *
 generalize hCe:G2.objs.size=C at *
 have cof:∀x c,(zan X.env.cells sc.names []).lookup x=some c->X.env.cells.lookup x=some c:=λx c h=>by
  rcases zeH h with h|h
  ·cases h
  ·exact h.1
 have st1:tn 0 h₁:=T.keep _ _ _ st2 λb _ o e=>old b o e
 have I3:Inv (zz X sc N' Ga C fp s2 H2) [] (zaN ix σ) H2 { s2 with heap:=h₁,toks:=s2.toks+([]:List (Str×Value)).length }:=zgK I2 L f2 (λb hb=>by rw [hD];exact fl b hb) (by rw [hD];exact hCle) hns₁ old
 have D0:H2 D=none:=I2.hok.fresh (le_of_eq hD)
 have fD:∀{H':Hp},H' D=none->zaL (zz X sc N' Ga C fp s2 H2) [] H' D:=λ{H'} hn=>by
  refine ⟨hn,hDC,λz=>?_,.inr (le_of_eq hD),λx c hx z=>?_,λp hp z=>?_⟩
  ·obtain ⟨_,o,ho,_⟩:=I2.stack.mem (show D∈frs X.stack from z)
   exact absurd (lt_size ho) (by rw [hD];exact Nat.lt_irrefl _)
  ·obtain ⟨v,q⟩:=I2.cell x c (cof x c hx)
   have:=q.lt
   rw [z,hD] at this
   exact Nat.lt_irrefl _ this
  ·have hp':p∈X.pn++Ga:=by
    have:p∈(X.pn++Ga)++[]:=hp
    simpa using this
   have:=lt_size (I2.pin p hp').1
   rw [z,hD] at this
   exact Nat.lt_irrefl _ this
 have fF:∀{H':Hp},(∀b∈fp,H' b=none)->∀b∈fp,zaL (zz X sc N' Ga C fp s2 H2) [] H' b:=λ{H'} hn b hb=>by
  obtain ⟨_,g1,g2,g3,g4,g5⟩:=f2 b hb
  refine ⟨hn b hb,(below b (fl b hb)).1,λz=>?_,.inl hb,λx c hx=>g4 x c (cof x c hx),λp hp=>g5 p ?_⟩
  ·rcases mem_cons.mp (I2.stkSub b z) with e|e
   ·exact g1 e
   ·exact g2 e
  ·have:p∈(X.pn++Ga)++[]:=hp
   simpa using this
 have loop:∀s₃:Shared,s₃={ s2 with heap:=h₁,toks:=s2.toks+([]:List (Str×Value)).length } ->
   codeAny (model X.prog X.w) X.A (.compLoop (.ListComp elt [⟨tg,iter,ifs,0⟩] sc pos) 0 (.ref it) (.ref D) (compEnvC sc (zan X.env.cells sc.names []) C X.env))
    (compPost (model X.prog X.w) X.A X.xe (some (assign (.Name x0 pos') X.env)) (λ_ s'=>wpAny (model X.prog X.w) X.A (pure ()) (λ_ s''=>wpAny (model X.prog X.w) X.A (pure Flow.next) (SP X Ga Z) X.xe s'') X.xe s') (.ref D) C) s₃:=by
  rintro s₃ rfl
  refine zj2 (λn s'=>∃i τ ys H',Inv (zz X sc N' Ga C fp s2 H2) [] τ H' s'/\tn i s'.heap/\(∀b∈fp,H' b=none)/\H' D=none/\(∃its k,zj ys its/\s'.heap.get? D=some { cls:=.type "list",data:=.seq its.toArray k })/\W i n τ ys H')
   ?_ m0 ⟨0,_,[],H2,I3,st1,λb hb=>(f2 b hb).1,D0,⟨[],0,.nil,hacc⟩,w0⟩
  rintro n s4 ⟨i,τ,ys,H4,I4,st4,fr4,dn4,⟨its,k,rv,dg⟩,w4⟩
  obtain ⟨hlen,step⟩:=turn i n τ ys H4 w4
  rcases step with ⟨stop,fin⟩|⟨go,step⟩
  ·refine thn (T.done (zz X sc N' Ga C fp s2 H2) rfl rfl rfl hc i [(D,({ cls:=.type "list",data:=.seq its.toArray k }:Obj))] s4 τ H4 (λ_ _=>False) (I4.pins_of λp hp=>?_) (λb hb=>?_) st4 stop) λr s5 ⟨hr,I5⟩=>?_
   ·have e:p=(D,{ cls:=.type "list",data:=.seq its.toArray k }):=by simpa using hp
    subst e
    obtain ⟨g0,g1,g2,_⟩:=fD dn4
    exact ⟨dg,g0,g1,g2,λv z=>(nomatch z)⟩
   ·obtain ⟨g0,g1,g2,g3,g4,g5⟩:=fF fr4 b hb
    refine ⟨g0,g1,g2,g3,g4,λp hp=>?_⟩
    rcases mem_append.mp hp with z|z
    ·exact g5 p (mem_append_left _ z)
    ·have e:p=(D,{ cls:=.type "list",data:=.seq its.toArray k }):=by simpa using z
     subst e
     exact λq=>hDfp (by have q':D=b:=q;rw [q'];exact hb)
   ·subst hr
    have dg5:=(I5.pin (D,_) (mem_append_right _ (mem_singleton.mpr rfl))).1
    obtain ⟨m5,hn5,_⟩:=id I5.loc
    have hlt:∀b o,s2.heap.get? b=some o->b≠C/\b≠D:=λb o e=>by
     have:=lt_size e
     rw [hD] at this
     exact below b this
    have U:=I5.base
    have IX:Inv X Ga σ (upd H4 D (.lst ys)) s5:=by
     refine I2.call' (s':=s5) (ch:=fp) I5.os ⟨λb o e n hb hx=>U.keep b o e n hb hx,λb o e n hb hx=>U.slot b o e n hb hx,λb o e n hx=>?_,λb o e hx=>U.there b o e hx,λb xs e=>?_,λb o u e=>?_,λb ps e=>?_⟩ ?_ I5.bare (λb hb=>?_)
     ·rw [zd (hlt b o e).2]
      exact U.free b o e n hx
     ·have q:=U.tups b xs e
      rw [zd (zA q dn4)]
      exact q
     ·have q:=U.frzs b o u e
      rw [zd (zA q dn4)]
      exact q
     ·obtain ⟨more,q⟩:=U.tbls b ps e
      exact ⟨more,by rw [zd (zA q dn4)];exact q⟩
     ·exact I5.hok.add dn4 ⟨le_of_lt hlen,its,k,rv,dg5⟩
     ·obtain ⟨_,g1,g2,g3,g4,g5⟩:=f2 b hb
      exact ⟨g3,g1,g4,g5⟩
    obtain ⟨oC,esC,epC,gC,rC⟩:=id hn5
    have dataC:∀v,oC.data≠.cell v:=λv z=>by rw [rC.1] at z;cases z
    have CneD:C≠D:=Ne.symm hDC
    have HC:upd H4 D (.lst ys) C=none:=by rw [zd CneD];exact I5.free
    have CneL:C≠X.env.locals:=λz=>by
     have:=I2.lt
     rw [<- z,hD] at this
     exact absurd (Nat.lt_of_lt_of_le this hCle) (Nat.lt_irrefl _)
    have Cfs:C∉X.fs:=I2.nofs (by rw [hD];exact hCle)
    have IXp:=IX.pins_of (pins':=Ga++[(C,oC)]) λp hp=>by
     rcases mem_append.mp hp with z|z
     ·exact IX.pin p (mem_append_right _ z)
     ·rw [mem_singleton.mp z]
      exact ⟨gC,HC,CneL,Cfs,dataC⟩
    refine thn (zjI hN0 hi0 hx0 hf0 (Ga++[(C,oC)]) s5 σ (upd H4 D (.lst ys)) (.ref D) (.ref D) Z.nx IXp rfl (fin D dn4 (by have h:mainGlobals<s2.heap.objs.size:=(I2.mod.glob.keeps I2.bk).lt;rw [hD] at h;exact ne_of_gt (lt_trans (by decide) h)))) λ_ s6 ⟨σ6,H6,I6,q6⟩=>?_
    obtain ⟨p6,p6n,_⟩:=I6.pin (C,oC) (mem_append_right _ (mem_append_right _ (mem_singleton.mpr rfl)))
    refine ⟨m5,⟨oC,esC,epC,p6,rC⟩,λh' hsb=>wpAny_pure (wpAny_pure ?_)⟩
    have I7:Inv X Ga σ6 H6 s6:=I6.pins_of λp hp=>I6.pin p (mem_append_right _ (mem_append_left _ hp))
    refine ⟨σ6,H6,I7.turned (t':=s6.toks) (it:=C) (λb o hb e=>(hsb.2 b hb).trans e) p6n CneL (.inr (le_trans I2.sz (by rw [hD];exact hCle))) (λx c hx z=>?_) (λp hp z=>?_),q6⟩
    ·obtain ⟨v,q⟩:=I2.cell x c hx
     have:=q.lt
     rw [z,hD] at this
     exact absurd (Nat.lt_of_lt_of_le this hCle) (Nat.lt_irrefl _)
    ·have:=lt_size (I2.pin p hp).1
     rw [z,hD] at this
     exact absurd (Nat.lt_of_lt_of_le this hCle) (Nat.lt_irrefl _)
  ·refine thn (T.item (zz X sc N' Ga C fp s2 H2) rfl rfl rfl hc i [(D,({ cls:=.type "list",data:=.seq its.toArray k }:Obj))] s4 τ H4 (λ_ _=>False) (I4.pins_of λp hp=>?_) (λb hb=>?_) st4 go) λr s5 ⟨u,hr,h5⟩=>?_
   ·have e:p=(D,{ cls:=.type "list",data:=.seq its.toArray k }):=by simpa using hp
    subst e
    obtain ⟨g0,g1,g2,_⟩:=fD dn4
    exact ⟨dg,g0,g1,g2,λv z=>(nomatch z)⟩
   ·obtain ⟨g0,g1,g2,g3,g4,g5⟩:=fF fr4 b hb
    refine ⟨g0,g1,g2,g3,g4,λp hp=>?_⟩
    rcases mem_append.mp hp with z|z
    ·exact g5 p (mem_append_left _ z)
    ·have e:p=(D,{ cls:=.type "list",data:=.seq its.toArray k }):=by simpa using z
     subst e
     exact λq=>hDfp (by have q':D=b:=q;rw [q'];exact hb)
   ·subst hr
    refine thn h5 λ_ s6 ⟨x,H6,I6,r6,y6,st6,fr6⟩=>?_
    obtain ⟨dg6,dn6,_⟩:=I6.pin (D,_) (mem_append_right _ (mem_singleton.mpr rfl))
    have dn6':H6 D=none:=dn6
    have all6:∀b∈D::fp,zaL (zz X sc N' Ga C fp s2 H2) [] H6 b:=λb hb=>by
     rcases mem_cons.mp hb with z|z
     ·subst z;exact fD dn6'
     ·exact fF fr6 b z
    have obj6:∀b∈D::fp,∃o,s6.heap.get? b=some o/\∀v,o.data≠.cell v:=λb hb=>by
     rcases mem_cons.mp hb with z|z
     ·subst z;exact ⟨_,dg6,λv q=>(nomatch q)⟩
     ·exact T.obj _ _ st6 b z
    have I6':=(I6.unpinned (Ga:=[])).pinned all6 obj6
    refine thn (hg Ga C fp s2 H2 _ s6 τ H6 x u _ I6' r6 (step x H6 y6)) λ_ s7 ⟨τ7,H7,I7,q7⟩=>?_
    refine thn (ht Ga C fp s2 H2 _ s7 τ7 H7 _ I7 q7) λok s8 ⟨H8,I8,q8⟩=>?_
    have back:∀{s9:Shared}{H9:Hp},Inv (zz X sc N' Ga C fp s2 H2) ([]++zcJ (D::fp) s6.heap) τ7 H9 s9->s9.heap.get? D=some { cls:=.type "list",data:=.seq its.toArray k }/\H9 D=none/\tn (i+1) s9.heap/\∀b∈fp,H9 b=none:=λ{s9 H9} I9=>by
     have pin:∀b o,b∈D::fp->s6.heap.get? b=some o->s9.heap.get? b=some o/\H9 b=none:=λb o hb e=>by
      have q:=I9.pin (b,o) (mem_append_right _ (mem_append_right _ (zeN hb e)))
      exact ⟨q.1,q.2.1⟩
     refine ⟨(pin D _ mem_cons_self dg6).1,(pin D _ mem_cons_self dg6).2,T.keep _ _ _ st6 λb hb o e=>(pin b o (mem_cons_of_mem _ hb) e).1,λb hb=>?_⟩
     obtain ⟨o,e,_⟩:=T.obj _ _ st6 b hb
     exact (pin b o (mem_cons_of_mem _ hb) e).2
    cases ok with
    | false =>
     obtain ⟨b1,b2,b3,b4⟩:=back I8
     simp only [false_eq_true,if_false] at q8 ⊢
     obtain ⟨m',hm,w'⟩:=q8
     exact ⟨m',hm,i+1,τ7,ys,H8,I8.unpinned,b3,b4,b2,⟨its,k,rv,b1⟩,w'⟩
    | true =>
     simp only [if_true] at q8 ⊢
     refine thn (he Ga C fp s2 H2 _ s8 τ7 H8 _ I8 q8) λy s9 ⟨yv,H9,I9,r9,m',hm,w'⟩=>?_
     obtain ⟨b1,b2,b3,b4⟩:=back I9
     have el:its.toArray.size<=sizeLine:=by
      have:=rv.length
      simp only [size_toArray]
      omega
     refine append_at (hsz:=el) b1 λh10 sb hD10=>?_
     obtain ⟨_,g1,_,g3,g4,g5⟩:=fD b2
     refine ⟨m',hm,i+1,τ7,ys++[yv],H9,(I9.unpinned (Ga:=[])).turned (t':=s9.toks) (λb o hb e=>(sb.2 b hb).trans e) b2 g1 g3 g4 g5,T.keep _ _ _ b3 λb hb o e=>(sb.2 b λq=>hDfp (by rw [<- q];exact hb)).trans e,b4,b2,⟨its++[y],k+1,rv.append (.cons r9 .nil),?_⟩,w'⟩
     show h10.get? D=_
     rw [hD10]
     simp
 exact codeAny_compStart_list (loop _ rfl) (T.self _ 0 _ _ _ st1 (loop _ rfl))
theorem zeK{c:Bool}{X:Cx}{elt tg iter:Expr}{ifs:List Expr}{sc:Scope}{pos pos' pos0:Pos}{N':List Str}{ix:List (Option Nat)}{wi:TI}{g:TG}{tt:TT}{te:TE}{i0:Nat}{x0:Str}(hN0:X.N.Nodup)(hi0:X.N[i0]?=some x0)(hx0:Loc X.env.scope x0)(hc:c=true->X.calm=true)(L:zah X sc N' ix)(hi:W (PIc c X tg iter wi))
  (hg:∀Ga C fp s H,W (PG (zz X sc N' Ga C fp s H) tg g)) (ht:∀Ga C fp s H,W (PTs (zz X sc N' Ga C fp s H) ifs tt)) (he:∀Ga C fp s H,W (PE (zz X sc N' Ga C fp s H) elt te))
  (hs:∀x,foldedSetIterable iter X.env x=pure x:=by intro _;rfl) (hsw:swapsWith (.ListComp elt [⟨tg,iter,ifs,0⟩] sc pos) (some (.Name x0 pos')) pos0.line X.env=pure true:=by rfl) (hf0:X.fn x0=true\/X.env.scope.names.lookup x0=some .local:=by first|exact .inl rfl|exact .inr rfl|assumption) :
  W (PS X (.Assign [.Name x0 pos'] (.ListComp elt [⟨tg,iter,ifs,0⟩] sc pos) pos0) (zcX (tLC ix wi g tt te) (zbR i0))) :=
 ⟨zt2 hN0 hi0 hx0 hc L hi.h (λa b c d e=>(hg a b c d e).h) (λa b c d e=>(ht a b c d e).h) (λa b c d e=>(he a b c d e).h) hs hsw hf0⟩
section
variable {κ:Type} [DecidableEq κ]
def zN(kvs:List (κ×V))(k:κ):Option V:=(kvs.find? λkv=>decide (kv.1=k)).map (·.2)
def zai(kvs:List (κ×V))(k:κ)(v:V):List (κ×V) :=
 if (kvs.any λkv=>decide (kv.1=k))=true then kvs.map (λkv=>if kv.1=k then (kv.1,v) else kv) else kvs++[(k,v)]
def zaH(kvs:List (κ×V))(k:κ):List (κ×V):=kvs.filter λkv=>decide (kv.1≠k)
theorem zeU{p:κ×V}{r:List (κ×V)}{k:κ}(e:p.1=k):zN (p::r) k=some p.2:=by simp [zN,find?_cons,e]
theorem zez{p:κ×V}{r:List (κ×V)}{k:κ}(e : ¬ p.1=k):zN (p::r) k=zN r k:=by simp [zN,find?_cons,e]
theorem zh6(k:κ):∀kvs:List (κ×V),(kvs.any λkv=>decide (kv.1=k))=(zN kvs k).isSome
 | []=>rfl
 | p::r=>by
  rw [any_cons]
  by_cases e:p.1=k
  ·simp only [zeU e,decide_eq_true e,Bool.true_or,Option.isSome_some]
  ·rw [zez e,decide_eq_false e,Bool.false_or];exact zh6 k r
theorem zmB(kvs:List (κ×V))(k:κ)(v:V):(zai kvs k v).length<=kvs.length+1:=by
 unfold zai
 split
 ·rw [length_map];omega
 ·rw [length_append,length_cons,length_nil];omega
theorem zaB.isSome_eq{o:Option V}{u:Option Value}(r:zaB o u):o.isSome=u.isSome:=by
 cases o with
 | none=>cases u with
  | none=>rfl
  | some _=>exact (show False from r).elim
 | some _=>cases u with
  | none=>exact (show False from r).elim
  | some _=>rfl
theorem zaB.getD{o:Option V}{u:Option Value}{d:V}{d':Value}(r:zaB o u)(rd:zm d d'):zm (o.getD d) (u.getD d'):=by
 cases o with
 | none=>cases u with
  | none=>exact rd
  | some _=>exact (show False from r).elim
 | some _=>cases u with
  | none=>exact (show False from r).elim
  | some _=>exact r
theorem KV.val{kvs:List (κ×V)}{vs:List (κ×Value)}(r:KV kvs vs)(k:κ):zaB (zN kvs k) (valueAt vs k):=by
 unfold KV at r
 induction r with
 | nil=>exact True.intro
 | @cons p q ps qs h t ih =>
  obtain ⟨h1,h2⟩:=h
  by_cases e:p.1=k
  ·have e':q.1=k:=h1.symm.trans e
   have b:valueAt (q::qs) k=some q.2:=by simp [valueAt,find?_cons,e']
   rw [zeU e,b];exact h2
  ·have e' : ¬ q.1=k:=λz=>e (h1.trans z)
   have b:valueAt (q::qs) k=valueAt qs k:=by simp [valueAt,find?_cons,e']
   rw [zez e,b];exact ih
theorem KV.any{kvs:List (κ×V)}{vs:List (κ×Value)}(r:KV kvs vs)(k:κ):(kvs.any λkv=>decide (kv.1=k))=vs.any λkv=>decide (kv.1=k):=by
 unfold KV at r
 induction r with
 | nil=>rfl
 | cons h t ih=>rw [any_cons,any_cons,ih,h.1]
theorem KV.repl{kvs:List (κ×V)}{vs:List (κ×Value)}(r:KV kvs vs)(k:κ){y:V}{u:Value}(ry:zm y u) :
  KV (kvs.map λkv=>if kv.1=k then (kv.1,y) else kv) (vs.map λkv=>if kv.1=k then (kv.1,u) else kv):=by
 unfold KV at r ⊢
 induction r with
 | nil=>exact .nil
 | @cons p q ps qs h t ih =>
  rw [map_cons,map_cons]
  refine .cons ?_ ih
  obtain ⟨h1,h2⟩:=h
  by_cases e:p.1=k
  ·rw [if_pos e,if_pos (h1.symm.trans e)];exact ⟨h1,ry⟩
  ·rw [if_neg e,if_neg (λz=>e (h1.trans z))];exact ⟨h1,h2⟩
theorem KV.put{kvs:List (κ×V)}{vs:List (κ×Value)}(r:KV kvs vs)(k:κ){y:V}{u:Value}(ry:zm y u):KV (zai kvs k y) (stored vs k u):=by
 unfold zai stored
 rw [r.any k]
 by_cases e:(vs.any λkv=>decide (kv.1=k))=true
 ·rw [if_pos e,if_pos e];exact r.repl k ry
 ·rw [if_neg e,if_neg e];exact Paired.snoc r ⟨rfl,ry⟩
theorem KV.drop{kvs:List (κ×V)}{vs:List (κ×Value)}(r:KV kvs vs)(k:κ):KV (zaH kvs k) (without vs k):=by
 unfold KV at r ⊢
 unfold zaH without
 induction r with
 | nil=>exact .nil
 | @cons p q ps qs h t ih =>
  obtain ⟨h1,h2⟩:=h
  rw [filter_cons,filter_cons]
  by_cases e:p.1=k
  ·have a : ¬ decide (p.1≠k)=true:=by simp [e]
   have b : ¬ decide (q.1≠k)=true:=by simp [h1.symm.trans e]
   rw [if_neg a,if_neg b];exact ih
  ·have e' : ¬ q.1=k:=λz=>e (h1.trans z)
   have a:decide (p.1≠k)=true:=by simp [e]
   have b:decide (q.1≠k)=true:=by simp [e']
   rw [if_pos a,if_pos b];exact .cons ⟨h1,h2⟩ ih
theorem KV.length{kvs:List (κ×V)}{vs:List (κ×Value)}(r:KV kvs vs):kvs.length=vs.length:=Paired.length r
theorem ztd(kvs:List (κ×V))(k:κ):(zaH kvs k).length<=kvs.length:=List.length_filter_le _ _
end
theorem zcp{P:Program}{w:World}{k:Key}{u:Value}(r:zm (kV k) u):(zaf P w).is k u=true:=by
 cases k with
 | inl i=>obtain ⟨t,e⟩:=(show ∃t,u=Value.int i t from r);subst e;exact zrd P w i t
 | inr x=>obtain ⟨t,e⟩:=(show ∃t,u=Value.str x t from r);subst e;exact zwt P w x t
theorem zlE{P:Program}{w:World}:∀{ks:List Key}{us:List Value},zj (ks.map kV) us->ItemsAre (zaf P w) ks us
 | [],_,r=>by rw [map_nil] at r;cases r;exact .nil
 | k::ks,_,r=>by
  rw [map_cons] at r
  cases r with
  | cons h t=>exact .cons (zcp h) (zlE t)
abbrev KT(H:Hp):List (List Key×V)->List (List Key×Addr×Value)->Prop:=Paired λp q=>p.1=q.1/\H q.2.1=some (.tup (p.1.map kV))/\zm p.2 q.2.2
theorem KT.val{H:Hp}{kvs:List (List Key×V)}{xs:List (List Key×Addr×Value)}(r:KT H kvs xs)(k:List Key):zaB (zN kvs k) ((atKey xs k).map (·.2)):=by
 induction r with
 | nil=>exact True.intro
 | @cons p q ps qs h t ih =>
  obtain ⟨h1,_,h2⟩:=h
  by_cases e:p.1=k
  ·have e':q.1=k:=h1.symm.trans e
   have b:atKey (q::qs) k=some q.2:=by simp [atKey,find?_cons,e']
   rw [zeU e,b];exact h2
  ·have e' : ¬ q.1=k:=λz=>e (h1.trans z)
   have b:atKey (q::qs) k=atKey qs k:=by simp [atKey,find?_cons,e']
   rw [zez e,b];exact ih
theorem KT.repl{H:Hp}{kvs:List (List Key×V)}{xs:List (List Key×Addr×Value)}(r:KT H kvs xs)(k:List Key){y:V}{u:Value}(ry:zm y u) :
  KT H (kvs.map λkv=>if kv.1=k then (kv.1,y) else kv) (xs.map (putAt k u)):=by
 induction r with
 | nil=>exact .nil
 | @cons p q ps qs h t ih =>
  rw [map_cons,map_cons]
  refine .cons ?_ ih
  obtain ⟨h1,h2,h3⟩:=h
  unfold putAt
  by_cases e:p.1=k
  ·rw [if_pos e,if_pos (h1.symm.trans e)];exact ⟨h1,h2,ry⟩
  ·rw [if_neg e,if_neg (λz=>e (h1.trans z))];exact ⟨h1,h2,h3⟩
theorem KT.put{H:Hp}{kvs:List (List Key×V)}{xs:List (List Key×Addr×Value)}(r:KT H kvs xs)(k:List Key){b:Addr}{y:V}{u:Value}(hb:H b=some (.tup (k.map kV)))(ry:zm y u) :
  KT H (zai kvs k y) (storedH xs k b u):=by
 have e:(kvs.any λkv=>decide (kv.1=k))=(atKey xs k).isSome:=by
  rw [zh6,(r.val k).isSome_eq,isSome_map]
 unfold zai storedH
 rw [e]
 by_cases q:(atKey xs k).isSome=true
 ·rw [if_pos q,if_pos q];exact r.repl k ry
 ·rw [if_neg q,if_neg q];exact Paired.snoc r ⟨rfl,hb,ry⟩
theorem KT.keeps{H H':Hp}{kvs:List (List Key×V)}{xs:List (List Key×Addr×Value)}(r:KT H kvs xs)(ht:∀b ys,H b=some (.tup ys)->H' b=some (.tup ys)):KT H' kvs xs :=
 Paired.mapP r λ_ _ z=>⟨z.1,ht _ _ z.2.1,z.2.2⟩
section
variable {P:Program}{w:World}{H:Hp}{h:Heap}{a:Addr}
theorem zjp{u:HO}(ok:HOk P w H h)(e:Rd H a u):zW P w H h a u:=e.ok ok
theorem zbJ{kvs:List (Key×V)}(ok:HOk P w H h)(e:Rd H a (.dK kvs)):kvs.length<=sizeLine/\(a==sysModules)=false/\∃vs,KV kvs vs/\h.DictOf (zaf P w) a vs :=
 show zW P w H h a (.dK kvs) from zjp ok e
theorem zhr{kvs:List (Key×V)}(ok:HOk P w H h)(e:H a=some (.dK kvs)):kvs.length<=sizeLine/\(a==sysModules)=false/\∃vs,KV kvs vs/\h.DictOf (zaf P w) a vs:=zbJ ok (.inl e)
theorem zdU{ks:List Key}(ok:HOk P w H h)(e:H a=some (.tup (ks.map kV))):(tupleKind (zaf P w)).is h ks a:=by
 obtain ⟨_,its,r,o,h1,h2,n,h3⟩:=(show zW P w H h a (.tup (ks.map kV)) from ok a _ e)
 exact ⟨o,its.toArray,n,h1,h2,h3,by simpa using zlE r⟩
theorem zcP{kvs:List (List Key×V)}(ok:HOk P w H h)(e:Rd H a (.dT kvs)):kvs.length<=sizeLine/\(a==sysModules)=false /\
  ∃xs,KT H kvs xs/\h.DictOfH (tupleKind (zaf P w)) a xs:=by
 obtain ⟨z,y,xs,r,o,es,ep,h1,h2,h3,h4,h5⟩:=(show zW P w H h a (.dT kvs) from zjp ok e)
 refine ⟨z,y,xs,r,o,es,ep,h1,h2,h3,h4,λx hx=>?_,h5⟩
 have all:∀{l:List (List Key×V)}{m:List (List Key×Addr×Value)},KT H l m->∀x∈m,(tupleKind (zaf P w)).is h x.1 x.2.1:=by
  intro l m q
  induction q with
  | nil=>intro x hx;exact nomatch hx
  | @cons p q ps qs hq t ih =>
   intro x hx
   rcases mem_cons.mp hx with e|hx
   ·subst e
    exact zdU ok (by rw [<- hq.1];exact hq.2.1)
   ·exact ih x hx
 exact all r x hx
theorem zu0{kvs:List (List Key×V)}(ok:HOk P w H h)(e:H a=some (.dT kvs)):kvs.length<=sizeLine/\(a==sysModules)=false /\
  ∃xs,KT H kvs xs/\h.DictOfH (tupleKind (zaf P w)) a xs:=zcP ok (.inl e)
end
def zbK(H:Hp)(a:Addr)(y:V)(r:Option V):Prop :=
 (∃kvs k,Rd H a (.dK kvs)/\y=kV k/\r=zN kvs k)\/∃kvs k b,Rd H a (.dT kvs)/\y = .ref b/\H b=some (.tup (k.map kV))/\r=zN kvs k
def zeR(H:Hp)(a:Addr)(y v:V)(H':Hp):Prop :=
 (∃kvs k,H a=some (.dK kvs)/\y=kV k/\kvs.length<sizeLine/\H'=upd H a (.dK (zai kvs k v))) \/
 ∃kvs k b,H a=some (.dT kvs)/\y = .ref b/\H b=some (.tup (k.map kV))/\kvs.length<sizeLine/\H'=upd H a (.dT (zai kvs k v))
theorem zbK.k{H:Hp}{a:Addr}{kvs:List (Key×V)}{k:Key}(e:H a=some (.dK kvs)):zbK H a (kV k) (zN kvs k):=.inl ⟨kvs,k,.inl e,rfl,rfl⟩
theorem zbK.t{H:Hp}{a b:Addr}{kvs:List (List Key×V)}{k:List Key}(e:H a=some (.dT kvs))(eb:H b=some (.tup (k.map kV))):zbK H a (.ref b) (zN kvs k):=.inr ⟨kvs,k,b,.inl e,rfl,eb,rfl⟩
theorem zeR.k{H:Hp}{a:Addr}{kvs:List (Key×V)}{k:Key}{v:V}(e:H a=some (.dK kvs))(hl:kvs.length<sizeLine):zeR H a (kV k) v (upd H a (.dK (zai kvs k v))):=.inl ⟨kvs,k,e,rfl,hl,rfl⟩
theorem zeR.t{H:Hp}{a b:Addr}{kvs:List (List Key×V)}{k:List Key}{v:V}(e:H a=some (.dT kvs))(eb:H b=some (.tup (k.map kV)))(hl:kvs.length<sizeLine) :
  zeR H a (.ref b) v (upd H a (.dT (zai kvs k v))):=.inr ⟨kvs,k,b,e,rfl,eb,hl,rfl⟩
section
variable {X:Cx}{Ga:List (Addr×Obj)}{σ:St}{H:Hp}{s:Shared}{a:Addr}{y v:V}{u r:Value}{o:Option V}{A:Around}{E:Value->Shared->Prop}
theorem zy5{Q:Value->Shared->Prop}(hu:A.units+1<cLine)(I:Inv X Ga σ H s)(g:zbK H a y (some v))(ry:zm y u)(h:∀w' s',Inv X Ga σ H s'->zm v w'->Q w' s') :
  wpAny (model X.prog X.w) A (getItem (.ref a) u) Q E s:=by
 rcases g with ⟨kvs,k,e,ey,l⟩|⟨kvs,k,b,e,ey,eb,l⟩
 ·subst ey
  obtain ⟨z,hd,vs,rel,dd⟩:=zbJ I.hok e
  obtain ⟨w',hw,rw'⟩:=zaB.some_of (v:=v) (o:=valueAt vs k) (by rw [l];exact rel.val k)
  exact wpAny_getItem_of (zcp ry) dd.mapOf hw (h w' _ (I.tok _) rw')
 ·subst ey
  cases (show u=Value.ref b from ry)
  obtain ⟨z,hd,xs,rel,dd⟩:=zcP I.hok e
  obtain ⟨w',hw,rw'⟩:=zaB.some_of (v:=v) (o:=(atKey xs k).map (·.2)) (by rw [l];exact rel.val k)
  obtain ⟨p,hp,hp2⟩:=map_eq_some_iff.mp hw
  refine wpAny_getItem_heap (tupleKind_room_in1 hu) (zdU I.hok eb) dd hp ?_
  rw [hp2]
  exact h w' _ (I.tok _) rw'
theorem zq1{Q:Value->Shared->Prop}(hu:A.units+1<cLine)(I:Inv X Ga σ H s)(g:zbK H a y o)(ry:zm y u)(h:∀s',Inv X Ga σ H s'->Q (.bool o.isSome) s') :
  wpAny (model X.prog X.w) A (compareOp .In u (.ref a)) Q E s:=by
 rcases g with ⟨kvs,k,e,ey,l⟩|⟨kvs,k,b,e,ey,eb,l⟩
 ·subst ey
  obtain ⟨z,hd,vs,rel,dd⟩:=zbJ I.hok e
  refine wpAny_in_of (zcp ry) hd dd.mapOf ?_
  rw [<- (rel.val k).isSome_eq,<- l]
  exact h _ (I.tok _)
 ·subst ey
  cases (show u=Value.ref b from ry)
  obtain ⟨z,hd,xs,rel,dd⟩:=zcP I.hok e
  refine wpAny_in_heap (tupleKind_room_in1 hu) (zdU I.hok eb) hd dd ?_
  have q:=(rel.val k).isSome_eq
  rw [isSome_map] at q
  rw [<- q,<- l]
  exact h _ (I.tok _)
theorem zsr{Q:Value->Shared->Prop}(hu:A.units+1<cLine)(I:Inv X Ga σ H s)(g:zbK H a y o)(ry:zm y u)(h:∀s',Inv X Ga σ H s'->Q (.bool (!o.isSome)) s') :
  wpAny (model X.prog X.w) A (compareOp .NotIn u (.ref a)) Q E s:=by
 rcases g with ⟨kvs,k,e,ey,l⟩|⟨kvs,k,b,e,ey,eb,l⟩
 ·subst ey
  obtain ⟨z,hd,vs,rel,dd⟩:=zbJ I.hok e
  refine wpAny_notIn_of (zcp ry) hd dd.mapOf ?_
  rw [<- (rel.val k).isSome_eq,<- l]
  exact h _ (I.tok _)
 ·subst ey
  cases (show u=Value.ref b from ry)
  obtain ⟨z,hd,xs,rel,dd⟩:=zcP I.hok e
  refine wpAny_notIn_heap (tupleKind_room_in1 hu) (zdU I.hok eb) hd dd ?_
  have q:=(rel.val k).isSome_eq
  rw [isSome_map] at q
  rw [<- q,<- l]
  exact h _ (I.tok _)
theorem zgw{h':Heap}{t':Nat}{ob:HO}(I:Inv X Ga σ H s)(mu:Mut (H a))(hs:SameBut a s.heap h')(he:∃q,h'.get? a=some q)(new:zW X.prog X.w (upd H a ob) h' a ob) :
  Inv X Ga σ (upd H a ob) { s with heap:=h',toks:=t' } :=
 I.write (x:=a) (e:=a) mu (.inl rfl) (λb q hb z=>(hs.2 b hb).trans z) he new
theorem zg6{P:Program}{w:World}{H':Hp}{h':Heap}{kvs:List (Key×V)}{vs:List (Key×Value)}(z:kvs.length<=sizeLine)(hd:(a==sysModules)=false)(rel:KV kvs vs)(dd:h'.DictOf (zaf P w) a vs) :
  zW P w H' h' a (.dK kvs):=⟨z,hd,vs,rel,dd⟩
theorem zvT{H':Hp}{Q:Unit->Shared->Prop}(hu:A.units+1<cLine)(I:Inv X Ga σ H s)(g:zeR H a y v H')(ry:zm y u)(rv:zm v r)(h:∀s',Inv X Ga σ H' s'->Q () s') :
  wpAny (model X.prog X.w) A (setItem (.ref a) u r) Q E s:=by
 rcases g with ⟨kvs,k,e,ey,l,eH⟩|⟨kvs,k,b,e,ey,eb,l,eH⟩
 ·subst ey eH
  obtain ⟨z,hd,vs,rel,dd⟩:=zhr I.hok e
  have hz:vs.length<=sizeLine:=by rw [<- rel.length];exact z
  have hl:(zai kvs k v).length<=sizeLine:=by have:=zmB kvs k v;omega
  refine wpAny_setItem_pairs (hsz:=hz) (zcp ry) dd λh' dd' hs=>h _ ?_
  have he:∃q,h'.get? a=some q:=let ⟨q,_,_,hq,_⟩:=dd';⟨q,hq⟩
  exact zgw I (by rw [e];exact True.intro) hs he (zg6 hl hd (rel.put k rv) dd')
 ·subst ey eH
  cases (show u=Value.ref b from ry)
  obtain ⟨z,hd,xs,rel,dd⟩:=zu0 I.hok e
  have hz:xs.length<=sizeLine:=by rw [<- Paired.length rel];exact z
  have hl:(zai kvs k v).length<=sizeLine:=by have:=zmB kvs k v;omega
  refine wpAny_setItem_heap (hsz:=hz) (tupleKind_room_in1 hu) (zdU I.hok eb) dd λh' dd' hs=>h _ ?_
  obtain ⟨q,es,ep,hq,h2,h3,h4,_,h5⟩:=dd'
  refine zgw I (by rw [e];exact True.intro) hs ⟨q,hq⟩ ⟨hl,hd,_,(rel.put k eb rv).keeps λc ys ec=>?_,q,es,ep,hq,h2,h3,h4,h5⟩
  rw [zd (zs0 ec e (λz=>nomatch z))]
  exact ec
end
section
variable {X:Cx}{Ga:List (Addr×Obj)}{σ:St}{H:Hp}{s:Shared}{a:Addr}{kvs:List (Key×V)}{k:Key}{u:Value}{A:Around}{E:Value->Shared->Prop}
theorem zpc{Q:Unit->Shared->Prop}(I:Inv X Ga σ H s)(e:H a=some (.dK kvs))(ry:zm (kV k) u)(l:(zN kvs k).isSome=true)(h:∀s',Inv X Ga σ (upd H a (.dK (zaH kvs k))) s'->Q () s') :
  wpAny (model X.prog X.w) A (delItem (.ref a) u) Q E s:=by
 obtain ⟨z,hd,vs,rel,dd⟩:=zhr I.hok e
 refine wpAny_delItem_slot dd.typeIs (by decide) PySem.F.slot_dict_delitem
  (call_meetsIn PySem.F.slot_dict_delitem dd.typeIs PySem.F.entry_dict_delitem (PySem.F.args_dict_delitem_2 _ _) (meets_dict_delitem_pairs (zaf X.prog X.w) a (zcp ry)) ⟨vs,dd,by rw [<- rel.length];exact z,by rw [<- (rel.val k).isSome_eq];exact l,λh' dd' hs=>h _ ?_⟩)
 have he:∃q,h'.get? a=some q:=let ⟨q,_,_,hq,_⟩:=dd';⟨q,hq⟩
 exact zgw I (by rw [e];exact True.intro) hs he (zg6 (le_trans (ztd kvs k) z) hd (rel.drop k) dd')
end
theorem zjV{X:Cx}{Ga:List (Addr×Obj)}{σ:St}{H:Hp}{s:Shared}{a:Addr}{y:V}{o:Option V}(I:Inv X Ga σ H s)(g:zbK H a y o):s.TypeIs (.ref a) "dict":=by
 rcases g with ⟨kvs,k,e,_,_⟩|⟨kvs,k,b,e,_,_,_⟩
 ·obtain ⟨_,_,vs,_,dd⟩:=zbJ I.hok e
  exact dd.typeIs
 ·obtain ⟨_,_,xs,_,dd⟩:=zcP I.hok e
  exact dd.typeIs
section
variable {X:Cx}{o i e value:Expr}{pos pos' tpos:Pos}{td ty tv:TE}
end
section
variable {X:Cx}{pos:Pos}
end
structure M2(X:Cx)(o:Expr)(m:Str)(apos:Pos)(e f:Expr)(cpos:Pos):Prop where
 base:attributeBase o m X.env (eval o X.env)=eval o X.env
 few:((backTo cpos (starEach [e,f] X.env)).all (λx=>!x.1)&&(backToKw cpos (keywordEach [] X.env)).all (λx=>x.1.isSome)
  && decide (([e,f]:List Expr).length+([]:List Keyword).length+(if ([]:List Keyword).isEmpty then 0 else 1)<30))=true
 line:(apos.endLine==cpos.line)=true
 trees:backTo cpos (starEach [e,f] X.env)=[(false,eval e X.env),(false,eval f X.env)]
def IsD(H:Hp)(a:Addr):Prop:=(∃kvs,Rd H a (.dK kvs))\/∃kvs,Rd H a (.dT kvs)
theorem zxZ{X:Cx}{Ga:List (Addr×Obj)}{σ:St}{H:Hp}{s:Shared}{a:Addr}(I:Inv X Ga σ H s)(d:IsD H a) :
  s.TypeIs (.ref a) "dict"/\(∀b,Value.ref a = .ref b->∃ob,s.heap.get? b=some ob/\ob.dict=none)/\(a==sysModules)=false:=by
 rcases d with ⟨kvs,e⟩|⟨kvs,e⟩
 ·obtain ⟨_,hd,vs,_,dd⟩:=zbJ I.hok e
  refine ⟨dd.typeIs,λb q=>?_,hd⟩
  cases q
  obtain ⟨ob,_,_,h1,h2,_⟩:=dd
  exact ⟨ob,h1,h2.2.1⟩
 ·obtain ⟨_,hd,xs,_,dd⟩:=zcP I.hok e
  refine ⟨dd.typeIs,λb q=>?_,hd⟩
  cases q
  obtain ⟨ob,_,_,h1,h2,_⟩:=dd
  exact ⟨ob,h1,h2.2.1⟩
section
variable {X:Cx}{Ga:List (Addr×Obj)}{σ:St}{H:Hp}{s:Shared}{a:Addr}{y d:V}{u r:Value}{o:Option V}{A:Around}{E:Value->Shared->Prop}
theorem zsN{Q:Value->Shared->Prop}(hu:A.units+1<cLine)(I:Inv X Ga σ H s)(g:zbK H a y o)(ry:zm y u)(rd:zm d r)(h:∀w' s',Inv X Ga σ H s'->zm (o.getD d) w'->Q w' s') :
  wpAny (model X.prog X.w) A (call (.builtin "dict.get") [.ref a,u,r]) Q E s:=by
 rcases g with ⟨kvs,k,e,ey,l⟩|⟨kvs,k,b,e,ey,eb,l⟩
 ·subst ey
  obtain ⟨z,hd,vs,rel,dd⟩:=zbJ I.hok e
  refine call_meetsIn slot_dict_get dd.typeIs PySem.F.entry_dict_get (PySem.F.args_dict_get_3 _ _ _) (meets_dict_get_default (zaf X.prog X.w) a (zcp ry) hd r) ⟨_,dd.mapOf,h _ _ (I.tok _) ?_⟩
  rw [l]
  exact (rel.val k).getD rd
 ·subst ey
  cases (show u=Value.ref b from ry)
  obtain ⟨z,hd,xs,rel,dd⟩:=zcP I.hok e
  refine call_meetsIn slot_dict_get dd.typeIs PySem.F.entry_dict_get (PySem.F.args_dict_get_3 _ _ _) (meetsH_dict_get_default (tupleKind (zaf X.prog X.w)) a b hd r) ⟨tupleKind_room_in1 hu,k,xs,zdU I.hok eb,dd,h _ _ (I.tok _) ?_⟩
  rw [l]
  exact (rel.val k).getD rd
end
section
variable {X:Cx}{o e f:Expr}{apos cpos:Pos}{td ty tx:TE}
end
section
variable {X:Cx}{Ga:List (Addr×Obj)}{σ:St}{H:Hp}{s:Shared}{a:Addr}{kvs:List (Key×V)}{A:Around}{E:Value->Shared->Prop}
theorem zqx{Q:Value->Shared->Prop}(I:Inv X Ga σ H s)(e:Rd H a (.dK kvs))(h:∀p s',H p=none->Inv X Ga σ (upd H p (.dK kvs)) s'->Q (.ref p) s'):wpAny (model X.prog X.w) A (call (.type "dict") [.ref a]) Q E s:=by
 obtain ⟨z,hd,vs,rel,dd⟩:=zbJ I.hok e
 refine kt_call_dict hd dd (by rw [<- rel.length];exact z) λh' dd' hs=>?_
 refine h _ _ (I.hok.fresh (le_refl _)) (I.laid (a:=s.heap.objs.size) (o:=.dK kvs) (t':=s.toks) (λb q hq=>?_) (le_refl _) (zg6 z (beq_eq_false_iff_ne.mpr (Ne.symm (ne_of_lt I.big))) rel dd'))
 exact (hs.2 b (ne_of_lt (lt_size hq))).trans (get?_push_of_some _ hq)
end
section
variable {X:Cx}{Ga:List (Addr×Obj)}{σ:St}{H:Hp}{s:Shared}{a:Addr}{y:V}{u:Value}{A:Around}{E:Value->Shared->Prop}
end
section
variable {X:Cx}
end
section
variable {κ:Type} [DecidableEq κ]
theorem zq5{p:κ×V}{r:List (κ×V)}{k:κ}(e:p.1=k):zaH (p::r) k=zaH r k:=by
 unfold zaH
 rw [filter_cons,if_neg (by simp [e])]
theorem zqO{p:κ×V}{r:List (κ×V)}{k:κ}(e : ¬ p.1=k):zaH (p::r) k=p::zaH r k:=by
 unfold zaH
 rw [filter_cons,if_pos (by simp [e])]
end
section
variable {X:Cx}{Ga:List (Addr×Obj)}{σ:St}{H:Hp}{s:Shared}{a:Addr}{o:Obj}{kvs:List (Key×V)}
theorem Inv.swap{o1 o2:HO}(I:Inv X Ga σ H s)(e:H a=some o1)(h1:∀x,o1≠.own x)(h2:∀xs,o1≠.tup xs)(h3:∀ob,o1≠.frz ob (.own 0))(h4:∀ps,o1≠.tbl ps)(h5:∀ob u,X.H₀ a≠some (.frz ob u))
  (new:∀H',zW X.prog X.w H' s.heap a o2):Inv X Ga σ (upd H a o2) s:=by
 have ne:∀b,H b=none->b≠a:=λb n z=>by subst z;rw [e] at n;cases n
 have kn:∀b,H b=none->upd H a o2 b=none:=λb n=>by rw [zd (ne b n)];exact n
 refine ⟨I.ok,I.os,I.bare,⟨I.base.keep,I.base.slot,λb ob q n hx=>kn b (I.base.free b ob q n hx),I.base.there,λb xs q=>?_,λb ob u q=>?_,λb ps q=>?_⟩,I.loc,I.cell,kn _ I.free,λx c q=>kn c (I.freeC x c q),λp hp=>?_,λb u q=>?_,I.len,?_⟩
 ·have z:=I.base.tups b xs q
  rw [zd (λy=>by subst y;rw [e] at z;cases z;exact h2 _ rfl)];exact z
 ·by_cases hb:b=a
  ·subst hb;exact absurd q (h5 ob u)
  ·rw [zd hb];exact I.base.frzs b ob u q
 ·obtain ⟨more,z⟩:=I.base.tbls b ps q
  exact ⟨more,by rw [zd (λy=>by subst y;rw [e] at z;cases z;exact h4 _ rfl)];exact z⟩
 ·obtain ⟨p1,p2,p3⟩:=I.pin p hp
  exact ⟨p1,kn _ p2,p3⟩
 ·by_cases hb:b=a
  ·subst hb;rw [zq] at q;cases q;exact new _
  ·rw [zd hb] at q
   exact (I.hok b u q).stay (λc z _ y=>y) (λc z=>by rw [zd (λy=>by subst y;rw [e] at z;cases z;exact h1 _ rfl)];exact z) (λc xs z=>by rw [zd (λy=>by subst y;rw [e] at z;cases z;exact h2 _ rfl)];exact z)
 ·rcases I.hdk with z|⟨b,ob,vs,q1,q2,q3⟩
  ·exact .inl z
  ·exact .inr ⟨b,ob,vs,q1,by rw [zd (λy=>by subst y;rw [e] at q2;cases q2;exact h3 _ rfl)];exact q2,q3⟩
theorem Inv.freeze(I:Inv X Ga σ H s)(e:H a=some (.dK kvs)):(∀ob u,X.H₀ a≠some (.frz ob u))/\∃o,Inv X Ga σ (upd H a (.frz o (.dK kvs))) s:=by
 have h5:∀ob u,X.H₀ a≠some (.frz ob u):=λob u q=>by
  have z:=I.base.frzs a ob u q
  rw [e] at z;cases z
 refine ⟨h5,?_⟩
 obtain ⟨z,hd,vs,rel,dd⟩:=zhr I.hok e
 obtain ⟨o,es,ep,ho,r⟩:=id dd
 exact ⟨o,I.swap e (λ_ q=>nomatch q) (λ_ q=>nomatch q) (λ_ q=>nomatch q) (λ_ q=>nomatch q) h5 λH'=>⟨ho,z,hd,vs,rel,dd⟩⟩
theorem Inv.thaw(I:Inv X Ga σ H s)(e:H a=some (.frz o (.dK kvs)))(h5:∀ob u,X.H₀ a≠some (.frz ob u)):Inv X Ga σ (upd H a (.dK kvs)) s:=by
 obtain ⟨ho,z⟩:=I.hok a _ e
 exact I.swap e (λ_ q=>nomatch q) (λ_ q=>nomatch q) (λ_ q=>by injection q with _ q;cases q) (λ_ q=>nomatch q) h5 λH'=>z
end
def zdl(a:Addr)(kvs:List (Key×V))(H:Hp)(R:Hp->Prop):Prop:=∃o,H a=some (.frz o (.dK kvs))/\R (upd H a (.dK kvs))
def zap.thaw(D:zap)(a:Addr)(kvs:List (Key×V)):zap:=⟨λσ H=>zdl a kvs H (D.nx σ),λv H=>zdl a kvs H (D.rt v),λσ H=>zdl a kvs H (D.bk σ),λσ H=>zdl a kvs H (D.ct σ)⟩
def tFz(t:TS):TS:=λD σ H=>∃a kvs,H a=some (.dK kvs)/\∀o,t (D.thaw a kvs) σ (upd H a (.frz o (.dK kvs)))
def zna(t:TE):TE:=λσ H Q=>∃a kvs,H a=some (.dK kvs)/\∀o,t σ (upd H a (.frz o (.dK kvs))) λv H'=>zdl a kvs H' (Q v)
theorem zyx{X:Cx}{st:Stmt}{t:TS}(h:PS X st t):PS X st (tFz t):=by
 rintro Ga s σ H D I ⟨a,kvs,e,q⟩
 obtain ⟨h5,o,I1⟩:=I.freeze e
 refine thn (h Ga s σ _ _ I1 (q o)) λf s' z=>?_
 cases f with
 | next=>obtain ⟨σ',H',I',o',e',d⟩:=z;exact ⟨σ',_,I'.thaw e' h5,d⟩
 | brk=>obtain ⟨σ',H',I',o',e',d⟩:=z;exact ⟨σ',_,I'.thaw e' h5,d⟩
 | cont=>obtain ⟨σ',H',I',o',e',d⟩:=z;exact ⟨σ',_,I'.thaw e' h5,d⟩
 | ret u=>obtain ⟨v,σ',H',I',r,o',e',d⟩:=z;exact ⟨v,σ',_,I'.thaw e' h5,r,d⟩
theorem KV.at{kvs:List (Key×V)}{vs:List (Key×Value)}(r:KV kvs vs):∀{i:Nat}{p:Key×V},kvs[i]?=some p->∃u,vs[i]?=some (p.1,u)/\zm p.2 u:=by
 induction r with
 | nil=>intro i p h;simp at h
 | @cons x y l m r t ih =>
  intro i p h
  cases i with
  | zero =>
   have e:x=p:=by simpa using h
   subst e
   exact ⟨y.2,by rw [r.1];rfl,r.2⟩
  | succ i=>exact ih (by simpa using h)
def Itd(a:Addr)(o:Obj)(kvs:List (Key×V)):It:=⟨λi H=>H a=some (.frz o (.dK kvs))/\i<kvs.length,λi H x H'=>H'=H/\∃p,kvs[i]?=some p/\x=kV p.1,λi H=>H a=some (.frz o (.dK kvs))/\kvs.length<=i⟩
def Itw(a:Addr)(o:Obj)(kvs:List (Key×V)):It:=⟨λi H=>H a=some (.frz o (.dK kvs))/\i<kvs.length,λi H x H'=>H'=H/\∃p,kvs[i]?=some p/\x=p.2,λi H=>H a=some (.frz o (.dK kvs))/\kvs.length<=i⟩
theorem zih{X:Cx}{Ga:List (Addr×Obj)}{σ:St}{H:Hp}{s:Shared}{a:Addr}{o:Obj}{kvs:List (Key×V)}{es:Array DictEntry}{ep:Nat}(I:Inv X Ga σ H s)(e:H a=some (.frz o (.dK kvs)))(hd:o.data = .dict es ep) :
  (a==sysModules)=false/\∃vs,KV kvs vs/\s.heap.DictAt (zaf X.prog X.w) a vs ep/\vs.length=kvs.length:=by
 obtain ⟨ho,z,hm,vs,rel,o',es',ep',ho',hc,hd',r⟩:=I.hok a _ e
 rw [ho] at ho'
 cases ho'
 rw [hd] at hd'
 cases hd'
 exact ⟨hm,vs,rel,⟨o,es,ho,hc,hd,r⟩,rel.length.symm⟩
theorem zyS{X:Cx}{Ga:List (Addr×Obj)}{σ:St}{H:Hp}{s:Shared}{a:Addr}{o:Obj}{kvs:List (Key×V)}(I:Inv X Ga σ H s)(e:H a=some (.frz o (.dK kvs))):∃es ep,o.data = .dict es ep:=by
 obtain ⟨ho,z,hm,vs,rel,o',es',ep',ho',hc,hd',r⟩:=I.hok a _ e
 rw [ho] at ho'
 cases ho'
 exact ⟨_,_,hd'⟩
theorem zvh{P:Program}{w:World}{K:PySem.W.Frag}{tg:Expr}(a it:Addr){o:Obj}{kvs:List (Key×V)}{es:Array DictEntry}{ep:Nat}(hd:o.data = .dict es ep):zc4 true P w K tg (Itd a o kvs) [it] it (λi h=>h.IsKeyIter it a i kvs.length ep) where
 mem:=by simp
 obj:=λi h st b hb=>by
  have e:b=it:=by simpa using hb
  subst e
  obtain ⟨o,e,c,d⟩:=st
  exact ⟨o,e,λv z=>by rw [d] at z;cases z⟩
 keep:=λi h h' st k=>st.at λo e=>k it (by simp) o e
 item:=by
  intro X hP hw hK hc i Ga s σ H E I hf st hg
  subst hP hw hK
  obtain ⟨hq,hi⟩:=hg
  obtain ⟨hm,vs,rel,dd,hl⟩:=zih I hq hd
  obtain ⟨p,hp⟩:∃p,kvs[i]?=some p:=⟨kvs[i],by simp [hi]⟩
  obtain ⟨u,hu,ru⟩:=rel.at hp
  obtain ⟨f0,f1,f2,f3,f4,f5⟩:=hf it (by simp)
  rw [<- hl] at st
  refine wpAny_pyNext_dict_item st dd hu λkey h' hk st' sb=>?_
  rw [hl] at st'
  have I1:Inv X Ga σ H { s with heap:=h' }:=I.turned (t':=s.toks) (λb o hb e=>(sb.2 b hb).trans e) f0 f1 f3 f4 f5
  have rk:zm (kV p.1) key:=by
   rcases zbq (show zb1 p.1 key=true from hk) with ⟨j,t,e1,e2⟩|⟨x,t,e1,e2⟩
   ·rw [e1,e2];exact ⟨t,rfl⟩
   ·rw [e1,e2];exact ⟨t,rfl⟩
  obtain ⟨o,e,c,d⟩:=id st'
  exact ⟨key,rfl,zf1 (s:={ s with heap:=h' }) e c d (by decide) ⟨kV p.1,H,I1,rk,⟨rfl,p,hp,rfl⟩,st',λb hb=>(hf b hb).1⟩⟩
 done:=by
  intro X hP hw hK hc i Ga s σ H E I hf st hg
  subst hP hw hK
  obtain ⟨hq,hi⟩:=hg
  obtain ⟨hm,vs,rel,dd,hl⟩:=zih I hq hd
  obtain ⟨f0,f1,f2,f3,f4,f5⟩:=hf it (by simp)
  rw [<- hl] at st
  exact wpAny_pyNext_dict_end (I.ok.hd (hc rfl)) st dd (getElem?_eq_none (by omega)) λh' eb=>⟨rfl,I.turned (t':=s.toks) (λb o hb e=>eb b o hb e) f0 f1 f3 f4 f5⟩
 self:=λ_ _ _ _ _ st h=>wpAny_pyIter_keyiter st h
section
variable {X:Cx}{tg:Expr}
def zfu(tl:TE):TI:=λσ H R=>tl σ H λx H1=>∃a o kvs,x = .ref a/\H1 a=some (.frz o (.dK kvs))/\R (Itd a o kvs) H1
def zka(tl:TE):TI:=λσ H R=>tl σ H λx H1=>∃a o kvs,x = .ref a/\H1 a=some (.frz o (.dK kvs))/\R (Itw a o kvs) H1
theorem zqP{l:Expr}{tl:TE}(hl:PE X l tl):PI X tg l (zfu tl):=by
 intro Ga s σ H R I h
 refine thn (hl Ga s σ H _ I h) λv s1 ⟨x,H1,I1,r1,q1⟩=>?_
 obtain ⟨a,o,kvs,e,hq,q⟩:=q1
 subst e
 cases r1
 obtain ⟨es,ep,hd⟩:=zyS I1 hq
 obtain ⟨hm,vs,rel,dd,hl⟩:=zih I1 hq hd
 refine wpAny_pyIter_dict hm dd ?_
 rw [hl]
 refine ⟨s1.heap.objs.size,[s1.heap.objs.size],_,_,H1,rfl,I1.kept (t':=s1.toks) λb o e=>get?_push_of_some _ e,zvh a _ hd,⟨_,get?_push_size _ rfl,rfl,rfl⟩,λb hb=>?_,q⟩
 have e:b=s1.heap.objs.size:=by simpa using hb
 subst e
 exact I1.fpOk (le_refl _) (I1.hok.fresh (le_refl _))
end
def uK(y:V)(q:Key->Prop):Prop:=∃k,y=kV k/\q k
theorem zox{z:Str}{q:Key->Prop}:uK (.str z) q=q (.inr z):=by
 apply propext;constructor
 ·rintro ⟨k,e,h⟩
  cases k with
  | inl i=>cases e
  | inr x=>cases e;exact h
 ·exact λh=>⟨.inr z,rfl,h⟩
theorem zsu{i:Int}{q:Key->Prop}:uK (.int i) q=q (.inl i):=by
 apply propext;constructor
 ·rintro ⟨k,e,h⟩
  cases k with
  | inl i=>cases e;exact h
  | inr x=>cases e
 ·exact λh=>⟨.inl i,rfl,h⟩
section
variable {X:Cx}
def zfp:R2:=λx y H Q=>∃a k kvs v,x = .ref a/\y=kV k/\Rd H a (.dK kvs)/\zN kvs k=some v/\Q v H
theorem zfW(hu:X.A.units+1<cLine):IxR X zfp:=by
 intro value slice Ga s σ H x y v u Q I rx ry h hs
 obtain ⟨a,k,kvs,z,rfl,rfl,hq,he,q⟩:=h
 obtain rfl:v=Value.ref a:=rx
 have g:zbK H a (kV k) (some z):=.inl ⟨kvs,k,hq,rfl,he.symm⟩
 unfold subscriptTail
 refine wpAny_bind ?_
 rw [getitemInPython_of_ne (zjV I g).not_modules]
 refine wpAny_bind (wpAny_specialOf (zjV I g) PySem.F.slot_dict_getitem.lookup ?_)
 have fin:wpAny (model X.prog X.w) X.A (subscripted slice false (.ref a) u) (λr s₃=>wpAny (model X.prog X.w) X.A (letTemporaryGo value (.ref a) r>>=λ_=>pure r) (EP X Ga σ Q) X.xe s₃) X.xe s:=by
  rw [hs]
  exact wpAny_operating (zy5 hu I g ry λw' s3 I3 rw'=>wpAny_bind (wpAny_letTemporaryGo (wpAny_pure ⟨z,H,I3,rw',q⟩)))
 first
  | exact wpAny_pure (wpAny_bind fin)
  | exact wpAny_bind (wpAny_pure (wpAny_bind fin))
  | exact wpAny_bind fin
def zfj:R2:=λx y H Q=>uIx x y H Q\/zfp x y H Q
theorem zts{a:Addr}{z:Str}{H:Hp}{Q:VK}:zfj (.ref a) (.str z) H Q = ∃kvs,Rd H a (.dK kvs)/\∃v,zN kvs (.inr z)=some v/\Q v H:=by
 apply propext;constructor
 ·rintro (h|⟨a',k,kvs,v,e1,e2,h1,h2,q⟩)
  ·rcases h with ⟨_,_,_,_,_,e,_⟩|⟨_,_,_,_,_,e,_⟩|⟨_,_,_,e,_⟩<;>cases e
  ·cases e1
   cases k with
   | inl i=>cases e2
   | inr x=>cases e2;exact ⟨kvs,h1,v,h2,q⟩
 ·rintro ⟨kvs,h1,v,h2,q⟩
  exact .inr ⟨a,.inr z,kvs,v,rfl,rfl,h1,h2,q⟩
theorem zu4{a:Addr}{i:Int}{H:Hp}{Q:VK}:zfj (.ref a) (.int i) H Q=((∃xs,(H a=some (.lst xs)\/H a=some (.tup xs))/\∃v,atI xs i=some v/\Q v H)\/∃kvs,Rd H a (.dK kvs)/\∃v,zN kvs (.inl i)=some v/\Q v H):=by
 apply propext
 unfold zfj
 rw [zcM]
 constructor
 ·rintro (h|⟨a',k,kvs,v,e1,e2,h1,h2,q⟩)
  ·exact .inl h
  ·cases e1
   cases k with
   | inl i=>cases e2;exact .inr ⟨kvs,h1,v,h2,q⟩
   | inr x=>cases e2
 ·rintro (h|⟨kvs,h1,v,h2,q⟩)
  ·exact .inl h
  ·exact .inr ⟨a,.inl i,kvs,v,rfl,rfl,h1,h2,q⟩
theorem zx5{x:Str}{i:Int}{H:Hp}{Q:VK}:zfj (.str x) (.int i) H Q=(x.length<=sizeLine/\∃c,atI x.cps.toList i=some c/\Q (.str ⟨#[c]⟩) H):=by
 rw [<- zgo]
 apply propext;constructor
 ·rintro (h|⟨a',k,kvs,v,e1,_⟩)
  ·exact h
  ·cases e1
 ·exact .inl
def zet(c:Bool):R2:=λy x H Q=>∃a k kvs,x = .ref a/\y=kV k/\Rd H a (.dK kvs)/\Q (.bl (if c then !(zN kvs k).isSome else (zN kvs k).isSome)) H
theorem zqU(hu:X.A.units+1<cLine):OpR X (compareOp .In) (zet false):=by
 intro Ga s σ H x y v u Q I rx ry h
 obtain ⟨a,k,kvs,rfl,rfl,hq,q⟩:=h
 obtain rfl:u=Value.ref a:=ry
 exact zq1 hu I (.inl ⟨kvs,k,hq,rfl,rfl⟩) rx λs3 I3=>⟨.bl (zN kvs k).isSome,H,I3,rfl,q⟩
theorem zoM(hu:X.A.units+1<cLine):OpR X (compareOp .NotIn) (zet true):=by
 intro Ga s σ H x y v u Q I rx ry h
 obtain ⟨a,k,kvs,rfl,rfl,hq,q⟩:=h
 obtain rfl:u=Value.ref a:=ry
 exact zsr hu I (.inl ⟨kvs,k,hq,rfl,rfl⟩) rx λs3 I3=>⟨.bl (!(zN kvs k).isSome),H,I3,rfl,q⟩
def zgM:R2:=λx y H Q=>uIn x y H Q\/zet false x y H Q
theorem znk{x y:Str}{H:Hp}{Q:VK}:zgM (.str x) (.str y) H Q=Q (.bl (!(Builtin.Str.occurrences y x 0 y.length 1).isEmpty)) H:=by
 rw [<- zlJ (x:=x) (y:=y) (H:=H) (Q:=Q)]
 apply propext;constructor
 ·rintro (h|⟨a,k,kvs,e,_⟩)
  ·exact h
  ·cases e
 ·exact .inl
theorem zmT{x:Str}{p:Addr}{H:Hp}{Q:VK}:zgM (.str x) (.ref p) H Q=((∃xs,(H p=some (.lst xs)\/H p=some (.tup xs))/\xs.all zP=true/\Q (.bl (inV (.str x) xs)) H)\/∃kvs,Rd H p (.dK kvs)/\Q (.bl (zN kvs (.inr x)).isSome) H):=by
 apply propext
 unfold zgM
 rw [zmm]
 constructor
 ·rintro (⟨xs,h,_,f,q⟩|⟨a,k,kvs,e1,e2,h,q⟩)
  ·exact .inl ⟨xs,h,f,q⟩
  ·cases e1
   cases k with
   | inl i=>cases e2
   | inr x=>cases e2;exact .inr ⟨kvs,h,q⟩
 ·rintro (⟨xs,h,f,q⟩|⟨kvs,h,q⟩)
  ·exact .inl ⟨xs,h,rfl,f,q⟩
  ·exact .inr ⟨p,.inr x,kvs,rfl,rfl,h,q⟩
theorem zyv{c:Bool}{x:Str}{p:Addr}{H:Hp}{Q:VK}:zet c (.str x) (.ref p) H Q = ∃kvs,Rd H p (.dK kvs)/\Q (.bl (if c then !(zN kvs (.inr x)).isSome else (zN kvs (.inr x)).isSome)) H:=by
 apply propext;constructor
 ·rintro ⟨a,k,kvs,e1,e2,h,q⟩
  cases e1
  cases k with
  | inl i=>cases e2
  | inr x=>cases e2;exact ⟨kvs,h,q⟩
 ·rintro ⟨kvs,h,q⟩;exact ⟨p,.inr x,kvs,rfl,rfl,h,q⟩
def zgO:List V->Hp->VK->Prop:=λxs H Q=>ze0 xs H Q\/∃a kvs,xs=[V.ref a]/\Rd H a (.dK kvs)/\Q (.int kvs.length) H
theorem zr1{a:Addr}{H:Hp}{Q:VK}:zgO [.ref a] H Q=((∃ys,(H a=some (.lst ys)\/H a=some (.tup ys))/\Q (.int ys.length) H)\/∃kvs,Rd H a (.dK kvs)/\Q (.int kvs.length) H):=by
 apply propext
 unfold zgO
 rw [zfs]
 constructor
 ·rintro (h|⟨a,kvs,e,h⟩)
  ·exact .inl h
  ·cases e;exact .inr ⟨kvs,h⟩
 ·rintro (h|⟨kvs,h⟩)
  ·exact .inl h
  ·exact .inr ⟨a,kvs,rfl,h⟩
theorem zuK{x:Str}{H:Hp}{Q:VK}:zgO [.str x] H Q=(x.length<=sizeLine/\Q (.int x.length) H):=by
 rw [<- zmx]
 apply propext;constructor
 ·rintro (h|⟨a,kvs,e,h⟩)
  ·exact h
  ·cases e
 ·exact .inl
def zeS:V->V->V->Hp->(Hp->Prop)->Prop:=λo i v H Q=>zgf o i v H Q\/∃a k kvs,o = .ref a/\i=kV k/\H a=some (.dK kvs)/\kvs.length<sizeLine/\Q (upd H a (.dK (zai kvs k v)))
theorem ze9(hu:X.A.units+1<cLine):zfL X zeS:=by
 intro Ga s σ H o i v ov iv u Q I ro ri rv h
 rcases h with h|⟨a,k,kvs,rfl,rfl,e,l,q⟩
 ·exact zdC Ga s σ H o i v ov iv u Q I ro ri rv h
 ·obtain rfl:ov=Value.ref a:=ro
  exact zvT hu I (.inl ⟨kvs,k,e,rfl,l,rfl⟩) ri rv λs' I'=>⟨_,I',q⟩
theorem zpj{a:Addr}{z:Str}{v:V}{H:Hp}{Q:Hp->Prop}:zeS (.ref a) (.str z) v H Q = ∃kvs,H a=some (.dK kvs)/\kvs.length<sizeLine/\Q (upd H a (.dK (zai kvs (.inr z) v))):=by
 apply propext;constructor
 ·rintro (⟨_,_,_,_,_,e,_⟩|⟨a',k,kvs,e1,e2,h,l,q⟩)
  ·cases e
  ·cases e1
   cases k with
   | inl i=>cases e2
   | inr x=>cases e2;exact ⟨kvs,h,l,q⟩
 ·rintro ⟨kvs,h,l,q⟩;exact .inr ⟨a,.inr z,kvs,rfl,rfl,h,l,q⟩
theorem zk4{a:Addr}{i:Int}{v:V}{H:Hp}{Q:Hp->Prop}:zeS (.ref a) (.int i) v H Q=((∃xs j,H a=some (.lst xs)/\ixN xs.length i=some j/\Q (upd H a (.lst (xs.set j v))))\/∃kvs,H a=some (.dK kvs)/\kvs.length<sizeLine/\Q (upd H a (.dK (zai kvs (.inl i) v)))):=by
 apply propext
 unfold zeS
 rw [zko]
 constructor
 ·rintro (h|⟨a',k,kvs,e1,e2,h,l,q⟩)
  ·exact .inl h
  ·cases e1
   cases k with
   | inl i=>cases e2;exact .inr ⟨kvs,h,l,q⟩
   | inr x=>cases e2
 ·rintro (h|⟨kvs,h,l,q⟩)
  ·exact .inl h
  ·exact .inr ⟨a,.inl i,kvs,rfl,rfl,h,l,q⟩
def zio(td ty:TE):TS:=λD σ H=>td σ H λx H1=>ty σ H1 λy H2=>uR x λa=>uK y λk=>∃kvs,H2 a=some (.dK kvs)/\(zN kvs k).isSome=true/\D.nx σ (upd H2 a (.dK (zaH kvs k)))
theorem zr5{o i:Expr}{td ty:TE}{tpos pos:Pos}(ho:PE X o td)(hi:PE X i ty):PS X (.Delete [.Subscript o i tpos] pos) (zio td ty):=by
 intro Ga s σ H D I h
 refine wpAny_Delete (wpAny_deleteEach_cons (wpAny_delete_Subscript (thn (ho Ga s σ H _ I h) λu s1 ⟨x,H1,I1,rx,q1⟩=>thn (hi Ga s1 σ H1 _ I1 q1) λiv s2 ⟨y,H2,I2,ry,a,ex,k,ey,kvs,e,l,q2⟩=>?_)))
 subst ex ey
 obtain rfl:u=Value.ref a:=rx
 exact zpc I2 e ry l λs3 I3=>wpAny_deleteEach_nil ⟨σ,_,I3,q2⟩
theorem zwF{td ty:TE}{D:zap}{σ:St}{H:Hp}:zio td ty D σ H=td σ H λx H1=>ty σ H1 λy H2=>uR x λa=>uK y λk=>∃kvs,H2 a=some (.dK kvs)/\(zN kvs k).isSome=true/\D.nx σ (upd H2 a (.dK (zaH kvs k))):=rfl
def zhy(td ty tx:TE):TE:=λσ H Q=>td σ H λx H1=>uR x λa=>(∃kvs,Rd H1 a (.dK kvs))/\ty σ H1 λy H2=>tx σ H2 λz H3=>uK y λk=>∃kvs,Rd H3 a (.dK kvs)/\Q ((zN kvs k).getD z) H3
theorem zoJ{td ty tx:TE}{σ:St}{H:Hp}{Q:VK}:zhy td ty tx σ H Q=td σ H λx H1=>uR x λa=>(∃kvs,Rd H1 a (.dK kvs))/\ty σ H1 λy H2=>tx σ H2 λz H3=>uK y λk=>∃kvs,Rd H3 a (.dK kvs)/\Q ((zN kvs k).getD z) H3:=rfl
theorem zwi{o e f:Expr}{td ty tx:TE}{apos cpos:Pos}(hu:X.A.units+1<cLine)(ho:PE X o td)(he:PE X e ty)(hf:PE X f tx)(m:M2 X o "get" apos e f cpos:=by exact ⟨rfl,rfl,rfl,rfl⟩):PE X (.Call (.Attribute o "get" apos) [e,f] [] cpos) (zhy td ty tx):=by
 intro Ga s σ H Q I h
 refine wpAny_Call_method m.base m.few m.line PySem.F.plainAttrs_dict slot_dict_get PySem.F.type_dict_get (thn (ho Ga s σ H _ I h) λu s1 ⟨x,H1,I1,rx,a,ex,d,q1⟩=>?_)
 subst ex
 obtain rfl:u=Value.ref a:=rx
 obtain ⟨t1,t2,_⟩:=zxZ I1 (.inl d)
 refine ⟨t1,t2,?_⟩
 rw [m.trees]
 refine Calls.callWith_builtin rfl (Calls.evalArgs_plain (Calls.spliced_cons (thn (he Ga s1 σ H1 _ I1 q1) λiv s2 ⟨y,H2,I2,ry,q2⟩ =>
  Calls.spliced_cons (thn (hf Ga s2 σ H2 _ I2 q2) λfv s3 ⟨z,H3,I3,rz,k,ey,kvs,g,q3⟩=>Calls.spliced_nil ?_))))
 subst ey
 exact zsN hu I3 (.inl ⟨kvs,k,g,rfl,rfl⟩) ry rz λw' s4 I4 rw'=>⟨_,H3,I4,rw',q3⟩
def zr4(td ty:TE):TE:=λσ H Q=>td σ H λx H1=>uR x λa=>(∃kvs,Rd H1 a (.dK kvs))/\ty σ H1 λy H2=>uK y λk=>∃kvs,H2 a=some (.dK kvs)/\∃v,zN kvs k=some v/\Q v (upd H2 a (.dK (zaH kvs k)))
theorem zuZ{td ty:TE}{σ:St}{H:Hp}{Q:VK}:zr4 td ty σ H Q=td σ H λx H1=>uR x λa=>(∃kvs,Rd H1 a (.dK kvs))/\ty σ H1 λy H2=>uK y λk=>∃kvs,H2 a=some (.dK kvs)/\∃v,zN kvs k=some v/\Q v (upd H2 a (.dK (zaH kvs k))):=rfl
end
end L2
namespace L2
open PySem PySem.Spec PyProof.Rows PySem.W PySem.Calls
def leS(a b:Str):Prop:=ltCps b.cps.toList a.cps.toList=false
theorem zsY{a b:Str}(h1:leS a b)(h2:leS b a):a=b:=by
 unfold leS at h1 h2
 rw [ltCps_eq] at h1 h2
 exact zfy (PyProof.Rows.strKind.total a.cps.toList b.cps.toList h2 h1)
theorem zk0:∀{l:List Str},sortedS l=true->l.Pairwise leS:=by
 have key:∀(r:List Str)(x:Str),risingS x r=true->(x::r).Pairwise leS:=by
  intro r
  induction r with
  | nil=>intro x _;simp
  | cons y r ih =>
   intro x h
   have h':(!ltCps y.cps.toList x.cps.toList&&risingS y r)=true:=h
   rw [and_eq_true,Bool.not_eq_true'] at h'
   have ihy:=ih y h'.2
   refine pairwise_cons.mpr ⟨λz hz=>?_,ihy⟩
   rcases mem_cons.mp hz with rfl|hz
   ·exact h'.1
   ·have yz:=(pairwise_cons.mp ihy).1 z hz
    unfold leS at yz ⊢
    have xy:=h'.1
    rw [ltCps_eq] at yz xy ⊢
    exact KeyOrd.kle_trans (O:=PyProof.Rows.strKind.toKeyOrd) xy yz
 intro l h
 cases l with
 | nil=>exact .nil
 | cons x r=>exact key r x h
theorem zk7:∀{l m:List Str},l.Perm m->l.Pairwise leS->m.Pairwise leS->l=m
 | [],m,p,_,_=>(List.Perm.nil_eq p)
 | x::l,[],p,_,_=>absurd p.length_eq (by simp)
 | x::l,y::m,p,hl,hm=>by
  have e:x=y:=by
   have h1:x∈y::m:=p.mem_iff.mp (mem_cons_self ..)
   have h2:y∈x::l:=p.mem_iff.mpr (mem_cons_self ..)
   rcases mem_cons.mp h1 with e|h1
   ·exact e
   ·rcases mem_cons.mp h2 with e|h2
    ·exact e.symm
    ·exact zsY ((pairwise_cons.mp hl).1 y h2) ((pairwise_cons.mp hm).1 x h1)
  subst e
  rw [zk7 ((List.perm_cons x).mp p) (pairwise_cons.mp hl).2 (pairwise_cons.mp hm).2]
open Classical in
noncomputable def zbe(ks:List Str):List Str:=if h:∃ss:List Str,ss.Perm ks/\sortedS ss=true then h.choose else ks
theorem zjJ{ks ss:List Str}(p:ss.Perm ks)(h:sortedS ss=true):ss=zbe ks:=by
 have ex:∃ss:List Str,ss.Perm ks/\sortedS ss=true:=⟨ss,p,h⟩
 unfold zbe
 rw [dif_pos ex]
 exact zk7 (p.trans ex.choose_spec.1.symm) (zk0 h) (zk0 ex.choose_spec.2)
section
variable {X:Cx}
def zkw:List V->Hp->VK->Prop:=λxs H Q=>uR1 xs λa=>∃kvs,Rd H a (.dK kvs)/\∀p H2,New H p (.dK kvs) H2->Q (.ref p) H2
theorem zxx{a:Addr}{H:Hp}{Q:VK}:zkw [.ref a] H Q = ∃kvs,Rd H a (.dK kvs)/\∀p H2,New H p (.dK kvs) H2->Q (.ref p) H2:=zb2
theorem zkx:zK X (.type "dict") zkw:=by
 intro Ga s σ H xs us Q I r h
 obtain ⟨a,rfl,kvs,ha,q⟩:=h
 obtain ⟨u,rfl,ru⟩:=za6 r
 cases ru
 exact zqx I ha λp s' hn I'=>⟨.ref p,_,I',rfl,q _ _ (.mk' hn)⟩
def sk(kvs:List (Str×V)):List (Key×V):=kvs.map λp=>(.inr p.1,p.2)
def zi5:List V->Hp->VK->Prop:=λxs H Q=>uR1 xs λa=>∃kvs:List (Str×V),Rd H a (.dK (sk kvs))/\kvs.length<64/\∀p H2,New H p (.lst ((zbe (kvs.map (·.1))).map V.str)) H2->Q (.ref p) H2
theorem zpr{a:Addr}{H:Hp}{Q:VK}:zi5 [.ref a] H Q = ∃kvs:List (Str×V),Rd H a (.dK (sk kvs))/\kvs.length<64/\∀p H2,New H p (.lst ((zbe (kvs.map (·.1))).map V.str)) H2->Q (.ref p) H2:=zb2
theorem zkE:∀{vs:List Value}{ss:List Str},vs.length=ss.length->(∀(j:Nat)(v:Value),vs[j]?=some v->∃t,v=Value.str (ss.getD j "") t)->StrsAre vs ss
 | [],[],_,_=>.nil
 | [],_::_,h,_=>absurd h (by simp)
 | _::_,[],h,_=>absurd h (by simp)
 | v::vs,x::ss,h,f=>by
  obtain ⟨t,e⟩:=f 0 v rfl
  have e':v=Value.str x t:=e
  rw [e']
  exact .cons x t (zkE (by simpa using h) λj u hu=>f (j+1) u hu)
theorem zlN:∀{vs:List Value}{ss:List Str},StrsAre vs ss->zj (ss.map V.str) vs
 | _,_,.nil=>.nil
 | _,_,.cons x t h=>.cons ⟨t,rfl⟩ (zlN h)
theorem zyQ(hc:X.calm=true):zK X (.builtin "sorted") zi5:=by
 intro Ga s σ H xs us Q I r h
 obtain ⟨a,rfl,kvs,hq,h64,q⟩:=h
 obtain ⟨u,rfl,ru⟩:=za6 r
 cases ru
 obtain ⟨z,hd,vs,rel,dd⟩:=zbJ I.hok hq
 obtain ⟨ep,hat⟩:=dd.dictAt
 have hlen:vs.length=kvs.length:=by rw [<- rel.length];simp [sk]
 refine call_function_entry kind_sorted plain_sorted entry_sorted (args_sorted1 _) ?_
 unfold Builtin.«sorted»
 refine wpAny_bind (m:=checkCount "sorted" 1 1 _) (wpAny_pure ?_)
 refine wpAny_bind (kdu_collect (A:=X.A.in1) (kdl_dict (knd:=zaf X.prog X.w) (kvs:=vs) (ep:=ep) hd) (I.ok.hd hc) hat (by rw [hlen,sizeLine_eq];omega) λh' tk acc hk hacc=>?_)
 have hl:acc.toList.length=kvs.length:=by rw [length_toList,<- hlen];exact hacc.1
 have hS:StrsAre acc.toList (kvs.map (·.1)):=zkE (by rw [hl,length_map]) λj v hv=>by
  obtain ⟨k,x,hx,hk⟩:=hacc.2 j v (by rw [<- getElem?_toList];exact hv)
  have hj:j<vs.length:=(List.getElem?_eq_some_iff.mp hx).1
  have hj':j<kvs.length:=by omega
  have e2:(sk kvs)[j]?=some (.inr kvs[j].1,kvs[j].2):=by simp [sk,hj']
  obtain ⟨u',hu',_⟩:=rel.at e2
  rw [hx] at hu'
  cases hu'
  rcases zbq (show zb1 (Sum.inr kvs[j].1) v=true from hk) with ⟨i,t,e1,e2⟩|⟨y,t,e1,e2⟩
  ·cases e1
  ·cases e1
   exact ⟨t,by rw [e2,getD_eq_getElem?_getD,getElem?_map,List.getElem?_eq_getElem hj'];rfl⟩
 have I1:Inv X Ga σ H { s with heap:=h',toks:=tk }:=I.kept hk
 refine wpAny_bind (wpAny_newList ?_ (by rw [hl,sizeLine_eq];omega))
 have hoL:(h'.push (seqObj "list" acc.toList.toArray 0)).get? h'.objs.size=some (seqObj "list" acc.toList.toArray 0):=get?_push_size _ rfl
 refine wpAny_bind (wpAny_holding (wpAny_call_entry slot_list_sort ⟨_,hoL,rfl⟩ entry_list_sort (list_sort_treeK strKind_oneLt hoL hS.keysOf (λv₁ v₂ zab e=>keyKind_strs (by rw [<- e];exact hS)) (by rw [hl];exact h64) λst' a1 a2=>⟨_,rfl,?_⟩) (args_list_sort _)))
 obtain ⟨ss',b1,b2,b3⟩:=sorted_out_str hS a1 a2
 have e3:=zjJ b2 b3
 subst e3
 obtain ⟨c,hcz⟩:=sortedHeap_at (vs:=acc.toList) (out:=(arrOf st').map (·.2)) hoL
 refine wpAny_pure ⟨_,rfl,.ref h'.objs.size,upd H h'.objs.size (.lst ((zbe (kvs.map (·.1))).map V.str)),I1.laid (a:=h'.objs.size) (t':=tk) (λb o e=>?_) (le_refl _) ⟨?_,((arrOf st').map (·.2)).toList,c,zlN b1,by rw [Array.toArray_toList];exact hcz⟩,rfl,q _ _ (.mk' (I1.hok.fresh (le_refl _)))⟩
 ·have hb:b<h'.objs.size:=lt_size e
  rw [sortedHeap_old (ne_of_lt hb) (by rw [size_push'];exact lt_succ_of_lt hb)]
  exact get?_push_of_some _ e
 ·have:=b2.length_eq
  rw [length_map,this,length_map,sizeLine_eq]
  omega
def ztw(to:TE):TE:=λσ H Q=>to σ H λx H1=>uR x λa=>∃kvs,Rd H1 a (.dK kvs)/\∀v H2,New H1 v (.ext λh=>h.IsValuesView v a) H2->Q (.ref v) H2
theorem zrj{to:TE}{σ:St}{H:Hp}{Q:VK}:ztw to σ H Q=to σ H λx H1=>uR x λa=>∃kvs,Rd H1 a (.dK kvs)/\∀v H2,New H1 v (.ext λh=>h.IsValuesView v a) H2->Q (.ref v) H2:=rfl
def zsm:List V->Hp->VK->Prop:=λxs H Q=>uR1 xs λv=>∃a kvs,H v=some (.ext λh=>h.IsValuesView v a)/\Rd H a (.dK kvs)/\∀p H2,New H p (.lst (kvs.map (·.2))) H2->Q (.ref p) H2
theorem znN{v:Addr}{H:Hp}{Q:VK}:zsm [.ref v] H Q = ∃a kvs,H v=some (.ext λh=>h.IsValuesView v a)/\Rd H a (.dK kvs)/\∀p H2,New H p (.lst (kvs.map (·.2))) H2->Q (.ref p) H2:=zb2
end
end L2
namespace HT
open PySem PySem.Spec PyProof.Rows PySem.Calls
section
variable {prog:Program}{w:World}{A:Around}{E:Value->Shared->Prop}{s:Shared}
theorem getItem_tuple_whole{t sl:Addr}{items:Array Value}{vl vu:Value}{lo hi:Option Int}{Q:Value->Shared->Prop}(ht:IsTup s.heap t items)(hs:s.heap.IsSliceOf sl vl vu .none)(pl:IsPart vl lo)(pu:IsPart vu hi)
  (h0:sIx items.size 0 lo=0) (h1:sIx items.size items.size hi=items.size)
  (h:Q (.ref t) s):wpAny (model prog w) A (getItem (.ref t) (.ref sl)) Q E s:=by
 obtain ⟨os,hos,hcs,hds⟩:=id hs
 have hTs:s.TypeIs (.ref sl) "slice":=⟨os,hos,hcs⟩
 unfold getItem
 try with_reducible refine wpAny_holding ?_
 first|refine wpAny_bind (wpAny_pure ?_)|skip
 refine wpAny_bind (wpAny_sequenceKey ht.typeIs (by decide) ?_)
 refine wpAny_bind (wpAny_callSpecial?_slot (name:=Str.ofString "__getitem__") ht.typeIs PyProof.Rows.slot_tuple_getitem
  (wpAny_call_entry PyProof.Rows.slot_tuple_getitem ht.typeIs entry_tuple_getitem ?_ (args_tuple_getitem _ _)))
 show wpAny _ _ (Builtin.Tuple.tupleItemsOf (.ref t)>>=_) _ _ s
 refine wpAny_bind (tupleItemsOf_ ht ?_)
 refine wpAny_bind (wpAny_typeOf hTs ?_)
 rw [if_pos (by decide)]
 refine wpAny_bind (zlz hs pl pu ?_)
 have hyes:(((sIx items.size 0 lo:Nat):Int)==0&&(1:Int)==1&&(sIx items.size items.size hi-sIx items.size 0 lo)==items.size)=true:=by
  rw [h0,h1];simp
 show wpAny _ _ (if (((sIx items.size 0 lo:Nat):Int)==0&&(1:Int)==1&&(sIx items.size items.size hi-sIx items.size 0 lo)==items.size)=true then _ else _) _ _ s
 rw [if_pos hyes]
 have hex:∀{R:Bool->Shared->Prop}{A':Around}{E':Value->Shared->Prop},R true s->wpAny (model prog w) A' (Builtin.Tuple.tupleIsExact (.ref t)) R E' s:=λ{R A' E'} hr=>by
  unfold Builtin.Tuple.tupleIsExact
  first
   | exact wpAny_bind (wpAny_typeOf ht.typeIs (wpAny_pure hr))
   | exact wpAny_map (wpAny_typeOf ht.typeIs hr)
 refine wpAny_bind (hex ?_)
 first
  | exact wpAny_bind (wpAny_rule (wpAny_bind (wpAny_pure (wpAny_pure ⟨_,rfl,wpAny_pure h⟩))))
  | exact wpAny_bind (wpAny_rule (wpAny_pure ⟨_,rfl,wpAny_pure h⟩))
  | exact wpAny_bind (wpAny_rule (wpAny_bind (wpAny_pure ⟨_,rfl,wpAny_pure h⟩)))
end
end HT
namespace L2
open PySem PySem.Spec PyProof.Rows PySem.W PySem.Calls
section
variable {X:Cx}
def zel:V->Option Int->Option Int->Hp->VK->Prop:=λx lo hi H Q=>uSl x lo hi H Q\/∃a xs,x = .ref a/\H a=some (.tup xs)/\∀p H2,zl H H2->H2 p=some (.tup (zaw xs lo hi))->Q (.ref p) H2
theorem zib:SlR X zel:=by
 intro Ga s σ H x v vl vu lo hi sl Q I rx hs pl pu h
 rcases h with h|⟨a,xs,rfl,hx,q⟩
 ·exact zfI Ga s σ H x v vl vu lo hi sl Q I rx hs pl pu h
 ·by_cases hw:HT.sIx xs.length 0 lo=0/\HT.sIx xs.length xs.length hi=xs.length
  ·cases rx
   obtain ⟨its,r,ht,hz⟩:=I.tuple (SqT.of hx)
   have hlen:its.toArray.size=xs.length:=by rw [size_toArray];exact r.length.symm
   refine ⟨"tuple",_,PyProof.Rows.slot_tuple_getitem.lookup,ht.typeIs,?_⟩
   refine HT.getItem_tuple_whole ht hs pl pu (by rw [hlen];exact hw.1) (by rw [hlen];exact hw.2) ⟨.ref a,H,I,rfl,q a H (zl.refl _) ?_⟩
   rw [hx]
   unfold zaw
   rw [hw.1,hw.2]
   simp
  ·exact zrG Ga s σ H _ v vl vu lo hi sl Q I rx hs pl pu ⟨a,xs,rfl,SqT.of hx,hw,λp hp=>q p _ (New.mk' (o:=.tup (zaw xs lo hi)) hp).same zq⟩
theorem zoP{z:Str}{lo hi:Option Int}{H:Hp}{Q:VK}:zel (.str z) lo hi H Q=(z.length<=sizeLine/\Q (.str (Txt.slice z lo hi)) H):=by simp [zel,zl1]
theorem zv6{a:Addr}{lo hi:Option Int}{H:Hp}{Q:VK}:zel (.ref a) lo hi H Q=((∃xs,H a=some (.lst xs)/\∀p H2,New H p (.lst (zaw xs lo hi)) H2->Q (.ref p) H2)\/∃xs,H a=some (.tup xs)/\∀p H2,zl H H2->H2 p=some (.tup (zaw xs lo hi))->Q (.ref p) H2):=by
 unfold zel
 rw [zg2]
 apply propext;constructor
 ·rintro (h|⟨a',xs,e,h⟩)
  ·exact .inl h
  ·cases e;exact .inr ⟨xs,h⟩
 ·rintro (h|⟨xs,h⟩)
  ·exact .inl h
  ·exact .inr ⟨a,xs,rfl,h⟩
def zeA:R2:=λx y H Q=>∃a b xs ys,x = .ref a/\y = .ref b/\H a=some (.tup xs)/\H b=some (.tup ys)/\xs.length+ys.length<=sizeLine/\∀p H2,zl H H2->H2 p=some (.tup (xs++ys))->Q (.ref p) H2
theorem zyX:OpR X (binaryOp .Add) zeA:=by
 intro Ga s σ H x y v u Q I rx ry h
 obtain ⟨a,b,xs,ys,rfl,rfl,ha,hb,hz,q⟩:=h
 by_cases hx:xs=[]
 ·cases rx
  cases ry
  obtain ⟨its,r1,p1,_⟩:=I.tuple (SqT.of ha)
  obtain ⟨its2,r2,p2,_⟩:=I.tuple (SqT.of hb)
  obtain ⟨⟨cls,dd,data,sl⟩,ho,hc,n,hd⟩:=id p1
  obtain ⟨⟨cls2,dd2,data2,sl2⟩,ho2,hc2,n2,hd2⟩:=id p2
  simp only at hc hd hc2 hd2
  subst hc hd hc2 hd2
  have hi:its=[]:=r1.nil_iff.mpr hx
  exact concat_meets ⟨_,ho,rfl⟩ ⟨_,ho2,rfl⟩ noFill_tuple_add seq_tuple_add slot_tuple_add entry_tuple_add (args_tuple_add_2 _ _)
   (tuple_addW0 a b its.toArray its2.toArray n n2 dd dd2 sl sl2 (by simp [hi])) ⟨ho,ho2,⟨.ref b,H,I,rfl,q b H (zl.refl _) (by rw [hb,hx];rfl)⟩⟩
 ·exact zwd Ga s σ H _ _ v u Q I rx ry ⟨a,b,xs,ys,rfl,rfl,SqT.of ha,SqT.of hb,hx,hz,λe=>q a H (zl.refl _) (by rw [ha,e,append_nil]),λ_ p hp=>q p _ (New.mk' (o:=.tup (xs++ys)) hp).same zq⟩
def zc6:R2:=λx y H Q=>zbr x y H Q\/zeA x y H Q
theorem zfY:OpR X (binaryOp .Add) zc6:=zau.or zyX
theorem zyO{i j:Int}{H:Hp}{Q:VK}:zc6 (.int i) (.int j) H Q=Q (.int (i+j)) H:=by simp [zc6,zeA,zbr]
theorem zuJ{i j:Str}{H:Hp}{Q:VK}:zc6 (.str i) (.str j) H Q=(i.length+j.length<=sizeLine/\Q (.str (i++j)) H):=by simp [zc6,zeA,zbr]
theorem znH{a b:Addr}{H:Hp}{Q:VK}:zc6 (.ref a) (.ref b) H Q=((∃xs zs,H a=some (.lst xs)/\H b=some (.lst zs)/\xs.length+zs.length<=sizeLine/\∀p H2,New H p (.lst (xs++zs)) H2->Q (.ref p) H2) \/
  ∃xs ys,H a=some (.tup xs)/\H b=some (.tup ys)/\xs.length+ys.length<=sizeLine/\∀p H2,zl H H2->H2 p=some (.tup (xs++ys))->Q (.ref p) H2):=by
 unfold zc6
 rw [zdm]
 apply propext;constructor
 ·rintro (h|⟨a',b',xs,ys,e1,e2,h⟩)
  ·exact .inl h
  ·cases e1;cases e2;exact .inr ⟨xs,ys,h⟩
 ·rintro (h|⟨xs,ys,h⟩)
  ·exact .inl h
  ·exact .inr ⟨a,b,xs,ys,rfl,rfl,h⟩
def zjg:List V->Hp->VK->Prop:=λxs H Q=>∃i j,xs=[.int i,.int j]/\(0<j/\j<2 ^ 64)/\∀p H2,New H p (.tup [.int (i / j),.int (i % j)]) H2->Q (.ref p) H2
theorem zvI{i j:Int}{H:Hp}{Q:VK}:zjg [.int i,.int j] H Q=((0<j/\j<2 ^ 64)/\∀p H2,New H p (.tup [.int (i / j),.int (i % j)]) H2->Q (.ref p) H2):=by
 apply propext;constructor
 ·rintro ⟨i',j',e,h⟩;cases e;exact h
 ·exact λh=>⟨i,j,rfl,h⟩
theorem zo3:zK X (.builtin "divmod") zjg:=by
 intro Ga s σ H xs us Q I r h
 obtain ⟨i,j,rfl,⟨h1,h2⟩,q⟩:=h
 obtain ⟨u,w',rfl,⟨t,rfl⟩,⟨t',rfl⟩⟩:=zgs r
 have hlog:j.natAbs.log2<9000:=by
  have:j.natAbs.log2<64:=(Nat.log2_lt (by omega)).mpr (by omega)
  omega
 refine divmod_int (by omega) ?_ (.inl (PyProof.noPylong_of_log2 hlog))
 rw [Int.fdiv_eq_ediv_of_nonneg i (by omega),Int.fmod_eq_emod_of_nonneg i (by omega)]
 have hn:H s.heap.objs.size=none:=I.hok.fresh (le_refl _)
 refine ⟨.ref s.heap.objs.size,_,?_,rfl,q _ _ (.mk' hn)⟩
 refine I.laid (λb o e=>get?_push_of_some _ e) (le_refl _) ⟨by simp only [length_cons,length_nil];rw [sizeLine_eq];decide,[.int (i / j) s.toks,.int (i % j) (s.toks+1)],.cons ⟨_,rfl⟩ (.cons ⟨_,rfl⟩ .nil),?_⟩
 exact ⟨_,get?_push_size s.heap rfl,rfl,0,rfl⟩
def zfx:R2:=λx y H Q=>rI0 (λi j=>.bl (decide (i<=j))) x y H Q\/∃i j,x = .str i/\y = .str j/\Q (.bl (!decide (j.cps.toList<i.cps.toList))) H
theorem zwL{i j:Int}{H:Hp}{Q:VK}:zfx (.int i) (.int j) H Q=Q (.bl (decide (i<=j))) H:=by simp [zfx,rI0]
theorem ztH{i j:Str}{H:Hp}{Q:VK}:zfx (.str i) (.str j) H Q=Q (.bl (!decide (j.cps.toList<i.cps.toList))) H:=by simp [zfx,rI0]
def ziM:TS:=λ_ _ _=>False
theorem zng{st:Stmt}:PS X st ziM:=λ_ _ _ _ _ _ h=>h.elim
def zoH(to te:TE):TE:=λσ H Q=>to σ H λx H1=>uR x λl=>(∃xs,H1 l=some (.lst xs))/\te σ H1 λy H2=>uR y λb=>∃xs zs,H2 l=some (.lst xs)/\H2 b=some (.lst zs)/\xs.length+zs.length<=sizeLine/\Q .non (upd H2 l (.lst (xs++zs)))
theorem ztO{to te:TE}{σ:St}{H:Hp}{Q:VK}:zoH to te σ H Q=to σ H λx H1=>uR x λl=>(∃xs,H1 l=some (.lst xs))/\te σ H1 λy H2=>uR y λb=>∃xs zs,H2 l=some (.lst xs)/\H2 b=some (.lst zs)/\xs.length+zs.length<=sizeLine/\Q .non (upd H2 l (.lst (xs++zs))):=rfl
end
section
variable {K:PySem.W.Frag}{g:TG}{tb:TS}{D:zap}{σ:St}{H:Hp}{tl:TE}{R:It->Hp->Prop}{tt:TT}{te:TE}{Q:VK}{a:Addr}{o:Obj}{kvs:List (Key×V)}
theorem zp0:zfu tl σ H R=tl σ H λx H1=>uR x λa=>∃o kvs,H1 a=some (.frz o (.dK kvs))/\R (Itd a o kvs) H1:=by
 unfold zfu uR
 congr;funext x H1
 apply propext;constructor
 ·rintro ⟨a,o,kvs,e,h⟩;exact ⟨a,e,o,kvs,h⟩
 ·rintro ⟨a,e,o,kvs,h⟩;exact ⟨a,o,kvs,e,h⟩
theorem zwz:zka tl σ H R=tl σ H λx H1=>uR x λa=>∃o kvs,H1 a=some (.frz o (.dK kvs))/\R (Itw a o kvs) H1:=by
 unfold zka uR
 congr;funext x H1
 apply propext;constructor
 ·rintro ⟨a,o,kvs,e,h⟩;exact ⟨a,e,o,kvs,h⟩
 ·rintro ⟨a,e,o,kvs,h⟩;exact ⟨a,o,kvs,e,h⟩
theorem zad.dct(Pv:Nat->St->Hp->Prop)(h0:Pv 0 σ H)(hl:∀i σ H,i<=kvs.length->Pv i σ H->H a=some (.frz o (.dK kvs)))
  (hs:∀i p σ H,kvs[i]?=some p->Pv i σ H->g (kV p.1) σ H λσ2 H2=>tb { D with nx:=Pv (i+1),ct:=Pv (i+1),bk:=D.nx } σ2 H2) (hd:∀σ H,Pv kvs.length σ H->D.nx σ H):zad (Itd a o kvs) g tb D σ H:=by
 refine ⟨λi m σ H=>m=kvs.length-i/\i<=kvs.length/\Pv i σ H,⟨kvs.length,by simp,zero_le _,h0⟩,?_⟩
 rintro i m σ H ⟨rfl,hi,p⟩
 have q:=hl i σ H hi p
 by_cases hlt:i<kvs.length
 ·refine .inr ⟨⟨q,hlt⟩,Pv (i+1),λσ' H' p'=>⟨kvs.length-(i+1),by omega,rfl,hlt,p'⟩,λx H' y=>?_⟩
  obtain ⟨e,z,hz,ex⟩:=y
  subst e ex
  exact hs i z σ _ hz p
 ·have e:i=kvs.length:=by omega
  subst e
  exact .inl ⟨⟨q,le_refl _⟩,hd σ H p⟩
theorem zV.dct{τ:St}(Pv:Nat->St->List V->Hp->Prop)(hz:∀i τ ys H,Pv i τ ys H->ys.length<sizeLine)(ha:∀i τ ys H,Pv i τ ys H->H a=some (.frz o (.dK kvs)))(h0:Pv 0 τ [] H)
  (hs:∀(N:St->List V->Hp->Prop) i p τ ys H,kvs[i]?=some p->Pv i τ ys H->(∀τ ys H,Pv (i+1) τ ys H->N τ ys H)->g (kV p.1) τ H λτ1 H4=>tt τ1 H4 λok H5=>zbE N ys τ1 te ok H5) (hd:∀τ ys H,Pv kvs.length τ ys H->∀D H',New H D (.lst ys) H'->Q (.ref D) H'):zV (Itd a o kvs) g tt te τ H Q:=by
 refine ⟨λi m τ ys H=>m=kvs.length-i/\i<=kvs.length/\Pv i τ ys H,⟨kvs.length,by simp,zero_le _,h0⟩,?_⟩
 rintro i m τ ys H2 ⟨rfl,hi,p⟩
 refine ⟨hz i τ ys H2 p,?_⟩
 have q:=ha i τ ys H2 p
 by_cases hlt:i<kvs.length
 ·refine .inr ⟨⟨q,hlt⟩,λx H' y=>?_⟩
  obtain ⟨e,z,hz,ex⟩:=y
  subst e ex
  exact hs (λτ1 ys H=>∃m',m'<kvs.length-i/\m'=kvs.length-(i+1)/\i+1<=kvs.length/\Pv (i+1) τ1 ys H) i z τ ys _ hz p λτ1 zs H q=>⟨kvs.length-(i+1),by omega,rfl,hlt,q⟩
 ·have e:i=kvs.length:=by omega
  subst e
  exact .inl ⟨⟨q,le_refl _⟩,λD hD _=>hd τ ys H2 p D _ (.mk' hD)⟩
theorem zsL{t:TS}:tFz t D σ H = ∃a kvs,H a=some (.dK kvs)/\∀o,t (D.thaw a kvs) σ (upd H a (.frz o (.dK kvs))):=rfl
theorem zyR{t:TE}:zna t σ H Q = ∃a kvs,H a=some (.dK kvs)/\∀o,t σ (upd H a (.frz o (.dK kvs))) λv H'=>zdl a kvs H' (Q v):=rfl
end
end L2
namespace L2
open PySem PySem.Spec PyProof.Rows
section
variable {X:Cx}
theorem zug{tg:Expr}{l:Expr}{tl:TE}(hl:W (PE X l tl)):W (PI X tg l (zfu tl)):=⟨zqP (hl:=hl.h)⟩
theorem zsT{X:Cx}{st:Stmt}{t:TS}(h:W (PS X st t)):W (PS X st (tFz t)):=⟨zyx (h:=h.h)⟩
theorem zsF{o i:Expr}{td ty:TE}{tpos pos:Pos}(ho:W (PE X o td))(hi:W (PE X i ty)):W (PS X (.Delete [.Subscript o i tpos] pos) (zio td ty)):=⟨zr5 (ho:=ho.h) (hi:=hi.h)⟩
theorem zi1{o e f:Expr}{td ty tx:TE}{apos cpos:Pos}(hu:X.A.units+1<cLine)(ho:W (PE X o td))(he:W (PE X e ty))(hf:W (PE X f tx))(m:M2 X o "get" apos e f cpos:=by exact ⟨rfl,rfl,rfl,rfl⟩):W (PE X (.Call (.Attribute o "get" apos) [e,f] [] cpos) (zhy td ty tx)):=⟨zwi (hu:=hu) (ho:=ho.h) (he:=he.h) (hf:=hf.h) (m:=m)⟩
theorem zfN{st:Stmt}:W (PS X st ziM):=⟨zng ⟩
end
section
variable {α β:Type}
def look(t:List (Str×α))(n:Str):Option α:=(t.find? λp=>decide (p.1=n)).map (·.2)
def zaC(t:List (Str×α))(n:Str)(a:α):List (Str×α):=if (look t n).isSome then t.map λp=>if p.1=n then (p.1,a) else p else t++[(n,a)]
def zao(t:List (Str×α))(n:Str):List (Str×α):=t.filter λp=>!decide (p.1=n)
def names(t:List (Str×α)):List Str:=t.map (·.1)
theorem zlm{n:Str}:look ([]:List (Str×α)) n=none:=rfl
theorem za5{p:Str×α}{t:List (Str×α)}{n:Str}:look (p::t) n=if p.1=n then some p.2 else look t n:=by
 unfold look
 by_cases h:p.1=n
 ·rw [List.find?_cons_of_pos (by simpa using h),if_pos h];rfl
 ·rw [List.find?_cons_of_neg (by simpa using h),if_neg h]
theorem zd9{t:List (Str×α)}{n:Str}:look t n=none↔n∉names t:=by
 induction t with
 | nil=>simp [look,names]
 | cons p t ih =>
  rw [za5]
  by_cases e:p.1=n
  ·rw [if_pos e];simp [names,e]
  ·rw [if_neg e,ih]
   simp [names]
   exact λ_=>λh=>e h.symm
theorem zoR{t:List (Str×α)}{n:Str}{a:α}:names (zaC t n a)=if (look t n).isSome then names t else names t++[n]:=by
 unfold zaC names
 by_cases h:(look t n).isSome
 ·rw [if_pos h,if_pos h,map_map]
  refine map_congr_left λp _=>?_
  show (if p.1=n then (p.1,a) else p).1=p.1
  split<;>rfl
 ·rw [if_neg h,if_neg h,map_append];rfl
theorem zga{t:List (Str×α)}{n:Str}{a:α}(nd:(names t).Nodup):(names (zaC t n a)).Nodup:=by
 rw [zoR]
 by_cases h:(look t n).isSome
 ·rw [if_pos h];exact nd
 ·rw [if_neg h]
  have:look t n=none:=by simpa using h
  rw [zd9] at this
  rw [nodup_append]
  refine ⟨nd,by simp,λx hx y hy e=>?_⟩
  have:y=n:=by simpa using hy
  subst this
  subst e
  contradiction
theorem znA{t:List (Str×α)}{n:Str}(nd:(names t).Nodup):(names (zao t n)).Nodup:=by
 unfold names zao
 exact nd.sublist (List.Sublist.map _ List.filter_sublist)
theorem zp2{t:List (Str×α)}{n m:Str}{a:α}:look (t.map λp=>if p.1=n then (p.1,a) else p) m=if m=n then (if (look t n).isSome then some a else none) else look t m:=by
 induction t with
 | nil=>by_cases h:m=n<;>simp [look,h]
 | cons p t ih =>
  rw [map_cons,za5,ih,za5,za5]
  by_cases e:p.1=n
  ·rw [if_pos e,if_pos e]
   show (if p.1=m then some a else _)=_
   by_cases h:m=n
   ·rw [if_pos (by rw [e,h]),if_pos h];rfl
   ·rw [if_neg (λz=>h (by rw [<- z,e])),if_neg h,if_neg h,if_neg (λz=>h (by rw [<- z,e]))]
  ·rw [if_neg e,if_neg e]
   by_cases h:m=n
   ·rw [if_pos h,if_pos h,if_neg (λz=>e (by rw [z,h]))]
   ·rw [if_neg h,if_neg h]
theorem zuk{t u:List (Str×α)}{m:Str}:look (t++u) m=(look t m).or (look u m):=by
 induction t with
 | nil=>simp [zlm]
 | cons p t ih =>
  rw [List.cons_append,za5,za5,ih]
  by_cases h:p.1=m
  ·rw [if_pos h,if_pos h];rfl
  ·rw [if_neg h,if_neg h]
theorem zmo{t:List (Str×α)}{n m:Str}{a:α}:look (zaC t n a) m=if m=n then some a else look t m:=by
 unfold zaC
 by_cases h:(look t n).isSome
 ·rw [if_pos h,zp2,if_pos h]
 ·rw [if_neg h,zuk,za5]
  have hn:look t n=none:=by simpa using h
  by_cases e:m=n
  ·rw [if_pos e,e,hn,if_pos rfl];rfl
  ·rw [if_neg e,if_neg (λz=>e z.symm),zlm,Option.or_none]
theorem zsi{t:List (Str×α)}{n m:Str}:look (zao t n) m=if m=n then none else look t m:=by
 induction t with
 | nil=>by_cases h:m=n<;>simp [look,zao,h]
 | cons p t ih =>
  by_cases e:p.1=n
  ·have:zao (p::t) n=zao t n:=by unfold zao;rw [List.filter_cons_of_neg (by simpa using e)]
   rw [this,ih,za5]
   by_cases h:m=n
   ·rw [if_pos h,if_pos h]
   ·rw [if_neg h,if_neg h,if_neg (λz=>h (by rw [<- z,e]))]
  ·have:zao (p::t) n=p::zao t n:=by unfold zao;rw [List.filter_cons_of_pos (by simpa using e)]
   rw [this,za5,za5,ih]
   by_cases h:m=n
   ·rw [if_pos h,if_pos h,if_neg (λz=>e (by rw [z,h]))]
   ·rw [if_neg h,if_neg h]
def zkU(t u:List (Str×α)):Prop:=∀n,look t n=look u n
theorem zkU.names{t u:List (Str×α)}(h:zkU t u)(ht:(names t).Nodup)(hu:(L2.names u).Nodup):(L2.names t).Perm (L2.names u):=by
 refine (List.perm_ext_iff_of_nodup ht hu).mpr λn=>?_
 have h1:=h n
 constructor
 ·intro hn
  refine Classical.byContradiction λz=>?_
  rw [zd9.mpr z] at h1
  exact zd9.mp h1 hn
 ·intro hn
  refine Classical.byContradiction λz=>?_
  rw [zd9.mpr z] at h1
  exact zd9.mp h1.symm hn
def Dct(R:V->α->Prop):List (Str×V)->List (Str×α)->Prop:=Paired λp q=>p.1=q.1/\R p.2 q.2
theorem Dct.names{R:V->α->Prop}{kvs:List (Str×V)}{t:List (Str×α)}(h:Dct R kvs t):kvs.map (·.1)=L2.names t:=by
 induction h with
 | nil=>rfl
 | @cons p q l m r _ ih=>show p.1::l.map (·.1)=q.1::m.map (·.1);rw [r.1,ih];rfl
theorem Dct.length{R:V->α->Prop}{kvs:List (Str×V)}{t:List (Str×α)}(h:Dct R kvs t):kvs.length=t.length:=Paired.length h
theorem Dct.imp{R S:V->α->Prop}{kvs:List (Str×V)}{t:List (Str×α)}(h:Dct R kvs t)(f:∀v a,R v a->S v a):Dct S kvs t:=Paired.mapP h λp q z=>⟨z.1,f _ _ z.2⟩
theorem Dct.look{R:V->α->Prop}{kvs:List (Str×V)}{t:List (Str×α)}(h:Dct R kvs t)(n:Str):(∃v a,L2.look kvs n=some v/\L2.look t n=some a/\R v a)\/(L2.look kvs n=none/\L2.look t n=none):=by
 induction h with
 | nil=>exact .inr ⟨rfl,rfl⟩
 | cons r _ ih =>
  rw [za5,za5,<- r.1]
  split
  ·exact .inl ⟨_,_,rfl,rfl,r.2⟩
  ·exact ih
theorem Dct.put{R:V->α->Prop}{kvs:List (Str×V)}{t:List (Str×α)}(h:Dct R kvs t)(n:Str){v:V}{a:α}(r:R v a):Dct R (zaC kvs n v) (zaC t n a):=by
 have hs:(L2.look kvs n).isSome=(L2.look t n).isSome:=by
  rcases h.look n with ⟨v,a,e1,e2,_⟩|⟨e1,e2⟩<;>rw [e1,e2]<;>rfl
 have hm:Dct R (kvs.map λp=>if p.1=n then (p.1,v) else p) (t.map λp=>if p.1=n then (p.1,a) else p):=by
  clear hs
  induction h with
  | nil=>exact .nil
  | @cons p q _ _ r' _ ih =>
   refine .cons ?_ ih
   show (if p.1=n then (p.1,v) else p).1=(if q.1=n then (q.1,a) else q).1/\R (if p.1=n then (p.1,v) else p).2 (if q.1=n then (q.1,a) else q).2
   by_cases e:p.1=n
   ·rw [if_pos e,if_pos (by rw [<- r'.1];exact e)];exact ⟨r'.1,r⟩
   ·rw [if_neg e,if_neg (by rw [<- r'.1];exact e)];exact r'
 have ha:Dct R (kvs++[(n,v)]) (t++[(n,a)]):=by
  clear hs hm
  induction h with
  | nil=>exact .cons ⟨rfl,r⟩ .nil
  | cons r' _ ih=>exact .cons r' ih
 unfold zaC
 rw [hs]
 split
 ·exact hm
 ·exact ha
theorem Dct.drop{R:V->α->Prop}{kvs:List (Str×V)}{t:List (Str×α)}(h:Dct R kvs t)(n:Str):Dct R (zao kvs n) (zao t n):=by
 induction h with
 | nil=>exact .nil
 | @cons p q _ _ r _ ih =>
  unfold zao at ih ⊢
  by_cases e:p.1=n
  ·rw [List.filter_cons_of_neg (by simpa using e),List.filter_cons_of_neg (by rw [<- r.1];simpa using e)];exact ih
  ·rw [List.filter_cons_of_pos (by simpa using e),List.filter_cons_of_pos (by rw [<- r.1];simpa using e)];exact .cons r ih
theorem Dct.at{R:V->α->Prop}{kvs:List (Str×V)}{t:List (Str×α)}(h:Dct R kvs t):∀{i:Nat}{p:Str×V},kvs[i]?=some p->∃a,t[i]?=some (p.1,a)/\R p.2 a:=by
 induction h with
 | nil=>intro i p e;simp at e
 | @cons x y _ _ r _ ih =>
  intro i p e
  cases i with
  | zero =>
   have e':x=p:=by simpa using e
   subst e'
   exact ⟨y.2,by rw [r.1];rfl,r.2⟩
  | succ i=>exact ih (by simpa using e)
end
theorem zcI{kvs:List (Str×V)}{n:Str}:zN (sk kvs) (.inr n)=look kvs n:=by
 induction kvs with
 | nil=>rfl
 | cons p t ih =>
  rw [za5]
  by_cases e:p.1=n
  ·rw [if_pos e]
   exact zeU (show (Sum.inr p.1:Key)=Sum.inr n by rw [e])
  ·rw [if_neg e,<- ih]
   exact zez (λz=>e (by injection z))
theorem ziN{kvs:List (Str×V)}{n:Str}{v:V}:zai (sk kvs) (.inr n) v=sk (zaC kvs n v):=by
 unfold zai zaC
 have hs:((sk kvs).any λkv=>decide (kv.1 = .inr n))=(look kvs n).isSome:=by rw [zh6,zcI]
 rw [hs]
 split
 ·unfold sk
  rw [map_map,map_map]
  refine map_congr_left λp _=>?_
  by_cases e:p.1=n
  ·simp [e]
  ·simp [e]
 ·simp [sk]
theorem zsd{kvs:List (Str×V)}{n:Str}:zaH (sk kvs) (.inr n)=sk (zao kvs n):=by
 induction kvs with
 | nil=>rfl
 | cons p t ih =>
  by_cases e:p.1=n
  ·have:zao (p::t) n=zao t n:=by unfold zao;rw [List.filter_cons_of_neg (by simpa using e)]
   rw [this,<- ih]
   exact zq5 (show (Sum.inr p.1:Key)=Sum.inr n by rw [e])
  ·have:zao (p::t) n=p::zao t n:=by unfold zao;rw [List.filter_cons_of_pos (by simpa using e)]
   rw [this]
   show zaH ((Sum.inr p.1,p.2)::sk t) (Sum.inr n)=(Sum.inr p.1,p.2)::sk (zao t n)
   rw [<- ih]
   exact zqO (λz=>e (by injection z))
theorem zs5{a:Addr}{z:Str}{H:Hp}{Q:VK}:zfp (.ref a) (.str z) H Q = ∃kvs,Rd H a (.dK kvs)/\∃v,zN kvs (.inr z)=some v/\Q v H:=by
 apply propext;constructor
 ·rintro ⟨a',k,kvs,v,e1,e2,h1,h2,q⟩
  cases e1
  cases k with
  | inl i=>cases e2
  | inr x=>cases e2;exact ⟨kvs,h1,v,h2,q⟩
 ·rintro ⟨kvs,h1,v,h2,q⟩
  exact ⟨a,.inr z,kvs,v,rfl,rfl,h1,h2,q⟩
theorem zrV{a b:Addr}{H:Hp}{Q:VK}:zeA (.ref a) (.ref b) H Q = ∃xs ys,H a=some (.tup xs)/\H b=some (.tup ys)/\xs.length+ys.length<=sizeLine/\∀p H2,zl H H2->H2 p=some (.tup (xs++ys))->Q (.ref p) H2:=by
 apply propext;constructor
 ·rintro ⟨a',b',xs,ys,e1,e2,h⟩;cases e1;cases e2;exact ⟨xs,ys,h⟩
 ·rintro ⟨xs,ys,h⟩;exact ⟨a,b,xs,ys,rfl,rfl,h⟩
def zsv:List V->Hp->VK->Prop:=λxs H Q=>uR1 xs λa=>∃kvs,Rd H a (.dK kvs)/\Q (.int kvs.length) H
theorem zp1{a:Addr}{H:Hp}{Q:VK}:zsv [.ref a] H Q = ∃kvs,Rd H a (.dK kvs)/\Q (.int kvs.length) H:=zb2
theorem zrA{X:Cx}{cm:Bool}{k j:Nat}{x:Str}{C:Addr}{ps:List Str}{sp:Sp}{p pos:Pos}(G:GC X.prog X.w X.K X.mg X.base cm j x C ps sp)(hr:zx cm k X.A)(hg:Gl X x)(hj:j+1<=k:=by decide)(hdb:(x==("__debug__":Str))=false:=by decide) :
  PE X (.Call (.Name x p) [] [] pos) (zeB C sp za0):=by
 obtain ⟨f,fd,F,hm,M,hb⟩:=G.ex
 intro Ga s σ H Q I h
 exact zp4 M F (hr.mono hj) hg hm hb .nil zej hdb Ga s σ H Q I (λy dx hx hd ne=>h y dx _ (.mk' hx hd ne))
theorem ziO{X:Cx}{cm:Bool}{k j:Nat}{x:Str}{C:Addr}{ps:List Str}{sp:Sp}{p pos:Pos}(G:GC X.prog X.w X.K X.mg X.base cm j x C ps sp)(hr:zx cm k X.A)(hg:Gl X x)(hj:j+1<=k:=by decide)(hdb:(x==("__debug__":Str))=false:=by decide) :
  W (PE X (.Call (.Name x p) [] [] pos) (zeB C sp za0)):=⟨zrA G hr hg hj hdb⟩
def zjr:R2:=λx y H Q=>∃p xs,y = .ref p/\(H p=some (.lst xs)\/H p=some (.tup xs))/\zP x=true/\xs.all zP=true/\Q (.bl (!inV x xs)) H
theorem zwl{x:V}{p:Addr}{H:Hp}{Q:VK}:zjr x (.ref p) H Q = ∃xs,(H p=some (.lst xs)\/H p=some (.tup xs))/\zP x=true/\xs.all zP=true/\Q (.bl (!inV x xs)) H:=by simp [zjr]
theorem zhc{kvs:List (Str×V)}:(sk kvs).length=kvs.length:=by simp [sk]
section
variable {M:Model}{A:Around}{E:Value->Shared->Prop}{s:Shared}
theorem zr0{pos:Pos}{id:String}{args:List (Bool×Sem Value)}{keywords:List (Option Str×Sem Value)}{Q:Value->Shared->Prop}(hplain:args.any (·.1)=false)(hkw:keywords.any (·.1.isNone)=false)
  (h:wpAny M A (evalArgs (.builtin id) true args keywords) (λa s1=>wpAny M A (call (.builtin id) a.pos a.kw) Q E s1) E s):wpAny M A (callWith pos (.builtin id) [] args keywords) Q E s:=by
 unfold callWith
 refine wpAny_bind (wpAny_holding (wpAny_mono h (λa s1 h1=>wpAny_bind (wpAny_standAt ?_)) λ_ _ x=>x))
 simp only [hplain,hkw,Bool.or_false]
 exact wpAny_bind (wpAny_pure (wpAny_bind (wpAny_mono h1 (λr s2 hr=>wpAny_bind (wpAny_holding (wpAny_point (wpAny_pure hr)))) λ_ _ x=>x)))
end
theorem zwP{prog:Program}{w:World}{A:Around}{E:Value->Shared->Prop}{s:Shared}{env:Env}{x:Str}{p1 p2 p3 p4 p5:Pos}{j1 j2:Nat}{m:Str->Option Value}{a r:Addr}{its ks:Array Value}{k:Int}{t:Tok}{Q:Value->Shared->Prop}
  (hk:env.scope.kind = .function) (hl:env.kindOf x=some .local) (hn:s.heap.Ns env.locals m) (hm:m x=some (.ref a)) (ha:IsTup s.heap a its) (h0:its[0]?=some (.ref r)) (hr:IsTup s.heap r ks) (h1:ks[1]?=some (.int k t)) (hd:(x==("__debug__":Str))=false)
  (q:∀tk,Q (.int k t) { s with toks:=tk }):wpAny (model prog w) A (eval (.Subscript (.Subscript (.Name x p1) (.Constant (.int 0) j1 p2) p3) (.Constant (.int 1) j2 p4) p5) env) Q E s:=by
 refine Subscript_ (Subscript_ (wpAny_Name (wpAny_loadName_local hk hl hn hm ?_) hd))
 refine wpAny_Constant_int ?_
 have s0:0<its.size:=(Array.getElem?_eq_some_iff.mp h0).1
 have s1:1<ks.size:=(Array.getElem?_eq_some_iff.mp h1).1
 refine subscriptTail_builtinR (x:=.ref r) (T:="tuple") ha.typeIs slot_tuple_getitem.lookup (getItem_tuple (j:=0) ha (by decide) (by decide) (by simp [seqIndex?,s0]) h0 ⟨rfl,?_⟩)
 refine wpAny_Constant_int ?_
 exact subscriptTail_builtinR (x:=.int k t) (T:="tuple") hr.typeIs slot_tuple_getitem.lookup (getItem_tuple (j:=1) hr (by decide) (by decide) (by simp [seqIndex?];omega) h1 ⟨rfl,q _⟩)
def zbh(pos:Pos)(qual:Str)(H:Hp)(P:Addr):Prop :=
 H P=some (.tbl #[])\/∃c' oc vs t,H P=some (.tbl #[rawInt pos.line,rawInt pos.col,.ref c'])/\H c'=some (.frz oc (.own 0))/\oc.data = .fields vs/\vs[1]?=some (.str qual t)
structure zew(mg:Str->Option Value)(base:Heap)(cdv:Value)(P:Addr):Prop where
 cd:∃c,cdv = .ref c/\PySem.W.CodeHd base c P
 bt:∃bm o,mg "__builtins__"=some (.ref bm)/\bm≠builtinsNs/\bm≠mainGlobals/\base.get? bm=some o/\o.cls = .type "module"/\o.dict=some builtinsNs/\o.data = .plain
def zen(H H':Hp)(P:Addr):Prop:=∀a o,a≠P->H a=some o->H' a=some o
theorem zq4{X:Cx}{Ga:List (Addr×Obj)}{σ:St}{H:Hp}{s:Shared}{E:Value->Shared->Prop}{Q:Value->Shared->Prop}{params:Arguments}{body:Expr}{scope:Scope}{pos:Pos}{P:Addr}(LB:zew X.mg X.base X.env.code P)
  (hdef:defaultsOf params X.env=([],[])) (hcl:closureFor scope X.env=pure []) (I:Inv X Ga σ H s) (hT:zbh pos (X.env.qual++"<lambda>") H P)
  (h:∀(f c':Addr)(ctv:Value)(h':Heap)(tk:Nat)(H':Hp),f+1=h'.objs.size->s.heap.objs.size<=f->h'.CodeRec (.ref c') (X.env.qual++"<lambda>") ->
   h'.get? f=some (kla_obj "<lambda>" (X.env.qual++"<lambda>") params body scope [] ((X.mg "__name__").getD .none) c' ctv)->zbh pos (X.env.qual++"<lambda>") H' P->zen H H' P->Inv X Ga σ H' { s with heap:=h',toks:=tk }->Q (.ref f) { s with heap:=h',toks:=tk }) :
  wpAny (model X.prog X.w) X.A (eval (.Lambda params body scope pos) X.env) Q E s:=by
 refine PySem.W.kla_eval hdef ?_
 obtain ⟨c,hc,C⟩:=LB.cd
 obtain ⟨bm,ob,b1,b2,b3,b4,b5,b6,b7⟩:=LB.bt
 obtain ⟨og,esg,epg,eg,hdg⟩:=id I.ok.mod.glob
 have hgs:s.heap.Ns mainGlobals X.mg:=I.ok.mod.glob.keeps I.bk
 have neP:∀{b:Addr}{o:Obj}{u:HO},X.base.get? b=some o->H P=some u->b≠P:=λe hP z=>by
  have:=(I.bs _ _ e).2
  rw [z,hP] at this;cases this
 rcases hT with hP|⟨c',oc,vs,t,hP,hc',hd,hv⟩
 ·have hPs:s.heap.get? P=some (tabObj #[]):=I.hok P _ hP
  refine PySem.W.kla_makeFunction (mg:=X.mg) hcl I.ok.glob hgs hc (C.keeps I.bk) hPs trivial rfl (neP eg hP) ⟨bm,ob,b1,b2,b3,neP b4 hP,I.bk _ _ b4,b5,b6,b7⟩ λc' ctv h' tk hx hge hlt hrec htb=>?_
  obtain ⟨c₂,oc,vs,t,e2,hoc,hd,hv⟩:=hrec
  cases e2
  have szP:P<s.heap.objs.size:=lt_size hPs
  have cP:c'≠P:=λz=>by rw [z] at hge;exact absurd szP (not_lt.mpr hge)
  have neC:∀{b:Addr}{u:HO},H b=some u->b≠c':=λe z=>by
   have:=I.hok.lt e
   rw [z] at this;exact absurd this (not_lt.mpr hge)
  have neC2:∀{b:Addr}{u:Obj},s.heap.get? b=some u->b≠c':=λe z=>by
   have:=lt_size e
   rw [z] at this;exact absurd this (not_lt.mpr hge)
  have kp:∀b o,b≠P->s.heap.get? b=some o->(h'.push (kla_obj "<lambda>" (X.env.qual++"<lambda>") params body scope [] ((X.mg "__name__").getD .none) c' ctv)).get? b=some o:=λb o n e=>get?_push_of_some _ (hx b o n e)
  let H':Hp:=upd (upd H P (.tbl #[rawInt pos.line,rawInt pos.col,.ref c'])) c' (.frz oc (.own 0))
  have hH':∀b,b≠P->b≠c'->H' b=H b:=λb n1 n2=>by show upd _ c' _ b=H b;rw [zd n2,zd n1]
  have hHP:H' P=some (.tbl #[rawInt pos.line,rawInt pos.col,.ref c']):=by show upd _ c' _ P=_;rw [zd (Ne.symm cP),zq]
  have hHc:H' c'=some (.frz oc (.own 0)):=zq
  have nP:∀b,H b=none->b≠P:=λb e z=>by rw [z,hP] at e;cases e
  have ext:∀b u,H b=some u->(∀ps,u≠.tbl ps)->H' b=some u:=λb u e n=>by rw [hH' b (λz=>by rw [z,hP] at e;cases e;exact n _ rfl) (neC e)];exact e
  have un:Un X.fs [] H H' s.heap (h'.push (kla_obj "<lambda>" (X.env.qual++"<lambda>") params body scope [] ((X.mg "__name__").getD .none) c' ctv)):=by
   refine ⟨λb o e n _ _=>kp b o (nP b n) e,λb o e n _ _=>⟨o.slots,kp b o (nP b n) e⟩,λb o e n _=>by rw [hH' b (nP b n) (neC2 e)];exact n,λb o e _=>?_,λb xs e=>ext b _ e λ_=>nofun,λb o u e=>ext b _ e λ_=>nofun,λb ps e=>?_⟩
   ·by_cases z:b=P
    ·exact ⟨_,by rw [z];exact get?_push_of_some _ htb⟩
    ·exact ⟨o,kp b o z e⟩
   ·by_cases z:b=P
    ·rw [z,hP] at e
     cases e
     exact ⟨#[rawInt pos.line,rawInt pos.col,.ref c'],by rw [z,hHP];simp⟩
    ·exact ⟨#[],by rw [hH' b z (neC e),e];simp⟩
  have hok:HOk X.prog X.w H' (h'.push (kla_obj "<lambda>" (X.env.qual++"<lambda>") params body scope [] ((X.mg "__name__").getD .none) c' ctv)):=λa o e=>by
   by_cases z1:a=c'
   ·rw [z1,hHc] at e
    cases e
    rw [z1]
    exact ⟨get?_push_of_some _ hoc,⟨_,get?_push_of_some _ hoc⟩⟩
   ·by_cases z2:a=P
    ·rw [z2,hHP] at e
     cases e
     rw [z2]
     show Heap.get? _ P=_
     exact get?_push_of_some _ htb
    ·rw [hH' a z2 z1] at e
     refine (I.hok a o e).stay (λb u hb q=>kp b u ?_ q) (λb q=>ext b _ q λ_=>nofun) λb xs q=>ext b _ q λ_=>nofun
     rcases hb with rfl|hb
     ·exact z2
     ·intro z;rw [z,hP] at hb;cases hb
  refine h h'.objs.size c' ctv _ tk H' (by rw [size_push']) (le_of_lt (Nat.lt_of_le_of_lt hge hlt)) ⟨c',oc,vs,t,rfl,get?_push_of_some _ hoc,hd,hv⟩ (get?_push_size _ rfl) (.inr ⟨c',oc,vs,t,hHP,hHc,hd,hv⟩) (λa o n e=>by rw [hH' a n (neC e)];exact e) (I.un un hok)
 ·have hPs:s.heap.get? P=some (tabObj #[rawInt pos.line,rawInt pos.col,.ref c']):=I.hok P _ hP
  have hcs:s.heap.get? c'=some oc:=(I.hok c' _ hc').1
  refine PySem.W.kla_makeFunctionHit (mg:=X.mg) (cv:=.ref c') hcl I.ok.glob hgs hc (C.keeps I.bk) hPs ?_ ?_ ⟨bm,ob,b1,b2,b3,neP b4 hP,I.bk _ _ b4,b5,b6,b7⟩ λctv h' tk hk hsz=>?_
  ·exact trivial
  ·simp [codeAmong,rawInt]
  ·exact h h'.objs.size c' ctv _ tk H (by rw [size_push']) hsz ⟨c',oc,vs,t,rfl,get?_push_of_some _ (hk _ _ hcs),hd,hv⟩ (get?_push_size _ rfl) (.inr ⟨c',oc,vs,t,hP,hc',hd,hv⟩) (λ_ _ _ e=>e) (I.kept λb o e=>get?_push_of_some _ (hk b o e))
def zhq(H:Hp)(a:Addr)(k:Int):Prop:=∃r zab y ys,H a=some (.tup (.ref r::zab))/\H r=some (.tup (y::.int k::ys))
def zda(P:Addr)(pos:Pos)(qual:Str)(v:V)(H1:Hp)(Q:VK):Prop:=uR v λl=>∃(as:List Addr)(ks:List Int),H1 l=some (.lst (as.map V.ref))/\zbh pos qual H1 P/\as.length<64/\Paired (zhq H1) as ks /\
 ∀(D:Addr)(zs:List (Int×Addr))(H2:Hp),zen H1 H2 P->zbh pos qual H2 P->H1 D=none->D≠P->D≠sysModules->H2 D=some (.lst (zs.map λz=>V.ref z.2))->zs.Perm (ks.zip as)->zs.Pairwise (λp q=>p.1<=q.1)->Q (.ref D) H2
def zh2(P:Addr)(pos:Pos)(qual:Str)(ta:TE):TE:=λσ H Q=>ta σ H λv H1=>zda P pos qual v H1 Q
theorem zt5{P:Addr}{pos:Pos}{qual:Str}{ta:TE}{σ:St}{H:Hp}{Q:VK}:zh2 P pos qual ta σ H Q=ta σ H λv H1=>zda P pos qual v H1 Q:=rfl
theorem zm8{P:Addr}{pos:Pos}{qual:Str}{l:Addr}{H1:Hp}{Q:VK}:zda P pos qual (.ref l) H1 Q = ∃(as:List Addr)(ks:List Int),H1 l=some (.lst (as.map V.ref))/\zbh pos qual H1 P/\as.length<64/\Paired (zhq H1) as ks /\
 ∀(D:Addr)(zs:List (Int×Addr))(H2:Hp),zen H1 H2 P->zbh pos qual H2 P->H1 D=none->D≠P->D≠sysModules->H2 D=some (.lst (zs.map λz=>V.ref z.2))->zs.Perm (ks.zip as)->zs.Pairwise (λp q=>p.1<=q.1)->Q (.ref D) H2:=zhF
theorem zj1{as:List Addr}{its:List Value}(h:zj (as.map V.ref) its):its=as.map Value.ref:=by
 induction as generalizing its with
 | nil=>cases h;rfl
 | cons a as ih =>
  cases h with
  | cons r rr=>rw [ih rr,show _=Value.ref a from r];rfl
theorem zlh(as:List Addr):zj (as.map V.ref) (as.map Value.ref):=by
 induction as with
 | nil=>exact .nil
 | cons a as ih=>exact .cons rfl ih
theorem zrt{l:List (Int×Addr)}{ps:List (Int×Value)}(h:ps.Perm (l.map λz=>(z.1,Value.ref z.2))):∃zs:List (Int×Addr),zs.Perm l/\ps=zs.map λz=>(z.1,Value.ref z.2):=by
 let g:Int×Value->Int×Addr:=λp=>(p.1,match p.2 with | .ref a=>a|_=>0)
 have e1:(l.map λz=>(z.1,Value.ref z.2)).map g=l:=by
  rw [map_map]
  have:(g∘λz:Int×Addr=>(z.1,Value.ref z.2))=id:=rfl
  rw [this,List.map_id]
 refine ⟨ps.map g,by have:=h.map g;rw [e1] at this;exact this,?_⟩
 rw [map_map]
 have:∀p∈ps,((λz:Int×Addr=>(z.1,Value.ref z.2))∘g) p=p:=λp hp=>by
  obtain ⟨z,_,rfl⟩:=mem_map.mp (h.mem_iff.mp hp)
  rfl
 exact (List.map_id ps).symm.trans (map_congr_left λp hp=>(this p hp).symm)
theorem zlH:∀(ks:List Int)(as:List Addr),ks.zip (as.map Value.ref)=(ks.zip as).map λz=>(z.1,Value.ref z.2)
 | [],_=>rfl
 | _::_,[]=>rfl
 | k::ks,a::as=>by rw [map_cons,zip_cons_cons,zip_cons_cons,map_cons,zlH ks as]
theorem zaO{α β:Type}{R:α->β->Prop}:∀{l:List α}{m:List β},Paired R l m->∀{i:Nat}{a:α}{b:β},l[i]?=some a->m[i]?=some b->R a b
 | _,_,.nil,i,a,b,h,_=>by simp at h
 | _,_,.cons r t,0,a,b,h,h'=>by
  simp at h h'
  subst h h'
  exact r
 | _,_,.cons r t,i+1,a,b,h,h'=>zaO t (by simpa using h) (by simpa using h')
theorem z5{α β:Type}{R:α->β->Prop}{l:List α}{m:List β}(h:Paired R l m):l.length=m.length:=Paired.length h
theorem zpk{X:Cx}{cm:Bool}{k:Nat}{a:Expr}{ta:TE}{x:Str}{params:Arguments}{scope:Scope}{p pos lpos kp p1 p2 p3 p4 p5:Pos}{j1 j2:Nat}{P:Addr}(LB:zew X.mg X.base X.env.code P)(hr:zx cm k X.A)
  (hg:Gl X "sorted") (hm:X.mg "sorted"=none) (ha:PE X a ta) (hdef:defaultsOf params X.env=([],[])) (hcl:closureFor scope X.env=pure [])
  (hbind:∀(q:Str)(pm cd ct v:Value),bindArgs (kla_fn "<lambda>" q params (.Subscript (.Subscript (.Name x p1) (.Constant (.int 0) j1 p2) p3) (.Constant (.int 1) j2 p4) p5) scope [] pm cd ct) ⟨[v],[]⟩=pure [(x,v)])
  (hloc:scope.names=[(x,.local)]) (hkind:scope.kind = .function) (hco:scope.isCoroutine=false) (hgen:scope.isGenerator=false) (hp:zO a=true:=by rfl) (hdb:(x==("__debug__":Str))=false:=by decide) :
  PE X (.Call (.Name "sorted" p) [a] [⟨some (Str.ofString "key"),.Lambda params (.Subscript (.Subscript (.Name x p1) (.Constant (.int 0) j1 p2) p3) (.Constant (.int 1) j2 p4) p5) scope lpos,kp⟩] pos) (zh2 P lpos (X.env.qual++"<lambda>") ta):=by
 intro Ga s σ H Q I h
 have hs:starEach [a] X.env=[(false,eval a X.env)]:=zct hp
 have hA:=zcs ha zce (hs:=hs) pos Ga s σ H (λys H1=>∃y,ys=[y]/\zda P lpos (X.env.qual++"<lambda>") y H1 Q) I (by
  show ta σ H λx H1=>∃y,[x]=[y]/\zda P lpos (X.env.qual++"<lambda>") y H1 Q
  have e:(λ(x:V)(H1:Hp)=>∃y,[x]=[y]/\zda P lpos (X.env.qual++"<lambda>") y H1 Q)=λv H1=>zda P lpos (X.env.qual++"<lambda>") v H1 Q:=by
   funext x H1
   apply propext;constructor
   ·rintro ⟨y,e,h⟩;cases e;exact h
   ·exact λh=>⟨x,rfl,h⟩
  rw [e]
  exact h)
 refine wpAny_Call_Name_kw (zb7 I hg hm boot_sorted (zr0 (by rw [hs];rfl) rfl ?_))
 rw [hs] at hA ⊢
 refine evalArgs_kwB rfl (thn hA λus s1 ⟨vs,H1,I1,r1,q1⟩=>kws_cons ?_)
 obtain ⟨y,rfl,l,rfl,as,ks,hl,hT,h64,hK,q⟩:=q1
 ·cases r1 with
  | cons r rr =>
   cases rr
   cases r
   refine zq4 LB hdef hcl I1 hT λf c' ctv h2 tk H2 hsz hge hcd hf hT2 hL I2=>kws_nil ?_
   have hlP:l≠P:=λz=>by
    rcases hT with hP|⟨_,_,_,_,hP,_⟩ <;> · rw [z,hP] at hl;cases hl
   have hl2:=hL _ _ hlP hl
   obtain ⟨its,rv,⟨o,n,e1,e2,e3,e4⟩,hz⟩:=I2.list (SqL.of hl2)
   have hits:=zj1 rv
   subst hits
   obtain ⟨m,F⟩:=I2.fr
   have lks:=z5 hK
   have fresh2:∀b o,h2.get? b=some o->b≠X.env.locals->X.base.get? b=none->(b,o)∈zcd X.base h2 X.env.locals:=λb o e n1 n2=>zyg n1 n2 e
   refine PyProof.Rows.ksk_sorted (b:=false) (kz:=ks) (f:=.ref f) (h₀:=X.base) (L:=X.env.locals) (news:=zcd X.base h2 X.env.locals) F zwo (vs:=as.map Value.ref) (l:=l) ⟨o,e1,e2,n,e4⟩ (by rw [length_map];exact lks.symm) (by rw [length_map];exact h64) (PyProof.Rows.ksk_s1 _ _) (λx=>PyProof.Rows.ksk_l1 _ _) (λx=>PyProof.Rows.ksk_t1 _ _) (λi v k' hv hk' h3 tk3 own F3 N3=>?_) λD h3 tk3 out c F3 N3 lt ko=>?_
   ·have all3:∀b o,b≠X.env.locals->h2.get? b=some o->h3.get? b=some o:=λb o n e=>by
     cases qb:X.base.get? b with
     | some u =>
      have:=F.keep b u qb
      rw [show h2.get? b=some u from this] at e
      cases e
      exact F3.keep b _ qb
     | none=>exact (N3 (b,o) (mem_append_left _ (fresh2 b o e n qb))).1
    rw [getElem?_map] at hv
    obtain ⟨ai,hai,rfl⟩:=map_eq_some_iff.mp hv
    obtain ⟨r,zab,y,ys,k1,k2⟩:=zaO hK hai hk'
    have tt:∀{b xs},H1 b=some (.tup xs)->∃its,zj xs its/\IsTup h3 b its.toArray:=λ{b xs} e=>by
     have bP:b≠P:=λz=>by
      rcases hT with hP|⟨_,_,_,_,hP,_⟩ <;> · rw [z,hP] at e;cases e
     have e2:=hL _ _ bP e
     obtain ⟨_,its,rv,ob,g1,g2⟩:=I2.hok b _ e2
     have bL:b≠X.env.locals:=λz=>by rw [z,I2.free] at e2;cases e2
     exact ⟨its,rv,ob,all3 _ _ bL g1,g2⟩
    obtain ⟨it1,rv1,t1⟩:=tt k1
    obtain ⟨it2,rv2,t2⟩:=tt k2
    cases rv1 with
    | cons ra _ =>
    cases ra
    cases rv2 with
    | cons rb rc =>
    cases rc with
    | cons rd _ =>
    obtain ⟨tkk,rfl⟩:=rd
    have fL:f≠X.env.locals:=λz=>by
     have:=I1.lt
     rw [<- z] at this
     exact absurd this (not_lt.mpr hge)
    have hf3:=all3 _ _ fL hf
    have hcd3:h3.CodeRec (.ref c') (X.env.qual++"<lambda>"):=by
     obtain ⟨c2,oc,vs,t,e,g1,g2,g3⟩:=hcd
     refine ⟨c2,oc,vs,t,e,all3 _ _ (λz=>?_) g1,g2,g3⟩
     obtain ⟨m',⟨ol,es,ep,el,hdl,_⟩,_⟩:=id I2.loc
     rw [z] at g1
     rw [show h2.get? X.env.locals=some ol from el] at g1
     cases g1
     rw [g2] at hdl
     cases hdl
    refine wpAny_call (PySem.W.kla_callFunE (by show X.A.depth<recursionLimit;exact hr.depth) hf3 rfl hco hgen rfl hcd3 ?_)
    rw [hbind]
    refine wpAny_pure (wpAny_newFunctionEnv (λy hy=>?_) (λy hy=>?_) (λh4 hns hsb=>?_) hkind)
    ·rw [hloc,mem_singleton] at hy
     rw [hy];nofun
    ·rw [mem_singleton] at hy
     rw [hy]
     show scope.names.lookup x=_
     rw [hloc];simp [List.lookup]
    ·have k4:∀b o,h3.get? b=some o->h4.get? b=some o:=λb o e=>hsb.extBut b o (ne_of_lt (lt_size e)) (get?_push_of_some _ e)
     refine ⟨(I.ok.mod.nolimit.keeps F3.keep).keeps k4,PySem.W.kla_codeExpr ?_⟩
     refine zwP (m:=λy=>([(x,Value.ref ai)]:List (Str×Value)).reverse.lookup y) (a:=ai) (r:=r) (k:=k') (t:=tkk) hkind ?_ hns (by simp [List.lookup]) (its:=(Value.ref r::_).toArray) ⟨t1.choose,k4 _ _ t1.choose_spec.1,t1.choose_spec.2⟩ (by simp) (ks:=(_::Value.int k' tkk::_).toArray) ⟨t2.choose,k4 _ _ t2.choose_spec.1,t2.choose_spec.2⟩ (by simp) hdb λtk5=>?_
     ·show scope.names.lookup x=_
      rw [hloc];simp [List.lookup]
     ·exact PyProof.Rows.KskEnd.intro (news':=zcd X.base h2 X.env.locals++own) ⟨F3.ns.keeps k4,λb o e=>k4 _ _ (F3.keep b o e),F3.above⟩ (λp hp=>⟨k4 _ _ (N3 p hp).1,(N3 p hp).2⟩) λ_ h=>h
   ·obtain ⟨ps,hp1,hp2,hp3⟩:=ko
    rw [zlH] at hp1
    obtain ⟨zs,hz1,rfl⟩:=zrt hp1
    have fm:(f,kla_obj "<lambda>" (X.env.qual++"<lambda>") params (.Subscript (.Subscript (.Name x p1) (.Constant (.int 0) j1 p2) p3) (.Constant (.int 1) j2 p4) p5) scope [] ((X.mg "__name__").getD .none) c' ctv)∈zcd X.base h2 X.env.locals:=fresh2 _ _ hf (λz=>by
     have:=I1.lt
     rw [<- z] at this
     exact absurd this (not_lt.mpr hge)) (by
     cases qb:X.base.get? f with
     | none=>rfl
     | some u =>
      have:=lt_size (I1.bk _ _ qb)
      exact absurd this (not_lt.mpr hge))
    have Dsz:h2.objs.size<=D:=by have:=lt _ fm;rw [<- hsz];exact this
    have D2:H2 D=none:=I2.hok.fresh Dsz
    have DP:D≠P:=λz=>by
     rcases hT2 with hP|⟨_,_,_,_,hP,_⟩ <;> · rw [z,hP] at D2;cases D2
    have D1:H1 D=none:=by
     cases qd:H1 D with
     | none=>rfl
     | some u=>rw [hL _ _ DP qd] at D2;cases D2
    have eo:out=((zs.map (·.2)).map Value.ref).toArray:=by
     apply Array.toList_inj.mp
     rw [hp2];simp
    have lz:zs.length<=as.length:=by rw [hz1.length_eq,List.length_zip];omega
    have all3:∀b o,b≠X.env.locals->h2.get? b=some o->h3.get? b=some o:=λb o hb e=>by
     cases qb:X.base.get? b with
     | some u =>
      have:=F.keep b u qb
      rw [show h2.get? b=some u from this] at e
      cases e
      exact F3.keep b _ qb
     | none=>exact (N3 (b,o) (mem_cons_of_mem _ (fresh2 b o e hb qb))).1
    have neD:∀{b:Addr}{u:HO},H2 b=some u->b≠D:=λe z=>by rw [z,D2] at e;cases e
    have neL:∀{b:Addr}{u:HO},H2 b=some u->b≠X.env.locals:=λe z=>by rw [z,I2.free] at e;cases e
    have hm:(zs.map λz:Int×Addr=>V.ref z.2)=(zs.map (·.2)).map V.ref:=by rw [map_map];rfl
    have new:zW X.prog X.w (upd H2 D (.lst (zs.map λz:Int×Addr=>V.ref z.2))) h3 D (.lst (zs.map λz:Int×Addr=>V.ref z.2)):=⟨by rw [length_map,sizeLine_eq];omega,(zs.map (·.2)).map Value.ref,c,by rw [hm];exact zlh _,by rw [<- eo];exact (N3 _ (mem_cons_self ..)).1⟩
    refine ⟨.ref D,upd H2 D (.lst (zs.map λz:Int×Addr=>V.ref z.2)),?_,rfl,q D zs _ (λb u n e=>by rw [zd (λz=>by rw [z,D1] at e;cases e)];exact hL _ _ n e) ?_ D1 DP (ne_of_gt (Nat.lt_of_lt_of_le I2.big Dsz)) zq hz1 ?_⟩
    ·refine I2.step (h':=h3) (g':=s1.gens) (d':=s1.drawn) (t':=tk3) (ch:=[]) (λ_ z=>nomatch z) (λb o n _ _ e _=>all3 b o n e) (λb o n _ _ e _=>⟨o.slots,all3 b o n e⟩) (λb o _ e n=>?_) (λb o _ e=>?_) (λb xs e=>by rw [zd (neD e)];exact e) (λb o u e=>by rw [zd (neD e)];exact e) (λb ps e=>⟨#[],by rw [zd (neD e),e];simp⟩) (λm' hm'=>?_) (λb u e=>?_) I2.bare
     ·rw [zd (λz=>?_)]
      ·exact n
      ·have:=lt_size e
       rw [z] at this
       exact absurd this (not_lt.mpr Dsz)
     ·by_cases hb:b=X.env.locals
      ·obtain ⟨o1,_,_,g1,_⟩:=F3.ns
       exact ⟨o1,by rw [hb];exact g1⟩
      ·exact ⟨o,all3 b o hb e⟩
     ·have e1:=hm'.eq_nsMap
      have e2:=F.ns.eq_nsMap
      have:m'=m:=e1.trans e2.symm
      rw [this];exact F3.ns
     ·by_cases z:b=D
      ·rw [z,zq] at e
       cases e
       rw [z];exact new
      ·rw [zd z] at e
       refine (I2.hok b u e).stay (λc v hc q=>all3 c v ?_ q) (λc q=>by rw [zd (neD q)];exact q) λc xs q=>by rw [zd (neD q)];exact q
       rcases hc with rfl|hc
       ·exact neL e
       ·exact neL hc
    ·rcases hT2 with hP|⟨c1,oc,vs,t,hP,hc,hr⟩
     ·exact .inl (by rw [zd (Ne.symm DP)];exact hP)
     ·exact .inr ⟨c1,oc,vs,t,by rw [zd (Ne.symm DP)];exact hP,by rw [zd (λz=>by rw [<- z,hc] at D2;cases D2)];exact hc,hr⟩
    ·have:=pairwise_map.mp hp3
     exact this.imp λh=>by simpa using h
def zcR(mg:Str->Option Value)(base:Heap):Prop:=∃bm o,mg "__builtins__"=some (.ref bm)/\bm≠builtinsNs/\bm≠mainGlobals/\base.get? bm=some o/\o.cls = .type "module"/\o.dict=some builtinsNs/\o.data = .plain
theorem zvi{P:Program}{w:World}{K:PySem.W.Frag}{mg mb:Str->Option Value}{CX:CXT}{k:Nat}{fa a:Addr}{fd:FuncData}{x:Str}{sp:Sp}{s₁:Shared}{vs:List Value}{ns:List Int}{ts:List Addr}
  (hT:∀T∈ts,s₁.heap.get? T=some (tabObj #[])) (hC:∀T∈ts,K.lookup T=none/\∃c,codeHdIn K c T=true) (hbm:zcR mg s₁.heap)
  (KX:K.In s₁.heap) (hns:s₁.heap.Ns mainGlobals mg) (hb:s₁.heap.Ns builtinsNs mb) (hbb:∀x:Str,x≠"__name__"->mb x=bootBuiltins x) (hlim:s₁.heap.NoLimit) (hg:s₁.gens = #[])
  (ha:s₁.heap.get? a=some { cls:=.type "list",data:=.seq vs.toArray }) (hi:IntsAre vs ns) (hl:ns.length<=sizeLine) (hr:zx true k callerA)
  (F:∀base:Heap,K.In base->base.Ns mainGlobals mg->zcR mg base->zo P w K mg base CX true k fa fd [x] sp) (hbind:∀(s:Shared)(u:Value),BindsTo s fd ⟨[u],[]⟩ [(x,u)])
  (hsp:∀H:Hp,(∀T∈ts,H T=some (.tbl #[]))->SqL K H a (ns.map V.int)->sp [.ref a] H (λv _=>v = .bl true) λ_ _ _=>False)
  (hCX:∀H e s',CX [] H s₁ (λ_ _ _=>False) e s'->False) :
  codeAny (model P w) callerA (.call (.ref fa) ⟨[.ref a],[]⟩) (λr s'=>r = .ok (.ret (.bool true))/\OldK s₁.heap s'.heap/\s'.os=s₁.os/\AllBare s'.gens) s₁:=by
 have rv:=zgA hi
 have lenV:=hi.length
 have aT:a∉ts:=λh=>by have:=hT a h;rw [ha] at this;cases this
 have core:∀H:Hp,(∀b,H b=none\/(∃o xs,H b=some (.frz o (.lst xs)))\/(b∈ts/\H b=some (.tbl #[])))->(∀T∈ts,H T=some (.tbl #[]))->SqL K H a (ns.map V.int)->HOk P w H s₁.heap->(∀b,H b≠none->b=a\/b∈ts)->(H a≠none->K.lookup a=none) ->
   codeAny (model P w) callerA (.call (.ref fa) ⟨[.ref a],[]⟩) (λr s'=>r = .ok (.ret (.bool true))/\OldK s₁.heap s'.heap/\s'.os=s₁.os/\AllBare s'.gens) s₁:=by
  intro H hO hHT hS hok hA hK
  have base_of:∀{b:Addr}{o:Obj},s₁.heap.get? b=some o->H b=none->(zbD s₁.heap H).get? b=some o:=λe n=>ztj e n
  have noA:∀{b:Addr}{o:Obj},s₁.heap.get? b=some o->(∀xs n,o.data≠.seq xs n)->(∀ps,o.data≠.fields ps)->H b=none:=λ{b o} e d1 d2=>by
   cases q:H b with
   | none=>rfl
   | some u =>
    rcases hA b (by rw [q];simp) with e'|e'
    ·subst e'
     rw [ha] at e;cases e
     exact absurd rfl (d1 _ _)
    ·rw [hT b e'] at e;cases e
     exact absurd rfl (d2 _)
  have nsK:∀{b:Addr}{m:Str->Option Value},s₁.heap.Ns b m->(zbD s₁.heap H).Ns b m:=λ{b m} ⟨o,es,ep,e,d,r⟩=>⟨o,es,ep,base_of e (noA e (λ_ _=>by rw [d];nofun) (λ_=>by rw [d];nofun)),d,r⟩
  have hKb:K.In (zbD s₁.heap H):=λb o e=>base_of (KX b o e) (by
   cases q:H b with
   | none=>rfl
   | some u =>
    rcases hA b (by rw [q];simp) with e'|e'
    ·subst e'
     rw [hK (by rw [q];simp)] at e;cases e
    ·rw [(hC b e').1] at e;cases e)
  have hM:Mod K mg (zbD s₁.heap H):=⟨hKb,nsK hns,⟨mb,nsK hb,hbb⟩,let ⟨mc,h1,h2⟩:=hlim;⟨mc,nsK h1,h2⟩⟩
  have hB:zcR mg (zbD s₁.heap H):=let ⟨bm,o,b1,b2,b3,b4,b5,b6,b7⟩:=hbm;⟨bm,o,b1,b2,b3,base_of b4 (noA b4 (λ_ _=>by rw [b7];nofun) (λ_=>by rw [b7];nofun)),b5,b6,b7⟩
  have e0:zc1 P w K mg (zbD s₁.heap H) callerA [] s₁ H:=⟨rfl,.inl rfl,hM,λb o e=>zx0 e,le_of_eq (zqL _ _),trivial,λb hb=>absurd (show b∈([]:List Addr) from hb) (by simp),hok,.of_eq hg⟩
  refine codeAny_mono ((F _ hKb (nsK hns) hB).run callerA [] s₁ H ⟨[.ref a],[]⟩ [.ref a] [.ref a] _ _ hr e0 (hbind s₁ (.ref a)) (.cons rfl .nil) (hsp H hHT hS)) λr s' h=>?_
  cases r with
  | error e=>exact (hCX H e s' h).elim
  | ok fl =>
   cases fl with
   | next=>exact False.elim h
   | brk=>exact False.elim h
   | cont=>exact False.elim h
   | ret u =>
    obtain ⟨v,H',os,bare,un,hok',r',q⟩:=h
    have q':v = .bl true:=q
    subst q'
    obtain rfl:u=Value.bool true:=r'
    have grown:∀b,b∈ts->∃more:Array Value,s'.heap.get? b=some (tabObj (#[]++more)):=λb hb=>by
     obtain ⟨more,z⟩:=un.tbls b #[] (hHT b hb)
     exact ⟨more,hok' b _ z⟩
    refine ⟨rfl,⟨λb o e=>?_,λb o e=>un.there b o e (by simp)⟩,os,bare⟩
    cases q:H b with
    | none=>exact .inl (un.keep b o e q (by intro z;exact absurd (show b∈([]:List Addr) from z) (by simp)) (by simp))
    | some u =>
     rcases hO b with z|⟨ob,xs,z⟩|⟨hb,z⟩
     ·rw [q] at z;cases z
     ·have z2:=un.frzs b ob _ z
      obtain ⟨e1,_⟩:=hok b _ z
      obtain ⟨e2,_⟩:=hok' b _ z2
      rw [e] at e1;cases e1
      exact .inl e2
     ·obtain ⟨more,g⟩:=grown b hb
      have e2:=hT b hb
      rw [e] at e2
      cases e2
      obtain ⟨_,c,hc⟩:=hC b hb
      exact .inr (.inl ⟨((PySem.W.codeHd_of_K KX hc).tab (hT b hb)).isCodeTable,rfl,#[],more,rfl,g⟩)
 cases hk:K.lookup a with
 | some o =>
  have e:=KX a o hk
  rw [ha] at e
  cases e
  refine core (λb=>if b∈ts then some (.tbl #[]) else none) (λb=>?_) (λT h=>if_pos h) (.inr ⟨_,vs.toArray,_,hk,rfl,rfl,rfl,by rw [size_toArray,lenV];exact hl,by simpa using rv⟩) (λb u z=>?_) (λb z=>?_) λz=>absurd (if_neg aT) z
  ·by_cases hb:b∈ts
   ·exact .inr (.inr ⟨hb,if_pos hb⟩)
   ·exact .inl (if_neg hb)
  ·by_cases hb:b∈ts
   ·have z':=(if_pos hb).symm.trans z
    cases z'
    exact hT b hb
   ·have z':=(if_neg hb).symm.trans z
    cases z'
  ·by_cases hb:b∈ts
   ·exact .inr hb
   ·exact absurd (if_neg hb) z
 | none =>
  refine core (λb=>if b=a then some (.frz { cls:=.type "list",data:=.seq vs.toArray } (.lst (ns.map V.int))) else if b∈ts then some (.tbl #[]) else none) (λb=>?_) (λT h=>?_) (.inl (.inr ⟨{ cls:=.type "list",data:=.seq vs.toArray },if_pos rfl⟩)) (λb u z=>?_) (λb z=>?_) λ_=>hk
  ·by_cases hb:b=a
   ·exact .inr (.inl ⟨_,_,if_pos hb⟩)
   ·by_cases hb2:b∈ts
    ·exact .inr (.inr ⟨hb2,by rw [if_neg hb,if_pos hb2]⟩)
    ·exact .inl (by rw [if_neg hb,if_neg hb2])
  ·rw [if_neg (λz=>aT (by rw [<- z];exact h)),if_pos h]
  ·by_cases hb:b=a
   ·have z':=(if_pos hb).symm.trans z
    cases z'
    subst hb
    exact ⟨ha,by rw [length_map];exact hl,vs,_,rv,ha⟩
   ·have z1:=(if_neg hb).symm.trans z
    by_cases hb2:b∈ts
    ·have z2:=(if_pos hb2).symm.trans z1
     cases z2
     exact hT b hb2
    ·have z2:=(if_neg hb2).symm.trans z1
     cases z2
  ·by_cases hb:b=a
   ·exact .inl hb
   ·by_cases hb2:b∈ts
    ·exact .inr hb2
    ·exact absurd (show (if b=a then _ else if b∈ts then _ else none)=none by rw [if_neg hb,if_neg hb2]) z
theorem walk_ofT{l:PySem.W.OpenLaw}{n k:Nat}{q:Program}{loose:List Str}{XP:(Str->Option Value)->Heap->Prop}{YP:World->Heap->Prop}{d:DefRec}{K:Params->PySem.W.Frag}{CX:World->CXT}{sp:World->Sp}{x:Str}{ts:List Addr}
  (hn:l.most=some n) (hn2:n<=sizeLine) (hdf:d.params.defaults=[]) (hr:zx true k callerA)
  (hY:∀(w:World)(h:Heap),YP w h->(K w.params).In h/\∀T∈ts,h.get? T=some (tabObj #[]))
  (F:∀(w:World)(mg:Str->Option Value)(fa:Addr)(h:Heap),(K w.params).In h->h.Ns mainGlobals mg->mg d.name=some (.ref fa) ->
   ∃fd:FuncData,(∀(s:Shared)(u:Value),BindsTo s fd ⟨[u],[]⟩ [(x,u)])/\(∀T∈ts,(K w.params).lookup T=none/\∃c,codeHdIn (K w.params) c T=true) /\
    ∀base:Heap,(K w.params).In base->base.Ns mainGlobals mg->zcR mg base->zo l.prog w (K w.params) mg base (CX w) true k fa fd [x] (sp w))
  (hsp:∀(w:World)(H:Hp)(a:Addr)(ns:List Int),ns.length<=n->(∀T∈ts,H T=some (.tbl #[]))->SqL (K w.params) H a (ns.map V.int)->sp w [.ref a] H (λv _=>v = .bl true) λ_ _ _=>False)
  (hCX:∀(w:World)(H:Hp)(s:Shared)(e:Value)(s':Shared),CX w [] H s (λ_ _ _=>False) e s'->False) :
  PySem.W.WalkO q loose XP YP l.row.toRowW d [] (λf vs=>PySem.call f vs):=by
 refine Att.attach_call hn hdf λw s₀ s₁ mg mb fa o pm cd doc a vs ns G Y ho hd hcd hmg hobj hints hlen hg=>?_
 obtain ⟨KX,hT⟩:=hY w _ Y
 obtain ⟨fd,hb,hC,hF⟩:=F w mg fa _ KX G.T.g hmg
 have hbm:zcR mg s₁.heap:=by
  obtain ⟨bm,ob,b1,b2,b3,b4,b5,b6⟩:=G.T.bmain
  refine ⟨bm,ob,b1,b2,λz=>?_,b3,b4,b5,b6⟩
  obtain ⟨og,es,ep,eg,hdg,_⟩:=G.T.g
  rw [z,eg] at b3
  cases b3
  rw [hdg] at b6
  cases b6
 exact zvi hT hC hbm KX G.T.g G.T.b G.T.builtins G.T.nolimit hg hobj hints (le_trans hlen hn2) hr hF hb (λH hO hS=>hsp w H a ns hlen hO hS) λH e s'=>hCX w H s₁ e s'
theorem Fun.okC{P:Program}{w:World}{K:PySem.W.Frag}{mg:Str->Option Value}{base:Heap}{x qual:Str}{st:Stmt}{f c:Addr}{fd:FuncData}{N ps:List Str}{cm:Bool}{k:Nat}{sp:Sp}(F:Fun K x qual st f fd)(hc:fd.code = .ref c)(S:zu N ps (ze st))(len:∀vs H Q E,sp vs H Q E->vs.length=ps.length)
  (hbody:∀(A:Around)(outer:List Env)(s:Shared)(H:Hp)(vs:List V)(Q:VK)(E:XK),zx cm k (A.deeper (envOfC qual (ze st) s.heap.objs.size f (.ref c)))->sp vs H Q E ->
   ∃t,PSs (za3 CX0 cm P w K mg base N qual (ze st) f (.ref c) A outer s H E).nox (zt st) t/\t { nx:=λ_ H'=>Q .non H',rt:=Q } (start N vs) H):zo P w K mg base CX0 cm (k+1) f fd ps sp:=by
 obtain ⟨oc,od,kV,doc,pm,an,cdv,ct,osl,rfl,lk,hcd⟩:=F.ex
 have e:cdv = .ref c:=hc
 subst e
 refine zhk lk hcd S len λA outer s H vs Q E hr hsp=>?_
 obtain ⟨t,h,q⟩:=hbody A outer s H vs Q E hr hsp
 exact ⟨t,h.nox,q⟩
section
variable {X:Cx}
theorem zwT{cm:Bool}{k:Nat}{a:Expr}{ta:TE}{x:Str}{params:Arguments}{scope:Scope}{p pos lpos kp p1 p2 p3 p4 p5:Pos}{j1 j2:Nat}{P:Addr}(LB:zew X.mg X.base X.env.code P)(hr:zx cm k X.A)
  (hg:Gl X "sorted") (hm:X.mg "sorted"=none) (ha:W (PE X a ta)) (hdef:defaultsOf params X.env=([],[])) (hcl:closureFor scope X.env=pure [])
  (hbind:∀(q:Str)(pm cd ct v:Value),bindArgs (kla_fn "<lambda>" q params (.Subscript (.Subscript (.Name x p1) (.Constant (.int 0) j1 p2) p3) (.Constant (.int 1) j2 p4) p5) scope [] pm cd ct) ⟨[v],[]⟩=pure [(x,v)])
  (hloc:scope.names=[(x,.local)]) (hkind:scope.kind = .function) (hco:scope.isCoroutine=false) (hgen:scope.isGenerator=false) (hp:zO a=true:=by rfl) (hdb:(x==("__debug__":Str))=false:=by decide) :
  W (PE X (.Call (.Name "sorted" p) [a] [⟨some (Str.ofString "key"),.Lambda params (.Subscript (.Subscript (.Name x p1) (.Constant (.int 0) j1 p2) p3) (.Constant (.int 1) j2 p4) p5) scope lpos,kp⟩] pos) (zh2 P lpos (X.env.qual++"<lambda>") ta)):=⟨zpk LB hr hg hm ha.h hdef hcl hbind hloc hkind hco hgen hp hdb⟩
def zh4(K:PySem.W.Frag)(D:Addr)(tb:(Addr->St->Hp->Prop)->TS)(ts:TS):TS:=λZ σ H =>
 tb (λC σ' H'=>zaY K C/\PySem.W.mroIn K C (.ref D)=some true/\∀ea oe,H' ea=none->ze4 C oe->ts Z σ' (upd H' ea (.frz oe (.own 0)))) Z σ H
theorem zyG{D:Addr}{x:Str}{np hpos pos:Pos}{body:List Stmt}{b₀:Stmt}{suite:List Stmt}{tb:(Addr->St->Hp->Prop)->TS}{ts:TS}(hc:X.calm=true)(hex:X.ex=[])(hstk:X.stack=X.env::X.outer/\X.env.frame=some X.env.locals)
  (OD:zaY X.K D) (hg:Gl X x) (hm:X.mg x=some (.ref D))
  (hb:∀Ga Ex,PSs (zgX X Ga Ex) body (tb Ex)) (hs:∀Ga ea,PSs (zei X Ga ea) (b₀::suite) ts) (hdb:(x==("__debug__":Str))=false:=by decide) :
  PS X (.Try body [.ExceptHandler (some (.Name x np)) none (b₀::suite) hpos] [] [] pos) (zh4 X.K D tb ts):=by
 intro Ga s σ H Z I h
 have hh:X.A.handled=none:=I.ok.hd hc
 refine wpAny_Try_except (wpAny_mono (hb Ga _ [] s σ H Z (I.p.wish _) h) (λf s1 q=>?_) λe s1 q=>?_)
 ·cases f with
  | next =>
   obtain ⟨σ',H',J,q⟩:=q
   exact wpAny_execs_nil ⟨σ',H',Inv.unp I.ok J.unwish,q⟩
  | brk=>obtain ⟨σ',H',J,q⟩:=q;exact ⟨σ',H',Inv.unp I.ok J.unwish,q⟩
  | cont=>obtain ⟨σ',H',J,q⟩:=q;exact ⟨σ',H',Inv.unp I.ok J.unwish,q⟩
  | ret u=>obtain ⟨v,σ',H',J,r,q⟩:=q;exact ⟨v,σ',H',Inv.unp I.ok J.unwish,r,q⟩
 ·obtain ⟨ea,C,B,H',fl,σ',sI,rfl,J,y,os,bare,hB,up,OC,sub,want⟩:=q
  have fr:X.A.frames=some (X.env::X.outer):=by rw [I.ok.frames,hstk.1]
  rw [hstk.1] at y
  refine zjR fr hstk.2 y λh2 y2 u2=>zg5 (s:={ s1 with heap:=h2 }) y2 λh3 y3 u3=>?_
  have y3':za9 B X.stack ea (.ref C) .none h3:=by rw [hstk.1];exact y3
  have up3:=(up.trans u2).trans u3
  obtain ⟨_,oe3,c3,g3,J3⟩:=zj3 (s':={ s1 with heap:=h3 }) hex J y3' os bare hB up3
  obtain ⟨cdC,cC,eC⟩:=OC.obj J3.kIn
  obtain ⟨cdD,cD,eD⟩:=OD.obj J3.kIn
  have hsub:cdC.mro.contains (.ref D)=true:=by
   unfold PySem.W.mroIn at sub
   rw [cC] at sub
   simp only [bind_some] at sub
   split at sub
   ·cases sub
   ·exact Option.some.inj sub
  refine wpAny_handleBy_cons (codeAny_handlers_test (zcK (X:=zei X Ga ea) J3 hg hm ?_ hdb)) (by intro q;cases q)
  refine zpO (h:=h3) (g:=s1.gens) (d:=s1.drawn) (t:=s1.toks) (os:=s1.os) eC eD g3 c3.1 hsub ?_
  refine codeAny_handlers_suite ?_
  refine zg5 (s:={ s1 with heap:=h3 }) y3 λh4 y4 u4=>?_
  have y4':za9 B X.stack ea (.ref C) .none h4:=by rw [hstk.1];exact y4
  obtain ⟨hH4,oe4,c4,g4,J4⟩:=zj3 (s':={ s1 with heap:=h4 }) hex J y4' os bare hB (up3.trans u4)
  refine wpAny_mono (hs Ga ea [] _ _ _ _ J4 (want ea oe4 hH4 c4)) (λf s6 q6=>?_) λ_ _ z=>z.elim
  cases f with
  | next=>obtain ⟨σ7,H7,J7,q7⟩:=q6;exact ⟨_,_,Inv.unsuite I.ok hh J7,q7⟩
  | brk=>obtain ⟨σ7,H7,J7,q7⟩:=q6;exact ⟨_,_,Inv.unsuite I.ok hh J7,q7⟩
  | cont=>obtain ⟨σ7,H7,J7,q7⟩:=q6;exact ⟨_,_,Inv.unsuite I.ok hh J7,q7⟩
  | ret u=>obtain ⟨v,σ7,H7,J7,r7,q7⟩:=q6;exact ⟨v,_,_,Inv.unsuite I.ok hh J7,r7,q7⟩
theorem zlj{D:Addr}{x:Str}{np hpos pos:Pos}{body:List Stmt}{b₀:Stmt}{suite:List Stmt}{tb:(Addr->St->Hp->Prop)->TS}{ts:TS}(hc:X.calm=true)(hex:X.ex=[])(hstk:X.stack=X.env::X.outer/\X.env.frame=some X.env.locals)
  (OD:zaY X.K D) (hg:Gl X x) (hm:X.mg x=some (.ref D))
  (hb:∀Ga Ex,W (PSs (zgX X Ga Ex) body (tb Ex))) (hs:∀Ga ea,W (PSs (zei X Ga ea) (b₀::suite) ts)) (hdb:(x==("__debug__":Str))=false:=by decide) :
  W (PS X (.Try body [.ExceptHandler (some (.Name x np)) none (b₀::suite) hpos] [] [] pos) (zh4 X.K D tb ts)):=⟨zyG hc hex hstk OD hg hm (λGa Ex=>(hb Ga Ex).h) (λGa ea=>(hs Ga ea).h) hdb⟩
theorem zxs{K:PySem.W.Frag}{D:Addr}{tb:(Addr->St->Hp->Prop)->TS}{ts:TS}{Z:zap}{σ:St}{H:Hp}:zh4 K D tb ts Z σ H=tb (λC σ' H'=>zaY K C/\PySem.W.mroIn K C (.ref D)=some true/\∀ea oe,H' ea=none->ze4 C oe->ts Z σ' (upd H' ea (.frz oe (.own 0)))) Z σ H:=rfl
def ziy(neg:Bool):R2:=λx y H Q=>∃a b xs ys,x = .ref a/\y = .ref b/\H a=some (.lst xs)/\H b=some (.lst ys)/\(xs.length=0\/ys.length=0)/\Q (.bl (if neg then !decide (xs.length=ys.length) else decide (xs.length=ys.length))) H
theorem zrC(hu:X.A.units<cLine):OpR X (compareOp .Eq) (ziy false):=by
 intro Ga s σ H x y v u Q I rx ry h
 obtain ⟨a,b,xs,ys,rfl,rfl,ha,hb,h0,q⟩:=h
 cases rx
 cases ry
 by_cases hz:xs.length=ys.length
 ·have h1:xs=[]:=List.length_eq_zero_iff.mp (by omega)
  have h2:ys=[]:=List.length_eq_zero_iff.mp (by omega)
  subst h1 h2
  exact zi7 hu Ga s σ H (.ref a) (.ref b) (.ref a) (.ref b) Q I rfl rfl ⟨a,b,[],[],rfl,rfl,SqL.of ha,SqL.of hb,rfl,rfl,q⟩
 ·obtain ⟨is,r1,p1,_⟩:=I.list (SqL.of (K:=X.K) ha)
  obtain ⟨js,r2,p2,_⟩:=I.list (SqL.of (K:=X.K) hb)
  have l1:=r1.length
  have l2:=r2.length
  refine SeqAt.eq_list_lengthsAt p1.isList p2.isList (by simp;omega) hu ⟨.bl false,H,I,rfl,?_⟩
  have q':Q (.bl (decide (xs.length=ys.length))) H:=q
  rw [decide_eq_false hz] at q'
  exact q'
theorem znt(hu:X.A.units<cLine):OpR X (compareOp .NotEq) (ziy true):=by
 intro Ga s σ H x y v u Q I rx ry h
 obtain ⟨a,b,xs,ys,rfl,rfl,ha,hb,h0,q⟩:=h
 cases rx
 cases ry
 by_cases hz:xs.length=ys.length
 ·have h1:xs=[]:=List.length_eq_zero_iff.mp (by omega)
  have h2:ys=[]:=List.length_eq_zero_iff.mp (by omega)
  subst h1 h2
  exact zma hu Ga s σ H (.ref a) (.ref b) (.ref a) (.ref b) Q I rfl rfl ⟨a,b,[],[],rfl,rfl,SqL.of ha,SqL.of hb,rfl,rfl,q⟩
 ·obtain ⟨is,r1,p1,_⟩:=I.list (SqL.of (K:=X.K) ha)
  obtain ⟨js,r2,p2,_⟩:=I.list (SqL.of (K:=X.K) hb)
  have l1:=r1.length
  have l2:=r2.length
  refine SeqAt.RcNeAt.lists_lengths p1.isList p2.isList (by simp;omega) hu _ _ _ _ ⟨.bl true,H,I,rfl,?_⟩
  have q':Q (.bl (!decide (xs.length=ys.length))) H:=q
  rw [decide_eq_false hz] at q'
  exact q'
theorem zkS{neg:Bool}{a b:Addr}{H:Hp}{Q:VK}:ziy neg (.ref a) (.ref b) H Q = ∃xs ys,H a=some (.lst xs)/\H b=some (.lst ys)/\(xs.length=0\/ys.length=0)/\Q (.bl (if neg then !decide (xs.length=ys.length) else decide (xs.length=ys.length))) H:=by
 apply propext;constructor
 ·rintro ⟨a',b',xs,ys,e1,e2,h⟩;cases e1;cases e2;exact ⟨xs,ys,h⟩
 ·rintro ⟨xs,ys,h⟩;exact ⟨a,b,xs,ys,rfl,rfl,h⟩
def zgP:List V->Hp->VK->Prop:=λxs H Q=>∃i,xs=[.int i]/\Q (.int (if i<0 then -i else i)) H
theorem zyz{i:Int}{H:Hp}{Q:VK}:zgP [.int i] H Q=Q (.int (if i<0 then -i else i)) H:=by simp [zgP]
theorem zyK:zK X (.builtin "abs") zgP:=by
 intro Ga s σ H xs us Q I r h
 obtain ⟨i,rfl,q⟩:=h
 obtain ⟨u,rfl,t,rfl⟩:=za6 r
 exact call_abs_int λu tk=>⟨.int _,H,I.tok tk,⟨_,rfl⟩,q⟩
end
section
variable {K:PySem.W.Frag}{g:TG}{tt:TT}{te:TE}{H:Hp}{Q:VK}
theorem zV.enum{a:Addr}{xs:List V}{τ:St}(Pv:Nat->St->List V->Hp->Prop)(hz:∀i τ ys H,Pv i τ ys H->ys.length<sizeLine)(ha:∀i τ ys H,Pv i τ ys H->SqL K H a xs)(h0:Pv 0 τ [] H)
  (hs:∀(N:St->List V->Hp->Prop) i x p τ ys H,xs[i]?=some x->Pv i τ ys H->H p=none->(∀τ ys H,Pv (i+1) τ ys H->N τ ys H)->g (.ref p) τ (upd H p (.tup [.int i,x])) λτ1 H4=>tt τ1 H4 λok H5=>zbE N ys τ1 te ok H5) (hd:∀τ ys H,Pv xs.length τ ys H->∀D H',New H D (.lst ys) H'->D≠sysModules->Q (.ref D) H'):zV (Ite K a) g tt te τ H Q:=by
 refine ⟨λi m τ ys H=>m=xs.length-i/\i<=xs.length/\Pv i τ ys H,⟨xs.length,by simp,zero_le _,h0⟩,?_⟩
 rintro i m τ ys H2 ⟨rfl,hi,p⟩
 refine ⟨hz i τ ys H2 p,?_⟩
 have q:=ha i τ ys H2 p
 by_cases hlt:i<xs.length
 ·refine .inr ⟨⟨xs,xs[i],q,by simp [hlt]⟩,λx H' y=>?_⟩
  obtain ⟨T,z,hT,rfl,rfl,hz⟩:=y
  exact hs (λτ1 ys H=>∃m',m'<xs.length-i/\m'=xs.length-(i+1)/\i+1<=xs.length/\Pv (i+1) τ1 ys H) i z T τ ys _ (hz xs q) p hT λτ1 zs H q=>⟨xs.length-(i+1),by omega,rfl,hlt,q⟩
 ·have e:i=xs.length:=by omega
  subst e
  exact .inl ⟨⟨xs,q,le_refl _⟩,λD hD hs=>hd τ ys H2 p D _ (.mk' hD) hs⟩
end
theorem zvE{c:Bool}{i:Int}{p:Addr}{H:Hp}{Q:VK}:zet c (.int i) (.ref p) H Q = ∃kvs,Rd H p (.dK kvs)/\Q (.bl (if c then !(zN kvs (.inl i)).isSome else (zN kvs (.inl i)).isSome)) H:=by
 apply propext;constructor
 ·rintro ⟨a,k,kvs,e1,e2,h,q⟩
  cases e1
  cases k with
  | inl i=>cases e2;exact ⟨kvs,h,q⟩
  | inr x=>cases e2
 ·rintro ⟨kvs,h,q⟩;exact ⟨p,.inl i,kvs,rfl,rfl,h,q⟩
def zaT(f:Nat->Int):Nat->Option Int
 | 0=>none
 | j+1=>some (match zaT f j with|none=>f j|some m=>if f j>m then f j else m)
def zfS:Option Int->Array Value->Prop|none,its=>its = #[]|some m,its=>∃t,its = #[.int m t,.int m t]
def zgz(d:Value):Option Int->Value->Prop|none,v=>v=d|some m,v=>∃t,v = .int m t
section
variable {prog:Program}{w:World}{A:Around}{E:Value->Shared->Prop}{s:Shared}
theorem znb{R:Result->Shared->Prop}{I:Addr}{fp wr:List Addr}{n:Nat}{P:Nat->Value->Prop}{St:Nat->Heap->Prop}{d:Value}{kw:List (Str×Value)}(W:Walks prog w A.in1 I fp wr n P St)(f:Nat->Int)(hv:∀i v,P i v->∃t,v = .int (f i) t)(S:Addr)(hSf:S∉fp)(hkw:0<n\/kw=[(Str.ofString "default",d)]) :
  ∀(k j:Nat)(s:Shared)(c:Nat)(its:Array Value),n-j=k->j<=n->St j s.heap->zfS (zaT f j) its ->
  s.heap.get? S=some { cls:=.type "list",dict:=none,data:=.seq its c,slots:=#[] } ->
  (∀v h' tk,zgz d (zaT f n) v->(∀b o,b∉wr->b≠S->s.heap.get? b=some o->h'.get? b=some o)->R (.ok (.ret v)) { s with heap:=h',toks:=tk }) ->
  codeAny (model prog w) A (.builtin "max.loop" ⟨[.ref I,.none,.ref S],kw⟩) R s:=by
 have hSw:S∉wr:=λh=>hSf (W.sub _ h)
 have hname:(toString "max"++toString ".loop":String)="max.loop":=by decide
 intro k
 induction k with
 | zero =>
  intro j s c its hk hj hst hC hS hR
  have hin:j=n:=by omega
  refine codeAny_builtin F.entry_max_loop ?_
  rw [Around.under_plainId F.plain_max_loop _]
  show wpAny _ A.in1 (seqItems? (.ref S)>>=_) _ _ s
  refine wpAny_bind (wpAny_seqItems hS rfl ?_)
  show wpAny _ A.in1 (tryCatch (pyNext (.ref I)) _>>=_) _ _ s
  refine wpAny_bind (wpAny_tryCatch (W.done s _ _ (hin ▸ hst) λh' tk hk'=>?_))
  have hS':=hk' S _ hSw hS
  rw [hin] at hC
  cases hb:zaT f n with
  | none =>
   rw [hb] at hC hR
   cases (show its = #[] from hC)
   have h0 : ¬ 0<n:=λz=>by
    cases n with
    | zero=>omega
    | succ m=>cases hb
   rcases hkw with z|rfl
   ·exact absurd z h0
   show wpAny _ A.in1 (rule _>>=_) _ _ _
   exact wpAny_bind (wpAny_rule (wpAny_pure (hR d _ tk rfl λb o hbw _ e=>hk' b o hbw e)))
  | some m =>
   rw [hb] at hC hR
   obtain ⟨t,rfl⟩:=hC
   show wpAny _ A.in1 (updateSeq S (λ_=>#[])>>=_) _ _ _
   refine wpAny_bind (wpAny_updateSeq hS' rfl (wpAny_bind (wpAny_letGo (wpAny_pure ?_))))
   exact hR _ _ tk ⟨t,rfl⟩ λb o hbw hbS e=>(get?_update_other _ _ (Ne.symm hbS)).trans (hk' b o hbw e)
 | succ k ih =>
  intro j s c its hk hj hst hC hS hR
  have hlt:j<n:=by omega
  refine codeAny_builtin F.entry_max_loop ?_
  rw [Around.under_plainId F.plain_max_loop _]
  show wpAny _ A.in1 (seqItems? (.ref S)>>=_) _ _ s
  refine wpAny_bind (wpAny_seqItems hS rfl ?_)
  show wpAny _ A.in1 (tryCatch (pyNext (.ref I)) _>>=_) _ _ s
  refine wpAny_bind (wpAny_tryCatch (W.item j s _ _ hlt hst λv h' tk hP hst' hk'=>?_))
  have hS':=hk' S _ hSw hS
  obtain ⟨t,rfl⟩:=hv j v hP
  have upd':∀{b o}{g:Array Value->Array Value},b≠S->h'.get? b=some o->(h'.update S (mapSeq g)).get? b=some o:=λn e=>(get?_update_other _ _ (Ne.symm n)).trans e
  have frm:∀{g:Array Value->Array Value},St (j+1) (h'.update S (mapSeq g)):=λ{g}=>W.frame _ _ _ hst' λb hb o e=>upd' (λz=>hSf (z ▸ hb)) e
  cases hb:zaT f j with
  | none =>
   rw [hb] at hC
   cases (show its = #[] from hC)
   show wpAny _ A.in1 (updateSeq S (λ_=>#[.int (f j) t,.int (f j) t])>>=_) _ _ _
   refine wpAny_bind (wpAny_updateSeq hS' rfl ?_)
   rw [hname]
   refine wpAny_pure ⟨plainId_quiet F.plain_max_loop _,ih (j+1) _ _ _ (by omega) hlt frm ?_ (get?_update_self _ hS' rfl) λv' h2 tk2 hP' hk2=>?_⟩
   ·show zfS (some _) _
    rw [hb];exact ⟨t,rfl⟩
   ·exact hR v' h2 tk2 hP' λb o hbw hbS e=>hk2 b o hbw hbS (upd' hbS (hk' b o hbw e))
  | some m =>
   rw [hb] at hC
   obtain ⟨u,rfl⟩:=hC
   show wpAny _ A.in1 (tryCatch (holding [.int (f j) t,.int (f j) t] (richCompare .Gt (.int (f j) t) (.int m u)>>=_)) _>>=_) _ _ _
   obtain ⟨bt,hbt,hcmp⟩:∃bt:Nat->Nat->Bool,bt 0 1=decide (f j>m)/\CmpOf prog w A.in1 .Gt (λi v=>(i=0/\v = .int (f j) t)\/(i=1/\v = .int m u)) bt:=⟨_,rfl,CmpOf.ints_gt (λi=>if i=0 then f j else m) λi v h=>by rcases h with ⟨rfl,rfl⟩|⟨rfl,rfl⟩<;>exact ⟨_,rfl⟩⟩
   refine wpAny_bind (wpAny_tryCatch (wpAny_holding (wpAny_bind (hcmp 0 1 _ _ _ _ _ (.inl ⟨rfl,rfl⟩) (.inr ⟨rfl,rfl⟩) ?_))))
   refine wpAny_bind (wpAny_holding (wpAny_truthy_bool ?_))
   refine wpAny_bind (wpAny_letGo (wpAny_pure ?_))
   by_cases hg:f j>m
   ·rw [hbt,decide_eq_true hg]
    simp only [if_true]
    refine wpAny_bind (wpAny_updateSeq hS' rfl (wpAny_bind (wpAny_letGo ?_)))
    rw [hname]
    refine wpAny_pure ⟨plainId_quiet F.plain_max_loop _,ih (j+1) _ _ _ (by omega) hlt frm ?_ (get?_update_self _ hS' rfl) λv' h2 tk2 hP' hk2=>?_⟩
    ·show zfS (some _) _
     rw [hb];simp only [if_pos hg];exact ⟨t,rfl⟩
    ·exact hR v' h2 tk2 hP' λb o hbw hbS e=>hk2 b o hbw hbS (upd' hbS (hk' b o hbw e))
   ·rw [hbt,decide_eq_false hg]
    simp only [false_eq_true,if_false]
    refine wpAny_bind (wpAny_letGo ?_)
    rw [hname]
    refine wpAny_pure ⟨plainId_quiet F.plain_max_loop _,ih (j+1) _ _ _ (by omega) hlt hst' ?_ hS' λv' h2 tk2 hP' hk2=>?_⟩
    ·show zfS (some _) _
     rw [hb];simp only [if_neg hg];exact ⟨u,rfl⟩
    ·exact hR v' h2 tk2 hP' λb o hbw hbS e=>hk2 b o hbw hbS (hk' b o hbw e)
theorem ztG(a d:Value):argsOk "max" ⟨[a],[(Str.ofString "default",d)]⟩:=by unfold argsOk;kernel_rfl
theorem zwK{l:Addr}{its:Array Value}{f:Nat->Int}{kw:List (Str×Value)}{d:Value}{Q:Value->Shared->Prop}(hh:A.handled=none)(hl:s.heap.IsList l its)(hv:∀(i:Nat) v,its[i]?=some v->∃t,v = .int (f i) t)(hkw:(0<its.size/\kw=[])\/kw=[(Str.ofString "default",d)])
  (h:∀v h' tk,zgz d (zaT f its.size) v->(∀b o,s.heap.get? b=some o->h'.get? b=some o)->Q v { s with heap:=h',toks:=tk }) :
  wpAny (model prog w) A (call (.builtin "max") [.ref l] kw) Q E s:=by
 have hname:(toString "max"++toString ".loop":String)="max.loop":=by decide
 have hlt:l<s.heap.objs.size:=by obtain ⟨_,e,_⟩:=hl;exact lt_size e
 have hao:argsOk "max" ⟨[.ref l],kw⟩:=by
  rcases hkw with ⟨_,rfl⟩|rfl
  ·exact F.args_max1 _
  ·exact ztG _ _
 refine PyProof.Rows.kmk_tree F.kind_max F.plain_max F.entry_max hao ?_
 obtain ⟨df,hdf,hdk⟩:∃df:Option Value,Builtin.Builtins.bindParams "max" ["key","default"] 0 ⟨[],kw⟩=pure [none,df]/\(df.toList.map λd=>((Str.ofString "default":Str),d))=kw:=by
  rcases hkw with ⟨_,rfl⟩|rfl
  ·exact ⟨none,rfl,rfl⟩
  ·exact ⟨some d,rfl,rfl⟩
 show wpAny _ A.in1 (Builtin.Builtins.bindParams "max" ["key","default"] 0 ⟨[],kw⟩>>=_) _ _ s
 refine wpAny_bind (wpAny_of_eq hdf ?_)
 refine wpAny_bind (wpAny_pure ?_)
 refine wpAny_bind (wpAny_pyIter_list hl ?_)
 refine wpAny_bind (wpAny_newObj_type ?_)
 rw [hname]
 have hS:(s.heap.push { cls:=.type "list_iterator",data:=.fields #[.ref l,.int 0 0] }).objs.size=s.heap.objs.size+1:=size_push' ..
 have hlI:l≠s.heap.objs.size:=ne_of_lt hlt
 refine wpAny_pure ⟨plainId_quiet F.plain_max_loop _,?_⟩
 show codeAny _ A (.builtin "max.loop" ⟨[_,.none,_],df.toList.map λd=>((Str.ofString "default":Str),d)⟩) _ _
 rw [hdk]
 refine znb (Walks.list (A:=A.in1) hh _ l hlI its) f hv _ (λhm=>?_) (hkw.imp (·.1) id) _ 0 _ _ #[] rfl (zero_le _) ⟨⟨_,get?_push_of_some _ (get?_push_size _ rfl),rfl,rfl⟩,(hl.push _).push _⟩ rfl (get?_push_size _ rfl) λv h' tk hr hk=>?_
 ·rcases mem_cons.mp hm with e|hm
  ·rw [hS] at e;exact absurd e (ne_of_gt (lt_succ_self _))
  ·rcases mem_cons.mp hm with e|hm
   ·rw [hS] at e;exact absurd (e ▸ lt_succ_of_lt hlt) (Nat.lt_irrefl _)
   ·cases hm
 ·refine h v h' tk hr λb o e=>hk b o (λhm=>?_) (λz=>?_) (get?_push_of_some _ (get?_push_of_some _ e))
  ·rcases mem_cons.mp hm with e1|hm
   ·exact absurd (e1 ▸ lt_size e) (Nat.lt_irrefl _)
   ·cases hm
  ·have:=lt_size e;rw [z,hS] at this;exact absurd this (not_lt.mpr (le_succ _))
end
section
variable {X:Cx}
def zy7:List Int->Option Int
 | []=>none
 | xs=>zaT (λi=>xs.getD i 0) xs.length
def oi:Option Int->V|none=>.non|some m=>.int m
def zh0:List V->Hp->VK->Prop:=λxs H Q=>zhd xs H Q\/∃(l:Addr)(ks:List Int),xs=[.ref l]/\H l=some (.lst (ks.map V.int))/\0<ks.length/\Q (oi (zaT (λi=>ks.getD i 0) ks.length)) H
theorem zpe{ks:List Int}{its:List Value}(r:zj (ks.map V.int) its):∀(i:Nat) v,its.toArray[i]?=some v->∃t,v = .int (ks.getD i 0) t:=by
 intro i v h
 rw [<- getElem?_toList] at h
 replace h:its[i]?=some v:=h
 induction ks generalizing its i with
 | nil=>cases r;simp at h
 | cons k ks ih =>
  cases r with
  | cons r rr =>
   cases i with
   | zero=>obtain ⟨t,rfl⟩:=r;simp at h;subst h;exact ⟨t,rfl⟩
   | succ i=>exact ih rr i (by simpa using h)
theorem zwy{o:Option Int}{v:Value}(h:zgz .none o v):zm (oi o) v:=by
 cases o with
 | none=>cases (show v = .none from h);rfl
 | some m=>obtain ⟨t,rfl⟩:=h;exact ⟨_,rfl⟩
theorem ziF(hc:X.calm=true):zK X (.builtin "max") zh0:=by
 intro Ga s σ H xs us Q I r h
 rcases h with h|⟨l,ks,rfl,hl,hn,q⟩
 ·exact zmF hc Ga s σ H xs us Q I r h
 ·obtain ⟨u,rfl,ru⟩:=za6 r
  cases ru
  obtain ⟨its,rv,p,hz⟩:=I.list (SqL.of (K:=X.K) hl)
  have hlen:=rv.length
  rw [length_map] at hlen
  refine zwK (d:=.none) (f:=λi=>ks.getD i 0) (I.ok.hd hc) p.isList (zpe rv) (.inl ⟨by rw [size_toArray];omega,rfl⟩) λv h' tk hr hk=>⟨_,H,I.kept hk,zwy hr,?_⟩
  rw [size_toArray,<- hlen]
  exact q
def zsE(ta:TE):TE:=λσ H Q=>ta σ H λv H1=>uR v λl=>∃ks:List Int,H1 l=some (.lst (ks.map V.int))/\Q (oi (zaT (λi=>ks.getD i 0) ks.length)) H1
theorem zpi{ta:TE}{σ:St}{H:Hp}{Q:VK}:zsE ta σ H Q=ta σ H λv H1=>uR v λl=>∃ks:List Int,H1 l=some (.lst (ks.map V.int))/\Q (oi (zaT (λi=>ks.getD i 0) ks.length)) H1:=rfl
theorem zv9{i j:Int}{H:Hp}{Q:VK}:zh0 [.int i,.int j] H Q=Q (.int (if j>i then j else i)) H:=by
 apply propext;constructor
 ·rintro (h|⟨l,ks,e,_⟩)
  ·rw [ziH] at h;exact h
  ·cases e
 ·exact λq=>.inl (by rw [ziH];exact q)
theorem zli{l:Addr}{H:Hp}{Q:VK}:zh0 [.ref l] H Q = ∃ks:List Int,H l=some (.lst (ks.map V.int))/\0<ks.length/\Q (oi (zaT (λi=>ks.getD i 0) ks.length)) H:=by
 apply propext;constructor
 ·rintro (⟨i,j,e,_⟩|⟨l',ks,e,h⟩)
  ·cases e
  ·cases e;exact ⟨ks,h⟩
 ·rintro ⟨ks,h⟩;exact .inr ⟨l,ks,rfl,h⟩
def zg1(to te:TE):TE:=λσ H Q=>to σ H λx H1=>uR x λl=>(∃xs,H1 l=some (.lst xs))/\te σ H1 λy H2=>∃(xs:List V)(k:Nat)(v:V),y = .int k/\H2 l=some (.lst xs)/\xs[k]?=some v/\Q v (upd H2 l (.lst (xs.eraseIdx k)))
theorem zwU{to te:TE}{σ:St}{H:Hp}{Q:VK}:zg1 to te σ H Q=to σ H λx H1=>uR x λl=>(∃xs,H1 l=some (.lst xs))/\te σ H1 λy H2=>∃(xs:List V)(k:Nat)(v:V),y = .int k/\H2 l=some (.lst xs)/\xs[k]?=some v/\Q v (upd H2 l (.lst (xs.eraseIdx k))):=rfl
theorem zpU{o e:Expr}{to te:TE}{apos cpos:Pos}(ho:PE X o to)(he:PE X e te)
  (hbase:attributeBase o "pop" X.env (eval o X.env)=eval o X.env:=by rfl)
  (hline:(apos.endLine==cpos.line)=true:=by rfl) (hp:zO e=true:=by rfl):PE X (.Call (.Attribute o "pop" apos) [e] [] cpos) (zg1 to te):=by
 intro Ga s σ H Q I h
 have hs:starEach [e] X.env=[(false,eval e X.env)]:=zct hp
 refine wpAny_Call_method_late hbase (by rw [hs];rfl) hline rfl (thn (ho Ga s σ H _ I h) λv s1 ⟨x,H1,I1,r1,l,ex,⟨xs,hx⟩,q1⟩=>?_)
 subst ex
 obtain ⟨h1,h2⟩:=zfD (T:="list") I1 r1 (.inl ⟨rfl,xs,SqL.of hx⟩)
 refine ⟨"list","list.pop",plainAttrs_list,PySem.F.slot_list_pop,PySem.F.type_list_pop,h1,h2,?_⟩
 rw [hs]
 refine Calls.callWith_builtin rfl (Calls.evalArgs_plain ?_)
 have hA:=zcs he zce (hs:=hs) cpos Ga s1 σ H1 (λys H2=>match ys with|[y]=>∃(xs:List V)(k:Nat)(v:V),y = .int k/\H2 l=some (.lst xs)/\xs[k]?=some v/\Q v (upd H2 l (.lst (xs.eraseIdx k)))|_=>False) I1 q1
 rw [hs] at hA
 refine thn hA λus s2 ⟨vs,H2,I2,r2,q2⟩=>?_
 match vs,q2,r2 with
 | [_],⟨xs2,k,y,rfl,hx2,hk,q2⟩,r2 =>
  obtain ⟨hz,_⟩:=I2.lstM hx2
  have hlt:k<xs2.length:=(List.getElem?_eq_some_iff.mp hk).1
  have hkz:k<sizeLine:=Nat.lt_of_lt_of_le hlt hz
  rw [sizeLine_eq] at hkz
  exact ztl Ga s2 σ H2 (.ref l) [.int k] v us Q I2 r1 r2 ⟨l,xs2,k,k,y,rfl,rfl,hx2,by omega,by omega,by simp [seqIndex?];omega,hk,q2⟩
theorem zpD{o e:Expr}{to te:TE}{apos cpos:Pos}(ho:W (PE X o to))(he:W (PE X e te))
  (hbase:attributeBase o "pop" X.env (eval o X.env)=eval o X.env:=by rfl)
  (hline:(apos.endLine==cpos.line)=true:=by rfl) (hp:zO e=true:=by rfl):W (PE X (.Call (.Attribute o "pop" apos) [e] [] cpos) (zg1 to te)):=⟨zpU ho.h he.h hbase hline hp⟩
end
end L2
namespace L2
open PySem PySem.Spec PyProof.Rows PySem.W
section
variable {α β:Type}{lt:Nat->Nat->Bool}{N:Nat}
def wpK(lt:Nat->Nat->Bool)(N:Nat){α:Type}:KasT α->(α->Prop)->Prop
 | .ret a,Q=>Q a
 | .ask i j k,Q=>i<N/\j<N/\wpK lt N (k (lt i j)) Q
theorem zd8{f:α->KasT β}{Q:β->Prop}:∀{t:KasT α},wpK lt N t (λa=>wpK lt N (f a) Q)->wpK lt N (t.bind f) Q
 | .ret _,h=>h
 | .ask _ _ _,h=>⟨h.1,h.2.1,zd8 h.2.2⟩
theorem za8{Q Q':α->Prop}(hq:∀a,Q a->Q' a):∀{t:KasT α},wpK lt N t Q->wpK lt N t Q'
 | .ret _,h=>hq _ h
 | .ask _ _ _,h=>⟨h.1,h.2.1,za8 hq h.2.2⟩
theorem zlQ{cmp:Nat->Nat->(Bool->Shared->Prop)->Shared->Prop}{s:Shared}(hc:∀i j C,i<N->j<N->C (lt i j) s->cmp i j C s){Q:α->Shared->Prop}:∀{t:KasT α},wpK lt N t (λa=>Q a s)->t.kasWp cmp Q s
 | .ret _,h=>h
 | .ask i j k,h=>hc i j _ h.1 h.2.1 (zlQ hc h.2.2)
structure zaP(lt:Nat->Nat->Bool):Prop where
 asy:∀i j,lt i j=true->lt j i=false
 tra:∀i j k,lt j i=false->lt k j=false->lt k i=false
def at0(p:Array Nat)(i:Nat):Nat:=p.getD i 0
structure PM(N:Nat)(p:Array Nat):Prop where
 perm:p.Perm (toArray (range N))
theorem PM.size{p:Array Nat}(h:PM N p):p.size=N:=by have:=h.perm.size_eq;simpa using this
theorem PM.low{p:Array Nat}(h:PM N p){i:Nat}(hi:i<N):at0 p i<N:=by
 have hs:i<p.size:=by rw [h.size];exact hi
 have e:at0 p i=p[i]:=by unfold at0;simp [Array.getD,hs]
 have m:p[i]∈toArray (range N):=h.perm.mem_iff.mp (Array.getElem_mem hs)
 rw [e];simpa using m
theorem zgQ(p:Array Nat)(i:Nat):at0 p i=(p[i]?).getD 0:=by unfold at0;rw [Array.getD_eq_getD_getElem?]
def Ri(lt:Nat->Nat->Bool)(p:Array Nat)(n:Nat):Prop:=∀i j,i<=j->j<n->lt (at0 p j) (at0 p i)=false
def Fa(lt:Nat->Nat->Bool)(p:Array Nat)(n:Nat):Prop:=∀i j,i<=j->j<n->lt (at0 p i) (at0 p j)=false
theorem zaP.irr(O:zaP lt)(i:Nat):lt i i=false:=by
 cases h:lt i i with
 | false=>rfl
 | true=>rw [O.asy i i h] at h;cases h
theorem zdj{p:Array Nat}{i j k:Nat}(hj:j<=p.size):at0 (kas_rev p i j) k=if i<=k/\k<j then at0 p (i+j-1-k) else at0 p k:=by
 simp only [zgQ]
 unfold kas_rev
 rw [getElem?_mirror_all hj]
 split<;>rfl
theorem PM.rev{p:Array Nat}(h:PM N p)(i j:Nat):PM N (kas_rev p i j):=⟨(mirror_perm p i j _).trans h.perm⟩
theorem zjM{p:Array Nat}{k d x:Nat}(hk:k<p.size)(hd:d<=k):at0 (bubble p k d) x=if x=k-d then at0 p k else if k-d<x/\x<=k then at0 p (x-1) else at0 p x:=by
 simp only [zgQ]
 rw [getElem?_bubble hk d hd]
 split
 ·rfl
 ·split<;>rfl
theorem PM.bub{p:Array Nat}(h:PM N p)(k d:Nat):PM N (bubble p k d):=⟨(bubble_perm p k d).trans h.perm⟩
theorem zh8(O:zaP lt){p:Array Nat}(P:PM N p):∀(f n:Nat),1<=n->n+f<=N->Ri lt p n->wpK lt N (kas_asc p f n) λm=>n<=m/\m<=n+f/\Ri lt p m/\(m=n+f\/lt (at0 p m) (at0 p (m-1))=true)
 | 0,n,h1,hn,r=>⟨le_refl _,le_refl _,r,.inl rfl⟩
 | f+1,n,h1,hn,r=>by
  refine ⟨P.low (show n<N by omega),P.low (show n-1<N by omega),?_⟩
  by_cases c:lt (at0 p n) (at0 p (n-1))=true
  ·show wpK lt N (if lt (at0 p n) (at0 p (n-1))=true then _ else _) _
   rw [if_pos c]
   exact ⟨le_refl _,by omega,r,.inr c⟩
  ·show wpK lt N (if lt (at0 p n) (at0 p (n-1))=true then _ else _) _
   rw [if_neg c]
   have c':lt (at0 p n) (at0 p (n-1))=false:=by simpa using c
   refine za8 (λm hm=>⟨by omega,by omega,hm.2.2.1,hm.2.2.2.imp (λe=>by omega) id⟩) (zh8 O P f (n+1) (by omega) (by omega) λi j hij hj=>?_)
   by_cases e:j<n
   ·exact r i j hij e
   ·have ej:j=n:=by omega
    subst ej
    by_cases ei:i=j
    ·subst ei;exact O.irr _
    ·exact O.tra _ _ _ (r i (j-1) (by omega) (by omega)) c'
def Ali(lt:Nat->Nat->Bool)(p:Array Nat)(n q:Nat):Prop:=∀i,n<=i+(q+1)->i<n->lt (at0 p (n-1)) (at0 p i)=false
theorem zgv(O:zaP lt){p:Array Nat}{n q:Nat}(hs:n<=p.size)(hq:q+1<=n)(a:Ali lt p n q)(f:Fa lt p n):Fa lt (kas_rev p (n-(q+1)) n) n:=by
 have eqv:∀k,k<n->lt (at0 (kas_rev p (n-(q+1)) n) k) (at0 p k)=false/\lt (at0 p k) (at0 (kas_rev p (n-(q+1)) n) k)=false:=λk hk=>by
  rw [zdj hs]
  split
  ·rename_i h
   have x1:=a k (by omega) hk
   have x2:=f k (n-1) (by omega) (by omega)
   have y1:=a (n-(q+1)+n-1-k) (by omega) (by omega)
   have y2:=f (n-(q+1)+n-1-k) (n-1) (by omega) (by omega)
   exact ⟨O.tra _ _ _ x1 y2,O.tra _ _ _ y1 x2⟩
  ·exact ⟨O.irr _,O.irr _⟩
 intro i j hij hj
 exact O.tra _ _ _ (O.tra _ _ _ (eqv j hj).2 (f i j hij hj)) (eqv i (by omega)).1
theorem zlo{p:Array Nat}{i j k:Nat}(hj:j<=p.size)(hk:j<=k):at0 (kas_rev p i j) k=at0 p k:=by rw [zdj hj,if_neg (by omega)]
structure DI(lt:Nat->Nat->Bool)(N:Nat)(p:Array Nat)(n q:Nat):Prop where
 pm:PM N p
 fa:Fa lt p n
 qn:q+1<=n
 al:Ali lt p n q
theorem zfX(O:zaP lt){p:Array Nat}{n:Nat}(f:Fa lt p n)(h1:1<=n)(c:lt (at0 p (n-1)) (at0 p n)=false):Fa lt p (n+1):=λi j hij hj=>by
 by_cases e:j<n
 ·exact f i j hij e
 ·have ej:j=n:=by omega
  subst ej
  by_cases ei:i=j
  ·subst ei;exact O.irr _
  ·exact O.tra _ _ _ c (f i (j-1) (by omega) (by omega))
theorem zfP(O:zaP lt):∀(f:Nat)(p:Array Nat)(n q:Nat),n+f<=N->DI lt N p n q->wpK lt N (kas_desc f p n q) λr=>n<=r.2.1/\r.2.1<=n+f/\DI lt N r.1 r.2.1 r.2.2
 | 0,p,n,q,hn,d=>⟨le_refl _,le_refl _,d⟩
 | f+1,p,n,q,hn,d=>by
  have hq:=d.qn
  have hs:n<=p.size:=by rw [d.pm.size];omega
  refine ⟨d.pm.low (show n<N by omega),d.pm.low (show n-1<N by omega),?_⟩
  show wpK lt N (if lt (at0 p n) (at0 p (n-1))=true then _ else _) _
  by_cases c:lt (at0 p n) (at0 p (n-1))=true
  ·rw [if_pos c]
   have c':=O.asy _ _ c
   have al0:∀p':Array Nat,Ali lt p' (n+1) 0:=λp' i h1 h2=>by
    have:i=n:=by omega
    subst this;exact O.irr _
   split
   ·refine za8 (λr h=>⟨by omega,by omega,h.2.2⟩) (zfP O f _ (n+1) 0 (by omega) ⟨d.pm.rev _ _,zfX O (zgv O hs hq d.al d.fa) (by omega) ?_,by omega,al0 _⟩)
    rw [zlo hs (le_refl _),zdj hs]
    split
    ·have e:=d.fa (n-(q+1)+n-1-(n-1)) (n-1) (by omega) (by omega)
     have a:=d.al (n-(q+1)+n-1-(n-1)) (by omega) (by omega)
     exact O.tra _ _ _ c' e
    ·exact c'
   ·exact za8 (λr h=>⟨by omega,by omega,h.2.2⟩) (zfP O f p (n+1) 0 (by omega) ⟨d.pm,zfX O d.fa (by omega) c',by omega,al0 _⟩)
  ·rw [if_neg c]
   have c1:lt (at0 p n) (at0 p (n-1))=false:=by simpa using c
   refine ⟨d.pm.low (show n-1<N by omega),d.pm.low (show n<N by omega),?_⟩
   show wpK lt N (if lt (at0 p (n-1)) (at0 p n)=true then _ else _) _
   by_cases e:lt (at0 p (n-1)) (at0 p n)=true
   ·rw [if_pos e]
    show n<=n/\n<=n+(f+1)/\DI lt N p n q
    exact ⟨le_refl _,by omega,d⟩
   ·rw [if_neg e]
    have e1:lt (at0 p (n-1)) (at0 p n)=false:=by simpa using e
    refine za8 (λr h=>⟨by omega,by omega,h.2.2⟩) (zfP O f p (n+1) (q+1) (by omega) ⟨d.pm,zfX O d.fa (by omega) e1,by omega,λi h1 h2=>?_⟩)
    show lt (at0 p n) (at0 p i)=false
    by_cases ei:i=n
    ·subst ei;exact O.irr _
    ·exact O.tra _ _ _ (d.al i (by omega) (by omega)) c1
theorem zmk(O:zaP lt){p:Array Nat}{n:Nat}(P:PM N p)(f:Fa lt p n)(h1:1<=n)(hn:n<=N):wpK lt N (kas_tail3 n N p) λr=>1<=r.1/\r.1<=N/\PM N r.2/\Ri lt r.2 r.1:=by
 have hs:n<=p.size:=by rw [P.size];exact hn
 unfold kas_tail3
 refine zd8 (za8 (λm h=>?_) (zh8 O (P.rev 0 n) (N-n) n h1 (by omega) λi j hij hj=>?_))
 ·show 1<=m/\m<=N/\PM N (kas_rev p 0 n)/\Ri lt (kas_rev p 0 n) m
  exact ⟨by omega,by omega,P.rev 0 n,h.2.2.1⟩
 ·rw [zdj hs,zdj hs,if_pos (by omega),if_pos (by omega)]
  exact f _ _ (by omega) (by omega)
theorem zjq(O:zaP lt){p:Array Nat}{n:Nat}(P:PM N p)(f:Fa lt p (n+1))(hn:n+1<=N):wpK lt N (kas_descPart n N p) λr=>1<=r.1/\r.1<=N/\PM N r.2/\Ri lt r.2 r.1:=by
 unfold kas_descPart
 refine zd8 (za8 (λr h=>?_) (zfP O (N-(n+1)) p (n+1) 0 (by omega) ⟨P,f,by omega,λi h1 h2=>?_⟩))
 ·have hq:=h.2.2.qn
  split
  ·exact zmk O (h.2.2.pm.rev _ _) (zgv O (by rw [h.2.2.pm.size];omega) hq h.2.2.al h.2.2.fa) (by omega) (by omega)
  ·exact zmk O h.2.2.pm h.2.2.fa (by omega) (by omega)
 ·have:i=n:=by omega
  subst this;exact O.irr _
theorem zrZ(O:zaP lt){p:Array Nat}(P:PM N p)(h1:1<=N):wpK lt N (kas_count N p) λr=>1<=r.1/\r.1<=N/\PM N r.2/\Ri lt r.2 r.1:=by
 unfold kas_count
 refine zd8 (za8 (λn h=>?_) (zh8 O P (N-1) 1 (le_refl _) (by omega) λi j hij hj=>?_))
 ·obtain ⟨a1,a2,a3,a4⟩:=h
  by_cases e:n=N
  ·rw [if_pos (by simpa using e)]
   exact ⟨a1,by omega,P,a3⟩
  ·rw [if_neg (by simpa using e)]
   have c:lt (at0 p n) (at0 p (n-1))=true:=a4.resolve_left (by omega)
   have hs:n<=p.size:=by rw [P.size];omega
   split
   ·refine ⟨P.low (show 0<N by omega),P.low (show n-1<N by omega),?_⟩
    show wpK lt N (if lt (at0 p 0) (at0 p (n-1))=true then _ else _) _
    by_cases z:lt (at0 p 0) (at0 p (n-1))=true
    ·rw [if_pos z];exact ⟨a1,by omega,P,a3⟩
    ·rw [if_neg z]
     have z':lt (at0 p 0) (at0 p (n-1))=false:=by simpa using z
     have al:Ali lt p n (n-1):=λi _ hi=>a3 i (n-1) (by omega) (by omega)
     have fa:Fa lt p n:=λi j hij hj=>O.tra _ _ _ (O.tra _ _ _ (a3 j (n-1) (by omega) (by omega)) z') (a3 0 i (by omega) (by omega))
     have e0:n-(n-1+1)=0:=by omega
     have fr:=zgv O hs (q:=n-1) (by omega) al fa
     rw [e0] at fr
     refine zjq O (P.rev 0 n) (zfX O fr a1 ?_) (by omega)
     rw [zlo hs (le_refl _),zdj hs,if_pos (by omega)]
     exact O.tra _ _ _ (O.asy _ _ c) (fa (0+n-1-(n-1)) (n-1) (by omega) (by omega))
   ·have en:n=1:=by omega
    subst en
    refine zjq O P (λi j hij hj=>?_) (by omega)
    by_cases ei:i=j
    ·subst ei;exact O.irr _
    ·have:i=0/\j=1:=by omega
     rw [this.1,this.2]
     exact O.asy _ _ c
 ·have:i=j:=by omega
  subst this;exact O.irr _
theorem zid(O:zaP lt){p:Array Nat}{k:Nat}(P:PM N p)(hk:k<N)(s:Ri lt p k):∀(f l r:Nat),l<=r->r<=k->r<=l+f->(∀i,i<l->lt (at0 p k) (at0 p i)=false)->(∀i,r<=i->i<k->lt (at0 p i) (at0 p k)=false) ->
  wpK lt N (kas_place p k f l r) λx=>x<=k/\(∀i,i<x->lt (at0 p k) (at0 p i)=false)/\∀i,x<=i->i<k->lt (at0 p i) (at0 p k)=false
 | 0,l,r,h1,h2,h3,a,b=>by
  have e:l=r:=by omega
  subst e
  exact ⟨h2,a,b⟩
 | f+1,l,r,h1,h2,h3,a,b=>by
  unfold kas_place
  split
  ·have e:l=r:=by omega
   subst e
   exact ⟨h2,a,b⟩
  ·refine ⟨P.low hk,P.low (show (l+r) / 2<N by omega),?_⟩
   show wpK lt N (if lt (at0 p k) (at0 p ((l+r) / 2))=true then _ else _) _
   by_cases c:lt (at0 p k) (at0 p ((l+r) / 2))=true
   ·rw [if_pos c]
    exact zid O P hk s f l _ (by omega) (by omega) (by omega) a λi hi hik=>O.tra _ _ _ (O.asy _ _ c) (s _ _ hi hik)
   ·rw [if_neg c]
    have c':lt (at0 p k) (at0 p ((l+r) / 2))=false:=by simpa using c
    exact zid O P hk s f _ r (by omega) h2 (by omega) (λi hi=>O.tra _ _ _ (s i ((l+r) / 2) (by omega) (by omega)) c') b
theorem zl7(O:zaP lt):∀(f:Nat)(p:Array Nat)(k:Nat),PM N p->k+f<=N->Ri lt p k->wpK lt N (kas_bin f p k) λq=>PM N q/\Ri lt q (k+f)
 | 0,p,k,P,hk,s=>⟨P,s⟩
 | f+1,p,k,P,hk,s=>by
  unfold kas_bin
  refine zd8 (za8 (λl h=>?_) (zid O P (show k<N by omega) s k 0 k (zero_le _) (le_refl _) (by omega) (λi hi=>by omega) λi h1 h2=>by omega))
  obtain ⟨h1,h2,h3⟩:=h
  have hs:k<p.size:=by rw [P.size];omega
  refine za8 (λq h=>⟨h.1,by rw [show k+(f+1)=k+1+f by omega];exact h.2⟩) (zl7 O f _ (k+1) (P.bub _ _) (by omega) λi j hij hj=>?_)
  rw [zjM hs (by omega),zjM hs (by omega),show k-(k-l)=l by omega]
  by_cases ej:j=l
  ·rw [if_pos ej]
   by_cases ei:i=l
   ·rw [if_pos ei];exact O.irr _
   ·rw [if_neg ei,if_neg (by omega)];exact h2 i (by omega)
  ·rw [if_neg ej]
   by_cases e2:l<j/\j<=k
   ·rw [if_pos e2]
    by_cases ei:i=l
    ·rw [if_pos ei];exact h3 _ (by omega) (by omega)
    ·rw [if_neg ei]
     split
     ·exact s _ _ (by omega) (by omega)
     ·exact s _ _ (by omega) (by omega)
   ·rw [if_neg e2,if_neg (by omega),if_neg (by omega)]
    exact s _ _ hij (by omega)
theorem zr2(O:zaP lt)(h1:1<=N):wpK lt N (kas_sort N) λp=>PM N p/\Ri lt p N:=by
 unfold kas_sort
 refine zd8 (za8 (λr h=>?_) (zrZ O ⟨Array.Perm.refl _⟩ h1))
 obtain ⟨a1,a2,a3,a4⟩:=h
 split
 ·refine za8 (λq h=>⟨h.1,by have e:=h.2;rw [show max r.1 1+(N-max r.1 1)=N by omega] at e;exact e⟩) (zl7 O _ _ _ a3 (by omega) (by rw [show max r.1 1=r.1 by omega];exact a4))
 ·have e:r.1=N:=by omega
  rw [e] at a4
  exact ⟨a3,a4⟩
end
end L2
namespace L2
open PySem PySem.Spec PyProof.Rows
theorem zmP{prog:Program}{w:World}{A:Around}{R:Result->Shared->Prop}{s:Shared}{kx vx target iter:Expr}{ifs:List Expr}{scope:Scope}{pos:Pos}{it:Value}{D:Addr}{env:Env}(I:Nat->Shared->Prop)
  (turn:∀n s,I n s->wpAny (model prog w) A (pyNext it) (λr s₁=>match r with
   | none=>R (.ok .next) s₁
   | some v=>wpAny (model prog w) A (letOwnedTupleGo target it v) (λ_ s₁'=>wpAny (model prog w) A (assign target env v) (λ_ s₂ =>
     wpAny (model prog w) A (forIn ifs true λc r=>if r=true then do let ok<-isTrue c env (eval c env);pure (ForInStep.yield ok) else pure (ForInStep.yield r)) (λok s₃ =>
      if ok=true then wpAny (model prog w) A (eval kx env) (λx s₄=>wpAny (model prog w) A (eval vx env) (λy s₅ =>
       wpAny (model prog w) A (dictSet D x y) (λ_ s₆=>∃m,m<n/\I m s₆) (λ_ _=>False) s₅) (λ_ _=>False) s₄) (λ_ _=>False) s₃
      else ∃m,m<n/\I m s₃) (λ_ _=>False) s₂) (λ_ _=>False) s₁') (λ_ _=>False) s₁) (λ_ _=>False) s)
  (n:Nat) (h:I n s):codeAny (model prog w) A (.compLoop (.DictComp kx vx [⟨target,iter,ifs,0⟩] scope pos) 0 it (.ref D) env) R s:=by
 refine codeAny_loop rfl I (λn s hI=>?_) n h
 show wpAny _ A ((compTurn (.DictComp kx vx [⟨target,iter,ifs,0⟩] scope pos) 0 it (.ref D) env).onRaise (λx=>do noteFrame x env;theTreesLotGoes x)) _ _ s
 refine wpAny_noted (wpAny_mono (E:=λ_ _=>False) ?_ (λ_ _ q=>q) λ_ _ z=>z.elim)
 rw [compTurn_dict]
 refine wpAny_bind (wpAny_standAt (wpAny_bind (wpAny_mono (turn n s hI) (λr s₁ h₁=>?_) λ_ _ h'=>h')))
 cases r with
 | none=>exact wpAny_pure h₁
 | some v =>
  refine wpAny_bind (wpAny_mono h₁ (λ_ s₁' h₁'=>?_) λ_ _ h'=>h')
  refine wpAny_bind (wpAny_mono h₁' (λ_ s₂ h₂=>wpAny_bind (wpAny_mono h₂ (λok s₃ h₃=>?_) λ_ _ h'=>h')) λ_ _ h'=>h')
  cases ok with
  | false=>exact wpAny_pure ⟨rfl,h₃⟩
  | true=>exact wpAny_bind (wpAny_bind (wpAny_mono h₃ (λkv s₄ h₄=>wpAny_bind (wpAny_holding (wpAny_mono h₄ (λvv s₅ h₅=>wpAny_bind (wpAny_standAt (wpAny_holding (wpAny_mono h₅ (λ_ s₆ h₆=>wpAny_pure ⟨rfl,h₆⟩) λ_ _ z=>z)))) λ_ _ z=>z))) λ_ _ z=>z))
def tDC(ix:List (Option Nat))(wi:TI)(g:TG)(tt:TT)(tk tv:TE):TE:=λσ H Q=>wi σ H λJ H1=>∃W:Nat->Nat->St->List (Key×V)->Hp->Prop,(∃m,W 0 m (zaN ix σ) [] H1)/\∀i m τ ys H2,W i m τ ys H2->ys.length<sizeLine /\
 ((J.stop i H2 ∧ ∀ D, H2 D = none → D ≠ sysModules → Q (.ref D) (upd H2 D (.dK ys))) ∨
  (J.go i H2 ∧ ∀ x H3, J.yld i H2 x H3 → g x τ H3 fun τ1 H4 => tt τ1 H4 fun ok H5 => if ok = true then tk τ1 H5 fun y H6 => tv τ1 H6 fun z H7 => uK y fun k => ∃ m', m' < m ∧ W (i + 1) m' τ1 (zai ys k z) H7 else ∃ m', m' < m ∧ W (i + 1) m' τ1 ys H5))
theorem zpw{c:Bool}{X:Cx}{kx vx tg iter:Expr}{ifs:List Expr}{sc:Scope}{pos:Pos}{N':List Str}{ix:List (Option Nat)}{wi:TI}{g:TG}{tt:TT}{tk tv:TE}(hc:c=true->X.calm=true)(L:zah X sc N' ix)(hi:PIc c X tg iter wi)
  (hg:∀Ga C fp s H,PG (zz X sc N' Ga C fp s H) tg g) (ht:∀Ga C fp s H,PTs (zz X sc N' Ga C fp s H) ifs tt) (hk:∀Ga C fp s H,PE (zz X sc N' Ga C fp s H) kx tk) (hv:∀Ga C fp s H,PE (zz X sc N' Ga C fp s H) vx tv)
  (hs:∀x,foldedSetIterable iter X.env x=pure x:=by intro _;rfl):PE X (.DictComp kx vx [⟨tg,iter,ifs,0⟩] sc pos) (tDC ix wi g tt tk tv):=by
 intro Ga s σ H Q I h
 rw [arm_eval_DictComp]
 have hclos:closureFor sc X.env=pure (zan X.env.cells sc.names []):=zgV λy hy hk=>I.ok.has y.1 (.inl (L.free y hy hk).1)
 refine wpAny_comprehension_free (use:=none) rfl hs hclos L.kind L.names (thn (hi Ga s σ H _ I h) λv s1 h1=>thn h1 λitv s2 h2=>?_)
 obtain ⟨it,fp,tn,J,H2,e,I2,T,st2,f2,W,⟨m0,w0⟩,turn⟩:=h2
 subst e
 refine wpAny_newObj_type (wpAny_newFunctionEnv L.cell (by intro y hy;simp at hy) (λh₁ hns₁ hsb₁=>?_) L.kind)
 dsimp only at hns₁ hsb₁ ⊢
 have hnew:(s2.heap.push { cls:=.type "dict",dict:=none,data:=.dict #[] }).DictOf (zaf X.prog X.w) s2.heap.objs.size []:=Heap.DictOf.new s2.heap
 generalize hH2:s2.heap.push { cls:=.type "dict",dict:=none,data:=.dict #[] }=G2 at hns₁ hsb₁ hnew ⊢
 have hC:G2.objs.size=s2.heap.objs.size+1:=by rw [<- hH2,size_push]
 have hDC:s2.heap.objs.size≠G2.objs.size:=by rw [hC];exact ne_of_lt (lt_succ_self _)
 have hCle:s2.heap.objs.size<=G2.objs.size:=by rw [hC];exact le_succ _
 have below:∀b,b<s2.heap.objs.size->b≠G2.objs.size/\b≠s2.heap.objs.size:=λb hb=>⟨by rw [hC];exact ne_of_lt (lt_succ_of_lt hb),ne_of_lt hb⟩
 have old:∀b o,s2.heap.get? b=some o->h₁.get? b=some o:=λb o e=>hsb₁.extBut b o (below b (lt_size e)).1 (get?_push_of_some _ (hH2 ▸ get?_push_of_some _ e))
 have hacc:h₁.DictOf (zaf X.prog X.w) s2.heap.objs.size []:=hnew.at λo e=>hsb₁.extBut _ _ hDC (get?_push_of_some _ e)
 have fl:∀b∈fp,b<s2.heap.objs.size:=λb hb=>by
  obtain ⟨o,e,_⟩:=T.obj 0 _ st2 b hb
  exact lt_size e
 have hDfp:s2.heap.objs.size∉fp:=λz=>Nat.lt_irrefl _ (fl _ z)
 generalize hD:s2.heap.objs.size=D at *
 generalize hCe:G2.objs.size=C at *
 have cof:∀x c,(zan X.env.cells sc.names []).lookup x=some c->X.env.cells.lookup x=some c:=λx c h=>by
  rcases zeH h with h|h
  ·cases h
  ·exact h.1
 have st1:tn 0 h₁:=T.keep _ _ _ st2 λb _ o e=>old b o e
 have I3:Inv (zz X sc N' Ga C fp s2 H2) [] (zaN ix σ) H2 { s2 with heap:=h₁,toks:=s2.toks+([]:List (Str×Value)).length }:=zgK I2 L f2 (λb hb=>by rw [hD];exact fl b hb) (by rw [hD];exact hCle) hns₁ old
 have D0:H2 D=none:=I2.hok.fresh (le_of_eq hD)
 have fD:∀{H':Hp},H' D=none->zaL (zz X sc N' Ga C fp s2 H2) [] H' D:=λ{H'} hn=>by
  refine ⟨hn,hDC,λz=>?_,.inr (le_of_eq hD),λx c hx z=>?_,λp hp z=>?_⟩
  ·obtain ⟨_,o,ho,_⟩:=I2.stack.mem (show D∈frs X.stack from z)
   exact absurd (lt_size ho) (by rw [hD];exact Nat.lt_irrefl _)
  ·obtain ⟨v,q⟩:=I2.cell x c (cof x c hx)
   have:=q.lt
   rw [z,hD] at this
   exact Nat.lt_irrefl _ this
  ·have hp':p∈X.pn++Ga:=by
    have:p∈(X.pn++Ga)++[]:=hp
    simpa using this
   have:=lt_size (I2.pin p hp').1
   rw [z,hD] at this
   exact Nat.lt_irrefl _ this
 have fF:∀{H':Hp},(∀b∈fp,H' b=none)->∀b∈fp,zaL (zz X sc N' Ga C fp s2 H2) [] H' b:=λ{H'} hn b hb=>by
  obtain ⟨_,g1,g2,g3,g4,g5⟩:=f2 b hb
  refine ⟨hn b hb,(below b (fl b hb)).1,λz=>?_,.inl hb,λx c hx=>g4 x c (cof x c hx),λp hp=>g5 p ?_⟩
  ·rcases mem_cons.mp (I2.stkSub b z) with e|e
   ·exact g1 e
   ·exact g2 e
  ·have:p∈(X.pn++Ga)++[]:=hp
   simpa using this
 have loop:∀s₃:Shared,s₃={ s2 with heap:=h₁,toks:=s2.toks+([]:List (Str×Value)).length } ->
   codeAny (model X.prog X.w) X.A (.compLoop (.DictComp kx vx [⟨tg,iter,ifs,0⟩] sc pos) 0 (.ref it) (.ref D) (compEnvC sc (zan X.env.cells sc.names []) C X.env))
    (compPost (model X.prog X.w) X.A X.xe none (EP X Ga σ Q) (.ref D) C) s₃:=by
  rintro s₃ rfl
  refine zmP (λn s'=>∃i τ ys H',Inv (zz X sc N' Ga C fp s2 H2) [] τ H' s'/\tn i s'.heap/\(∀b∈fp,H' b=none)/\H' D=none/\(∃vs,KV ys vs/\s'.heap.DictOf (zaf X.prog X.w) D vs)/\W i n τ ys H')
   ?_ m0 ⟨0,_,[],H2,I3,st1,λb hb=>(f2 b hb).1,D0,⟨[],.nil,hacc⟩,w0⟩
  rintro n s4 ⟨i,τ,ys,H4,I4,st4,fr4,dn4,⟨vs,rv,dd⟩,w4⟩
  obtain ⟨hlen,step⟩:=turn i n τ ys H4 w4
  obtain ⟨ob,es,ep,dg,dx,ddt,dr⟩:=id dd
  have dat:∀{h:Heap},h.get? D=some ob->h.DictOf (zaf X.prog X.w) D vs:=λ{h} e=>⟨ob,es,ep,e,dx,ddt,dr⟩
  have noc:∀v,ob.data≠.cell v:=λv z=>by rw [ddt] at z;cases z
  rcases step with ⟨stop,fin⟩|⟨go,step⟩
  ·refine thn (T.done (zz X sc N' Ga C fp s2 H2) rfl rfl rfl hc i [(D,ob)] s4 τ H4 (λ_ _=>False) (I4.pins_of λp hp=>?_) (λb hb=>?_) st4 stop) λr s5 ⟨hr,I5⟩=>?_
   ·have e:p=(D,ob):=by simpa using hp
    subst e
    obtain ⟨g0,g1,g2,_⟩:=fD dn4
    exact ⟨dg,g0,g1,g2,noc⟩
   ·obtain ⟨g0,g1,g2,g3,g4,g5⟩:=fF fr4 b hb
    refine ⟨g0,g1,g2,g3,g4,λp hp=>?_⟩
    rcases mem_append.mp hp with z|z
    ·exact g5 p (mem_append_left _ z)
    ·have e:p=(D,ob):=by simpa using z
     subst e
     exact λq=>hDfp (by have q':D=b:=q;rw [q'];exact hb)
   ·subst hr
    have dg5:=(I5.pin (D,_) (mem_append_right _ (mem_singleton.mpr rfl))).1
    obtain ⟨m5,hn5,_⟩:=id I5.loc
    refine ⟨m5,hn5,λh' hsb=>?_⟩
    have kb:∀b u,b≠C->s5.heap.get? b=some u->h'.get? b=some u:=λb u hb e=>(hsb.2 b hb).trans e
    have hlt:∀b o,s2.heap.get? b=some o->b≠C/\b≠D:=λb o e=>by
     have:=lt_size e
     rw [hD] at this
     exact below b this
    have nsm:D≠sysModules:=by have h:mainGlobals<s2.heap.objs.size:=(I2.mod.glob.keeps I2.bk).lt;rw [hD] at h;exact ne_of_gt (lt_trans (by decide) h)
    have U:=I5.base
    refine ⟨.ref D,upd H4 D (.dK ys),I2.call' (s':={ s5 with heap:=h' }) (ch:=fp) I5.os ⟨λb o e n hb hx=>kb b o (hlt b o e).1 (U.keep b o e n hb hx),λb o e n hb hx=>?_,λb o e n hx=>?_,λb o e hx=>?_,λb xs e=>?_,λb o u e=>?_,λb ps e=>?_⟩ ?_ I5.bare (λb hb=>?_),rfl,fin D dn4 nsm⟩
    ·obtain ⟨sl,q⟩:=U.slot b o e n hb hx
     exact ⟨sl,kb b _ (hlt b o e).1 q⟩
    ·rw [zd (hlt b o e).2]
     exact U.free b o e n hx
    ·obtain ⟨o',q⟩:=U.there b o e hx
     exact ⟨o',kb b _ (hlt b o e).1 q⟩
    ·have q:=U.tups b xs e
     rw [zd (zA q dn4)]
     exact q
    ·have q:=U.frzs b o u e
     rw [zd (zA q dn4)]
     exact q
    ·obtain ⟨more,q⟩:=U.tbls b ps e
     exact ⟨more,by rw [zd (zA q dn4)];exact q⟩
    ·refine (I5.hok.but I5.free kb).add dn4 ?_
     exact ⟨le_of_lt hlen,by simpa using nsm,vs,rv,dat (kb _ _ hDC dg5)⟩
    ·obtain ⟨_,g1,g2,g3,g4,g5⟩:=f2 b hb
     exact ⟨g3,g1,g4,g5⟩
  ·refine thn (T.item (zz X sc N' Ga C fp s2 H2) rfl rfl rfl hc i [(D,ob)] s4 τ H4 (λ_ _=>False) (I4.pins_of λp hp=>?_) (λb hb=>?_) st4 go) λr s5 ⟨u,hr,h5⟩=>?_
   ·have e:p=(D,ob):=by simpa using hp
    subst e
    obtain ⟨g0,g1,g2,_⟩:=fD dn4
    exact ⟨dg,g0,g1,g2,noc⟩
   ·obtain ⟨g0,g1,g2,g3,g4,g5⟩:=fF fr4 b hb
    refine ⟨g0,g1,g2,g3,g4,λp hp=>?_⟩
    rcases mem_append.mp hp with z|z
    ·exact g5 p (mem_append_left _ z)
    ·have e:p=(D,ob):=by simpa using z
     subst e
     exact λq=>hDfp (by have q':D=b:=q;rw [q'];exact hb)
   ·subst hr
    refine thn h5 λ_ s6 ⟨x,H6,I6,r6,y6,st6,fr6⟩=>?_
    obtain ⟨dg6,dn6,_⟩:=I6.pin (D,_) (mem_append_right _ (mem_singleton.mpr rfl))
    have dn6':H6 D=none:=dn6
    have all6:∀b∈D::fp,zaL (zz X sc N' Ga C fp s2 H2) [] H6 b:=λb hb=>by
     rcases mem_cons.mp hb with z|z
     ·subst z;exact fD dn6'
     ·exact fF fr6 b z
    have obj6:∀b∈D::fp,∃o,s6.heap.get? b=some o/\∀v,o.data≠.cell v:=λb hb=>by
     rcases mem_cons.mp hb with z|z
     ·subst z;exact ⟨_,dg6,noc⟩
     ·exact T.obj _ _ st6 b z
    have I6':=(I6.unpinned (Ga:=[])).pinned all6 obj6
    refine thn (hg Ga C fp s2 H2 _ s6 τ H6 x u _ I6' r6 (step x H6 y6)) λ_ s7 ⟨τ7,H7,I7,q7⟩=>?_
    refine thn (ht Ga C fp s2 H2 _ s7 τ7 H7 _ I7 q7) λok s8 ⟨H8,I8,q8⟩=>?_
    have back:∀{s9:Shared}{H9:Hp},Inv (zz X sc N' Ga C fp s2 H2) ([]++zcJ (D::fp) s6.heap) τ7 H9 s9->s9.heap.get? D=some ob/\H9 D=none/\tn (i+1) s9.heap/\∀b∈fp,H9 b=none:=λ{s9 H9} I9=>by
     have pin:∀b o,b∈D::fp->s6.heap.get? b=some o->s9.heap.get? b=some o/\H9 b=none:=λb o hb e=>by
      have q:=I9.pin (b,o) (mem_append_right _ (mem_append_right _ (zeN hb e)))
      exact ⟨q.1,q.2.1⟩
     refine ⟨(pin D _ mem_cons_self dg6).1,(pin D _ mem_cons_self dg6).2,T.keep _ _ _ st6 λb hb o e=>(pin b o (mem_cons_of_mem _ hb) e).1,λb hb=>?_⟩
     obtain ⟨o,e,_⟩:=T.obj _ _ st6 b hb
     exact (pin b o (mem_cons_of_mem _ hb) e).2
    cases ok with
    | false =>
     obtain ⟨b1,b2,b3,b4⟩:=back I8
     simp only [false_eq_true,if_false] at q8 ⊢
     obtain ⟨m',hm,w'⟩:=q8
     exact ⟨m',hm,i+1,τ7,ys,H8,I8.unpinned,b3,b4,b2,⟨vs,rv,dat b1⟩,w'⟩
    | true =>
     simp only [if_true] at q8 ⊢
     refine thn (hk Ga C fp s2 H2 _ s8 τ7 H8 _ I8 q8) λy s9 ⟨yv,H9,I9,r9,q9⟩=>?_
     refine thn (hv Ga C fp s2 H2 _ s9 τ7 H9 _ I9 q9) λz s10 ⟨zv,H10,I10,r10,kk,ek,m',hm,w'⟩=>?_
     subst ek
     obtain ⟨b1,b2,b3,b4⟩:=back I10
     have lv:vs.length<sizeLine:=by rw [<- rv.length];exact hlen
     refine wpAny_dictSet_pairs (hsz:=le_of_lt lv) (zcp r9) (dat b1) λh11 dd11 sb=>?_
     obtain ⟨_,g1,_,g3,g4,g5⟩:=fD b2
     exact ⟨m',hm,i+1,τ7,zai ys kk zv,H10,(I10.unpinned (Ga:=[])).turned (t':=s10.toks+1) (λb o hb e=>(sb.2 b hb).trans e) b2 g1 g3 g4 g5,T.keep _ _ _ b3 λb hb o e=>(sb.2 b λq=>hDfp (by rw [<- q];exact hb)).trans e,b4,b2,⟨_,rv.put kk r10,dd11⟩,w'⟩
 exact codeAny_compStart_dict (loop _ rfl) (T.self _ 0 _ _ _ st1 (loop _ rfl))
end L2
namespace L2
open PySem PySem.Spec PyProof.Rows PySem.W PySem.Calls
theorem zkt{α:Type}(d:α):∀vs:List α,(range vs.length).map (λi=>vs.getD i d)=vs:=λvs=>by
 apply List.ext_getElem?
 intro i
 rw [getElem?_map]
 by_cases h:i<vs.length
 ·rw [List.getElem?_range h,List.getElem?_eq_getElem h]
  show some (vs.getD i d)=_
  rw [getD_eq_getElem?_getD,List.getElem?_eq_getElem h];rfl
 ·rw [getElem?_eq_none (by simp;omega),getElem?_eq_none (by omega)];rfl
section
variable {prog:Program}{w:World}{A:Around}{E:Value->Shared->Prop}{s:Shared}
theorem zsR{κ:SortKind}{lt:Nat->Nat->Bool}(O:zaP lt){a:Addr}{vs:List Value}{n:Nat}{P:Fin->Shared->Prop}(ho:s.heap.get? a=some (seqObj "list" vs.toArray n))(h64:vs.length<64)
  (hk:∀(h':Heap)(Q:SortKind->Shared->Prop),(∀b o,b≠a->s.heap.get? b=some o->h'.get? b=some o)->2<=vs.length->Q κ { s with heap:=h' }->wpAny (model prog w) A (keyKind' vs.toArray) Q E { s with heap:=h' })
  (hl:∀(h':Heap) i j C,(∀b o,b≠a->s.heap.get? b=some o->h'.get? b=some o)->i<vs.length->j<vs.length->C (lt i j) { s with heap:=h' }->kas_ask prog w A κ vs i j C { s with heap:=h' })
  (h:∀p:Array Nat,PM vs.length p->Ri lt p vs.length->P (.done (.ret .none)) { s with heap:=sortedHeap s.heap a vs (toArray (p.toList.map λi=>vs.getD i Value.none)) }) :
  wpAny (model prog w) A (Builtin.«list.sort» ⟨[.ref a],[]⟩) P E s:=by
 rw [list_sort_plain]
 have ha:a<s.heap.objs.size:=lt_size ho
 obtain ⟨e1,ho1⟩:∃e1,(s.heap.update a (mapSeq λ_=>(#[]:Array Value))).get? a=some (seqObj "list" #[] e1):=⟨_,get?_update_seq ho λ_=>#[]⟩
 refine wpAny_bind (listItems_at ho rfl (wpAny_bind (listUpdate_at ho rfl ?_ (by rw [size_toArray,sizeLine_eq];omega) (zero_le _))))
 refine wpAny_bind (seqEpoch_at ho1 rfl (wpAny_bind (wpAny_newTuple (wpAny_bind (wpAny_newList (wpAny_holding ?_) (zero_le _))) (by show vs.length<=_;rw [sizeLine_eq];omega))))
 have k6:∀b o,b≠a->s.heap.get? b=some o->(((s.heap.update a (mapSeq λ_=>(#[]:Array Value))).push (seqObj "tuple" vs.toArray 0)).push (seqObj "list" #[] 0)).get? b=some o:=λb o hb e=>by
  refine get?_push_of_some _ (get?_push_of_some _ ?_)
  rw [Heap.get?_update_ne _ _ _ _ hb];exact e
 have ho6:(((s.heap.update a (mapSeq λ_=>(#[]:Array Value))).push (seqObj "tuple" vs.toArray 0)).push (seqObj "list" #[] 0)).get? a=some (seqObj "list" #[] e1):=get?_push_of_some _ (get?_push_of_some _ ho1)
 show wpAny (model prog w) A _ P E { s with heap:=((s.heap.update a (mapSeq λ_=>(#[]:Array Value))).push (seqObj "tuple" vs.toArray 0)).push (seqObj "list" #[] 0) }
 dsimp only
 have hz:vs.toArray.size=vs.length:=by simp
 have big:vs.length<=sizeLine:=by rw [sizeLine_eq];omega
 by_cases h2:vs.toArray.size<2
 ·rw [if_pos h2,if_pos h2]
  refine wpAny_bind (wpAny_pure ?_)
  rw [StateT.run_pure]
  refine wpAny_bind (wpAny_pure ?_)
  dsimp only
  have hr:=h (toArray (range vs.length)) ⟨Array.Perm.refl _⟩ (λi j hij hj=>by
   have:i=j:=by omega
   subst this;exact O.irr _)
  rw [show (toArray (range vs.length)).toList=range vs.length from rfl,zkt] at hr
  have eo:(arrOf (SortSt.mk' general' (vs.toArray.zip vs.toArray) #[] 7 none)).map (·.2)=vs.toArray:=by
   show (vs.toArray.zip vs.toArray).map (·.2)=vs.toArray
   apply Array.ext
   ·simp
   ·intro i h1 h2;simp
  rw [eo]
  refine wpAny_bind (seqEpoch_at ho6 rfl (wpAny_bind (listUpdate_at ho6 rfl ?_ (zero_le _) (by rw [hz];exact Nat.le_succ_of_le big))))
  simp only [bne_self_eq_false,false_eq_true,if_false]
  exact wpAny_pure hr
 ·rw [if_neg h2,if_neg h2]
  have n2:2<=vs.length:=by omega
  refine wpAny_bind (hk _ _ k6 n2 ?_)
  have run:=zr2 O (N:=vs.length) (by omega)
  have wp:=zlQ (cmp:=kas_ask prog w A κ vs) (s:={ s with heap:=((s.heap.update a (mapSeq λ_=>(#[]:Array Value))).push (seqObj "tuple" vs.toArray 0)).push (seqObj "list" #[] 0) }) (hl _ · · · k6) (Q:=λp s'=>s'={ s with heap:=((s.heap.update a (mapSeq λ_=>(#[]:Array Value))).push (seqObj "tuple" vs.toArray 0)).push (seqObj "list" #[] 0) }/\PM vs.length p/\Ri lt p vs.length) (za8 (λp q=>⟨rfl,q⟩) run)
  refine wpAny_bind (wpAny_mono (kat_run (E:=E) (Q:=λst' s'=>∃p:Array Nat,p.size=vs.length/\arrOf st'=p.map (kas_item (vs.toArray.zip vs.toArray))/\failedOf st'=none/\s'={ s with heap:=((s.heap.update a (mapSeq λ_=>(#[]:Array Value))).push (seqObj "tuple" vs.toArray 0)).push (seqObj "list" #[] 0) }/\PM vs.length p/\Ri lt p vs.length) rfl n2 h64 (λp st' s' a1 a2 a3 a4=>⟨p,a1,a2,a3,a4⟩) wp) ?_ λ_ _ z=>z)
  rintro ⟨⟨⟩,st'⟩ s' ⟨p,hp,har,hf,rfl,pm,ri⟩
  dsimp only
  have ho':=kat_snds rfl har
  rw [ho',hf]
  refine wpAny_bind (seqEpoch_at ho6 rfl (wpAny_bind (listUpdate_at ho6 rfl ?_ (zero_le _) (by rw [size_toArray,length_map,length_toList,hp];exact Nat.le_succ_of_le big))))
  simp only [bne_self_eq_false,false_eq_true,if_false]
  exact wpAny_pure (h p pm ri)
theorem zvg{κ:SortKind}{lt:Nat->Nat->Bool}(O:zaP lt){l:Addr}{vs:List Value}{Q:Value->Shared->Prop}(hl0:s.heap.IsList l vs.toArray)(h64:vs.length<64)
  (hk:∀(h':Heap)(Q:SortKind->Shared->Prop),(∀b o,s.heap.get? b=some o->h'.get? b=some o)->2<=vs.length->Q κ { s with heap:=h' }->wpAny (model prog w) A.in1.in1 (keyKind' vs.toArray) Q E { s with heap:=h' })
  (hl:∀(h':Heap) i j C,(∀b o,s.heap.get? b=some o->h'.get? b=some o)->i<vs.length->j<vs.length->C (lt i j) { s with heap:=h' }->kas_ask prog w A.in1.in1 κ vs i j C { s with heap:=h' })
  (h:∀p:Array Nat,PM vs.length p->Ri lt p vs.length->Q (.ref (s.heap.objs.size+1)) { s with heap:=sortedAll s.heap vs (toArray (p.toList.map λi=>vs.getD i Value.none)) }) :
  wpAny (model prog w) A (call (.builtin "sorted") [.ref l]) Q E s:=by
 refine call_function_entry kind_sorted plain_sorted entry_sorted (args_sorted1 _) ?_
 unfold Builtin.«sorted»
 refine wpAny_bind (m:=checkCount "sorted" 1 1 _) (wpAny_pure (wpAny_bind (collect_list hl0 (wpAny_bind (wpAny_newList ?_ (by rw [sizeLine_eq];omega))) (by rw [sizeLine_eq];omega))))
 have hsz:((s.heap.push (seqObj "list" #[] 0)).update s.heap.objs.size (mapSeq (·++vs.toArray))).objs.size=s.heap.objs.size+1:=(Heap.size_update ..).trans (size_push' ..)
 have hoL:(((s.heap.push (seqObj "list" #[] 0)).update s.heap.objs.size (mapSeq (·++vs.toArray))).push (seqObj "list" vs.toArray 0)).get? (s.heap.objs.size+1)=some (seqObj "list" vs.toArray 0):=hsz ▸ get?_push_size _ rfl
 have keep:∀b o,s.heap.get? b=some o->(((s.heap.push (seqObj "list" #[] 0)).update s.heap.objs.size (mapSeq (·++vs.toArray))).push (seqObj "list" vs.toArray 0)).get? b=some o:=λb o q=>by
  refine get?_push_of_some _ ?_
  rw [Heap.get?_update_ne _ _ _ _ (ne_of_lt (lt_size q))]
  exact get?_push_of_some _ q
 show wpAny _ _ _ _ _ { s with heap:=((s.heap.push (seqObj "list" #[] 0)).update s.heap.objs.size (mapSeq (·++vs.toArray))).push (seqObj "list" vs.toArray 0) }
 rw [hsz]
 have ne:∀b o,s.heap.get? b=some o->b≠s.heap.objs.size+1:=λb o e=>ne_of_lt (lt_succ_of_lt (lt_size e))
 refine wpAny_bind (wpAny_holding (wpAny_call_entry slot_list_sort ⟨_,hoL,rfl⟩ entry_list_sort (zsR (κ:=κ) O (s:={ s with heap:=((s.heap.push (seqObj "list" #[] 0)).update s.heap.objs.size (mapSeq (·++vs.toArray))).push (seqObj "list" vs.toArray 0) }) hoL h64 (λh' Q k n2 q=>?_) (λh' i j C k hi hj q=>?_) λp a1 a2=>⟨_,rfl,wpAny_pure ⟨_,rfl,h p a1 a2⟩⟩) (args_list_sort _)))
 ·exact wpAny_mono (hk h' Q (λb o e=>k b o (ne b o e) (keep b o e)) n2 q) (λ_ _ z=>z) λ_ _ z=>z
 ·exact hl h' i j C (λb o e=>k b o (ne b o e) (keep b o e)) hi hj q
end
def ltP(p q:Int×Int):Bool:=decide (p.1<q.1)||(decide (p.1=q.1)&&decide (p.2<q.2))
theorem ze6{p q:Int×Int}:ltP p q=false↔q.1<p.1\/(p.1=q.1/\q.2<=p.2):=by
 unfold ltP
 simp only [Bool.or_eq_false_iff,Bool.and_eq_false_iff,decide_eq_false_iff_not]
 omega
theorem zxz{p q:Int×Int}:ltP p q=true↔p.1<q.1\/(p.1=q.1/\p.2<q.2):=by
 unfold ltP
 simp only [Bool.or_eq_true,and_eq_true,decide_eq_true_eq]
theorem zpx(f:Nat->Int×Int):zaP λi j=>ltP (f i) (f j):=⟨λi j h=>by rw [zxz] at h;rw [ze6];omega,λi j k h1 h2=>by rw [ze6] at *;omega⟩
def zcb(H:Hp)(a:Addr)(p:Int×Int):Prop:=H a=some (.tup [.int p.1,.int p.2])
theorem zki{α β:Type}{R:α->β->Prop}{l:List α}{m:List β}{x:α}{y:β}(h:Paired R l m):∀{ix:List Nat},(∀i∈ix,i<l.length)->Paired R (ix.map λi=>l.getD i x) (ix.map λi=>m.getD i y)
 | [],_=>.nil
 | i::ix,hi=>by
  have h1:i<l.length:=hi i (mem_cons_self ..)
  have h2:i<m.length:=by rw [<- z5 h];exact h1
  refine .cons ?_ (zki h λj hj=>hi j (mem_cons_of_mem _ hj))
  show R (l.getD i x) (m.getD i y)
  rw [getD_eq_getElem?_getD,getD_eq_getElem?_getD,List.getElem?_eq_getElem h1,List.getElem?_eq_getElem h2]
  exact zaO h (List.getElem?_eq_getElem h1) (List.getElem?_eq_getElem h2)
theorem PM.mem{N:Nat}{p:Array Nat}(h:PM N p):∀i∈p.toList,i<N:=λi hi=>by
 have m:i∈toArray (range N):=h.perm.mem_iff.mp (by simpa using hi)
 simpa using m
theorem PM.perms{α:Type}{N:Nat}{p:Array Nat}(h:PM N p){l:List α}(hl:l.length=N)(d:α):(p.toList.map λi=>l.getD i d).Perm l:=by
 have e:p.toList.Perm (range N):=by have:=Array.perm_iff_toList_perm.mp h.perm;simpa using this
 have:=e.map λi=>l.getD i d
 rw [<- hl,zkt] at this
 exact this
theorem zoG{α:Type}{N:Nat}{p:Array Nat}(h:PM N p){l:List α}{d:α}{f:α->α->Bool}(r:Ri (λi j=>f (l.getD i d) (l.getD j d)) p N):(p.toList.map λi=>l.getD i d).Pairwise λa b=>f b a=false:=by
 rw [List.pairwise_iff_getElem]
 intro i j hi hj hij
 rw [length_map,length_toList] at hi hj
 have:=r i j (le_of_lt hij) (by rw [<- h.size];exact hj)
 simp only [zgQ] at this
 simp only [List.getElem_map,Array.getElem_toList]
 rw [Array.getElem?_eq_getElem hi,Array.getElem?_eq_getElem hj] at this
 exact this
def zmg:List V->Hp->VK->Prop:=λxs H Q=>uR1 xs λl=>∃(as:List Addr)(ps:List (Int×Int)),H l=some (.lst (as.map V.ref))/\Paired (zcb H) as ps/\as.length<64 /\
 ∀D as' ps' H2,New H D (.lst (as'.map V.ref)) H2->D≠sysModules->Paired (zcb H) as' ps'->ps'.Perm ps->ps'.Pairwise (λa b=>ltP b a=false)->Q (.ref D) H2
theorem zyY{l:Addr}{H:Hp}{Q:VK}:zmg [.ref l] H Q = ∃(as:List Addr)(ps:List (Int×Int)),H l=some (.lst (as.map V.ref))/\Paired (zcb H) as ps/\as.length<64 /\
 ∀D as' ps' H2,New H D (.lst (as'.map V.ref)) H2->D≠sysModules->Paired (zcb H) as' ps'->ps'.Perm ps->ps'.Pairwise (λa b=>ltP b a=false)->Q (.ref D) H2:=zb2
section
variable {X:Cx}
theorem zjN{Ga:List (Addr×Obj)}{σ:St}{H:Hp}{s:Shared}{a:Addr}{p:Int×Int}(I:Inv X Ga σ H s)(e:zcb H a p):∃o n t u,s.heap.get? a=some o/\o.cls = .type "tuple"/\o.data = .seq #[.int p.1 t,.int p.2 u] n:=by
 obtain ⟨_,its,rv,ob,g1,g2,n,g3⟩:=I.hok a _ e
 cases rv with
 | cons ra r1 =>
 cases r1 with
 | cons rb r2 =>
 cases r2
 obtain ⟨t,rfl⟩:=ra
 obtain ⟨u,rfl⟩:=rb
 exact ⟨ob,n,t,u,g1,g2,g3⟩
theorem zxB{Ga:List (Addr×Obj)}{σ:St}{H:Hp}{s:Shared}{h':Heap}(I:Inv X Ga σ H s)(k:∀b o,s.heap.get? b=some o->h'.get? b=some o){as:List Addr}{ps:List (Int×Int)}(h:Paired (zcb H) as ps):∃fs,KatTups h' (as.map Value.ref) fs/\fs.length=as.length/\∀v∈fs,∃n t,v=Value.int n t:=by
 induction h with
 | nil=>exact ⟨[],.nil,rfl,by simp⟩
 | cons r _ ih =>
  obtain ⟨fs,h1,h2,h3⟩:=ih
  obtain ⟨o,n,t,u,g1,g2,g3⟩:=zjN I r
  refine ⟨.int _ t::fs,KatTups.cons (k _ _ g1) g2 g3 rfl h1,by simp [h2],λv hv=>?_⟩
  rcases mem_cons.mp hv with rfl|hv
  ·exact ⟨_,_,rfl⟩
  ·exact h3 v hv
theorem zkI:zK X (.builtin "sorted") zmg:=by
 intro Ga s σ H xs us Q I r h
 obtain ⟨l,rfl,as,ps,hl,hp,h64,q⟩:=h
 obtain ⟨u,rfl,ru⟩:=za6 r
 cases ru
 obtain ⟨its,rv,⟨o,n,e1,e2,e3,e4⟩,hz⟩:=I.list (SqL.of hl)
 have hits:=zj1 rv
 subst hits
 have lp:=z5 hp
 refine zvg (κ:=tuples' true) (zpx λi=>ps.getD i (0,0)) ⟨o,e1,e2,n,e4⟩ (by rw [length_map];exact h64) (λh' Q' k n2 q'=>?_) (λh' i j C k hi hj hC=>?_) λp pm ri=>?_
 ·obtain ⟨fs,t1,t2,t3⟩:=zxB I k hp
  refine kat_kind (T:=.type "int") t1 (by rw [t2];rw [length_map] at n2;omega) (λv hv=>?_) (by decide) (by rw [show (type "int" != type "tuple")=true by decide];exact q')
  obtain ⟨n,t,rfl⟩:=t3 v hv
  exact .now
 ·rw [length_map] at hi hj
  have get:∀i,i<as.length->∃a t u,(as.map Value.ref).getD i Value.none = .ref a/\∃o n,h'.get? a=some o/\o.data = .seq #[.int (ps.getD i (0,0)).1 t,.int (ps.getD i (0,0)).2 u] n:=λi hi=>by
   have hi2:i<ps.length:=by omega
   obtain ⟨o,n,t,u,g1,_,g3⟩:=zjN I (zaO hp (List.getElem?_eq_getElem hi) (List.getElem?_eq_getElem hi2))
   refine ⟨as[i],t,u,by rw [getD_eq_getElem?_getD,getElem?_map,List.getElem?_eq_getElem hi];rfl,o,n,k _ _ g1,?_⟩
   rw [getD_eq_getElem?_getD,List.getElem?_eq_getElem hi2];exact g3
  obtain ⟨a,t,u,ea,oa,na,ga,da⟩:=get i hi
  obtain ⟨b,t',u',eb,ob,nb,gb,db⟩:=get j hj
  unfold kas_ask
  rw [ea,eb]
  generalize ps.getD i (0,0)=x at *
  generalize ps.getD j (0,0)=y at *
  refine kat_lt ga da gb db (kat_cons (wpAny_eqBool_int ?_))
  by_cases z:x.1=y.1
  ·rw [show (x.1==y.1)=true by simpa using z]
   refine kat_yes (kat_cons (wpAny_eqBool_int ?_))
   by_cases z2:x.2=y.2
   ·rw [show (x.2==y.2)=true by simpa using z2]
    refine kat_yes (kat_nil ?_)
    have e:ltP x y=false:=by rw [ze6];omega
    rw [e] at hC
    exact hC
   ·rw [show (x.2==y.2)=false by simpa using z2]
    refine kat_no (kat_one _ _ (PyProof.Rows.lt_int ?_))
    have e:ltP x y=decide (x.2<y.2):=by unfold ltP;rw [z];simp
    rw [e] at hC
    exact hC
  ·rw [show (x.1==y.1)=false by simpa using z]
   refine kat_no (oneLt_int ?_)
   have e:ltP x y=decide (x.1<y.1):=by unfold ltP;simp [z]
   rw [e] at hC
   exact hC
 ·rw [length_map] at pm ri
  have hm:=pm.mem
  have eo:(p.toList.map λi=>(as.map Value.ref).getD i Value.none)=(p.toList.map λi=>as.getD i 0).map Value.ref:=by
   rw [map_map]
   refine map_congr_left λi hi=>?_
   show (as.map Value.ref).getD i Value.none=Value.ref (as.getD i 0)
   have:=hm i hi
   rw [getD_eq_getElem?_getD,getD_eq_getElem?_getD,getElem?_map,List.getElem?_eq_getElem this];rfl
  obtain ⟨e,he⟩:=sortedAll_at s.heap (as.map Value.ref) (toArray (p.toList.map λi=>(as.map Value.ref).getD i Value.none))
  have lz:(p.toList.map λi=>as.getD i 0).length=as.length:=by rw [length_map,length_toList,pm.size]
  refine ⟨.ref (s.heap.objs.size+1),upd H (s.heap.objs.size+1) (.lst ((p.toList.map λi=>as.getD i 0).map V.ref)),I.laid (t':=s.toks) (λb o e=>sortedAll_old e) (le_succ _) ⟨by rw [length_map,lz,sizeLine_eq];omega,(p.toList.map λi=>as.getD i 0).map Value.ref,e,zlh _,by rw [<- eo];exact he⟩,rfl,?_⟩
  exact q _ (p.toList.map λi=>as.getD i 0) (p.toList.map λi=>ps.getD i (0,0)) _ (.mk' (I.hok.fresh (le_succ _))) (ne_of_gt (lt_succ_of_lt I.big)) (zki hp hm) (pm.perms lp.symm (0,0)) (zoG pm ri)
def ik(kvs:List (Int×V)):List (Key×V):=kvs.map λp=>(.inl p.1,p.2)
def zk8:List V->Hp->VK->Prop:=λxs H Q=>uR1 xs λa=>∃kvs:List (Int×V),Rd H a (.dK (ik kvs))/\kvs.length<64/\∀p (ns:List Int) H2,New H p (.lst (ns.map V.int)) H2->ns.Perm (kvs.map (·.1))->ns.Pairwise (·<=·)->Q (.ref p) H2
theorem zmU{a:Addr}{H:Hp}{Q:VK}:zk8 [.ref a] H Q = ∃kvs:List (Int×V),Rd H a (.dK (ik kvs))/\kvs.length<64/\∀p (ns:List Int) H2,New H p (.lst (ns.map V.int)) H2->ns.Perm (kvs.map (·.1))->ns.Pairwise (·<=·)->Q (.ref p) H2:=zb2
theorem zl2:∀{vs:List Value}{ns:List Int},vs.length=ns.length->(∀(j:Nat)(v:Value),vs[j]?=some v->∃t,v=Value.int (ns.getD j 0) t)->IntsAre vs ns
 | [],[],_,_=>.nil
 | [],_::_,h,_=>absurd h (by simp)
 | _::_,[],h,_=>absurd h (by simp)
 | v::vs,x::ns,h,f=>by
  obtain ⟨t,e⟩:=f 0 v rfl
  have e':v=Value.int x t:=e
  rw [e']
  exact .cons x t (zl2 (by simpa using h) λj u hu=>f (j+1) u hu)
theorem zjY(hc:X.calm=true):zK X (.builtin "sorted") zk8:=by
 intro Ga s σ H xs us Q I r h
 obtain ⟨a,rfl,kvs,hq,h64,q⟩:=h
 obtain ⟨u,rfl,ru⟩:=za6 r
 cases ru
 obtain ⟨z,hd,vs,rel,dd⟩:=zbJ I.hok hq
 obtain ⟨ep,hat⟩:=dd.dictAt
 have hlen:vs.length=kvs.length:=by rw [<- rel.length];simp [ik]
 refine call_function_entry kind_sorted plain_sorted entry_sorted (args_sorted1 _) ?_
 unfold Builtin.«sorted»
 refine wpAny_bind (m:=checkCount "sorted" 1 1 _) (wpAny_pure (wpAny_bind (kdu_collect (A:=X.A.in1) (kdl_dict (knd:=zaf X.prog X.w) (kvs:=vs) (ep:=ep) hd) (I.ok.hd hc) hat (by rw [hlen,sizeLine_eq];omega) λh' tk acc hk hacc=>?_)))
 have hl:acc.toList.length=kvs.length:=by rw [length_toList,<- hlen];exact hacc.1
 have hS:IntsAre acc.toList (kvs.map (·.1)):=zl2 (by rw [hl,length_map]) λj v hv=>by
  obtain ⟨k,x,hx,hk⟩:=hacc.2 j v (by rw [<- getElem?_toList];exact hv)
  have hj:j<vs.length:=(List.getElem?_eq_some_iff.mp hx).1
  have hj':j<kvs.length:=by omega
  have e2:(ik kvs)[j]?=some (.inl kvs[j].1,kvs[j].2):=by simp [ik,hj']
  obtain ⟨u',hu',_⟩:=rel.at e2
  rw [hx] at hu'
  cases hu'
  rcases zbq (show zb1 (Sum.inl kvs[j].1) v=true from hk) with ⟨i,t,e1,e2⟩|⟨y,t,e1,e2⟩
  ·cases e1
   exact ⟨t,by rw [e2,getD_eq_getElem?_getD,getElem?_map,List.getElem?_eq_getElem hj'];rfl⟩
  ·cases e1
 have I1:Inv X Ga σ H { s with heap:=h',toks:=tk }:=I.kept hk
 refine wpAny_bind (wpAny_newList ?_ (by rw [hl,sizeLine_eq];omega))
 have hoL:(h'.push (seqObj "list" acc.toList.toArray 0)).get? h'.objs.size=some (seqObj "list" acc.toList.toArray 0):=get?_push_size _ rfl
 refine wpAny_bind (wpAny_holding (wpAny_call_entry slot_list_sort ⟨_,hoL,rfl⟩ entry_list_sort (list_sort_tree hoL hS (by rw [hl];exact h64) λout ns' b1 b2 b3=>⟨_,rfl,?_⟩) (args_list_sort _)))
 obtain ⟨c,hcz⟩:=sortedHeap_at (vs:=acc.toList) (out:=out) hoL
 refine wpAny_pure ⟨_,rfl,.ref h'.objs.size,upd H h'.objs.size (.lst (ns'.map V.int)),I1.laid (a:=h'.objs.size) (t':=tk) (λb o e=>?_) (le_refl _) ⟨?_,out.toList,c,zgA b1,by rw [Array.toArray_toList];exact hcz⟩,rfl,q _ ns' _ (.mk' (I1.hok.fresh (le_refl _))) b2 b3⟩
 ·have hb:b<h'.objs.size:=lt_size e
  rw [sortedHeap_old (ne_of_lt hb) (by rw [size_push'];exact lt_succ_of_lt hb)]
  exact get?_push_of_some _ e
 ·have:=b2.length_eq
  rw [length_map,this,length_map,sizeLine_eq]
  omega
end
theorem zuS{c:Bool}{X:Cx}{kx vx tg iter:Expr}{ifs:List Expr}{sc:Scope}{pos:Pos}{N':List Str}{ix:List (Option Nat)}{wi:TI}{g:TG}{tt:TT}{tk tv:TE}(hc:c=true->X.calm=true)(L:zah X sc N' ix)(hi:W (PIc c X tg iter wi))(hg:∀Ga C fp s H,W (PG (zz X sc N' Ga C fp s H) tg g))(ht:∀Ga C fp s H,W (PTs (zz X sc N' Ga C fp s H) ifs tt))(hk:∀Ga C fp s H,W (PE (zz X sc N' Ga C fp s H) kx tk))(hv:∀Ga C fp s H,W (PE (zz X sc N' Ga C fp s H) vx tv))(hs:∀x,foldedSetIterable iter X.env x=pure x:=by intro _;rfl):W (PE X (.DictComp kx vx [⟨tg,iter,ifs,0⟩] sc pos) (tDC ix wi g tt tk tv)):=⟨zpw hc L hi.h (λa b c d e=>(hg a b c d e).h) (λa b c d e=>(ht a b c d e).h) (λa b c d e=>(hk a b c d e).h) (λa b c d e=>(hv a b c d e).h) hs⟩
theorem zpX{a:Addr}{i:Int}{H:Hp}{Q:VK}:zfp (.ref a) (.int i) H Q = ∃kvs,Rd H a (.dK kvs)/\∃v,zN kvs (.inl i)=some v/\Q v H:=by
 apply propext;constructor
 ·rintro ⟨a',k,kvs,v,e1,e2,h1,h2,q⟩
  cases e1
  cases k with
  | inl j=>cases e2;exact ⟨kvs,h1,v,h2,q⟩
  | inr x=>cases e2
 ·rintro ⟨kvs,h1,v,h2,q⟩
  exact ⟨a,.inl i,kvs,v,rfl,rfl,h1,h2,q⟩
section
variable {K:PySem.W.Frag}{g:TG}{tt:TT}{te tk tv:TE}{σ:St}{H:Hp}{wi:TI}{ix:List (Option Nat)}{Q:VK}
def zfc(J:It)(g:TG)(tt:TT)(tk tv:TE)(τ:St)(H:Hp)(Q:VK):Prop:=∃W:Nat->Nat->St->List (Key×V)->Hp->Prop,(∃m,W 0 m τ [] H)/\∀i m τ ys H2,W i m τ ys H2->ys.length<sizeLine /\
 ((J.stop i H2 ∧ ∀ D, H2 D = none → D ≠ sysModules → Q (.ref D) (upd H2 D (.dK ys))) ∨
  (J.go i H2 ∧ ∀ x H3, J.yld i H2 x H3 → g x τ H3 fun τ1 H4 => tt τ1 H4 fun ok H5 => if ok = true then tk τ1 H5 fun y H6 => tv τ1 H6 fun z H7 => uK y fun k => ∃ m', m' < m ∧ W (i + 1) m' τ1 (zai ys k z) H7 else ∃ m', m' < m ∧ W (i + 1) m' τ1 ys H5))
theorem zoQ:tDC ix wi g tt tk tv σ H Q=wi σ H λJ H1=>zfc J g tt tk tv (zaN ix σ) H1 Q:=rfl
def zhS(N:St->List (Key×V)->Hp->Prop)(ys:List (Key×V))(τ1:St)(tk tv:TE)(ok:Bool)(H5:Hp):Prop:=if ok=true then tk τ1 H5 λy H6=>tv τ1 H6 λz H7=>uK y λk=>N τ1 (zai ys k z) H7 else N τ1 ys H5
theorem zqF{N:St->List (Key×V)->Hp->Prop}{ys:List (Key×V)}{τ:St}:zhS N ys τ tk tv true H=tk τ H λy H6=>tv τ H6 λz H7=>uK y λk=>N τ (zai ys k z) H7:=rfl
theorem zmI{N:St->List (Key×V)->Hp->Prop}{ys:List (Key×V)}{τ:St}:zhS N ys τ tk tv false H=N τ ys H:=rfl
theorem zfc.lst{a:Addr}{xs:List V}{τ:St}(Pv:Nat->St->List (Key×V)->Hp->Prop)(hz:∀i τ ys H,Pv i τ ys H->ys.length<sizeLine)(ha:∀i τ ys H,Pv i τ ys H->SqL K H a xs)(h0:Pv 0 τ [] H)
  (hs:∀(N:St->List (Key×V)->Hp->Prop) i x τ ys H,xs[i]?=some x->Pv i τ ys H->(∀τ ys H,Pv (i+1) τ ys H->N τ ys H)->g x τ H λτ1 H4=>tt τ1 H4 λok H5=>zhS N ys τ1 tk tv ok H5) (hd:∀τ ys H,Pv xs.length τ ys H->∀D H',New H D (.dK ys) H'->Q (.ref D) H'):zfc (Itl K a) g tt tk tv τ H Q:=by
 refine ⟨λi m τ ys H=>m=xs.length-i/\i<=xs.length/\Pv i τ ys H,⟨xs.length,by simp,zero_le _,h0⟩,?_⟩
 rintro i m τ ys H2 ⟨rfl,hi,p⟩
 refine ⟨hz i τ ys H2 p,?_⟩
 have q:=ha i τ ys H2 p
 by_cases hlt:i<xs.length
 ·refine .inr ⟨⟨xs,xs[i],q,by simp [hlt]⟩,λx H' y=>?_⟩
  obtain ⟨e,y⟩:=y
  subst e
  exact hs (λτ1 ys H=>∃m',m'<xs.length-i/\m'=xs.length-(i+1)/\i+1<=xs.length/\Pv (i+1) τ1 ys H) i x τ ys _ (y xs q) p λτ1 zs H q=>⟨xs.length-(i+1),by omega,rfl,hlt,q⟩
 ·have e:i=xs.length:=by omega
  subst e
  exact .inl ⟨⟨xs,q,le_refl _⟩,λD hD _=>hd τ ys H2 p D _ (.mk' hD)⟩
theorem zV.lstS{a:Addr}{xs:List V}{τ:St}(Pv:Nat->St->List V->Hp->Prop)(hz:∀i τ ys H,Pv i τ ys H->ys.length<sizeLine)(ha:∀i τ ys H,Pv i τ ys H->SqL K H a xs)(h0:Pv 0 τ [] H)
  (hs:∀(N:St->List V->Hp->Prop) i x τ ys H,xs[i]?=some x->Pv i τ ys H->(∀τ ys H,Pv (i+1) τ ys H->N τ ys H)->g x τ H λτ1 H4=>tt τ1 H4 λok H5=>zbE N ys τ1 te ok H5) (hd:∀τ ys H,Pv xs.length τ ys H->∀D H',New H D (.lst ys) H'->D≠sysModules->Q (.ref D) H'):zV (Itl K a) g tt te τ H Q:=by
 refine ⟨λi m τ ys H=>m=xs.length-i/\i<=xs.length/\Pv i τ ys H,⟨xs.length,by simp,zero_le _,h0⟩,?_⟩
 rintro i m τ ys H2 ⟨rfl,hi,p⟩
 refine ⟨hz i τ ys H2 p,?_⟩
 have q:=ha i τ ys H2 p
 by_cases hlt:i<xs.length
 ·refine .inr ⟨⟨xs,xs[i],q,by simp [hlt]⟩,λx H' y=>?_⟩
  obtain ⟨e,y⟩:=y
  subst e
  exact hs (λτ1 ys H=>∃m',m'<xs.length-i/\m'=xs.length-(i+1)/\i+1<=xs.length/\Pv (i+1) τ1 ys H) i x τ ys _ (y xs q) p λτ1 zs H q=>⟨xs.length-(i+1),by omega,rfl,hlt,q⟩
 ·have e:i=xs.length:=by omega
  subst e
  exact .inl ⟨⟨xs,q,le_refl _⟩,λD hD n=>hd τ ys H2 p D _ (.mk' hD) n⟩
end
end L2
namespace K51
open PySem PySem.Spec PyProof.Rows L2
open PySem.W (Frag OpenLaw WalkO codeHd_of_K findIn mroIn tabIn)
local macro_rules | `(tactic| simp_all only [$ls,*])=>`(tactic| simp only [zeP,tC,zhI,tOr,zik,tIf,zgb,zg4,zsn,zss,zhw,zhH,zrq,zhj,zbR,zq9,zmL,zcX,zhm,ipI,tOp,tUn,za0,zeZ,zhu,zgy,zgG,zeu,zeB,zvO,zgk,tCB,zfd,zdg,zxT,zdm,zlD,zpW,zcM,zgo,zfs,zmx,zwZ,zmb,znU,zke,zhs,zyM,zem,zpf,zwS,zy2,ziH,zof,ztB,zyo,zxo,zuF,zkN,zt8,zrB,zun,zqj,zqw,zmS,zhF,zsG,zw1,zse,zop,zia,znP,zpE,ztF,zyb,zxJ,zrn,zxX,zyP,zx6,zwf,zaN,bind_some,Option.bind_none,Option.join_some,zf8,and_assoc,exists_and_left,exists_and_right,exists_eq_left',exists_eq_left,exists_eq,exists_eq',exists_eq_right,exists_eq_right',and_true,true_and,and_false,false_and,or_false,false_or,exists_false,exists_const,Option.some.injEq,V.int.injEq,V.str.injEq,V.ref.injEq,V.bl.injEq,V.ty.injEq,HO.lst.injEq,HO.tup.injEq,HO.ins.injEq,List.cons.injEq,reduceCtorEq,reduceIte,false_eq_true,List.getElem?_cons_zero,List.getElem?_cons_succ,List.set_cons_zero,List.set_cons_succ,nil_append,List.cons_append,append_nil,length_cons,length_nil,L2.start,map_cons,map_nil,replicate,Nat.reduceSub,Nat.reduceAdd,Bool.not_true,Bool.not_false,zgi,zuC,zu7,zyk,zr7,zi8,zqf,zu6,zl1,zg2,tSl,zgF,zog,zlr,zko,zhW,zvp,zig,zix,zfR,zmc,zwn,zoj,zb2,zv1,zve,zv4,zp8,ztv,zqZ,zpM,zy4,zte,zw4,zp6,zoZ,zpZ,zlJ,zmm,zwB,zrR,zqG,zv2,zxg,zpg,zgR,zhU,zrX,zvK,ziL,zm9,zlC,zlU,znJ,zxY,zxi,zuE,zol,zyE,zoq,zyF,zub,zvf,zxK,znr,zts,zu4,zx5,zs5,znk,zmT,zyv,zr1,zuK,zp1,zpj,zk4,zwF,zox,zsu,zoJ,zuZ,zxx,zpr,zrj,znN,zoP,zv6,zyO,zuJ,znH,zrV,zvI,zwL,ztH,ztO,zp0,zwz,zsL,zyR,ziM,zwl,zt5,zm8,zxs,zkS,zyz,zvE,zpi,zv9,zli,zwU,zyY,zmU,zpX,zoQ,zqF,zmI,$ls,*])
def top(i:Nat):Stmt:=PySem.Challenge.pw_cleanrows_k51_living_in_stretches.main.body.getD i (.Pass ⟨0,0,0,0⟩)
structure zh where
 CleanError:Addr
 NoDisk:Addr
 Full:Addr
 Stopped:Addr
 NoFile:Addr
 NoPlace:Addr
 HeldAlready:Addr
 NotHeld:Addr
 Disk:Addr
 Files:Addr
 State:Addr
 t__law_rows:Addr
structure Txt(K:Frag)(mg:Str->Option Value)(A:zh):Prop where
 n_abs:mg "abs"=none
 n_bool:mg "bool"=none
 n_dict:mg "dict"=none
 n_divmod:mg "divmod"=none
 n_enumerate:mg "enumerate"=none
 n_int:mg "int"=none
 n_isinstance:mg "isinstance"=none
 n_len:mg "len"=none
 n_list:mg "list"=none
 n_max:mg "max"=none
 n_min:mg "min"=none
 n_ord:mg "ord"=none
 n_range:mg "range"=none
 n_repr:mg "repr"=none
 n_sorted:mg "sorted"=none
 n_str:mg "str"=none
 c_MODULUS:∃u,mg "MODULUS"=some u/\zm (.int 65521) u
 c_LEAST_STRETCHES:∃u,mg "LEAST_STRETCHES"=some u/\zm (.int 3) u
 c_MOST_STRETCHES:∃u,mg "MOST_STRETCHES"=some u/\zm (.int 16) u
 c_LEAST_PLACES:∃u,mg "LEAST_PLACES"=some u/\zm (.int 2) u
 c_MOST_PLACES:∃u,mg "MOST_PLACES"=some u/\zm (.int 32) u
 mg_CleanError:mg "CleanError"=some (.ref A.CleanError)
 mg_NoDisk:mg "NoDisk"=some (.ref A.NoDisk)
 mg_Full:mg "Full"=some (.ref A.Full)
 mg_Stopped:mg "Stopped"=some (.ref A.Stopped)
 mg_NoFile:mg "NoFile"=some (.ref A.NoFile)
 mg_NoPlace:mg "NoPlace"=some (.ref A.NoPlace)
 mg_HeldAlready:mg "HeldAlready"=some (.ref A.HeldAlready)
 mg_NotHeld:mg "NotHeld"=some (.ref A.NotHeld)
 mg_Disk:mg "Disk"=some (.ref A.Disk)
 mg_Files:mg "Files"=some (.ref A.Files)
 mg_State:mg "State"=some (.ref A.State)
 ek_NoDisk:zaY K A.NoDisk
 ek_Full:zaY K A.Full
 ek_Stopped:zaY K A.Stopped
 ms_Stopped:mroIn K A.Stopped (.ref A.Stopped)=some true
 cl_Disk:Cls K A.Disk
 na_Disk_at_sides:zaq K A.Disk "at_sides"
 na_Disk_counted:zaq K A.Disk "counted"
 na_Disk_has_stopped:zaq K A.Disk "has_stopped"
 na_Disk_left:zaq K A.Disk "left"
 na_Disk_width:zaq K A.Disk "width"
 na_Disk_written:zaq K A.Disk "written"
 cl_Files:Cls K A.Files
 na_Files_births:zaq K A.Files "births"
 na_Files_kept:zaq K A.Files "kept"
 cl_State:Cls K A.State
 na_State_next_mark:zaq K A.State "next_mark"
 na_State_next_row:zaq K A.State "next_row"
 na_State_own_files:zaq K A.State "own_files"
 na_State_spot_of:zaq K A.State "spot_of"
theorem zwx:(("at_sides":Str) == "counted")=false:=by decide +kernel
theorem zsB:(("at_sides":Str) == "has_stopped")=false:=by decide +kernel
theorem ztV:(("at_sides":Str) == "left")=false:=by decide +kernel
theorem zpQ:(("at_sides":Str) == "width")=false:=by decide +kernel
theorem zn6:(("at_sides":Str) == "written")=false:=by decide +kernel
theorem zsS:(("counted":Str) == "at_sides")=false:=by decide +kernel
theorem zxQ:(("counted":Str) == "has_stopped")=false:=by decide +kernel
theorem zt9:(("counted":Str) == "left")=false:=by decide +kernel
theorem zoz:(("counted":Str) == "width")=false:=by decide +kernel
theorem zwh:(("counted":Str) == "written")=false:=by decide +kernel
theorem zvF:(("has_stopped":Str) == "at_sides")=false:=by decide +kernel
theorem znZ:(("has_stopped":Str) == "counted")=false:=by decide +kernel
theorem zmV:(("has_stopped":Str) == "left")=false:=by decide +kernel
theorem zwY:(("has_stopped":Str) == "width")=false:=by decide +kernel
theorem zus:(("has_stopped":Str) == "written")=false:=by decide +kernel
theorem zpS:(("left":Str) == "at_sides")=false:=by decide +kernel
theorem zpB:(("left":Str) == "counted")=false:=by decide +kernel
theorem zqN:(("left":Str) == "has_stopped")=false:=by decide +kernel
theorem znF:(("left":Str) == "width")=false:=by decide +kernel
theorem zuo:(("left":Str) == "written")=false:=by decide +kernel
theorem zsH:(("width":Str) == "at_sides")=false:=by decide +kernel
theorem zrU:(("width":Str) == "counted")=false:=by decide +kernel
theorem zqA:(("width":Str) == "has_stopped")=false:=by decide +kernel
theorem zwD:(("width":Str) == "left")=false:=by decide +kernel
theorem zqM:(("width":Str) == "written")=false:=by decide +kernel
theorem zvB:(("written":Str) == "at_sides")=false:=by decide +kernel
theorem zr8:(("written":Str) == "counted")=false:=by decide +kernel
theorem zpG:(("written":Str) == "has_stopped")=false:=by decide +kernel
theorem zsh:(("written":Str) == "left")=false:=by decide +kernel
theorem zoe:(("written":Str) == "width")=false:=by decide +kernel
theorem zt0:(("stretches":Str) == "at_sides")=false:=by decide +kernel
theorem zvQ:(("stretches":Str) == "counted")=false:=by decide +kernel
theorem zrk:(("stretches":Str) == "has_stopped")=false:=by decide +kernel
theorem ztY:(("stretches":Str) == "left")=false:=by decide +kernel
theorem ztM:(("stretches":Str) == "width")=false:=by decide +kernel
theorem zn9:(("stretches":Str) == "written")=false:=by decide +kernel
theorem zpz:(("places":Str) == "at_sides")=false:=by decide +kernel
theorem zm1:(("places":Str) == "counted")=false:=by decide +kernel
theorem zud:(("places":Str) == "has_stopped")=false:=by decide +kernel
theorem znw:(("places":Str) == "left")=false:=by decide +kernel
theorem zs4:(("places":Str) == "width")=false:=by decide +kernel
theorem zpy:(("places":Str) == "written")=false:=by decide +kernel
theorem zu1:(("next_place":Str) == "at_sides")=false:=by decide +kernel
theorem zql:(("next_place":Str) == "counted")=false:=by decide +kernel
theorem zoN:(("next_place":Str) == "has_stopped")=false:=by decide +kernel
theorem zsU:(("next_place":Str) == "left")=false:=by decide +kernel
theorem zuc:(("next_place":Str) == "width")=false:=by decide +kernel
theorem zur:(("next_place":Str) == "written")=false:=by decide +kernel
theorem zm2:(("write":Str) == "at_sides")=false:=by decide +kernel
theorem zyZ:(("write":Str) == "counted")=false:=by decide +kernel
theorem zvt:(("write":Str) == "has_stopped")=false:=by decide +kernel
theorem zqE:(("write":Str) == "left")=false:=by decide +kernel
theorem zyj:(("write":Str) == "width")=false:=by decide +kernel
theorem zrz:(("write":Str) == "written")=false:=by decide +kernel
theorem zt7:(("put_side":Str) == "at_sides")=false:=by decide +kernel
theorem zw2:(("put_side":Str) == "counted")=false:=by decide +kernel
theorem zw5:(("put_side":Str) == "has_stopped")=false:=by decide +kernel
theorem zrO:(("put_side":Str) == "left")=false:=by decide +kernel
theorem zwJ:(("put_side":Str) == "width")=false:=by decide +kernel
theorem zp7:(("put_side":Str) == "written")=false:=by decide +kernel
theorem zpo:(("empty":Str) == "at_sides")=false:=by decide +kernel
theorem zpt:(("empty":Str) == "counted")=false:=by decide +kernel
theorem zr9:(("empty":Str) == "has_stopped")=false:=by decide +kernel
theorem zmR:(("empty":Str) == "left")=false:=by decide +kernel
theorem zph:(("empty":Str) == "width")=false:=by decide +kernel
theorem zom:(("empty":Str) == "written")=false:=by decide +kernel
theorem zpu:(("stop":Str) == "at_sides")=false:=by decide +kernel
theorem znl:(("stop":Str) == "counted")=false:=by decide +kernel
theorem zqu:(("stop":Str) == "has_stopped")=false:=by decide +kernel
theorem zvy:(("stop":Str) == "left")=false:=by decide +kernel
theorem zti:(("stop":Str) == "width")=false:=by decide +kernel
theorem zq3:(("stop":Str) == "written")=false:=by decide +kernel
theorem zne:(("copied":Str) == "at_sides")=false:=by decide +kernel
theorem zxw:(("copied":Str) == "counted")=false:=by decide +kernel
theorem zys:(("copied":Str) == "has_stopped")=false:=by decide +kernel
theorem zrI:(("copied":Str) == "left")=false:=by decide +kernel
theorem zno:(("copied":Str) == "width")=false:=by decide +kernel
theorem znE:(("copied":Str) == "written")=false:=by decide +kernel
theorem zvm:(("refuse_if_stopped":Str) == "at_sides")=false:=by decide +kernel
theorem zyw:(("refuse_if_stopped":Str) == "counted")=false:=by decide +kernel
theorem zwN:(("refuse_if_stopped":Str) == "has_stopped")=false:=by decide +kernel
theorem zqa:(("refuse_if_stopped":Str) == "left")=false:=by decide +kernel
theorem zrD:(("refuse_if_stopped":Str) == "width")=false:=by decide +kernel
theorem zo0:(("refuse_if_stopped":Str) == "written")=false:=by decide +kernel
theorem znf:(("spend":Str) == "at_sides")=false:=by decide +kernel
theorem zra:(("spend":Str) == "counted")=false:=by decide +kernel
theorem zqp:(("spend":Str) == "has_stopped")=false:=by decide +kernel
theorem zv5:(("spend":Str) == "left")=false:=by decide +kernel
theorem zsO:(("spend":Str) == "width")=false:=by decide +kernel
theorem zyc:(("spend":Str) == "written")=false:=by decide +kernel
theorem zsp:(("first_signs":Str) == "at_sides")=false:=by decide +kernel
theorem zuq:(("first_signs":Str) == "counted")=false:=by decide +kernel
theorem zxb:(("first_signs":Str) == "has_stopped")=false:=by decide +kernel
theorem zoF:(("first_signs":Str) == "left")=false:=by decide +kernel
theorem zt3:(("first_signs":Str) == "width")=false:=by decide +kernel
theorem zsV:(("first_signs":Str) == "written")=false:=by decide +kernel
theorem zjv:(("at_sides":Str)="counted")=False:=by simpa using zwx
theorem zjS:(("at_sides":Str)="has_stopped")=False:=by simpa using zsB
theorem zlb:(("at_sides":Str)="left")=False:=by simpa using ztV
theorem zjW:(("counted":Str)="has_stopped")=False:=by simpa using zxQ
theorem zkR:(("counted":Str)="left")=False:=by simpa using zt9
theorem zjj:(("left":Str)="has_stopped")=False:=by simpa using zqN
theorem zln:(("width":Str)="at_sides")=False:=by simpa using zsH
theorem zly:(("width":Str)="counted")=False:=by simpa using zrU
theorem zlI:(("width":Str)="has_stopped")=False:=by simpa using zqA
theorem zjz:(("width":Str)="left")=False:=by simpa using zwD
theorem zi3:(("width":Str)="written")=False:=by simpa using zqM
theorem zjE:(("written":Str)="at_sides")=False:=by simpa using zvB
theorem zle:(("written":Str)="counted")=False:=by simpa using zr8
theorem zlO:(("written":Str)="has_stopped")=False:=by simpa using zpG
theorem zjQ:(("written":Str)="left")=False:=by simpa using zsh
theorem zow:(("births":Str) == "kept")=false:=by decide +kernel
theorem zvS:(("kept":Str) == "births")=false:=by decide +kernel
theorem zrJ:(("names":Str) == "births")=false:=by decide +kernel
theorem zqv:(("names":Str) == "kept")=false:=by decide +kernel
theorem zwc:(("many":Str) == "births")=false:=by decide +kernel
theorem ztR:(("many":Str) == "kept")=false:=by decide +kernel
theorem zsx:(("put":Str) == "births")=false:=by decide +kernel
theorem zpI:(("put":Str) == "kept")=false:=by decide +kernel
theorem zrc:(("cut":Str) == "births")=false:=by decide +kernel
theorem zqV:(("cut":Str) == "kept")=false:=by decide +kernel
theorem zmE:(("hold":Str) == "births")=false:=by decide +kernel
theorem zmY:(("hold":Str) == "kept")=false:=by decide +kernel
theorem zuX:(("bare":Str) == "births")=false:=by decide +kernel
theorem zqW:(("bare":Str) == "kept")=false:=by decide +kernel
theorem znQ:(("keep":Str) == "births")=false:=by decide +kernel
theorem zuv:(("keep":Str) == "kept")=false:=by decide +kernel
theorem zx2:(("refuse_if_none":Str) == "births")=false:=by decide +kernel
theorem zvL:(("refuse_if_none":Str) == "kept")=false:=by decide +kernel
theorem zu3:(("births":Str)="kept")=False:=by simpa using zow
theorem zue:(("next_row":Str) == "next_mark")=false:=by decide +kernel
theorem zr3:(("own_files":Str) == "next_mark")=false:=by decide +kernel
theorem zoB:(("own_files":Str) == "next_row")=false:=by decide +kernel
theorem zs1:(("own_files":Str) == "spot_of")=false:=by decide +kernel
theorem zqi:(("spot_of":Str) == "next_mark")=false:=by decide +kernel
theorem zx3:(("spot_of":Str) == "next_row")=false:=by decide +kernel
theorem zqI:(("spot_of":Str) == "own_files")=false:=by decide +kernel
theorem zxu:(("spots":Str) == "next_mark")=false:=by decide +kernel
theorem zwr:(("spots":Str) == "next_row")=false:=by decide +kernel
theorem ztN:(("spots":Str) == "own_files")=false:=by decide +kernel
theorem zoX:(("spots":Str) == "spot_of")=false:=by decide +kernel
theorem zxI:(("next_row":Str)="next_mark")=False:=by simpa using zue
theorem zoW:(("own_files":Str)="next_mark")=False:=by simpa using zr3
theorem zmj:(("own_files":Str)="next_row")=False:=by simpa using zoB
theorem zgJ:(("own_files":Str)="spot_of")=False:=by simpa using zs1
theorem zot:(("spot_of":Str)="next_mark")=False:=by simpa using zqi
theorem zlL:(("spot_of":Str)="next_row")=False:=by simpa using zx3
def zby:Nat->List Nat->Nat
 | _,[]=>0
 | k,c::l=>c*k+zby (k+1) l
def zaW(z:Str):Int:=((zby 1 (sg z) % 65521:Nat):Int)
def zbl(z:Str):Str:=z++(toString (zaW z):Str)++";"
def zbx(z y:Str)(m:Int):Bool:=decide (1<=(z.length:Int))&&decide ((z.length:Int)<=m)&&(sg z).all λc=>(sg y).contains c
def FIG:Str:="0123456789"
def LET:Str:="abcdefghijklmnopqrstuvwxyz"
def zfT(z:Str):Bool:=zbx z FIG 18&&(decide (z="0") || !decide (tx ((sg z).take 1)="0"))
def zbG(z:Str):Bool:=zbx z LET 6
def zcf(z:Str):Bool:=zbx z (LET++FIG) 20
def zbC(k z:Str):Option V :=
 if k="number"/\zfT z=true then some (.int ((PySem.intText? z).getD 0))
 else if k="end"/\(z="0"\/z="1") then some (.bl (decide (z="1")))
 else if k="name"/\zbG z=true then some (.str z)
 else if k="word"/\zcf z=true then some (.str z)
 else none
def zck(z:Str):Option (List Str) :=
 if z="put" then some ["number","number","end","name","number","word"]
 else if z="cut" then some ["number","name","number"]
 else if z="hold" then some ["number","name"]
 else if z="free" then some ["number","name"]
 else if z="carry" then some ["number","number","word"]
 else none
def zbU:List Str->List Str->Option (List V)
 | k::ks,z::zs=>(zbC k z).bind λv=>(zbU ks zs).map (v::·)
 | _,_=>some []
def zbP(ws:List Str):Option (List V):=match ws with
 | []=>none
 | w::zs=>(zck w).bind λks=>if zs.length=ks.length then (zbU ks zs).map (.str w::·) else none
def zd5(z:Str):Str:=PySem.Txt.slice z none (some (PySem.Txt.rfind z (c1 32)+1))
def zf0(z:Str):Option Str:=if z=zbl (zd5 z) then some (zd5 z) else none
def zbo(z:Str):Option (List V):=(zf0 z).bind λb=>zbP (PySem.Txt.split (PySem.Txt.slice b none (some (-1))) (c1 32))
def z8:V->Str
 | .bl b=>if b then "1" else "0"
 | .int i=>toString i
 | .str z=>z
 | _=>""
inductive zbp:V->Prop
 | bl (b:Bool):zbp (.bl b)
 | int (i:Int):0<=i->i<10 ^ 18->zbp (.int i)
 | str (z:Str):asc z=true->z.length<=100->zbp (.str z)
def zR(xs:List V):List Nat:=(xs.map λv=>sg (z8 v)++[32]).flatten
def zak(xs:List V):Str:=zbl (tx (zR xs))
def zhe:Sp:=λvs H Q _=>∃z,vs=[.str z]/\asc z=true/\z.length<=100000/\∀H',zl H H'->Q (.int (zaW z)) H'
def zfE:Sp:=λvs H Q _=>∃z,vs=[.str z]/\asc z=true/\z.length<=100000/\∀H',zl H H'->Q (.str (zbl z)) H'
def ze2:Sp:=λvs H Q _=>∃v,vs=[v]/\zbp v/\Q (.str (z8 v)) H
def zhV:Sp:=λvs H Q _=>∃a xs,vs=[.ref a]/\(H a=some (.lst xs)\/H a=some (.tup xs))/\xs.length<=10/\(∀v∈xs,zbp v)/\∀H',zl H H'->Q (.str (zak xs)) H'
theorem zaD{n:Nat}(h:n<=1000000):n<=sizeLine:=le_trans h (by decide)
theorem zaG{n:Nat}(h:n<=1000000):n<sizeLine:=Nat.lt_of_le_of_lt h (by decide)
abbrev zdO:Stmt:=top 18
abbrev zcN:Stmt:=top 17
abbrev zdQ:Stmt:=top 15
abbrev zdL:Stmt:=top 16
section
variable {P:Program}{w:World}{K:Frag}{mg:Str->Option Value}{base:Heap}{A:zh}
theorem zmh:∀(k:Nat)(a b:List Nat),zby k (a++b)=zby k a+zby (k+a.length) b
 | k,[],b=>by simp [zby]
 | k,c::a,b=>by
  show c*k+zby (k+1) (a++b)=c*k+zby (k+1) a+_
  rw [zmh (k+1) a b,length_cons,show k+1+a.length=k+(a.length+1) by omega]
  omega
structure zm6(H:Hp)(z:Str)(i:Nat)(σ:L2.St)(H':Hp):Prop where
 ex:∃a b,σ=[some (V.str z),some (.int (zby 1 ((sg z).take i):Nat)),a,b]
 same:zl H H'
theorem zev:zu ["text","total","place","sign"] ["text"] (ze zdQ):=⟨rfl,rfl,rfl,f!"",rfl,f!"",f!""⟩
theorem zqX{f:Addr}{fd:FuncData}(F:Fun K "sum_of" "sum_of" zdQ f fd)(T:Txt K mg A):zo P w K mg base CX0 true 1 f fd ["text"] zhe:=by
 refine F.ok zev (λvs H Q E h=>?_) (λcdv Ar outer s H vs Q E hr h=>?_)
 ·obtain ⟨z,rfl,_⟩:=h;rfl
 ·obtain ⟨z,rfl,ha,hz,q⟩:=h
  refine ⟨_,(W.h (zg (zF (i:=1) zev.nd rfl (Or.inl rfl) zi)
   (zg (zbd PassesOwn.never (λ_=>rfl) (zs3 rfl T.n_enumerate (za 0)) (zdp (n:=2) (z6 (zI (i:=2) zev.nd rfl (Or.inl rfl)) (z6 (zI (i:=3) zev.nd rfl (Or.inl rfl)) zbk)))
   (zk (zsj (i:=1) zev.nd rfl (Or.inl rfl) (zG zd4 (zM zqo rfl T.n_ord boot_ord (zb (za 3) zc)) (za 2)) zrS)))
   (zk (zH (zG zdK (za 1) (zey rfl T.c_MODULUS))))))),?_⟩
  simp_all only []
  refine ⟨ha,zad.enumS (zm6 H z) ⟨⟨_,_,rfl⟩,zl.refl _⟩ ?_ ?_⟩
  ·rintro i c p σ H' hc ⟨⟨a,b,rfl⟩,sm⟩ hp
   have hc':(sg z)[i]?=some c:=by simpa [sg] using hc
   simp_all only []
   refine ⟨p,_,rfl,SqT.of zq,rfl,?_⟩
   simp_all only []
   refine ⟨rfl,.inl ⟨by simp;omega,?_⟩,⟨⟨some (.int ((i+1:Nat):Int)),some (.str ⟨#[c]⟩),?_⟩,?_⟩⟩
   ·have hc2:c<128:=by
     have h3:=mem_of_getElem? hc'
     rw [zaQ] at ha
     simpa using all_eq_true.mp ha c h3
    simp
    omega
   ·rw [take_add_one,hc',zmh]
    have hi:i<(sg z).length:=(List.getElem?_eq_some_iff.mp hc').1
    rw [length_take,Nat.min_eq_left (by omega)]
    simp [zby]
    rw [Int.add_comm 1 (i:Int)]
   ·exact sm.trans λb o e=>by rw [zd (zA e hp)];exact e
  ·rintro σ H' ⟨⟨a,b,rfl⟩,sm⟩
   simp_all only []
   refine ⟨by decide,?_⟩
   have e:zaW z=((zby 1 ((sg z).take z.cps.size):Nat):Int) % 65521:=by
    unfold zaW
    rw [take_of_length_le (by rw [zac];exact le_refl _)]
    omega
   rw [<- e]
   exact q H' sm
theorem zfK{n:Nat}(h:n<2 ^ 64):n.log2<1920:=by
 by_cases h0:n=0
 ·subst h0;decide
 ·exact lt_trans ((Nat.log2_lt h0).mpr h) (by decide)
theorem zb9(z:Str):0<=zaW z/\zaW z<65521:=by unfold zaW;omega
theorem zjf(m:Nat)(h:0<m):∃c r,(toDigits 10 m).map Char.toNat=c::r/\49<=c:=by
 induction m using Nat.strongRecOn with
 | _ m ih =>
  by_cases h1:m<10
  ·rw [Nat.toDigits_of_lt_base h1]
   refine ⟨_,[],rfl,?_⟩
   have:∀d:Nat,d<10->0<d->49<=(Nat.digitChar d).toNat:=by decide
   exact this m h1 h
  ·have hm:m % 10<10:=Nat.mod_lt m (by decide)
   have t:toDigits 10 (m / 10)++toDigits 10 (m % 10)=toDigits 10 (10*(m / 10)+m % 10):=Nat.toDigits_append_toDigits (by decide) (by omega) hm
   rw [Nat.div_add_mod] at t
   obtain ⟨c,r,e,hc⟩:=ih (m / 10) (by omega) (by omega)
   rw [<- t,map_append,e]
   exact ⟨c,_,rfl,hc⟩
structure zmZ(i:Int):Prop where
 dig:∀c∈sg (toString i:Str),48<=c/\c<=57
 one:1<=(sg (toString i:Str)).length
 most:(sg (toString i:Str)).length<=18
 back:PySem.intText? (toString i:Str)=some i
 head:(toString i:Str)="0"\/∃c r,sg (toString i:Str)=c::r/\49<=c
theorem zc8{i:Int}(h0:0<=i)(h1:i<10 ^ 18):zmZ i:=by
 obtain ⟨m,rfl⟩:=Int.eq_ofNat_of_zero_le h0
 have hd:∀c∈sg (toString ((m:Nat):Int):Str),48<=c/\c<=57:=by
  intro c hc
  rw [zeX] at hc
  obtain ⟨ch,hch,e⟩:=mem_map.mp hc
  have r:=Nat.isDigit_of_mem_toDigits (by decide) (by decide) hch
  rw [<- e]
  exact PyProof.Rows.digit_range r
 have hn:1<=(sg (toString ((m:Nat):Int):Str)).length:=by
  rcases Nat.eq_zero_or_pos m with h|h
  ·rw [h,zeX];decide
  ·obtain ⟨c,r,e,_⟩:=zjf m h
   rw [zeX,e];simp
 have hl:(sg (toString ((m:Nat):Int):Str)).length<=18:=by
  have e:(Nat.repr m).length<=18:=(Nat.length_repr_le_iff (by decide)).mpr (by omega)
  rw [zac]
  show (Str.ofString (toString ((m:Nat):Int))).length<=18
  rw [PySem.ofString_length]
  exact e
 refine ⟨hd,hn,hl,?_,?_⟩
 ·have e:=intText_digits (x:=(toString ((m:Nat):Int):Str)) hd (λz=>by rw [show sg (toString ((m:Nat):Int):Str)=[] from z] at hn;cases hn) (by rw [<- zac];omega)
  have e2:(toString ((m:Nat):Int):Str).cps.toList=(toDigits 10 m).map Char.toNat:=zeX m
  rw [e2,PySem.W.KIN.val_back] at e
  exact e
 ·rcases Nat.eq_zero_or_pos m with h|h
  ·left;rw [h];rfl
  ·obtain ⟨c,r,e,hc⟩:=zjf m h
   exact .inr ⟨c,r,by rw [zeX,e],hc⟩
theorem ziJ{i:Int}(h0:0<=i)(h1:i<10 ^ 18):(toString i:Str).length<=19:=by
 have e:=int_text_length_le10 (a:=i) (k:=18) (by decide) (by omega)
 show (Str.ofString (toString i)).length<=19
 rw [PySem.ofString_length]
 exact e
theorem zpR:zu ["body"] ["body"] (ze zdL):=⟨rfl,rfl,rfl,f!"",rfl,f!"",f!""⟩
theorem zpV{f:Addr}{fd:FuncData}(F:Fun K "summed" "summed" zdL f fd)(T:Txt K mg A)(Gk:GF P w K mg base true 1 "sum_of" ["text"] zhe):zo P w K mg base CX0 true 2 f fd ["body"] zfE:=by
 refine F.ok zpR (λvs H Q E h=>?_) (λcdv Ar outer s H vs Q E hr h=>?_)
 ·obtain ⟨z,rfl,_⟩:=h;rfl
 ·obtain ⟨z,rfl,ha,hz,q⟩:=h
  refine ⟨_,(W.h (zk (zH (zrK (zgh (zjT (za 0)) (zgh (zjT (zr Gk hr rfl (zb (za 0) zc))) (zgh zS ztE))))))),?_⟩
  simp_all only []
  have hs:=zb9 z
  have hn:=ziJ hs.1 (by omega)
  refine ⟨zaD (by omega),by rw [Str.empty_append];exact zaD (by omega),z,rfl,ha,hz,λH' s1=>?_⟩
  simp_all only []
  rw [Str.empty_append]
  have l1:(z++(toString (zaW z):Str)).length<=1000000:=by rw [Str.length_append];omega
  have l2:(z++(toString (zaW z):Str)++";").length<=1000000:=by
   rw [Str.length_append,Str.length_append]
   have:(";":Str).length=1:=by decide
   omega
  exact ⟨zfK (by omega),zaD l1,zaD l2,zaD l2,q H' s1⟩
theorem znc(l:List Nat):asc (tx l)=l.all (· < 128):=by rw [zaQ,zaS]
theorem zxd{z:Str}{a b:List Nat}(h:sg z=a++32::b)(hb:32∉b):zd5 z=tx (a++[32]):=by
 unfold zd5
 rw [ztC h hb]
 have e:((a.length:Int)+1)=((a.length+1:Nat):Int):=by omega
 rw [e,zho (by rw [h];simp),h]
 congr 1
 rw [show a++32::b=(a++[32])++b by simp,List.take_left' (by simp)]
theorem zoo:∀ys:List Str,sg (PySem.Txt.join "" ys)=(ys.map sg).flatten:=by
 intro ys
 have e:PySem.Txt.join "" ys=Str.join "" ys:=StrLaws.glued_eq_join "" ys
 rw [e]
 induction ys with
 | nil=>rfl
 | cons y ys ih =>
  cases ys with
  | nil=>show sg y=_;simp
  | cons x ys =>
   have ih:=ih (StrLaws.glued_eq_join "" _)
   show sg (y++""++Str.join "" (x::ys))=_
   rw [zbs,zbs,ih]
   have:sg ("":Str)=[]:=by decide
   rw [this]
   simp
theorem zlp{v:V}(h:zbp v):(z8 v).length<=100/\asc (z8 v)=true:=by
 cases h with
 | bl b=>cases b<;>exact ⟨by decide,by rw [zaQ];decide⟩
 | int i h0 h1 =>
  have F:=zc8 h0 h1
  refine ⟨by show (toString i:Str).length<=100;rw [<- zac];have:=F.most;omega,?_⟩
  show asc (toString i:Str)=true
  rw [zaQ,all_eq_true]
  exact λc hc=>decide_eq_true (by have:=F.dig c hc;omega)
 | str z ha hz=>exact ⟨hz,ha⟩
theorem zgE:∀{xs:List V},(∀v∈xs,zbp v)->(zR xs).length<=101*xs.length/\(zR xs).all (· < 128)=true
 | [],_=>⟨by simp [zR],rfl⟩
 | v::xs,h=>by
  obtain ⟨h1,h2⟩:=zgE (xs:=xs) λu hu=>h u (mem_cons_of_mem _ hu)
  obtain ⟨p1,p2⟩:=zlp (h v (mem_cons_self ..))
  have e:zR (v::xs)=sg (z8 v)++[32]++zR xs:=by simp [zR]
  rw [e]
  rw [<- zac] at p1
  rw [zaQ] at p2
  refine ⟨by simp;omega,?_⟩
  rw [all_append,all_append,p2,h2]
  rfl
theorem zoY:zu ["part"] ["part"] (ze zdO):=⟨rfl,rfl,rfl,f!"",rfl,f!"",f!""⟩
theorem zqc{f:Addr}{fd:FuncData}{cm:Bool}(F:Fun K "part_text" "part_text" zdO f fd)(T:Txt K mg A):zo P w K mg base CX0 cm 1 f fd ["part"] ze2:=by
 refine F.ok zoY (λvs H Q E h=>?_) (λcdv Ar outer s H vs Q E hr h=>?_)
 ·obtain ⟨v,rfl,_⟩:=h;rfl
 ·obtain ⟨v,rfl,hv,q⟩:=h
  refine ⟨_,(W.h (zg (z7 (zaU (zM zhL rfl T.n_isinstance boot_isinstance (zb (za 0) (zb (zgt rfl T.n_bool boot_bool (v:=.ty "bool") rfl) zc))))
   (zk (zH (zrW (zaU (za 0)) zS zS)))
   zam)
   (zk (zH (zdI zsQ rfl T.n_str boot_str (zb (za 0) zc)))))),?_⟩
  simp_all only []
  cases hv with
  | bl b =>
   refine ⟨_,_,_,_,_,rfl,rfl,.of (.bl b),rfl,?_⟩
   simp_all only []
   cases b with
   | true=>exact zfU q
   | false=>exact zeY q
  | int i h0 h1 =>
   refine ⟨_,_,_,_,_,rfl,rfl,.of (.int i),rfl,?_⟩
   simp_all only []
   exact ⟨zfK (by omega),q⟩
  | str z ha hz =>
   refine ⟨_,_,_,_,_,rfl,rfl,.of (.str z),rfl,?_⟩
   simp_all only []
   exact q
structure zea(H:Hp)(xs:List V)(i:Nat)(τ:L2.St)(ys:List V)(H':Hp):Prop where
 ex:∃t,τ=[t]
 ys:ys=((xs.take i).map λv=>z8 v++" ").map V.str
 same:H'=H
theorem zxp:zu ["row"] ["row"] (ze zcN):=⟨rfl,rfl,rfl,f!"",rfl,f!"",f!""⟩
theorem zu2:zaF { kind:=.function,names:=[(Str.ofString ".0",.local),(Str.ofString "part",.local),(Str.ofString "part_text",.globalImplicit)],isGenerator:=false,isCoroutine:=false,more:=[] } (ze zcN).names ["row"] ["part"] [none]=true:=by decide +kernel
theorem zrl:(["part"]:List Str).Nodup:=by decide +kernel
theorem zxS{f:Addr}{fd:FuncData}(F:Fun K "row_text" "row_text" zcN f fd)(T:Txt K mg A)(Gm:GF P w K mg base true 2 "summed" ["body"] zfE)(Gn:GF P w K mg base true 1 "part_text" ["part"] ze2):zo P w K mg base CX0 true 3 f fd ["row"] zhV:=by
 refine F.ok zxp (λvs H Q E h=>?_) (λcdv Ar outer s H vs Q E hr h=>?_)
 ·obtain ⟨a,xs,rfl,_⟩:=h;rfl
 ·obtain ⟨a,xs,rfl,hH,hx,hp,q⟩:=h
  refine ⟨_,(W.h (zk (zH (zr Gm hr rfl (zb (ztS zS (zbS (λ_=>rfl) (zah.of zu2) (ztb (za 0)) (λ_ _ _ _ _=>(zI (i:=0) zrl rfl (Or.inl rfl))) (λ_ _ _ _ _=>zbI) (λ_ _ _ _ _=>(zG zau (zr Gn hr rfl (zb (za 0) zc)) zS)))) zc))))),?_⟩
  simp_all only []
  have sp1:(" ":Str).length=1:=by decide
  have step:∀(N:L2.St->List V->Hp->Prop)(i:Nat)(x:V)(τ:L2.St)(ys:List V)(H':Hp),xs[i]?=some x->zea H xs i τ ys H'->(∀τ ys H3,zea H xs (i+1) τ ys H3->N τ ys H3)->zbR 0 x τ H' λτ1 H4=>zf8 τ1 H4 λok H5=>zbE N ys τ1 (tOp zbr (zeu ze2 [] E0 (zeZ (zeP 0) za0)) (tC (V.str " "))) ok H5:=by
   intro N i x τ ys H' hx' I hN
   obtain ⟨t,rfl⟩:=I.ex
   have hv:=hp x (mem_of_getElem? hx')
   simp_all only []
   refine ⟨x,rfl,hv,?_⟩
   simp_all only []
   refine ⟨?_,hN _ _ _ ⟨⟨_,rfl⟩,by rw [I.ys,take_add_one,hx'];simp,I.same⟩⟩
   rw [sp1]
   exact zaD (by have:=(zlp hv).1;omega)
  have done:∀(τ:L2.St)(ys:List V)(H':Hp),zea H xs xs.length τ ys H'->∀D H2,New H' D (.lst ys) H2->zeT (V.str "") [.ref D] H2 λx H1=>zfE [x] H1 Q E0:=by
   intro τ ys H' I D H2 n2
   rw [zmc]
   have hall:xs.take xs.length=xs:=take_of_length_le (le_refl _)
   have e:PySem.Txt.join "" (xs.map λv=>z8 v++" ")=tx (zR xs):=by
    refine zfy ?_
    rw [zoo,zaS,map_map]
    unfold zR
    congr 1
    refine map_congr_left λv _=>?_
    show sg (z8 v++" ")=_
    rw [zbs]
    rfl
   obtain ⟨l1,l2⟩:=zgE hp
   refine ⟨xs.map λv=>z8 v++" ",by rw [n2.at_,I.ys,hall],?_,tx (zR xs),by rw [e],by rw [znc];exact l2,by rw [zkf];omega,λH3 s3=>q H3 ?_⟩
   ·have es:((xs.map λv=>z8 v++" ").map (·.length)).sum=(zR xs).length:=by
     unfold zR
     rw [List.length_flatten,map_map,map_map]
     congr 1
     refine map_congr_left λv _=>?_
     show (z8 v++" ").length=(sg (z8 v)++[32]).length
     rw [Str.length_append,length_append,zac]
     rfl
    rw [es,show ("":Str).length=0 by decide]
    omega
   ·have:=n2.same
    rw [I.same] at this
    exact this.trans s3
  have sml:∀i τ ys H',zea H xs i τ ys H'->ys.length<sizeLine:=λi τ ys H' I=>by
   rw [I.ys,length_map,length_map,length_take]
   exact zaG (by omega)
  rcases hH with hH|hH
  ·exact .inl ⟨⟨_,SqL.of hH⟩,zV.lst (xs:=xs) (zea H xs) sml (λi τ ys H' I=>SqL.of (by rw [I.same];exact hH)) ⟨⟨_,rfl⟩,by simp,rfl⟩ step done⟩
  ·exact .inr ⟨⟨_,SqT.of hH⟩,zV.tup (xs:=xs) (zea H xs) sml (λi τ ys H' I=>SqT.of (by rw [I.same];exact hH)) ⟨⟨_,rfl⟩,by simp,rfl⟩ step done⟩
theorem zdz(z:Str)(zs:List Str):zbP (z::zs)=(zck z).bind λks=>if zs.length=ks.length then (zbU ks zs).map (.str z::·) else none:=rfl
end
def zaE(i:Int):Prop:=0<=i/\i<10 ^ 18
inductive zaA:List V->Prop
 | put (n g:Int) (b:Bool) (nm:Str) (pl:Int) (wd:Str):zaE n->zaE g->zaE pl->zbG nm=true->zcf wd=true->zaA [.str "put",.int n,.int g,.bl b,.str nm,.int pl,.str wd]
 | cut (n:Int) (nm:Str) (pl:Int):zaE n->zaE pl->zbG nm=true->zaA [.str "cut",.int n,.str nm,.int pl]
 | hold (n:Int) (nm:Str):zaE n->zbG nm=true->zaA [.str "hold",.int n,.str nm]
 | free (n:Int) (nm:Str):zaE n->zbG nm=true->zaA [.str "free",.int n,.str nm]
 | carry (n g:Int) (wd:Str):zaE n->zaE g->zcf wd=true->zaA [.str "carry",.int n,.int g,.str wd]
theorem zos{z y:Str}{m:Int}(h:∀c∈sg z,c∈sg y)(h1:1<=z.length)(h2:(z.length:Int)<=m):zbx z y m=true:=by
 unfold zbx
 rw [decide_eq_true (show (1:Int)<=z.length by omega),decide_eq_true h2]
 rw [Bool.true_and,Bool.true_and,all_eq_true]
 exact λc hc=>List.contains_iff_mem.mpr (h c hc)
theorem ztu{l:List Nat}(hl:∃a,l=a++[32]):zd5 (zbl (tx l))=tx l:=by
 obtain ⟨a,rfl⟩:=hl
 have F:=zc8 (zb9 (tx (a++[32]))).1 (by have:=(zb9 (tx (a++[32]))).2;omega)
 have e:sg (zbl (tx (a++[32])))=a++32::(sg (toString (zaW (tx (a++[32]))):Str)++[59]):=by
  unfold zbl
  rw [zbs,zbs,zaS]
  simp
  decide +kernel
 refine zxd e λh=>?_
 rcases mem_append.mp h with h|h
 ·have:=F.dig 32 h;omega
 ·simp at h
theorem zjD{z y:Str}{m:Int}(h:zbx z y m=true)(hy:32∉sg y):32∉sg z:=by
 unfold zbx at h
 rw [and_eq_true] at h
 intro hz
 exact hy (List.contains_iff_mem.mp (all_eq_true.mp h.2 32 hz))
theorem zfn{z:Str}(h:zbG z=true):32∉sg z:=zjD h (f!"")
theorem zkY{z:Str}(h:zcf z=true):32∉sg z:=zjD h (f!"")
theorem zbZ{i:Int}(h:zaE i):32∉sg (toString i:Str):=λhz=>by
 have:=(zc8 h.1 h.2).dig 32 hz
 omega
theorem zmA{z y:Str}{m:Int}(h:zbx z y m=true)(hy:∀c∈sg y,c<128)(hm:m<=100):asc z=true/\z.length<=100:=by
 unfold zbx at h
 rw [and_eq_true,and_eq_true,decide_eq_true_eq,decide_eq_true_eq] at h
 refine ⟨?_,by omega⟩
 rw [zaQ,all_eq_true]
 exact λc hc=>decide_eq_true (hy c (List.contains_iff_mem.mp (all_eq_true.mp h.2 c hc)))
theorem zfG{z:Str}(h:zbG z=true):zbp (.str z):=by
 obtain ⟨a,b⟩:=zmA h (f!"") (by decide)
 exact .str z a b
theorem zmz{z:Str}(h:zcf z=true):zbp (.str z):=by
 obtain ⟨a,b⟩:=zmA h (f!"") (by decide)
 exact .str z a b
theorem zbT{i:Int}(h:zaE i):zbp (.int i):=.int i h.1 h.2
theorem zsl{i:Int}(h:zaE i):zfT (toString i:Str)=true:=by
 have F:=zc8 h.1 h.2
 unfold zfT
 rw [and_eq_true]
 constructor
 ·refine zos (λc hc=>?_) (by rw [<- zac];exact F.one) (by rw [<- zac];have:=F.most;omega)
  have hf:sg FIG=[48,49,50,51,52,53,54,55,56,57]:=by decide
  rw [hf]
  have:=F.dig c hc
  simp
  omega
 ·rcases F.head with h|⟨c,r,e,hc⟩
  ·rw [decide_eq_true h];rfl
  ·rw [e]
   have : ¬ tx (List.take 1 (c::r))=("0":Str):=λx=>by
    have:=congrArg sg x
    rw [zaS] at this
    have h0:sg ("0":Str)=[48]:=by decide
    rw [h0] at this
    injection this with h1 _
    omega
   rw [decide_eq_false this]
   simp
theorem zb3{i:Int}(h:zaE i):zbC "number" (toString i:Str)=some (.int i):=by
 unfold zbC
 rw [if_pos ⟨rfl,zsl h⟩,(zc8 h.1 h.2).back]
 rfl
theorem zft{z:Str}(h:zbG z=true):zbC "name" z=some (.str z):=by
 unfold zbC
 rw [if_neg (λx=>absurd x.1 (f!"")),if_neg (λx=>absurd x.1 (f!"")),if_pos ⟨rfl,h⟩]
theorem ziY{z:Str}(h:zcf z=true):zbC "word" z=some (.str z):=by
 unfold zbC
 rw [if_neg (λx=>absurd x.1 (f!"")),if_neg (λx=>absurd x.1 (f!"")),if_neg (λx=>absurd x.1 (f!"")),if_pos ⟨rfl,h⟩]
theorem zrP(b:Bool):zbC "end" (z8 (.bl b))=some (.bl b):=by cases b<;>decide +kernel
theorem zeh{xs:List V}{v:V}(hn:∀u∈v::xs,32∉sg (z8 u)):zbo (zak (v::xs))=zbP ((v::xs).map z8):=by
 have flat:∀l:List V,zR l=(l.map λu=>sg (z8 u)++[32]).flatten:=λl=>rfl
 have ap:∀(u:V)(l:List V),zR (u::l)=sg (z8 u)++32::zR l:=λu l=>by simp [zR]
 have key:∀(u:V)(l:List V),zR (u::l)=sg (z8 u)++((l.map λt=>sg (z8 t)).map (32::·)).flatten++[32]:=by
  intro u l
  induction l generalizing u with
  | nil=>simp [zR]
  | cons t l ih =>
   rw [ap u (t::l),ih t]
   simp
 have hb:zd5 (zak (v::xs))=tx (zR (v::xs)):=ztu ⟨_,key v xs⟩
 have hs:zf0 (zak (v::xs))=some (tx (zR (v::xs))):=by
  unfold zf0
  rw [hb]
  exact if_pos rfl
 unfold zbo
 rw [hs]
 show zbP (PySem.Txt.split (PySem.Txt.slice (tx (zR (v::xs))) none (some (-1))) (c1 32))=_
 rw [zqh (by rw [zaS,key,length_append];exact Nat.lt_of_lt_of_le (by decide) (Nat.le_add_left _ _)),zaS,key,List.dropLast_concat,zob _ (by decide),zaS,zh3]
 ·congr 1
  rw [map_cons,map_map,map_cons,zer]
  congr 1
 ·intro u hu
  rcases mem_cons.mp hu with rfl|hu
  ·exact hn v (mem_cons_self ..)
  ·obtain ⟨t,ht,rfl⟩:=mem_map.mp hu
   exact hn t (mem_cons_of_mem _ ht)
theorem zaA.read{xs:List V}(h:zaA xs):zbo (zak xs)=some xs:=by
 have bno:∀b:Bool,32∉sg (z8 (.bl b)):=λb=>by cases b<;>decide
 cases h with
 | put n g b nm pl wd h1 h2 h3 h4 h5 =>
  rw [zeh (by
   simp only [mem_cons,not_mem_nil,or_false]
   rintro u (rfl|rfl|rfl|rfl|rfl|rfl|rfl)
   ·decide +kernel
   ·exact zbZ h1
   ·exact zbZ h2
   ·exact bno b
   ·exact zfn h4
   ·exact zbZ h3
   ·exact zkY h5)]
  have ek:zck "put"=some (["number","number","end","name","number","word"]:List Str):=by decide +kernel
  show zbP [("put":Str),(toString n:Str),(toString g:Str),z8 (.bl b),nm,(toString pl:Str),wd]=_
  rw [zdz,ek]
  simp only [bind_some,length_cons,length_nil,if_true,zbU,zb3 h1,zb3 h2,zrP,zft h4,zb3 h3,ziY h5,map_some]
 | cut n nm pl h1 h2 h3 =>
  rw [zeh (by
   simp only [mem_cons,not_mem_nil,or_false]
   rintro u (rfl|rfl|rfl|rfl)
   ·decide +kernel
   ·exact zbZ h1
   ·exact zfn h3
   ·exact zbZ h2)]
  have ek:zck "cut"=some (["number","name","number"]:List Str):=by decide +kernel
  show zbP [("cut":Str),(toString n:Str),nm,(toString pl:Str)]=_
  rw [zdz,ek]
  simp only [bind_some,length_cons,length_nil,if_true,zbU,zb3 h1,zft h3,zb3 h2,map_some]
 | hold n nm h1 h2 =>
  rw [zeh (by
   simp only [mem_cons,not_mem_nil,or_false]
   rintro u (rfl|rfl|rfl)
   ·decide +kernel
   ·exact zbZ h1
   ·exact zfn h2)]
  have ek:zck "hold"=some (["number","name"]:List Str):=by decide +kernel
  show zbP [("hold":Str),(toString n:Str),nm]=_
  rw [zdz,ek]
  simp only [bind_some,length_cons,length_nil,if_true,zbU,zb3 h1,zft h2,map_some]
 | free n nm h1 h2 =>
  rw [zeh (by
   simp only [mem_cons,not_mem_nil,or_false]
   rintro u (rfl|rfl|rfl)
   ·decide +kernel
   ·exact zbZ h1
   ·exact zfn h2)]
  have ek:zck "free"=some (["number","name"]:List Str):=by decide +kernel
  show zbP [("free":Str),(toString n:Str),nm]=_
  rw [zdz,ek]
  simp only [bind_some,length_cons,length_nil,if_true,zbU,zb3 h1,zft h2,map_some]
 | carry n g wd h1 h2 h3 =>
  rw [zeh (by
   simp only [mem_cons,not_mem_nil,or_false]
   rintro u (rfl|rfl|rfl|rfl)
   ·decide +kernel
   ·exact zbZ h1
   ·exact zbZ h2
   ·exact zkY h3)]
  have ek:zck "carry"=some (["number","number","word"]:List Str):=by decide +kernel
  show zbP [("carry":Str),(toString n:Str),(toString g:Str),wd]=_
  rw [zdz,ek]
  simp only [bind_some,length_cons,length_nil,if_true,zbU,zb3 h1,zb3 h2,ziY h3,map_some]
theorem zaA.parts{xs:List V}(h:zaA xs):xs.length<=10/\xs.all zP=true/\(∀v∈xs,∀b,v≠.byt b)/\∀v∈xs,zbp v:=by
 have kp:∀z:Str,asc z=true->z.length<=100->zbp (.str z):=λz a b=>.str z a b
 cases h with
 | put n g b nm pl wd h1 h2 h3 h4 h5 =>
  refine ⟨by simp,rfl,by simp,?_⟩
  simp only [mem_cons,not_mem_nil,or_false]
  rintro u (rfl|rfl|rfl|rfl|rfl|rfl|rfl)
  ·exact kp _ (by rw [zaQ];decide +kernel) (by decide)
  ·exact zbT h1
  ·exact zbT h2
  ·exact .bl b
  ·exact zfG h4
  ·exact zbT h3
  ·exact zmz h5
 | cut n nm pl h1 h2 h3 =>
  refine ⟨by simp,rfl,by simp,?_⟩
  simp only [mem_cons,not_mem_nil,or_false]
  rintro u (rfl|rfl|rfl|rfl)
  ·exact kp _ (by rw [zaQ];decide +kernel) (by decide)
  ·exact zbT h1
  ·exact zfG h3
  ·exact zbT h2
 | hold n nm h1 h2 =>
  refine ⟨by simp,rfl,by simp,?_⟩
  simp only [mem_cons,not_mem_nil,or_false]
  rintro u (rfl|rfl|rfl)
  ·exact kp _ (by rw [zaQ];decide +kernel) (by decide)
  ·exact zbT h1
  ·exact zfG h2
 | free n nm h1 h2 =>
  refine ⟨by simp,rfl,by simp,?_⟩
  simp only [mem_cons,not_mem_nil,or_false]
  rintro u (rfl|rfl|rfl)
  ·exact kp _ (by rw [zaQ];decide +kernel) (by decide)
  ·exact zbT h1
  ·exact zfG h2
 | carry n g wd h1 h2 h3 =>
  refine ⟨by simp,rfl,by simp,?_⟩
  simp only [mem_cons,not_mem_nil,or_false]
  rintro u (rfl|rfl|rfl|rfl)
  ·exact kp _ (by rw [zaQ];decide +kernel) (by decide)
  ·exact zbT h1
  ·exact zbT h2
  ·exact zmz h3
abbrev Tx:=Option Str
def tv:Tx->V|none=>.non|some z=>.str z
def lv:Option Int->V|none=>.non|some i=>.int i
structure DM where
 rows:List (List Tx)
 sides:List Tx
 cnt:Int
 left:Option Int
 st:Bool
def dn(left:Option Int)(many:Int):Int:=match left with|none=>many|some l=>if l<many then l else many
def DM.spend(d:DM)(many:Int):DM:={ d with cnt:=d.cnt+dn d.left many,left:=d.left.map (· - dn d.left many),st:=decide (dn d.left many<many) }
inductive Res where|val (v:V)|full|stop
def zc0(t:Str)(n:Int):Tx:=some (Txt.slice t none (some n))
def DM.write(m:Int)(d:DM)(k:Nat)(t:Str):Res×DM :=
 if d.st=true then (.stop,d) else if ((d.rows.getD k []).length:Int)=m then (.full,d) else
 if dn d.left t.length=0/\(d.spend t.length).st=true then (.stop,d.spend t.length) else
 ((if (d.spend t.length).st=true then .stop else .val (.int (d.rows.getD k []).length)),{ d.spend t.length with rows:=d.rows.set k (d.rows.getD k []++[zc0 t (dn d.left t.length)]) })
def DM.empty(d:DM)(k:Nat):Res×DM :=
 if d.st=true then (.stop,d) else
 if (d.spend (d.rows.getD k []).length).st=true then (.stop,{ d.spend (d.rows.getD k []).length with rows:=d.rows.set k (replicate (dn d.left (d.rows.getD k []).length).toNat none++(d.rows.getD k []).drop (dn d.left (d.rows.getD k []).length).toNat) }) else
 (.val .non,{ d.spend (d.rows.getD k []).length with rows:=d.rows.set k [] })
def DM.put(d:DM)(k:Nat)(t:Str):Res×DM :=
 if d.st=true then (.stop,d) else if dn d.left t.length=0/\(d.spend t.length).st=true then (.stop,d.spend t.length) else
 ((if (d.spend t.length).st=true then .stop else .val .non),{ d.spend t.length with sides:=d.sides.set k (zc0 t (dn d.left t.length)) })
structure Rows(H:Hp)(wl:Addr)(cells:List Addr)(rows:List (List Tx)):Prop where
 w:H wl=some (.lst (cells.map V.ref))
 len:cells.length=rows.length
 at_:∀i c,cells[i]?=some c->H c=some (.lst ((rows.getD i []).map tv))
def zp(m:Int)(wl sl:Addr)(d:DM):List (Str×V):=[("width",.int m),("written",.ref wl),("at_sides",.ref sl),("counted",.int d.cnt),("left",lv d.left),("has_stopped",.bl d.st)]
structure zE(A:zh)(H:Hp)(p wl sl:Addr)(cells:List Addr)(m:Int)(d:DM):Prop where
 ob:∃dx,H p=some (.ins A.Disk dx (zp m wl sl d))
 rows:Rows H wl cells d.rows
 sides:H sl=some (.lst (d.sides.map tv))
 nd:(p::wl::sl::cells).Nodup
def zn(F:List Addr)(H H':Hp):Prop:=∀b o,H b=some o->b∉F->H' b=some o
theorem zn.refl{F:List Addr}{H:Hp}:zn F H H:=λ_ _ h _=>h
theorem zn.trans{F:List Addr}{H H1 H2:Hp}(a:zn F H H1)(b:zn F H1 H2):zn F H H2:=λc o h hc=>b c o (a c o h hc) hc
theorem zn.mono{F G:List Addr}{H H':Hp}(a:zn F H H')(s:∀x∈F,x∈G):zn G H H':=λc o h hc=>a c o h λz=>hc (s c z)
theorem zn.same{F:List Addr}{H H':Hp}(a:zl H H'):zn F H H':=λc o h _=>a c o h
theorem zn.upd{F:List Addr}{H:Hp}{x:Addr}{o:HO}(hx:x∈F):zn F H (L2.upd H x o):=λc u h hc=>by
 have hne:c≠x:=λz=>hc (by rw [z];exact hx)
 rw [zd hne];exact h
theorem Rows.keep{H H':Hp}{wl:Addr}{cells:List Addr}{rows:List (List Tx)}(r:Rows H wl cells rows)(k:∀b o,H b=some o->b=wl\/b∈cells->H' b=some o):Rows H' wl cells rows :=
 ⟨k _ _ r.w (.inl rfl),r.len,λi c hc=>k _ _ (r.at_ i c hc) (.inr (mem_of_getElem? hc))⟩
theorem zE.keep{A:zh}{H H':Hp}{p wl sl:Addr}{cells:List Addr}{m:Int}{d:DM}{F:List Addr}(D:zE A H p wl sl cells m d)(k:zn F H H')(hF:∀x∈p::wl::sl::cells,x∉F):zE A H' p wl sl cells m d:=by
 obtain ⟨dx,h⟩:=D.ob
 refine ⟨⟨dx,k _ _ h (hF _ (by simp))⟩,D.rows.keep λb o e hb=>k b o e (hF b ?_),k _ _ D.sides (hF _ (by simp)),D.nd⟩
 rcases hb with rfl|hb
 ·simp
 ·simp [hb]
theorem ziV{l:List Addr}(nd:l.Nodup){i j:Nat}{a:Addr}(h1:l[i]?=some a)(h2:l[j]?=some a):i=j:=by
 obtain ⟨hi,e1⟩:=List.getElem?_eq_some_iff.mp h1
 obtain ⟨hj,e2⟩:=List.getElem?_eq_some_iff.mp h2
 exact (List.getElem_inj nd).mp (e1.trans e2.symm)
theorem Rows.set{H:Hp}{wl:Addr}{cells:List Addr}{rows:List (List Tx)}{k:Nat}{c:Addr}{r:List Tx}(R:Rows H wl cells rows)(nd:(wl::cells).Nodup)(hc:cells[k]?=some c):Rows (upd H c (.lst (r.map tv))) wl cells (rows.set k r):=by
 have hn:=nodup_cons.mp nd
 have hk:k<rows.length:=by rw [<- R.len];exact (List.getElem?_eq_some_iff.mp hc).1
 have hwc:wl≠c:=λz=>hn.1 (by rw [z];exact mem_of_getElem? hc)
 refine ⟨by rw [zd hwc];exact R.w,by rw [length_set];exact R.len,λi b hb=>?_⟩
 by_cases hi:i=k
 ·subst hi
  rw [hc] at hb
  cases hb
  rw [zq]
  simp [getD_eq_getElem?_getD,hk]
 ·have hbc:b≠c:=λz=>by
   subst z
   exact hi (ziV hn.2 hb hc)
  rw [zd hbc,R.at_ i b hb]
  simp [getD_eq_getElem?_getD,getElem?_set_ne (Ne.symm hi)]
abbrev zdV:Stmt:=zag (top 27) 1
abbrev zec:Stmt:=zag (top 27) 2
abbrev zdB:Stmt:=zag (top 27) 3
abbrev zcH:Stmt:=zag (top 27) 12
abbrev zdi:Stmt:=zag (top 27) 13
abbrev zcY:Stmt:=zag (top 27) 14
section
variable {P:Program}{w:World}{K:Frag}{mg:Str->Option Value}{base:Heap}{A:zh}
section
variable {m:Int}{wl sl:Addr}{d:DM}
theorem zim:(zp m wl sl d).lookup ("width":Str)=some (.int m):=by simp only [zp,List.lookup,beq_self_eq_true]
theorem zeQ:(zp m wl sl d).lookup ("written":Str)=some (.ref wl):=by simp only [zp,List.lookup,beq_self_eq_true,zoe]
theorem zkW:(zp m wl sl d).lookup ("at_sides":Str)=some (.ref sl):=by simp only [zp,List.lookup,beq_self_eq_true,zpQ,zn6]
theorem zgu:(zp m wl sl d).lookup ("counted":Str)=some (.int d.cnt):=by simp only [zp,List.lookup,beq_self_eq_true,zoz,zwh,zsS]
theorem zlq:(zp m wl sl d).lookup ("left":Str)=some (lv d.left):=by simp only [zp,List.lookup,beq_self_eq_true,znF,zuo,zpS,zpB]
theorem zlG:(zp m wl sl d).lookup ("has_stopped":Str)=some (.bl d.st):=by simp only [zp,List.lookup,beq_self_eq_true,zwY,zus,zvF,znZ,zmV]
theorem zkA:(zp m wl sl d).lookup ("stretches":Str)=none:=by simp only [zp,List.lookup,ztM,zn9,zt0,zvQ,ztY,zrk]
theorem zpP:(zp m wl sl d).lookup ("places":Str)=none:=by simp only [zp,List.lookup,zs4,zpy,zpz,zm1,znw,zud]
theorem zsy:(zp m wl sl d).lookup ("next_place":Str)=none:=by simp only [zp,List.lookup,zuc,zur,zu1,zql,zsU,zoN]
theorem zls:(zp m wl sl d).lookup ("write":Str)=none:=by simp only [zp,List.lookup,zyj,zrz,zm2,zyZ,zqE,zvt]
theorem znq:(zp m wl sl d).lookup ("put_side":Str)=none:=by simp only [zp,List.lookup,zwJ,zp7,zt7,zw2,zrO,zw5]
theorem zks:(zp m wl sl d).lookup ("empty":Str)=none:=by simp only [zp,List.lookup,zph,zom,zpo,zpt,zmR,zr9]
theorem zj7:(zp m wl sl d).lookup ("stop":Str)=none:=by simp only [zp,List.lookup,zti,zq3,zpu,znl,zvy,zqu]
theorem zqQ:(zp m wl sl d).lookup ("copied":Str)=none:=by simp only [zp,List.lookup,zno,znE,zne,zxw,zrI,zys]
theorem zco:(zp m wl sl d).lookup ("refuse_if_stopped":Str)=none:=by simp only [zp,List.lookup,zrD,zo0,zvm,zyw,zqa,zwN]
theorem zkP:(zp m wl sl d).lookup ("spend":Str)=none:=by simp only [zp,List.lookup,zsO,zyc,znf,zra,zv5,zqp]
theorem zjw:(zp m wl sl d).lookup ("first_signs":Str)=none:=by simp only [zp,List.lookup,zt3,zsV,zsp,zuq,zoF,zxb]
theorem zoC{x:Option Int}:zB "left" (lv x) (zp m wl sl d)=zp m wl sl { d with left:=x }:=by simp only [zp,zB,zjz,zjQ,zlb,zkR,if_false,if_true]
theorem zh5{x:Int}:zB "left" (.int x) (zp m wl sl d)=zp m wl sl { d with left:=some x }:=zoC (x:=some x)
theorem zf9{x:Int}:zB "counted" (.int x) (zp m wl sl d)=zp m wl sl { d with cnt:=x }:=by simp only [zp,zB,zly,zle,zjv,if_false,if_true]
theorem ziX{x:Bool}:zB "has_stopped" (.bl x) (zp m wl sl d)=zp m wl sl { d with st:=x }:=by simp only [zp,zB,zlI,zlO,zjS,zjW,zjj,if_false,if_true]
theorem ze1:(zp m wl sl d).length<1000:=by show 6<1000;decide
end
def zcF(A:zh)(r:Int->DM->V):Sp:=λvs H Q _=>∃(p wl sl:Addr)(cells:List Addr)(m:Int)(d:DM),vs=[.ref p]/\zE A H p wl sl cells m d/\Q (r m d) H
def zgI(A:zh):Sp:=λvs H Q _=>∃(p wl sl:Addr)(cells:List Addr)(m:Int)(d:DM)(k:Nat),vs=[.ref p,.int k]/\zE A H p wl sl cells m d/\k<d.rows.length/\Q (.int (d.rows.getD k []).length) H
def zdw(A:zh):Sp:=λvs H Q E=>∃(p wl sl:Addr)(cells:List Addr)(m:Int)(d:DM),vs=[.ref p]/\zE A H p wl sl cells m d/\(d.st=true->E (.ref A.Stopped) none H)/\(d.st=false->Q .non H)
def zfv(A:zh):Sp:=λvs H Q _=>∃(p wl sl:Addr)(cells:List Addr)(m:Int)(d:DM)(n:Int),vs=[.ref p,.int n]/\zE A H p wl sl cells m d/\∀H',zE A H' p wl sl cells m (d.spend n)->zn [p] H H'->Q (.int (dn d.left n)) H'
def zfO(A:zh):Sp:=λvs H Q E=>∃(p wl sl:Addr)(cells:List Addr)(m:Int)(d:DM)(t:Str),vs=[.ref p,.str t]/\zE A H p wl sl cells m d/\t.length<=1000 /\
 ∀H',zE A H' p wl sl cells m (d.spend t.length)->zn [p] H H'->((dn d.left t.length=0/\(d.spend t.length).st=true->E (.ref A.Stopped) none H')/\(¬ (dn d.left t.length=0/\(d.spend t.length).st=true)->Q (.str (Txt.slice t none (some (dn d.left t.length)))) H'))
theorem Rows.cell{H:Hp}{wl:Addr}{cells:List Addr}{rows:List (List Tx)}(R:Rows H wl cells rows){k:Nat}(hk:k<rows.length):∃c,cells[k]?=some c/\atI (cells.map V.ref) (k:Int)=some (.ref c)/\H c=some (.lst ((rows.getD k []).map tv)):=by
 have hk':k<cells.length:=by rw [R.len];exact hk
 refine ⟨cells[k],List.getElem?_eq_getElem hk',zcZ (by rw [getElem?_map,List.getElem?_eq_getElem hk'];rfl),R.at_ k _ (List.getElem?_eq_getElem hk')⟩
theorem zE.obj{H:Hp}{p wl sl dx:Addr}{cells:List Addr}{m:Int}{d d':DM}(D:zE A H p wl sl cells m d)(h1:d'.rows=d.rows)(h2:d'.sides=d.sides):zE A (upd H p (.ins A.Disk dx (zp m wl sl d'))) p wl sl cells m d':=by
 have hn:=nodup_cons.mp D.nd
 have ne:∀b∈wl::sl::cells,b≠p:=λb hb z=>hn.1 (by rw [<- z];exact hb)
 refine ⟨⟨dx,zq⟩,?_,?_,D.nd⟩
 ·rw [h1]
  refine D.rows.keep λb o e hb=>?_
  rw [zd (ne b (by rcases hb with rfl|hb<;>simp_all))];exact e
 ·rw [h2,zd (ne sl (by simp))];exact D.sides
theorem zyB:zu ["self"] ["self"] (ze zdV):=⟨rfl,rfl,rfl,f!"",rfl,f!"",f!""⟩
theorem zsa{f:Addr}{fd:FuncData}{cm:Bool}(F:Fun K "stretches" "Disk.stretches" zdV f fd)(T:Txt K mg A):zo P w K mg base CX0 cm 1 f fd ["self"] (zcF A λ_ d=>.int d.rows.length):=by
 refine F.ok zyB (λvs H Q E h=>?_) (λcdv Ar outer s H vs Q E hr h=>?_)
 ·obtain ⟨p,wl,sl,cells,m,d,rfl,_⟩:=h;rfl
 ·obtain ⟨p,wl,sl,cells,m,d,rfl,D,q⟩:=h
  obtain ⟨dx,h1⟩:=D.ob
  refine ⟨_,(W.h (zk (zH (zM zaI rfl T.n_len PySem.boot_len (zb (zY T.cl_Disk T.na_Disk_written (za 0)) zc))))),?_⟩
  simp_all only [h1,D.rows.w,zeQ,length_map,D.rows.len]
  exact q
theorem zuP:zu ["self"] ["self"] (ze zec):=⟨rfl,rfl,rfl,f!"",rfl,f!"",f!""⟩
theorem zuV{f:Addr}{fd:FuncData}{cm:Bool}(F:Fun K "places" "Disk.places" zec f fd)(T:Txt K mg A):zo P w K mg base CX0 cm 1 f fd ["self"] (zcF A λm _=>.int m):=by
 refine F.ok zuP (λvs H Q E h=>?_) (λcdv Ar outer s H vs Q E hr h=>?_)
 ·obtain ⟨p,wl,sl,cells,m,d,rfl,_⟩:=h;rfl
 ·obtain ⟨p,wl,sl,cells,m,d,rfl,D,q⟩:=h
  obtain ⟨dx,h1⟩:=D.ob
  refine ⟨_,(W.h (zk (zH (zY T.cl_Disk T.na_Disk_width (za 0))))),?_⟩
  simp_all only [h1,zim]
  exact q
theorem zoO:zu ["self","stretch"] ["self","stretch"] (ze zdB):=⟨rfl,rfl,rfl,f!"",rfl,f!"",f!""⟩
theorem ztx{f:Addr}{fd:FuncData}{cm:Bool}(F:Fun K "next_place" "Disk.next_place" zdB f fd)(T:Txt K mg A):zo P w K mg base CX0 cm 1 f fd ["self","stretch"] (zgI A):=by
 refine F.ok zoO (λvs H Q E h=>?_) (λcdv Ar outer s H vs Q E hr h=>?_)
 ·obtain ⟨p,wl,sl,cells,m,d,k,rfl,_⟩:=h;rfl
 ·obtain ⟨p,wl,sl,cells,m,d,k,rfl,D,hk,q⟩:=h
  obtain ⟨dx,h1⟩:=D.ob
  obtain ⟨c,hc,ha,hH⟩:=D.rows.cell hk
  refine ⟨_,(W.h (zk (zH (zM zaI rfl T.n_len PySem.boot_len (zb (zL zQ (zY T.cl_Disk T.na_Disk_written (za 0)) (za 1) (λ_ _=>rfl)) zc))))),?_⟩
  simp_all only [h1,D.rows.w,zeQ,ha,hH,length_map]
  exact q
theorem znm:zu ["self"] ["self"] (ze zcH):=⟨rfl,rfl,rfl,f!"",rfl,f!"",f!""⟩
theorem zx9{f:Addr}{fd:FuncData}(F:Fun K "refuse_if_stopped" "Disk.refuse_if_stopped" zcH f fd)(T:Txt K mg A):zo P w K mg base (CXW P w) true 1 f fd ["self"] (zdw A):=by
 refine F.okW znm (λvs H Q E h=>?_) (λcdv Ar outer s H vs Q E hr h=>?_)
 ·obtain ⟨p,wl,sl,cells,m,d,rfl,_⟩:=h;rfl
 ·obtain ⟨p,wl,sl,cells,m,d,rfl,D,q1,q2⟩:=h
  obtain ⟨dx,h1⟩:=D.ob
  have Th:=zdE (cm:=true) (P:=P) (w:=w) (K:=K) (mg:=mg) (base:=base) (N:=["self"]) (qual:="Disk.refuse_if_stopped") (scope:=ze zcH) (f:=f) (cd:=cdv) (A:=Ar) (outer:=outer) (s:=s) (H:=H) (E:=E)
  refine ⟨_,(W.h (zk (z7 (zaU (zY T.cl_Disk T.na_Disk_has_stopped (za 0)))
   (zk (ze7 rfl Th T.ek_Stopped rfl T.mg_Stopped (zb zS zc)))
   zam))),?_⟩
  simp_all only [h1,zlG]
  refine zaV (λh=>⟨by decide,q1 h⟩) (λh=>q2 (eq_false_iff.mpr h))
theorem zin:zu ["self","many","done"] ["self","many"] (ze zdi):=⟨rfl,rfl,rfl,f!"",rfl,f!"",f!""⟩
theorem zmJ{f:Addr}{fd:FuncData}(F:Fun K "spend" "Disk.spend" zdi f fd)(T:Txt K mg A):zo P w K mg base CX0 true 1 f fd ["self","many"] (zfv A):=by
 refine F.ok zin (λvs H Q E h=>?_) (λcdv Ar outer s H vs Q E hr h=>?_)
 ·obtain ⟨p,wl,sl,cells,m,d,n,rfl,_⟩:=h;rfl
 ·obtain ⟨p,wl,sl,cells,m,d,n,rfl,D,q⟩:=h
  obtain ⟨dx,h1⟩:=D.ob
  refine ⟨_,(W.h (zg (zF (i:=2) zin.nd rfl (Or.inl rfl) (za 1))
   (zg (z7 (zal zfl (zY T.cl_Disk T.na_Disk_left (za 0)) zbt (zaa _))
   (zg (zF (i:=2) zin.nd rfl (Or.inl rfl) (zM (zgH rfl) rfl T.n_min boot_min (zb (za 1) (zb (zY T.cl_Disk T.na_Disk_left (za 0)) zc))))
   (zk (zlv T.cl_Disk T.na_Disk_left (za 0) (za 2) zo7)))
   zam)
   (zg (zlv T.cl_Disk T.na_Disk_counted (za 0) (za 2) zvn)
   (zg (zay T.cl_Disk T.na_Disk_has_stopped (za 0) (zeD zfg (za 2) (za 1) (zaa _)))
   (zk (zH (za 2)))))))),?_⟩
  cases hl:d.left with
  | none =>
   simp_all only [h1,zlq,hl,lv,zq,zgu,zf9,ziX,zh5,ze1,zbX]
   have e:d.spend n={ d with cnt:=d.cnt+n,left:=none,st:=decide (n<n) }:=by unfold DM.spend;rw [hl];rfl
   have e2:dn d.left n=n:=by rw [hl];rfl
   rw [e,e2] at q
   exact q _ (D.obj rfl rfl) (zn.upd (by simp))
  | some l =>
   simp_all only [h1,zlq,hl,lv,zq,zgu,zf9,ziX,zh5,ze1,zbX]
   have e2:dn d.left n=if l<n then l else n:=by rw [hl];rfl
   have e:d.spend n={ d with cnt:=d.cnt+(if l<n then l else n),left:=some (l-if l<n then l else n),st:=decide ((if l<n then l else n)<n) }:=by unfold DM.spend;rw [e2,hl];rfl
   rw [e,e2] at q
   exact q _ (D.obj rfl rfl) (zn.upd (by simp))
theorem zk9:zu ["self","text","done"] ["self","text"] (ze zcY):=⟨rfl,rfl,rfl,f!"",rfl,f!"",f!""⟩
theorem zyC{f:Addr}{fd:FuncData}(F:Fun K "first_signs" "Disk.first_signs" zcY f fd)(T:Txt K mg A)(M_Disk_spend:GM P w K mg base true 1 A.Disk "spend" ["self","many"] (zfv A))(M_Disk_refuse_if_stopped:GMX P w K mg base true 1 A.Disk "refuse_if_stopped" ["self"] (zdw A)):zo P w K mg base (CXW P w) true 2 f fd ["self","text"] (zfO A):=by
 refine F.okW zk9 (λvs H Q E h=>?_) (λcdv Ar outer s H vs Q E hr h=>?_)
 ·obtain ⟨p,wl,sl,cells,m,d,t,rfl,_⟩:=h;rfl
 ·obtain ⟨p,wl,sl,cells,m,d,t,rfl,D,ht,q⟩:=h
  obtain ⟨dx,h1⟩:=D.ob
  have hu:_<cLine:=lt_of_succ_lt (zX hr)
  have Th:=zdE (cm:=true) (P:=P) (w:=w) (K:=K) (mg:=mg) (base:=base) (N:=["self","text","done"]) (qual:="Disk.first_signs") (scope:=ze zcY) (f:=f) (cd:=cdv) (A:=Ar) (outer:=outer) (s:=s) (H:=H) (E:=E)
  refine ⟨_,(W.h (zg (zF (i:=2) zk9.nd rfl (Or.inl rfl) (zaX (za 0) T.cl_Disk M_Disk_spend hr (zb (zM zaI rfl T.n_len PySem.boot_len (zb (za 1) zc)) zc)))
   (zg (z7 (zal (zbA hu) (za 2) zi (zaa _))
   (zk (zZ (zc9 (za 0) T.cl_Disk Th M_Disk_refuse_if_stopped hr)))
   zam)
   (zk (zH (zdn zfI (za 1) zdy (zdJ (za 2)))))))),?_⟩
  have ht':t.length<=sizeLine:=le_trans ht (by decide)
  simp_all only [h1,zkP,ht']
  refine ⟨p,wl,sl,cells,m,d,_,rfl,D,λH1 D1 k1=>?_⟩
  obtain ⟨q1,q2⟩:=q H1 D1 k1
  obtain ⟨dx1,g1⟩:=D1.ob
  simp_all only [g1,zco,ht']
  refine zaV (λh=>?_) (λh=>?_)
  ·have h0:=of_decide_eq_true h
   refine ⟨p,wl,sl,cells,m,_,rfl,D1,λhs=>?_,λhs=>?_⟩
   ·exact ⟨_,rfl,q1 ⟨h0,hs⟩⟩
   ·simp_all only [ht']
    exact q2 λz=>by rw [z.2] at hs;cases hs
  ·exact q2 λz=>h (decide_eq_true z.1)
end
abbrev zcy:Stmt:=zag (top 27) 7
abbrev zc7:Stmt:=zag (top 27) 8
abbrev zc3:Stmt:=zag (top 27) 9
section
variable {P:Program}{w:World}{K:Frag}{mg:Str->Option Value}{base:Heap}{A:zh}
theorem zE.setRow{H:Hp}{p wl sl c:Addr}{cells:List Addr}{m:Int}{d:DM}{k:Nat}{r:List Tx}(D:zE A H p wl sl cells m d)(hc:cells[k]?=some c):zE A (upd H c (.lst (r.map tv))) p wl sl cells m { d with rows:=d.rows.set k r }:=by
 have hm:=mem_of_getElem? hc
 have nd:=D.nd
 simp only [nodup_cons,mem_cons,not_or] at nd
 obtain ⟨⟨n1,n2,n3⟩,⟨n4,n5⟩,n6,n7⟩:=nd
 obtain ⟨dx,h⟩:=D.ob
 have e1:p≠c:=λz=>n3 (by rw [z];exact hm)
 have e2:sl≠c:=λz=>n6 (by rw [z];exact hm)
 exact ⟨⟨dx,by rw [zd e1];exact h⟩,D.rows.set (nodup_cons.mpr ⟨n5,n7⟩) hc,by rw [zd e2];exact D.sides,D.nd⟩
theorem zE.setSides{H:Hp}{p wl sl:Addr}{cells:List Addr}{m:Int}{d:DM}{r:List Tx}(D:zE A H p wl sl cells m d):zE A (upd H sl (.lst (r.map tv))) p wl sl cells m { d with sides:=r }:=by
 have nd:=D.nd
 simp only [nodup_cons,mem_cons,not_or] at nd
 obtain ⟨⟨n1,n2,n3⟩,⟨n4,n5⟩,n6,n7⟩:=nd
 obtain ⟨dx,h⟩:=D.ob
 refine ⟨⟨dx,by rw [zd n2];exact h⟩,D.rows.keep λb o e hb=>?_,zq,D.nd⟩
 have:b≠sl:=by
  rcases hb with rfl|hb
  ·exact n4
  ·exact λz=>n6 (by rw [<- z];exact hb)
 rw [zd this];exact e
def Out(A:zh)(r:Res)(Q:VK)(E:XK)(H:Hp):Prop:=match r with | .val v=>Q v H | .full=>E (.ref A.Full) none H | .stop=>E (.ref A.Stopped) none H
def small(d:DM):Prop:=∀k,(d.rows.getD k []).length<=1000
def zfC(A:zh):Sp:=λvs H Q E=>∃(p wl sl:Addr)(cells:List Addr)(m:Int)(d:DM)(k:Nat)(t:Str),vs=[.ref p,.int k,.str t]/\zE A H p wl sl cells m d/\k<d.rows.length/\t.length<=1000/\small d /\
 ∀H',zE A H' p wl sl cells m (d.write m k t).2->zn (p::wl::sl::cells) H H'->Out A (d.write m k t).1 Q E H'
def zhA(A:zh):Sp:=λvs H Q E=>∃(p wl sl:Addr)(cells:List Addr)(m:Int)(d:DM)(k:Nat)(t:Str),vs=[.ref p,.int k,.str t]/\zE A H p wl sl cells m d/\k<d.sides.length/\d.sides.length=2/\t.length<=1000 /\
 ∀H',zE A H' p wl sl cells m (d.put k t).2->zn (p::wl::sl::cells) H H'->Out A (d.put k t).1 Q E H'
def zfQ(A:zh):Sp:=λvs H Q E=>∃(p wl sl:Addr)(cells:List Addr)(m:Int)(d:DM)(k:Nat),vs=[.ref p,.int k]/\zE A H p wl sl cells m d/\k<d.rows.length/\small d/\(∀l,d.left=some l->0<=l) /\
 ∀H',zE A H' p wl sl cells m (d.empty k).2->zn (p::wl::sl::cells) H H'->Out A (d.empty k).1 Q E H'
theorem zjZ{d:DM}{n:Int}:(d.spend n).rows=d.rows:=rfl
theorem zxC{d:DM}{n:Int}:(d.spend n).sides=d.sides:=rfl
theorem zsz{r:List Tx}{t:Str}{n:Int}:r.map tv++[V.str (Txt.slice t none (some n))]=(r++[zc0 t n]).map tv:=by rw [map_append];rfl
theorem zha:zu ["self","stretch","text","texts","place"] ["self","stretch","text"] (ze zcy):=⟨rfl,rfl,rfl,f!"",rfl,f!"",f!""⟩
theorem zny{f:Addr}{fd:FuncData}(F:Fun K "write" "Disk.write" zcy f fd)(T:Txt K mg A)(M_Disk_first_signs:GMX P w K mg base true 2 A.Disk "first_signs" ["self","text"] (zfO A))(M_Disk_refuse_if_stopped:GMX P w K mg base true 1 A.Disk "refuse_if_stopped" ["self"] (zdw A)):zo P w K mg base (CXW P w) true 3 f fd ["self","stretch","text"] (zfC A):=by
 refine F.okW zha (λvs H Q E h=>?_) (λcdv Ar outer s H vs Q E hr h=>?_)
 ·obtain ⟨p,wl,sl,cells,m,d,k,t,rfl,_⟩:=h;rfl
 ·obtain ⟨p,wl,sl,cells,m,d,k,t,rfl,D,hk,ht,hsm,q⟩:=h
  obtain ⟨dx,h1⟩:=D.ob
  have hu:_<cLine:=lt_of_succ_lt (zX hr)
  obtain ⟨c,hc,ha,hH⟩:=D.rows.cell hk
  have Th:=zdE (cm:=true) (P:=P) (w:=w) (K:=K) (mg:=mg) (base:=base) (N:=["self","stretch","text","texts","place"]) (qual:="Disk.write") (scope:=ze zcy) (f:=f) (cd:=cdv) (A:=Ar) (outer:=outer) (s:=s) (H:=H) (E:=E)
  refine ⟨_,(W.h (zg (zZ (zc9 (za 0) T.cl_Disk Th M_Disk_refuse_if_stopped hr))
   (zg (zF (i:=3) zha.nd rfl (Or.inl rfl) (zL zQ (zY T.cl_Disk T.na_Disk_written (za 0)) (za 1) (λ_ _=>rfl)))
   (zg (zF (i:=4) zha.nd rfl (Or.inl rfl) (zM zaI rfl T.n_len PySem.boot_len (zb (za 3) zc)))
   (zg (z7 (zal (zbA hu) (za 4) (zY T.cl_Disk T.na_Disk_width (za 0)) (zaa _))
   (zk (ze7 rfl Th T.ek_Full rfl T.mg_Full (zb zS zc)))
   zam)
   (zg (zZ (zeL (za 3) (zdb (za 0) T.cl_Disk Th M_Disk_first_signs hr (zb (za 2) zc))))
   (zg (zZ (zc9 (za 0) T.cl_Disk Th M_Disk_refuse_if_stopped hr))
   (zk (zH (za 4)))))))))),?_⟩
  simp_all only [h1,zco]
  unfold DM.write at q
  refine ⟨p,wl,sl,cells,m,d,rfl,D,λhs=>?_,λhs=>?_⟩
  ·rw [if_pos hs] at q
   exact ⟨_,rfl,q H D zn.refl⟩
  rw [if_neg (by rw [hs];exact Bool.false_ne_true)] at q
  simp_all only [h1,D.rows.w,zeQ,zim,ha,hH,length_map]
  refine zaV (λh=>?_) (λh=>?_)
  ·rw [if_pos (of_decide_eq_true h)] at q
   exact ⟨by decide,q H D zn.refl⟩
  rw [if_neg (λz=>h (decide_eq_true z))] at q
  simp_all only [h1,hH,zjw]
  refine ⟨p,wl,sl,cells,m,d,t,rfl,D,ht,λH1 D1 k1=>⟨λhz=>?_,λhz=>?_⟩⟩
  ·rw [if_pos hz] at q
   exact ⟨_,rfl,q H1 D1 (k1.mono (by simp))⟩
  rw [if_neg hz] at q
  obtain ⟨dx1,g1⟩:=D1.ob
  have gc:=D1.rows.at_ k c hc
  rw [zjZ] at gc
  have D2:=D1.setRow (r:=d.rows.getD k []++[zc0 t (dn d.left t.length)]) hc
  obtain ⟨dx2,g2⟩:=D2.ob
  simp_all only [gc,zsz,g2,zco]
  refine ⟨by rw [length_map];exact zhT (hsm k),p,wl,sl,cells,m,_,rfl,D2,λhs2=>⟨_,rfl,?_⟩,λhs2=>?_⟩
  ·have hs2':(d.spend t.length).st=true:=hs2
   have q2:=q _ D2 ((k1.mono (by simp)).trans (zn.upd (by simp [mem_of_getElem? hc])))
   rw [if_pos hs2'] at q2
   exact q2
  ·have hs2':(d.spend t.length).st=false:=hs2
   simp_all only []
   have q2:=q _ D2 ((k1.mono (by simp)).trans (zn.upd (by simp [mem_of_getElem? hc])))
   rw [if_neg (by rw [hs2'];exact Bool.false_ne_true)] at q2
   exact q2
theorem zyd:zu ["self","k","text"] ["self","k","text"] (ze zc7):=⟨rfl,rfl,rfl,f!"",rfl,f!"",f!""⟩
theorem zuB{f:Addr}{fd:FuncData}(F:Fun K "put_side" "Disk.put_side" zc7 f fd)(T:Txt K mg A)(M_Disk_first_signs:GMX P w K mg base true 2 A.Disk "first_signs" ["self","text"] (zfO A))(M_Disk_refuse_if_stopped:GMX P w K mg base true 1 A.Disk "refuse_if_stopped" ["self"] (zdw A)):zo P w K mg base (CXW P w) true 3 f fd ["self","k","text"] (zhA A):=by
 refine F.okW zyd (λvs H Q E h=>?_) (λcdv Ar outer s H vs Q E hr h=>?_)
 ·obtain ⟨p,wl,sl,cells,m,d,k,t,rfl,_⟩:=h;rfl
 ·obtain ⟨p,wl,sl,cells,m,d,k,t,rfl,D,hk,hk2,ht,q⟩:=h
  obtain ⟨dx,h1⟩:=D.ob
  have hu:_<cLine:=lt_of_succ_lt (zX hr)
  have Th:=zdE (cm:=true) (P:=P) (w:=w) (K:=K) (mg:=mg) (base:=base) (N:=["self","k","text"]) (qual:="Disk.put_side") (scope:=ze zc7) (f:=f) (cd:=cdv) (A:=Ar) (outer:=outer) (s:=s) (H:=H) (E:=E)
  refine ⟨_,(W.h (zg (zZ (zc9 (za 0) T.cl_Disk Th M_Disk_refuse_if_stopped hr))
   (zg (zbz (zdb (za 0) T.cl_Disk Th M_Disk_first_signs hr (zb (za 2) zc)) (zb4 (zY T.cl_Disk T.na_Disk_at_sides (za 0)) (za 1) zdC))
   (zk (zZ (zc9 (za 0) T.cl_Disk Th M_Disk_refuse_if_stopped hr)))))),?_⟩
  simp_all only [h1,zco]
  unfold DM.put at q
  refine ⟨p,wl,sl,cells,m,d,rfl,D,λhs=>?_,λhs=>?_⟩
  ·rw [if_pos hs] at q
   exact ⟨_,rfl,q H D zn.refl⟩
  rw [if_neg (by rw [hs];exact Bool.false_ne_true)] at q
  simp_all only [h1,zjw]
  refine ⟨p,wl,sl,cells,m,d,t,rfl,D,ht,λH1 D1 k1=>⟨λhz=>?_,λhz=>?_⟩⟩
  ·rw [if_pos hz] at q
   exact ⟨_,rfl,q H1 D1 (k1.mono (by simp))⟩
  rw [if_neg hz] at q
  obtain ⟨dx1,g1⟩:=D1.ob
  have gs:=D1.sides
  rw [zxC] at gs
  have D2:=D1.setSides (r:=d.sides.set k (zc0 t (dn d.left t.length)))
  obtain ⟨dx2,g2⟩:=D2.ob
  have ix:ixN (d.sides.map tv).length (k:Int)=some k:=by
   unfold ixN
   rw [if_pos (by omega),if_pos (by rw [length_map];omega)]
   simp
  have sm:(d.sides.map tv).set k (V.str (Txt.slice t none (some (dn d.left t.length))))=(d.sides.set k (zc0 t (dn d.left t.length))).map tv:=by rw [map_set];rfl
  simp_all only [g1,gs,zkW,ix,sm,g2,zco]
  refine ⟨p,wl,sl,cells,m,_,rfl,D2,λhs2=>⟨_,rfl,?_⟩,λhs2=>?_⟩
  ·have hs2':(d.spend t.length).st=true:=hs2
   have q2:=q _ D2 ((k1.mono (by simp)).trans (zn.upd (by simp)))
   rw [if_pos hs2'] at q2
   exact q2
  ·have hs2':(d.spend t.length).st=false:=hs2
   simp_all only []
   have q2:=q _ D2 ((k1.mono (by simp)).trans (zn.upd (by simp)))
   rw [if_neg (by rw [hs2'];exact Bool.false_ne_true)] at q2
   exact q2
end
abbrev zd7:Stmt:=top 11
abbrev zdo:Stmt:=top 12
abbrev zb8:Stmt:=zag (top 27) 0
abbrev zcn:Stmt:=zag (top 27) 11
inductive Thg(H:Hp):V->Prop
 | non:Thg H .non
 | bl (b:Bool):Thg H (.bl b)
 | int (i:Int):Thg H (.int i)
 | str (x:Str):Thg H (.str x)
 | lst {a:Addr}{xs:List V}:H a=some (.lst xs)->Thg H (.ref a)
 | tup {a:Addr}{xs:List V}:H a=some (.tup xs)->Thg H (.ref a)
 | dic {a:Addr}{kvs:List (Key×V)}:H a=some (.dK kvs)->Thg H (.ref a)
def zvG:V->Bool | .int _=>true|_=>false
def zdP(v:V)(a b:Int):Bool:=match v with | .int i=>decide (a<=i)&&decide (i<=b)|_=>false
def zii:Sp:=λvs H Q _=>∃v,vs=[v]/\Thg H v/\Q (.bl (zvG v)) H
def zeo:Sp:=λvs H Q _=>∃v a b,vs=[v,.int a,.int b]/\Thg H v/\Q (.bl (zdP v a b)) H
section
variable {P:Program}{w:World}{K:Frag}{mg:Str->Option Value}{base:Heap}{A:zh}
theorem zqs{X:Cx}{H:Hp}{v:V}{Q:VK}(t:Thg H v)(q:Q (.bl (match v with | .int _=>true | .bl _=>true|_=>false)) H):zgU X.K [v,.ty "int"] H Q:=by
 cases t with
 | non=>exact ⟨_,_,_,_,_,rfl,rfl,.of .non,rfl,q⟩
 | bl b=>exact ⟨_,_,_,_,_,rfl,rfl,.of (.bl b),rfl,q⟩
 | int i=>exact ⟨_,_,_,_,_,rfl,rfl,.of (.int i),rfl,q⟩
 | str x=>exact ⟨_,_,_,_,_,rfl,rfl,.of (.str x),rfl,q⟩
 | lst h=>exact ⟨_,_,_,_,_,rfl,rfl,.of (.lst h),rfl,q⟩
 | tup h=>exact ⟨_,_,_,_,_,rfl,rfl,.of (.tup h),rfl,q⟩
 | dic h=>exact ⟨_,_,_,_,_,rfl,rfl,.of (.dK h),rfl,q⟩
theorem zl3{X:Cx}{H:Hp}{v:V}{Q:VK}(t:Thg H v)(q:Q (.bl (match v with | .bl _=>true|_=>false)) H):zgU X.K [v,.ty "bool"] H Q:=by
 cases t with
 | non=>exact ⟨_,_,_,_,_,rfl,rfl,.of .non,rfl,q⟩
 | bl b=>exact ⟨_,_,_,_,_,rfl,rfl,.of (.bl b),rfl,q⟩
 | int i=>exact ⟨_,_,_,_,_,rfl,rfl,.of (.int i),rfl,q⟩
 | str x=>exact ⟨_,_,_,_,_,rfl,rfl,.of (.str x),rfl,q⟩
 | lst h=>exact ⟨_,_,_,_,_,rfl,rfl,.of (.lst h),rfl,q⟩
 | tup h=>exact ⟨_,_,_,_,_,rfl,rfl,.of (.tup h),rfl,q⟩
 | dic h=>exact ⟨_,_,_,_,_,rfl,rfl,.of (.dK h),rfl,q⟩
theorem zxe:zu ["value"] ["value"] (ze zd7):=⟨rfl,rfl,rfl,f!"",rfl,f!"",f!""⟩
theorem zyN{f:Addr}{fd:FuncData}{cm:Bool}(F:Fun K "is_whole" "is_whole" zd7 f fd)(T:Txt K mg A):zo P w K mg base CX0 cm 1 f fd ["value"] zii:=by
 refine F.ok zxe (λvs H Q E h=>?_) (λcdv Ar outer s H vs Q E hr h=>?_)
 ·obtain ⟨v,rfl,_⟩:=h;rfl
 ·obtain ⟨v,rfl,th,q⟩:=h
  refine ⟨_,(W.h (zk (zH (zj6 (zM zhL rfl T.n_isinstance boot_isinstance (zb (za 0) (zb (zgt rfl T.n_int boot_int (v:=.ty "int") rfl) zc))) (zjs (zpL (zM zhL rfl T.n_isinstance boot_isinstance (zb (za 0) (zb (zgt rfl T.n_bool boot_bool (v:=.ty "bool") rfl) zc))))))))),?_⟩
  simp_all only []
  refine zqs th ?_
  cases th with
  | int i=>exact ⟨true,rfl,zfU (zl3 (.int i) ⟨false,rfl,q⟩)⟩
  | bl i=>exact ⟨true,rfl,zfU (zl3 (.bl i) ⟨true,rfl,q⟩)⟩
  | _=>exact ⟨false,rfl,zeY q⟩
theorem zuG:zu ["value","least","most"] ["value","least","most"] (ze zdo):=⟨rfl,rfl,rfl,f!"",rfl,f!"",f!""⟩
theorem zq0{f:Addr}{fd:FuncData}{cm:Bool}(F:Fun K "is_within" "is_within" zdo f fd)(T:Txt K mg A)(Go:GF P w K mg base cm 1 "is_whole" ["value"] zii):zo P w K mg base CX0 cm 2 f fd ["value","least","most"] zeo:=by
 refine F.ok zuG (λvs H Q E h=>?_) (λcdv Ar outer s H vs Q E hr h=>?_)
 ·obtain ⟨v,a,b,rfl,_⟩:=h;rfl
 ·obtain ⟨v,a,b,rfl,th,q⟩:=h
  refine ⟨_,(W.h (zk (zH (zj6 (zr Go hr rfl (zb (za 0) zc)) (zjs (zuW zms zms (za 1) (za 0) (za 2))))))),?_⟩
  simp_all only []
  refine ⟨_,rfl,th,?_⟩
  cases th with
  | int i =>
   refine ⟨true,rfl,zfU ?_⟩
   simp_all only []
   refine zaV (λh=>?_) (λh=>?_)
   ·have e:zdP (.int i) a b=decide (i<=b):=by show (decide (a<=i)&&_)=_;rw [h];rfl
    rw [<- e];exact q
   ·have e:zdP (.int i) a b=false:=by show (decide (a<=i)&&_)=_;rw [eq_false_iff.mpr h];rfl
    rw [<- e];exact q
  | _=>exact ⟨false,rfl,zeY q⟩
def DM.new(n:Nat):DM:=⟨replicate n [],[none,none],0,none,false⟩
def zfw(A:zh):Sp:=λvs H Q _=>∃(p dx:Addr)(n m:Int),vs=[.ref p,.int n,.int m]/\H p=some (.ins A.Disk dx [])/\3<=n/\n<=16/\2<=m/\m<=32 /\
 ∀(wl sl:Addr)(cells:List Addr)(H':Hp),zE A H' p wl sl cells m (DM.new n.toNat)->(∀b o,H b=some o->b≠p->H' b=some o)->(∀x∈wl::sl::cells,H x=none)->Q .non H'
structure zlF(H:Hp)(i:Nat)(τ:L2.St)(ys:List V)(H':Hp):Prop where
 τ:∃t,τ=[t]
 ex:∃cells:List Addr,ys=cells.map V.ref/\cells.length=i/\(∀c∈cells,H' c=some (.lst [])/\H c=none)/\cells.Nodup
 same:zl H H'
 le:i<=16
theorem zvz:zu ["self","stretches","places"] ["self","stretches","places"] (ze zb8):=⟨rfl,rfl,rfl,f!"",rfl,f!"",f!""⟩
theorem zyf:zaF { kind:=.function,names:=[(Str.ofString ".0",.local),(Str.ofString "number",.local)],isGenerator:=false,isCoroutine:=false,more:=[] } (ze zb8).names ["self","stretches","places"] ["number"] [none]=true:=by decide +kernel
theorem zrw:(["number"]:List Str).Nodup:=by decide +kernel
theorem zrx{f:Addr}{fd:FuncData}(F:Fun K "__init__" "Disk.__init__" zb8 f fd)(T:Txt K mg A)(Gd:GF P w K mg base true 2 "is_within" ["value","least","most"] zeo):zo P w K mg base (CXW P w) true 3 f fd ["self","stretches","places"] (zfw A):=by
 refine F.okW zvz (λvs H Q E h=>?_) (λcdv Ar outer s H vs Q E hr h=>?_)
 ·obtain ⟨p,dx,n,m,rfl,_⟩:=h;rfl
 ·obtain ⟨p,dx,n,m,rfl,hp,n0,n1,m0,m1,q⟩:=h
  have Th:=zdE (cm:=true) (P:=P) (w:=w) (K:=K) (mg:=mg) (base:=base) (N:=["self","stretches","places"]) (qual:="Disk.__init__") (scope:=ze zb8) (f:=f) (cd:=cdv) (A:=Ar) (outer:=outer) (s:=s) (H:=H) (E:=E)
  have h1:zdP (.int n) 3 16=true:=by show (decide _&&decide _)=true;rw [decide_eq_true n0,decide_eq_true n1];rfl
  have h2:zdP (.int m) 2 32=true:=by show (decide _&&decide _)=true;rw [decide_eq_true m0,decide_eq_true m1];rfl
  refine ⟨_,(W.h (zg (z7 (zbV (zaU (zr Gd hr rfl (zb (za 1) (zb (zey rfl T.c_LEAST_STRETCHES) (zb (zey rfl T.c_MOST_STRETCHES) zc))))))
   (zk (ze7 rfl zcj T.ek_NoDisk rfl T.mg_NoDisk (zb zS zc)))
   zam)
   (zg (z7 (zbV (zaU (zr Gd hr rfl (zb (za 2) (zb (zey rfl T.c_LEAST_PLACES) (zb (zey rfl T.c_MOST_PLACES) zc))))))
   (zk (ze7 rfl zcj T.ek_NoDisk rfl T.mg_NoDisk (zb zS zc)))
   zam)
   (zg (zay T.cl_Disk T.na_Disk_width (za 0) (za 2))
   (zg (zay T.cl_Disk T.na_Disk_written (za 0) (zbS (λ_=>rfl) (zah.of zyf) (zb0 rfl T.n_range (zb (za 1) zc)) (λ_ _ _ _ _=>(zI (i:=0) zrw rfl (Or.inl rfl))) (λ_ _ _ _ _=>zbI) (λ_ _ _ _ _=>(zat zc))))
   (zg (zay T.cl_Disk T.na_Disk_at_sides (za 0) (zat (zb zbt (zb zbt zc))))
   (zg (zay T.cl_Disk T.na_Disk_counted (za 0) zi)
   (zg (zay T.cl_Disk T.na_Disk_left (za 0) zbt)
   (zk (zay T.cl_Disk T.na_Disk_has_stopped (za 0) zbc)))))))))),?_⟩
  simp_all only []
  refine ⟨.int n,3,16,rfl,.int n,?_⟩
  simp_all only [h1]
  refine ⟨.int m,2,32,rfl,.int m,?_⟩
  simp_all only [h2,hp,zq,zB,zaN]
  refine ⟨by decide,by omega,by omega,zV.rng (zlF (upd H p (.ins A.Disk dx [("width",.int m)]))) (λi τ ys H' I=>?_) ⟨⟨_,rfl⟩,⟨[],rfl,rfl,by simp,nodup_nil⟩,zl.refl _,by decide⟩ ?_ ?_⟩
  ·obtain ⟨cells,e,l,_⟩:=I.ex
   rw [e,length_map,l]
   exact zhT (le_trans I.le (by decide))
  ·intro N i τ ys H' hi I hN
   obtain ⟨t,rfl⟩:=I.τ
   obtain ⟨cells,e,l,hc,hcn⟩:=I.ex
   simp_all only []
   refine ⟨by decide,λc H2 n2 _=>hN _ _ _ ⟨⟨_,rfl⟩,⟨cells++[c],by rw [e,map_append];rfl,by simp [l],λb hb=>?_,?_⟩,I.same.trans n2.same,by omega⟩⟩
   ·rcases mem_append.mp hb with hb|hb
    ·exact ⟨n2.same _ _ (hc b hb).1,(hc b hb).2⟩
    ·rw [mem_singleton] at hb;subst hb;exact ⟨n2.at_,I.same.free n2.no⟩
   ·refine nodup_append.mpr ⟨hcn,by simp,λa ha b hb=>?_⟩
    rw [mem_singleton] at hb
    subst hb
    exact zA (hc a ha).1 n2.no
  ·intro τ ys H1 I D H2 nD
   obtain ⟨cells,e,l,hc,hcn⟩:=I.ex
   have e1:H2 p=some (.ins A.Disk dx [("width",.int m)]):=nD.same _ _ (I.same _ _ zq)
   have w1:zB "written" (.ref D) [(("width":Str),V.int m)]=[(("width":Str),V.int m),("written",.ref D)]:=by simp only [zB,zi3,if_false]
   refine ⟨dx,_,e1,by show 1<1000;decide,by decide,λs1 H3 n3 _=>?_⟩
   rw [w1] at n3
   have e3:H3 p=some (.ins A.Disk dx [("width",.int m),("written",.ref D)]):=n3.same _ _ zq
   have w2:zB "at_sides" (.ref s1) [(("width":Str),V.int m),("written",.ref D)]=[(("width":Str),V.int m),("written",.ref D),("at_sides",.ref s1)]:=by simp only [zB,zln,zjE,if_false]
   have w3:zB "counted" (.int 0) [(("width":Str),V.int m),("written",.ref D),("at_sides",.ref s1)]=[(("width":Str),V.int m),("written",.ref D),("at_sides",.ref s1),("counted",.int 0)]:=by simp only [zB,zly,zle,zjv,if_false]
   have w4:zB "left" .non [(("width":Str),V.int m),("written",.ref D),("at_sides",.ref s1),("counted",.int 0)]=[(("width":Str),V.int m),("written",.ref D),("at_sides",.ref s1),("counted",.int 0),("left",.non)]:=by simp only [zB,zjz,zjQ,zlb,zkR,if_false]
   have w5:zB "has_stopped" (.bl false) [(("width":Str),V.int m),("written",.ref D),("at_sides",.ref s1),("counted",.int 0),("left",.non)]=zp m D s1 (DM.new n.toNat):=by simp only [zB,zlI,zlO,zjS,zjW,zjj,if_false,zp,DM.new,lv]
   refine ⟨dx,_,e3,?_⟩
   rw [w2,w3,w4,w5,zbX,zbX,zbX]
   refine ⟨by show 2<1000;decide,by show 3<1000;decide,by show 4<1000;decide,by show 5<1000;decide,?_⟩
   have pD:p≠D:=zA (I.same _ _ zq) nD.no
   have ps:p≠s1:=zA zq n3.no
   have H3of:∀b o,b≠p->H2 b=some o->H3 b=some o:=λb o hb h=>n3.same _ _ (by rw [zd hb];exact h)
   have hDat:=nD.at_
   rw [e] at hDat
   have cp:∀c∈cells,c≠p:=λc hcm z=>by have:=(hc c hcm).2;rw [z,zq] at this;cases this
   have cD:∀c∈cells,c≠D:=λc hcm=>zA (hc c hcm).1 nD.no
   have cs:∀c∈cells,c≠s1:=λc hcm=>zA (show (upd H2 p (.ins A.Disk dx [("width",.int m),("written",.ref D)])) c=some _ by rw [zd (cp c hcm)];exact nD.same _ _ (hc c hcm).1) n3.no
   have Ds:D≠s1:=zA (show (upd H2 p (.ins A.Disk dx [("width",.int m),("written",.ref D)])) D=some _ by rw [zd (Ne.symm pD)];exact hDat) n3.no
   have Hn:∀b,b≠p->(upd H p (.ins A.Disk dx [("width",V.int m)])) b=none->H b=none:=λb hb h=>by rw [zd hb] at h;exact h
   refine q D s1 cells _ ⟨⟨dx,zq⟩,⟨?_,?_,λi c hi=>?_⟩,?_,?_⟩ (λb o hb hne=>?_) (λx hx=>?_)
   ·rw [zd (Ne.symm pD)]
    exact H3of D _ (Ne.symm pD) hDat
   ·simp [DM.new,l]
   ·have hcm:=mem_of_getElem? hi
    rw [zd (cp c hcm),H3of c _ (cp c hcm) (nD.same _ _ (hc c hcm).1)]
    have:((DM.new n.toNat).rows.getD i [])=[]:=by
     unfold DM.new
     rw [getD_eq_getElem?_getD,List.getElem?_replicate]
     split<;>rfl
    rw [this];rfl
   ·rw [zd (Ne.symm ps)]
    exact n3.at_
   ·simp only [nodup_cons,mem_cons,not_or]
    exact ⟨⟨pD,ps,λz=>cp p z rfl⟩,⟨Ds,λz=>cD D z rfl⟩,λz=>cs s1 z rfl,hcn⟩
   ·rw [zd hne]
    exact H3of b _ hne (nD.same _ _ (I.same _ _ (by rw [zd hne];exact hb)))
   ·simp only [mem_cons] at hx
    rcases hx with rfl|rfl|hx
    ·exact Hn _ (Ne.symm pD) (I.same.free nD.no)
    ·have z:=n3.no
     rw [zd (Ne.symm ps)] at z
     exact Hn _ (Ne.symm ps) (I.same.free (nD.same.free z))
    ·exact Hn _ (cp x hx) (hc x hx).2
theorem zoI{H:Hp}{a:Addr}{o:HO}(h:H a=some o):upd H a o=H:=by
 funext b
 by_cases hb:b=a
 ·rw [hb,zq,h]
 ·rw [zd hb]
def zcq(i:Nat)(r:List Tx):List Tx:=replicate i none++r.drop i
theorem zpC{i:Nat}{r:List Tx}(h:i<=r.length):(zcq i r).length=r.length:=by simp [zcq];omega
theorem zy0{i:Nat}{r:List Tx}(h:i<r.length):((zcq i r).map tv).set i .non=(zcq (i+1) r).map tv:=by
 have e:V.non=tv none:=rfl
 rw [e,<- map_set]
 congr 1
 unfold zcq
 rw [List.set_append_right _ _ (by simp)]
 have h2:r.drop i=r[i]::r.drop (i+1):=List.drop_eq_getElem_cons h
 rw [h2,length_replicate,Nat.sub_self,List.set_cons_zero,List.replicate_succ',List.append_assoc]
 rfl
structure zpY(H1:Hp)(p c:Addr)(k:Nat)(n:Int)(r:List Tx)(i:Nat)(σ:L2.St)(H':Hp):Prop where
 ex:∃x,σ=[some (V.ref p),some (.int k),some (.ref c),some (.int n),x]
 at_:H'=upd H1 c (.lst ((zcq i r).map tv))
 le:i<=r.length
theorem zfm:zu ["self","stretch","texts","done","place"] ["self","stretch"] (ze zc3):=⟨rfl,rfl,rfl,f!"",rfl,f!"",f!""⟩
theorem zqr{f:Addr}{fd:FuncData}(F:Fun K "empty" "Disk.empty" zc3 f fd)(T:Txt K mg A)(M_Disk_spend:GM P w K mg base true 1 A.Disk "spend" ["self","many"] (zfv A))(M_Disk_refuse_if_stopped:GMX P w K mg base true 1 A.Disk "refuse_if_stopped" ["self"] (zdw A)):zo P w K mg base (CXW P w) true 2 f fd ["self","stretch"] (zfQ A):=by
 refine F.okW zfm (λvs H Q E h=>?_) (λcdv Ar outer s H vs Q E hr h=>?_)
 ·obtain ⟨p,wl,sl,cells,m,d,k,rfl,_⟩:=h;rfl
 ·obtain ⟨p,wl,sl,cells,m,d,k,rfl,D,hk,hsm,hl,q⟩:=h
  obtain ⟨dx,h1⟩:=D.ob
  obtain ⟨c,hc,ha,hH⟩:=D.rows.cell hk
  have Th:=zdE (cm:=true) (P:=P) (w:=w) (K:=K) (mg:=mg) (base:=base) (N:=["self","stretch","texts","done","place"]) (qual:="Disk.empty") (scope:=ze zc3) (f:=f) (cd:=cdv) (A:=Ar) (outer:=outer) (s:=s) (H:=H) (E:=E)
  refine ⟨_,(W.h (zg (zZ (zc9 (za 0) T.cl_Disk Th M_Disk_refuse_if_stopped hr))
   (zg (zF (i:=2) zfm.nd rfl (Or.inl rfl) (zL zQ (zY T.cl_Disk T.na_Disk_written (za 0)) (za 1) (λ_ _=>rfl)))
   (zg (zF (i:=3) zfm.nd rfl (Or.inl rfl) (zaX (za 0) T.cl_Disk M_Disk_spend hr (zb (zM zaI rfl T.n_len PySem.boot_len (zb (za 2) zc)) zc)))
   (zg (z7 (zaU (zY T.cl_Disk T.na_Disk_has_stopped (za 0)))
   (zk (zyH (zbd PassesOwn.never (λ_=>rfl) (zb0 rfl T.n_range (zb (za 3) zc)) (zI (i:=4) zfm.nd rfl (Or.inl rfl))
   (zk (zbz zbt (zb4 (za 2) (za 4) zdC))))))
   (zk (zZ (zl0 (za 2)))))
   (zk (zZ (zc9 (za 0) T.cl_Disk Th M_Disk_refuse_if_stopped hr)))))))),?_⟩
  simp_all only [h1,zco]
  unfold DM.empty at q
  refine ⟨p,wl,sl,cells,m,d,rfl,D,λhs=>?_,λhs=>?_⟩
  ·rw [if_pos hs] at q
   exact ⟨_,rfl,q H D zn.refl⟩
  rw [if_neg (by rw [hs];exact Bool.false_ne_true)] at q
  simp_all only [h1,D.rows.w,zeQ,ha,hH,length_map,zkP]
  generalize hr0:d.rows.getD k []=r at q hH ⊢
  have hrl:r.length<=1000:=by rw [<- hr0];exact hsm k
  refine ⟨p,wl,sl,cells,m,d,_,rfl,D,λH1 D1 k1=>?_⟩
  obtain ⟨dx1,g1⟩:=D1.ob
  have gc:=D1.rows.at_ k c hc
  rw [zjZ,hr0] at gc
  have hn0:0<=dn d.left r.length:=by
   unfold dn
   split
   ·omega
   ·rename_i l e
    have:=hl l e
    split<;>omega
  have hn1:dn d.left r.length<=r.length:=by
   unfold dn
   split
   ·omega
   ·split<;>omega
  have kF:∀o,zn (p::wl::sl::cells) H (upd H1 c o):=λo=>(k1.mono (by simp)).trans (zn.upd (by simp [mem_of_getElem? hc]))
  simp_all only [g1,zlG]
  refine zaV (λhst=>?_) (λhst=>?_)
  ·rw [if_pos hst] at q
   refine ⟨by omega,by omega,zad.rng (zpY H1 p c k (dn d.left r.length) r) ⟨⟨_,rfl⟩,(zoI gc).symm,zero_le _⟩ ?_ ?_⟩
   ·rintro i σ H' hi ⟨⟨x,rfl⟩,rfl,hle⟩
    have ix:ixN ((zcq i r).map tv).length (0+(i:Int))=some i:=by
     unfold ixN
     rw [if_pos (by omega),if_pos (by rw [length_map,zpC hle];omega)]
     simp
    simp_all only [zq,ix,zbX,zy0 (show i<r.length by omega)]
    exact ⟨⟨_,rfl⟩,rfl,by omega⟩
   ·rintro σ H' ⟨⟨x,rfl⟩,rfl,hle⟩
    have D2:=D1.setRow (r:=zcq (dn d.left r.length).toNat r) hc
    obtain ⟨dx2,g2⟩:=D2.ob
    simp_all only [g2,zco]
    refine ⟨p,wl,sl,cells,m,_,rfl,D2,λhs2=>⟨_,rfl,q _ D2 (kF _)⟩,λhs2=>?_⟩
    have hs2':(d.spend r.length).st=false:=hs2
    rw [hs2'] at hst;cases hst
  ·rw [if_neg hst] at q
   have D2:=D1.setRow (r:=[]) hc
   obtain ⟨dx2,g2⟩:=D2.ob
   have g2':upd H1 c (.lst []) p=some (.ins A.Disk dx2 (zp m wl sl { d.spend r.length with rows:=(d.spend r.length).rows.set k [] })):=g2
   simp_all only [gc,g2',zco]
   refine ⟨p,wl,sl,cells,m,_,rfl,D2,λhs2=>absurd hs2 hst,λhs2=>?_⟩
   simp_all only []
   exact q _ D2 (kF _)
def DM.copy(d:DM):DM:={ d with left:=none,st:=false }
def ziD(A:zh):Sp:=λvs H Q _=>∃(p wl sl:Addr)(cells:List Addr)(m:Int)(d:DM),vs=[.ref p]/\zE A H p wl sl cells m d/\3<=d.rows.length/\d.rows.length<=16/\2<=m/\m<=32 /\
 ∀(p' wl' sl':Addr)(cells':List Addr)(H':Hp),zE A H' p' wl' sl' cells' m d.copy->zl H H'->(∀x∈p'::wl'::sl'::cells',H x=none)->Q (.ref p') H'
end
def rdT:Tx->Option (List V)|none=>none|some z=>zbo z
structure zeO(d:DM):Prop where
 ok:∀r∈d.rows,r.length<=32/\∀t∈r,∀z,t=some z->asc z=true/\z.length<=1000
 len:d.rows.length<=16
abbrev Tri:=List V×Nat×Nat
def zfA:List V->Int|_::.int k::_=>k|_=>0
def one(o:Option (List V))(k j:Nat):List Tri:=match o with|some row=>[(row,k,j)]|none=>[]
theorem zxN(o:Option (List V))(k j:Nat):(one o k j).length<=1:=by cases o<;>simp [one]
def rIn(l:List Tx)(k:Nat):Nat->List Tri
 | 0=>[]
 | j+1=>rIn l k j++one (rdT (l.getD j none)) k j
def wU(rows:List (List Tx)):Nat->List Tri
 | 0=>[]
 | i+1=>wU rows i++rIn (rows.getD i []) i (rows.getD i []).length
def zdF(H:Hp)(a:Addr)(t:Tri):Prop:=∃r,H a=some (.tup [.ref r,.int t.2.1,.int t.2.2])/\H r=some (.tup t.1)
def za7(H:Hp)(as:List Addr)(ts:List Tri):Prop:=Paired (zdF H) as ts
def zD(H H':Hp):Prop:=∀a o,(∀ps,o≠.tbl ps)->H a=some o->H' a=some o
theorem zD.of{H H':Hp}(s:zl H H'):zD H H':=λa o _ e=>s a o e
theorem zD.refl{H:Hp}:zD H H:=λ_ _ _ e=>e
theorem zD.trans{H H1 H2:Hp}(x:zD H H1)(y:zD H1 H2):zD H H2:=λa o n e=>y a o n (x a o n e)
theorem zD.lams{H H':Hp}{P:Addr}{ps:Array Value}(x:zen H H' P)(h:H P=some (.tbl ps)):zD H H':=λa o n e=>x a o (λz=>by subst z;rw [h] at e;cases e;exact n _ rfl) e
theorem zD.lam{H H':Hp}{P:Addr}{pos:Pos}{q:Str}(x:zen H H' P)(h:zbh pos q H P):zD H H':=by
 rcases h with h|⟨_,_,_,_,h,_⟩
 ·exact zD.lams x h
 ·exact zD.lams x h
theorem zD.list{H H':Hp}(s:zD H H'){a:Addr}{xs:List V}(h:H a=some (.lst xs)):H' a=some (.lst xs):=s _ _ (λ_=>nofun) h
theorem zD.tup{H H':Hp}(s:zD H H'){a:Addr}{xs:List V}(h:H a=some (.tup xs)):H' a=some (.tup xs):=s _ _ (λ_=>nofun) h
theorem zE.sameT{A:zh}{H H':Hp}{p wl sl:Addr}{cells:List Addr}{m:Int}{d:DM}(D:zE A H p wl sl cells m d)(s:zD H H'):zE A H' p wl sl cells m d:=by
 obtain ⟨dx,e⟩:=D.ob
 exact ⟨⟨dx,s _ _ (λ_=>nofun) e⟩,⟨s.list D.rows.w,D.rows.len,λi c h=>s.list (D.rows.at_ i c h)⟩,s.list D.sides,D.nd⟩
theorem zdF.sameT{H H':Hp}{a:Addr}{t:Tri}(h:zdF H a t)(s:zD H H'):zdF H' a t:=let ⟨r,e1,e2⟩:=h;⟨r,s.tup e1,s.tup e2⟩
theorem za7.sameT{H H':Hp}{as:List Addr}{ts:List Tri}(h:za7 H as ts)(s:zD H H'):za7 H' as ts:=Paired.mapP h λ_ _ r=>r.sameT s
theorem za7.same{H H':Hp}{as:List Addr}{ts:List Tri}(h:za7 H as ts)(s:zl H H'):za7 H' as ts:=h.sameT (.of s)
theorem zbB{α β:Type}{R:α->β->Prop}{l1 l2:List α}{m1 m2:List β}(h1:Paired R l1 m1)(h2:Paired R l2 m2):Paired R (l1++l2) (m1++m2):=by
 induction h1 with
 | nil=>exact h2
 | cons r _ ih=>exact .cons r ih
theorem zp9{z:Str}{row:List V}(h:zbo z=some row):∃y k ys,row = .str y::.int k::ys:=by
 unfold zbo at h
 obtain ⟨b,_,h⟩:=bind_eq_some_iff.mp h
 cases e:PySem.Txt.split (PySem.Txt.slice b none (some (-1))) (c1 32) with
 | nil=>rw [e] at h;cases h
 | cons w ws =>
  rw [e,zdz] at h
  obtain ⟨ks,hk,h⟩:=bind_eq_some_iff.mp h
  split at h
  ·obtain ⟨vs,hv,rfl⟩:=map_eq_some_iff.mp h
   have:∃ks',ks=("number":Str)::ks':=by
    unfold zck at hk
    split at hk
    ·cases hk;exact ⟨_,rfl⟩
    ·split at hk
     ·cases hk;exact ⟨_,rfl⟩
     ·split at hk
      ·cases hk;exact ⟨_,rfl⟩
      ·split at hk
       ·cases hk;exact ⟨_,rfl⟩
       ·split at hk
        ·cases hk;exact ⟨_,rfl⟩
        ·cases hk
   obtain ⟨ks',rfl⟩:=this
   cases ws with
   | nil=>rename_i hl;cases hl
   | cons z zs =>
    have hv':(zbC "number" z).bind (λv=>(zbU ks' zs).map (v::·))=some vs:=hv
    obtain ⟨v,h1,h2⟩:=bind_eq_some_iff.mp hv'
    obtain ⟨vs',_,rfl⟩:=map_eq_some_iff.mp h2
    have:∃k,v = .int k:=by
     unfold zbC at h1
     by_cases hz:zfT z=true
     ·rw [if_pos ⟨rfl,hz⟩] at h1
      cases h1
      exact ⟨_,rfl⟩
     ·rw [if_neg (λq=>hz q.2),if_neg (λq=>absurd q.1 (by decide)),if_neg (λq=>absurd q.1 (by decide)),if_neg (λq=>absurd q.1 (by decide))] at h1
      cases h1
    obtain ⟨k,rfl⟩:=this
    exact ⟨w,k,vs',rfl⟩
  ·cases h
theorem zeI{α:Type}{l:List α}{j:Nat}{x:α}(h:j<l.length):l.getD j x∈l:=by
 rw [getD_eq_getElem?_getD,List.getElem?_eq_getElem h];exact List.getElem_mem h
section
variable {P:Program}{w:World}{K:Frag}{mg:Str->Option Value}{base:Heap}{A:zh}
end
def zy(t:Tri):Int:=zfA t.1
theorem znx{α β:Type}{f:α->β}{zs m:List β}(h:zs.Perm m):∀{L:List α},m=L.map f->∃L':List α,L'.Perm L/\zs=L'.map f:=by
 induction h with
 | nil=>intro L e;cases L with
  | nil=>exact ⟨[],.nil,rfl⟩
  | cons a L=>cases e
 | cons x _ ih =>
  intro L e
  cases L with
  | nil=>cases e
  | cons a L =>
   rw [map_cons] at e
   injection e with e1 e2
   obtain ⟨L',p,rfl⟩:=ih e2
   exact ⟨a::L',p.cons a,by rw [map_cons,e1]⟩
 | swap x y l =>
  intro L e
  cases L with
  | nil=>cases e
  | cons a L =>
   cases L with
   | nil=>rw [map_cons] at e;injection e with _ e2;cases e2
   | cons b L =>
    rw [map_cons,map_cons] at e
    injection e with e1 e2
    injection e2 with e2 e3
    exact ⟨b::a::L,.swap ..,by rw [map_cons,map_cons,e1,e2,e3]⟩
 | trans _ _ ih1 ih2 =>
  intro L e
  obtain ⟨L1,p1,e1⟩:=ih2 e
  obtain ⟨L2,p2,e2⟩:=ih1 e1
  exact ⟨L2,p2.trans p1,e2⟩
theorem zjd:∀{l m:List Tri},l.Perm m->l.Pairwise (λa b=>zy a<zy b)->m.Pairwise (λa b=>zy a<zy b)->l=m
 | [],m,p,_,_=>(List.Perm.nil_eq p)
 | a::l,[],p,_,_=>by have:=p.length_eq;cases this
 | a::l,b::m,p,h1,h2=>by
  obtain ⟨g1,g2⟩:=pairwise_cons.mp h1
  obtain ⟨k1,k2⟩:=pairwise_cons.mp h2
  have e:a=b:=by
   refine Classical.byContradiction λne=>?_
   have ha:a∈b::m:=p.mem_iff.mp (mem_cons_self ..)
   have hb:b∈a::l:=p.mem_iff.mpr (mem_cons_self ..)
   rcases mem_cons.mp ha with z|ha
   ·exact ne z
   ·rcases mem_cons.mp hb with z|hb
    ·exact ne z.symm
    ·have:=k1 a ha
     have:=g1 b hb
     omega
  subst e
  rw [zjd (List.Perm.cons_inv p) g2 k2]
theorem zky{l:List Tri}(nd:(l.map zy).Nodup)(h:l.Pairwise (λa b=>zy a<=zy b)):l.Pairwise (λa b=>zy a<zy b) :=
 (h.and (pairwise_map.mp nd)).imp λ⟨h1,h2⟩=>by omega
open Classical in
noncomputable def zbb(U:List Tri):List Tri:=if h:∃ts:List Tri,ts.Perm U/\ts.Pairwise (λa b=>zy a<=zy b) then h.choose else U
theorem zov{U ts:List Tri}(nd:(U.map zy).Nodup)(p:ts.Perm U)(h:ts.Pairwise (λa b=>zy a<=zy b)):ts=zbb U:=by
 have ex:∃ts:List Tri,ts.Perm U/\ts.Pairwise (λa b=>zy a<=zy b):=⟨ts,p,h⟩
 unfold zbb
 rw [dif_pos ex]
 have n1:(ts.map zy).Nodup:=(p.map zy).nodup_iff.mpr nd
 have n2:(ex.choose.map zy).Nodup:=(ex.choose_spec.1.map zy).nodup_iff.mpr nd
 exact zjd (p.trans ex.choose_spec.1.symm) (zky n1 h) (zky n2 ex.choose_spec.2)
def lpL:Pos:=⟨311,34,311,65⟩
abbrev zcl:Stmt:=top 42
def qL:Str:=(envOfC "_law_rows" (ze zcl) 0 0 .none).qual++"<lambda>"
structure TB(A:zh)(H:Hp):Prop where
 l:zbh lpL qL H A.t__law_rows
theorem zvl{pos:Pos}{q:Str}{H H':Hp}{P:Addr}(h:zbh pos q H P)(k:∀a o,H a=some o->(a=P\/∀ps,o≠.tbl ps)->H' a=some o):zbh pos q H' P:=by
 rcases h with h|⟨c,oc,vs,t,h1,h2,h3⟩
 ·exact .inl (k _ _ h (.inl rfl))
 ·exact .inr ⟨c,oc,vs,t,k _ _ h1 (.inl rfl),k _ _ h2 (.inr λps z=>by cases z),h3⟩
theorem TB.same{A:zh}{H H':Hp}(h:TB A H)(s:zl H H'):TB A H':=⟨zvl h.l λa o e _=>s a o e⟩
theorem TB.keep{A:zh}{H H':Hp}{F:List Addr}(h:TB A H)(k:zn F H H')(hF:∀x∈F,∀o,H x=some o->(∀ps,o≠.tbl ps)/\∀oc,o≠.frz oc (.own 0)):TB A H':=by
 have go:∀{pos q P},zbh pos q H P->zbh pos q H' P:=λ{pos q P} h=>by
  rcases h with h|⟨c,oc,vs,t,h1,h2,h3⟩
  ·exact .inl (k _ _ h λz=>(hF _ z _ h).1 _ rfl)
  ·exact .inr ⟨c,oc,vs,t,k _ _ h1 λz=>(hF _ z _ h1).1 _ rfl,k _ _ h2 λz=>(hF _ z _ h2).2 _ rfl,h3⟩
 exact ⟨go h.l⟩
section
variable {P:Program}{w:World}{K:Frag}{mg:Str->Option Value}{base:Heap}{A:zh}
def nU(d:DM):List Tri:=wU d.rows d.rows.length
theorem zkB{l:List Tx}{k:Nat}:∀{j:Nat}{t:Tri},t∈rIn l k j->∃y n ys,t.1 = .str y::.int n::ys
 | 0,t,h=>by cases h
 | j+1,t,h=>by
  rcases mem_append.mp h with h|h
  ·exact zkB h
  ·cases e:l.getD j none with
   | none=>rw [e] at h;cases h
   | some z =>
    rw [e] at h
    cases e2:zbo z with
    | none=>rw [show rdT (some z)=zbo z from rfl,e2] at h;cases h
    | some row =>
     rw [show rdT (some z)=zbo z from rfl,e2] at h
     have h:t=(row,k,j):=mem_singleton.mp h
     rw [h]
     exact zp9 e2
theorem zgW{rows:List (List Tx)}:∀{i:Nat}{t:Tri},t∈wU rows i->∃y n ys,t.1 = .str y::.int n::ys
 | 0,t,h=>by cases h
 | i+1,t,h=>by
  rcases mem_append.mp h with h|h
  ·exact zgW h
  ·exact zkB h
theorem zqH{H:Hp}{as:List Addr}{ts:List Tri}(h:za7 H as ts)(hk:∀t∈ts,∃y n ys,t.1 = .str y::.int n::ys):Paired (zhq H) as (ts.map zy):=by
 induction h with
 | nil=>exact .nil
 | @cons a t _ _ r _ ih =>
  refine .cons ?_ (ih λt h=>hk t (mem_cons_of_mem _ h))
  obtain ⟨y,n,ys,e⟩:=hk t (mem_cons_self ..)
  obtain ⟨rr,e1,e2⟩:=r
  rw [e] at e2
  have ek:zy t=n:=by unfold zy;rw [e];rfl
  rw [ek]
  exact ⟨rr,_,_,_,e1,e2⟩
theorem zs2{H:Hp}{as:List Addr}{ts:List Tri}{zs:List (Int×Addr)}(h:za7 H as ts)(p:zs.Perm ((ts.map zy).zip as))(hs:zs.Pairwise (λp q=>p.1<=q.1))(nd:(ts.map zy).Nodup):za7 H (zs.map (·.2)) (zbb ts):=by
 have hl:=z5 h
 have e1:(ts.map zy).zip as=(as.zip ts).map λq=>(zy q.2,q.1):=by
  clear p nd
  induction h with
  | nil=>rfl
  | cons r _ ih=>rw [map_cons,zip_cons_cons,zip_cons_cons,map_cons,ih (Paired.length ‹_›)]
 obtain ⟨L,pL,rfl⟩:=znx p e1
 have e2:(as.zip ts).map (·.2)=ts:=List.map_snd_zip (by omega)
 have hm:∀q∈as.zip ts,zdF H q.1 q.2:=by
  clear p pL e1 e2 hs nd hl
  induction h with
  | nil=>intro q hq;cases hq
  | cons r _ ih =>
   intro q hq
   rw [zip_cons_cons] at hq
   rcases mem_cons.mp hq with rfl|hq
   ·exact r
   ·exact ih q hq
 have e3:L.map (·.2)=zbb ts:=zov nd (by have:=pL.map (·.2);rw [e2] at this;exact this) (by
  have:=pairwise_map.mp hs
  exact pairwise_map.mpr this)
 rw [<- e3,map_map]
 have:∀M:List (Addr×Tri),(∀q∈M,zdF H q.1 q.2)->za7 H (M.map ((·.2)∘λq=>(zy q.2,q.1))) (M.map (·.2)):=λM=>by
  induction M with
  | nil=>exact λ_=>.nil
  | cons q M ih=>exact λh=>.cons (h q (mem_cons_self ..)) (ih λr hr=>h r (mem_cons_of_mem _ hr))
 exact this L λq hq=>hm q (pL.mem_iff.mp hq)
end
theorem zf4(U:List Tri):(zbb U).Perm U:=by
 unfold zbb
 split
 ·rename_i h;exact h.choose_spec.1
 ·exact .refl _
def iv(n:Nat):V:=.int n
section
variable {P:Program}{w:World}{K:Frag}{mg:Str->Option Value}{base:Heap}{A:zh}
end
abbrev zdX:Stmt:=top 33
abbrev zee:Stmt:=top 34
abbrev zdS:Stmt:=top 35
abbrev zdr:Stmt:=top 36
def But(b:Addr)(H H':Hp):Prop:=∀a o,a≠b->H a=some o->H' a=some o
theorem But.of{b:Addr}{H H':Hp}(s:zl H H'):But b H H':=λa o _ e=>s a o e
theorem But.trans{b:Addr}{H H1 H2:Hp}(x:But b H H1)(y:But b H1 H2):But b H H2:=λa o n e=>y a o n (x a o n e)
theorem zhE{α:Type}{xs:List α}{i:Int}(h0:0<=i)(h1:i<xs.length):∃v,atI xs i=some v/\v∈xs:=by
 have hn:i.toNat<xs.length:=by omega
 have z:atI xs ((i.toNat:Nat):Int)=some xs[i.toNat]:=zcZ (List.getElem?_eq_getElem hn)
 rw [show ((i.toNat:Nat):Int)=i by omega] at z
 exact ⟨_,z,List.getElem_mem hn⟩
section
variable {P:Program}{w:World}{K:Frag}{mg:Str->Option Value}{base:Heap}{A:zh}
def atD(ns:List Int)(k:Int):Int:=if k<ns.length then ns.getD k.toNat 0 else 0
def zgg(K:Frag):Sp:=λvs H Q _=>∃(a:Addr)(ns:List Int)(k:Int),vs=[.ref a,.int k]/\SqL K H a (ns.map V.int)/\0<=k/\Q (.int (atD ns k)) H
theorem ztq:zu ["_law_script","_law_k"] ["_law_script","_law_k"] (ze zdX):=⟨rfl,rfl,rfl,f!"",rfl,f!"",f!""⟩
theorem zws{f:Addr}{fd:FuncData}(F:Fun K "_law_cell" "_law_cell" zdX f fd)(T:Txt K mg A):zo P w K mg base CX0 true 1 f fd ["_law_script","_law_k"] (zgg K):=by
 refine F.ok ztq (λvs H Q E h=>?_) (λcdv Ar outer s H vs Q E hr h=>?_)
 ·obtain ⟨a,ns,k,rfl,_⟩:=h;rfl
 ·obtain ⟨a,ns,k,rfl,hS,hk,q⟩:=h
  refine ⟨_,zlY (zkg (zmf zfg (pv 1) (zjb zgc rfl T.n_len PySem.boot_len (zcs (pv 0) zce)) (zaa _))
   (zgS (zgd (zi4 zkv (pv 0) (pv 1) (λ_ _=>rfl)))) zjt) (zgS (zgd zil)),?_⟩
  simp_all only []
  refine ⟨_,.inl hS,?_⟩
  rw [length_map]
  refine zaV (λh=>?_) (λh=>?_)
  ·have h':k<(ns.length:Int):=of_decide_eq_true h
   have hn:k.toNat<ns.length:=by omega
   have e:atD ns k=ns[k.toNat]:=by unfold atD;rw [if_pos h',getD_eq_getElem?_getD,List.getElem?_eq_getElem hn];rfl
   refine ⟨a,ns.map V.int,k,.int (ns[k.toNat]),rfl,rfl,hS,?_,by rw [<- e];exact q⟩
   have z:atI (ns.map V.int) ((k.toNat:Nat):Int)=some (.int (ns[k.toNat])):=zcZ (by rw [getElem?_map,List.getElem?_eq_getElem hn];rfl)
   have kz:((k.toNat:Nat):Int)=k:=by omega
   rw [kz] at z;exact z
  ·have h' : ¬ k<(ns.length:Int):=λz=>h (decide_eq_true z)
   have e:atD ns k=0:=by unfold atD;rw [if_neg h']
   rw [<- e];exact q
theorem ze8{a b:V}:atI [a,b] 0=some a:=rfl
theorem zfb{a b:V}:atI [a,b] 1=some b:=rfl
theorem zyV:ixN 2 0=some 0:=rfl
theorem ztz:ixN 2 1=some 1:=rfl
structure Pot(H:Hp)(a:Addr):Prop where
 ex:∃x y:Int,H a=some (.lst [.int x,.int y])/\0<=x/\0<=y/\y<2147483647
theorem Pot.same{H H':Hp}{a:Addr}(h:Pot H a)(s:zl H H'):Pot H' a:=let ⟨x,y,e,r⟩:=h.ex;⟨⟨x,y,s _ _ e,r⟩⟩
theorem Pot.ne{H:Hp}{a l:Addr}(h:Pot H a)(n:H l=none):l≠a:=λz=>by
 obtain ⟨x,y,e,_⟩:=h.ex
 rw [z,e] at n;cases n
def zic(K:Frag):Sp:=λvs H Q _=>∃(a:Addr)(ns:List Int)(k:Int),vs=[.ref a,.int k]/\SqL K H a (ns.map V.int)/\0<=k/\∀l H',zl H H'->H l=none->Pot H' l->Q (.ref l) H'
theorem zmq:zu ["_law_script","_law_k","_law_cell_here"] ["_law_script","_law_k"] (ze zee):=⟨rfl,rfl,rfl,f!"",rfl,f!"",f!""⟩
theorem zyp{f:Addr}{fd:FuncData}(F:Fun K "_law_pot" "_law_pot" zee f fd)(T:Txt K mg A)(Gp:GF P w K mg base true 1 "_law_cell" ["_law_script","_law_k"] (zgg K)):zo P w K mg base CX0 true 2 f fd ["_law_script","_law_k"] (zic K):=by
 refine F.ok zmq (λvs H Q E h=>?_) (λcdv Ar outer s H vs Q E hr h=>?_)
 ·obtain ⟨a,ns,k,rfl,_⟩:=h;rfl
 ·obtain ⟨a,ns,k,rfl,hS,hk,q⟩:=h
  refine ⟨_,(W.h (zg (zF (i:=2) zmq.nd rfl (Or.inl rfl) (zr Gp hr rfl (zb (za 0) (zb (za 1) zc))))
   (zk (zH (zat (zb (zM (ziF rfl) rfl T.n_max boot_max (zb zi (zb (zG zdu (za 2) (zG zhb zi zi)) zc))) (zb (zG zdK (zG zau (zG zdK (zM zyK rfl T.n_abs PyProof.Rows.boot_abs (zb (za 2) zc)) zi) (zG zd4 zi (zG zau (za 1) zi))) zi) zc))))))),?_⟩
  simp_all only []
  refine ⟨a,ns,k,rfl,hS,hk,?_⟩
  simp_all only []
  refine ⟨⟨by decide,by decide,by decide⟩,by decide,.inl ⟨by decide,by decide⟩,by decide,by decide,λl H1 n1 _=>q l H1 n1.same n1.no ⟨⟨_,_,n1.at_,?_,?_,?_⟩⟩⟩
  ·split<;>omega
  ·omega
  ·omega
def zbi:Sp:=λvs H Q _=>∃(a:Addr)(m:Int),vs=[.ref a,.int m]/\Pot H a/\0<m/\m<2 ^ 64/\∀(r:Int) H',But a H H'->Pot H' a->0<=r->r<m->Q (.int r) H'
theorem zme:zu ["_law_pot_here","_law_many","_law_digit"] ["_law_pot_here","_law_many"] (ze zdS):=⟨rfl,rfl,rfl,f!"",rfl,f!"",f!""⟩
theorem zp3{f:Addr}{fd:FuncData}(F:Fun K "_law_draw" "_law_draw" zdS f fd)(T:Txt K mg A):zo P w K mg base CX0 true 1 f fd ["_law_pot_here","_law_many"] zbi:=by
 refine F.ok zme (λvs H Q E h=>?_) (λcdv Ar outer s H vs Q E hr h=>?_)
 ·obtain ⟨a,m,rfl,_⟩:=h;rfl
 ·obtain ⟨a,m,rfl,⟨x,y,e,x0,y0,y1⟩,m0,m1,q⟩:=h
  refine ⟨_,(W.h (zg (z7 (zal zhB (zL zQ (za 0) zi (λ_ _=>rfl)) zi (zaa _))
   (zg (zbz (zM zo3 rfl T.n_divmod boot_divmod (zb (zL zQ (za 0) zi (λ_ _=>rfl)) (zb (za 1) zc))) (zdp (n:=2) (z6 (zb4 (za 0) zi zdC) (z6 (zI (i:=2) zme.nd rfl (Or.inl rfl)) zbk))))
   (zk (zH (za 2))))
   zam)
   (zg (zbz (zG zdK (zG zau (zG zd4 (zL zQ (za 0) zi (λ_ _=>rfl)) zi) zi) zi) (zb4 (za 0) zi zdC))
   (zk (zH (zG zdK (zG zx4 (zG zdK (zG zd4 (zL zQ (za 0) zi (λ_ _=>rfl)) (zL zQ (za 0) zi (λ_ _=>rfl))) zi) zi) (za 1))))))),?_⟩
  simp_all only [e,ze8,zfb]
  refine zaV (λh=>?_) (λh=>?_)
  ·refine ⟨m0,m1,λp H2 n2=>⟨p,_,rfl,SqT.of n2.at_,rfl,?_⟩⟩
   have e2:=n2.same _ _ e
   simp_all only [e2,zyV,ze8]
   refine q _ _ (λc o nc ec=>by rw [zd nc];exact n2.same _ _ ec) ⟨⟨_,_,zq,Int.ediv_nonneg x0 (by omega),y0,y1⟩⟩ (Int.emod_nonneg _ (by omega)) (Int.emod_lt_of_pos _ m0)
  ·simp_all only [ztz,zq,zfb]
   refine ⟨.inr ⟨by decide,by decide⟩,by decide,.inl ⟨by omega,by omega⟩,by decide,⟨by decide,by decide⟩,m0,q _ _ (λc o nc ec=>by rw [zd nc];exact ec) ⟨⟨_,_,zq,x0,by omega,by omega⟩⟩ (Int.emod_nonneg _ (by omega)) (Int.emod_lt_of_pos _ m0)⟩
def zdx:Sp:=λvs H Q _=>∃(a:Addr),Pot H a/\((∃(l:Addr)(xs:List V),vs=[.ref a,.ref l]/\l≠a/\(H l=some (.lst xs)\/H l=some (.tup xs))/\0<xs.length/\xs.length<=1000/\∀v H',v∈xs->But a H H'->Pot H' a->Q v H') \/
 ∃z:Str,vs=[.ref a,.str z]/\0<z.length/\z.length<=1000/\∀c H',c∈sg z->But a H H'->Pot H' a->Q (.str (c1 c)) H')
theorem zry:zu ["_law_pot_here","_law_some"] ["_law_pot_here","_law_some"] (ze zdr):=⟨rfl,rfl,rfl,f!"",rfl,f!"",f!""⟩
theorem zm0{f:Addr}{fd:FuncData}(F:Fun K "_law_drawn" "_law_drawn" zdr f fd)(T:Txt K mg A)(Gb:GF P w K mg base true 1 "_law_draw" ["_law_pot_here","_law_many"] zbi):zo P w K mg base CX0 true 2 f fd ["_law_pot_here","_law_some"] zdx:=by
 refine F.ok zry (λvs H Q E h=>?_) (λcdv Ar outer s H vs Q E hr h=>?_)
 ·obtain ⟨a,_,⟨l,xs,rfl,_⟩|⟨z,rfl,_⟩⟩:=h<;>rfl
 ·refine ⟨_,(W.h (zk (zH (zL zQ (za 1) (zr Gb hr rfl (zb (za 0) (zb (zM zaI rfl T.n_len PySem.boot_len (zb (za 1) zc)) zc))) (λ_ _=>rfl))))),?_⟩
  obtain ⟨a,hP,⟨l,xs,rfl,ne,hl,x0,x1,q⟩|⟨z,rfl,z0,z1,q⟩⟩:=h
  ·simp_all only []
   refine ⟨xs,hl,a,_,rfl,hP,by omega,Int.lt_of_le_of_lt (show (xs.length:Int)<=1000 by omega) (by decide),λr H' bt hP' r0 r1=>?_⟩
   obtain ⟨v,ev,hv⟩:=zhE (xs:=xs) r0 r1
   rw [zcM]
   exact ⟨xs,hl.imp (bt _ _ ne) (bt _ _ ne),v,ev,q v H' hv bt hP'⟩
  ·simp_all only []
   refine ⟨zaD (by omega),a,_,rfl,hP,by omega,Int.lt_of_le_of_lt (show (z.length:Int)<=1000 by omega) (by decide),λr H' bt hP' r0 r1=>?_⟩
   obtain ⟨c,ec,hc⟩:=zhE (xs:=sg z) r0 (by rw [zac];exact r1)
   rw [zgo]
   exact ⟨zaD (by omega),c,ec,q c H' hc bt hP'⟩
end
abbrev OR:=Option (List V)
def zbn(H:Hp)(v:V)(o:OR):Prop:=match o with|none=>v = .non|some xs=>∃r,v = .ref r/\H r=some (.tup xs)
structure zae(H:Hp)(sh:Addr)(shc:List Addr)(rs:List (List OR)):Prop where
 w:H sh=some (.lst (shc.map V.ref))
 len:shc.length=rs.length
 at_:∀i c,shc[i]?=some c->∃vs,H c=some (.lst vs)/\Paired (zbn H) vs (rs.getD i [])
 nd:(sh::shc).Nodup
theorem zbn.keep{H H':Hp}{v:V}{o:OR}(h:zbn H v o)(k:∀r xs,H r=some (.tup xs)->H' r=some (.tup xs)):zbn H' v o:=by
 cases o with
 | none=>exact h
 | some xs=>obtain ⟨r,e,h⟩:=h;exact ⟨r,e,k _ _ h⟩
theorem zae.keep{H H':Hp}{sh:Addr}{shc:List Addr}{rs:List (List OR)}(h:zae H sh shc rs)(k1:∀r xs,H r=some (.tup xs)->H' r=some (.tup xs))(k2:∀b xs,b=sh\/b∈shc->H b=some (.lst xs)->H' b=some (.lst xs)):zae H' sh shc rs :=
 ⟨k2 _ _ (.inl rfl) h.w,h.len,λi c hc=>let ⟨vs,e,p⟩:=h.at_ i c hc;⟨vs,k2 _ _ (.inr (mem_of_getElem? hc)) e,Paired.mapP p λv o r=>r.keep k1⟩,h.nd⟩
theorem zae.sameT{H H':Hp}{sh:Addr}{shc:List Addr}{rs:List (List OR)}(h:zae H sh shc rs)(s:zD H H'):zae H' sh shc rs:=h.keep (λ_ _ e=>s.tup e) λ_ _ _ e=>s.list e
theorem zae.same{H H':Hp}{sh:Addr}{shc:List Addr}{rs:List (List OR)}(h:zae H sh shc rs)(s:zl H H'):zae H' sh shc rs:=h.sameT (.of s)
theorem zae.cell{H:Hp}{sh:Addr}{shc:List Addr}{rs:List (List OR)}(h:zae H sh shc rs){k:Nat}(hk:k<rs.length):∃c vs,shc[k]?=some c/\atI (shc.map V.ref) (k:Int)=some (.ref c)/\H c=some (.lst vs)/\Paired (zbn H) vs (rs.getD k [])/\vs.length=(rs.getD k []).length:=by
 have hk':k<shc.length:=by rw [h.len];exact hk
 obtain ⟨vs,e,p⟩:=h.at_ k _ (List.getElem?_eq_getElem hk')
 exact ⟨_,vs,List.getElem?_eq_getElem hk',zcZ (by rw [getElem?_map,List.getElem?_eq_getElem hk'];rfl),e,p,z5 p⟩
def rO(l:List OR)(k:Nat):Nat->List Tri
 | 0=>[]
 | j+1=>rO l k j++one (l.getD j none) k j
def wO(rs:List (List OR)):Nat->List Tri
 | 0=>[]
 | i+1=>wO rs i++rO (rs.getD i []) i (rs.getD i []).length
theorem zjP(l:List Tx)(k:Nat):∀j,rIn l k j=rO (l.map rdT) k j
 | 0=>rfl
 | j+1=>by
  show rIn l k j++_=rO _ k j++_
  rw [zjP l k j]
  have:(l.map rdT).getD j none=rdT (l.getD j none):=by
   rw [getD_eq_getElem?_getD,getElem?_map,getD_eq_getElem?_getD]
   cases l[j]? <;> rfl
  rw [this]
def rdR(rows:List (List Tx)):List (List OR):=rows.map λr=>r.map rdT
theorem za4(rows:List (List Tx))(i:Nat):(rdR rows).getD i []=(rows.getD i []).map rdT:=by
 unfold rdR
 rw [getD_eq_getElem?_getD,getElem?_map,getD_eq_getElem?_getD]
 cases rows[i]? <;> rfl
theorem zlX(rows:List (List Tx)):∀i,wU rows i=wO (rdR rows) i
 | 0=>rfl
 | i+1=>by
  show wU rows i++_=wO _ i++_
  rw [zlX rows i,za4,length_map,zjP]
theorem zf5(l:List OR)(k:Nat):∀j,(rO l k j).length<=j
 | 0=>le_refl _
 | j+1=>by show (rO l k j++_).length<=_;have:=zf5 l k j;rw [length_append];have:=zxN (l.getD j none) k j;omega
section
variable {P:Program}{w:World}{K:Frag}{mg:Str->Option Value}{base:Heap}{A:zh}
structure LRc(H:Hp)(k:Nat)(l:List OR)(j:Nat)(τ:L2.St)(ys:List V)(H':Hp):Prop where
 ex:∃t1 t2,τ=[t1,t2,some (.int (k:Nat))]
 ys:∃as:List Addr,ys=as.map V.ref/\za7 H' as (rO l k j)
 same:zl H H'
 le:j<=32
structure zou(H:Hp)(sh:Addr)(rs:List (List OR))(i:Nat)(σ:L2.St)(H':Hp):Prop where
 ex:∃fl t1 t2,σ=[some (V.ref sh),some (.ref fl),t1,t2]/\H fl=none/\∃as:List Addr,H' fl=some (.lst (as.map V.ref))/\za7 H' as (wO rs i)
 same:zl H H'
 le:i<=16
def zkC(rs:List (List OR)):Prop:=∀t∈wO rs rs.length,∃y n ys,t.1 = .str y::.int n::ys
def zfr(A:zh):Sp:=λvs H Q _=>∃(sh:Addr)(shc:List Addr)(rs:List (List OR)),vs=[.ref sh]/\zae H sh shc rs/\rs.length<=16/\(∀i,(rs.getD i []).length<=32)/\zkC rs/\((wO rs rs.length).map zy).Nodup/\(wO rs rs.length).length<64/\TB A H /\
 ∀l as H',zD H H'->TB A H'->H l=none->l≠sysModules->H' l=some (.lst (as.map V.ref))->za7 H' as (zbb (wO rs rs.length))->Q (.ref l) H'
theorem zep:zu ["_law_shelf","_law_found","_law_stretch","_law_rows_here"] ["_law_shelf"] (ze zcl):=⟨rfl,rfl,rfl,f!"",rfl,f!"",f!""⟩
theorem zxA:zaF { kind:=.function,names:=[(Str.ofString ".0",.local),(Str.ofString "_law_place",.local),(Str.ofString "_law_row_here",.local),(Str.ofString "_law_stretch",.free)],isGenerator:=false,isCoroutine:=false,more:=[] } (ze zcl).names ["_law_shelf","_law_found","_law_stretch","_law_rows_here"] ["_law_place","_law_row_here","_law_stretch"] [none,none,some 2]=true:=by decide +kernel
theorem zl9:(["_law_place","_law_row_here","_law_stretch"]:List Str).Nodup:=by decide +kernel
theorem zoT{f c:Addr}{fd:FuncData}(F:Fun K "_law_rows" "_law_rows" zcl f fd)(hc:fd.code = .ref c)(LB:zew mg base (.ref c) A.t__law_rows)(T:Txt K mg A):zo P w K mg base CX0 true 1 f fd ["_law_shelf"] (zfr A):=by
 refine F.okC hc zep (λvs H Q E h=>?_) (λAr outer s H vs Q E hr h=>?_)
 ·obtain ⟨sh,shc,rs,rfl,_⟩:=h;rfl
 ·obtain ⟨sh,shc,rs,rfl,S,hl,h32,hkk,nd,h64,tb,q⟩:=h
  have hu:_<cLine:=lt_of_succ_lt (zX hr)
  refine ⟨_,(W.h (zg (zF (i:=1) zep.nd rfl (Or.inl rfl) (zat zc))
   (zg (zbd PassesOwn.never (λ_=>rfl) (zht rfl T.n_enumerate (zb (za 0) zc)) (zdp (n:=2) (z6 (zI (i:=2) zep.nd rfl (Or.inr rfl)) (z6 (zI (i:=3) zep.nd rfl (Or.inl rfl)) zbk)))
   (zk (zF (i:=1) zep.nd rfl (Or.inl rfl) (zG zau (za 1) (zbS (λ_=>rfl) (zah.of zxA) (zht rfl T.n_enumerate (zb (za 3) zc)) (λ_ _ _ _ _=>(zds (n:=2) (z6 (zI (i:=0) zl9 rfl (Or.inl rfl)) (z6 (zI (i:=1) zl9 rfl (Or.inl rfl)) zbk)))) (λ_ _ _ _ _=>(zeE (zal zfl (za 1) zbt (zaa _)))) (λ_ _ _ _ _=>(zav (zb (za 1) (zb (za 2) (zb (za 0) zc))))))))))
   (zk (zH (zwT LB hr rfl T.n_sorted (za 1) rfl rfl (λ_ _ _ _ _=>rfl) rfl rfl rfl rfl)))))),?_⟩
  simp_all only []
  refine ⟨by decide,λfl H1 n1 _=>⟨⟨_,SqL.of (n1.same _ _ S.w)⟩,zad.enum (xs:=shc.map V.ref) (zou H sh rs) ⟨⟨fl,_,_,rfl,n1.no,[],n1.at_,.nil⟩,n1.same,by omega⟩ (λi σ H' _ I=>SqL.of (I.same _ _ S.w)) ?_ ?_⟩⟩
  ·rintro i x p σ H2 hx ⟨⟨fl2,t1,t2,rfl,f0,as,hf,ht⟩,sm,le⟩ hp
   rw [getElem?_map] at hx
   obtain ⟨cc,hcc,rfl⟩:=map_eq_some_iff.mp hx
   have hi:i<rs.length:=by rw [<- S.len];exact (List.getElem?_eq_some_iff.mp hcc).1
   refine ⟨p,_,rfl,SqT.of zq,rfl,?_⟩
   have nw:New H2 p (.tup [.int i,.ref cc]) (upd H2 p (.tup [.int i,.ref cc])):=.mk' hp
   generalize upd H2 p (.tup [.int i,.ref cc])=H3 at nw ⊢
   have S3:=S.same (sm.trans nw.same)
   obtain ⟨vs,hv,pv⟩:=S3.at_ i cc hcc
   have lv:=z5 pv
   have lv32:=h32 i
   have hf3:=nw.same _ _ hf
   simp_all only [hf3]
   refine ⟨⟨_,SqL.of hv⟩,zV.enum (xs:=vs) (LRc H3 i (rs.getD i [])) (λj τ ys H' I=>?_) (λj τ ys H' I=>SqL.of (I.same _ _ hv)) ⟨⟨_,_,rfl⟩,⟨[],rfl,.nil⟩,zl.refl _,by omega⟩ ?_ ?_⟩
   ·obtain ⟨bs,e,tl⟩:=I.ys
    have:=z5 tl
    have:=zf5 (rs.getD i []) i j
    have:=I.le
    rw [e,length_map]
    exact zaG (by omega)
   ·intro N j x p2 τ ys H4 hx I hp2 hN
    obtain ⟨t1,t2,rfl⟩:=I.ex
    obtain ⟨bs,e,tl⟩:=I.ys
    have hj:j<(rs.getD i []).length:=by rw [<- lv];exact (List.getElem?_eq_some_iff.mp hx).1
    have ho:(rs.getD i [])[j]?=some (rs.getD i [])[j]:=List.getElem?_eq_getElem hj
    have hr:=zaO pv hx ho
    have eg:(rs.getD i []).getD j none=(rs.getD i [])[j]:=by rw [getD_eq_getElem?_getD,ho];rfl
    generalize (rs.getD i [])[j]=o at hr eg
    refine ⟨p2,_,rfl,SqT.of zq,rfl,?_⟩
    have nw2:New H4 p2 (.tup [.int j,x]) (upd H4 p2 (.tup [.int j,x])):=.mk' hp2
    generalize upd H4 p2 (.tup [.int j,x])=H5 at nw2 ⊢
    have er:rO (rs.getD i []) i (j+1)=rO (rs.getD i []) i j++one o i j:=by
     show rO _ i j++_=_
     rw [eg]
    cases o with
    | none =>
     cases (show x=V.non from hr)
     simp_all only []
     exact hN _ _ _ ⟨⟨_,_,rfl⟩,⟨bs,e,by rw [er];exact (append_nil (rO (rs.getD i []) i j)).symm ▸ tl.same nw2.same⟩,I.same.trans nw2.same,by omega⟩
    | some row =>
     obtain ⟨r,rfl,hrr⟩:=hr
     simp_all only []
     refine ⟨by decide,λp6 H6 n6=>hN _ _ _ ⟨⟨_,_,rfl⟩,⟨bs++[p6],by rw [e];simp,?_⟩,(I.same.trans nw2.same).trans n6.same,by omega⟩⟩
     rw [er]
     exact zbB (tl.same (nw2.same.trans n6.same)) (.cons ⟨r,n6.at_,n6.same _ _ (nw2.same _ _ (I.same _ _ hrr))⟩ .nil)
   ·intro τ ys H4 I D H5 n5 _
    obtain ⟨bs,e,tl⟩:=I.ys
    rw [lv] at tl
    have l1:=z5 tl
    have l2:=zf5 (rs.getD i []) i (rs.getD i []).length
    have l3:=z5 ht
    have s5:zl H3 H5:=I.same.trans n5.same
    have l4:(wO rs i).length<=32*i:=by
     clear ht hf hf3 l3
     have:∀n,n<=16->(wO rs n).length<=32*n:=λn=>by
      induction n with
      | zero=>exact λ_=>le_refl _
      | succ n ih =>
       intro hn
       show (wO rs n++_).length<=_
       have:=ih (by omega)
       have:=zf5 (rs.getD n []) n (rs.getD n []).length
       have:=h32 n
       rw [length_append];omega
     exact this i le
    rw [zdm]
    refine ⟨_,_,s5 _ _ hf3,n5.at_,zaD (by rw [e];simp;omega),λp6 H6 n6=>?_⟩
    refine ⟨⟨p6,_,_,rfl,?_,as++bs,by rw [n6.at_,e];simp,?_⟩,(sm.trans nw.same).trans (s5.trans n6.same),by omega⟩
    ·exact ((sm.trans nw.same).trans s5).free n6.no
    ·exact zbB (ht.same ((nw.same.trans s5).trans n6.same)) (tl.same (n5.same.trans n6.same))
  ·rintro σ H2 ⟨⟨fl2,t1,t2,rfl,f0,as,hf,ht⟩,sm,le⟩
   rw [length_map,S.len] at ht
   have hlen:=z5 ht
   have tb2:=tb.same sm
   simp_all only []
   refine ⟨as,hf,tb2.l,by rw [hlen];exact h64,(wO rs rs.length).map zy,zqH ht hkk,λD2 zs H3 L3 T3 f3 ne3 ns3 e3 pz sz=>?_⟩
   have s3:zD H2 H3:=zD.lam L3 tb2.l
   have tb3:TB A H3:=⟨T3⟩
   exact q D2 (zs.map (·.2)) H3 ((zD.of sm).trans s3) tb3 (sm.free f3) ns3 (by rw [e3,map_map];rfl) ((zs2 ht pz sz nd).sameT s3)
end
theorem zla{U:List Tri}(nd:(U.map zy).Nodup){s t:Tri}(hs:s∈U)(ht:t∈U)(h:zy s=zy t):s=t:=by
 obtain ⟨i,hi,rfl⟩:=getElem_of_mem hs
 obtain ⟨j,hj,rfl⟩:=getElem_of_mem ht
 have:i=j:=by
  have h1:(U.map zy)[i]?=(U.map zy)[j]?:=by rw [getElem?_map,getElem?_map,List.getElem?_eq_getElem hi,List.getElem?_eq_getElem hj];simpa using h
  exact (getElem?_inj (by simpa using hi) nd).mp h1
 subst this;rfl
theorem zfa{l:List OR}{k:Nat}{t:Tri}:∀{j:Nat},t∈rO l k j↔∃i,i<j/\l.getD i none=some t.1/\t.2=(k,i)
 | 0=>by simp [rO]
 | j+1=>by
  show t∈rO l k j++one (l.getD j none) k j↔_
  rw [mem_append,zfa (j:=j)]
  constructor
  ·rintro (⟨i,h1,h2,h3⟩|h)
   ·exact ⟨i,by omega,h2,h3⟩
   ·cases e:l.getD j none with
    | none=>rw [e] at h;cases h
    | some row =>
     rw [e] at h
     have h:t=(row,k,j):=mem_singleton.mp h
     exact ⟨j,by omega,by rw [h];exact e,by rw [h]⟩
  ·rintro ⟨i,h1,h2,h3⟩
   by_cases hi:i<j
   ·exact .inl ⟨i,hi,h2,h3⟩
   ·have:i=j:=by omega
    subst this
    refine .inr ?_
    rw [h2]
    refine mem_singleton.mpr ?_
    rw [<- h3]
theorem zbM{rs:List (List OR)}{t:Tri}:∀{n:Nat},t∈wO rs n↔t.2.1<n/\t.2.2<(rs.getD t.2.1 []).length/\(rs.getD t.2.1 []).getD t.2.2 none=some t.1
 | 0=>by simp [wO]
 | n+1=>by
  show t∈wO rs n++rO (rs.getD n []) n (rs.getD n []).length↔_
  rw [mem_append,zbM (n:=n),zfa]
  constructor
  ·rintro (⟨h1,h2⟩|⟨i,h1,h2,h3⟩)
   ·exact ⟨by omega,h2⟩
   ·rw [h3];exact ⟨by simp,h1,h2⟩
  ·rintro ⟨h1,h2,h3⟩
   by_cases hn:t.2.1<n
   ·exact .inl ⟨hn,h2,h3⟩
   ·have:t.2.1=n:=by omega
    exact .inr ⟨t.2.2,by rw [<- this];exact h2,by rw [<- this];exact h3,by rw [<- this]⟩
theorem zlP{l:List OR}{k:Nat}:∀j,(rO l k j).Nodup
 | 0=>.nil
 | j+1=>by
  show (rO l k j++one (l.getD j none) k j).Nodup
  rw [nodup_append]
  refine ⟨zlP j,by cases l.getD j none<;>simp [one],λa ha b hb e=>?_⟩
  subst e
  obtain ⟨i,h1,_,h3⟩:=zfa.mp ha
  cases eo:l.getD j none with
  | none=>rw [eo] at hb;cases hb
  | some row =>
   rw [eo] at hb
   have hb:a=(row,k,j):=mem_singleton.mp hb
   rw [hb] at h3
   have:j=i:=congrArg Prod.snd h3
   omega
theorem zjL{rs:List (List OR)}:∀n,(wO rs n).Nodup
 | 0=>.nil
 | n+1=>by
  show (wO rs n++rO (rs.getD n []) n (rs.getD n []).length).Nodup
  rw [nodup_append]
  refine ⟨zjL n,zlP _,λa ha b hb e=>?_⟩
  subst e
  have h1:=(zbM.mp ha).1
  obtain ⟨i,_,_,h3⟩:=zfa.mp hb
  have:a.2.1=n:=by rw [h3]
  omega
theorem zcu{α:Type}{l:List α}{k i:Nat}{x d:α}(hk:k<l.length):(l.set k x).getD i d=if i=k then x else l.getD i d:=by
 rw [getD_eq_getElem?_getD,getD_eq_getElem?_getD]
 by_cases h:i=k
 ·rw [if_pos h,h,List.getElem?_set_self hk];rfl
 ·rw [if_neg h,getElem?_set_ne (Ne.symm h)]
theorem zm7{α:Type}{l m:List α}{b:Nat}{d:α}(h:b<l.length):(l++m).getD b d=l.getD b d:=by
 rw [getD_eq_getElem?_getD,getD_eq_getElem?_getD,List.getElem?_append_left h]
theorem zkl{α:Type}{l:List α}{x d:α}:(l++[x]).getD l.length d=x:=by
 rw [getD_eq_getElem?_getD,List.getElem?_append_right (le_refl _)];simp
theorem zqR{rs:List (List OR)}{k:Nat}{o:OR}(hk:k<rs.length){t:Tri}:t∈wO (rs.set k (rs.getD k []++[o])) (rs.set k (rs.getD k []++[o])).length↔t∈wO rs rs.length\/(o=some t.1/\t.2=(k,(rs.getD k []).length)):=by
 obtain ⟨row,a,b⟩:=t
 rw [zbM,zbM,length_set,zcu hk]
 show a<rs.length/\b<List.length (if a=k then rs.getD k []++[o] else rs.getD a [])/\List.getD (if a=k then rs.getD k []++[o] else rs.getD a []) b none=some row↔_
 by_cases ha:a=k
 ·rw [if_pos ha]
  subst ha
  rw [length_append,length_singleton]
  by_cases hb:b<(rs.getD a []).length
  ·have e:(rs.getD a []++[o]).getD b none=(rs.getD a []).getD b none:=zm7 hb
   rw [e]
   constructor
   ·rintro ⟨h1,_,h3⟩;exact .inl ⟨h1,hb,h3⟩
   ·rintro (⟨h1,_,h3⟩|⟨_,h⟩)
    ·exact ⟨h1,by omega,h3⟩
    ·injection h with _ h;omega
  ·constructor
   ·rintro ⟨h1,h2,h3⟩
    have hb2:b=(rs.getD a []).length:=by omega
    rw [hb2,zkl] at h3
    exact .inr ⟨h3,by rw [hb2]⟩
   ·rintro (⟨_,h2,_⟩|⟨h1,h⟩)
    ·exact absurd h2 hb
    ·injection h with _ h
     refine ⟨hk,by omega,?_⟩
     rw [h,zkl];exact h1
 ·rw [if_neg ha]
  constructor
  ·exact λh=>.inl h
  ·rintro (h|⟨_,h⟩)
   ·exact h
   ·injection h with h _;exact absurd h ha
theorem zvR{rs:List (List OR)}{k:Nat}(hk:k<rs.length){t:Tri}:t∈wO (rs.set k []) (rs.set k []).length↔t∈wO rs rs.length/\t.2.1≠k:=by
 rw [zbM,zbM,length_set,zcu hk]
 by_cases ha:t.2.1=k
 ·rw [if_pos ha]
  constructor
  ·rintro ⟨_,h,_⟩;simp at h
  ·rintro ⟨_,h⟩;exact absurd ha h
 ·rw [if_neg ha]
  exact ⟨λh=>⟨h,ha⟩,λh=>h.1⟩
abbrev zdk:Stmt:=zag (top 27) 10
section
variable {P:Program}{w:World}{K:Frag}{mg:Str->Option Value}{base:Heap}{A:zh}
theorem zv0{m:Int}{wl sl x:Addr}{d:DM}:zB "written" (.ref x) (zp m wl sl d)=zp m x sl d:=by simp only [zp,zB,zi3,if_false,if_true]
theorem ztI{m:Int}{wl sl x:Addr}{d:DM}:zB "at_sides" (.ref x) (zp m wl sl d)=zp m wl x d:=by simp only [zp,zB,zln,zjE,if_false,if_true]
structure zvX(H:Hp)(rows:List (List Tx))(i:Nat)(τ:L2.St)(ys:List V)(H':Hp):Prop where
 τ:∃t,τ=[t]
 ex:∃cs:List Addr,ys=cs.map V.ref/\cs.length=i/\(∀j c,cs[j]?=some c->H' c=some (.lst ((rows.getD j []).map tv)))/\(∀c∈cs,H c=none)/\cs.Nodup
 same:zl H H'
 le:i<=16
theorem ztk{m:Int}{wl sl:Addr}{d d':DM}(h1:d.cnt=d'.cnt)(h2:d.left=d'.left)(h3:d.st=d'.st):zp m wl sl d=zp m wl sl d':=by unfold zp;rw [h1,h2,h3]
theorem zlV:zu ["self","other"] ["self"] (ze zcn):=⟨rfl,rfl,rfl,f!"",rfl,f!"",f!""⟩
theorem zuw:zaF { kind:=.function,names:=[(Str.ofString ".0",.local),(Str.ofString "texts",.local),(Str.ofString "list",.globalImplicit)],isGenerator:=false,isCoroutine:=false,more:=[] } (ze zcn).names ["self","other"] ["texts"] [none]=true:=by decide +kernel
theorem zs9:(["texts"]:List Str).Nodup:=by decide +kernel
theorem ztZ{f:Addr}{fd:FuncData}(F:Fun K "copied" "Disk.copied" zcn f fd)(T:Txt K mg A)(M_Disk_stretches:GM P w K mg base true 1 A.Disk "stretches" ["self"] (zcF A λ_ d=>.int d.rows.length))(Ge:GCX P w K mg base true 3 "Disk" A.Disk ["self","stretches","places"] (zfw A)):zo P w K mg base CX0 true 5 f fd ["self"] (ziD A):=by
 refine F.ok zlV (λvs H Q E h=>?_) (λcdv Ar outer s H vs Q E hr h=>?_)
 ·obtain ⟨p,wl,sl,cells,m,d,rfl,_⟩:=h;rfl
 ·obtain ⟨p,wl,sl,cells,m,d,rfl,D,r3,r16,m0,m1,q⟩:=h
  obtain ⟨dx,h1⟩:=D.ob
  have Th:=zcj (X:=(za3 CX0 true P w K mg base ["self","other"] "Disk.copied" (ze zcn) f cdv Ar outer s H E).nox)
  refine ⟨_,(W.h (zg (zF (i:=1) zlV.nd rfl (Or.inl rfl) (zml zcj Ge hr rfl (zb (zbY (za 0) T.cl_Disk M_Disk_stretches hr) (zb (zY T.cl_Disk T.na_Disk_width (za 0)) zc))))
   (zg (zay T.cl_Disk T.na_Disk_written (za 1) (zbS (λ_=>rfl) (zah.of zuw) (zbg (zY T.cl_Disk T.na_Disk_written (za 0))) (λ_ _ _ _ _=>(zI (i:=0) zs9 rfl (Or.inl rfl))) (λ_ _ _ _ _=>zbI) (λ_ _ _ _ _=>(zdI zlT rfl T.n_list boot_list (zb (za 0) zc)))))
   (zg (zay T.cl_Disk T.na_Disk_at_sides (za 1) (zdI zlT rfl T.n_list boot_list (zb (zY T.cl_Disk T.na_Disk_at_sides (za 0)) zc)))
   (zg (zay T.cl_Disk T.na_Disk_counted (za 1) (zY T.cl_Disk T.na_Disk_counted (za 0)))
   (zk (zH (za 1)))))))),?_⟩
  simp_all only [h1,zkA]
  refine ⟨p,wl,sl,cells,m,d,rfl,D,?_⟩
  simp_all only [h1,zim]
  intro x dx2 H2 n2
  refine ⟨x,dx2,d.rows.length,m,rfl,n2.at_,by omega,by omega,m0,m1,λwl0 sl0 cells0 H3 D3 kp fr=>⟨rfl,?_⟩⟩
  have s3:zl H H3:=λb o e=>kp b o (n2.same b o e) (zA e n2.no)
  have Dk:zE A H3 p wl sl cells m d:=D.keep (F:=[]) (zn.same s3) (λx _ z=>nomatch z)
  obtain ⟨dx3,g3⟩:=D3.ob
  obtain ⟨dxk,gk⟩:=Dk.ob
  have px:p≠x:=zA h1 n2.no
  simp_all only [gk,zeQ,zaN]
  refine ⟨⟨_,SqL.of Dk.rows.w⟩,zV.lst (xs:=cells.map V.ref) (zvX H3 d.rows) (λi τ ys H' I=>?_) (λi τ ys H' I=>SqL.of (I.same _ _ Dk.rows.w)) ⟨⟨_,rfl⟩,⟨[],rfl,rfl,by simp,by simp,nodup_nil⟩,zl.refl _,by decide⟩ ?_ ?_⟩
  ·obtain ⟨cs,e,l,_⟩:=I.ex
   rw [e,length_map,l]
   exact zhT (le_trans I.le (by decide))
  ·intro N i v τ ys H' hi I hN
   obtain ⟨t,rfl⟩:=I.τ
   obtain ⟨cs,e,l,hc,hf,hcn⟩:=I.ex
   rw [getElem?_map] at hi
   obtain ⟨c,hci,rfl⟩:=map_eq_some_iff.mp hi
   have hcc:=I.same _ _ (Dk.rows.at_ i c hci)
   have hil:i<cells.length:=(List.getElem?_eq_some_iff.mp hci).1
   simp_all only [hcc]
   intro c2 H4 n4
   refine hN _ _ _ ⟨⟨_,rfl⟩,⟨cs++[c2],by rw [e,map_append];rfl,by simp [l],λj b hb=>?_,λb hb=>?_,?_⟩,I.same.trans n4.same,by have:=Dk.rows.len;omega⟩
   ·by_cases hj:j<cs.length
    ·rw [List.getElem?_append_left hj] at hb
     exact n4.same _ _ (hc j b hb)
    ·have hjl:j<(cs++[c2]).length:=(List.getElem?_eq_some_iff.mp hb).1
     have hj2:j=cs.length:=by rw [length_append] at hjl;simp at hjl;omega
     rw [hj2,List.getElem?_append_right (le_refl _)] at hb
     simp at hb
     subst hb
     rw [hj2,l]
     exact n4.at_
   ·rcases mem_append.mp hb with hb|hb
    ·exact hf b hb
    ·rw [mem_singleton] at hb;subst hb;exact I.same.free n4.no
   ·refine nodup_append.mpr ⟨hcn,by simp,λa ha b hb=>?_⟩
    rw [mem_singleton] at hb
    subst hb
    obtain ⟨j,hj⟩:=List.getElem?_of_mem ha
    exact zA (hc j a hj) n4.no
  ·intro τ ys H4 I W H5 nW
   obtain ⟨cs,e,l,hc,hf,hcn⟩:=I.ex
   rw [length_map] at l
   have s35:zl H3 H5:=I.same.trans nW.same
   have g5:=s35 _ _ g3
   have k5:=s35 _ _ gk
   have w5:=nW.at_
   rw [e] at w5
   have sl5:(upd H5 x (.ins A.Disk dx3 (zp m W sl0 (DM.new d.rows.length)))) sl=some (.lst (d.sides.map tv)):=by
    rw [zd (zA D.sides n2.no)];exact s35 _ _ Dk.sides
   have ob5:(upd H5 x (.ins A.Disk dx3 (zp m W sl0 (DM.new d.rows.length)))) p=some (.ins A.Disk dxk (zp m wl sl d)):=by rw [zd px];exact k5
   have e0:(d.rows.length:Int).toNat=d.rows.length:=by omega
   rw [e0] at g5
   simp_all only [g5,zv0,ze1,ob5,zkW,sl5]
   intro S H6 n6
   have x6:H6 x=some (.ins A.Disk dx3 (zp m W sl0 (DM.new d.rows.length))):=n6.same _ _ zq
   have p6:=n6.same _ _ ob5
   have p7:(upd H6 x (.ins A.Disk dx3 (zp m W S (DM.new d.rows.length)))) p=some (.ins A.Disk dxk (zp m wl sl d)):=by rw [zd px];exact p6
   simp_all only [x6,ztI,ze1,p7,zgu,zq,zf9,zbX]
   have xW:x≠W:=zA (I.same _ _ g3) nW.no
   have xS:x≠S:=zA zq n6.no
   have WS:W≠S:=zA (show (upd H5 x (.ins A.Disk dx3 (zp m W sl0 (DM.new d.rows.length)))) W=some _ by rw [zd (Ne.symm xW)];exact w5) n6.no
   have csx:∀c∈cs,c≠x:=λc hcm=>Ne.symm (zA g3 (hf c hcm))
   have csat:∀c∈cs,∃o,H5 c=some o:=λc hcm=>by
    obtain ⟨j,hj⟩:=List.getElem?_of_mem hcm
    exact ⟨_,nW.same _ _ (hc j c hj)⟩
   have csW:∀c∈cs,c≠W:=λc hcm=>by
    obtain ⟨j,hj⟩:=List.getElem?_of_mem hcm
    exact zA (hc j c hj) nW.no
   have csS:∀c∈cs,c≠S:=λc hcm=>by
    obtain ⟨o,ho⟩:=csat c hcm
    exact zA (show (upd H5 x (.ins A.Disk dx3 (zp m W sl0 (DM.new d.rows.length)))) c=some o by rw [zd (csx c hcm)];exact ho) n6.no
   have up:∀b o,b≠x->H5 b=some o->H6 b=some o:=λb o hb h=>n6.same _ _ (by rw [zd hb];exact h)
   have Sn:H S=none:=s3.free (s35.free (by have z:=n6.no;rw [zd (Ne.symm xS)] at z;exact z))
   refine q x W S cs _ ⟨⟨dx3,?_⟩,⟨?_,?_,λi c hi=>?_⟩,?_,?_⟩ (λb o hb=>?_) (λb hb=>?_)
   ·exact zq.trans (congrArg (λl=>some (HO.ins A.Disk dx3 l)) (ztk (d':=d.copy) rfl rfl rfl))
   ·rw [zd (Ne.symm xW)];exact up _ _ (Ne.symm xW) w5
   ·rw [l];exact Dk.rows.len
   ·have hcm:=mem_of_getElem? hi
    rw [zd (csx c hcm)]
    exact up _ _ (csx c hcm) (nW.same _ _ (hc i c hi))
   ·rw [zd (Ne.symm xS)];exact n6.at_
   ·simp only [nodup_cons,mem_cons,not_or]
    exact ⟨⟨xW,xS,λz=>csx x z rfl⟩,⟨WS,λz=>csW W z rfl⟩,λz=>csS S z rfl,hcn⟩
   ·have hbx:b≠x:=zA hb n2.no
    rw [zd hbx]
    exact up _ _ hbx (s35 _ _ (s3 _ _ hb))
   ·simp only [mem_cons] at hb
    rcases hb with rfl|rfl|rfl|hb
    ·exact n2.no
    ·exact s3.free (I.same.free nW.no)
    ·exact Sn
    ·exact s3.free (hf b hb)
def DM.stop(d:DM)(x:Int):DM:={ d with left:=some x }
def zfz(A:zh):Sp:=λvs H Q _=>∃(p wl sl:Addr)(cells:List Addr)(m:Int)(d:DM)(x:Int),vs=[.ref p,.int x]/\zE A H p wl sl cells m d/\∀H',zE A H' p wl sl cells m (d.stop x)->zn [p] H H'->Q .non H'
theorem znT:zu ["self","many"] ["self","many"] (ze zdk):=⟨rfl,rfl,rfl,f!"",rfl,f!"",f!""⟩
theorem zo8{f:Addr}{fd:FuncData}{cm:Bool}(F:Fun K "stop" "Disk.stop" zdk f fd)(T:Txt K mg A):zo P w K mg base CX0 cm 1 f fd ["self","many"] (zfz A):=by
 refine F.ok znT (λvs H Q E h=>?_) (λcdv Ar outer s H vs Q E hr h=>?_)
 ·obtain ⟨p,wl,sl,cells,m,d,x,rfl,_⟩:=h;rfl
 ·obtain ⟨p,wl,sl,cells,m,d,x,rfl,D,q⟩:=h
  obtain ⟨dx,h1⟩:=D.ob
  refine ⟨_,(W.h (zk (zay T.cl_Disk T.na_Disk_left (za 0) (za 1)))),?_⟩
  simp_all only [h1,zh5]
  exact ⟨ze1,q _ (D.obj (d':=d.stop x) rfl rfl) (zn.upd (by simp))⟩
end
def Fr(H:Hp)(l:Addr):Prop:=∀o,(∀ps,o≠.tbl ps)->H l≠some o
theorem Fr.back{H H':Hp}{l:Addr}(s:zD H H')(h:Fr H' l):Fr H l:=λo no e=>h o no (s _ _ no e)
theorem Fr.lst{H:Hp}{l a:Addr}{xs:List V}(h:Fr H l)(e:H a=some (.lst xs)):l≠a:=λz=>h (.lst xs) (λps q=>by cases q) (by rw [z];exact e)
structure zrv(rs:List (List OR)):Prop where
 len:rs.length<=16
 wide:∀i,(rs.getD i []).length<=32
 keys:zkC rs
 nd:((wO rs rs.length).map zy).Nodup
 few:(wO rs rs.length).length<64
section
variable {P:Program}{w:World}{K:Frag}{mg:Str->Option Value}{base:Heap}{A:zh}
end
structure GD(d:PyData)(dp wt:Nat):Prop where
 sh:d.showable=true
 dep:d.depth<=dp
 lv:d.leavesShort 20=true
 wt:d.weight<=wt
theorem znL{i:Int}(h0:0<=i)(h1:i<10 ^ 18):GD (.int i) 0 64:=by
 have hb:i.natAbs<2 ^ 60:=by omega
 refine ⟨?_,le_refl _,?_,?_⟩
 ·simp only [PyData.showable];exact decide_eq_true (zfK (by omega))
 ·simp only [PyData.leavesShort,PyData.shown]
  have:=ziJ h0 h1
  exact decide_eq_true (by first|exact le_trans this (by decide)|omega)
 ·simp only [PyData.weight]
  split
  ·omega
  ·rename_i hz
   have:i.natAbs.log2<60:=(Nat.log2_lt (by intro z;exact hz (by simp;omega))).mpr hb
   omega
theorem zqz{ds:List PyData}{dp wt:Nat}(h:∀d∈ds,GD d dp wt):PyData.showableAll ds=true/\PyData.depthAll ds<=dp/\PyData.leavesShortAll 20 ds=true/\PyData.weightAll ds<=ds.length*(wt+1):=by
 induction ds with
 | nil=>exact ⟨by simp only [PyData.showableAll],by simp only [PyData.depthAll];omega,by simp only [PyData.leavesShortAll],by simp [PyData.weightAll]⟩
 | cons d ds ih =>
  obtain ⟨i1,i2,i3,i4⟩:=ih λx hx=>h x (mem_cons_of_mem _ hx)
  have g:=h d (mem_cons_self ..)
  refine ⟨by simp only [PyData.showableAll];rw [g.sh,i1];rfl,by simp only [PyData.depthAll];exact Nat.max_le.mpr ⟨g.dep,i2⟩,by simp only [PyData.leavesShortAll];rw [g.lv,i3];rfl,?_⟩
  simp only [PyData.weightAll]
  have:=g.wt
  rw [length_cons,Nat.add_mul]
  omega
theorem zya{ds:List PyData}{dp wt:Nat}(h:∀d∈ds,GD d dp wt):GD (.list ds) (dp+1) (ds.length*(wt+1)):=by
 obtain ⟨i1,i2,i3,i4⟩:=zqz h
 exact ⟨by simp only [PyData.showable];exact i1,by simp only [PyData.depth];omega,by simp only [PyData.leavesShort];exact i3,by simp only [PyData.weight];exact i4⟩
theorem ztr{A':Around}{H:Hp}{l:Addr}{d:PyData}{Q:VK}{dp wt:Nat}(hd:zaZ H (.ref l) d)(g:GD d dp wt)(h1:dp<=10)(h2:wt<=45200)(hu:A'.units+64<cLine)(q:Q (.str d.shown) H):zf3 A' [.ref l] H Q:=by
 refine .inl ⟨l,d,rfl,hd,g.sh,by have:=g.dep;omega,?_,q⟩
 have:=PyData.shown_le 20 (by decide) d g.lv
 have:=g.wt
 exact zaD (by omega)
theorem zbH(d:DM):nU d=wO (rdR d.rows) (rdR d.rows).length:=by
 unfold nU
 rw [zlX]
 show wO (rdR d.rows) d.rows.length=wO (rdR d.rows) (List.map _ d.rows).length
 rw [length_map]
theorem zaK(d:DM):(rdR d.rows).length=d.rows.length:=length_map ..
structure DOk(d:DM):Prop where
 tx:zeO d
 nd:((nU d).map zy).Nodup
 few:(nU d).length<=30
 pos:∀t∈nU d,1<=zy t/\zy t<10 ^ 17
 row:∀t∈nU d,zaA t.1
theorem DOk.sh{d:DM}(h:DOk d):zrv (rdR d.rows):=by
 have e:=zbH d
 refine ⟨by rw [zaK];exact h.tx.len,λi=>?_,λt ht=>zgW (by rw [<- e] at ht;exact ht),by rw [<- e];exact h.nd,by rw [<- e];have:=h.few;omega⟩
 rw [za4,length_map]
 by_cases hi:i<d.rows.length
 ·exact (h.tx.ok _ (zeI hi)).1
 ·rw [getD_eq_getElem?_getD,getElem?_eq_none (by omega)];simp
structure DW(A:zh)(H:Hp)(p wl sl sh:Addr)(cells shc:List Addr)(m:Int)(d:DM):Prop where
 disk:zE A H p wl sl cells m d
 shelf:zae H sh shc (rdR d.rows)
 ap:∀x∈wl::sl::cells,x≠sh/\x∉shc
 tb:TB A H
 ok:DOk d
theorem TB.lists{A:zh}{H H':Hp}(h:TB A H){F:List Addr}(k:zn F H H')(hF:∀x∈F,(∃xs,H x=some (.lst xs))\/∃C dx fs,H x=some (.ins C dx fs)):TB A H':=h.keep k λx hx o e=>by
 rcases hF x hx with ⟨xs,z⟩|⟨C,dx,fs,z⟩ <;> · rw [z] at e;cases e;exact ⟨λ_ q=>(by cases q),λ_ q=>(by cases q)⟩
section
variable {A:zh}{H H':Hp}{p wl sl sh:Addr}{cells shc:List Addr}{m:Int}{d:DM}
theorem DW.sameT(h:DW A H p wl sl sh cells shc m d)(s:zD H H')(tb:TB A H'):DW A H' p wl sl sh cells shc m d:=⟨h.disk.sameT s,h.shelf.sameT s,h.ap,tb,h.ok⟩
theorem DW.same(h:DW A H p wl sl sh cells shc m d)(s:zl H H'):DW A H' p wl sl sh cells shc m d:=h.sameT (.of s) (h.tb.same s)
theorem TB.put{A:zh}{l:Addr}{xs:List V}{o:HO}(tb:TB A H)(e:H l=some (.lst xs)):TB A (upd H l o):=tb.lists (F:=[l]) (zn.upd (by simp)) λx hx=>by rw [mem_singleton] at hx;subst hx;exact .inl ⟨_,e⟩
end
abbrev zdA:Stmt:=top 37
abbrev zdh:Stmt:=top 39
structure LR(n:Int)(xs:List V):Prop where
 ok:zaA xs
 hd:∃y ys,xs = .str y::.int n::ys
 len:xs.length<=7
section
variable {P:Program}{w:World}{K:Frag}{mg:Str->Option Value}{base:Heap}{A:zh}
def zhx:Sp:=λvs H Q _=>∃(a:Addr)(n:Int)(hot:Bool),vs=[.ref a,.int n,.bl hot]/\Pot H a/\1<=n/\n<10 ^ 17/\∀r xs H',But a H H'->Pot H' a->LR n xs->H' r=some (.tup xs)->Q (.ref r) H'
theorem zrL{v:V}(h:v∈[V.str "w",.str "0",.str "x1",.str "carry",.str "abcdefghij0123456789"]):∃z:Str,v = .str z/\zcf z=true:=by
 simp only [mem_cons,not_mem_nil,or_false] at h
 rcases h with rfl|rfl|rfl|rfl|rfl<;>exact ⟨_,rfl,f!""⟩
theorem zwW{v:V}(h:v∈[V.str "a",.str "carry",.str "put",.str "zzzzzz"]):∃z:Str,v = .str z/\zbG z=true:=by
 simp only [mem_cons,not_mem_nil,or_false] at h
 rcases h with rfl|rfl|rfl|rfl<;>exact ⟨_,rfl,f!""⟩
theorem zb6:zu ["_law_pot_here","_law_number","_law_is_hot","_law_word","_law_name","_law_place","_law_group","_law_some"] ["_law_pot_here","_law_number","_law_is_hot"] (ze zdA):=⟨rfl,rfl,rfl,f!"",rfl,f!"",f!""⟩
theorem zwg{f:Addr}{fd:FuncData}(F:Fun K "_law_row" "_law_row" zdA f fd)(T:Txt K mg A)(Gb:GF P w K mg base true 1 "_law_draw" ["_law_pot_here","_law_many"] zbi)(Gc:GF P w K mg base true 2 "_law_drawn" ["_law_pot_here","_law_some"] zdx):zo P w K mg base CX0 true 3 f fd ["_law_pot_here","_law_number","_law_is_hot"] zhx:=by
 refine F.ok zb6 (λvs H Q E h=>?_) (λcdv Ar outer s H vs Q E hr h=>?_)
 ·obtain ⟨a,n,hot,rfl,_⟩:=h;rfl
 ·obtain ⟨a,n,hot,rfl,hP,n1,n2,q⟩:=h
  have hu:_<cLine:=lt_of_succ_lt (zX hr)
  refine ⟨_,(W.h (zg (zF (i:=3) zb6.nd rfl (Or.inl rfl) (zr Gc hr rfl (zb (za 0) (zb (zat (zb zS (zb zS (zb zS (zb zS (zb zS zc)))))) zc))))
   (zg (z7 (zbV (zaU (za 2)))
   (zk (zH (zav (zb zS (zb (za 1) (zb (zr Gb hr rfl (zb (za 0) (zb (za 1) zc))) (zb (za 3) zc)))))))
   zam)
   (zg (zF (i:=4) zb6.nd rfl (Or.inl rfl) (zr Gc hr rfl (zb (za 0) (zb (zat (zb zS (zb zS (zb zS (zb zS zc))))) zc))))
   (zg (zF (i:=5) zb6.nd rfl (Or.inl rfl) (zr Gb hr rfl (zb (za 0) (zb zi zc))))
   (zg (zF (i:=6) zb6.nd rfl (Or.inl rfl) (zG zdu (za 1) (zr Gb hr rfl (zb (za 0) (zb (zG zau (zM (zgH rfl) rfl T.n_min boot_min (zb (za 1) (zb zi zc))) zi) zc)))))
   (zg (zF (i:=7) zb6.nd rfl (Or.inl rfl) (zat (zb (zav (zb zS (zb (za 1) (zb (za 6) (zb (zeD (zbA hu) (zr Gb hr rfl (zb (za 0) (zb zi zc))) zi (zaa _)) (zb (za 4) (zb (za 5) (zb (za 3) zc)))))))) zc)))
   (zg (zF (i:=7) zb6.nd rfl (Or.inl rfl) (zG zau (za 7) (zat (zb (zav (zb zS (zb (za 1) (zb (za 1) (zb zbc (zb (za 4) (zb zi (zb (za 3) zc)))))))) (zb (zav (zb zS (zb (za 1) (zb (za 4) (zb (za 5) zc))))) zc)))))
   (zg (zF (i:=7) zb6.nd rfl (Or.inl rfl) (zG zau (za 7) (zat (zb (zav (zb zS (zb (za 1) (zb (za 4) zc)))) (zb (zav (zb zS (zb (za 1) (zb (za 4) zc)))) zc)))))
   (zk (zH (zr Gc hr rfl (zb (za 0) (zb (za 7) zc)))))))))))))),?_⟩
  have hn:zaE n:=⟨by omega,by omega⟩
  simp_all only []
  refine ⟨by decide,λl1 H1 m1 _=>⟨a,hP.same m1.same,.inl ⟨l1,_,rfl,hP.ne m1.no,.inl m1.at_,by simp,by simp,λv H2 hv b2 hP2=>?_⟩⟩⟩
  obtain ⟨wd,rfl,hwd⟩:=zrL hv
  have bA:=(But.of m1.same).trans b2
  cases hot with
  | false =>
   simp_all only []
   refine ⟨a,n,rfl,hP2,by omega,Int.lt_of_lt_of_le n2 (by decide),λg H3 b3 hP3 g0 g1=>?_⟩
   simp_all only []
   refine ⟨by decide,λp2 H4 m4=>q _ _ H4 ((bA.trans b3).trans (But.of m4.same)) (hP3.same m4.same) ⟨.carry n g _ hn ⟨g0,by omega⟩ hwd,⟨_,_,rfl⟩,by simp⟩ m4.at_⟩
  | true =>
   simp_all only []
   refine ⟨by decide,λl3 H3 m3 _=>⟨a,hP2.same m3.same,.inl ⟨l3,_,rfl,hP2.ne m3.no,.inl m3.at_,by simp,by simp,λv H4 hv4 b4 hP4=>?_⟩⟩⟩
   obtain ⟨nm,rfl,hnm⟩:=zwW hv4
   have bB:=(bA.trans (But.of m3.same)).trans b4
   try simp_all only []
   refine ⟨a,200,rfl,hP4,by decide,by decide,λpl H5 b5 hP5 pl0 pl1=>?_⟩
   try simp_all only []
   refine ⟨a,_,rfl,hP5,?_,?_,λgd H6 b6 hP6 gd0 gd1=>?_⟩
   ·split<;>omega
   ·have:(2:Int) ^ 64=18446744073709551616:=by decide
    split<;>omega
   have gd2:gd<=n:=by split at gd1<;>omega
   try simp_all only []
   refine ⟨a,2,rfl,hP6,by decide,by decide,λeb H7 b7 hP7 eb0 eb1=>?_⟩
   try simp_all only []
   refine ⟨by decide,λp1 K1 m1=>⟨by decide,λq1 K2 m2 _=>⟨by decide,λp2 K3 m3=>⟨by decide,λp3 K4 m4=>⟨by decide,λq2 K5 m5 _=>⟨_,m5.same _ _ (m4.same _ _ (m3.same _ _ m2.at_)),_,m5.at_,zaD (by simp),λq3 K6 m6=>⟨by decide,λp4 K7 m7=>⟨by decide,λp5 K8 m8=>⟨by decide,λq4 K9 m9 _=>⟨_,m9.same _ _ (m8.same _ _ (m7.same _ _ m6.at_)),_,m9.at_,zaD (by simp),λq5 K10 m10=>?_⟩⟩⟩⟩⟩⟩⟩⟩⟩⟩
   have s19:zl H7 K9:=((((((((m1.same.trans m2.same).trans m3.same).trans m4.same).trans m5.same).trans m6.same).trans m7.same).trans m8.same).trans m9.same)
   have hP9:=hP7.same s19
   have hP10:=hP9.same m10.same
   refine ⟨a,hP10,.inl ⟨q5,_,rfl,hP9.ne m10.no,.inl m10.at_,by simp,by simp,λv H8 hv8 b8 hP8=>?_⟩⟩
   have ne:∀{b:Addr}{xs:List V},K10 b=some (.tup xs)->b≠a:=λ{b xs} e z=>by
    obtain ⟨x,y,ea,_⟩:=hP10.ex
    rw [z,ea] at e;cases e
   have bZ:But a H H8:=((((bB.trans b5).trans b6).trans b7).trans (But.of (s19.trans m10.same))).trans b8
   have hpl:zaE pl:=⟨by omega,by omega⟩
   have t8:=λ{b:Addr}{xs:List V}(e:K8 b=some (.tup xs))=>m10.same _ _ (m9.same _ _ e)
   have t5:=λ{b:Addr}{xs:List V}(e:K5 b=some (.tup xs))=>t8 (m8.same _ _ (m7.same _ _ (m6.same _ _ e)))
   have t3:=λ{b:Addr}{xs:List V}(e:K3 b=some (.tup xs))=>t5 (m5.same _ _ (m4.same _ _ e))
   have e1:=t3 (m3.same _ _ (m2.same _ _ m1.at_))
   have e2:=t3 m3.at_
   have e3:=t5 (m5.same _ _ m4.at_)
   have e4:=t8 (m8.same _ _ m7.at_)
   have e5:=t8 m8.at_
   simp only [List.cons_append,nil_append,mem_cons,not_mem_nil,or_false] at hv8
   rcases hv8 with rfl|rfl|rfl|rfl|rfl
   ·exact q _ _ H8 bZ hP8 ⟨.put n (n-gd) _ nm pl wd hn ⟨by omega,by omega⟩ hpl hnm hwd,⟨_,_,rfl⟩,by simp⟩ (b8 _ _ (ne e1) e1)
   ·exact q _ _ H8 bZ hP8 ⟨.put n n true nm 0 wd hn hn ⟨by decide,by decide⟩ hnm hwd,⟨_,_,rfl⟩,by simp⟩ (b8 _ _ (ne e2) e2)
   ·exact q _ _ H8 bZ hP8 ⟨.cut n nm pl hn hpl hnm,⟨_,_,rfl⟩,by simp⟩ (b8 _ _ (ne e3) e3)
   ·exact q _ _ H8 bZ hP8 ⟨.hold n nm hn hnm,⟨_,_,rfl⟩,by simp⟩ (b8 _ _ (ne e4) e4)
   ·exact q _ _ H8 bZ hP8 ⟨.free n nm hn hnm,⟨_,_,rfl⟩,by simp⟩ (b8 _ _ (ne e5) e5)
structure Ris(ns:List Int)(top:Int):Prop where
 up:ns.Pairwise (· < ·)
 in_:∀n∈ns,1<=n/\n<=top
 last:ns.getLast?=some top
structure NmI(H:Hp)(a l:Addr)(many:Int)(i:Nat)(σ:L2.St)(H':Hp):Prop where
 ex:∃t,σ=[some (V.ref a),some (.int many),some (.ref l),t]
 but:But a H H'
 pot:Pot H' a
 no:H l=none
 ls:∃ns top,H' l=some (.lst (ns.map V.int))/\ns.length=i+1/\Ris ns top/\top<=10 ^ 16+3*i
 le:i<=20
def ziv:Sp:=λvs H Q _=>∃(a:Addr)(many:Nat),vs=[.ref a,.int many]/\Pot H a/\1<=many/\many<=20/\∀l (ns:List Int) H',But a H H'->Pot H' a->H l=none->H' l=some (.lst (ns.map V.int))->ns.length=many->ns.Nodup->(∀n∈ns,1<=n/\n<10 ^ 17)->Q (.ref l) H'
theorem But.no{a l:Addr}{H H':Hp}(b:But a H H')(hP:Pot H' a)(h:H' l=none):H l=none:=by
 cases e:H l with
 | none=>rfl
 | some o =>
  have:=b l o (hP.ne h) e
  rw [h] at this;cases this
theorem zge:zu ["_law_pot_here","_law_many","_law_found","_law_k"] ["_law_pot_here","_law_many"] (ze zdh):=⟨rfl,rfl,rfl,f!"",rfl,f!"",f!""⟩
theorem ztn{f:Addr}{fd:FuncData}(F:Fun K "_law_numbers" "_law_numbers" zdh f fd)(T:Txt K mg A)(Gb:GF P w K mg base true 1 "_law_draw" ["_law_pot_here","_law_many"] zbi):zo P w K mg base CX0 true 2 f fd ["_law_pot_here","_law_many"] ziv:=by
 refine F.ok zge (λvs H Q E h=>?_) (λcdv Ar outer s H vs Q E hr h=>?_)
 ·obtain ⟨a,many,rfl,_⟩:=h;rfl
 ·obtain ⟨a,many,rfl,hP,n1,n2,q⟩:=h
  refine ⟨_,(W.h (zg (zF (i:=2) zge.nd rfl (Or.inl rfl) (zat (zb (zG zau zi (zr Gb hr rfl (zb (za 0) (zb (zL zQ (zat (zb zi (zb (zG zhb zi zi) zc))) (zr Gb hr rfl (zb (za 0) (zb zi zc))) (λ_ _=>rfl)) zc)))) zc)))
   (zg (zbd PassesOwn.never (λ_=>rfl) (zb0 rfl T.n_range (zb (zG zdu (za 1) zi) zc)) (zI (i:=3) zge.nd rfl (Or.inl rfl))
   (zk (zZ (zeL (za 2) (zG zau (zG zau (zL zQ (za 2) (zwH zvr zi) (λ_ _=>rfl)) zi) (zG zd4 (zr Gb hr rfl (zb (za 0) (zb zi zc))) (zr Gb hr rfl (zb (za 0) (zb zi zc)))))))))
   (zk (zH (za 2)))))),?_⟩
  simp_all only []
  refine ⟨⟨by decide,by decide,by decide⟩,by decide,λlp H1 m1 _=>?_⟩
  try simp_all only []
  refine ⟨a,2,rfl,hP.same m1.same,by decide,by decide,λr H2 b2 hP2 r0 r1=>?_⟩
  try simp_all only []
  have lpa:lp≠a:=hP.ne m1.no
  have e2:=b2 _ _ lpa m1.at_
  have hv:∃y:Int,atI [V.int 9,V.int (10 ^ 16)] r=some (.int y)/\1<=y/\y<=10 ^ 16:=by
   have:r=0\/r=1:=by omega
   rcases this with rfl|rfl
   ·exact ⟨9,rfl,by decide,by decide⟩
   ·exact ⟨10 ^ 16,rfl,by decide,by decide⟩
  obtain ⟨y,hy,y1,y2⟩:=hv
  refine ⟨_,.inl e2,_,hy,a,y,rfl,hP2,by omega,Int.lt_of_le_of_lt y2 (by decide),λd H3 b3 hP3 d0 d1=>?_⟩
  have bA:=((But.of m1.same).trans b2).trans b3
  simp only [zdg]
  refine ⟨by decide,λl H4 m4 _=>⟨by omega,by omega,?_⟩⟩
  have bB:=bA.trans (But.of m4.same)
  have er:((many:Nat)-1:Int).toNat=many-1:=by omega
  rw [er]
  refine zad.rng (NmI H a l many) ⟨⟨_,rfl⟩,bB,hP3.same m4.same,bA.no hP3 m4.no,⟨[1+d],1+d,m4.at_,rfl,⟨List.pairwise_singleton ..,λn hn=>by rw [mem_singleton] at hn;omega,rfl⟩,by omega⟩,by omega⟩ ?_ ?_
  ·rintro i σ H5 hi ⟨⟨t,rfl⟩,b5,hP5,ln,⟨ns,top,hl,hlen,R,ht⟩,le⟩
   have la:l≠a:=hP.ne ln
   simp_all only [hl]
   have hix:atI (ns.map V.int) (-1)=some (.int top):=by
    rcases List.eq_nil_or_concat ns with rfl|⟨zs,z,ez⟩
    ·simp at hlen
    ·rw [List.concat_eq_append] at ez
     have hz:=R.last
     rw [ez,List.getLast?_concat] at hz
     cases hz
     rw [ez,map_append]
     exact zuA _ _
   refine ⟨_,hix,?_⟩
   simp only [zdg]
   refine ⟨a,3,rfl,hP5,by decide,by decide,λr3 H6 b6 hP6 r30 r31=>⟨a,2,rfl,hP6,by decide,by decide,λr4 H7 b7 hP7 r40 r41=>?_⟩⟩
   simp only [zi8,zdg]
   have hp0:0<=r3*r4/\r3*r4<=2:=by
    have h3:r3=0\/r3=1\/r3=2:=by omega
    have h4:r4=0\/r4=1:=by omega
    rcases h3 with rfl|rfl|rfl<;>rcases h4 with rfl|rfl<;>decide
   generalize r3*r4=g at hp0
   refine ⟨.inl ⟨by omega,by omega⟩,_,b7 _ _ la (b6 _ _ la hl),by rw [length_map];exact zaG (by omega),⟨_,rfl⟩,λc o nc ec=>?_,?_,ln,⟨ns++[top+1+g],_,by rw [zq,map_append];rfl,by simp [hlen],⟨?_,λn hn=>?_,List.getLast?_concat ..⟩,by omega⟩,by omega⟩
   ·rw [zd (zA ec ln)];exact b7 _ _ nc (b6 _ _ nc (b5 _ _ nc ec))
   ·obtain ⟨x,y,ea,rr⟩:=hP7.ex
    exact ⟨⟨x,y,by rw [zd (Ne.symm la)];exact ea,rr⟩⟩
   ·rw [List.pairwise_append]
    exact ⟨R.up,List.pairwise_singleton ..,λx hx z hz=>by rw [mem_singleton] at hz;have:=R.in_ x hx;omega⟩
   ·rcases mem_append.mp hn with hn|hn
    ·have:=R.in_ n hn;omega
    ·rw [mem_singleton] at hn
     obtain ⟨z,hz⟩:∃z,z∈ns:=by cases ns with|nil=>simp at hlen|cons z zs=>exact ⟨z,mem_cons_self ..⟩
     have:=R.in_ z hz
     omega
  ·rintro σ H5 ⟨⟨t,rfl⟩,b5,hP5,ln,⟨ns,top,hl,hlen,R,ht⟩,le⟩
   simp_all only []
   exact q l ns H5 b5 hP5 ln hl (by omega) (R.up.imp λh=>by omega) λn hn=>by have:=R.in_ n hn;omega
end
theorem zkG{z y:Str}{m:Int}{c:Nat}(h:zbx z y m=true)(hc:c∉sg y):c∉sg z:=λz'=>by
 unfold zbx at h
 rw [and_eq_true] at h
 have:=all_eq_true.mp h.2 c z'
 exact hc (by simpa using this)
theorem ziU{i:Int}(h:zaE i):59∉sg (toString i:Str):=λz=>by
 have:=(zc8 h.1 h.2).dig 59 z
 omega
theorem zaA.no59{xs:List V}(h:zaA xs):∀v∈xs,59∉sg (z8 v):=by
 have bno:∀b:Bool,59∉sg (z8 (.bl b)):=λb=>by cases b<;>decide +kernel
 have nmn:∀{z:Str},zbG z=true->59∉sg (z8 (.str z)):=λhz=>zkG hz (f!"")
 have wdn:∀{z:Str},zcf z=true->59∉sg (z8 (.str z)):=λhz=>zkG hz (f!"")
 have inn:∀{i:Int},zaE i->59∉sg (z8 (.int i)):=λhi=>ziU hi
 cases h with
 | put n g b nm pl wd h1 h2 h3 h4 h5 =>
  intro v hv
  simp only [mem_cons,not_mem_nil,or_false] at hv
  rcases hv with rfl|rfl|rfl|rfl|rfl|rfl|rfl
  ·exact (by decide +kernel:59∉sg ("put":Str))
  ·exact inn h1
  ·exact inn h2
  ·exact bno b
  ·exact nmn h4
  ·exact inn h3
  ·exact wdn h5
 | cut n nm pl h1 h2 h3 =>
  intro v hv
  simp only [mem_cons,not_mem_nil,or_false] at hv
  rcases hv with rfl|rfl|rfl|rfl
  ·exact (by decide +kernel:59∉sg ("cut":Str))
  ·exact inn h1
  ·exact nmn h3
  ·exact inn h2
 | hold n nm h1 h2 =>
  intro v hv
  simp only [mem_cons,not_mem_nil,or_false] at hv
  rcases hv with rfl|rfl|rfl
  ·exact (by decide +kernel:59∉sg ("hold":Str))
  ·exact inn h1
  ·exact nmn h2
 | free n nm h1 h2 =>
  intro v hv
  simp only [mem_cons,not_mem_nil,or_false] at hv
  rcases hv with rfl|rfl|rfl
  ·exact (by decide +kernel:59∉sg ("free":Str))
  ·exact inn h1
  ·exact nmn h2
 | carry n g wd h1 h2 h3 =>
  intro v hv
  simp only [mem_cons,not_mem_nil,or_false] at hv
  rcases hv with rfl|rfl|rfl|rfl
  ·exact (by decide +kernel:59∉sg ("carry":Str))
  ·exact inn h1
  ·exact inn h2
  ·exact wdn h3
theorem ziu(b:Str):sg (zbl b)=(sg b++sg (toString (zaW b):Str))++[59]:=by
 unfold zbl
 rw [zbs,zbs]
 rfl
theorem zut{xs:List V}(h:∀v∈xs,59∉sg (z8 v)):59∉zR xs:=λz=>by
 unfold zR at z
 obtain ⟨l,hl,hz⟩:=List.mem_flatten.mp z
 obtain ⟨v,hv,rfl⟩:=mem_map.mp hl
 rcases mem_append.mp hz with hz|hz
 ·exact h v hv hz
 ·simp at hz
theorem zwI{xs:List V}(ok:zaA xs){j:Nat}(h:j<(zak xs).length):zbo (tx ((sg (zak xs)).take j))=none:=by
 have hs:=ziu (tx (zR xs))
 have hsum:=zb9 (tx (zR xs))
 have no:59∉sg (tx (zR xs))++sg (toString (zaW (tx (zR xs))):Str):=λz=>by
  rcases mem_append.mp z with z|z
  ·rw [zaS] at z;exact zut ok.no59 z
  ·exact ziU ⟨hsum.1,by omega⟩ z
 have hl:(zak xs).length=(sg (tx (zR xs))++sg (toString (zaW (tx (zR xs))):Str)).length+1:=by
  show (zbl _).length=_
  rw [<- zac,hs,length_append];rfl
 have no2:59∉(sg (zak xs)).take j:=λz=>by
  unfold zak at z
  rw [hs,List.take_append_of_le_length (by omega)] at z
  exact no (List.mem_of_mem_take z)
 unfold zbo zf0
 rw [if_neg]
 ·rfl
 ·intro e
  apply no2
  have:=congrArg sg e
  rw [zaS,ziu] at this
  rw [this]
  exact mem_append_right _ (mem_singleton.mpr rfl)
theorem zui{xs:List V}(ok:zaA xs)(hl:xs.length<=7):asc (zak xs)=true/\(zak xs).length<=1000/\zbo (zak xs)=some xs/\2<=(zak xs).length:=by
 obtain ⟨_,_,_,hp⟩:=ok.parts
 obtain ⟨l1,l2⟩:=zgE hp
 have F:=zc8 (zb9 (tx (zR xs))).1 (by have:=(zb9 (tx (zR xs))).2;omega)
 have nl:=ziJ (zb9 (tx (zR xs))).1 (by have:=(zb9 (tx (zR xs))).2;omega)
 refine ⟨?_,?_,ok.read,?_⟩
 ·unfold zak zbl
  rw [zaQ,zbs,zbs,zaS,all_append,all_append,l2]
  have:(sg (toString (zaW (tx (zR xs))):Str)).all (λc=>decide (c<128))=true:=all_eq_true.mpr λc hc=>decide_eq_true (by have:=F.dig c hc;omega)
  rw [this]
  decide +kernel
 ·unfold zak zbl
  rw [<- zac,zbs,zbs,zaS,length_append,length_append,zac]
  have:(sg (";":Str)).length=1:=by decide +kernel
  rw [this]
  omega
 ·show 2<=(zbl _).length
  rw [<- zac,ziu,length_append,length_append,length_singleton]
  have:=F.one
  omega
theorem zeW{α:Type}:∀{l m:List α},l.Nodup->(∀x∈l,x∈m)->l.length<=m.length
 | [],_,_,_=>zero_le _
 | x::l,m,nd,h=>by
  obtain ⟨n1,n2⟩:=nodup_cons.mp nd
  obtain ⟨m1,m2,rfl⟩:=List.append_of_mem (h x (mem_cons_self ..))
  have:=zeW (m:=m1++m2) n2 λy hy=>by
   rcases mem_append.mp (h y (mem_cons_of_mem _ hy)) with z|z
   ·exact mem_append_left _ z
   ·rcases mem_cons.mp z with z|z
    ·subst z;exact absurd hy n1
    ·exact mem_append_right _ z
  simp only [length_cons,length_append] at this ⊢
  omega
theorem zef(d:DM):(nU d).Nodup:=by rw [zbH];exact zjL _
theorem zjy{d:DM}(inj:∀s t:Tri,s∈nU d->t∈nU d->zy s=zy t->s=t):((nU d).map zy).Nodup :=
 pairwise_map.mpr (List.Pairwise.imp_of_mem (λ{a b} ha hb h e=>h (inj a b ha hb e)) (zef d))
structure TOk(m:Int)(d:DM)(ns:List Int):Prop where
 size:3<=d.rows.length/\d.rows.length<=16/\2<=m/\m<=32
 wide:∀i,((d.rows.getD i []).length:Int)<=m
 nd:ns.Nodup
 in_:∀n∈ns,1<=n/\n<10 ^ 17
 apart:∀t∈nU d,zy t∉ns
 few:(nU d).length+ns.length<=20
theorem DOk.less{d d':DM}(h:DOk d)(tx:zeO d')(hs:∀t∈nU d',t∈nU d):DOk d' :=
 ⟨tx,zjy λs t hs' ht' e=>zla h.nd (hs s hs') (hs t ht') e,le_trans (zeW (zef d') hs) h.few,λt ht=>h.pos t (hs t ht),λt ht=>h.row t (hs t ht)⟩
theorem TOk.less{m:Int}{d d':DM}{ns:List Int}(h:TOk m d ns)(hl:d'.rows.length=d.rows.length)(hw:∀i,((d'.rows.getD i []).length:Int)<=m)(hs:∀t∈nU d',t∈nU d):TOk m d' ns :=
 ⟨by rw [hl];exact h.size,hw,h.nd,h.in_,λt ht=>h.apart t (hs t ht),le_trans (Nat.add_le_add_right (zeW (zef d') hs) _) h.few⟩
theorem zdM{rows:List (List Tx)}{k:Nat}{r:List Tx}:rdR (rows.set k r)=(rdR rows).set k (r.map rdT):=by
 unfold rdR
 rw [map_set]
theorem zeO.set{d:DM}(h:zeO d){k:Nat}{r:List Tx}{c:Int}{lf:Option Int}{st:Bool}{sd:List Tx}(hr:r.length<=32/\∀t∈r,∀z,t=some z->asc z=true/\z.length<=1000):zeO ⟨d.rows.set k r,sd,c,lf,st⟩:=by
 refine ⟨λq hq=>?_,by show (d.rows.set k r).length<=16;rw [length_set];exact h.len⟩
 rcases List.mem_or_eq_of_mem_set hq with hq|rfl
 ·exact h.ok q hq
 ·exact hr
def DM.wrote(d:DM)(k:Nat)(t:Str)(c:Int):DM:={ d with rows:=d.rows.set k (d.rows.getD k []++[some t]),cnt:=c }
def DM.cleared(d:DM)(k:Nat)(c:Int):DM:={ d with rows:=d.rows.set k [],cnt:=c }
theorem zxR{d:DM}{m:Int}{k:Nat}{t:Str}(h1:d.left=none)(h2:d.st=false)(hw:((d.rows.getD k []).length:Int)<m):d.write m k t=(.val (.int (d.rows.getD k []).length),d.wrote k t (d.cnt+t.length)):=by
 have edn:dn d.left t.length=t.length:=by rw [h1];rfl
 have es:(d.spend t.length).st=false:=by show decide _=false;rw [edn];exact decide_eq_false (Int.lt_irrefl _)
 unfold DM.write
 rw [if_neg (by rw [h2];exact Bool.false_ne_true),if_neg (by omega),if_neg (by rw [es];exact λz=>Bool.false_ne_true z.2),if_neg (by rw [es];exact Bool.false_ne_true),edn]
 have ec:zc0 t t.length=some t:=by
  show some (Txt.slice t none (some (t.length:Int)))=_
  rw [zho (by rw [zac];exact le_refl _),<- zac,take_of_length_le (le_refl _),zer]
 rw [ec]
 have e2:d.spend t.length={ d with cnt:=d.cnt+t.length }:=by
  unfold DM.spend
  rw [edn,h1,h2,decide_eq_false (Int.lt_irrefl _)]
  rfl
 rw [e2]
 rfl
theorem zoU{d:DM}{k:Nat}(h1:d.left=none)(h2:d.st=false):d.empty k=(.val .non,d.cleared k (d.cnt+(d.rows.getD k []).length)):=by
 have edn:dn d.left (d.rows.getD k []).length=(d.rows.getD k []).length:=by rw [h1];rfl
 have es:(d.spend (d.rows.getD k []).length).st=false:=by show decide _=false;rw [edn];exact decide_eq_false (Int.lt_irrefl _)
 unfold DM.empty
 rw [if_neg (by rw [h2];exact Bool.false_ne_true),if_neg (by rw [es];exact Bool.false_ne_true)]
 have e2:d.spend (d.rows.getD k []).length={ d with cnt:=d.cnt+(d.rows.getD k []).length }:=by
  unfold DM.spend
  rw [edn,h1,h2,decide_eq_false (Int.lt_irrefl _)]
  rfl
 rw [e2]
 rfl
section
variable {d:DM}{m:Int}{ns:List Int}{k:Nat}
theorem zld{c:Int}(hk:k<d.rows.length){t:Tri}:t∈nU (d.cleared k c)↔t∈nU d/\t.2.1≠k:=by
 rw [zbH,zbH]
 show t∈wO (rdR (d.rows.set k [])) (rdR (d.rows.set k [])).length↔_
 rw [zdM]
 exact zvR (by rw [zaK];exact hk)
theorem zuH{c:Int}(h:DOk d)(hk:k<d.rows.length):DOk (d.cleared k c):=h.less (h.tx.set ⟨by simp,by simp⟩) λt ht=>((zld hk).mp ht).1
theorem zxL{c:Int}(hm:2<=m)(hw:∀i,((d.rows.getD i []).length:Int)<=m)(hk:k<d.rows.length)(i:Nat):(((d.cleared k c).rows.getD i []).length:Int)<=m:=by
 show (((d.rows.set k []).getD i []).length:Int)<=m
 rw [zcu hk]
 split
 ·simp;omega
 ·exact hw i
theorem zxW{c:Int}(h:TOk m d ns)(hk:k<d.rows.length):TOk m (d.cleared k c) ns:=h.less (by show (d.rows.set k []).length=_;rw [length_set]) (zxL h.size.2.2.1 h.wide hk) λt ht=>((zld hk).mp ht).1
theorem zhg{t:Str}{c:Int}(hk:k<d.rows.length){u:Tri}:u∈nU (d.wrote k t c)↔u∈nU d\/(rdT (some t)=some u.1/\u.2=(k,(d.rows.getD k []).length)):=by
 rw [zbH,zbH]
 show u∈wO (rdR (d.rows.set k (d.rows.getD k []++[some t]))) (rdR (d.rows.set k (d.rows.getD k []++[some t]))).length↔_
 rw [zdM,map_append,<- za4]
 have:=zqR (rs:=rdR d.rows) (o:=rdT (some t)) (k:=k) (by rw [zaK];exact hk) (t:=u)
 rw [show ([some t]:List Tx).map rdT=[rdT (some t)] from rfl,this,za4,length_map]
theorem zuu{t:Str}{c:Int}{i:Nat}{n:Int}(h:DOk d)(ht:TOk m d ns)(hk:k<d.rows.length)(hw:((d.rows.getD k []).length:Int)<m)(ha:asc t=true)(hl:t.length<=1000)(hn:ns[i]?=some n)(hr:∀xs,rdT (some t)=some xs->zfA xs=n)(hro:∀xs,rdT (some t)=some xs->zaA xs) :
  DOk (d.wrote k t c)/\TOk m (d.wrote k t c) (ns.eraseIdx i):=by
 have hsz:=ht.size
 have hnm:n∈ns:=mem_of_getElem? hn
 have hi:i<ns.length:=(List.getElem?_eq_some_iff.mp hn).1
 have new:∀{u:Tri},u∈nU (d.wrote k t c)->u∈nU d\/(zy u=n/\rdT (some t)=some u.1/\u.2=(k,(d.rows.getD k []).length)):=λ{u} hu=>by
  rcases (zhg hk).mp hu with hu|⟨h1,h2⟩
  ·exact .inl hu
  ·exact .inr ⟨hr _ h1,h1,h2⟩
 have lenU:(nU (d.wrote k t c)).length<=(nU d).length+1:=by
  cases e:rdT (some t) with
  | none =>
   refine Nat.le_succ_of_le (zeW (zef _) λu hu=>?_)
   rcases (zhg hk).mp hu with hu|⟨h1,_⟩
   ·exact hu
   ·rw [e] at h1;cases h1
  | some xs =>
   have:=zeW (m:=(xs,k,(d.rows.getD k []).length)::nU d) (zef (d.wrote k t c)) λu hu=>by
    rcases (zhg hk).mp hu with hu|⟨h1,h2⟩
    ·exact mem_cons_of_mem _ hu
    ·rw [e] at h1
     cases h1
     obtain ⟨x,y⟩:=u
     cases (show y=_ from h2)
     exact mem_cons_self ..
   simpa using this
 have hle:=List.length_eraseIdx_of_lt hi
 have hfew:=ht.few
 have hnd':∀x∈ns.eraseIdx i,x∈ns/\x≠n:=λx hx=>by
  refine ⟨(List.eraseIdx_sublist ..).subset hx,λz=>?_⟩
  rw [List.mem_eraseIdx_iff_getElem?] at hx
  obtain ⟨j,hj,e⟩:=hx
  subst z
  exact hj ((getElem?_inj hi ht.nd).mp (hn.trans e.symm)).symm
 refine ⟨⟨h.tx.set ⟨?_,?_⟩,zjy ?_,by omega,λu hu=>?_,λu hu=>?_⟩,⟨by show 3<=(d.rows.set k _).length/\(d.rows.set k _).length<=16/\_;rw [length_set];exact hsz,λj=>?_,ht.nd.sublist (List.eraseIdx_sublist ..),λx hx=>ht.in_ x (hnd' x hx).1,λu hu z=>?_,by omega⟩⟩
 ·rw [length_append,length_singleton];omega
 ·intro q hq z hz
  rcases mem_append.mp hq with hq|hq
  ·exact (h.tx.ok _ (zeI hk)).2 q hq z hz
  ·rw [mem_singleton] at hq;subst hq;cases hz;exact ⟨ha,hl⟩
 ·intro s u hs hu e
  rcases new hs with hs|⟨s1,s2,s3⟩
  ·rcases new hu with hu|⟨u1,_⟩
   ·exact zla h.nd hs hu e
   ·exact absurd (by rw [e,u1];exact hnm) (ht.apart s hs)
  ·rcases new hu with hu|⟨u1,u2,u3⟩
   ·exact absurd (by rw [<- e,s1];exact hnm) (ht.apart u hu)
   ·obtain ⟨a,b⟩:=s
    obtain ⟨a',b'⟩:=u
    have:a=a':=by rw [s2] at u2;exact Option.some.inj u2
    rw [this,show b=b' from s3.trans u3.symm]
 ·rcases new hu with hu|⟨u1,_⟩
  ·exact h.pos u hu
  ·rw [u1];exact ht.in_ n hnm
 ·rcases new hu with hu|⟨_,u2,_⟩
  ·exact h.row u hu
  ·exact hro _ u2
 ·show (((d.rows.set k _).getD j []).length:Int)<=m
  rw [zcu hk]
  split
  ·rw [length_append,length_singleton];omega
  ·exact ht.wide j
 ·obtain ⟨z1,z2⟩:=hnd' _ z
  rcases new hu with hu|⟨u1,_⟩
  ·exact ht.apart u hu z1
  ·exact z2 u1
end
abbrev zcE:Stmt:=top 38
section
variable {A:zh}{H H':Hp}{a nl p wl sl sh:Addr}{cells shc:List Addr}{m:Int}{d:DM}{ns:List Int}
theorem Pot.lst(h:Pot H a):∃xs,H a=some (.lst xs):=let ⟨x,y,e,_⟩:=h.ex;⟨_,e⟩
theorem zfV{b c:Addr}{xs:List V}{C dx:Addr}{fs:List (Str×V)}(h:H b=some (.lst xs))(h':H c=some (.ins C dx fs)):b≠c:=λz=>by rw [z,h'] at h;cases h
theorem zE.lists(D:zE A H p wl sl cells m d):∀x∈p::wl::sl::cells,(∃xs,H x=some (.lst xs))\/∃C dx fs,H x=some (.ins C dx fs):=λx hx=>by
 obtain ⟨dx,hp⟩:=D.ob
 rcases mem_cons.mp hx with rfl|hx
 ·exact .inr ⟨_,_,_,hp⟩
 ·rcases mem_cons.mp hx with rfl|hx
  ·exact .inl ⟨_,D.rows.w⟩
  ·rcases mem_cons.mp hx with rfl|hx
   ·exact .inl ⟨_,D.sides⟩
   ·obtain ⟨i,hi,rfl⟩:=getElem_of_mem hx
    exact .inl ⟨_,D.rows.at_ i _ (List.getElem?_eq_getElem hi)⟩
theorem zE.out(D:zE A H p wl sl cells m d){c:Addr}{zs:List V}(e:H c=some (.lst zs))(hn:∀x∈wl::sl::cells,x≠c):c∉p::wl::sl::cells:=λz=>by
 obtain ⟨dx,hp⟩:=D.ob
 rcases mem_cons.mp z with z|z
 ·exact zfV e hp z
 ·exact hn c z rfl
theorem zE.tup(D:zE A H p wl sl cells m d)(b:zn (p::wl::sl::cells) H H'){r:Addr}{xs:List V}(e:H r=some (.tup xs)):H' r=some (.tup xs):=b _ _ e λz=>by
 rcases D.lists r z with ⟨ys,q⟩|⟨C,dx,fs,q⟩ <;> · rw [q] at e;cases e
theorem zae.keepF{rs:List (List OR)}(h:zae H sh shc rs){F:List Addr}(k:zn F H H')(hF:∀x∈F,(∃xs,H x=some (.lst xs))\/∃C dx fs,H x=some (.ins C dx fs))(h1:sh∉F)(h2:∀c∈shc,c∉F):zae H' sh shc rs :=
 h.keep (λr xs e=>k _ _ e λz=>by rcases hF r z with ⟨xs,q⟩|⟨C,dx,fs,q⟩ <;> · rw [q] at e;cases e) λb xs hb e=>k _ _ e (by
  rcases hb with rfl|hb
  ·exact h1
  ·exact h2 b hb)
theorem DW.put{b:Addr}{xs:List V}(h:DW A H p wl sl sh cells shc m d)(e:H b=some (.lst xs))(h1:∀x∈wl::sl::cells,x≠b)(h2:b≠sh)(h3:b∉shc)(k:zn [b] H H'):DW A H' p wl sl sh cells shc m d:=by
 have hF:∀x∈[b],(∃xs,H x=some (.lst xs))\/∃C dx fs,H x=some (.ins C dx fs):=λx hx=>by rw [mem_singleton] at hx;subst hx;exact .inl ⟨_,e⟩
 obtain ⟨dx,hp⟩:=h.disk.ob
 refine ⟨h.disk.keep k λx hx z=>?_,h.shelf.keepF k hF (by simpa using λz=>h2 z.symm) (λc hc z=>by rw [mem_singleton] at z;exact h3 (z ▸ hc)),h.ap,h.tb.lists k hF,h.ok⟩
 rw [mem_singleton] at z
 rcases mem_cons.mp hx with rfl|hx
 ·exact zfV e hp z.symm
 ·exact h1 x hx z
theorem DW.diskB(h:DW A H p wl sl sh cells shc m d)(b:zn (p::wl::sl::cells) H H'):zae H' sh shc (rdR d.rows)/\TB A H':=by
 refine ⟨h.shelf.keepF b h.disk.lists (h.disk.out h.shelf.w λx hx=>(h.ap x hx).1) λc hc=>?_,h.tb.lists b h.disk.lists⟩
 obtain ⟨i,hi,rfl⟩:=getElem_of_mem hc
 obtain ⟨vs,e,_⟩:=h.shelf.at_ i _ (List.getElem?_eq_getElem hi)
 exact h.disk.out e λx hx z=>(h.ap x hx).2 (z ▸ hc)
theorem zae.set{rs:List (List OR)}(S:zae H sh shc rs){k:Nat}{c:Addr}{vs':List V}{r':List OR}(hk:k<rs.length)(hc:shc[k]?=some c)(hp:Paired (zbn H) vs' r'):zae (upd H c (.lst vs')) sh shc (rs.set k r'):=by
 have hm:=mem_of_getElem? hc
 obtain ⟨n1,n2⟩:=nodup_cons.mp S.nd
 obtain ⟨vs0,hv0,_⟩:=S.at_ k c hc
 have kt:∀r xs,H r=some (.tup xs)->upd H c (.lst vs') r=some (.tup xs):=λr xs e=>by rw [zd (λz=>by rw [z,hv0] at e;cases e)];exact e
 refine ⟨by rw [zd (λz:sh=c=>n1 (by rw [z];exact hm))];exact S.w,by rw [length_set];exact S.len,λi ci hi=>?_,S.nd⟩
 rw [zcu hk]
 by_cases h:i=k
 ·subst h
  rw [hc] at hi
  cases hi
  rw [if_pos rfl]
  exact ⟨vs',zq,Paired.mapP hp λv o r=>r.keep kt⟩
 ·rw [if_neg h]
  obtain ⟨vs,hv,pv⟩:=S.at_ i ci hi
  refine ⟨vs,?_,Paired.mapP pv λv o r=>r.keep kt⟩
  rw [zd (λz:ci=c=>h (ziV n2 hi (by rw [z];exact hc)))]
  exact hv
theorem DW.done{d':DM}{k:Nat}{c:Addr}{vs':List V}{r':List OR}(h:DW A H p wl sl sh cells shc m d)(b:zn (p::wl::sl::cells) H H')(hk:k<d.rows.length)(D':zE A H' p wl sl cells m d')(hr:rdR d'.rows=(rdR d.rows).set k r')(hc:shc[k]?=some c)(hp:Paired (zbn H') vs' r')(ok:DOk d') :
  DW A (upd H' c (.lst vs')) p wl sl sh cells shc m d':=by
 obtain ⟨hS,hT⟩:=h.diskB b
 have hm:=mem_of_getElem? hc
 obtain ⟨vs0,hv0,_⟩:=hS.at_ k c hc
 obtain ⟨dx,hob⟩:=D'.ob
 have kk:zn [c] H' (upd H' c (.lst vs')):=zn.upd (by simp)
 refine ⟨D'.keep kk λx hx z=>?_,by rw [hr];exact hS.set (by rw [zaK];exact hk) hc hp,h.ap,hT.put hv0,ok⟩
 rw [mem_singleton] at z
 rcases mem_cons.mp hx with rfl|hx
 ·exact zfV hv0 hob z.symm
 ·exact (h.ap x hx).2 (z ▸ hm)
structure QW(A:zh)(H:Hp)(a nl p wl sl sh:Addr)(cells shc:List Addr)(m:Int)(d:DM)(ns:List Int):Prop where
 dw:DW A H p wl sl sh cells shc m d
 pot:Pot H a
 nums:H nl=some (.lst (ns.map V.int))
 ap:∀x∈wl::sl::cells,x≠a/\x≠nl
 ap2:a≠nl/\a≠sh/\a∉shc/\nl≠sh/\nl∉shc
 live:d.left=none/\d.st=false
 sd:d.sides.length=2
theorem But.keeps{b:Addr}(h:But b H H'):zn [b] H H':=λc o e n=>h c o (λz=>n (by simp [z])) e
theorem DW.potB(h:DW A H p wl sl sh cells shc m d)(hP:Pot H a)(h1:∀x∈wl::sl::cells,x≠a)(h2:a≠sh)(h3:a∉shc)(b:But a H H'):DW A H' p wl sl sh cells shc m d:=by
 obtain ⟨xs,e⟩:=hP.lst
 exact h.put e h1 h2 h3 b.keeps
theorem QW.potB(h:QW A H a nl p wl sl sh cells shc m d ns)(b:But a H H')(hP:Pot H' a):QW A H' a nl p wl sl sh cells shc m d ns :=
 ⟨h.dw.potB h.pot (λx hx=>(h.ap x hx).1) h.ap2.2.1 h.ap2.2.2.1 b,hP,b _ _ (Ne.symm h.ap2.1) h.nums,h.ap,h.ap2,h.live,h.sd⟩
theorem QW.same(h:QW A H a nl p wl sl sh cells shc m d ns)(s:zl H H'):QW A H' a nl p wl sl sh cells shc m d ns:=⟨h.dw.same s,h.pot.same s,s _ _ h.nums,h.ap,h.ap2,h.live,h.sd⟩
theorem QW.popped{ns':List Int}(h:QW A H a nl p wl sl sh cells shc m d ns):QW A (upd H nl (.lst (ns'.map V.int))) a nl p wl sl sh cells shc m d ns':=by
 obtain ⟨x,y,e,r⟩:=h.pot.ex
 exact ⟨h.dw.put h.nums (λx hx=>(h.ap x hx).2) h.ap2.2.2.2.1 h.ap2.2.2.2.2 (zn.upd (by simp)),⟨⟨x,y,by rw [zd h.ap2.1];exact e,r⟩⟩,zq,h.ap,h.ap2,h.live,h.sd⟩
theorem QW.done{d':DM}{k:Nat}{c:Addr}{vs':List V}{r':List OR}(h:QW A H a nl p wl sl sh cells shc m d ns)(b:zn (p::wl::sl::cells) H H')(hk:k<d.rows.length)(D':zE A H' p wl sl cells m d')(hr:rdR d'.rows=(rdR d.rows).set k r')(hc:shc[k]?=some c)(hp:Paired (zbn H') vs' r')(ok:DOk d')(lv:d'.left=none/\d'.st=false)(sd:d'.sides.length=2) :
  QW A (upd H' c (.lst vs')) a nl p wl sl sh cells shc m d' ns:=by
 have hm:=mem_of_getElem? hc
 obtain ⟨x,y,e,r⟩:=h.pot.ex
 refine ⟨h.dw.done b hk D' hr hc hp ok,⟨⟨x,y,?_,r⟩⟩,?_,h.ap,h.ap2,lv,sd⟩
 ·rw [zd (λz:a=c=>h.ap2.2.2.1 (z ▸ hm))]
  exact b _ _ e (h.dw.disk.out e λx hx=>(h.ap x hx).1)
 ·rw [zd (λz:nl=c=>h.ap2.2.2.2.2 (z ▸ hm))]
  exact b _ _ h.nums (h.dw.disk.out h.nums λx hx=>(h.ap x hx).2)
def FT(a nl p wl sl sh:Addr)(cells shc:List Addr):List Addr:=a::nl::p::wl::sl::sh::(cells++shc)
theorem TOk.small(h:TOk m d ns):small d:=λk=>by have:=h.wide k;have:=h.size;omega
end
section
variable {P:Program}{w:World}{K:Frag}{mg:Str->Option Value}{base:Heap}{A:zh}
theorem zlc{α β:Type}{f:α->β}:∀{l:List α}{i:Nat},(l.map f).eraseIdx i=(l.eraseIdx i).map f
 | [],_=>rfl
 | _::_,0=>rfl
 | x::l,i+1=>by show f x::(l.map f).eraseIdx i=f x::(l.eraseIdx i).map f;rw [zlc]
structure HtI(H:Hp)(n:Nat)(i:Nat)(τ:L2.St)(ys:List V)(H':Hp):Prop where
 le:i<=n
 ex:∃t1,τ=[t1]
 ys:∃bs:List Bool,ys=bs.map V.bl/\bs.length<=i
 same:H'=H
def zhG(A:zh):Sp:=λvs H Q _=>∃(a nl p wl sl sh:Addr)(cells shc:List Addr)(m:Int)(d:DM)(ns:List Int),vs=[.ref a,.ref p,.ref sh,.ref nl]/\QW A H a nl p wl sl sh cells shc m d ns/\TOk m d ns/\1<=ns.length /\
 ∀d' ns' H',QW A H' a nl p wl sl sh cells shc m d' ns'->TOk m d' ns'->ns.length<=ns'.length+1->zn (FT a nl p wl sl sh cells shc) H H'->Q .non H'
theorem zdT:zu ["_law_pot_here","_law_disk_here","_law_shelf","_law_numbers_here","_law_stretch","_law_way","_law_heats","_law_row_here","_law_text"] ["_law_pot_here","_law_disk_here","_law_shelf","_law_numbers_here"] (ze zcE):=⟨rfl,rfl,rfl,f!"",rfl,f!"",f!""⟩
theorem zpF:zaF { kind:=.function,names:=[(Str.ofString ".0",.local),(Str.ofString "_law_row_here",.local)],isGenerator:=false,isCoroutine:=false,more:=[] } (ze zcE).names ["_law_pot_here","_law_disk_here","_law_shelf","_law_numbers_here","_law_stretch","_law_way","_law_heats","_law_row_here","_law_text"] ["_law_row_here"] [none]=true:=by decide +kernel
theorem zpv:(["_law_row_here"]:List Str).Nodup:=by decide +kernel
theorem zvj{f:Addr}{fd:FuncData}(F:Fun K "_law_turn" "_law_turn" zcE f fd)(T:Txt K mg A)(Gb:GF P w K mg base true 1 "_law_draw" ["_law_pot_here","_law_many"] zbi)(M_Disk_empty:GMX P w K mg base true 2 A.Disk "empty" ["self","stretch"] (zfQ A))(M_Disk_places:GM P w K mg base true 1 A.Disk "places" ["self"] (zcF A λm _=>.int m))(Gq:GF P w K mg base true 3 "_law_row" ["_law_pot_here","_law_number","_law_is_hot"] zhx)(Gr:GF P w K mg base true 3 "row_text" ["row"] zhV)(M_Disk_write:GMX P w K mg base true 3 A.Disk "write" ["self","stretch","text"] (zfC A)):zo P w K mg base CX0 true 4 f fd ["_law_pot_here","_law_disk_here","_law_shelf","_law_numbers_here"] (zhG A):=by
 refine F.ok zdT (λvs H Q E h=>?_) (λcdv Ar outer s H vs Q E hr h=>?_)
 ·obtain ⟨a,nl,p,wl,sl,sh,cells,shc,m,d,ns,rfl,_⟩:=h;rfl
 ·obtain ⟨a,nl,p,wl,sl,sh,cells,shc,m,d,ns,rfl,Tw,ok,n1,q⟩:=h
  have hu:_<cLine:=lt_of_succ_lt (zX hr)
  refine ⟨_,(W.h (zg (zF (i:=4) zdT.nd rfl (Or.inl rfl) (zr Gb hr rfl (zb (za 0) (zb (zM zaI rfl T.n_len PySem.boot_len (zb (za 2) zc)) zc))))
   (zg (zF (i:=5) zdT.nd rfl (Or.inl rfl) (zr Gb hr rfl (zb (za 0) (zb zi zc))))
   (zk (z7 (zal (zbA hu) (za 5) zi (zaa _))
   (zg (zZ (zdb (za 1) T.cl_Disk zcj M_Disk_empty hr (zb (za 4) zc)))
   (zk (zZ (zl0 (zL zQ (za 2) (za 4) (λ_ _=>rfl))))))
   (zk (z7 (zal zfg (zM zaI rfl T.n_len PySem.boot_len (zb (zL zQ (za 2) (za 4) (λ_ _=>rfl)) zc)) (zbY (za 1) T.cl_Disk M_Disk_places hr) (zaa _))
   (zg (zeK (i0:=6) zdT.nd rfl (Or.inl rfl) (λ_=>rfl) (zah.of zpF) (zbg (zL zQ (za 2) (za 4) (λ_ _=>rfl))) (λ_ _ _ _ _=>(zI (i:=0) zpv rfl (Or.inl rfl))) (λ_ _ _ _ _=>(zeE (zal zfl (za 0) zbt (zaa _)))) (λ_ _ _ _ _=>(zeD (zgB hu) (zL zQ (za 0) zi (λ_ _=>rfl)) zS (zaa _))))
   (zg (zF (i:=7) zdT.nd rfl (Or.inl rfl) (zr Gq hr rfl (zb (za 0) (zb (zpD (za 3) (zr Gb hr rfl (zb (za 0) (zb (zM zaI rfl T.n_len PySem.boot_len (zb (za 3) zc)) zc)))) (zb (zL zQ (zG zau (za 6) (zat (zb (zeD zhB (zr Gb hr rfl (zb (za 0) (zb zi zc))) zi (zaa _)) zc))) zi (λ_ _=>rfl)) zc)))))
   (zg (zF (i:=8) zdT.nd rfl (Or.inl rfl) (zr Gr hr rfl (zb (za 7) zc)))
   (zk (z7 (zal zfg (za 5) zi (zaa _))
   (zg (zZ (zdb (za 1) T.cl_Disk zcj M_Disk_write hr (zb (za 4) (zb (zdn zfI (za 8) zdy (zdJ (zG zau zi (zr Gb hr rfl (zb (za 0) (zb (zG zdu (zM zaI rfl T.n_len PySem.boot_len (zb (za 8) zc)) zi) zc)))))) zc))))
   (zk (zZ (zeL (zL zQ (za 2) (za 4) (λ_ _=>rfl)) zbt))))
   (zg (zZ (zdb (za 1) T.cl_Disk zcj M_Disk_write hr (zb (za 4) (zb (za 8) zc))))
   (zk (zZ (zeL (zL zQ (za 2) (za 4) (λ_ _=>rfl)) (za 7))))))))))
   zam))))))),?_⟩
  have hsz:=ok.size
  have hw0:=Tw.dw.shelf.w
  simp_all only [hw0,length_map,Tw.dw.shelf.len,zaK]
  refine ⟨a,_,rfl,Tw.pot,by omega,by omega,λk' H1 b1 hP1 k0 k1=>?_⟩
  obtain ⟨k,rfl⟩:=Int.eq_ofNat_of_zero_le k0
  have hk:k<d.rows.length:=by omega
  have T1:=Tw.potB b1 hP1
  try simp_all only []
  refine ⟨a,10,rfl,hP1,by decide,by decide,λway H2 b2 hP2 w0 w1=>?_⟩
  have T2:=T1.potB b2 hP2
  have kA:zn (FT a nl p wl sl sh cells shc) H H2:=(b1.keeps.mono (by simp [FT])).trans (b2.keeps.mono (by simp [FT]))
  obtain ⟨dx2,ob2⟩:=T2.dw.disk.ob
  have hw2:=T2.dw.shelf.w
  obtain ⟨c,vs,hc,ha,hv2,pv2,lv2⟩:=T2.dw.shelf.cell (k:=k) (by rw [zaK];exact hk)
  have hcm:=mem_of_getElem? hc
  have lv2':vs.length=(d.rows.getD k []).length:=by rw [lv2,za4,length_map]
  simp_all only [ob2,zks]
  refine zaV (λhway=>?_) (λhway=>?_)
  ·refine ⟨p,wl,sl,cells,m,d,k,rfl,T2.dw.disk,hk,ok.small,(λl e=>by rw [Tw.live.1] at e;cases e),λH3 D3 b3=>?_⟩
   rw [zoU Tw.live.1 Tw.live.2] at D3 ⊢
   unfold Out
   dsimp only
   obtain ⟨S3,_⟩:=T2.dw.diskB b3
   obtain ⟨c',vs3,hc',ha3,hv3,pv3,lv3⟩:=S3.cell (k:=k) (by rw [zaK];exact hk)
   rw [hc] at hc'
   cases hc'
   have hw3:=S3.w
   have kZ:zn (FT a nl p wl sl sh cells shc) H (upd H3 c (.lst [])):=(kA.trans (b3.mono (by simp [FT];intro x hx;simp [hx]))).trans (zn.upd (by simp [FT,hcm]))
   refine ⟨_,.inl hw3,_,ha3,c,rfl,⟨_,hv3⟩,q (d.cleared k _) ns _ (T2.done b3 hk D3 (r':=[]) ?_ hc .nil (zuH T2.dw.ok hk) T2.live T2.sd) (zxW ok hk) (by omega) kZ⟩
   exact zdM
  ·try simp_all only [ob2,zpP,hw2,ha,hv2]
   refine ⟨p,wl,sl,cells,m,d,rfl,T2.dw.disk,?_⟩
   simp_all only []
   rw [lv2']
   refine zaV (λhwd=>?_) (λhwd=>?_)
   rotate_left
   ·exact q d ns H2 T2 ok (by omega) kA
   have hwd:((d.rows.getD k []).length:Int)<m:=of_decide_eq_true hwd
   refine ⟨_,.inl hw2,_,ha,?_⟩
   rw [zhF]
   have okd:=T2.dw.ok
   have hkeys:∀j xs,((rdR d.rows).getD k [])[j]?=some (some xs)->∃y n ys,xs=V.str y::V.int n::ys:=λj xs e=>okd.sh.keys (xs,k,j) (zbM.mpr ⟨by rw [zaK];exact hk,(List.getElem?_eq_some_iff.mp e).1,by show ((rdR d.rows).getD k []).getD j none=_;rw [getD_eq_getElem?_getD,e];rfl⟩)
   have hw32:=okd.sh.wide k
   refine ⟨⟨_,SqL.of hv2⟩,zV.lst (xs:=vs) (HtI H2 vs.length) (λi τ ys H' I=>?_) (λi τ ys H' I=>by rw [I.same];exact SqL.of hv2) ⟨zero_le _,⟨_,rfl⟩,⟨[],rfl,le_refl _⟩,rfl⟩ ?_ ?_⟩
   ·obtain ⟨bs,e,l⟩:=I.ys
    rw [e,length_map]
    exact zaG (by have:=I.le;omega)
   ·intro N i x τ ys H' hx I hN
    obtain ⟨t1,rfl⟩:=I.ex
    obtain ⟨bs,e,l⟩:=I.ys
    have es:=I.same
    subst es
    have hi:i<((rdR d.rows).getD k []).length:=by rw [<- lv2];exact (List.getElem?_eq_some_iff.mp hx).1
    have hri:((rdR d.rows).getD k [])[i]?=some ((rdR d.rows).getD k [])[i]:=List.getElem?_eq_getElem hi
    have hr:=zaO pv2 hx hri
    have hk2:=hkeys i
    rw [hri] at hk2
    generalize ((rdR d.rows).getD k [])[i]=o at hr hk2
    cases o with
    | none =>
     cases (show x=V.non from hr)
     simp_all only []
     exact hN _ _ _ ⟨by omega,⟨_,rfl⟩,⟨bs,e,by omega⟩,rfl⟩
    | some xs =>
     obtain ⟨rr,rfl,hrr⟩:=hr
     obtain ⟨y,n,zs,rfl⟩:=hk2 xs rfl
     have ix:atI (V.str y::V.int n::zs) 0=some (V.str y):=zcZ (j:=0) (by simp)
     simp_all only [hrr,ix]
     exact hN _ _ _ ⟨by omega,⟨_,rfl⟩,⟨bs++[_],by rw [e,map_append];rfl,by simp;omega⟩,rfl⟩
   ·intro τ ys H' I D3 H3 m3
    obtain ⟨bs,ebs,lbs⟩:=I.ys
    have es:=I.same
    subst es
    rw [ebs] at m3
    have T3:=T2.same m3.same
    have hn3:=T3.nums
    have nsl:=ok.few
    refine ⟨⟨_,hn3⟩,_,.inl hn3,a,_,rfl,T3.pot,by rw [length_map];omega,by rw [length_map];omega,λri H4 b4 hP4 r0 r1=>?_⟩
    obtain ⟨i,rfl⟩:=Int.eq_ofNat_of_zero_le r0
    have hi:i<ns.length:=by rw [length_map] at r1;omega
    have hni:ns[i]?=some ns[i]:=List.getElem?_eq_getElem hi
    have hnb:=ok.in_ _ (List.getElem_mem hi)
    generalize ns[i]=n at hni hnb
    have T4:=T3.potB b4 hP4
    refine ⟨_,i,rfl,T4.nums,_,by rw [getElem?_map,hni];rfl,?_⟩
    rw [zlc]
    have T5:=T4.popped (ns':=ns.eraseIdx i)
    have k5:zn [nl] H4 (upd H4 nl (.lst ((ns.eraseIdx i).map V.int))):=zn.upd (by simp)
    generalize upd H4 nl (.lst ((ns.eraseIdx i).map V.int))=H5 at T5 k5 ⊢
    refine ⟨a,3,rfl,T5.pot,by decide,by decide,λg H6 b6 hP6 g0 g1=>?_⟩
    have T6:=T5.potB b6 hP6
    simp only [zmb]
    refine ⟨by decide,λpl H7 m7 _=>?_⟩
    have T7:=T6.same m7.same
    have Da:D3≠a:=T2.pot.ne m3.no
    have Dn:D3≠nl:=λz=>by have:=m3.no;rw [z,T2.nums] at this;cases this
    have eD:H7 D3=some (.lst (bs.map V.bl)):=m7.same _ _ (b6 _ _ Da (k5 _ _ (b4 _ _ Da m3.at_) (by simpa using Dn)))
    have lbs32:bs.length<=32:=by omega
    rw [zdm]
    refine ⟨_,_,eD,m7.at_,zaD (by simp;omega),λp8 H8 m8=>?_⟩
    rw [zcM]
    obtain ⟨hot,hhot⟩:∃hot:Bool,atI (bs.map V.bl++[V.bl (decide (0<g))]) 0=some (.bl hot):=by
     cases bs with
     | nil=>exact ⟨_,rfl⟩
     | cons b bs=>exact ⟨b,zcZ (j:=0) (by simp)⟩
    have T8:=T7.same m8.same
    refine ⟨_,.inl m8.at_,_,hhot,a,n,hot,rfl,T8.pot,hnb.1,hnb.2,λr xs H9 b9 hP9 lr hr9=>?_⟩
    have T9:=T8.potB b9 hP9
    obtain ⟨ra,rl,rr,rl2⟩:=zui lr.ok lr.len
    have k9:zn (FT a nl p wl sl sh cells shc) H H9:=(((((kA.trans (zn.same m3.same)).trans (b4.keeps.mono (by simp [FT]))).trans (k5.mono (by simp [FT]))).trans (b6.keeps.mono (by simp [FT]))).trans (zn.same (m7.same.trans m8.same))).trans (b9.keeps.mono (by simp [FT]))
    have fin:∀(t:Str)(v:V)(H11:Hp)(Q':VK)(E':XK),QW A H11 a nl p wl sl sh cells shc m d (ns.eraseIdx i)->zn (FT a nl p wl sl sh cells shc) H H11->asc t=true->t.length<=1000->(∀xs',rdT (some t)=some xs'->zfA xs'=n)->(∀xs',rdT (some t)=some xs'->zaA xs')->(∀H12,zn (p::wl::sl::cells) H11 H12->zbn H12 v (rdT (some t))) ->
      (∀u H12 c vs,H12 sh=some (.lst (shc.map V.ref))->atI (shc.map V.ref) (k:Int)=some (.ref c)->H12 c=some (.lst vs)->vs.length<sizeLine->Q .non (upd H12 c (.lst (vs++[v])))->Q' u H12)->zfC A [.ref p,.int k,.str t] H11 Q' E':=λt v H11 Q' E' TT kk hta htl hkey hro hcr cont=>by
     refine ⟨p,wl,sl,cells,m,d,k,t,rfl,TT.dw.disk,hk,htl,ok.small,λH12 D12 b12=>?_⟩
     rw [zxR TT.live.1 TT.live.2 hwd] at D12 ⊢
     obtain ⟨S12,_⟩:=TT.dw.diskB b12
     obtain ⟨c',vs',hc',ha',hv',pv',lv'⟩:=S12.cell (k:=k) (by rw [zaK];exact hk)
     have hcm':=mem_of_getElem? hc'
     obtain ⟨od,tod⟩:=zuu (c:=d.cnt+t.length) (i:=i) TT.dw.ok ok hk hwd hta htl hni hkey hro
     have hset:rdR (d.wrote k t (d.cnt+t.length)).rows=(rdR d.rows).set k ((rdR d.rows).getD k []++[rdT (some t)]):=by
      show rdR (d.rows.set k _)=_
      rw [zdM,map_append,za4];rfl
     refine cont _ H12 c' vs' S12.w ha' hv' (zaG (by omega)) (q _ (ns.eraseIdx i) _ (TT.done b12 hk D12 hset hc' (zbB pv' (.cons (hcr H12 b12) .nil)) od TT.live TT.sd) tod (by rw [List.length_eraseIdx_of_lt hi];omega) ?_)
     exact (kk.trans (b12.mono (by simp [FT];intro x hx;simp [hx]))).trans (zn.upd (by simp [FT,hcm']))
    refine ⟨r,xs,rfl,.inr hr9,lr.ok.parts.1,lr.ok.parts.2.2.2,λH10 s10=>?_⟩
    have T10:=T9.same s10
    have hr10:=s10 _ _ hr9
    have k10:=k9.trans (zn.same s10)
    obtain ⟨dx10,ob10⟩:=T10.dw.disk.ob
    have hkey:zfA xs=n:=by obtain ⟨y,ys,e⟩:=lr.hd;rw [e];rfl
    refine zaV (λhw3=>?_) (λhw3=>?_)
    ·refine ⟨dx10,_,ob10,zls,?_⟩
     try simp_all only []
     refine ⟨zaD (by omega),a,_,rfl,T10.pot,by omega,by omega,λj' H11 b11 hP11 j0 j1=>?_⟩
     obtain ⟨j,rfl⟩:=Int.eq_ofNat_of_zero_le j0
     have hj:1+j<(zak xs).length:=by omega
     have T11:=T10.potB b11 hP11
     have k11:=k10.trans (b11.keeps.mono (by simp [FT]))
     simp only [zdg,zlr]
     have et:Txt.slice (zak xs) none (some (1+(j:Int)))=tx ((sg (zak xs)).take (1+j)):=by
      have e:(1+(j:Int))=((1+j:Nat):Int):=by omega
      rw [e,zho (by rw [zac];omega)]
     rw [et]
     have hnone:rdT (some (tx ((sg (zak xs)).take (1+j))))=none:=zwI lr.ok hj
     refine ⟨zaD (by omega),fin _ .non H11 _ _ T11 k11 ?_ ?_ (λxs' e=>by rw [hnone] at e;cases e) (λxs' e=>by rw [hnone] at e;cases e) (λH12 b12=>by rw [hnone];rfl) λu H12 c vs h1 h2 h3 h4 h5=>⟨_,.inl h1,_,h2,c,rfl,⟨_,h3⟩,_,h3,h4,h5⟩⟩
     ·rw [zaQ,zaS]
      rw [zaQ] at ra
      exact all_eq_true.mpr λc hc=>all_eq_true.mp ra c (List.mem_of_mem_take hc)
     ·rw [zkf,length_take,zac];omega
    ·refine ⟨dx10,_,ob10,zls,fin _ (.ref r) H10 _ _ T10 k10 ra rl (λxs' e=>by rw [show rdT (some (zak xs))=some xs from rr] at e;cases e;exact hkey) (λxs' e=>by rw [show rdT (some (zak xs))=some xs from rr] at e;cases e;exact lr.ok) (λH12 b12=>by rw [show rdT (some (zak xs))=some xs from rr];exact ⟨r,rfl,T10.dw.disk.tup b12 hr10⟩) λu H12 c vs h1 h2 h3 h4 h5=>⟨_,.inl h1,_,h2,c,rfl,⟨_,h3⟩,_,h3,h4,h5⟩⟩
end
abbrev zcT:Stmt:=top 40
def DM.torn(d:DM)(k j:Nat):DM:={ d with rows:=d.rows.set k (replicate j none++(d.rows.getD k []).drop j),cnt:=d.cnt+j }
theorem zuT{d:DM}{k j:Nat}(h2:d.st=false)(hj:j<(d.rows.getD k []).length):(d.stop j).empty k=(.stop,{ d.torn k j with left:=some 0,st:=true }):=by
 have edn:dn (d.stop j).left (((d.stop j).rows.getD k []).length:Nat)=j:=by
  show (if (j:Int)<((d.rows.getD k []).length:Int) then (j:Int) else _)=j
  rw [if_pos (by omega)]
 have e2:(d.stop j).spend (((d.stop j).rows.getD k []).length:Nat)={ d with cnt:=d.cnt+j,left:=some 0,st:=true }:=by
  unfold DM.spend
  rw [edn]
  have e3:(d.stop j).left.map (· - (j:Int))=some 0:=by show some ((j:Int)-j)=some 0;rw [Int.sub_self]
  have e4:decide ((j:Int)<(((d.stop j).rows.getD k []).length:Nat))=true:=decide_eq_true (by show (j:Int)<((d.rows.getD k []).length:Int);omega)
  rw [e3,e4]
  rfl
 unfold DM.empty
 rw [if_neg (by show ¬ d.st=true;rw [h2];exact Bool.false_ne_true),if_pos (by rw [e2]),edn,e2,toNat_natCast]
 rfl
theorem zll{d:DM}{k j:Nat}(hk:k<d.rows.length)(hj:j<(d.rows.getD k []).length){t:Tri}(h:t∈nU (d.torn k j)):t∈nU d:=by
 rw [zbH] at h ⊢
 rw [zbM] at h ⊢
 rw [zaK] at h ⊢
 obtain ⟨h1,h2,h3⟩:=h
 have e:(rdR (d.torn k j).rows).getD t.2.1 []=if t.2.1=k then replicate j none++((rdR d.rows).getD k []).drop j else (rdR d.rows).getD t.2.1 []:=by
  show (rdR (d.rows.set k _)).getD _ _=_
  rw [zdM,zcu (by rw [zaK];exact hk)]
  split
  ·rw [map_append,List.map_replicate,List.map_drop,za4];rfl
  ·rfl
 have h1':t.2.1<d.rows.length:=by
  have:(d.torn k j).rows.length=d.rows.length:=length_set ..
  omega
 rw [e] at h2 h3
 by_cases hk2:t.2.1=k
 ·rw [if_pos hk2] at h2 h3
  rw [length_append,length_replicate,length_drop] at h2
  by_cases hb:t.2.2<j
  ·rw [getD_eq_getElem?_getD,List.getElem?_append_left (by rw [length_replicate];exact hb),List.getElem?_replicate,if_pos hb] at h3
   cases h3
  ·rw [getD_eq_getElem?_getD,List.getElem?_append_right (by rw [length_replicate];omega),length_replicate,List.getElem?_drop] at h3
   have hl:((rdR d.rows).getD k []).length=(d.rows.getD k []).length:=by rw [za4,length_map]
   refine ⟨h1',by rw [hk2];omega,?_⟩
   rw [hk2,getD_eq_getElem?_getD]
   rw [show j+(t.2.2-j)=t.2.2 by omega] at h3
   exact h3
 ·rw [if_neg hk2] at h2 h3
  exact ⟨h1',h2,h3⟩
theorem zkX{d:DM}{k j:Nat}(hj:j<(d.rows.getD k []).length):(replicate j (none:Tx)++(d.rows.getD k []).drop j).length=(d.rows.getD k []).length:=by rw [length_append,length_replicate,length_drop];omega
theorem zvW{d:DM}{k j:Nat}{c:Int}{lf:Option Int}{st:Bool}(h:DOk d)(hk:k<d.rows.length)(hj:j<(d.rows.getD k []).length):DOk { d.torn k j with left:=lf,st:=st }:=by
 refine h.less (h.tx.set ⟨?_,λq hq z hz=>?_⟩) λt ht=>zll hk hj ht
 ·rw [zkX hj];exact (h.tx.ok _ (zeI hk)).1
 ·rcases mem_append.mp hq with hq|hq
  ·rw [(List.mem_replicate.mp hq).2] at hz;cases hz
  ·exact (h.tx.ok _ (zeI hk)).2 q (List.mem_of_mem_drop hq) z hz
theorem zsJ{d:DM}{m:Int}{ns:List Int}{k j:Nat}{lf:Option Int}{st:Bool}(h:TOk m d ns)(hk:k<d.rows.length)(hj:j<(d.rows.getD k []).length):TOk m { d.torn k j with left:=lf,st:=st } ns:=by
 refine h.less (length_set ..) (λi=>?_) λt ht=>zll hk hj ht
 show (((d.rows.set k _).getD i []).length:Int)<=m
 rw [zcu hk]
 split
 ·rw [zkX hj];exact h.wide k
 ·exact h.wide i
theorem zae.swap{H:Hp}{sh:Addr}{shc:List Addr}{rs:List (List OR)}(S:zae H sh shc rs){k:Nat}{c':Addr}{vs':List V}{r':List OR}(hk:k<rs.length)(e:H c'=some (.lst vs'))(h1:c'≠sh)(h2:c'∉shc)(hp:Paired (zbn H) vs' r'):zae (upd H sh (.lst ((shc.map V.ref).set k (.ref c')))) sh (shc.set k c') (rs.set k r'):=by
 obtain ⟨n1,n2⟩:=nodup_cons.mp S.nd
 have kt:∀r xs,H r=some (.tup xs)->upd H sh (.lst ((shc.map V.ref).set k (.ref c'))) r=some (.tup xs):=λr xs e=>by rw [zd (λz=>by rw [z,S.w] at e;cases e)];exact e
 have hk':k<shc.length:=by rw [S.len];exact hk
 have hmem:∀x∈shc.set k c',x=c'\/x∈shc:=λx hx=>(List.mem_or_eq_of_mem_set hx).symm
 refine ⟨by rw [zq,map_set],by rw [length_set,length_set];exact S.len,λi ci hi=>?_,nodup_cons.mpr ⟨λz=>?_,?_⟩⟩
 ·rw [zcu hk]
  by_cases h:i=k
  ·subst h
   rw [List.getElem?_set_self hk'] at hi
   cases hi
   rw [if_pos rfl]
   exact ⟨vs',by rw [zd h1];exact e,Paired.mapP hp λv o r=>r.keep kt⟩
  ·rw [if_neg h]
   rw [getElem?_set_ne (Ne.symm h)] at hi
   obtain ⟨vs,hv,pv⟩:=S.at_ i ci hi
   exact ⟨vs,by rw [zd (λz:ci=sh=>n1 (by rw [<- z];exact mem_of_getElem? hi))];exact hv,Paired.mapP pv λv o r=>r.keep kt⟩
 ·rcases hmem sh z with z|z
  ·exact h1 z.symm
  ·exact n1 z
 ·refine List.pairwise_iff_getElem.mpr λi j hi hj hij=>?_
  rw [length_set] at hi hj
  rw [List.getElem_set,List.getElem_set]
  have nij:=List.pairwise_iff_getElem.mp n2 i j hi hj hij
  split
  ·split
   ·omega
   ·exact λz=>h2 (by rw [z];exact List.getElem_mem hj)
  ·split
   ·exact λz=>h2 (by rw [<- z];exact List.getElem_mem hi)
   ·exact nij
theorem zmw{H:Hp}:∀{n:Nat},Paired (zbn H) (replicate n V.non) (replicate n none)
 | 0=>.nil
 | n+1=>by rw [replicate_succ,replicate_succ];exact .cons rfl zmw
theorem zkD{α β:Type}{R:α->β->Prop}:∀{l:List α}{m:List β}{j:Nat},Paired R l m->Paired R (l.drop j) (m.drop j)
 | _,_,0,h=>h
 | _,_,_+1,.nil=>.nil
 | _,_,j+1,.cons _ t=>zkD (j:=j) t
theorem zx1{xs:List V}{j:Nat}(h:j<=xs.length):zaw xs (some (j:Int)) none=xs.drop j:=by
 unfold zaw
 rw [HT.sIx_nat,HT.sIx_none,Nat.min_eq_left h,take_of_length_le (by rw [length_drop];exact le_refl _)]
theorem znI{n:Nat}{x:V}:(replicate n [x]).flatten=replicate n x:=by
 induction n with
 | zero=>rfl
 | succ n ih=>rw [replicate_succ,flatten_cons,ih];rfl
section
variable {P:Program}{w:World}{K:Frag}{mg:Str->Option Value}{base:Heap}{A:zh}
structure SmI(H:Hp)(rs:List (List OR))(i:Nat)(τ:L2.St)(ys:List V)(H':Hp):Prop where
 ex:∃t1 t2,τ=[t1,t2]
 ys:∃l:List Nat,ys=l.map iv/\l.length<=i/\∀k∈l,k<rs.length/\(rs.getD k []).length≠0
 same:zl H H'
 le:i<=16
def zhf(A:zh):Sp:=λvs H Q _=>∃(a nl p wl sl sh:Addr)(cells shc:List Addr)(m:Int)(d:DM)(ns:List Int),vs=[.ref a,.ref p,.ref sh]/\QW A H a nl p wl sl sh cells shc m d ns/\TOk m d ns /\
 ∀p' wl' sl' cells' shc' d' H',QW A H' a nl p' wl' sl' sh cells' shc' m d' ns->TOk m d' ns->zn (FT a nl p wl sl sh cells shc) H H'->(∀x∈FT a nl p' wl' sl' sh cells' shc',x∈FT a nl p wl sl sh cells shc\/H x=none)->Q (.ref p') H'
theorem zed:zu ["_law_pot_here","_law_disk_here","_law_shelf","_law_some","_law_stretch","_law_many","_law_told"] ["_law_pot_here","_law_disk_here","_law_shelf"] (ze zcT):=⟨rfl,rfl,rfl,f!"",rfl,f!"",f!""⟩
theorem zoh:zaF { kind:=.function,names:=[(Str.ofString ".0",.local),(Str.ofString "_law_k",.local),(Str.ofString "_law_rows_here",.local)],isGenerator:=false,isCoroutine:=false,more:=[] } (ze zcT).names ["_law_pot_here","_law_disk_here","_law_shelf","_law_some","_law_stretch","_law_many","_law_told"] ["_law_k","_law_rows_here"] [none,none]=true:=by decide +kernel
theorem ziT:(["_law_k","_law_rows_here"]:List Str).Nodup:=by decide +kernel
theorem zst{f:Addr}{fd:FuncData}(F:Fun K "_law_torn" "_law_torn" zcT f fd)(T:Txt K mg A)(Gb:GF P w K mg base true 1 "_law_draw" ["_law_pot_here","_law_many"] zbi)(Gc:GF P w K mg base true 2 "_law_drawn" ["_law_pot_here","_law_some"] zdx)(M_Disk_stop:GM P w K mg base true 1 A.Disk "stop" ["self","many"] (zfz A))(M_Disk_empty:GMX P w K mg base true 2 A.Disk "empty" ["self","stretch"] (zfQ A))(M_Disk_copied:GM P w K mg base true 5 A.Disk "copied" ["self"] (ziD A)):zo P w K mg base CX0 true 6 f fd ["_law_pot_here","_law_disk_here","_law_shelf"] (zhf A):=by
 refine F.ok zed (λvs H Q E h=>?_) (λcdv Ar outer s H vs Q E hr h=>?_)
 ·obtain ⟨a,nl,p,wl,sl,sh,cells,shc,m,d,ns,rfl,_⟩:=h;rfl
 ·obtain ⟨a,nl,p,wl,sl,sh,cells,shc,m,d,ns,rfl,Tw,ok,q⟩:=h
  have hu:_<cLine:=lt_of_succ_lt (zX hr)
  refine ⟨_,(W.h (zg (zeK (i0:=3) zed.nd rfl (Or.inl rfl) (λ_=>rfl) (zah.of zoh) (zht rfl T.n_enumerate (zb (za 2) zc)) (λ_ _ _ _ _=>(zds (n:=2) (z6 (zI (i:=0) ziT rfl (Or.inl rfl)) (z6 (zI (i:=1) ziT rfl (Or.inl rfl)) zbk)))) (λ_ _ _ _ _=>(zeE (zal (znt hu) (za 1) (zat zc) (zaa _)))) (λ_ _ _ _ _=>(za 0)))
   (zg (z7 (zfJ (zkk (zal (zrC hu) (za 3) (zat zc) (zaa _)) (zjF (zal (zbA hu) (zr Gb hr rfl (zb (za 0) (zb zi zc))) zi (zaa _)))))
   (zk (zH (za 1)))
   zam)
   (zg (zF (i:=4) zed.nd rfl (Or.inl rfl) (zr Gc hr rfl (zb (za 0) (zb (za 3) zc))))
   (zg (zF (i:=5) zed.nd rfl (Or.inl rfl) (zr Gb hr rfl (zb (za 0) (zb (zM zaI rfl T.n_len PySem.boot_len (zb (zL zQ (za 2) (za 4) (λ_ _=>rfl)) zc)) zc))))
   (zg (zZ (zaX (za 1) T.cl_Disk M_Disk_stop hr (zb (za 5) zc)))
   (zg (zF (i:=6) zed.nd rfl (Or.inl rfl) zbc)
   (zg (zlj rfl rfl ⟨rfl,rfl⟩ T.ek_Stopped rfl T.mg_Stopped (λGa Ex=>(zk (zZ (zdb (za 1) T.cl_Disk zkr M_Disk_empty hr (zb (za 4) zc))))) (λGa ea=>by
   have hr:=hr.mark (v:=some (.ref ea))
   exact (zk (zF (i:=6) zed.nd rfl (Or.inl rfl) zbc))))
   (zg (z7 (zaU (za 6))
   (zk (zbz (zG zau (zG zd4 (zat (zb zbt zc)) (za 5)) (zdn zfI (zL zQ (za 2) (za 4) (λ_ _=>rfl)) (zdJ (za 5)) zdy)) (zb4 (za 2) (za 4) zdC)))
   zam)
   (zk (zH (zbY (za 1) T.cl_Disk M_Disk_copied hr)))))))))))),?_⟩
  have hsz:=ok.size
  have S:=Tw.dw.shelf
  simp_all only []
  refine ⟨⟨_,SqL.of S.w⟩,zV.enum (xs:=shc.map V.ref) (SmI H (rdR d.rows)) (λi τ ys H' I=>?_) (λi τ ys H' I=>SqL.of (I.same _ _ S.w)) ⟨⟨_,_,rfl⟩,⟨[],rfl,le_refl _,by simp⟩,zl.refl _,by omega⟩ ?_ ?_⟩
  ·obtain ⟨l,e,hl,_⟩:=I.ys
   rw [e,length_map]
   exact zaG (by have:=I.le;omega)
  ·intro N i x pt τ ys H' hx I hp hN
   obtain ⟨t1,t2,rfl⟩:=I.ex
   obtain ⟨l,e,hl,hm⟩:=I.ys
   rw [getElem?_map] at hx
   obtain ⟨c,hc,rfl⟩:=map_eq_some_iff.mp hx
   have hi:i<(rdR d.rows).length:=by rw [<- S.len];exact (List.getElem?_eq_some_iff.mp hc).1
   have hi16:i<16:=by rw [zaK] at hi;omega
   obtain ⟨vs,hv,pv⟩:=S.at_ i c hc
   have lv:=z5 pv
   refine ⟨pt,_,rfl,SqT.of zq,rfl,?_⟩
   have nw:New H' pt (.tup [.int i,.ref c]) (upd H' pt (.tup [.int i,.ref c])):=.mk' hp
   generalize upd H' pt (.tup [.int i,.ref c])=H0 at nw ⊢
   simp_all only []
   refine ⟨zero_le _,λpl H5 n5 _=>⟨_,n5.same _ _ (nw.same _ _ (I.same _ _ hv)),_,n5.at_,.inr rfl,?_⟩⟩
   have sm:=(I.same.trans nw.same).trans n5.same
   rw [show ([]:List V).length=0 from rfl]
   by_cases h0:vs.length=0
   ·rw [decide_eq_true h0]
    simp_all only []
    exact hN _ _ _ ⟨⟨_,_,rfl⟩,⟨l,e,by omega,hm⟩,sm,by omega⟩
   ·rw [decide_eq_false h0]
    simp_all only []
    refine hN _ _ _ ⟨⟨_,_,rfl⟩,⟨l++[i],by rw [e,map_append];rfl,by simp;omega,λk hk=>?_⟩,sm,by omega⟩
    rcases mem_append.mp hk with hk|hk
    ·exact hm k hk
    ·rw [mem_singleton] at hk;subst hk;exact ⟨hi,by omega⟩
  ·intro τ ys H' I D2 H2 m2
   obtain ⟨l,e,hl,hm⟩:=I.ys
   rw [e] at m2
   have s2:zl H H2:=I.same.trans m2.same
   have T2:=Tw.same s2
   have stay:Q (.ref p) H2:=q p wl sl cells shc d H2 T2 ok (zn.same s2) λx hx=>.inl hx
   intro _
   refine ⟨zero_le _,λpl H3 m3 _=>?_⟩
   have T3:=T2.same m3.same
   have s3:=s2.trans m3.same
   rw [zkS]
   refine ⟨_,_,m3.same _ _ m2.at_,m3.at_,.inr rfl,?_⟩
   simp_all only []
   rw [length_map]
   by_cases hl0:l.length=0
   ·rw [if_pos (decide_eq_true hl0)]
    exact q p wl sl cells shc d H3 T3 ok (zn.same s3) λx hx=>.inl hx
   rw [if_neg (by rw [decide_eq_false hl0];exact Bool.false_ne_true)]
   refine ⟨a,3,rfl,T3.pot,by decide,by decide,λr H4 b4 hP4 r0 r1=>?_⟩
   have T4:=T3.potB b4 hP4
   have kp:∀{H H':Hp},But a H H'->zn (FT a nl p wl sl sh cells shc) H H':=λ{H H'} b=>b.keeps.mono (by simp [FT])
   have k4:zn (FT a nl p wl sl sh cells shc) H H4:=(zn.same s3).trans (kp b4)
   simp only [zke,zkN]
   by_cases hr0:r=0
   ·rw [decide_eq_true hr0]
    exact q p wl sl cells shc d H4 T4 ok k4 λx hx=>.inl hx
   rw [decide_eq_false hr0]
   have Da:D2≠a:=(Tw.pot.same I.same).ne m2.no
   have hl16:l.length<=16:=by
    have:=hl
    rw [length_map,S.len,zaK] at this
    omega
   refine ⟨a,T4.pot,.inl ⟨D2,_,rfl,Da,.inl (b4 _ _ Da (m3.same _ _ m2.at_)),by rw [length_map];omega,by rw [length_map];omega,λv H5 hv b5 hP5=>?_⟩⟩
   obtain ⟨k,hkl,rfl⟩:=mem_map.mp hv
   obtain ⟨hk',hne⟩:=hm k hkl
   have hk:k<d.rows.length:=by rw [zaK] at hk';exact hk'
   have T5:=T4.potB b5 hP5
   have k5:=k4.trans (kp b5)
   obtain ⟨c,vs,hc,ha,hv5,pv5,lv5⟩:=T5.dw.shelf.cell (k:=k) hk'
   have hcm:=mem_of_getElem? hc
   have hlv:vs.length=(d.rows.getD k []).length:=by rw [lv5,za4,length_map]
   have hw32:=ok.wide k
   unfold iv
   rw [zcM]
   refine ⟨_,.inl T5.dw.shelf.w,_,ha,?_⟩
   rw [zfs]
   refine ⟨_,.inl hv5,a,_,rfl,T5.pot,by omega,by omega,λj' H6 b6 hP6 j0 j1=>?_⟩
   obtain ⟨j,rfl⟩:=Int.eq_ofNat_of_zero_le j0
   have hj:j<(d.rows.getD k []).length:=by omega
   have T6:=T5.potB b6 hP6
   have k6:=k5.trans (kp b6)
   obtain ⟨dx6,ob6⟩:=T6.dw.disk.ob
   refine ⟨dx6,_,ob6,zj7,p,wl,sl,cells,m,d,j,rfl,T6.dw.disk,λH7 D7 b7=>?_⟩
   obtain ⟨dx7,ob7⟩:=D7.ob
   refine ⟨dx7,_,ob7,zks,p,wl,sl,cells,m,d.stop j,k,rfl,D7,hk,ok.small,(λl e=>by cases e;omega),λH8 D8 b8=>?_⟩
   rw [zuT T6.live.2 hj] at D8 ⊢
   unfold Out
   dsimp only
   refine ⟨_,rfl,T.ek_Stopped,T.ms_Stopped,λea oe he _=>?_⟩
   have b68:zn (p::wl::sl::cells) H6 H8:=(b7.mono (by simp)).trans b8
   have s89:zl H8 (upd H8 ea (.frz oe (.own 0))):=λx o e=>by rw [zd (zA e he)];exact e
   generalize upd H8 ea (.frz oe (.own 0))=H9 at s89 ⊢
   have D9:=D8.sameT (.of s89)
   have b69:zn (p::wl::sl::cells) H6 H9:=b68.trans (zn.same s89)
   obtain ⟨S9,tb9⟩:=T6.dw.diskB b69
   obtain ⟨c9,vs9,hc9,ha9,hv9,pv9,lv9⟩:=S9.cell (k:=k) hk'
   have hw9:=S9.w
   have hlv9:vs9.length=(d.rows.getD k []).length:=by rw [lv9,za4,length_map]
   try simp_all only [hw9,ha9,hv9]
   refine ⟨by decide,λp1 H10 m10 _=>⟨_,m10.at_,by omega,by omega,zaD (by simp;omega),λp2 H11 m11=>?_⟩⟩
   have s11:zl H9 H11:=m10.same.trans m11.same
   refine ⟨_,.inl (s11 _ _ hw9),_,ha9,?_⟩
   rw [zg2]
   refine ⟨_,s11 _ _ hv9,λp3 H12 m12=>?_⟩
   rw [zx1 (by omega)] at m12
   rw [zdm]
   have e11:=m11.at_
   rw [toNat_natCast,znI] at e11
   refine ⟨_,_,m12.same _ _ e11,m12.at_,zaD (by simp;omega),λp4 H13 m13=>?_⟩
   have s12:zl H9 H12:=s11.trans m12.same
   have s13:zl H9 H13:=s12.trans m13.same
   have S13:=S9.same s13
   have tb13:=tb9.same s13
   have D13:=D9.sameT (.of s13)
   have hkL:k<shc.length:=by rw [S9.len];exact hk'
   have ix:ixN (shc.map V.ref).length (k:Int)=some k:=by
    unfold ixN
    rw [if_pos (by omega),if_pos (by rw [length_map];omega)]
    simp
   refine ⟨_,S13.w,k,ix,?_⟩
   have h4sh:p4≠sh:=λz=>by have:=m13.no;rw [z,s12 _ _ hw9] at this;cases this
   have h4c:p4∉shc:=λz=>by
    obtain ⟨i,hi,e⟩:=getElem_of_mem z
    obtain ⟨us,eu,_⟩:=S9.at_ i _ (List.getElem?_eq_getElem hi)
    have:=m13.no
    rw [<- e,s12 _ _ eu] at this;cases this
   have pv13:Paired (zbn H13) (replicate j V.non++vs9.drop j) (replicate j none++((rdR d.rows).getD k []).drop j):=zbB zmw (Paired.mapP (zkD pv9) λv o r=>r.keep λr xs e=>s13 _ _ e)
   have S14:=S13.swap hk' m13.at_ h4sh h4c pv13
   have kS:zn [sh] H13 (upd H13 sh (.lst ((shc.map V.ref).set k (.ref p4)))):=zn.upd (by simp)
   have tb14:TB A (upd H13 sh (.lst ((shc.map V.ref).set k (.ref p4)))):=tb13.put S13.w
   have D14:=D13.keep kS λx hx z=>by
    rw [mem_singleton] at z
    obtain ⟨dxx,obx⟩:=D13.ob
    rcases mem_cons.mp hx with rfl|hx
    ·rw [z,S13.w] at obx;cases obx
    ·exact (T6.dw.ap x hx).1 z
   have k13:zn (FT a nl p wl sl sh cells shc) H H13:=(k6.trans (b69.mono (by simp [FT];intro x hx;simp [hx]))).trans (zn.same s13)
   have k14:zn (FT a nl p wl sl sh cells shc) H (upd H13 sh (.lst ((shc.map V.ref).set k (.ref p4)))):=k13.trans (kS.mono (by simp [FT]))
   have a14:Pot (upd H13 sh (.lst ((shc.map V.ref).set k (.ref p4)))) a:=by
    obtain ⟨x,y,e,rr⟩:=T6.pot.ex
    exact ⟨⟨x,y,by rw [zd T6.ap2.2.1];exact s13 _ _ (b69 _ _ e (T6.dw.disk.out e λx hx=>(T6.ap x hx).1)),rr⟩⟩
   have n14:(upd H13 sh (.lst ((shc.map V.ref).set k (.ref p4)))) nl=some (.lst (ns.map V.int)):=by
    rw [zd T6.ap2.2.2.2.1];exact s13 _ _ (b69 _ _ T6.nums (T6.dw.disk.out T6.nums λx hx=>(T6.ap x hx).2))
   have h4H:p4∈FT a nl p wl sl sh cells shc\/H p4=none:=by
    by_cases z:p4∈FT a nl p wl sl sh cells shc
    ·exact .inl z
    ·refine .inr ?_
     cases e:H p4 with
     | none=>rfl
     | some o =>
      have:=((k6.trans (b69.mono (by simp [FT];intro x hx;simp [hx]))).trans (zn.same s12)) _ _ e z
      rw [m13.no] at this;cases this
   have h4a:a≠p4:=λz=>by
    obtain ⟨xs,e⟩:=T6.pot.lst
    have:=s12 _ _ (b69 _ _ e (T6.dw.disk.out e λx hx=>(T6.ap x hx).1))
    rw [z,m13.no] at this;cases this
   have h4n:nl≠p4:=λz=>by
    have:=s12 _ _ (b69 _ _ T6.nums (T6.dw.disk.out T6.nums λx hx=>(T6.ap x hx).2))
    rw [z,m13.no] at this;cases this
   generalize upd H13 sh (.lst ((shc.map V.ref).set k (.ref p4)))=H14 at S14 tb14 D14 k14 a14 n14 ⊢
   obtain ⟨dx14,ob14⟩:=D14.ob
   have rl:(d.torn k j).rows.length=d.rows.length:=length_set ..
   refine ⟨dx14,_,ob14,zqQ,p,wl,sl,cells,m,_,rfl,D14,by show 3<=(d.torn k j).rows.length;omega,by show (d.torn k j).rows.length<=16;omega,hsz.2.2.1,hsz.2.2.2,λp' wl' sl' cells' H15 D15 s15 f15=>?_⟩
   have hmem:∀x∈shc.set k p4,x=p4\/x∈shc:=λx hx=>(List.mem_or_eq_of_mem_set hx).symm
   have fr:∀x∈p'::wl'::sl'::cells',x∈FT a nl p wl sl sh cells shc\/H x=none:=λx hx=>by
    by_cases z:x∈FT a nl p wl sl sh cells shc
    ·exact .inl z
    ·refine .inr ?_
     cases e:H x with
     | none=>rfl
     | some o =>
      have:=k14 _ _ e z
      rw [f15 x hx] at this;cases this
   have hrd:rdR (d.torn k j).rows=(rdR d.rows).set k (replicate j none++((rdR d.rows).getD k []).drop j):=by
    show rdR (d.rows.set k _)=_
    rw [zdM,map_append,List.map_replicate,List.map_drop,za4];rfl
   refine q p' wl' sl' cells' (shc.set k p4) { d.torn k j with left:=none,st:=false } H15 ⟨⟨D15,?_,λx hx=>?_,tb14.same s15,zvW (c:=0) Tw.dw.ok hk hj⟩,a14.same s15,s15 _ _ n14,λx hx=>?_,⟨T6.ap2.1,T6.ap2.2.1,λz=>?_,T6.ap2.2.2.2.1,λz=>?_⟩,⟨rfl,rfl⟩,Tw.sd⟩ (zsJ ok hk hj) (k14.trans (zn.same s15)) λx hx=>?_
   ·show zae H15 sh _ (rdR (d.torn k j).rows)
    rw [hrd];exact S14.same s15
   ·have hx0:=f15 x (mem_cons_of_mem _ hx)
    refine ⟨λz=>?_,λz=>?_⟩
    ·rw [z,S14.w] at hx0;cases hx0
    ·obtain ⟨i,hi,e⟩:=getElem_of_mem z
     obtain ⟨us,eu,_⟩:=S14.at_ i _ (List.getElem?_eq_getElem hi)
     rw [<- e,eu] at hx0;cases hx0
   ·have hx0:=f15 x (mem_cons_of_mem _ hx)
    refine ⟨a14.ne hx0,λz=>?_⟩
    rw [z,n14] at hx0;cases hx0
   ·rcases hmem _ z with z|z
    ·exact h4a z
    ·exact T6.ap2.2.2.1 z
   ·rcases hmem _ z with z|z
    ·exact h4n z
    ·exact T6.ap2.2.2.2.2 z
   ·unfold FT at hx
    rcases mem_cons.mp hx with rfl|hx
    ·exact .inl (by simp [FT])
    ·rcases mem_cons.mp hx with rfl|hx
     ·exact .inl (by simp [FT])
     ·rcases mem_cons.mp hx with rfl|hx
      ·exact fr _ (by simp)
      ·rcases mem_cons.mp hx with rfl|hx
       ·exact fr _ (by simp)
       ·rcases mem_cons.mp hx with rfl|hx
        ·exact fr _ (by simp)
        ·rcases mem_cons.mp hx with rfl|hx
         ·exact .inl (by simp [FT])
         ·rcases mem_append.mp hx with hx|hx
          ·exact fr _ (by simp [hx])
          ·rcases hmem x hx with rfl|hx
           ·exact h4H
           ·exact .inl (by simp [FT,hx])
end
abbrev zdq:Stmt:=top 49
abbrev zc2:Stmt:=top 41
theorem zif{α:Type}(n i:Nat):(replicate n ([]:List α)).getD i []=[]:=by
 rw [getD_eq_getElem?_getD,List.getElem?_replicate]
 split<;>rfl
theorem zk5(n:Nat):nU (DM.new n)=[]:=by
 refine List.eq_nil_iff_forall_not_mem.mpr λt ht=>?_
 rw [zbH,zbM] at ht
 have h:=ht.2.1
 rw [za4,length_map] at h
 have e:(DM.new n).rows.getD t.2.1 []=[]:=zif n _
 rw [e] at h
 simp at h
theorem ztL{n:Nat}(h:n<=16):DOk (DM.new n):=by
 have e:=zk5 n
 refine ⟨⟨λr hr=>?_,by show (replicate n _).length<=16;rw [length_replicate];exact h⟩,by rw [e];exact nodup_nil,by rw [e];decide,(λt ht=>by rw [e] at ht;cases ht),(λt ht=>by rw [e] at ht;cases ht)⟩
 rw [(List.mem_replicate.mp hr).2]
 exact ⟨by simp,by simp⟩
theorem zsf{n:Nat}{m:Int}{ns:List Int}(h1:3<=n)(h2:n<=16)(h3:2<=m)(h4:m<=32)(nd:ns.Nodup)(hi:∀x∈ns,1<=x/\x<10 ^ 17)(hl:ns.length<=20):TOk m (DM.new n) ns:=by
 have e:=zk5 n
 refine ⟨by show 3<=(replicate n _).length/\(replicate n _).length<=16/\_;rw [length_replicate];exact ⟨h1,h2,h3,h4⟩,λi=>?_,nd,hi,(λt ht=>by rw [e] at ht;cases ht),by rw [e];simpa using hl⟩
 show (((replicate n ([]:List Tx)).getD i []).length:Int)<=m
 rw [zif];simp;omega
section
variable {P:Program}{w:World}{K:Frag}{mg:Str->Option Value}{base:Heap}{A:zh}
structure Lp1(A:zh)(H0:Hp)(a nl p wl sl sh:Addr)(cells shc:List Addr)(m:Int)(lo:Nat)(i:Nat)(σ:L2.St)(H':Hp):Prop where
 ex:∃t,σ=[some (V.ref a),some (.ref p),some (.ref sh),some (.ref nl),t]
 st:∃d ns,QW A H' a nl p wl sl sh cells shc m d ns/\TOk m d ns/\lo<=ns.length+i
 keep:zn (FT a nl p wl sl sh cells shc) H0 H'
def zgr(A:zh):Sp:=λvs H Q _=>∃a,vs=[.ref a]/\Pot H a/\TB A H/\∀tp p wl sl sh cells shc m d H',H' tp=some (.tup [.ref p,.ref sh])->DW A H' p wl sl sh cells shc m d->Pot H' a->But a H H' ->
 (∀x∈p::wl::sl::sh::(cells++shc),x≠a/\H x=none)->d.left=none->d.st=false->d.sides.length=2->(3<=d.rows.length/\d.rows.length<=16/\2<=m/\m<=32)->(∀i,((d.rows.getD i []).length:Int)<=m)->Q (.ref tp) H'
theorem zcS:zu ["_law_pot_here","_law_disk_here","_law_shelf","_law_numbers_here","_law_turn_here"] ["_law_pot_here"] (ze zc2):=⟨rfl,rfl,rfl,f!"",rfl,f!"",f!""⟩
theorem zsg:zaF { kind:=.function,names:=[(Str.ofString ".0",.local),(Str.ofString "_law_k",.local)],isGenerator:=false,isCoroutine:=false,more:=[] } (ze zc2).names ["_law_pot_here","_law_disk_here","_law_shelf","_law_numbers_here","_law_turn_here"] ["_law_k"] [none]=true:=by decide +kernel
theorem zpq:(["_law_k"]:List Str).Nodup:=by decide +kernel
theorem zwq{f:Addr}{fd:FuncData}(F:Fun K "_law_disk" "_law_disk" zc2 f fd)(T:Txt K mg A)(Gc:GF P w K mg base true 2 "_law_drawn" ["_law_pot_here","_law_some"] zdx)(Ge:GCX P w K mg base true 3 "Disk" A.Disk ["self","stretches","places"] (zfw A))(M_Disk_stretches:GM P w K mg base true 1 A.Disk "stretches" ["self"] (zcF A λ_ d=>.int d.rows.length))(Gs:GF P w K mg base true 2 "_law_numbers" ["_law_pot_here","_law_many"] ziv)(Gb:GF P w K mg base true 1 "_law_draw" ["_law_pot_here","_law_many"] zbi)(Gj:GF P w K mg base true 4 "_law_turn" ["_law_pot_here","_law_disk_here","_law_shelf","_law_numbers_here"] (zhG A))(Gu:GF P w K mg base true 6 "_law_torn" ["_law_pot_here","_law_disk_here","_law_shelf"] (zhf A)):zo P w K mg base CX0 true 7 f fd ["_law_pot_here"] (zgr A):=by
 refine F.ok zcS (λvs H Q E h=>?_) (λcdv Ar outer s H vs Q E hr h=>?_)
 ·obtain ⟨a,rfl,_⟩:=h;rfl
 ·obtain ⟨a,rfl,hP,tb,q⟩:=h
  have hu:_<cLine:=lt_of_succ_lt (zX hr)
  refine ⟨_,(W.h (zg (zF (i:=1) zcS.nd rfl (Or.inl rfl) (zml zcj Ge hr rfl (zb (zr Gc hr rfl (zb (za 0) (zb (zat (zb zi (zb zi (zb zi (zb zi (zb zi zc)))))) zc))) (zb (zr Gc hr rfl (zb (za 0) (zb (zat (zb zi (zb zi (zb zi (zb zi (zb zi zc)))))) zc))) zc))))
   (zg (zeK (i0:=2) zcS.nd rfl (Or.inl rfl) (λ_=>rfl) (zah.of zsg) (zb0 rfl T.n_range (zb (zbY (za 1) T.cl_Disk M_Disk_stretches hr) zc)) (λ_ _ _ _ _=>(zI (i:=0) zpq rfl (Or.inl rfl))) (λ_ _ _ _ _=>zbI) (λ_ _ _ _ _=>(zat zc)))
   (zg (zF (i:=3) zcS.nd rfl (Or.inl rfl) (zr Gs hr rfl (zb (za 0) (zb zi zc))))
   (zg (zbd PassesOwn.never (λ_=>rfl) (zb0 rfl T.n_range (zb (zr Gb hr rfl (zb (za 0) (zb zi zc))) zc)) (zI (i:=4) zcS.nd rfl (Or.inl rfl))
   (zk (zZ (zr Gj hr rfl (zb (za 0) (zb (za 1) (zb (za 2) (zb (za 3) zc))))))))
   (zg (zF (i:=1) zcS.nd rfl (Or.inl rfl) (zr Gu hr rfl (zb (za 0) (zb (za 1) (zb (za 2) zc)))))
   (zg (zbd PassesOwn.never (λ_=>rfl) (zb0 rfl T.n_range (zb (zr Gb hr rfl (zb (za 0) (zb zi zc))) zc)) (zI (i:=4) zcS.nd rfl (Or.inl rfl))
   (zk (zZ (zr Gj hr rfl (zb (za 0) (zb (za 1) (zb (za 2) (zb (za 3) zc))))))))
   (zk (zH (zav (zb (za 1) (zb (za 2) zc)))))))))))),?_⟩
  have lst:∀{H:Hp},Pot H a->∀x∈[a],(∃xs,H x=some (.lst xs))\/∃C dx fs,H x=some (.ins C dx fs):=λ{H} h x hx=>by
   rw [mem_singleton] at hx;subst hx
   obtain ⟨xs,e⟩:=h.lst
   exact .inl ⟨xs,e⟩
  simp_all only []
  refine ⟨by decide,λl1 H1 m1 _=>⟨a,hP.same m1.same,.inl ⟨l1,_,rfl,hP.ne m1.no,.inl m1.at_,by simp,by simp,λv1 H2 hv1 b2 hP2=>?_⟩⟩⟩
  obtain ⟨n,rfl,hn1,hn2⟩:∃n:Nat,v1 = .int n/\3<=n/\n<=16:=by
   simp only [mem_cons,not_mem_nil,or_false] at hv1
   rcases hv1 with rfl|rfl|rfl|rfl|rfl
   ·exact ⟨3,rfl,by decide,by decide⟩
   ·exact ⟨3,rfl,by decide,by decide⟩
   ·exact ⟨4,rfl,by decide,by decide⟩
   ·exact ⟨5,rfl,by decide,by decide⟩
   ·exact ⟨16,rfl,by decide,by decide⟩
  have bA:=(But.of m1.same).trans b2
  have tb2:TB A H2:=(tb.same m1.same).lists b2.keeps (lst (hP.same m1.same))
  refine ⟨by decide,λl3 H3 m3 _=>⟨a,hP2.same m3.same,.inl ⟨l3,_,rfl,hP2.ne m3.no,.inl m3.at_,by simp,by simp,λv2 H4 hv2 b4 hP4=>?_⟩⟩⟩
  obtain ⟨m,rfl,hm1,hm2⟩:∃m:Int,v2 = .int m/\2<=m/\m<=32:=by
   simp only [mem_cons,not_mem_nil,or_false] at hv2
   rcases hv2 with rfl|rfl|rfl|rfl|rfl
   ·exact ⟨2,rfl,by decide,by decide⟩
   ·exact ⟨2,rfl,by decide,by decide⟩
   ·exact ⟨3,rfl,by decide,by decide⟩
   ·exact ⟨5,rfl,by decide,by decide⟩
   ·exact ⟨32,rfl,by decide,by decide⟩
  have bB:=(bA.trans (But.of m3.same)).trans b4
  have tb4:TB A H4:=(tb2.same m3.same).lists b4.keeps (lst (hP2.same m3.same))
  refine λp dxp H5 nI=>⟨p,dxp,n,m,rfl,nI.at_,by omega,by omega,by omega,by omega,λwl sl cells H6 D6 k6 f6=>⟨rfl,?_⟩⟩
  rw [toNat_natCast] at D6
  have P5:=hP4.same nI.same
  obtain ⟨xa,ya,ea,ra⟩:=P5.ex
  have apn:a≠p:=λz=>by rw [z,nI.at_] at ea;cases ea
  have P6:Pot H6 a:=⟨⟨xa,ya,k6 _ _ ea apn,ra⟩⟩
  have kp6:zn [p] H5 H6:=λc o e n=>k6 c o e (λz=>n (by simp [z]))
  have tb6:TB A H6:=(tb4.same nI.same).lists kp6 (λx hx=>by rw [mem_singleton] at hx;subst hx;exact .inr ⟨_,_,_,nI.at_⟩)
  have b6:But a H H6:=λx o nx e=>k6 x o (nI.same _ _ (bB x o nx e)) (λz=>by have:=bB x o nx e;rw [z,nI.no] at this;cases this)
  have frp:∀x∈p::wl::sl::cells,x≠a/\H x=none:=λx hx=>by
   rcases mem_cons.mp hx with rfl|hx
   ·exact ⟨Ne.symm apn,bB.no hP4 nI.no⟩
   ·have h5:=f6 x hx
    have h4:H4 x=none:=nI.same.free h5
    exact ⟨P5.ne h5,bB.no hP4 h4⟩
  obtain ⟨dx6,ob6⟩:=D6.ob
  refine ⟨dx6,_,ob6,zkA,p,wl,sl,cells,m,_,rfl,D6,?_⟩
  have er:(DM.new n).rows.length=n:=length_replicate ..
  try simp_all only []
  rw [er,toNat_natCast]
  refine ⟨by omega,by omega,zV.rng (zlF H6) (λi τ ys H' I=>?_) ⟨⟨_,rfl⟩,⟨[],rfl,rfl,by simp,nodup_nil⟩,zl.refl _,by decide⟩ ?_ ?_⟩
  ·obtain ⟨cs,e,l,_⟩:=I.ex
   rw [e,length_map,l]
   exact zaG (by have:=I.le;omega)
  ·intro N i τ ys H' hi I hN
   obtain ⟨t,rfl⟩:=I.τ
   obtain ⟨cs,e,l,hc,hcn⟩:=I.ex
   simp_all only []
   refine ⟨zero_le _,λc H7 n7 _=>hN _ _ _ ⟨⟨_,rfl⟩,⟨cs++[c],by rw [e];simp,by simp [l],λx hx=>?_,?_⟩,I.same.trans n7.same,by omega⟩⟩
   ·rcases mem_append.mp hx with hx|hx
    ·exact ⟨n7.same _ _ (hc x hx).1,(hc x hx).2⟩
    ·rw [mem_singleton] at hx;subst hx;exact ⟨n7.at_,I.same.free n7.no⟩
   ·rw [nodup_append]
    refine ⟨hcn,by simp,λx hx y hy z=>?_⟩
    rw [mem_singleton] at hy
    have:=(hc x hx).1
    rw [z,hy,n7.no] at this
    cases this
  ·intro τ ys H7 I sh H8 n8
   obtain ⟨shc,e,lc,hc,hcn⟩:=I.ex
   rw [e] at n8
   have s68:zl H6 H8:=I.same.trans n8.same
   have shn:sh∉shc:=λz=>by have:=n8.no;rw [(hc sh z).1] at this;cases this
   have rrep:rdR (DM.new n).rows=replicate n []:=by
    show (replicate n ([]:List Tx)).map _=_
    rw [List.map_replicate];rfl
   have rep:∀i c,shc[i]?=some c->H8 c=some (.lst []):=λi c h=>n8.same _ _ (hc c (mem_of_getElem? h)).1
   have S8:zae H8 sh shc (rdR (DM.new n).rows):=by
    rw [rrep]
    exact ⟨n8.at_,by rw [length_replicate];exact lc,λi c h=>⟨[],rep i c h,by rw [zif];exact .nil⟩,nodup_cons.mpr ⟨shn,hcn⟩⟩
   have fr:∀x o,H6 x=some o->x≠sh/\x∉shc:=λx o h=>by
    refine ⟨λz=>?_,λz=>?_⟩
    ·have:=n8.no;rw [<- z,I.same _ _ h] at this;cases this
    ·have:=(hc x z).2;rw [h] at this;cases this
   have D6H:∀x∈wl::sl::cells,∃o,H6 x=some o:=λx hx=>by
    rcases D6.lists x (mem_cons_of_mem _ hx) with ⟨xs,h⟩|⟨_,_,_,h⟩<;>exact ⟨_,h⟩
   have W8:DW A H8 p wl sl sh cells shc m (DM.new n):=⟨D6.sameT (.of s68),S8,λx hx=>by obtain ⟨o,ho⟩:=D6H x hx;exact fr x o ho,tb6.same s68,ztL hn2⟩
   have P8:=P6.same s68
   obtain ⟨x6,y6,ea6,_⟩:=P6.ex
   obtain ⟨asn,acn⟩:=fr a _ ea6
   have b8:But a H H8:=b6.trans (But.of s68)
   refine ⟨a,18,rfl,P8,by decide,by decide,λnl ns H9 b9 hP9 nl0 hnl hlen nd hin=>?_⟩
   have b9':=b8.trans b9
   have nlx:∀x o,H8 x=some o->x≠nl:=λx o h z=>by rw [z,nl0] at h;cases h
   have Q9:QW A H9 a nl p wl sl sh cells shc m (DM.new n) ns:=by
    refine ⟨W8.potB P8 (λx hx=>(frp x (mem_cons_of_mem _ hx)).1) asn acn b9,hP9,hnl,λx hx=>⟨(frp x (mem_cons_of_mem _ hx)).1,?_⟩,⟨nlx a _ (s68 _ _ ea6),asn,acn,(nlx sh _ S8.w).symm,λz=>?_⟩,⟨rfl,rfl⟩,rfl⟩
    ·obtain ⟨o,ho⟩:=D6H x hx
     exact nlx x o (s68 _ _ ho)
    ·obtain ⟨i,hi,ei⟩:=getElem_of_mem z
     exact nlx nl _ (rep i nl (by rw [<- ei];exact List.getElem?_eq_getElem hi)) rfl
   have T9:TOk m (DM.new n) ns:=zsf hn1 hn2 hm1 hm2 nd hin (by omega)
   have fr9:∀x∈FT a nl p wl sl sh cells shc,x=a\/H x=none:=λx hx=>by
    unfold FT at hx
    rcases mem_cons.mp hx with rfl|hx
    ·exact .inl rfl
    ·rcases mem_cons.mp hx with rfl|hx
     ·exact .inr (b8.no P8 nl0)
     ·rcases mem_cons.mp hx with rfl|hx
      ·exact .inr (frp _ (by simp)).2
      ·rcases mem_cons.mp hx with rfl|hx
       ·exact .inr (frp _ (by simp)).2
       ·rcases mem_cons.mp hx with rfl|hx
        ·exact .inr (frp _ (by simp)).2
        ·rcases mem_cons.mp hx with rfl|hx
         ·exact .inr (b6.no P6 (I.same.free n8.no))
         ·rcases mem_append.mp hx with hx|hx
          ·exact .inr (frp _ (by simp [hx])).2
          ·exact .inr (b6.no P6 (hc x hx).2)
   have but_of:∀{Hy Hc:Hp}{F:List Addr},But a H Hy->(∀x∈F,x=a\/H x=none)->zn F Hy Hc->But a H Hc:=λ{Hy Hc F} b fr k x o nx e=>k x o (b x o nx e) λz=>by
    rcases fr x z with z|z
    ·exact nx z
    ·rw [e] at z;cases z
   try simp_all only []
   refine ⟨a,13,rfl,hP9,by decide,by decide,λr1 H10 b10 hP10 r10 r11=>?_⟩
   have Q10:=Q9.potB b10 hP10
   have bt10:=b9'.trans b10
   try simp_all only []
   refine ⟨by omega,by omega,zad.rng (Lp1 A H10 a nl p wl sl sh cells shc m 18) ⟨⟨_,rfl⟩,⟨_,ns,Q10,T9,by omega⟩,zn.refl⟩ ?_ ?_⟩
   ·rintro i σ Ha hi ⟨⟨t,rfl⟩,⟨d,ns',Qa,Ta,hl⟩,ka⟩
    simp_all only []
    exact ⟨a,nl,p,wl,sl,sh,cells,shc,m,d,ns',rfl,Qa,Ta,by omega,λd' ns2 Hb Qb Tb hl2 kb=>⟨⟨_,rfl⟩,⟨d',ns2,Qb,Tb,by omega⟩,ka.trans kb⟩⟩
   ·rintro σ Ha ⟨⟨t,rfl⟩,⟨d,ns',Qa,Ta,hl⟩,ka⟩
    have bta:=but_of bt10 fr9 ka
    simp_all only []
    refine ⟨a,nl,p,wl,sl,sh,cells,shc,m,d,ns',rfl,Qa,Ta,λp' wl' sl' cells' shc' d' Hb Qb Tb kb fb=>?_⟩
    have btb:=but_of bta fr9 kb
    have frb:∀x∈FT a nl p' wl' sl' sh cells' shc',x=a\/H x=none:=λx hx=>by
     rcases fb x hx with h|h
     ·exact fr9 x h
     ·exact .inr (bta.no Qa.pot h)
    try simp_all only []
    refine ⟨a,7,rfl,Qb.pot,by decide,by decide,λr2 Hc bc hPc r20 r21=>?_⟩
    have Qc:=Qb.potB bc hPc
    have btc:=btb.trans bc
    try simp_all only []
    refine ⟨by omega,by omega,zad.rng (Lp1 A Hc a nl p' wl' sl' sh cells' shc' m 6) ⟨⟨_,rfl⟩,⟨d',ns',Qc,Tb,by omega⟩,zn.refl⟩ ?_ ?_⟩
    ·rintro i σ Hd hi ⟨⟨t,rfl⟩,⟨d2,ns2,Qd,Td,hl2⟩,kd⟩
     simp_all only []
     exact ⟨a,nl,p',wl',sl',sh,cells',shc',m,d2,ns2,rfl,Qd,Td,by omega,λd3 ns3 He Qe Te hl3 ke=>⟨⟨_,rfl⟩,⟨d3,ns3,Qe,Te,by omega⟩,kd.trans ke⟩⟩
    ·rintro σ Hd ⟨⟨t,rfl⟩,⟨d2,ns2,Qd,Td,hl2⟩,kd⟩
     have btd:=but_of btc frb kd
     simp_all only []
     refine ⟨by decide,λtp He me=>?_⟩
     have Qe:=Qd.same me.same
     refine q tp p' wl' sl' sh cells' shc' m d2 He me.at_ Qe.dw Qe.pot (btd.trans (But.of me.same)) (λx hx=>?_) Qe.live.1 Qe.live.2 Qe.sd Td.size Td.wide
     have hxF:x∈FT a nl p' wl' sl' sh cells' shc':=by
      unfold FT
      exact mem_cons_of_mem _ (mem_cons_of_mem _ hx)
     have xa:x≠a:=by
      rcases mem_cons.mp hx with rfl|hx
      ·obtain ⟨dxx,obx⟩:=Qe.dw.disk.ob
       obtain ⟨xs,e⟩:=Qe.pot.lst
       exact Ne.symm (zfV e obx)
      ·rcases mem_cons.mp hx with rfl|hx
       ·exact (Qe.ap _ (by simp)).1
       ·rcases mem_cons.mp hx with rfl|hx
        ·exact (Qe.ap _ (by simp)).1
        ·rcases mem_cons.mp hx with rfl|hx
         ·exact Ne.symm Qe.ap2.2.1
         ·rcases mem_append.mp hx with hx|hx
          ·exact (Qe.ap _ (by simp [hx])).1
          ·exact λz=>Qe.ap2.2.2.1 (z ▸ hx)
     exact ⟨xa,(frb x hxF).resolve_left xa⟩
def zhK(A:zh):Sp:=λvs H Q _=>∃(p wl sl:Addr)(cells:List Addr)(m:Int)(d:DM),vs=[.ref p]/\zE A H p wl sl cells m d/\d.st=false/\d.sides.length=2/\∀d' H',zE A H' p wl sl cells m d'->d'.rows=d.rows->zn (p::wl::sl::cells) H H'->Q (.bl true) H'
theorem zhZ:zu ["_law_disk_here","_law_told"] ["_law_disk_here"] (ze zdq):=⟨rfl,rfl,rfl,f!"",rfl,f!"",f!""⟩
theorem znp{f:Addr}{fd:FuncData}(F:Fun K "_law_halted" "_law_halted" zdq f fd)(T:Txt K mg A)(M_Disk_stop:GM P w K mg base true 1 A.Disk "stop" ["self","many"] (zfz A))(M_Disk_put_side:GMX P w K mg base true 3 A.Disk "put_side" ["self","k","text"] (zhA A)):zo P w K mg base CX0 true 4 f fd ["_law_disk_here"] (zhK A):=by
 refine F.ok zhZ (λvs H Q E h=>?_) (λcdv Ar outer s H vs Q E hr h=>?_)
 ·obtain ⟨p,wl,sl,cells,m,d,rfl,_⟩:=h;rfl
 ·obtain ⟨p,wl,sl,cells,m,d,rfl,D,hst,hsd,q⟩:=h
  refine ⟨_,(W.h (zg (zF (i:=1) zhZ.nd rfl (Or.inl rfl) zbc)
   (zg (zZ (zaX (za 0) T.cl_Disk M_Disk_stop hr (zb zi zc)))
   (zg (zlj rfl rfl ⟨rfl,rfl⟩ T.ek_Stopped rfl T.mg_Stopped (λGa Ex=>(zk (zZ (zdb (za 0) T.cl_Disk zkr M_Disk_put_side hr (zb zi (zb zS zc)))))) (λGa ea=>by
   have hr:=hr.mark (v:=some (.ref ea))
   exact (zk (zF (i:=1) zhZ.nd rfl (Or.inl rfl) zbc))))
   (zk (zH (za 1))))))),?_⟩
  obtain ⟨dx,h1⟩:=D.ob
  simp_all only [h1,zj7]
  refine ⟨p,wl,sl,cells,m,d,0,rfl,D,λH1 D1 b1=>?_⟩
  obtain ⟨dx1,g1⟩:=D1.ob
  try simp_all only [g1,znq]
  have la:("a":Str).length=1:=by decide +kernel
  have e0:dn (d.stop 0).left (("a":Str).length:Nat)=0:=by rw [la];show (if (0:Int)<1 then (0:Int) else 1)=0;decide
  have es:((d.stop 0).spend (("a":Str).length:Nat)).st=true:=by
   show decide (dn (d.stop 0).left (("a":Str).length:Nat)<(("a":Str).length:Nat))=true
   rw [e0,la];decide
  have ep:(d.stop 0).put 0 "a"=(.stop,(d.stop 0).spend (("a":Str).length:Nat)):=by
   unfold DM.put
   rw [if_neg (by show ¬ d.st=true;rw [hst];exact Bool.false_ne_true),if_pos ⟨e0,es⟩]
  refine ⟨p,wl,sl,cells,m,d.stop 0,0,"a",rfl,D1,by show 0<d.sides.length;omega,hsd,by omega,λH2 D2 b2=>?_⟩
  rw [ep] at D2 ⊢
  unfold Out
  dsimp only
  refine ⟨_,rfl,T.ek_Stopped,T.ms_Stopped,λea oe he _=>⟨_,rfl,?_⟩⟩
  have s3:zl H2 (upd H2 ea (.frz oe (.own 0))):=λx o e=>by rw [zd (zA e he)];exact e
  exact q _ _ (D2.sameT (.of s3)) rfl (((b1.mono (by simp)).trans b2).trans (zn.same s3))
end
abbrev zeb:Stmt:=zag (top 29) 0
abbrev zdR:Stmt:=zag (top 29) 1
abbrev zd2:Stmt:=zag (top 29) 2
abbrev zdW:Stmt:=zag (top 29) 14
abbrev Tab:=List (Str×List Int)
def zaj(H:Hp)(v:V)(l:List Int):Prop:=∃p,v = .ref p/\H p=some (.tup (l.map V.int))
def zT(b k:Addr):List (Str×V):=[("births",.ref b),("kept",.ref k)]
structure zbf(H:Hp)(b:Addr)(t:Tab):Prop where
 ex:∃kvs,H b=some (.dK (sk kvs))/\Dct (zaj H) kvs t
 nd:(names t).Nodup
structure zbL(H:Hp)(b:Addr)(t:Tab):Prop where
 ex:∃kvs,Rd H b (.dK (sk kvs))/\Dct (zaj H) kvs t
 nd:(names t).Nodup
theorem zbf.r{H:Hp}{b:Addr}{t:Tab}(h:zbf H b t):zbL H b t:=let ⟨kvs,e,d⟩:=h.ex;⟨⟨kvs,.inl e,d⟩,h.nd⟩
structure zaR(A:zh)(H:Hp)(q b k:Addr)(t:Tab):Prop where
 ob:∃dx,H q=some (.ins A.Files dx (zT b k))
 births:zbL H b t
 kept:Rd H k (.dK (sk []))
def za1(A:zh)(H:Hp)(b k:Addr)(v:V)(t:Tab):Prop:=∃q b' k',v = .ref q/\zaR A H q b' k' t/\b'≠b/\b'≠k/\k'≠b/\k'≠k
structure zJ(A:zh)(H:Hp)(p b k:Addr)(t:Tab)(ks:List (Str×Tab)):Prop where
 ob:∃dx,H p=some (.ins A.Files dx (zT b k))
 births:zbf H b t
 kept:∃kk,H k=some (.dK (sk kk))/\Dct (za1 A H b k) kk ks
 ndk:(names ks).Nodup
 ne:b≠k
structure zdc(A:zh)(H:Hp)(p b k:Addr)(t:Tab)(ks:List (Str×Tab)):Prop where
 ob:∃dx,H p=some (.ins A.Files dx (zT b k))
 births:zbL H b t
 kept:∃kk,Rd H k (.dK (sk kk))/\Dct (za1 A H b k) kk ks
 ndk:(names ks).Nodup
theorem zJ.r{A:zh}{H:Hp}{p b k:Addr}{t:Tab}{ks:List (Str×Tab)}(h:zJ A H p b k t ks):zdc A H p b k t ks:=let ⟨kk,e,d⟩:=h.kept;⟨h.ob,h.births.r,⟨kk,.inl e,d⟩,h.ndk⟩
structure FS(H H':Hp):Prop where
 oth:∀a o,(∀kvs,o≠.dK kvs)->(∀ob kvs,o≠.frz ob (.dK kvs))->H a=some o->H' a=some o
 dic:∀a kvs,Rd H a (.dK kvs)->Rd H' a (.dK kvs)
theorem FS.of{H H':Hp}(s:zl H H'):FS H H':=⟨λa o _ _ e=>s a o e,λa kvs r=>r.elim (λe=>.inl (s _ _ e)) (λ⟨o,e⟩=>.inr ⟨o,s _ _ e⟩)⟩
theorem FS.thaw{H:Hp}{d:Addr}{o:Obj}{kvs:List (Key×V)}(e:H d=some (.frz o (.dK kvs))):FS H (upd H d (.dK kvs)):=by
 refine ⟨λa u n m h=>?_,λa xs r=>?_⟩
 ·rw [zd (λz=>by subst z;rw [e] at h;cases h;exact m _ _ rfl)];exact h
 ·by_cases z:a=d
  ·subst z
   rcases r with r|⟨o',r⟩
   ·rw [e] at r;cases r
   ·rw [e] at r;cases r;exact .inl zq
  ·unfold Rd;rw [zd z];exact r
theorem Rd.same{H H':Hp}{a:Addr}{u:HO}(h:Rd H a u)(s:zl H H'):Rd H' a u:=h.elim (λe=>.inl (s _ _ e)) (λ⟨o,e⟩=>.inr ⟨o,s _ _ e⟩)
theorem But.upd{b:Addr}{H:Hp}{o:HO}:But b H (upd H b o):=λa u n e=>by rw [zd n];exact e
theorem zaj.but{b:Addr}{H H':Hp}{v:V}{l:List Int}(h:zaj H v l)(s:But b H H')(hb:∀xs,H b≠some (.tup xs)):zaj H' v l:=by
 obtain ⟨p,e,hp⟩:=h
 exact ⟨p,e,s p _ (λz=>by subst z;exact hb _ hp) hp⟩
theorem zaj.same{H H':Hp}{v:V}{l:List Int}(h:zaj H v l)(s:zl H H'):zaj H' v l:=let ⟨p,e,hp⟩:=h;⟨p,e,s p _ hp⟩
theorem zbf.but{x:Addr}{H H':Hp}{b:Addr}{t:Tab}(h:zbf H b t)(s:But x H H')(hx:∀xs,H x≠some (.tup xs))(n:b≠x):zbf H' b t:=by
 obtain ⟨kvs,e,d⟩:=h.ex
 exact ⟨⟨kvs,s _ _ n e,d.imp λv a r=>r.but s hx⟩,h.nd⟩
theorem zbf.same{H H':Hp}{b:Addr}{t:Tab}(h:zbf H b t)(s:zl H H'):zbf H' b t:=by
 obtain ⟨kvs,e,d⟩:=h.ex
 exact ⟨⟨kvs,s _ _ e,d.imp λv a r=>r.same s⟩,h.nd⟩
theorem zbL.but{x:Addr}{H H':Hp}{b:Addr}{t:Tab}(h:zbL H b t)(s:But x H H')(hx:∀xs,H x≠some (.tup xs))(n:b≠x):zbL H' b t:=by
 obtain ⟨kvs,e,d⟩:=h.ex
 exact ⟨⟨kvs,e.elim (λe=>.inl (s _ _ n e)) (λ⟨o,e⟩=>.inr ⟨o,s _ _ n e⟩),d.imp λv a r=>r.but s hx⟩,h.nd⟩
theorem zaj.fs{H H':Hp}{v:V}{l:List Int}(h:zaj H v l)(s:FS H H'):zaj H' v l:=let ⟨p,e,hp⟩:=h;⟨p,e,s.oth p _ (λ_=>nofun) (λ_ _=>nofun) hp⟩
theorem zbL.fs{H H':Hp}{b:Addr}{t:Tab}(h:zbL H b t)(s:FS H H'):zbL H' b t:=by
 obtain ⟨kvs,e,d⟩:=h.ex
 exact ⟨⟨kvs,s.dic _ _ e,d.imp λv a r=>r.fs s⟩,h.nd⟩
theorem zaR.but{A:zh}{x:Addr}{H H':Hp}{q b k:Addr}{t:Tab}{kvs:List (Key×V)}(h:zaR A H q b k t)(s:But x H H')(hx:H x=some (.dK kvs))(n1:b≠x)(n2:k≠x):zaR A H' q b k t:=by
 obtain ⟨dx,e⟩:=h.ob
 exact ⟨⟨dx,s _ _ (λz=>by subst z;rw [e] at hx;cases hx) e⟩,h.births.but s (λxs z=>by rw [z] at hx;cases hx) n1,h.kept.elim (λe=>.inl (s _ _ n2 e)) (λ⟨o,e⟩=>.inr ⟨o,s _ _ n2 e⟩)⟩
theorem zaR.fs{A:zh}{H H':Hp}{q b k:Addr}{t:Tab}(h:zaR A H q b k t)(s:FS H H'):zaR A H' q b k t:=let ⟨dx,e⟩:=h.ob;⟨⟨dx,s.oth _ _ (λ_=>nofun) (λ_ _=>nofun) e⟩,h.births.fs s,s.dic _ _ h.kept⟩
theorem zaR.same{A:zh}{H H':Hp}{q b k:Addr}{t:Tab}(h:zaR A H q b k t)(s:zl H H'):zaR A H' q b k t:=h.fs (.of s)
theorem za1.fs{A:zh}{H H':Hp}{b k:Addr}{v:V}{t:Tab}(h:za1 A H b k v t)(s:FS H H'):za1 A H' b k v t:=let ⟨q,b',k',e,r,n⟩:=h;⟨q,b',k',e,r.fs s,n⟩
theorem zdc.fs{A:zh}{H H':Hp}{p b k:Addr}{t:Tab}{ks:List (Str×Tab)}(h:zdc A H p b k t ks)(s:FS H H'):zdc A H' p b k t ks:=by
 obtain ⟨dx,e⟩:=h.ob
 obtain ⟨kk,e2,d⟩:=h.kept
 exact ⟨⟨dx,s.oth _ _ (λ_=>nofun) (λ_ _=>nofun) e⟩,h.births.fs s,⟨kk,s.dic _ _ e2,d.imp λv a r=>r.fs s⟩,h.ndk⟩
theorem zJ.fs{A:zh}{H H':Hp}{p b k d:Addr}{t:Tab}{ks:List (Str×Tab)}(h:zJ A H p b k t ks)(s:FS H H')(bt:But d H H')(n1:b≠d)(n2:k≠d):zJ A H' p b k t ks:=by
 obtain ⟨dx,e⟩:=h.ob
 obtain ⟨kk,e2,d⟩:=h.kept
 obtain ⟨kvs,e3,d3⟩:=h.births.ex
 exact ⟨⟨dx,s.oth _ _ (λ_=>nofun) (λ_ _=>nofun) e⟩,⟨⟨kvs,bt _ _ n1 e3,d3.imp λv a r=>r.fs s⟩,h.births.nd⟩,⟨kk,bt _ _ n2 e2,d.imp λv a r=>r.fs s⟩,h.ndk,h.ne⟩
theorem za1.same{A:zh}{H H':Hp}{b k:Addr}{v:V}{t:Tab}(h:za1 A H b k v t)(s:zl H H'):za1 A H' b k v t:=let ⟨q,b',k',e,r,n⟩:=h;⟨q,b',k',e,r.same s,n⟩
theorem zJ.same{A:zh}{H H':Hp}{p b k:Addr}{t:Tab}{ks:List (Str×Tab)}(h:zJ A H p b k t ks)(s:zl H H'):zJ A H' p b k t ks:=by
 obtain ⟨dx,e⟩:=h.ob
 obtain ⟨kk,e2,d⟩:=h.kept
 exact ⟨⟨dx,s _ _ e⟩,h.births.same s,⟨kk,s _ _ e2,d.imp λv a r=>r.same s⟩,h.ndk,h.ne⟩
theorem zJ.setB{A:zh}{H H':Hp}{p b k:Addr}{t t':Tab}{ks:List (Str×Tab)}{kvs':List (Str×V)}(h:zJ A H p b k t ks)(s:But b H H')(e:H' b=some (.dK (sk kvs')))(d':Dct (zaj H') kvs' t')(nd:(names t').Nodup):zJ A H' p b k t' ks:=by
 obtain ⟨dx,e1⟩:=h.ob
 obtain ⟨kk,e2,d⟩:=h.kept
 obtain ⟨kvs,e3,_⟩:=h.births.ex
 exact ⟨⟨dx,s _ _ (λz=>by subst z;rw [e1] at e3;cases e3) e1⟩,⟨⟨kvs',e,d'⟩,nd⟩,⟨kk,s _ _ (Ne.symm h.ne) e2,d.imp λv a ⟨q,b',k',ev,r,n1,n2,n3,n4⟩=>⟨q,b',k',ev,r.but s e3 n1 n3,n1,n2,n3,n4⟩⟩,h.ndk,h.ne⟩
theorem zJ.setK{A:zh}{H H':Hp}{p b k:Addr}{t:Tab}{ks ks':List (Str×Tab)}{kk':List (Str×V)}(h:zJ A H p b k t ks)(s:But k H H')(e:H' k=some (.dK (sk kk')))(d':Dct (za1 A H' b k) kk' ks')(nd:(names ks').Nodup):zJ A H' p b k t ks':=by
 obtain ⟨dx,e1⟩:=h.ob
 obtain ⟨kk,e2,d⟩:=h.kept
 exact ⟨⟨dx,s _ _ (λz=>by subst z;rw [e1] at e2;cases e2) e1⟩,h.births.but s (λxs z=>by rw [z] at e2;cases e2) h.ne,⟨kk',e,d'⟩,nd,h.ne⟩
theorem za1.but{A:zh}{H H':Hp}{b k:Addr}{v:V}{t:Tab}{kvs:List (Key×V)}(h:za1 A H b k v t)(s:But k H H')(hx:H k=some (.dK kvs)):za1 A H' b k v t:=let ⟨q,b',k',ev,r,n1,n2,n3,n4⟩:=h;⟨q,b',k',ev,r.but s hx n2 n4,n1,n2,n3,n4⟩
section
variable {P:Program}{w:World}{K:Frag}{mg:Str->Option Value}{base:Heap}{A:zh}{b k:Addr}
theorem zbm:(zT b k).lookup ("births":Str)=some (.ref b):=by simp only [zT,List.lookup,beq_self_eq_true]
theorem zgT:(zT b k).lookup ("kept":Str)=some (.ref k):=by simp only [zT,List.lookup,beq_self_eq_true,zvS]
theorem zj4:(zT b k).lookup ("names":Str)=none:=by simp only [zT,List.lookup,zrJ,zqv]
theorem zeV:(zT b k).lookup ("many":Str)=none:=by simp only [zT,List.lookup,zwc,ztR]
theorem zr6:(zT b k).lookup ("put":Str)=none:=by simp only [zT,List.lookup,zsx,zpI]
theorem zo9:(zT b k).lookup ("cut":Str)=none:=by simp only [zT,List.lookup,zrc,zqV]
theorem zvq:(zT b k).lookup ("hold":Str)=none:=by simp only [zT,List.lookup,zmE,zmY]
theorem zkz:(zT b k).lookup ("bare":Str)=none:=by simp only [zT,List.lookup,zuX,zqW]
theorem zxy:(zT b k).lookup ("keep":Str)=none:=by simp only [zT,List.lookup,znQ,zuv]
theorem zjc:(zT b k).lookup ("refuse_if_none":Str)=none:=by simp only [zT,List.lookup,zx2,zvL]
def zfZ(A:zh):Sp:=λvs H Q _=>∃(p dx:Addr),vs=[.ref p]/\H p=some (.ins A.Files dx [])/\∀b k H',But p H H'->H b=none->H k=none->H' b=some (.dK (sk []))->H' k=some (.dK (sk []))->b≠k->H' p=some (.ins A.Files dx (zT b k))->Q .non H'
theorem zon:zu ["self"] ["self"] (ze zeb):=⟨rfl,rfl,rfl,f!"",rfl,f!"",f!""⟩
theorem zym{f:Addr}{fd:FuncData}(F:Fun K "__init__" "Files.__init__" zeb f fd)(T:Txt K mg A):zo P w K mg base CX0 true 1 f fd ["self"] (zfZ A):=by
 refine F.ok zon (λvs H Q E h=>?_) (λcdv Ar outer s H vs Q E hr h=>?_)
 ·obtain ⟨p,dx,rfl,_⟩:=h;rfl
 ·obtain ⟨p,dx,rfl,hp,q⟩:=h
  refine ⟨_,(W.h (zg (zay T.cl_Files T.na_Files_births (za 0) zhM)
   (zk (zay T.cl_Files T.na_Files_kept (za 0) zhM)))),?_⟩
  simp_all only []
  refine λb H1 n1=>⟨dx,[],n1.same _ _ hp,by decide,λk H2 n2=>⟨dx,_,n2.same _ _ zq,by show 1<1000;decide,?_⟩⟩
  have bp:b≠p:=λz=>by have:=n1.no;rw [z,hp] at this;cases this
  have kp:k≠p:=λz=>by have:=n2.no;rw [z,zq] at this;cases this
  have k1:H1 k=none:=by have:=n2.no;rw [zd kp] at this;exact this
  have eF:zB ("kept":Str) (V.ref k) (zB ("births":Str) (V.ref b) [])=zT b k:=by simp only [zB,zT,zu3,if_false]
  have e2:H2 b=some (.dK []):=n2.same _ _ (by rw [zd bp];exact n1.at_)
  rw [eF]
  refine q b k _ (λa o n e=>?_) n1.no (n1.same.free k1) (by rw [zd bp];exact e2) (by rw [zd kp];exact n2.at_) (λz=>?_) zq
  ·rw [zd n]
   exact n2.same _ _ (by rw [zd n];exact n1.same _ _ e)
  ·have:=n2.no
   rw [<- z,zd bp,n1.at_] at this
   cases this
def zhR(A:zh):Sp:=λvs H Q _=>∃(p b k:Addr)(t:Tab)(ks:List (Str×Tab)),vs=[.ref p]/\zdc A H p b k t ks/\t.length<64/\∀l H',New H l (.lst ((zbe (names t)).map V.str)) H'->Q (.ref l) H'
theorem ztQ:zu ["self"] ["self"] (ze zdR):=⟨rfl,rfl,rfl,f!"",rfl,f!"",f!""⟩
theorem zyL{f:Addr}{fd:FuncData}(F:Fun K "names" "Files.names" zdR f fd)(T:Txt K mg A):zo P w K mg base CX0 true 1 f fd ["self"] (zhR A):=by
 refine F.ok ztQ (λvs H Q E h=>?_) (λcdv Ar outer s H vs Q E hr h=>?_)
 ·obtain ⟨p,b,k,t,ks,rfl,_⟩:=h;rfl
 ·obtain ⟨p,b,k,t,ks,rfl,hF,hl,q⟩:=h
  refine ⟨_,(W.h (zk (zH (zM (zyQ rfl) rfl T.n_sorted boot_sorted (zb (zY T.cl_Files T.na_Files_births (za 0)) zc))))),?_⟩
  obtain ⟨dx,e1⟩:=hF.ob
  obtain ⟨kvs,e2,d⟩:=hF.births.ex
  simp_all only [e1,zbm]
  refine ⟨kvs,e2,by rw [d.length];exact hl,?_⟩
  rw [d.names]
  exact q
def lk(t:Tab)(n:Str):List Int:=(look t n).getD []
def zeF(A:zh):Sp:=λvs H Q _=>∃(p b k:Addr)(t:Tab)(ks:List (Str×Tab))(n:Str),vs=[.ref p,.str n]/\zdc A H p b k t ks/\∀H',zl H H'->Q (.int (lk t n).length) H'
theorem zbf.get{H:Hp}{t:Tab}{kvs:List (Str×V)}(d:Dct (zaj H) kvs t)(n:Str){p:Addr}{H':Hp}(s:zl H H')(hp:H' p=some (.tup [])):∃a,(look kvs n).getD (.ref p) = .ref a/\H' a=some (.tup ((lk t n).map V.int)):=by
 rcases d.look n with ⟨v,l,e1,e2,a,ev,ha⟩|⟨e1,e2⟩
 ·exact ⟨a,by rw [e1,ev];rfl,by unfold lk;rw [e2];exact s _ _ ha⟩
 ·exact ⟨p,by rw [e1];rfl,by unfold lk;rw [e2];exact hp⟩
theorem zps:zu ["self","file"] ["self","file"] (ze zd2):=⟨rfl,rfl,rfl,f!"",rfl,f!"",f!""⟩
theorem zvu{f:Addr}{fd:FuncData}(F:Fun K "many" "Files.many" zd2 f fd)(T:Txt K mg A):zo P w K mg base CX0 true 1 f fd ["self","file"] (zeF A):=by
 refine F.ok zps (λvs H Q E h=>?_) (λcdv Ar outer s H vs Q E hr h=>?_)
 ·obtain ⟨p,b,k,t,ks,n,rfl,_⟩:=h;rfl
 ·obtain ⟨p,b,k,t,ks,n,rfl,hF,q⟩:=h
  refine ⟨_,(W.h (zk (zH (zM zaI rfl T.n_len PySem.boot_len (zb (zi1 (zX hr) (zY T.cl_Files T.na_Files_births (za 0)) (za 1) (zav zc)) zc))))),?_⟩
  obtain ⟨dx,e1⟩:=hF.ob
  obtain ⟨kvs,e2,d⟩:=hF.births.ex
  simp_all only [e1,zbm]
  refine ⟨⟨_,e2⟩,zero_le _,λp' H2 n2=>⟨_,Rd.same e2 n2.same,?_⟩⟩
  obtain ⟨a,ea,ha⟩:=zbf.get d n n2.same n2.at_
  rw [zcI,ea,zfs]
  exact ⟨_,.inr ha,by rw [length_map];exact q H2 n2.same⟩
theorem Dct.some_iff{α:Type}{R:V->α->Prop}{kvs:List (Str×V)}{t:List (Str×α)}(d:Dct R kvs t)(n:Str):(look kvs n).isSome=(look t n).isSome:=by
 rcases d.look n with ⟨v,l,e1,e2,_⟩|⟨e1,e2⟩<;>rw [e1,e2]<;>rfl
def zij(A:zh):Sp:=λvs H Q _=>∃(p b k:Addr)(t:Tab)(ks:List (Str×Tab))(n:Str),vs=[.ref p,.str n]/\zdc A H p b k t ks/\(look t n).isSome=true/\Q .non H
theorem zyn:zu ["self","file"] ["self","file"] (ze zdW):=⟨rfl,rfl,rfl,f!"",rfl,f!"",f!""⟩
theorem zrM{f:Addr}{fd:FuncData}(F:Fun K "refuse_if_none" "Files.refuse_if_none" zdW f fd)(T:Txt K mg A):zo P w K mg base CX0 true 1 f fd ["self","file"] (zij A):=by
 refine F.ok zyn (λvs H Q E h=>?_) (λcdv Ar outer s H vs Q E hr h=>?_)
 ·obtain ⟨p,b,k,t,ks,n,rfl,_⟩:=h;rfl
 ·obtain ⟨p,b,k,t,ks,n,rfl,hF,hn,q⟩:=h
  refine ⟨_,(W.h (zk (z7 (zal (zoM (zX hr)) (za 1) (zY T.cl_Files T.na_Files_births (za 0)) rfl)
   (zk zfN)
   zam))),?_⟩
  obtain ⟨dx,e1⟩:=hF.ob
  obtain ⟨kvs,e2,d⟩:=hF.births.ex
  simp_all only [e1,zbm]
  refine ⟨_,e2,?_⟩
  rw [zcI,Dct.some_iff d n,hn]
  exact zeY q
end
abbrev zd0:Stmt:=zag (top 29) 4
abbrev zdY:Stmt:=zag (top 29) 5
section
variable {P:Program}{w:World}{K:Frag}{mg:Str->Option Value}{base:Heap}{A:zh}{b k:Addr}
theorem zlM{i a b:Int}(h1:a<=i)(h2:i<=b):zdP (.int i) a b=true:=by
 show (decide (a<=i)&&decide (i<=b))=true
 rw [decide_eq_true h1,decide_eq_true h2];rfl
theorem zj8{xs:List V}{i:Int}(h0:0<=i)(h1:i<=xs.length):zaw xs none (some i)=xs.take i.toNat:=by
 have e1:HT.sIx xs.length 0 none=0:=rfl
 have e2:HT.sIx xs.length xs.length (some i)=i.toNat:=by
  unfold HT.sIx
  simp only
  split<;>omega
 unfold zaw
 rw [e1,e2];simp
theorem zvo{xs:List V}{i:Int}(h0:0<=i)(h1:i<=xs.length+1):zaw xs (some i) none=xs.drop i.toNat:=by
 have e1:HT.sIx xs.length xs.length none=xs.length:=rfl
 have e2:HT.sIx xs.length 0 (some i)=min i.toNat xs.length:=by
  unfold HT.sIx
  simp only
  split<;>omega
 unfold zaw
 rw [e1,e2]
 by_cases h:i.toNat<=xs.length
 ·rw [Nat.min_eq_left h,take_of_length_le (by rw [length_drop];omega)]
 ·rw [Nat.min_eq_right (by omega),List.drop_eq_nil_of_le (le_refl _),List.drop_eq_nil_of_le (by omega)];simp
def zhX(A:zh):Sp:=λvs H Q _=>∃(p b k:Addr)(t:Tab)(ks:List (Str×Tab))(n:Str)(i x:Int),vs=[.ref p,.str n,.int i,.int x]/\zJ A H p b k t ks/\0<=i/\i<=(lk t n).length/\(lk t n).length<=1000/\t.length<=1000 /\
 ∀H',But b H H'->zJ A H' p b k (zaC t n ((lk t n).take i.toNat++[x]++(lk t n).drop (i.toNat+1))) ks->Q .non H'
theorem zj9:zu ["self","file","place","birth","births"] ["self","file","place","birth"] (ze zd0):=⟨rfl,rfl,rfl,f!"",rfl,f!"",f!""⟩
theorem zoy{f:Addr}{fd:FuncData}(F:Fun K "put" "Files.put" zd0 f fd)(T:Txt K mg A)(M_Files_many:GM P w K mg base true 1 A.Files "many" ["self","file"] (zeF A))(Gd:GF P w K mg base true 2 "is_within" ["value","least","most"] zeo):zo P w K mg base CX0 true 4 f fd ["self","file","place","birth"] (zhX A):=by
 refine F.ok zj9 (λvs H Q E h=>?_) (λcdv Ar outer s H vs Q E hr h=>?_)
 ·obtain ⟨p,b,k,t,ks,n,i,x,rfl,_⟩:=h;rfl
 ·obtain ⟨p,b,k,t,ks,n,i,x,rfl,hF,i0,i1,l1,t1,q⟩:=h
  refine ⟨_,(W.h (zg (z7 (zbV (zaU (zr Gd hr rfl (zb (za 2) (zb zi (zb (zaX (za 0) T.cl_Files M_Files_many hr (zb (za 1) zc)) zc))))))
   (zk zfN)
   zam)
   (zg (zF (i:=4) zj9.nd rfl (Or.inl rfl) (zi1 (zX hr) (zY T.cl_Files T.na_Files_births (za 0)) (za 1) (zav zc)))
   (zk (zbz (zG zfY (zG zfY (zdn zib (za 4) zdy (zdJ (za 2))) (zav (zb (za 3) zc))) (zdn zib (za 4) (zdJ (zG zfY (za 2) zi)) zdy)) (zb4 (zY T.cl_Files T.na_Files_births (za 0)) (za 1) (ze9 (zX hr)))))))),?_⟩
  obtain ⟨dx,e1⟩:=hF.ob
  simp_all only [e1,zbm,zeV]
  refine ⟨p,b,k,t,ks,n,rfl,hF.r,λH1 s1=>?_⟩
  have F1:=hF.same s1
  obtain ⟨dx',e1'⟩:=F1.ob
  obtain ⟨kvs,e2,d⟩:=F1.births.ex
  simp_all only []
  refine ⟨_,_,_,rfl,.int i,?_⟩
  rw [zlM i0 i1]
  simp_all only [e1',zbm]
  refine ⟨⟨_,.inl e2⟩,zero_le _,λp1 H2 n2=>⟨_,.inl (n2.same _ _ e2),?_⟩⟩
  obtain ⟨a,ea,ha⟩:=zbf.get d n n2.same n2.at_
  rw [zcI,ea]
  simp_all only [ha]
  intro p2 H3 s3 e3
  refine ⟨by decide,λp3 H4 n4=>?_⟩
  rw [zj8 i0 (by rw [length_map];exact i1)] at e3
  have big:∀n:Nat,n<=100000->n<=sizeLine:=λn h=>le_trans h (by decide)
  refine .inr ⟨_,n4.same _ _ e3,_,n4.at_,big _ (by simp;omega),λp4 H5 s5 e5=>?_⟩
  have ha5:=s5 _ _ (n4.same _ _ (s3 _ _ ha))
  refine .inr ⟨_,ha5,λp6 H6 s6 e6=>?_⟩
  rw [zvo (by omega) (by rw [length_map];omega)] at e6
  refine .inr ⟨_,s6 _ _ e5,_,e6,big _ (by simp;omega),λp7 H7 s7 e7=>?_⟩
  have sB:zl H1 H7:=((((n2.same.trans s3).trans n4.same).trans s5).trans s6).trans s7
  have F7:=F1.same sB
  obtain ⟨dx7,e17⟩:=F7.ob
  simp_all only [e17,zbm]
  refine ⟨_,sB _ _ e2,by rw [zhc,d.length];exact Nat.lt_of_le_of_lt t1 (by decide),?_⟩
  rw [ziN]
  have bt:∀xs,H7 b≠some (.tup xs):=λxs z=>by rw [sB _ _ e2] at z;cases z
  have et:(i+1).toNat=i.toNat+1:=by omega
  have d7:Dct (zaj H7) kvs t:=d.imp λv a r=>r.same sB
  have r7:zaj H7 (.ref p7) ((lk t n).take i.toNat++[x]++(lk t n).drop (i.toNat+1)):=⟨p7,rfl,by rw [e7,et];simp [List.map_take,List.map_drop]⟩
  refine q _ (λc o nc e=>by rw [zd nc];exact sB _ _ (s1 _ _ e)) (F7.setB But.upd zq ((d7.put n r7).imp λv a r=>r.but But.upd bt) (zga hF.births.nd))
def zcC(t:Tab)(n:Str)(m:Int):Tab:=if m=0 then zao t n else zaC t n ((lk t n).take m.toNat)
def zhC(A:zh):Sp:=λvs H Q _=>∃(p b k:Addr)(t:Tab)(ks:List (Str×Tab))(n:Str)(l:List Int)(m:Int),vs=[.ref p,.str n,.int m]/\zJ A H p b k t ks/\look t n=some l/\0<=m/\m<=l.length/\t.length<=1000/\∀H',But b H H'->zJ A H' p b k (zcC t n m) ks->Q .non H'
theorem zt4:zu ["self","file","many"] ["self","file","many"] (ze zdY):=⟨rfl,rfl,rfl,f!"",rfl,f!"",f!""⟩
theorem zx7{f:Addr}{fd:FuncData}(F:Fun K "cut" "Files.cut" zdY f fd)(T:Txt K mg A)(M_Files_refuse_if_none:GM P w K mg base true 1 A.Files "refuse_if_none" ["self","file"] (zij A))(M_Files_many:GM P w K mg base true 1 A.Files "many" ["self","file"] (zeF A))(Gd:GF P w K mg base true 2 "is_within" ["value","least","most"] zeo):zo P w K mg base CX0 true 4 f fd ["self","file","many"] (zhC A):=by
 refine F.ok zt4 (λvs H Q E h=>?_) (λcdv Ar outer s H vs Q E hr h=>?_)
 ·obtain ⟨p,b,k,t,ks,n,l,m,rfl,_⟩:=h;rfl
 ·obtain ⟨p,b,k,t,ks,n,l,m,rfl,hF,hn,m0,m1,t1,q⟩:=h
  have hu:_<cLine:=lt_of_succ_lt (zX hr)
  refine ⟨_,(W.h (zg (zZ (zaX (za 0) T.cl_Files M_Files_refuse_if_none hr (zb (za 1) zc)))
   (zg (z7 (zbV (zaU (zr Gd hr rfl (zb (za 2) (zb zi (zb (zaX (za 0) T.cl_Files M_Files_many hr (zb (za 1) zc)) zc))))))
   (zk zfN)
   zam)
   (zk (z7 (zal (zbA hu) (za 2) zi (zaa _))
   (zk (zsF (zY T.cl_Files T.na_Files_births (za 0)) (za 1)))
   (zk (zbz (zdn zib (zL (zfW (zX hr)) (zY T.cl_Files T.na_Files_births (za 0)) (za 1) (λ_ _=>rfl)) zdy (zdJ (za 2))) (zb4 (zY T.cl_Files T.na_Files_births (za 0)) (za 1) (ze9 (zX hr)))))))))),?_⟩
  obtain ⟨dx,e1⟩:=hF.ob
  simp_all only [e1,zbm,zjc,zeV]
  refine ⟨p,b,k,t,ks,n,rfl,hF.r,by rw [hn];rfl,?_⟩
  simp_all only [e1,zbm,zjc,zeV]
  refine ⟨p,b,k,t,ks,n,rfl,hF.r,λH1 s1=>?_⟩
  have F1:=hF.same s1
  obtain ⟨dx',e1'⟩:=F1.ob
  obtain ⟨kvs,e2,d⟩:=F1.births.ex
  have el:lk t n=l:=by unfold lk;rw [hn];rfl
  simp_all only []
  refine ⟨_,_,_,rfl,.int m,?_⟩
  rw [zlM m0 (by rw [el];omega)]
  simp_all only [e1',zbm]
  have bt:∀xs,H1 b≠some (.tup xs):=λxs z=>by rw [e2] at z;cases z
  obtain ⟨v,l',d1,d2,a,ev,ha⟩:∃v l',look kvs n=some v/\look t n=some l'/\zaj H1 v l':=by
   rcases d.look n with ⟨v,l',d1,d2,r⟩|⟨_,d2⟩
   ·exact ⟨v,l',d1,d2,r⟩
   ·rw [hn] at d2;cases d2
  rw [hn] at d2
  cases d2
  subst ev
  refine zaV (λh=>?_) (λh=>?_)
  ·have hm:m=0:=of_decide_eq_true h
   refine ⟨_,e2,by rw [zcI,d1];rfl,?_⟩
   rw [zsd]
   have ec:zcC t n m=zao t n:=if_pos hm
   refine q _ (λc o nc e=>by rw [zd nc];exact s1 _ _ e) ?_
   rw [ec]
   exact F1.setB But.upd zq ((d.drop n).imp λv a r=>r.but But.upd bt) (znA hF.births.nd)
  ·have hm : ¬ m=0:=λz=>h (decide_eq_true z)
   refine ⟨_,.inl e2,.ref a,by rw [zcI];exact d1,?_⟩
   simp_all only [ha]
   intro p2 H2 s2 ep
   rw [zj8 m0 (by rw [length_map];exact m1)] at ep
   have F2:=F1.same s2
   obtain ⟨dx2,e12⟩:=F2.ob
   simp_all only [e12,zbm]
   refine ⟨_,s2 _ _ e2,by rw [zhc,d.length];exact Nat.lt_of_le_of_lt t1 (by decide),?_⟩
   rw [ziN]
   have bt2:∀xs,H2 b≠some (.tup xs):=λxs z=>by rw [s2 _ _ e2] at z;cases z
   have d2:Dct (zaj H2) kvs t:=d.imp λv a r=>r.same s2
   have r2:zaj H2 (.ref p2) ((lk t n).take m.toNat):=⟨p2,rfl,by rw [ep,el,List.map_take]⟩
   have ec:zcC t n m=zaC t n ((lk t n).take m.toNat):=if_neg hm
   refine q _ (λc o nc e=>by rw [zd nc];exact s2 _ _ (s1 _ _ e)) ?_
   rw [ec]
   exact F2.setB But.upd zq ((d2.put n r2).imp λv a r=>r.but But.upd bt2) (zga hF.births.nd)
end
abbrev zd6:Stmt:=zag (top 29) 6
abbrev zd1:Stmt:=zag (top 29) 12
abbrev zdv:Stmt:=zag (top 29) 13
section
variable {P:Program}{w:World}{K:Frag}{mg:Str->Option Value}{base:Heap}{A:zh}{b k:Addr}
structure Has(A:zh)(H:Hp)(p:Addr)(t:Tab):Prop where
 ob:∃b k dx,H p=some (.ins A.Files dx (zT b k))/\zbL H b t
theorem zJ.has{H:Hp}{p:Addr}{t:Tab}{ks:List (Str×Tab)}(h:zJ A H p b k t ks):Has A H p t:=let ⟨dx,e⟩:=h.ob;⟨b,k,dx,e,h.births.r⟩
def zfB(A:zh):Sp:=λvs H Q _=>∃(p:Addr)(t:Tab),vs=[.ref p]/\Has A H p t/\∀q b' k' H',zl H H'->H b'=none->H k'=none->H q=none->zaR A H' q b' k' t->Q (.ref q) H'
theorem zkq:zu ["self","other"] ["self"] (ze zd1):=⟨rfl,rfl,rfl,f!"",rfl,f!"",f!""⟩
theorem zpK{f:Addr}{fd:FuncData}(F:Fun K "bare" "Files.bare" zd1 f fd)(T:Txt K mg A)(Gf:GC P w K mg base true 1 "Files" A.Files ["self"] (zfZ A)):zo P w K mg base CX0 true 3 f fd ["self"] (zfB A):=by
 refine F.ok zkq (λvs H Q E h=>?_) (λcdv Ar outer s H vs Q E hr h=>?_)
 ·obtain ⟨p,t,rfl,_⟩:=h;rfl
 ·obtain ⟨p,t,rfl,⟨b,k,dx,e1,hB⟩,q⟩:=h
  refine ⟨_,(W.h (zg (zF (i:=1) zkq.nd rfl (Or.inl rfl) (ziO Gf hr rfl))
   (zg (zay T.cl_Files T.na_Files_births (za 1) (zdI zkx rfl T.n_dict boot_dict (zb (zY T.cl_Files T.na_Files_births (za 0)) zc)))
   (zk (zH (za 1)))))),?_⟩
  obtain ⟨kvs,e2,d⟩:=hB.ex
  simp_all only [e1,zbm]
  refine λx dx2 H2 nI=>⟨x,dx2,rfl,nI.at_,λb1 k1 H3 s3 nb nk eb ek nbk ex=>⟨rfl,?_⟩⟩
  have px:∀c o,H c=some o->c≠x:=λc o e z=>by have:=nI.no;rw [<- z,e] at this;cases this
  have s03:∀c o,H c=some o->H3 c=some o:=λc o e=>s3 c o (px c o e) (nI.same c o e)
  have e13:=s03 _ _ e1
  simp_all only [e13,zbm]
  refine ⟨_,Rd.same e2 s03,λb2 H4 n4=>⟨dx2,_,n4.same _ _ ex,by show 2<1000;decide,?_⟩⟩
  have eF:zB ("births":Str) (V.ref b2) (zT b1 k1)=zT b2 k1:=by simp only [zB,zT,if_true]
  rw [eF]
  have b2x:b2≠x:=λz=>by have:=n4.no;rw [z,ex] at this;cases this
  have k1x:k1≠x:=λz=>by rw [z,ex] at ek;cases ek
  have sF:zl H (upd H4 x (.ins A.Files dx2 (zT b2 k1))):=λc o e=>by rw [zd (px c o e)];exact n4.same _ _ (s03 c o e)
  have fr:∀c,H3 c=none->H c=none:=λc e=>by
   cases h:H c with
   | none=>rfl
   | some o=>rw [s03 c o h] at e;cases e
  have k0:H k1=none:=nI.same.free nk
  refine q x b2 k1 _ sF (fr b2 n4.no) k0 nI.no ⟨⟨dx2,zq⟩,⟨⟨kvs,.inl (by rw [zd b2x];exact n4.at_),d.imp λv a r=>r.same sF⟩,hB.nd⟩,.inl (by rw [zd k1x];exact n4.same _ _ ek)⟩
def ziw(A:zh):Sp:=λvs H Q _=>∃(p b k:Addr)(t:Tab)(ks:List (Str×Tab))(n:Str)(q:Addr)(u:Tab),vs=[.ref p,.str n,.ref q]/\zJ A H p b k t ks/\Has A H q u/\ks.length<=1000/\∀H',But k H H'->zJ A H' p b k t (zaC ks n u)->Q .non H'
theorem zqK:zu ["self","name","files"] ["self","name","files"] (ze zdv):=⟨rfl,rfl,rfl,f!"",rfl,f!"",f!""⟩
theorem zxO{f:Addr}{fd:FuncData}(F:Fun K "keep" "Files.keep" zdv f fd)(T:Txt K mg A)(M_Files_bare:GM P w K mg base true 3 A.Files "bare" ["self"] (zfB A)):zo P w K mg base CX0 true 4 f fd ["self","name","files"] (ziw A):=by
 refine F.ok zqK (λvs H Q E h=>?_) (λcdv Ar outer s H vs Q E hr h=>?_)
 ·obtain ⟨p,b,k,t,ks,n,q,u,rfl,_⟩:=h;rfl
 ·obtain ⟨p,b,k,t,ks,n,qa,u,rfl,hF,hQ,kl,q⟩:=h
  refine ⟨_,(W.h (zk (zbz (zbY (za 2) T.cl_Files M_Files_bare hr) (zb4 (zY T.cl_Files T.na_Files_kept (za 0)) (za 1) (ze9 (zX hr)))))),?_⟩
  obtain ⟨dx,e1⟩:=hF.ob
  obtain ⟨bq,kq,dxq,eq1,_⟩:=hQ.ob
  simp_all only [eq1,zkz]
  refine ⟨qa,u,rfl,hQ,λx b' k' H1 s1 nb nk nx hB=>?_⟩
  have F1:=hF.same s1
  obtain ⟨dx1,e11⟩:=F1.ob
  obtain ⟨kk,e2,d⟩:=F1.kept
  obtain ⟨kvb,eb,_⟩:=hF.births.ex
  obtain ⟨kk0,ek,_⟩:=hF.kept
  simp_all only [e11,zgT]
  refine ⟨_,e2,by rw [zhc,d.length];exact Nat.lt_of_le_of_lt kl (by decide),?_⟩
  rw [ziN]
  have ne:∀c o,H c=some o->∀e,H e=none->e≠c:=λc o h e he z=>by rw [z,h] at he;cases he
  have r:za1 A H1 b k (.ref x) u:=⟨x,b',k',rfl,hB,ne _ _ eb _ nb,ne _ _ ek _ nb,ne _ _ eb _ nk,ne _ _ ek _ nk⟩
  exact q _ (λc o nc e=>by rw [zd nc];exact s1 _ _ e) (F1.setK But.upd zq ((d.put n r).imp λv a r=>r.but But.upd e2) (zga hF.ndk))
def zgn(A:zh):Sp:=λvs H Q _=>∃(p b k:Addr)(t:Tab)(ks:List (Str×Tab))(n:Str),vs=[.ref p,.str n]/\zJ A H p b k t ks/\look ks n=none/\ks.length<=1000/\∀H',But k H H'->zJ A H' p b k t (zaC ks n t)->Q .non H'
theorem zpJ:zu ["self","name"] ["self","name"] (ze zd6):=⟨rfl,rfl,rfl,f!"",rfl,f!"",f!""⟩
theorem zwa{f:Addr}{fd:FuncData}(F:Fun K "hold" "Files.hold" zd6 f fd)(T:Txt K mg A)(M_Files_keep:GM P w K mg base true 4 A.Files "keep" ["self","name","files"] (ziw A)):zo P w K mg base CX0 true 5 f fd ["self","name"] (zgn A):=by
 refine F.ok zpJ (λvs H Q E h=>?_) (λcdv Ar outer s H vs Q E hr h=>?_)
 ·obtain ⟨p,b,k,t,ks,n,rfl,_⟩:=h;rfl
 ·obtain ⟨p,b,k,t,ks,n,rfl,hF,hn,kl,q⟩:=h
  refine ⟨_,(W.h (zg (z7 (zal (zqU (zX hr)) (za 1) (zY T.cl_Files T.na_Files_kept (za 0)) rfl)
   (zk zfN)
   zam)
   (zk (zZ (zaX (za 0) T.cl_Files M_Files_keep hr (zb (za 1) (zb (za 0) zc))))))),?_⟩
  obtain ⟨dx,e1⟩:=hF.ob
  obtain ⟨kk,e2,d⟩:=hF.kept
  simp_all only [e1,zgT,zxy]
  refine ⟨_,.inl e2,?_⟩
  rw [zcI,Dct.some_iff d n,hn]
  exact zeY ⟨p,b,k,t,ks,n,p,t,rfl,hF,hF.has,kl,q⟩
end
abbrev zdZ:Stmt:=zag (top 29) 11
abbrev zc5:Stmt:=zag (top 31) 0
abbrev zcG:Stmt:=zag (top 31) 2
def zaM{α:Type}(l:List (Int×α))(n:Int)(a:α):List (Int×α):=if n∈l.map (·.1) then l.map (λp=>if p.1=n then (p.1,a) else p) else l++[(n,a)]
theorem zi6{kvs:List (Int×V)}{n:Int}:((ik kvs).any λkv=>decide (kv.1=(.inl n:Key)))=true↔n∈kvs.map (·.1):=by
 unfold ik
 rw [List.any_map,List.any_eq_true]
 constructor
 ·rintro ⟨p,hp,h⟩
  have h:(Sum.inl p.1:Key) = .inl n:=of_decide_eq_true h
  cases h
  exact mem_map.mpr ⟨p,hp,rfl⟩
 ·intro h
  obtain ⟨p,hp,rfl⟩:=mem_map.mp h
  exact ⟨p,hp,by simp⟩
theorem zlA{kvs:List (Int×V)}{n:Int}{v:V}:zai (ik kvs) (.inl n) v=ik (zaM kvs n v):=by
 unfold zai zaM
 by_cases h:n∈kvs.map (·.1)
 ·rw [if_pos (zi6.mpr h),if_pos h]
  unfold ik
  rw [map_map,map_map]
  refine map_congr_left λp _=>?_
  show (if (Sum.inl p.1:Key) = .inl n then _ else _)=_
  by_cases e:p.1=n
  ·rw [if_pos (by rw [e])];show _=(Sum.inl (if p.1=n then (p.1,v) else p).1,(if p.1=n then (p.1,v) else p).2);rw [if_pos e]
  ·rw [if_neg (λz=>e (by cases z;rfl))];show _=(Sum.inl (if p.1=n then (p.1,v) else p).1,(if p.1=n then (p.1,v) else p).2);rw [if_neg e]
 ·rw [if_neg (λz=>h (zi6.mp z)),if_neg h]
  unfold ik
  rw [map_append];rfl
theorem ziz{n:Int}{v:V}:∀{kvs:List (Int×V)},(kvs.map (·.1)).Nodup->(n,v)∈kvs->zN (ik kvs) (.inl n)=some v
 | [],_,h=>by cases h
 | p::kvs,nd,h=>by
  have nd':=nodup_cons.mp nd
  show zN ((Sum.inl p.1,p.2)::ik kvs) (.inl n)=_
  rcases mem_cons.mp h with e|h
  ·rw [<- e];exact zeU rfl
  ·have ne : ¬ (Sum.inl p.1:Key) = .inl n:=λz=>by
    cases z
    exact nd'.1 (mem_map.mpr ⟨_,h,rfl⟩)
   rw [zez ne]
   exact ziz nd'.2 h
theorem zgj{kvs:List (Int×V)}:(ik kvs).length=kvs.length:=by simp [ik]
abbrev T3:=Int×Int×Int
def zbj(H:Hp)(p:Int×V)(t:T3):Prop:=p.1=t.1/\∃a,p.2 = .ref a/\H a=some (.tup [.int t.2.1,.int t.2.2])
def zbw(H:Hp)(a:Addr)(t:T3):Prop:=H a=some (.tup [.int t.1,.int t.2.1,.int t.2.2])
structure ziq(ts:List T3):Prop where
 nd:(ts.map (·.1)).Nodup
 few:ts.length<40
 num:∀t∈ts,0<=t.1/\t.1<10 ^ 18
def zbW(f d:Addr)(n m:Int):List (Str×V):=[("own_files",.ref f),("spot_of",.ref d),("next_row",.int n),("next_mark",.int m)]
structure zba(A:zh)(H:Hp)(x:Addr)(ts:List T3):Prop where
 ex:∃dx f d n m kvs,H x=some (.ins A.State dx (zbW f d n m))/\H d=some (.dK (ik kvs))/\Paired (zbj H) kvs ts
 ok:ziq ts
theorem zbj.keep{H H':Hp}{p:Int×V}{t:T3}(h:zbj H p t)(k:∀r xs,H r=some (.tup xs)->H' r=some (.tup xs)):zbj H' p t:=let ⟨e,a,e2,e3⟩:=h;⟨e,a,e2,k _ _ e3⟩
theorem zba.sameT{A:zh}{H H':Hp}{x:Addr}{ts:List T3}(h:zba A H x ts)(s:zD H H'):zba A H' x ts:=by
 obtain ⟨dx,f,d,n,m,kvs,e1,e2,e3⟩:=h.ex
 exact ⟨⟨dx,f,d,n,m,kvs,s _ _ (λ_=>nofun) e1,s _ _ (λ_=>nofun) e2,Paired.mapP e3 λp t r=>r.keep λr xs e=>s.tup e⟩,h.ok⟩
theorem zf7{H:Hp}{kvs:List (Int×V)}{ts:List T3}(h:Paired (zbj H) kvs ts):kvs.map (·.1)=ts.map (·.1):=by
 induction h with
 | nil=>rfl
 | cons r _ ih=>rw [map_cons,map_cons,ih,r.1]
section
variable {P:Program}{w:World}{K:Frag}{mg:Str->Option Value}{base:Heap}{A:zh}{b k f d:Addr}{n m:Int}
theorem ztf:(("copied":Str) == "births")=false:=by decide +kernel
theorem ztT:(("copied":Str) == "kept")=false:=by decide +kernel
theorem zyI:(zT b k).lookup ("copied":Str)=none:=by simp only [zT,List.lookup,ztf,ztT]
theorem zmr:(zbW f d n m).lookup ("spot_of":Str)=some (.ref d):=by simp only [zbW,List.lookup,beq_self_eq_true,zqI]
theorem zw3:(zbW f d n m).lookup ("spots":Str)=none:=by simp only [zbW,List.lookup,ztN,zoX,zwr,zxu]
def zhp(A:zh):Sp:=λvs H Q _=>∃(p b k:Addr)(t:Tab)(ks:List (Str×Tab)),vs=[.ref p]/\zJ A H p b k t ks/\∀q H',zl H H'->Q (.ref q) H'
theorem zkV:zu ["self","other"] ["self"] (ze zdZ):=⟨rfl,rfl,rfl,f!"",rfl,f!"",f!""⟩
theorem znh{f:Addr}{fd:FuncData}(F:Fun K "copied" "Files.copied" zdZ f fd)(T:Txt K mg A)(M_Files_bare:GM P w K mg base true 3 A.Files "bare" ["self"] (zfB A)):zo P w K mg base CX0 true 4 f fd ["self"] (zhp A):=by
 refine F.ok zkV (λvs H Q E h=>?_) (λcdv Ar outer s H vs Q E hr h=>?_)
 ·obtain ⟨p,b,k,t,ks,rfl,_⟩:=h;rfl
 ·obtain ⟨p,b,k,t,ks,rfl,hF,q⟩:=h
  refine ⟨_,(W.h (zg (zF (i:=1) zkV.nd rfl (Or.inl rfl) (zbY (za 0) T.cl_Files M_Files_bare hr))
   (zg (zay T.cl_Files T.na_Files_kept (za 1) (zdI zkx rfl T.n_dict boot_dict (zb (zY T.cl_Files T.na_Files_kept (za 0)) zc)))
   (zk (zH (za 1)))))),?_⟩
  obtain ⟨dx,e1⟩:=hF.ob
  simp_all only [e1,zkz]
  refine ⟨p,t,rfl,hF.has,λx b' k' H1 s1 nb nk nx hB=>?_⟩
  obtain ⟨dx1,ex1⟩:=hB.ob
  have F1:=hF.same s1
  obtain ⟨dx',e1'⟩:=F1.ob
  obtain ⟨kk,e2,_⟩:=F1.kept
  simp_all only [e1',zgT]
  refine ⟨_,.inl e2,λkd H2 n2=>⟨dx1,_,n2.same _ _ ex1,by show 2<1000;decide,?_⟩⟩
  exact q x _ λa o e=>by rw [zd (zA e nx)];exact n2.same _ _ (s1 _ _ e)
structure DcI(H:Hp)(ts:List T3)(i:Nat)(τ:L2.St)(ys:List (Key×V))(H':Hp):Prop where
 ex:∃t1 t2 t3,τ=[t1,t2,t3]
 ys:∃kvs,ys=ik kvs/\Paired (zbj H') kvs (ts.take i)
 same:zl H H'
def zgL(A:zh):Sp:=λvs H Q _=>∃(x p b k sl dx:Addr)(n m:Int)(t:Tab)(ks:List (Str×Tab))(as:List Addr)(ts:List T3),vs=[.ref x,.ref p,.ref sl,.int n,.int m]/\H x=some (.ins A.State dx [])/\zJ A H p b k t ks/\H sl=some (.lst (as.map V.ref))/\Paired (zbw H) as ts/\ziq ts /\
 ∀H',But x H H'->zba A H' x ts->Q .non H'
theorem zs8:zu ["self","files","spots","next_number","mark_number"] ["self","files","spots","next_number","mark_number"] (ze zc5):=⟨rfl,rfl,rfl,f!"",rfl,f!"",f!""⟩
theorem zuj:zaF { kind:=.function,names:=[(Str.ofString ".0",.local),(Str.ofString "birth",.local),(Str.ofString "stretch",.local),(Str.ofString "place",.local)],isGenerator:=false,isCoroutine:=false,more:=[] } (ze zc5).names ["self","files","spots","next_number","mark_number"] ["birth","stretch","place"] [none,none,none]=true:=by decide +kernel
theorem ziI:(["birth","stretch","place"]:List Str).Nodup:=by decide +kernel
theorem zsw{f:Addr}{fd:FuncData}(F:Fun K "__init__" "State.__init__" zc5 f fd)(T:Txt K mg A)(M_Files_copied:GM P w K mg base true 4 A.Files "copied" ["self"] (zhp A)):zo P w K mg base CX0 true 5 f fd ["self","files","spots","next_number","mark_number"] (zgL A):=by
 refine F.ok zs8 (λvs H Q E h=>?_) (λcdv Ar outer s H vs Q E hr h=>?_)
 ·obtain ⟨x,p,b,k,sl,dx,n,m,t,ks,as,ts,rfl,_⟩:=h;rfl
 ·obtain ⟨x,p,b,k,sl,dx,n,m,t,ks,as,ts,rfl,hx,hF,hs,hp,ok,q⟩:=h
  refine ⟨_,(W.h (zg (zay T.cl_State T.na_State_own_files (za 0) (zbY (za 1) T.cl_Files M_Files_copied hr))
   (zg (zay T.cl_State T.na_State_spot_of (za 0) (zuS (λ_=>rfl) (zah.of zuj) (zbg (za 2)) (λ_ _ _ _ _=>(zds (n:=3) (z6 (zI (i:=0) ziI rfl (Or.inl rfl)) (z6 (zI (i:=1) ziI rfl (Or.inl rfl)) (z6 (zI (i:=2) ziI rfl (Or.inl rfl)) zbk))))) (λ_ _ _ _ _=>zbI) (λ_ _ _ _ _=>(za 0)) (λ_ _ _ _ _=>(zav (zb (za 1) (zb (za 2) zc))))))
   (zg (zay T.cl_State T.na_State_next_row (za 0) (za 3))
   (zk (zay T.cl_State T.na_State_next_mark (za 0) (za 4))))))),?_⟩
  obtain ⟨dxf,e1⟩:=hF.ob
  simp_all only [e1,zyI]
  refine ⟨p,b,k,t,ks,rfl,hF,λqf H1 s1=>⟨dx,[],s1 _ _ hx,by decide,?_⟩⟩
  have tne:∀{o:HO}{r:Addr}{xs:List V},H1 r=some (.tup xs)->upd H1 x o r=some (.tup xs):=λ{o r xs} e=>by rw [zd (λz=>by rw [z,s1 _ _ hx] at e;cases e)];exact e
  have sx:sl≠x:=λz=>by rw [z,hx] at hs;cases hs
  have hs2:∀o,upd H1 x o sl=some (.lst (as.map V.ref)):=λo=>by rw [zd sx];exact s1 _ _ hs
  have hlen:=z5 hp
  refine ⟨⟨_,SqL.of (hs2 _)⟩,zfc.lst (xs:=as.map V.ref) (DcI (upd H1 x _) ts) (λi τ ys H' I=>?_) (λi τ ys H' I=>SqL.of (I.same _ _ (hs2 _))) ⟨⟨_,_,_,rfl⟩,⟨[],rfl,.nil⟩,zl.refl _⟩ ?_ ?_⟩
  ·obtain ⟨kvs,e,pr⟩:=I.ys
   have:=z5 pr
   have h2:=length_take_le' i ts
   have:=ok.few
   rw [e,zgj]
   exact zaG (by omega)
  ·intro N i v τ ys H' hv I hN
   obtain ⟨t1,t2,t3,rfl⟩:=I.ex
   obtain ⟨kvs,e,pr⟩:=I.ys
   rw [getElem?_map] at hv
   obtain ⟨a,ha,rfl⟩:=map_eq_some_iff.mp hv
   have hi:i<ts.length:=by rw [<- hlen];exact (List.getElem?_eq_some_iff.mp ha).1
   have hti:ts[i]?=some ts[i]:=List.getElem?_eq_getElem hi
   have ht:=I.same _ _ (tne (o:=_) (s1 _ _ (zaO hp ha hti)))
   refine ⟨a,_,rfl,SqT.of ht,rfl,?_⟩
   simp_all only []
   refine ⟨by decide,λa2 H2 n2=>hN _ _ _ ⟨⟨_,_,_,rfl⟩,⟨kvs++[(ts[i].1,.ref a2)],?_,?_⟩,I.same.trans n2.same⟩⟩
   ·have nin:ts[i].1∉kvs.map (·.1):=by
     rw [zf7 pr]
     intro z
     obtain ⟨u,hu,eu⟩:=mem_map.mp z
     obtain ⟨j,hj,ej⟩:=getElem_of_mem hu
     have hj':j<i:=by rw [length_take] at hj;omega
     rw [List.getElem_take] at ej
     have hj2:j<(ts.map (·.1)).length:=by rw [length_map];omega
     have:=(getElem?_inj hj2 ok.nd).mp (show (ts.map (·.1))[j]?=(ts.map (·.1))[i]? by rw [getElem?_map,getElem?_map,hti,List.getElem?_eq_getElem (show j<ts.length by omega),ej];show some u.1=some ts[i].1;rw [eu])
     omega
    rw [e,zlA]
    unfold zaM
    rw [if_neg nin]
   ·rw [take_add_one,hti]
    exact zbB (Paired.mapP pr λp t r=>r.keep λr xs e=>n2.same _ _ e) (.cons ⟨rfl,a2,rfl,n2.at_⟩ .nil)
  ·intro τ ys H3 I D H4 n4
   obtain ⟨kvs,e,pr⟩:=I.ys
   rw [length_map,hlen,take_of_length_le (le_refl _)] at pr
   rw [e] at n4
   have x4:=n4.same _ _ (I.same _ _ zq)
   refine ⟨dx,_,x4,by show 1<1000;decide,dx,_,zq,by simp only [zB,zgJ,if_false];show 2<1000;decide,dx,_,zq,by simp only [zB,zgJ,zmj,zlL,if_false];show 3<1000;decide,?_⟩
   rw [zbX,zbX]
   have eF:zB ("next_mark":Str) (V.int m) (zB "next_row" (V.int n) (zB "spot_of" (V.ref D) (zB "own_files" (V.ref qf) [])))=zbW qf D n m:=by
    simp only [zB,zbW,zgJ,zmj,zlL,zoW,zot,zxI,if_false]
   rw [eF]
   have Dx:D≠x:=λz=>by have:=n4.no;rw [z,I.same _ _ zq] at this;cases this
   refine q _ (λa o na ea=>?_) ⟨⟨dx,qf,D,n,m,kvs,zq,by rw [zd Dx];exact n4.at_,Paired.mapP pr λp t r=>r.keep λr xs e=>?_⟩,ok⟩
   ·rw [zd na]
    exact n4.same _ _ (I.same _ _ (by rw [zd na];exact s1 _ _ ea))
   ·rw [zd (λz=>by rw [z,I.same _ _ zq] at e;cases e)]
    exact n4.same _ _ e
end
abbrev zcr:Stmt:=top 20
abbrev zdD:Stmt:=top 21
def zcz(ts:List T3)(n:Int):T3:=(ts.find? λt=>decide (t.1=n)).getD (0,0,0)
theorem zlS{ts:List T3}(nd:(ts.map (·.1)).Nodup){t:T3}(h:t∈ts):zcz ts t.1=t:=by
 unfold zcz
 induction ts with
 | nil=>cases h
 | cons u ts ih =>
  obtain ⟨n1,n2⟩:=nodup_cons.mp nd
  rw [find?_cons]
  rcases mem_cons.mp h with rfl|h
  ·rw [decide_eq_true rfl];rfl
  ·have ne : ¬ u.1=t.1:=λz=>n1 (by show u.1∈_;rw [z];exact mem_map.mpr ⟨t,h,rfl⟩)
   rw [decide_eq_false ne]
   exact ih n2 h
theorem zqk{ts:List T3}(nd:(ts.map (·.1)).Nodup):(ts.map (·.1)).map (zcz ts)=ts:=by
 rw [map_map]
 have:∀us:List T3,(∀u∈us,u∈ts)->us.map (zcz ts∘(·.1))=us:=λus h=>by
  induction us with
  | nil=>rfl
  | cons u us ih=>rw [map_cons,ih λv hv=>h v (mem_cons_of_mem _ hv)];show zcz ts u.1::us=_;rw [zlS nd (h u (mem_cons_self ..))]
 exact this ts λ_ h=>h
def pk(ts:List T3)(k:Int):List (Int×Int):=(ts.filter λt=>decide (t.2.1=k)).map λt=>(t.2.2,t.1)
def zcg(ts:List T3)(k:Int)(ns:List Int):Prop:=∃ps:List (Int×Int),ps.Perm (pk ts k)/\ps.Pairwise (λa b=>ltP b a=false)/\ns=ps.map (·.2)
theorem zmi:∀{l m:List (Int×Int)},l.Perm m->l.Pairwise (λa b=>ltP b a=false)->m.Pairwise (λa b=>ltP b a=false)->l=m
 | [],m,p,_,_=>List.Perm.nil_eq p
 | x::l,[],p,_,_=>absurd p.length_eq (by simp)
 | x::l,y::m,p,hl,hm=>by
  have e:x=y:=by
   have h1:x∈y::m:=p.mem_iff.mp (mem_cons_self ..)
   have h2:y∈x::l:=p.mem_iff.mpr (mem_cons_self ..)
   rcases mem_cons.mp h1 with e|h1
   ·exact e
   ·rcases mem_cons.mp h2 with e|h2
    ·exact e.symm
    ·have a:=(pairwise_cons.mp hl).1 y h2
     have b:=(pairwise_cons.mp hm).1 x h1
     rw [ze6] at a b
     obtain ⟨x1,x2⟩:=x
     obtain ⟨y1,y2⟩:=y
     simp only at a b
     have:x1=y1/\x2=y2:=by omega
     rw [this.1,this.2]
  subst e
  rw [zmi ((List.perm_cons x).mp p) (pairwise_cons.mp hl).2 (pairwise_cons.mp hm).2]
theorem zkb{ts:List T3}{k:Int}{ns ns':List Int}(h:zcg ts k ns)(h':zcg ts k ns'):ns=ns':=by
 obtain ⟨ps,p1,s1,rfl⟩:=h
 obtain ⟨qs,p2,s2,rfl⟩:=h'
 rw [zmi (p1.trans p2.symm) s1 s2]
theorem zvC{ts ts':List T3}{k:Int}{ns:List Int}(p:ts'.Perm ts)(h:zcg ts' k ns):zcg ts k ns:=by
 obtain ⟨ps,p1,s1,e⟩:=h
 exact ⟨ps,p1.trans ((p.filter _).map _),s1,e⟩
theorem zeC(ts:List T3)(k:Int):(pk ts k).length<=ts.length:=by unfold pk;rw [length_map];exact List.length_filter_le ..
theorem ztP{ts:List T3}{k:Int}{ns:List Int}(h:zcg ts k ns):ns.length<=ts.length/\∀n∈ns,∃t∈ts,t.1=n:=by
 obtain ⟨ps,p1,_,rfl⟩:=h
 refine ⟨by rw [length_map,p1.length_eq];exact zeC ts k,λn hn=>?_⟩
 obtain ⟨q,hq,rfl⟩:=mem_map.mp hn
 obtain ⟨t,ht,rfl⟩:=mem_map.mp (p1.mem_iff.mp hq)
 exact ⟨t,(mem_filter.mp ht).1,rfl⟩
theorem zl4(ts:List T3)(k:Int)(t:T3):pk (ts++[t]) k=if t.2.1=k then pk ts k++[(t.2.2,t.1)] else pk ts k:=by
 unfold pk
 rw [List.filter_append]
 by_cases h:t.2.1=k
 ·rw [if_pos h,show [t].filter (λt=>decide (t.2.1=k))=[t] by simp [h],map_append];rfl
 ·rw [if_neg h,show [t].filter (λt=>decide (t.2.1=k))=[] by simp [h],append_nil]
section
variable {P:Program}{w:World}{K:Frag}{mg:Str->Option Value}{base:Heap}{A:zh}
def zir(A:zh):Sp:=λvs H Q _=>∃(x:Addr)(ts:List T3),vs=[.ref x]/\zba A H x ts/\∀l as ts' H',zl H H'->H l=none->H' l=some (.lst (as.map V.ref))->Paired (zbw H') as ts'->ts'.Perm ts->Q (.ref l) H'
structure SpI(H:Hp)(x:Addr)(ts:List T3)(ns:List Int)(i:Nat)(τ:L2.St)(ys:List V)(H':Hp):Prop where
 ex:∃t1,τ=[t1,some (.ref x)]
 ys:∃as:List Addr,ys=as.map V.ref/\Paired (zbw H') as ((ns.take i).map (zcz ts))
 same:zl H H'
theorem zvc:zu ["self"] ["self"] (ze zcG):=⟨rfl,rfl,rfl,f!"",rfl,f!"",f!""⟩
theorem zxG:zaF { kind:=.function,names:=[(Str.ofString ".0",.local),(Str.ofString "birth",.local),(Str.ofString "self",.free)],isGenerator:=false,isCoroutine:=false,more:=[] } (ze zcG).names ["self"] ["birth","self"] [none,some 0]=true:=by decide +kernel
theorem zmN:(["birth","self"]:List Str).Nodup:=by decide +kernel
theorem zqb{f:Addr}{fd:FuncData}(F:Fun K "spots" "State.spots" zcG f fd)(T:Txt K mg A):zo P w K mg base CX0 true 1 f fd ["self"] (zir A):=by
 refine F.ok zvc (λvs H Q E h=>?_) (λcdv Ar outer s H vs Q E hr h=>?_)
 ·obtain ⟨x,ts,rfl,_⟩:=h;rfl
 ·obtain ⟨x,ts,rfl,hS,q⟩:=h
  refine ⟨_,(W.h (zk (zH (zbS (λ_=>rfl) (zah.of zxG) (zbg (zM (zjY rfl) rfl T.n_sorted boot_sorted (zb (zY T.cl_State T.na_State_spot_of (za 0)) zc))) (λ_ _ _ _ _=>(zI (i:=0) zmN rfl (Or.inl rfl))) (λ_ _ _ _ _=>zbI) (λ_ _ _ _ _=>(zG zfY (zav (zb (za 0) zc)) (zL (zfW (zX hr)) (zY T.cl_State T.na_State_spot_of (za 1)) (za 0) (λ_ _=>rfl)))))))),?_⟩
  obtain ⟨dx,f',d,n,m,kvs,e1,e2,e3⟩:=hS.ex
  have ok:=hS.ok
  have lk:=z5 e3
  have ky:=zf7 e3
  simp_all only [e1,zmr]
  refine ⟨kvs,.inl e2,by rw [lk];have:=ok.few;omega,λp ns H1 n1 pm _=>?_⟩
  rw [ky] at pm
  have hns:ns.length=ts.length:=by rw [pm.length_eq,length_map]
  refine ⟨⟨_,SqL.of n1.at_⟩,zV.lst (xs:=ns.map V.int) (SpI H1 x ts ns) (λi τ ys H' I=>?_) (λi τ ys H' I=>SqL.of (I.same _ _ n1.at_)) ⟨⟨_,rfl⟩,⟨[],rfl,.nil⟩,zl.refl _⟩ ?_ ?_⟩
  ·obtain ⟨as,e,pr⟩:=I.ys
   have:=z5 pr
   rw [length_map] at this
   have h2:=length_take_le' i ns
   have:=ok.few
   rw [e,length_map]
   exact zaG (by omega)
  ·intro N i v τ ys H' hv I hN
   obtain ⟨t1,rfl⟩:=I.ex
   obtain ⟨as,e,pr⟩:=I.ys
   rw [getElem?_map] at hv
   obtain ⟨nb,hnb,rfl⟩:=map_eq_some_iff.mp hv
   have e1':=I.same _ _ (n1.same _ _ e1)
   have e2':=I.same _ _ (n1.same _ _ e2)
   obtain ⟨t,ht,et⟩:=mem_map.mp (pm.mem_iff.mp (mem_of_getElem? hnb))
   obtain ⟨j,hj,ej⟩:=getElem_of_mem ht
   have hjk:j<kvs.length:=by rw [lk];exact hj
   obtain ⟨s1,a,s2,s3⟩:=zaO e3 (List.getElem?_eq_getElem hjk) (List.getElem?_eq_getElem hj)
   rw [ej] at s1 s3
   have hv2:zN (ik kvs) (.inl nb)=some (.ref a):=by
    refine ziz (by rw [ky];exact ok.nd) ?_
    rw [<- et,<- s1,<- s2]
    exact List.getElem_mem hjk
   simp_all only []
   refine ⟨by decide,λp1 H2 n2=>?_⟩
   have e12:=n2.same _ _ e1'
   simp_all only [e12,zmr]
   refine ⟨_,.inl (n2.same _ _ e2'),_,hv2,?_⟩
   simp_all only []
   refine .inr ⟨_,n2.at_,_,n2.same _ _ (I.same _ _ (n1.same _ _ s3)),by show 3<=sizeLine;decide,λp2 H3 s3' e3'=>hN _ _ _ ⟨⟨_,rfl⟩,⟨as++[p2],by rw [e,map_append];rfl,?_⟩,I.same.trans (n2.same.trans s3')⟩⟩
   rw [take_add_one,hnb,map_append]
   refine zbB (Paired.mapP pr λa t r=>s3' _ _ (n2.same _ _ r)) (.cons ?_ .nil)
   show H3 p2=_
   rw [e3',<- et,zlS ok.nd ht];rfl
  ·intro τ ys H' I D H2 n2
   obtain ⟨as,e,pr⟩:=I.ys
   rw [length_map,take_of_length_le (le_refl _)] at pr
   rw [e] at n2
   refine q D as _ H2 ((n1.same.trans I.same).trans n2.same) ((n1.same.trans I.same).free n2.no) n2.at_ (Paired.mapP pr λa t r=>n2.same _ _ r) ?_
   have:=pm.map (zcz ts)
   rw [zqk ok.nd] at this
   exact this
structure FdI(H:Hp)(k:Int)(ts:List T3)(i:Nat)(τ:L2.St)(ys:List V)(H':Hp):Prop where
 ex:∃t1 t2 t3,τ=[t1,t2,t3,some (.int k)]
 ys:∃as:List Addr,ys=as.map V.ref/\Paired (zcb H') as (pk (ts.take i) k)
 same:zl H H'
structure BtI(H:Hp)(ps:List (Int×Int))(i:Nat)(τ:L2.St)(ys:List V)(H':Hp):Prop where
 ex:∃t1 t2,τ=[t1,t2]
 ys:ys=((ps.take i).map (·.2)).map V.int
 same:H'=H
def zfh(A:zh):Sp:=λvs H Q _=>∃(x:Addr)(ts:List T3)(k:Int),vs=[.ref x,.int k]/\zba A H x ts/\∀l ns H',zl H H'->H l=none->l≠sysModules->H' l=some (.lst (ns.map V.int))->zcg ts k ns->Q (.ref l) H'
theorem zkM:zu ["state","stretch","found"] ["state","stretch"] (ze zcr):=⟨rfl,rfl,rfl,f!"",rfl,f!"",f!""⟩
theorem zxD:zaF { kind:=.function,names:=[(Str.ofString ".0",.local),(Str.ofString "birth",.local),(Str.ofString "at",.local),(Str.ofString "place",.local),(Str.ofString "stretch",.free)],isGenerator:=false,isCoroutine:=false,more:=[] } (ze zcr).names ["state","stretch","found"] ["birth","at","place","stretch"] [none,none,none,some 1]=true:=by decide +kernel
theorem zgm:(["birth","at","place","stretch"]:List Str).Nodup:=by decide +kernel
theorem zq6:zaF { kind:=.function,names:=[(Str.ofString ".0",.local),(Str.ofString "place",.local),(Str.ofString "birth",.local)],isGenerator:=false,isCoroutine:=false,more:=[] } (ze zcr).names ["state","stretch","found"] ["place","birth"] [none,none]=true:=by decide +kernel
theorem zj0:(["place","birth"]:List Str).Nodup:=by decide +kernel
theorem zvN{f:Addr}{fd:FuncData}(F:Fun K "living_in" "living_in" zcr f fd)(T:Txt K mg A)(M_State_spots:GM P w K mg base true 1 A.State "spots" ["self"] (zir A)):zo P w K mg base CX0 true 2 f fd ["state","stretch"] (zfh A):=by
 refine F.ok zkM (λvs H Q E h=>?_) (λcdv Ar outer s H vs Q E hr h=>?_)
 ·obtain ⟨x,ts,k,rfl,_⟩:=h;rfl
 ·obtain ⟨x,ts,k,rfl,hS,q⟩:=h
  have hu:_<cLine:=lt_of_succ_lt (zX hr)
  refine ⟨_,(W.h (zg (zeK (i0:=2) zkM.nd rfl (Or.inl rfl) (λ_=>rfl) (zah.of zxD) (zbg (zbY (za 0) T.cl_State M_State_spots hr)) (λ_ _ _ _ _=>(zds (n:=3) (z6 (zI (i:=0) zgm rfl (Or.inl rfl)) (z6 (zI (i:=1) zgm rfl (Or.inl rfl)) (z6 (zI (i:=2) zgm rfl (Or.inl rfl)) zbk))))) (λ_ _ _ _ _=>(zeE (zal (zbA hu) (za 1) (za 3) (zaa _)))) (λ_ _ _ _ _=>(zav (zb (za 2) (zb (za 0) zc)))))
   (zk (zH (zbS (λ_=>rfl) (zah.of zq6) (zbg (zM zkI rfl T.n_sorted boot_sorted (zb (za 2) zc))) (λ_ _ _ _ _=>(zds (n:=2) (z6 (zI (i:=0) zj0 rfl (Or.inl rfl)) (z6 (zI (i:=1) zj0 rfl (Or.inl rfl)) zbk)))) (λ_ _ _ _ _=>zbI) (λ_ _ _ _ _=>(za 1))))))),?_⟩
  obtain ⟨dx,f',d,n,m,kvs,e1,e2,e3⟩:=hS.ex
  have ok:=hS.ok
  simp_all only [e1,zw3]
  refine ⟨x,ts,rfl,hS,λl as ts' H1 s1 l0 hl hp pm=>?_⟩
  have hlen:=z5 hp
  have hts:ts'.length<40:=by rw [pm.length_eq];exact ok.few
  simp_all only []
  refine ⟨⟨_,SqL.of hl⟩,zV.lst (xs:=as.map V.ref) (FdI H1 k ts') (λi τ ys H' I=>?_) (λi τ ys H' I=>SqL.of (I.same _ _ hl)) ⟨⟨_,_,_,rfl⟩,⟨[],rfl,.nil⟩,zl.refl _⟩ ?_ ?_⟩
  ·obtain ⟨bs,e,pr⟩:=I.ys
   have:=z5 pr
   have h2:=length_take_le' i ts'
   have:=zeC (ts'.take i) k
   rw [e,length_map]
   exact zaG (by omega)
  ·intro N i v τ ys H' hv I hN
   obtain ⟨t1,t2,t3,rfl⟩:=I.ex
   obtain ⟨bs,e,pr⟩:=I.ys
   rw [getElem?_map] at hv
   obtain ⟨a,ha,rfl⟩:=map_eq_some_iff.mp hv
   have hi:i<ts'.length:=by rw [<- hlen];exact (List.getElem?_eq_some_iff.mp ha).1
   have hti:ts'[i]?=some ts'[i]:=List.getElem?_eq_getElem hi
   have ht:=I.same _ _ (zaO hp ha hti)
   have sn:=zl4 (ts'.take i) k ts'[i]
   have tk:ts'.take (i+1)=ts'.take i++[ts'[i]]:=by rw [take_add_one,hti];rfl
   refine ⟨a,_,rfl,SqT.of ht,rfl,?_⟩
   generalize ts'[i]=t at ht sn tk
   simp_all only []
   by_cases hk:t.2.1=k
   ·rw [decide_eq_true hk]
    simp_all only []
    refine ⟨by decide,λp2 H2 n2=>hN _ _ _ ⟨⟨_,_,_,rfl⟩,⟨bs++[p2],by rw [e,map_append];rfl,?_⟩,I.same.trans n2.same⟩⟩
    rw [tk,sn,if_pos hk]
    exact zbB (Paired.mapP pr λa t r=>n2.same _ _ r) (.cons n2.at_ .nil)
   ·rw [decide_eq_false hk]
    simp_all only []
    refine hN _ _ _ ⟨⟨_,_,_,rfl⟩,⟨bs,e,?_⟩,I.same⟩
    rw [tk,sn,if_neg hk]
    exact pr
  ·intro τ ys H2 I D H3 n3
   obtain ⟨bs,e,pr⟩:=I.ys
   rw [length_map,hlen,take_of_length_le (le_refl _)] at pr
   rw [e] at n3
   have lb:=z5 pr
   have sI:=I.same
   have:=zeC ts' k
   simp_all only []
   refine ⟨bs,n3.at_,_,Paired.mapP pr λa t r=>n3.same _ _ r,by omega,λD2 as2 ps2 H4 n4 _ p4 pm4 so4=>?_⟩
   try simp_all only []
   have l4:=z5 p4
   have l5:=pm4.length_eq
   refine ⟨⟨_,SqL.of n4.at_⟩,zV.lstS (xs:=as2.map V.ref) (BtI H4 ps2) (λi τ ys H' I=>?_) (λi τ ys H' I=>by rw [I.same];exact SqL.of n4.at_) ⟨⟨_,_,rfl⟩,rfl,rfl⟩ ?_ ?_⟩
   ·have h2:=length_take_le' i ps2
    rw [I.ys,length_map,length_map]
    exact zaG (by omega)
   ·intro N i v τ ys H' hv I hN
    obtain ⟨t1,t2,rfl⟩:=I.ex
    rw [getElem?_map] at hv
    obtain ⟨a,ha,rfl⟩:=map_eq_some_iff.mp hv
    have hi:i<ps2.length:=by rw [<- l4];exact (List.getElem?_eq_some_iff.mp ha).1
    have hti:ps2[i]?=some ps2[i]:=List.getElem?_eq_getElem hi
    have e:=I.same
    subst e
    have ht:=n4.same _ _ (zaO p4 ha hti)
    refine ⟨a,_,rfl,SqT.of ht,rfl,?_⟩
    simp_all only []
    refine hN _ _ _ ⟨⟨_,_,rfl⟩,?_,rfl⟩
    rw [I.ys,take_add_one,hti,map_append,map_append]
    rfl
   ·intro τ ys H5 I D5 H6 n6 ns6
    have e:=I.same
    subst e
    have hy:=I.ys
    rw [length_map,l4,take_of_length_le (le_refl _)] at hy
    rw [hy] at n6
    exact q D5 _ H6 ((((s1.trans sI).trans n3.same).trans n4.same).trans n6.same) (((((s1.trans sI).trans n3.same).trans n4.same)).free n6.no) ns6 n6.at_ (zvC pm ⟨ps2,pm4,so4,rfl⟩)
end
abbrev zcv:Stmt:=top 47
abbrev zdN:Stmt:=top 43
theorem zk3{a b c:V}:atI [a,b,c] 0=some a:=rfl
theorem zjk{a b c:V}:atI [a,b,c] 1=some b:=rfl
theorem zk1{a b c:V}:atI [a,b,c] 2=some c:=rfl
section
variable {P:Program}{w:World}{K:Frag}{mg:Str->Option Value}{base:Heap}{A:zh}
def zg3(A:zh):Sp:=λvs H Q _=>∃(p wl sl x:Addr)(cells:List Addr)(m:Int)(d:DM)(ts:List T3)(k:Nat),vs=[.ref p,.ref x,.int k]/\zE A H p wl sl cells m d/\k<d.rows.length/\zba A H x ts/\∀(ns:List Int) H',zl H H'->zcg ts k ns->Q (.int ((d.rows.getD k []).length-ns.length)) H'
theorem zpA:zu ["disk","state","stretch"] ["disk","state","stretch"] (ze zdD):=⟨rfl,rfl,rfl,f!"",rfl,f!"",f!""⟩
theorem zuQ{f:Addr}{fd:FuncData}(F:Fun K "waste" "waste" zdD f fd)(T:Txt K mg A)(M_Disk_next_place:GM P w K mg base true 1 A.Disk "next_place" ["self","stretch"] (zgI A))(Gg:GF P w K mg base true 2 "living_in" ["state","stretch"] (zfh A)):zo P w K mg base CX0 true 3 f fd ["disk","state","stretch"] (zg3 A):=by
 refine F.ok zpA (λvs H Q E h=>?_) (λcdv Ar outer s H vs Q E hr h=>?_)
 ·obtain ⟨p,wl,sl,x,cells,m,d,ts,k,rfl,_⟩:=h;rfl
 ·obtain ⟨p,wl,sl,x,cells,m,d,ts,k,rfl,D,hk,hS,q⟩:=h
  refine ⟨_,(W.h (zk (zH (zG zdu (zaX (za 0) T.cl_Disk M_Disk_next_place hr (zb (za 2) zc)) (zM zaI rfl T.n_len PySem.boot_len (zb (zr Gg hr rfl (zb (za 1) (zb (za 2) zc))) zc)))))),?_⟩
  obtain ⟨dx,h1⟩:=D.ob
  simp_all only [h1,zsy]
  refine ⟨p,wl,sl,cells,m,d,k,rfl,D,hk,x,ts,k,rfl,hS,λl ns H1 s1 l0 _ hl al=>?_⟩
  simp_all only [hl,length_map]
  exact q ns H1 s1 al
structure AlI(H:Hp)(k:Int)(ts:List T3)(i:Nat)(τ:L2.St)(ys:List V)(H':Hp):Prop where
 ex:∃t1,τ=[t1,some (.int k)]
 ys:∃as:List Addr,ys=as.map V.ref/\Paired (zcb H') as (pk (ts.take i) k)
 same:zl H H'
def zhO:Sp:=λvs H Q _=>∃(sl:Addr)(as:List Addr)(ts:List T3)(k:Int),vs=[.ref sl,.int k]/\H sl=some (.lst (as.map V.ref))/\Paired (zbw H) as ts/\ts.length<40/\∀l ns H',zl H H'->H l=none->l≠sysModules->H' l=some (.lst (ns.map V.int))->zcg ts k ns->Q (.ref l) H'
theorem zxl:zu ["_law_spots","_law_stretch"] ["_law_spots","_law_stretch"] (ze zcv):=⟨rfl,rfl,rfl,f!"",rfl,f!"",f!""⟩
theorem zmD:zaF { kind:=.function,names:=[(Str.ofString ".0",.local),(Str.ofString "_law_one",.local),(Str.ofString "_law_stretch",.free)],isGenerator:=false,isCoroutine:=false,more:=[] } (ze zcv).names ["_law_spots","_law_stretch"] ["_law_one","_law_stretch"] [none,some 1]=true:=by decide +kernel
theorem zw9:(["_law_one","_law_stretch"]:List Str).Nodup:=by decide +kernel
theorem zqq:zaF { kind:=.function,names:=[(Str.ofString ".0",.local),(Str.ofString "_law_place",.local),(Str.ofString "_law_birth",.local)],isGenerator:=false,isCoroutine:=false,more:=[] } (ze zcv).names ["_law_spots","_law_stretch"] ["_law_place","_law_birth"] [none,none]=true:=by decide +kernel
theorem zlg:(["_law_place","_law_birth"]:List Str).Nodup:=by decide +kernel
theorem zwR{f:Addr}{fd:FuncData}(F:Fun K "_law_alive" "_law_alive" zcv f fd)(T:Txt K mg A):zo P w K mg base CX0 true 1 f fd ["_law_spots","_law_stretch"] zhO:=by
 refine F.ok zxl (λvs H Q E h=>?_) (λcdv Ar outer s H vs Q E hr h=>?_)
 ·obtain ⟨sl,as,ts,k,rfl,_⟩:=h;rfl
 ·obtain ⟨sl,as,ts,k,rfl,hl,hp,hts,q⟩:=h
  have hu:_<cLine:=lt_of_succ_lt (zX hr)
  refine ⟨_,(W.h (zk (zH (zbS (λ_=>rfl) (zah.of zqq) (zbg (zM zkI rfl T.n_sorted boot_sorted (zb (zbS (λ_=>rfl) (zah.of zmD) (zbg (za 0)) (λ_ _ _ _ _=>(zI (i:=0) zw9 rfl (Or.inl rfl))) (λ_ _ _ _ _=>(zeE (zal (zbA hu) (zL zQ (za 0) zi (λ_ _=>rfl)) (za 1) (zaa _)))) (λ_ _ _ _ _=>(zav (zb (zL zQ (za 0) zi (λ_ _=>rfl)) (zb (zL zQ (za 0) zi (λ_ _=>rfl)) zc))))) zc))) (λ_ _ _ _ _=>(zds (n:=2) (z6 (zI (i:=0) zlg rfl (Or.inl rfl)) (z6 (zI (i:=1) zlg rfl (Or.inl rfl)) zbk)))) (λ_ _ _ _ _=>zbI) (λ_ _ _ _ _=>(za 1)))))),?_⟩
  have hlen:=z5 hp
  simp_all only []
  refine ⟨⟨_,SqL.of hl⟩,zV.lst (xs:=as.map V.ref) (AlI H k ts) (λi τ ys H' I=>?_) (λi τ ys H' I=>SqL.of (I.same _ _ hl)) ⟨⟨_,rfl⟩,⟨[],rfl,.nil⟩,zl.refl _⟩ ?_ ?_⟩
  ·obtain ⟨bs,e,pr⟩:=I.ys
   have:=z5 pr
   have h2:=length_take_le' i ts
   have:=zeC (ts.take i) k
   rw [e,length_map]
   exact zaG (by omega)
  ·intro N i v τ ys H' hv I hN
   obtain ⟨t1,rfl⟩:=I.ex
   obtain ⟨bs,e,pr⟩:=I.ys
   rw [getElem?_map] at hv
   obtain ⟨a,ha,rfl⟩:=map_eq_some_iff.mp hv
   have hi:i<ts.length:=by rw [<- hlen];exact (List.getElem?_eq_some_iff.mp ha).1
   have hti:ts[i]?=some ts[i]:=List.getElem?_eq_getElem hi
   have ht:=I.same _ _ (zaO hp ha hti)
   have sn:=zl4 (ts.take i) k ts[i]
   have tk:ts.take (i+1)=ts.take i++[ts[i]]:=by rw [take_add_one,hti];rfl
   generalize ts[i]=t at ht sn tk
   simp_all only [ht,zk3,zjk,zk1]
   by_cases hk:t.2.1=k
   ·rw [decide_eq_true hk]
    simp_all only [ht,zk3,zjk,zk1]
    refine ⟨by decide,λp2 H2 n2=>hN _ _ _ ⟨⟨_,rfl⟩,⟨bs++[p2],by rw [e,map_append];rfl,?_⟩,I.same.trans n2.same⟩⟩
    rw [tk,sn,if_pos hk]
    exact zbB (Paired.mapP pr λa t r=>n2.same _ _ r) (.cons n2.at_ .nil)
   ·rw [decide_eq_false hk]
    simp_all only []
    refine hN _ _ _ ⟨⟨_,rfl⟩,⟨bs,e,?_⟩,I.same⟩
    rw [tk,sn,if_neg hk]
    exact pr
  ·intro τ ys H2 I D H3 n3
   obtain ⟨bs,e,pr⟩:=I.ys
   rw [length_map,hlen,take_of_length_le (le_refl _)] at pr
   rw [e] at n3
   have lb:=z5 pr
   have sI:=I.same
   have:=zeC ts k
   simp_all only []
   refine ⟨bs,n3.at_,_,Paired.mapP pr λa t r=>n3.same _ _ r,by omega,λD2 as2 ps2 H4 n4 _ p4 pm4 so4=>?_⟩
   try simp_all only []
   have l4:=z5 p4
   have l5:=pm4.length_eq
   refine ⟨⟨_,SqL.of n4.at_⟩,zV.lstS (xs:=as2.map V.ref) (BtI H4 ps2) (λi τ ys H' I=>?_) (λi τ ys H' I=>by rw [I.same];exact SqL.of n4.at_) ⟨⟨_,_,rfl⟩,rfl,rfl⟩ ?_ ?_⟩
   ·have h2:=length_take_le' i ps2
    rw [I.ys,length_map,length_map]
    exact zaG (by omega)
   ·intro N i v τ ys H' hv I hN
    obtain ⟨t1,t2,rfl⟩:=I.ex
    rw [getElem?_map] at hv
    obtain ⟨a,ha,rfl⟩:=map_eq_some_iff.mp hv
    have hi:i<ps2.length:=by rw [<- l4];exact (List.getElem?_eq_some_iff.mp ha).1
    have hti:ps2[i]?=some ps2[i]:=List.getElem?_eq_getElem hi
    have e:=I.same
    subst e
    have ht:=n4.same _ _ (zaO p4 ha hti)
    refine ⟨a,_,rfl,SqT.of ht,rfl,?_⟩
    simp_all only []
    refine hN _ _ _ ⟨⟨_,_,rfl⟩,?_,rfl⟩
    rw [I.ys,take_add_one,hti,map_append,map_append]
    rfl
   ·intro τ ys H5 I D5 H6 n6 ns6
    have e:=I.same
    subst e
    have hy:=I.ys
    rw [length_map,l4,take_of_length_le (le_refl _)] at hy
    rw [hy] at n6
    exact q D5 _ H6 (((sI.trans n3.same).trans n4.same).trans n6.same) ((((sI.trans n3.same).trans n4.same)).free n6.no) ns6 n6.at_ ⟨ps2,pm4,so4,rfl⟩
end
def zar(a:Addr)(H H':Hp):Prop:=∀b o,b≠a->(∀ps,o≠.tbl ps)->H b=some o->H' b=some o
theorem zar.of{a:Addr}{H H':Hp}(s:zD H H'):zar a H H':=λb o _ n e=>s b o n e
theorem zar.but{a:Addr}{H H':Hp}(s:But a H H'):zar a H H':=λb o n _ e=>s b o n e
theorem zar.trans{a:Addr}{H H1 H2:Hp}(x:zar a H H1)(y:zar a H1 H2):zar a H H2:=λb o n m e=>y b o n m (x b o n m e)
theorem zyA{α:Type}{l:List (Int×α)}{n:Int}{a:α}:(zaM l n a).map (·.1)=if n∈l.map (·.1) then l.map (·.1) else l.map (·.1)++[n]:=by
 unfold zaM
 split
 ·rw [map_map]
  refine map_congr_left λp _=>?_
  show (if p.1=n then (p.1,a) else p).1=p.1
  split<;>rfl
 ·rw [map_append];rfl
theorem zxa{α:Type}{l:List (Int×α)}{n:Int}{a:α}(h:(l.map (·.1)).Nodup):((zaM l n a).map (·.1)).Nodup:=by
 rw [zyA]
 split
 ·exact h
 ·rename_i hn
  rw [nodup_append]
  exact ⟨h,by simp,λx hx y hy e=>by rw [mem_singleton] at hy;exact hn (by rw [<- hy,<- e];exact hx)⟩
theorem zt1{α:Type}{l:List (Int×α)}{n:Int}{a:α}:(zaM l n a).length<=l.length+1:=by
 unfold zaM
 split<;>simp
theorem znX{α:Type}{l:List (Int×α)}{n:Int}{a:α}{p:Int×α}(h:p∈zaM l n a):p∈l\/p=(n,a):=by
 unfold zaM at h
 split at h
 ·obtain ⟨q,hq,e⟩:=mem_map.mp h
  by_cases c:q.1=n
  ·rw [if_pos c] at e;right;rw [<- e,c]
  ·rw [if_neg c] at e;left;rw [<- e];exact hq
 ·rcases mem_append.mp h with h|h
  ·exact .inl h
  ·exact .inr (by simpa using h)
theorem zoS{H:Hp}{kvs:List (Int×V)}{us:List T3}(h:Paired (zbj H) kvs us){n:Int}{v:V}{st:Int×Int}(r:zbj H (n,v) (n,st)):Paired (zbj H) (zaM kvs n v) (zaM us n st):=by
 have ky:=zf7 h
 unfold zaM
 rw [ky]
 split
 ·rename_i hin
  clear ky hin
  induction h with
  | nil=>exact .nil
  | @cons p t l m hp _ ih =>
   rw [map_cons,map_cons]
   refine .cons ?_ ih
   rw [hp.1]
   by_cases c:t.1=n
   ·rw [if_pos c,if_pos c]
    exact ⟨rfl,r.2⟩
   ·rw [if_neg c,if_neg c];exact hp
 ·exact zbB h (.cons r .nil)
section
variable {P:Program}{w:World}{K:Frag}{mg:Str->Option Value}{base:Heap}{A:zh}
structure BiI(A:zh)(H2:Hp)(a sh dd:Addr)(i:Nat)(σ:L2.St)(H':Hp):Prop where
 ex:∃t1 t2 t3,σ=[some (V.ref a),some (.ref sh),some (.ref dd),t1,t2,t3]
 dic:∃kvs us,H' dd=some (.dK (ik kvs))/\Paired (zbj H') kvs us/\(us.map (·.1)).Nodup/\us.length<=i/\∀t∈us,0<=t.1/\t.1<10 ^ 18
 keep:∀b o,b≠a->b≠dd->H2 b=some o->H' b=some o
 pot:Pot H' a
def zhl(A:zh):Sp:=λvs H Q _=>∃(a p wl sl sh:Addr)(cells shc:List Addr)(m:Int)(d:DM),vs=[.ref a,.ref sh]/\DW A H p wl sl sh cells shc m d/\Pot H a /\
 ∀dd kvs ts H',zar a H H'->TB A H'->Pot H' a->H dd=none->H' dd=some (.dK (ik kvs))->Paired (zbj H') kvs ts->ziq ts->Q (.ref dd) H'
theorem zes:zu ["_law_pot_here","_law_shelf","_law_found","_law_row_here","_law_stretch","_law_place"] ["_law_pot_here","_law_shelf"] (ze zdN):=⟨rfl,rfl,rfl,f!"",rfl,f!"",f!""⟩
theorem zw8{f:Addr}{fd:FuncData}(F:Fun K "_law_births" "_law_births" zdN f fd)(T:Txt K mg A)(Gb:GF P w K mg base true 1 "_law_draw" ["_law_pot_here","_law_many"] zbi)(Gh:GF P w K mg base true 1 "_law_rows" ["_law_shelf"] (zfr A)):zo P w K mg base CX0 true 2 f fd ["_law_pot_here","_law_shelf"] (zhl A):=by
 refine F.ok zes (λvs H Q E h=>?_) (λcdv Ar outer s H vs Q E hr h=>?_)
 ·obtain ⟨a,p,wl,sl,sh,cells,shc,m,d,rfl,_⟩:=h;rfl
 ·obtain ⟨a,p,wl,sl,sh,cells,shc,m,d,rfl,Ww,hP,q⟩:=h
  have hu:_<cLine:=lt_of_succ_lt (zX hr)
  refine ⟨_,(W.h (zg (zF (i:=2) zes.nd rfl (Or.inl rfl) zhM)
   (zg (zbd PassesOwn.never (λ_=>rfl) (zbg (zr Gh hr rfl (zb (za 1) zc))) (zdp (n:=3) (z6 (zI (i:=3) zes.nd rfl (Or.inl rfl)) (z6 (zI (i:=4) zes.nd rfl (Or.inl rfl)) (z6 (zI (i:=5) zes.nd rfl (Or.inl rfl)) zbk))))
   (zk (z7 (zfJ (zlB (zal (zsW hu) (zL zQ (za 3) zi (λ_ _=>rfl)) (zav (zb zS (zb zS zc))) rfl) (zkn (zal zhB (zr Gb hr rfl (zb (za 0) (zb zi zc))) zi (zaa _)))))
   (zk (zbz (zav (zb (za 4) (zb (za 5) zc))) (zb4 (za 2) (zL zQ (za 3) (zG zau zi (zdI zxn rfl T.n_int boot_int (zb (zeD (zbA hu) (zL zQ (za 3) zi (λ_ _=>rfl)) zS (zaa _)) zc))) (λ_ _=>rfl)) (ze9 (zX hr)))))
   zam)))
   (zk (zH (za 2)))))),?_⟩
  have ok:=Ww.ok
  have sok:=ok.sh
  simp_all only []
  refine λdd H1 n1=>?_
  have W1:=Ww.same n1.same
  refine ⟨sh,shc,_,rfl,W1.shelf,sok.len,sok.wide,sok.keys,sok.nd,sok.few,W1.tb,λl2 as2 H2 s2 tb2 f2 ns2 e2 ht2=>?_⟩
  rw [<- zbH] at ht2
  have hlen:=z5 ht2
  have h30:(zbb (nU d)).length<=30:=by rw [(zf4 _).length_eq];exact ok.few
  have hrow:∀t∈zbb (nU d),zaA t.1:=λt ht=>ok.row t ((zf4 _).mem_iff.mp ht)
  generalize zbb (nU d)=ts at hlen h30 hrow ht2
  have P2:Pot H2 a:=by obtain ⟨x,y,e,r⟩:=(hP.same n1.same).ex;exact ⟨⟨x,y,s2.list e,r⟩⟩
  have dd2:H2 dd=some (.dK (ik [])):=s2 _ _ (λ_=>nofun) n1.at_
  have da:dd≠a:=hP.ne n1.no
  have la:l2≠a:=(hP.same n1.same).ne f2
  have ld:l2≠dd:=λz=>by rw [z,n1.at_] at f2;cases f2
  try simp_all only []
  refine ⟨⟨_,SqL.of e2⟩,zad.lst (xs:=as2.map V.ref) (BiI A H2 a sh dd) ⟨⟨_,_,_,rfl⟩,⟨[],[],dd2,.nil,by simp,by simp,by simp⟩,λ_ _ _ _ e=>e,P2⟩ (λi σ H' _ I=>SqL.of (I.keep _ _ la ld e2)) ?_ ?_⟩
  ·rintro i x σ H3 hx ⟨⟨t1,t2,t3,rfl⟩,⟨kvs,us,hd,pr,nd,ul,un⟩,kp,hP3⟩
   rw [getElem?_map] at hx
   obtain ⟨b,hb,rfl⟩:=map_eq_some_iff.mp hx
   have hi:i<ts.length:=by rw [<- hlen];exact (List.getElem?_eq_some_iff.mp hb).1
   have hti:ts[i]?=some ts[i]:=List.getElem?_eq_getElem hi
   have tup3:∀{r:Addr}{xs:List V},H2 r=some (.tup xs)->H3 r=some (.tup xs):=λ{r xs} e=>kp _ _ (λz=>by obtain ⟨x,y,ea,_⟩:=P2.ex;rw [z,ea] at e;cases e) (λz=>by rw [z,dd2] at e;cases e) e
   obtain ⟨r,g1,g2⟩:=zaO ht2 hb hti
   have g1:=tup3 g1
   have g2:=tup3 g2
   have ro:=hrow _ (List.getElem_mem hi)
   refine ⟨b,_,rfl,SqT.of g1,rfl,?_⟩
   have nxt:∀H4,(∀b o,b≠a->b≠dd->H3 b=some o->H4 b=some o)->Pot H4 a->H4 dd=H3 dd->∀t1 t2 t3,BiI A H2 a sh dd (i+1) [some (V.ref a),some (.ref sh),some (.ref dd),t1,t2,t3] H4:=λH4 k4 p4 e4 t1 t2 t3=>by
    refine ⟨⟨_,_,_,rfl⟩,⟨kvs,us,by rw [e4];exact hd,Paired.mapP pr λp t r=>r.keep λr xs e=>k4 _ _ (λz=>by obtain ⟨x,y,ea,_⟩:=hP3.ex;rw [z,ea] at e;cases e) (λz=>by rw [z,hd] at e;cases e) e,nd,by omega,un⟩,λb o n1 n2 e=>k4 _ _ n1 n2 (kp _ _ n1 n2 e),p4⟩
   generalize ts[i].1=row at g2 ro
   generalize ts[i].2.1=kk at g1
   generalize ts[i].2.2=jj at g1
   have fin:∀(nb:Int)(p6:Addr)(H6:Hp),0<=nb->nb<10 ^ 18->(∀b o,b≠a->H3 b=some o->H6 b=some o)->Pot H6 a->H6 p6=some (.tup [.int kk,.int jj])->∀t1 t2 t3,zeS (.ref dd) (.int nb) (.ref p6) H6 λH7=>BiI A H2 a sh dd (i+1) [some (V.ref a),some (.ref sh),some (.ref dd),t1,t2,t3] H7:=λnb p6 H6 b0 b1 k6 hP6 e6 t1 t2 t3=>by
    have hd6:=k6 _ _ da hd
    have lk:=z5 pr
    have hp6:p6≠dd:=λz=>by rw [z,hd6] at e6;cases e6
    rw [zk4]
    refine .inr ⟨_,hd6,by rw [zgj];exact zaG (by omega),?_⟩
    rw [zlA]
    have up:∀{r:Addr}{xs:List V}{o:HO},H6 r=some (.tup xs)->upd H6 dd o r=some (.tup xs):=λ{r xs o} e=>by rw [zd (λz=>by rw [z,hd6] at e;cases e)];exact e
    have pr6:Paired (zbj H6) kvs us:=Paired.mapP pr λp t r=>r.keep λr xs e=>k6 _ _ (λz=>by obtain ⟨x,y,ea,_⟩:=hP3.ex;rw [z,ea] at e;cases e) e
    refine ⟨⟨_,_,_,rfl⟩,⟨zaM kvs nb (.ref p6),zaM us nb ((kk:Int),(jj:Int)),zq,Paired.mapP (zoS pr6 (st:=((kk:Int),(jj:Int))) ⟨rfl,p6,rfl,e6⟩) λp t r=>r.keep λr xs e=>up e,zxa nd,?_,λt ht=>?_⟩,λb o n1 n2 e=>by rw [zd n2];exact k6 _ _ n1 (kp _ _ n1 n2 e),?_⟩
    ·have:=zt1 (l:=us) (n:=nb) (a:=((kk:Int),(jj:Int)))
     omega
    ·rcases znX ht with ht|rfl
     ·exact un t ht
     ·exact ⟨b0,b1⟩
    ·obtain ⟨x,y,e,rr⟩:=hP6.ex
     exact ⟨⟨x,y,by rw [zd (Ne.symm da)];exact e,rr⟩⟩
   have skip:∀{H4:Hp}{o:HO}{p1:Addr},New H3 p1 o H4->∀t1 t2 t3,BiI A H2 a sh dd (i+1) [some (V.ref a),some (.ref sh),some (.ref dd),t1,t2,t3] H4:=λ{H4 o p1} n4 t1 t2 t3=>nxt H4 (λb o _ _ e=>n4.same _ _ e) (hP3.same n4.same) ((n4.same _ _ hd).trans hd.symm) t1 t2 t3
   have rne:∀{xs:List V},H3 r=some (.tup xs)->r≠a:=λ{xs} e z=>by obtain ⟨x,y,ea,_⟩:=hP3.ex;rw [z,ea] at e;cases e
   cases ro with
   | put n g b nm pl wd h1 h2 h3 h4 h5 =>
    have i0:atI [V.str "put",.int n,.int g,.bl b,.str nm,.int pl,.str wd] 0=some (V.str "put"):=rfl
    have i1:atI [V.str "put",.int n,.int g,.bl b,.str nm,.int pl,.str wd] (1+0)=some (V.int n):=rfl
    have ne:decide (("put":Str)="carry")=false:=by decide +kernel
    simp_all only [g2,i0]
    refine ⟨by decide,λp1 H4 n4=>⟨_,.inr n4.at_,rfl,rfl,?_⟩⟩
    rw [if_pos (f!"")]
    refine ⟨a,3,rfl,hP3.same n4.same,by decide,by decide,λr' H5 b5 hP5 r0 r1=>?_⟩
    simp_all only []
    refine zaV (λh=>⟨by decide,λp6 H6 n6=>?_⟩) (λh=>nxt H5 (λb o n1 _ e=>b5 _ _ n1 (n4.same _ _ e)) hP5 ((b5 _ _ da (n4.same _ _ hd)).trans hd.symm) _ _ _)
    have g6:=n6.same _ _ (b5 _ _ (rne g2) (n4.same _ _ g2))
    refine ⟨_,.inr g6,_,i0,?_⟩
    simp only [zhs,ne,ziL,zdg,zcM]
    refine ⟨_,.inr g6,_,i1,fin n p6 H6 h1.1 h1.2 (λb o n1 e=>n6.same _ _ (b5 _ _ n1 (n4.same _ _ e))) (hP5.same n6.same) n6.at_ _ _ _⟩
   | carry n g wd h1 h2 h3 =>
    have i0:atI [V.str "carry",.int n,.int g,.str wd] 0=some (V.str "carry"):=rfl
    have i1:atI [V.str "carry",.int n,.int g,.str wd] (1+1)=some (V.int g):=rfl
    have ne:decide (("carry":Str)="carry")=true:=by decide +kernel
    simp_all only [g2,i0]
    refine ⟨by decide,λp1 H4 n4=>⟨_,.inr n4.at_,rfl,rfl,?_⟩⟩
    rw [if_pos (f!"")]
    refine ⟨a,3,rfl,hP3.same n4.same,by decide,by decide,λr' H5 b5 hP5 r0 r1=>?_⟩
    simp_all only []
    refine zaV (λh=>⟨by decide,λp6 H6 n6=>?_⟩) (λh=>nxt H5 (λb o n1 _ e=>b5 _ _ n1 (n4.same _ _ e)) hP5 ((b5 _ _ da (n4.same _ _ hd)).trans hd.symm) _ _ _)
    have g6:=n6.same _ _ (b5 _ _ (rne g2) (n4.same _ _ g2))
    refine ⟨_,.inr g6,_,i0,?_⟩
    simp only [zhs,ne,ziL,zdg,zcM]
    refine ⟨_,.inr g6,_,i1,fin g p6 H6 h2.1 h2.2 (λb o n1 e=>n6.same _ _ (b5 _ _ n1 (n4.same _ _ e))) (hP5.same n6.same) n6.at_ _ _ _⟩
   | cut n nm pl h1 h2 h3 =>
    have i0:atI [V.str "cut",.int n,.str nm,.int pl] 0=some (V.str "cut"):=rfl
    simp_all only [g2,i0]
    refine ⟨by decide,λp1 H4 n4=>⟨_,.inr n4.at_,rfl,rfl,?_⟩⟩
    rw [if_neg (f!"")]
    exact skip n4 _ _ _
   | hold n nm h1 h2 =>
    have i0:atI [V.str "hold",.int n,.str nm] 0=some (V.str "hold"):=rfl
    simp_all only [g2,i0]
    refine ⟨by decide,λp1 H4 n4=>⟨_,.inr n4.at_,rfl,rfl,?_⟩⟩
    rw [if_neg (f!"")]
    exact skip n4 _ _ _
   | free n nm h1 h2 =>
    have i0:atI [V.str "free",.int n,.str nm] 0=some (V.str "free"):=rfl
    simp_all only [g2,i0]
    refine ⟨by decide,λp1 H4 n4=>⟨_,.inr n4.at_,rfl,rfl,?_⟩⟩
    rw [if_neg (f!"")]
    exact skip n4 _ _ _
  ·rintro σ H3 ⟨⟨t1,t2,t3,rfl⟩,⟨kvs,us,hd,pr,nd,ul,un⟩,kp,hP3⟩
   simp_all only []
   rw [length_map] at ul
   have tb3:TB A H3:=tb2.keep (F:=[a,dd]) (λb o e n=>kp b o (λz=>n (by simp [z])) (λz=>n (by simp [z])) e) λx hx o e=>by
    rcases mem_cons.mp hx with rfl|hx
    ·obtain ⟨x',y',ea,_⟩:=P2.ex
     rw [ea] at e;cases e;exact ⟨λ_=>nofun,λ_=>nofun⟩
    ·rw [mem_singleton] at hx
     subst hx
     rw [dd2] at e;cases e;exact ⟨λ_=>nofun,λ_=>nofun⟩
   refine q dd kvs us H3 (λb o nb no e=>?_) tb3 hP3 n1.no hd pr ⟨nd,by omega,un⟩
   exact kp b o nb (λz=>by rw [z,n1.no] at e;cases e) (s2 _ _ no (n1.same _ _ e))
end
abbrev zdH:Stmt:=top 44
theorem zor(a b:Str):leS a b\/leS b a:=by
 unfold leS
 rw [ltCps_eq,ltCps_eq]
 by_cases h:PyProof.Rows.strKind.blt b.cps.toList a.cps.toList=true
 ·exact .inr (KeyOrd.klt_asymm (O:=PyProof.Rows.strKind.toKeyOrd) h)
 ·exact .inl (by simpa using h)
theorem zmO{a b c:Str}(h1:leS a b)(h2:leS b c):leS a c:=by
 unfold leS at *
 rw [ltCps_eq] at *
 exact KeyOrd.kle_trans (O:=PyProof.Rows.strKind.toKeyOrd) h1 h2
theorem zi9(x:Str):∀l:List Str,l.Pairwise leS->∃m:List Str,m.Perm (x::l)/\m.Pairwise leS
 | [],_=>⟨[x],List.Perm.refl _,by simp⟩
 | y::l,h=>by
  rcases zor x y with hx|hx
  ·refine ⟨x::y::l,List.Perm.refl _,pairwise_cons.mpr ⟨λz hz=>?_,h⟩⟩
   rcases mem_cons.mp hz with rfl|hz
   ·exact hx
   ·exact zmO hx ((pairwise_cons.mp h).1 z hz)
  ·obtain ⟨m,p,hm⟩:=zi9 x l (pairwise_cons.mp h).2
   refine ⟨y::m,(List.Perm.cons y p).trans (List.Perm.swap x y l),pairwise_cons.mpr ⟨λz hz=>?_,hm⟩⟩
   rcases mem_cons.mp (p.mem_iff.mp hz) with rfl|hz
   ·exact hx
   ·exact (pairwise_cons.mp h).1 z hz
theorem ziR:∀ks:List Str,∃ss:List Str,ss.Perm ks/\ss.Pairwise leS
 | []=>⟨[],List.Perm.refl _,.nil⟩
 | x::ks=>by
  obtain ⟨ss,p,h⟩:=ziR ks
  obtain ⟨m,p2,h2⟩:=zi9 x ss h
  exact ⟨m,p2.trans (List.Perm.cons x p),h2⟩
theorem zn5(ks:List Str):(zbe ks).Perm ks/\(zbe ks).Pairwise leS:=by
 obtain ⟨ss,p,h⟩:=ziR ks
 have e:=zjJ p (sortedS_of_pairwise ss h)
 rw [<- e];exact ⟨p,h⟩
theorem zkQ{α:Type}{t:List (Str×α)}{n:Str}{a:α}:(zaC t n a).length<=t.length+1:=by
 unfold zaC
 split<;>simp
section
variable {A:zh}{H H':Hp}{a p b k:Addr}{xs:List V}{t:Tab}{ks:List (Str×Tab)}
theorem Rd.lst{kvs:List (Key×V)}{c:Addr}(h:Rd H c (.dK kvs))(s:But a H H')(ha:H a=some (.lst xs)):Rd H' c (.dK kvs):=by
 have n:c≠a:=λz=>by
  rcases h with h|⟨o,h⟩ <;> · rw [z,ha] at h;cases h
 exact h.elim (λe=>.inl (s _ _ n e)) λ⟨o,e⟩=>.inr ⟨o,s _ _ n e⟩
theorem zaj.lst{v:V}{l:List Int}(h:zaj H v l)(s:But a H H')(ha:H a=some (.lst xs)):zaj H' v l:=h.but s λys z=>by rw [ha] at z;cases z
theorem zaR.lst{q b' k':Addr}{t:Tab}(h:zaR A H q b' k' t)(s:But a H H')(ha:H a=some (.lst xs)):zaR A H' q b' k' t:=by
 obtain ⟨dx,e⟩:=h.ob
 obtain ⟨kvs,e2,d⟩:=h.births.ex
 exact ⟨⟨dx,s _ _ (λz=>by rw [z,ha] at e;cases e) e⟩,⟨⟨kvs,Rd.lst e2 s ha,d.imp λv l r=>r.lst s ha⟩,h.births.nd⟩,Rd.lst h.kept s ha⟩
theorem zJ.lst(h:zJ A H p b k t ks)(s:But a H H')(ha:H a=some (.lst xs)):zJ A H' p b k t ks:=by
 obtain ⟨dx,e⟩:=h.ob
 obtain ⟨kk,e2,d⟩:=h.kept
 obtain ⟨kvs,e3,d3⟩:=h.births.ex
 have ne:∀{c:Addr}{ys:List (Key×V)},H c=some (.dK ys)->c≠a:=λ{c ys} e z=>by rw [z,ha] at e;cases e
 exact ⟨⟨dx,s _ _ (λz=>by rw [z,ha] at e;cases e) e⟩,⟨⟨kvs,s _ _ (ne e3) e3,d3.imp λv l r=>r.lst s ha⟩,h.births.nd⟩,⟨kk,s _ _ (ne e2) e2,d.imp λv u ⟨q,b',k',ev,r,nn⟩=>⟨q,b',k',ev,r.lst s ha,nn⟩⟩,h.ndk,h.ne⟩
theorem zJ.pot(h:zJ A H p b k t ks)(s:But a H H')(hP:Pot H a):zJ A H' p b k t ks:=let ⟨_,_,e,_⟩:=hP.ex;h.lst s e
theorem zJ.bd(h:zJ A H p b k t ks):∃kvs,H b=some (.dK kvs):=let ⟨_,e,_⟩:=h.births.ex;⟨_,e⟩
theorem zJ.kd(h:zJ A H p b k t ks):∃kvs,H k=some (.dK kvs):=let ⟨_,e,_⟩:=h.kept;⟨_,e⟩
theorem Pot.dic{c:Addr}{kvs:List (Key×V)}(hP:Pot H a)(s:But c H H')(e:H c=some (.dK kvs)):Pot H' a:=by
 obtain ⟨x,y,ea,r⟩:=hP.ex
 exact ⟨⟨x,y,s _ _ (λz=>by rw [z,e] at ea;cases ea) ea,r⟩⟩
theorem zsb{n m:Str}{l:List Int}:lk (zaC t n l) m=if m=n then l else lk t m:=by
 unfold lk
 rw [zmo]
 split<;>rfl
theorem zyW{n m:Str}{i:Int}(h:m≠n):look (zcC t n i) m=look t m:=by
 unfold zcC
 split
 ·rw [zsi,if_neg h]
 ·rw [zmo,if_neg h]
theorem ztK{n:Str}{i:Int}:(zcC t n i).length<=t.length+1:=by
 unfold zcC
 split
 ·exact Nat.le_succ_of_le (List.length_filter_le ..)
 ·exact zkQ
end
theorem zp5{v:V}(h:v∈[V.str "a",.str "b",.str "zzzzzz"]):∃z:Str,v = .str z:=by
 simp only [mem_cons,not_mem_nil,or_false] at h
 rcases h with rfl|rfl|rfl<;>exact ⟨_,rfl⟩
section
variable {P:Program}{w:World}{K:Frag}{mg:Str->Option Value}{base:Heap}{A:zh}
structure FiI(A:zh)(H0:Hp)(a dd p b k:Addr)(i:Nat)(σ:L2.St)(H':Hp):Prop where
 ex:∃t1 t2,σ=[some (V.ref a),some (.ref dd),some (.ref p),t1,t2]
 fi:∃t,zJ A H' p b k t []/\t.length<=i/\∀n,(lk t n).length<=i
 keep:∀c o,c≠a->c≠b->H0 c=some o->H' c=some o
 pot:Pot H' a
structure CuI(A:zh)(H0:Hp)(a dd p b k:Addr)(t0:Tab)(ks:List (Str×Tab))(ss:List Str)(i:Nat)(σ:L2.St)(H':Hp):Prop where
 ex:∃t1 t2,σ=[some (V.ref a),some (.ref dd),some (.ref p),t1,t2]
 fi:∃t,zJ A H' p b k t ks/\t.length<=64+i/\∀j n,i<=j->ss[j]?=some n->look t n=look t0 n
 keep:∀c o,c≠a->c≠b->H0 c=some o->H' c=some o
 pot:Pot H' a
def ziG(A:zh):Sp:=λvs H Q _=>∃(a dd:Addr)(kvs:List (Int×V)),vs=[.ref a,.ref dd]/\Pot H a/\H dd=some (.dK (ik kvs))/\kvs.length<40/\∀p b k t ks H',But a H H'->Pot H' a->zJ A H' p b k t ks->Q (.ref p) H'
theorem zex:zu ["_law_pot_here","_law_births_here","_law_files_here","_law_birth","_law_name"] ["_law_pot_here","_law_births_here"] (ze zdH):=⟨rfl,rfl,rfl,f!"",rfl,f!"",f!""⟩
theorem zvP{f:Addr}{fd:FuncData}(F:Fun K "_law_files" "_law_files" zdH f fd)(T:Txt K mg A)(Gf:GC P w K mg base true 1 "Files" A.Files ["self"] (zfZ A))(Gc:GF P w K mg base true 2 "_law_drawn" ["_law_pot_here","_law_some"] zdx)(Gb:GF P w K mg base true 1 "_law_draw" ["_law_pot_here","_law_many"] zbi)(M_Files_many:GM P w K mg base true 1 A.Files "many" ["self","file"] (zeF A))(M_Files_put:GM P w K mg base true 4 A.Files "put" ["self","file","place","birth"] (zhX A))(M_Files_hold:GM P w K mg base true 5 A.Files "hold" ["self","name"] (zgn A))(M_Files_names:GM P w K mg base true 1 A.Files "names" ["self"] (zhR A))(M_Files_cut:GM P w K mg base true 4 A.Files "cut" ["self","file","many"] (zhC A)):zo P w K mg base CX0 true 6 f fd ["_law_pot_here","_law_births_here"] (ziG A):=by
 refine F.ok zex (λvs H Q E h=>?_) (λcdv Ar outer s H vs Q E hr h=>?_)
 ·obtain ⟨a,dd,kvs,rfl,_⟩:=h;rfl
 ·obtain ⟨a,dd,kvs,rfl,hP,hd,hl,q⟩:=h
  have hu:_<cLine:=lt_of_succ_lt (zX hr)
  refine ⟨_,(W.h (zg (zF (i:=2) zex.nd rfl (Or.inl rfl) (ziO Gf hr rfl))
   (zg (zbd PassesOwn.never (λ_=>rfl) (zbg (zM (zjY rfl) rfl T.n_sorted boot_sorted (zb (za 1) zc))) (zI (i:=3) zex.nd rfl (Or.inl rfl))
   (zg (zF (i:=4) zex.nd rfl (Or.inl rfl) (zr Gc hr rfl (zb (za 0) (zb (zat (zb zS (zb zS (zb zS zc)))) zc))))
   (zk (zZ (zaX (za 2) T.cl_Files M_Files_put hr (zb (za 4) (zb (zaX (za 2) T.cl_Files M_Files_many hr (zb (za 4) zc)) (zb (za 3) zc))))))))
   (zg (z7 (zal (zbA hu) (zr Gb hr rfl (zb (za 0) (zb zi zc))) zi (zaa _))
   (zg (zZ (zaX (za 2) T.cl_Files M_Files_hold hr (zb zS zc)))
   (zk (zbd PassesOwn.never (λ_=>rfl) (zbg (zbY (za 2) T.cl_Files M_Files_names hr)) (zI (i:=4) zex.nd rfl (Or.inl rfl))
   (zk (zZ (zaX (za 2) T.cl_Files M_Files_cut hr (zb (za 4) (zb (zr Gb hr rfl (zb (za 0) (zb (zG zau (zaX (za 2) T.cl_Files M_Files_many hr (zb (za 4) zc)) zi) zc))) zc))))))))
   zam)
   (zk (zH (za 2))))))),?_⟩
  simp_all only []
  refine λp dxp H1 nI=>⟨p,dxp,rfl,nI.at_,λb k H2 s2 nb nk eb ek nbk ex=>⟨rfl,?_⟩⟩
  have ne1:∀{c:Addr}{o:HO},H c=some o->c≠p:=λ{c o} e z=>by have:=nI.no;rw [<- z,e] at this;cases this
  have k02:∀c o,H c=some o->H2 c=some o:=λc o e=>s2 _ _ (ne1 e) (nI.same _ _ e)
  have F2:zJ A H2 p b k [] []:=⟨⟨dxp,ex⟩,⟨⟨[],eb,.nil⟩,by simp [names]⟩,⟨[],ek,.nil⟩,by simp [names],nbk⟩
  have b0:H b=none:=nI.same.free nb
  have kk0:H k=none:=nI.same.free nk
  refine ⟨kvs,.inl (k02 _ _ hd),by omega,λl ns H3 n3 pm _=>?_⟩
  have lns:ns.length<40:=by rw [pm.length_eq,length_map];exact hl
  have F3:=F2.same n3.same
  have P3:Pot H3 a:=by obtain ⟨x,y,e,r⟩:=hP.ex;exact ⟨⟨x,y,n3.same _ _ (k02 _ _ e),r⟩⟩
  have la:l≠a:=(show Pot H2 a by obtain ⟨x,y,e,r⟩:=hP.ex;exact ⟨⟨x,y,k02 _ _ e,r⟩⟩).ne n3.no
  have lb:l≠b:=λz=>by have:=n3.no;rw [z,eb] at this;cases this
  try simp_all only []
  refine ⟨⟨_,SqL.of n3.at_⟩,zad.lst (xs:=ns.map V.int) (FiI A H3 a dd p b k) ⟨⟨_,_,rfl⟩,⟨[],F3,by simp,λn=>by simp [lk,look]⟩,λ_ _ _ _ e=>e,P3⟩ (λi σ H' _ I=>SqL.of (I.keep _ _ la lb n3.at_)) ?_ ?_⟩
  ·rintro i x σ H4 hx ⟨⟨t1,t2,rfl⟩,⟨t,F4,tl,tn⟩,kp,P4⟩
   rw [getElem?_map] at hx
   obtain ⟨bi,hbi,rfl⟩:=map_eq_some_iff.mp hx
   have hi:i<ns.length:=(List.getElem?_eq_some_iff.mp hbi).1
   simp_all only []
   refine ⟨by decide,λl5 H5 n5 _=>⟨a,P4.same n5.same,.inl ⟨l5,_,rfl,P4.ne n5.no,.inl n5.at_,by simp,by simp,λv H6 hv b6 P6=>?_⟩⟩⟩
   obtain ⟨z,rfl⟩:=zp5 hv
   have F6:=(F4.same n5.same).pot b6 (P4.same n5.same)
   obtain ⟨dx6,e6⟩:=F6.ob
   simp_all only [e6,zeV,zr6]
   refine ⟨p,b,k,t,[],z,rfl,F6.r,λH7 s7=>?_⟩
   have F7:=F6.same s7
   try simp_all only []
   refine ⟨p,b,k,t,[],z,_,bi,rfl,F7,by omega,by omega,by have:=tn z;omega,by omega,λH8 b8 F8=>?_⟩
   obtain ⟨kb,e7⟩:=F7.bd
   refine ⟨⟨_,_,rfl⟩,⟨_,F8,?_,λn=>?_⟩,λc o n1 n2 e=>b8 _ _ n2 (s7 _ _ (b6 _ _ n1 (n5.same _ _ (kp _ _ n1 n2 e)))),(P6.same s7).dic b8 e7⟩
   ·have:=zkQ (t:=t) (n:=z) (a:=((lk t z).take (((lk t z).length:Nat):Int).toNat++[bi]++(lk t z).drop ((((lk t z).length:Nat):Int).toNat+1)))
    omega
   ·rw [zsb]
    have:=tn n
    have:=tn z
    split
    ·simp;omega
    ·omega
  ·rintro σ H4 ⟨⟨t1,t2,rfl⟩,⟨t,F4,tl,tn⟩,kp,P4⟩
   rw [length_map] at tl
   simp_all only []
   refine ⟨a,3,rfl,P4,by decide,by decide,λr H5 b5 P5 r0 r1=>?_⟩
   have F5:=F4.pot b5 P4
   have b05:But a H H5:=λc o n e=>b5 _ _ n (kp _ _ n (λz=>by rw [z,b0] at e;cases e) (n3.same _ _ (k02 _ _ e)))
   simp_all only []
   refine zaV (λh=>?_) (λh=>q p b k t [] H5 b05 P5 F5)
   obtain ⟨dx5,e5⟩:=F5.ob
   try simp_all only [e5,zvq,zj4]
   refine ⟨p,b,k,t,[],"h",rfl,F5,rfl,by simp,λH6 b6 F6=>?_⟩
   obtain ⟨kd,e5k⟩:=F5.kd
   have P6:=P5.dic b6 e5k
   obtain ⟨dx6,e6⟩:=F6.ob
   try simp_all only [e6,zj4]
   refine ⟨p,b,k,t,_,rfl,F6.r,by omega,λl7 H7 n7=>?_⟩
   have F7:=F6.same n7.same
   have P7:=P6.same n7.same
   have l7a:l7≠a:=P6.ne n7.no
   have l7b:l7≠b:=λz=>by obtain ⟨kb,eb'⟩:=F6.bd;have:=n7.no;rw [z,eb'] at this;cases this
   have sp:=zn5 (names t)
   have ls:(zbe (names t)).length<=40:=by rw [sp.1.length_eq];simp [names];omega
   have snd:(zbe (names t)).Nodup:=sp.1.nodup_iff.mpr F6.births.nd
   have smem:∀n∈zbe (names t),∃u,look t n=some u:=λn hn=>by
    cases e:look t n with
    | none=>exact absurd (sp.1.mem_iff.mp hn) (zd9.mp e)
    | some u=>exact ⟨u,rfl⟩
   generalize zbe (names t)=ss at n7 ls snd smem
   try simp_all only []
   refine ⟨⟨_,SqL.of n7.at_⟩,zad.lst (xs:=ss.map V.str) (CuI A H7 a dd p b k t _ ss) ⟨⟨_,_,rfl⟩,⟨t,F7,by omega,λ_ _ _ _=>rfl⟩,λ_ _ _ _ e=>e,P7⟩ (λi σ H' _ I=>SqL.of (I.keep _ _ l7a l7b n7.at_)) ?_ ?_⟩
   ·rintro i x σ H8 hx ⟨⟨t1,t2,rfl⟩,⟨u,F8,ul,uk⟩,kp8,P8⟩
    rw [getElem?_map] at hx
    obtain ⟨n,hn,rfl⟩:=map_eq_some_iff.mp hx
    have hi:i<ss.length:=(List.getElem?_eq_some_iff.mp hn).1
    obtain ⟨l,el⟩:=smem n (mem_of_getElem? hn)
    have eu:look u n=some l:=by rw [uk i n (le_refl _) hn];exact el
    have elk:lk u n=l:=by unfold lk;rw [eu];rfl
    obtain ⟨dx8,e8⟩:=F8.ob
    simp_all only [e8,zo9,zeV]
    refine ⟨p,b,k,u,_,n,rfl,F8.r,λH9 s9=>?_⟩
    have F9:=F8.same s9
    have l40:l.length<=40:=by
     have e:lk t n=l:=by unfold lk;rw [el];rfl
     have h:=tn n
     rw [e,length_map] at h
     omega
    rw [elk]
    try simp_all only []
    refine ⟨a,_,rfl,P8.same s9,by omega,Int.lt_of_le_of_lt (show (l.length:Int)+1<=41 by omega) (by decide),λm H10 b10 P10 m0 m1=>?_⟩
    have F10:=F9.pot b10 (P8.same s9)
    refine ⟨p,b,k,u,_,n,l,m,rfl,F10,eu,m0,by omega,by omega,λH11 b11 F11=>?_⟩
    obtain ⟨kb,e10⟩:=F10.bd
    refine ⟨⟨_,_,rfl⟩,⟨_,F11,by have:=ztK (t:=u) (n:=n) (i:=m);omega,λj n' hj hn'=>?_⟩,λc o n1 n2 e=>b11 _ _ n2 (b10 _ _ n1 (s9 _ _ (kp8 _ _ n1 n2 e))),P10.dic b11 e10⟩
    have ne:n'≠n:=λz=>by
     rw [z] at hn'
     have:=(getElem?_inj hi snd).mp (hn.trans hn'.symm)
     omega
    rw [zyW ne]
    exact uk j n' (by omega) hn'
   ·rintro σ H8 ⟨⟨t1,t2,rfl⟩,⟨u,F8,ul,uk⟩,kp8,P8⟩
    simp_all only []
    refine q p b k u _ H8 (λc o n e=>kp8 _ _ n (λz=>by rw [z,b0] at e;cases e) (n7.same _ _ (b6 _ _ (λz=>by rw [z,kk0] at e;cases e) (b05 _ _ n e)))) P8 F8
end
abbrev zcA:Stmt:=top 45
abbrev zcQ:Stmt:=top 46
theorem zk6(f:Nat->Int):∀n,0<n->∃i,i<n/\zaT f n=some (f i)
 | 1,_=>⟨0,by decide,rfl⟩
 | n+2,_=>by
  obtain ⟨i,hi,e⟩:=zk6 f (n+1) (by omega)
  have e2:zaT f (n+2)=some (match zaT f (n+1) with|none=>f (n+1)|some m=>if f (n+1)>m then f (n+1) else m):=rfl
  rw [e2,e]
  show ∃j,j<n+2/\some (if f (n+1)>f i then f (n+1) else f i)=some (f j)
  split
  ·exact ⟨n+1,by omega,rfl⟩
  ·exact ⟨i,by omega,rfl⟩
section
variable {A:zh}{H H':Hp}{a p wl sl sh:Addr}{cells shc:List Addr}{m:Int}{d:DM}
structure Apt(a wl sl sh:Addr)(cells shc:List Addr):Prop where
 d:∀x∈wl::sl::cells,x≠a
 s:a≠sh
 c:a∉shc
theorem DW.butT(h:DW A H p wl sl sh cells shc m d)(hP:Pot H a)(ap:Apt a wl sl sh cells shc)(s:zar a H H')(tb:TB A H')(hP':Pot H' a):DW A H' p wl sl sh cells shc m d:=by
 obtain ⟨xs,e⟩:=hP.lst
 obtain ⟨ys,e'⟩:=hP'.lst
 have s':zD H (upd H' a (.lst xs)):=λb o n eb=>by
  by_cases z:b=a
  ·subst z;rw [e] at eb;cases eb;exact zq
  ·rw [zd z];exact s b o z n eb
 have W:=h.sameT s' (tb.put e')
 refine W.put (b:=a) zq ap.d ap.s ap.c λb o eb nb=>?_
 have z:b≠a:=λz=>nb (by simp [z])
 rw [zd z] at eb;exact eb
theorem zar.fr{l:Addr}(s:zar a H H')(hP:Pot H' a)(h:H' l=none):Fr H l:=λo no e=>by
 by_cases z:l=a
 ·subst z;obtain ⟨x,y,ea,_⟩:=hP.ex;rw [ea] at h;cases h
 ·rw [s l o z no e] at h;cases h
end
section
variable {P:Program}{w:World}{K:Frag}{mg:Str->Option Value}{base:Heap}{A:zh}
structure NuI(H:Hp)(ts:List Tri)(i:Nat)(τ:L2.St)(ys:List V)(H':Hp):Prop where
 ex:∃t1,τ=[t1]
 ys:ys=((ts.take i).map zy).map V.int
 same:H'=H
def zhN(A:zh):Sp:=λvs H Q _=>∃(a p wl sl sh:Addr)(cells shc:List Addr)(m:Int)(d:DM),vs=[.ref a,.ref sh]/\DW A H p wl sl sh cells shc m d/\Pot H a/\∀(z:Int) H',zar a H H'->TB A H'->Pot H' a->Q (.int z) H'
theorem zkZ:zu ["_law_pot_here","_law_shelf","_law_numbers_here"] ["_law_pot_here","_law_shelf"] (ze zcA):=⟨rfl,rfl,rfl,f!"",rfl,f!"",f!""⟩
theorem zvk:zaF { kind:=.function,names:=[(Str.ofString ".0",.local),(Str.ofString "_law_one",.local)],isGenerator:=false,isCoroutine:=false,more:=[] } (ze zcA).names ["_law_pot_here","_law_shelf","_law_numbers_here"] ["_law_one"] [none]=true:=by decide +kernel
theorem zxH:(["_law_one"]:List Str).Nodup:=by decide +kernel
theorem zs7{f:Addr}{fd:FuncData}(F:Fun K "_law_next" "_law_next" zcA f fd)(T:Txt K mg A)(Gb:GF P w K mg base true 1 "_law_draw" ["_law_pot_here","_law_many"] zbi)(Gh:GF P w K mg base true 1 "_law_rows" ["_law_shelf"] (zfr A)):zo P w K mg base CX0 true 2 f fd ["_law_pot_here","_law_shelf"] (zhN A):=by
 refine F.ok zkZ (λvs H Q E h=>?_) (λcdv Ar outer s H vs Q E hr h=>?_)
 ·obtain ⟨a,p,wl,sl,sh,cells,shc,m,d,rfl,_⟩:=h;rfl
 ·obtain ⟨a,p,wl,sl,sh,cells,shc,m,d,rfl,Ww,hP,q⟩:=h
  have hu:_<cLine:=lt_of_succ_lt (zX hr)
  refine ⟨_,(W.h (zg (zF (i:=2) zkZ.nd rfl (Or.inl rfl) (zG zau (zat (zb zi zc)) (zbS (λ_=>rfl) (zah.of zvk) (zbg (zr Gh hr rfl (zb (za 1) zc))) (λ_ _ _ _ _=>(zI (i:=0) zxH rfl (Or.inl rfl))) (λ_ _ _ _ _=>zbI) (λ_ _ _ _ _=>(zL zQ (zL zQ (za 0) zi (λ_ _=>rfl)) zi (λ_ _=>rfl))))))
   (zk (zH (zG zau (zG zau (zM (ziF rfl) rfl T.n_max boot_max (zb (za 2) zc)) zi) (zr Gb hr rfl (zb (za 0) (zb (zL zQ (zat (zb zi (zb zi (zb (zG zhb zi zi) zc)))) (zr Gb hr rfl (zb (za 0) (zb zi zc))) (λ_ _=>rfl)) zc)))))))),?_⟩
  have ok:=Ww.ok
  have sok:=ok.sh
  simp_all only []
  refine ⟨by decide,λl0 H1 n1 _=>?_⟩
  have W1:=Ww.same n1.same
  refine ⟨sh,shc,_,rfl,W1.shelf,sok.len,sok.wide,sok.keys,sok.nd,sok.few,W1.tb,λl2 as2 H2 s2 tb2 f2 ns2 e2 ht2=>?_⟩
  rw [<- zbH] at ht2
  try simp_all only []
  have hlen:=z5 ht2
  have h30:(zbb (nU d)).length<=30:=by rw [(zf4 _).length_eq];exact ok.few
  have hkk:∀t∈zbb (nU d),∃y n ys,t.1 = .str y::.int n::ys:=λt ht=>zgW ((zf4 _).mem_iff.mp ht)
  generalize zbb (nU d)=ts at hlen h30 hkk ht2
  refine ⟨⟨_,SqL.of e2⟩,zV.lst (xs:=as2.map V.ref) (NuI H2 ts) (λi τ ys H' I=>?_) (λi τ ys H' I=>by rw [I.same];exact SqL.of e2) ⟨⟨_,rfl⟩,rfl,rfl⟩ ?_ ?_⟩
  ·rw [I.ys,length_map,length_map]
   exact zaG (by have:=length_take_le' i ts;omega)
  ·intro N i x τ ys H' hx I hN
   obtain ⟨t1,rfl⟩:=I.ex
   have e:=I.same
   subst e
   rw [getElem?_map] at hx
   obtain ⟨b,hb,rfl⟩:=map_eq_some_iff.mp hx
   have hi:i<ts.length:=by rw [<- hlen];exact (List.getElem?_eq_some_iff.mp hb).1
   have hti:ts[i]?=some ts[i]:=List.getElem?_eq_getElem hi
   obtain ⟨r,g1,g2⟩:=zaO ht2 hb hti
   obtain ⟨y,n,zs,et⟩:=hkk _ (List.getElem_mem hi)
   rw [et] at g2
   have i0:atI [V.ref r,V.int (ts[i]).2.1,V.int (ts[i]).2.2] 0=some (V.ref r):=rfl
   have ix:atI (V.str y::V.int n::zs) 1=some (V.int n):=zcZ (j:=1) (by simp)
   simp_all only [g1,g2,i0,ix]
   refine hN _ _ _ ⟨⟨_,rfl⟩,?_,rfl⟩
   have ek:zy ts[i]=n:=by unfold zy;rw [et];rfl
   rw [take_add_one,hti,I.ys,map_append,map_append]
   show _=_++[V.int (zy ts[i])]
   rw [ek]
  ·intro τ ys H' I D3 H3 n3
   have e:=I.same
   subst e
   have hys:=I.ys
   rw [length_map,hlen,take_of_length_le (le_refl _)] at hys
   rw [hys] at n3
   rw [zdm]
   refine ⟨_,_,n3.same _ _ (s2.list n1.at_),n3.at_,zaD (by simp;omega),λp4 H4 n4=>?_⟩
   rw [zli]
   refine ⟨0::ts.map zy,by rw [n4.at_];rfl,by simp,?_⟩
   obtain ⟨i,hi,eb⟩:=zk6 (λi=>(0::ts.map zy).getD i 0) (0::ts.map zy).length (by simp)
   rw [eb]
   show zbr (V.int ((0::ts.map zy).getD i 0)) (V.int 1) H4 _
   generalize (0::ts.map zy).getD i 0=M
   have s04:zD H H4:=(zD.of n1.same).trans (s2.trans (.of (n3.same.trans n4.same)))
   have tb4:=(tb2.same n3.same).same n4.same
   have P4:Pot H4 a:=by obtain ⟨x,y,e,r⟩:=hP.ex;exact ⟨⟨x,y,s04.list e,r⟩⟩
   simp_all only []
   refine ⟨⟨by decide,by decide,by decide⟩,by decide,λp5 H5 n5 _=>?_⟩
   have P5:=P4.same n5.same
   refine ⟨a,3,rfl,P5,by decide,by decide,λr H6 b6 P6 r0 r1=>?_⟩
   have p5a:p5≠a:=P4.ne n5.no
   have e6:=b6 _ _ p5a n5.at_
   obtain ⟨v,ev,hv⟩:=zhE (xs:=[V.int 6,.int 60,.int (10 ^ Int.toNat 16)]) r0 (by simpa using r1)
   try simp_all only [e6]
   refine ⟨v,ev,?_⟩
   obtain ⟨mm,rfl,m0,m1⟩:∃mm:Int,v = .int mm/\0<mm/\mm<2 ^ 64:=by
    simp only [mem_cons,not_mem_nil,or_false] at hv
    rcases hv with rfl|rfl|rfl
    ·exact ⟨6,rfl,by decide,by decide⟩
    ·exact ⟨60,rfl,by decide,by decide⟩
    ·exact ⟨_,rfl,by decide,by decide⟩
   refine ⟨a,mm,rfl,P6,m0,m1,λr' H7 b7 P7 _ _=>?_⟩
   try simp_all only []
   have b47:But a H4 H7:=((But.of n5.same).trans b6).trans b7
   exact q _ H7 ((zar.of s04).trans (.but b47)) (tb4.lists b47.keeps λx hx=>by rw [mem_singleton] at hx;subst hx;obtain ⟨xs,e⟩:=P4.lst;exact .inl ⟨_,e⟩) P7
structure SsI(H:Hp)(dd:Addr)(fz:HO)(ts:List T3)(i:Nat)(τ:L2.St)(ys:List V)(H':Hp):Prop where
 ex:∃t1,τ=[t1,some (.ref dd)]
 ys:∃as:List Addr,ys=as.map V.ref/\Paired (zbw H') as (ts.take i)
 fz:H' dd=some fz
 same:zl H H'
theorem TB.potB{H H':Hp}{a:Addr}(tb:TB A H)(hP:Pot H a)(b:But a H H'):TB A H':=tb.lists b.keeps λx hx=>by rw [mem_singleton] at hx;subst hx;obtain ⟨xs,e⟩:=hP.lst;exact .inl ⟨_,e⟩
theorem Pot.tup{H:Hp}{a r:Addr}{xs:List V}(hP:Pot H a)(e:H r=some (.tup xs)):r≠a:=λz=>by obtain ⟨x,y,ea,_⟩:=hP.ex;rw [z,ea] at e;cases e
theorem zar.tup{H H':Hp}{a r:Addr}{xs:List V}(s:zar a H H')(hP:Pot H a)(e:H r=some (.tup xs)):H' r=some (.tup xs):=s _ _ (hP.tup e) (λ_=>nofun) e
theorem zJ.butT{H H':Hp}{a p b k:Addr}{t:Tab}{ks:List (Str×Tab)}(h:zJ A H p b k t ks)(hP:Pot H a)(s:zar a H H'):zJ A H' p b k t ks:=by
 obtain ⟨x,y,ha,_⟩:=hP.ex
 have tr:∀{v:V}{l:List Int},zaj H v l->zaj H' v l:=λ{v l} ⟨q,e,hq⟩=>⟨q,e,s.tup hP hq⟩
 have ii:∀{q dx:Addr}{fs:List (Str×V)},H q=some (.ins A.Files dx fs)->H' q=some (.ins A.Files dx fs):=λ{q dx fs} e=>s _ _ (λz=>by rw [z,ha] at e;cases e) (λ_=>nofun) e
 have dk:∀{c:Addr}{ys:List (Key×V)},H c=some (.dK ys)->H' c=some (.dK ys):=λ{c ys} e=>s _ _ (λz=>by rw [z,ha] at e;cases e) (λ_=>nofun) e
 have rd:∀{c:Addr}{ys:List (Key×V)},Rd H c (.dK ys)->Rd H' c (.dK ys):=λ{c ys} e=>e.elim (λe=>.inl (dk e)) λ⟨o,e⟩=>.inr ⟨o,s _ _ (λz=>by rw [z,ha] at e;cases e) (λ_=>nofun) e⟩
 obtain ⟨dx,e⟩:=h.ob
 obtain ⟨kk,e2,d⟩:=h.kept
 obtain ⟨kvs,e3,d3⟩:=h.births.ex
 exact ⟨⟨dx,ii e⟩,⟨⟨kvs,dk e3,d3.imp λv l r=>tr r⟩,h.births.nd⟩,⟨kk,dk e2,d.imp λv u ⟨q,b',k',ev,⟨⟨dq,eq⟩,⟨⟨kv,eb,db⟩,nb⟩,ek⟩,nn⟩=>⟨q,b',k',ev,⟨⟨dq,ii eq⟩,⟨⟨kv,rd eb,db.imp λv l r=>tr r⟩,nb⟩,rd ek⟩,nn⟩⟩,h.ndk,h.ne⟩
def ziB(A:zh):Sp:=λvs H Q _=>∃(a p wl sl sh:Addr)(cells shc:List Addr)(m:Int)(d:DM),vs=[.ref a,.ref sh]/\DW A H p wl sl sh cells shc m d/\Pot H a/\Apt a wl sl sh cells shc /\
 ∀tp x l as ts H',H' tp=some (.tup [.ref x,.ref l])->zar a H H'->TB A H'->Pot H' a->zba A H' x ts->H' l=some (.lst (as.map V.ref))->Paired (zbw H') as ts->Fr H l->Q (.ref tp) H'
theorem zg8:zu ["_law_pot_here","_law_shelf","_law_births_here","_law_spots"] ["_law_pot_here","_law_shelf"] (ze zcQ):=⟨rfl,rfl,rfl,f!"",rfl,f!"",f!""⟩
theorem zyr:zaF { kind:=.function,names:=[(Str.ofString ".0",.local),(Str.ofString "_law_birth",.local),(Str.ofString "_law_births_here",.free)],isGenerator:=false,isCoroutine:=false,more:=[] } (ze zcQ).names ["_law_pot_here","_law_shelf","_law_births_here","_law_spots"] ["_law_birth","_law_births_here"] [none,some 2]=true:=by decide +kernel
theorem zuD:(["_law_birth","_law_births_here"]:List Str).Nodup:=by decide +kernel
theorem zmC{f:Addr}{fd:FuncData}(F:Fun K "_law_state" "_law_state" zcQ f fd)(T:Txt K mg A)(Gb:GF P w K mg base true 1 "_law_draw" ["_law_pot_here","_law_many"] zbi)(Gv:GF P w K mg base true 2 "_law_births" ["_law_pot_here","_law_shelf"] (zhl A))(Gw:GF P w K mg base true 6 "_law_files" ["_law_pot_here","_law_births_here"] (ziG A))(Gx:GF P w K mg base true 2 "_law_next" ["_law_pot_here","_law_shelf"] (zhN A))(Gy:GC P w K mg base true 5 "State" A.State ["self","files","spots","next_number","mark_number"] (zgL A)):zo P w K mg base CX0 true 7 f fd ["_law_pot_here","_law_shelf"] (ziB A):=by
 refine F.ok zg8 (λvs H Q E h=>?_) (λcdv Ar outer s H vs Q E hr h=>?_)
 ·obtain ⟨a,p,wl,sl,sh,cells,shc,m,d,rfl,_⟩:=h;rfl
 ·obtain ⟨a,p,wl,sl,sh,cells,shc,m,d,rfl,Ww,hP,ap,q⟩:=h
  have hu:_<cLine:=lt_of_succ_lt (zX hr)
  refine ⟨_,(W.h (zg (zF (i:=2) zg8.nd rfl (Or.inr rfl) (zr Gv hr rfl (zb (za 0) (zb (za 1) zc))))
   (zg (zsT (zeK (i0:=3) zg8.nd rfl (Or.inl rfl) (λ_=>rfl) (zah.of zyr) (zug (za 2)) (λ_ _ _ _ _=>(zI (i:=0) zuD rfl (Or.inl rfl))) (λ_ _ _ _ _=>zbI) (λ_ _ _ _ _=>(zav (zb (za 0) (zb (zL zQ (zL (zfW (zX hr)) (za 1) (za 0) (λ_ _=>rfl)) zi (λ_ _=>rfl)) (zb (zL zQ (zL (zfW (zX hr)) (za 1) (za 0) (λ_ _=>rfl)) zi (λ_ _=>rfl)) zc)))))))
   (zk (zH (zav (zb (zty Gy hr rfl (zb (zr Gw hr rfl (zb (za 0) (zb (za 2) zc))) (zb (za 3) (zb (zr Gx hr rfl (zb (za 0) (zb (za 1) zc))) (zb (zr Gb hr rfl (zb (za 0) (zb zi zc))) zc))))) (zb (za 3) zc)))))))),?_⟩
  simp_all only []
  refine ⟨a,p,wl,sl,sh,cells,shc,m,d,rfl,Ww,hP,λdd kvs ts H1 b1 tb1 P1 dd0 hd pr ok=>?_⟩
  have lk:=z5 pr
  have W1:=Ww.butT hP ap b1 tb1 P1
  try simp_all only []
  refine ⟨dd,_,hd,λo=>?_⟩
  have hfz:upd H1 dd (.frz o (.dK (ik kvs))) dd=some (.frz o (.dK (ik kvs))):=zq
  have tupF:∀{r:Addr}{xs:List V},H1 r=some (.tup xs)->upd H1 dd (.frz o (.dK (ik kvs))) r=some (.tup xs):=λ{r xs} e=>by rw [zd (λz=>by rw [z,hd] at e;cases e)];exact e
  try simp_all only []
  refine ⟨o,ik kvs,by first | exact hfz | rfl,zV.dct (SsI (upd H1 dd (.frz o (.dK (ik kvs)))) dd (.frz o (.dK (ik kvs))) ts) (λi τ ys H' I=>?_) (λi τ ys H' I=>I.fz) ⟨⟨_,rfl⟩,⟨[],rfl,.nil⟩,hfz,zl.refl _⟩ ?_ ?_⟩
  ·obtain ⟨as,e,pr'⟩:=I.ys
   have:=z5 pr'
   have h2:=length_take_le' i ts
   have:=ok.few
   rw [e,length_map]
   exact zaG (by omega)
  ·intro N i pv τ ys H' hp I hN
   obtain ⟨t1,rfl⟩:=I.ex
   obtain ⟨as,e,pr'⟩:=I.ys
   unfold ik at hp
   rw [getElem?_map] at hp
   obtain ⟨kv,hkv,rfl⟩:=map_eq_some_iff.mp hp
   have hi:i<ts.length:=by rw [<- lk];exact (List.getElem?_eq_some_iff.mp hkv).1
   have hti:ts[i]?=some ts[i]:=List.getElem?_eq_getElem hi
   obtain ⟨s1,a2,s2,s3⟩:=zaO pr hkv hti
   have s3:=I.same _ _ (tupF s3)
   have hv:zN (ik kvs) (.inl ts[i].1)=some (.ref a2):=ziz (by rw [zf7 pr];exact ok.nd) (by rw [<- s1,<- s2];exact mem_of_getElem? hkv)
   have ek:kV (Sum.inl kv.1:Key)=V.int ts[i].1:=by rw [<- s1];rfl
   show zbR 0 (kV (Sum.inl kv.1:Key)) _ _ _
   rw [ek]
   have rdd:Rd H' dd (.dK (ik kvs)):=.inr ⟨o,I.fz⟩
   simp_all only []
   refine ⟨_,rdd,_,hv,?_⟩
   simp_all only [s3,ze8,zfb]
   refine ⟨_,rdd,_,hv,?_⟩
   simp_all only [s3,ze8,zfb]
   refine ⟨by decide,λp2 H2 n2=>hN _ _ _ ⟨⟨_,rfl⟩,⟨as++[p2],by rw [e,map_append];rfl,?_⟩,n2.same _ _ I.fz,I.same.trans n2.same⟩⟩
   rw [take_add_one,hti]
   exact zbB (Paired.mapP pr' λa t r=>n2.same _ _ r) (.cons n2.at_ .nil)
  ·intro τ ys H2 I D H3 n3
   obtain ⟨as,e,pr'⟩:=I.ys
   rw [zgj,lk,take_of_length_le (le_refl _)] at pr'
   rw [e] at n3
   refine ⟨o,n3.same _ _ I.fz,?_⟩
   have s14:zl H1 (upd H3 dd (.dK (ik kvs))):=λc u eu=>by
    by_cases z:c=dd
    ·subst z;rw [hd] at eu;cases eu;exact zq
    ·rw [zd z];exact n3.same _ _ (I.same _ _ (by rw [zd z];exact eu))
   have Dd:D≠dd:=λz=>by have:=n3.no;rw [z,I.fz] at this;cases this
   have hD4:upd H3 dd (.dK (ik kvs)) D=some (.lst (as.map V.ref)):=by rw [zd Dd];exact n3.at_
   have pr4:Paired (zbw (upd H3 dd (.dK (ik kvs)))) as ts:=Paired.mapP pr' λa t r=>by
    have r:H2 a=_:=r
    show upd H3 dd _ a=_
    rw [zd (λz=>by rw [z,I.fz] at r;cases r)];exact n3.same _ _ r
   have D1:H1 D=none:=by
    cases eD:H1 D with
    | none=>rfl
    | some u =>
     have h3:=I.same D u (by rw [zd Dd];exact eD)
     rw [n3.no] at h3;cases h3
   have frD:Fr H D:=b1.fr P1 D1
   have P4:=P1.same s14
   have W4:=W1.same s14
   have tb4:=tb1.same s14
   have hd4:=s14 _ _ hd
   have Da:D≠a:=P1.ne D1
   generalize upd H3 dd (.dK (ik kvs))=H4 at s14 hD4 pr4 P4 W4 tb4 hd4
   simp_all only []
   refine ⟨a,dd,kvs,rfl,P4,hd4,by rw [lk];exact ok.few,λpf b k t ks H5 b5 P5 F5=>?_⟩
   have W5:=W4.potB P4 ap.d ap.s ap.c b5
   refine ⟨a,p,wl,sl,sh,cells,shc,m,d,rfl,W5,P5,λz H6 b6 tb6 P6=>⟨a,9,rfl,P6,by decide,by decide,λr H7 b7 P7 _ _=>?_⟩⟩
   have b47:zar a H4 H7:=((zar.but b5).trans b6).trans (.but b7)
   have F7:=(F5.butT P5 b6).butT P6 (.but b7)
   have tb7:=tb6.potB P6 b7
   have hD7:=b47 D (.lst (as.map V.ref)) Da (λ_=>nofun) hD4
   have pr7:Paired (zbw H7) as ts:=Paired.mapP pr4 λc t r=>b47.tup P4 r
   intro x dxx H8 nI
   refine ⟨x,pf,b,k,D,dxx,z,r,t,ks,as,ts,rfl,nI.at_,F7.same nI.same,nI.same _ _ hD7,Paired.mapP pr7 λc t r=>nI.same _ _ r,ok,λH9 b9 S9=>⟨rfl,by decide,λtp H10 n10=>?_⟩⟩
   have nx:∀{c:Addr}{o:HO},H7 c=some o->c≠x:=λ{c o} e z=>by have:=nI.no;rw [<- z,e] at this;cases this
   have k79:∀{c:Addr}{o:HO},H7 c=some o->H10 c=some o:=λ{c o} e=>n10.same _ _ (b9 _ _ (nx e) (nI.same _ _ e))
   have tb9:TB A H9:=(tb7.same nI.same).lists b9.keeps λy hy=>by rw [mem_singleton] at hy;subst hy;exact .inr ⟨_,_,_,nI.at_⟩
   have P10:Pot H10 a:=by obtain ⟨x',y',ea,rr⟩:=P7.ex;exact ⟨⟨x',y',k79 ea,rr⟩⟩
   refine q tp x D as ts H10 n10.at_ (λc o n no e=>k79 (b47 _ _ n no (s14 _ _ (b1 _ _ n no e)))) (tb9.same n10.same) P10 (S9.sameT (.of n10.same)) (k79 hD7) (Paired.mapP pr7 λc t r=>k79 r) frD
end
abbrev zdG:Stmt:=top 48
def zro(l:List Int):PyData:=.list (l.map .int)
theorem zl8{H:Hp}:∀{l:List Int},(∀n∈l,0<=n/\n<10 ^ 18)->zbv H (l.map V.int) (l.map .int)/\∀d∈l.map PyData.int,GD d 0 64
 | [],_=>⟨.nil,by simp⟩
 | n::l,h=>by
  obtain ⟨b1,b2⟩:=zl8 (H:=H) λt ht=>h t (mem_cons_of_mem _ ht)
  refine ⟨.cons (.int _) b1,λd hd=>?_⟩
  rcases mem_cons.mp hd with rfl|hd
  ·have:=h n (mem_cons_self ..)
   exact znL this.1 this.2
  ·exact b2 d hd
theorem zl6{A':Around}{H:Hp}{l:Addr}{ns:List Int}{Q:VK}(nsy:l≠sysModules)(hl:H l=some (.lst (ns.map V.int)))(ok:∀n∈ns,0<=n/\n<10 ^ 18)(len:ns.length<=40)(hu:A'.units+64<cLine)(q:Q (.str (zro ns).shown) H):zf3 A' [.ref l] H Q:=by
 obtain ⟨d1,d2⟩:=zl8 (H:=H) ok
 exact ztr (.lst nsy hl d1) (zya d2) (by decide) (by rw [length_map];omega) hu q
theorem zjl{A':Around}{H:Hp}{i:Int}{Q:VK}(hi:i.natAbs<2 ^ 64)(q:Q (.str (toString i)) H):zf3 A' [.int i] H Q:=.inr (.inr (.inl ⟨i,rfl,zfK hi,q⟩))
section
variable {P:Program}{w:World}{K:Frag}{mg:Str->Option Value}{base:Heap}{A:zh}
structure RiI(H:Hp)(p sh x l:Addr)(i:Nat)(σ:L2.St)(H':Hp):Prop where
 ex:∃t1 t2 t3 t4,σ=[some (V.ref p),some (.ref sh),some (.ref x),some (.ref l),t1,t2,t3,t4]
 same:zl H H'
def zh9(A:zh):Sp:=λvs H Q _=>∃(p wl sl sh x l:Addr)(cells shc as:List Addr)(m:Int)(d:DM)(ts:List T3),vs=[.ref p,.ref sh,.ref x,.ref l]/\DW A H p wl sl sh cells shc m d/\zba A H x ts/\H l=some (.lst (as.map V.ref))/\Paired (zbw H) as ts/\∀H',zl H H'->Q (.bl true) H'
theorem zeg:zu ["_law_disk_here","_law_shelf","_law_state_here","_law_spots","_law_turn_here","_law_stretch","_law_due","_law_told"] ["_law_disk_here","_law_shelf","_law_state_here","_law_spots"] (ze zdG):=⟨rfl,rfl,rfl,f!"",rfl,f!"",f!""⟩
theorem zmM{f:Addr}{fd:FuncData}(F:Fun K "_law_right" "_law_right" zdG f fd)(T:Txt K mg A)(Gz:GF P w K mg base true 1 "_law_alive" ["_law_spots","_law_stretch"] zhO)(Gg:GF P w K mg base true 2 "living_in" ["state","stretch"] (zfh A))(GA:GF P w K mg base true 3 "waste" ["disk","state","stretch"] (zg3 A)):zo P w K mg base CX0 true 4 f fd ["_law_disk_here","_law_shelf","_law_state_here","_law_spots"] (zh9 A):=by
 refine F.ok zeg (λvs H Q E h=>?_) (λcdv Ar outer s H vs Q E hr h=>?_)
 ·obtain ⟨p,wl,sl,sh,x,l,cells,shc,as,m,d,ts,rfl,_⟩:=h;rfl
 ·obtain ⟨p,wl,sl,sh,x,l,cells,shc,as,m,d,ts,rfl,Ww,St,hl,hp,q⟩:=h
  have hu:_<cLine:=lt_of_succ_lt (zX hr)
  have hg:=hr.gd
  have h64:=hr.units
  have ok:=Ww.ok
  refine ⟨_,(W.h (zg (zbd PassesOwn.never (λ_=>rfl) (zb0 rfl T.n_range (zb zi zc)) (zI (i:=4) zeg.nd rfl (Or.inl rfl))
   (zk (zbd PassesOwn.never (λ_=>rfl) (zb0 rfl T.n_range (zb (zM zaI rfl T.n_len PySem.boot_len (zb (za 1) zc)) zc)) (zI (i:=5) zeg.nd rfl (Or.inl rfl))
   (zg (zF (i:=6) zeg.nd rfl (Or.inl rfl) (zr Gz hr rfl (zb (za 3) (zb (za 5) zc))))
   (zg (zF (i:=7) zeg.nd rfl (Or.inl rfl) (zr Gg hr rfl (zb (za 2) (zb (za 5) zc))))
   (zg (z7 (zal (zgB hu) (zM (zfe hg) rfl T.n_repr boot_repr (zb (za 7) zc)) (zM (zfe hg) rfl T.n_repr boot_repr (zb (za 6) zc)) (zaa _))
   (zk (zH zbc))
   zam)
   (zg (zZ (zeL (za 7) zi))
   (zk (z7 (zal (zgB hu) (zM (zfe hg) rfl T.n_repr boot_repr (zb (zr GA hr rfl (zb (za 0) (zb (za 2) (zb (za 5) zc)))) zc)) (zM (zfe hg) rfl T.n_repr boot_repr (zb (zG zdu (zM zaI rfl T.n_len PySem.boot_len (zb (zL zQ (za 1) (za 5) (λ_ _=>rfl)) zc)) (zM zaI rfl T.n_len PySem.boot_len (zb (za 6) zc))) zc)) (zaa _))
   (zk (zH zbc))
   zam)))))))))
   (zk (zH zbc)))),?_⟩
  have hl16:=ok.tx.len
  have few:=St.ok.few
  simp_all only []
  refine ⟨by decide,by decide,zad.rng (RiI H p sh x l) ⟨⟨_,_,_,_,rfl⟩,zl.refl _⟩ ?_ ?_⟩
  ·rintro i0 σ H0 hi0 ⟨⟨t1,t2,t3,t4,rfl⟩,sm0⟩
   have W0:=Ww.same sm0
   have hw0:=W0.shelf.w
   simp_all only [hw0,length_map,W0.shelf.len,zaK]
   have er:((d.rows.length:Nat):Int).toNat=d.rows.length:=by omega
   rw [er]
   refine ⟨by omega,by omega,zad.rng (RiI H p sh x l) ⟨⟨_,_,_,_,rfl⟩,sm0⟩ ?_ ?_⟩
   ·rintro i σ H1 hi ⟨⟨t1,t2,t3,t4,rfl⟩,sm1⟩
    have ej:(0+(i:Int))=((i:Nat):Int):=by omega
    simp_all only [ej]
    refine ⟨l,as,ts,i,rfl,sm1 _ _ hl,Paired.mapP hp λa t r=>sm1 _ _ r,few,λl2 ns H2 s2 l20 l2s e2 al=>?_⟩
    have S2:=(St.sameT (.of sm1)).sameT (.of s2)
    try simp_all only []
    refine ⟨x,ts,i,rfl,S2,λl3 ns3 H3 s3 l30 l3s e3 al3=>?_⟩
    have en:=zkb al3 al
    subst en
    have am:=ztP al
    have an:∀n∈ns3,0<=n/\n<10 ^ 18:=λn hn=>by obtain ⟨t,ht,rfl⟩:=am.2 n hn;exact St.ok.num t ht
    have e2':=s3 _ _ e2
    try simp_all only []
    refine zl6 l3s e3 an (by omega) h64 (zl6 l2s e2' an (by omega) h64 ?_)
    simp_all only [decide_true,e3]
    refine ⟨by rw [length_map];exact zaG (by omega),?_⟩
    have s13:zl H1 H3:=s2.trans s3
    have l31:H1 l3=none:=s2.free l30
    have s04:zl H (upd H3 l3 (.lst (ns3.map V.int++[.int 0]))):=λc o e=>by
     have e1:=sm1 _ _ e
     rw [zd (zA e1 l31)];exact s13 _ _ e1
    have l32:l3≠l2:=λz=>by rw [z,e2] at l30;cases l30
    have e4:upd H3 l3 (.lst (ns3.map V.int++[.int 0])) l2=some (.lst (ns3.map V.int)):=by rw [zd (Ne.symm l32)];exact e2'
    generalize upd H3 l3 (.lst (ns3.map V.int++[.int 0]))=H4 at s04 e4
    have W4:=Ww.same s04
    refine ⟨p,wl,sl,x,cells,m,d,ts,i,rfl,W4.disk,hi,St.sameT (.of s04),λns5 H5 s5 al5=>?_⟩
    have en:=zkb al5 al
    subst en
    have W5:=W4.same s5
    have hwd:=(ok.tx.ok _ (zeI (x:=[]) hi)).1
    refine zjl (by omega) ?_
    obtain ⟨c,vs,hc,ha,hv,pv,lv⟩:=W5.shelf.cell (k:=i) (by rw [zaK];exact hi)
    have lv':vs.length=(d.rows.getD i []).length:=by rw [lv,za4,length_map]
    have hw5:=W5.shelf.w
    have e5:=s5 _ _ e4
    simp_all only [hw5,ha,hv,e5,length_map,lv']
    refine zjl (by omega) ?_
    simp_all only [decide_true]
    exact ⟨⟨_,_,_,_,rfl⟩,s04.trans s5⟩
   ·rintro σ H1 ⟨⟨t1,t2,t3,t4,rfl⟩,sm1⟩
    simp_all only []
    exact ⟨⟨_,_,_,_,rfl⟩,sm1⟩
  ·rintro σ H1 ⟨⟨t1,t2,t3,t4,rfl⟩,sm1⟩
   simp_all only []
   exact q H1 sm1
end
abbrev zbO:Stmt:=top 50
theorem DOk.rows{d d':DM}(h:DOk d)(e:d'.rows=d.rows):DOk d':=by
 have en:nU d'=nU d:=by unfold nU;rw [e]
 exact ⟨⟨by rw [e];exact h.tx.ok,by rw [e];exact h.tx.len⟩,by rw [en];exact h.nd,by rw [en];exact h.few,by rw [en];exact h.pos,by rw [en];exact h.row⟩
theorem zD.keeps{H0 H H':Hp}{F:List Addr}(s:zD H0 H)(k:zn F H H')(f:∀x∈F,Fr H0 x):zD H0 H':=λb o n e=>k b o (s b o n e) λz=>f b z o n e
theorem SqL.sameT{K:Frag}{H H':Hp}{a:Addr}{xs:List V}(s:zD H H')(h:SqL K H a xs):SqL K H' a xs:=by
 rcases h with (h|⟨o,h⟩)|h
 ·exact .inl (.inl (s.list h))
 ·exact .inl (.inr ⟨o,s _ _ (λ_=>nofun) h⟩)
 ·exact .inr h
theorem zD.butT{H0 H H':Hp}{a:Addr}(s:zD H0 H)(k:zar a H H')(f:Fr H0 a):zD H0 H':=λb o n e=>k b o (λz=>f o n (by rw [<- z];exact e)) n (s b o n e)
theorem zux{A:zh}{H:Hp}{x p dx dp f d wl sl:Addr}{n m m':Int}{dm:DM}(h:H x=some (.ins A.State dx (zbW f d n m)))(h':H p=some (.ins A.Disk dp (zp m' wl sl dm))):x≠p:=λz=>by
 rw [z,h'] at h
 have h:=Option.some.inj h
 simp only [HO.ins.injEq,zp,zbW,List.cons.injEq,Prod.mk.injEq] at h
 exact absurd h.2.2.1.1 (f!"")
theorem zba.disk{A:zh}{H H':Hp}{x p wl sl:Addr}{cells:List Addr}{m:Int}{dm:DM}{ts:List T3}(h:zba A H x ts)(D:zE A H p wl sl cells m dm)(b:zn (p::wl::sl::cells) H H'):zba A H' x ts:=by
 obtain ⟨dx,f,d,n,mm,kvs,e1,e2,e3⟩:=h.ex
 obtain ⟨dp,ep⟩:=D.ob
 have out:∀{c:Addr}{o:HO},H c=some o->(∀xs,o≠.lst xs)->(∀C dx fs,o≠.ins C dx fs)->H' c=some o:=λ{c o} e n1 n2=>b _ _ e λz=>by
  rcases D.lists c z with ⟨xs,q⟩|⟨C,dx,fs,q⟩
  ·rw [q] at e;cases e;exact n1 _ rfl
  ·rw [q] at e;cases e;exact n2 _ _ _ rfl
 refine ⟨⟨dx,f,d,n,mm,kvs,b _ _ e1 λz=>?_,out e2 (λ_=>nofun) (λ_ _ _=>nofun),Paired.mapP e3 λp t r=>r.keep λr xs e=>out e (λ_=>nofun) (λ_ _ _=>nofun)⟩,h.ok⟩
 rcases mem_cons.mp z with z|z
 ·exact zux e1 ep z
 ·have hx:=mem_cons_of_mem p z
  rcases mem_cons.mp z with rfl|z
  ·rw [D.rows.w] at e1;cases e1
  ·rcases mem_cons.mp z with rfl|z
   ·rw [D.sides] at e1;cases e1
   ·obtain ⟨i,hi,rfl⟩:=getElem_of_mem z
    rw [D.rows.at_ i _ (List.getElem?_eq_getElem hi)] at e1;cases e1
structure Pk(A:zh)(H:Hp)(p sh x l:Addr):Prop where
 ex:∃(wl sl:Addr)(cells shc as:List Addr)(m:Int)(d:DM)(ts:List T3),DW A H p wl sl sh cells shc m d/\zba A H x ts/\H l=some (.lst (as.map V.ref))/\Paired (zbw H) as ts
theorem Pk.sameT{A:zh}{H H':Hp}{p sh x l:Addr}(h:Pk A H p sh x l)(s:zD H H')(tb:TB A H'):Pk A H' p sh x l:=by
 obtain ⟨wl,sl,cells,shc,as,m,d,ts,W,S,e,r⟩:=h.ex
 exact ⟨wl,sl,cells,shc,as,m,d,ts,W.sameT s tb,S.sameT s,s.list e,Paired.mapP r λa t q=>s.tup q⟩
def Eld(A:zh)(H:Hp)(v:V):Prop:=v = .non\/∃e p sh x l,v = .ref e/\H e=some (.tup [.ref p,.ref sh,.ref x,.ref l])/\Pk A H p sh x l
theorem Eld.sameT{A:zh}{H H':Hp}{v:V}(h:Eld A H v)(s:zD H H')(tb:TB A H'):Eld A H' v:=by
 rcases h with h|⟨e,p,sh,x,l,ev,he,hp⟩
 ·exact .inl h
 ·exact .inr ⟨e,p,sh,x,l,ev,s.tup he,hp.sameT s tb⟩
theorem zo5{a b c d:V}:atI [a,b,c,d] 0=some a:=rfl
theorem zxP{a b c d:V}:atI [a,b,c,d] 1=some b:=rfl
theorem ztm{a b c d:V}:atI [a,b,c,d] 2=some c:=rfl
theorem zwm{a b c d:V}:atI [a,b,c,d] 3=some d:=rfl
section
variable {P:Program}{w:World}{K:Frag}{mg:Str->Option Value}{base:Heap}{A:zh}
structure LwI(A:zh)(H0:Hp)(sc:V)(i:Nat)(σ:L2.St)(H':Hp):Prop where
 ex:∃v t1 t2 t3 t4 t5 t6,σ=[some sc,some v,t1,t2,t3,t4,t5,t6]/\Eld A H' v
 same:zD H0 H'
 tb:TB A H'
def zfk(t1:Addr)(K:Frag):Sp:=λvs H Q _=>∃(a:Addr)(ns:List Int),vs=[.ref a]/\SqL K H a (ns.map V.int)/\ns.length<=63/\H t1=some (.tbl #[])/\∀H',Q (.bl true) H'
theorem zb5:zu ["_law_script","_law_elder","_law_k","_law_pot_here","_law_disk_here","_law_shelf","_law_state_here","_law_spots"] ["_law_script"] (ze zbO):=⟨rfl,rfl,rfl,f!"",rfl,f!"",f!""⟩
theorem zuM{f:Addr}{fd:FuncData}(F:Fun K "law" "law" zbO f fd)(T:Txt K mg A)(GB:GF P w K mg base true 2 "_law_pot" ["_law_script","_law_k"] (zic K))(GE:GF P w K mg base true 7 "_law_disk" ["_law_pot_here"] (zgr A))(GG:GF P w K mg base true 7 "_law_state" ["_law_pot_here","_law_shelf"] (ziB A))(Gi:GF P w K mg base true 4 "_law_right" ["_law_disk_here","_law_shelf","_law_state_here","_law_spots"] (zh9 A))(GH:GF P w K mg base true 4 "_law_halted" ["_law_disk_here"] (zhK A)):zo P w K mg base CX0 true 9 f fd ["_law_script"] (zfk A.t__law_rows K):=by
 refine F.ok zb5 (λvs H Q E h=>?_) (λcdv Ar outer s H vs Q E hr h=>?_)
 ·obtain ⟨a,ns,rfl,_⟩:=h;rfl
 ·obtain ⟨sc,ns,rfl,hS,hl,hT1,q⟩:=h
  have hu:_<cLine:=lt_of_succ_lt (zX hr)
  refine ⟨_,(W.h (zg (zF (i:=1) zb5.nd rfl (Or.inl rfl) zbt)
   (zg (zbd PassesOwn.never (λ_=>rfl) (zb0 rfl T.n_range (zb (zM (ziF rfl) rfl T.n_max boot_max (zb zi (zb (zM (zgH rfl) rfl T.n_min boot_min (zb (zM zgc rfl T.n_len PySem.boot_len (zb (za 0) zc)) (zb zi zc))) zc))) zc)) (zI (i:=2) zb5.nd rfl (Or.inl rfl))
   (zg (zF (i:=3) zb5.nd rfl (Or.inl rfl) (zr GB hr rfl (zb (za 0) (zb (za 2) zc))))
   (zg (zbz (zr GE hr rfl (zb (za 3) zc)) (zdp (n:=2) (z6 (zI (i:=4) zb5.nd rfl (Or.inl rfl)) (z6 (zI (i:=5) zb5.nd rfl (Or.inl rfl)) zbk))))
   (zg (zbz (zr GG hr rfl (zb (za 3) (zb (za 5) zc))) (zdp (n:=2) (z6 (zI (i:=6) zb5.nd rfl (Or.inl rfl)) (z6 (zI (i:=7) zb5.nd rfl (Or.inl rfl)) zbk))))
   (zg (z7 (zbV (zaU (zr Gi hr rfl (zb (za 4) (zb (za 5) (zb (za 6) (zb (za 7) zc)))))))
   (zk (zH zbc))
   zam)
   (zg (z7 (zfJ (zkk (zbV (zaU (zr GH hr rfl (zb (za 4) zc)))) (zjF (zbV (zaU (zr Gi hr rfl (zb (za 4) (zb (za 5) (zb (za 6) (zb (za 7) zc))))))))))
   (zk (zH zbc))
   zam)
   (zg (z7 (zfJ (zlB (zal zfl (za 1) zbt (zaa _)) (zkn (zbV (zaU (zr Gi hr rfl (zb (zL zQ (za 1) zi (λ_ _=>rfl)) (zb (zL zQ (za 1) zi (λ_ _=>rfl)) (zb (zL zQ (za 1) zi (λ_ _=>rfl)) (zb (zL zQ (za 1) zi (λ_ _=>rfl)) zc))))))))))
   (zk (zH zbc))
   zam)
   (zk (zF (i:=1) zb5.nd rfl (Or.inl rfl) (zav (zb (za 4) (zb (za 5) (zb (za 6) (zb (za 7) zc))))))))))))))
   (zk (zH zbc))))),?_⟩
  have tb0:TB A H:=⟨.inl hT1⟩
  simp_all only []
  refine ⟨_,.inl hS,?_⟩
  rw [length_map]
  have hN:∃N:Nat,(if (if 3<(ns.length:Int) then 3 else (ns.length:Int))>1 then if 3<(ns.length:Int) then 3 else (ns.length:Int) else 1)=(N:Int)/\N<=3:=by
   by_cases h1:3<(ns.length:Int)
   ·rw [if_pos h1];exact ⟨3,rfl,by decide⟩
   ·rw [if_neg h1]
    split
    ·exact ⟨ns.length,rfl,by omega⟩
    ·exact ⟨1,rfl,by decide⟩
  obtain ⟨N,eN,hN3⟩:=hN
  rw [eN,toNat_natCast]
  refine ⟨by omega,by omega,zad.rng (LwI A H (.ref sc)) ⟨⟨_,_,_,_,_,_,_,rfl,.inl rfl⟩,zD.refl,tb0⟩ ?_ ?_⟩
  ·rintro i σ H0 hi ⟨⟨v,t1,t2,t3,t4,t5,t6,rfl,El⟩,s0,tb0'⟩
   have ej:(0+(i:Int))=((i:Nat):Int):=by omega
   simp_all only [ej]
   refine ⟨sc,ns,i,rfl,SqL.sameT s0 hS,by omega,λa H1 s1 a0 hP1=>?_⟩
   have tb1:=tb0'.same s1
   try simp_all only []
   refine ⟨a,rfl,hP1,tb1,λtp p wl sl sh cells shc m d H2 htp W2 hP2 b2 fr lf st sd size wide=>?_⟩
   refine ⟨tp,_,rfl,SqT.of htp,rfl,?_⟩
   have frH:∀x∈p::wl::sl::sh::(cells++shc),Fr H0 x:=λx hx o no e=>by
    have:=(fr x hx).2
    rw [s1 _ _ e] at this;cases this
   have fra:Fr H0 a:=λo no e=>by rw [a0] at e;cases e
   have s2:zD H0 H2:=(zD.of s1).keeps b2.keeps (λx hx=>by rw [mem_singleton] at hx;subst hx;exact fra)
   have ap:Apt a wl sl sh cells shc:=⟨λx hx=>(fr x (by
    rcases mem_cons.mp hx with rfl|hx
    ·simp
    ·rcases mem_cons.mp hx with rfl|hx
     ·simp
     ·simp [hx])).1,λz=>(fr sh (by simp)).1 z.symm,λz=>(fr a (by simp [z])).1 rfl⟩
   have frD:∀x∈p::wl::sl::cells,Fr H0 x:=λx hx=>frH x (by
    rcases mem_cons.mp hx with rfl|hx
    ·simp
    ·rcases mem_cons.mp hx with rfl|hx
     ·simp
     ·rcases mem_cons.mp hx with rfl|hx
      ·simp
      ·simp [hx])
   try simp_all only []
   refine ⟨a,p,wl,sl,sh,cells,shc,m,d,rfl,W2,hP2,ap,λtq x l as ts H3 htq b3 tb3 P3 S3 hl3 pr3 frl=>?_⟩
   refine ⟨tq,_,rfl,SqT.of htq,rfl,?_⟩
   have W3:=W2.butT hP2 ap b3 tb3 P3
   have s3:=s2.butT b3 fra
   try simp_all only []
   refine ⟨p,wl,sl,sh,x,l,cells,shc,as,m,d,ts,rfl,W3,S3,hl3,pr3,λH4 s34=>?_⟩
   have W4:=W3.same s34
   have S4:=S3.sameT (.of s34)
   try simp_all only []
   refine ⟨p,wl,sl,cells,m,d,rfl,W4.disk,st,sd,λd5 H5 D5 er b5=>?_⟩
   obtain ⟨Sh5,tb5⟩:=W4.diskB b5
   have W5:DW A H5 p wl sl sh cells shc m d5:=⟨D5,by rw [er];exact Sh5,W4.ap,tb5,W4.ok.rows er⟩
   have S5:=S4.disk W4.disk b5
   have hl4:=s34 _ _ hl3
   have lF:l∉p::wl::sl::cells:=W4.disk.out hl4 λy hy z=>by
    rcases W2.disk.lists y (mem_cons_of_mem _ hy) with ⟨xs,e⟩|⟨C,dx,fs,e⟩
    ·exact frl (.lst xs) (λ_=>nofun) (by rw [<- z];exact e)
    ·exact frl (.ins C dx fs) (λ_=>nofun) (by rw [<- z];exact e)
   have hl5:=b5 _ _ hl4 lF
   have pr5:Paired (zbw H5) as ts:=Paired.mapP pr3 λc t r=>W4.disk.tup b5 (s34 _ _ r)
   have s5:zD H0 H5:=(s3.trans (.of s34)).keeps b5 frD
   try simp_all only []
   refine ⟨p,wl,sl,sh,x,l,cells,shc,as,m,d5,ts,rfl,W5,S5,hl5,pr5,λH6 s56=>?_⟩
   have s6:=s5.trans (.of s56)
   have tb6:=tb5.same s56
   have El6:=El.sameT s6 tb6
   have Pk6:Pk A H6 p sh x l:=(show Pk A H5 p sh x l from ⟨wl,sl,cells,shc,as,m,d5,ts,W5,S5,hl5,pr5⟩).sameT (.of s56) tb6
   have fin:∀H7,zl H6 H7->∀e H8,New H7 e (.tup [.ref p,.ref sh,.ref x,.ref l]) H8->Eld A H8 (.ref e)/\zD H H8/\TB A H8:=λH7 s7 e H8 n8=>⟨.inr ⟨e,p,sh,x,l,rfl,n8.at_,Pk6.sameT (.of (s7.trans n8.same)) (tb6.same (s7.trans n8.same))⟩,s0.trans (s6.trans (.of (s7.trans n8.same))),tb6.same (s7.trans n8.same)⟩
   rcases El6 with rfl|⟨e,p',sh',x',l',rfl,he,hp'⟩
   ·try simp_all only []
    refine ⟨by decide,λe H8 n8=>?_⟩
    obtain ⟨f1,f2,f3⟩:=fin H6 (zl.refl _) e H8 n8
    exact ⟨⟨_,_,_,_,_,_,_,rfl,f1⟩,f2,f3⟩
   ·obtain ⟨wl',sl',cells',shc',as',m',d',ts',W',S',hl',pr'⟩:=hp'.ex
    simp_all only [he,zo5,zxP,ztm,zwm]
    refine ⟨p',wl',sl',sh',x',l',cells',shc',as',m',d',ts',rfl,W',S',hl',pr',λH7 s7=>?_⟩
    try simp_all only []
    refine ⟨by decide,λe H8 n8=>?_⟩
    obtain ⟨f1,f2,f3⟩:=fin H7 s7 e H8 n8
    exact ⟨⟨_,_,_,_,_,_,_,rfl,f1⟩,f2,f3⟩
  ·rintro σ H1 ⟨⟨v,t1,t2,t3,t4,t5,t6,rfl,El⟩,s1,tb1⟩
   simp_all only []
   exact q H1
end
theorem all_mk{l:OpenLaw}{w:World}{K:Frag}{h:Heap}{mg:Str->Option Value}{fa:Addr}{xf xk xE xb xA xr xc xt x3 x5 x8 f_0 f_1 f_2 f_3 f_4 f_5 f_6 f_7 f_8 f_9 yn yo yp yq yr yt yu yw yx yy yA yB yC yD yE yF yG yH yI yJ yK yL uO uP uQ uT uU uV uW uX uY uZ xu x9 v0 v3 v4 v5 v6 v7 v8 v9:Addr}{x4A x4B x4C x4D x4E x4F x4G x4H x4I x4J x4K x4L x4M x4N x4O x4P x4Q x4R x4S x4T vf vg vh vi vj vk vm vn vo vp vq vt vw vy vz vA vB vC vD vE vF vG vH vI vJ vK vL vM vN vO vP vQ vR vS vT vU vV vW vX vY vZ qc qe qg qh qi qj qk ql qm qo qp qq qr qt qu qv qw qx qy qz qA qB qC qD qE qF qG qH qI qJ qK qM qN qO qP qQ qR qS yV:Option Addr}{x4U x4V x4W x4X x4Y x4Z x50 x51 x52 x53 qT qU qV qW qX qY qZ x00 x01 x02 x03 x04 x05 x06 x07 x08 x09 x0a x0b x0c x0d x0e x0f x0g x0h x0i x0j x0k x0l x0m x0n x0o x0p x0q x0r x0s x0t x0u x0v x0w:Array (Option Value)}{x54 x55 x56 x57 x0x x58 x59 x5a x5b x5c x0y x5d x5e x5f x5g x5h x0z x5i x5j x5k x5l x5m x0A x5n x5o x5p x5q x5r x0B x5s x5t x5u x5v x5w x0C x5x x5y x5z x5A x5B x0D x5C x5D x5E x5F x5G x0E x5H x5I x5J x5K x5L x0F x5M x5N x5O x5P x5Q x0G x5R x0H x0I x0J x0K yW x0L x0M x0N x0O x0P yX x0Q x0R x0S x0T x0U yY x0V x0W x0X x0Y x0Z yZ x10 x11 x12 x13 x14 u0 x15 x16 x17 x18 x19 u5 x1a x1b x1c x1d x1e u6 x1f x1g x1h x1i x1j u7 x1k x1l x1m x1n x1o u8 x1p x1q x1r x1s x1t u9 x1u x1v x1w x1x x1y ua x1z x1A x1B x1C x1D ub x1E x1F x1G x1H x1I uc x1J x1K x1L x1M x1N ud x1O x1P x1Q x1R x1S ue x1T x1U x1V x1W x1X uf x1Y x1Z x20 x21 x22 ug x23 x24 x25 x26 x27 uh x28 x29 x2a x2b x2c ui x2d x2e x2f x2g x2h uj x2i x2j x2k x2l x2m um x2n x2o x2p x2q x2r uo x2s x2t x2u x2v x2w uq x2x x2y x2z x2A x2B ur x2C x2D x2E x2F x2G ut x2H x2I x2J x2K x2L uu x2M x2N x2O x2P x2Q uv x2R x2S x2T x2U x2V uw x2W x2X x2Y x2Z x30 ux x31 x32 x33 x34 x35 uy x36 x37 x38 x39 x3a uz x3b x3c x3d x3e x3f x3g x3h x3i x3j x3k uA x3l x3m x3n x3o x3p uC x3q x3r x3s x3t x3u uD x3v x3w x3x x3y x3z uE x3A x3B x3C x3D x3E uF x3F x3G x3H x3I x3J uG x3K x3L x3M x3N x3O uH x3P x3Q uI uJ uL xX uM:Value}{xM xg xi xl xo:Tok}(X:K.In h)(G:h.Ns mainGlobals mg)(hfa:mg "law"=some (.ref fa))
  (xv:nsIn K mainGlobals "CleanError"=some (some (.ref xf)))
  (xY:nsIn K mainGlobals "NoDisk"=some (some (.ref xk)))
  (va:nsIn K mainGlobals "Full"=some (some (.ref xE)))
  (xN:nsIn K mainGlobals "Stopped"=some (some (.ref xb)))
  (xZ:nsIn K mainGlobals "NoFile"=some (some (.ref xA)))
  (xO:nsIn K mainGlobals "NoPlace"=some (some (.ref xr)))
  (xp:nsIn K mainGlobals "HeldAlready"=some (some (.ref xc)))
  (xP:nsIn K mainGlobals "NotHeld"=some (some (.ref xt)))
  (y7:nsIn K mainGlobals "Disk"=some (some (.ref x3)))
  (xK:nsIn K mainGlobals "Files"=some (some (.ref x5)))
  (xL:nsIn K mainGlobals "State"=some (some (.ref x8)))
  (a_0:nsIn K mainGlobals "is_whole"=some (some (.ref f_0)))
  (l_0:K.lookup f_0=some ⟨x54,x4A,.func (fnOf "is_whole" "is_whole" (zw zd7) (zt zd7) (ze zd7) .none x55 x56 x57 x4B x0x x58),x4U⟩)
  (d_0:codeIn K x0x "is_whole"=true)
  (k_0:keepIn K (.ref f_0)=true)
  (a_1:nsIn K mainGlobals "is_within"=some (some (.ref f_1)))
  (l_1:K.lookup f_1=some ⟨x59,x4C,.func (fnOf "is_within" "is_within" (zw zdo) (zt zdo) (ze zdo) .none x5a x5b x5c x4D x0y x5d),x4V⟩)
  (d_1:codeIn K x0y "is_within"=true)
  (k_1:keepIn K (.ref f_1)=true)
  (a_2:nsIn K mainGlobals "sum_of"=some (some (.ref f_2)))
  (l_2:K.lookup f_2=some ⟨x5e,x4E,.func (fnOf "sum_of" "sum_of" (zw zdQ) (zt zdQ) (ze zdQ) .none x5f x5g x5h x4F x0z x5i),x4W⟩)
  (d_2:codeIn K x0z "sum_of"=true)
  (k_2:keepIn K (.ref f_2)=true)
  (a_3:nsIn K mainGlobals "summed"=some (some (.ref f_3)))
  (l_3:K.lookup f_3=some ⟨x5j,x4G,.func (fnOf "summed" "summed" (zw zdL) (zt zdL) (ze zdL) .none x5k x5l x5m x4H x0A x5n),x4X⟩)
  (d_3:codeIn K x0A "summed"=true)
  (k_3:keepIn K (.ref f_3)=true)
  (a_4:nsIn K mainGlobals "row_text"=some (some (.ref f_4)))
  (l_4:K.lookup f_4=some ⟨x5o,x4I,.func (fnOf "row_text" "row_text" (zw zcN) (zt zcN) (ze zcN) .none x5p x5q x5r x4J x0B x5s),x4Y⟩)
  (d_4:codeIn K x0B "row_text"=true)
  (k_4:keepIn K (.ref f_4)=true)
  (a_5:nsIn K mainGlobals "part_text"=some (some (.ref f_5)))
  (l_5:K.lookup f_5=some ⟨x5t,x4K,.func (fnOf "part_text" "part_text" (zw zdO) (zt zdO) (ze zdO) .none x5u x5v x5w x4L x0C x5x),x4Z⟩)
  (d_5:codeIn K x0C "part_text"=true)
  (k_5:keepIn K (.ref f_5)=true)
  (a_6:nsIn K mainGlobals "living_in"=some (some (.ref f_6)))
  (l_6:K.lookup f_6=some ⟨x5y,x4M,.func (fnOf "living_in" "living_in" (zw zcr) (zt zcr) (ze zcr) .none x5z x5A x5B x4N x0D x5C),x50⟩)
  (d_6:codeIn K x0D "living_in"=true)
  (k_6:keepIn K (.ref f_6)=true)
  (a_7:nsIn K mainGlobals "waste"=some (some (.ref f_7)))
  (l_7:K.lookup f_7=some ⟨x5D,x4O,.func (fnOf "waste" "waste" (zw zdD) (zt zdD) (ze zdD) .none x5E x5F x5G x4P x0E x5H),x51⟩)
  (d_7:codeIn K x0E "waste"=true)
  (k_7:keepIn K (.ref f_7)=true)
  (a_8:findIn K (.ref x3) "__init__"=some (some (.ref f_8)))
  (i_8:isFn K (.ref f_8)=true)
  (l_8:K.lookup f_8=some ⟨x5I,x4Q,.func (fnOf "__init__" "Disk.__init__" (zw zb8) (zt zb8) (ze zb8) .none x5J x5K x5L x4R x0F x5M),x52⟩)
  (d_8:codeIn K x0F "Disk.__init__"=true)
  (k_8:keepIn K (.ref f_8)=true)
  (a_9:findIn K (.ref x3) "stretches"=some (some (.ref f_9)))
  (i_9:isFn K (.ref f_9)=true)
  (l_9:K.lookup f_9=some ⟨x5N,x4S,.func (fnOf "stretches" "Disk.stretches" (zw zdV) (zt zdV) (ze zdV) .none x5O x5P x5Q x4T x0G x5R),x53⟩)
  (d_9:codeIn K x0G "Disk.stretches"=true)
  (k_9:keepIn K (.ref f_9)=true)
  (x5S:findIn K (.ref x3) "places"=some (some (.ref yn)))
  (x5T:isFn K (.ref yn)=true)
  (x5U:K.lookup yn=some ⟨x0H,vf,.func (fnOf "places" "Disk.places" (zw zec) (zt zec) (ze zec) .none x0I x0J x0K vg yW x0L),qT⟩)
  (x5V:codeIn K yW "Disk.places"=true)
  (x3R:keepIn K (.ref yn)=true)
  (x5W:findIn K (.ref x3) "next_place"=some (some (.ref yo)))
  (x5X:isFn K (.ref yo)=true)
  (x5Y:K.lookup yo=some ⟨x0M,vh,.func (fnOf "next_place" "Disk.next_place" (zw zdB) (zt zdB) (ze zdB) .none x0N x0O x0P vi yX x0Q),qU⟩)
  (x5Z:codeIn K yX "Disk.next_place"=true)
  (x3S:keepIn K (.ref yo)=true)
  (x60:findIn K (.ref x3) "write"=some (some (.ref yp)))
  (x61:isFn K (.ref yp)=true)
  (x62:K.lookup yp=some ⟨x0R,vj,.func (fnOf "write" "Disk.write" (zw zcy) (zt zcy) (ze zcy) .none x0S x0T x0U vk yY x0V),qV⟩)
  (x63:codeIn K yY "Disk.write"=true)
  (x3T:keepIn K (.ref yp)=true)
  (x64:findIn K (.ref x3) "put_side"=some (some (.ref yq)))
  (x65:isFn K (.ref yq)=true)
  (x66:K.lookup yq=some ⟨x0W,vm,.func (fnOf "put_side" "Disk.put_side" (zw zc7) (zt zc7) (ze zc7) .none x0X x0Y x0Z vn yZ x10),qW⟩)
  (x67:codeIn K yZ "Disk.put_side"=true)
  (x3U:keepIn K (.ref yq)=true)
  (x68:findIn K (.ref x3) "empty"=some (some (.ref yr)))
  (x69:isFn K (.ref yr)=true)
  (x6a:K.lookup yr=some ⟨x11,vo,.func (fnOf "empty" "Disk.empty" (zw zc3) (zt zc3) (ze zc3) .none x12 x13 x14 vp u0 x15),qX⟩)
  (x6b:codeIn K u0 "Disk.empty"=true)
  (x3V:keepIn K (.ref yr)=true)
  (x6c:findIn K (.ref x3) "stop"=some (some (.ref yt)))
  (x6d:isFn K (.ref yt)=true)
  (x6e:K.lookup yt=some ⟨x16,vq,.func (fnOf "stop" "Disk.stop" (zw zdk) (zt zdk) (ze zdk) .none x17 x18 x19 vt u5 x1a),qY⟩)
  (x6f:codeIn K u5 "Disk.stop"=true)
  (x3W:keepIn K (.ref yt)=true)
  (x6g:findIn K (.ref x3) "copied"=some (some (.ref yu)))
  (x6h:isFn K (.ref yu)=true)
  (x6i:K.lookup yu=some ⟨x1b,vw,.func (fnOf "copied" "Disk.copied" (zw zcn) (zt zcn) (ze zcn) .none x1c x1d x1e vy u6 x1f),qZ⟩)
  (x6j:codeIn K u6 "Disk.copied"=true)
  (x3X:keepIn K (.ref yu)=true)
  (x6k:findIn K (.ref x3) "refuse_if_stopped"=some (some (.ref yw)))
  (x6l:isFn K (.ref yw)=true)
  (x6m:K.lookup yw=some ⟨x1g,vz,.func (fnOf "refuse_if_stopped" "Disk.refuse_if_stopped" (zw zcH) (zt zcH) (ze zcH) .none x1h x1i x1j vA u7 x1k),x00⟩)
  (x6n:codeIn K u7 "Disk.refuse_if_stopped"=true)
  (x3Y:keepIn K (.ref yw)=true)
  (x6o:findIn K (.ref x3) "spend"=some (some (.ref yx)))
  (x6p:isFn K (.ref yx)=true)
  (x6q:K.lookup yx=some ⟨x1l,vB,.func (fnOf "spend" "Disk.spend" (zw zdi) (zt zdi) (ze zdi) .none x1m x1n x1o vC u8 x1p),x01⟩)
  (x6r:codeIn K u8 "Disk.spend"=true)
  (x3Z:keepIn K (.ref yx)=true)
  (x6s:findIn K (.ref x3) "first_signs"=some (some (.ref yy)))
  (x6t:isFn K (.ref yy)=true)
  (x6u:K.lookup yy=some ⟨x1q,vD,.func (fnOf "first_signs" "Disk.first_signs" (zw zcY) (zt zcY) (ze zcY) .none x1r x1s x1t vE u9 x1u),x02⟩)
  (x6v:codeIn K u9 "Disk.first_signs"=true)
  (x40:keepIn K (.ref yy)=true)
  (x6w:findIn K (.ref x5) "__init__"=some (some (.ref yA)))
  (x6x:isFn K (.ref yA)=true)
  (x6y:K.lookup yA=some ⟨x1v,vF,.func (fnOf "__init__" "Files.__init__" (zw zeb) (zt zeb) (ze zeb) .none x1w x1x x1y vG ua x1z),x03⟩)
  (x6z:codeIn K ua "Files.__init__"=true)
  (x6A:keepIn K (.ref yA)=true)
  (x6B:findIn K (.ref x5) "names"=some (some (.ref yB)))
  (x6C:isFn K (.ref yB)=true)
  (x6D:K.lookup yB=some ⟨x1A,vH,.func (fnOf "names" "Files.names" (zw zdR) (zt zdR) (ze zdR) .none x1B x1C x1D vI ub x1E),x04⟩)
  (x6E:codeIn K ub "Files.names"=true)
  (x41:keepIn K (.ref yB)=true)
  (x6F:findIn K (.ref x5) "many"=some (some (.ref yC)))
  (x6G:isFn K (.ref yC)=true)
  (x6H:K.lookup yC=some ⟨x1F,vJ,.func (fnOf "many" "Files.many" (zw zd2) (zt zd2) (ze zd2) .none x1G x1H x1I vK uc x1J),x05⟩)
  (x6I:codeIn K uc "Files.many"=true)
  (x42:keepIn K (.ref yC)=true)
  (x6J:findIn K (.ref x5) "put"=some (some (.ref yD)))
  (x6K:isFn K (.ref yD)=true)
  (x6L:K.lookup yD=some ⟨x1K,vL,.func (fnOf "put" "Files.put" (zw zd0) (zt zd0) (ze zd0) .none x1L x1M x1N vM ud x1O),x06⟩)
  (x6M:codeIn K ud "Files.put"=true)
  (x43:keepIn K (.ref yD)=true)
  (x6N:findIn K (.ref x5) "cut"=some (some (.ref yE)))
  (x6O:isFn K (.ref yE)=true)
  (x6P:K.lookup yE=some ⟨x1P,vN,.func (fnOf "cut" "Files.cut" (zw zdY) (zt zdY) (ze zdY) .none x1Q x1R x1S vO ue x1T),x07⟩)
  (x6Q:codeIn K ue "Files.cut"=true)
  (x44:keepIn K (.ref yE)=true)
  (x6R:findIn K (.ref x5) "hold"=some (some (.ref yF)))
  (x6S:isFn K (.ref yF)=true)
  (x6T:K.lookup yF=some ⟨x1U,vP,.func (fnOf "hold" "Files.hold" (zw zd6) (zt zd6) (ze zd6) .none x1V x1W x1X vQ uf x1Y),x08⟩)
  (x6U:codeIn K uf "Files.hold"=true)
  (x45:keepIn K (.ref yF)=true)
  (x6V:findIn K (.ref x5) "copied"=some (some (.ref yG)))
  (x6W:isFn K (.ref yG)=true)
  (x6X:K.lookup yG=some ⟨x1Z,vR,.func (fnOf "copied" "Files.copied" (zw zdZ) (zt zdZ) (ze zdZ) .none x20 x21 x22 vS ug x23),x09⟩)
  (x6Y:codeIn K ug "Files.copied"=true)
  (x46:keepIn K (.ref yG)=true)
  (x6Z:findIn K (.ref x5) "bare"=some (some (.ref yH)))
  (x70:isFn K (.ref yH)=true)
  (x71:K.lookup yH=some ⟨x24,vT,.func (fnOf "bare" "Files.bare" (zw zd1) (zt zd1) (ze zd1) .none x25 x26 x27 vU uh x28),x0a⟩)
  (x72:codeIn K uh "Files.bare"=true)
  (x47:keepIn K (.ref yH)=true)
  (x73:findIn K (.ref x5) "keep"=some (some (.ref yI)))
  (x74:isFn K (.ref yI)=true)
  (x75:K.lookup yI=some ⟨x29,vV,.func (fnOf "keep" "Files.keep" (zw zdv) (zt zdv) (ze zdv) .none x2a x2b x2c vW ui x2d),x0b⟩)
  (x76:codeIn K ui "Files.keep"=true)
  (x48:keepIn K (.ref yI)=true)
  (x77:findIn K (.ref x5) "refuse_if_none"=some (some (.ref yJ)))
  (x78:isFn K (.ref yJ)=true)
  (x79:K.lookup yJ=some ⟨x2e,vX,.func (fnOf "refuse_if_none" "Files.refuse_if_none" (zw zdW) (zt zdW) (ze zdW) .none x2f x2g x2h vY uj x2i),x0c⟩)
  (x7a:codeIn K uj "Files.refuse_if_none"=true)
  (x49:keepIn K (.ref yJ)=true)
  (x7b:findIn K (.ref x8) "__init__"=some (some (.ref yK)))
  (x7c:isFn K (.ref yK)=true)
  (x7d:K.lookup yK=some ⟨x2j,vZ,.func (fnOf "__init__" "State.__init__" (zw zc5) (zt zc5) (ze zc5) .none x2k x2l x2m qc um x2n),x0d⟩)
  (x7e:codeIn K um "State.__init__"=true)
  (x7f:keepIn K (.ref yK)=true)
  (x7g:findIn K (.ref x8) "spots"=some (some (.ref yL)))
  (x7h:isFn K (.ref yL)=true)
  (x7i:K.lookup yL=some ⟨x2o,qe,.func (fnOf "spots" "State.spots" (zw zcG) (zt zcG) (ze zcG) .none x2p x2q x2r qg uo x2s),x0e⟩)
  (x7j:codeIn K uo "State.spots"=true)
  (x4a:keepIn K (.ref yL)=true)
  (x7k:nsIn K mainGlobals "_law_cell"=some (some (.ref uO)))
  (x7l:K.lookup uO=some ⟨x2t,qh,.func (fnOf "_law_cell" "_law_cell" (zw zdX) (zt zdX) (ze zdX) .none x2u x2v x2w qi uq x2x),x0f⟩)
  (x7m:codeIn K uq "_law_cell"=true)
  (x4b:keepIn K (.ref uO)=true)
  (x7n:nsIn K mainGlobals "_law_pot"=some (some (.ref uP)))
  (x7o:K.lookup uP=some ⟨x2y,qj,.func (fnOf "_law_pot" "_law_pot" (zw zee) (zt zee) (ze zee) .none x2z x2A x2B qk ur x2C),x0g⟩)
  (x7p:codeIn K ur "_law_pot"=true)
  (x4c:keepIn K (.ref uP)=true)
  (x7q:nsIn K mainGlobals "_law_draw"=some (some (.ref uQ)))
  (x7r:K.lookup uQ=some ⟨x2D,ql,.func (fnOf "_law_draw" "_law_draw" (zw zdS) (zt zdS) (ze zdS) .none x2E x2F x2G qm ut x2H),x0h⟩)
  (x7s:codeIn K ut "_law_draw"=true)
  (x4d:keepIn K (.ref uQ)=true)
  (x7t:nsIn K mainGlobals "_law_drawn"=some (some (.ref uT)))
  (x7u:K.lookup uT=some ⟨x2I,qo,.func (fnOf "_law_drawn" "_law_drawn" (zw zdr) (zt zdr) (ze zdr) .none x2J x2K x2L qp uu x2M),x0i⟩)
  (x7v:codeIn K uu "_law_drawn"=true)
  (x4e:keepIn K (.ref uT)=true)
  (x7w:nsIn K mainGlobals "_law_row"=some (some (.ref uU)))
  (x7x:K.lookup uU=some ⟨x2N,qq,.func (fnOf "_law_row" "_law_row" (zw zdA) (zt zdA) (ze zdA) .none x2O x2P x2Q qr uv x2R),x0j⟩)
  (x7y:codeIn K uv "_law_row"=true)
  (x4f:keepIn K (.ref uU)=true)
  (x7z:nsIn K mainGlobals "_law_turn"=some (some (.ref uV)))
  (x7A:K.lookup uV=some ⟨x2S,qt,.func (fnOf "_law_turn" "_law_turn" (zw zcE) (zt zcE) (ze zcE) .none x2T x2U x2V qu uw x2W),x0k⟩)
  (x7B:codeIn K uw "_law_turn"=true)
  (x4g:keepIn K (.ref uV)=true)
  (x7C:nsIn K mainGlobals "_law_numbers"=some (some (.ref uW)))
  (x7D:K.lookup uW=some ⟨x2X,qv,.func (fnOf "_law_numbers" "_law_numbers" (zw zdh) (zt zdh) (ze zdh) .none x2Y x2Z x30 qw ux x31),x0l⟩)
  (x7E:codeIn K ux "_law_numbers"=true)
  (x4h:keepIn K (.ref uW)=true)
  (x7F:nsIn K mainGlobals "_law_torn"=some (some (.ref uX)))
  (x7G:K.lookup uX=some ⟨x32,qx,.func (fnOf "_law_torn" "_law_torn" (zw zcT) (zt zcT) (ze zcT) .none x33 x34 x35 qy uy x36),x0m⟩)
  (x7H:codeIn K uy "_law_torn"=true)
  (x4i:keepIn K (.ref uX)=true)
  (x7I:nsIn K mainGlobals "_law_disk"=some (some (.ref uY)))
  (x7J:K.lookup uY=some ⟨x37,qz,.func (fnOf "_law_disk" "_law_disk" (zw zc2) (zt zc2) (ze zc2) .none x38 x39 x3a qA uz x3b),x0n⟩)
  (x7K:codeIn K uz "_law_disk"=true)
  (x4j:keepIn K (.ref uY)=true)
  (x7L:nsIn K mainGlobals "_law_rows"=some (some (.ref uZ)))
  (x7M:K.lookup uZ=some ⟨x3c,qB,.func (fnOf "_law_rows" "_law_rows" (zw zcl) (zt zcl) (ze zcl) .none x3d x3e x3f qC (.ref xu) x3g),x0o⟩)
  (x7N:codeIn K (.ref xu) "_law_rows"=true)
  (x8d:tabIn K "_law_rows"=some (xu,x9))
  (uN:codeHdIn K xu x9=true)
  (x4k:K.lookup x9=none)
  (x4l:keepIn K (.ref uZ)=true)
  (x7O:nsIn K mainGlobals "_law_births"=some (some (.ref v0)))
  (x7P:K.lookup v0=some ⟨x3h,qD,.func (fnOf "_law_births" "_law_births" (zw zdN) (zt zdN) (ze zdN) .none x3i x3j x3k qE uA x3l),x0p⟩)
  (x7Q:codeIn K uA "_law_births"=true)
  (x4m:keepIn K (.ref v0)=true)
  (x7R:nsIn K mainGlobals "_law_files"=some (some (.ref v3)))
  (x7S:K.lookup v3=some ⟨x3m,qF,.func (fnOf "_law_files" "_law_files" (zw zdH) (zt zdH) (ze zdH) .none x3n x3o x3p qG uC x3q),x0q⟩)
  (x7T:codeIn K uC "_law_files"=true)
  (x4n:keepIn K (.ref v3)=true)
  (x7U:nsIn K mainGlobals "_law_next"=some (some (.ref v4)))
  (x7V:K.lookup v4=some ⟨x3r,qH,.func (fnOf "_law_next" "_law_next" (zw zcA) (zt zcA) (ze zcA) .none x3s x3t x3u qI uD x3v),x0r⟩)
  (x7W:codeIn K uD "_law_next"=true)
  (x4o:keepIn K (.ref v4)=true)
  (x7X:nsIn K mainGlobals "_law_state"=some (some (.ref v5)))
  (x7Y:K.lookup v5=some ⟨x3w,qJ,.func (fnOf "_law_state" "_law_state" (zw zcQ) (zt zcQ) (ze zcQ) .none x3x x3y x3z qK uE x3A),x0s⟩)
  (x7Z:codeIn K uE "_law_state"=true)
  (x4p:keepIn K (.ref v5)=true)
  (x80:nsIn K mainGlobals "_law_alive"=some (some (.ref v6)))
  (x81:K.lookup v6=some ⟨x3B,qM,.func (fnOf "_law_alive" "_law_alive" (zw zcv) (zt zcv) (ze zcv) .none x3C x3D x3E qN uF x3F),x0t⟩)
  (x82:codeIn K uF "_law_alive"=true)
  (x4q:keepIn K (.ref v6)=true)
  (x83:nsIn K mainGlobals "_law_right"=some (some (.ref v7)))
  (x84:K.lookup v7=some ⟨x3G,qO,.func (fnOf "_law_right" "_law_right" (zw zdG) (zt zdG) (ze zdG) .none x3H x3I x3J qP uG x3K),x0u⟩)
  (x85:codeIn K uG "_law_right"=true)
  (x4r:keepIn K (.ref v7)=true)
  (x86:nsIn K mainGlobals "_law_halted"=some (some (.ref v8)))
  (x87:K.lookup v8=some ⟨x3L,qQ,.func (fnOf "_law_halted" "_law_halted" (zw zdq) (zt zdq) (ze zdq) .none x3M x3N x3O qR uH x3P),x0v⟩)
  (x88:codeIn K uH "_law_halted"=true)
  (x4s:keepIn K (.ref v8)=true)
  (x89:nsIn K mainGlobals "law"=some (some (.ref v9)))
  (x8a:K.lookup v9=some ⟨x3Q,qS,.func (fnOf "law" "law" (zw zbO) (zt zbO) (ze zbO) .none uI uJ uL yV xX uM),x0w⟩)
  (x8b:codeIn K xX "law"=true)
  (x8c:keepIn K (.ref v9)=true)
  (x4t:nsIn K mainGlobals "abs"=some none)
  (vb:nsIn K mainGlobals "bool"=some none)
  (vc:nsIn K mainGlobals "dict"=some none)
  (y8:nsIn K mainGlobals "divmod"=some none)
  (xB:nsIn K mainGlobals "enumerate"=some none)
  (x4u:nsIn K mainGlobals "int"=some none)
  (xw:nsIn K mainGlobals "isinstance"=some none)
  (x4v:nsIn K mainGlobals "len"=some none)
  (vd:nsIn K mainGlobals "list"=some none)
  (x4w:nsIn K mainGlobals "max"=some none)
  (x4x:nsIn K mainGlobals "min"=some none)
  (x4y:nsIn K mainGlobals "ord"=some none)
  (yM:nsIn K mainGlobals "range"=some none)
  (ve:nsIn K mainGlobals "repr"=some none)
  (y9:nsIn K mainGlobals "sorted"=some none)
  (x4z:nsIn K mainGlobals "str"=some none)
  (xQ:nsIn K mainGlobals "MODULUS"=some (some (.int 65521 xM)))
  (xh:nsIn K mainGlobals "LEAST_STRETCHES"=some (some (.int 3 xg)))
  (xj:nsIn K mainGlobals "MOST_STRETCHES"=some (some (.int 16 xi)))
  (xm:nsIn K mainGlobals "LEAST_PLACES"=some (some (.int 2 xl)))
  (xq:nsIn K mainGlobals "MOST_PLACES"=some (some (.int 32 xo)))
  (xR:excIn K xk [.type "ValueError",.type "Exception",.type "BaseException",.type "object"] "ValueError.__new__"=true)
  (yN:excIn K xE [.type "ValueError",.type "Exception",.type "BaseException",.type "object"] "ValueError.__new__"=true)
  (xF:excIn K xb [.type "ValueError",.type "Exception",.type "BaseException",.type "object"] "ValueError.__new__"=true)
  (xG:mroIn K xb (.ref xb)=some true)
  (yO:plainGet K x3 Str.empty=true)
  (yb:hasDictIn K x3=true)
  (yP:plainOver K x3=true)
  (yQ:findIn K (.ref x3) "__setattr__"=some (some (.builtin "object.__setattr__")))
  (yR:makesIn K x3=true)
  (yS:keepIn K (.ref x3)=true)
  (xC:findIn K (.ref x3) "at_sides"=some none)
  (xH:findIn K (.ref x3) "counted"=some none)
  (xn:findIn K (.ref x3) "has_stopped"=some none)
  (yT:findIn K (.ref x3) "left"=some none)
  (yc:findIn K (.ref x3) "width"=some none)
  (xI:findIn K (.ref x3) "written"=some none)
  (yd:plainGet K x5 Str.empty=true)
  (xT:hasDictIn K x5=true)
  (ye:plainOver K x5=true)
  (yf:findIn K (.ref x5) "__setattr__"=some (some (.builtin "object.__setattr__")))
  (yg:makesIn K x5=true)
  (yh:keepIn K (.ref x5)=true)
  (xU:findIn K (.ref x5) "births"=some none)
  (yU:findIn K (.ref x5) "kept"=some none)
  (yi:plainGet K x8 Str.empty=true)
  (xV:hasDictIn K x8=true)
  (yj:plainOver K x8=true)
  (yk:findIn K (.ref x8) "__setattr__"=some (some (.builtin "object.__setattr__")))
  (yl:makesIn K x8=true)
  (ym:keepIn K (.ref x8)=true)
  (xx:findIn K (.ref x8) "next_mark"=some none)
  (xD:findIn K (.ref x8) "next_row"=some none)
  (xz:findIn K (.ref x8) "own_files"=some none)
  (xJ:findIn K (.ref x8) "spot_of"=some none) :
  ∃fd:FuncData,(∀(s:Shared)(v:Value),BindsTo s fd ⟨[v],[]⟩ [("_law_script",v)])/\(∀T,T∈[x9]->K.lookup T=none/\∃c,codeHdIn K c T=true)/\∀base:Heap,K.In base->base.Ns mainGlobals mg->zcR mg base->zo l.prog w K mg base CX0 true 9 fa fd ["_law_script"] (zfk x9 K):=by
 have e:=hfa.symm.trans (mg_of X G x89)
 cases e
 have T:Txt K mg ⟨xf,xk,xE,xb,xA,xr,xc,xt,x3,x5,x8,x9⟩:=⟨mg_none_of X G x4t,mg_none_of X G vb,mg_none_of X G vc,mg_none_of X G y8,mg_none_of X G xB,mg_none_of X G x4u,mg_none_of X G xw,mg_none_of X G x4v,mg_none_of X G vd,mg_none_of X G x4w,mg_none_of X G x4x,mg_none_of X G x4y,mg_none_of X G yM,mg_none_of X G ve,mg_none_of X G y9,mg_none_of X G x4z,⟨_,mg_of X G xQ,⟨_,rfl⟩⟩,⟨_,mg_of X G xh,⟨_,rfl⟩⟩,⟨_,mg_of X G xj,⟨_,rfl⟩⟩,⟨_,mg_of X G xm,⟨_,rfl⟩⟩,⟨_,mg_of X G xq,⟨_,rfl⟩⟩,mg_of X G xv,mg_of X G xY,mg_of X G va,mg_of X G xN,mg_of X G xZ,mg_of X G xO,mg_of X G xp,mg_of X G xP,mg_of X G y7,mg_of X G xK,mg_of X G xL,xR,yN,xF,xG,⟨yO,yb,yP,yQ⟩,xC,xH,xn,yT,yc,xI,⟨yd,xT,ye,yf⟩,xU,yU,⟨yi,xV,yj,yk⟩,xx,xD,xz,xJ⟩
 have Fis_whole:=zC (st:=zd7) l_0 d_0 k_0
 have bis_whole:=Fis_whole.binds (ps:=["value"]) fun|_,_,_,_,_,_,[_],_=>rfl
 have Fis_within:=zC (st:=zdo) l_1 d_1 k_1
 have bis_within:=Fis_within.binds (ps:=["value","least","most"]) fun|_,_,_,_,_,_,[_,_,_],_=>rfl
 have Fsum_of:=zC (st:=zdQ) l_2 d_2 k_2
 have bsum_of:=Fsum_of.binds (ps:=["text"]) fun|_,_,_,_,_,_,[_],_=>rfl
 have Fsummed:=zC (st:=zdL) l_3 d_3 k_3
 have bsummed:=Fsummed.binds (ps:=["body"]) fun|_,_,_,_,_,_,[_],_=>rfl
 have Frow_text:=zC (st:=zcN) l_4 d_4 k_4
 have brow_text:=Frow_text.binds (ps:=["row"]) fun|_,_,_,_,_,_,[_],_=>rfl
 have Fpart_text:=zC (st:=zdO) l_5 d_5 k_5
 have bpart_text:=Fpart_text.binds (ps:=["part"]) fun|_,_,_,_,_,_,[_],_=>rfl
 have Fliving_in:=zC (st:=zcr) l_6 d_6 k_6
 have bliving_in:=Fliving_in.binds (ps:=["state","stretch"]) fun|_,_,_,_,_,_,[_,_],_=>rfl
 have Fwaste:=zC (st:=zdD) l_7 d_7 k_7
 have bwaste:=Fwaste.binds (ps:=["disk","state","stretch"]) fun|_,_,_,_,_,_,[_,_,_],_=>rfl
 have FDisk___init__:=zC (st:=zb8) l_8 d_8 k_8
 have bDisk___init__:=FDisk___init__.binds (ps:=["self","stretches","places"]) fun|_,_,_,_,_,_,[_,_,_],_=>rfl
 have FDisk_stretches:=zC (st:=zdV) l_9 d_9 k_9
 have bDisk_stretches:=FDisk_stretches.binds (ps:=["self"]) fun|_,_,_,_,_,_,[_],_=>rfl
 have FDisk_places:=zC (st:=zec) x5U x5V x3R
 have bDisk_places:=FDisk_places.binds (ps:=["self"]) fun|_,_,_,_,_,_,[_],_=>rfl
 have FDisk_next_place:=zC (st:=zdB) x5Y x5Z x3S
 have bDisk_next_place:=FDisk_next_place.binds (ps:=["self","stretch"]) fun|_,_,_,_,_,_,[_,_],_=>rfl
 have FDisk_write:=zC (st:=zcy) x62 x63 x3T
 have bDisk_write:=FDisk_write.binds (ps:=["self","stretch","text"]) fun|_,_,_,_,_,_,[_,_,_],_=>rfl
 have FDisk_put_side:=zC (st:=zc7) x66 x67 x3U
 have bDisk_put_side:=FDisk_put_side.binds (ps:=["self","k","text"]) fun|_,_,_,_,_,_,[_,_,_],_=>rfl
 have FDisk_empty:=zC (st:=zc3) x6a x6b x3V
 have bDisk_empty:=FDisk_empty.binds (ps:=["self","stretch"]) fun|_,_,_,_,_,_,[_,_],_=>rfl
 have FDisk_stop:=zC (st:=zdk) x6e x6f x3W
 have bDisk_stop:=FDisk_stop.binds (ps:=["self","many"]) fun|_,_,_,_,_,_,[_,_],_=>rfl
 have FDisk_copied:=zC (st:=zcn) x6i x6j x3X
 have bDisk_copied:=FDisk_copied.binds (ps:=["self"]) fun|_,_,_,_,_,_,[_],_=>rfl
 have FDisk_refuse_if_stopped:=zC (st:=zcH) x6m x6n x3Y
 have bDisk_refuse_if_stopped:=FDisk_refuse_if_stopped.binds (ps:=["self"]) fun|_,_,_,_,_,_,[_],_=>rfl
 have FDisk_spend:=zC (st:=zdi) x6q x6r x3Z
 have bDisk_spend:=FDisk_spend.binds (ps:=["self","many"]) fun|_,_,_,_,_,_,[_,_],_=>rfl
 have FDisk_first_signs:=zC (st:=zcY) x6u x6v x40
 have bDisk_first_signs:=FDisk_first_signs.binds (ps:=["self","text"]) fun|_,_,_,_,_,_,[_,_],_=>rfl
 have FFiles___init__:=zC (st:=zeb) x6y x6z x6A
 have bFiles___init__:=FFiles___init__.binds (ps:=["self"]) fun|_,_,_,_,_,_,[_],_=>rfl
 have FFiles_names:=zC (st:=zdR) x6D x6E x41
 have bFiles_names:=FFiles_names.binds (ps:=["self"]) fun|_,_,_,_,_,_,[_],_=>rfl
 have FFiles_many:=zC (st:=zd2) x6H x6I x42
 have bFiles_many:=FFiles_many.binds (ps:=["self","file"]) fun|_,_,_,_,_,_,[_,_],_=>rfl
 have FFiles_put:=zC (st:=zd0) x6L x6M x43
 have bFiles_put:=FFiles_put.binds (ps:=["self","file","place","birth"]) fun|_,_,_,_,_,_,[_,_,_,_],_=>rfl
 have FFiles_cut:=zC (st:=zdY) x6P x6Q x44
 have bFiles_cut:=FFiles_cut.binds (ps:=["self","file","many"]) fun|_,_,_,_,_,_,[_,_,_],_=>rfl
 have FFiles_hold:=zC (st:=zd6) x6T x6U x45
 have bFiles_hold:=FFiles_hold.binds (ps:=["self","name"]) fun|_,_,_,_,_,_,[_,_],_=>rfl
 have FFiles_copied:=zC (st:=zdZ) x6X x6Y x46
 have bFiles_copied:=FFiles_copied.binds (ps:=["self"]) fun|_,_,_,_,_,_,[_],_=>rfl
 have FFiles_bare:=zC (st:=zd1) x71 x72 x47
 have bFiles_bare:=FFiles_bare.binds (ps:=["self"]) fun|_,_,_,_,_,_,[_],_=>rfl
 have FFiles_keep:=zC (st:=zdv) x75 x76 x48
 have bFiles_keep:=FFiles_keep.binds (ps:=["self","name","files"]) fun|_,_,_,_,_,_,[_,_,_],_=>rfl
 have FFiles_refuse_if_none:=zC (st:=zdW) x79 x7a x49
 have bFiles_refuse_if_none:=FFiles_refuse_if_none.binds (ps:=["self","file"]) fun|_,_,_,_,_,_,[_,_],_=>rfl
 have FState___init__:=zC (st:=zc5) x7d x7e x7f
 have bState___init__:=FState___init__.binds (ps:=["self","files","spots","next_number","mark_number"]) fun|_,_,_,_,_,_,[_,_,_,_,_],_=>rfl
 have FState_spots:=zC (st:=zcG) x7i x7j x4a
 have bState_spots:=FState_spots.binds (ps:=["self"]) fun|_,_,_,_,_,_,[_],_=>rfl
 have F_law_cell:=zC (st:=zdX) x7l x7m x4b
 have b_law_cell:=F_law_cell.binds (ps:=["_law_script","_law_k"]) fun|_,_,_,_,_,_,[_,_],_=>rfl
 have F_law_pot:=zC (st:=zee) x7o x7p x4c
 have b_law_pot:=F_law_pot.binds (ps:=["_law_script","_law_k"]) fun|_,_,_,_,_,_,[_,_],_=>rfl
 have F_law_draw:=zC (st:=zdS) x7r x7s x4d
 have b_law_draw:=F_law_draw.binds (ps:=["_law_pot_here","_law_many"]) fun|_,_,_,_,_,_,[_,_],_=>rfl
 have F_law_drawn:=zC (st:=zdr) x7u x7v x4e
 have b_law_drawn:=F_law_drawn.binds (ps:=["_law_pot_here","_law_some"]) fun|_,_,_,_,_,_,[_,_],_=>rfl
 have F_law_row:=zC (st:=zdA) x7x x7y x4f
 have b_law_row:=F_law_row.binds (ps:=["_law_pot_here","_law_number","_law_is_hot"]) fun|_,_,_,_,_,_,[_,_,_],_=>rfl
 have F_law_turn:=zC (st:=zcE) x7A x7B x4g
 have b_law_turn:=F_law_turn.binds (ps:=["_law_pot_here","_law_disk_here","_law_shelf","_law_numbers_here"]) fun|_,_,_,_,_,_,[_,_,_,_],_=>rfl
 have F_law_numbers:=zC (st:=zdh) x7D x7E x4h
 have b_law_numbers:=F_law_numbers.binds (ps:=["_law_pot_here","_law_many"]) fun|_,_,_,_,_,_,[_,_],_=>rfl
 have F_law_torn:=zC (st:=zcT) x7G x7H x4i
 have b_law_torn:=F_law_torn.binds (ps:=["_law_pot_here","_law_disk_here","_law_shelf"]) fun|_,_,_,_,_,_,[_,_,_],_=>rfl
 have F_law_disk:=zC (st:=zc2) x7J x7K x4j
 have b_law_disk:=F_law_disk.binds (ps:=["_law_pot_here"]) fun|_,_,_,_,_,_,[_],_=>rfl
 have F_law_rows:=zC (st:=zcl) x7M x7N x4l
 have b_law_rows:=F_law_rows.binds (ps:=["_law_shelf"]) fun|_,_,_,_,_,_,[_],_=>rfl
 have F_law_births:=zC (st:=zdN) x7P x7Q x4m
 have b_law_births:=F_law_births.binds (ps:=["_law_pot_here","_law_shelf"]) fun|_,_,_,_,_,_,[_,_],_=>rfl
 have F_law_files:=zC (st:=zdH) x7S x7T x4n
 have b_law_files:=F_law_files.binds (ps:=["_law_pot_here","_law_births_here"]) fun|_,_,_,_,_,_,[_,_],_=>rfl
 have F_law_next:=zC (st:=zcA) x7V x7W x4o
 have b_law_next:=F_law_next.binds (ps:=["_law_pot_here","_law_shelf"]) fun|_,_,_,_,_,_,[_,_],_=>rfl
 have F_law_state:=zC (st:=zcQ) x7Y x7Z x4p
 have b_law_state:=F_law_state.binds (ps:=["_law_pot_here","_law_shelf"]) fun|_,_,_,_,_,_,[_,_],_=>rfl
 have F_law_alive:=zC (st:=zcv) x81 x82 x4q
 have b_law_alive:=F_law_alive.binds (ps:=["_law_spots","_law_stretch"]) fun|_,_,_,_,_,_,[_,_],_=>rfl
 have F_law_right:=zC (st:=zdG) x84 x85 x4r
 have b_law_right:=F_law_right.binds (ps:=["_law_disk_here","_law_shelf","_law_state_here","_law_spots"]) fun|_,_,_,_,_,_,[_,_,_,_],_=>rfl
 have F_law_halted:=zC (st:=zdq) x87 x88 x4s
 have b_law_halted:=F_law_halted.binds (ps:=["_law_disk_here"]) fun|_,_,_,_,_,_,[_],_=>rfl
 have Flaw:=zC (st:=zbO) x8a x8b x8c
 have blaw:=Flaw.binds (ps:=["_law_script"]) fun|_,_,_,_,_,_,[_],_=>rfl
 refine ⟨fnOf "law" "law" (zw zbO) (zt zbO) (ze zbO) .none uI uJ uL yV xX uM,λs v=>.of_eq rfl,λT hT=>?_,λbase KB _ hbt=>?_⟩
 ·simp only [mem_cons,not_mem_nil,or_false] at hT
  rcases hT with rfl
  ·exact ⟨x4k,_,uN⟩
 have LB__law_rows:zew mg base (.ref xu) x9:=⟨⟨xu,rfl,codeHd_of_K KB uN⟩,hbt⟩
 have Go:GF l.prog w K mg base true 1 "is_whole" ["value"] (zii):=⟨_,_,zyN Fis_whole T,mg_of X G a_0,k_0,bis_whole⟩
 have Gd:GF l.prog w K mg base true 2 "is_within" ["value","least","most"] (zeo):=⟨_,_,zq0 Fis_within T Go,mg_of X G a_1,k_1,bis_within⟩
 have Ge:GCX l.prog w K mg base true 3 "Disk" x3 ["self","stretches","places"] (zfw _):=⟨_,_,zrx FDisk___init__ T Gd,mg_of X G y7,⟨yR,a_8,i_8,yS⟩,bDisk___init__⟩
 have M_Disk_stretches:GM l.prog w K mg base true 1 x3 "stretches" ["self"] (zcF _ λ_ d=>.int d.rows.length):=⟨_,_,zsa FDisk_stretches T,⟨a_9,i_9,k_9⟩,bDisk_stretches⟩
 have M_Disk_places:GM l.prog w K mg base true 1 x3 "places" ["self"] (zcF _ λm _=>.int m):=⟨_,_,zuV FDisk_places T,⟨x5S,x5T,x3R⟩,bDisk_places⟩
 have M_Disk_next_place:GM l.prog w K mg base true 1 x3 "next_place" ["self","stretch"] (zgI _):=⟨_,_,ztx FDisk_next_place T,⟨x5W,x5X,x3S⟩,bDisk_next_place⟩
 have M_Disk_refuse_if_stopped:GMX l.prog w K mg base true 1 x3 "refuse_if_stopped" ["self"] (zdw _):=⟨_,_,zx9 FDisk_refuse_if_stopped T,⟨x6k,x6l,x3Y⟩,bDisk_refuse_if_stopped⟩
 have M_Disk_spend:GM l.prog w K mg base true 1 x3 "spend" ["self","many"] (zfv _):=⟨_,_,zmJ FDisk_spend T,⟨x6o,x6p,x3Z⟩,bDisk_spend⟩
 have M_Disk_first_signs:GMX l.prog w K mg base true 2 x3 "first_signs" ["self","text"] (zfO _):=⟨_,_,zyC FDisk_first_signs T M_Disk_spend M_Disk_refuse_if_stopped,⟨x6s,x6t,x40⟩,bDisk_first_signs⟩
 have M_Disk_write:GMX l.prog w K mg base true 3 x3 "write" ["self","stretch","text"] (zfC _):=⟨_,_,zny FDisk_write T M_Disk_first_signs M_Disk_refuse_if_stopped,⟨x60,x61,x3T⟩,bDisk_write⟩
 have M_Disk_put_side:GMX l.prog w K mg base true 3 x3 "put_side" ["self","k","text"] (zhA _):=⟨_,_,zuB FDisk_put_side T M_Disk_first_signs M_Disk_refuse_if_stopped,⟨x64,x65,x3U⟩,bDisk_put_side⟩
 have M_Disk_empty:GMX l.prog w K mg base true 2 x3 "empty" ["self","stretch"] (zfQ _):=⟨_,_,zqr FDisk_empty T M_Disk_spend M_Disk_refuse_if_stopped,⟨x68,x69,x3V⟩,bDisk_empty⟩
 have M_Disk_stop:GM l.prog w K mg base true 1 x3 "stop" ["self","many"] (zfz _):=⟨_,_,zo8 FDisk_stop T,⟨x6c,x6d,x3W⟩,bDisk_stop⟩
 have M_Disk_copied:GM l.prog w K mg base true 5 x3 "copied" ["self"] (ziD _):=⟨_,_,ztZ FDisk_copied T M_Disk_stretches Ge,⟨x6g,x6h,x3X⟩,bDisk_copied⟩
 have Gk:GF l.prog w K mg base true 1 "sum_of" ["text"] (zhe):=⟨_,_,zqX Fsum_of T,mg_of X G a_2,k_2,bsum_of⟩
 have Gm:GF l.prog w K mg base true 2 "summed" ["body"] (zfE):=⟨_,_,zpV Fsummed T Gk,mg_of X G a_3,k_3,bsummed⟩
 have Gn:GF l.prog w K mg base true 1 "part_text" ["part"] (ze2):=⟨_,_,zqc Fpart_text T,mg_of X G a_5,k_5,bpart_text⟩
 have Gr:GF l.prog w K mg base true 3 "row_text" ["row"] (zhV):=⟨_,_,zxS Frow_text T Gm Gn,mg_of X G a_4,k_4,brow_text⟩
 have Gf:GC l.prog w K mg base true 1 "Files" x5 ["self"] (zfZ _):=⟨_,_,zym FFiles___init__ T,mg_of X G xK,⟨yg,x6w,x6x,yh⟩,bFiles___init__⟩
 have M_Files_names:GM l.prog w K mg base true 1 x5 "names" ["self"] (zhR _):=⟨_,_,zyL FFiles_names T,⟨x6B,x6C,x41⟩,bFiles_names⟩
 have M_Files_many:GM l.prog w K mg base true 1 x5 "many" ["self","file"] (zeF _):=⟨_,_,zvu FFiles_many T,⟨x6F,x6G,x42⟩,bFiles_many⟩
 have M_Files_refuse_if_none:GM l.prog w K mg base true 1 x5 "refuse_if_none" ["self","file"] (zij _):=⟨_,_,zrM FFiles_refuse_if_none T,⟨x77,x78,x49⟩,bFiles_refuse_if_none⟩
 have M_Files_put:GM l.prog w K mg base true 4 x5 "put" ["self","file","place","birth"] (zhX _):=⟨_,_,zoy FFiles_put T M_Files_many Gd,⟨x6J,x6K,x43⟩,bFiles_put⟩
 have M_Files_cut:GM l.prog w K mg base true 4 x5 "cut" ["self","file","many"] (zhC _):=⟨_,_,zx7 FFiles_cut T M_Files_refuse_if_none M_Files_many Gd,⟨x6N,x6O,x44⟩,bFiles_cut⟩
 have M_Files_bare:GM l.prog w K mg base true 3 x5 "bare" ["self"] (zfB _):=⟨_,_,zpK FFiles_bare T Gf,⟨x6Z,x70,x47⟩,bFiles_bare⟩
 have M_Files_keep:GM l.prog w K mg base true 4 x5 "keep" ["self","name","files"] (ziw _):=⟨_,_,zxO FFiles_keep T M_Files_bare,⟨x73,x74,x48⟩,bFiles_keep⟩
 have M_Files_hold:GM l.prog w K mg base true 5 x5 "hold" ["self","name"] (zgn _):=⟨_,_,zwa FFiles_hold T M_Files_keep,⟨x6R,x6S,x45⟩,bFiles_hold⟩
 have M_Files_copied:GM l.prog w K mg base true 4 x5 "copied" ["self"] (zhp _):=⟨_,_,znh FFiles_copied T M_Files_bare,⟨x6V,x6W,x46⟩,bFiles_copied⟩
 have Gy:GC l.prog w K mg base true 5 "State" x8 ["self","files","spots","next_number","mark_number"] (zgL _):=⟨_,_,zsw FState___init__ T M_Files_copied,mg_of X G xL,⟨yl,x7b,x7c,ym⟩,bState___init__⟩
 have M_State_spots:GM l.prog w K mg base true 1 x8 "spots" ["self"] (zir _):=⟨_,_,zqb FState_spots T,⟨x7g,x7h,x4a⟩,bState_spots⟩
 have Gg:GF l.prog w K mg base true 2 "living_in" ["state","stretch"] (zfh _):=⟨_,_,zvN Fliving_in T M_State_spots,mg_of X G a_6,k_6,bliving_in⟩
 have GA:GF l.prog w K mg base true 3 "waste" ["disk","state","stretch"] (zg3 _):=⟨_,_,zuQ Fwaste T M_Disk_next_place Gg,mg_of X G a_7,k_7,bwaste⟩
 have Gp:GF l.prog w K mg base true 1 "_law_cell" ["_law_script","_law_k"] (zgg K):=⟨_,_,zws F_law_cell T,mg_of X G x7k,x4b,b_law_cell⟩
 have GB:GF l.prog w K mg base true 2 "_law_pot" ["_law_script","_law_k"] (zic K):=⟨_,_,zyp F_law_pot T Gp,mg_of X G x7n,x4c,b_law_pot⟩
 have Gb:GF l.prog w K mg base true 1 "_law_draw" ["_law_pot_here","_law_many"] (zbi):=⟨_,_,zp3 F_law_draw T,mg_of X G x7q,x4d,b_law_draw⟩
 have Gc:GF l.prog w K mg base true 2 "_law_drawn" ["_law_pot_here","_law_some"] (zdx):=⟨_,_,zm0 F_law_drawn T Gb,mg_of X G x7t,x4e,b_law_drawn⟩
 have Gq:GF l.prog w K mg base true 3 "_law_row" ["_law_pot_here","_law_number","_law_is_hot"] (zhx):=⟨_,_,zwg F_law_row T Gb Gc,mg_of X G x7w,x4f,b_law_row⟩
 have Gj:GF l.prog w K mg base true 4 "_law_turn" ["_law_pot_here","_law_disk_here","_law_shelf","_law_numbers_here"] (zhG _):=⟨_,_,zvj F_law_turn T Gb M_Disk_empty M_Disk_places Gq Gr M_Disk_write,mg_of X G x7z,x4g,b_law_turn⟩
 have Gs:GF l.prog w K mg base true 2 "_law_numbers" ["_law_pot_here","_law_many"] (ziv):=⟨_,_,ztn F_law_numbers T Gb,mg_of X G x7C,x4h,b_law_numbers⟩
 have Gu:GF l.prog w K mg base true 6 "_law_torn" ["_law_pot_here","_law_disk_here","_law_shelf"] (zhf _):=⟨_,_,zst F_law_torn T Gb Gc M_Disk_stop M_Disk_empty M_Disk_copied,mg_of X G x7F,x4i,b_law_torn⟩
 have GE:GF l.prog w K mg base true 7 "_law_disk" ["_law_pot_here"] (zgr _):=⟨_,_,zwq F_law_disk T Gc Ge M_Disk_stretches Gs Gb Gj Gu,mg_of X G x7I,x4j,b_law_disk⟩
 have Gh:GF l.prog w K mg base true 1 "_law_rows" ["_law_shelf"] (zfr _):=⟨_,_,zoT F_law_rows rfl LB__law_rows T,mg_of X G x7L,x4l,b_law_rows⟩
 have Gv:GF l.prog w K mg base true 2 "_law_births" ["_law_pot_here","_law_shelf"] (zhl _):=⟨_,_,zw8 F_law_births T Gb Gh,mg_of X G x7O,x4m,b_law_births⟩
 have Gw:GF l.prog w K mg base true 6 "_law_files" ["_law_pot_here","_law_births_here"] (ziG _):=⟨_,_,zvP F_law_files T Gf Gc Gb M_Files_many M_Files_put M_Files_hold M_Files_names M_Files_cut,mg_of X G x7R,x4n,b_law_files⟩
 have Gx:GF l.prog w K mg base true 2 "_law_next" ["_law_pot_here","_law_shelf"] (zhN _):=⟨_,_,zs7 F_law_next T Gb Gh,mg_of X G x7U,x4o,b_law_next⟩
 have GG:GF l.prog w K mg base true 7 "_law_state" ["_law_pot_here","_law_shelf"] (ziB _):=⟨_,_,zmC F_law_state T Gb Gv Gw Gx Gy,mg_of X G x7X,x4p,b_law_state⟩
 have Gz:GF l.prog w K mg base true 1 "_law_alive" ["_law_spots","_law_stretch"] (zhO):=⟨_,_,zwR F_law_alive T,mg_of X G x80,x4q,b_law_alive⟩
 have Gi:GF l.prog w K mg base true 4 "_law_right" ["_law_disk_here","_law_shelf","_law_state_here","_law_spots"] (zh9 _):=⟨_,_,zmM F_law_right T Gz Gg GA,mg_of X G x83,x4r,b_law_right⟩
 have GH:GF l.prog w K mg base true 4 "_law_halted" ["_law_disk_here"] (zhK _):=⟨_,_,znp F_law_halted T M_Disk_stop M_Disk_put_side,mg_of X G x86,x4s,b_law_halted⟩
 exact zuM Flaw T GB GE GG Gi GH
theorem walk{l:OpenLaw}{q:Program}{loose:List Str}{XP:(Str->Option Value)->Heap->Prop}{YP:World->Heap->Prop}{d:DefRec}{K:Params->Frag}(x9:Addr){ts:List Addr}(hn:l.most=some 63)(hdf:d.params.defaults=[])
  (hY:∀(w:World)(h:Heap),YP w h->(K w.params).In h/\∀T∈ts,h.get? T=some (tabObj #[])) (hts:∀T,T∈ts->T∈[x9]) (hts2:∀T,T∈[x9]->T∈ts) (hnd:([x9]:List Addr).Nodup)
  (F:∀(w:World)(mg:Str->Option Value)(fa:Addr)(h:Heap),(K w.params).In h->h.Ns mainGlobals mg->mg d.name=some (.ref fa) ->
   ∃fd:FuncData,(∀(s:Shared)(u:Value),BindsTo s fd ⟨[u],[]⟩ [("_law_script",u)])/\(∀T,T∈[x9]->(K w.params).lookup T=none/\∃c,codeHdIn (K w.params) c T=true)/\∀base:Heap,(K w.params).In base->base.Ns mainGlobals mg->zcR mg base->zo l.prog w (K w.params) mg base CX0 true 9 fa fd ["_law_script"] (zfk x9 (K w.params))) :
  WalkO q loose XP YP l.row.toRowW d [] (λf vs=>PySem.call f vs) :=
 L2.walk_ofT (n:=63) (k:=9) (x:="_law_script") (CX:=λ_=>CX0) (sp:=λw=>zfk x9 (K w.params)) (ts:=ts) hn (by decide) hdf ⟨λ_=>rfl,by decide,by decide,rfl⟩ hY (λw mg fa h a b c=>let ⟨fd,g1,g2,g3⟩:=F w mg fa h a b c;⟨fd,g1,λT hT=>g2 T (hts T hT),g3⟩) (λ_ H a ns hl hT hS=>⟨a,ns,rfl,hS,hl,hT _ (hts2 _ (by simp)),λ_=>rfl⟩) λ_ _ _ _ _ z=>z
end K51
namespace PySem.W.Fast
def tw12990097015268174311:=0
def tw5739574453517988906:=0
def tw11896384003476296059:=0
def tw6062113619404095394:=0
def tw7347839239151682329:=0
def tw16738123724777440541:=0
def tw2141001561548573359:=0
def tw10876174136324321829:=0
def tw10394512295598785247:=0
def tw1901602752878131320:=0
def tw9936373287030421984:=0
def tw6385340583003037849:=0
def tw3019530510248596386:=0
def tw5553701518187043435:=0
def tw12838809658628358848:=0
def tw15701663888071102549:=0
def tw11952489320078309700:=0
def tw1264728737964767971:=0
def tw14422276937652000099:=0
def tw12364353117853081:=0
def tw13037882294109967615:=0
def tw6353079893640476102:=0
def tw11031979192541145018:=0
def tw3883439121372510216:=0
def tw16405738309590500500:=0
def tw4437769123085090335:=0
def tw395670699659622349:=0
def tw4188150808224265824:=0
def tw6465014305036984434:=0
def tw3740271435174089451:=0
def tw7467027707839640523:=0
def tw4237740533431326265:=0
def tw8546640652970948991:=0
def tw4383723506665992858:=0
def tw2747263120463927784:=0
def tw9367340573544748341:=0
def tw15742342401516646335:=0
def tw8449142618601592910:=0
def tw6761915459195499584:=0
def tw2477219284296822310:=0
def tw5162263126635239308:=0
def tw14247712694413487293:=0
def tw3110119081268757804:=0
def tw1282212993036436057:=0
def tw7258964366978599782:=0
def tw16337095020395607446:=0
def tw6946633144134388589:=0
def tw3337810745258158119:=0
def tw11046992831551208253:=0
def tw1878098868330083948:=0
def tw15681177862536369552:=0
def tw3616926692181124582:=0
def tw878427706905333160:=0
def tw8473098531641808720:=0
def tw999801377610166677:=0
def tw15310575211201608254:=0
def tw17539051486456452720:=0
def tw2888378839418501324:=0
def tw15739835569168128811:=0
def tw6477447876553439991:=0
def tw8060288757147005281:=0
def tw18335084697264387094:=0
def tw15373089182791627162:=0
def tw7151567596398775547:=0
def tw2545872441307498631:=0
def tw1033957938944266303:=0
def tw17738746233866362617:=0
def tw3549704965107169271:=0
def tw13964131039900948467:=0
def tw11530067759409960644:=0
def tw406595175245964727:=0
def tw13680523877403751586:=0
def tw2210051613548168504:=0
def tw2945523767633333468:=0
def tw5067894314110286689:=0
def tw681563381677930901:=0
def tw16319246346512244468:=0
def tw8127714488738001491:=0
def tw6654466591532147143:=0
def tw16895954686901576809:=0
def tw16413263692893700338:=0
def tw2593244303881975068:=0
def tw522206280705260178:=0
def tw15881967058030196063:=0
def tw8712079090277646981:=0
def tw14823078635368666994:=0
def tw11408957242603975789:=0
def tw2621835216603341937:=0
def tw2036208079543368017:=0
def tw18213825726640663962:=0
def tw18190523829509795021:=0
def tw6647448377978801533:=0
def tw4717995416383522666:=0
def tw2089855023985519645:=0
def tw11659255286017208858:=0
def tw13577034121129065019:=0
def tw516760397430705228:=0
def tw15713174888042777581:=0
def tw2936149319873147642:=0
def tw661387150621621672:=0
def tw17300295951603002893:=0
def tw16155168443508260514:=0
def tw6018302643293508412:=0
def tw484530209292851773:=0
def tw13595979903855452553:=0
def tw10660069135081993457:=0
def tw1767757187362937373:=0
def tw9160387431222862926:=0
def tw16811977081940834366:=0
def tw2372712974843931940:=0
def tw2439009798831693248:=0
def tw561106391400545722:=0
def tw16488309356510901439:=0
def tw5096192452448085180:=0
def tw5866467486991537098:=0
def tw15499525411027282602:=0
def tw10116900334488803397:=0
def tw4413323380236642788:=0
def tw17346006087454967118:=0
def tw17064344838890343617:=0
def tw4398433078853860078:=0
def tw7358804388796683404:=0
def tw12086374874149155817:=0
def tw10709536693168602670:=0
def tw3982320184600541492:=0
def tw15383268837109518881:=0
def tw12011761902825586874:=0
def tw6460951199928953886:=0
def tw423008729848936363:=0
def tw1982088636643737445:=0
def tw10433138644302310085:=0
def tw6692056071189761937:=0
def tw2869836561118800776:=0
def tw10040373403369573208:=0
def tw1376761338391501132:=0
def tw12263961274279098813:=0
def tw4596852204601013045:=0
def tw14033964878185515883:=0
def tw7582381809537785057:=0
def tw13784998470628283053:=0
def tw4075453437444522894:=0
def tw10193812114602391556:=0
def tw11378968677189553588:=0
def tw5735076145791096473:=0
def tw10453693408866242725:=0
def tw10088269105973312841:=0
def tw8471500032558054527:=0
def tw4520460299969545091:=0
def tw4726732848671073466:=0
def tw15177480866532459017:=0
def tw7905126709251064376:=0
def tw135578305164033656:=0
def tw2229563600452197278:=0
def tw9289566778570823056:=0
def tw3414846003928617515:=0
def tw3812738101824350178:=0
def tw13658480206433656803:=0
def tw7648066156560023733:=0
def tw10353654623137286540:=0
def tw10428270996907056216:=0
def tw13468693166706920098:=0
def tw6492215791060967183:=0
def tw5866591321102395722:=0
def tw9308314484260703275:=0
def tw6991624573316242025:=0
def tw14112307854878764621:=0
def tw11165095059812681818:=0
def tw18233335228544021606:=0
def tw2916631586223767925:=0
def tw4526137757712275027:=0
def tw9455302738381868588:=0
def tw6361339397082499184:=0
def tw14831831885667200373:=0
def tw9368842499795713246:=0
def tw5506076464760637272:=0
def tw4563145390988499413:=0
def tw5551361993986251727:=0
def tw14564466451992348657:=0
def tw13272429386190454104:=0
def tw2912906287777205512:=0
def tw1781061659430196778:=0
def tw12369286963773741818:=0
def tw17521374512903912915:=0
def tw4279180469348992682:=0
def tw7259183073369064172:=0
def tw5455805945112415465:=0
def tw17982125014735134333:=0
def tw6776880401517052769:=0
def tw15063905356871925998:=0
def tw10658494741162510412:=0
end PySem.W.Fast
open PySem PySem.W PyProof.Rows
set_option maxRecDepth 100000 in
set_option maxHeartbeats 0 in
theorem PySem.Challenge.cw_cleanrows_k51_living_in_stretches_holds : PySem.Challenge.rw_cleanrows_k51_living_in_stretches.Holds := by
 w_on;o_law;k_head;(case hw=>w_witness2)
 k_fill
 refine K51.walk 520 (l:=PySem.Challenge.rw_cleanrows_k51_living_in_stretches) rfl rfl (λw h Y=>⟨PySem.W.km_in_of Y,PySem.W.km_tabs_of Y⟩) (by decide) (by decide) (by decide) ?F
 case F =>
  intro w mg fa h KX G hmg
  refine' K51.all_mk KX G hmg ..
  all_goals first|k_is|kit_is|k_exc|rfl|decide +kernel|skip
