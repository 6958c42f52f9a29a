import PyProof.Rows.All
import Wide.All
import OpenK.AllK
import Wide.FinOn
import Lean
import PyProof.EqAt
import PyProof.EqKinds
import PyProof.TupleCall
import KE.KUnpack
import PyProof.NeKinds
import PyProof.EnumFor
import PyProof.EnumStmt
import PyProof.EnumMake
import PyProof.Draws
import PyProof.StrWalks
import PyProof.Rows.FStr
import PyProof.Rows.CallKw2
import PyProof.StrBlockL
import KE.KIntText
import PyProof.ConsumeWalk
import PyProof.StrBlockG
import PyProof.CallStr
import PyProof.Rows.Range3
import PyProof.MeetsDict
import PyProof.DictList
import PyProof.StrLawsChain
import PyProof.StrLawsNeg
import KE.IntTextLaws
import KE.IntTextText
import PyProof.CallFns
import PyProof.CompUse
import PyProof.DictWalks
import KE.KDictSum
import PyProof.FString5
import KE.KLam
import KE.KSortKey
import KE.KNestM
import PyProof.Rows.RuleN_abs
import PyProof.WalkInts
import KE.KMinKey
import KE.KSortTup
import PyProof.DictCompW
import PyProof.SetRoads
import PyProof.SetNew
import KE.KEqDict
import PyProof.ListRange
import KE.KRevSl
import KE.LcSums
import KE.KDictOf
import PyProof.AttrMissSeq
import PySem.Challenge.RW_cleanrows_k24_whole_spoilt_texts_of_file
open PySem renaming wpAny_bind->we,Shared->Eh,wpAny_pure->Ej,Program->Eo,mainGlobals->Ep,wpAny->Et,FuncData->Ey,model->Ez,Around->EB,Builtin->EE,World->EG,starEach->EH,boot_len->EK,Expr->EN,wpAny_holding->E1,compareOp->E4,wpAny_mono->Fe,wpAny_field->Fh,NameKind->Fm,wpAny_newObj_type->Fo,mem_of_lookup->Fu,Spec->Fv,eval->Fx,attributeBase->FE,wpAny_standAt->FJ,wpAny_truthy_bool->FL,binaryOp->FP,cellsFrom->FQ,wpAny_setField->FV,backTo->FZ,wpAny_Call_Name_kw->F0,intText?->Gd,wpAny_passesOwn->Gh,PassesOwn->Gj,sizeLine_eq->Gk,bootBuiltins->Gn,plainId_quiet->Gq,wpAny_call_entry->Gs,rawInt->Gu,wpAny_Call_method_late->Gy,wpAny_execs_nil->GA,letOwnedTupleGo->GD,codeAny_builtin->GE,holding->GJ,codeAny->GL,call_meets->GQ,assignEach->GR,tupleKind_room_in1->G1,wpAny_callSpecial?_slot->G8,sliceBounds->G9,keywordEach->Hb,wpAny_typeOf->Hg,wpAny_pyIter_list->Hh,wpAny_loadPart_at->Hi,wpAny_dictEntries->Hj,foldedSetIterable->Hn,wpAny_rule->Hu,getMethod->Hw,standAt->Hy,behindInMarks->HA,wpAny_isSubtype_exc->HF,valueAt->HH,codeAny_mono->HJ,pushCells->HM,wpAny_tryCatch->HR,wpAny_seqItems->HS,typeIs_str->HU,IsPart->Ic,wpAny_Call_ofName->Ih,pyNext->Il,assignInOrder->Im,tupleKind->Io,noteFrame->Ir,callWith->Iw,backToKw->Iy,getItem->IH,Within->II
open PySem.W renaming Frag->Ei,kia_one->Fz,findIn->FF,mg_none_of->FX,mg_of->Gv,nsIn->GB,mroIn->G0,of_hideAll->Hv,keepIn->IE,instObj->IF,hideAll->IG,plainGet->IM
open List renaming getElem?_eq_getElem->Ek,mem_cons_of_mem->Em,length_map->En,mem_cons_self->Er,size_toArray->EC,getElem?_eq_some_iff->ED,mem_cons->EI,mem_of_getElem?->ER,mem_append_right->ET,take_of_length_le->EU,length_append->EV,getD_eq_getElem?_getD->EX,length_cons->EY,all_eq_true->EZ,getElem?_map->E5,mem_append->Ff,mem_singleton->Fj,length_eq_zero_iff->Fk,length_take->Fn,pairwise_cons->Fp,map_cons->Fq,replicate->Fs,countP_cons->Ft,take_add_one->Fw,contains_iff_mem->FB,exists_cons_of_length_pos->FC,append_assoc->FD,getElem_mem->FT,not_mem_nil->FW,map_append->FY,replicate_succ->Gb,append_nil->Gc,mem_map->Gf,drop_eq_getElem_cons->Gg,mem_append_left->Gi,filter_cons->Gm,lookup->Gx,take_append_drop->GI,drop_eq_nil_of_le->GK,lookup_cons->GO,getElem?_append_right->GS,map_map->GT,mem_or_eq_of_mem_set->GU,getElem?_append_left->GV,getElem_of_mem->GY,nil_append->G3,length_set->G4,length_nil->G5,mem_filterMap->G7,length_drop->Ha,cons_append->Hd,filter_cons_of_pos->He,filter_cons_of_neg->Hf,map_congr_left->Hk,flatten_cons->Ho,getElem?_set_self->Hr,countP_append->Hz,mem_of_mem_take->HD,getElem?_set_ne->HE,filterMap_cons->HG,nodup_append->HI,find?_cons->HX,set_cons_succ->Ib,take_sublist->Ik,nodup_cons->ID,of_mem_zip->IJ,sum_cons->IL,any_cons->IP,drop_zero->IQ,cons->IR
open PySem.Heap renaming get?_push_of_some->El,lt_size->EM,get?_push_size->EW,get?_update_other->E3,get?_update_self->FA,SameBut->HB,size_push->Iq
open PySem.Str renaming ofString->Es
open Bool renaming false_ne_true->Eu,and_eq_true->EJ,eq_false_iff->E9,false_eq_true->FK,eq_iff_iff->FO,false_and->Ie
open PySem.Value renaming ref->Ew,none->E6,bool->Fy,str->HP,int->HQ
open Or renaming inl->EA,inr->G6
open Nat renaming le_refl->EF,le_trans->EL,lt_of_lt_of_le->EO,ne_of_lt->E7,lt_irrefl->Fb,lt_of_succ_lt->Fc,lt_of_le_of_lt->FR,zero_le->Gr,le_succ_of_le->GH,lt_succ_self->Hl,succ_le_succ->Hx,isDigit_of_mem_toDigits->HL,lt_succ_of_lt->Ij,sub_self->Ip,ne_of_gt->Iu,le_of_lt->Iv,toDigits->IK
open PyProof.Rows renaming boot_isinstance->ES,slot_tuple_getitem->Fl,strKind->Gp,AllBare->GN,envOfC->GP,boot_str->Hq,callWith_type1->HK,boot_int->HY,assignInOrder_cons->HZ
open Option renaming some->E8,map_eq_some_iff->FH,isSome_iff_exists->Hm,bind_some->IC
open Array renaming getElem?_setIfInBounds_self_of_lt->Fd,getElem?_eq_some_iff->Ge,getElem?_eq_getElem->GW,length_toList->GZ,getElem?_setIfInBounds_ne->Hs,getElem?_toList->Ht,mem_toList_iff->HW
open Classical renaming byContradiction->Fg
open Ne renaming symm->Fi
open PySem.Txt renaming join->FG,split->FI,slice->FN
open PySem.Obj renaming isFreed_of_fields->FM,data_mapFields->Gz,mapFields->HN,cls_mapFields->Ii
open Int renaming lt_of_le_of_lt->FU,toNat_natCast->GG
open PySem.F renaming slot_list_getattribute->Gw,slot_str_split->HV,excBase_ValueError->Ia,slot_dict_delitem->Ig,plainAttrs_list->Iz,attr_ValueError->IA,args_dict_get_3->IB
open PySem.W (methodObj hideAll_get lookIn hasDictIn handedIn plainGet_of isFn plainOver takerIn makesIn emptyDict callWith_K methodCall_KW callWith_K0 fnOf codeIn excIn clsIn)
open List (range mem_filter mem_range length foldl foldl_cons map_nil range' Perm map_take map_drop map_id map_set)
open PySem.Heap (UpToSlots ExtBut)
open Nat (le_of_eq)
open Option (getD_none isSome_some isSome_map)
open PySem.Value (float type builtin)
open PyProof.Rows (KeyOrd digit_range)
open PySem.F (slot_tuple_add entry_tuple_add args_tuple_add_2 entry_str_split args_str_split_2 slot_dict_get)
open PySem.Obj (mapSeq)
set_option bootstrap.genMatcherCode false
set_option compiler.extract_closed false
local macro_rules | `(f!$_)=>`(by decide +kernel)
local macro_rules | `({$x:term})=>`(⟨$x⟩) | `({$x:term,$xs:term,*})=>`(⟨$x,$xs,*⟩)
local macro_rules | `($c:char)=>match c.getChar with | 'l'=>`(by lia) | 'd'=>`(by decide) | 's'=>`(by simp) | _=>Lean.Macro.throwUnsupported
set_option Elab.async false
set_option linter.all false
set_option autoImplicit true
set_option maxRecDepth 100000
namespace L2
open PySem PySem.Spec PyProof.Rows
abbrev XO:PySem.Str:="_law_take"
abbrev XN:PySem.Str:="_law_drawn"
abbrev XM:PySem.Str:="_law_is_number"
abbrev XJ:PySem.Str:="__init__"
abbrev XI:PySem.Str:="take_later_name"
abbrev XH:PySem.Str:="refuse_if_not_held"
abbrev XG:PySem.Str:="_law_model_in"
abbrev XF:PySem.Str:="_law_is_name"
abbrev XD:PySem.Str:="_law_other_word"
abbrev XC:PySem.Str:="take_number"
abbrev XB:PySem.Str:="refuse_if_none"
abbrev XA:PySem.Str:="is_number_text"
abbrev Xz:PySem.Str:="take_table"
abbrev Xy:PySem.Str:="is_made_of"
abbrev Xx:PySem.Str:="take_files"
abbrev Xw:PySem.Str:="read_files"
abbrev Xv:PySem.Str:="_law_birth"
abbrev Xu:PySem.Str:="Words.take_number"
abbrev Xt:PySem.Str:="_law_refusal"
abbrev Xs:PySem.Str:="_law_kept_in"
abbrev Xr:PySem.Str:="is_at_end"
abbrev Xq:PySem.Str:="is_within"
abbrev Xp:PySem.Str:="_law_name"
abbrev Xo:PySem.Str:="take_word"
abbrev Xn:PySem.Str:="_law_rows"
abbrev Xm:PySem.Str:="_law_models"
abbrev Xl:PySem.Str:="_law_spoilt"
abbrev Za:List PySem.Str:=["_law_pot_here","_law_many"]
abbrev YJ:List PySem.Str:=["_law_pot_here"]
abbrev YE:List PySem.Str:=["self"]
abbrev YB:List PySem.Str:=["_law_pot_here","_law_some"]
abbrev Yz:List PySem.Str:=["_law_words_here","_law_at_here"]
abbrev Yy:List PySem.Str:=["_law_words_here","_law_at_here","_law_many","_law_model_here","_law_ahead","_law_births"]
abbrev Yx:List PySem.Str:=["self","name"]
abbrev Ys:List PySem.Str:=["_law_word"]
abbrev Yq:List PySem.Str:=["_law_script","_law_k"]
abbrev Yi:List PySem.Str:=["self","file"]
abbrev Yc:List PySem.Str:=["text","signs","most"]
abbrev Yb:List PySem.Str:=["value","least","most"]
abbrev Ya:List PySem.Str:=["_law_birth_here"]
abbrev X9:List PySem.Str:=["_law_text_here"]
abbrev X8:List PySem.Str:=["_law_pot_here","_law_model_here","_law_name_here","_law_wide","_law_many"]
abbrev X7:List PySem.Str:=["_law_pot_here","_law_text_here"]
abbrev X6:List PySem.Str:=["self","name","files"]
abbrev X5:List PySem.Str:=["self","file","place"]
abbrev X4:List PySem.Str:=["text"]
abbrev X3:List PySem.Str:=["self","file","place","birth"]
abbrev X2:List PySem.Str:=["_law_model_here","_law_kept"]
abbrev X1:List PySem.Str:=["_law_text_here","_law_told_here","_law_files","_law_e"]
abbrev X0:List PySem.Str:=["_law_pot_here","_law_word"]
abbrev XZ:List PySem.Str:=["_law_model_here","_law_words_here","_law_name_here"]
abbrev XY:List PySem.Str:=["words","files","name","number","many","place"]
abbrev XX:List PySem.Str:=["words","name"]
abbrev XW:List PySem.Str:=["_law_place","_law_files","_law_name_here"]
abbrev XU:List PySem.Str:=["_law_files","_law_found","_law_name_here"]
abbrev XT:List PySem.Str:=["self","word"]
abbrev XS:List PySem.Str:=["self","text"]
abbrev XR:List PySem.Str:=["_law_script"]
abbrev XQ:List PySem.Str:=["_law_k","_law_pot_here","_law_letters"]
structure W(p:Prop):Prop where
 h:p
abbrev Key:=Sum Int Str
def dO:Key->Value->Bool
 | .inl k,v=>Value.isInt k v
 | .inr x,v=>Value.isStrOf x v
def yN(w:EG):Key->Int
 | .inl k=>hashInt k
 | .inr x=>hashStr w x
theorem cG:∀{k:Key}{v:Value},dO k v=true->(∃i t,k=Sum.inl i/\v=HQ i t)\/(∃x t,k=Sum.inr x/\v=HP x t)
 | .inl i,v,h=>by
  obtain ⟨t,e⟩:=Value.isInt_shape (k:=i) (v:=v) h;exact .inl {i,t,rfl,e}
 | .inr x,v,h=>by
  obtain ⟨t,e⟩:=Value.isStrOf_shape (x:=x) (v:=v) h;exact .inr {x,t,rfl,e}
theorem DK(i:Int)(t:Tok):dO (.inl i) (.int i t)=true:=by simp [dO,Value.isInt]
theorem vM(x:Str)(t:Tok):dO (.inr x) (.str x t)=true:=by simp [dO,Value.isStrOf]
theorem B1(a b:Int):decide ((Sum.inl a:Key)=Sum.inl b)=(a==b):=by
 by_cases e:a=b
 .subst e;simp
 .have h : ¬ (Sum.inl a:Key)=Sum.inl b:=λq=>e (Sum.inl.inj q);rw [decide_eq_false h];exact (beq_eq_false_iff_ne.mpr e).symm
theorem Be(a b:Str):decide ((Sum.inr a:Key)=Sum.inr b)=decide (a=b):=by
 by_cases e:a=b
 .subst e;simp
 .have h : ¬ (Sum.inr a:Key)=Sum.inr b:=λq=>e (Sum.inr.inj q);rw [decide_eq_false h,decide_eq_false e]
theorem ui(a:Int)(b:Str):decide ((Sum.inl a:Key)=Sum.inr b)=false:=decide_eq_false (λq=>nomatch q)
theorem BA(a:Str)(b:Int):decide ((Sum.inr a:Key)=Sum.inl b)=false:=decide_eq_false (λq=>nomatch q)
def aF(prog:Eo)(w:EG):PySem.KeyKind prog w Key where
 is:=dO
 hash:=yN w
 inj:=λv a b ha hb=>by
  rcases cG ha with ⟨i,t,rfl,rfl⟩|⟨x,t,rfl,rfl⟩
  .rcases cG hb with ⟨j,u,rfl,e⟩|⟨y,u,rfl,e⟩
   .injection e with e1 _;rw [e1]
   .exact nomatch e
  .rcases cG hb with ⟨j,u,rfl,e⟩|⟨y,u,rfl,e⟩
   .exact nomatch e
   .injection e with e1 _;rw [e1]
 byValue:=λk v h=>by
  rcases cG h with ⟨i,t,rfl,rfl⟩|⟨x,t,rfl,rfl⟩<;>rfl
 pyHash:=λhv h=>by
  rcases cG hv with ⟨i,t,rfl,rfl⟩|⟨x,t,rfl,rfl⟩
  .exact wpAny_pyHash_int h
  .exact wpAny_pyHash_str h
 eqBool:=λn hv h=>by
  rcases cG n with ⟨i,t,rfl,rfl⟩|⟨x,t,rfl,rfl⟩
  .rcases cG hv with ⟨j,u,rfl,rfl⟩|⟨y,u,rfl,rfl⟩
   .rw [B1] at h;exact wpAny_eqBool_int h
   .rw [ui] at h;exact SeqAt.EqAt.int_str i t y u _ _ _ _ h
  .rcases cG hv with ⟨j,u,rfl,rfl⟩|⟨y,u,rfl,rfl⟩
   .rw [BA] at h;exact SeqAt.EqAt.str_int x t j u _ _ _ _ h
   .rw [Be] at h;exact wpAny_eqBool_str h
 «strs»:=λk x t v h=>by
  rcases cG h with ⟨i,u,rfl,e⟩|⟨y,u,rfl,e⟩
  .exact nomatch e
  .injection e with e1 _
   subst e1;cases v<;>rfl
theorem yV(prog:Eo)(w:EG)(i:Int)(t:Tok):(aF prog w).is (.inl i) (.int i t)=true:=DK i t
theorem vm(prog:Eo)(w:EG)(x:Str)(t:Tok):(aF prog w).is (.inr x) (.str x t)=true:=vM x t
inductive V where
 | non|bl (b:Bool)|int (i:Int)|str (x:Str)|byt (b:Array UInt8)|flt (b:UInt64)|ref (a:Addr)|ty (n:String)
 deriving DecidableEq
def zh:V->Value->Prop
 | .non,u=>u=E6
 | .bl b,u=>u=Fy b
 | .int i,u=>∃t,u=HQ i t
 | .str x,u=>∃t,u=HP x t
 | .byt b,u=>∃t,u=Value.bytes b t
 | .flt b,u=>∃t,u=float b t
 | .ref a,u=>u=Ew a
 | .ty n,u=>u=type n
abbrev zo:List V->List Value->Prop:=Paired zh
theorem zo.length(r:zo xs us):xs.length=us.length:=Paired.length r
theorem zo.get:∀{xs:List V}{us:List Value}{i:Nat}{x:V},zo xs us->xs[i]?=some x->∃u,us[i]?=some u/\zh x u
 | _,_,_,_,.nil,e=>by simp at e
 | _,_,0,_,.cons r _,e=>by simp at e;subst e;exact {_,rfl,r}
 | _,_,i+1,x,.cons _ t,e=>by
  obtain ⟨u,h1,h2⟩:=zo.get (i:=i) (x:=x) t (by simpa using e);exact {u,by simpa using h1,h2}
theorem zo.set(r:zh x u):∀{xs:List V}{us:List Value}(i:Nat),zo xs us->zo (xs.set i x) (us.set i u)
 | _,_,_,.nil=>.nil
 | _,_,0,.cons _ t=>.cons r t
 | _,_,i+1,.cons q t=>.cons q (zo.set r i t)
theorem zo.append(h:zo xs us)(k:zo ys ws):zo (xs++ys) (us++ws):=by
 induction h with
 | nil=>exact k
 | cons r t n=>exact .cons r n
theorem zo.take:∀{xs:List V}{us:List Value}(n:Nat),zo xs us->zo (xs.take n) (us.take n)
 | _,_,0,_=>.nil
 | _,_,_+1,.nil=>.nil
 | _,_,n+1,.cons r t=>.cons r (zo.take n t)
theorem zo.drop:∀{xs:List V}{us:List Value}(n:Nat),zo xs us->zo (xs.drop n) (us.drop n)
 | _,_,0,r=>r
 | _,_,_+1,.nil=>.nil
 | _,_,n+1,.cons _ t=>zo.drop n t
def aM:Option V->Option Value->Prop
 | some v,some u=>zh v u
 | none,none=>True
 | _,_=>False
def KV{κ:Type}:List (κ×V)->List (κ×Value)->Prop:=Paired λ(p:κ×V)(q:κ×Value)=>p.1=q.1/\zh p.2 q.2
def kV:Key->V
 | .inl i=>.int i
 | .inr x=>.str x
inductive HO where
 | lst (xs:List V)
 | tup (xs:List V)
 | dK (kvs:List (Key×V))|dT (kvs:List (List Key×V))
 | set (S:Int->Bool) (n:Nat)
 | ins (C dx:Addr) (fs:List (Str×V))
 | own (x:Addr)
 | xd (fs:List (Str×V))
 | met (f x:Addr)
 | rng (lo hi:Int)
 | frz (o:Obj) (u:HO)
 | tbl (ps:Array Value)
 | ext (φ:Heap->Prop)
abbrev Hp:=Addr->Option HO
def upd(H:Hp)(a:Addr)(o:HO):Hp:=λb=>if b=a then some o else H b
theorem zG{o:HO}:upd H a o a=some o:=by unfold upd;rw [if_pos rfl]
theorem zm{o:HO}(h:b≠a):upd H a o b=H b:=by unfold upd;rw [if_neg h]
theorem BD{H:Hp}{o u:HO}(h:H a=some o)(h':H b=some u)(d:o≠u):a≠b:=by
 intro e;subst e;rw [h] at h';exact d (E8.inj h')
theorem z7{H:Hp}{o:HO}(h:H a=some o)(h':H b=none):a≠b:=by
 intro e;subst e;rw [h] at h';cases h'
section
variable (P:Eo) (w:EG)
def zX(H:Hp)(h:Heap)(a:Addr):HO->Prop
 | .lst xs=>xs.length<=sizeLine/\∃(F:List Value)(n:Nat),zo xs F/\h.get? a=some { cls:=.type "list",data:=.seq F.toArray n }
 | .tup xs=>xs.length<=sizeLine/\∃F:List Value,zo xs F/\IsTup h a F.toArray
 | .dK kvs=>kvs.length<=sizeLine/\(a==sysModules)=false/\∃vs,KV kvs vs/\h.DictOf (aF P w) a vs
 | .dT kvs=>kvs.length<=sizeLine/\(a==sysModules)=false/\∃xs:List (List Key×Addr×Value),
   Paired (λ(p:List Key×V)(q:List Key×Addr×Value)=>p.1=q.1/\H q.2.1=some (.tup (p.1.map kV))/\zh p.2 q.2.2) kvs xs /\
   ∃o es ep,h.get? a=some o/\o.ExactDict/\o.data = .dict es ep/\es.toList=xs.map (entryOfKey (Io (aF P w)))/\(xs.map (·.1)).Nodup
 | .set S n=>h.SetOf (intKind P w) a S n
 | .ins C dx fs=>H dx=some (.own a)/\fs.length<=1000/\dx≠a/\h.get? a=some (IF C dx) /\
   ∃mA,h.Ns1 dx mA/\(∀f,aM (fs.lookup f) (mA f))/\II mA (fs.map (·.1))
 | .own _=>∃o,h.get? a=some o
 | .xd fs=>∃mA,h.Ns1 a mA/\∀f,aM (fs.lookup f) (mA f)
 | .rng lo hi=>∃t u v,h.get? a=some { cls:=.type "range",data:=.fields #[.int lo t,.int hi u,.int 1 v] }
 | .frz o u=>h.get? a=some o/\zX H h a u
 | .tbl ps=>h.get? a=some { cls:=.none,data:=.fields ps }
 | .met f x=>h.get? a=some (methodObj (.ref f) (.ref x))
 | .ext G=>G h/\(∃o,h.get? a=some o)/\∀h1 h2:Heap,G h1->(∀o,h1.get? a=some o->h2.get? a=some o)->G h2
def HOk(H:Hp)(h:Heap):Prop:=∀a o,H a=some o->zX P w H h a o
end
section
variable {P:Eo}{w:EG}{H H':Hp}{h h':Heap}{a:Addr}{o:HO}
theorem zX.lt(x:zX P w H h a o):a<h.objs.size:=by
 cases o with
 | lst xs=>obtain ⟨_,_,_,_,e⟩:=x;exact EM e
 | tup xs=>obtain ⟨_,_,_,p⟩:=x;exact p.lt
 | dK kvs=>obtain ⟨_,_,_,_,o,_,_,e,_⟩:=x;exact EM e
 | dT kvs=>obtain ⟨_,_,_,_,o,_,_,e,_⟩:=x;exact EM e
 | set S n=>obtain ⟨o,_,_,_,e,_⟩:=x;exact EM e
 | ins C dx fs=>obtain ⟨_,_,_,e,_⟩:=x;exact EM e
 | own y=>obtain ⟨_,e⟩:=x;exact EM e
 | xd fs=>obtain ⟨_,⟨_,_,_,e,_⟩,_⟩:=x;exact EM e
 | rng lo hi=>obtain ⟨_,_,_,e⟩:=x;exact EM e
 | frz ob u=>obtain ⟨e,_⟩:=x;exact EM e
 | tbl ps=>exact EM (show h.get? a=some _ from x)
 | met f y=>exact EM (show h.get? a=some _ from x)
 | ext F=>obtain ⟨_,⟨_,e⟩,_⟩:=x;exact EM e
theorem Paired.L5{α β:Type}{F G:α->β->Prop}{n:List α}{l₂:List β}(h:Paired F n l₂)(f:∀a b,F a b->G a b):Paired G n l₂:=by
 induction h with
 | nil=>exact .nil
 | cons r t J=>exact .cons (f _ _ r) J
theorem zX.KP(x:zX P w H h a o)(k:∀b u,(b=a\/H b=some (.own a))->h.get? b=some u->h'.get? b=some u)
  (ho:∀b,H b=some (.own a)->H' b=some (.own a)) (J:∀b xs,H b=some (.tup xs)->H' b=some (.tup xs)):zX P w H' h' a o:=by
 induction o with
 | lst xs=>obtain ⟨z,F,n,r,e⟩:=x;exact {z,F,n,r,k _ _ (.inl rfl) e}
 | tup xs=>obtain ⟨z,F,r,ob,e,c⟩:=x;exact {z,F,r,ob,k _ _ (.inl rfl) e,c}
 | dK kvs=>obtain ⟨z,y,vs,r,ob,es,ep,e,c⟩:=x;exact {z,y,vs,r,ob,es,ep,k _ _ (.inl rfl) e,c}
 | dT kvs =>
  obtain ⟨z,y,xs,r,ob,es,ep,e,c⟩:=x;exact {z,y,xs,Paired.L5 r λp q z=>{z.1,J _ _ z.2.1,z.2.2},ob,es,ep,k _ _ (.inl rfl) e,c}
 | set S n=>obtain ⟨ob,es,ep,t,e,c⟩:=x;exact {ob,es,ep,t,k _ _ (.inl rfl) e,c}
 | ins C dx fs =>
  obtain ⟨d,z,ne,e,mA,⟨G,es,ep,U,c⟩,r⟩:=x;exact {ho _ d,z,ne,k _ _ (.inl rfl) e,mA,{G,es,ep,k _ _ (.inr d) U,c},r}
 | own y=>obtain ⟨ob,e⟩:=x;exact {ob,k _ _ (.inl rfl) e}
 | xd fs=>obtain ⟨mA,⟨G,es,ep,e,c⟩,r⟩:=x;exact {mA,{G,es,ep,k _ _ (.inl rfl) e,c},r}
 | rng lo hi=>obtain ⟨t,u,v,e⟩:=x;exact {t,u,v,k _ _ (.inl rfl) e}
 | frz ob u O=>obtain ⟨e,q⟩:=x;exact {k _ _ (.inl rfl) e,O q}
 | tbl ps =>
  have e:h.get? a=some { cls:=.none,data:=.fields ps }:=x;show h'.get? a=some { cls:=.none,data:=.fields ps };exact k a _ (.inl rfl) e
 | met f y =>
  have e:h.get? a=some (methodObj (.ref f) (.ref y)):=x;show h'.get? a=some (methodObj (.ref f) (.ref y));exact k a _ (.inl rfl) e
 | ext W=>obtain ⟨p,⟨o,e⟩,st⟩:=x;exact {st _ _ p λo q=>k _ _ (.inl rfl) q,{o,k _ _ (.inl rfl) e},st}
theorem HOk.lt(x:HOk P w H h)(e:H a=some o):a<h.objs.size:=(x a o e).lt
theorem HOk.fresh(x:HOk P w H h)(e:h.objs.size<=a):H a=none:=by
 cases q:H a with
 | none=>rfl
 | some u=>exact absurd (EO (x.lt q) e) (Fb _)
theorem HOk.kept(x:HOk P w H h)(k:∀b u,h.get? b=some u->h'.get? b=some u):HOk P w H h':=λa o e =>
 (x a o e).KP (λb u _ q=>k b u q) (λ_ q=>q) λ_ _ q=>q
theorem HOk.laid(x:HOk P w H h)(k:∀b u,h.get? b=some u->h'.get? b=some u)(hp:h.objs.size<=a)(new:zX P w (upd H a o) h' a o):HOk P w (upd H a o) h':=λb u e=>by
 have n:=x.fresh hp;by_cases hb:b=a
 .subst hb;rw [zG] at e;cases e;exact new
 .rw [zm hb] at e;exact (x b u e).KP (λc v _ q=>k c v q) (λc q=>by rw [zm (z7 q n)];exact q) λc xs q=>by rw [zm (z7 q n)];exact q
end
def Rd(H:Hp)(a:Addr)(u:HO):Prop:=H a=some u\/∃o,H a=some (.frz o u)
theorem Rd.ok(r:Rd H a u)(x:HOk P w H h):zX P w H h a u:=by
 rcases r with r|⟨o,r⟩
 .exact x a u r
 .obtain ⟨_,q⟩:=x a _ r;exact q
def Mut:Option HO->Prop
 | some (.lst _)=>True
 | some (.dK _)=>True
 | some (.dT _)=>True
 | some (.set _ _)=>True
 | some (.ins _ _ _)=>True
 | some (.ext _)=>True
 | _=>False
section
variable {P:Eo}{w:EG}{H:Hp}{h h':Heap}{x e:Addr}{o':HO}
theorem HOk.write(ok:HOk P w H h)(J:Mut (H x))(he:e=x\/H e=some (.own x))(k:∀b u,b≠e->h.get? b=some u->h'.get? b=some u)(O:∃u,h'.get? e=some u)
  (new:zX P w (upd H x o') h' x o'):HOk P w (upd H x o') h':=λb u q=>by
 have F:∀c y,H c=some (.own y)->c≠x:=λc y r z=>by subst z;rw [r] at J;exact J
 have G:∀c xs,H c=some (.tup xs)->c≠x:=λc xs r z=>by subst z;rw [r] at J;exact J
 by_cases hb:b=x
 .subst hb;rw [zG] at q;cases q;exact new
 .rw [zm hb] at q;by_cases n:b=e
  .have S:H b=some (.own x):=by
    rcases he with z|z
    .exact absurd (n.trans z) hb
    .rw [n];exact z
   rw [q] at S;cases S;obtain ⟨v,hv⟩:=O;exact {v,by rw [n];exact hv}
  .refine (ok b u q).KP (λc v hc r=>k c v ?_ r) (λc r=>by rw [zm (F c b r)];exact r) λc xs r=>by rw [zm (G c xs r)];exact r
   rcases hc with rfl|hc
   .exact n
   .rintro rfl;rcases he with z|z
    .exact F c b hc z
    .rw [hc] at z;cases z;exact hb rfl
end
structure Un(fs ex:List Addr)(H H':Hp)(h h':Heap):Prop where
 keep:∀b o,h.get? b=some o->H b=none->b∉fs->b∉ex->h'.get? b=some o
 slot:∀b o,h.get? b=some o->H b=none->b∈fs->b∉ex->∃sl,h'.get? b=some { o with slots:=sl }
 free:∀b o,h.get? b=some o->H b=none->b∉ex->H' b=none
 there:∀b o,h.get? b=some o->b∉ex->∃o',h'.get? b=some o'
 tups:∀b xs,H b=some (.tup xs)->H' b=some (.tup xs)
 frzs:∀b o u,H b=some (.frz o u)->H' b=some (.frz o u)
 tbls:∀b ps,H b=some (.tbl ps)->∃more,H' b=some (.tbl (ps++more))
section
variable {fs fs' ex ex':List Addr}{H H1 H2:Hp}{h h1 h2 h':Heap}{a x e:Addr}{o:HO}
theorem Un.any(u:Un fs ex H H1 h h1)(q:h.get? b=some ob)(n:H b=none)(F:b∉ex):∃G,h1.get? b=some { ob with slots:=G }:=by
 by_cases hb:b∈fs
 .exact u.slot b ob q n hb F
 .exact {ob.slots,u.keep b ob q n hb F}
theorem Un.kept(k:∀b u,h.get? b=some u->h'.get? b=some u):Un fs ex H H h h' :=
 {λb ob q _ _ _=>k b ob q,λb ob q _ _ _=>{ob.slots,k b ob q},λ_ _ _ n _=>n,λb ob q _=>{ob,k b ob q},λ_ _ q=>q,λ_ _ _ q=>q,λ_ ps q=>{#[],by rw [q];simp}}
theorem Un.refl:Un fs ex H H h h:=Un.kept λ_ _ q=>q
theorem Un.laid(k:∀b u,h.get? b=some u->h'.get? b=some u)(hp:h.objs.size<=a)(F:H a=none):Un fs ex H (upd H a o) h h' where
 keep:=λb u q _ _ _=>k b u q
 slot:=λb u q _ _ _=>{u.slots,k b u q}
 free:=λb u q n _=>by rw [zm (E7 (EO (EM q) hp))];exact n
 there:=λb u q _=>{u,k b u q}
 tups:=λb xs q=>by rw [zm (z7 q F)];exact q
 frzs:=λb u xs q=>by rw [zm (z7 q F)];exact q
 tbls:=λb ps q=>{#[],by rw [zm (z7 q F),q];simp}
theorem Un.write(G:Mut (H x))(he:e=x\/H e=some (.own x))(k:∀b u,b≠e->h.get? b=some u->h'.get? b=some u)(J:∃u,h'.get? e=some u):Un fs ex H (upd H x o) h h':=by
 have O:∀b,H b=none->b≠x:=λb n z=>by subst z;rw [n] at G;exact G
 have hb:∀b,H b=none->b≠e:=λb n z=>by
  subst z;rcases he with r|r
  .exact O b n r
  .rw [n] at r;cases r
 have hm:∀b u,H b=some u->¬ Mut (some u)->b≠x:=λb u q nm z=>by subst z;rw [q] at G;exact nm G
 refine {λb u q n _ _=>k b u (hb b n) q,λb u q n _ _=>{u.slots,k b u (hb b n) q},λb u q n _=>by rw [zm (O b n)];exact n,λb u q _=>?_,
  λb xs q=>by rw [zm (hm b _ q λz=>z)];exact q,λb u xs q=>by rw [zm (hm b _ q λz=>z)];exact q,λb ps q=>{#[],by rw [zm (hm b _ q λz=>z),q];simp}}
 by_cases F:b=e
 .subst F;exact J
 .exact {u,k b u F q}
end
def trk(h:Heap)(H:Hp):List Addr:=(range h.objs.size).filter λa=>(H a).isSome
def cV(h:Heap)(H:Hp):Heap:=IG h (trk h H)
theorem BP(h:Heap)(H:Hp):(cV h H).objs.size=h.objs.size:=PySem.W.hideAll_size _ _
theorem Bq{o:Obj}(e:h.get? b=some o)(n:H b=none):(cV h H).get? b=some o :=
 hideAll_get _ e λhm=>by
  have q:(H b).isSome=true:=(mem_filter.mp hm).2;rw [n] at q;simp at q
theorem Cg{o:Obj}(e:(cV h H).get? b=some o):h.get? b=some o/\H b=none:=by
 have n:h.get? b=some o:=Hv (trk h H) e;refine {n,?_};cases q:H b with
 | none=>rfl
 | some x =>
  have hm:b∈trk h H:=mem_filter.mpr {mem_range.mpr (EM n),by simp [q]};have z:(cV h H).get? b=none:=PySem.W.hideAll_none (trk h H) hm;rw [z] at e;cases e
structure Mod(K:Ei)(mg:Str->Option Value)(base:Heap):Prop where
 LY:K.In base
 glob:base.Ns Ep mg
 blt:∃mb,base.Ns builtinsNs mb/\∀x:Str,x≠"__name__"->mb x=Gn x
 nolimit:base.NoLimit
inductive Chn(H:Hp):Nat->Addr->Prop
 | one {a:Addr}{o:Obj}{vs:Array Value}{C:Addr} (h:H a=some (.frz o (.own 0))) (d:o.data = .fields vs) (n:vs[2]?=some .none) (c:o.cls = .ref C):Chn H 0 a
 | more {k:Nat}{a b:Addr}{o:Obj}{vs:Array Value}{C:Addr} (h:H a=some (.frz o (.own 0))) (d:o.data = .fields vs) (n:vs[2]?=some (.ref b)) (c:o.cls = .ref C) (t:Chn H k b):Chn H (k+1) a
theorem Chn.same{k:Nat}(x:Chn H k a)(f:∀b o,H b=some (.frz o (.own 0))->H' b=some (.frz o (.own 0))):Chn H' k a:=by
 induction x with
 | one h d n c=>exact .one (f _ _ h) d n c
 | more h d n c _ F=>exact .more (f _ _ h) d n c F
def dJ(A:EB)(H:Hp):Prop:=A.handled=none\/∃(a:Addr)(k:Nat),A.handled=some (.ref a)/\Chn H k a
theorem dJ.Mh(x:dJ A H)(k:∀b o,H b=some (.frz o (.own 0))->H' b=some (.frz o (.own 0))):dJ A H':=by
 rcases x with x|⟨a,n,h1,h2⟩
 .exact .inl x
 .exact .inr {a,n,h1,h2.same k}
theorem dJ.same(x:dJ A H)(k:∀b o u,H b=some (.frz o u)->H' b=some (.frz o u)):dJ A H':=x.Mh λb o h=>k b o _ h
structure Cx where
 prog:Eo
 w:EG
 K:Ei
 mg:Str->Option Value
 base:Heap
 A:EB
 N:List Str
 s₀:Eh
 H₀:Hp
 env:Env
 outer:List Env
 stack:List Env
 ex:List Addr
 fn:Str->Bool
 calm:Bool
 pn:List (Addr×Obj)
 xe:Value->Eh->Prop
def frs(l:List Env):List Addr:=l.filterMap (·.frame)
abbrev Cx.fs(X:Cx):List Addr:=frs X.outer
def Vis(sc:Scope)(x:Str):Prop:=sc.names.lookup x=some .local\/sc.names.lookup x=some .cell\/sc.names.lookup x=some .free
def Loc(sc:Scope)(x:Str):Prop:=sc.names.lookup x=some .local\/sc.names.lookup x=some .cell
def nA(env:Env)(h:Heap)(m:Str->Option Value)(x:Str)(u:Value):Prop :=
 (env.kindOf x=some .local/\m x=some u)\/((env.kindOf x=some .cell\/env.kindOf x=some .free)/\∃c,env.cells.lookup x=some c/\h.IsCell c (some u))
structure Cx.Ok(X:Cx):Prop where
 mod:Mod X.K X.mg X.base
 kind:X.env.scope.kind = .function
 glob:X.env.globals=Ep
 blt:X.env.builtins=builtinsNs
 above:X.s₀.heap.objs.size<=X.env.locals
 inj:∀x y c,X.env.cells.lookup x=some c->X.env.cells.lookup y=some c->x=y
 has:∀x,(X.env.kindOf x=some .cell\/X.env.kindOf x=some .free)->∃c,X.env.cells.lookup x=some c
 Mb:∀x c,X.fn x=true->X.env.cells.lookup x=some c->X.s₀.heap.objs.size<=c
 hd:X.calm=true->X.A.handled=none
 frames:X.A.frames=some X.stack
 Me:X.stack=X.outer\/(X.stack=X.env::X.outer/\X.env.frame=some X.env.locals)
 Mp:∀b∈X.ex,b≠X.env.locals/\∀x c,X.env.cells.lookup x=some c->c≠b
 bs:∀b o,X.base.get? b=some o->X.s₀.heap.get? b=some o/\X.H₀ b=none
 LI:X.base.objs.size<=X.s₀.heap.objs.size
 KU:∀b o,X.base.get? b=some o->b∉X.ex
 Li:∀b∈X.ex,b∉X.fs
 Jf:X.s₀.heap.FunFrames X.base X.outer
 LQ:∀b∈X.fs,X.H₀ b=none
structure Inv(X:Cx)(Ga:List (Addr×Obj))(σ:List (Option V))(H:Hp)(s:Eh):Prop where
 ok:X.Ok
 os:s.os=X.s₀.os
 bare:GN s.gens
 base:Un X.fs X.ex X.H₀ H X.s₀.heap s.heap
 loc:∃m,s.heap.Ns X.env.locals m/\∀(i:Nat)(x:Str)(v:V),X.N[i]?=some x->σ[i]?=some (some v)->Vis X.env.scope x->∃u,zh v u/\nA X.env s.heap m x u
 cell:∀x c,X.env.cells.lookup x=some c->∃v,s.heap.IsCell c v
 free:H X.env.locals=none
 ti:∀x c,X.env.cells.lookup x=some c->H c=none
 pin:∀p∈X.pn++Ga,s.heap.get? p.1=some p.2/\H p.1=none/\p.1≠X.env.locals/\p.1∉X.fs/\∀v,p.2.data≠.cell v
 hok:HOk X.prog X.w H s.heap
 len:σ.length=X.N.length
 hdk:dJ X.A H
section
variable {X:Cx}{Ga:List (Addr×Obj)}{σ:List (Option V)}{H H':Hp}{s:Eh}{h':Heap}
theorem Cx.Ok.Mq(ok:X.Ok){o:Obj}(e:X.base.get? b=some o):b∉X.fs:=λhb=>by
 have:=(ok.Jf.mem hb).1;rw [e] at this;cases this
theorem Inv.bs(I:Inv X Ga σ H s):∀b o,X.base.get? b=some o->s.heap.get? b=some o/\H b=none:=λb o e =>
 {I.base.keep b o (I.ok.bs b o e).1 (I.ok.bs b o e).2 (I.ok.Mq e) (I.ok.KU b o e),I.base.free b o (I.ok.bs b o e).1 (I.ok.bs b o e).2 (I.ok.KU b o e)}
theorem Inv.bk(I:Inv X Ga σ H s):∀b o,X.base.get? b=some o->s.heap.get? b=some o:=λb o e=>(I.bs b o e).1
theorem Inv.mod(I:Inv X Ga σ H s):Mod X.K X.mg X.base:=I.ok.mod
theorem Inv.z4(I:Inv X Ga σ H s):X.K.In s.heap:=I.ok.mod.LY.keeps I.bk
theorem Inv.lt(I:Inv X Ga σ H s):X.env.locals<s.heap.objs.size:=let ⟨_,hn,_⟩:=I.loc;hn.lt
theorem Inv.sz(I:Inv X Ga σ H s):X.s₀.heap.objs.size<=s.heap.objs.size:=EL I.ok.above (Iv I.lt)
theorem Inv.Mj(I:Inv X Ga σ H s)(h:s.heap.objs.size<=a):a∉X.fs:=λhb=>by
 obtain ⟨_,o,ho,_⟩:=I.ok.Jf.mem hb;exact absurd (EO (EM ho) (EL I.sz h)) (Fb _)
theorem Inv.cne(I:Inv X Ga σ H s):∀x c,X.env.cells.lookup x=some c->c≠X.env.locals:=λx c e z=>by
 obtain ⟨v,o,ho,hd⟩:=I.cell x c e;obtain ⟨m,⟨o',es,ep,F,n,_⟩,_⟩:=I.loc;rw [z,F] at ho;cases ho;rw [n] at hd;cases hd
theorem Inv.Jf(I:Inv X Ga σ H s):s.heap.FunFrames X.base X.outer:=by
 have all:∀(l:List Env),(∀b∈frs l,b∈X.fs)->X.s₀.heap.FunFrames X.base l->s.heap.FunFrames X.base l:=by
  intro l
  induction l with
  | nil=>intro _ _;trivial
  | cons env r J =>
   intro hs G;obtain ⟨S,⟨L,o,n,O,ho,hd⟩,hr⟩:=G;have F:L∈X.fs:=hs L (by unfold frs;rw [HG,n];exact Er);obtain ⟨U,e⟩:=I.base.slot L o ho (I.ok.LQ L F) F λz=>I.ok.Li L z F;exact {S,{L,_,n,O,e,hd},J (λb hb=>hs b (by unfold frs;rw [HG,n];exact Em _ hb)) hr}
 exact all X.outer (λ_ hb=>hb) I.ok.Jf
theorem Inv.stack(I:Inv X Ga σ H s):s.heap.FunFrames X.base X.stack:=by
 rcases I.ok.Me with e|⟨e,n⟩
 .rw [e];exact I.Jf
 .rw [e];obtain ⟨m,F,_⟩:=I.loc;refine .cons (by rw [I.ok.kind];decide) n F ?_ I.Jf;exact Heap.get?_none_of_le (EL I.ok.LI I.ok.above)
theorem Inv.Ju(I:Inv X Ga σ H s):∀b∈frs X.stack,b∈X.env.locals::X.fs:=λb hb=>by
 rcases I.ok.Me with e|⟨e,n⟩
 .rw [e] at hb;exact Em _ hb
 .rw [e] at hb;unfold frs at hb;rw [HG,n] at hb;exact hb
theorem Inv.J7(I:Inv X Ga σ H s):∀b∈frs X.stack,H b=none:=λb hb=>by
 rcases EI.mp (I.Ju b hb) with e|hb
 .rw [e];exact I.free
 .obtain ⟨_,o,ho,_⟩:=I.ok.Jf.mem hb;exact I.base.free b o ho (I.ok.LQ b hb) λz=>I.ok.Li b z hb
theorem Inv.step{ch:List Addr}(I:Inv X Ga σ H s)(U:∀b∈ch,(b∈X.ex\/X.s₀.heap.objs.size<=b)/\b≠X.env.locals/\(∀x c,X.env.cells.lookup x=some c->c≠b)/\∀p∈X.pn++Ga,p.1≠b)(keep:∀b o,b≠X.env.locals->b∉X.fs->b∉ch->s.heap.get? b=some o->H b=none->h'.get? b=some o)(slot:∀b o,b≠X.env.locals->b∈X.fs->b∉ch->s.heap.get? b=some o->H b=none->∃sl,h'.get? b=some { o with slots:=sl })(free:∀b o,b∉ch->s.heap.get? b=some o->H b=none->H' b=none)(there:∀b o,b∉ch->s.heap.get? b=some o->∃o',h'.get? b=some o')(tups:∀b xs,H b=some (.tup xs)->H' b=some (.tup xs))(frzs:∀b o u,H b=some (.frz o u)->H' b=some (.frz o u))(tbls:∀b ps,H b=some (.tbl ps)->∃more,H' b=some (.tbl (ps++more)))(ns:∀m,s.heap.Ns X.env.locals m->h'.Ns X.env.locals m)(hok:HOk X.prog X.w H' h')(hg:GN g'):
  Inv X Ga σ H' { s with heap:=h',gens:=g',drawn:=d',toks:=t' }:=by
 have Z:∀b o,X.s₀.heap.get? b=some o->b≠X.env.locals:=λb o e=>E7 (EO (EM e) I.ok.above);have S:∀b o,X.s₀.heap.get? b=some o->b∉X.ex->b∉ch:=λb o e F hb=>by
  rcases (U b hb).1 with z|z
  .exact F z
  .exact absurd (EO (EM e) z) (Fb _)
 have J:∀x c,X.env.cells.lookup x=some c->∀v,s.heap.IsCell c v->h'.IsCell c v:=λx c e v ⟨o,ho,hd⟩=>by
  have G:c∉ch:=λz=>(U c z).2.2.1 x c e rfl;by_cases hc:c∈X.fs
  .obtain ⟨sl,q⟩:=slot c o (I.cne x c e) hc G ho (I.ti x c e);exact {_,q,hd}
  .exact {o,keep c o (I.cne x c e) hc G ho (I.ti x c e),hd}
 refine {I.ok,I.os,hg,{λb o e n hb F=>?_,λb o e n hb F=>?_,λb o e n F=>?_,λb o e F=>?_,λb xs e=>tups b xs (I.base.tups b xs e),λb o xs e=>frzs b o xs (I.base.frzs b o xs e),λb ps e=>?_},?_,λx c e=>?_,?_,λx c e=>?_,λp hp=>?_,hok,I.len,I.hdk.same frzs}
 .exact keep b o (Z b o e) hb (S b o e F) (I.base.keep b o e n hb F) (I.base.free b o e n F)
 .obtain ⟨sl,O⟩:=I.base.slot b o e n hb F;obtain ⟨ag,W⟩:=slot b _ (Z b o e) hb (S b o e F) O (I.base.free b o e n F);exact ⟨ag,W⟩
 .obtain ⟨o',O⟩:=I.base.there b o e F;exact free b o' (S b o e F) O (I.base.free b o e n F)
 .obtain ⟨o',O⟩:=I.base.there b o e F;exact there b o' (S b o e F) O
 .obtain ⟨m1,O⟩:=I.base.tbls b ps e;obtain ⟨m2,W⟩:=tbls b _ O;exact {m1++m2,by rw [W,Array.append_assoc]}
 .obtain ⟨m,hn,hl⟩:=I.loc;refine {m,ns m hn,λi x v O W e3=>?_};obtain ⟨u,r,l⟩:=hl i x v O W e3;refine {u,r,?_};rcases l with l|⟨k,c,e,z⟩
  .exact .inl l
  .exact .inr {k,c,e,J x c e _ z}
 .obtain ⟨v,z⟩:=I.cell x c e;exact {v,J x c e v z}
 .obtain ⟨m,⟨o,_,_,ho,_⟩,_⟩:=I.loc;exact free _ o (λz=>(U _ z).2.1 rfl) ho I.free
 .obtain ⟨v,o,ho,hd⟩:=I.cell x c e;exact free c o (λz=>(U c z).2.2.1 x c e rfl) ho (I.ti x c e)
 .obtain ⟨e,n,ne,nf,d⟩:=I.pin p hp;have G:p.1∉ch:=λz=>(U p.1 z).2.2.2 p hp rfl;exact {keep p.1 p.2 ne nf G e n,free p.1 p.2 G e n,ne,nf,d}
theorem Inv.un(I:Inv X Ga σ H s)(u:Un X.fs [] H H' s.heap h')(hok:HOk X.prog X.w H' h'):Inv X Ga σ H' { s with heap:=h',toks:=t' }:=by
 obtain ⟨m,⟨o,es,ep,ho,r⟩,_⟩:=id I.loc;obtain ⟨S,O⟩:=u.any ho I.free 's';exact I.step (g':=s.gens) (d':=s.drawn) (ch:=[]) (λ_ z=>nomatch z) (λb o _ hb _ e n=>u.keep b o e n hb 's') (λb o _ hb _ e n=>u.slot b o e n hb 's') (λb o _ e n=>u.free b o e n 's') (λb o _ e=>u.there b o e 's') u.tups u.frzs u.tbls (λU hm=>by
  obtain ⟨o',G,F,J,r'⟩:=hm;rw [ho] at J;cases J;exact {_,G,F,O,r'}) hok I.bare
theorem Inv.call(I:Inv X Ga σ H s)(u:Un (frs X.stack) ch H H' s.heap h')(hok:HOk X.prog X.w H' h')(U:GN g')(S:∀b∈ch,(b∈X.ex\/X.s₀.heap.objs.size<=b)/\b≠X.env.locals/\(∀x c,X.env.cells.lookup x=some c->c≠b)/\∀p∈X.pn++Ga,p.1≠b):
  Inv X Ga σ H' { s with heap:=h',gens:=g',drawn:=d',toks:=t' }:=by
 obtain ⟨m,⟨o,es,ep,ho,r⟩,_⟩:=id I.loc;obtain ⟨W,J⟩:=u.any ho I.free λz=>(S _ z).2.1 rfl;exact I.step (ch:=ch) S (λb o J hb hc e n=>u.keep b o e n (λz=>(EI.mp (I.Ju b z)).elim J hb) hc) (λb o _ _ hc e n=>u.any e n hc) (λb o hc e n=>u.free b o e n hc) (λb o hc e=>u.there b o e hc) u.tups u.frzs u.tbls (λZ hm=>by
  obtain ⟨o',G,F,O,r'⟩:=hm;rw [ho] at O;cases O;exact {_,G,F,J,r'}) hok U
theorem Inv.turned(I:Inv X Ga σ H s)(k:∀b o,b≠it->s.heap.get? b=some o->h'.get? b=some o)(J:H it=none)(G:it≠X.env.locals)(h1:it∈X.ex\/X.s₀.heap.objs.size<=it)(h2:∀x c,X.env.cells.lookup x=some c->c≠it)(h3:∀p∈X.pn++Ga,p.1≠it):Inv X Ga σ H { s with heap:=h',toks:=t' }:=by
 have F:∀b u,H b=some u->b≠it:=λb u e z=>by rw [z,J] at e;cases e
 refine I.step (g':=s.gens) (d':=s.drawn) (ch:=[it]) (λb hb=>?_) (λb o _ _ hc e _=>k b o (λz=>hc (by simp [z])) e) (λb o _ _ hc e _=>{o.slots,k b o (λz=>hc (by simp [z])) e}) (λ_ _ _ _ n=>n)
  (λb o hc e=>{o,k b o (λz=>hc (by simp [z])) e}) (λ_ _ e=>e) (λ_ _ _ e=>e) (λb ps e=>{#[],by rw [e];simp}) (λm hm=>?_) (λb u e=>?_) I.bare
 .have e:b=it:=by simpa using hb
  subst e;exact ⟨h1,G,h2,h3⟩
 .obtain ⟨o,es,ep,ho,r⟩:=hm;exact {o,es,ep,k _ o (Fi G) ho,r}
 .refine (I.hok b u e).KP (λc v hc q=>k c v ?_ q) (λ_ q=>q) λ_ _ q=>q;rcases hc with z|z
  .rw [z];exact F b u e
  .exact F c _ z
theorem Inv.tok(I:Inv X Ga σ H s)(t:Nat):Inv X Ga σ H { s with toks:=t }:=I.un (h':=s.heap) (t':=t) Un.refl I.hok
theorem Inv.kept(I:Inv X Ga σ H s)(k:∀b u,s.heap.get? b=some u->h'.get? b=some u):Inv X Ga σ H { s with heap:=h',toks:=t' }:=I.un (Un.kept k) (I.hok.kept k)
theorem Inv.laid{o:HO}(I:Inv X Ga σ H s)(k:∀b u,s.heap.get? b=some u->h'.get? b=some u)(hp:s.heap.objs.size<=a)(new:zX X.prog X.w (upd H a o) h' a o):
  Inv X Ga σ (upd H a o) { s with heap:=h',toks:=t' }:=I.un (Un.laid k hp (I.hok.fresh hp)) (I.hok.laid k hp new)
theorem Inv.write{o:HO}(I:Inv X Ga σ H s)(F:Mut (H x))(he:e=x\/H e=some (.own x))(k:∀b u,b≠e->s.heap.get? b=some u->h'.get? b=some u)(n:∃u,h'.get? e=some u)(new:zX X.prog X.w (upd H x o) h' x o):Inv X Ga σ (upd H x o) { s with heap:=h',toks:=t' }:=I.un (Un.write F he k n) (I.hok.write F he k n new)
theorem Inv.vx(I:Inv X Ga σ H s)(h:∀p∈pins',s.heap.get? p.1=some p.2/\H p.1=none/\p.1≠X.env.locals/\p.1∉X.fs/\∀v,p.2.data≠.cell v):Inv X pins' σ H s :=
 {I.ok,I.os,I.bare,I.base,I.loc,I.cell,I.free,I.ti,λp hp=>(Ff.mp hp).elim (λz=>I.pin p (Gi _ z)) (h p),I.hok,I.len,I.hdk}
theorem kK{N:List Str}(hN:N.Nodup){i j:Nat}(a:N[i]?=some x)(b:N[j]?=some x):i=j:=by
 obtain ⟨h1,n⟩:=ED.mp a;obtain ⟨h2,F⟩:=ED.mp b;exact (List.getElem_inj hN).mp (n.trans F.symm)
theorem DC(I:Inv X Ga σ H s)(hN:X.N.Nodup)(hi:X.N[i]?=some x)(G:Loc X.env.scope x)(r:zh v u)(h:∀s',Inv X Ga (σ.set i (some v)) H s'->(∃a,HB a s.heap s'.heap/\(a=X.env.locals\/X.env.cells.lookup x=some a))->Q () s')(hf:X.fn x=true\/X.env.scope.names.lookup x=some .local:=by first|exact .inl rfl|exact .inr rfl|assumption):Et M A (storeName X.env x u) Q E s:=by
 obtain ⟨m,hn,hl⟩:=id I.loc;have ax:(X.env.scope.kind == .class||(X.env.scope.kind == .module&&X.env.locals != X.env.globals))=false:=by rw [I.ok.kind];rfl
 have S:i<σ.length:=by rw [I.len];exact (ED.mp hi).1
 have cne:=I.cne;have YD:∀{a:Addr}{h':Heap},(∃o,s.heap.get? a=some o/\H a=none)->HB a s.heap h'->HOk X.prog X.w H h':=λ{a h'} ha hs b ob e=>by
  obtain ⟨_,_,J⟩:=ha;refine (I.hok b ob e).KP (λc w' hc q=>(hs.2 c ?_).trans q) (λ_ q=>q) λ_ _ q=>q;rintro rfl;rcases hc with rfl|hc
  .rw [J] at e;cases e
  .rw [J] at hc;cases hc
 rcases G with U|U
 .refine wpAny_storeName_local U hn (λh' a0 hs=>?_) ax;obtain ⟨oL,_,_,aI,_⟩:=id hn;refine h _ {I.ok,I.os,I.bare,{λb o e n hb G=>?_,λb o e n hb G=>?_,I.base.free,λb o e G=>?_,I.base.tups,I.base.frzs,I.base.tbls},{_,a0,λj y v' F O e3=>?_},λy c e=>?_,I.free,I.ti,λp hp=>?_,YD ⟨oL,aI,I.free⟩ hs,by simpa using I.len,I.hdk} {_,hs,.inl rfl}
  .exact (hs.2 b (E7 (EO (EM e) I.ok.above))).trans (I.base.keep b o e n hb G)
  .obtain ⟨sl,F⟩:=I.base.slot b o e n hb G;exact {sl,(hs.2 b (E7 (EO (EM e) I.ok.above))).trans F}
  .obtain ⟨o',F⟩:=I.base.there b o e G;exact {o',(hs.2 b (E7 (EO (EM e) I.ok.above))).trans F}
  .by_cases W:j=i
   .subst W;rw [hi] at F;cases F;rw [Hr S] at O;cases O;exact {u,r,.inl {U,'s'}}
   .rw [HE (Fi W)] at O;obtain ⟨u',r',q⟩:=hl j y v' F O e3;refine {u',r',?_};rcases q with ⟨k,e⟩|⟨k,c,e,z⟩
    .refine .inl {k,?_};have:y≠x:=λe=>W (kK hN F (e ▸ hi));simp [this,e]
    .exact .inr {k,c,e,z.sameBut hs (cne y c e)}
  .obtain ⟨w',z⟩:=I.cell y c e;exact {w',z.sameBut hs (cne y c e)}
  .obtain ⟨e,n,ne,nf,d⟩:=I.pin p hp;exact {(hs.2 p.1 ne).trans e,n,ne,nf,d}
 .have Z:X.fn x=true:=by
   rcases hf with z|z
   .exact z
   .rw [z] at U;cases U
  obtain ⟨c,hc⟩:=I.ok.has x (.inl U);obtain ⟨w',z⟩:=I.cell x c hc;refine wpAny_storeName_cell I.ok.kind U hc z (λh' YC hs=>?_);obtain ⟨oc,av,ak⟩:=id z;refine h { s with heap:=h' } {I.ok,I.os,I.bare,{λb o e n hb G=>?_,λb o e n hb G=>?_,I.base.free,λb o e G=>?_,I.base.tups,I.base.frzs,I.base.tbls},{m,hn.sameBut hs (Fi (cne x c hc)),λj y v' F O e3=>?_},λy c' e=>?_,I.free,I.ti,λp hp=>?_,YD {oc,av,I.ti x c hc} hs,by simpa using I.len,I.hdk} {c,hs,.inr hc}
  .exact (hs.2 b (E7 (EO (EM e) (I.ok.Mb x c Z hc)))).trans (I.base.keep b o e n hb G)
  .obtain ⟨sl,F⟩:=I.base.slot b o e n hb G;exact {sl,(hs.2 b (E7 (EO (EM e) (I.ok.Mb x c Z hc)))).trans F}
  .obtain ⟨o',F⟩:=I.base.there b o e G;exact {o',(hs.2 b (E7 (EO (EM e) (I.ok.Mb x c Z hc)))).trans F}
  .by_cases W:j=i
   .subst W;rw [hi] at F;cases F;rw [Hr S] at O;cases O;exact {u,r,.inr {.inl U,c,hc,YC}}
   .rw [HE (Fi W)] at O;obtain ⟨u',r',q⟩:=hl j y v' F O e3;refine {u',r',?_};rcases q with q|⟨k,c',e,z'⟩
    .exact .inl q
    .refine .inr {k,c',e,z'.sameBut hs ?_};rintro rfl;exact W (kK hN F (I.ok.inj _ _ _ e hc ▸ hi))
  .by_cases ag:c'=c
   .subst ag;exact {_,YC}
   .obtain ⟨w2,z2⟩:=I.cell y c' e;exact {w2,z2.sameBut hs ag}
  .obtain ⟨e,n,ne,nf,d⟩:=I.pin p hp;refine {(hs.2 p.1 ?_).trans e,n,ne,nf,d};intro q;rw [q,av] at e;have q':oc=p.2:=E8.inj e;exact d w' (by rw [<- q'];exact ak)
theorem fC(I:Inv X Ga σ H s)(hN:X.N.Nodup)(hi:X.N[i]?=some x)(G:Loc X.env.scope x)(r:zh v u)(h:∀s',Inv X Ga (σ.set i (some v)) H s'->Q () s')(n:X.fn x=true\/X.env.scope.names.lookup x=some .local:=by first|exact .inl rfl|exact .inr rfl|assumption):Et M A (storeName X.env x u) Q E s :=
 DC I hN hi G r (λs' F _=>h s' F) n
theorem Inv.LB(I:Inv X Ga σ H s)(ho:s'.os=s.os)(u:Un (frs X.stack) ch H H' s.heap s'.heap)(hok:HOk X.prog X.w H' s'.heap)(n:GN s'.gens)(F:∀b∈ch,(b∈X.ex\/X.s₀.heap.objs.size<=b)/\b≠X.env.locals/\(∀x c,X.env.cells.lookup x=some c->c≠b)/\∀p∈X.pn++Ga,p.1≠b):Inv X Ga σ H' s':=by
 obtain ⟨h',g',d',t',o'⟩:=s';have e:o'=s.os:=ho;subst e;exact I.call (g':=g') (t':=t') (d':=d') u hok n F
end
abbrev XK:=Value->Option Addr->Hp->Prop
abbrev St:=List (Option V)
abbrev VK:=V->Hp->Prop
abbrev TE:=St->Hp->VK->Prop
abbrev TT:=St->Hp->(Bool->Hp->Prop)->Prop
abbrev TA:=St->Hp->(List V->Hp->Prop)->Prop
structure aE where
 nx:St->Hp->Prop
 rt:VK
 bk:St->Hp->Prop:=λ_ _=>False
 ct:St->Hp->Prop:=λ_ _=>False
abbrev TS:=aE->St->Hp->Prop
def EP(X:Cx)(Ga:List (Addr×Obj))(σ:St)(Q:VK)(u:Value)(s':Eh):Prop:=∃v H',Inv X Ga σ H' s'/\zh v u/\Q v H'
def TP(X:Cx)(Ga:List (Addr×Obj))(σ:St)(Q:Bool->Hp->Prop)(b:Bool)(s':Eh):Prop:=∃H',Inv X Ga σ H' s'/\Q b H'
def AP(X:Cx)(Ga:List (Addr×Obj))(σ:St)(Q:List V->Hp->Prop)(us:List Value)(s':Eh):Prop:=∃vs H',Inv X Ga σ H' s'/\zo vs us/\Q vs H'
def SP(X:Cx)(Ga:List (Addr×Obj))(D:aE)(f:Flow)(s':Eh):Prop :=
 match f with
 | .next=>∃n H',Inv X Ga n H' s'/\D.nx n H'
 | .brk=>∃n H',Inv X Ga n H' s'/\D.bk n H'
 | .cont=>∃n H',Inv X Ga n H' s'/\D.ct n H'
 | .ret u=>∃v n H',Inv X Ga n H' s'/\zh v u/\D.rt v H'
def PE(X:Cx)(e:EN)(t:TE):Prop :=
 ∀(Ga:List (Addr×Obj))(s:Eh)(σ:St)(H:Hp)(Q:VK),Inv X Ga σ H s->t σ H Q->Et (Ez X.prog X.w) X.A (Fx e X.env) (EP X Ga σ Q) X.xe s
def PT(X:Cx)(e:EN)(t:TT):Prop :=
 ∀(Ga:List (Addr×Obj))(s:Eh)(σ:St)(H:Hp)(Q:Bool->Hp->Prop),Inv X Ga σ H s->t σ H Q->Et (Ez X.prog X.w) X.A (isTrue e X.env (Fx e X.env)) (TP X Ga σ Q) X.xe s
def PW(X:Cx)(e:EN)(t:TT):Prop :=
 ∀(n:Sem Value)(Ga:List (Addr×Obj))(s:Eh)(σ:St)(H:Hp)(Q:Bool->Hp->Prop),Inv X Ga σ H s->t σ H Q->Et (Ez X.prog X.w) X.A (isTrue e X.env n) (TP X Ga σ Q) X.xe s
theorem PW.pt{t:TT}(h:PW X e t):PT X e t:=h _
def PA(X:Cx)(es:List EN)(t:TA):Prop :=
 ∀(pos:Pos)(Ga:List (Addr×Obj))(s:Eh)(σ:St)(H:Hp)(Q:List V->Hp->Prop),Inv X Ga σ H s->t σ H Q->Et (Ez X.prog X.w) X.A (spliced (FZ pos (EH es X.env))) (AP X Ga σ Q) X.xe s
def PS(X:Cx)(st:Stmt)(t:TS):Prop :=
 ∀(Ga:List (Addr×Obj))(s:Eh)(σ:St)(H:Hp)(D:aE),Inv X Ga σ H s->t D σ H->Et (Ez X.prog X.w) X.A (exec st X.env) (SP X Ga D) X.xe s
def PSs(X:Cx)(st:List Stmt)(t:TS):Prop :=
 ∀(Ga:List (Addr×Obj))(s:Eh)(σ:St)(H:Hp)(D:aE),Inv X Ga σ H s->t D σ H->Et (Ez X.prog X.w) X.A (execs st X.env) (SP X Ga D) X.xe s
theorem x2e{a b c:Prop}(f:a->b->c)(h:a/\b):c:=f h.1 h.2
theorem x3e{α:Sort _}{A B:α->Prop}{D:Prop}(f:∀x,A x->B x->D)(h:∃x,A x/\B x):D:=h.elim λx z=>f x z.1 z.2
theorem x4e{α β:Sort _}{A B:α->β->Prop}{D:Prop}(f:∀x y,A x y->B x y->D)(h:∃x y,A x y/\B x y):D:=h.elim λx=>x3e (f x)
theorem x5e{α β:Sort _}{A B C:α->β->Prop}{D:Prop}(f:∀x y,A x y->B x y->C x y->D)(h:∃x y,A x y/\B x y/\C x y):D:=h.elim λx=>x3e λy a=>x2e (f x y a)
theorem thn{α:Type}{t:Sem α}{Q n:α->Eh->Prop}(h:Et M A t Q E s)(F:∀a s,Q a s->n a s):Et M A t n E s:=Fe h F λ_ _ x=>x
section
variable {X:Cx}
def i9(i:Nat):TE:=λσ H Q=>∃v,σ[i]?=some (some v)/\Q v H
def tC(v:V):TE:=λ_ H Q=>Q v H
theorem CH(hN:X.N[i]?=some x)(hv:Vis X.env.scope x)(hd:(x==("__debug__":Str))=false:=by decide)(hcd:(x==("__classdict__":Str))=false:=by decide):PE X (.Name x pos) (i9 i):=by
 intro Ga s σ H Q I h;obtain ⟨v,e,h⟩:=h;obtain ⟨m,O,J⟩:=I.loc;obtain ⟨u,r,l⟩:=J i x v hN e hv;have G:EP X Ga σ Q u s:=⟨v,H,I,r,h⟩;rcases l with ⟨F,hm⟩|⟨F,c,hc,n⟩
 .exact wpAny_Name (wpAny_loadName_local I.ok.kind F O hm G) hd
 .rcases F with F|F
  .exact wpAny_Name (wpAny_loadName_cell I.ok.kind F hc n G) hd
  .exact wpAny_Name (wpAny_loadName_free I.ok.kind F hc n G hcd) hd
theorem qC{i j pos}:PE X (.Constant (.int i) j pos) (tC (.int i)):=λ_ _ _ H _ I h=>wpAny_Constant_int {.int i,H,I.tok _,{_,rfl},h}
theorem dm{b j pos}:W (PE X (.Constant (.bool b) j pos) (tC (.bl b))):={λ_ _ _ H _ I h=>Constant_bool {.bl b,H,I,rfl,h}}
theorem aN{j pos}:W (PE X (.Constant .none j pos) (tC .non)):={λ_ _ _ H _ I h=>Constant_none {.non,H,I,rfl,h}}
theorem zq{x j pos}:W (PE X (.Constant (.str x) j pos) (tC (.str x))):={λ_ _ _ H _ I h=>Calls.Constant_str {.str x,H,I.tok _,{_,rfl},h}}
def Gl(X:Cx)(x:Str):Prop:=X.env.kindOf x=some .globalImplicit
theorem cP(I:Inv X Ga σ H s)(n:Gl X x)(hm:X.mg x=some u)(h:Q u s)(hd:(x==("__debug__":Str))=false:=by decide):Et (Ez X.prog X.w) X.A (Fx (.Name x pos) X.env) Q E s :=
 Calls.Name_function_global I.ok.kind n (Calls.loadGlobal_global (by rw [I.ok.glob];exact I.mod.glob.keeps I.bk) hm h) hd
theorem ja(I:Inv X Ga σ H s)(F:Gl X x)(hm:X.mg x=none)(hv:Gn x=some u)(h:Q u s)(n:x≠"__name__":=by decide)(hd:(x==("__debug__":Str))=false:=by decide):Et (Ez X.prog X.w) X.A (Fx (.Name x pos) X.env) Q E s:=by
 obtain ⟨G,h1,h2⟩:=I.mod.blt;exact Calls.Name_function_global I.ok.kind F (Calls.loadGlobal_builtin (by rw [I.ok.glob];exact I.mod.glob.keeps I.bk) hm (by rw [I.ok.blt];exact h1.keeps I.bk) ((h2 x n).trans hv) h) hd
theorem Au(n:Gl X x)(hm:X.mg x=some u)(r:zh v u)(hd:(x==("__debug__":Str))=false:=by decide):PE X (.Name x pos) (tC v) :=
 λ_ _ _ H _ I h=>cP I n hm ⟨v,H,I,r,h⟩ hd
theorem fE(F:Gl X x)(hm:X.mg x=none)(hv:Gn x=some u)(r:zh v u)(n:x≠"__name__":=by decide)(hd:(x==("__debug__":Str))=false:=by decide):W (PE X (.Name x pos) (tC v)):={λ_ _ _ H _ I h=>ja I F hm hv ⟨v,H,I,r,h⟩ n hd}
variable {a b:EN}{ta tb:TE}{pos:Pos}
variable {tA tB':TT}{Zo:List EN}
def nj(t u:TT):TT:=λσ H Q=>t σ H λc H1=>if c=true then u σ H1 Q else Q false H1
def tOr(t u:TT):TT:=λσ H Q=>t σ H λc H1=>if c=true then Q true H1 else u σ H1 Q
def rG(t:TT):TT:=λσ H Q=>t σ H λc H1=>Q (!c) H1
theorem ux(ha:W (PT X a tA)):W (PW X (.BoolOp .And [a] pos) tA):=by
 refine {?_};have ha:=ha.h;intro n Ga s σ H Q I h;refine isTrue_and (thn (ha Ga s σ H Q I h) λc s1 e=>?_);cases c with
 | true=>exact isTrue_and_nil e
 | false=>exact e
theorem cK(ha:W (PT X a tA)):W (PW X (.BoolOp .Or [a] pos) tA):=by
 refine {?_};have ha:=ha.h;intro n Ga s σ H Q I h;refine isTrue_or (thn (ha Ga s σ H Q I h) λc s1 e=>?_);cases c with
 | false=>exact isTrue_or_nil e
 | true=>exact e
theorem wR(ha:W (PT X a tA))(hb:W (PW X (.BoolOp .And (b::Zo) pos) tB')):W (PW X (.BoolOp .And (a::b::Zo) pos) (nj tA tB')):=by
 refine {?_};have ha:=ha.h;have hb:=hb.h;intro F Ga s σ H Q I h;refine isTrue_and (thn (ha Ga s σ H _ I h) λc s1=>x3e λH1 n q1=>?_);cases c with
 | true=>exact hb F Ga s1 σ H1 Q n q1
 | false=>exact ⟨H1,n,q1⟩
theorem bJ(ha:W (PT X a tA))(hb:W (PW X (.BoolOp .Or (b::Zo) pos) tB')):W (PW X (.BoolOp .Or (a::b::Zo) pos) (tOr tA tB')):=by
 refine {?_};have ha:=ha.h;have hb:=hb.h;intro F Ga s σ H Q I h;refine isTrue_or (thn (ha Ga s σ H _ I h) λc s1=>x3e λH1 n q1=>?_);cases c with
 | true=>exact ⟨H1,n,q1⟩
 | false=>exact hb F Ga s1 σ H1 Q n q1
theorem aY(ha:W (PT X a tA)):W (PT X (.UnaryOp .Not a pos) (rG tA)):=by
 refine {?_};have ha:=ha.h;intro Ga s σ H Q I h;exact isTrue_not (ha Ga s σ H (λc H1=>Q (!c) H1) I h)
def mQ(ta tb:TE):TE:=λσ H Q=>ta σ H λx H1=>∃c,x = .bl c/\if c=true then tb σ H1 Q else Q (.bl false) H1
def sh(ta tb:TE):TE:=λσ H Q=>ta σ H λx H1=>∃c,x = .bl c/\if c=true then Q (.bl true) H1 else tb σ H1 Q
def oQ(ta:TE):TE:=λσ H Q=>ta σ H λx H1=>∃c,x = .bl c/\Q (.bl (!c)) H1
theorem gO{op}{t:TE}(h:W (PE X a t)):W (PE X (.BoolOp op [a] pos) t):=by refine {?_};have h:=h.h;exact λGa s σ H Q I n=>BoolOp_one (h Ga s σ H Q I n)
theorem mI(ha:W (PE X a ta))(hb:W (PE X (.BoolOp .And (b::Zo) pos) tb)):W (PE X (.BoolOp .And (a::b::Zo) pos) (mQ ta tb)):=by
 refine {?_};have ha:=ha.h;have hb:=hb.h;intro Ga s σ H Q I h;refine BoolOp_and (thn (ha Ga s σ H _ I h) λv s1=>x5e λx H1 n r1 q1=>?_);obtain ⟨c,rfl,q1⟩:=q1;cases r1;refine FL ?_;cases c with
 | true=>exact hb Ga s1 σ H1 Q n q1
 | false=>exact {.bl false,H1,n,rfl,q1}
theorem tM(ha:W (PE X a ta))(hb:W (PE X (.BoolOp .Or (b::Zo) pos) tb)):W (PE X (.BoolOp .Or (a::b::Zo) pos) (sh ta tb)):=by
 refine {?_};have ha:=ha.h;have hb:=hb.h;intro Ga s σ H Q I h;refine BoolOp_or (thn (ha Ga s σ H _ I h) λv s1=>x5e λx H1 n r1 q1=>?_);obtain ⟨c,rfl,q1⟩:=q1;cases r1;refine FL ?_;cases c with
 | false=>exact hb Ga s1 σ H1 Q n q1
 | true=>exact {.bl true,H1,n,rfl,q1}
theorem wt(ha:W (PE X a ta)):W (PE X (.UnaryOp .Not a pos) (oQ ta)):=by
 refine {?_};have ha:=ha.h;intro Ga s σ H Q I h;refine UnaryOp_ (thn (ha Ga s σ H _ I h) λv s1=>x5e λx H1 n r1 q1=>?_);obtain ⟨c,rfl,q1⟩:=q1;cases r1;exact not_of (FL {.bl (!c),H1,n,rfl,q1})
def tIf(t:TT)(ta tb:TE):TE:=λσ H Q=>t σ H λc H1=>if c=true then ta σ H1 Q else tb σ H1 Q
theorem tJ(hc:PT X c tA)(ha:PE X a ta)(hb:PE X b tb):PE X (.IfExp c a b pos) (tIf tA ta tb):=by
 intro Ga s σ H Q I h;refine wpAny_IfExp (thn (hc Ga s σ H _ I h) λd s1=>x3e λH1 n q1=>?_);cases d with
 | true=>exact ha Ga s1 σ H1 Q n q1
 | false=>exact hb Ga s1 σ H1 Q n q1
end
def SqL(K:Ei)(H:Hp)(a:Addr)(xs:List V):Prop :=
 Rd H a (.lst xs) \/
  ∃(o:Obj)(F:Array Value)(n:Nat),K.lookup a=some o/\o.cls = .type "list"/\o.dict=none/\o.data = .seq F n/\F.size<=sizeLine/\zo xs F.toList
def SqT(K:Ei)(H:Hp)(a:Addr)(xs:List V):Prop :=
 Rd H a (.tup xs) \/
  ∃(o:Obj)(F:Array Value)(n:Nat),K.lookup a=some o/\o.cls = .type "tuple"/\o.data = .seq F n/\F.size<=sizeLine/\zo xs F.toList
def xB:Value->Option V
 | .none=>some .non
 | .bool b=>some (.bl b)
 | .int i _=>some (.int i)
 | .str x _=>some (.str x)
 | .bytes b _=>some (.byt b)
 | .float b _=>some (.flt b)
 | .ref a=>some (.ref a)
 | .type n=>some (.ty n)
 | _=>none
theorem zh.abs(r:zh x u):xB u=some x:=by
 cases x with
 | non=>cases r;rfl
 | bl _=>cases r;rfl
 | int _=>obtain ⟨t,rfl⟩:=r;rfl
 | str _=>obtain ⟨t,rfl⟩:=r;rfl
 | byt _=>obtain ⟨t,rfl⟩:=r;rfl
 | flt _=>obtain ⟨t,rfl⟩:=r;rfl
 | ref _=>cases r;rfl
 | ty _=>cases r;rfl
theorem zh.inj(r:zh x u)(q:zh y u):x=y:=E8.inj (r.abs.symm.trans q.abs)
theorem zo.inj(h:zo xs us):∀{ys:List V},zo ys us->xs=ys:=by
 induction h with
 | nil=>intro ys k;cases k;rfl
 | cons r t n =>
  intro ys k;cases k with
  | cons r' t'=>rw [r.inj r',n t']
section
variable {X:Cx}{Ga:List (Addr×Obj)}{σ:St}{H:Hp}{s:Eh}{a:Addr}{xs ys:List V}
theorem SqL.of{K:Ei}(h:H a=some (.lst xs)):SqL K H a xs:=.inl (.inl h)
theorem SqT.of{K:Ei}(h:H a=some (.tup xs)):SqT K H a xs:=.inl (.inl h)
theorem Inv.list(I:Inv X Ga σ H s)(h:SqL X.K H a xs):∃F:List Value,zo xs F/\PlainL s.heap a F.toArray/\xs.length<=sizeLine:=by
 rcases h with h|⟨o,F,n,G,hc,hd,hs,J,r⟩
 .obtain ⟨z,F,n,r,e⟩:=h.ok I.hok;exact {F,r,{_,n,e,rfl,rfl,rfl},z}
 .refine {F.toList,r,{o,n,I.z4 a o G,hc,hd,by simpa using hs},?_};have e:=r.length;simp only [GZ] at e;lia
theorem Inv.tuple(I:Inv X Ga σ H s)(h:SqT X.K H a xs):∃F:List Value,zo xs F/\IsTup s.heap a F.toArray/\xs.length<=sizeLine:=by
 rcases h with h|⟨o,F,n,G,hc,hs,J,r⟩
 .obtain ⟨z,F,r,p⟩:=h.ok I.hok;exact ⟨F,r,p,z⟩
 .refine {F.toList,r,{o,I.z4 a o G,hc,n,by simpa using hs},?_};have e:=r.length;simp only [GZ] at e;lia
theorem Inv.Lv(I:Inv X Ga σ H s)(h:SqL X.K H a xs)(h':SqL X.K H a ys):xs=ys:=by
 obtain ⟨G,r,⟨o,n,e,_,_,d⟩,_⟩:=I.list h;obtain ⟨its',r',⟨o',J,F,_,_,d'⟩,_⟩:=I.list h';rw [e] at F;cases F;rw [d] at d';injection d' with d1 _
 have:G=its':=by simpa using congrArg Array.toList d1
 subst this;exact r.inj r'
end
abbrev Cx.IT(X:Cx)(E:Value->Eh->Prop):Cx:={ X with xe:=E }
abbrev Cx.Mi(X:Cx):Cx:=X.IT λ_ _=>False
theorem Cx.Ok.IT{X:Cx}(ok:X.Ok)(E:Value->Eh->Prop):(X.IT E).Ok :=
 ⟨ok.mod,ok.kind,ok.glob,ok.blt,ok.above,ok.inj,ok.has,ok.Mb,ok.hd,ok.frames,ok.Me,ok.Mp,ok.bs,ok.LI,ok.KU,ok.Li,ok.Jf,ok.LQ⟩
theorem Cx.Ok.nT{X:Cx}(ok:(X.IT E).Ok):X.Ok :=
 ⟨ok.mod,ok.kind,ok.glob,ok.blt,ok.above,ok.inj,ok.has,ok.Mb,ok.hd,ok.frames,ok.Me,ok.Mp,ok.bs,ok.LI,ok.KU,ok.Li,ok.Jf,ok.LQ⟩
section
variable {X:Cx}{Ga:List (Addr×Obj)}{σ:St}{H:Hp}{s:Eh}{E:Value->Eh->Prop}
theorem Inv.IT(I:Inv X Ga σ H s)(E:Value->Eh->Prop):Inv (X.IT E) Ga σ H s:={I.ok.IT E,I.os,I.bare,I.base,I.loc,I.cell,I.free,I.ti,I.pin,I.hok,I.len,I.hdk}
theorem Inv.nT(I:Inv (X.IT E) Ga σ H s):Inv X Ga σ H s:=⟨I.ok.nT,I.os,I.bare,I.base,I.loc,I.cell,I.free,I.ti,I.pin,I.hok,I.len,I.hdk⟩
theorem SP.nT(h:SP (X.IT E) Ga D f s'):SP X Ga D f s':=by
 cases f with
 | next=>obtain ⟨n,H',I,q⟩:=h;exact ⟨n,H',I.nT,q⟩
 | brk=>obtain ⟨n,H',I,q⟩:=h;exact ⟨n,H',I.nT,q⟩
 | cont=>obtain ⟨n,H',I,q⟩:=h;exact ⟨n,H',I.nT,q⟩
 | ret u=>obtain ⟨v,n,H',I,r,q⟩:=h;exact ⟨v,n,H',I.nT,r,q⟩
theorem PSs.Mi{st:List Stmt}{t:TS}(h:PSs X.Mi st t):PSs X st t:=λGa s σ H D I n =>
 Fe (h Ga s σ H D (I.IT _) n) (λ_ _ q=>q.nT) λ_ _ z=>False.elim z
end
section
variable {X:Cx}{st:Stmt}{Zo:List Stmt}{t u:TS}{e:EN}{te:TE}{pos:Pos}
def sO:TS:=λD σ H=>D.nx σ H
def sL(t u:TS):TS:=λD σ H=>t { D with nx:=u D } σ H
theorem zN:W (PSs X [] sO):={λ_ _ σ H _ I h=>GA {σ,H,I,h}}
theorem ze(h1:W (PS X st t))(h2:W (PSs X Zo u)):W (PSs X (st::Zo) (sL t u)):=by
 refine {?_};have h1:=h1.h;have h2:=h2.h;intro Ga s σ H D I h;refine wpAny_execs_cons (thn (h1 Ga s σ H { D with nx:=u D } I h) λf s1 q=>?_);cases f with
 | next =>
  obtain ⟨n,H',F,q⟩:=q;exact h2 Ga s1 n H' D F q
 | ret v=>exact q
 | brk=>exact q
 | cont=>exact q
theorem pF(h1:PS X st t):PSs X [st] t:=by
 intro Ga s σ H D I h;refine wpAny_execs_cons (thn (h1 Ga s σ H D I h) λf s1 q=>?_);cases f with
 | next=>exact GA q
 | ret v=>exact q
 | brk=>exact q
 | cont=>exact q
theorem Inv.quiet(I:Inv X Ga σ H s):interactive X.env=false:=by simp [interactive,I.ok.kind]
def nL(te:TE):TS:=λD σ H=>te σ H λ_ H1=>D.nx σ H1
theorem dR(he:W (PE X e te))(hs:swapsWith e none pos.line X.env=pure false:=by rfl):W (PS X (.Expr e pos) (nL te)):=by
 refine {?_};have he:=he.h;intro Ga s σ H D I h;exact wpAny_Expr_any (thn (he Ga s σ H _ I h) λv s1=>x5e λx H1 n r1 q1=>{σ,H1,n,q1}) I.quiet hs
def jI(te:TE):TS:=λD σ H=>te σ H D.rt
theorem oG(he:PE X e te):PS X (.Return (some e) pos) (jI te):=by
 intro Ga s σ H D I h;exact wpAny_Return_some (thn (he Ga s σ H _ I h) λv s1=>x5e λx H1 n r1 q1=>{x,σ,H1,n,r1,q1})
def oY(c:TT)(t u:TS):TS:=λD σ H=>c σ H λb H1=>if b=true then t D σ H1 else u D σ H1
theorem zL(hc:W (PT X c tc))(ha:W (PSs X a t))(hb:W (PSs X b u)):W (PS X (.If c a b pos) (oY tc t u)):=by
 refine {?_};have hc:=hc.h;have ha:=ha.h;have hb:=hb.h;intro Ga s σ H D I h;refine wpAny_If (thn (hc Ga s σ H _ I h) λd s1=>x3e λH1 n q1=>?_);cases d with
 | true=>exact ha Ga s1 σ H1 D n q1
 | false=>exact hb Ga s1 σ H1 D n q1
end
abbrev TG:=V->St->Hp->(St->Hp->Prop)->Prop
abbrev TGs:=List V->St->Hp->(St->Hp->Prop)->Prop
def PG(X:Cx)(n:EN)(t:TG):Prop :=
 ∀(Ga:List (Addr×Obj))(s:Eh)(σ:St)(H:Hp)(v:V)(u:Value)(Q:St->Hp->Prop),Inv X Ga σ H s->zh v u->t v σ H Q ->
  Et (Ez X.prog X.w) X.A (assign n X.env u) (λ_ s'=>∃F H',Inv X Ga F H' s'/\Q F H') X.xe s
def PGs(X:Cx)(F:List EN)(t:TGs):Prop :=
 ∀(Ga:List (Addr×Obj))(s:Eh)(σ:St)(H:Hp)(vs:List V)(us:List Value)(Q:St->Hp->Prop),Inv X Ga σ H s->zo vs us->t vs σ H Q ->
  Et (Ez X.prog X.w) X.A (Im ((GR F X.env).map (·.2)) us) (λ_ s'=>∃n H',Inv X Ga n H' s'/\Q n H') X.xe s
abbrev jY:=V->V->V->Hp->(Hp->Prop)->Prop
def ki(X:Cx)(t:jY):Prop :=
 ∀(Ga:List (Addr×Obj))(s:Eh)(σ:St)(H:Hp)(o i v:V)(n F u:Value)(Q:Hp->Prop),Inv X Ga σ H s->zh o n->zh i F->zh v u->t o i v H Q ->
  Et (Ez X.prog X.w) X.A (setItem n F u) (λ_ s'=>∃H',Inv X Ga σ H' s'/\Q H') X.xe s
section
variable {X:Cx}{pos:Pos}
def iL(i:Nat):TG:=λv σ H Q=>Q (σ.set i (some v)) H
theorem zW(hN:X.N.Nodup)(hi:X.N[i]?=some x)(G:Loc X.env.scope x)(n:X.fn x=true\/X.env.scope.names.lookup x=some .local:=by first|exact .inl rfl|exact .inr rfl|assumption):W (PG X (.Name x pos) (iL i)):=by
 refine {?_};intro Ga s σ H v u Q I r h;exact wpAny_assign_Name (fC I hN hi G r (λs' F=>{_,H,F,h}) n)
def pe:TGs:=λvs σ H Q=>vs=[]/\Q σ H
def kQ(t:TG)(u:TGs):TGs:=λvs σ H Q=>∃v r,vs=v::r/\t v σ H λn H'=>u r n H' Q
theorem iV:W (PGs X [] pe):=by
 refine {?_};intro Ga s σ H vs us Q I r h;obtain ⟨e,h⟩:=h;subst e;cases r;exact assignInOrder_nil {σ,H,I,h}
theorem cZ{t:TG}(h1:W (PG X e t))(h2:W (PGs X es u))(hs:(GR (e::es) X.env).map (·.2)=assign e X.env::(GR es X.env).map (·.2):=by rfl):W (PGs X (e::es) (kQ t u)):=by
 refine {?_};have h1:=h1.h;have h2:=h2.h;intro Ga s σ H vs us Q I r h;obtain ⟨v,O,F,h⟩:=h;subst F;cases r with
 | cons r J =>
  rw [hs];refine HZ (thn (h1 Ga s σ H _ _ _ I r h) λ_ s1=>x4e λn H1 G q1=>?_);exact h2 Ga s1 n H1 _ _ Q G J q1
def vy(K:Ei)(n:Nat)(t:TGs):TG:=λv σ H Q=>∃a xs,v = .ref a/\SqT K H a xs/\xs.length=n/\t xs σ H Q
def pD(to n:TE)(t:jY):TG:=λv σ H Q=>to σ H λo H1=>n σ H1 λi H2=>t o i v H2 λH3=>Q σ H3
theorem bR{o i:EN}{t:jY}(ho:W (PE X o to))(hi:W (PE X i G))(hs:ki X t)(ha:∀v,assign (.Subscript o i pos) X.env v=(do
   let n<-GJ [v] (Fx o X.env)
   let F<-GJ [v,n] (Fx i X.env)
   Hy pos
   GJ [v,n,F] (setItem n F v)
   release [v,n,F] []):=by intro _;rfl):W (PG X (.Subscript o i pos) (pD to G t)):=by
 refine {?_};have ho:=ho.h;have hi:=hi.h;intro Ga s σ H v u Q I r h;rw [ha];refine we (E1 (thn (ho Ga s σ H _ I h) λn s1=>x5e λx H1 J r1 q1=>?_));refine we (E1 (thn (hi Ga s1 σ H1 _ J q1) λF s2=>x5e λy H2 Z r2 U=>?_));refine we (FJ (we (E1 (thn (hs Ga s2 σ H2 x y v n F u _ Z r1 r2 r U) λ_ s3=>x3e λH3 S O=>?_))));exact wpAny_release {σ,H3,S,O}
def jz(te:TE)(g:TG):TS:=λD σ H=>te σ H λx H1=>g x σ H1 D.nx
theorem bu(he:W (PE X e te))(n:W (PG X tg g))(hs:swapsWithSole [tg] e pos.line X.env=pure false:=by rfl)(F:swappedStores [tg] e X.env=pure none:=by rfl)(h1:(GR [tg] X.env).map (·.2)=[assign tg X.env]:=by rfl):W (PS X (.Assign [tg] e pos) (jz te g)):=by
 refine {?_};have he:=he.h;have n:=n.h;intro Ga s σ H D I h;refine wpAny_Assign_stores (thn (he Ga s σ H _ I h) λv s1=>x5e λx H1 G r1 q1=>?_) hs F;rw [h1];exact thn (n Ga s1 σ H1 x v _ G r1 q1) λ_ s2 q=>q
theorem zw(hN:X.N.Nodup)(hi:X.N[i]?=some x)(F:Loc X.env.scope x)(he:W (PE X e te))(hs:swapsWith e (some (.Name x YI)) pos.line X.env=pure false:=by rfl)(J:X.fn x=true\/X.env.scope.names.lookup x=some .local:=by first|exact .inl rfl|exact .inr rfl|assumption):W (PS X (.Assign [.Name x YI] e pos) (jz te (iL i))):=by
 refine {?_};have he:=he.h;intro Ga s σ H D I h;refine wpAny_Assign_Name (thn (he Ga s σ H _ I h) λv s1=>x5e λy H1 n r1 q1=>?_) hs;exact fC n hN hi F r1 (λs2 G=>{_,H1,G,q1}) J
def kU(i j:Nat)(ta:TA):TS:=λD σ H=>ta σ H λvs H1=>∃v w,vs=[v,w]/\D.nx ((σ.set i (some v)).set j (some w)) H1
theorem DN{G n pt:Pos}{kt k2 pt2}(hc:X.calm=true)(hN:X.N.Nodup)(hi:X.N[i]?=some x)(hj:X.N[j]?=some y)(F:i≠j)(S:X.env.scope.names.lookup x=some .local)(O:X.env.scope.names.lookup y=some .local)(ha:PA X [a,b] ta)(hw:swappedStores [.Tuple [.Name x G,.Name y n] kt pt] (.Tuple [a,b] k2 pt2) X.env=pure (some [x,y]))(hs:swapsWithSole [.Tuple [.Name x G,.Name y n] kt pt] (.Tuple [a,b] k2 pt2) pos.line X.env=pure false:=by rfl):
  PS X (.Assign [.Tuple [.Name x G,.Name y n] kt pt] (.Tuple [a,b] k2 pt2) pos) (kU i j ta):=by
 intro Ga s σ H D I h;rw [exec_Assign_arm];refine we (FJ ?_);rw [hs];refine we (Ej ?_);rw [if_neg 'd'];refine we (Tuple_ (thn (ha _ Ga s σ H _ I h) λus s1=>x5e λvs H1 I1 r1 q1=>?_));obtain ⟨v,w,e1,q1⟩:=q1;subst e1;obtain ⟨u1,u2,rfl,rv,Yw⟩:∃u1 u2,us=[u1,u2]/\zh v u1/\zh w u2:=by
  cases r1 with
  | cons p q =>
   cases q with
   | cons p' q' =>
    cases q';exact {_,_,rfl,p,p'}
 refine Fo ?_ (by show 2<=sizeLine;decide);have W:Inv X Ga σ H1 { s1 with heap:=s1.heap.push { cls:=.type "tuple",data:=.seq [u1,u2].toArray } }:=I1.kept (t':=s1.toks) λb o e=>El _ e;rw [hw];refine we (Ej ?_);show Et (Ez X.prog X.w) X.A (do rule "assign.swapped-stores";let items<-unpackItems (.ref s1.heap.objs.size) 2 none;Im [λv=>bindName X.env y v,λv=>bindName X.env x v] items.reverse;pure Flow.next) _ _ _;refine we (Hu (we (unpackItems_tuple (items:=#[u1,u2]) (I.ok.hd hc) (IsTup.new s1.heap _) λh' J=>?_)));have Z:=W.kept (h':=h') (t':=s1.toks) λb o e=>J b o (E7 (EM e)) e;show Et _ _ (Im [λv=>bindName X.env y v,λv=>bindName X.env x v] [u2,u1]>>=λ_=>pure Flow.next) _ _ _;refine we (HZ (wpAny_bindName (fC Z hN hj (.inl O) Yw (λs2 I4=>?_) (.inr O))));refine HZ (wpAny_bindName (fC I4 hN hi (.inl S) rv (λs3 U=>assignInOrder_nil (Ej ?_)) (.inr S)));rw [List.set_comm _ _ (Fi F)] at U;exact {_,H1,U,q1}
def j6(c:TT)(tb:TS):TS:=λD σ H=>∃W:Nat->St->Hp->Prop,(∃m,W m σ H)/\∀m σ H,W m σ H ->
 c σ H λb H1=>if b=true then ∃N:St->Hp->Prop,(∀n H',N n H'->∃F,F<m/\W F n H')/\tb { D with nx:=N,ct:=N,bk:=D.nx } σ H1 else D.nx σ H1
theorem oU(hp:Gj (Ez X.prog X.w) X.A X.env X.xe)(hc:W (PT X c tc))(hb:W (PSs X Zn tb)):W (PS X (.While c Zn [] pos) (j6 tc tb)):=by
 refine {?_};have hc:=hc.h;have hb:=hb.h;intro Ga s σ H D I h;obtain ⟨W,⟨m0,w0⟩,O⟩:=h;refine wpAny_While (codeAny_whileLoop (λn s'=>∃J H',Inv X Ga J H' s'/\W n J H') ?_ m0 {σ,H,I,w0});rintro n s1 ⟨G,H1,I1,w1⟩;refine Gh hp (thn (hc Ga s1 G H1 _ I1 (O n G H1 w1)) λb s2=>x3e λH2 I2 U=>?_);cases b with
 | true =>
  obtain ⟨N,hN,U⟩:=U;rw [if_pos rfl];refine Gh hp (thn (hb Ga s2 G H2 _ I2 U) λf s3 S=>?_);cases f with
  | next =>
   obtain ⟨F,H3,I3,n3⟩:=S;obtain ⟨m',hm,Z⟩:=hN F H3 n3;exact ⟨m',hm,F,H3,I3,Z⟩
  | cont =>
   obtain ⟨F,H3,I3,n3⟩:=S;obtain ⟨m',hm,Z⟩:=hN F H3 n3;exact ⟨m',hm,F,H3,I3,Z⟩
  | brk=>exact S
  | ret v=>exact S
 | false =>
  rw [if_neg Eu];exact GA ⟨G,H2,I2,U⟩
end
structure It where
 go:Nat->Hp->Prop
 LU:Nat->Hp->V->Hp->Prop
 stop:Nat->Hp->Prop
def cH(X:Cx)(Ga:List (Addr×Obj))(H:Hp)(b:Addr):Prop :=
 H b=none/\b≠X.env.locals/\b∉X.fs/\(b∈X.ex\/X.s₀.heap.objs.size<=b)/\(∀x c,X.env.cells.lookup x=some c->c≠b)/\∀p∈X.pn++Ga,p.1≠b
theorem Inv.L9(I:Inv X Ga σ H s)(hb:s.heap.objs.size<=b)(n:H' b=none):cH X Ga H' b:=by
 refine {n,Iu (EO I.lt hb),I.Mj hb,.inr (EL I.sz hb),λx c e z=>?_,λp hp z=>?_}
 .obtain ⟨v,q⟩:=I.cell x c e;exact absurd (EO q.lt (by rw [z];exact hb)) (Fb _)
 .exact absurd (EO (EM (I.pin p hp).1) (by rw [z];exact hb)) (Fb _)
structure iO(c:Bool)(P:Eo)(w:EG)(K:Ei)(tg:EN)(J:It)(fp:List Addr)(it:Addr)(tn:Nat->Heap->Prop):Prop where
 mem:it∈fp
 obj:∀i h,tn i h->∀b∈fp,∃o,h.get? b=some o/\∀v,o.data≠.cell v
 keep:∀i h h',tn i h->(∀b∈fp,∀o,h.get? b=some o->h'.get? b=some o)->tn i h'
 item:∀(X:Cx),X.prog=P->X.w=w->X.K=K->(c=true->X.calm=true)->∀(i:Nat)(Ga:List (Addr×Obj))(s:Eh)(σ:St)(H:Hp)(E:Value->Eh->Prop),Inv X Ga σ H s->(∀b∈fp,cH X Ga H b)->tn i s.heap->J.go i H ->
  Et (Ez P w) X.A (Il (.ref it)) (λr s1=>∃u,r=some u /\
   Et (Ez P w) X.A (GD tg (.ref it) u) (λ_ s2=>∃x H',Inv X Ga σ H' s2/\zh x u/\J.LU i H x H'/\tn (i+1) s2.heap/\∀b∈fp,H' b=none) E s1) E s
 done:∀(X:Cx),X.prog=P->X.w=w->X.K=K->(c=true->X.calm=true)->∀(i:Nat)(Ga:List (Addr×Obj))(s:Eh)(σ:St)(H:Hp)(E:Value->Eh->Prop),Inv X Ga σ H s->(∀b∈fp,cH X Ga H b)->tn i s.heap->J.stop i H ->
  Et (Ez P w) X.A (Il (.ref it)) (λr s1=>r=none/\Inv X Ga σ H s1) E s
 self:∀(A:EB)(i:Nat)(s:Eh)(Q:Value->Eh->Prop)(E:Value->Eh->Prop),tn i s.heap->Q (.ref it) s->Et (Ez P w) A (pyIter (.ref it)) Q E s
abbrev TI:=St->Hp->(It->Hp->Prop)->Prop
def PIE(c:Bool)(X:Cx)(Ga:List (Addr×Obj))(σ:St)(tg:EN)(R:It->Hp->Prop)(n:Value)(s2:Eh):Prop :=
 ∃(it:Addr)(fp:List Addr)(F:Nat->Heap->Prop)(J:It)(H':Hp),n = .ref it/\Inv X Ga σ H' s2/\iO c X.prog X.w X.K tg J fp it F/\F 0 s2.heap/\(∀b∈fp,cH X Ga H' b)/\R J H'
def PIc(c:Bool)(X:Cx)(tg iter:EN)(wi:TI):Prop :=
 ∀(Ga:List (Addr×Obj))(s:Eh)(σ:St)(H:Hp)(R:It->Hp->Prop),Inv X Ga σ H s->wi σ H R ->
  Et (Ez X.prog X.w) X.A (Fx iter X.env) (λv s1=>Et (Ez X.prog X.w) X.A (pyIter v) (PIE c X Ga σ tg R) X.xe s1) X.xe s
abbrev PI:=PIc true
theorem mE{o:Obj}(ho:s.heap.get? it=some o)(hc:o.cls = .type n)(hd:o.data = .fields vs)(G:["enumerate","zip","dict_itemiterator","dict_reverseitemiterator","odict_iterator","itertools.zip_longest","itertools.pairwise"].contains n=false)(F:Q () s):Et M A (GD tg (.ref it) u) Q E s:=by
 unfold GD;cases tg<;>first
  | exact Ej F
  | (cases u<;>first
    | exact Ej F
    | (refine we (wpAny_load ho ?_)
       rw [hc, hd];show Et M A (if (["enumerate", "zip", "dict_itemiterator", "dict_reverseitemiterator", "odict_iterator", "itertools.zip_longest", "itertools.pairwise"].contains n && vs[0]? == some (Gu _)) = true then _ else _) Q E s;rw [if_neg (by intro h; rw [G, Ie] at h; cases h)];exact Ej F))
def Itl(K:Ei)(a:Addr):It :=
 {λi H=>∃xs x,SqL K H a xs/\xs[i]?=some x,λi H x H'=>H'=H/\∀xs,SqL K H a xs->xs[i]?=some x,λi H=>∃xs,SqL K H a xs/\xs.length<=i}
def Itr(lo:Int)(n:Nat):It:={λi _=>i<n,λi H x H'=>H'=H/\x = .int (lo+i),λi _=>n<=i}
theorem BB{P:Eo}{w:EG}{K:Ei}{tg:EN}(a it:Addr):iO true P w K tg (Itl K a) [it] it (λi h=>h.IsListIter it a i) where
 mem:=by simp
 obj:=λi h st b hb=>by
  have e:b=it:=by simpa using hb
  subst e;obtain ⟨o,e,c,d⟩:=st;exact {o,e,λv z=>by rw [d] at z;cases z}
 keep:=λi h h' st k=>st.at λo e=>k it 's' o e
 item:=by
  intro X Z S G hc i Ga s σ H E I F st hg;subst Z S G;obtain ⟨xs,x,n,J⟩:=hg;obtain ⟨Z7,rv,p,hz⟩:=I.list n;obtain ⟨u,hu,ru⟩:=rv.get J;obtain ⟨W,f1,f2,f3,O,U⟩:=F it 's';refine wpAny_pyNext_list_item st p.isList (x:=u) (by simpa using hu) λh' Yo sb=>?_;have I1:Inv X Ga σ H { s with heap:=h' }:=I.turned (t':=s.toks) (λb o hb e=>(sb.2 b hb).trans e) W f1 f3 O U;obtain ⟨o,e,c,d⟩:=id Yo;exact {u,rfl,mE (s:={ s with heap:=h' }) e c d 'd' {x,H,I1,ru,{rfl,λys hy=>by rw [I.Lv hy n];exact J},Yo,λb hb=>(F b hb).1}}
 done:=by
  intro X Z S G hc i Ga s σ H E I F st hg;subst Z S G;obtain ⟨xs,n,J⟩:=hg;obtain ⟨Z7,rv,p,hz⟩:=I.list n;obtain ⟨W,f1,f2,f3,O,U⟩:=F it 's';have hl:=rv.length;exact wpAny_pyNext_list_end (I.ok.hd (hc rfl)) st p.isList (by simp;lia) λh' eb=>{rfl,I.turned (t':=s.toks) (λb o hb e=>eb b o hb e) W f1 f3 O U}
 self:=λ_ _ _ _ _ st h=>wpAny_pyIter_listiter st h
theorem D4{P:Eo}{w:EG}{K:Ei}{tg:EN}(it:Addr)(lo:Int)(n:Nat):iO true P w K tg (Itr lo n) [it] it (λi h=>IsRangeIter h it (lo+(i:Nat)*1) ((n:Int)-(i:Nat)) 1) where
 mem:=by simp
 obj:=λi h st b hb=>by
  have e:b=it:=by simpa using hb
  subst e;exact {_,st,λv z=>by
   have z':Data.fields _=Data.cell v:=z;cases z'}
 keep:=λi h h' st k=>k it 's' _ st
 item:=by
  intro X J U G hc i Ga s σ H E I F st hg;subst J U G;obtain ⟨f0,f1,f2,S,O,Z⟩:=F it 's';have W:=Walks.range (prog:=X.prog) (w:=X.w) (I.ok.hd (hc rfl)) it lo 1 n;refine W.item i s _ _ hg st λv h' tk hv Yo kk=>?_;obtain ⟨t,rfl⟩:=hv;have I1:Inv X Ga σ H { s with heap:=h',toks:=tk }:=I.turned (λb o hb e=>kk b o (by simpa using hb) e) f0 f1 S O Z;refine {_,rfl,mE (s:={ s with heap:=h',toks:=tk }) (n:="range_iterator") Yo rfl rfl 'd' {.int (lo+i),H,I1,{t,?_},{rfl,rfl},Yo,λb hb=>(F b hb).1}};rw [Int.mul_one]
 done:=by
  intro X J U G hc i Ga s σ H E I F st hg;subst J U G;obtain ⟨f0,f1,f2,S,O,Z⟩:=F it 's';exact wpAny_pyNext_range_end (I.ok.hd (hc rfl)) st (by have:n<=i:=hg;lia) λh' eb=>{rfl,I.turned (t':=s.toks) (λb o hb e=>eb b o hb e) f0 f1 S O Z}
 self:=λ_ _ _ _ _ st h=>wpAny_pyIter_rangeiter st h
section
variable {X:Cx}{tg:EN}
def jb(K:Ei)(tl:TE):TI:=λσ H R=>tl σ H λx H1=>∃a,x = .ref a/\(∃xs,SqL K H1 a xs)/\R (Itl K a) H1
theorem cY(F:W (PE X l tl)):W (PI X tg l (jb X.K tl)):=by
 refine {?_};have F:=F.h;intro Ga s σ H R I h;refine thn (F Ga s σ H _ I h) λv s1=>x5e λx H1 n r1 q1=>?_;obtain ⟨a,e,⟨xs,G⟩,q⟩:=q1;subst e;cases r1;obtain ⟨J,O,p,S⟩:=n.list G;refine Hh p.isList ?_;refine {s1.heap.objs.size,[s1.heap.objs.size],_,_,H1,rfl,n.kept (t':=s1.toks) λb o e=>El _ e,BB a _,{_,EW _ rfl,rfl,rfl},λb hb=>?_,q};have e:b=s1.heap.objs.size:=by simpa using hb
 subst e;exact n.L9 (EF _) (n.hok.fresh (EF _))
theorem xF{lo hi:Int}{t u v:Tok}(I:Inv X Ga σ H s)(h1 : -(2 ^ 62)<=lo)(h2:lo<2 ^ 62)(h3 : -(2 ^ 62)<=hi)(h4:hi<2 ^ 62)(q:R (Itr lo (hi-lo).toNat) H):Et (Ez X.prog X.w) X.A (pyIter (.ref s.heap.objs.size)) (PIE true X Ga σ tg R) E { s with heap:=s.heap.push { cls:=.type "range",data:=.fields #[.int lo t,.int hi u,.int 1 v] },toks:=tk }:=by
 refine wpAny_pyIter_range (IsRange.new ..) (small_one h1 h2 h3 h4) ?_;have n:Inv X Ga σ H { s with heap:=s.heap.push { cls:=.type "range",data:=.fields #[.int lo t,.int hi u,.int 1 v] },toks:=tk }:=I.kept λb o e=>El _ e;refine {(s.heap.push { cls:=.type "range",data:=.fields #[.int lo t,.int hi u,.int 1 v] }).objs.size,[(s.heap.push { cls:=.type "range",data:=.fields #[.int lo t,.int hi u,.int 1 v] }).objs.size],_,_,H,rfl,
  n.kept (t':=tk) λb o e=>El _ e,D4 _ lo (hi-lo).toNat,?_,λb hb=>?_,q}
 .have F:lo+((0:Nat):Int)*1=lo:=by simp
  have G:(((hi-lo).toNat:Nat):Int)-((0:Nat):Int)=EE.Range.rangeSize lo hi 1:=by rw [rangeSize_one];split<;>lia
  show IsRangeIter _ _ (lo+((0:Nat):Int)*1) ((((hi-lo).toNat:Nat):Int)-((0:Nat):Int)) 1;rw [F,G];exact EW _ rfl
 .have e:b=(s.heap.push { cls:=.type "range",data:=.fields #[.int lo t,.int hi u,.int 1 v] }).objs.size:=by simpa using hb
  subst e;exact n.L9 (EF _) (n.hok.fresh (EF _))
def j7(ta:TA):TI:=λσ H R=>ta σ H λvs H1=>∃j:Int,vs=[.int j]/\-(2 ^ 62)<=j/\j<2 ^ 62/\R (Itr 0 j.toNat) H1
theorem vY{p pos:Pos}(G:Gl X "range")(hm:X.mg "range"=none)(ha:PA X [a] ta)(hs:EH [a] X.env=[(false,Fx a X.env)]:=by rfl):PI X tg (.Call (.Name "range" p) [a] [] pos) (j7 ta):=by
 intro Ga s σ H R I h;refine Call_ (ja I G hm boot_range (HK (thn (ha pos Ga s σ H _ I h) λus s1=>x5e λvs H1 n r1 q1=>?_) hs rfl));obtain ⟨j,e,q1,J,q⟩:=q1;subst e;cases r1 with
 | cons r F =>
  cases F;obtain ⟨t,rfl⟩:=r;exact call_range_1 (xF n 'l' 'l' q1 J (by simpa using q))
def sX(wi:TI)(g:TG)(tb:TS):TS:=λD σ H=>wi σ H λJ H1=>∃W:Nat->Nat->St->Hp->Prop,(∃m,W 0 m σ H1)/\∀i m σ H,W i m σ H ->
 (J.stop i H/\D.nx σ H)\/(J.go i H/\∃N:St->Hp->Prop,(∀n H',N n H'->∃G,G<m/\W (i+1) G n H')/\∀x H',J.LU i H x H'->g x σ H' λF H2=>tb { D with nx:=N,ct:=N,bk:=D.nx } F H2)
def fN(fp:List Addr)(h:Heap):List (Addr×Obj):=fp.filterMap λb=>(h.get? b).map λo=>(b,o)
theorem iw{o:Obj}(hb:b∈fp)(e:h.get? b=some o):(b,o)∈fN fp h:=G7.mpr {b,hb,by rw [e];rfl}
theorem CL{p:Addr×Obj}(hp:p∈fN fp h):p.1∈fp/\h.get? p.1=some p.2:=by
 obtain ⟨b,hb,e⟩:=G7.mp hp;cases q:h.get? b with
 | none=>rw [q] at e;cases e
 | some o =>
  rw [q] at e;have n:(b,o)=p:=E8.inj e;subst n;exact ⟨hb,q⟩
theorem Inv.pinned(I:Inv X Ga σ H s)(F:∀b∈fp,cH X Ga H b)(ho:∀b∈fp,∃o,s.heap.get? b=some o/\∀v,o.data≠.cell v):Inv X (Ga++fN fp s.heap) σ H s :=
 I.vx λp hp=>(Ff.mp hp).elim (λz=>I.pin p (ET _ z)) λz=>by
  obtain ⟨hb,e⟩:=CL z;obtain ⟨O,J,G,_⟩:=F p.1 hb;obtain ⟨o,n,d⟩:=ho p.1 hb;rw [e] at n;cases n;exact ⟨e,O,J,G,d⟩
theorem Inv.vr(I:Inv X (Ga++pl) σ H s):Inv X Ga σ H s:=I.vx λp hp=>I.pin p (ET _ (Gi _ hp))
theorem bW(hp:Gj (Ez X.prog X.w) X.A X.env X.xe)(hc:c=true->X.calm=true)(hi:W (PIc c X tg iter wi))(hg:W (PG X tg g))(hb:W (PSs X Zn tb))(hs:∀x,Hn iter X.env x=pure x:=by intro _;rfl):W (PS X (.For tg iter Zn [] pos) (sX wi g tb)):=by
 refine {?_};have hi:=hi.h;have hg:=hg.h;have hb:=hb.h;intro Ga s σ H D I h;refine wpAny_For (thn (hi Ga s σ H _ I h) λv s1 h1=>thn h1 λa5 s2 h2=>?_) hs;obtain ⟨it,fp,tn,J,H2,e,I2,T,a3,f2,W,⟨m0,w0⟩,ax⟩:=h2;subst e;have O:∀{H':Hp},(∀b∈fp,H' b=none)->∀b∈fp,cH X Ga H' b:=λhn b hb=>{hn b hb,(f2 b hb).2};refine codeAny_forLoop_any (λn s'=>∃i G H',Inv X Ga G H' s'/\tn i s'.heap/\(∀b∈fp,H' b=none)/\W i n G H') ?_ m0 {0,σ,H2,I2,a3,λb hb=>(f2 b hb).1,w0};rintro n s3 ⟨i,S,H3,I3,av,ak,w3⟩;rcases ax i n S H3 w3 with ⟨stop,qn⟩|⟨go,N,hN,step⟩
 .refine Gh hp (thn (T.done X rfl rfl rfl hc i Ga s3 S H3 X.xe I3 (O ak) av stop) λr s4=>x2e λhr I4=>?_);subst hr;exact GA ⟨S,H3,I4,qn⟩
 .refine Gh hp (thn (T.item X rfl rfl rfl hc i Ga s3 S H3 X.xe I3 (O ak) av go) λr s4=>x3e λu hr h4=>?_);subst hr;refine Gh hp (thn h4 λ_ s5=>x5e λx H5 I5 r5 Yv=>?_);obtain ⟨y5,ag,aI⟩:=Yv;have a0:=I5.pinned (O aI) (T.obj _ _ ag);refine Gh hp (thn (hg _ s5 S H5 x u _ a0 r5 (step x H5 y5)) λ_ s6=>x4e λa4 H6 I6 q6=>?_);refine Gh hp (thn (hb _ s6 a4 H6 _ I6 q6) λf s7 Z=>?_);have again:∀{F:St}{H7:Hp},Inv X (Ga++fN fp s5.heap) F H7 s7->N F H7->∃m,m<n/\∃i G H',Inv X Ga G H' s7/\tn i s7.heap/\(∀b∈fp,H' b=none)/\W i m G H':=λ{F H7} U n7=>by
   obtain ⟨m',hm,w7⟩:=hN F H7 n7;refine {m',hm,i+1,F,H7,U.vr,T.keep _ _ _ ag λb hb o e=>(U.pin (b,o) (ET _ (ET _ (iw hb e)))).1,λb hb=>?_,w7};obtain ⟨o,e,d⟩:=T.obj _ _ ag b hb;exact (U.pin (b,o) (ET _ (ET _ (iw hb e)))).2.1
  cases f with
  | next=>obtain ⟨F,H7,U,n7⟩:=Z;exact again U n7
  | cont=>obtain ⟨F,H7,U,n7⟩:=Z;exact again U n7
  | brk=>obtain ⟨F,H7,U,Z⟩:=Z;exact ⟨F,H7,U.vr,Z⟩
  | ret v=>obtain ⟨x7,F,H7,U,r7,Z⟩:=Z;exact ⟨x7,F,H7,U.vr,r7,Z⟩
end
theorem vF{K:Ei}{g:TG}{tb:TS}{D:aE}(n:Nat->St->Hp->Prop)(S:n 0 σ H)(U:∀i σ H,i<=xs.length->n i σ H->SqL K H a xs)(hs:∀i x σ H,xs[i]?=some x->n i σ H->g x σ H λG H2=>tb { D with nx:=n (i+1),ct:=n (i+1),bk:=D.nx } G H2)(hd:∀σ H,n xs.length σ H->D.nx σ H):
  ∃W:Nat->Nat->St->Hp->Prop,(∃m,W 0 m σ H)/\∀i m σ H,W i m σ H ->
   ((Itl K a).stop i H/\D.nx σ H)\/((Itl K a).go i H/\∃N:St->Hp->Prop,(∀F H',N F H'->∃J,J<m/\W (i+1) J F H')/\∀x H',(Itl K a).LU i H x H'->g x σ H' λG H2=>tb { D with nx:=N,ct:=N,bk:=D.nx } G H2):=by
 refine {λi m σ H=>m=xs.length-i/\i<=xs.length/\n i σ H,{xs.length,'s',Gr _,S},?_};rintro i m σ H ⟨rfl,hi,p⟩;have q:=U i σ H hi p;by_cases O:i<xs.length
 .refine .inr {{xs,xs[i],q,by simp [O]},n (i+1),λF H' Z=>{xs.length-(i+1),'l',rfl,O,Z},λx H' y=>?_};obtain ⟨e,y⟩:=y;subst e;exact hs i x σ _ (y xs q) p
 .have e:i=xs.length:=by lia
  subst e;exact .inl {{xs,q,EF _},hd σ H p}
theorem yF{lo:Int}{g:TG}{tb:TS}{D:aE}(J:Nat->St->Hp->Prop)(U:J 0 σ H)(hs:∀i σ H,i<n->J i σ H->g (.int (lo+i)) σ H λG H2=>tb { D with nx:=J (i+1),ct:=J (i+1),bk:=D.nx } G H2)(hd:∀σ H,J n σ H->D.nx σ H):
  ∃W:Nat->Nat->St->Hp->Prop,(∃m,W 0 m σ H)/\∀i m σ H,W i m σ H ->
   ((Itr lo n).stop i H/\D.nx σ H)\/((Itr lo n).go i H/\∃N:St->Hp->Prop,(∀F H',N F H'->∃S,S<m/\W (i+1) S F H')/\∀x H',(Itr lo n).LU i H x H'->g x σ H' λG H2=>tb { D with nx:=N,ct:=N,bk:=D.nx } G H2):=by
 refine {λi m σ H=>m=n-i/\i<=n/\J i σ H,{n,'s',Gr _,U},?_};rintro i m σ H ⟨rfl,hi,p⟩;by_cases O:i<n
 .refine .inr {O,J (i+1),λF H' Z=>{n-(i+1),'l',rfl,O,Z},λx H' y=>?_};obtain ⟨e,y⟩:=y;subst e y;exact hs i σ _ O p
 .have e:i=n:=by lia
  subst e;exact .inl {EF _,hd σ H p}
abbrev R2:=V->V->Hp->VK->Prop
def OpR(X:Cx)(f:Value->Value->Sem Value)(r:R2):Prop :=
 ∀(Ga:List (Addr×Obj))(s:Eh)(σ:St)(H:Hp)(x y:V)(v u:Value)(Q:VK),Inv X Ga σ H s->zh x v->zh y u->r x y H Q ->
  Et (Ez X.prog X.w) X.A (f v u) (EP X Ga σ Q) X.xe s
def zM(X:Cx)(f:Value)(r:List V->Hp->VK->Prop):Prop :=
 ∀(Ga:List (Addr×Obj))(s:Eh)(σ:St)(H:Hp)(xs:List V)(us:List Value)(Q:VK),Inv X Ga σ H s->zo xs us->r xs H Q ->
  Et (Ez X.prog X.w) X.A (call f us) (EP X Ga σ Q) X.xe s
def B2(X:Cx)(r:V->Hp->(Bool->Hp->Prop)->Prop):Prop :=
 ∀(Ga:List (Addr×Obj))(s:Eh)(σ:St)(H:Hp)(x:V)(v:Value)(Q:Bool->Hp->Prop),Inv X Ga σ H s->zh x v->r x H Q ->
  Et (Ez X.prog X.w) X.A (truthy v) (TP X Ga σ Q) X.xe s
def tOp(r:R2)(ta tb:TE):TE:=λσ H Q=>ta σ H λx H1=>tb σ H1 λy H2=>r x y H2 Q
def rI(C:Int->Int->Prop)(g:Int->Int->V):R2:=λx y H Q=>∃i j,x = .int i/\y = .int j/\C i j/\Q (g i j) H
def rI0(g:Int->Int->V):R2:=λx y H Q=>∃i j,x = .int i/\y = .int j/\Q (g i j) H
section
variable {X:Cx}{a b c:EN}{ta tb tc:TE}{pos:Pos}
theorem mw(ha:PE X a ta)(hb:PE X b tb){R:V->V->Hp->Prop}(I:Inv X Ga σ H s)(h:ta σ H λx H1=>tb σ H1 λy H2=>R x y H2){f:Value->Value->Sem Value}(F:∀v u s2 x y H2,Inv X Ga σ H2 s2->zh x v->zh y u->R x y H2->Et (Ez X.prog X.w) X.A (f v u) Q X.xe s2):
  Et (Ez X.prog X.w) X.A (Fx a X.env) (λv s₁=>Et (Ez X.prog X.w) X.A (Fx b X.env) (λu n=>Et (Ez X.prog X.w) X.A (f v u) Q X.xe n) X.xe s₁) X.xe s:=by
 refine thn (ha Ga s σ H _ I h) λv s1=>x5e λx H1 G r1 q1=>?_;refine thn (hb Ga s1 σ H1 _ G q1) λu s2=>x5e λy H2 O r2 J=>?_;exact F v u s2 x y H2 O r1 r2 J
theorem zx{r:R2}(ho:OpR X (FP op) r)(ha:W (PE X a ta))(hb:W (PE X b tb)):W (PE X (.BinOp a op b pos) (tOp r ta tb)):=by
 refine {?_};have ha:=ha.h;have hb:=hb.h;intro Ga s σ H Q I h;exact wpAny_BinOp (mw ha hb I h λv u s2 x y H2 G n F q=>ho Ga s2 σ H2 x y v u Q G n F q)
theorem opI{g:Int->Int->Int}(rule:∀(i j:Int)(t u:Tok)(s:Eh)(Q:Value->Eh->Prop)(E:Value->Eh->Prop),C i j->Q (.int (g i j) s.toks) { s with toks:=s.toks+1 }->Et (Ez X.prog X.w) X.A (f (.int i t) (.int j u)) Q E s):
  OpR X f (rI C λi j=>.int (g i j)):=by
 intro Ga s σ H x y v u Q I n F h;obtain ⟨i,j,rfl,rfl,hc,q⟩:=h;obtain ⟨t,rfl⟩:=n;obtain ⟨t',rfl⟩:=F;exact rule i j t t' s _ _ hc {.int (g i j),H,I.tok _,{_,rfl},q}
theorem nP{g:Int->Int->Int}(rule:∀(i j:Int)(t u:Tok)(s:Eh)(Q:Value->Eh->Prop)(E:Value->Eh->Prop),Q (.int (g i j) s.toks) { s with toks:=s.toks+1 }->Et (Ez X.prog X.w) X.A (f (.int i t) (.int j u)) Q E s):
  OpR X f (rI0 λi j=>.int (g i j)):=by
 intro Ga s σ H x y v u Q I n F h;obtain ⟨i,j,rfl,rfl,q⟩:=h;obtain ⟨t,rfl⟩:=n;obtain ⟨t',rfl⟩:=F;exact rule i j t t' s _ _ {.int (g i j),H,I.tok _,{_,rfl},q}
theorem iX{g:Int->Int->Bool}(rule:∀(i j:Int)(t u:Tok)(s:Eh)(Q:Value->Eh->Prop)(E:Value->Eh->Prop),Q (.bool (g i j)) s->Et (Ez X.prog X.w) X.A (f (.int i t) (.int j u)) Q E s):
  OpR X f (rI0 λi j=>.bl (g i j)):=by
 intro Ga s σ H x y v u Q I n F h;obtain ⟨i,j,rfl,rfl,q⟩:=h;obtain ⟨t,rfl⟩:=n;obtain ⟨t',rfl⟩:=F;exact rule i j t t' s _ _ {.bl (g i j),H,I,rfl,q}
def Ad(i j:Int):Prop:=0<j/\j<1073741824
def w8(i j:Int):Prop:=0<=j/\j<=1000000/\i.natAbs<2 ^ 64
def fu(i j:Int):Prop:=(-(2 ^ 64)<i/\i<2 ^ 64)\/(-(2 ^ 64)<j/\j<2 ^ 64)
theorem fu.ok(h:fu i j):IntMulOk i j:=by
 rcases h with ⟨h1,h2⟩|⟨h1,h2⟩
 .exact .of_left (intBits_le_64 h1 h2)
 .exact .of_right (intBits_le_64 h1 h2)
theorem uk:OpR X (FP .Add) (rI0 λi j=>.int (i+j)):=nP λ_ _ _ _ _ _ _ q=>add_int q
theorem fM:OpR X (FP .Sub) (rI0 λi j=>.int (i-j)):=nP λ_ _ _ _ _ _ _ q=>sub_int q
theorem Ck:OpR X (FP .Mult) (rI fu λi j=>.int (i*j)):=opI λ_ _ _ _ _ _ _ hc q=>mul_int q hc.ok
theorem Dg:OpR X (FP .FloorDiv) (rI Ad λi j=>.int (i / j)):=opI λi j _ _ _ _ _ hc q=>by
 have h1:(0:Int)<j:=hc.1;have h2:j<1073741824:=hc.2;exact floordiv_int 'l' (by rw [Int.fdiv_eq_ediv_of_nonneg i 'l'];exact q) (.inl (PyProof.noPylong_small 'l'))
theorem gn:OpR X (FP .Mod) (rI (λ_ j=>0<j) λi j=>.int (i % j)):=opI λi j _ _ _ _ _ hc q=>by
 have h1:(0:Int)<j:=hc;exact mod_int' 'l' (by rw [Int.fmod_eq_emod_of_nonneg i 'l'];exact q)
theorem tP:OpR X (FP .Pow) (rI w8 λi j=>.int (i ^ j.toNat)):=opI λ_ _ _ _ _ _ _ hc q=>pow_int_small hc.1 hc.2.1 hc.2.2 q
def d4:V->V->Bool
 | .non,.non=>true | .non,.int _=>true | .int _,.non=>true | .non,.bl _=>true | .bl _,.non=>true | .non,.str _=>true | .str _,.non=>true
 | .int _,.int _=>true | .bl _,.bl _=>true | .str _,.str _=>true | .byt _,.byt _=>true
 | .int _,.str _=>true | .str _,.int _=>true | .bl _,.str _=>true | .str _,.bl _=>true
 | _,_=>false
def rEq:R2:=λx y H Q=>d4 x y=true/\Q (.bl (decide (x=y))) H
def rNe:R2:=λx y H Q=>d4 x y=true/\Q (.bl (!decide (x=y))) H
theorem qQ:decide (V.int i=V.int j)=(i==j):=by
 rw [FO];simp
theorem oX:decide (V.bl i=V.bl j)=(i==j):=by
 rw [FO];simp
theorem sV:decide (V.str i=V.str j)=(i==j):=by
 rw [FO];simp
theorem nU:decide (V.byt i=V.byt j)=(i.toList==j.toList):=by
 rw [FO];cases i;cases j;simp
theorem zI{k k':Bool}(I:Inv X Ga σ H s)(q:Q (.bl k) H)(e:k=k'):EP X Ga σ Q (.bool k') s:=by
 subst e;exact {.bl k,H,I,rfl,q}
theorem vP:OpR X (E4 .Eq) rEq:=by
 intro Ga s σ H x y v u Q I F n h;obtain ⟨hs,q⟩:=h;cases x with
 | non =>
  cases F;cases y with
  | non=>cases n;exact PySem.EqNone.eq_none_none (zI I q 's')
  | bl j=>cases n;exact PySem.EqNone.eq_none_bool (zI I q 's')
  | int j=>obtain ⟨t',rfl⟩:=n;exact PySem.EqNone.eq_none_int (zI I q 's')
  | str j=>obtain ⟨t',rfl⟩:=n;exact PySem.EqNone.eq_none_str (zI I q 's')
  | _=>exact absurd (show false=true from hs) Eu
 | bl i =>
  cases F;cases y with
  | non=>cases n;exact PySem.EqNone.eq_bool_none (zI I q 's')
  | bl j=>cases n;exact eq_bool (zI I q oX)
  | str j=>obtain ⟨t',rfl⟩:=n;exact PySem.EqMixed.eq_bool_str (zI I q 's')
  | _=>exact absurd (show false=true from hs) Eu
 | int i =>
  obtain ⟨t,rfl⟩:=F;cases y with
  | non=>cases n;exact PySem.EqNone.eq_int_none (zI I q 's')
  | int j=>obtain ⟨t',rfl⟩:=n;exact eq_int (zI I q qQ)
  | str j=>obtain ⟨t',rfl⟩:=n;exact PySem.EqMixed.eq_int_str (zI I q 's')
  | _=>exact absurd (show false=true from hs) Eu
 | str i =>
  obtain ⟨t,rfl⟩:=F;cases y with
  | non=>cases n;exact PySem.EqNone.eq_str_none (zI I q 's')
  | bl j=>cases n;exact PySem.EqMixed.eq_str_bool (zI I q 's')
  | int j=>obtain ⟨t',rfl⟩:=n;exact PySem.EqMixed.eq_str_int (zI I q 's')
  | str j=>obtain ⟨t',rfl⟩:=n;exact eq_str (zI I q sV)
  | _=>exact absurd (show false=true from hs) Eu
 | byt i =>
  obtain ⟨t,rfl⟩:=F;cases y with
  | byt j=>obtain ⟨t',rfl⟩:=n;exact PySem.W.eq_bytes (zI I q nU)
  | _=>exact absurd (show false=true from hs) Eu
 | _=>cases y<;>exact absurd (show false=true from hs) Eu
theorem u9:OpR X (E4 .NotEq) rNe:=by
 intro Ga s σ H x y v u Q I F n h;obtain ⟨hs,q⟩:=h;cases x with
 | non =>
  cases F;cases y with
  | non=>cases n;exact PySem.EqNone.ne_none_none (zI I q 's')
  | bl j=>cases n;exact PySem.EqNone.ne_none_bool (zI I q 's')
  | int j=>obtain ⟨t',rfl⟩:=n;exact PySem.EqNone.ne_none_int (zI I q 's')
  | str j=>obtain ⟨t',rfl⟩:=n;exact PySem.EqNone.ne_none_str (zI I q 's')
  | _=>exact absurd (show false=true from hs) Eu
 | bl i =>
  cases F;cases y with
  | non=>cases n;exact PySem.EqNone.ne_bool_none (zI I q 's')
  | bl j=>cases n;exact ne_bool (zI I q (congrArg not oX))
  | str j=>obtain ⟨t',rfl⟩:=n;exact PySem.EqMixed.ne_bool_str (zI I q 's')
  | _=>exact absurd (show false=true from hs) Eu
 | int i =>
  obtain ⟨t,rfl⟩:=F;cases y with
  | non=>cases n;exact PySem.EqNone.ne_int_none (zI I q 's')
  | int j=>obtain ⟨t',rfl⟩:=n;exact ne_int (zI I q (congrArg not qQ))
  | str j=>obtain ⟨t',rfl⟩:=n;exact PySem.EqMixed.ne_int_str (zI I q 's')
  | _=>exact absurd (show false=true from hs) Eu
 | str i =>
  obtain ⟨t,rfl⟩:=F;cases y with
  | non=>cases n;exact PySem.EqNone.ne_str_none (zI I q 's')
  | bl j=>cases n;exact PySem.EqMixed.ne_str_bool (zI I q 's')
  | int j=>obtain ⟨t',rfl⟩:=n;exact PySem.EqMixed.ne_str_int (zI I q 's')
  | str j=>obtain ⟨t',rfl⟩:=n;exact ne_str (zI I q (congrArg not sV))
  | _=>exact absurd (show false=true from hs) Eu
 | byt i =>
  obtain ⟨t,rfl⟩:=F;cases y with
  | byt j=>obtain ⟨t',rfl⟩:=n;exact PySem.W.ne_bytes (zI I q (congrArg not nU))
  | _=>exact absurd (show false=true from hs) Eu
 | _=>cases y<;>exact absurd (show false=true from hs) Eu
theorem gJ:OpR X (E4 .Lt) (rI0 λi j=>.bl (decide (i<j))):=iX λ_ _ _ _ _ _ _ q=>lt_int q
theorem fR:OpR X (E4 .LtE) (rI0 λi j=>.bl (decide (i<=j))):=iX λ_ _ _ _ _ _ _ q=>le_int q
theorem gY:OpR X (E4 .Gt) (rI0 λi j=>.bl (decide (j<i))):=iX λ_ _ _ _ _ _ _ q=>gt_int q
theorem jg:OpR X (E4 .GtE) (rI0 λi j=>.bl (decide (j<=i))):=iX λ_ _ _ _ _ _ _ q=>ge_int q
theorem AF:OpR X (E4 .In) (λx y H Q=>∃i j,x = .str i/\y = .str j/\Q (.bl (!(EE.Str.occurrences j i 0 j.length 1).isEmpty)) H):=by
 intro Ga s σ H x y v u Q I n F h;obtain ⟨i,j,rfl,rfl,q⟩:=h;obtain ⟨t,rfl⟩:=n;obtain ⟨t',rfl⟩:=F;exact in_str (zI I q rfl)
theorem AR:OpR X (E4 .Is) (λx y H Q=>y = .non/\Q (.bl (decide (x = .non))) H):=by
 intro Ga s σ H x y v u Q I n F h;obtain ⟨rfl,q⟩:=h;cases F;refine is_none_gen (zI I q ?_);cases x<;>first
  | (cases n;rfl)
  | (obtain ⟨t,rfl⟩:=n;rfl)
theorem wx:OpR X (E4 .IsNot) (λx y H Q=>y = .non/\Q (.bl (!decide (x = .non))) H):=by
 intro Ga s σ H x y v u Q I n F h;obtain ⟨rfl,q⟩:=h;cases F;refine isnot_none_gen (zI I q ?_);cases x<;>first
  | (cases n;rfl)
  | (obtain ⟨t,rfl⟩:=n;rfl)
theorem OpR.or{r r':R2}(h:OpR X f r)(h':OpR X f r'):OpR X f (λx y H Q=>r x y H Q\/r' x y H Q):=by
 intro Ga s σ H x y v u Q I n F q;rcases q with q|q
 .exact h Ga s σ H x y v u Q I n F q
 .exact h' Ga s σ H x y v u Q I n F q
theorem zF(b:EN)(h:op≠.In:=by decide)(h2:op≠.NotIn:=by decide):HA op b=false:=by
 have n:(op==CmpOp.In)=false:=by cases op<;>first|rfl|exact absurd rfl h
 have F:(op==CmpOp.NotIn)=false:=by cases op<;>first|rfl|exact absurd rfl h2
 cases b<;>simp [HA,n,F]
theorem dN{r:R2}(ho:OpR X (E4 op) r)(ha:W (PE X a ta))(hb:W (PE X b tb))(hm:HA op b=false):W (PE X (.Compare a [op] [b] pos) (tOp r ta tb)):=by
 refine {?_};have ha:=ha.h;have hb:=hb.h;intro Ga s σ H Q I h;exact wpAny_Compare1 (mw ha hb I h λv u s2 x y H2 G n F q=>ho Ga s2 σ H2 x y v u Q G n F q) hm
def g8(t:TE):TT:=λσ H Q=>t σ H λx H'=>∃k,x = .bl k/\Q k H'
theorem rH{r:R2}(ho:OpR X (E4 op) r)(ha:PE X a ta)(hb:PE X b tb)(hm:HA op b=false):PT X (.Compare a [op] [b] pos) (g8 (tOp r ta tb)):=by
 intro Ga s σ H Q I h;refine wpAny_isTrue_Compare1 (thn (ha Ga s σ H _ I h) λv s1=>x5e λx H1 F r1 q1=>thn (hb Ga s1 σ H1 _ F q1) λu s2=>x5e λy H2 U r2 S =>
  thn (ho Ga s2 σ H2 x y v u _ U r1 r2 S) λc W=>x5e λz H3 O J n=>?_) hm
 obtain ⟨k,e,G⟩:=n;subst e;cases J;exact FL ⟨H3,O,G⟩
def pV(r r':R2)(ta tb tc:TE):TE:=λσ H Q=>ta σ H λx H1=>tb σ H1 λy H2=>r x y H2 λz H3=>∃k,z = .bl k /\
 (if k=true then tc σ H3 λw' H4=>r' y w' H4 Q else Q (.bl false) H3)
theorem sy{r r':R2}(ho:OpR X (E4 op) r)(U:OpR X (E4 n) r')(ha:W (PE X a ta))(hb:W (PE X b tb))(hc:W (PE X c tc))(hm:lastMarks [op,n] [b,c]=false:=by with_unfolding_all rfl):W (PE X (.Compare a [op,n] [b,c] pos) (pV r r' ta tb tc)):=by
 refine {?_};have ha:=ha.h;have hb:=hb.h;have hc:=hc.h;intro Ga s σ H Q I h;refine Compare_chain (thn (ha Ga s σ H _ I h) λv s1=>x5e λx H1 S r1 q1=>chain_link (thn (hb Ga s1 σ H1 _ S q1) λu s2=>x5e λy H2 I2 r2 q2 =>
  thn (ho Ga s2 σ H2 x y v u _ I2 r1 r2 q2) λd s3=>x5e λz H3 J r3 F=>?_)) hm
 obtain ⟨k,e,G⟩:=F;subst e;cases r3;refine FL ?_;cases k with
 | false=>exact ite_ff {.bl false,H3,J,rfl,G}
 | true=>exact ite_tt (chain_last (thn (hc Ga s3 σ H3 _ J G) λw' s4=>x5e λz' H4 O Z q4=>U Ga s4 σ H4 y z' u w' Q O r2 Z q4))
def en(K:Ei)(x:V)(H:Hp)(k:Bool):Prop :=
 match x with
 | .non=>k=false
 | .bl b=>k=b
 | .int i=>k=(i != 0)
 | .str y=>y.length<=sizeLine/\k=((y.length:Int) != 0)
 | .byt y=>y.size<=sizeLine/\k=((y.size:Int) != 0)
 | .ref p=>(∃xs,SqL K H p xs/\k = !xs.isEmpty)\/(∃xs,SqT K H p xs/\k = !xs.isEmpty)\/∃kvs,H p=some (.dK kvs)/\k = !kvs.isEmpty
 | _=>False
theorem AN{κ:Type}{kvs:List (κ×V)}{vs:List (κ×Value)}(r:KV kvs vs):(!vs.isEmpty) = !kvs.isEmpty:=by
 cases r<;>rfl
theorem rQ(r:zo xs n):(!n.toArray.isEmpty) = !xs.isEmpty:=by
 cases r<;>simp
theorem eo:(sizeLine:Nat)<2 ^ 63:=by rw [Gk];decide
theorem Bh:B2 X (λx H Q=>∃k,en X.K x H k/\Q k H):=by
 intro Ga s σ H x v Q I F h;obtain ⟨k,e,q⟩:=h;have hl:=eo;have hs:sizeLine=16777216:=Gk;cases x with
 | non =>
  cases F;have n:k=false:=e;subst n;exact truthy_none ⟨H,I,q⟩
 | bl b =>
  cases F;have n:k=b:=e;subst n;exact FL ⟨H,I,q⟩
 | int i =>
  obtain ⟨t,rfl⟩:=F;have n:k=(i != 0):=e;subst n;exact PySem.P.truthy_int ⟨H,I,q⟩
 | str y =>
  obtain ⟨t,rfl⟩:=F;obtain ⟨Z,n⟩:y.length<=sizeLine/\k=((y.length:Int) != 0):=e;subst n;exact PySem.P.truthy_str 'l' {H,I.tok _,q}
 | byt y =>
  obtain ⟨t,rfl⟩:=F;obtain ⟨Z,n⟩:y.size<=sizeLine/\k=((y.size:Int) != 0):=e;subst n;exact PySem.W.truthy_bytes 'l' {H,I.tok _,q}
 | ref p =>
  cases F;have n:(∃xs,SqL X.K H p xs/\k = !xs.isEmpty)\/(∃xs,SqT X.K H p xs/\k = !xs.isEmpty)\/∃kvs,H p=some (.dK kvs)/\k = !kvs.isEmpty:=e;rcases n with ⟨xs,G,n⟩|⟨xs,G,n⟩|⟨kvs,G,n⟩
  .subst n;obtain ⟨S,r,pl,O⟩:=I.list G;have J:=r.length;exact wpAny_truthy_list pl.isList (by simp only [EC];lia) {H,I.tok _,by rw [rQ r];exact q}
  .subst n;obtain ⟨S,r,pl,O⟩:=I.tuple G;have J:=r.length;exact truthy_tuple pl (by simp only [EC];lia) {H,I.tok _,by rw [rQ r];exact q}
  .subst n;obtain ⟨O,U,vs,r,m⟩:kvs.length<=sizeLine/\(p==sysModules)=false/\∃vs,KV kvs vs/\s.heap.DictOf (aF X.prog X.w) p vs:=I.hok p _ G;have J:kvs.length=vs.length:=Paired.length r;exact wpAny_truthy_dict U m 'l' {H,I.tok _,by rw [AN r];exact q}
 | _=>exact (show False from e).elim
theorem uE(ha:PE X a ta)(he:∀n,isTrue a X.env n=(do let v<-n;Hy a.pos;GJ [v] (truthy v))) :
  PT X a (λσ H Q=>ta σ H λx H'=>∃k,en X.K x H' k/\Q k H'):=by
 intro Ga s σ H Q I h;exact isTrue_plain (thn (ha Ga s σ H _ I h) λv s1=>x5e λx H1 F r1 q1=>Bh Ga s1 σ H1 x v Q F r1 q1) (he _)
theorem uW:OpR X (FP .Add) (λx y H Q=>∃i j,x = .str i/\y = .str j/\i.length+j.length<=sizeLine/\Q (.str (i++j)) H):=by
 intro Ga s σ H x y v u Q I n F h;obtain ⟨i,j,rfl,rfl,G,q⟩:=h;obtain ⟨t,rfl⟩:=n;obtain ⟨t',rfl⟩:=F;exact add_str (λt' tk=>{.str (i++j),H,I.tok _,{_,rfl},q}) G
theorem cn(r:zo [x] us):∃u,us=[u]/\zh x u:=by
 cases r with
 | cons r1 r2=>cases r2;exact {_,rfl,r1}
theorem lB(r:zo [x,y] us):∃u w',us=[u,w']/\zh x u/\zh y w':=by
 cases r with
 | cons r1 r2 =>
  cases r2 with
  | cons n F=>cases F;exact {_,_,rfl,r1,n}
theorem CO(hc:X.calm=true):zM X (.builtin "max") (λxs H Q=>∃i j,xs=[.int i,.int j]/\Q (.int (if j>i then j else i)) H):=by
 intro Ga s σ H xs us Q I r h;obtain ⟨i,j,rfl,q⟩:=h;obtain ⟨u,w',rfl,⟨t,rfl⟩,⟨t',rfl⟩⟩:=lB r;refine max_two_ints (I.ok.hd hc) λh' tk k=>{_,H,I.kept k,?_,q};by_cases n:j>i
 .rw [if_pos n,if_pos n];exact {_,rfl}
 .rw [if_neg n,if_neg n];exact {_,rfl}
theorem uM(hc:X.calm=true):zM X (.builtin "min") (λxs H Q=>∃i j,xs=[.int i,.int j]/\Q (.int (if j<i then j else i)) H):=by
 intro Ga s σ H xs us Q I r h;obtain ⟨i,j,rfl,q⟩:=h;obtain ⟨u,w',rfl,⟨t,rfl⟩,⟨t',rfl⟩⟩:=lB r;refine min_two_ints (I.ok.hd hc) λh' tk k=>{_,H,I.kept k,?_,q};by_cases n:j<i
 .rw [if_pos n,if_pos n];exact {_,rfl}
 .rw [if_neg n,if_neg n];exact {_,rfl}
theorem yH:zM X (.type "int") (λxs H Q=>(∃i,xs=[.int i]/\Q (.int i) H)\/∃k,xs=[.bl k]/\Q (.int (if k then 1 else 0)) H):=by
 intro Ga s σ H xs us Q I r h;rcases h with ⟨i,rfl,q⟩|⟨k,rfl,q⟩
 .obtain ⟨u,rfl,t,rfl⟩:=cn r;exact call_int_int {.int i,H,I,{_,rfl},q}
 .obtain ⟨u,rfl,r1⟩:=cn r;cases r1;exact call_int_bool {.int (if k then 1 else 0),H,I.tok _,{_,rfl},q}
theorem yc:zM X (.type "str") (λxs H Q=>∃i,xs=[.int i]/\i.natAbs.log2<1920/\Q (.str (toString i)) H):=by
 intro Ga s σ H xs us Q I r h;obtain ⟨i,rfl,n,q⟩:=h;obtain ⟨u,rfl,t,rfl⟩:=cn r;exact PySem.P.str_of_int n {.str _,H,I.tok _,{_,rfl},q}
end
structure eL(h:Heap)(x dx C:Addr)(mA:Str->Option Value):Prop where
 obj:h.get? x=some (IF C dx)
 ns:h.Ns1 dx mA
 ne:dx≠x
theorem xf{h:Heap}(n:h.Ns1 dx mA):∃F,h.get? dx=some F/\∀name,lookIn name F=some (mA name):=by
 obtain ⟨o,es,ep,ho,hd,O,_,hm⟩:=n;refine {o,ho,λname=>?_};have e:=hm name;unfold nsFind findBy at e;rw [<- Array.find?_toList] at e;unfold lookIn;rw [hd];dsimp only;split
 .rename_i y q;rw [q] at e;exact congrArg some e
 .rename_i q;rw [q] at e;have a:es.toList.any (·.refKey)=false:=by
   rw [List.any_eq_false];intro y J;obtain ⟨z,t,G⟩:=O y (HW.mp J);simp [DictEntry.refKey,G]
  have S : ¬ es.toList.any (·.refKey)=true:=by rw [a];exact Eu
  rw [if_neg S];exact congrArg some e
theorem eL.look(I:eL h x dx C mA):∃n,PySem.W.InstAt h x (IF C dx) C (some n)/\∀name,lookIn name n=some (mA name) :=
 let ⟨n,ho,hl⟩:=xf I.ns
 {n,{I.obj,rfl,rfl,ho},hl}
section
variable {prog:Eo}{w:EG}{A:EB}{E:Value->Eh->Prop}{s:Eh}{K:Ei}{x dx C f:Addr}{mA:Str->Option Value}{name:Str}{v:Value}
theorem Dh(X:K.In s.heap)(I:eL s.heap x dx C mA)(S:IM K C name=true)(O:hasDictIn K C=true)(ha:FF K (.ref C) name=some none)(hv:mA name=some v)(F:handedIn v=true)(h:Q v { s with toks:=s.toks+1 }):
  Et (Ez prog w) A (getAttr (.ref x) name n) Q E s:=by
 obtain ⟨U,J,G⟩:=I.look;exact PySem.W.get_value X J (plainGet_of S).1 (PySem.W.findObj_own O ha rfl (by rw [G,hv])) F h
theorem yy(X:K.In s.heap)(I:eL s.heap x dx C mA)(n:IM K C name=true)(F:FF K (.ref C) name=some (some (.ref f)))(G:isFn K (.ref f)=true)(hv:mA name=none)(h:Q (.ref f,[.ref x]) s):
  Et (Ez prog w) A (Hw (.ref x) name pl) Q E s:=by
 obtain ⟨S,J,O⟩:=I.look;exact PySem.W.method_fn X J (plainGet_of n).1 (plainGet_of n).2 F (beq_iff_eq.mp G) (by show (lookIn name S).map (·.isSome)=some false;rw [O,hv];rfl) h
theorem D7(X:K.In s.heap)(I:eL s.heap x dx C mA)(hs:FF K (.ref C) "__setattr__"=some (some (.builtin "object.__setattr__")))(hp:plainOver K C=true)(Z:takerIn K C name=some none)(hh:hasDictIn K C=true)(hw:II mA ns)(hsz:ns.length<=sizeLine)(h:∀h',eL h' x dx C (λy=>if y=name then some v else mA y)->HB dx s.heap h'->Q () { s with heap:=h',toks:=s.toks+2 }):
  Et (Ez prog w) A (setAttr (.ref x) name v) Q E s:=by
 obtain ⟨od,J,hl⟩:=I.look;refine PySem.W.set_plain X J hs (PySem.W.osa_open (s:={ s with toks:=s.toks+1 }) (r:=none) X J hp Z λb=>?_);obtain ⟨cd,hc,S⟩:=PySem.W.any_some hh;have hx:s.heap.get? x=some {.ref C,some dx,.plain,#[]}:=I.obj;refine we (Ej (we (we (wpAny_loadPart hx (we (PySem.W.Looks.here (s:={ s with toks:=s.toks+1 }) (PySem.W.looks_clsIn X hc) ?_))))));rw [S];refine Ej (a:=some dx) (we (Ej (we ?_)));refine wpAny_nsSet1 (s:={ s with toks:=s.toks+1 }) I.ns λh' F n=>?_;obtain ⟨oD,ag,ak,G,O,U⟩:=F.count (II.cons name v hw);refine we (wpAny_lookBehind G (by rw [O];exact pastItsLine_dict (EL U (by rw [EY];lia))) ?_);exact Ej (h _ {(n.2 _ (Fi I.ne)).trans I.obj,F,I.ne} n)
theorem DM(X:K.In s.heap)(hm:makesIn K C=true)(hi:FF K (.ref C) XJ=some (some (.ref f)))(n:PySem.W.typeIn K (.ref f)=some (.type "function"))(h:GL (Ez prog w) (A.under (.builtin "type.__call__" {.ref C::vs,kw})) (.call (.ref f) {.ref (s.heap.objs.size+1)::vs,kw}) (PySem.W.InitBack (s.heap.objs.size+1) R)
   { s with heap:=(s.heap.push emptyDict).push (IF C s.heap.objs.size) }):
  GL (Ez prog w) A (.call (.ref C) ⟨vs,kw⟩) R s:=by
 obtain ⟨F,g,d,t,os⟩:=s;exact PySem.W.make_core (PySem.W.makes_of X hm) (PySem.W.looks_findIn X hi) (λself=>PySem.W.bind_fn X self n) (.inl rfl) h
end
def z5(f:Str)(v:V):List (Str×V)->List (Str×V)
 | []=>[(f,v)]
 | (g,x)::r=>if g=f then (g,v)::r else (g,x)::z5 f v r
theorem qz(f g:Str)(v:V):∀fs:List (Str×V),(z5 f v fs).lookup g=if g=f then some v else fs.lookup g
 | []=>by
  show Gx g [(f,v)]=_;by_cases h:g=f
  .have hb:(g==f)=true:=beq_iff_eq.mpr h;simp only [Gx,hb,if_pos h]
  .have hb:(g==f)=false:=beq_eq_false_iff_ne.mpr h;simp only [Gx,hb,if_neg h]
 | (k,x)::r=>by
  have F:=qz f g v r;rw [show z5 f v ((k,x)::r)=(if k=f then (k,v)::r else (k,x)::z5 f v r) from rfl];by_cases n:k=f
  .rw [if_pos n];by_cases h:g=k
   .have hb:(g==k)=true:=beq_iff_eq.mpr h;simp only [Gx,hb,if_pos (h.trans n)]
   .have hb:(g==k)=false:=beq_eq_false_iff_ne.mpr h;simp only [Gx,hb,if_neg (λe:g=f=>h (e.trans n.symm))]
  .rw [if_neg n];by_cases h:g=k
   .have hb:(g==k)=true:=beq_iff_eq.mpr h;simp only [Gx,hb,if_neg (λe:g=f=>n (h.symm.trans e))]
   .have hb:(g==k)=false:=beq_eq_false_iff_ne.mpr h;simp only [Gx,hb];exact F
theorem jT(f:Str)(v:V):∀fs:List (Str×V),f∈(z5 f v fs).map (·.1)/\∀g,g∈fs.map (·.1)->g∈(z5 f v fs).map (·.1)
 | []=>{by simp [z5],λg h=>by simp at h}
 | (k,x)::r=>by
  obtain ⟨i1,i2⟩:=jT f v r;rw [show z5 f v ((k,x)::r)=(if k=f then (k,v)::r else (k,x)::z5 f v r) from rfl];by_cases n:k=f
  .rw [if_pos n];subst n;exact {'s',λg h=>by simpa using h}
  .rw [if_neg n];refine {?_,λg h=>?_}
   .rw [Fq];exact Em _ i1
   .rw [Fq] at h ⊢;rcases EI.mp h with e|e
    .exact EI.mpr (.inl e)
    .exact Em _ (i2 g e)
theorem oB(f:Str)(v:V):∀fs:List (Str×V),(z5 f v fs).length<=fs.length+1
 | []=>by simp [z5]
 | (k,x)::r=>by
  have F:=oB f v r;rw [show z5 f v ((k,x)::r)=(if k=f then (k,v)::r else (k,x)::z5 f v r) from rfl];by_cases n:k=f
  .rw [if_pos n,EY,EY];lia
  .rw [if_neg n,EY,EY];lia
theorem aM.some_of{o:Option Value}(r:aM (some v) o):∃u,o=some u/\zh v u:=by
 cases o with
 | none=>exact (show False from r).elim
 | some u=>exact {u,rfl,r}
theorem aM.none_of{o:Option Value}(r:aM none o):o=none:=by
 cases o with
 | none=>rfl
 | some u=>exact (show False from r).elim
theorem DS(r:zh v u):handedIn u=true:=by
 cases v with
 | non=>cases (show u=E6 from r);rfl
 | bl b=>cases (show u=Fy b from r);rfl
 | int i=>obtain ⟨t,e⟩:=(show ∃t,u=HQ i t from r);cases e;rfl
 | str x=>obtain ⟨t,e⟩:=(show ∃t,u=HP x t from r);cases e;rfl
 | byt b=>obtain ⟨t,e⟩:=(show ∃t,u=Value.bytes b t from r);cases e;rfl
 | flt b=>obtain ⟨t,e⟩:=(show ∃t,u=float b t from r);cases e;rfl
 | ref a=>cases (show u=Ew a from r);rfl
 | ty n=>cases (show u=type n from r);rfl
section
variable {P:Eo}{w:EG}{H H':Hp}{h h':Heap}{a C dx:Addr}{fs fs':List (Str×V)}
theorem ik(hok:HOk P w H h)(e:H a=some (.ins C dx fs)):∃mA,eL h a dx C mA/\(∀f,aM (fs.lookup f) (mA f))/\II mA (fs.map (·.1))/\fs.length<=1000/\H dx=some (.own a):=by
 obtain ⟨d,z,ne,ob,mA,n,r,q⟩:=(show zX P w H h a (.ins C dx fs) from hok a _ e);exact {mA,⟨ob,n,ne⟩,r,q,z,d}
end
structure Cls(K:Ei)(C:Addr):Prop where
 pg:IM K C Str.empty=true
 hd:hasDictIn K C=true
 po:plainOver K C=true
 sa:FF K (.ref C) "__setattr__"=some (some (.builtin "object.__setattr__"))
theorem Cls.get{K:Ei}(c:Cls K C)(f:Str):IM K C f=true:=c.pg
def cb(K:Ei)(C:Addr)(f:Str):Prop:=FF K (.ref C) f=some none
theorem cb.Mf{K:Ei}(n:cb K C f):takerIn K C f=some none:=by
 unfold takerIn;rw [show FF K (.ref C) f=some none from n];rfl
structure eY(K:Ei)(C:Addr)(m:Str)(f:Addr):Prop where
 at_:FF K (.ref C) m=some (some (.ref f))
 fn:isFn K (.ref f)=true
 kp:IE K (.ref f)=true
section
variable {X:Cx}{Ga:List (Addr×Obj)}{σ:St}{H:Hp}{s:Eh}{a C dx:Addr}{fs:List (Str×V)}{f:Str}{v:V}{A:EB}{E:Value->Eh->Prop}
theorem m9(I:Inv X Ga σ H s)(e:H a=some (.ins C dx fs))(c:Cls X.K C)(n:cb X.K C f)(l:fs.lookup f=some v)(h:∀u s',Inv X Ga σ H s'->zh v u->Q u s'):Et (Ez X.prog X.w) A (getAttr (.ref a) f b) Q E s:=by
 obtain ⟨mA,O,r,_,_,_⟩:=ik I.hok e;obtain ⟨u,G,F⟩:=aM.some_of (v:=v) (o:=mA f) (by rw [<- l];exact r f);exact Dh I.z4 O (c.get f) c.hd n G (DS F) (h u _ (I.tok _) F)
theorem ko(I:Inv X Ga σ H s)(e:H a=some (.ins C dx fs))(c:Cls X.K C)(k:eY X.K C m g)(l:fs.lookup m=none)(h:Q (.ref g,[.ref a]) s):Et (Ez X.prog X.w) A (Hw (.ref a) m pl) Q E s:=by
 obtain ⟨mA,O,r,_,_,_⟩:=ik I.hok e;have n:mA m=none:=aM.none_of (by rw [<- l];exact r m);exact yy I.z4 O (c.get m) k.at_ k.fn n h
theorem mU(I:Inv X Ga σ H s)(e:H a=some (.ins C dx fs))(c:Cls X.K C)(n:cb X.K C f)(W:fs.length<1000)(G:zh y u)(h:∀s',Inv X Ga σ (upd H a (.ins C dx (z5 f y fs))) s'->Q () s'):Et (Ez X.prog X.w) A (setAttr (.ref a) f u) Q E s:=by
 obtain ⟨mA,O,r,wi,_,ho⟩:=ik I.hok e;have J:(fs.map (·.1)).length<=sizeLine:=by rw [En,Gk];lia
 refine D7 I.z4 O c.sa c.po n.Mf c.hd wi J λh' F S=>h _ ?_;have hd:∃o,h'.get? dx=some o:=let ⟨o,_,_,e',_⟩:=F.ns;⟨o,e'⟩;refine I.write (x:=a) (e:=dx) (by rw [e];exact True.intro) (.inr ho) (λb q hb z=>(S.2 b hb).trans z) hd ?_;refine {by rw [zm O.ne];exact ho,?_,O.ne,F.obj,_,F.ns,λg=>?_,λg U=>?_}
 .have:=oB f y fs;lia
 .show aM ((z5 f y fs).lookup g) (if g=f then some u else mA g);rw [qz];by_cases q:g=f
  .rw [if_pos q,if_pos q];exact G
  .rw [if_neg q,if_neg q];exact r g
 .by_cases q:g=f
  .rw [q];exact (jT f y fs).1
  .refine (jT f y fs).2 g (wi g λz=>U ?_);show (if g=f then some u else mA g)=none;rw [if_neg q];exact z
theorem Inv.made(I:Inv X Ga σ H s):Inv X Ga σ (upd (upd H s.heap.objs.size (.own (s.heap.objs.size+1))) (s.heap.objs.size+1) (.ins C s.heap.objs.size []))
  { s with heap:=(s.heap.push emptyDict).push (IF C s.heap.objs.size) }:=by
 have n:(s.heap.push emptyDict).get? s.heap.objs.size=some emptyDict:=EW s.heap rfl;have J:((s.heap.push emptyDict).push (IF C s.heap.objs.size)).get? (s.heap.objs.size+1)=some (IF C s.heap.objs.size):=by
  have:=EW (s.heap.push emptyDict) (o:=IF C s.heap.objs.size) rfl;rwa [Iq] at this
 have G:(s.heap.push emptyDict).Ns s.heap.objs.size (λ_=>none):={emptyDict,#[],_,n,rfl,(λe he=>absurd he 's'),λ_=>rfl};have F:=I.laid (a:=s.heap.objs.size) (o:=.own (s.heap.objs.size+1)) (h':=s.heap.push emptyDict) (t':=s.toks) (λb u q=>El _ q) (EF _) {_,n};refine F.laid (a:=s.heap.objs.size+1) (o:=.ins C s.heap.objs.size []) (t':=s.toks) (λb u q=>El _ q) (le_of_eq (Iq _ _)) ?_;have ne:s.heap.objs.size≠s.heap.objs.size+1:=E7 (Hl _);refine {by rw [zm ne,zG],Gr _,ne,J,λ_=>none,(Heap.Ns1.of_empty G).at λo q=>El _ q,λ_=>True.intro,λy O=>absurd rfl O}
theorem CW{f:Str}{s:Eh}(hb:FE e f env (Fx e env)=Fx e env)(h:Et (Ez prog w) A (Fx e env) (λo s₁=>Et (Ez prog w) A (getAttr o f true) Q E s₁) E s):Et (Ez prog w) A (Fx (.Attribute e f pos) env) Q E s :=
 Attribute_any_ h (by rw [arm_eval_Attribute,hb])
end
def tW(X:Cx)(op:Operator)(n:V->V->Hp->VK->Prop):Prop :=
 ∀(Ga:List (Addr×Obj))(s:Eh)(σ:St)(H:Hp)(x y:V)(u v:Value)(Q:VK),Inv X Ga σ H s->zh x u->zh y v->n x y H Q->Et (Ez X.prog X.w) X.A (inplaceOp op u v) (EP X Ga σ Q) X.xe s
section
variable {X:Cx}{o e ZO:EN}{f:Str}{pos YI Yn:Pos}{ta tv:TE}
def jA:V->V->Hp->VK->Prop:=λx y H Q=>∃i j,x = .int i/\y = .int j/\Q (.int (i+j)) H
theorem DE:tW X .Add jA:=by
 rintro Ga s σ H x y u v Q I n F ⟨i,j,rfl,rfl,q⟩;obtain ⟨t,rfl⟩:=(show ∃t,u=HQ i t from n);obtain ⟨t',rfl⟩:=(show ∃t',v=HQ j t' from F);exact PyProof.Rows.iadd_int {.int (i+j),H,I.tok _,{_,rfl},q}
end
section
variable {X:Cx}{Ga:List (Addr×Obj)}{σ:St}{H:Hp}{s:Eh}{A:EB}{E:Value->Eh->Prop}{Q:Value->Eh->Prop}{c:Value}{b:Bool}
inductive bI(K:Ei)(H:Hp):V->Value->Prop where
 | non:bI K H .non (.type "NoneType")
 | bl (x:Bool):bI K H (.bl x) (.type "bool")
 | int (i:Int):bI K H (.int i) (.type "int")
 | str (x:Str):bI K H (.str x) (.type "str")
 | flt (x:UInt64):bI K H (.flt x) (.type "float")
 | lst {a:Addr}{xs:List V} (e:H a=some (.lst xs)):bI K H (.ref a) (.type "list")
 | frz {a:Addr}{o:Obj}{xs:List V} (e:H a=some (.frz o (.lst xs))):bI K H (.ref a) (.type "list")
 | tup {a:Addr}{xs:List V} (e:H a=some (.tup xs)):bI K H (.ref a) (.type "tuple")
 | dK {a:Addr}{kvs:List (Key×V)} (e:H a=some (.dK kvs)):bI K H (.ref a) (.type "dict")
 | dT {a:Addr}{kvs:List (List Key×V)} (e:H a=some (.dT kvs)):bI K H (.ref a) (.type "dict")
 | ins {a C dx:Addr}{fs:List (Str×V)} (e:H a=some (.ins C dx fs)) (cl:Cls K C) (ha:FF K (.ref C) "__class__"=some (some (.builtin "object.__class__")))
   (hn:PySem.W.specialIn K (.builtin "object.__class__") "__get__"=some (some (.builtin "getset_descriptor.__get__"))) (htk:PySem.W.takesIn K (.builtin "object.__class__")=some true)
   (hm:G0 K C (.type "object")=some true):bI K H (.ref a) (.ref C)
theorem Bd{u t:Value}(I:Inv X Ga σ H s)(F:zh x u)(ty:bI X.K H x t)(e:PySem.W.kitOne X.K t c=some b)(h:∀tk,Q (.bool b) { s with toks:=tk }):
  Et (Ez X.prog X.w) A (call (.builtin "isinstance") [u,c]) Q E s:=by
 cases ty with
 | non=>cases (show u=E6 from F);exact Fz PySem.W.kitx_none I.z4 True.intro e (λz=>nomatch z) h
 | bl y=>cases (show u=Fy y from F);exact Fz PySem.W.kitx_bool I.z4 True.intro e (λz=>nomatch z) h
 | int i=>obtain ⟨t,q⟩:=(show ∃t,u=HQ i t from F);cases q;exact Fz PySem.W.kitx_int I.z4 True.intro e (λz=>nomatch z) h
 | str y=>obtain ⟨t,q⟩:=(show ∃t,u=HP y t from F);cases q;exact Fz PySem.W.kitx_str I.z4 True.intro e (λz=>nomatch z) h
 | flt y=>obtain ⟨t,q⟩:=(show ∃t,u=float y t from F);cases q;exact Fz PySem.W.kitx_float I.z4 True.intro e (λz=>nomatch z) h
 | @lst a xs ea =>
  cases (show u=Ew a from F);obtain ⟨_,_,n,_,h1⟩:=(show zX X.prog X.w H s.heap a (.lst xs) from I.hok a _ ea);exact Fz PySem.W.kitx_list I.z4 {_,h1,rfl} e (λz=>nomatch z) h
 | @frz a ob xs ea =>
  cases (show u=Ew a from F);obtain ⟨_,_,_,n,_,h1⟩:=(show zX X.prog X.w H s.heap a (.frz ob (.lst xs)) from I.hok a _ ea);exact Fz PySem.W.kitx_list I.z4 {_,h1,rfl} e (λz=>nomatch z) h
 | @tup a xs ea =>
  cases (show u=Ew a from F);obtain ⟨_,_,_,p⟩:=(show zX X.prog X.w H s.heap a (.tup xs) from I.hok a _ ea);obtain ⟨o,h1,h2,_⟩:=p;exact Fz PySem.W.kitx_tuple I.z4 ⟨o,h1,h2⟩ e (λz=>nomatch z) h
 | @dK a kvs ea =>
  cases (show u=Ew a from F);obtain ⟨_,_,vs,_,p⟩:=(show zX X.prog X.w H s.heap a (.dK kvs) from I.hok a _ ea);obtain ⟨o,es,ep,h1,h2,_⟩:=p;exact Fz PySem.W.kitx_dict I.z4 ⟨o,h1,h2.1⟩ e (λz=>nomatch z) h
 | @dT a kvs ea =>
  cases (show u=Ew a from F);obtain ⟨_,_,xs,_,o,es,ep,h1,h2,_⟩:=(show zX X.prog X.w H s.heap a (.dT kvs) from I.hok a _ ea);exact Fz PySem.W.kitx_dict I.z4 ⟨o,h1,h2.1⟩ e (λz=>nomatch z) h
 | @ins a C dx fs ea cl ha S G hm =>
  cases (show u=Ew a from F);obtain ⟨mA,O,_⟩:=ik I.hok ea;obtain ⟨U,J,_⟩:=O.look;exact Fz (PySem.W.kitx_own (cl.get _) cl.hd ha S G hm) I.z4 J e (λz=>nomatch z) h
end
structure zD(c:Bool)(k:Nat)(A:EB):Prop where
 hd:c=true->A.handled=none
 dp:A.depth+3*k+5<recursionLimit
 un:A.units+16*k+200<cLine
 gd:A.guards=some []
theorem zD.mono{j k:Nat}(r:zD c k A)(h:j<=k):zD c j A:={r.hd,by have:=r.dp;lia,by have:=r.un;lia,r.gd}
theorem zD.deeper{k:Nat}(r:zD c (k+1) A)(env:Env):zD c k (A.deeper env) :=
 {r.hd,by have:=r.dp;show A.depth+1+3*k+5<_;lia,by have:=r.un;show A.units+3+16*k+200<_;lia,by first|exact r.gd|simpa [EB.deeper,EB.under,Code.isGuard] using r.gd}
theorem vv{A:EB}:(A.under (.builtin "type.__call__" {.ref C::us,kw})).depth=A.depth+1:=by
 first|rfl|simp [EB.under,Code.weight,Code.isCreation,Code.isGuard,Code.isCaller,Code.frames,Code.isFrame,guardIds]
theorem DF{A:EB}:(A.under (.builtin "type.__call__" {.ref C::us,kw})).units=A.units+1:=by
 first|rfl|simp [EB.under,Code.cUnits,Code.frames,Code.isFrame]
theorem zD.make{k:Nat}(r:zD c (k+1) A)(C:Addr)(us:List Value)(kw:List (Str×Value)):zD c k (A.under (.builtin "type.__call__" {.ref C::us,kw})) :=
 {r.hd,by have:=r.dp;rw [vv];lia,by have:=r.un;rw [DF];lia,by first|exact r.gd|simpa [EB.under,Code.isGuard,guardIds] using r.gd}
theorem zD.depth{k:Nat}(r:zD c k A):A.depth<recursionLimit:=by have:=r.dp;lia
theorem zD.units{k:Nat}(r:zD c k A):A.units+64<cLine:=by have:=r.un;lia
def bE:TA:=λ_ H Q=>Q [] H
def dC(ta:TE)(n:TA):TA:=λσ H Q=>ta σ H λx H1=>n σ H1 λxs H2=>Q (x::xs) H2
section
variable {X:Cx}{e:EN}{es:List EN}{te:TE}{t:TA}{pos:Pos}
theorem fh:PA X [] bE:=λ_ _ _ _ H Q I h=>Calls.spliced_nil {[],H,I,.nil,h}
theorem fq(ha:PE X e te)(hr:PA X es t)(hs:EH (e::es) X.env=(false,Fx e X.env)::EH es X.env:=by rfl):PA X (e::es) (dC te t):=by
 intro pos Ga s σ H Q I h;rw [hs];show Et _ _ (spliced ((false,Fx e X.env)::FZ pos (EH es X.env))) _ _ s;refine Calls.spliced_cons (thn (ha Ga s σ H _ I h) λu s1=>x5e λx H1 n r1 q1=>?_);exact thn (hr pos Ga s1 σ H1 _ n q1) λus s2=>x5e λxs H2 G r2 F=>{x::xs,H2,G,.cons r1 r2,F}
def x4(t:TA):TE:=λσ H Q=>t σ H λxs H1=>xs.length<=sizeLine/\∀p,H1 p=none->Q (.ref p) (upd H1 p (.tup xs))
theorem Cm{x1}(h:PA X es t):PE X (.Tuple es x1 pos) (x4 t):=by
 intro Ga s σ H Q I F;refine wpAny_Tuple_spliced (thn (h pos Ga s σ H _ I F) λus s1=>x5e λxs H1 n r=>x2e λz q=>{by rw [<- r.length];exact z,?_});have G:H1 s1.heap.objs.size=none:=n.hok.fresh (EF _);refine {.ref s1.heap.objs.size,upd H1 s1.heap.objs.size (.tup xs),n.laid (t':=s1.toks) (λb u e=>El _ e) (EF _) ?_,rfl,q _ G};exact {z,us,r,{_,EW _ rfl,rfl,_,rfl}}
end
abbrev Sp:=List V->Hp->VK->XK->Prop
abbrev CXT:=List Env->Hp->Eh->XK->Value->Eh->Prop
structure eG(P:Eo)(w:EG)(K:Ei)(mg:Str->Option Value)(base:Heap)(A:EB)(outer:List Env)(s:Eh)(H:Hp):Prop where
 frames:A.frames=some outer
 hdk:dJ A H
 mod:Mod K mg base
 bs:∀b o,base.get? b=some o->s.heap.get? b=some o/\H b=none
 LI:base.objs.size<=s.heap.objs.size
 Jf:s.heap.FunFrames base outer
 LQ:∀b∈frs outer,H b=none
 hok:HOk P w H s.heap
 bare:GN s.gens
def CE(outer:List Env)(P:Eo)(w:EG)(H:Hp)(s:Eh)(Q:VK)(u:Value)(s':Eh):Prop :=
 ∃v H',s'.os=s.os/\GN s'.gens/\Un (frs outer) [] H H' s.heap s'.heap/\HOk P w H' s'.heap/\zh v u/\Q v H'
def CR(CX:CXT)(outer:List Env)(P:Eo)(w:EG)(H:Hp)(s:Eh)(Q:VK)(E:XK)(r:Result)(s':Eh):Prop :=
 match r with
 | .ok (.ret u)=>CE outer P w H s Q u s'
 | .ok _=>False
 | .error e=>CX outer H s E e s'
structure zr(P:Eo)(w:EG)(K:Ei)(mg:Str->Option Value)(base:Heap)(CX:CXT)(c:Bool)(k:Nat)(f:Addr)(fd:Ey)(ps:List Str)(sp:Sp):Prop where
 len:∀vs H Q E,sp vs H Q E->vs.length=ps.length
 run:∀(A:EB)(outer:List Env)(s:Eh)(H:Hp)(args:Args)(us:List Value)(vs:List V)(Q:VK)(E:XK),zD c k A->eG P w K mg base A outer s H->BindsTo s fd args (ps.zip us)->zo vs us->sp vs H Q E ->
  GL (Ez P w) A (.call (.ref f) args) (CR CX outer P w H s Q E) s
theorem eG.make{K:Ei}(e:eG P w K mg base A outer s H)(C:Addr)(us:List Value)(kw:List (Str×Value)):
  eG P w K mg base (A.under (.builtin "type.__call__" {.ref C::us,kw})) outer s H:={by first|exact e.frames|(simpa [EB.under,Code.envs,Code.isFrame,pushEnvs] using e.frames),e.hdk,e.mod,e.bs,e.LI,e.Jf,e.LQ,e.hok,e.bare}
section
variable {X:Cx}{Ga:List (Addr×Obj)}{σ:St}{H:Hp}{s s':Eh}
theorem Inv.Ma(I:Inv X Ga σ H s):eG X.prog X.w X.K X.mg X.base X.A X.stack s H :=
 {I.ok.frames,I.hdk,I.ok.mod,I.bs,EL I.ok.LI I.sz,I.stack,I.J7,I.hok,I.bare}
theorem Inv.after(I:Inv X Ga σ H s)(h:CE X.stack X.prog X.w H s Q u s'):EP X Ga σ Q u s':=by
 obtain ⟨v,H',os,bare,un,hok,r,q⟩:=h;obtain ⟨F,g,d,t,n⟩:=s';obtain rfl:n=s.os:=os;exact {v,H',I.call (h':=F) (g':=g) (d':=d) (t':=t) (ch:=[]) un hok bare (λb z=>absurd z 's'),r,q}
end
def je(sp:Sp)(Zp:List V)(E:XK)(t:TA):TE:=λσ H Q=>t σ H λvs H1=>sp (vs++Zp) H1 Q E
def dH(C:Addr)(m:Str)(sp:Sp)(Zp:List V)(E:XK)(ta:TE)(t:TA):TE:=λσ H Q=>ta σ H λx H1=>∃a dx fs,x = .ref a/\H1 a=some (.ins C dx fs)/\fs.lookup m=none /\
 t σ H1 λvs H2=>sp (x::(vs++Zp)) H2 Q E
def mW(C:Addr)(sp:Sp)(Zp:List V)(E:XK)(t:TA):TE:=λσ H Q=>t σ H λvs H1=>∀x dx,H1 x=none->H1 dx=none->dx≠x ->
 sp (.ref x::(vs++Zp)) (upd (upd H1 dx (.own x)) x (.ins C dx [])) (λv H2=>v = .non/\Q (.ref x) H2) E
def aP(K:Ei)(fd:Ey)(ps:List Str)(ds:List Value):Prop :=
 ∀(s:Eh)(us:List Value),K.In s.heap->(us++ds).length=ps.length->BindsTo s fd {us,[]} (ps.zip (us++ds))
theorem aP.all{K:Ei}(h:∀us:List Value,us.length=ps.length->bindArgs fd {us,[]}=pure (ps.zip us)):aP K fd ps []:=λs us _ n=>by
 rw [Gc] at n ⊢;exact .of_eq (h us n)
def dw(CX:CXT)(X:Cx)(E:XK):Prop:=∀(Ga:List (Addr×Obj))(σ:St)(H:Hp)(s:Eh)(e:Value)(s':Eh),Inv X Ga σ H s->CX X.stack H s E e s'->X.xe e s'
section
variable {X:Cx}{CX:CXT}{cm:Bool}{k:Nat}{f C:Addr}{fd:Ey}{ps:List Str}{sp:Sp}{Zp:List V}{ds:List Value}{E:XK}{x m:Str}{p pos Z3:Pos}{e o:EN}{es:List EN}{ta:TE}{t:TA}
theorem lX(F:zr X.prog X.w X.K X.mg X.base CX cm k f fd ps sp)(hr:zD cm k X.A)(hb:aP X.K fd ps ds)(hd:zo Zp ds)(J:dw CX X E)(I:Inv X Ga σ H s)(r:zo vs us)(h:sp (vs++Zp) H Q E):Et (Ez X.prog X.w) X.A (call (.ref f) us) (EP X Ga σ Q) X.xe s:=by
 have r2:zo (vs++Zp) (us++ds):=r.append hd;have G:(us++ds).length=ps.length:=by rw [<- r2.length];exact F.len _ _ _ _ h
 refine wpAny_call (HJ (F.run X.A X.stack s H {us,[]} (us++ds) (vs++Zp) Q E hr I.Ma (hb s us I.z4 G) r2 h) λr s' n=>?_);cases r with
 | error e=>exact J Ga σ H s e s' I n
 | ok fl =>
  cases fl with
  | ret u=>exact I.after n
  | next=>exact False.elim n
  | brk=>exact False.elim n
  | cont=>exact False.elim n
theorem Cs(F:zr X.prog X.w X.K X.mg X.base CX cm k f fd ps sp)(hr:zD cm k X.A)(S:Gl X x)(hm:X.mg x=some (.ref f))(J:IE X.K (.ref f)=true)(hb:aP X.K fd ps ds)(hd:zo Zp ds)(G:dw CX X E)
  (ha:PA X (e::es) t) (O:(x==("__debug__":Str))=false:=by decide) (he:EH (e::es) X.env=(false,Fx e X.env)::EH es X.env:=by rfl) (U:(FZ pos (EH es X.env)).any (·.1)=false:=by rfl) :
  PE X (.Call (.Name x p) (e::es) [] pos) (je sp Zp E t):=by
 intro Ga s σ H Q I h;refine F0 (cP I S hm ?_ O);refine callWith_K (h₀:=X.base) I.ok.mod.LY J (thn (ha pos Ga s σ H _ I h) λus s1=>x5e λvs H1 n r q=>{n.z4,?_}) he U;exact lX F hr hb hd G n r q
theorem yY(he:PE X o ta)(c:Cls X.K C)(hm:eY X.K C m f)(F:zr X.prog X.w X.K X.mg X.base CX cm k f fd ps sp)(hr:zD cm k X.A)(hb:aP X.K fd ps ds)(hd:zo Zp ds)(W:dw CX X E)(ha:PA X (e::es) t)(Z:EH (e::es) X.env=(false,Fx e X.env)::EH es X.env:=by rfl)(Y1:(FZ pos (EH es X.env)).any (·.1)=false:=by rfl)(U:Fx (.Call (.Attribute o m Z3) (e::es) [] pos) X.env=(do
   let J<-Fx o X.env
   Hy Z3.atName
   let (f,first)<-GJ [J] (Hw J m pl)
   Iw pos f first (FZ pos (EH (e::es) X.env)) (Iy pos (Hb [] X.env))):=by rfl):
  PE X (.Call (.Attribute o m Z3) (e::es) [] pos) (dH C m sp Zp E ta t):=by
 intro Ga s σ H Q I h;refine methodCall_KW (pl:=pl) (thn (he Ga s σ H _ I h) λu s1=>x5e λx H1 G S n=>?_) U;obtain ⟨a,dx,fs,ex,ea,l,q⟩:=n;subst ex;obtain rfl:u=Ew a:=S;refine ko G ea c hm l ?_;refine callWith_K (first:=[.ref a]) (h₀:=X.base) I.ok.mod.LY hm.kp (thn (ha pos Ga s1 σ H1 _ G q) λus s2=>x5e λvs H2 O r q2=>{O.z4,?_}) Z Y1;exact lX (us:=.ref a::us) (vs:=.ref a::vs) F hr hb hd W O (.cons rfl r) q2
theorem xD(he:PE X o ta)(c:Cls X.K C)(hm:eY X.K C m f)(F:zr X.prog X.w X.K X.mg X.base CX cm k f fd ps sp)(hr:zD cm k X.A)(hb:aP X.K fd ps ds)(hd:zo Zp ds)(U:dw CX X E)(S:Fx (.Call (.Attribute o m Z3) [] [] pos) X.env=(do
   let J<-Fx o X.env
   Hy Z3.atName
   let (f,first)<-GJ [J] (Hw J m pl)
   Iw pos f first (FZ pos (EH [] X.env)) (Iy pos (Hb [] X.env))):=by rfl):
  PE X (.Call (.Attribute o m Z3) [] [] pos) (dH C m sp Zp E ta bE):=by
 intro Ga s σ H Q I h;refine methodCall_KW (pl:=pl) (thn (he Ga s σ H _ I h) λu s1=>x5e λx H1 G O n=>?_) S;obtain ⟨a,dx,fs,ex,ea,l,q⟩:=n;subst ex;obtain rfl:u=Ew a:=O;refine ko G ea c hm l ?_;exact callWith_K0 (first:=[.ref a]) G.z4 hm.kp (lX (us:=[.ref a]) (vs:=[.ref a]) F hr hb hd U G (.cons rfl .nil) q)
structure Mk(K:Ei)(C f:Addr):Prop where
 makes:makesIn K C=true
 init:FF K (.ref C) XJ=some (some (.ref f))
 fn:isFn K (.ref f)=true
 kp:IE K (.ref C)=true
theorem sv(M:Mk X.K C f)(F:zr X.prog X.w X.K X.mg X.base CX cm k f fd ps sp)(hr:zD cm (k+1) X.A)(hb:aP X.K fd ps ds)(hd:zo Zp ds)(W:dw CX X E)(I:Inv X Ga σ H s)(r:zo vs us)(h:∀x dx,H x=none->H dx=none->dx≠x->sp (.ref x::(vs++Zp)) (upd (upd H dx (.own x)) x (.ins C dx [])) (λv H2=>v = .non/\Q (.ref x) H2) E):
  Et (Ez X.prog X.w) X.A (call (.ref C) us) (EP X Ga σ Q) X.xe s:=by
 have J:=h (s.heap.objs.size+1) s.heap.objs.size (I.hok.fresh (Nat.le_succ _)) (I.hok.fresh (EF _)) (E7 (Hl _));have G:=Inv.made (C:=C) I;have r2:zo (V.ref (s.heap.objs.size+1)::(vs++Zp)) (Ew (s.heap.objs.size+1)::(us++ds)):=.cons rfl (r.append hd);have U:(Ew (s.heap.objs.size+1)::us++ds).length=ps.length:=by
  have e:=r2.length;rw [F.len _ _ _ _ J] at e;exact e.symm
 refine wpAny_call (DM (f:=f) I.z4 M.makes M.init (beq_iff_eq.mp M.fn) (HJ (F.run _ X.stack _ _ {Ew (s.heap.objs.size+1)::us,[]} (Ew (s.heap.objs.size+1)::(us++ds)) _ _ E (hr.make C us [])
  (G.Ma.make C us []) (hb _ (Ew (s.heap.objs.size+1)::us) G.z4 U) r2 J) λr s' n=>?_))
 cases r with
 | error e=>exact W Ga σ _ _ e s' G n
 | ok fl =>
  cases fl with
  | ret u =>
   obtain ⟨v,H',Z,rv,S,O⟩:=G.after n;subst S;exact {rv,{V.ref (s.heap.objs.size+1),H',Z,rfl,O}}
  | next=>exact False.elim n
  | brk=>exact False.elim n
  | cont=>exact False.elim n
theorem BI(M:Mk X.K C f)(F:zr X.prog X.w X.K X.mg X.base CX cm k f fd ps sp)(hr:zD cm (k+1) X.A)(O:Gl X x)(hm:X.mg x=some (.ref C))(hb:aP X.K fd ps ds)(hd:zo Zp ds)(G:dw CX X E)
  (ha:PA X (e::es) t) (J:(x==("__debug__":Str))=false:=by decide) (he:EH (e::es) X.env=(false,Fx e X.env)::EH es X.env:=by rfl) (S:(FZ pos (EH es X.env)).any (·.1)=false:=by rfl) :
  PE X (.Call (.Name x p) (e::es) [] pos) (mW C sp Zp E t):=by
 intro Ga s σ H Q I h;refine F0 (cP I O hm ?_ J);refine callWith_K (h₀:=X.base) I.ok.mod.LY M.kp (thn (ha pos Ga s σ H _ I h) λus s1=>x5e λvs H1 n r q=>{n.z4,?_}) he S;exact sv M F hr hb hd G n r q
theorem xS(M:Mk X.K C f)(F:zr X.prog X.w X.K X.mg X.base CX cm k f fd ps sp)(hr:zD cm (k+1) X.A)(J:Gl X x)(hm:X.mg x=some (.ref C))(hb:aP X.K fd ps ds)(hd:zo Zp ds)(G:dw CX X E)
  (n:(x==("__debug__":Str))=false:=by decide):PE X (.Call (.Name x p) [] [] pos) (mW C sp Zp E bE):=by
 intro Ga s σ H Q I h;refine F0 (cP I J hm ?_ n);exact callWith_K0 I.z4 M.kp (sv (us:=[]) M F hr hb hd G I .nil h)
end
structure zB(N P:List Str)(sc:Scope):Prop where
 kind:sc.kind = .function
 co:sc.isCoroutine=false
 gen:sc.isGenerator=false
 nd:N.Nodup
 pre:N.take P.length=P
 par:∀x∈P,sc.names.lookup x=some .local\/sc.names.lookup x=some .cell
 L1:∀y∈sc.names,y.2≠.free
theorem nh{kindOf:Str->Option Fm}:∀{binds:List (Str×Value)}{m:Str->Option Value},(∀v,(x,v)∉binds)->bindL kindOf binds m x=m x
 | [],_,_=>rfl
 | (n,v)::r,m,h=>by
  unfold bindL;rw [nh λw F=>h w (Em _ F)];split
  .have:x≠n:=by rintro rfl;exact h v Er
   simp [this]
  .rfl
theorem qL{kindOf:Str->Option Fm}:∀{binds:List (Str×Value)}{m:Str->Option Value},(∀v,(x,v)∉binds)->bindC kindOf binds m x=m x
 | [],_,_=>rfl
 | (n,v)::r,m,h=>by
  unfold bindC;rw [qL λw F=>h w (Em _ F)];split
  .rfl
  .have:x≠n:=by rintro rfl;exact h v Er
   simp [this]
theorem sx{kindOf:Str->Option Fm}:∀{P:List Str}{vs:List Value}{i:Nat}{m:Str->Option Value},P.Nodup->P[i]?=some x->vs[i]?=some v->kindOf x=some .local ->
  bindL kindOf (P.zip vs) m x=some v
 | [],_,_,_,_,h,_,_=>by simp at h
 | _::_,[],_,_,_,_,h,_=>by simp at h
 | p::P,w::vs,0,m,nd,h1,h2,n=>by
  simp at h1 h2;subst h1;subst h2;show bindL kindOf ((p,w)::P.zip vs) m p=_;unfold bindL;rw [nh λv hv=>(ID.mp nd).1 (IJ hv).1,if_pos n];simp
 | p::P,w::vs,i+1,m,nd,h1,h2,n=>by
  show bindL kindOf ((p,w)::P.zip vs) m x=_;unfold bindL;exact sx (i:=i) (ID.mp nd).2 (by simpa using h1) (by simpa using h2) n
theorem oN{kindOf:Str->Option Fm}:∀{P:List Str}{vs:List Value}{i:Nat}{m:Str->Option Value},P.Nodup->P[i]?=some x->vs[i]?=some v->kindOf x≠some .local ->
  bindC kindOf (P.zip vs) m x=some v
 | [],_,_,_,_,h,_,_=>by simp at h
 | _::_,[],_,_,_,_,h,_=>by simp at h
 | p::P,w::vs,0,m,nd,h1,h2,n=>by
  simp at h1 h2;subst h1;subst h2;show bindC kindOf ((p,w)::P.zip vs) m p=_;unfold bindC;rw [qL λv hv=>(ID.mp nd).1 (IJ hv).1,if_neg n];simp
 | p::P,w::vs,i+1,m,nd,h1,h2,n=>by
  show bindC kindOf ((p,w)::P.zip vs) m x=_;unfold bindC;exact oN (i:=i) (ID.mp nd).2 (by simpa using h1) (by simpa using h2) n
def start(N:List Str)(vs:List V):St:=vs.map some++Fs (N.length-vs.length) none
def bH(CX:CXT)(cm:Bool)(P:Eo)(w:EG)(K:Ei)(mg:Str->Option Value)(base:Heap)(N:List Str)(qual:Str)(scope:Scope)(f:Addr)(cd:Value)(A:EB)(outer:List Env)(s:Eh)(H:Hp)(E:XK):Cx where
 prog:=P
 w:=w
 K:=K
 mg:=mg
 base:=base
 A:=A.deeper (GP qual scope s.heap.objs.size f cd)
 N:=N
 s₀:=s
 H₀:=H
 env:=GP qual scope s.heap.objs.size f cd
 outer:=outer
 stack:=GP qual scope s.heap.objs.size f cd::outer
 ex:=[]
 calm:=cm
 fn:=λ_=>true
 pn:=[]
 xe:=λe s'=>Et (Ez P w) (A.deeper (GP qual scope s.heap.objs.size f cd)) (leaving (GP qual scope s.heap.objs.size f cd) e) (λ_ n=>CX outer H s E e n) (λF n=>CX outer H s E F n) s'
theorem n0{sc:Scope}(h:sc.names.lookup x=some .cell):∃c,(FQ n sc.names []).lookup x=some c:=by
 have q:=PySem.W.cellsFrom_some sc.names n [] (.inl h);exact Hm.mp q
theorem xW{K:Ei}(S:zB N ps scope)(hd:cm=true->A.handled=none)(F:eG P w K mg base A outer s H)(hl:vs.length=ps.length)(r:zo vs us)(x:InCallC s s.heap.objs.size (bindL (GP qual scope s.heap.objs.size f cd).kindOf (ps.zip us) λ_=>none) (FQ (s.heap.objs.size+1) scope.names []) (bindC (GP qual scope s.heap.objs.size f cd).kindOf (ps.zip us) λ_=>none) s1):
  Inv (bH CX cm P w K mg base N qual scope f cd A outer s H E) [] (start N vs) H s1:=by
 have Y1:ps.length<=N.length:=by have:=congrArg length S.pre;rw [Fn] at this;lia
 obtain ⟨h1,tk,rfl,W⟩:=x.done;have G:∀b:Addr,b∉(bH CX cm P w K mg base N qual scope f cd A outer s H E).ex:=λb z=>absurd (show b∈([]:List Addr) from z) 's';refine {{F.mod,S.kind,rfl,rfl,EF _,λy z c h1 h2=>?_,λy J=>?_,λy c _ h=>?_,hd,EB.frames_deeper F.frames,.inr {rfl,rfl},λb z=>absurd z (G b),F.bs,F.LI,λb _ _=>G b,λb z=>absurd z (G b),F.Jf,F.LQ},
  rfl,F.bare,Un.kept W,{_,x.toInCall.ns,λi y v h1 h2 h3=>?_},λy c h=>{_,x.cell y c h},F.hok.fresh (EF _),λy c h=>?_,λp hp=>absurd (show p∈([]:List (Addr×Obj)) from hp) 's',F.hok.kept W,?_,F.hdk}
 .exact name_of_addr x.apart (Fu h1) (Fu h2)
 .have J:scope.names.lookup y=some .cell\/scope.names.lookup y=some .free:=J;rcases J with J|J
  .exact n0 J
  .exact absurd rfl (S.L1 _ (Fu J))
 .exact Iv (x.above y c (Fu h))
 .have hi:i<vs.length:=by
   unfold start at h2;by_cases hi:i<vs.length
   .exact hi
   .rw [GS (by simpa using hi)] at h2;rw [List.getElem?_replicate] at h2;split at h2<;>cases h2
  have ha:vs[i]?=some v:=by
   unfold start at h2;rw [GV (by simpa using hi),E5] at h2;cases e:vs[i]? with
   | none=>rw [e] at h2;cases h2
   | some a=>rw [e] at h2;cases h2;rfl
  obtain ⟨u,U,Z⟩:=r.get ha;have hp:ps[i]?=some y:=by
   rw [<- S.pre,List.getElem?_take_of_lt 'l'];exact h1
  have O:ps.Nodup:=by rw [<- S.pre];exact S.nd.sublist (Ik _ _)
  refine {u,Z,?_};rcases S.par y (ER hp) with k|k
  .exact .inl {k,sx O hp U k}
  .obtain ⟨c,e⟩:=n0 (n:=s.heap.objs.size+1) k;refine .inr {.inl k,c,e,?_};have q:=x.cell y c e;rw [oN O hp U (by show scope.names.lookup y≠_;rw [k];decide)] at q;exact q
 .exact F.hok.fresh (Iv (x.above y c (Fu h)))
 .unfold start;show _=N.length;rw [EV,En,List.length_replicate];lia
theorem rB{K:Ei}{k:Nat}{dV kV YO pm O ct oc:Value}(lk:K.lookup f=some {oc,od,.func (fnOf name qual Ym Zn scope dV kV YO pm an O ct),ak})(hcd:codeIn K O qual=true)(S:zB N ps scope)(len:∀vs H Q E,sp vs H Q E->vs.length=ps.length)(YN:∀(A:EB)(outer:List Env)(s:Eh)(H:Hp)(vs:List V)(Q:VK)(E:XK),zD cm k (A.deeper (GP qual scope s.heap.objs.size f O))->sp vs H Q E ->
   ∃t,PSs (bH CX cm P w K mg base N qual scope f O A outer s H E) Zn t/\t { nx:=λ_ H'=>Q .non H',rt:=Q } (start N vs) H):
  zr P w K mg base CX cm (k+1) f (fnOf name qual Ym Zn scope dV kV YO pm an O ct) ps sp:=by
 refine {len,λA outer s H args us vs Q E hr e0 hb r U=>?_};have hl:=len _ _ _ _ U;have KX:K.In s.heap:=e0.mod.LY.keeps λb o e=>(e0.bs b o e).1;have ag:s.heap.NoLimit:=e0.mod.nolimit.keeps λb o e=>(e0.bs b o e).1;have G:∀y∈ps.zip us,scope.names.lookup y.1=some .local\/(scope.names.lookup y.1=some .cell/\((FQ (s.heap.objs.size+1) scope.names []).lookup y.1).isSome=true):=λ⟨n,v⟩ hy=>by
  rcases S.par n (IJ hy).1 with q|q
  .exact .inl q
  .exact .inr {q,PySem.W.cellsFrom_some _ _ _ (.inl q)}
 refine codeAny_call_function hr.depth (KX _ _ lk) rfl S.co S.gen rfl (PySem.W.codeRec_of KX hcd) (hb _ _ _ _ ?_);refine wpAny_newFunctionEnv_cells S.kind G λenv he s1 x=>?_;subst he;refine {ag.keeps x.toInCall.keep,codeAny_func ?_};obtain ⟨t,ht,hq⟩:=YN A outer s H vs Q E (hr.deeper _) U;have I:Inv (bH CX cm P w K mg base N qual scope f O A outer s H E) [] (start N vs) H s1:=xW S hr.hd e0 hl r x;refine Fe (ht [] s1 (start N vs) H _ I hq) (λfl s' hs=>?_) λe s' hs=>hs;have Z:∀{F:St}{H':Hp}{v:V}{u:Value},Inv (bH CX cm P w K mg base N qual scope f O A outer s H E) [] F H' s'->zh v u->Q v H'->CE outer P w H s Q u s' :=
  λ{F H' v u} J rv q=>⟨v,H',J.os,J.bare,J.base,J.hok,rv,q⟩
 cases fl with
 | ret u =>
  obtain ⟨v,F,H',J,rv,q⟩:=hs;exact Z J rv q
 | next =>
  obtain ⟨F,H',J,q⟩:=hs;exact Z (v:=V.non) (u:=E6) J rfl q
 | brk =>
  obtain ⟨_,_,_,q⟩:=hs;exact False.elim q
 | cont =>
  obtain ⟨_,_,_,q⟩:=hs;exact False.elim q
section
variable {X:Cx}{x:Str}{p pos:Pos}{e:EN}{es:List EN}{t:TA}{id T:String}{r:List V->Hp->VK->Prop}
def tCB(r:List V->Hp->VK->Prop)(t:TA):TE:=λσ H Q=>t σ H λvs H1=>r vs H1 Q
theorem pC(hc:zM X (.builtin id) r)(O:Gl X x)(hm:X.mg x=none)(hv:Gn x=some (.builtin id))(ha:PA X (e::es) t)(F:x≠"__name__":=by decide)(G:(x==("__debug__":Str))=false:=by decide)
  (he:EH (e::es) X.env=(false,Fx e X.env)::EH es X.env:=by rfl) (J:(FZ pos (EH es X.env)).any (·.1)=false:=by rfl):PE X (.Call (.Name x p) (e::es) [] pos) (tCB r t):=by
 intro Ga s σ H Q I h;refine F0 (ja I O hm hv ?_ F G);exact PyProof.Rows.callWith_builtin1 (thn (ha pos Ga s σ H _ I h) λus s1=>x5e λvs H1 n r1 q1=>hc Ga s1 σ H1 vs us Q n r1 q1) he J
theorem uz(hc:zM X (.type T) r)(O:Gl X x)(hm:X.mg x=none)(hv:Gn x=some (.type T))(ha:PA X (e::es) t)(F:x≠"__name__":=by decide)(G:(x==("__debug__":Str))=false:=by decide)
  (he:EH (e::es) X.env=(false,Fx e X.env)::EH es X.env:=by rfl) (J:(FZ pos (EH es X.env)).any (·.1)=false:=by rfl):PE X (.Call (.Name x p) (e::es) [] pos) (tCB r t):=by
 intro Ga s σ H Q I h;refine F0 (ja I O hm hv ?_ F G);exact HK (thn (ha pos Ga s σ H _ I h) λus s1=>x5e λvs H1 n r1 q1=>hc Ga s1 σ H1 vs us Q n r1 q1) he J
end
end L2
namespace HT
open PySem PyProof.Rows
section
variable {prog:Eo}{w:EG}{A:EB}{E:Value->Eh->Prop}{s:Eh}
theorem cat_tup{t b:Addr}(ht:IsTup s.heap t vs.toArray)(hb:IsTup s.heap b ws.toArray)(hv:vs≠[])(h1:ws=[]->Q (.ref t) s)(h2:ws≠[]->Q (.ref s.heap.objs.size) { s with heap:=s.heap.push { cls:=.type "tuple",data:=.seq (vs++ws).toArray } })(hsz:vs.length+ws.length<=sizeLine):Et (Ez prog w) A (FP .Add (.ref t) (.ref b)) Q E s:=by
 obtain ⟨⟨cls,dd,data,W⟩,ho,hc,n,hd⟩:=id ht;obtain ⟨⟨Z,O,data2,G⟩,F,J,n2,S⟩:=id hb;simp only at hc hd J S;subst hc hd J S;have e:vs.toArray++ws.toArray=(vs++ws).toArray:=by simp
 by_cases U:ws=[]
 .exact concat_meets {_,ho,rfl} {_,F,rfl} noFill_tuple_add seq_tuple_add slot_tuple_add entry_tuple_add (args_tuple_add_2 _ _)
   (tuple_addW1 t b vs.toArray ws.toArray n n2 dd O W G (by simpa using hv) (by simp [U])) {ho,F,h1 U}
 .refine concat_meets {_,ho,rfl} {_,F,rfl} noFill_tuple_add seq_tuple_add slot_tuple_add entry_tuple_add (args_tuple_add_2 _ _)
   (tuple_addW2 t b vs.toArray ws.toArray n n2 dd O W G (by simpa using hv) (by simpa using U) (by rw [EC,EC];exact hsz)) {ho,F,?_}
  rw [e];exact h2 U
def sIx(n d:Nat):Option Int->Nat
 | none=>d
 | some v=>if v<0 then (v+(n:Int)).toNat else min v.toNat n
theorem C1(n d:Nat)(hd:d<=n)(o:Option Int):sIx n d o<=n:=by
 cases o with
 | none=>exact hd
 | some v =>
  show (if v<0 then (v+(n:Int)).toNat else min v.toNat n)<=n;by_cases hv:v<0
  .rw [if_pos hv];lia
  .rw [if_neg hv];exact Nat.min_le_right _ _
theorem nQ(v:Int)(n d:Nat):(if v<0 then max (v+(n:Int)) 0 else min v (n:Int))=((sIx n d (some v):Nat):Int):=by
 show (if v<0 then max (v+(n:Int)) 0 else min v (n:Int))=(((if v<0 then (v+(n:Int)).toNat else min v.toNat n):Nat):Int);by_cases hv:v<0
 .simp only [if_pos hv];lia
 .simp only [if_neg hv];lia
theorem vL(lo hi:Option Int)(n:Nat):EE.Slice.sliceAdjust lo hi 1 (n:Int)=(((sIx n 0 lo:Nat):Int),((sIx n n hi:Nat):Int)):=by
 have h1 : ¬ ((1:Int)<0):=by lia
 unfold EE.Slice.sliceAdjust;simp only [h1,if_false];refine Prod.ext ?_ ?_
 .cases lo with
  | none=>rfl
  | some v=>exact nQ v n 0
 .cases hi with
  | none=>rfl
  | some v=>exact nQ v n n
theorem uN(i j:Nat):EE.Slice.slicePlaces (i:Int) (j:Int) 1=j-i:=by
 unfold EE.Slice.slicePlaces;have h1:(1:Int)>0:=by lia
 simp only [h1,if_true,Int.ediv_one];split<;>lia
theorem nq{o:Option Int}(p:Ic v o)(h:Q o s):Et (Ez prog w) A (EE.Slice.slicePartIndex v) Q E s:=by
 cases p with
 | none=>exact slicePart_none h
 | int i t=>exact slicePart_int h
theorem sC{S:Addr}{J O:Value}{lo hi:Option Int}{n:Nat}{Q:Int×Int×Nat->Eh->Prop}(hs:s.heap.IsSliceOf S J O .none)(pl:Ic J lo)(W:Ic O hi)
  (h:Q (((sIx n 0 lo:Nat):Int),1,sIx n n hi-sIx n 0 lo) s):Et (Ez prog w) A (EE.Slice.sliceApplied (.ref S) (pure (n:Int))) Q E s:=by
 obtain ⟨os,G,U,F⟩:=id hs;unfold EE.Slice.sliceApplied EE.Slice.sliceFields;refine we (we (Fh G F (x:=J) rfl (we (Fh G F (x:=O) rfl (we (Fh G F (x:=.none) rfl (Ej ?_)))))));refine we (slicePart_none ?_);show Et _ _ (if ((1:Int)==0)=true then _ else _) _ _ s;rw [if_neg 'd'];refine we (nq pl (we (nq W (we (Ej ?_)))));show Et _ _ (match EE.Slice.sliceAdjust lo hi 1 (n:Int) with|(lo,hi)=>pure (lo,(1:Int),EE.Slice.slicePlaces lo hi 1)) _ _ s;rw [vL lo hi n];show Et _ _ (pure (((sIx n 0 lo:Nat):Int),(1:Int),EE.Slice.slicePlaces ((sIx n 0 lo:Nat):Int) ((sIx n n hi:Nat):Int) 1)) _ _ s;rw [uN];exact Ej h
theorem AW(xs:Array Value)(i k:Nat):((range k).filterMap λ(m:Nat)=>xs[((i:Int)+(m:Int)*1).toNat]?).toArray=((xs.toList.drop i).take k).toArray:=by
 have e:(λ(m:Nat)=>xs[((i:Int)+(m:Int)*1).toNat]?)=λm=>xs[i+m]?:=by
  funext m;have:((i:Int)+(m:Int)*1).toNat=i+m:=by lia
  rw [this]
 rw [e];have:=pick_run xs i k;rw [List.filterMap_map] at this;have n:((λx=>xs[x]?)∘λx=>i+x)=λm=>xs[i+m]?:=rfl;rw [n] at this;rw [this]
theorem getItem_tuple_cut{t G:Addr}{W:Value}{lo hi:Option Int}(n:IsTup s.heap t items)(hs:s.heap.IsSliceOf G W Z .none)(pl:Ic W lo)(pu:Ic Z hi)(hw : ¬ (sIx items.size 0 lo=0/\sIx items.size items.size hi=items.size))(h:Q (.ref s.heap.objs.size) { s with heap:=s.heap.push { cls:=.type "tuple",data:=.seq ((items.toList.drop (sIx items.size 0 lo)).take (sIx items.size items.size hi-sIx items.size 0 lo)).toArray } })(hsz:items.size<=sizeLine):Et (Ez prog w) A (IH (.ref t) (.ref G)) Q E s:=by
 have F:sizeOk (.seq ((items.toList.drop (sIx items.size 0 lo)).take (sIx items.size items.size hi-sIx items.size 0 lo)).toArray):=by
  show ((items.toList.drop (sIx items.size 0 lo)).take (sIx items.size items.size hi-sIx items.size 0 lo)).toArray.size<=sizeLine;rw [EC,Fn,Ha,GZ];lia
 have hj:sIx items.size items.size hi<=items.size:=C1 _ _ (EF _) hi;obtain ⟨os,U,S,ag⟩:=id hs;have O:s.TypeIs (.ref G) "slice":=⟨os,U,S⟩;unfold IH
 try with_reducible refine E1 ?_
 first|refine we (Ej ?_)|skip
 refine we (wpAny_sequenceKey n.typeIs 'd' ?_);refine we (G8 (name:=Es "__getitem__") n.typeIs Fl
  (Gs Fl n.typeIs entry_tuple_getitem ?_ (args_tuple_getitem _ _)))
 show Et _ _ (EE.Tuple.tupleItemsOf (.ref t)>>=_) _ _ s;refine we (tupleItemsOf_ n ?_);refine we (Hg O ?_);rw [if_pos 'd'];refine we (sC hs pl pu ?_);have J : ¬ ((((sIx items.size 0 lo:Nat):Int)==0&&(1:Int)==1&&(sIx items.size items.size hi-sIx items.size 0 lo)==items.size)=true):=by
  intro q;rw [EJ,EJ] at q;have q1:((sIx items.size 0 lo:Nat):Int)=0:=eq_of_beq q.1.1;have q2:sIx items.size items.size hi-sIx items.size 0 lo=items.size:=eq_of_beq q.2;exact hw {'l','l'}
 show Et _ _ (if (((sIx items.size 0 lo:Nat):Int)==0&&(1:Int)==1&&(sIx items.size items.size hi-sIx items.size 0 lo)==items.size)=true then _ else _) _ _ s;rw [if_neg J,AW]
 first
  | exact we (m:=EE.Tuple.tupleExact _) (Fo (Ej {_,rfl,Ej h}) F)
  | exact we (m:=EE.Tuple.tupleExact _) (Fo (we (Ej (Ej {_,rfl,Ej h}))) F)
  | exact we (we (m:=EE.Tuple.tupleExact _) (Fo (Ej (Ej {_,rfl,Ej h})) F))
  | exact we (we (m:=EE.Tuple.tupleExact _) (Fo (Ej {_,rfl,Ej h}) F))
end
end HT
namespace L2
open PySem PySem.Spec PyProof.Rows
abbrev TO:=St->Hp->(Option Int->Hp->Prop)->Prop
def PO(X:Cx)(e:Option EN)(t:TO):Prop :=
 ∀(Ga:List (Addr×Obj))(s:Eh)(σ:St)(H:Hp)(Q:Option Int->Hp->Prop),Inv X Ga σ H s->t σ H Q ->
  Et (Ez X.prog X.w) X.A (evalPart e X.env) (λu s'=>∃o H',Inv X Ga σ H' s'/\Ic u o/\Q o H') X.xe s
def ou:TO:=λ_ H Q=>Q none H
def ng(t:TE):TO:=λσ H Q=>t σ H λx H1=>∃i,x = .int i/\Q (some i) H1
section
variable {X:Cx}{e:EN}{te:TE}{lo hi:Option EN}{tl th:TO}{pos p2:Pos}
theorem cO:W (PO X none ou):=by
 refine {?_};intro Ga s σ H Q I h;rw [evalPart_none];exact Ej {none,H,I,.none,h}
theorem bZ(h:W (PE X e te)):W (PO X (some e) (ng te)):=by
 refine {?_};have h:=h.h;intro Ga s σ H Q I n;rw [evalPart_some];refine thn (h Ga s σ H _ I n) λu s1=>x5e λx H1 F r1 q1=>?_;obtain ⟨i,rfl,q⟩:=q1;obtain ⟨t,rfl⟩:=r1;exact {some i,H1,F,.int i t,q}
def SlR(X:Cx)(r:V->Option Int->Option Int->Hp->VK->Prop):Prop :=
 ∀(Ga:List (Addr×Obj))(s:Eh)(σ:St)(H:Hp)(x:V)(v n F:Value)(lo hi:Option Int)(G:Addr)(Q:VK),Inv X Ga σ H s->zh x v->s.heap.IsSliceOf G n F .none->Ic n lo->Ic F hi->r x lo hi H Q ->
  ∃T id,typeLookup (.type T) "__getitem__"=pure (some (.builtin id))/\s.TypeIs v T/\Et (Ez X.prog X.w) X.A (IH v (.ref G)) (EP X Ga σ Q) X.xe s
theorem SlR.or{r r':V->Option Int->Option Int->Hp->VK->Prop}(h:SlR X r)(h':SlR X r'):SlR X (λx lo hi H Q=>r x lo hi H Q\/r' x lo hi H Q):=by
 intro Ga s σ H x v G O lo hi F Q I n hs pl J q;rcases q with q|q
 .exact h Ga s σ H x v G O lo hi F Q I n hs pl J q
 .exact h' Ga s σ H x v G O lo hi F Q I n hs pl J q
def tSl(r:V->Option Int->Option Int->Hp->VK->Prop)(te:TE)(tl th:TO):TE:=λσ H Q=>te σ H λx H1=>tl σ H1 λl H2=>th σ H2 λu H3=>r x l u H3 Q
theorem cB{r:V->Option Int->Option Int->Hp->VK->Prop}(hr:SlR X r)(he:W (PE X e te))(J:W (PO X lo tl))(O:W (PO X hi th)):W (PE X (.Subscript e (.Slice lo hi none p2) pos) (tSl r te tl th)):=by
 refine {?_};have he:=he.h;have J:=J.h;have O:=O.h;intro Ga s σ H Q I h;refine Subscript_ (thn (he Ga s σ H _ I h) λv s1=>x5e λx H1 Z r1 q1=>?_);refine wpAny_Slice (thn (J Ga s1 σ H1 _ Z q1) λF s2=>x5e λl H2 I2 pl q2=>thn (O Ga s2 σ H2 _ I2 q2) λG n=>x5e λu H3 I3 pu q3=>?_);rw [evalPart_none];refine Ej ?_;have S:Inv X Ga σ H3 { n with heap:=n.heap.push { cls:=.type "slice",data:=.fields #[F,G,.none] } }:=I3.kept (t':=n.toks) λb ob q=>El _ q;obtain ⟨T,id,hT,U,hg⟩:=hr Ga { n with heap:=n.heap.push { cls:=.type "slice",data:=.fields #[F,G,.none] } } σ H3 x v F G l u n.heap.objs.size Q S r1 (Heap.IsSliceOf.new ..) pl pu q3;show Et (Ez X.prog X.w) X.A (subscriptTail e (.Slice lo hi none p2) v (.ref n.heap.objs.size)) (EP X Ga σ Q) X.xe { n with heap:=n.heap.push { cls:=.type "slice",data:=.fields #[F,G,.none] } };exact tail_any (ops:=[.ref n.heap.objs.size,v]) U hT hg (by with_unfolding_all rfl)
def z8(xs:List V)(lo hi:Option Int):List V:=(xs.drop (HT.sIx xs.length 0 lo)).take (HT.sIx xs.length xs.length hi-HT.sIx xs.length 0 lo)
theorem qo(xs:List V)(lo hi:Option Int):(z8 xs lo hi).length<=xs.length:=by
 unfold z8;rw [Fn,Ha];lia
def Bc(K:Ei):V->Option Int->Option Int->Hp->VK->Prop:=λx lo hi H Q=>∃a xs,x = .ref a/\SqT K H a xs /\
 ¬ (HT.sIx xs.length 0 lo=0/\HT.sIx xs.length xs.length hi=xs.length)/\∀p,H p=none->Q (.ref p) (upd H p (.tup (z8 xs lo hi)))
theorem xi:SlR X (Bc X.K):=by
 intro Ga s σ H x v vl vu lo hi Z Q I O hs pl W h;obtain ⟨a,xs,rfl,S,U,q⟩:=h;cases O;obtain ⟨J,r,F,G⟩:=I.tuple S;have n:J.toArray.size=xs.length:=by rw [EC];exact r.length.symm
 refine {"tuple",_,Fl.lookup,F.typeIs,?_};refine HT.getItem_tuple_cut F hs pl W (by rw [n];exact U) ?_ (by rw [n];exact G);rw [n];refine {.ref s.heap.objs.size,_,I.laid (t':=s.toks) (o:=.tup (z8 xs lo hi)) (λb ob q=>El _ q) (EF _) ?_,rfl,q _ (I.hok.fresh (EF _))};exact {EL (qo xs lo hi) G,_,(r.drop (HT.sIx xs.length 0 lo)).take (HT.sIx xs.length xs.length hi-HT.sIx xs.length 0 lo),IsTup.new _ _}
def Ae(K:Ei):R2:=λx y H Q=>∃a b xs ys,x = .ref a/\y = .ref b/\SqT K H a xs/\SqT K H b ys/\xs≠[]/\xs.length+ys.length<=sizeLine /\
 (ys=[]->Q (.ref a) H)/\(ys≠[]->∀p,H p=none->Q (.ref p) (upd H p (.tup (xs++ys))))
theorem zo.Jp(r:zo xs us):us=[]↔xs=[]:=by
 cases r with
 | nil=>simp
 | cons _ _=>simp
theorem CK:OpR X (FP .Add) (Ae X.K):=by
 intro Ga s σ H x y v u Q I F G h;obtain ⟨a,b,xs,ys,rfl,rfl,ha,hb,J,n,q1,O⟩:=h;cases F;cases G;obtain ⟨U,r1,S,_⟩:=I.tuple ha;obtain ⟨W,r2,p2,_⟩:=I.tuple hb;refine HT.cat_tup S p2 (λz=>J (r1.Jp.mp z)) (λz=>{.ref a,H,I,rfl,q1 (r2.Jp.mp z)}) (λz=>?_) (by rw [<- r1.length,<- r2.length];exact n);refine {.ref s.heap.objs.size,_,I.laid (t':=s.toks) (o:=.tup (xs++ys)) (λb ob q=>El _ q) (EF _) ?_,rfl,O (λw=>z (r2.Jp.mpr w)) _ (I.hok.fresh (EF _))};exact {by rw [EV];exact n,_,r1.append r2,IsTup.new _ _}
end
def ixN(n:Nat)(i:Int):Option Nat:=if 0<=i then (if i<n then some i.toNat else none) else if -(n:Int)<=i then some (i+n).toNat else none
def atI{α:Type}(xs:List α)(i:Int):Option α:=(ixN xs.length i).bind λj=>xs[j]?
theorem pZ(h:ixN n i=some j):seqIndex? i n=some j/\j<n/\-(n:Int)<=i/\i<n:=by
 unfold ixN at h;by_cases F:0<=i
 .rw [if_pos F] at h;by_cases h1:i<n
  .rw [if_pos h1] at h;have e:i.toNat=j:=E8.inj h;exact {by rw [seqIndex_of F h1,e],'l','l',h1}
  .rw [if_neg h1] at h;cases h
 .rw [if_neg F] at h;by_cases h1 : -(n:Int)<=i
  .rw [if_pos h1] at h;have e:(i+n).toNat=j:=E8.inj h;exact {by rw [seqIndex_neg 'l' h1,e],'l',h1,'l'}
  .rw [if_neg h1] at h;cases h
theorem jW{α:Type}{xs:List α}{v:α}(h:atI xs i=some v):∃j,seqIndex? i xs.length=some j/\xs[j]?=some v/\j<xs.length/\-(xs.length:Int)<=i/\i<xs.length:=by
 unfold atI at h;cases e:ixN xs.length i with
 | none=>rw [e] at h;cases h
 | some j =>
  rw [e] at h;obtain ⟨h1,h2,h3,h4⟩:=pZ e;exact ⟨j,h1,h,h2,h3,h4⟩
theorem bx{α:Type}{xs:List α}{j:Nat}{v:α}(h:xs[j]?=some v):atI xs (j:Int)=some v:=by
 have n:j<xs.length:=(ED.mp h).1;have e:ixN xs.length (j:Int)=some j:=by
  unfold ixN;rw [if_pos 'l',if_pos 'l'];simp
 unfold atI;rw [e];exact h
def rg(b:EN):Prop:=∀o i,subscripted b false o i=operate [o,i] (IH o i)
def IxR(X:Cx)(r:R2):Prop :=
 ∀(ZO n:EN)(Ga:List (Addr×Obj))(s:Eh)(σ:St)(H:Hp)(x y:V)(v u:Value)(Q:VK),Inv X Ga σ H s->zh x v->zh y u->r x y H Q ->
  subscripted n false v u=operate [v,u] (IH v u)->Et (Ez X.prog X.w) X.A (subscriptTail ZO n v u) (EP X Ga σ Q) X.xe s
def MtR(X:Cx)(id:String)(r:V->List V->Hp->VK->Prop):Prop :=
 ∀(Ga:List (Addr×Obj))(s:Eh)(σ:St)(H:Hp)(x:V)(xs:List V)(v:Value)(us:List Value)(Q:VK),Inv X Ga σ H s->zh x v->zo xs us->r x xs H Q ->
  Et (Ez X.prog X.w) X.A (call (.builtin id) (v::us)) (EP X Ga σ Q) X.xe s
section
variable {X:Cx}{a b:EN}{ta tb:TE}{pos:Pos}
theorem IxR.or{r r':R2}(h:IxR X r)(h':IxR X r'):IxR X (λx y H Q=>r x y H Q\/r' x y H Q):=by
 intro ZO G Ga s σ H x y v u Q I n F q hs;rcases q with q|q
 .exact h ZO G Ga s σ H x y v u Q I n F q hs
 .exact h' ZO G Ga s σ H x y v u Q I n F q hs
theorem qP{r:R2}(hr:IxR X r)(ha:PE X a ta)(hb:PE X b tb)(hs:rg b):PE X (.Subscript a b pos) (tOp r ta tb):=by
 intro Ga s σ H Q I h;exact Subscript_ (mw ha hb I h λv u s2 x y H2 G n F q=>hr a b Ga s2 σ H2 x y v u Q G n F q (hs _ _))
def og(K:Ei):R2:=λx y H Q=>∃p xs i v,x = .ref p/\y = .int i/\SqL K H p xs/\atI xs i=some v/\Q v H
def sf(K:Ei):R2:=λx y H Q=>∃p xs i v,x = .ref p/\y = .int i/\SqT K H p xs/\atI xs i=some v/\Q v H
def qK:R2:=λx y H Q=>∃z i c,x = .str z/\y = .int i/\z.length<=sizeLine/\atI z.cps.toList i=some c/\Q (.str {#[c]}) H
theorem pf:IxR X (og X.K):=by
 intro ZO Zg Ga s σ H x y v u Q I S U h hs;obtain ⟨p,xs,i,z,rfl,rfl,hq,he,q⟩:=h;cases S;obtain ⟨t,rfl⟩:=U;obtain ⟨O,r,pl,hz⟩:=I.list hq;obtain ⟨j,h1,h2,h3,h4,Z⟩:=jW he;obtain ⟨w,J,Yw⟩:=r.get h2;have W:=r.length;have hn:=eo;have n:EP X Ga σ Q w s:=⟨z,H,I,Yw,q⟩;by_cases G:0<=i
 .have F:i.toNat=j:=by
   rw [seqIndex_of G Z] at h1;exact E8.inj h1
  exact item_listR pl.isList G 'l' (by rw [F];simpa using J) n hs
 .have F:(i+(O.toArray.size:Int)).toNat=j:=by
   rw [seqIndex_neg 'l' h4] at h1;rw [EC,<- W];exact E8.inj h1
  exact subscriptTail_builtinR (x:=w) pl.isList.typeIs slot_list_getitem.lookup
   (wpAny_getItem_list_neg (Q:=λr s'=>r=w/\EP X Ga σ Q r s') pl.isList 'l' (by rw [EC]<;>lia) 'l' (by rw [F];simpa using J) {rfl,n}) hs
theorem Df:IxR X (sf X.K):=by
 intro ZO Zg Ga s σ H x y v u Q I F G h hs;obtain ⟨p,xs,i,z,rfl,rfl,U,he,q⟩:=h;cases F;obtain ⟨t,rfl⟩:=G;obtain ⟨W,r,pl,hz⟩:=I.tuple U;obtain ⟨j,h1,h2,h3,h4,h5⟩:=jW he;obtain ⟨w,J,S⟩:=r.get h2;have O:=r.length;have Z:=eo;have n:EP X Ga σ Q w s:=⟨z,H,I,S,q⟩;exact subscriptTail_builtinR (x:=w) pl.typeIs slot_tuple_getitem.lookup
  (getItem_tuple (j:=j) (Q:=λr s'=>r=w/\EP X Ga σ Q r s') pl 'l' 'l' (by rw [EC,<- O];exact h1) (by simpa using J) {rfl,n}) hs
theorem DY:IxR X qK:=by
 intro ZO Z Ga s σ H x y v u Q I n G h hs;obtain ⟨z,i,c,rfl,rfl,U,he,q⟩:=h;obtain ⟨t,rfl⟩:=n;obtain ⟨t',rfl⟩:=G;obtain ⟨j,h1,h2,h3,h4,S⟩:=jW he;have J:z.cps.toList.length=z.length:=by simp [Str.length]
 rw [J] at h1 h4 S;have W:=eo;exact tail_any (HU s z t) slot_str_getitem.lookup (getItem_str (c:=c) (by
  have F:decide (i < -(2 ^ 63:Int))=false:=decide_eq_false 'l';have O:decide (i ≥ 2 ^ 63)=false:=decide_eq_false 'l';rw [F,O,Bool.or_false]) (by rw [h1];simpa using h2) {.str {#[c]},H,I.tok _,{_,rfl},q}) hs
def rIx(K:Ei):R2:=λx y H Q=>og K x y H Q\/sf K x y H Q\/qK x y H Q
theorem uD:IxR X (rIx X.K):=pf.or (Df.or DY)
theorem uQ(F:List Value)(n j:Nat)(u:Value):mapSeq (·.setIfInBounds j u) { cls:=.type "list",data:=.seq F.toArray n }={ cls:=.type "list",data:=.seq (F.set j u).toArray n }:=by
 simp [mapSeq]
theorem Inv.lst{Ga:List (Addr×Obj)}{σ:St}{H:Hp}{s:Eh}{p:Addr}{xs:List V}(I:Inv X Ga σ H s)(h:H p=some (.lst xs)) :
  ∃(F:List Value)(n:Nat),zo xs F/\s.heap.get? p=some { cls:=.type "list",data:=.seq F.toArray n }/\xs.length<=sizeLine:=by
 obtain ⟨z,F,n,r,e⟩:=I.hok p _ h;exact ⟨F,n,r,e,z⟩
theorem Inv.L6{p:Addr}{G its':List Value}(I:Inv X Ga σ H s)(h:H p=some (.lst xs))(ho:s.heap.get? p=some { cls:=.type "list",data:=.seq G.toArray n })(J:f { cls:=.type "list",data:=.seq G.toArray n }={ cls:=.type "list",data:=.seq its'.toArray F })(r:zo ys its')(O:ys.length<=sizeLine)(t:Nat):
  Inv X Ga σ (upd H p (.lst ys)) { s with heap:=s.heap.update p f,toks:=t }:=by
 have e:(s.heap.update p f).get? p=some { cls:=.type "list",data:=.seq its'.toArray F }:=by
  rw [FA f ho (by rw [J]<;>rfl),J]
 refine I.write (x:=p) (e:=p) (by rw [h];trivial) (.inl rfl) (λb u hb q=>(E3 _ _ (Fi hb)).trans q) {_,e} ?_;exact ⟨O,its',F,r,e⟩
def lY:V->V->V->Hp->(Hp->Prop)->Prop:=λo i v H Q=>∃p xs k j,o = .ref p/\i = .int k/\H p=some (.lst xs)/\ixN xs.length k=some j/\Q (upd H p (.lst (xs.set j v)))
theorem fo:ki X lY:=by
 intro Ga s σ H o i v ov iv u Q I Z ri rv h;obtain ⟨p,xs,k,j,rfl,rfl,hp,U,q⟩:=h;cases Z;obtain ⟨t,rfl⟩:=ri;obtain ⟨J,n,r,ho,hz⟩:=I.lst hp;obtain ⟨h1,h2,h3,h4⟩:=pZ U;have F:=r.length;have hn:=eo;have S:Inv X Ga σ (upd H p (.lst (xs.set j v))) { s with heap:=s.heap.update p (mapSeq (·.setIfInBounds j u)) } :=
  I.L6 hp ho (uQ J n j u) (r.set rv j) (by rw [G4];exact hz) s.toks
 by_cases O:0<=k
 .have G:k.toNat=j:=by
   rw [seqIndex_of O h4] at h1;exact E8.inj h1
  exact PySem.W.ki_setAt ho O 'l' (by rw [EC,<- F];exact h4) (by rw [G];exact {_,S,q})
 .have G:(k+(J.toArray.size:Int)).toNat=j:=by
   rw [seqIndex_neg 'l' h3] at h1;rw [EC,<- F];exact E8.inj h1
  exact PySem.W.ki_setBack ho 'l' (by rw [EC,<- F];exact h3) 'l' (by rw [G];exact {_,S,q})
theorem Du(lo hi:Option Int)(n:Nat):(G9 lo hi none n).1=((HT.sIx n 0 lo:Nat):Int)/\(G9 lo hi none n).2.1=((HT.sIx n n hi:Nat):Int)/\(G9 lo hi none n).2.2=1:=by
 refine {?_,?_,rfl}
 .cases lo with
  | none=>simp [G9,HT.sIx]
  | some i =>
   simp only [G9,HT.sIx,getD_none,show (1:Int)>0 by decide,if_true];by_cases h:i<0
   .simp only [h,if_true]<;>lia
   .simp only [h,if_false]<;>lia
 .cases hi with
  | none=>simp [G9,HT.sIx]
  | some i =>
   simp only [G9,HT.sIx,getD_none,show (1:Int)>0 by decide,if_true];by_cases h:i<0
   .simp only [h,if_true]<;>lia
   .simp only [h,if_false]<;>lia
theorem yE(n:List Value)(lo hi:Option Int):slicePick n.toArray lo hi none=((n.drop (HT.sIx n.length 0 lo)).take (HT.sIx n.length n.length hi-HT.sIx n.length 0 lo)).toArray:=by
 obtain ⟨h1,h2,h3⟩:=Du lo hi n.toArray.size;unfold slicePick;rw [h1,h2,h3];simp only [sliceRange_one,pick_run,EC]<;>rfl
def DJ(K:Ei):V->Option Int->Option Int->Hp->VK->Prop:=λx lo hi H Q=>∃a xs,x = .ref a/\SqL K H a xs/\∀p,H p=none->Q (.ref p) (upd H p (.lst (z8 xs lo hi)))
theorem xj:SlR X (DJ X.K):=by
 intro Ga s σ H x v Z vu lo hi W Q I F hs pl O h;obtain ⟨a,xs,rfl,J,q⟩:=h;cases F;obtain ⟨U,r,n,S⟩:=I.list J;have G:=r.length;refine {"list",_,slot_list_getitem.lookup,n.isList.typeIs,?_};refine wpAny_getItem_list_slice n.isList hs pl O .none 's' ?_ (by rw [EC]<;>lia);rw [yE,<- G];refine {.ref s.heap.objs.size,_,I.laid (t':=s.toks) (o:=.lst (z8 xs lo hi)) (λb ob q=>El _ q) (EF _) ?_,rfl,q _ (I.hok.fresh (EF _))};exact {EL (qo xs lo hi) S,_,0,(r.drop (HT.sIx xs.length 0 lo)).take (HT.sIx xs.length xs.length hi-HT.sIx xs.length 0 lo),EW _ rfl}
def zO:V->Bool
 | .non=>true
 | .bl _=>true
 | .int _=>true
 | .str _=>true
 | _=>false
def eqV:V->V->Bool
 | .non,.non=>true
 | .bl a,.bl b=>a==b
 | .bl a,.int b=>(if a then 1 else 0)==b
 | .int a,.bl b=>a==(if b then 1 else 0)
 | .int a,.int b=>a==b
 | .str a,.str b=>a==b
 | _,_=>false
theorem lA(G:zh y u)(n:zh x v)(J:zO y=true)(F:zO x=true):SeqAt.EqAt A s u v (eqV y x):=by
 cases y with
 | non =>
  cases G;cases x with
  | non=>cases n;exact SeqAt.EqAt.same _
  | bl b=>cases n;exact SeqAt.EqAt.none_bool b
  | int b=>obtain ⟨t,rfl⟩:=n;exact SeqAt.EqAt.none_int b t
  | str b=>obtain ⟨t,rfl⟩:=n;exact SeqAt.EqAt.none_str b t
  | _=>exact absurd (show false=true from F) Eu
 | bl a =>
  cases G;cases x with
  | non=>cases n;exact SeqAt.EqAt.bool_none a
  | bl b=>cases n;exact SeqAt.EqAt.bool_bool a b
  | int b=>obtain ⟨t,rfl⟩:=n;exact SeqAt.EqAt.bool_int a b t
  | str b=>obtain ⟨t,rfl⟩:=n;exact SeqAt.EqAt.bool_str a b t
  | _=>exact absurd (show false=true from F) Eu
 | int a =>
  obtain ⟨t',rfl⟩:=G;cases x with
  | non=>cases n;exact SeqAt.EqAt.int_none a t'
  | bl b=>cases n;exact SeqAt.EqAt.int_bool a t' b
  | int b=>obtain ⟨t,rfl⟩:=n;exact SeqAt.EqAt.int_int a t' b t
  | str b=>obtain ⟨t,rfl⟩:=n;exact SeqAt.EqAt.int_str a t' b t
  | _=>exact absurd (show false=true from F) Eu
 | str a =>
  obtain ⟨t',rfl⟩:=G;cases x with
  | non=>cases n;exact SeqAt.EqAt.str_none a t'
  | bl b=>cases n;exact SeqAt.EqAt.str_bool a t' b
  | int b=>obtain ⟨t,rfl⟩:=n;exact SeqAt.EqAt.str_int a t' b t
  | str b=>obtain ⟨t,rfl⟩:=n;exact SeqAt.EqAt.str_str a t' b t
  | _=>exact absurd (show false=true from F) Eu
 | _=>exact absurd (show false=true from J) Eu
def eqU(x:V)(u:Value):Bool:=match u with
 | .none=>eqV .non x
 | .bool b=>eqV (.bl b) x
 | .int i _=>eqV (.int i) x
 | .str z _=>eqV (.str z) x
 | _=>false
theorem nS(r:zh y u)(f:zO y=true):eqU x u=eqV y x:=by
 cases y with
 | non=>cases r;rfl
 | bl b=>cases r;rfl
 | int i=>obtain ⟨t,rfl⟩:=r;rfl
 | str z=>obtain ⟨t,rfl⟩:=r;rfl
 | _=>exact absurd (show false=true from f) Eu
theorem ib(h:zo xs us)(f:xs.all zO=true):us.any (eqU x)=xs.any λy=>eqV y x:=by
 induction h with
 | nil=>rfl
 | cons r t n =>
  rw [List.all_cons,EJ] at f;rw [IP,IP,nS r f.1,n f.2]
theorem fW(F:zh x v)(G:zO x=true):∀{xs:List V}{us:List Value},zo xs us->xs.all zO=true->∀u∈us,SeqAt.EqAt A s u v (eqU x u)
 | _,_,.nil,_=>λu n=>by cases n
 | y::xs,u::us,.cons r t,f=>λu' n=>by
  rw [List.all_cons,EJ] at f;rcases EI.mp n with rfl|n
  .rw [nS r f.1];exact lA r F f.1 G
  .exact fW F G t f.2 u' n
def inV(x:V)(xs:List V):Bool:=xs.any λy=>eqV y x
def rIn(K:Ei)(neg:Bool):R2:=λx y H Q=>∃p xs,y = .ref p/\(SqL K H p xs\/SqT K H p xs)/\zO x=true/\xs.all zO=true/\Q (.bl (if neg then !inV x xs else inV x xs)) H
theorem Dw:OpR X (E4 .In) (rIn X.K false):=by
 intro Ga s σ H x y v u Q I J S h;obtain ⟨p,xs,rfl,F,O,fs,q⟩:=h;cases S;rcases F with F|F
 .obtain ⟨n,r,pl,U⟩:=I.list F;refine SeqAt.in_listAt (eqU x) pl.isList (λw G=>fW J O r fs w (by simpa using G)) {.bl _,H,I,rfl,?_};rw [show n.toArray.any (eqU x)=n.any (eqU x) by simp,ib r fs];exact q
 .obtain ⟨n,r,pl,U⟩:=I.tuple F;refine SeqAt.in_tupleAt (eqU x) pl (λw G=>fW J O r fs w (by simpa using G)) {.bl _,H,I,rfl,?_};rw [show n.toArray.any (eqU x)=n.any (eqU x) by simp,ib r fs];exact q
theorem yI:OpR X (E4 .NotIn) (rIn X.K true):=by
 intro Ga s σ H x y v u Q I J S h;obtain ⟨p,xs,rfl,F,O,fs,q⟩:=h;cases S;rcases F with F|F
 .obtain ⟨n,r,pl,U⟩:=I.list F;refine SeqAt.notIn_listAt (eqU x) pl.isList (λw G=>fW J O r fs w (by simpa using G)) {.bl _,H,I,rfl,?_};rw [show n.toArray.any (eqU x)=n.any (eqU x) by simp,ib r fs];exact q
 .obtain ⟨n,r,pl,U⟩:=I.tuple F;refine SeqAt.notIn_tupleAt (eqU x) pl (λw G=>fW J O r fs w (by simpa using G)) {.bl _,H,I,rfl,?_};rw [show n.toArray.any (eqU x)=n.any (eqU x) by simp,ib r fs];exact q
theorem An:OpR X (E4 .NotIn) (λx y H Q=>∃i j,x = .str i/\y = .str j/\Q (.bl (!(!(EE.Str.occurrences j i 0 j.length 1).isEmpty))) H):=by
 intro Ga s σ H x y v u Q I n F h;obtain ⟨i,j,rfl,rfl,q⟩:=h;obtain ⟨t,rfl⟩:=n;obtain ⟨t',rfl⟩:=F;exact notIn_str {.bl _,H,I,rfl,q}
theorem mO:zM X (.builtin "len") (λxs H Q=>∃p ys,xs=[.ref p]/\(SqL X.K H p ys\/SqT X.K H p ys)/\Q (.int ys.length) H):=by
 intro Ga s σ H xs us Q I r h;obtain ⟨p,ys,rfl,n,q⟩:=h;obtain ⟨u,rfl,J⟩:=cn r;cases J;have S:=eo;rcases n with n|n
 .obtain ⟨G,r',pl,O⟩:=I.list n;have F:=r'.length;exact Calls.call_len_list pl.isList (by simp only [EC]<;>lia) {.int ys.length,H,I.tok _,{s.toks+1,by rw [EC,F]},q}
 .obtain ⟨G,r',pl,O⟩:=I.tuple n;have F:=r'.length;exact len_tuple pl (by simp only [EC]<;>lia) {.int ys.length,H,I.tok _,{s.toks+1,by rw [EC,F]},q}
theorem vk:zM X (.builtin "len") (λxs H Q=>∃z,xs=[.str z]/\z.length<=sizeLine/\Q (.int z.length) H):=by
 intro Ga s σ H xs us Q I r h;obtain ⟨z,rfl,F,q⟩:=h;obtain ⟨u,rfl,t,rfl⟩:=cn r;have n:=eo;exact len_str 'l' {.int z.length,H,I.tok _,{_,rfl},q}
theorem zM.or{r r':List V->Hp->VK->Prop}(h:zM X f r)(h':zM X f r'):zM X f (λxs H Q=>r xs H Q\/r' xs H Q):=by
 intro Ga s σ H xs us Q I n q;rcases q with q|q
 .exact h Ga s σ H xs us Q I n q
 .exact h' Ga s σ H xs us Q I n q
def tyV(K:Ei)(T:String)(x:V)(H:Hp):Prop:=match x with
 | .str _=>T="str"
 | .int _=>T="int"
 | .ref p=>(T="list"/\∃xs,SqL K H p xs)\/(T="tuple"/\∃o,K.lookup p=some o/\o.cls = .type "tuple"/\o.dict=none) \/
   (T="dict"/\((∃kvs,H p=some (.dK kvs))\/∃kvs,H p=some (.dT kvs)))\/(T="set"/\∃S n,H p=some (.set S n))
 | _=>False
theorem jo(I:Inv X Ga σ H s)(r:zh x v)(ty:tyV X.K T x H):
  s.TypeIs v T/\∀a,v = .ref a->∃ob,s.heap.get? a=some ob/\ob.dict=none:=by
 cases x with
 | str z =>
  obtain ⟨t,rfl⟩:=r;cases (show T="str" from ty);exact {HU s z t,λ_ e=>nomatch e}
 | int i =>
  obtain ⟨t,rfl⟩:=r;cases (show T="int" from ty);exact {typeIs_int s i t,λ_ e=>nomatch e}
 | ref p =>
  cases r;rcases ty with ⟨rfl,xs,J⟩|⟨rfl,o,F,hc,hd⟩|⟨rfl,F⟩|⟨rfl,S,n,F⟩
  .obtain ⟨O,_,pl,_⟩:=I.list J;refine {pl.isList.typeIs,λa e=>?_};cases e;obtain ⟨o,n,e,c,hd,_⟩:=pl;exact ⟨o,e,hd⟩
  .refine {{o,I.z4 p o F,hc},λa e=>?_};cases e;exact {o,I.z4 _ o F,hd}
  .have z:∃o,s.heap.get? p=some o/\o.ExactDict:=by
    rcases F with ⟨kvs,F⟩|⟨kvs,F⟩
    .obtain ⟨_,_,_,_,o,_,_,e,ex,_⟩:=I.hok p _ F;exact ⟨o,e,ex⟩
    .obtain ⟨_,_,_,_,o,_,_,e,ex,_⟩:=I.hok p _ F;exact ⟨o,e,ex⟩
   obtain ⟨o,e,ex⟩:=z;refine {⟨o,e,ex.1⟩,λa G=>?_};cases G;exact ⟨o,e,ex.2.1⟩
  .obtain ⟨o,_,_,_,e,ex,_⟩:=I.hok p _ F;refine {⟨o,e,ex.1⟩,λa G=>?_};cases G;exact ⟨o,e,ex.2.1⟩
 | _=>exact False.elim ty
variable {o e:EN}{es:List EN}{to:TE}{t:TA}{name:Str}{Z3 cpos:Pos}{T id:String}{r:V->List V->Hp->VK->Prop}
end
def MtM(X:Cx)(id:String)(r:V->List V->Hp->VK->Prop):Prop :=
 ∀(Ga:List (Addr×Obj))(s:Eh)(σ:St)(H:Hp)(x:V)(xs:List V)(v:Value)(us:List Value)(Q:VK),Inv X Ga σ H s->zh x v->zo xs us->r x xs H Q ->
  Et (Ez X.prog X.w) X.A (call (.builtin id) (v::us)) (EP X Ga σ Q) X.xe s
theorem x6{α β:Type}{F:α->β->Prop}{x:α}{xs:List α}{us:List β}(h:Paired F (x::xs) us):∃u ws,us=u::ws/\F x u/\Paired F xs ws:=by
 cases h with
 | cons r t=>exact {_,_,rfl,r,t}
theorem y7{α β:Type}{F:α->β->Prop}{us:List β}(h:Paired F [] us):us=[]:=by cases h;rfl
theorem zo.one(h:zo [x] us):∃u,us=[u]/\zh x u:=by
 obtain ⟨u,ws,rfl,r,t⟩:=x6 h;cases y7 t;exact {_,rfl,r}
def cF(k:V->Prop):List V->Prop
 | [y]=>k y
 | _=>False
theorem cF.ex{k:V->Prop}(h:cF k vs):∃y,vs=[y]/\k y:=by
 cases vs with
 | nil=>exact h.elim
 | cons y t =>
  cases t with
  | nil=>exact {y,rfl,h}
  | cons _ _=>exact h.elim
theorem zo.rep(h:zo xs us):∀k:Nat,zo (Fs k xs).flatten (Fs k us).flatten
 | 0=>.nil
 | k+1=>by
  rw [Gb,Gb,Ho,Ho];exact zo.append h (zo.rep h k)
theorem oK(n:List Value):∀(k:Nat)(ZT:List Value),
  foldl (λF J=>F++J) ZT.toArray (Fs k n.toArray)=(ZT++(Fs k n).flatten).toArray
 | 0,ZT=>by simp
 | k+1,ZT=>by
  have e:ZT.toArray++n.toArray=(ZT++n).toArray:=by simp
  have G:(ZT++n)++(Fs k n).flatten=ZT++(Fs (k+1) n).flatten:=by
   rw [Gb,Ho,FD]
  rw [<- G,<- oK n k (ZT++n),<- e,Gb,foldl_cons]
section
variable {X:Cx}{Ga:List (Addr×Obj)}{σ:St}{H:Hp}{s:Eh}{l b:Addr}{xs ys zs:List V}
theorem Inv.Ms{F its':List Value}(I:Inv X Ga σ H s)(J:H l=some (.lst xs))(e:s.heap.get? l=some { cls:=.type "list",data:=.seq F.toArray n })(G:f F.toArray=its'.toArray)(hv:zo ys its')(S:ys.length<=sizeLine):
  Inv X Ga σ (upd H l (.lst ys)) { s with heap:=s.heap.update l (mapSeq f),toks:=t' }:=by
 have q:=PySem.IsL.update e f;rw [G] at q;refine I.write (x:=l) (e:=l) (by rw [J];exact trivial) (.inl rfl) (λU u hb O=>(E3 s.heap (mapSeq f) (Fi hb)).trans O) {_,q} ?_;exact {S,its',_,hv,q}
theorem Inv.Mn(I:Inv X Ga σ H s)(hv:zo ys n)(F:ys.length<=sizeLine):
  Inv X Ga σ (upd H s.heap.objs.size (.lst ys)) { s with heap:=s.heap.push { cls:=.type "list",data:=.seq n.toArray },toks:=t' } :=
 I.laid (λ_ _ q=>El _ q) (EF _) {F,n,0,hv,EW _ rfl}
theorem Inv.fresh(I:Inv X Ga σ H s):H s.heap.objs.size=none:=I.hok.fresh (EF _)
theorem Inv.Lb(I:Inv X Ga σ H s)(G:H l=some (.lst xs)):xs.length<=sizeLine/\∃(F:List Value)(n:Nat),zo xs F/\xs.length=F.length/\s.heap.get? l=some { cls:=.type "list",data:=.seq F.toArray n }:=by
 obtain ⟨z,F,n,r,e⟩:=I.hok l _ G;exact ⟨z,F,n,r,r.length,e⟩
theorem BY(h:n<=sizeLine):EE.List.listTooLong n=false:=by
 unfold EE.List.listTooLong;exact decide_eq_false 'l'
end
section
variable {X:Cx}
def uv:V->List V->Hp->VK->Prop:=λx vs H Q=>∃l xs y,x = .ref l/\vs=[y]/\H l=some (.lst xs)/\xs.length<sizeLine/\Q .non (upd H l (.lst (xs++[y])))
theorem xZ:MtM X "list.append" uv:=by
 intro Ga s σ H x vs v us Q I O U h;obtain ⟨l,xs,y,rfl,rfl,J,Z,q⟩:=h;cases O;obtain ⟨u,rfl,S⟩:=U.one;obtain ⟨z,G,n,r,W,e⟩:=I.Lb J;refine GQ F.slot_list_append {_,e,rfl} F.entry_list_append (F.args_list_append_2 _ _) (PySem.list_append l G.toArray n u (by rw [EC];lia)) {e,?_};refine {.non,_,I.Ms (its':=G++[u]) J e 's' (r.append (.cons S .nil)) ?_,rfl,q};rw [EV,List.length_singleton];lia
def CG:R2:=λx y H Q=>∃l b xs zs,x = .ref l/\y = .ref b/\H l=some (.lst xs)/\H b=some (.lst zs)/\xs.length+zs.length<=sizeLine/\∀p,H p=none->Q (.ref p) (upd H p (.lst (xs++zs)))
theorem Cu:OpR X (FP .Add) CG:=by
 intro Ga s σ H x y v u Q I J O h;obtain ⟨l,b,xs,zs,rfl,rfl,S,W,hz,q⟩:=h;cases J;cases O;obtain ⟨z,F,n,r,hl,e⟩:=I.Lb S;obtain ⟨z2,G,n2,r2,Z,U⟩:=I.Lb W;refine PySem.P.add_list e U ?_ (by rw [EC,EC];lia);have ea:F.toArray++G.toArray=(F++G).toArray:=by simp
 rw [ea];exact {.ref _,_,I.Mn (t':=s.toks) (r.append r2) (by rw [EV];lia),rfl,q _ I.fresh}
def yn:R2:=λx y H Q=>∃l k xs,x = .ref l/\y = .int k/\H l=some (.lst xs)/\-(2 ^ 63)<=k/\k<2 ^ 63/\xs.length*k.toNat<=sizeLine /\
 ∀p,H p=none->Q (.ref p) (upd H p (.lst (Fs k.toNat xs).flatten))
theorem wg{α:Type}(xs:List α)(k:Nat):(Fs k xs).flatten.length=k*xs.length:=by
 induction k with
 | zero=>simp
 | succ k n=>rw [Gb,Ho,EV,n,Nat.succ_mul,Nat.add_comm]
theorem xr:OpR X (FP .Mult) yn:=by
 intro Ga s σ H x y v u Q I rx ry h;obtain ⟨l,k,xs,rfl,rfl,hH,h1,h2,hz,q⟩:=h;cases rx;obtain ⟨t,rfl⟩:=ry;obtain ⟨z,G,n,r,hl,e⟩:=I.Lb hH;have ZS:G.toArray.size*k.toNat<=sizeLine:=by rw [EC,<- hl];exact hz
 have S : ¬ G.toArray.size*k.toNat>(2 ^ 63-1) / 8:=by
  have:(sizeLine:Nat)<=(2 ^ 63-1) / 8:=by decide
  lia
 have O : ¬ (!EE.List.listFitsIndex k)=true:=by
  rw [fitsIndex_both h1 h2];exact Eu
 have J : ¬ EE.List.listTooLong (G.toArray.size*k.toNat)=true:=by
  rw [BY ZS];exact Eu
 have Yu:foldl (λW Z=>W++Z) #[] (Fs (if G.toArray.isEmpty=true then 0 else k.toNat) G.toArray)=(Fs k.toNat G).flatten.toArray:=by
  have f0:∀m:Nat,foldl (λW Z=>W++Z) #[] (Fs m G.toArray)=(Fs m G).flatten.toArray:=λm=>by
   have:=oK G m [];rw [G3] at this;exact this
  rw [f0];cases G with
  | nil=>simp
  | cons a r'=>rw [if_neg 's']
 refine wpAny_binaryOp_repeat_ref (T:="list") (U:="int") 'd' {_,e,rfl} (λs'=>typeIs_int s' k t) noFill_list_mul F.fills_int_mul F.slot_int_rmul repeat_list F.slot_int_index.lookup
  (GQ F.slot_int_rmul (typeIs_int s k t) F.entry_int_rmul (F.args_int_rmul_2 _ _) (int___rmul___int_list k t l G.toArray n)
   {e,rfl,{_,e,rfl},GQ F.slot_list_mul {_,e,rfl} F.entry_list_mul (F.args_list_mul_2 _ _) (AutoListH.list___mul___list_int_3 l G.toArray n k t O S J) {e,?_}})
 rw [Yu];exact {.ref _,_,I.Mn (t':=s.toks) (r.rep k.toNat) (by rw [wg,Nat.mul_comm];exact hz),rfl,q _ I.fresh}
end
end L2
namespace Att
open PySem PySem.W PySem.Calls PyProof.Rows
theorem D6:∀(ns:List Int)(vs:List Value),WellAll P h vs (ns.map WData.int)->IntsAre vs ns:=by
 intro ns
 induction ns with
 | nil =>
  intro vs w;rw [map_nil] at w;cases w;exact .nil
 | cons n ns F =>
  intro vs w;rw [Fq] at w;cases w with
  | cons a b =>
   cases a;exact .cons _ _ (F _ b)
theorem BE{l:OpenLaw}(Z:l.most=some n)(G:l.row.toRowW.claim.pre args=true)(U:WellAll P h F args):
  ∃a vs ns,F=[Ew a]/\args=[WData.list (ns.map WData.int)]/\h.get? a=some { cls:=.type "list",data:=.seq vs.toArray }/\IntsAre vs ns/\ns.length<=n:=by
 have S:WShape.hasAll [] args [.list .int]=true:=(pre_splitW G).1;have hc:l.pre.holds [] { args:=args }=true:=(pre_splitW G).2;obtain ⟨d,r,rfl,h1,h2⟩:=hasAllW_cons S;obtain rfl:=hasAllW_nil h2;obtain ⟨xs,rfl,h3⟩:=hasW_list h1;obtain ⟨ns,rfl⟩:=items_int h3;have W:ns.length<=n:=by
  unfold OpenLaw.pre at hc;have h4:(WTm.not (.lt (.lit (.int (n:Int))) (.len (.arg 0)))).holds [] { args:=[.list (ns.map .int)] }=true:=by
   have h4:=(holds_andW hc).1;rw [Z] at h4;exact h4
  have O:=condW_of h4 (w_not (w_lt w_lit (w_len_list (w_arg rfl))));rw [En] at O;refine Nat.le_of_not_lt λq=>?_;have q':(n:Int)<((ns.length:Nat):Int):=by lia
  first
   | (rw [decide_eq_true q'] at O;exact absurd O 'd')
   | (simp at O;lia)
 cases U with
 | cons w1 w2 =>
  cases w2;cases w1 with
  | list ho J=>exact {_,_,ns,rfl,rfl,ho,D6 ns _ J,W}
theorem Bo(l:OpenLaw)(args:List WData):l.row.toRowW.claim.post args (.bool true) args=true :=
 postW_of (r:=l.row.toRowW) (X:=(true==true))
  (show WShape.has [] (.bool true) .bool=true by first|rfl|decide|simp [WShape.has,WShape.arms,WShape.armsAll])
  (show (WTm.eq .res (.lit (.bool true))).value [] { args:=args,res:=some (.bool true),after:=args }=some (.bool (true==true)) from w_eq_bool (w_res rfl) w_lit) rfl
theorem attach_call{l:OpenLaw}(hn:l.most=some n)(S:d.params.defaults=[])(call:∀(w:EG)(s₀ s₁:Eh)(mg mb:Str->Option Value)(J:Addr)(o:Obj)(W cd U:Value)(a:Addr)(vs:List Value)(ns:List Int),
   Ground q YU [] XP w s₀ mg mb s₁.heap->YP w s₁.heap ->
   s₁.heap.get? J=some o->o.data = .func (docDef d.name d.params d.body d.scope W cd U)->s₁.heap.CodeRec cd d.name->mg d.name=some (.ref J) ->
   s₁.heap.get? a=some { cls:=.type "list",data:=.seq vs.toArray }->IntsAre vs ns->ns.length<=n->s₁.gens = #[] ->
   GL (Ez l.prog w) callerA (.call (.ref J) {[.ref a],[]}) (λr s'=>r = .ok (.ret (.bool true))/\OldK s₁.heap s'.heap/\s'.os=s₁.os/\GN s'.gens) s₁):
  WalkO q YU XP YP l.row.toRowW d [] (λf vs=>PySem.call f vs):=by
 intro w s₀ s₁ mg mb G Y J o W cd U dV kV ho hd hcd hD Z hg args ak as O ag av YA ax;obtain rfl:dV = .none:=Dflts.none hD S;obtain rfl:kV = .none:=Dflts.noKw hD;obtain ⟨a,vs,ns,rfl,rfl,F,Yk,ZS⟩:=BE hn O YA;refine enter_call (HJ (call w s₀ s₁ mg mb J o W cd U a vs ns G Y ho (fd_plain hd) hcd Z F Yk ZS hg) λr s' hq=>?_);obtain ⟨rfl,h2,h3,h4⟩:=hq;exact {.inl {.bool true,.bool true,[],rfl,λ_=>rfl,.bool true,Bo l _,λ_=>{List.Pairwise.nil,λ_ hm=>(nomatch hm)}},h2,h3,h4}
end Att
namespace L2
open PySem PySem.Spec PyProof.Rows
theorem uo(h:IntsAre vs ns):zo (ns.map V.int) vs:=by
 induction h with
 | nil=>exact .nil
 | cons n t h F=>exact .cons {t,rfl} F
def me(H:Hp):Prop:=∀b,H b=none\/∃o xs,H b=some (.frz o (.lst xs))
theorem yR{K:Ei}{k:Nat}(KX:K.In s₁.heap)(ag:s₁.heap.Ns Ep mg)(hb:s₁.heap.Ns builtinsNs mb)(aI:∀x:Str,x≠"__name__"->mb x=Gn x)(ak:s₁.heap.NoLimit)(hg:s₁.gens = #[])(ha:s₁.heap.get? a=some { cls:=.type "list",data:=.seq vs.toArray })(hi:IntsAre vs ns)(hl:ns.length<=sizeLine)(hr:zD true k callerA)(F:∀base:Heap,K.In base->base.Ns Ep mg->zr P w K mg base CX true k fa fd [x] sp)(S:∀(s:Eh)(u:Value),BindsTo s fd {[u],[]} [(x,u)])(av:∀H:Hp,me H->SqL K H a (ns.map V.int)->sp [.ref a] H (λv _=>v = .bl true) λ_ _ _=>False)(ax:∀H e s',CX [] H s₁ (λ_ _ _=>False) e s'->False):
  GL (Ez P w) callerA (.call (.ref fa) {[.ref a],[]}) (λr s'=>r = .ok (.ret (.bool true))/\OldK s₁.heap s'.heap/\s'.os=s₁.os/\GN s'.gens) s₁:=by
 have rv:=uo hi;have U:=hi.length;have O:∀H:Hp,me H->SqL K H a (ns.map V.int)->HOk P w H s₁.heap->(∀b,H b≠none->b=a)->(H a≠none->K.lookup a=none) ->
   GL (Ez P w) callerA (.call (.ref fa) {[.ref a],[]}) (λr s'=>r = .ok (.ret (.bool true))/\OldK s₁.heap s'.heap/\s'.os=s₁.os/\GN s'.gens) s₁:=by
  intro H hO hS hok hA hK;have G:∀{b:Addr}{o:Obj},s₁.heap.get? b=some o->H b=none->(cV s₁.heap H).get? b=some o:=λe n=>Bq e n;have a0:∀{b:Addr}{o:Obj}{es:Array DictEntry}{ep:Nat},s₁.heap.get? b=some o->o.data = .dict es ep->H b=none:=λ{b o es ep} e d=>by
   cases q:H b with
   | none=>rfl
   | some u =>
    have e':b=a:=hA b (by rw [q];simp);subst e';rw [ha] at e;cases e;have d':Data.seq vs.toArray _=Data.dict es ep:=d;cases d'
  have J:∀{b:Addr}{m:Str->Option Value},s₁.heap.Ns b m->(cV s₁.heap H).Ns b m:=λ{b m} ⟨o,es,ep,e,d,r⟩=>{o,es,ep,G e (a0 e d),d,r};have W:K.In (cV s₁.heap H):=λb o e=>G (KX b o e) (by
   cases q:H b with
   | none=>rfl
   | some u =>
    have e':b=a:=hA b (by rw [q];simp);subst e';rw [hK (by rw [q];simp)] at e;cases e)
  have hM:Mod K mg (cV s₁.heap H):={W,J ag,{mb,J hb,aI},let ⟨mc,h1,h2⟩:=ak;{mc,J h1,h2}};have e0:eG P w K mg (cV s₁.heap H) callerA [] s₁ H:={rfl,.inl rfl,hM,λb o e=>Cg e,le_of_eq (BP _ _),trivial,λb hb=>absurd (show b∈([]:List Addr) from hb) 's',hok,.of_eq hg};refine HJ ((F _ W (J ag)).run callerA [] s₁ H {[.ref a],[]} [.ref a] [.ref a] _ _ hr e0 (S s₁ (.ref a)) (.cons rfl .nil) (av H hO hS)) λr s' h=>?_;cases r with
  | error e=>exact (ax H e s' h).elim
  | ok fl =>
   cases fl with
   | next=>exact False.elim h
   | brk=>exact False.elim h
   | cont=>exact False.elim h
   | ret u =>
    obtain ⟨v,H',os,bare,un,Z,r',q⟩:=h;have q':v = .bl true:=q;subst q';obtain rfl:u=Fy true:=r';refine {rfl,OldK.of_keep λb o e=>?_,os,bare};cases q:H b with
    | none=>exact un.keep b o e q (by intro z;exact absurd (show b∈([]:List Addr) from z) 's') 's'
    | some u =>
     rcases hO b with z|⟨ob,xs,z⟩
     .rw [q] at z;cases z
     .have z2:=un.frzs b ob _ z;obtain ⟨e1,_⟩:=hok b _ z;obtain ⟨e2,_⟩:=Z b _ z2;rw [e] at e1;cases e1;exact e2
 cases hk:K.lookup a with
 | some o =>
  have e:=KX a o hk;rw [ha] at e;cases e;refine O (λ_=>none) (λ_=>.inl rfl) (.inr {_,vs.toArray,_,hk,rfl,rfl,rfl,by rw [EC,U];exact hl,by simpa using rv}) (λb u z=>by have z':(none:Option HO)=some u:=z;cases z') (λb z=>absurd rfl z) λz=>absurd rfl z
 | none =>
  refine O (λb=>if b=a then some (.frz { cls:=.type "list",data:=.seq vs.toArray } (.lst (ns.map V.int))) else none) (λb=>?_) (.inl (.inr {{ cls:=.type "list",data:=.seq vs.toArray },if_pos rfl})) (λb u z=>?_) (λb z=>?_) λ_=>hk
  .by_cases hb:b=a
   .exact .inr {_,_,if_pos hb}
   .exact .inl (if_neg hb)
  .by_cases hb:b=a
   .have z':=(if_pos hb).symm.trans z;cases z';subst hb;exact {ha,by rw [En];exact hl,vs,_,rv,ha}
   .have z':=(if_neg hb).symm.trans z;cases z'
  .by_cases hb:b=a
   .exact hb
   .exact absurd (if_neg hb) z
theorem walk_of{l:PySem.W.OpenLaw}{n k:Nat}{K:Params->Ei}{CX:EG->CXT}{sp:EG->Sp}(hn:l.most=some n)(Z:n<=sizeLine)(U:d.params.defaults=[])(hr:zD true k callerA)(hY:∀(w:EG)(h:Heap),YP w h->(K w.params).In h)(F:∀(w:EG)(mg:Str->Option Value)(O:Addr)(h:Heap),(K w.params).In h->h.Ns Ep mg->mg d.name=some (.ref O) ->
   ∃fd:Ey,(∀(s:Eh)(u:Value),BindsTo s fd {[u],[]} [(x,u)]) /\
    ∀base:Heap,(K w.params).In base->base.Ns Ep mg->zr l.prog w (K w.params) mg base (CX w) true k O fd [x] (sp w))(S:∀(w:EG)(H:Hp)(a:Addr)(ns:List Int),ns.length<=n->me H->SqL (K w.params) H a (ns.map V.int)->sp w [.ref a] H (λv _=>v = .bl true) λ_ _ _=>False)(ag:∀(w:EG)(H:Hp)(s:Eh)(e:Value)(s':Eh),CX w [] H s (λ_ _ _=>False) e s'->False):
  PySem.W.WalkO q YU XP YP l.row.toRowW d [] (λf vs=>PySem.call f vs):=by
 refine Att.attach_call hn U λw s₀ s₁ mg mb O o pm cd YO a vs ns G Y ho hd hcd ak J Yk ZS hg=>?_;have KX:=hY w _ Y;obtain ⟨fd,hb,hF⟩:=F w mg O _ KX G.T.g ak;exact yR KX G.T.g G.T.b G.T.builtins G.T.nolimit hg J Yk (EL ZS Z) hr hF hb (λH hO hS=>S w H a ns ZS hO hS) λH e s'=>ag w H s₁ e s'
def aL(s:Stmt)(j:Nat):Stmt:=match s with
 | .ClassDef _ _ _ n _ _ _ _ _ _ _=>n.getD j (.Pass {0,0,0,0})
 | _=>.Pass {0,0,0,0}
def kL(s:Stmt):Arguments:=match s with
 | .FunctionDef _ a _ _ _ _ _ _ _ _=>a
 | _=>{ posonlyargs:=[],args:=[],vararg:=none,kwonlyargs:=[],kw_defaults:=[],kwarg:=none,defaults:=[] }
def dQ(s:Stmt):List Stmt:=match s with
 | .FunctionDef _ _ b _ _ _ _ _ _ _=>b
 | _=>[]
def zp(s:Stmt):Scope:=match s with
 | .FunctionDef _ _ _ _ _ _ sc _ _ _=>sc
 | _=>{ kind:=.function,names:=[],isGenerator:=false,isCoroutine:=false }
abbrev CX0:CXT:=λ_ _ _ _ _ _=>False
abbrev E0:XK:=λ_ _ _=>False
theorem gB:dw CX0 X E0:=λ_ _ _ _ _ _ _ h=>h.elim
structure Fun(K:Ei)(x qual:Str)(st:Stmt)(f:Addr)(fd:Ey):Prop where
 ex:∃(oc:Value)(od:Option Addr)(kV YO pm:Value)(an:Option Addr)(ZX ct:Value)(osl:Array (Option Value)),
  fd=fnOf x qual (kL st) (dQ st) (zp st) .none kV YO pm an ZX ct/\K.lookup f=some {oc,od,.func fd,osl}/\codeIn K ZX qual=true
 kp:IE K (.ref f)=true
section
variable {P:Eo}{w:EG}{K:Ei}{mg:Str->Option Value}{base:Heap}
theorem Fun.ok{st:Stmt}{k:Nat}(F:Fun K x qual st f fd)(S:zB N ps (zp st))(len:∀vs H Q E,sp vs H Q E->vs.length=ps.length)(O:∀(n:Value)(A:EB)(outer:List Env)(s:Eh)(H:Hp)(vs:List V)(Q:VK)(E:XK),zD cm k (A.deeper (GP qual (zp st) s.heap.objs.size f n))->sp vs H Q E ->
   ∃t,PSs (bH CX0 cm P w K mg base N qual (zp st) f n A outer s H E).Mi (dQ st) t/\t { nx:=λ_ H'=>Q .non H',rt:=Q } (start N vs) H):zr P w K mg base CX0 cm (k+1) f fd ps sp:=by
 obtain ⟨Z,U,kV,W,pm,an,n,ct,J,rfl,lk,hcd⟩:=F.ex;refine rB lk hcd S len λA outer s H vs Q E hr G=>?_;obtain ⟨t,h,q⟩:=O n A outer s H vs Q E hr G;exact ⟨t,h.Mi,q⟩
theorem Fun.binds{st:Stmt}(F:Fun K x qual st f fd)(h:∀(kV n O:Value)(J:Option Addr)(G ct:Value)(us:List Value),us.length=ps.length->bindArgs (fnOf x qual (kL st) (dQ st) (zp st) .none kV n O J G ct) {us,[]}=pure (ps.zip us)):aP K fd ps []:=by
 obtain ⟨W,U,kV,n,O,J,G,ct,S,rfl,lk,hcd⟩:=F.ex;exact .all (h kV n O J G ct)
end
theorem zR{k:Nat}(hr:zD c k A):A.units+1<cLine:=FR (Nat.add_le_add_left (by decide:1<=64) _) hr.units
section
variable {X:Cx}
theorem pv(i:Nat)(hN:X.N[i]?=some x:=by rfl)(hv:Vis X.env.scope x:=by first|exact EA rfl|exact G6 (EA rfl)|exact G6 (G6 rfl))(hd:(x==("__debug__":Str))=false:=by decide)(hcd:(x==("__classdict__":Str))=false:=by decide):PE X (.Name x pos) (i9 i):=CH hN hv hd hcd
end
theorem ji{A B:Prop}(h:B):if false=true then A else B:=by
 rw [if_neg Eu];exact h
theorem kj{A B:Prop}(h:A):if true=true then A else B:=by
 rw [if_pos rfl];exact h
theorem ah{c A B:Prop} [Decidable c] (h1:c->A) (h2 : ¬ c->B):if c then A else B:=by
 by_cases h:c
 .rw [if_pos h];exact h1 h
 .rw [if_neg h];exact h2 h
def zg(H H':Hp):Prop:=∀b o,H b=some o->H' b=some o
theorem zg.refl(H:Hp):zg H H:=λ_ _ h=>h
theorem zg.trans(a:zg H H1)(b:zg H1 H2):zg H H2:=λc o h=>b c o (a c o h)
theorem zg.free(e:zg H H')(h:H' l=Option.none):H l=Option.none:=by
 cases q:H l with
 | none=>rfl
 | some o =>
  rw [e l o q] at h;cases h
theorem zg.seq{K:Ei}(e:zg H H')(h:SqL K H a xs):SqL K H' a xs:=by
 rcases h with (h|⟨o,h⟩)|h
 .exact .inl (.inl (e _ _ h))
 .exact .inl (.inr {o,e _ _ h})
 .exact .inr h
end L2
set_option maxHeartbeats 4000000
namespace L2
open PySem PySem.Spec PyProof.Rows
def bz(F:List (Str×Addr)):List (Str×Fm)->List (Str×Addr)->List (Str×Addr)
 | [],cs=>cs
 | (n,k)::r,cs=>bz F r (if k == .free then (match F.lookup n with|some c=>(n,c)::cs|none=>cs) else cs)
theorem wq(h:∀y∈scope.names,y.2 = .free->∃c,env.cells.lookup y.1=some c):closureFor scope env=pure (bz env.cells scope.names []):=by
 simp only [closureFor];have all:∀(l:List (Str×Fm))(cs:List (Str×Addr)),(∀y∈l,y.2 = .free->∃c,env.cells.lookup y.1=some c) ->
   (forIn l cs λ(x:Str×Fm)(r:List (Str×Addr))=>match x with|(name,kind)=>if (kind==Fm.free)=true then do let a<-cellOf env name;pure (ForInStep.yield ((name,a)::r)) else pure (ForInStep.yield r):Sem (List (Str×Addr)))=pure (bz env.cells l cs):=by
  intro l
  induction l with
  | nil=>intro cs _;rfl
  | cons y r J =>
   intro cs F;obtain ⟨n,k⟩:=y;rw [List.forIn_cons];by_cases O:k = .free
   .subst O;obtain ⟨c,hc⟩:=F (n,.free) Er rfl;have S:env.cells.lookup n=some c:=hc;simp only [cellOf,S,bz,beq_self_eq_true,if_true];exact J _ λz G=>F z (Em _ G)
   .have hb:(k==Fm.free)=false:=by simpa using O
    simp only [bz,hb,FK,if_false];exact J _ λz G=>F z (Em _ G)
 have e:=all scope.names [] h;show (do let cs<-forIn scope.names [] _;pure cs)=_
 first
  | (rw [bind_pure];exact e)
  | exact e
  | (simpa using e)
theorem pb:∀{l:List (Str×Fm)}{cs:List (Str×Addr)}{x:Str}{c:Addr},(bz F l cs).lookup x=some c->cs.lookup x=some c\/(F.lookup x=some c/\(x,Fm.free)∈l)
 | [],_,_,_,h=>.inl h
 | (n,k)::r,cs,x,c,h=>by
  unfold bz at h;rcases pb h with h|⟨h1,h2⟩
  .by_cases J:k = .free
   .subst J;simp only [beq_self_eq_true,if_true] at h;cases e:F.lookup n with
    | none=>rw [e] at h;exact .inl h
    | some O =>
     rw [e] at h;simp only [GO] at h;by_cases G:x=n
     .subst G;simp only [beq_self_eq_true] at h;cases h;exact .inr ⟨e,Er⟩
     .have hb:(x==n)=false:=by simpa using G
      rw [hb] at h;exact .inl h
   .have hb:(k==Fm.free)=false:=by simpa using J
    rw [hb] at h;exact .inl h
  .exact .inr {h1,Em _ h2}
theorem sR:∀{l:List (Str×Fm)}{cs:List (Str×Addr)}{x:Str},(cs.lookup x).isSome=true->((bz F l cs).lookup x).isSome=true
 | [],_,_,h=>h
 | (n,k)::r,cs,x,h=>by
  unfold bz;refine sR ?_;split
  .split
   .simp only [GO];split
    .rfl
    .exact h
   .exact h
  .exact h
theorem q9:∀{l:List (Str×Fm)}{cs:List (Str×Addr)}{x:Str}{c:Addr},(x,Fm.free)∈l->F.lookup x=some c->((bz F l cs).lookup x).isSome=true
 | (n,k)::r,cs,x,c,hm,hc=>by
  unfold bz;rcases EI.mp hm with e|hm
  .cases e;refine sR ?_;simp only [beq_self_eq_true,if_true,hc,GO];rfl
  .exact q9 hm hc
theorem ig:∀(names:List (Str×Fm))(n:Nat)(ZT:List (Str×Addr)),FQ n names ZT=FQ n names []++ZT
 | [],_,_=>rfl
 | (x,k)::r,n,ZT=>by
  unfold FQ;split
  .rw [ig r (n+1) ((x,n)::ZT),ig r (n+1) [(x,n)],FD];rfl
  .exact ig r n ZT
theorem ml:∀{names:List (Str×Fm)}{n:Nat}{ZT:List (Str×Addr)},(x,c)∈FQ n names ZT->(x,c)∈ZT\/(x,Fm.cell)∈names
 | [],_,_,h=>.inl h
 | (y,k)::r,n,ZT,h=>by
  unfold FQ at h;split at h
  .next hk =>
   rcases ml h with h|h
   .rcases EI.mp h with e|h
    .cases e;rw [eq_of_beq hk];exact .inr Er
    .exact .inl h
   .exact .inr (Em _ h)
  .rcases ml h with h|h
   .exact .inl h
   .exact .inr (Em _ h)
theorem ia:∀{names:List (Str×Fm)}{n:Nat}{ZT:List (Str×Addr)},(ZT.lookup x).isSome=true->((FQ n names ZT).lookup x).isSome=true
 | [],_,_,h=>h
 | (y,k)::r,n,ZT,h=>by
  unfold FQ;split
  .refine ia ?_;rw [GO];cases x==y with
   | true=>rfl
   | false=>exact h
  .exact ia h
theorem lZ:∀{names:List (Str×Fm)}{n:Nat}{ZT:List (Str×Addr)},(x,Fm.cell)∈names->((FQ n names ZT).lookup x).isSome=true
 | (y,k)::r,n,ZT,h=>by
  unfold FQ;rcases EI.mp h with e|h
  .cases e;rw [if_pos 'd'];exact ia (by rw [GO,beq_self_eq_true];rfl)
  .split
   .exact lZ h
   .exact lZ h
def dD(n:List (Str×Addr))(sc:Scope)(C:Addr):List (Str×Addr):=FQ (C+1) sc.names (bz n sc.names [])
structure iJ(ZV:List (Str×Addr))(sc:Scope)(C:Addr)(h:Heap):Prop where
 LL:∀x c,(dD ZV sc C).lookup x=some c->(C<c/\h.IsCell c none/\(x,Fm.cell)∈sc.names)\/(ZV.lookup x=some c/\(x,Fm.free)∈sc.names)
 inj:∀x y c,(dD ZV sc C).lookup x=some c->(dD ZV sc C).lookup y=some c->C<c->x=y\/(ZV.lookup x=some c\/ZV.lookup y=some c)
theorem rT:∀{a b:List (Str×Addr)},(a++b).lookup x=(a.lookup x).or (b.lookup x)
 | [],b=>rfl
 | (y,c)::r,b=>by
  rw [Hd,GO,GO];cases x==y with
  | true=>rfl
  | false=>exact rT
theorem iJ.mk'(F:h.objs.size=C+1):iJ n sc C (HM h sc.names):=by
 have ok:=cellsFrom_ok sc.names h (C+1) [] {λ_ _ hm=>(nomatch hm),List.Pairwise.nil} (le_of_eq F.symm);rw [F] at ok;have sp:∀x c,(dD n sc C).lookup x=some c->(x,c)∈FQ (C+1) sc.names []\/(n.lookup x=some c/\(x,Fm.free)∈sc.names):=λx c h=>by
  unfold dD at h;rw [ig,rT] at h;cases e:(FQ (C+1) sc.names []).lookup x with
  | some d=>rw [e] at h;cases h;exact .inl (Fu e)
  | none =>
   rw [e] at h;rcases pb (show (bz n sc.names []).lookup x=some c from h) with h|h
   .cases h
   .exact .inr h
 refine {λx c h=>?_,λx y c h1 h2 _=>?_}
 .rcases sp x c h with h|h
  .refine .inl {(ok.empty x c h).2,(ok.empty x c h).1,?_};rcases ml h with h|h
   .cases h
   .exact h
  .exact .inr h
 .rcases sp x c h1 with a|a
  .rcases sp y c h2 with b|b
   .exact .inl (PySem.name_of_addr ok.apart a b)
   .exact .inr (.inr b.1)
  .exact .inr (.inl a.1)
theorem BG{code:Value}(O:Q (newEnv scope s.heap.objs.size G (FQ (s.heap.objs.size+1) scope.names J) qual n code (some outer) builtinsNs) { s with heap:=HM (s.heap.push { cls:=.type "dict",data:=.dict #[] }) scope.names }):
  Et M A (newFunctionEnv scope G J [] qual n code (some outer)) Q E s:=by
 simp only [newFunctionEnv,isSome_some,if_true];refine we (wpAny_alloc ?_);refine we (wpAny_layCells _ (λname kind S=>by cases F:kind==Fm.cell<;>simp [F]) _ _ _ _ ?_);rw [show ({ s with heap:=s.heap.push { cls:=.type "dict",data:=.dict #[] } }:Eh).heap.objs.size=s.heap.objs.size+1 from Iq ..];exact we (Ej (Ej O))
def bP(sc:Scope)(names:List (Str×Fm))(N N':List Str)(ix:List (Option Nat)):Bool :=
 sc.kind == .function&&sc.names.all (λy=>(y.2 != .cell||sc.names.lookup y.1==some .cell)&&(y.2 != .local||sc.names.lookup y.1==some .local)&&(y.2 != .free||(names.lookup y.1==some .cell&&sc.names.lookup y.1==some .free)) ) &&
 ix.length==N'.length&&(range ix.length).all (λi=>match ix.getD i none with
  | none=>true
  | some j=>(match N'[i]?,N[j]? with|some x,some y=>x==y&&sc.names.lookup x==some .free|_,_=>false))
def cA(ix:List (Option Nat))(σ:St):St:=ix.map λo=>o.bind λj=>(σ[j]?).join
structure bo(X:Cx)(sc:Scope)(N':List Str)(ix:List (Option Nat)):Prop where
 kind:sc.kind = .function
 cell:∀y∈sc.names,y.2 = .cell->sc.names.lookup y.1=some .cell
 names:∀y∈sc.names,y.2 = .local->sc.names.lookup y.1=some .local
 free:∀y∈sc.names,y.2 = .free->X.env.kindOf y.1=some .cell/\sc.names.lookup y.1=some .free
 len:ix.length=N'.length
 at_:∀(i j:Nat),ix[i]?=some (some j)->∃x,N'[i]?=some x/\X.N[j]?=some x/\sc.names.lookup x=some .free
theorem bo.of(h:bP sc X.env.scope.names X.N N' ix=true):bo X sc N' ix:=by
 unfold bP at h;simp only [EJ,EZ] at h;obtain ⟨⟨⟨h1,h2⟩,h3⟩,h4⟩:=h;refine {by simpa using h1,λy F n=>?_,λy F n=>?_,λy F n=>?_,by simpa using h3,λi j e=>?_}
 .have q:=(h2 y F).1.1;rw [n] at q;simpa using q
 .have q:=(h2 y F).1.2;rw [n] at q;simpa using q
 .have q:=(h2 y F).2;rw [n] at q;simp only [bne_self_eq_false,Bool.false_or,EJ,beq_iff_eq] at q;exact q
 .have hi:i<ix.length:=(ED.mp e).1;have:=h4 i (mem_range.mpr hi);have O:ix.getD i none=some j:=by rw [EX,e];rfl
  rw [O] at this;dsimp only at this;cases G:N'[i]? with
  | none=>rw [G] at this;simp at this
  | some x =>
   cases J:X.N[j]? with
   | none=>rw [G,J] at this;simp at this
   | some y =>
    rw [G,J] at this;simp only [EJ,beq_iff_eq] at this;exact {x,rfl,by rw [this.1],this.2}
def aG(X:Cx)(sc:Scope)(N':List Str)(Ga:List (Addr×Obj))(C:Addr)(fp:List Addr)(s:Eh)(H:Hp):Cx :=
 { X with N:=N',s₀:=s,H₀:=H,env:=compEnvC sc (dD X.env.cells sc C) C X.env,outer:=X.stack,stack:=X.stack,ex:=fp,fn:=λx=>sc.names.lookup x==some .cell,pn:=X.pn++Ga,xe:=λ_ _=>False }
theorem HOk.add{o:HO}(x:HOk P w H h)(n:H D=none)(new:zX P w (upd H D o) h D o):HOk P w (upd H D o) h:=λb u e=>by
 by_cases hb:b=D
 .subst hb;rw [zG] at e;cases e;exact new
 .rw [zm hb] at e;exact (x b u e).KP (λ_ _ _ q=>q) (λc q=>by rw [zm (z7 q n)];exact q) λc xs q=>by rw [zm (z7 q n)];exact q
theorem HOk.but(x:HOk P w H h)(n:H C=none)(k:∀b u,b≠C->h.get? b=some u->h'.get? b=some u):HOk P w H h':=λb u e =>
 (x b u e).KP (λc v hc q=>k c v (by
  rcases hc with z|z
  .rw [z];exact z7 e n
  .exact z7 z n) q) (λ_ q=>q) λ_ _ q=>q
theorem y9(O:env.scope.kind = .function)(G:∀y∈sc.names,y.2 = .free->env.kindOf y.1=some .cell):
  ∀x,(relabel sc env).names.lookup x=(sc.names.lookup x).map λk=>if k == .free then .cell else k:=by
 intro x;have em:(relabel sc env).names=sc.names.map λy=>(y.1,if y.2 == .free then Fm.cell else y.2):=by
  show sc.names.map _=_;refine Hk λy S=>?_;obtain ⟨n,k⟩:=y;by_cases F:k = .free
  .subst F;have e:env.kindOf n=some .cell:=G (n,.free) S rfl;simp [O,e]
  .have hb:(k==Fm.free)=false:=by simpa using F
   simp [hb]
 rw [em];generalize sc.names=l
 induction l with
 | nil=>rfl
 | cons y r J =>
  obtain ⟨n,k⟩:=y;simp only [Fq,GO];cases x==n with
  | true=>rfl
  | false=>exact J
section
variable {X:Cx}{sc:Scope}{N':List Str}{ix:List (Option Nat)}
theorem DI{i:Nat}(h:(cA ix σ)[i]?=some (some v)):∃j,ix[i]?=some (some j)/\σ[j]?=some (some v):=by
 unfold cA at h;rw [E5] at h;cases e:ix[i]? with
 | none=>rw [e] at h;cases h
 | some o =>
  rw [e] at h;have h':(o.bind λj=>(σ[j]?).join)=some v:=E8.inj h;cases o with
  | none=>cases h'
  | some j =>
   have n:(σ[j]?).join=some v:=h';cases F:σ[j]? with
   | none=>rw [F] at n;cases n
   | some z =>
    rw [F] at n;have:z=some v:=n;exact {j,rfl,by rw [F,this]}
theorem wJ(I:Inv X Ga σ H s)(L:bo X sc N' ix)(f:∀b∈fp,cH X Ga H b)(fl:∀b∈fp,b<s.heap.objs.size)(O:s.heap.objs.size<=C)(ak:h₁.Ns C m)(old:∀b o,s.heap.get? b=some o->h₁.get? b=some o)(own:iJ X.env.cells sc C h₁):
  Inv (aG X sc N' Ga C fp s H) [] (cA ix σ) H { s with heap:=h₁,toks:=tk }:=by
 have lt:∀{x c},X.env.cells.lookup x=some c->¬ C<c:=λ{x c} h=>by
  obtain ⟨_,q⟩:=I.cell x c h;have:=q.lt;lia
 have rl:=y9 (sc:=sc) (env:=X.env) I.ok.kind λy hy G=>(L.free y hy G).1;have J:∀x,sc.names.lookup x=some .free->∃c,(dD X.env.cells sc C).lookup x=some c/\X.env.cells.lookup x=some c:=λx W=>by
  have hm:(x,Fm.free)∈sc.names:=Fu W;obtain ⟨c,hc⟩:=I.ok.has x (.inl (L.free _ hm rfl).1);obtain ⟨c',U⟩:=Hm.mp (ia (names:=sc.names) (n:=C+1) (q9 (cs:=[]) hm hc));rcases own.LL x c' U with a|a
  .have:=L.cell _ a.2.2 rfl;rw [W] at this;cases this
  .exact ⟨c',U,a.1⟩
 refine {{I.ok.mod,L.kind,I.ok.glob,I.ok.blt,O,λx y c h1 h2=>?_,λx W=>?_,λx c h h'=>?_,I.ok.hd,I.ok.frames,.inl rfl,λb hb=>{E7 (EO (fl b hb) O),λx c h=>?_},
   I.bs,EL I.ok.LI I.sz,λb o e hb=>?_,λb hb z=>?_,I.stack,I.J7},rfl,I.bare,Un.kept old,{m,ak,λi x v e1 e2 e3=>?_},λx c h=>?_,I.hok.fresh O,λx c h=>?_,λp hp=>?_,I.hok.kept old,?_,I.hdk}
 .rcases own.LL x c h1 with a|a<;>rcases own.LL y c h2 with b|b
  .rcases own.inj x y c h1 h2 a.1 with e|e|e
   .exact e
   .exact absurd a.1 (lt e)
   .exact absurd a.1 (lt e)
  .exact absurd a.1 (lt b.1)
  .exact absurd b.1 (lt a.1)
  .exact I.ok.inj x y c a.1 b.1
 .have F:(relabel sc X.env).names.lookup x=some .cell\/(relabel sc X.env).names.lookup x=some .free:=W;rw [rl x] at F;cases e:sc.names.lookup x with
  | none=>rw [e] at F;simp at F
  | some k =>
   have G:k = .free\/k = .cell:=by
    cases k with
    | free=>exact .inl rfl
    | cell=>exact .inr rfl
    | _=>rw [e] at F;revert F;decide
   rcases G with G|G
   .subst G;obtain ⟨c,h1,_⟩:=J x e;exact ⟨c,h1⟩
   .subst G;exact Hm.mp (lZ (Fu e))
 .rcases own.LL x c h' with a|a
  .exact EL O (Iv a.1)
  .have:=(L.free _ a.2 rfl).2;have h:(sc.names.lookup x==some .cell)=true:=h;rw [this] at h;exact absurd h 'd'
 .rcases own.LL x c h with a|a
  .have:=fl b hb;have:=a.1;exact λz=>by subst z;lia
  .exact (f b hb).2.2.2.2.1 x c a.1
 .rcases (f b hb).2.2.2.1 with z|z
  .exact I.ok.KU b o e z
  .exact absurd (EO (EM (I.ok.bs b o e).1) z) (Fb _)
 .rcases EI.mp (I.Ju b z) with e|e
  .exact (f b hb).2.1 e
  .exact (f b hb).2.2.1 e
 .obtain ⟨j,hj,hv⟩:=DI e2;obtain ⟨y,n1,n2,Z⟩:=L.at_ i j hj;have ag:x=y:=E8.inj ((show N'[i]?=some x from e1).symm.trans n1);subst ag;obtain ⟨c,c1,c2⟩:=J x Z;have kf:=(L.free _ (Fu Z) rfl).1;obtain ⟨m0,ax,hl⟩:=I.loc;obtain ⟨u,r,l⟩:=hl j x v n2 hv (.inr (.inl kf));refine {u,r,.inr {.inl ?_,c,c1,?_}}
  .show (relabel sc X.env).names.lookup x=some .cell;rw [rl x,Z];rfl
  .rcases l with ⟨G,_⟩|⟨_,c',U,z⟩
   .have S:X.env.kindOf x=some .cell:=kf;rw [G] at S;cases S
   .rw [c2] at U;cases U;obtain ⟨oc,ho,hd⟩:=z;exact {oc,old _ _ ho,hd}
 .rcases own.LL x c h with a|a
  .exact {_,a.2.1}
  .obtain ⟨v,oc,ho,hd⟩:=I.cell x c a.1;exact {v,oc,old _ _ ho,hd}
 .rcases own.LL x c h with a|a
  .exact I.hok.fresh (EL O (Iv a.1))
  .exact I.ti x c a.1
 .have av:p∈X.pn++Ga:=by
   have:p∈(X.pn++Ga)++[]:=hp;simpa using this
  obtain ⟨a,b,c,d,e⟩:=I.pin p av;exact {old _ _ a,b,E7 (EO (EM a) O),λz=>(EI.mp (I.Ju p.1 z)).elim c d,e}
 .show (cA ix σ).length=N'.length;unfold cA;rw [En,L.len]
end
def PTs(X:Cx)(n:List EN)(t:TT):Prop :=
 ∀(Ga:List (Addr×Obj))(s:Eh)(σ:St)(H:Hp)(Q:Bool->Hp->Prop),Inv X Ga σ H s->t σ H Q ->
  Et (Ez X.prog X.w) X.A (forIn n true λc r=>if r=true then do let ok<-isTrue c X.env (Fx c X.env);pure (ForInStep.yield ok) else pure (ForInStep.yield r)) (TP X Ga σ Q) X.xe s
def qU:TT:=λ_ H Q=>Q true H
theorem c7:W (PTs X [] qU):={λ_ _ _ H _ I h=>wpAny_tests_nil ⟨H,I,h⟩}
theorem sN{t:TT}(h:W (PT X c t)):W (PTs X [c] t):=by refine {?_};have h:=h.h;exact λGa s σ H Q I q=>wpAny_tests_one (h Ga s σ H Q I q)
theorem D5{e tg iter : EN}{YX : List EN}(hct : (∀ B : EB, B.under (.compLoop e 0 it ZT env) = B) ∧ (Ez prog w).den (.compLoop e 0 it ZT env) = Sem.onRaise (do
      Hy iter.pos
      match ← Il it with
      | none => pure (.done .next)
      | some v =>
        GD tg it v
        assign tg env v
        let mut ok := true
        for c in YX do
          if ok then ok ← isTrue c env (Fx c env)
        if ok then
          em
        again (.compLoop e 0 it ZT env)) (fun x => do Ir x env; theTreesLotGoes x))(I:Nat->Eh->Prop)(U:∀n s,I n s->Et (Ez prog w) A (Il it) (λr s₁=>match r with
   | none=>R (.ok .next) s₁
   | some v=>Et (Ez prog w) A (GD tg it v) (λ_ F=>Et (Ez prog w) A (assign tg env v) (λ_ G =>
     Et (Ez prog w) A (forIn YX true λc r=>if r=true then do let ok<-isTrue c env (Fx c env);pure (ForInStep.yield ok) else pure (ForInStep.yield r)) (λok s₃ =>
      if ok=true then Et (Ez prog w) A em (λ_ O=>∃m,m<n/\I m O) (λ_ _=>False) s₃
      else ∃m,m<n/\I m s₃) (λ_ _=>False) G) (λ_ _=>False) F) (λ_ _=>False) s₁) (λ_ _=>False) s)(n:Nat)(h:I n s):GL (Ez prog w) A (.compLoop e 0 it ZT env) R s:=by
 refine codeAny_loop rfl I (λn s hI=>?_) n h;rw [hct.1,hct.2];refine wpAny_noted (Fe (E:=λ_ _=>False) ?_ (λ_ _ q=>q) λ_ _ z=>z.elim);refine we (FJ (we (Fe (U n s hI) (λr s₁ h₁=>?_) λ_ _ h'=>h')));cases r with
 | none=>exact Ej h₁
 | some v =>
  refine we (Fe h₁ (λ_ F S=>?_) λ_ _ h'=>h');refine we (Fe S (λ_ G W=>we (Fe W (λok s₃ J=>?_) λ_ _ h'=>h')) λ_ _ h'=>h');cases ok with
  | false=>exact Ej {rfl,J}
  | true=>exact we (Fe J (λ_ O Z=>Ej {rfl,Z}) λ_ _ h'=>h')
def tLC(ix:List (Option Nat))(wi:TI)(g:TG)(tt:TT)(te:TE):TE:=λσ H Q=>wi σ H λJ H1=>∃W:Nat->Nat->St->List V->Hp->Prop,(∃m,W 0 m (cA ix σ) [] H1)/\∀i m G ys H2,W i m G ys H2->ys.length<sizeLine /\
 ((J.stop i H2 ∧ ∀ D, H2 D = none → D ≠ sysModules → Q (.ref D) (upd H2 D (.lst ys))) ∨
  (J.go i H2 ∧ ∀ x H3, J.LU i H2 x H3 → g x G H3 fun n H4 => tt n H4 fun ok H5 => if ok = true then te n H5 fun y H6 => ∃ F, F < m ∧ W (i + 1) F n (ys ++ [y]) H6 else ∃ F, F < m ∧ W (i + 1) F n ys H5))
theorem v9{α:Type}{Q:VK}{em:Addr->Env->Sem Unit}(len:α->Nat)(ho:α->HO)(a0:α)(At:α->Obj->Prop)(tm:(α->Hp->Prop)->α->St->Hp->Prop)(dp:clausesOf e=[{tg,iter,YX,0}])(hsz:sizeOk dt)(c4:∀it D env,(∀B:EB,B.under (.compLoop e 0 it (.ref D) env)=B)/\(Ez X.prog X.w).den (.compLoop e 0 it (.ref D) env)=Sem.onRaise (do
   Hy iter.pos
   match<-Il it with
   | none=>pure (.done .next)
   | some v =>
    GD tg it v
    assign tg env v
    let mut ok:=true
    for c in YX do
     if ok then ok<-isTrue c env (Fx c env)
    if ok then
     em D env
    again (.compLoop e 0 it (.ref D) env)) (λx=>do Ir x env;theTreesLotGoes x))(Y0:∀{A:EB}{R:Result->Eh->Prop}{s:Eh}{it ZT:Value}{env:Env},GL (Ez X.prog X.w) A (.compLoop e 0 it ZT env) R s->Et (Ez X.prog X.w) A (pyIter it) (λc2 s'=>GL (Ez X.prog X.w) A (.compLoop e 0 c2 ZT env) R s') (notedBy (Ez X.prog X.w) A env λx s'=>R (.error x) s') s->GL (Ez X.prog X.w) A (.compStart e 0 it ZT env) R s)(h0:At a0 { cls:=.type T,dict:=none,data:=dt })(YH:({ cls:=.type T,dict:=none,data:=dt }:Obj).isFreed=false)(a7:∀{ys o},At ys o->∀v,o.data≠.cell v)(bt:∀{ys o H' h D},At ys o->len ys<sizeLine->D≠sysModules->h.get? D=some o->zX X.prog X.w H' h D (ho ys))(c5:∀Ga C fp s H pins' s8 Z H8 ys ob D (K:α->Hp->Prop),Inv (aG X sc N' Ga C fp s H) pins' Z H8 s8->tm K ys Z H8->At ys ob->len ys<sizeLine->(D,ob)∈pins' ->
   Et (Ez X.prog X.w) X.A (em D (aG X sc N' Ga C fp s H).env) (λ_ s'=>∃s9 bq H9 aI h' tk,s'={ s9 with heap:=h',toks:=tk }/\K bq H9/\Inv (aG X sc N' Ga C fp s H) pins' Z H9 s9/\At bq aI/\h'.get? D=some aI/\HB D s9.heap h') (λ_ _=>False) s8)(hc:c=true->X.calm=true)(L:bo X sc N' ix)(hi:PIc c X tg iter wi)(hg:∀Ga C fp s H,PG (aG X sc N' Ga C fp s H) tg g)(ht:∀Ga C fp s H,PTs (aG X sc N' Ga C fp s H) YX tt)(hs:∀x,Hn iter X.env x=pure x)(I:Inv X Ga σ H s)(h:wi σ H λJ H1=>∃W:Nat->Nat->St->α->Hp->Prop,(∃m,W 0 m (cA ix σ) a0 H1)/\∀i m Z ys H2,W i m Z ys H2->len ys<sizeLine /\
   ((J.stop i H2 ∧ ∀ D, H2 D = none → D ≠ sysModules → Q (.ref D) (upd H2 D (ho ys))) ∨
    (J.go i H2 ∧ ∀ x H3, J.LU i H2 x H3 → g x Z H3 fun ax H4 => tt ax H4 fun ok H5 => if ok = true then tm (fun zs H6 => ∃ m', m' < m ∧ W (i + 1) m' ax zs H6) ys ax H5 else ∃ m', m' < m ∧ W (i + 1) m' ax ys H5)))(kk:∀(C D:Addr)(oC:Obj)(H':Hp)(s5:Eh)(m5:Str->Option Value),Inv X (Ga++[(C,oC)]) σ H' s5->(∀{hp:Heap},hp.get? C=some oC->hp.Ns C m5)->(∀{bp:St}{a6:Hp}{s':Eh}{h':Heap},Inv X Ga bp a6 s'->a6 C=none->HB C s'.heap h'->Inv X Ga bp a6 { s' with heap:=h' })->Q (.ref D) H'->compPost (Ez X.prog X.w) X.A X.xe use R (.ref D) C (.ok .next) s5):
  Et (Ez X.prog X.w) X.A (comprehension e sc X.env (firstIterPos [{tg,iter,YX,0}] pos) (newObj (.type T) dt none) (firstAsync [{tg,iter,YX,0}]) (firstIter [{tg,iter,YX,0}] X.env) use) R X.xe s:=by
 have bb:closureFor sc X.env=pure (bz X.env.cells sc.names []):=wq λy hy hk=>I.ok.has y.1 (.inl (L.free y hy hk).1);refine wpAny_comprehension_free (use:=use) dp hs bb L.kind L.names (thn (hi Ga s σ H _ I h) λv s1 h1=>thn h1 λea s2 h2=>?_);obtain ⟨it,fp,tn,J,H2,e,O,T',cv,f2,W,⟨m0,w0⟩,b6⟩:=h2;subst e;refine Fo (BG ?_) hsz;dsimp only;generalize a8:s2.heap.push { cls:=.type T,dict:=none,data:=dt }=G2;have hC:G2.objs.size=s2.heap.objs.size+1:=by rw [<- a8,Iq]
 have cC:s2.heap.objs.size≠G2.objs.size:=by rw [hC];exact E7 (Hl _)
 have YG:s2.heap.objs.size<=G2.objs.size:=by rw [hC];exact Nat.le_succ _
 have below:∀b,b<s2.heap.objs.size->b≠G2.objs.size/\b≠s2.heap.objs.size:=λb hb=>{by rw [hC];exact E7 (Ij hb),E7 hb};have old:∀b o,s2.heap.get? b=some o->(HM (G2.push { cls:=.type "dict",data:=.dict #[] }) sc.names).get? b=some o:=λb o e=>pushCells_keeps _ _ _ _ (El _ (a8 ▸ El _ e));have S:(HM (G2.push { cls:=.type "dict",data:=.dict #[] }) sc.names).Ns G2.objs.size λ_=>none:=(Heap.Ns.new G2 (.type "dict")).keeps (pushCells_keeps _ _);have own:iJ X.env.cells sc G2.objs.size (HM (G2.push { cls:=.type "dict",data:=.dict #[] }) sc.names):=.mk' (Iq ..);have Yj:(HM (G2.push { cls:=.type "dict",data:=.dict #[] }) sc.names).get? s2.heap.objs.size=some { cls:=.type T,dict:=none,data:=dt }:=pushCells_keeps _ _ _ _ (El _ (a8 ▸ EW _ YH));generalize HM (G2.push { cls:=.type "dict",data:=.dict #[] }) sc.names=h₁ at old S own Yj ⊢;have fl:∀b∈fp,b<s2.heap.objs.size:=λb hb=>by
  obtain ⟨o,e,_⟩:=T'.obj 0 _ cv b hb;exact EM e
 have ak:s2.heap.objs.size∉fp:=λz=>Fb _ (fl _ z);generalize G:s2.heap.objs.size=D at *
 generalize d8:G2.objs.size=C at *
 have bA:tn 0 h₁:=T'.keep _ _ _ cv λb _ o e=>old b o e;have I3:Inv (aG X sc N' Ga C fp s2 H2) [] (cA ix σ) H2 { s2 with heap:=h₁ }:=wJ (tk:=s2.toks) O L f2 (λb hb=>by rw [G];exact fl b hb) (by rw [G];exact YG) S old own;have D0:H2 D=none:=O.hok.fresh (le_of_eq G);have fD:∀{H':Hp},H' D=none->cH (aG X sc N' Ga C fp s2 H2) [] H' D:=λ{H'} hn=>by
  refine {hn,cC,λz=>?_,.inr (le_of_eq G),λx c hx z=>?_,λp hp z=>?_}
  .obtain ⟨_,o,ho,_⟩:=O.stack.mem (show D∈frs X.stack from z);exact absurd (EM ho) (by rw [G];exact Fb _)
  .rcases own.LL x c hx with a|a
   .have:=a.1;rw [z] at this;exact absurd this (Nat.not_lt.mpr YG)
   .obtain ⟨v,q⟩:=O.cell x c a.1;have:=q.lt;rw [z,G] at this;exact Fb _ this
  .have da:p∈X.pn++Ga:=by
    have:p∈(X.pn++Ga)++[]:=hp;simpa using this
   have:=EM (O.pin p da).1;rw [z,G] at this;exact Fb _ this
 have fF:∀{H':Hp},(∀b∈fp,H' b=none)->∀b∈fp,cH (aG X sc N' Ga C fp s2 H2) [] H' b:=λ{H'} hn b hb=>by
  obtain ⟨_,g1,g2,g3,g4,g5⟩:=f2 b hb;refine {hn b hb,(below b (fl b hb)).1,λz=>?_,.inl hb,λx c hx=>?_,λp hp=>g5 p ?_}
  .rcases EI.mp (O.Ju b z) with e|e
   .exact g1 e
   .exact g2 e
  .rcases own.LL x c hx with a|a
   .have:=a.1;have:=fl b hb;exact λz=>by subst z;lia
   .exact g4 x c a.1
  .have:p∈(X.pn++Ga)++[]:=hp;simpa using this
 have a5:∀s₃:Eh,s₃={ s2 with heap:=h₁ } ->
   GL (Ez X.prog X.w) X.A (.compLoop e 0 (.ref it) (.ref D) (compEnvC sc (dD X.env.cells sc C) C X.env))
    (compPost (Ez X.prog X.w) X.A X.xe use R (.ref D) C) s₃:=by
  rintro s₃ rfl;refine D5 (c4 _ _ _) (λn s'=>∃i Z ys H',Inv (aG X sc N' Ga C fp s2 H2) [] Z H' s'/\tn i s'.heap/\(∀b∈fp,H' b=none)/\H' D=none/\(∃ob,At ys ob/\s'.heap.get? D=some ob)/\W i n Z ys H')
   ?_ m0 {0,_,a0,H2,I3,bA,λb hb=>(f2 b hb).1,D0,{_,h0,Yj},w0}
  rintro n s4 ⟨i,Z,ys,H4,I4,b7,b5,F,⟨ob,av,dg⟩,w4⟩;obtain ⟨ZS,step⟩:=b6 i n Z ys H4 w4;rcases step with ⟨stop,c3⟩|⟨go,step⟩
  .refine thn (T'.done (aG X sc N' Ga C fp s2 H2) rfl rfl rfl hc i [(D,ob)] s4 Z H4 (λ_ _=>False) (I4.vx λp hp=>?_) (λb hb=>?_) b7 stop) λr s5=>x2e λhr I5=>?_
   .have e:p=(D,ob):=by simpa using hp
    subst e;obtain ⟨g0,g1,g2,_⟩:=fD F;exact {dg,g0,g1,g2,a7 av}
   .obtain ⟨g0,g1,g2,g3,g4,g5⟩:=fF b5 b hb;refine {g0,g1,g2,g3,g4,λp hp=>?_};rcases Ff.mp hp with z|z
    .exact g5 p (Gi _ z)
    .have e:p=(D,ob):=by simpa using z
     subst e;exact λq=>ak (by have q':D=b:=q;rw [q'];exact hb)
   .subst hr;have dT:=(I5.pin (D,_) (ET _ (Fj.mpr rfl))).1;obtain ⟨m5,dn,_⟩:=id I5.loc;have Zf:∀b o,s2.heap.get? b=some o->b≠C/\b≠D:=λb o e=>by
     have:=EM e;rw [G] at this;exact below b this
    have b8:D≠sysModules:=by have h:Ep<s2.heap.objs.size:=(O.mod.glob.keeps O.bk).lt;rw [G] at h;exact Iu (Nat.lt_trans 'd' h)
    have U:=I5.base;have IX:Inv X Ga σ (upd H4 D (ho ys)) s5:=by
     refine O.LB (s':=s5) (ch:=fp) I5.os {λb o e n hb hx=>U.keep b o e n hb hx,λb o e n hb hx=>U.slot b o e n hb hx,λb o e n hx=>?_,λb o e hx=>U.there b o e hx,λb xs e=>?_,λb o u e=>?_,λb ps e=>?_} ?_ I5.bare (λb hb=>?_)
     .rw [zm (Zf b o e).2];exact U.free b o e n hx
     .have q:=U.tups b xs e;rw [zm (z7 q F)];exact q
     .have q:=U.frzs b o u e;rw [zm (z7 q F)];exact q
     .obtain ⟨more,q⟩:=U.tbls b ps e;exact {more,by rw [zm (z7 q F)];exact q}
     .exact I5.hok.add F (bt av ZS b8 dT)
     .obtain ⟨_,g1,g2,g3,g4,g5⟩:=f2 b hb;exact ⟨g3,g1,g4,g5⟩
    obtain ⟨oC,dV,c6,gC,rC⟩:=id dn;have a9:∀v,oC.data≠.cell v:=λv z=>by rw [rC.1] at z;cases z
    have ct:C≠D:=Fi cC;have HC:upd H4 D (ho ys) C=none:=by rw [zm ct];exact I5.free
    have a4:C≠X.env.locals:=λz=>by
     have:=O.lt;rw [<- z,G] at this;exact absurd (EO this YG) (Fb _)
    have dk:C∉X.fs:=O.Mj (by rw [G];exact YG);have dc:=IX.vx (pins':=Ga++[(C,oC)]) λp hp=>by
     rcases Ff.mp hp with z|z
     .exact IX.pin p (ET _ z)
     .rw [Fj.mp z];exact ⟨gC,HC,a4,dk,a9⟩
    refine kk C D oC _ s5 m5 dc (λe=>⟨oC,dV,c6,e,rC⟩) (λ{eb H6 s6 h'} I7 df d3=>I7.turned (t':=s6.toks) (it:=C) (λb o hb e=>(d3.2 b hb).trans e) df a4 (.inr (EL O.sz (by rw [G];exact YG))) (λx c hx z=>?_) (λp hp z=>?_)) (c3 D F b8)
    .obtain ⟨v,q⟩:=O.cell x c hx;have:=q.lt;rw [z,G] at this;exact absurd (EO this YG) (Fb _)
    .have:=EM (O.pin p hp).1;rw [z,G] at this;exact absurd (EO this YG) (Fb _)
  .refine thn (T'.item (aG X sc N' Ga C fp s2 H2) rfl rfl rfl hc i [(D,ob)] s4 Z H4 (λ_ _=>False) (I4.vx λp hp=>?_) (λb hb=>?_) b7 go) λr s5=>x3e λu hr h5=>?_
   .have e:p=(D,ob):=by simpa using hp
    subst e;obtain ⟨g0,g1,g2,_⟩:=fD F;exact {dg,g0,g1,g2,a7 av}
   .obtain ⟨g0,g1,g2,g3,g4,g5⟩:=fF b5 b hb;refine {g0,g1,g2,g3,g4,λp hp=>?_};rcases Ff.mp hp with z|z
    .exact g5 p (Gi _ z)
    .have e:p=(D,ob):=by simpa using z
     subst e;exact λq=>ak (by have q':D=b:=q;rw [q'];exact hb)
   .subst hr;refine thn h5 λ_ s6=>x5e λx H6 I6 r6 Yv=>?_;obtain ⟨y6,ba,d1⟩:=Yv;obtain ⟨a3,d2,_⟩:=I6.pin (D,_) (ET _ (Fj.mpr rfl));have b9:H6 D=none:=d2;have b0:∀b∈D::fp,cH (aG X sc N' Ga C fp s2 H2) [] H6 b:=λb hb=>by
     rcases EI.mp hb with z|z
     .subst z;exact fD b9
     .exact fF d1 b z
    have cD:∀b∈D::fp,∃o,s6.heap.get? b=some o/\∀v,o.data≠.cell v:=λb hb=>by
     rcases EI.mp hb with z|z
     .subst z;exact {_,a3,a7 av}
     .exact T'.obj _ _ ba b z
    have d0:=(I6.vr (Ga:=[])).pinned b0 cD;refine thn (hg Ga C fp s2 H2 _ s6 Z H6 x u _ d0 r6 (step x H6 y6)) λ_ s7=>x4e λag H7 I7 q7=>?_;refine thn (ht Ga C fp s2 H2 _ s7 ag H7 _ I7 q7) λok s8=>x3e λH8 I8 q8=>?_;have back:∀{s9:Eh}{H9:Hp},Inv (aG X sc N' Ga C fp s2 H2) ([]++fN (D::fp) s6.heap) ag H9 s9->s9.heap.get? D=some ob/\H9 D=none/\tn (i+1) s9.heap/\∀b∈fp,H9 b=none:=λ{s9 H9} I9=>by
     have pin:∀b o,b∈D::fp->s6.heap.get? b=some o->s9.heap.get? b=some o/\H9 b=none:=λb o hb e=>by
      have q:=I9.pin (b,o) (ET _ (ET _ (iw hb e)));exact ⟨q.1,q.2.1⟩
     refine {(pin D _ Er a3).1,(pin D _ Er a3).2,T'.keep _ _ _ ba λb hb o e=>(pin b o (Em _ hb) e).1,λb hb=>?_};obtain ⟨o,e,_⟩:=T'.obj _ _ ba b hb;exact (pin b o (Em _ hb) e).2
    cases ok with
    | false =>
     obtain ⟨b1,b2,b3,b4⟩:=back I8;simp only [FK,if_false] at q8 ⊢;obtain ⟨m',hm,w'⟩:=q8;exact {m',hm,i+1,ag,ys,H8,I8.vr,b3,b4,b2,⟨ob,av,b1⟩,w'}
    | true =>
     simp only [if_true] at q8 ⊢;refine thn (c5 Ga C fp s2 H2 _ s8 ag H8 ys ob D _ I8 q8 av ZS (ET _ (iw Er a3))) λ_ s'=>?_;rintro ⟨s9,zs,H9,aI,d7,tk,rfl,⟨m',hm,w'⟩,I9,dK,d6,sb⟩;obtain ⟨b1,b2,b3,b4⟩:=back I9;obtain ⟨_,g1,_,g3,g4,g5⟩:=fD b2;exact {m',hm,i+1,ag,zs,H9,(I9.vr (Ga:=[])).turned (t':=tk) (λb o hb e=>(sb.2 b hb).trans e) b2 g1 g3 g4 g5,T'.keep _ _ _ b3 λb hb o e=>(sb.2 b λq=>ak (by rw [<- q];exact hb)).trans e,b4,b2,⟨aI,dK,d6⟩,w'}
 exact Y0 (a5 _ rfl) (T'.self _ 0 _ _ _ bA (a5 _ rfl))
theorem Aj(hc:c=true->X.calm=true)(L:bo X sc N' ix)(hi:PIc c X tg iter wi)(hg:∀Ga C fp s H,PG (aG X sc N' Ga C fp s H) tg g)(ht:∀Ga C fp s H,PTs (aG X sc N' Ga C fp s H) G tt)(he:∀Ga C fp s H,PE (aG X sc N' Ga C fp s H) elt te)(hs:∀x,Hn iter X.env x=pure x)(I:Inv X Ga σ H s)(h:tLC ix wi g tt te σ H Q)(kk:∀(C D:Addr)(Z:Obj)(H':Hp)(s5:Eh)(m5:Str->Option Value),Inv X (Ga++[(C,Z)]) σ H' s5->(∀{hp:Heap},hp.get? C=some Z->hp.Ns C m5)->(∀{J:St}{F:Hp}{s':Eh}{h':Heap},Inv X Ga J F s'->F C=none->HB C s'.heap h'->Inv X Ga J F { s' with heap:=h' })->Q (.ref D) H'->compPost (Ez X.prog X.w) X.A X.xe use R (.ref D) C (.ok .next) s5):
  Et (Ez X.prog X.w) X.A (comprehension (.ListComp elt [{tg,iter,G,0}] sc pos) sc X.env (firstIterPos [{tg,iter,G,0}] pos) (newList []) (firstAsync [{tg,iter,G,0}]) (firstIter [{tg,iter,G,0}] X.env) use) R X.xe s:=by
 refine v9 (e:=.ListComp elt [{tg,iter,G,0}] sc pos) (em:=λD env=>do let _<-call (.builtin "list.append") [.ref D,<- Fx elt env]) (T:="list") (dt:=.seq ([]:List Value).toArray) length HO.lst [] (λys o=>∃n k,zo ys n/\o={ cls:=.type "list",data:=.seq n.toArray k }) (λK ys U H=>te U H λy H'=>K (ys++[y]) H') rfl (by size_fits) (λ_ _ _=>{λ_=>rfl,rfl}) codeAny_compStart_list {[],0,.nil,rfl} rfl ?_ ?_ ?_ hc L hi hg ht hs I h kk
 .rintro ys o ⟨n,k,_,rfl⟩ v z;cases z
 .rintro ys o H' h D ⟨n,k,S,rfl⟩ hl _ e;exact {Iv hl,n,k,S,e}
 .rintro Ga C fp s H pins' s8 U H8 ys ob D K I8 q8 ⟨n,k,S,rfl⟩ hl hD;refine we (thn (he Ga C fp s H _ s8 U H8 _ I8 q8) λy s9=>x5e λyv H9 I9 r9 w'=>?_);have el:n.toArray.size<=sizeLine:=by
   have:=S.length;simp only [EC];lia
  refine we (append_at (hsz:=el) (I9.pin _ (ET _ hD)).1 λW sb O=>Ej {s9,_,H9,_,W,s9.toks,rfl,w',I9,{n++[y],k+1,S.append (.cons r9 .nil),rfl},?_,sb});rw [O];simp
theorem cq(hc:c=true->X.calm=true)(L:bo X sc N' ix)(hi:W (PIc c X tg iter wi))(hg:∀Ga C fp s H,W (PG (aG X sc N' Ga C fp s H) tg g))(O:∀Ga C fp s H,W (PTs (aG X sc N' Ga C fp s H) YX tt))(he:∀Ga C fp s H,W (PE (aG X sc N' Ga C fp s H) elt te))(hs:∀x,Hn iter X.env x=pure x:=by intro _;rfl):W (PE X (.ListComp elt [{tg,iter,YX,0}] sc pos) (tLC ix wi g tt te)):=by
 refine {?_};have hi:=hi.h;have hg:=λz0 G J F n=>(hg z0 G J F n).h;have O:=λz0 G J F n=>(O z0 G J F n).h;have he:=λz0 G J F n=>(he z0 G J F n).h;intro Ga s σ H Q I h;rw [eval_ListComp];refine Aj (use:=none) hc L hi hg O he hs I h λC D oC H' s5 m5 U ns tu q=>?_;obtain ⟨p6,S,_⟩:=U.pin (C,oC) (ET _ (ET _ (Fj.mpr rfl)));exact {m5,ns p6,λh' Z=>{.ref D,H',tu (U.vx λp hp=>U.pin p (ET _ (Gi _ hp))) S Z,rfl,q}}
def Ctx(H:Hp)(vs:Array Value):Prop:=∃n,vs[2]?=some n/\(n = .none\/∃b k,n = .ref b/\Chn H k b)
structure aw(Hc:Hp)(B:Heap)(l:List Env)(e:Addr)(cls fl:Value)(h:Heap):Prop where
 stays:B.StaysIn h
 new:B.get? e=none
 frames:h.FunFrames B l
 obj:∃oe vs,h.get? e=some oe/\oe.cls=cls/\oe.dict=none/\oe.data = .fields vs/\2<vs.size/\Ctx Hc vs /\
  (vs[1]?=some .none\/∃T oT ts,vs[1]?=some (.ref T)/\B.get? T=none/\T≠e/\h.get? T=some oT/\oT.data = .fields ts/\ts[3]?=some fl)
section
variable {M:Model}{A:EB}{E:Value->Eh->Prop}{s:Eh}{Hc:Hp}{B:Heap}{env:Env}{outer l:List Env}{L e:Addr}{cls fl:Value}
theorem nr(o:Obj)(f:Array Value->Array Value):(o.mapFields f).dict=o.dict:=by
 obtain ⟨c,d,dt,n⟩:=o;cases dt<;>rfl
theorem pQ(YH:A.frames=some (env::outer))(hf:env.frame=some L)(st:B.StaysIn s.heap)(U:B.get? e=none)(F:s.heap.FunFrames B (env::outer))(he:s.heap.get? e=some oe)(hc:oe.cls=cls)(YT:oe.dict=none)(hd:oe.data = .fields vs)(hz:2<vs.size)(h2:Ctx Hc vs)(k:∀h',aw Hc B (env::outer) e cls (Gu L) h'->s.heap.UpToSlots h'->Q () { s with heap:=h' }):
  Et M A (do let a<-frameOf env;let pl<-entryPlaceOf L O;let b<-EntryCells.newEntry head a .none (Gu L) .none pl;setField (.ref e) 1 b) Q E s:=by
 have J:e∉(env::outer).filterMap (·.frame):=λz=>by
  obtain ⟨_,o,ho,nf⟩:=F.mem z;rw [he] at ho;cases ho;exact nf vs hd
 refine we (wpAny_frameOf_fun YH F hf λg only=>?_);obtain ⟨_,same,slots⟩:=only;refine we (wpAny_entryPlaceOf λpl Y1=>?_);have YW:∀(tb:Obj)(n:Array Value),tb.data = .fields n->n[3]?=some (Gu L)->Et M A (setField (.ref e) 1 (.ref g.objs.size)) Q E { s with heap:=g.push tb }:=by
  intro tb n td t3;have e1:g.get? e=some oe:=(same e J).trans he;have Z:(g.push tb).get? e=some oe:=El _ e1;have hT:(g.push tb).get? g.objs.size=some tb:=EW _ (by rw [FM td]);have Yt:g.objs.size≠e:=Iu (EM e1);have fresh:B.get? g.objs.size=none:=by
   cases q:B.get? g.objs.size with
   | none=>rfl
   | some o =>
    obtain ⟨G,z⟩:=slots _ o (st _ o q);exact absurd (EM z) (Fb _)
  have S:∀b o,b≠e->g.get? b=some o->((g.push tb).update e (HN (·.setIfInBounds 1 (.ref g.objs.size)))).get? b=some o:=λb o hb q =>
   (E3 _ _ (Fi hb)).trans (El _ q)
  have W:∀b o,s.heap.get? b=some o->(∀ws,o.data≠.fields ws)->b≠e:=λb o q nf z=>by
   rw [z,he] at q;cases q;exact nf vs hd
  have dd:=Gz hd (·.setIfInBounds 1 (Ew g.objs.size));refine FV Z hd 'l' (k _ {λb o q=>?_,U,?_,?_} λb o q nf=>?_)
  .refine S b o (λz=>by rw [z,U] at q;cases q) ((same b λz=>?_).trans (st b o q));rw [(F.mem z).1] at q;cases q
  .refine F.of_keeps λb o q nf=>?_;obtain ⟨G,z⟩:=slots b o q;exact {_,S b _ (W b o q nf) z,rfl}
  .refine {_,_,FA _ Z (FM dd),(Ii _ _).trans hc,(nr _ _).trans YT,dd,by simpa using hz,(by obtain ⟨cv,q1,q2⟩:=h2;exact {cv,by rw [Hs 'd'];exact q1,q2}),.inr {g.objs.size,tb,n,?_,fresh,Yt,?_,td,t3}}
   .rw [Fd 'l']
   .rw [E3 _ _ (Fi Yt)];exact hT
  .obtain ⟨G,z⟩:=slots b o q;exact {G,S b _ (W b o q nf) z}
 unfold EntryCells.newEntry newFields;refine we (Fo ?_ (Y1.sizeOk5 _ _ _ _ _));exact YW _ _ rfl 's'
theorem lK(YH:A.frames=some (env::outer))(G:env.frame=some L)(x:aw Hc B (env::outer) e cls fl s.heap)(k:∀h',aw Hc B (env::outer) e cls (Gu L) h'->s.heap.UpToSlots h'->Q () { s with heap:=h' }):Et M A (Ir (.ref e) env) Q E s:=by
 obtain ⟨st,U,S,oe,vs,he,hc,J,hd,W,h2,h1⟩:=x;unfold Ir;simp only [G];rcases h1 with h1|⟨T,oT,ts,h1,Z,Te,F,dT,O⟩
 .refine we (Fh he hd h1 ?_);rw [if_neg (show ¬ ((E6 != E6)=true) by decide)];exact pQ YH G st U S he hc J hd W h2 k
 .refine we (Fh he hd h1 ?_);rw [if_pos (show (Ew T != E6)=true by simp)];refine we (Fh F dT O ?_);by_cases n:fl=Gu L
  .subst n;rw [if_pos (show (Gu L==Gu L)=true by simp)];exact Ej (k s.heap {st,U,S,oe,vs,he,hc,J,hd,W,h2,.inr ⟨T,oT,ts,h1,Z,Te,F,dT,O⟩} (UpToSlots.refl _))
  .rw [if_neg (show ¬ ((fl==Gu L)=true) by simpa using n)];refine we (FV F dT (Ge.mp O).1 ?_);have oth:∀b,b≠T->(s.heap.update T (HN (·.setIfInBounds 3 E6))).get? b=s.heap.get? b:=λb hb=>E3 _ _ (Fi hb);have YZ:∀b o,s.heap.get? b=some o->(∀ws,o.data≠.fields ws)->b≠T:=λb o q nf z=>by
    rw [z,F] at q;cases q;exact nf ts dT
   refine pQ (B:=B) (cls:=cls) YH G (λb o q=>?_) U (S.of_keeps λb o q nf=>{o,(oth b (YZ b o q nf)).trans q,rfl}) ((oth e (Fi Te)).trans he) hc J hd W h2 λh' y up=>k h' y λb o q nf=>up b o ((oth b (YZ b o q nf)).trans q) nf;exact (oth b λz=>by rw [z,Z] at q;cases q).trans (st b o q)
theorem gK(x:aw Hc B l e cls fl s.heap)(k:∀h',aw Hc B l e cls .none h'->s.heap.UpToSlots h'->Q () { s with heap:=h' }):Et M A (setFlight (.ref e) none) Q E s:=by
 obtain ⟨st,U,O,oe,vs,he,hc,J,hd,hz,h2,h1⟩:=x;unfold setFlight;rcases h1 with h1|⟨T,oT,W,h1,S,G,F,dT,t3⟩
 .refine we (Fh he hd h1 ?_);rw [if_neg (show ¬ ((E6 != E6)=true) by decide)];exact Ej (k s.heap {st,U,O,oe,vs,he,hc,J,hd,hz,h2,.inl h1} (UpToSlots.refl _))
 .refine we (Fh he hd h1 ?_);rw [if_pos (show (Ew T != E6)=true by simp)];have n:3<W.size:=(Ge.mp t3).1;have dd:=Gz dT (·.setIfInBounds 3 E6);have oth:∀b,b≠T->(s.heap.update T (HN (·.setIfInBounds 3 E6))).get? b=s.heap.get? b:=λb hb=>E3 _ _ (Fi hb);have Z:∀b o,s.heap.get? b=some o->(∀ws,o.data≠.fields ws)->b≠T:=λb o q nf z=>by
   rw [z,F] at q;cases q;exact nf W dT
  refine FV F dT n (k _ {λb o q=>(oth b λz=>by rw [z,S] at q;cases q).trans (st b o q),U,O.of_keeps λb o q nf=>{o,(oth b (Z b o q nf)).trans q,rfl},oe,vs,(oth e (Fi G)).trans he,hc,J,hd,hz,h2,
   .inr {T,_,_,h1,S,G,FA _ F (FM dd),dd,?_}} λb o q nf=>{o.slots,(oth b (Z b o q nf)).trans q})
  rw [Fd n]
theorem wQ(F:A.frames=some (env::outer))(n:env.frame=some L)(x:aw Hc B (env::outer) e cls fl s.heap)(k:∀h',aw Hc B outer e cls .none h'->s.heap.UpToSlots h'->Q () { s with heap:=h' }):Et M A (leaving env (.ref e)) Q E s:=by
 unfold leaving;refine we (lK F n x λh1 y u1=>gK (s:={ s with heap:=h1 }) y λh2 z u2=>?_);obtain ⟨a,b,⟨_,_,c⟩,d⟩:=z;exact k h2 ⟨a,b,c,d⟩ (u1.trans u2)
end
def CXW(P:Eo)(w:EG):CXT:=λouter H s E e s'=>∃(ea C:Addr)(B:Heap)(H':Hp)(n:Eh),e = .ref ea/\aw H' B outer ea (.ref C) .none s'.heap/\Un (frs outer) [] H H' s.heap n.heap/\HOk P w H' n.heap /\
 n.os=s.os/\GN n.gens/\s'.os=s.os/\GN s'.gens/\(∀b o,n.heap.get? b=some o->b∉frs outer->B.get? b=some o)/\n.heap.UpToSlots s'.heap/\E (.ref C) none H'
def ar(X:Cx)(Ex:Addr->St->Hp->Prop):Prop:=∀(Ga:List (Addr×Obj))(σ:St)(H:Hp)(n:Eh)(ea C:Addr)(B:Heap)(fl:Value)(s':Eh),Inv X Ga σ H n->aw H B X.stack ea (.ref C) fl s'.heap->s'.os=n.os->GN s'.gens ->
 (∀b o,n.heap.get? b=some o->b∉frs X.stack->B.get? b=some o)->n.heap.UpToSlots s'.heap->Ex C σ H->X.xe (.ref ea) s'
theorem di{K:Ei}:
  ar (bH (CXW P w) cm P w K mg base N qual scope f cd A outer s H E) (λC _ H'=>E (.ref C) none H'):=by
 intro Ga σ H' G ea C B fl s' I x os bare hB up q;have Z:A.frames=some outer:=by
  have:=I.ok.frames;cases h:A.frames with
  | none =>
   have z:(A.deeper (GP qual scope s.heap.objs.size f cd)).frames=none:=by
    first|(show (A.frames.map _)=none;rw [h];rfl)|simp [EB.deeper,EB.under,h]
   rw [show (bH (CXW P w) cm P w K mg base N qual scope f cd A outer s H E).A=A.deeper (GP qual scope s.heap.objs.size f cd) from rfl,z] at this;cases this
  | some l =>
   have z:=EB.frames_deeper (env:=GP qual scope s.heap.objs.size f cd) h;rw [show (bH (CXW P w) cm P w K mg base N qual scope f cd A outer s H E).A=A.deeper (GP qual scope s.heap.objs.size f cd) from rfl,z] at this;have:=E8.inj this;exact congrArg some (IR.inj this).2
 show Et (Ez P w) (A.deeper (GP qual scope s.heap.objs.size f cd)) (leaving (GP qual scope s.heap.objs.size f cd) (.ref ea)) _ _ s';refine wQ (L:=s.heap.objs.size) (EB.frames_deeper Z) rfl x λh' y u=>?_;have F:∀b o,b≠s.heap.objs.size->G.heap.get? b=some o->(IG G.heap [s.heap.objs.size]).get? b=some o:=λb o hb e=>hideAll_get _ e (by simpa using hb);have U:=I.base;have lt:∀b o,s.heap.get? b=some o->b≠s.heap.objs.size:=λb o e=>E7 (EM e);have J:∀b:Addr,b∉(bH (CXW P w) cm P w K mg base N qual scope f cd A outer s H E).ex:=λb z=>absurd (show b∈([]:List Addr) from z) 's';refine {ea,C,B,H',{ G with heap:=IG G.heap [s.heap.objs.size] },rfl,y,{λb o e n hb _=>F b o (lt b o e) (U.keep b o e n hb (J b)),λb o e n hb _=>?_,λb o e n _=>U.free b o e n (J b),λb o e _=>?_,U.tups,U.frzs,U.tbls},
  I.hok.but (C:=s.heap.objs.size) I.free F,I.os,I.bare,os.trans I.os,bare,λb o e hb=>?_,λb o e nf=>?_,q}
 .obtain ⟨S,z⟩:=U.slot b o e n hb (J b);exact {S,F b _ (lt b o e) z}
 .obtain ⟨o',z⟩:=U.there b o e (J b);exact {o',F b _ (lt b o e) z}
 .have e':=Hv _ e;refine hB b o e' λz=>?_;have z':b∈s.heap.objs.size::frs outer:=z;rcases EI.mp z' with r|r
  .rw [r] at e;have O:(IG G.heap [s.heap.objs.size]).get? s.heap.objs.size=none:=PySem.W.hideAll_none _ 's';exact absurd (O.symm.trans e) 's'
  .exact hb r
 .exact (up.trans u) b o (Hv _ e) nf
def XE(Ex:Addr->St->Hp->Prop)(σ:St):XK:=λc _ H'=>∃C,c = .ref C/\Ex C σ H'
def ic(sp:Sp)(Zp:List V)(Ex:Addr->St->Hp->Prop)(t:TA):TE:=λσ H Q=>t σ H λvs H1=>sp (vs++Zp) H1 Q (XE Ex σ)
def fJ(C:Addr)(m:Str)(sp:Sp)(Zp:List V)(Ex:Addr->St->Hp->Prop)(ta:TE)(t:TA):TE:=λσ H Q=>ta σ H λx H1=>∃a dx fs,x = .ref a/\H1 a=some (.ins C dx fs)/\fs.lookup m=none /\
 t σ H1 λvs H2=>sp (x::(vs++Zp)) H2 Q (XE Ex σ)
section
variable {X:Cx}{cm:Bool}{k:Nat}{f C:Addr}{fd:Ey}{ps:List Str}{sp:Sp}{Zp:List V}{ds:List Value}{Ex:Addr->St->Hp->Prop}{x m:Str}{p pos Z3:Pos}{e o:EN}{es:List EN}{ta:TE}{t:TA}
theorem ar.of(T:ar X Ex)(I:Inv X Ga σ H s)(h:CXW X.prog X.w X.stack H s (XE Ex σ) v s'):X.xe v s':=by
 obtain ⟨ea,C,B,H',J,rfl,y,un,hok,os,bare,F,n,O,G,S,ec,q⟩:=h;cases ec;exact T Ga σ H' J ea C B .none s' (I.LB os un hok bare λb z=>absurd z 's') y (F.trans os.symm) n O G q
theorem rN(T:ar X Ex)(F:zr X.prog X.w X.K X.mg X.base (CXW X.prog X.w) cm k f fd ps sp)(hr:zD cm k X.A)(hb:aP X.K fd ps ds)(hd:zo Zp ds)(I:Inv X Ga σ H s)(r:zo vs us)(h:sp (vs++Zp) H Q (XE Ex σ)):Et (Ez X.prog X.w) X.A (call (.ref f) us) (EP X Ga σ Q) X.xe s:=by
 have r2:zo (vs++Zp) (us++ds):=r.append hd;have G:(us++ds).length=ps.length:=by rw [<- r2.length];exact F.len _ _ _ _ h
 refine wpAny_call (HJ (F.run X.A X.stack s H {us,[]} (us++ds) (vs++Zp) Q (XE Ex σ) hr I.Ma (hb s us I.z4 G) r2 h) λr s' n=>?_);cases r with
 | error v=>exact T.of I n
 | ok fl =>
  cases fl with
  | ret u=>exact I.after n
  | next=>exact False.elim n
  | brk=>exact False.elim n
  | cont=>exact False.elim n
theorem A3(T:ar X Ex)(F:zr X.prog X.w X.K X.mg X.base (CXW X.prog X.w) cm k f fd ps sp)(hr:zD cm k X.A)(S:Gl X x)(hm:X.mg x=some (.ref f))(G:IE X.K (.ref f)=true)(hb:aP X.K fd ps ds)(hd:zo Zp ds)
  (ha:PA X (e::es) t) (J:(x==("__debug__":Str))=false:=by decide) (he:EH (e::es) X.env=(false,Fx e X.env)::EH es X.env:=by rfl) (O:(FZ pos (EH es X.env)).any (·.1)=false:=by rfl) :
  PE X (.Call (.Name x p) (e::es) [] pos) (ic sp Zp Ex t):=by
 intro Ga s σ H Q I h;refine F0 (cP I S hm ?_ J);refine callWith_K (h₀:=X.base) I.ok.mod.LY G (thn (ha pos Ga s σ H _ I h) λus s1=>x5e λvs H1 n r q=>{n.z4,?_}) he O;exact rN T F hr hb hd n r q
theorem yt(he:PE X o ta)(c:Cls X.K C)(hm:eY X.K C m f)(T:ar X Ex)(F:zr X.prog X.w X.K X.mg X.base (CXW X.prog X.w) cm k f fd ps sp)(hr:zD cm k X.A)(hb:aP X.K fd ps ds)(hd:zo Zp ds)(S:Fx (.Call (.Attribute o m Z3) [] [] pos) X.env=(do
   let J<-Fx o X.env
   Hy Z3.atName
   let (f,first)<-GJ [J] (Hw J m pl)
   Iw pos f first (FZ pos (EH [] X.env)) (Iy pos (Hb [] X.env))):=by rfl):
  PE X (.Call (.Attribute o m Z3) [] [] pos) (fJ C m sp Zp Ex ta bE):=by
 intro Ga s σ H Q I h;refine methodCall_KW (pl:=pl) (thn (he Ga s σ H _ I h) λu s1=>x5e λx H1 n O G=>?_) S;obtain ⟨a,dx,fs,ex,ea,l,q⟩:=G;subst ex;obtain rfl:u=Ew a:=O;refine ko n ea c hm l ?_;exact callWith_K0 (first:=[.ref a]) n.z4 hm.kp (rN (us:=[.ref a]) (vs:=[.ref a]) T F hr hb hd n (.cons rfl .nil) q)
end
theorem Fun.Mw{K:Ei}{st:Stmt}{k:Nat}(F:Fun K x qual st f fd)(S:zB N ps (zp st))(len:∀vs H Q E,sp vs H Q E->vs.length=ps.length)(O:∀(n:Value)(A:EB)(outer:List Env)(s:Eh)(H:Hp)(vs:List V)(Q:VK)(E:XK),zD cm k (A.deeper (GP qual (zp st) s.heap.objs.size f n))->sp vs H Q E ->
   ∃t,PSs (bH (CXW P w) cm P w K mg base N qual (zp st) f n A outer s H E) (dQ st) t/\t { nx:=λ_ H'=>Q .non H',rt:=Q } (start N vs) H):zr P w K mg base (CXW P w) cm (k+1) f fd ps sp:=by
 obtain ⟨Z,U,kV,W,pm,an,n,ct,J,rfl,lk,hcd⟩:=F.ex;exact rB lk hcd S len λA outer s H vs Q E hr G=>O n A outer s H vs Q E hr G
def bmV:List Value:=[.type "ValueError",.type "Exception",.type "BaseException",.type "object"]
def aR(K:Ei)(C:Addr):Prop:=excIn K C bmV "ValueError.__new__"=true
structure kH(h:Heap)(C:Addr)(mro:List Value):Prop where
 ex:∃bm N nm q bs hdct sn sub ab col dd k0 k1 k2 k3 k5 mN,mro = .ref C::bm/\h.get? C=some (excClassObj nm q C N bs bm hdct sn sub ab col dd k0 k1 k2 k3 k5 "ValueError.__new__")/\h.Ns N mN/\mN XJ=none/\OwnTail h bmV bm
theorem aR.obj{K:Ei}(x:aR K C)(X:K.In h):∃cd,clsIn K C=some cd/\kH h C cd.mro:=by
 unfold aR excIn at x;split at x
 .rename_i dd cd J look;have hc:clsIn K C=some cd:=by
   unfold clsIn;rw [look]
  refine {cd,hc,?_};split at x
  .rename_i C' bm k0 k1 k2 k3 n k5 em es;simp only [EJ,beq_iff_eq,Bool.not_eq_true'] at x;obtain ⟨⟨⟨⟨⟨c1,c2⟩,S⟩,c4⟩,F⟩,O⟩:=x;subst c1 c2;obtain ⟨a1,a2,a3,a4,a5,a6,a7,U,a9,G,Z⟩:=cd;dsimp only at em S F O ⊢;subst em S;obtain ⟨J⟩:=J;dsimp only at es;subst es;exact {bm,a4,a1,a5,a2,a6,a7,U,a9,G,dd,k0,k1,k2,k3,k5,_,rfl,X _ _ look,.of_isNs (PySem.W.isNs_of_in X F),PySem.W.nsMap_none_of_in X F O,PySem.W.tail_of_in X c4}
  .cases x
 .cases x
def fI(C:Addr)(Ex:Addr->St->Hp->Prop)(t:TA):TS:=λ_ σ H=>t σ H λvs H1=>vs.length<=sizeLine/\Ex C σ H1
theorem vW{t:TA}(hc:X.calm=true)(T:ar X Ex)(O:aR X.K C)(hg:Gl X x)(hm:X.mg x=some (.ref C))(ha:PA X (e::es) t)(Zv:(x==("__debug__":Str))=false:=by decide)(U:EH (e::es) X.env=(false,Fx e X.env)::EH es X.env:=by rfl)(Y1:(FZ cpos (EH es X.env)).any (·.1)=false:=by rfl):
  PS X (.Raise (some (.Call (.Name x np) (e::es) [] cpos)) none pos) (fI C Ex t):=by
 intro Ga s σ H D I h;obtain ⟨cd,_,⟨bm,N,nm,q,bs,hdct,sn,sub,ab,col,dd,k0,k1,k2,k3,k5,mN,em,hC,hN,G,S⟩⟩:=O.obj I.ok.mod.LY;refine wpAny_Raise_call_subT (C:=C) (nm:=nm) (q:=q) (N:=N) (bs:=bs) (bm:=bm) (hdct:=hdct) (sn:=sn) (sub:=sub) (ab:=ab) (col:=col) (dd:=dd) (k0:=k0) (k1:=k1) (k2:=k2) (k3:=k3) (k5:=k5) (mN:=mN) Ia (S.hasType 'd') (I.ok.hd hc)
  (by rw [U];show (false||(FZ cpos (EH es X.env)).any (·.1))=false;rw [Y1];rfl) G (cP I hg hm {rfl,?_} Zv)
 have Z:=ha cpos Ga s σ H _ I h;rw [U] at Z ⊢;refine Calls.evalArgs_plain (thn Z λus s2=>x5e λvs H2 n r2=>x2e λhz q2=>{rfl,by rw [<- r2.length];exact hz,n.bk _ _ hC,hN.keeps n.bk,S.keeps n.bk,λh' ea F=>?_});obtain ⟨tt,he,ag,_⟩:=F.there;have J:∀env∈X.stack,∀a,env.frame=some a->a∈frs X.stack:=λenv hm a ha=>G7.mpr ⟨env,hm,ha⟩;refine T Ga σ H2 s2 ea C (IG s2.heap (frs X.stack)) .none { s2 with heap:=h' } n {λb o e=>F.keeps b o (Hv _ e),?_,?_,?_} rfl n.bare (λb o e hb=>hideAll_get _ e hb) (λb o e _=>{o.slots,F.keeps b o e}) q2
 .cases z:(IG s2.heap (frs X.stack)).get? ea with
  | none=>rfl
  | some o =>
   have:=Hv _ z;rw [F.new] at this;cases this
 .exact (PySem.W.funFrames_hide n.stack J).of_keeps λb o e _=>{o,F.keeps b o e,rfl}
 .exact {_,_,he,rfl,rfl,rfl,'s',{_,rfl,.inl rfl},.inl rfl}
section
variable {M:Model}{A:EB}{E:Value->Eh->Prop}
theorem tO{t:Nat}{os:OsState}{S mD:List Value}(OC:kH h C S)(Z:kH h D mD)(he:h.get? e=some oe)(n:oe.cls = .ref C)(Yh:S.contains (.ref D)=true)(hq:Q true ⟨h,g,d,t,os⟩):Et M A (excMatches (.ref e) (.ref D)) Q E ⟨h,g,d,t,os⟩:=by
 obtain ⟨bm,N,nm,q,bs,hdct,sn,sub,ab,col,dd,k0,k1,k2,k3,k5,mN,rfl,hC,_,_,TC⟩:=OC;obtain ⟨G,N',ax,q',av,F,aI,U,ag,O,ak,j0,j1,j2,j3,j5,W,rfl,J,_,_,TD⟩:=Z;have b1:(Ew D::G).contains (.type "BaseException")=true:=by
  rw [List.contains_cons,TD.hasType (X:="BaseException") (b:=true) 'd',Bool.or_true]
 have b2:=tc_notTuple;unfold excMatches
 repeat (first|(with_reducible refine Hi he ?_;rw [n])|with_reducible refine Hi J ?_|(with_reducible refine HF J ?_;rw [b1])|(with_reducible refine HF hC ?_;rw [Yh])|wp_step)
 exact hq
end
theorem zX.ex{o:HO}(x:zX P w H h a o):∃ob,h.get? a=some ob:=by
 cases o with
 | lst xs=>obtain ⟨_,_,_,_,e⟩:=x;exact {_,e}
 | tup xs=>obtain ⟨_,_,_,o,e,_⟩:=x;exact {_,e}
 | dK kvs=>obtain ⟨_,_,_,_,o,_,_,e,_⟩:=x;exact {_,e}
 | dT kvs=>obtain ⟨_,_,_,_,o,_,_,e,_⟩:=x;exact {_,e}
 | set S n=>obtain ⟨o,_,_,_,e,_⟩:=x;exact {_,e}
 | ins C dx fs=>obtain ⟨_,_,_,e,_⟩:=x;exact {_,e}
 | own y=>exact x
 | xd fs=>obtain ⟨_,⟨_,_,_,e,_⟩,_⟩:=x;exact {_,e}
 | rng lo hi=>obtain ⟨_,_,_,e⟩:=x;exact {_,e}
 | frz ob u=>exact {_,x.1}
 | tbl ps=>exact {_,x}
 | met f y=>exact {_,x}
 | ext F=>exact x.2.1
abbrev cxP(X:Cx)(Ga:List (Addr×Obj)):Cx:={ X with pn:=X.pn++Ga }
theorem Cx.Ok.p(ok:X.Ok)(Ga:List (Addr×Obj)):(cxP X Ga).Ok :=
 ⟨ok.mod,ok.kind,ok.glob,ok.blt,ok.above,ok.inj,ok.has,ok.Mb,ok.hd,ok.frames,ok.Me,ok.Mp,ok.bs,ok.LI,ok.KU,ok.Li,ok.Jf,ok.LQ⟩
theorem Inv.p(I:Inv X Ga σ H s):Inv (cxP X Ga) [] σ H s :=
 {I.ok.p Ga,I.os,I.bare,I.base,I.loc,I.cell,I.free,I.ti,λp hp=>I.pin p (by have h:p∈(X.pn++Ga)++[]:=hp;simpa using h),I.hok,I.len,I.hdk}
theorem Inv.LV(ok:X.Ok)(I:Inv (cxP X Ga) [] σ H s):Inv X Ga σ H s :=
 {ok,I.os,I.bare,I.base,I.loc,I.cell,I.free,I.ti,λp hp=>I.pin p (by show p∈(X.pn++Ga)++[];simpa using hp),I.hok,I.len,I.hdk}
abbrev i4(X:Cx)(Ga:List (Addr×Obj))(Ex:Addr->St->Hp->Prop):Cx:=(cxP X Ga).IT λe s'=>∃(ea C:Addr)(B:Heap)(H':Hp)(fl:Value)(σ:St)(n:Eh),e = .ref ea/\Inv (cxP X Ga) [] σ H' n/\aw H' B X.stack ea (.ref C) fl s'.heap /\
 s'.os=n.os/\GN s'.gens/\(∀b o,n.heap.get? b=some o->b∉frs X.stack->B.get? b=some o)/\n.heap.UpToSlots s'.heap/\Ex C σ H'
theorem mH:ar (i4 X Ga Ex) Ex:=λps σ H n ea C B fl s' I y os bare F G q =>
 {ea,C,B,H,fl,σ,n,rfl,(I.nT.vx λp hp=>(nomatch hp)),y,os,bare,F,G,q}
abbrev dy(X:Cx)(Ga:List (Addr×Obj))(ea:Addr):Cx:={ X with pn:=X.pn++Ga,A:=X.A.mark (some (.ref ea)),calm:=false,xe:=λ_ _=>False }
def eI(C:Addr)(o:Obj):Prop:=o.cls = .ref C/\o.dict=none/\∃vs,o.data = .fields vs
theorem h9(ag:X.ex=[])(I:Inv (cxP X Ga) [] σ H J)(y:aw H B X.stack ea (.ref C) fl s'.heap)(os:s'.os=J.os)(bare:GN s'.gens)(hB:∀b o,J.heap.get? b=some o->b∉frs X.stack->B.get? b=some o)(up:J.heap.UpToSlots s'.heap):
  H ea=none/\∃oe,eI C oe/\s'.heap.get? ea=some oe/\Inv (dy X Ga ea) [] σ (upd H ea (.frz oe (.own 0))) s':=by
 obtain ⟨st,hn,hl,oe,vs,he,hc,YT,hd,hz,h2,h1⟩:=y;have W:ea∉frs X.stack:=λz=>by
  obtain ⟨_,o,ho,nf⟩:=hl.mem z;rw [he] at ho;cases ho;exact nf vs hd
 have new:J.heap.get? ea=none:=by
  cases q:J.heap.get? ea with
  | none=>rfl
  | some o =>
   have:=hB _ o q W;rw [hn] at this;cases this
 have O:H ea=none:=by
  cases q:H ea with
  | none=>rfl
  | some u =>
   obtain ⟨ob,z⟩:=(I.hok ea u q).ex;rw [new] at z;cases z
 have keep:∀b o,J.heap.get? b=some o->b∉frs X.stack->s'.heap.get? b=some o:=λb o e hb=>st b o (hB b o e hb);have slot:∀b o,J.heap.get? b=some o->b∈frs X.stack->∃sl,s'.heap.get? b=some { o with slots:=sl }:=λb o e hb=>by
  obtain ⟨_,o',S,nf⟩:=I.stack.mem (show b∈(cxP X Ga).stack.filterMap (·.frame) from hb);rw [e] at S;cases S;exact up b o e nf
 have F:Inv (cxP X Ga) [] σ H s':=I.LB (ch:=[]) os {λb o e _ hb _=>keep b o e hb,λb o e _ hb _=>slot b o e hb,λ_ _ _ n _=>n,λb o e _=>?_,λ_ _ e=>e,λ_ _ _ e=>e,λb ps e=>{#[],by rw [e];simp}}
  (λb u e=>(I.hok b u e).KP (λc v hc q=>keep c v q λz=>?_) (λ_ q=>q) λ_ _ q=>q) bare λb z=>absurd z 's'
 .have U:ea≠X.env.locals:=λz=>by
   obtain ⟨m,⟨o,es,ep,ho,G,_⟩,_⟩:=F.loc;have S:s'.heap.get? ea=some o:=by rw [z];exact ho
   rw [he] at S;cases S;rw [hd] at G;cases G
  refine {O,oe,⟨hc,YT,vs,hd⟩,he,{{F.ok.mod,F.ok.kind,F.ok.glob,F.ok.blt,F.ok.above,F.ok.inj,F.ok.has,F.ok.Mb,λz=>(nomatch z),F.ok.frames,F.ok.Me,F.ok.Mp,F.ok.bs,F.ok.LI,F.ok.KU,F.ok.Li,F.ok.Jf,F.ok.LQ},F.os,F.bare,
   {F.base.keep,F.base.slot,λb o e n hx=>?_,F.base.there,λb xs e=>?_,λb o u e=>?_,λb ps e=>?_},F.loc,F.cell,?_,λx c e=>?_,λp hp=>?_,F.hok.add O ⟨he,oe,he⟩,F.len,.inr ?_}}
  .obtain ⟨o',z⟩:=I.base.there b o e hx;rw [zm (λw=>by rw [w,new] at z;cases z)];exact F.base.free b o e n hx
  .have z:=F.base.tups b xs e;rw [zm (z7 z O)];exact z
  .have z:=F.base.frzs b o u e;rw [zm (z7 z O)];exact z
  .obtain ⟨more,z⟩:=F.base.tbls b ps e;exact {more,by rw [zm (z7 z O)];exact z}
  .rw [zm (Fi U)];exact F.free
  .have nc:c≠ea:=λw=>by
    obtain ⟨v,o,ho,G⟩:=F.cell x c e;rw [w,he] at ho;cases ho;rw [hd] at G;cases G
   rw [zm nc];exact F.ti x c e
  .obtain ⟨a,b,c,d,f⟩:=F.pin p hp;refine {a,?_,c,d,f};rw [zm λw=>?_]
   .exact b
   .have:=(I.pin p hp).1;rw [w,new] at this;cases this
  .obtain ⟨cv,q1,rfl|⟨b,k,rfl,ch⟩⟩:=h2
   .exact {ea,0,rfl,.one zG hd q1 hc}
   .exact {ea,k+1,rfl,.more zG hd q1 hc (ch.same λc o e=>by rw [zm (z7 e O)];exact e)}
 .by_cases hb:b∈frs X.stack
  .obtain ⟨sl,z⟩:=slot b o e hb;exact {_,z}
  .exact {o,keep b o e hb}
 .have Z:H c=none:=I.J7 c z;rcases hc with w|w
  .rw [w] at Z;rw [Z] at e;cases e
  .rw [Z] at w;cases w
theorem Inv.LK(I:Inv X Ga σ H s)(hN:X.N.Nodup)(hi:X.N[i]?=some n)(hm:s.heap.Ns X.env.locals m/\∀(i:Nat)(x:Str)(v:V),X.N[i]?=some x->σ[i]?=some (some v)->Vis X.env.scope x->∃u,zh v u/\nA X.env s.heap m x u)(U:h'.Ns X.env.locals (λx=>if x=n then v else m x))(hs:HB X.env.locals s.heap h'):Inv X Ga (σ.set i none) H { s with heap:=h',toks:=tk }:=by
 obtain ⟨oL,_,_,ag,_⟩:=id hm.1;have J:i<σ.length:=by rw [I.len];exact (ED.mp hi).1
 have F:∀b o,X.s₀.heap.get? b=some o->b≠X.env.locals:=λb o e=>E7 (EO (EM e) I.ok.above);refine {I.ok,I.os,I.bare,{λb o e n hb G=>(hs.2 b (F b o e)).trans (I.base.keep b o e n hb G),λb o e n hb G=>?_,I.base.free,λb o e G=>?_,I.base.tups,I.base.frzs,I.base.tbls},{_,U,λj y w W O e3=>?_},λy c e=>?_,I.free,I.ti,λp hp=>?_,
  I.hok.but I.free λb u hb e=>(hs.2 b hb).trans e,by simpa using I.len,I.hdk}
 .obtain ⟨Z,z⟩:=I.base.slot b o e n hb G;exact {Z,(hs.2 b (F b o e)).trans z}
 .obtain ⟨o',z⟩:=I.base.there b o e G;exact {o',(hs.2 b (F b o e)).trans z}
 .by_cases S:j=i
  .subst S;rw [Hr J] at O;cases O
  .rw [HE (Fi S)] at O;obtain ⟨u,r,l⟩:=hm.2 j y w W O e3;refine {u,r,?_};have hy:y≠n:=λq=>S (kK hN W (q ▸ hi));rcases l with ⟨k1,k2⟩|⟨k1,c,e,z⟩
   .exact .inl {k1,by simp [hy,k2]}
   .exact .inr {k1,c,e,z.sameBut hs (I.cne y c e)}
 .obtain ⟨w,z⟩:=I.cell y c e;exact {w,z.sameBut hs (I.cne y c e)}
 .obtain ⟨a,b,c,d,f⟩:=I.pin p hp;exact {(hs.2 p.1 c).trans a,b,c,d,f}
theorem Inv.LJ(ok:X.Ok)(n:X.A.handled=none)(I:Inv (dy X Ga ea) [] σ H s):Inv X Ga σ H s :=
 {ok,I.os,I.bare,I.base,I.loc,I.cell,I.free,I.ti,λp hp=>I.pin p (by show p∈(X.pn++Ga)++[];simpa using hp),I.hok,I.len,.inl n}
def qi(K:Ei)(i:Nat)(D:Addr)(tb:(Addr->St->Hp->Prop)->TS)(G:TS):TS:=λZ σ H =>
 tb (λC F H'=>aR K C/\G0 K C (.ref D)=some true/\∀ea oe,H' ea=none->eI C oe ->
  G { nx:=λn H2=>Z.nx (n.set i none) H2,rt:=Z.rt,bk:=λn H2=>Z.bk (n.set i none) H2,ct:=λn H2=>Z.ct (n.set i none) H2 } (F.set i (some (.ref ea))) (upd H' ea (.frz oe (.own 0)))) Z σ H
theorem v3(hc:X.calm=true)(aI:X.ex=[])(Y6:X.stack=X.env::X.outer/\X.env.frame=some X.env.locals)(hN:X.N.Nodup)(hi:X.N[i]?=some n)(ag:X.env.scope.names.lookup n=some .local)(OD:aR X.K D)(hg:Gl X x)(hm:X.mg x=some (.ref D))(hb:∀Ga Ex,W (PSs (i4 X Ga Ex) Zn (tb Ex)))(hs:∀Ga ea,W (PSs (dy X Ga ea) (U::Y2) ts))(Zv:(x==("__debug__":Str))=false:=by decide):W (PS X (.Try Zn [.ExceptHandler (some (.Name x np)) (some n) (U::Y2) Yr] [] [] pos) (qi X.K i D tb ts)):=by
 refine {?_};have hb:=λz0 z1=>(hb z0 z1).h;have hs:=λz0 z1=>(hs z0 z1).h;intro Ga s σ H Z I h;have hh:X.A.handled=none:=I.ok.hd hc;have hp:(X.env.scope.kind == .class||(X.env.scope.kind == .module&&X.env.locals != X.env.globals))=false:=by rw [I.ok.kind];rfl
 refine wpAny_Try_except (Fe (hb Ga _ [] s σ H Z (I.p.IT _) h) (λf s1 q=>?_) λe s1 q=>?_)
 .cases f with
  | next =>
   obtain ⟨F,H',J,q⟩:=q;exact GA {F,H',Inv.LV I.ok J.nT,q}
  | brk=>obtain ⟨F,H',J,q⟩:=q;exact {F,H',Inv.LV I.ok J.nT,q}
  | cont=>obtain ⟨F,H',J,q⟩:=q;exact {F,H',Inv.LV I.ok J.nT,q}
  | ret u=>obtain ⟨v,F,H',J,r,q⟩:=q;exact {v,F,H',Inv.LV I.ok J.nT,r,q}
 .obtain ⟨ea,C,B,H',fl,F,sI,rfl,J,y,os,bare,hB,up,OC,sub,ak⟩:=q;have fr:X.A.frames=some (X.env::X.outer):=by rw [I.ok.frames,Y6.1]
  rw [Y6.1] at y;refine lK fr Y6.2 y λh2 y2 u2=>gK (s:={ s1 with heap:=h2 }) y2 λh3 y3 u3=>?_;have a5:aw H' B X.stack ea (.ref C) .none h3:=by rw [Y6.1];exact y3
  have ax:=(up.trans u2).trans u3;obtain ⟨_,ba,c3,g3,J3⟩:=h9 (s':={ s1 with heap:=h3 }) aI J a5 os bare hB ax;obtain ⟨a8,cC,eC⟩:=OC.obj J3.z4;obtain ⟨a9,cD,eD⟩:=OD.obj J3.z4;have Yh:a8.mro.contains (.ref D)=true:=by
   unfold G0 at sub;rw [cC] at sub;simp only [IC] at sub;split at sub
   .cases sub
   .exact E8.inj sub
  refine wpAny_handleBy_cons (codeAny_handlers_test (cP (X:=dy X Ga ea) J3 hg hm ?_ Zv)) (by intro q;cases q);refine tO (h:=h3) (g:=s1.gens) (d:=s1.drawn) (t:=s1.toks) (os:=s1.os) eC eD g3 c3.1 Yh ?_;refine codeAny_handlers_suite_as ?_;refine gK (s:={ s1 with heap:=h3 }) y3 λh4 y4 u4=>?_;have a0:aw H' B X.stack ea (.ref C) .none h4:=by rw [Y6.1];exact y4
  obtain ⟨a7,a6,c4,g4,J4⟩:=h9 (s':={ s1 with heap:=h4 }) aI J a0 os bare hB (ax.trans u4);refine fC (X:=dy X Ga ea) (i:=i) (v:=.ref ea) J4 hN hi (.inl ag) rfl (λs5 J5=>?_) (.inr ag);refine Fe (hs Ga ea [] s5 _ _ _ J5 (ak ea a6 a7 c4)) (λf s6 q6=>?_) λ_ _ z=>z.elim;have go:∀{G:St}{H7:Hp},Inv (dy X Ga ea) [] G H7 s6->(∀S,Inv X Ga (G.set i none) H7 S->SP X Ga Z f S) ->
    Et (Ez X.prog X.w) X.A (do bindName X.env n .none;unbindBehindTheSuite X.env n Yr) (λ_ S=>SP X Ga Z f S) X.xe s6:=λ{G H7} O k=>by
   have J8:=Inv.LJ I.ok hh O;obtain ⟨m,av,hl⟩:=id J8.loc;exact wpAny_nameGoes_keeps ag av hp λh' v a3 a4=>k _ (J8.LK hN hi ⟨av,hl⟩ a3 a4)
  cases f with
  | next=>obtain ⟨G,H7,O,q7⟩:=q6;exact go O λS I7=>{_,_,I7,q7}
  | brk=>obtain ⟨G,H7,O,q7⟩:=q6;exact go O λS I7=>{_,_,I7,q7}
  | cont=>obtain ⟨G,H7,O,q7⟩:=q6;exact go O λS I7=>{_,_,I7,q7}
  | ret u=>obtain ⟨v,G,H7,O,r7,q7⟩:=q6;exact go O λS I7=>{v,_,_,I7,r7,q7}
end L2
namespace L2
open PySem PySem.Spec PyProof.Rows PySem.W
section
variable {prog:Eo}{w:EG}{A:EB}{E:Value->Eh->Prop}{K:Frag}{h:Heap}{g:Array GenState}{d:Drawn}{t:Nat}{os:OsState}{e C:Addr}{oe:Obj}
theorem vD(X:K.In h)(I:InstAt h e oe C none)(J:findIn K (.ref C) "__class__"=some (some (.builtin "object.__class__")))(hm:mroIn K C (.type "object")=some true)(O:Q (.done (.ret (.ref C))) ⟨h,g,d,t,os⟩):Et (Ez prog w) A (EE.«object.__getattribute__» {[.ref e,.str "__class__" tk],[]}) Q E ⟨h,g,d,t,os⟩:=by
 have n:=I.type (M:=Ez prog w);have G:=looks_findIn (M:=Ez prog w) X J;have W:=F.typeOf_object_class;have U:=F.slot_gs_get.lookup;have S:=F.slot_gs_set.lookup
 repeat (any_goals (first|assumption|with_reducible refine n.at ?_|with_reducible refine G.at ?_|wp_step))
 exact class_get (s:=⟨h,g,d,t,os⟩) X I hm (Ej O)
theorem Br(X:K.In h)(I:InstAt h e oe C none)(hb:mroIn K C (.type "BaseException")=some true)(S:Q () ⟨h,g,d,t,os⟩):
  Et (Ez prog w) A (checkBuiltinCall "BaseException.__getattribute__" {[.ref e,n],[]}) Q E ⟨h,g,d,t,os⟩:=by
 have O:=I.type (M:=Ez prog w);have G:=looks_mroIn (M:=Ez prog w) X hb;have c1:builtinKind "BaseException.__getattribute__"=some .slot:=by decide +kernel
 have J:splitId "BaseException.__getattribute__"=some ("BaseException","__getattribute__"):=by decide +kernel
 have U:=F.args_bexc_ga (.ref e) n;simp only [checkBuiltinCall,c1,J];refine we ?_;unfold isInstance
 repeat (first|with_reducible refine O.at ?_|with_reducible refine G.at ?_|wp_step)
 exact S
theorem yG(X:K.In h)(I:InstAt h e oe C none)(U:findIn K (.ref C) "__getattribute__"=some (some (.builtin "BaseException.__getattribute__")))(G:findIn K (.ref C) "__getattr__"=some none)(O:findIn K (.ref C) "__class__"=some (some (.builtin "object.__class__")))(hm:mroIn K C (.type "object")=some true)(hb:mroIn K C (.type "BaseException")=some true)(hq:Q (some (.ref C)) {h,g,d,t+1,os}):
  Et (Ez prog w) A (getAttr? (.ref e) "__class__") Q E ⟨h,g,d,t,os⟩:=by
 have n:=I.type (M:=Ez prog w);have J:=looks_findIn (M:=Ez prog w) X U;have L2:=looks_findIn (M:=Ez prog w) X G;have W:=IA.ga.bind (.ref e);have S:(builtin "BaseException.__getattribute__" == builtin "object.__getattribute__")=false:=by decide +kernel
 have Z:(onTheHeap (Ew C)&&builtin "BaseException.__getattribute__" == builtin "object.__getattribute__")=false:=by rw [S];rfl
 have x0:(false&&onTheHeap (builtin "BaseException.__getattribute__"))=false:=rfl;unfold getAttr? getAttrBy?;refine we (wpAny_mkText (we (wpAny_attempt ?_)))
 repeat (any_goals (first|assumption|with_reducible refine n.at ?_|with_reducible refine J.at ?_|with_reducible refine L2.at ?_|wp_step))
 refine codeAny_call_builtin IA.ga.plain F.entry_bexc_ga (Br X I hb (vD X I O hm ?_))
 repeat (any_goals (first|assumption|wp_step))
structure gM(K:Frag)(C:Addr):Prop where
 err:aR K C
 ga:findIn K (.ref C) "__getattribute__"=some (some (.builtin "BaseException.__getattribute__"))
 gr:findIn K (.ref C) "__getattr__"=some none
 cl:findIn K (.ref C) "__class__"=some (some (.builtin "object.__class__"))
 ob:mroIn K C (.type "object")=some true
 ba:mroIn K C (.type "BaseException")=some true
theorem Aa(O:gM K C):KitX K (.ref e) (.ref C) (λh=>InstAt h e oe C none) where
 ty:=λ_ _ _ I=>I.type
 it:=λM h X I=>by
  obtain ⟨cd,_,⟨bm,N,nm,q,bs,hdct,sn,sub,ab,col,dd,k0,k1,k2,k3,k5,mN,_,F,_⟩⟩:=O.err.obj X;intro A' U E' s' k J;unfold isType loadHead;exact we (wpAny_loadPart (k _ _ F) (Ej J))
 ne:=λh tp dd S n W X G=>by
  obtain ⟨cd,_,⟨bm,N,nm,q,bs,hdct,sn,sub,ab,col,Z,k0,k1,k2,k3,k5,mN,_,F,_⟩⟩:=O.err.obj X;refine E9.mpr λz=>?_;have ec:C=tp:=Ew.inj (beq_iff_eq.mp z);subst ec;have wd:=congrArg Obj.data (E8.inj (F.symm.trans G));cases wd
 ca:=λ{prog w A E Q s} X I k=>by
  obtain ⟨h,g,d,t,os⟩:=s;exact yG X I O.ga O.gr O.cl O.ob O.ba k
end
def nE:V->Option Value
 | .ref a=>some (.ref a)
 | .ty n=>some (.type n)
 | _=>none
inductive TyX(K:Frag)(H:Hp):V->Value->Prop where
 | of {x:V}{t:Value} (h:bI K H x t):TyX K H x t
 | exc {a C:Addr}{o:Obj} (e:H a=some (.frz o (.own 0))) (ho:eI C o) (O:gM K C):TyX K H (.ref a) (.ref C)
def gh(K:Frag):List V->Hp->VK->Prop:=λxs H Q=>∃x c t u b,xs=[x,c]/\nE c=some u/\TyX K H x t/\kitOne K t u=some b/\Q (.bl b) H
theorem fS:zM X (.builtin "isinstance") (gh X.K):=by
 intro Ga s σ H xs us Q I r h;obtain ⟨x,c,t,u,b,rfl,hc,ty,G,q⟩:=h;cases r with
 | cons r1 F =>
  cases F with
  | cons r2 F =>
   cases F;rename_i U S;have Z:S=u:=by
    cases c with
    | ref a=>cases hc;exact r2
    | ty n=>cases hc;exact r2
    | _=>cases hc
   subst Z;cases ty with
   | of ty=>exact Bd I r1 ty G λtk=>{.bl b,H,I.tok tk,rfl,q}
   | exc e ho O =>
    rename_i a C o;obtain rfl:U=Ew a:=r1;obtain ⟨z,_⟩:=I.hok a _ e;obtain ⟨c1,W,vs,c3⟩:=ho;have J:InstAt s.heap a o C none:={z,c1,by unfold notCls;rw [c3],by rw [W];trivial};exact kia_one (Aa O) I.z4 J G (λw=>nomatch w) λtk=>{.bl b,H,I.tok tk,rfl,q}
end L2
namespace L2
open PySem PySem.Spec PyProof.Rows
inductive aJ(h:Heap):Nat->Addr->Prop
 | one {a:Addr}{o:Obj}{vs:Array Value}{C:Addr} (g:h.get? a=some o) (d:o.data = .fields vs) (n:vs[2]?=some .none) (c:o.cls = .ref C):aJ h 0 a
 | more {k:Nat}{a b:Addr}{o:Obj}{vs:Array Value}{C:Addr} (g:h.get? a=some o) (d:o.data = .fields vs) (n:vs[2]?=some (.ref b)) (c:o.cls = .ref C) (t:aJ h k b):aJ h (k+1) a
theorem aJ.keeps{k:Nat}(x:aJ h k a)(f:∀b o,(∃C,o.cls = .ref C)->h.get? b=some o->h'.get? b=some o):aJ h' k a:=by
 induction x with
 | one g d n c=>exact .one (f _ _ {_,c} g) d n c
 | more g d n c _ F=>exact .more (f _ _ {_,c} g) d n c F
theorem aJ.uniq{k:Nat}(x:aJ h k a):∀{m:Nat},aJ h m a->k=m:=by
 induction x with
 | one g d n c =>
  intro m y;cases y with
  | one=>rfl
  | more g' d' F _ _ =>
   rw [g] at g';cases g';rw [d] at d';cases d';rw [n] at F;cases F
 | more g d n c t G =>
  intro m y;cases y with
  | one g' d' F _ =>
   rw [g] at g';cases g';rw [d] at d';cases d';rw [n] at F;cases F
  | more g' d' F _ t' =>
   rw [g] at g';cases g';rw [d] at d';cases d';rw [n] at F;cases F;rw [G t']
theorem aJ.cls{k:Nat}(x:aJ h k a):∃o C,h.get? a=some o/\o.cls = .ref C:=by
 cases x with
 | one g d n c=>exact {_,_,g,c}
 | more g d n c _=>exact {_,_,g,c}
def Hnd(A:EB)(h:Heap):Prop:=A.handled=none\/∃(a:Addr)(k:Nat),A.handled=some (.ref a)/\aJ h k a
theorem Chn.heap{k:Nat}(x:Chn H k a)(ok:HOk P w H h):aJ h k a:=by
 induction x with
 | one g d n c=>exact .one (ok _ _ g).1 d n c
 | more g d n c _ F=>exact .more (ok _ _ g).1 d n c F
theorem Inv.Mu(I:Inv X Ga σ H s):Hnd X.A s.heap:=by
 rcases I.hdk with h|⟨a,k,h1,h2⟩
 .exact .inl h
 .exact .inr {a,k,h1,h2.heap I.hok}
theorem Hnd.keeps(x:Hnd A h)(k:∀b o,(∃C,o.cls = .ref C)->h.get? b=some o->h'.get? b=some o):Hnd A h':=by
 rcases x with x|⟨a,n,h1,h2⟩
 .exact .inl x
 .exact .inr {a,n,h1,h2.keeps k}
theorem tY:entryFor table "proto.unchain"=some EE.«proto.unchain»:=entryFor_of_tree (by kernel_rfl)
section
variable {prog:Eo}{w:EG}{A:EB}{E:Value->Eh->Prop}{s:Eh}
theorem sA(kp:∀b o,(∃C,o.cls = .ref C)->G.get? b=some o->s.heap.get? b=some o)(ne:∀n b,aJ G n b->b≠e){k:Nat}:∀{o slow:Addr}{m:Nat}{F:Bool}{R:Result->Eh->Prop},aJ G k o->aJ G m slow->k<=m->R (.ok (.ret .none)) s ->
  GL (Ez prog w) A (.builtin "proto.unchain" {[.ref e,.ref o,.ref slow,.bool F],[]}) R s:=by
 induction k with
 | zero =>
  intro o slow m F R x y _ q;cases x with
  | one g d n c =>
   refine GE tY ?_;refine we (m:=field (.ref o) 2) (Fh (kp _ _ {_,c} g) d n ?_);rw [if_pos (show (E6==E6)=true by rfl)];exact Ej q
 | succ k J =>
  intro o slow m F R x y le q;cases x with
  | more g d n c t =>
   rename_i b _ _ _;have U:b≠e:=ne _ _ t;have bs:b≠slow:=λz=>by subst z;have:=t.uniq y;lia
   refine GE tY ?_;refine we (m:=field (.ref o) 2) (Fh (kp _ _ {_,c} g) d n ?_);rw [if_neg (show ¬ ((Ew b==E6)=true) by simp)];rw [if_neg (show ¬ ((Ew b==Ew e)=true) by simpa using U),if_neg (show ¬ ((Ew b==Ew slow)=true) by simpa using bs)];cases F with
   | false=>exact we (Ej (Ej {Gq (f!"") _,J t y 'l' q}))
   | true =>
    cases y with
    | one=>lia
    | more g' d' S O t'=>exact we (m:=field (.ref slow) 2) (Fh (kp _ _ {_,O} g') d' S (Ej {Gq (f!"") _,J t t' 'l' q}))
theorem yk{α:Type}{Q:α->Eh->Prop}(F:Hnd A s.heap)(he:s.heap.get? e=some oe)(hd:oe.data = .fields ws)(G:2<ws.size)(hc:∀C,oe.cls≠.ref C)(k:∀h',HB e s.heap h'->(∃o,h'.get? e=some o/\o.cls=oe.cls)->E (.ref e) { s with heap:=h' }):Et (Ez prog w) A (raiseNew (.ref e):Sem α) Q E s:=by
 unfold raiseNew;refine we (wpAny_handled ?_);rcases F with F|⟨a,n,h1,h2⟩
 .rw [F];exact we (Ej (wpAny_throw (k s.heap (HB.refl _ _) {oe,he,rfl})))
 .rw [h1];have ne:∀n b,aJ s.heap n b->b≠e:=λn b x z=>by
   obtain ⟨o,C,g,c⟩:=x.cls;rw [z,he] at g;cases g;exact hc C c
  dsimp only;rw [if_pos (show (Ew a != Ew e)=true by simpa using ne _ _ h2)];refine we (E1 (wpAny_runValue (sA (λ_ _ _ q=>q) ne h2 h2 (EF _) ?_)));refine we ?_;show Et _ _ (setField (.ref e) 2 (.ref a)) _ _ _;have dd:=Gz hd (·.setIfInBounds 2 (Ew a));exact FV he hd G (wpAny_throw (k _ (HB.update ..) {_,FA _ he (FM dd),Ii _ _}))
theorem ua{α:Type}{Q:α->Eh->Prop}(J:Hnd A s.heap)(k:∀h' e,(∀b o,s.heap.get? b=some o->h'.get? b=some o)->(∃o,h'.get? e=some o/\o.cls = .type "StopIteration")->E (.ref e) { s with heap:=h' }) :
  Et (Ez prog w) A (newExc (.type "StopIteration") []>>=λe=>(raiseNew e:Sem α)) Q E s:=by
 refine we ?_;simp only [newExc,newTuple];refine we (Fo (we (m:=firstArgMember _ _) (wpAny_of_eq (a:=E6) (by first|rfl|(simp only [firstArgMember];rfl)) (Fo ?_ (by size_fits)))) (by size_fits));have old:∀(n F:Obj) b o,s.heap.get? b=some o->((s.heap.push n).push F).get? b=some o:=λn F b o q=>El _ (El _ q);refine yk (J.keeps λb o _ q=>old _ _ b o q) (EW _ rfl) rfl (by simp;lia) (λC z=>by cases z) λh' G=>x3e λo g c=>k h' _ (λb o q=>?_) ⟨o,g,c⟩;refine (G.2 b (λz=>?_)).trans (old _ _ b o q);have:=EM q;rw [z,Iq] at this;exact absurd (Fc this) (Fb _)
theorem AB{it t:Addr}(hh:Hnd A s.heap)(n:s.heap.IsTupleIter it t i)(U:s.heap.IsTuple t items)(Z:items[i]?=none)(k:∀h',ExtBut it s.heap h'->Q none { s with heap:=h' }):Et (Ez prog w) A (Il (.ref it)) Q E s:=by
 obtain ⟨o,ho,hc,hd⟩:=id n;obtain ⟨ol,J,_,nl,G⟩:=U;unfold Il;refine we (wpAny_attempt (G8 (name:=Es "__next__") n.typeIs F.slot_tuple_iterator_next (Gs F.slot_tuple_iterator_next n.typeIs F.entry_tuple_iterator_next ?_ (F.args_tuple_iterator_next_1 _))));refine we (m:=field (.ref it) 0) (Fh ho hd (x:=.ref t) rfl ?_);rw [if_neg (show ¬ ((Ew t==E6)=true) by simp)];refine we (m:=field (.ref it) 1) (Fh ho hd (x:=.int i 0) rfl (we (m:=seqItems? (.ref t)) (HS J G ?_)));simp only [GG,Z];refine we (Hu (we (FV ho hd 's' ?_)));refine ua (hh.keeps λb q S e=>(E3 _ _ λz=>?_).trans e) λh' e up=>x3e λo' g' W =>
  we (wpAny_isInstance (T:="StopIteration") (b:=true) ⟨o',g',W⟩ isSubtype_stop (Ej (k h' λb q hb z=>up b q ((E3 _ _ (Fi hb)).trans z))))
 obtain ⟨C,O⟩:=S;rw [<- z,ho] at e;cases e;rw [hc] at O;cases O
theorem CI{x1}{t:Addr}(Z:Hnd A s.heap)(G:IsTup s.heap t items)(W:(GR n env).length=items.size)(F:(GR n env).findIdx? (·.1)=none)(h:∀h',ExtBut s.heap.objs.size s.heap h'->Et (Ez prog w) A (Im ((GR n env).map (·.2)) items.toList) Q E { s with heap:=h' }):Et (Ez prog w) A (assign (.Tuple n x1 pos) env (.ref t)) Q E s:=by
 have lt:t≠s.heap.objs.size:=by obtain ⟨o,ho,_⟩:=G;exact E7 (EM ho)
 have all:List.take items.size (List.drop 0 items.toList)=items.toList:=by rw [IQ];exact EU 's'
 have J:Et (Ez prog w) A (unpackItems (.ref t) items.size none) (λvs s'=>∃h',vs=items.toList/\s'={ s with heap:=h' }/\ExtBut s.heap.objs.size s.heap h') E s:=by
  unfold unpackItems;refine we ?_;unfold notIterableAtAll;refine we (wpAny_specialOf G.typeIs slot_tuple_iter.lookup (Ej ?_));simp only [FK,if_false];refine we (E1 (iter_tuple G (we (E1 (draw_tuple lt items.size 0 _ _ {_,EW _ rfl,rfl,rfl} (G.push _) 'l' λh1 S s1=>?_)))));rw [all,if_neg 's'];have t1:IsTup h1 t items:=(G.push _).extBut s1.extBut lt;have up1:∀b o,b≠s.heap.objs.size->s.heap.get? b=some o->h1.get? b=some o:=λb o hb e=>s1.extBut b o hb (El _ e);refine we (E1 (AB (s:={ s with heap:=h1 }) (Z.keeps λb o _ e=>up1 b o (E7 (EM e)) e) S t1 's' λh2 O=>?_));simp only [Option.isSome_none,FK,if_false];exact Ej {h2,rfl,rfl,λb o hb e=>O b o hb (up1 b o hb e)}
 rw [assign_Tuple];refine we (FJ ?_);unfold unpack;rw [F,W];refine we (E1 (Fe J (λvs s'=>x3e λh' U=>x2e λO x=>?_) λ_ _ z=>z));subst U O;exact h h' x
end
theorem iF{k:Nat}{t:TGs}(h:W (PGs X es t))(S:(GR es X.env).length=n:=by rfl)(Z:(GR es X.env).findIdx? (·.1)=none:=by rfl):W (PG X (.Tuple es k pos) (vy X.K n t)):=by
 refine {?_};have h:=h.h;intro Ga s σ H v u Q I r q;obtain ⟨a,xs,rfl,U,hn,q⟩:=q;obtain rfl:u=Ew a:=r;obtain ⟨G,F,J,hz⟩:=I.tuple U;refine CI I.Mu J (by rw [S,<- hn,F.length];simp) Z λh' ex=>?_;have O:Inv X Ga σ H { s with heap:=h' }:=I.kept (t':=s.toks) λb o e=>ex b o (E7 (EM e)) e;have:=h Ga { s with heap:=h' } σ H xs G Q O F q;simpa using this
def eqL(xs ys:List V):Bool:=xs.length==ys.length&&(range xs.length).all λi=>eqV (xs.getD i .non) (ys.getD i .non)
theorem Cq:∀{xs:List V},xs.all zO=true->(∀x∈xs,∀b,x≠.byt b)->eqL xs xs=true:=by
 intro xs h _;unfold eqL;rw [beq_self_eq_true,Bool.true_and,EZ];intro i hi;have n:=mem_range.mp hi;have hm:xs[i]∈xs:=FT n;have:=EZ.mp h _ hm;rw [EX,Ek n,Option.getD_some];cases e:xs[i] with
 | non=>rfl
 | bl b=>simp [eqV]
 | int j=>simp [eqV]
 | str x=>simp [eqV]
 | _=>rw [e] at this;cases this
section
variable {X:Cx}
def qu(K:Ei)(neg:Bool):R2:=λx y H Q=>∃a b xs ys,x = .ref a/\y = .ref b/\SqL K H a xs/\SqL K H b ys/\xs.all zO=true/\ys.all zO=true/\Q (.bl (if neg then !eqL xs ys else eqL xs ys)) H
theorem oy(I:Inv X Ga σ H s)(ha:SqL X.K H a xs)(hb:SqL X.K H b ys)(fx:xs.all zO=true)(U:ys.all zO=true):
  ∃is n:List Value,s.heap.IsList a is.toArray/\s.heap.IsList b n.toArray/\xs.length=is.length/\ys.length=n.length/\∀(A:EB)(j:Nat)(h1:j<is.toArray.size)(h2:j<n.toArray.size),SeqAt.EqAt A s is.toArray[j] n.toArray[j] (eqV (xs.getD j .non) (ys.getD j .non)):=by
 obtain ⟨is,r1,p1,_⟩:=I.list ha;obtain ⟨n,r2,p2,_⟩:=I.list hb;refine {is,n,p1.isList,p2.isList,r1.length,r2.length,λA j h1 h2=>?_};have l1:=r1.length;have l2:=r2.length;simp only [EC] at h1 h2;have F:xs[j]?=some (xs.getD j .non):=by rw [EX,Ek 'l'];rfl
 have J:ys[j]?=some (ys.getD j .non):=by rw [EX,Ek 'l'];rfl
 obtain ⟨u,G,q1⟩:=r1.get F;obtain ⟨v,O,q2⟩:=r2.get J;rw [Ek h1] at G;rw [Ek h2] at O;have S:=EZ.mp fx _ (ER F);have W:=EZ.mp U _ (ER J);have z:=lA (A:=A) (s:=s) q1 q2 S W;have w1:is.toArray[j]=u:=by simpa using E8.inj G
 have Z:n.toArray[j]=v:=by simpa using E8.inj O
 rw [w1,Z];exact z
theorem pJ(F:X.A.units<cLine):OpR X (E4 .Eq) (qu X.K false):=by
 intro Ga s σ H x y v u Q I U W h;obtain ⟨a,b,xs,ys,rfl,rfl,ha,hb,fx,Z,q⟩:=h;cases U;cases W;obtain ⟨is,js,J,p2,S,O,eq⟩:=oy I ha hb fx Z;by_cases n:is.toArray.size=js.toArray.size
 .refine SeqAt.eq_listAt J p2 n F (λj h1 h2=>eq _ j h1 h2) {.bl _,H,I,rfl,?_};have e:eqL xs ys=(range is.toArray.size).all λj=>eqV (xs.getD j .non) (ys.getD j .non):=by
   unfold eqL;simp only [EC] at n ⊢;rw [S,O,n];simp
  rw [<- e];exact q
 .refine SeqAt.eq_list_lengthsAt J p2 (by simpa using n) F {.bl false,H,I,rfl,?_};have e:eqL xs ys=false:=by
   unfold eqL;have:(xs.length==ys.length)=false:=by simp only [EC] at n;rw [S,O];simpa using n
   rw [this,Ie]
  have G:Q (.bl (eqL xs ys)) H:=q;rw [e] at G;exact G
theorem nF(G:X.A.units<cLine):OpR X (E4 .NotEq) (qu X.K true):=by
 intro Ga s σ H x y v u Q I U W h;obtain ⟨a,b,xs,ys,rfl,rfl,ha,hb,fx,Z,q⟩:=h;cases U;cases W;obtain ⟨is,js,J,p2,S,O,eq⟩:=oy I ha hb fx Z;have F:Q (.bl (!eqL xs ys)) H:=q;by_cases n:is.toArray.size=js.toArray.size
 .refine SeqAt.RcNeAt.lists J p2 n G (λj h1 h2=>eq _ j h1 h2) _ _ _ _ {.bl _,H,I,rfl,?_};have e:eqL xs ys=(range is.toArray.size).all λj=>eqV (xs.getD j .non) (ys.getD j .non):=by
   unfold eqL;simp only [EC] at n ⊢;rw [S,O,n];simp
  rw [<- e];exact F
 .refine SeqAt.RcNeAt.lists_lengths J p2 (by simpa using n) G _ _ _ _ {.bl true,H,I,rfl,?_};have e:eqL xs ys=false:=by
   unfold eqL;have:(xs.length==ys.length)=false:=by simp only [EC] at n;rw [S,O];simpa using n
   rw [this,Ie]
  rw [e] at F;exact F
theorem Inv.big(I:Inv X Ga σ H s):sysModules<s.heap.objs.size:=by
 have h:Ep<s.heap.objs.size:=(I.mod.glob.keeps I.bk).lt;exact Nat.lt_trans 'd' h
def vt:TE:=λ_ H Q=>∀p,H p=none->Q (.ref p) (upd H p (.dK []))
theorem uP:PE X (.Dict [] [] pos) vt:=λGa s σ H Q I h =>
 wpAny_Dict_empty {.ref s.heap.objs.size,_,I.laid (a:=s.heap.objs.size) (o:=.dK []) (t':=s.toks) (λ_ _ q=>El _ q) (EF _) {Gr _,beq_eq_false_iff_ne.mpr (Fi (E7 I.big)),[],.nil,Heap.DictOf.new s.heap},rfl,h _ (I.hok.fresh (EF _))}
theorem zD.mark{k:Nat}(r:zD c k A):zD false k (A.mark v):={λh=>(nomatch h),r.dp,r.un,r.gd}
def zZ:EN->Bool
 | .Starred _ _=>false
 | _=>true
theorem ck(h:zZ e=true):EH (e::es) env=(false,Fx e env)::EH es env:=by
 cases e<;>first|rfl|(exact absurd (show false=true from h) Eu)
def bT(es:List EN):Bool:=es.all zZ
theorem sG:∀{es:List EN}(h:bT es=true),(EH es env).any (·.1)=false
 | [],_=>rfl
 | e::es,h=>by
  unfold bT at h;rw [List.all_cons,EJ] at h;rw [ck h.1,IP,sG h.2];rfl
theorem dv(h:bT es=true):(FZ pos (EH es env)).any (·.1)=false:=by
 have q:=sG (env:=env) h;unfold FZ;rw [List.any_map];exact q
theorem gp(h:zZ e=true):EH [e] env=[(false,Fx e env)]:=(ck h).trans rfl
theorem gy{t:TA}(ha:PE X e te)(hr:PA X es t)(hp:zZ e=true:=by rfl):PA X (e::es) (dC te t):=fq ha hr (ck hp)
theorem zA{id:String}{r:List V->Hp->VK->Prop}{t:TA}{p pos:Pos}(hc:zM X (.builtin id) r)(G:Gl X x)(hm:X.mg x=none)(hv:Gn x=some (.builtin id))(ha:W (PA X (e::es) t))(hp:zZ e=true:=by rfl)(J:bT es=true:=by rfl)(F:x≠"__name__":=by decide)(n:(x==("__debug__":Str))=false:=by decide):W (PE X (.Call (.Name x p) (e::es) [] pos) (tCB r t)):=by refine {?_};have ha:=ha.h;exact pC hc G hm hv ha F n (ck hp) (dv J)
theorem aW{r:List V->Hp->VK->Prop}{t:TA}{p pos:Pos}(hc:zM X (.type T) r)(G:Gl X x)(hm:X.mg x=none)(hv:Gn x=some (.type T))(ha:W (PA X (e::es) t))(hp:zZ e=true:=by rfl)(J:bT es=true:=by rfl)(F:x≠"__name__":=by decide)(n:(x==("__debug__":Str))=false:=by decide):W (PE X (.Call (.Name x p) (e::es) [] pos) (tCB r t)):=by refine {?_};have ha:=ha.h;exact uz hc G hm hv ha F n (ck hp) (dv J)
theorem cz{p pos:Pos}(n:Gl X "range")(hm:X.mg "range"=none)(ha:W (PA X [a] ta))(hp:zZ a=true:=by rfl):W (PIc true X tg (.Call (.Name "range" p) [a] [] pos) (j7 ta)):=by refine {?_};have ha:=ha.h;exact vY n hm ha (gp hp)
theorem dU{t:TA}(hc:X.calm=true)(T:ar X Ex)(O:aR X.K C)(G:Gl X x)(hm:X.mg x=some (.ref C))(ha:W (PA X (e::es) t))(hp:zZ e=true:=by rfl)(F:bT es=true:=by rfl)(n:(x==("__debug__":Str))=false:=by decide):W (PS X (.Raise (some (.Call (.Name x J) (e::es) [] cpos)) none pos) (fI C Ex t)):=by refine {?_};have ha:=ha.h;exact vW hc T O G hm ha n (ck hp) (dv F)
structure New(H:Hp)(p:Addr)(o:HO)(H':Hp):Prop where
 no:H p=none
 at_:H' p=some o
 same:zg H H'
theorem New.mk'{p:Addr}{o:HO}(h:H p=none):New H p o (upd H p o):={h,zG,λb u e=>by rw [zm (z7 e h)];exact e}
def pH(t:TA):TE:=λσ H Q=>t σ H λxs H1=>xs.length<=sizeLine/\∀p H2,New H1 p (.lst xs) H2->p≠sysModules->Q (.ref p) H2
theorem af{t:TA}(h:W (PA X es t)):W (PE X (.List es pos) (pH t)):=by
 refine {?_};have h:=h.h;intro Ga s σ H Q I F;refine wpAny_List_spliced (thn (h pos Ga s σ H _ I F) λus s1=>x5e λxs H1 n r=>x2e λz q=>{by rw [<- r.length];exact z,?_});have G:H1 s1.heap.objs.size=none:=n.hok.fresh (EF _);refine {.ref s1.heap.objs.size,upd H1 s1.heap.objs.size (.lst xs),n.laid (t':=s1.toks) (λb u e=>El _ e) (EF _) ?_,rfl,q _ _ (.mk' G) (Iu n.big)};exact {z,us,0,r,EW _ rfl}
def om(t:TA):TE:=λσ H Q=>t σ H λxs H1=>xs.length<=sizeLine/\∀p H2,New H1 p (.tup xs) H2->Q (.ref p) H2
theorem sD{t:TA}(F:∀xs H,R xs H->n xs H)(h:PA X es t)(pos:Pos)(Ga:List (Addr×Obj))(s:Eh)(σ:St)(H:Hp)(I:Inv X Ga σ H s)(q:t σ H R):
  Et (Ez X.prog X.w) X.A (spliced (FZ pos (EH es X.env))) (AP X Ga σ n) X.xe s :=
 thn (h pos Ga s σ H R I q) λ_ _=>x5e λvs H' a b c=>{vs,H',a,b,F _ _ c}
theorem bg{t:TA}{x1}(h:W (PA X es t)):W (PE X (.Tuple es x1 pos) (om t)):=by
 refine {?_};have h:=h.h;have h':PA X es (λσ H Q=>∃R:List V->Hp->Prop,t σ H R/\∀xs H,R xs H->Q xs H):=λpos Ga s σ H Q I=>x3e λR q n=>sD n h pos Ga s σ H I q;intro Ga s σ H Q I F;exact Cm h' Ga s σ H Q I {_,F,λxs H1=>x2e λz q=>{z,λp hp=>q p _ (.mk' hp)}}
def qr:TE:=λ_ H Q=>∀p H2,New H p (.dK []) H2->Q (.ref p) H2
theorem dG:W (PE X (.Dict [] [] pos) qr):={λGa s σ H Q I h=>uP Ga s σ H Q I λp hp=>h p _ (.mk' hp)}
end
def uR(v:V)(q:Addr->Prop):Prop:=∃a,v = .ref a/\q a
def rO(to te:TE):TE:=λσ H Q=>to σ H λx H1=>uR x λl=>(∃xs,H1 l=some (.lst xs))/\te σ H1 λy H2=>∃xs,H2 l=some (.lst xs)/\xs.length<sizeLine/\Q .non (upd H2 l (.lst (xs++[y])))
section
variable {X:Cx}
theorem OpR.weak{r r':R2}(h:OpR X f r)(n:∀x y H Q,r' x y H Q->r x y H Q):OpR X f r' :=
 λGa s σ H x y v u Q I F G q=>h Ga s σ H x y v u Q I F G (n x y H Q q)
theorem zM.weak{r r':List V->Hp->VK->Prop}(h:zM X f r)(n:∀xs H Q,r' xs H Q->r xs H Q):zM X f r' :=
 λGa s σ H xs us Q I F q=>h Ga s σ H xs us Q I F (n xs H Q q)
theorem IxR.weak{r r':R2}(h:IxR X r)(n:∀x y H Q,r' x y H Q->r x y H Q):IxR X r' :=
 λZO J Ga s σ H x y v u Q I F G q hs=>h ZO J Ga s σ H x y v u Q I F G (n x y H Q q) hs
def cg:R2:=λx y H Q=>(∃i j,x = .int i/\y = .int j/\Q (.int (i+j)) H)\/(∃i j,x = .str i/\y = .str j/\i.length+j.length<=sizeLine/\Q (.str (i++j)) H) \/
 (∃l b xs zs,x = .ref l/\y = .ref b/\H l=some (.lst xs)/\H b=some (.lst zs)/\xs.length+zs.length<=sizeLine/\∀p H2,New H p (.lst (xs++zs)) H2->Q (.ref p) H2)
theorem bL:OpR X (FP .Add) cg:=uk.or (uW.or (Cu.weak λx y H Q h=>by
 obtain ⟨l,b,xs,zs,n,F,h1,h2,h3,h4⟩:=h;exact {l,b,xs,zs,n,F,h1,h2,h3,λp hp=>h4 p _ (.mk' hp)}))
def de:R2:=λx y H Q=>(∃i j,x = .int i/\y = .int j/\fu i j/\Q (.int (i*j)) H) \/
 (∃l k xs,x = .ref l/\y = .int k/\H l=some (.lst xs)/\-(2 ^ 63)<=k/\k<2 ^ 63/\xs.length*k.toNat<=sizeLine/\∀p H2,New H p (.lst (Fs k.toNat xs).flatten) H2->Q (.ref p) H2)
theorem ud:OpR X (FP .Mult) de:=Ck.or (xr.weak λx y H Q h=>by
 obtain ⟨l,k,xs,n,F,h1,h2,h3,G,h4⟩:=h;exact {l,k,xs,n,F,h1,h2,h3,G,λp hp=>h4 p _ (.mk' hp)})
def uIx:R2:=λx y H Q=>(∃p xs i v,x = .ref p/\y = .int i/\H p=some (.lst xs)/\atI xs i=some v/\Q v H) \/
 (∃p xs i v,x = .ref p/\y = .int i/\H p=some (.tup xs)/\atI xs i=some v/\Q v H)\/(∃z i c,x = .str z/\y = .int i/\z.length<=sizeLine/\atI z.cps.toList i=some c/\Q (.str {#[c]}) H)
theorem cU:IxR X uIx:=uD.weak λx y H Q h=>by
 rcases h with ⟨p,xs,i,v,n,F,h,r⟩|⟨p,xs,i,v,n,F,h,r⟩|h
 .exact .inl {p,xs,i,v,n,F,SqL.of h,r}
 .exact .inr (.inl {p,xs,i,v,n,F,SqT.of h,r})
 .exact .inr (.inr h)
def iE:List V->Hp->VK->Prop:=λxs H Q=>(∃p ys,xs=[.ref p]/\H p=some (.lst ys)/\Q (.int ys.length) H)\/(∃p ys,xs=[.ref p]/\H p=some (.tup ys)/\Q (.int ys.length) H) \/
 (∃z,xs=[.str z]/\z.length<=sizeLine/\Q (.int z.length) H)
theorem fB:zM X (.builtin "len") iE:=(mO.or vk).weak λxs H Q h=>by
 rcases h with ⟨p,ys,e,h,q⟩|⟨p,ys,e,h,q⟩|h
 .exact .inl {p,ys,e,.inl (SqL.of h),q}
 .exact .inl {p,ys,e,.inr (SqT.of h),q}
 .exact .inr h
def uEq(neg:Bool):R2:=λx y H Q=>(d4 x y=true/\Q (.bl (if neg then !decide (x=y) else decide (x=y))) H) \/
 (∃a b xs ys,x = .ref a/\y = .ref b/\H a=some (.lst xs)/\H b=some (.lst ys)/\xs.all zO=true/\ys.all zO=true/\Q (.bl (if neg then !eqL xs ys else eqL xs ys)) H)
theorem bO(n:X.A.units<cLine):OpR X (E4 .Eq) (uEq false):=(vP.or (pJ n)).weak λx y H Q h=>by
 rcases h with h|⟨a,b,xs,ys,F,G,h1,h2,r⟩
 .exact .inl {h.1,by simpa using h.2}
 .exact .inr {a,b,xs,ys,F,G,SqL.of h1,SqL.of h2,r}
theorem gD(n:X.A.units<cLine):OpR X (E4 .NotEq) (uEq true):=(u9.or (nF n)).weak λx y H Q h=>by
 rcases h with h|⟨a,b,xs,ys,F,G,h1,h2,r⟩
 .exact .inl {h.1,by simpa using h.2}
 .exact .inr {a,b,xs,ys,F,G,SqL.of h1,SqL.of h2,r}
def qD(K:Ei)(ta:TE):TT:=λσ H Q=>ta σ H λx H'=>∃k,en K x H' k/\Q k H'
theorem aX(ha:W (PE X a ta))(he:∀n,isTrue a X.env n=(do let v<-n;Hy a.pos;GJ [v] (truthy v)):=by intro _;rfl):W (PT X a (qD X.K ta)):=by refine {?_};have ha:=ha.h;exact uE ha he
def hZ(C:Addr)(ta:TE)(f:Str):TE:=λσ H Q=>ta σ H λx H1=>∃a dx fs v,x = .ref a/\H1 a=some (.ins C dx fs)/\fs.lookup f=some v/\Q v H1
theorem bc(c:Cls X.K C)(n:cb X.K C f)(he:W (PE X e ta))(hb:FE e f X.env (Fx e X.env)=Fx e X.env:=by rfl):W (PE X (.Attribute e f pos) (hZ C ta f)):=by
 refine {?_};have he:=he.h;intro Ga s σ H Q I h;refine CW hb (thn (he Ga s σ H _ I h) λu s1=>x5e λx H1 J G F=>?_);obtain ⟨a,dx,fs,v,ex,ea,l,q⟩:=F;subst ex;obtain rfl:u=Ew a:=G;exact m9 J ea c n l λu' s2 S O=>⟨v,H1,S,O,q⟩
def jq(C:Addr)(ta tv:TE)(f:Str):TS:=λD σ H=>tv σ H λy H1=>ta σ H1 λx H2=>∃a dx fs,x = .ref a/\H2 a=some (.ins C dx fs)/\fs.length<1000/\D.nx σ (upd H2 a (.ins C dx (z5 f y fs)))
theorem gF{o ZO:EN}(c:Cls X.K C)(n:cb X.K C f)(ha:W (PE X o ta))(hv:W (PE X ZO tv))(hs:swapsWith ZO (some (.Attribute o f YI)) pos.line X.env=pure false:=by rfl):W (PS X (.Assign [.Attribute o f YI] ZO pos) (jq C ta tv f)):=by
 refine {?_};have ha:=ha.h;have hv:=hv.h;intro Ga s σ H D I h;refine plainObj_wpAny_Assign_Attribute (thn (hv Ga s σ H _ I h) λu s1=>x5e λy H1 J O q=>thn (ha Ga s1 σ H1 _ J q) λS s2=>x5e λx H2 I2 G F=>?_) hs;obtain ⟨a,dx,fs,ex,ea,l,Z⟩:=F;subst ex;obtain rfl:S=Ew a:=G;exact mU I2 ea c n l O λs3 U=>{σ,_,U,Z}
structure GF(P:Eo)(w:EG)(K:Ei)(mg:Str->Option Value)(base:Heap)(cm:Bool)(k:Nat)(x:Str)(ps:List Str)(sp:Sp):Prop where
 ex:∃(f:Addr)(fd:Ey),zr P w K mg base CX0 cm k f fd ps sp/\mg x=some (.ref f)/\IE K (.ref f)=true/\aP K fd ps []
structure GX(P:Eo)(w:EG)(K:Ei)(mg:Str->Option Value)(base:Heap)(cm:Bool)(k:Nat)(x:Str)(ps:List Str)(sp:Sp):Prop where
 ex:∃(f:Addr)(fd:Ey),zr P w K mg base (CXW P w) cm k f fd ps sp/\mg x=some (.ref f)/\IE K (.ref f)=true/\aP K fd ps []
structure GM(P:Eo)(w:EG)(K:Ei)(mg:Str->Option Value)(base:Heap)(cm:Bool)(k:Nat)(C:Addr)(m:Str)(ps:List Str)(sp:Sp):Prop where
 ex:∃(f:Addr)(fd:Ey),zr P w K mg base CX0 cm k f fd ps sp/\eY K C m f/\aP K fd ps []
structure GMX(P:Eo)(w:EG)(K:Ei)(mg:Str->Option Value)(base:Heap)(cm:Bool)(k:Nat)(C:Addr)(m:Str)(ps:List Str)(sp:Sp):Prop where
 ex:∃(f:Addr)(fd:Ey),zr P w K mg base (CXW P w) cm k f fd ps sp/\eY K C m f/\aP K fd ps []
structure GC(P:Eo)(w:EG)(K:Ei)(mg:Str->Option Value)(base:Heap)(cm:Bool)(k:Nat)(x:Str)(C:Addr)(ps:List Str)(sp:Sp):Prop where
 ex:∃(f:Addr)(fd:Ey),zr P w K mg base CX0 cm k f fd ps sp/\mg x=some (.ref C)/\Mk K C f/\aP K fd ps []
variable {cm:Bool}{k j:Nat}{x m:Str}{C:Addr}{ps:List Str}{sp:Sp}{e o:EN}{es:List EN}{t:TA}{ta:TE}{p pos Z3:Pos}{Ex:Addr->St->Hp->Prop}
theorem zy(G:GF X.prog X.w X.K X.mg X.base cm j x ps sp)(hr:zD cm k X.A)(U:Gl X x)(ha:W (PA X (e::es) t))(n:j<=k:=by decide)(S:(x==("__debug__":Str))=false:=by decide)(hp:zZ e=true:=by rfl)(J:bT es=true:=by rfl):W (PE X (.Call (.Name x p) (e::es) [] pos) (je sp [] E0 t)):=by
 refine {?_};have ha:=ha.h;obtain ⟨f,fd,F,hm,O,hb⟩:=G.ex;exact Cs F (hr.mono n) U hm O hb .nil gB ha S (ck hp) (dv J)
theorem fi(T:ar X Ex)(G:GX X.prog X.w X.K X.mg X.base cm j x ps sp)(hr:zD cm k X.A)(U:Gl X x)(ha:W (PA X (e::es) t))(n:j<=k:=by decide)(S:(x==("__debug__":Str))=false:=by decide)(hp:zZ e=true:=by rfl)(J:bT es=true:=by rfl):W (PE X (.Call (.Name x p) (e::es) [] pos) (ic sp [] Ex t)):=by
 refine {?_};have ha:=ha.h;obtain ⟨f,fd,F,hm,O,hb⟩:=G.ex;exact A3 T F (hr.mono n) U hm O hb .nil ha S (ck hp) (dv J)
theorem cw(he:W (PE X o ta))(c:Cls X.K C)(G:GM X.prog X.w X.K X.mg X.base cm j C m ps sp)(hr:zD cm k X.A)(ha:W (PA X (e::es) t))(J:j<=k:=by decide)(hp:zZ e=true:=by rfl)(S:bT es=true:=by rfl)(O:Fx (.Call (.Attribute o m Z3) (e::es) [] pos) X.env=(do
   let n<-Fx o X.env
   Hy Z3.atName
   let (f,first)<-GJ [n] (Hw n m pl)
   Iw pos f first (FZ pos (EH (e::es) X.env)) (Iy pos (Hb [] X.env))):=by rfl):W (PE X (.Call (.Attribute o m Z3) (e::es) [] pos) (dH C m sp [] E0 ta t)):=by
 refine {?_};have he:=he.h;have ha:=ha.h;obtain ⟨f,fd,F,hm,hb⟩:=G.ex;exact yY he c hm F (hr.mono J) hb .nil gB ha (ck hp) (dv S) O
theorem eO(he:W (PE X o ta))(c:Cls X.K C)(G:GM X.prog X.w X.K X.mg X.base cm j C m ps sp)(hr:zD cm k X.A)(J:j<=k:=by decide)(O:Fx (.Call (.Attribute o m Z3) [] [] pos) X.env=(do
   let n<-Fx o X.env
   Hy Z3.atName
   let (f,first)<-GJ [n] (Hw n m pl)
   Iw pos f first (FZ pos (EH [] X.env)) (Iy pos (Hb [] X.env))):=by rfl):W (PE X (.Call (.Attribute o m Z3) [] [] pos) (dH C m sp [] E0 ta bE)):=by
 refine {?_};have he:=he.h;obtain ⟨f,fd,F,hm,hb⟩:=G.ex;exact xD he c hm F (hr.mono J) hb .nil gB O
theorem du(he:W (PE X o ta))(c:Cls X.K C)(T:ar X Ex)(G:GMX X.prog X.w X.K X.mg X.base cm j C m ps sp)(hr:zD cm k X.A)(J:j<=k:=by decide)(O:Fx (.Call (.Attribute o m Z3) [] [] pos) X.env=(do
   let n<-Fx o X.env
   Hy Z3.atName
   let (f,first)<-GJ [n] (Hw n m pl)
   Iw pos f first (FZ pos (EH [] X.env)) (Iy pos (Hb [] X.env))):=by rfl):W (PE X (.Call (.Attribute o m Z3) [] [] pos) (fJ C m sp [] Ex ta bE)):=by
 refine {?_};have he:=he.h;obtain ⟨f,fd,F,hm,hb⟩:=G.ex;exact yt he c hm T F (hr.mono J) hb .nil O
structure lu(H:Hp)(C x dx:Addr)(H':Hp):Prop where
 no:H x=none
 nod:H dx=none
 ne:dx≠x
 at_:H' x=some (.ins C dx [])
 own:H' dx=some (.own x)
 same:zg H H'
theorem lu.mk'{C x dx:Addr}(h:H x=none)(hd:H dx=none)(ne:dx≠x):lu H C x dx (upd (upd H dx (.own x)) x (.ins C dx [])) :=
 {h,hd,ne,zG,by rw [zm ne,zG],λb u e=>by rw [zm (z7 e h),zm (z7 e hd)];exact e}
def h7(C:Addr)(sp:Sp)(t:TA):TE:=λσ H Q=>t σ H λvs H1=>∀x dx H2,lu H1 C x dx H2->sp (.ref x::vs) H2 (λv H3=>v = .non/\Q (.ref x) H3) E0
theorem PA.any{es:List EN}{t:TA}(h:PA X es t):PA X es (λσ H Q=>∃R:List V->Hp->Prop,t σ H R/\∀xs H,R xs H->Q xs H):=λpos Ga s σ H Q I=>x3e λR q n=>sD n h pos Ga s σ H I q
theorem xX(G:GC X.prog X.w X.K X.mg X.base cm j x C ps sp)(hr:zD cm k X.A)(U:Gl X x)(ha:W (PA X (e::es) t))(n:j+1<=k:=by decide)(S:(x==("__debug__":Str))=false:=by decide)(hp:zZ e=true:=by rfl)(J:bT es=true:=by rfl):W (PE X (.Call (.Name x p) (e::es) [] pos) (h7 C sp t)):=by
 refine {?_};have ha:=ha.h;obtain ⟨f,fd,F,hm,M,hb⟩:=G.ex;intro Ga s σ H Q I h;exact BI M F (hr.mono n) U hm hb .nil gB ha.any S (ck hp) (dv J) Ga s σ H Q I {_,h,λvs H1 q x dx O hd ne=>by rw [Gc];exact q x dx _ (.mk' O hd ne)}
theorem aB{pos:Pos}(n:Gl X x)(hm:∃u,X.mg x=some u/\zh v u)(hd:(x==("__debug__":Str))=false:=by decide):W (PE X (.Name x pos) (tC v)):=by
 refine {?_};obtain ⟨u,hm,r⟩:=hm;exact Au n hm r hd
theorem vb{o e:EN}{Z3 cpos:Pos}(ho:W (PE X o to))(he:W (PE X e te))(ZR:FE o "append" X.env (Fx o X.env)=Fx o X.env:=by rfl)(ZF:(Z3.endLine==cpos.line)=true:=by rfl)(hp:zZ e=true:=by rfl):W (PE X (.Call (.Attribute o "append" Z3) [e] [] cpos) (rO to te)):=by
 refine {?_};have ho:=ho.h;have he:=he.h;intro Ga s σ H Q I h;have hs:EH [e] X.env=[(false,Fx e X.env)]:=gp hp;refine Gy ZR (by rw [hs];rfl) ZF rfl (thn (ho Ga s σ H _ I h) λv s1=>x5e λx H1 U r1 J=>?_);obtain ⟨l,ex,⟨xs,hx⟩,q1⟩:=J;subst ex;obtain ⟨h1,h2⟩:=jo (T:="list") U r1 (.inl {rfl,xs,SqL.of hx});refine {"list","list.append",Iz,PySem.F.slot_list_append,PySem.F.type_list_append,h1,h2,?_};rw [hs];refine Calls.callWith_builtin rfl (Calls.evalArgs_plain ?_);have Z:=fq he fh (hs:=hs) cpos Ga s1 σ H1 (λys H2=>cF (λy=>∃xs,H2 l=some (.lst xs)/\xs.length<sizeLine/\Q .non (upd H2 l (.lst (xs++[y])))) ys) U q1;rw [hs] at Z;refine thn Z λus s2=>x5e λvs H2 I2 r2 S=>?_;obtain ⟨y,rfl,G,n,O,S⟩:=cF.ex S;exact xZ Ga s2 σ H2 (.ref l) [y] v us Q I2 r1 r2 {l,G,y,rfl,rfl,n,O,S}
end
section
variable {X:Cx}
def cS:List V->Hp->VK->Prop:=λxs H Q=>(∃i,xs=[.int i]/\Q (.int i) H)\/∃k,xs=[.bl k]/\Q (.int (if k then 1 else 0)) H
theorem xK:zM X (.type "int") cS:=yH
def fj:List V->Hp->VK->Prop:=λxs H Q=>∃i,xs=[.int i]/\i.natAbs.log2<1920/\Q (.str (toString i)) H
theorem xR:zM X (.type "str") fj:=yc
theorem xn:cS [.int i] H Q=Q (.int i) H:=by simp [cS]
theorem xc{k:Bool}:cS [.bl k] H Q=Q (.int (if k then 1 else 0)) H:=by simp [cS]
theorem AI:fj [.int i] H Q=(i.natAbs.log2<1920/\Q (.str (toString i)) H):=by simp [fj]
def k7:List V->Hp->VK->Prop:=λxs H Q=>∃i j,xs=[.int i,.int j]/\Q (.int (if j>i then j else i)) H
def pO:List V->Hp->VK->Prop:=λxs H Q=>∃i j,xs=[.int i,.int j]/\Q (.int (if j<i then j else i)) H
theorem Eg(hc:X.calm=true):zM X (.builtin "max") k7:=CO hc
theorem oI(hc:X.calm=true):zM X (.builtin "min") pO:=uM hc
theorem k4:k7 [.int i,.int j] H Q=Q (.int (if j>i then j else i)) H:=by
 apply propext;constructor
 .rintro ⟨a,b,e,q⟩;cases e;exact q
 .exact λq=>{i,j,rfl,q}
theorem BU:pO [.int i,.int j] H Q=Q (.int (if j<i then j else i)) H:=by
 apply propext;constructor
 .rintro ⟨a,b,e,q⟩;cases e;exact q
 .exact λq=>{i,j,rfl,q}
end
theorem yg{t:TG}{r:List V}:kQ t u (v::r) σ H Q=t v σ H λn H'=>u r n H' Q:=by
 apply propext;constructor
 .rintro ⟨v,r,e,h⟩;cases e;exact h
 .exact λh=>{v,r,rfl,h}
theorem BN:pe [] σ H Q=Q σ H:=by
 apply propext;constructor
 .exact λh=>h.2
 .exact λh=>{rfl,h}
section
variable {H:Hp}{Q:VK}{i j:Int}{x y:Str}{a b:Addr}{K:Ei}{g:Int->Int->V}{C:Int->Int->Prop}{k c:Bool}{QB:Bool->Hp->Prop}
theorem sH:cg (.int i) (.int j) H Q=Q (.int (i+j)) H:=by simp [cg]
theorem sQ:cg (.str x) (.str y) H Q=(x.length+y.length<=sizeLine/\Q (.str (x++y)) H):=by simp [cg]
theorem gv:cg (.ref a) (.ref b) H Q = ∃xs zs,H a=some (.lst xs)/\H b=some (.lst zs)/\xs.length+zs.length<=sizeLine/\∀p H2,New H p (.lst (xs++zs)) H2->Q (.ref p) H2:=by simp [cg]
theorem mV:de (.int i) (.int j) H Q=(fu i j/\Q (.int (i*j)) H):=by simp [de]
theorem Eb:de (.ref a) (.int i) H Q = ∃xs,H a=some (.lst xs)/\-(2 ^ 63)<=i/\i<2 ^ 63/\xs.length*i.toNat<=sizeLine/\∀p H2,New H p (.lst (Fs i.toNat xs).flatten) H2->Q (.ref p) H2:=by simp [de]
theorem jn:uIx (.ref a) (.int i) H Q = ∃xs,(H a=some (.lst xs)\/H a=some (.tup xs))/\∃v,atI xs i=some v/\Q v H:=by
 apply propext;constructor
 .rintro (⟨p,xs,i,v,n,F,h,r⟩|⟨p,xs,i,v,n,F,h,r⟩|⟨z,i,c,e,_⟩)
  .cases n;cases F;exact {xs,.inl h,v,r}
  .cases n;cases F;exact {xs,.inr h,v,r}
  .cases e
 .rintro ⟨xs,h|h,v,r⟩
  .exact .inl {_,xs,_,v,rfl,rfl,h,r}
  .exact .inr (.inl {_,xs,_,v,rfl,rfl,h,r})
theorem j4:uIx (.str x) (.int i) H Q=(x.length<=sizeLine/\∃c,atI x.cps.toList i=some c/\Q (.str {#[c]}) H):=by simp [uIx]
theorem hU:iE [.ref a] H Q = ∃ys,(H a=some (.lst ys)\/H a=some (.tup ys))/\Q (.int ys.length) H:=by
 apply propext;constructor
 .rintro (⟨p,xs,n,h,r⟩|⟨p,xs,n,h,r⟩|⟨z,e,_⟩)
  .cases n;exact {xs,.inl h,r}
  .cases n;exact {xs,.inr h,r}
  .cases e
 .rintro ⟨xs,h|h,r⟩
  .exact .inl {_,xs,rfl,h,r}
  .exact .inr (.inl {_,xs,rfl,h,r})
theorem qO:iE [.str x] H Q=(x.length<=sizeLine/\Q (.int x.length) H):=by simp [iE]
theorem vO:rI C g (.int i) (.int j) H Q=(C i j/\Q (g i j) H):=by simp [rI]
theorem wb:rI0 g (.int i) (.int j) H Q=Q (g i j) H:=by simp [rI0]
theorem o6:uEq c (.int i) (.int j) H Q=Q (.bl (if c then !decide (i=j) else decide (i=j))) H:=by simp [uEq,d4]
theorem qf:uEq c (.str x) (.str y) H Q=Q (.bl (if c then !decide (x=y) else decide (x=y))) H:=by simp [uEq,d4]
theorem m8:uEq c (.bl k) (.bl k') H Q=Q (.bl (if c then !decide (k=k') else decide (k=k'))) H:=by simp [uEq,d4]
theorem nO:uEq c (.ref a) (.ref b) H Q = ∃xs ys,H a=some (.lst xs)/\H b=some (.lst ys)/\xs.all zO=true/\ys.all zO=true/\Q (.bl (if c then !eqL xs ys else eqL xs ys)) H:=by simp [uEq,d4]
def d9(K:Ei)(v:V)(H:Hp)(Q:Bool->Hp->Prop):Prop:=∃k,en K v H k/\Q k H
theorem xp:d9 K (.bl k) H QB=QB k H:=by simp [d9,en]
theorem vS:d9 K .non H QB=QB false H:=by simp [d9,en]
theorem BV:d9 K (.int i) H QB=QB (i != 0) H:=by simp [d9,en]
theorem vB:qD K ta σ H QB=ta σ H λx H'=>d9 K x H' QB:=rfl
def uB(v:V)(q:Bool->Prop):Prop:=∃c,v = .bl c/\q c
theorem D1:uB (.bl k) q=q k:=by simp [uB]
theorem CV{t:TE}:g8 t σ H QB=t σ H λx H1=>uB x λc=>QB c H1:=rfl
theorem AS{t u:TE}:mQ t u σ H Q=t σ H λx H1=>uB x λc=>if c=true then u σ H1 Q else Q (.bl false) H1:=rfl
theorem Ec{t u:TE}:sh t u σ H Q=t σ H λx H1=>uB x λc=>if c=true then Q (.bl true) H1 else u σ H1 Q:=rfl
theorem AG{t:TE}:oQ t σ H Q=t σ H λx H1=>uB x λc=>Q (.bl (!c)) H1:=rfl
theorem vE{r r':R2}:pV r r' ta tb tc σ H Q=ta σ H λx H1=>tb σ H1 λy H2=>r x y H2 λz H3=>uB z λk=>if k=true then tc σ H3 λw' H4=>r' y w' H4 Q else Q (.bl false) H3:=rfl
theorem xv:uR (.ref a) q=q a:=by simp [uR]
theorem C0{C:Addr}:hZ C ta f σ H Q=ta σ H λx H1=>uR x λa=>∃dx fs v,H1 a=some (.ins C dx fs)/\fs.lookup f=some v/\Q v H1:=by
 unfold hZ uR;congr;funext x H1;apply propext;constructor
 .rintro ⟨a,dx,fs,v,h1,h2,h3,h4⟩;exact ⟨a,h1,dx,fs,v,h2,h3,h4⟩
 .rintro ⟨a,h1,dx,fs,v,h2,h3,h4⟩;exact ⟨a,dx,fs,v,h1,h2,h3,h4⟩
theorem wW{C:Addr}:jq C ta tv f D σ H=tv σ H λy H1=>ta σ H1 λx H2=>uR x λa=>∃dx fs,H2 a=some (.ins C dx fs)/\fs.length<1000/\D.nx σ (upd H2 a (.ins C dx (z5 f y fs))):=by
 unfold jq uR;congr;funext x H1;congr;funext x2 H2;apply propext;constructor
 .rintro ⟨a,dx,fs,h1,h2,h3,h4⟩;exact ⟨a,h1,dx,fs,h2,h3,h4⟩
 .rintro ⟨a,h1,dx,fs,h2,h3,h4⟩;exact ⟨a,dx,fs,h1,h2,h3,h4⟩
theorem C9{C:Addr}{t:TA}:dH C m sp Zp E ta t σ H Q=ta σ H λx H1=>uR x λa=>∃dx fs,H1 a=some (.ins C dx fs)/\fs.lookup m=none/\t σ H1 λvs H2=>sp (.ref a::(vs++Zp)) H2 Q E:=by
 unfold dH uR;congr;funext x H1;apply propext;constructor
 .rintro ⟨a,dx,fs,rfl,h2,h3,h4⟩;exact {a,rfl,dx,fs,h2,h3,h4}
 .rintro ⟨a,rfl,dx,fs,h2,h3,h4⟩;exact {a,dx,fs,rfl,h2,h3,h4}
theorem BK{C:Addr}{t:TA}:fJ C m sp Zp Ex ta t σ H Q=ta σ H λx H1=>uR x λa=>∃dx fs,H1 a=some (.ins C dx fs)/\fs.lookup m=none/\t σ H1 λvs H2=>sp (.ref a::(vs++Zp)) H2 Q (XE Ex σ):=by
 unfold fJ uR;congr;funext x H1;apply propext;constructor
 .rintro ⟨a,dx,fs,rfl,h2,h3,h4⟩;exact {a,rfl,dx,fs,h2,h3,h4}
 .rintro ⟨a,rfl,dx,fs,h2,h3,h4⟩;exact {a,dx,fs,rfl,h2,h3,h4}
end
section
variable {K:Ei}{g:TG}{tb:TS}{D:aE}{σ:St}{H:Hp}{ta:TA}{tl:TE}{wi:TI}{R:It->Hp->Prop}{j:Int}{tt:TT}{te:TE}{ix:List (Option Nat)}{Q:VK}
def aZ(J:It)(g:TG)(tb:TS)(D:aE)(σ:St)(H:Hp):Prop:=∃W:Nat->Nat->St->Hp->Prop,(∃m,W 0 m σ H)/\∀i m σ H,W i m σ H ->
 (J.stop i H/\D.nx σ H)\/(J.go i H/\∃N:St->Hp->Prop,(∀n H',N n H'->∃G,G<m/\W (i+1) G n H')/\∀x H',J.LU i H x H'->g x σ H' λF H2=>tb { D with nx:=N,ct:=N,bk:=D.nx } F H2)
theorem A1:sX wi g tb D σ H=wi σ H λJ H1=>aZ J g tb D σ H1:=rfl
def uI1(vs:List V)(q:Int->Prop):Prop:=∃j,vs=[.int j]/\q j
theorem vh:uI1 [.int j] q=q j:=by simp [uI1]
theorem yZ:j7 ta σ H R=ta σ H λvs H1=>uI1 vs λj=>-(2 ^ 62)<=j/\j<2 ^ 62/\R (Itr 0 j.toNat) H1:=rfl
theorem xG:jb K tl σ H R=tl σ H λx H1=>uR x λa=>(∃xs,SqL K H1 a xs)/\R (Itl K a) H1:=rfl
def aQ(J:It)(g:TG)(tt:TT)(te:TE)(G:St)(H:Hp)(Q:VK):Prop:=∃W:Nat->Nat->St->List V->Hp->Prop,(∃m,W 0 m G [] H)/\∀i m G ys H2,W i m G ys H2->ys.length<sizeLine /\
 ((J.stop i H2 ∧ ∀ D, H2 D = none → D ≠ sysModules → Q (.ref D) (upd H2 D (.lst ys))) ∨
  (J.go i H2 ∧ ∀ x H3, J.LU i H2 x H3 → g x G H3 fun n H4 => tt n H4 fun ok H5 => if ok = true then te n H5 fun y H6 => ∃ F, F < m ∧ W (i + 1) F n (ys ++ [y]) H6 else ∃ F, F < m ∧ W (i + 1) F n ys H5))
theorem Ci:tLC ix wi g tt te σ H Q=wi σ H λJ H1=>aQ J g tt te (cA ix σ) H1 Q:=rfl
theorem aZ.rng{lo:Int}(F:Nat->St->Hp->Prop)(J:F 0 σ H)(hs:∀i σ H,i<n->F i σ H->g (.int (lo+i)) σ H λG H2=>tb { D with nx:=F (i+1),ct:=F (i+1),bk:=D.nx } G H2)(hd:∀σ H,F n σ H->D.nx σ H):aZ (Itr lo n) g tb D σ H:=yF F J hs hd
theorem aZ.lst{a:Addr}{xs:List V}(n:Nat->St->Hp->Prop)(G:n 0 σ H)(J:∀i σ H,i<=xs.length->n i σ H->SqL K H a xs)
  (hs:∀i x σ H,xs[i]?=some x->n i σ H->g x σ H λF H2=>tb { D with nx:=n (i+1),ct:=n (i+1),bk:=D.nx } F H2) (hd:∀σ H,n xs.length σ H->D.nx σ H):aZ (Itl K a) g tb D σ H:=vF n G J hs hd
def gH(N:St->List V->Hp->Prop)(ys:List V)(n:St)(te:TE)(ok:Bool)(H5:Hp):Prop:=if ok=true then te n H5 λy H6=>N n (ys++[y]) H6 else N n ys H5
theorem AZ:gH N ys n te true H=te n H λy H6=>N n (ys++[y]) H6:=rfl
theorem uO:gH N ys n te false H=N n ys H:=rfl
theorem aQ.rng{lo:Int}(J:Nat->St->List V->Hp->Prop)(Z:∀i F ys H,J i F ys H->ys.length<sizeLine)(U:J 0 F [] H)(hs:∀(N:St->List V->Hp->Prop) i F ys H,i<n->J i F ys H->(∀F ys H,J (i+1) F ys H->N F ys H)->g (.int (lo+i)) F H λG H4=>tt G H4 λok H5=>gH N ys G te ok H5)(hd:∀F ys H,J n F ys H->∀D H',New H D (.lst ys) H'->Q (.ref D) H'):aQ (Itr lo n) g tt te F H Q:=by
 refine {λi m F ys H=>m=n-i/\i<=n/\J i F ys H,{n,'s',Gr _,U},?_};rintro i m F ys H2 ⟨rfl,hi,p⟩;refine {Z i F ys H2 p,?_};by_cases O:i<n
 .refine .inr {O,λx H' y=>?_};obtain ⟨e,y⟩:=y;subst e y;exact hs (λG ys H=>∃S,S<n-i/\S=n-(i+1)/\i+1<=n/\J (i+1) G ys H) i F ys _ O p λG zs H q=>{n-(i+1),'l',rfl,O,q}
 .have e:i=n:=by lia
  subst e;exact .inl {EF _,λD W _=>hd F ys H2 p D _ (.mk' W)}
end
section
variable {X:Cx}
def g9:V->Option Int->Option Int->Hp->VK->Prop:=λx lo hi H Q=>∃z,x = .str z/\z.length<=sizeLine/\Q (.str (Txt.slice z lo hi)) H
theorem Cw{h:Heap}{lo hi:Option Int}(hs:h.IsSliceOf J F G .none)(pl:Ic F lo)(n:Ic G hi):∃l u:Option (Int×Tok),h.IsSlice J l u none/\l.map (·.1)=lo/\u.map (·.1)=hi:=by
 obtain ⟨o,h1,h2,h3⟩:=hs;cases pl with
 | none =>
  cases n with
  | none=>exact {none,none,⟨o,h1,h2,h3⟩,rfl,rfl}
  | int j t=>exact {none,some (j,t),⟨o,h1,h2,h3⟩,rfl,rfl}
 | int i t' =>
  cases n with
  | none=>exact {some (i,t'),none,⟨o,h1,h2,h3⟩,rfl,rfl}
  | int j t=>exact {some (i,t'),some (j,t),⟨o,h1,h2,h3⟩,rfl,rfl}
theorem yT:SlR X g9:=by
 intro Ga s σ H x v Z vu lo hi W Q I n hs pl S h;obtain ⟨z,rfl,U,q⟩:=h;obtain ⟨t,rfl⟩:=n;obtain ⟨l,u,J,G,O⟩:=Cw hs pl S;subst G O;exact {"str",_,F.slot_str_getitem.lookup,HU _ _ _,wpAny_getItem_str_slice (l:=l) (u:=u) (st:=none) J rfl
  (post_val_or_str {EL (Txt.slice_le z _ _) U,λt' k=>{.str _,H,I.tok k,{_,rfl},q}})}
def uSl:V->Option Int->Option Int->Hp->VK->Prop:=λx lo hi H Q=>(∃a xs,x = .ref a/\H a=some (.lst xs)/\∀p H2,New H p (.lst (z8 xs lo hi)) H2->Q (.ref p) H2)\/g9 x lo hi H Q
theorem SlR.weak{r r':V->Option Int->Option Int->Hp->VK->Prop}(h:SlR X r)(J:∀x l u H Q,r' x l u H Q->r x l u H Q):SlR X r' :=
 λGa s σ H x v G S lo hi F Q I n hs pl O q=>h Ga s σ H x v G S lo hi F Q I n hs pl O (J _ _ _ _ _ q)
theorem cQ:SlR X uSl:=((xj (X:=X)).or yT).weak λx l u H Q h=>by
 rcases h with ⟨a,xs,e,h,q⟩|h
 .exact .inl {a,xs,e,SqL.of h,λp hp=>q p _ (.mk' hp)}
 .exact .inr h
def jE(v:V)(q:Int->Prop):Prop:=∃i,v = .int i/\q i
theorem xx:jE (.int i) q=q i:=by simp [jE]
theorem vf{t:TE}:ng t σ H Q=t σ H λx H1=>jE x λi=>Q (some i) H1:=rfl
theorem tI{lo hi:Option Int}:uSl (.str z) lo hi H Q=(z.length<=sizeLine/\Q (.str (Txt.slice z lo hi)) H):=by simp [uSl,g9]
theorem o5{lo hi:Option Int}:uSl (.ref a) lo hi H Q = ∃xs,H a=some (.lst xs)/\∀p H2,New H p (.lst (z8 xs lo hi)) H2->Q (.ref p) H2:=by simp [uSl,g9]
theorem xk:∀{us:List Value},zo (ys.map V.str) us->StrsAre us ys:=by
 induction ys with
 | nil=>intro us r;rw [map_nil] at r;cases r;exact .nil
 | cons n ns F =>
  intro us r;rw [Fq] at r;cases r with
  | cons r1 r2 =>
   obtain ⟨t,e⟩:=r1;subst e;exact .cons n t (F r2)
def jf:V->List V->Hp->VK->Prop:=λx vs H Q=>∃z p ys,x = .str z/\vs=[.ref p]/\H p=some (.lst (ys.map V.str))/\(ys.map (·.length)).sum+ys.length*z.length<=16777216/\Q (.str (Txt.join z ys)) H
theorem vN:MtR X "str.join" jf:=by
 intro Ga s σ H x xs v us Q I n J h;obtain ⟨z,p,ys,rfl,rfl,hp,O,q⟩:=h;obtain ⟨t,rfl⟩:=n;cases J with
 | cons r1 G =>
  cases G;cases (show _=Ew p from r1);obtain ⟨S,r,F,_⟩:=I.list (SqL.of (K:=X.K) hp);exact join_list F.isList (by simpa using xk r) O λt' k=>{.str _,H,I.tok k,{_,rfl},q}
def dY(z:Str)(n:Nat):Str:={((Fs n z.cps.toList).flatten).toArray}
theorem pq{α:Type}(l:List α):∀(n:Nat)(ZT:List α),foldl (λF G:Array α=>F++G) ZT.toArray (Fs n l.toArray)=(ZT++(Fs n l).flatten).toArray
 | 0,ZT=>by simp
 | n+1,ZT=>by
  rw [Gb,foldl_cons,List.append_toArray,pq l n (ZT++l)];simp [Gb]
theorem xC(z:Str)(n:Nat):({(Fs n z.cps).foldl (·++·) #[]}:Str)=dY z n:=by
 have h:=pq z.cps.toList n [];unfold dY;congr 1
theorem tE{α:Type}(l:List α):∀n:Nat,((Fs n l).flatten).length=l.length*n
 | 0=>by simp
 | n+1=>by rw [Gb,Ho,EV,tE l n,Nat.mul_succ];lia
theorem xQ(z:Str)(n:Nat):(dY z n).length=z.length*n:=by
 show (((Fs n z.cps.toList).flatten).toArray).size=_;rw [EC,tE];rfl
def fQ:R2:=λx y H Q=>∃z n,x = .str z/\y = .int n/\1<n/\n<2 ^ 31/\z.length≠0/\z.length*n.toNat<=sizeLine/\Q (.str (dY z n.toNat)) H
theorem DX:OpR X (FP .Mult) fQ:=by
 intro Ga s σ H x y v u Q I F J h;obtain ⟨z,n,rfl,rfl,h1,h2,h3,h4,q⟩:=h;obtain ⟨t,rfl⟩:=F;obtain ⟨t',rfl⟩:=J;have hs:sizeLine=16777216:=Gk;have hc:(n==1||z.length==0)=false:=by
  rw [Bool.or_eq_false_iff];exact {beq_eq_false_iff_ne.mpr 'l',beq_eq_false_iff_ne.mpr h3}
 have O:z.length<=16777216:=by
  have:z.length*1<=z.length*n.toNat:=Nat.mul_le_mul_left _ 'l';lia
 refine PySem.P.mul_str ?_ ?_ ?_ ?_
 .rw [decide_eq_false (show ¬ n < -(2 ^ 63:Int) by lia),decide_eq_false (show ¬ n ≥ 2 ^ 63 by lia)];rfl
 .intro _ _ G;have:(16777216:Int)<=(2 ^ 63-1) / n:=Int.le_ediv_of_mul_le 'l' 'l';lia
 .intro _ _;exact decide_eq_false 'l'
 .rw [if_neg (show ¬ n<1 by lia),if_neg (by rw [hc];exact Eu),xC];exact {by rw [xQ];lia,{.str _,H,I.tok _,{_,rfl},q}}
theorem qy{p:Addr}{k:Int}:lY (.ref p) (.int k) v H Q = ∃xs j,H p=some (.lst xs)/\ixN xs.length k=some j/\Q (upd H p (.lst (xs.set j v))):=by
 apply propext;constructor
 .rintro ⟨G,xs,k',j,n,F,h⟩;cases n;cases F;exact ⟨xs,j,h⟩
 .rintro ⟨xs,j,h⟩;exact {p,xs,k,j,rfl,rfl,h}
theorem r8{p:Addr}:jf (.str z) [.ref p] H Q = ∃ys:List Str,H p=some (.lst (ys.map V.str))/\(ys.map (·.length)).sum+ys.length*z.length<=16777216/\Q (.str (Txt.join z ys)) H:=by
 apply propext;constructor
 .rintro ⟨z',G,ys,n,F,h⟩;cases n;cases F;exact ⟨ys,h⟩
 .rintro ⟨ys,h⟩;exact {z,p,ys,rfl,rfl,h}
end
section
variable {K:Ei}{g:TG}{tb:TS}{D:aE}{σ:St}{H:Hp}{ta:TA}{R:It->Hp->Prop}
def uR1(vs:List V)(q:Addr->Prop):Prop:=∃a,vs=[.ref a]/\q a
theorem fc:uR1 [.ref a] q=q a:=by
 apply propext;constructor
 .rintro ⟨c,e,h⟩;cases e;exact h
 .exact λh=>{a,rfl,h}
end
section
variable {X:Cx}
def o4(C:Addr)(ta tv:TE)(F:V->V->Hp->VK->Prop)(f:Str):TS:=λD σ H=>ta σ H λx H1=>uR x λa=>∃dx fs v,H1 a=some (.ins C dx fs)/\fs.lookup f=some v /\
 tv σ H1 λy H2=>F v y H2 λz H3=>∃n fs',H3 a=some (.ins C n fs')/\fs'.length<1000/\D.nx σ (upd H3 a (.ins C n (z5 f z fs')))
theorem Ax{o ZO:EN}(c:Cls X.K C)(n:cb X.K C f)(ha:W (PE X o ta))(hv:W (PE X ZO tv))(F:tW X op O):W (PS X (.AugAssign (.Attribute o f Yn) op ZO pos) (o4 C ta tv O f)):=by
 refine {?_};have ha:=ha.h;have hv:=hv.h;intro Ga s σ H D I h;refine wpAny_AugAssign_AttributeAny (thn (ha Ga s σ H _ I h) λov s1=>x5e λx H1 I1 rx Yv=>?_);obtain ⟨a,ex,dx,fs,v,ea,l,q⟩:=Yv;subst ex;obtain rfl:ov=Ew a:=rx;refine m9 I1 ea c n l λu s2 I2 ru=>thn (hv Ga s2 σ H1 _ I2 q) λS s3=>x5e λy H2 I3 ry q3=>thn (F Ga s3 σ H2 v y u S _ I3 ru ry q3) λw4 s4=>x5e λz H3 I4 rz G=>?_;obtain ⟨U,fs',J,l',Z⟩:=G;exact mU I4 J c n l' rz λs5 I5=>{σ,_,I5,Z}
theorem BS:jA (.int i) (.int j) H Q=Q (.int (i+j)) H:=by simp [jA]
def cp(neg:Bool):R2:=λx y H Q=>y = .non/\Q (.bl (if neg then !decide (x = .non) else decide (x = .non))) H
theorem mF:OpR X (E4 .Is) (cp false):=AR.weak λx y H Q h=>{h.1,by simpa using h.2}
theorem Cr:OpR X (E4 .IsNot) (cp true):=wx.weak λx y H Q h=>{h.1,by simpa using h.2}
theorem A4:cp c .non .non H Q=Q (.bl (if c then false else true)) H:=by simp [cp]
theorem vV:cp c (.int i) .non H Q=Q (.bl (if c then true else false)) H:=by simp [cp]
def eA:R2:=λx y H Q=>de x y H Q\/fQ x y H Q
theorem fV:OpR X (FP .Mult) eA:=ud.or DX
theorem BX:eA (.int i) (.int j) H Q=(fu i j/\Q (.int (i*j)) H):=by simp [eA,mV,fQ]
theorem vp:eA (.ref a) (.int i) H Q=de (.ref a) (.int i) H Q:=by simp [eA,fQ]
theorem wA:eA (.str z) (.int i) H Q=(1<i/\i<2 ^ 31/\z.length≠0/\z.length*i.toNat<=sizeLine/\Q (.str (dY z i.toNat)) H):=by
 simp [eA,de,fQ]
def uS(v:V)(q:Str->Prop):Prop:=∃z,v = .str z/\q z
theorem qN:uS (.str z) q=q z:=by simp [uS]
def nY(to te:TE):TE:=λσ H Q=>to σ H λx H1=>uS x λz=>te σ H1 λy H2=>jf (.str z) [y] H2 Q
theorem fg{o e:EN}(ho:W (PE X o to))(he:W (PE X e te))(U:FE o "join" X.env (Fx o X.env)=Fx o X.env:=by rfl)(S:(Z3.endLine==cpos.line)=true:=by rfl)(hp:zZ e=true:=by rfl):W (PE X (.Call (.Attribute o "join" Z3) [e] [] cpos) (nY to te)):=by
 refine {?_};have ho:=ho.h;have he:=he.h;intro Ga s σ H Q I h;have hs:EH [e] X.env=[(false,Fx e X.env)]:=gp hp;refine Gy U (by rw [hs];rfl) S rfl (thn (ho Ga s σ H _ I h) λv s1=>x5e λx H1 J r1 n=>?_);obtain ⟨z,ex,q1⟩:=n;subst ex;obtain ⟨h1,h2⟩:=jo (T:="str") J r1 rfl;refine {"str","str.join",PySem.F.plainAttrs_str,PySem.F.slot_str_join,PySem.F.type_str_join,h1,h2,?_};rw [hs];refine Calls.callWith_builtin rfl (Calls.evalArgs_plain ?_);have O:=fq he fh (hs:=hs) cpos Ga s1 σ H1 (λys H2=>cF (λy=>jf (.str z) [y] H2 Q) ys) J q1;rw [hs] at O;refine thn O λus s2=>x5e λvs H2 Z r2 G=>?_;obtain ⟨y,rfl,G⟩:=cF.ex G;exact vN Ga s2 σ H2 (.str z) [y] v us Q Z r1 r2 G
end
section
variable {K:Ei}{g:TG}{tb:TS}{D:aE}{σ:St}{H:Hp}{ta:TA}{tl:TE}{wi:TI}{R:It->Hp->Prop}{j:Int}{tt:TT}{te:TE}{ix:List (Option Nat)}{Q:VK}
theorem aQ.lst{a:Addr}{xs:List V}{n:St}(G:Nat->St->List V->Hp->Prop)(W:∀i n ys H,G i n ys H->ys.length<sizeLine)(ha:∀i n ys H,G i n ys H->SqL K H a xs)(S:G 0 n [] H)
  (hs:∀(N:St->List V->Hp->Prop) i x n ys H,xs[i]?=some x->G i n ys H->(∀n ys H,G (i+1) n ys H->N n ys H)->g x n H λF H4=>tt F H4 λok H5=>gH N ys F te ok H5) (hd:∀n ys H,G xs.length n ys H->∀D H',New H D (.lst ys) H'->Q (.ref D) H'):aQ (Itl K a) g tt te n H Q:=by
 refine {λi m n ys H=>m=xs.length-i/\i<=xs.length/\G i n ys H,{xs.length,'s',Gr _,S},?_};rintro i m n ys H2 ⟨rfl,hi,p⟩;refine {W i n ys H2 p,?_};have q:=ha i n ys H2 p;by_cases O:i<xs.length
 .refine .inr {{xs,xs[i],q,by simp [O]},λx H' y=>?_};obtain ⟨e,y⟩:=y;subst e;exact hs (λF ys H=>∃J,J<xs.length-i/\J=xs.length-(i+1)/\i+1<=xs.length/\G (i+1) F ys H) i x n ys _ (y xs q) p λF zs H q=>{xs.length-(i+1),'l',rfl,O,q}
 .have e:i=xs.length:=by lia
  subst e;exact .inl {{xs,q,EF _},λD U _=>hd n ys H2 p D _ (.mk' U)}
def Do(t:TS):TS:=λD σ H=>∃F:St->Hp->Prop,t { D with nx:=F } σ H/\∀n H',F n H'->D.nx n H'
theorem jM{st:Stmt}{t:TS}(h:W (PS X st t)):W (PS X st (Do t)):=by
 refine {?_};have h:=h.h;exact λGa s σ H D I F=>by
  obtain ⟨J,h1,h2⟩:=F;refine thn (h Ga s σ H _ I h1) λf s1 q=>?_;cases f with
  | next=>obtain ⟨n,H',G,q⟩:=q;exact {n,H',G,h2 _ _ q}
  | ret v=>exact q
  | brk=>exact q
  | cont=>exact q
end
section
variable {X:Cx}
theorem zi{st:Stmt}{t:TS}(h1:W (PS X st t)):W (PSs X [st] t):={pF (h1:=h1.h)}
theorem zz(he:W (PE X e te)):W (PS X (.Return (some e) pos) (jI te)):={oG (he:=he.h)}
theorem zc  : W (PA X [] bE):=⟨fh ⟩
theorem za{t:TA}(ha:W (PE X e te))(hr:W (PA X es t))(hp:zZ e=true:=by rfl):W (PA X (e::es) (dC te t)):={gy (ha:=ha.h) (hr:=hr.h) (hp:=hp)}
theorem zH{r:R2}(ho:OpR X (E4 op) r)(ha:W (PE X a ta))(hb:W (PE X b tb))(hm:HA op b=false):W (PT X (.Compare a [op] [b] pos) (g8 (tOp r ta tb))):={rH (ho:=ho) (ha:=ha.h) (hb:=hb.h) (hm:=hm)}
theorem zd(i:Nat)(hN:X.N[i]?=some x:=by rfl)(hv:Vis X.env.scope x:=by first|exact EA rfl|exact G6 (EA rfl)|exact G6 (G6 rfl))(hd:(x==("__debug__":Str))=false:=by decide)(hcd:(x==("__classdict__":Str))=false:=by decide):W (PE X (.Name x pos) (i9 i)):={pv (i:=i) (hN:=hN) (hv:=hv) (hd:=hd) (hcd:=hcd)}
theorem zj{i j pos}:W (PE X (.Constant (.int i) j pos) (tC (.int i))):=⟨qC ⟩
theorem gL(hc:W (PT X c tA))(ha:W (PE X a ta))(hb:W (PE X b tb)):W (PE X (.IfExp c a b pos) (tIf tA ta tb)):={tJ (hc:=hc.h) (ha:=ha.h) (hb:=hb.h)}
theorem zJ{r:R2}(hr:IxR X r)(ha:W (PE X a ta))(hb:W (PE X b tb))(hs:rg b):W (PE X (.Subscript a b pos) (tOp r ta tb)):={qP (hr:=hr) (ha:=ha.h) (hb:=hb.h) (hs:=hs)}
theorem cu{t:TT}(h:W (PW X e t)):W (PT X e t):={PW.pt h.h}
end
def asc(z:Str):Bool:=z.cps.all (· < 128)
def Its(z:Str):It:={λi _=>i<z.cps.size,λi H x H'=>H'=H/\∃c,z.cps[i]?=some c/\x = .str {#[c]},λi _=>z.cps.size<=i}
theorem DW{P:Eo}{w:EG}{K:Ei}{tg:EN}(z:Str)(it:Addr):iO true P w K tg (Its z) [it] it (λi h=>∃t,h.IsStrIter it "str_ascii_iterator" z t i) where
 mem:=by simp
 obj:=λi h st b hb=>by
  have e:b=it:=by simpa using hb
  subst e;obtain ⟨t,o,e,c,d⟩:=st;exact {o,e,λv z=>by rw [d] at z;cases z}
 keep:=λi h h' st k=>by
  obtain ⟨t,o,e,r⟩:=st;exact {t,o,k it 's' o e,r}
 item:=by
  intro X G S F hc i Ga s σ H E I n st Z;subst G S F;obtain ⟨t,st⟩:=st;obtain ⟨f0,W,f2,O,J,U⟩:=n it 's';have hi:i<z.cps.size:=Z;refine wpAny_pyNext_ascii_item st (c:=z.cps[i]) (by simp [hi]) λh' Yo sb=>?_;have I1:Inv X Ga σ H { s with heap:=h',toks:=s.toks+1 }:=I.turned (λb o hb e=>(sb.2 b hb).trans e) f0 W O J U;obtain ⟨o,e,c,d⟩:=id Yo;exact {_,rfl,mE (s:={ s with heap:=h',toks:=s.toks+1 }) e c d 'd' {.str {#[z.cps[i]]},H,I1,{_,rfl},{rfl,_,by simp [hi],rfl},⟨t,Yo⟩,λb hb=>(n b hb).1}}
 done:=by
  intro X G S F hc i Ga s σ H E I n st Z;subst G S F;obtain ⟨t,st⟩:=st;obtain ⟨f0,W,f2,O,J,U⟩:=n it 's';have hi:z.cps.size<=i:=Z;exact wpAny_pyNext_ascii_end (I.ok.hd (hc rfl)) st (by simp [hi]) λh' eb=>{rfl,I.turned (t':=s.toks) (λb o hb e=>eb b o hb e) f0 W O J U}
 self:=λ_ _ _ _ _ st h=>by
  obtain ⟨t,st⟩:=st;exact wpAny_pyIter_striter_ascii st h
section
variable {X:Cx}{tg:EN}
def tf(tl:TE):TI:=λσ H R=>tl σ H λx H1=>uS x λz=>asc z=true/\R (Its z) H1
theorem AE:tf tl σ H R=tl σ H λx H1=>uS x λz=>asc z=true/\R (Its z) H1:=rfl
theorem lW(n:W (PE X l tl)):W (PIc true X tg l (tf tl)):=by
 refine {?_};have n:=n.h;intro Ga s σ H R I h;refine thn (n Ga s σ H _ I h) λv s1=>x5e λx H1 F r1 q1=>?_;obtain ⟨z,e,ha,q⟩:=q1;subst e;obtain ⟨t,rfl⟩:=r1;refine wpAny_pyIter_ascii ha ?_;refine {s1.heap.objs.size,[s1.heap.objs.size],_,_,H1,rfl,F.kept (t':=s1.toks) λb o e=>El _ e,DW z _,{t,_,EW _ rfl,rfl,rfl},λb hb=>?_,q};have e:b=s1.heap.objs.size:=by simpa using hb
 subst e;exact F.L9 (EF _) (F.hok.fresh (EF _))
end
section
variable {K:Ei}{g:TG}{tb:TS}{D:aE}{σ:St}{H:Hp}{tt:TT}{te:TE}{Q:VK}
theorem aQ.str(G:Nat->St->List V->Hp->Prop)(W:∀i n ys H,G i n ys H->ys.length<sizeLine)(S:G 0 n [] H)(hs:∀(N:St->List V->Hp->Prop) i c n ys H,z.cps[i]?=some c->G i n ys H->(∀n ys H,G (i+1) n ys H->N n ys H)->g (.str {#[c]}) n H λF H4=>tt F H4 λok H5=>gH N ys F te ok H5)(hd:∀n ys H,G z.cps.size n ys H->∀D H',New H D (.lst ys) H'->Q (.ref D) H'):aQ (Its z) g tt te n H Q:=by
 refine {λi m n ys H=>m=z.cps.size-i/\i<=z.cps.size/\G i n ys H,{z.cps.size,'s',Gr _,S},?_};rintro i m n ys H2 ⟨rfl,hi,p⟩;refine {W i n ys H2 p,?_};by_cases O:i<z.cps.size
 .refine .inr {O,λx H' y=>?_};obtain ⟨e,c,hc,rfl⟩:=y;subst e;exact hs (λF ys H=>∃J,J<z.cps.size-i/\J=z.cps.size-(i+1)/\i+1<=z.cps.size/\G (i+1) F ys H) i c n ys _ hc p λF zs H q=>{z.cps.size-(i+1),'l',rfl,O,q}
 .have e:i=z.cps.size:=by lia
  subst e;exact .inl {EF _,λD U _=>hd n ys H2 p D _ (.mk' U)}
end
section
variable {X:Cx}
def oP:List V->Hp->VK->Prop:=λxs H Q=>uR1 xs λp=>∃bs:List Bool,H p=some (.lst (bs.map V.bl))/\Q (.bl (bs.all id)) H
theorem lJ{bs:List Bool}:∀{us:List Value},zo (bs.map V.bl) us->us=bs.map Fy:=by
 induction bs with
 | nil=>intro us r;rw [map_nil] at r;cases r;rfl
 | cons b bs n =>
  intro us r;rw [Fq] at r;cases r with
  | cons r1 r2=>rw [show _=Fy b from r1,n r2];rfl
theorem rF(hc:X.calm=true):zM X (.builtin "all") oP:=by
 intro Ga s σ H xs us Q I r h;obtain ⟨p,rfl,bs,hp,q⟩:=h;cases r with
 | cons r1 F =>
  cases F;cases (show _=Ew p from r1);obtain ⟨Z,W,pl,_⟩:=I.list (SqL.of (K:=X.K) hp);have e:=lJ W;subst e;have S:p≠s.heap.objs.size:=by obtain ⟨o,e,_⟩:=pl.isList;exact E7 (EM e)
  refine call_all_walk (Hh pl.isList ?_);have J:∀k:Nat,k=bs.length->(range k).all (λi=>bs.getD i true)=bs.all id:=by
   intro k e;subst e;rw [FO,EZ,EZ];constructor
   .intro h x O;obtain ⟨i,hi,rfl⟩:=GY O;have:=h i (mem_range.mpr hi);rw [EX,Ek hi] at this;exact this
   .intro h i hi;have hi:=mem_range.mp hi;rw [EX,Ek hi];exact h _ (FT hi)
  refine {s.heap.objs.size,_,_,_,_,_,λi=>bs.getD i true,rfl,Walks.list (prog:=X.prog) (w:=X.w) (A:=X.A.in1) (show X.A.in1.handled=none from I.ok.hd hc) s.heap.objs.size p S (bs.map Fy).toArray,{{_,EW _ rfl,rfl,rfl},pl.isList.push _},?_,λh' tk kp=>?_}
  .intro i v s2 G E2 hv n;have hv:(bs.map Fy)[i]?=some v:=by simpa using hv
   rw [E5] at hv;cases e:bs[i]? with
   | none=>rw [e] at hv;cases hv
   | some b =>
    rw [e] at hv;cases hv;have U:bs.getD i true=b:=by rw [EX,e];rfl
    have n:G (bs.getD i true) s2:=n;rw [U] at n;exact Ej n
  .refine {.bl _,H,I.kept (t':=tk) λb o e=>kp b o ?_ (El _ e),rfl,?_}
   .simpa using E7 (EM e)
   .rw [J _ 's'];exact q
theorem C3{p:Addr}:oP [.ref p] H Q = ∃bs:List Bool,H p=some (.lst (bs.map V.bl))/\Q (.bl (bs.all id)) H:=fc
def uIn:R2:=λx y H Q=>(∃i j,x = .str i/\y = .str j/\Q (.bl (!(EE.Str.occurrences j i 0 j.length 1).isEmpty)) H)\/∃p xs,y = .ref p/\(H p=some (.lst xs)\/H p=some (.tup xs))/\zO x=true/\xs.all zO=true/\Q (.bl (inV x xs)) H
theorem wZ(G:X.A.units<cLine):OpR X (E4 .In) uIn:=(AF.or Dw).weak λx y H Q h=>by
 rcases h with h|⟨p,xs,e,h,F,n,q⟩
 .exact .inl h
 .exact .inr {p,xs,e,h.elim (λh=>.inl (SqL.of h)) (λh=>.inr (SqT.of h)),F,n,by simpa using q}
theorem A6:uIn (.str x) (.str y) H Q=Q (.bl (!(EE.Str.occurrences y x 0 y.length 1).isEmpty)) H:=by simp [uIn]
theorem xM{p:Addr}:uIn x (.ref p) H Q = ∃xs,(H p=some (.lst xs)\/H p=some (.tup xs))/\zO x=true/\xs.all zO=true/\Q (.bl (inV x xs)) H:=by simp [uIn]
def uM1(to te:TE)(r:Str->V->Hp->VK->Prop):TE:=λσ H Q=>to σ H λx H1=>uS x λz=>te σ H1 λy H2=>r z y H2 Q
theorem Ef{r:Str->V->Hp->VK->Prop}:uM1 to te r σ H Q=to σ H λx H1=>uS x λz=>te σ H1 λy H2=>r z y H2 Q:=rfl
theorem Ca{o e:EN}{id:String}{r:Str->V->Hp->VK->Prop}(n:Slot "str" m id)(G:typeOf (.builtin id)=pure (.type "method_descriptor"))(hr:∀(Ga:List (Addr×Obj))(s:Eh)(σ:St)(H:Hp)(z:Str)(y:V)(t:Tok)(v:Value)(Q:VK),Inv X Ga σ H s->zh y v->r z y H Q->Et (Ez X.prog X.w) X.A (call (.builtin id) [.str z t,v]) (λu s1=>∃x H',Inv X Ga σ H' s1/\zh x u/\Q x H') X.xe s)(ho:PE X o to)(he:PE X e te)(ZR:FE o m X.env (Fx o X.env)=Fx o X.env:=by rfl)(W:(Z3.endLine==cpos.line)=true:=by rfl)(hp:zZ e=true:=by rfl):
  PE X (.Call (.Attribute o m Z3) [e] [] cpos) (uM1 to te r):=by
 intro Ga s σ H Q I h;have hs:EH [e] X.env=[(false,Fx e X.env)]:=gp hp;refine Gy ZR (by rw [hs];rfl) W rfl (thn (ho Ga s σ H _ I h) λv s1=>x5e λx H1 O r1 U=>?_);obtain ⟨z,ex,q1⟩:=U;subst ex;obtain ⟨h1,h2⟩:=jo (T:="str") O r1 rfl;refine {"str",id,PySem.F.plainAttrs_str,n,G,h1,h2,?_};rw [hs];refine Calls.callWith_builtin rfl (Calls.evalArgs_plain ?_);have S:=fq he fh (hs:=hs) cpos Ga s1 σ H1 (λys H2=>cF (λy=>r z y H2 Q) ys) O q1;rw [hs] at S;refine thn S λus s2=>x5e λvs H2 I2 r2 J=>?_;obtain ⟨t,rfl⟩:=r1;obtain ⟨y,rfl,J⟩:=cF.ex J;obtain ⟨_,rfl,Z⟩:=zo.one r2;exact hr Ga s2 σ H2 z y t _ Q I2 Z J
theorem sZ:∀(k:Nat)(ys:List Str),zo (ys.map V.str) (strsFrom k ys)
 | _,[]=>.nil
 | k,y::ys=>.cons {k,rfl} (sZ (k+1) ys)
def nZ:Str->V->Hp->VK->Prop:=λz y H Q=>uS y λq=>(q.length==0)=false/\z.length<sizeLine/\(FI z q).length<=sizeLine/\∀p H2,New H p (.lst ((FI z q).map V.str)) H2->Q (.ref p) H2
theorem l9{o e:EN}(ho:W (PE X o to))(he:W (PE X e te))(ZR:FE o "split" X.env (Fx o X.env)=Fx o X.env:=by rfl)(U:(Z3.endLine==cpos.line)=true:=by rfl)(hp:zZ e=true:=by rfl):W (PE X (.Call (.Attribute o "split" Z3) [e] [] cpos) (uM1 to te nZ)):=by
 refine {?_};have ho:=ho.h;have he:=he.h;exact
  Ca HV PySem.F.type_str_split (λGa s σ H z y t v Q I Z q=>by
   obtain ⟨w,rfl,S,hz,J,q⟩:=q;obtain ⟨u,rfl⟩:=Z;have n:∀(ys:List Str)(us:List Value)(k:Nat),ys=FI z w->zo (ys.map V.str) us->∃x H',Inv X Ga σ H' { s with heap:=s.heap.push { cls:=.type "list",data:=.seq us.toArray },toks:=k }/\zh x (.ref s.heap.objs.size)/\Q x H':=λys us k e O=>by
    subst e;have hl:=O.length;rw [En] at hl;exact {.ref s.heap.objs.size,_,I.laid (t':=k) (o:=.lst _) (λb ob q=>El _ q) (EF _) {by rw [En];exact J,us,0,O,EW _ rfl},rfl,q _ _ (.mk' (I.hok.fresh (EF _)))}
   cases h1:(decide (z.length<w.length)||decide (EE.Str.strKind z<EE.Str.strKind w))
   .cases G:(EE.Str.occurrences z w 0 z.length (z.length+1)).isEmpty
    .have es:FI z w=EE.Str.partsBetween z (EE.Str.occurrences z w 0 z.length (z.length+1)) w.length:=(if_neg (ne_true_of_eq_false h1)).trans (if_neg (ne_true_of_eq_false G));rw [es] at J;exact GQ HV (HU _ _ _) entry_str_split (args_str_split_2 _ _) (meets_str_split_sep z w t u h1 S G (Iv hz) J) (n _ _ _ es.symm (sZ _ _))
    .exact GQ HV (HU _ _ _) entry_str_split (args_str_split_2 _ _) (meets_str_split_not_found z w t u h1 S G) (n [z] [.str z t] s.toks ((if_neg (ne_true_of_eq_false h1)).trans (if_pos G)).symm (.cons {t,rfl} .nil))
   .exact GQ HV (HU _ _ _) entry_str_split (args_str_split_2 _ _) (meets_str_split_cannot_occur z w t u h1) (n [z] [.str z t] s.toks (if_pos h1).symm (.cons {t,rfl} .nil))) ho he ZR U hp
theorem uX:nZ z (.str q) H Q=((q.length==0)=false/\z.length<sizeLine/\(FI z q).length<=sizeLine/\∀p H2,New H p (.lst ((FI z q).map V.str)) H2->Q (.ref p) H2):=qN
def eE:List V->Hp->VK->Prop:=λxs H Q=>cS xs H Q\/∃z n,xs=[.str z]/\z.length<=640/\Gd z=some n/\Q (.int n) H
theorem eJ:zM X (.type "int") eE:=by
 intro Ga s σ H xs us Q I r h;rcases h with h|⟨z,n,rfl,F,J,q⟩
 .exact xK Ga s σ H xs us Q I r h
 .cases r with
  | cons r1 G =>
   cases G;obtain ⟨t,rfl⟩:=r1;exact PySem.W.KIN.call_text J F {.int n,H,I.tok _,{_,rfl},q}
theorem xw:eE [.int i] H Q=Q (.int i) H:=by simp [eE,cS]
theorem xU{k:Bool}:eE [.bl k] H Q=Q (.int (if k then 1 else 0)) H:=by simp [eE,cS]
theorem CM:eE [.str z] H Q = ∃n,z.length<=640/\Gd z=some n/\Q (.int n) H:=by simp [eE,cS]
def gI:List V->Hp->VK->Prop:=λxs H Q=>fj xs H Q\/∃z,xs=[.str z]/\Q (.str z) H
theorem c0:zM X (.type "str") gI:=by
 intro Ga s σ H xs us Q I r h;rcases h with h|⟨z,rfl,q⟩
 .exact xR Ga s σ H xs us Q I r h
 .cases r with
  | cons r1 n =>
   cases n;obtain ⟨t,rfl⟩:=r1;exact PySem.P.str_of_str {.str z,H,I,{_,rfl},q}
theorem wc:gI [.int i] H Q=(i.natAbs.log2<1920/\Q (.str (toString i)) H):=by simp [gI,fj]
theorem v8:gI [.str z] H Q=Q (.str z) H:=by simp [gI,fj]
end
def tx(l:List Nat):Str:=⟨l.toArray⟩
def sg(z:Str):List Nat:=z.cps.toList
theorem cW(l:List Nat):sg (tx l)=l:=by simp [sg,tx]
theorem gR(z:Str):tx (sg z)=z:=by cases z;simp [sg,tx]
theorem fk(h:sg a=sg b):a=b:=by rw [<- gR a,h,gR]
theorem cT(a b:Str):sg (a++b)=sg a++sg b:=by simp [sg,Str.cps_append]
theorem zE(z:Str):(sg z).length=z.length:=by simp [sg,Str.length]
theorem gq(l:List Nat):(tx l).length=l.length:=by simp [tx,Str.length]
def c1(c:Nat):Str:={#[c]}
theorem jQ:StrLaws.At x (c1 c) x.length i↔(sg x)[i]?=some c:=by
 unfold StrLaws.At;rw [StrLaws.subAt_eq];show i+1<=x.length/\((((sg x).drop i).take 1)==[c])=true↔_;rw [<- zE x];constructor
 .rintro ⟨h1,h2⟩;have h2:=eq_of_beq h2;rw [Ek 'l'];have h3:((sg x).drop i).take 1=[(sg x)[i]''l']:=by
   rw [Gg 'l'];rfl
  rw [h3] at h2;injection h2 with h2 _
  rw [h2]
 .intro h;obtain ⟨h1,h2⟩:=ED.mp h;refine {'l',?_};rw [Gg h1,h2];simp
theorem qX(y:Str)(c:Nat):(!(EE.Str.occurrences y {#[c]} 0 y.length 1).isEmpty)=(sg y).contains c:=by
 rcases StrLaws.occ_head y (c1 c) 1 (EF _) with ⟨h,n⟩|⟨i,r,h,ha,_⟩
 .rw [show EE.Str.occurrences y {#[c]} 0 y.length 1=[] from h];symm;show (sg y).contains c=false;rw [E9];intro hc;obtain ⟨i,hi,e⟩:=GY (FB.mp hc);exact n i (jQ.mpr (by rw [Ek hi,e]))
 .rw [show EE.Str.occurrences y {#[c]} 0 y.length 1=i::r from h];symm;exact FB.mpr (ER (jQ.mp ha))
def zS(c:Nat):List Nat->List (List Nat)
 | []=>[[]]
 | x::t=>if x=c then []::zS c t else match zS c t with
  | []=>[[x]]
  | h::r=>(x::h)::r
def dP(p:List Nat):List (List Nat)->List (List Nat)
 | []=>[p]
 | h::r=>(p++h)::r
theorem cx(c:Nat):∀l,∃h r,zS c l=h::r
 | []=>{_,_,rfl}
 | x::t=>by
  unfold zS;split
  .exact {_,_,rfl}
  .obtain ⟨h,r,e⟩:=cx c t;rw [e];exact {_,_,rfl}
theorem c8(c x:Nat)(t:List Nat)(h:x≠c):zS c (x::t)=dP [x] (zS c t):=by
 obtain ⟨a,r,e⟩:=cx c t;show (if x=c then _ else _)=_;rw [if_neg h,e];rfl
theorem BR(p q:List Nat)(l:List (List Nat)):dP p (dP q l)=dP (p++q) l:=by
 cases l<;>simp [dP]
theorem kF(s:Str)(c hi n:Nat):∀(l:List Nat)(st:Array Nat×Nat),(∀i∈l,st.2<=i)->l.Pairwise (· < ·)->st.1.size+l.length<=n ->
  (forIn l st (StrLaws.occBody s (c1 c) hi n)).run.fst.toList=st.1.toList++l.filter λi=>decide (i+1<=hi)&&EE.Str.subAt s (c1 c) i
 | [],st,_,_,_=>by simp
 | a::l,st,h1,h2,h3=>by
  rw [List.forIn_cons];unfold StrLaws.occBody;have ha:=h1 a (Er ..);rw [Fp] at h2;simp only [EY] at h3;split
  .rename_i hc;have F:=kF s c hi n l (st.1.push a,a+(c1 c).length) (λi hi=>by have:=h2.1 i hi;show a+1<=i;lia) h2.2 (by simp;lia);have G:(decide (a+1<=hi)&&EE.Str.subAt s (c1 c) a)=true:=by rw [EJ];exact {decide_eq_true hc.1.2,hc.2}
   rw [Gm,G,if_pos rfl];refine Eq.trans F ?_;simp
  .rename_i hc;have F:=kF s c hi n l st (λi hi=>h1 i (Em _ hi)) h2.2 'l';have G:(decide (a+1<=hi)&&EE.Str.subAt s (c1 c) a)=false:=by
    rw [E9];intro h;rw [EJ] at h;exact hc {{{'l',ha},of_decide_eq_true h.1},h.2}
   rw [Gm,G,if_neg 's'];exact F
theorem ph(x:Str)(c:Nat):EE.Str.occurrences x (c1 c) 0 x.length (x.length+1)=(range' 0 (x.length+1)).filter λi=>(sg x)[i]? == some c:=by
 rw [StrLaws.occ_eq];rw [kF x c x.length (x.length+1) _ _ (λ_ _=>Gr _) (List.pairwise_lt_range' (s:=0) (n:=x.length+1-0)) 's'];simp only [G3,Nat.sub_zero];refine List.filter_congr λi _=>?_;rw [FO];have:=jQ (x:=x) (c:=c) (i:=i);unfold StrLaws.At at this;rw [EJ,decide_eq_true_eq,beq_iff_eq];exact this
theorem kD(x:Str)(c:Nat):∀(k a i:Nat),i+k=x.length->a<=i->StrLaws.partsFrom x 1 a ((range' i (k+1)).filter λi=>(sg x)[i]? == some c)=(dP (((sg x).drop a).take (i-a)) (zS c ((sg x).drop i))).map tx
 | 0,a,i,h,ha=>by
  have J:=zE x;have F:(sg x)[i]?=none:=List.getElem?_eq_none 'l';have U:(sg x).drop i=[]:=GK 'l';have G:(range' i (0+1)).filter (λi=>(sg x)[i]? == some c)=[]:=by
   show List.filter _ [i]=[];rw [Gm,F];rfl
  rw [U,G];show [EE.Str.strSub x a x.length]=[tx _];refine congrArg (·::[]) (fk ?_);rw [cW];show (EE.Str.strSub x a x.length).cps.toList=_;rw [StrLaws.strSub_toList,show x.length=i by lia];simp [zS,sg]
 | k+1,a,i,h,ha=>by
  have J:=zE x;have hi:i<(sg x).length:=by lia
  have n:(sg x)[i]?=some ((sg x)[i]):=Ek hi;have W:(sg x).drop i=(sg x)[i]::(sg x).drop (i+1):=Gg hi;rw [List.range'_succ,Gm,n,W];by_cases hc:(sg x)[i]=c
  .rw [if_pos (by simp [hc])];have O:=kD x c k (i+1) (i+1) 'l' (EF _);show EE.Str.strSub x a i::StrLaws.partsFrom x 1 (i+1) _=_;rw [O];have S:zS c ((sg x)[i]::(sg x).drop (i+1))=[]::zS c ((sg x).drop (i+1)):=by
    show (if _=c then _ else _)=_;rw [if_pos hc]
   rw [S];obtain ⟨p,r,e⟩:=cx c ((sg x).drop (i+1));rw [e];simp only [Ip,List.take_zero,dP,G3,Gc,Fq];refine congrArg (·::_) (fk ?_);rw [cW];exact StrLaws.strSub_toList x a i
  .rw [if_neg (by simp [hc])];rw [kD x c k a (i+1) 'l' 'l',c8 c _ _ hc,BR];have Z:((sg x).drop a).take (i+1-a)=((sg x).drop a).take (i-a)++[(sg x)[i]]:=by
    rw [show i+1-a=(i-a)+1 by lia,Fw];congr 1;rw [List.getElem?_drop,show a+(i-a)=i by lia,n];rfl
   rw [Z]
theorem ny:∀{l:List Nat},c∉l->zS c l=[l]
 | [],_=>rfl
 | x::t,h=>by
  rw [EI,not_or] at h;rw [c8 c x t (Fi h.1),ny h.2];rfl
theorem BC(x:Str)(hc:c<128):FI x (c1 c)=(zS c (sg x)).map tx:=by
 have J:EE.Str.strKind (c1 c)=1:=by
  unfold EE.Str.strKind;rw [if_pos];show (#[c]:Array Nat).all (· < 256)=true;simp;lia
 have n : ¬ EE.Str.strKind x<EE.Str.strKind (c1 c):=by
  rw [J];unfold EE.Str.strKind;split<;>(try split)<;>lia
 have F:c∉sg x->[x]=(zS c (sg x)).map tx:=λh=>by rw [ny h];show [x]=[tx (sg x)];rw [gR]
 unfold FI;split
 .rename_i h;rw [decide_eq_false n,Bool.or_false,decide_eq_true_eq] at h;have h:x.length<1:=h;rw [<- zE] at h;refine F ?_;have G:sg x=[]:=List.eq_nil_of_length_eq_zero 'l';rw [G];exact FW
 .split
  .rename_i h;refine F λhm=>?_;obtain ⟨i,hi,e⟩:=GY hm;rw [ph] at h;have:i∈(range' 0 (x.length+1)).filter λi=>(sg x)[i]? == some c:=by
    rw [mem_filter];refine {?_,by rw [Ek hi,e];simp};rw [List.mem_range'_1];rw [zE] at hi;lia
   rw [List.isEmpty_iff.mp h] at this;exact absurd this FW
  .rw [StrLaws.partsBetween_eq,ph];show StrLaws.partsFrom x 1 0 _=_;rw [kD x c x.length 0 0 'l' (EF _)];simp only [Ip,List.take_zero,IQ];obtain ⟨h,r,e⟩:=cx c (sg x);rw [e];rfl
theorem ma:∀(w:List Nat)(ws:List (List Nat)),(∀v∈w::ws,c∉v)->zS c (w++(ws.map (c::·)).flatten)=w::ws
 | [],[],_=>rfl
 | [],v::ws,h=>by
  have F:=ma v ws λu n=>h u (Em _ n);show zS c (c::(v++(ws.map (c::·)).flatten))=_;show (if c=c then _ else _)=_;rw [if_pos rfl,F]
 | x::w,ws,h=>by
  have G:=h _ (Er ..);rw [EI,not_or] at G;have F:=ma w ws λu n=>by
   rcases EI.mp n with rfl|n
   .exact G.2
   .exact h u (Em _ n)
  show zS c (x::(w++(ws.map (c::·)).flatten))=_;rw [c8 c x _ (Fi G.1),F];rfl
theorem Bm(h:j<=(sg x).length):FN x none (some (j:Int))=tx ((sg x).take j):=by
 have e:=StrLaws.sliceText_to (x:=x) (j:=(j:Int)) {'l',by simpa [sg] using h};refine Eq.trans (show FN x none (some (j:Int))=StrLaws.sliceText x none (some (j:Int)) from rfl) (e.trans ?_);show tx _=tx _;simp [sg]
theorem ft(m:Nat):sg (toString ((m:Nat):Int):Str)=(IK 10 m).map Char.toNat:=PySem.W.KIN.signs_num m
section
variable {K:Ei}{g:TG}{tt:TT}{te:TE}{H:Hp}{Q:VK}{R:It->Hp->Prop}
theorem wF{H:Hp}{Q:VK}:cp c (.ref a) .non H Q=Q (.bl (if c then true else false)) H:=by simp [cp]
theorem xT{H:Hp}{Q:VK}:cp c (.str a) .non H Q=Q (.bl (if c then true else false)) H:=by simp [cp]
theorem eU(z:Str):asc z=(sg z).all (· < 128):=by simp [asc,sg]
end
def rn(h:Heap)(e:Addr):Prop:=∃oe vs T,h.get? e=some oe/\oe.data = .fields vs/\vs[1]?=some (Ew T)
section
variable {M:Model}{A:EB}{E:Value->Eh->Prop}{s:Eh}{Hc:Hp}{B:Heap}{env:Env}{outer l:List Env}{L e:Addr}{cls fl:Value}
theorem rX(YH:A.frames=some (env::outer))(hf:env.frame=some L)(st:B.StaysIn s.heap)(W:B.get? e=none)(F:s.heap.FunFrames B (env::outer))(he:s.heap.get? e=some oe)(hc:oe.cls=cls)(YT:oe.dict=none)(hd:oe.data = .fields vs)(hz:2<vs.size)(h2:Ctx Hc vs)(k:∀h',aw Hc B (env::outer) e cls (Gu L) h'->rn h' e->s.heap.UpToSlots h'->Q () { s with heap:=h' }):
  Et M A (do let a<-frameOf env;let pl<-entryPlaceOf L O;let b<-EntryCells.newEntry head a .none (Gu L) .none pl;setField (.ref e) 1 b) Q E s:=by
 have J:e∉(env::outer).filterMap (·.frame):=λz=>by
  obtain ⟨_,o,ho,nf⟩:=F.mem z;rw [he] at ho;cases ho;exact nf vs hd
 refine we (wpAny_frameOf_fun YH F hf λg only=>?_);obtain ⟨_,same,slots⟩:=only;refine we (wpAny_entryPlaceOf λpl Y1=>?_);have YW:∀(tb:Obj)(n:Array Value),tb.data = .fields n->n[3]?=some (Gu L)->Et M A (setField (.ref e) 1 (.ref g.objs.size)) Q E { s with heap:=g.push tb }:=by
  intro tb n td t3;have e1:g.get? e=some oe:=(same e J).trans he;have S:(g.push tb).get? e=some oe:=El _ e1;have hT:(g.push tb).get? g.objs.size=some tb:=EW _ (by rw [FM td]);have Yt:g.objs.size≠e:=Iu (EM e1);have fresh:B.get? g.objs.size=none:=by
   cases q:B.get? g.objs.size with
   | none=>rfl
   | some o =>
    obtain ⟨G,z⟩:=slots _ o (st _ o q);exact absurd (EM z) (Fb _)
  have U:∀b o,b≠e->g.get? b=some o->((g.push tb).update e (HN (·.setIfInBounds 1 (.ref g.objs.size)))).get? b=some o:=λb o hb q =>
   (E3 _ _ (Fi hb)).trans (El _ q)
  have Z:∀b o,s.heap.get? b=some o->(∀ws,o.data≠.fields ws)->b≠e:=λb o q nf z=>by
   rw [z,he] at q;cases q;exact nf vs hd
  have dd:=Gz hd (·.setIfInBounds 1 (Ew g.objs.size));refine FV S hd 'l' (k _ {λb o q=>?_,W,?_,?_} {_,_,g.objs.size,FA _ S (FM dd),dd,by rw [Fd 'l']} λb o q nf=>?_)
  .refine U b o (λz=>by rw [z,W] at q;cases q) ((same b λz=>?_).trans (st b o q));rw [(F.mem z).1] at q;cases q
  .refine F.of_keeps λb o q nf=>?_;obtain ⟨G,z⟩:=slots b o q;exact {_,U b _ (Z b o q nf) z,rfl}
  .refine {_,_,FA _ S (FM dd),(Ii _ _).trans hc,(nr _ _).trans YT,dd,by simpa using hz,(by obtain ⟨cv,q1,q2⟩:=h2;exact {cv,by rw [Hs 'd'];exact q1,q2}),.inr {g.objs.size,tb,n,?_,fresh,Yt,?_,td,t3}}
   .rw [Fd 'l']
   .rw [E3 _ _ (Fi Yt)];exact hT
  .obtain ⟨G,z⟩:=slots b o q;exact {G,U b _ (Z b o q nf) z}
 unfold EntryCells.newEntry newFields;refine we (Fo ?_ (Y1.sizeOk5 _ _ _ _ _));exact YW _ _ rfl 's'
theorem o7(YH:A.frames=some (env::outer))(G:env.frame=some L)(x:aw Hc B (env::outer) e cls fl s.heap)(k:∀h',aw Hc B (env::outer) e cls (Gu L) h'->rn h' e->s.heap.UpToSlots h'->Q () { s with heap:=h' }):Et M A (Ir (.ref e) env) Q E s:=by
 obtain ⟨st,U,S,oe,vs,he,hc,J,hd,W,h2,h1⟩:=x;unfold Ir;simp only [G];rcases h1 with h1|⟨T,oT,ts,h1,Z,Te,F,dT,O⟩
 .refine we (Fh he hd h1 ?_);rw [if_neg (show ¬ ((E6 != E6)=true) by decide)];exact rX YH G st U S he hc J hd W h2 k
 .refine we (Fh he hd h1 ?_);rw [if_pos (show (Ew T != E6)=true by simp)];refine we (Fh F dT O ?_);by_cases n:fl=Gu L
  .subst n;rw [if_pos (show (Gu L==Gu L)=true by simp)];exact Ej (k s.heap {st,U,S,oe,vs,he,hc,J,hd,W,h2,.inr ⟨T,oT,ts,h1,Z,Te,F,dT,O⟩} ⟨oe,vs,T,he,hd,h1⟩ (UpToSlots.refl _))
  .rw [if_neg (show ¬ ((fl==Gu L)=true) by simpa using n)];refine we (FV F dT (Ge.mp O).1 ?_);have oth:∀b,b≠T->(s.heap.update T (HN (·.setIfInBounds 3 E6))).get? b=s.heap.get? b:=λb hb=>E3 _ _ (Fi hb);have YZ:∀b o,s.heap.get? b=some o->(∀ws,o.data≠.fields ws)->b≠T:=λb o q nf z=>by
    rw [z,F] at q;cases q;exact nf ts dT
   refine rX (B:=B) (cls:=cls) YH G (λb o q=>?_) U (S.of_keeps λb o q nf=>{o,(oth b (YZ b o q nf)).trans q,rfl}) ((oth e (Fi Te)).trans he) hc J hd W h2 λh' y ht up=>k h' y ht λb o q nf=>up b o ((oth b (YZ b o q nf)).trans q) nf;exact (oth b λz=>by rw [z,Z] at q;cases q).trans (st b o q)
theorem sM(x:aw Hc B l e cls fl s.heap)(k:∀h',aw Hc B l e cls (Gu L) h'->s.heap.UpToSlots h'->Q () { s with heap:=h' }):Et M A (setFlight (.ref e) (some L)) Q E s:=by
 obtain ⟨st,U,O,oe,vs,he,hc,J,hd,hz,h2,h1⟩:=x;unfold setFlight;rcases h1 with h1|⟨T,oT,W,h1,S,G,F,dT,t3⟩
 .refine we (Fh he hd h1 ?_);rw [if_neg (show ¬ ((E6 != E6)=true) by decide)];exact Ej (k s.heap {st,U,O,oe,vs,he,hc,J,hd,hz,h2,.inl h1} (UpToSlots.refl _))
 .refine we (Fh he hd h1 ?_);rw [if_pos (show (Ew T != E6)=true by simp)];have n:3<W.size:=(Ge.mp t3).1;have dd:=Gz dT (·.setIfInBounds 3 (Gu L));have oth:∀b,b≠T->(s.heap.update T (HN (·.setIfInBounds 3 (Gu L)))).get? b=s.heap.get? b:=λb hb=>E3 _ _ (Fi hb);have Z:∀b o,s.heap.get? b=some o->(∀ws,o.data≠.fields ws)->b≠T:=λb o q nf z=>by
   rw [z,F] at q;cases q;exact nf W dT
  refine FV F dT n (k _ {λb o q=>(oth b λz=>by rw [z,S] at q;cases q).trans (st b o q),U,O.of_keeps λb o q nf=>{o,(oth b (Z b o q nf)).trans q,rfl},oe,vs,(oth e (Fi G)).trans he,hc,J,hd,hz,h2,
   .inr {T,_,_,h1,S,G,FA _ F (FM dd),dd,?_}} λb o q nf=>{o.slots,(oth b (Z b o q nf)).trans q})
  rw [Fd n]
end
def gs(X:Cx)(Ex:Addr->St->Hp->Prop):Value->Eh->Prop:=λe s'=>∃(ea C:Addr)(B:Heap)(H':Hp)(fl:Value)(σ:St)(n:Eh)(Ga:List (Addr×Obj)),e = .ref ea/\Inv X Ga σ H' n/\aw H' B X.stack ea (.ref C) fl s'.heap /\
 s'.os=n.os/\GN s'.gens/\(∀b o,n.heap.get? b=some o->b∉frs X.stack->B.get? b=some o)/\n.heap.UpToSlots s'.heap/\Ex C σ H'
abbrev cxF(X:Cx)(Ex:Addr->St->Hp->Prop):Cx:=X.IT (gs X Ex)
theorem cX:ar (cxF X Ex) Ex:=λps σ H n ea C B fl s' I y os bare F G q =>
 {ea,C,B,H,fl,σ,n,ps,rfl,I.nT,y,os,bare,F,G,q}
theorem mJ(F:X.stack=X.env::X.outer)(Z:X.Ok->X.A.frames=some (X.env::X.outer))(G:X.env.frame=some L):Gj (Ez X.prog X.w) X.A X.env (gs X Ex):=by
 rintro e s' ⟨ea,C,B,H',fl,σ,sI,Ga,rfl,I,y,os,bare,O,up,q⟩;have W:=Z I.ok;rw [F] at y;refine o7 W G y λh1 y1 J u1=>?_;obtain ⟨oe,vs,T,S,g2,U⟩:=J;refine we (Fh S g2 U ?_);rw [if_neg (show ¬ ((Ew T==E6)=true) by simp)];rw [G];refine sM (s:={ s' with heap:=h1 }) y1 λh2 n u2=>?_;rw [<- F] at n;exact {ea,C,B,H',_,σ,sI,Ga,rfl,I,n,os,bare,O,(up.trans u1).trans u2,q}
theorem PS.Mv{st:Stmt}{t:TS}(T:ar X Ex)(h:PS (cxF X Ex) st t):PS X st t:=λGa s σ H D I J =>
 Fe (h Ga s σ H D (I.IT _) J) (λ_ _ q=>q.nT) <| by
  rintro e s' ⟨ea,C,B,H',fl,n,O,ps,he,G,y,os,bare,F,S,q⟩;subst he;exact T ps n H' O ea C B fl s' G y os bare F S q
theorem jS{st:Stmt}{t:TS}(T:ar X Ex)(h:W (PS (cxF X Ex) st t)):W (PS X st t):={PS.Mv T h.h}
section
variable {X:Cx}
theorem aU{K:Ei}(h:X.K=K):zM X (.builtin "isinstance") (gh K):=by subst h;exact fS
end
section
variable {κ:Type} [DecidableEq κ]
def zY(kvs:List (κ×V))(k:κ):Option V:=(kvs.find? λn=>decide (n.1=k)).map (·.2)
def aV(kvs:List (κ×V))(k:κ)(v:V):List (κ×V) :=
 if (kvs.any λn=>decide (n.1=k))=true then kvs.map (λn=>if n.1=k then (n.1,v) else n) else kvs++[(k,v)]
def bB(kvs:List (κ×V))(k:κ):List (κ×V):=kvs.filter λn=>decide (n.1≠k)
theorem iu{p:κ×V}{r:List (κ×V)}{k:κ}(e:p.1=k):zY (p::r) k=some p.2:=by simp [zY,HX,e]
theorem ie{p:κ×V}{r:List (κ×V)}{k:κ}(e : ¬ p.1=k):zY (p::r) k=zY r k:=by simp [zY,HX,e]
theorem mm(k:κ):∀kvs:List (κ×V),(kvs.any λn=>decide (n.1=k))=(zY kvs k).isSome
 | []=>rfl
 | p::r=>by
  rw [IP];by_cases e:p.1=k
  .simp only [iu e,decide_eq_true e,Bool.true_or,isSome_some]
  .rw [ie e,decide_eq_false e,Bool.false_or];exact mm k r
theorem tX(kvs:List (κ×V))(k:κ)(v:V):(aV kvs k v).length<=kvs.length+1:=by
 unfold aV;split
 .rw [En];lia
 .rw [EV,EY,G5];lia
theorem aM.z9{o:Option V}(r:aM o u):o.isSome=u.isSome:=by
 cases o with
 | none=>cases u with
  | none=>rfl
  | some _=>exact (show False from r).elim
 | some _=>cases u with
  | none=>exact (show False from r).elim
  | some _=>rfl
theorem aM.getD{o:Option V}(r:aM o u)(n:zh d d'):zh (o.getD d) (u.getD d'):=by
 cases o with
 | none=>cases u with
  | none=>exact n
  | some _=>exact (show False from r).elim
 | some _=>cases u with
  | none=>exact (show False from r).elim
  | some _=>exact r
theorem KV.val(r:KV kvs vs)(k:κ):aM (zY kvs k) (HH vs k):=by
 unfold KV at r
 induction r with
 | nil=>exact True.intro
 | @cons p q ps n h t G =>
  obtain ⟨h1,h2⟩:=h;by_cases e:p.1=k
  .have F:q.1=k:=h1.symm.trans e;have b:HH (q::n) k=some q.2:=by simp [HH,HX,F]
   rw [iu e,b];exact h2
  .have F : ¬ q.1=k:=λz=>e (h1.trans z);have b:HH (q::n) k=HH n k:=by simp [HH,HX,F]
   rw [ie e,b];exact G
theorem KV.any(r:KV kvs vs)(k:κ):(kvs.any λn=>decide (n.1=k))=vs.any λn=>decide (n.1=k):=by
 unfold KV at r
 induction r with
 | nil=>rfl
 | cons h t F=>rw [IP,IP,F,h.1]
theorem KV.L0(r:KV kvs vs)(k:κ)(G:zh y u):
  KV (kvs.map λn=>if n.1=k then (n.1,y) else n) (vs.map λn=>if n.1=k then (n.1,u) else n):=by
 unfold KV at r ⊢
 induction r with
 | nil=>exact .nil
 | @cons p q ps J h t F =>
  rw [Fq,Fq];refine .cons ?_ F;obtain ⟨h1,h2⟩:=h;by_cases e:p.1=k
  .rw [if_pos e,if_pos (h1.symm.trans e)];exact ⟨h1,G⟩
  .rw [if_neg e,if_neg (λz=>e (h1.trans z))];exact ⟨h1,h2⟩
theorem KV.put(r:KV kvs vs)(k:κ)(n:zh y u):KV (aV kvs k y) (stored vs k u):=by
 unfold aV stored;rw [r.any k];by_cases e:(vs.any λF=>decide (F.1=k))=true
 .rw [if_pos e,if_pos e];exact r.L0 k n
 .rw [if_neg e,if_neg e];exact Paired.snoc r {rfl,n}
theorem KV.drop(r:KV kvs vs)(k:κ):KV (bB kvs k) (without vs k):=by
 unfold KV at r ⊢;unfold bB without
 induction r with
 | nil=>exact .nil
 | @cons p q ps G h t n =>
  obtain ⟨h1,h2⟩:=h;rw [Gm,Gm];by_cases e:p.1=k
  .have a : ¬ decide (p.1≠k)=true:=by simp [e]
   have b : ¬ decide (q.1≠k)=true:=by simp [h1.symm.trans e]
   rw [if_neg a,if_neg b];exact n
  .have F : ¬ q.1=k:=λz=>e (h1.trans z);have a:decide (p.1≠k)=true:=by simp [e]
   have b:decide (q.1≠k)=true:=by simp [F]
   rw [if_pos a,if_pos b];exact .cons ⟨h1,h2⟩ n
theorem KV.length{kvs:List (κ×V)}{vs:List (κ×Value)}(r:KV kvs vs):kvs.length=vs.length:=Paired.length r
theorem uF(kvs:List (κ×V))(k:κ):(bB kvs k).length<=kvs.length:=List.length_filter_le _ _
end
theorem ee{k:Key}(r:zh (kV k) u):(aF P w).is k u=true:=by
 cases k with
 | inl i=>obtain ⟨t,e⟩:=(show ∃t,u=HQ i t from r);subst e;exact yV P w i t
 | inr x=>obtain ⟨t,e⟩:=(show ∃t,u=HP x t from r);subst e;exact vm P w x t
theorem pB:∀{ks:List Key}{us:List Value},zo (ks.map kV) us->ItemsAre (aF P w) ks us
 | [],_,r=>by rw [map_nil] at r;cases r;exact .nil
 | k::ks,_,r=>by
  rw [Fq] at r;cases r with
  | cons h t=>exact .cons (ee h) (pB t)
abbrev KT(H:Hp):List (List Key×V)->List (List Key×Addr×Value)->Prop:=Paired λp q=>p.1=q.1/\H q.2.1=some (.tup (p.1.map kV))/\zh p.2 q.2.2
theorem KT.val(r:KT H kvs xs)(k:List Key):aM (zY kvs k) ((atKey xs k).map (·.2)):=by
 induction r with
 | nil=>exact True.intro
 | @cons p q ps n h t G =>
  obtain ⟨h1,_,h2⟩:=h;by_cases e:p.1=k
  .have F:q.1=k:=h1.symm.trans e;have b:atKey (q::n) k=some q.2:=by simp [atKey,HX,F]
   rw [iu e,b];exact h2
  .have F : ¬ q.1=k:=λz=>e (h1.trans z);have b:atKey (q::n) k=atKey n k:=by simp [atKey,HX,F]
   rw [ie e,b];exact G
theorem KT.L0(r:KT H kvs xs)(k:List Key)(G:zh y u):
  KT H (kvs.map λn=>if n.1=k then (n.1,y) else n) (xs.map (putAt k u)):=by
 induction r with
 | nil=>exact .nil
 | @cons p q ps J h t F =>
  rw [Fq,Fq];refine .cons ?_ F;obtain ⟨h1,h2,h3⟩:=h;unfold putAt;by_cases e:p.1=k
  .rw [if_pos e,if_pos (h1.symm.trans e)];exact ⟨h1,h2,G⟩
  .rw [if_neg e,if_neg (λz=>e (h1.trans z))];exact ⟨h1,h2,h3⟩
theorem KT.put(r:KT H kvs xs)(k:List Key)(hb:H b=some (.tup (k.map kV)))(n:zh y u):
  KT H (aV kvs k y) (storedH xs k b u):=by
 have e:(kvs.any λF=>decide (F.1=k))=(atKey xs k).isSome:=by
  rw [mm,(r.val k).z9,isSome_map]
 unfold aV storedH;rw [e];by_cases q:(atKey xs k).isSome=true
 .rw [if_pos q,if_pos q];exact r.L0 k n
 .rw [if_neg q,if_neg q];exact Paired.snoc r {rfl,hb,n}
theorem KT.keeps(r:KT H kvs xs)(n:∀b ys,H b=some (.tup ys)->H' b=some (.tup ys)):KT H' kvs xs :=
 Paired.L5 r λ_ _ z=>{z.1,n _ _ z.2.1,z.2.2}
section
variable {P:Eo}{w:EG}{H:Hp}{h:Heap}{a:Addr}
theorem qc(ok:HOk P w H h)(e:Rd H a u):zX P w H h a u:=e.ok ok
theorem cc(ok:HOk P w H h)(e:Rd H a (.dK kvs)):kvs.length<=sizeLine/\(a==sysModules)=false/\∃vs,KV kvs vs/\h.DictOf (aF P w) a vs :=
 show zX P w H h a (.dK kvs) from qc ok e
theorem nG(ok:HOk P w H h)(e:H a=some (.dK kvs)):kvs.length<=sizeLine/\(a==sysModules)=false/\∃vs,KV kvs vs/\h.DictOf (aF P w) a vs:=cc ok (.inl e)
theorem fK(ok:HOk P w H h)(e:H a=some (.tup (ks.map kV))):(Io (aF P w)).is h ks a:=by
 obtain ⟨_,F,r,o,h1,h2,n,h3⟩:=(show zX P w H h a (.tup (ks.map kV)) from ok a _ e);exact {o,F.toArray,n,h1,h2,h3,by simpa using pB r}
theorem fb(ok:HOk P w H h)(e:Rd H a (.dT kvs)):kvs.length<=sizeLine/\(a==sysModules)=false /\
  ∃xs,KT H kvs xs/\h.DictOfH (Io (aF P w)) a xs:=by
 obtain ⟨z,y,xs,r,o,es,ep,h1,h2,h3,h4,J⟩:=(show zX P w H h a (.dT kvs) from qc ok e);refine {z,y,xs,r,o,es,ep,h1,h2,h3,h4,λx n=>?_,J};have all:∀{l:List (List Key×V)}{m:List (List Key×Addr×Value)},KT H l m->∀x∈m,(Io (aF P w)).is h x.1 x.2.1:=by
  intro l m q
  induction q with
  | nil=>intro x n;exact nomatch n
  | @cons p q ps O F t G =>
   intro x n;rcases EI.mp n with e|n
   .subst e;exact fK ok (by rw [<- F.1];exact F.2.1)
   .exact G x n
 exact all r x n
theorem vw(ok:HOk P w H h)(e:H a=some (.dT kvs)):kvs.length<=sizeLine/\(a==sysModules)=false /\
  ∃xs,KT H kvs xs/\h.DictOfH (Io (aF P w)) a xs:=fb ok (.inl e)
end
def cM(H:Hp)(a:Addr)(y:V)(r:Option V):Prop :=
 (∃kvs k,Rd H a (.dK kvs)/\y=kV k/\r=zY kvs k)\/∃kvs k b,Rd H a (.dT kvs)/\y = .ref b/\H b=some (.tup (k.map kV))/\r=zY kvs k
def fU(H:Hp)(a:Addr)(y v:V)(H':Hp):Prop :=
 (∃kvs k,H a=some (.dK kvs)/\y=kV k/\kvs.length<sizeLine/\H'=upd H a (.dK (aV kvs k v))) \/
 ∃kvs k b,H a=some (.dT kvs)/\y = .ref b/\H b=some (.tup (k.map kV))/\kvs.length<sizeLine/\H'=upd H a (.dT (aV kvs k v))
theorem cM.k{k:Key}(e:H a=some (.dK kvs)):cM H a (kV k) (zY kvs k):=.inl {kvs,k,.inl e,rfl,rfl}
theorem cM.t{k:List Key}(e:H a=some (.dT kvs))(n:H b=some (.tup (k.map kV))):cM H a (.ref b) (zY kvs k):=.inr {kvs,k,b,.inl e,rfl,n,rfl}
theorem fU.k{k:Key}(e:H a=some (.dK kvs))(n:kvs.length<sizeLine):fU H a (kV k) v (upd H a (.dK (aV kvs k v))):=.inl {kvs,k,e,rfl,n,rfl}
theorem fU.t{k:List Key}(e:H a=some (.dT kvs))(F:H b=some (.tup (k.map kV)))(n:kvs.length<sizeLine):
  fU H a (.ref b) v (upd H a (.dT (aV kvs k v))):=.inr {kvs,k,b,e,rfl,F,n,rfl}
section
variable {X:Cx}{Ga:List (Addr×Obj)}{σ:St}{H:Hp}{s:Eh}{a:Addr}{y v:V}{u r:Value}{o:Option V}{A:EB}{E:Value->Eh->Prop}
theorem DL(U:A.units+1<cLine)(I:Inv X Ga σ H s)(g:cM H a y (some v))(S:zh y u)(h:∀w' s',Inv X Ga σ H s'->zh v w'->Q w' s'):
  Et (Ez X.prog X.w) A (IH (.ref a) u) Q E s:=by
 rcases g with ⟨kvs,k,e,J,l⟩|⟨kvs,k,b,e,J,W,l⟩
 .subst J;obtain ⟨z,hd,vs,F,dd⟩:=cc I.hok e;obtain ⟨w',O,G⟩:=aM.some_of (v:=v) (o:=HH vs k) (by rw [l];exact F.val k);exact wpAny_getItem_of (ee S) dd.mapOf O (h w' _ (I.tok _) G)
 .subst J;cases (show u=Ew b from S);obtain ⟨z,hd,xs,F,dd⟩:=fb I.hok e;obtain ⟨w',O,G⟩:=aM.some_of (v:=v) (o:=(atKey xs k).map (·.2)) (by rw [l];exact F.val k);obtain ⟨p,hp,n⟩:=FH.mp O;refine wpAny_getItem_heap (G1 U) (fK I.hok W) dd hp ?_;rw [n];exact h w' _ (I.tok _) G
theorem yS(J:A.units+1<cLine)(I:Inv X Ga σ H s)(g:cM H a y o)(G:zh y u)(h:∀s',Inv X Ga σ H s'->Q (.bool (!o.isSome)) s'):
  Et (Ez X.prog X.w) A (E4 .NotIn u (.ref a)) Q E s:=by
 rcases g with ⟨kvs,k,e,F,l⟩|⟨kvs,k,b,e,F,O,l⟩
 .subst F;obtain ⟨z,hd,vs,n,dd⟩:=cc I.hok e;refine wpAny_notIn_of (ee G) hd dd.mapOf ?_;rw [<- (n.val k).z9,<- l];exact h _ (I.tok _)
 .subst F;cases (show u=Ew b from G);obtain ⟨z,hd,xs,n,dd⟩:=fb I.hok e;refine wpAny_notIn_heap (G1 J) (fK I.hok O) hd dd ?_;have q:=(n.val k).z9;rw [isSome_map] at q;rw [<- q,<- l];exact h _ (I.tok _)
theorem jU(I:Inv X Ga σ H s)(n:Mut (H a))(hs:HB a s.heap h')(he:∃q,h'.get? a=some q)(new:zX X.prog X.w (upd H a ob) h' a ob):
  Inv X Ga σ (upd H a ob) { s with heap:=h',toks:=t' } :=
 I.write (x:=a) (e:=a) n (.inl rfl) (λb q hb z=>(hs.2 b hb).trans z) he new
theorem lP(z:kvs.length<=sizeLine)(hd:(a==sysModules)=false)(n:KV kvs vs)(dd:h'.DictOf (aF P w) a vs):
  zX P w H' h' a (.dK kvs):=⟨z,hd,vs,n,dd⟩
theorem CQ(hu:A.units+1<cLine)(I:Inv X Ga σ H s)(g:fU H a y v H')(W:zh y u)(Z:zh v r)(h:∀s',Inv X Ga σ H' s'->Q () s'):
  Et (Ez X.prog X.w) A (setItem (.ref a) u r) Q E s:=by
 rcases g with ⟨kvs,k,e,S,l,J⟩|⟨kvs,k,b,e,S,eb,l,J⟩
 .subst S J;obtain ⟨z,hd,vs,F,dd⟩:=nG I.hok e;have U:vs.length<=sizeLine:=by rw [<- F.length];exact z
  have O:(aV kvs k v).length<=sizeLine:=by have:=tX kvs k v;lia
  refine wpAny_setItem_pairs (hsz:=U) (ee W) dd λh' n hs=>h _ ?_;have he:∃q,h'.get? a=some q:=let ⟨q,_,_,G,_⟩:=n;⟨q,G⟩;exact jU I (by rw [e];exact True.intro) hs he (lP O hd (F.put k Z) n)
 .subst S J;cases (show u=Ew b from W);obtain ⟨z,hd,xs,F,dd⟩:=vw I.hok e;have U:xs.length<=sizeLine:=by rw [<- Paired.length F];exact z
  have O:(aV kvs k v).length<=sizeLine:=by have:=tX kvs k v;lia
  refine wpAny_setItem_heap (hsz:=U) (G1 hu) (fK I.hok eb) dd λh' n hs=>h _ ?_;obtain ⟨q,es,ep,G,h2,h3,h4,_,h5⟩:=n;refine jU I (by rw [e];exact True.intro) hs ⟨q,G⟩ {O,hd,_,(F.put k eb Z).keeps λc ys ec=>?_,q,es,ep,G,h2,h3,h4,h5};rw [zm (BD ec e (λz=>nomatch z))];exact ec
end
section
variable {X:Cx}{Ga:List (Addr×Obj)}{σ:St}{H:Hp}{s:Eh}{a:Addr}{kvs:List (Key×V)}{k:Key}{u:Value}{A:EB}{E:Value->Eh->Prop}
theorem u7(I:Inv X Ga σ H s)(e:H a=some (.dK kvs))(J:zh (kV k) u)(l:(zY kvs k).isSome=true)(h:∀s',Inv X Ga σ (upd H a (.dK (bB kvs k))) s'->Q () s'):
  Et (Ez X.prog X.w) A (delItem (.ref a) u) Q E s:=by
 obtain ⟨z,hd,vs,G,dd⟩:=nG I.hok e;refine wpAny_delItem_slot dd.typeIs 'd' Ig
  (call_meetsIn Ig dd.typeIs PySem.F.entry_dict_delitem (PySem.F.args_dict_delitem_2 _ _) (meets_dict_delitem_pairs (aF X.prog X.w) a (ee J)) {vs,dd,by rw [<- G.length];exact z,by rw [<- (G.val k).z9];exact l,λh' n hs=>h _ ?_})
 have he:∃q,h'.get? a=some q:=let ⟨q,_,_,hq,_⟩:=n;⟨q,hq⟩;exact jU I (by rw [e];exact True.intro) hs he (lP (EL (uF kvs k) z) hd (G.drop k) n)
theorem DA(I:Inv X Ga σ H s)(e:Rd H a (.dK kvs))(h:∀t s',Inv X Ga σ H s'->Q (.int kvs.length t) s'):Et (Ez X.prog X.w) A (call (.builtin "len") [.ref a]) Q E s:=by
 obtain ⟨z,hd,vs,n,dd⟩:=cc I.hok e;refine call_len_dict hd dd (by rw [<- n.length];rw [Gk] at z;lia) ?_;rw [<- n.length];exact h _ _ (I.tok _)
end
theorem tQ{o:Option V}(I:Inv X Ga σ H s)(g:cM H a y o):s.TypeIs (.ref a) "dict":=by
 rcases g with ⟨kvs,k,e,_,_⟩|⟨kvs,k,b,e,_,_,_⟩
 .obtain ⟨_,_,vs,_,dd⟩:=cc I.hok e;exact dd.typeIs
 .obtain ⟨_,_,xs,_,dd⟩:=fb I.hok e;exact dd.typeIs
structure M2(X:Cx)(o:EN)(m:Str)(Z3:Pos)(e f:EN)(cpos:Pos):Prop where
 base:FE o m X.env (Fx o X.env)=Fx o X.env
 Mt:((FZ cpos (EH [e,f] X.env)).all (λx=>!x.1)&&(Iy cpos (Hb [] X.env)).all (λx=>x.1.isSome)
  && decide (([e,f]:List EN).length+([]:List Keyword).length+(if ([]:List Keyword).isEmpty then 0 else 1)<30))=true
 line:(Z3.endLine==cpos.line)=true
 trees:FZ cpos (EH [e,f] X.env)=[(false,Fx e X.env),(false,Fx f X.env)]
def IsD(H:Hp)(a:Addr):Prop:=(∃kvs,Rd H a (.dK kvs))\/∃kvs,Rd H a (.dT kvs)
theorem wB(I:Inv X Ga σ H s)(d:IsD H a):
  s.TypeIs (.ref a) "dict"/\(∀b,Ew a = .ref b->∃ob,s.heap.get? b=some ob/\ob.dict=none)/\(a==sysModules)=false:=by
 rcases d with ⟨kvs,e⟩|⟨kvs,e⟩
 .obtain ⟨_,hd,vs,_,dd⟩:=cc I.hok e;refine {dd.typeIs,λb q=>?_,hd};cases q;obtain ⟨ob,_,_,h1,h2,_⟩:=dd;exact ⟨ob,h1,h2.2.1⟩
 .obtain ⟨_,hd,xs,_,dd⟩:=fb I.hok e;refine {dd.typeIs,λb q=>?_,hd};cases q;obtain ⟨ob,_,_,h1,h2,_⟩:=dd;exact ⟨ob,h1,h2.2.1⟩
section
variable {X:Cx}{Ga:List (Addr×Obj)}{σ:St}{H:Hp}{s:Eh}{a:Addr}{y d:V}{u r:Value}{o:Option V}{A:EB}{E:Value->Eh->Prop}
theorem Co(S:A.units+1<cLine)(I:Inv X Ga σ H s)(g:cM H a y o)(J:zh y u)(O:zh d r)(h:∀w' s',Inv X Ga σ H s'->zh (o.getD d) w'->Q w' s'):
  Et (Ez X.prog X.w) A (call (.builtin "dict.get") [.ref a,u,r]) Q E s:=by
 rcases g with ⟨kvs,k,e,G,l⟩|⟨kvs,k,b,e,G,U,l⟩
 .subst G;obtain ⟨z,hd,vs,n,dd⟩:=cc I.hok e;refine call_meetsIn slot_dict_get dd.typeIs PySem.F.entry_dict_get (IB _ _ _) (meets_dict_get_default (aF X.prog X.w) a (ee J) hd r) {_,dd.mapOf,h _ _ (I.tok _) ?_};rw [l];exact (n.val k).getD O
 .subst G;cases (show u=Ew b from J);obtain ⟨z,hd,xs,n,dd⟩:=fb I.hok e;refine call_meetsIn slot_dict_get dd.typeIs PySem.F.entry_dict_get (IB _ _ _) (meetsH_dict_get_default (Io (aF X.prog X.w)) a b hd r) {G1 S,k,xs,fK I.hok U,dd,h _ _ (I.tok _) ?_};rw [l];exact (n.val k).getD O
end
section
variable {X:Cx}{Ga:List (Addr×Obj)}{σ:St}{H:Hp}{s:Eh}{a:Addr}{kvs:List (Key×V)}{A:EB}{E:Value->Eh->Prop}
theorem yo(I:Inv X Ga σ H s)(e:Rd H a (.dK kvs))(h:∀p s',H p=none->Inv X Ga σ (upd H p (.dK kvs)) s'->Q (.ref p) s'):Et (Ez X.prog X.w) A (call (.type "dict") [.ref a]) Q E s:=by
 obtain ⟨z,hd,vs,G,dd⟩:=cc I.hok e;refine kt_call_dict hd dd (by rw [<- G.length];exact z) λh' n hs=>?_;refine h _ _ (I.hok.fresh (EF _)) (I.laid (a:=s.heap.objs.size) (o:=.dK kvs) (t':=s.toks) (λb q F=>?_) (EF _) (lP z (beq_eq_false_iff_ne.mpr (Fi (E7 I.big))) G n));exact (hs.2 b (E7 (EM F))).trans (El _ F)
end
section
variable {κ:Type} [DecidableEq κ]
theorem DP{p:κ×V}{r:List (κ×V)}{k:κ}(e:p.1=k):bB (p::r) k=bB r k:=by
 unfold bB;rw [Gm,if_neg (by simp [e])]
theorem vU{p:κ×V}{r:List (κ×V)}{k:κ}(e : ¬ p.1=k):bB (p::r) k=p::bB r k:=by
 unfold bB;rw [Gm,if_pos (by simp [e])]
end
theorem KV.at(r:KV kvs vs):∀{i:Nat}{p:Key×V},kvs[i]?=some p->∃u,vs[i]?=some (p.1,u)/\zh p.2 u:=by
 induction r with
 | nil=>intro i p h;simp at h
 | @cons x y l m r t n =>
  intro i p h;cases i with
  | zero =>
   have e:x=p:=by simpa using h
   subst e;exact {y.2,by rw [r.1];rfl,r.2}
  | succ i=>exact n (by simpa using h)
def uK(y:V)(q:Key->Prop):Prop:=∃k,y=kV k/\q k
theorem A9:uK (.str z) q=q (.inr z):=by
 apply propext;constructor
 .rintro ⟨k,e,h⟩;cases k with
  | inl i=>cases e
  | inr x=>cases e;exact h
 .exact λh=>{.inr z,rfl,h}
theorem Bk:uK (.int i) q=q (.inl i):=by
 apply propext;constructor
 .rintro ⟨k,e,h⟩;cases k with
  | inl i=>cases e;exact h
  | inr x=>cases e
 .exact λh=>{.inl i,rfl,h}
section
variable {X:Cx}
def kE:R2:=λx y H Q=>∃a k kvs v,x = .ref a/\y=kV k/\Rd H a (.dK kvs)/\zY kvs k=some v/\Q v H
theorem fX(S:X.A.units+1<cLine):IxR X kE:=by
 intro ZO Z Ga s σ H x y v u Q I G J h hs;obtain ⟨a,k,kvs,z,rfl,rfl,W,he,q⟩:=h;obtain rfl:v=Ew a:=G;have g:cM H a (kV k) (some z):=.inl {kvs,k,W,rfl,he.symm};unfold subscriptTail;refine we ?_;rw [getitemInPython_of_ne (tQ I g).not_modules];refine we (wpAny_specialOf (tQ I g) PySem.F.slot_dict_getitem.lookup ?_);have n:Et (Ez X.prog X.w) X.A (subscripted Z false (.ref a) u) (λr s₃=>Et (Ez X.prog X.w) X.A (letTemporaryGo ZO (.ref a) r>>=λ_=>pure r) (EP X Ga σ Q) X.xe s₃) X.xe s:=by
  rw [hs];exact wpAny_operating (DL S I g J λw' s3 O U=>we (wpAny_letTemporaryGo (Ej ⟨z,H,O,U,q⟩)))
 first
  | exact Ej (we n)
  | exact we (Ej (we n))
  | exact we n
def kG(c:Bool):R2:=λy x H Q=>∃a k kvs,x = .ref a/\y=kV k/\Rd H a (.dK kvs)/\Q (.bl (if c then !(zY kvs k).isSome else (zY kvs k).isSome)) H
theorem rR(J:X.A.units+1<cLine):OpR X (E4 .NotIn) (kG true):=by
 intro Ga s σ H x y v u Q I n F h;obtain ⟨a,k,kvs,rfl,rfl,O,q⟩:=h;obtain rfl:u=Ew a:=F;exact yS J I (.inl {kvs,k,O,rfl,rfl}) n λS G=>{.bl (!(zY kvs k).isSome),H,G,rfl,q}
theorem Dy{p:Addr}:kG c (.str x) (.ref p) H Q = ∃kvs,Rd H p (.dK kvs)/\Q (.bl (if c then !(zY kvs (.inr x)).isSome else (zY kvs (.inr x)).isSome)) H:=by
 apply propext;constructor
 .rintro ⟨a,k,kvs,F,n,h,q⟩;cases F;cases k with
  | inl i=>cases n
  | inr x=>cases n;exact ⟨kvs,h,q⟩
 .rintro ⟨kvs,h,q⟩;exact {p,.inr x,kvs,rfl,rfl,h,q}
def gX:V->V->V->Hp->(Hp->Prop)->Prop:=λo i v H Q=>lY o i v H Q\/∃a k kvs,o = .ref a/\i=kV k/\H a=some (.dK kvs)/\kvs.length<sizeLine/\Q (upd H a (.dK (aV kvs k v)))
theorem dS(O:X.A.units+1<cLine):ki X gX:=by
 intro Ga s σ H o i v F U u Q I n G J h;rcases h with h|⟨a,k,kvs,rfl,rfl,e,l,q⟩
 .exact fo Ga s σ H o i v F U u Q I n G J h
 .obtain rfl:F=Ew a:=n;exact CQ O I (.inl {kvs,k,e,rfl,l,rfl}) G J λs' S=>{_,S,q}
theorem tj:gX (.ref a) (.str z) v H Q = ∃kvs,H a=some (.dK kvs)/\kvs.length<sizeLine/\Q (upd H a (.dK (aV kvs (.inr z) v))):=by
 apply propext;constructor
 .rintro (⟨_,_,_,_,_,e,_⟩|⟨G,k,kvs,F,n,h,l,q⟩)
  .cases e
  .cases F;cases k with
   | inl i=>cases n
   | inr x=>cases n;exact ⟨kvs,h,l,q⟩
 .rintro ⟨kvs,h,l,q⟩;exact .inr {a,.inr z,kvs,rfl,rfl,h,l,q}
theorem Ct:gX (.ref a) (.int i) v H Q=((∃xs j,H a=some (.lst xs)/\ixN xs.length i=some j/\Q (upd H a (.lst (xs.set j v))))\/∃kvs,H a=some (.dK kvs)/\kvs.length<sizeLine/\Q (upd H a (.dK (aV kvs (.inl i) v)))):=by
 apply propext;unfold gX;rw [qy];constructor
 .rintro (h|⟨G,k,kvs,F,n,h,l,q⟩)
  .exact .inl h
  .cases F;cases k with
   | inl i=>cases n;exact .inr ⟨kvs,h,l,q⟩
   | inr x=>cases n
 .rintro (h|⟨kvs,h,l,q⟩)
  .exact .inl h
  .exact .inr {a,.inl i,kvs,rfl,rfl,h,l,q}
def tF(td ty:TE):TS:=λD σ H=>td σ H λx H1=>ty σ H1 λy H2=>uR x λa=>uK y λk=>∃kvs,H2 a=some (.dK kvs)/\(zY kvs k).isSome=true/\D.nx σ (upd H2 a (.dK (bB kvs k)))
theorem yW{o i:EN}(ho:W (PE X o td))(hi:W (PE X i ty)):W (PS X (.Delete [.Subscript o i Yn] pos) (tF td ty)):=by
 refine {?_};have ho:=ho.h;have hi:=hi.h;intro Ga s σ H D I h;refine wpAny_Delete (wpAny_deleteEach_cons (wpAny_delete_Subscript (thn (ho Ga s σ H _ I h) λu s1=>x5e λx H1 G F q1=>thn (hi Ga s1 σ H1 _ G q1) λiv s2=>x5e λy H2 Z J n=>?_)));obtain ⟨a,ex,k,U,kvs,e,l,S⟩:=n;subst ex U;obtain rfl:u=Ew a:=F;exact u7 Z e J l λs3 O=>wpAny_deleteEach_nil {σ,_,O,S}
theorem xu:tF td ty D σ H=td σ H λx H1=>ty σ H1 λy H2=>uR x λa=>uK y λk=>∃kvs,H2 a=some (.dK kvs)/\(zY kvs k).isSome=true/\D.nx σ (upd H2 a (.dK (bB kvs k))):=rfl
def rM(td ty tx:TE):TE:=λσ H Q=>td σ H λx H1=>uR x λa=>(∃kvs,Rd H1 a (.dK kvs))/\ty σ H1 λy H2=>tx σ H2 λz H3=>uK y λk=>∃kvs,Rd H3 a (.dK kvs)/\Q ((zY kvs k).getD z) H3
theorem DG{td ty tx:TE}:rM td ty tx σ H Q=td σ H λx H1=>uR x λa=>(∃kvs,Rd H1 a (.dK kvs))/\ty σ H1 λy H2=>tx σ H2 λz H3=>uK y λk=>∃kvs,Rd H3 a (.dK kvs)/\Q ((zY kvs k).getD z) H3:=rfl
theorem tG{o e f:EN}{td ty tx:TE}(hu:X.A.units+1<cLine)(ho:W (PE X o td))(he:W (PE X e ty))(J:W (PE X f tx))(m:M2 X o "get" Z3 e f cpos:=by exact {rfl,rfl,rfl,rfl}):W (PE X (.Call (.Attribute o "get" Z3) [e,f] [] cpos) (rM td ty tx)):=by
 refine {?_};have ho:=ho.h;have he:=he.h;have J:=J.h;intro Ga s σ H Q I h;refine wpAny_Call_method m.base m.Mt m.line PySem.F.plainAttrs_dict slot_dict_get PySem.F.type_dict_get (thn (ho Ga s σ H _ I h) λu s1=>x5e λx H1 O rx G=>?_);obtain ⟨a,ex,d,q1⟩:=G;subst ex;obtain rfl:u=Ew a:=rx;obtain ⟨t1,t2,_⟩:=wB O (.inl d);refine {t1,t2,?_};rw [m.trees];refine Calls.callWith_builtin rfl (Calls.evalArgs_plain (Calls.spliced_cons (thn (he Ga s1 σ H1 _ O q1) λiv s2=>x5e λy H2 U ry S =>
  Calls.spliced_cons (thn (J Ga s2 σ H2 _ U S) λfv s3=>x5e λz H3 Z rz n=>Calls.spliced_nil ?_))))
 obtain ⟨k,ey,kvs,g,q3⟩:=n;subst ey;exact Co hu Z (.inl {kvs,k,g,rfl,rfl}) ry rz λw' s4 I4 Yw=>{_,H3,I4,Yw,q3}
end
end L2
namespace L2
open PySem PySem.Spec PyProof.Rows PySem.W PySem.Calls
def leS(a b:Str):Prop:=ltCps b.cps.toList a.cps.toList=false
theorem oO(h1:leS a b)(h2:leS b a):a=b:=by
 unfold leS at h1 h2;rw [ltCps_eq] at h1 h2;exact fk (Gp.total a.cps.toList b.cps.toList h2 h1)
theorem ot:∀{l:List Str},sortedS l=true->l.Pairwise leS:=by
 have S:∀(r:List Str)(x:Str),risingS x r=true->(x::r).Pairwise leS:=by
  intro r
  induction r with
  | nil=>intro x _;simp
  | cons y r U =>
   intro x h;have h':(!ltCps y.cps.toList x.cps.toList&&risingS y r)=true:=h;rw [EJ,Bool.not_eq_true'] at h';have n:=U y h'.2;refine Fp.mpr {λz G=>?_,n};rcases EI.mp G with rfl|G
   .exact h'.1
   .have F:=(Fp.mp n).1 z G;unfold leS at F ⊢;have J:=h'.1;rw [ltCps_eq] at F J ⊢;exact KeyOrd.kle_trans (O:=Gp.toKeyOrd) J F
 intro l h;cases l with
 | nil=>exact .nil
 | cons x r=>exact S r x h
theorem qq:∀{l m:List Str},l.Perm m->l.Pairwise leS->m.Pairwise leS->l=m
 | [],m,p,_,_=>(Perm.nil_eq p)
 | x::l,[],p,_,_=>absurd p.length_eq 's'
 | x::l,y::m,p,n,hm=>by
  have e:x=y:=by
   have h1:x∈y::m:=p.mem_iff.mp (Er ..);have h2:y∈x::l:=p.mem_iff.mpr (Er ..);rcases EI.mp h1 with e|h1
   .exact e
   .rcases EI.mp h2 with e|h2
    .exact e.symm
    .exact oO ((Fp.mp n).1 y h2) ((Fp.mp hm).1 x h1)
  subst e;rw [qq ((List.perm_cons x).mp p) (Fp.mp n).2 (Fp.mp hm).2]
open Classical in
noncomputable def zu(ks:List Str):List Str:=if h:∃n:List Str,n.Perm ks/\sortedS n=true then h.choose else ks
theorem qE(p:n.Perm ks)(h:sortedS n=true):n=zu ks:=by
 have ex:∃n:List Str,n.Perm ks/\sortedS n=true:=⟨n,p,h⟩;unfold zu;rw [dif_pos ex];exact qq (p.trans ex.choose_spec.1.symm) (ot h) (ot ex.choose_spec.2)
section
variable {X:Cx}
def nB:List V->Hp->VK->Prop:=λxs H Q=>uR1 xs λa=>∃kvs,Rd H a (.dK kvs)/\∀p H2,New H p (.dK kvs) H2->Q (.ref p) H2
theorem wu:nB [.ref a] H Q = ∃kvs,Rd H a (.dK kvs)/\∀p H2,New H p (.dK kvs) H2->Q (.ref p) H2:=fc
theorem DH:zM X (.type "dict") nB:=by
 intro Ga s σ H xs us Q I r h;obtain ⟨a,rfl,kvs,ha,q⟩:=h;obtain ⟨u,rfl,n⟩:=cn r;cases n;exact yo I ha λp s' G F=>{.ref p,_,F,rfl,q _ _ (.mk' G)}
def sk(kvs:List (Str×V)):List (Key×V):=kvs.map λp=>(.inr p.1,p.2)
def pM:List V->Hp->VK->Prop:=λxs H Q=>uR1 xs λa=>∃kvs:List (Str×V),Rd H a (.dK (sk kvs))/\kvs.length<64/\∀p H2,New H p (.lst ((zu (kvs.map (·.1))).map V.str)) H2->Q (.ref p) H2
theorem uq:pM [.ref a] H Q = ∃kvs:List (Str×V),Rd H a (.dK (sk kvs))/\kvs.length<64/\∀p H2,New H p (.lst ((zu (kvs.map (·.1))).map V.str)) H2->Q (.ref p) H2:=fc
theorem qB:∀{vs:List Value}{n:List Str},vs.length=n.length->(∀(j:Nat)(v:Value),vs[j]?=some v->∃t,v=HP (n.getD j "") t)->StrsAre vs n
 | [],[],_,_=>.nil
 | [],_::_,h,_=>absurd h 's'
 | _::_,[],h,_=>absurd h 's'
 | v::vs,x::n,h,f=>by
  obtain ⟨t,e⟩:=f 0 v rfl;have G:v=HP x t:=e;rw [G];exact .cons x t (qB (by simpa using h) λj u F=>f (j+1) u F)
theorem tH:∀{vs:List Value}{n:List Str},StrsAre vs n->zo (n.map V.str) vs
 | _,_,.nil=>.nil
 | _,_,.cons x t h=>.cons {t,rfl} (tH h)
theorem h8(hc:X.calm=true):zM X (.builtin "sorted") pM:=by
 intro Ga s σ H xs us Q I r h;obtain ⟨a,rfl,kvs,hq,W,q⟩:=h;obtain ⟨u,rfl,ru⟩:=cn r;cases ru;obtain ⟨z,hd,vs,Ze,dd⟩:=cc I.hok hq;obtain ⟨ep,S⟩:=dd.dictAt;have ZS:vs.length=kvs.length:=by rw [<- Ze.length];simp [sk]
 refine call_function_entry kind_sorted plain_sorted entry_sorted (args_sorted1 _) ?_;unfold EE.«sorted»
 refine we (m:=checkCount "sorted" 1 1 _) (Ej ?_);refine we (kdu_collect (A:=X.A.in1) (kdl_dict (knd:=aF X.prog X.w) (kvs:=vs) (ep:=ep) hd) (I.ok.hd hc) S (by rw [ZS,Gk];lia) λh' tk ZT hk Yj=>?_);have Z:ZT.toList.length=kvs.length:=by rw [GZ,<- ZS];exact Yj.1
 have J:StrsAre ZT.toList (kvs.map (·.1)):=qB (by rw [Z,En]) λj v hv=>by
  obtain ⟨k,x,hx,hk⟩:=Yj.2 j v (by rw [<- Ht];exact hv);have hj:j<vs.length:=(ED.mp hx).1;have F:j<kvs.length:=by lia
  have G:(sk kvs)[j]?=some (.inr kvs[j].1,kvs[j].2):=by simp [sk,F]
  obtain ⟨u',YL,_⟩:=Ze.at G;rw [hx] at YL;cases YL;rcases cG (show dO (Sum.inr kvs[j].1) v=true from hk) with ⟨i,t,U,G⟩|⟨y,t,U,G⟩
  .cases U
  .cases U;exact {t,by rw [G,EX,E5,Ek F];rfl}
 have I1:Inv X Ga σ H { s with heap:=h',toks:=tk }:=I.kept hk;refine we (wpAny_newList ?_ (by rw [Z,Gk];lia));have n:(h'.push (seqObj "list" ZT.toList.toArray 0)).get? h'.objs.size=some (seqObj "list" ZT.toList.toArray 0):=EW _ rfl;refine we (E1 (Gs slot_list_sort {_,n,rfl} entry_list_sort (list_sort_treeK strKind_oneLt n J.keysOf (λag ak Zo e=>keyKind_strs (by rw [<- e];exact J)) (by rw [Z];exact W) λYo a1 a2=>{_,rfl,?_}) (args_list_sort _)));obtain ⟨av,b1,b2,b3⟩:=sorted_out_str J a1 a2;have e3:=qE b2 b3;subst e3;obtain ⟨c,O⟩:=sortedHeap_at (vs:=ZT.toList) (out:=(arrOf Yo).map (·.2)) n;refine Ej {_,rfl,.ref h'.objs.size,upd H h'.objs.size (.lst ((zu (kvs.map (·.1))).map V.str)),I1.laid (a:=h'.objs.size) (t':=tk) (λb o e=>?_) (EF _) {?_,((arrOf Yo).map (·.2)).toList,c,tH b1,by rw [Array.toArray_toList];exact O},rfl,q _ _ (.mk' (I1.hok.fresh (EF _)))}
 .have hb:b<h'.objs.size:=EM e;rw [sortedHeap_old (E7 hb) (by rw [size_push'];exact Ij hb)];exact El _ e
 .have:=b2.length_eq;rw [En,this,En,Gk];lia
end
end L2
namespace HT
open PySem PySem.Spec PyProof.Rows PySem.Calls
section
variable {prog:Eo}{w:EG}{A:EB}{E:Value->Eh->Prop}{s:Eh}
theorem getItem_tuple_whole{t G:Addr}{W:Value}{lo hi:Option Int}(n:IsTup s.heap t items)(hs:s.heap.IsSliceOf G W vu .none)(pl:Ic W lo)(pu:Ic vu hi)(h0:sIx items.size 0 lo=0)(h1:sIx items.size items.size hi=items.size)(h:Q (.ref t) s):Et (Ez prog w) A (IH (.ref t) (.ref G)) Q E s:=by
 obtain ⟨os,U,O,ag⟩:=id hs;have J:s.TypeIs (.ref G) "slice":=⟨os,U,O⟩;unfold IH
 try with_reducible refine E1 ?_
 first|refine we (Ej ?_)|skip
 refine we (wpAny_sequenceKey n.typeIs 'd' ?_);refine we (G8 (name:=Es "__getitem__") n.typeIs Fl
  (Gs Fl n.typeIs entry_tuple_getitem ?_ (args_tuple_getitem _ _)))
 show Et _ _ (EE.Tuple.tupleItemsOf (.ref t)>>=_) _ _ s;refine we (tupleItemsOf_ n ?_);refine we (Hg J ?_);rw [if_pos 'd'];refine we (sC hs pl pu ?_);have F:(((sIx items.size 0 lo:Nat):Int)==0&&(1:Int)==1&&(sIx items.size items.size hi-sIx items.size 0 lo)==items.size)=true:=by
  rw [h0,h1];simp
 show Et _ _ (if (((sIx items.size 0 lo:Nat):Int)==0&&(1:Int)==1&&(sIx items.size items.size hi-sIx items.size 0 lo)==items.size)=true then _ else _) _ _ s;rw [if_pos F];have S:∀{R:Bool->Eh->Prop}{Z:EB}{E':Value->Eh->Prop},R true s->Et (Ez prog w) Z (EE.Tuple.tupleIsExact (.ref t)) R E' s:=λ{R Z E'} hr=>by
  unfold EE.Tuple.tupleIsExact
  first
   | exact we (Hg n.typeIs (Ej hr))
   | exact wpAny_map (Hg n.typeIs hr)
 refine we (S ?_)
 first
  | exact we (Hu (we (Ej (Ej ⟨_,rfl,Ej h⟩))))
  | exact we (Hu (Ej ⟨_,rfl,Ej h⟩))
  | exact we (Hu (we (Ej ⟨_,rfl,Ej h⟩)))
end
end HT
namespace L2
open PySem PySem.Spec PyProof.Rows PySem.W PySem.Calls
section
variable {X:Cx}
def fO:V->Option Int->Option Int->Hp->VK->Prop:=λx lo hi H Q=>uSl x lo hi H Q\/∃a xs,x = .ref a/\H a=some (.tup xs)/\∀p H2,zg H H2->H2 p=some (.tup (z8 xs lo hi))->Q (.ref p) H2
theorem rA:SlR X fO:=by
 intro Ga s σ H x v W Z lo hi S Q I F hs pl J h;rcases h with h|⟨a,xs,rfl,G,q⟩
 .exact cQ Ga s σ H x v W Z lo hi S Q I F hs pl J h
 .by_cases n:HT.sIx xs.length 0 lo=0/\HT.sIx xs.length xs.length hi=xs.length
  .cases F;obtain ⟨Z7,r,O,hz⟩:=I.tuple (SqT.of G);have U:Z7.toArray.size=xs.length:=by rw [EC];exact r.length.symm
   refine {"tuple",_,Fl.lookup,O.typeIs,?_};refine HT.getItem_tuple_whole O hs pl J (by rw [U];exact n.1) (by rw [U];exact n.2) {.ref a,H,I,rfl,q a H (zg.refl _) ?_};rw [G];unfold z8;rw [n.1,n.2];simp
  .exact xi Ga s σ H _ v W Z lo hi S Q I F hs pl J {a,xs,rfl,SqT.of G,n,λp hp=>q p _ (New.mk' (o:=.tup (z8 xs lo hi)) hp).same zG}
theorem uU{lo hi:Option Int}:fO (.str z) lo hi H Q=(z.length<=sizeLine/\Q (.str (Txt.slice z lo hi)) H):=by simp [fO,tI]
theorem yQ{lo hi:Option Int}:fO (.ref a) lo hi H Q=((∃xs,H a=some (.lst xs)/\∀p H2,New H p (.lst (z8 xs lo hi)) H2->Q (.ref p) H2)\/∃xs,H a=some (.tup xs)/\∀p H2,zg H H2->H2 p=some (.tup (z8 xs lo hi))->Q (.ref p) H2):=by
 unfold fO;rw [o5];apply propext;constructor
 .rintro (h|⟨n,xs,e,h⟩)
  .exact .inl h
  .cases e;exact .inr ⟨xs,h⟩
 .rintro (h|⟨xs,h⟩)
  .exact .inl h
  .exact .inr {a,xs,rfl,h}
def gN:R2:=λx y H Q=>∃a b xs ys,x = .ref a/\y = .ref b/\H a=some (.tup xs)/\H b=some (.tup ys)/\xs.length+ys.length<=sizeLine/\∀p H2,zg H H2->H2 p=some (.tup (xs++ys))->Q (.ref p) H2
theorem vd:OpR X (FP .Add) gN:=by
 intro Ga s σ H x y v u Q I rx Z h;obtain ⟨a,b,xs,ys,rfl,rfl,ha,hb,hz,q⟩:=h;by_cases S:xs=[]
 .cases rx;cases Z;obtain ⟨W,r1,p1,_⟩:=I.tuple (SqT.of ha);obtain ⟨Yl,r2,p2,_⟩:=I.tuple (SqT.of hb);obtain ⟨⟨cls,dd,data,sl⟩,ho,hc,n,hd⟩:=id p1;obtain ⟨⟨ag,U,data2,O⟩,G,F,n2,J⟩:=id p2;simp only at hc hd F J;subst hc hd F J;have hi:W=[]:=r1.Jp.mpr S;exact concat_meets {_,ho,rfl} {_,G,rfl} noFill_tuple_add seq_tuple_add slot_tuple_add entry_tuple_add (args_tuple_add_2 _ _)
   (tuple_addW0 a b W.toArray Yl.toArray n n2 dd U sl O (by simp [hi])) {ho,G,{.ref b,H,I,rfl,q b H (zg.refl _) (by rw [hb,S];rfl)}}
 .exact CK Ga s σ H _ _ v u Q I rx Z {a,b,xs,ys,rfl,rfl,SqT.of ha,SqT.of hb,S,hz,λe=>q a H (zg.refl _) (by rw [ha,e,Gc]),λ_ p hp=>q p _ (New.mk' (o:=.tup (xs++ys)) hp).same zG}
def eB:R2:=λx y H Q=>cg x y H Q\/gN x y H Q
theorem mq:OpR X (FP .Add) eB:=bL.or vd
theorem Dj:eB (.int i) (.int j) H Q=Q (.int (i+j)) H:=by simp [eB,gN,cg]
theorem ur:eB (.str i) (.str j) H Q=(i.length+j.length<=sizeLine/\Q (.str (i++j)) H):=by simp [eB,gN,cg]
theorem wy:eB (.ref a) (.ref b) H Q=((∃xs zs,H a=some (.lst xs)/\H b=some (.lst zs)/\xs.length+zs.length<=sizeLine/\∀p H2,New H p (.lst (xs++zs)) H2->Q (.ref p) H2) \/
  ∃xs ys,H a=some (.tup xs)/\H b=some (.tup ys)/\xs.length+ys.length<=sizeLine/\∀p H2,zg H H2->H2 p=some (.tup (xs++ys))->Q (.ref p) H2):=by
 unfold eB;rw [gv];apply propext;constructor
 .rintro (h|⟨G,J,xs,ys,n,F,h⟩)
  .exact .inl h
  .cases n;cases F;exact .inr ⟨xs,ys,h⟩
 .rintro (h|⟨xs,ys,h⟩)
  .exact .inl h
  .exact .inr {a,b,xs,ys,rfl,rfl,h}
def tB:List V->Hp->VK->Prop:=λxs H Q=>∃i j,xs=[.int i,.int j]/\(0<j/\j<2 ^ 64)/\∀p H2,New H p (.tup [.int (i / j),.int (i % j)]) H2->Q (.ref p) H2
theorem D3:tB [.int i,.int j] H Q=((0<j/\j<2 ^ 64)/\∀p H2,New H p (.tup [.int (i / j),.int (i % j)]) H2->Q (.ref p) H2):=by
 apply propext;constructor
 .rintro ⟨n,F,e,h⟩;cases e;exact h
 .exact λh=>{i,j,rfl,h}
theorem Dr:zM X (.builtin "divmod") tB:=by
 intro Ga s σ H xs us Q I r h;obtain ⟨i,j,rfl,⟨h1,h2⟩,q⟩:=h;obtain ⟨u,w',rfl,⟨t,rfl⟩,⟨t',rfl⟩⟩:=lB r;have n:j.natAbs.log2<9000:=by
  have:j.natAbs.log2<64:=(Nat.log2_lt 'l').mpr 'l';lia
 refine divmod_int 'l' ?_ (.inl (PyProof.noPylong_of_log2 n));rw [Int.fdiv_eq_ediv_of_nonneg i 'l',Int.fmod_eq_emod_of_nonneg i 'l'];have F:H s.heap.objs.size=none:=I.hok.fresh (EF _);refine {.ref s.heap.objs.size,_,?_,rfl,q _ _ (.mk' F)};refine I.laid (λb o e=>El _ e) (EF _) {by simp only [EY,G5];rw [Gk];decide,[.int (i / j) s.toks,.int (i % j) (s.toks+1)],.cons {_,rfl} (.cons {_,rfl} .nil),?_};exact {_,EW s.heap rfl,rfl,0,rfl}
def gA:R2:=λx y H Q=>rI0 (λi j=>.bl (decide (i<=j))) x y H Q\/∃i j,x = .str i/\y = .str j/\Q (.bl (!decide (j.cps.toList<i.cps.toList))) H
theorem yw:OpR X (E4 .LtE) gA:=fR.or (by
 intro Ga s σ H x y v u Q I n F h;obtain ⟨i,j,rfl,rfl,q⟩:=h;obtain ⟨t,rfl⟩:=n;obtain ⟨t',rfl⟩:=F;exact PySem.P.le_str (zI I q rfl))
theorem Bu:gA (.int i) (.int j) H Q=Q (.bl (decide (i<=j))) H:=by simp [gA,rI0]
theorem yL:gA (.str i) (.str j) H Q=Q (.bl (!decide (j.cps.toList<i.cps.toList))) H:=by simp [gA,rI0]
def rV:TS:=λ_ _ _=>False
theorem iT{st:Stmt}:W (PS X st rV):={λ_ _ _ _ _ _ h=>h.elim}
end
end L2
namespace L2
open PySem PySem.Spec PyProof.Rows
section
variable {α β:Type}
def look(t:List (Str×α))(n:Str):Option α:=(t.find? λp=>decide (p.1=n)).map (·.2)
def zt(t:List (Str×α))(n:Str)(a:α):List (Str×α):=if (look t n).isSome then t.map λp=>if p.1=n then (p.1,a) else p else t++[(n,a)]
def bw(t:List (Str×α))(n:Str):List (Str×α):=t.filter λp=>!decide (p.1=n)
def names(t:List (Str×α)):List Str:=t.map (·.1)
theorem pG:look ([]:List (Str×α)) n=none:=rfl
theorem bF{p:Str×α}{t:List (Str×α)}:look (p::t) n=if p.1=n then some p.2 else look t n:=by
 unfold look;by_cases h:p.1=n
 .rw [List.find?_cons_of_pos (by simpa using h),if_pos h];rfl
 .rw [List.find?_cons_of_neg (by simpa using h),if_neg h]
theorem dz{t:List (Str×α)}(h:look t n=some a):(n,a)∈t:=by
 induction t with
 | nil=>cases h
 | cons p t F =>
  rw [bF] at h;by_cases e:p.1=n
  .rw [if_pos e] at h;cases h;subst e;exact Er ..
  .rw [if_neg e] at h;exact Em _ (F h)
theorem bh{t:List (Str×α)}:look t n=none↔n∉names t:=by
 induction t with
 | nil=>simp [look,names]
 | cons p t F =>
  rw [bF];by_cases e:p.1=n
  .rw [if_pos e];simp [names,e]
  .rw [if_neg e,F];simp [names];exact λ_=>λh=>e h.symm
theorem sU{t:List (Str×α)}(nd:(names t).Nodup)(h:(n,a)∈t):look t n=some a:=by
 induction t with
 | nil=>cases h
 | cons p t G =>
  rw [bF];have F:p.1∉names t/\(names t).Nodup:=ID.mp nd;rcases EI.mp h with e|h
  .rw [<- e,if_pos rfl]
  .have:p.1≠n:=λe=>F.1 (by rw [e];exact List.mem_map_of_mem (f:=(·.1)) h);rw [if_neg this];exact G F.2 h
theorem jc{t:List (Str×α)}:names (zt t n a)=if (look t n).isSome then names t else names t++[n]:=by
 unfold zt names;by_cases h:(look t n).isSome
 .rw [if_pos h,if_pos h,GT];refine Hk λp _=>?_;show (if p.1=n then (p.1,a) else p).1=p.1;split<;>rfl
 .rw [if_neg h,if_neg h,FY];rfl
theorem fz{t:List (Str×α)}(nd:(names t).Nodup):(names (zt t n a)).Nodup:=by
 rw [jc];by_cases h:(look t n).isSome
 .rw [if_pos h];exact nd
 .rw [if_neg h];have:look t n=none:=by simpa using h
  rw [bh] at this;rw [HI];refine {nd,'s',λx G y F e=>?_};have:y=n:=by simpa using F
  subst this;subst e;contradiction
theorem Cv{t:List (Str×α)}(nd:(names t).Nodup):(names (bw t n)).Nodup:=by
 unfold names bw;exact nd.sublist (List.Sublist.map _ List.filter_sublist)
theorem vQ{t:List (Str×α)}:look (t.map λp=>if p.1=n then (p.1,a) else p) m=if m=n then (if (look t n).isSome then some a else none) else look t m:=by
 induction t with
 | nil=>by_cases h:m=n<;>simp [look,h]
 | cons p t F =>
  rw [Fq,bF,F,bF,bF];by_cases e:p.1=n
  .rw [if_pos e,if_pos e];show (if p.1=m then some a else _)=_;by_cases h:m=n
   .rw [if_pos (by rw [e,h]),if_pos h];rfl
   .rw [if_neg (λz=>h (by rw [<- z,e])),if_neg h,if_neg h,if_neg (λz=>h (by rw [<- z,e]))]
  .rw [if_neg e,if_neg e];by_cases h:m=n
   .rw [if_pos h,if_pos h,if_neg (λz=>e (by rw [z,h]))]
   .rw [if_neg h,if_neg h]
theorem vA{t u:List (Str×α)}:look (t++u) m=(look t m).or (look u m):=by
 induction t with
 | nil=>simp [pG]
 | cons p t n =>
  rw [Hd,bF,bF,n];by_cases h:p.1=m
  .rw [if_pos h,if_pos h];rfl
  .rw [if_neg h,if_neg h]
theorem o9{t:List (Str×α)}:look (zt t n a) m=if m=n then some a else look t m:=by
 unfold zt;by_cases h:(look t n).isSome
 .rw [if_pos h,vQ,if_pos h]
 .rw [if_neg h,vA,bF];have F:look t n=none:=by simpa using h
  by_cases e:m=n
  .rw [if_pos e,e,F,if_pos rfl];rfl
  .rw [if_neg e,if_neg (λz=>e z.symm),pG,Option.or_none]
def eh(t u:List (Str×α)):Prop:=∀n,look t n=look u n
theorem eh.names{t u:List (Str×α)}(h:eh t u)(J:(names t).Nodup)(G:(L2.names u).Nodup):(L2.names t).Perm (L2.names u):=by
 refine (List.perm_ext_iff_of_nodup J G).mpr λn=>?_;have h1:=h n;constructor
 .intro F;refine Fg λz=>?_;rw [bh.mpr z] at h1;exact bh.mp h1 F
 .intro F;refine Fg λz=>?_;rw [bh.mpr z] at h1;exact bh.mp h1.symm F
def Dct(R:V->α->Prop):List (Str×V)->List (Str×α)->Prop:=Paired λp q=>p.1=q.1/\R p.2 q.2
theorem Dct.names{t:List (Str×α)}(h:Dct R kvs t):kvs.map (·.1)=L2.names t:=by
 induction h with
 | nil=>rfl
 | @cons p q l m r _ n=>show p.1::l.map (·.1)=q.1::m.map (·.1);rw [r.1,n];rfl
theorem Dct.length{t:List (Str×α)}(h:Dct R kvs t):kvs.length=t.length:=Paired.length h
theorem Dct.imp{t:List (Str×α)}(h:Dct R kvs t)(f:∀v a,R v a->S v a):Dct S kvs t:=Paired.L5 h λp q z=>{z.1,f _ _ z.2}
theorem Dct.look{t:List (Str×α)}(h:Dct R kvs t)(n:Str):(∃v a,L2.look kvs n=some v/\L2.look t n=some a/\R v a)\/(L2.look kvs n=none/\L2.look t n=none):=by
 induction h with
 | nil=>exact .inr {rfl,rfl}
 | cons r _ F =>
  rw [bF,bF,<- r.1];split
  .exact .inl {_,_,rfl,rfl,r.2}
  .exact F
theorem Dct.put{t:List (Str×α)}(h:Dct R kvs t)(n:Str)(r:R v a):Dct R (zt kvs n v) (zt t n a):=by
 have hs:(L2.look kvs n).isSome=(L2.look t n).isSome:=by
  rcases h.look n with ⟨v,a,G,J,_⟩|⟨G,J⟩<;>rw [G,J]<;>rfl
 have hm:Dct R (kvs.map λp=>if p.1=n then (p.1,v) else p) (t.map λp=>if p.1=n then (p.1,a) else p):=by
  clear hs
  induction h with
  | nil=>exact .nil
  | @cons p q _ _ r' _ F =>
   refine .cons ?_ F;show (if p.1=n then (p.1,v) else p).1=(if q.1=n then (q.1,a) else q).1/\R (if p.1=n then (p.1,v) else p).2 (if q.1=n then (q.1,a) else q).2;by_cases e:p.1=n
   .rw [if_pos e,if_pos (by rw [<- r'.1];exact e)];exact ⟨r'.1,r⟩
   .rw [if_neg e,if_neg (by rw [<- r'.1];exact e)];exact r'
 have ha:Dct R (kvs++[(n,v)]) (t++[(n,a)]):=by
  clear hs hm
  induction h with
  | nil=>exact .cons {rfl,r} .nil
  | cons r' _ F=>exact .cons r' F
 unfold zt;rw [hs];split
 .exact hm
 .exact ha
theorem Dct.drop{t:List (Str×α)}(h:Dct R kvs t)(n:Str):Dct R (bw kvs n) (bw t n):=by
 induction h with
 | nil=>exact .nil
 | @cons p q _ _ r _ F =>
  unfold bw at F ⊢;by_cases e:p.1=n
  .rw [Hf (by simpa using e),Hf (by rw [<- r.1];simpa using e)];exact F
  .rw [He (by simpa using e),He (by rw [<- r.1];simpa using e)];exact .cons r F
theorem Dct.at{t:List (Str×α)}(h:Dct R kvs t):∀{i:Nat}{p:Str×V},kvs[i]?=some p->∃a,t[i]?=some (p.1,a)/\R p.2 a:=by
 induction h with
 | nil=>intro i p e;simp at e
 | @cons x y _ _ r _ F =>
  intro i p e;cases i with
  | zero =>
   have n:x=p:=by simpa using e
   subst n;exact {y.2,by rw [r.1];rfl,r.2}
  | succ i=>exact F (by simpa using e)
end
theorem bS:zY (sk kvs) (.inr n)=look kvs n:=by
 induction kvs with
 | nil=>rfl
 | cons p t F =>
  rw [bF];by_cases e:p.1=n
  .rw [if_pos e];exact iu (show (Sum.inr p.1:Key)=Sum.inr n by rw [e])
  .rw [if_neg e,<- F];exact ie (λz=>e (by injection z))
theorem dA:aV (sk kvs) (.inr n) v=sk (zt kvs n v):=by
 unfold aV zt;have hs:((sk kvs).any λF=>decide (F.1 = .inr n))=(look kvs n).isSome:=by rw [mm,bS]
 rw [hs];split
 .unfold sk;rw [GT,GT];refine Hk λp _=>?_;by_cases e:p.1=n
  .simp [e]
  .simp [e]
 .simp [sk]
theorem Ap:bB (sk kvs) (.inr n)=sk (bw kvs n):=by
 induction kvs with
 | nil=>rfl
 | cons p t F =>
  by_cases e:p.1=n
  .have:bw (p::t) n=bw t n:=by unfold bw;rw [Hf (by simpa using e)]
   rw [this,<- F];exact DP (show (Sum.inr p.1:Key)=Sum.inr n by rw [e])
  .have:bw (p::t) n=p::bw t n:=by unfold bw;rw [He (by simpa using e)]
   rw [this];show bB ((Sum.inr p.1,p.2)::sk t) (Sum.inr n)=(Sum.inr p.1,p.2)::sk (bw t n);rw [<- F];exact vU (λz=>e (by injection z))
theorem yO:kE (.ref a) (.str z) H Q = ∃kvs,Rd H a (.dK kvs)/\∃v,zY kvs (.inr z)=some v/\Q v H:=by
 apply propext;constructor
 .rintro ⟨G,k,kvs,v,F,n,h1,h2,q⟩;cases F;cases k with
  | inl i=>cases n
  | inr x=>cases n;exact ⟨kvs,h1,v,h2,q⟩
 .rintro ⟨kvs,h1,v,h2,q⟩;exact {a,.inr z,kvs,v,rfl,rfl,h1,h2,q}
theorem Bl:gN (.ref a) (.ref b) H Q = ∃xs ys,H a=some (.tup xs)/\H b=some (.tup ys)/\xs.length+ys.length<=sizeLine/\∀p H2,zg H H2->H2 p=some (.tup (xs++ys))->Q (.ref p) H2:=by
 apply propext;constructor
 .rintro ⟨G,J,xs,ys,n,F,h⟩;cases n;cases F;exact ⟨xs,ys,h⟩
 .rintro ⟨xs,ys,h⟩;exact {a,b,xs,ys,rfl,rfl,h}
def oV:List V->Hp->VK->Prop:=λxs H Q=>uR1 xs λa=>∃kvs,Rd H a (.dK kvs)/\Q (.int kvs.length) H
theorem C4:oV [.ref a] H Q = ∃kvs,Rd H a (.dK kvs)/\Q (.int kvs.length) H:=fc
theorem gE:zM X (.builtin "len") oV:=by
 intro Ga s σ H xs us Q I r h;obtain ⟨a,rfl,kvs,ha,q⟩:=h;obtain ⟨u,rfl,n⟩:=cn r;cases n;exact DA I ha λt s' F=>{.int kvs.length,H,F,{t,rfl},q}
theorem Af{k j:Nat}{p pos:Pos}(G:GC X.prog X.w X.K X.mg X.base cm j x C ps sp)(hr:zD cm k X.A)(S:Gl X x)(J:j+1<=k:=by decide)(n:(x==("__debug__":Str))=false:=by decide):
  PE X (.Call (.Name x p) [] [] pos) (h7 C sp bE):=by
 obtain ⟨f,fd,F,hm,M,hb⟩:=G.ex;intro Ga s σ H Q I h;exact xS M F (hr.mono J) S hm hb .nil gB n Ga s σ H Q I (λy dx O hd ne=>h y dx _ (.mk' O hd ne))
theorem pj{k j:Nat}{p pos:Pos}(G:GC X.prog X.w X.K X.mg X.base cm j x C ps sp)(hr:zD cm k X.A)(J:Gl X x)(F:j+1<=k:=by decide)(n:(x==("__debug__":Str))=false:=by decide):
  W (PE X (.Call (.Name x p) [] [] pos) (h7 C sp bE)):={Af G hr J F n}
def lh:R2:=λx y H Q=>∃p xs,y = .ref p/\(H p=some (.lst xs)\/H p=some (.tup xs))/\zO x=true/\xs.all zO=true/\Q (.bl (!inV x xs)) H
theorem nV(G:X.A.units<cLine):OpR X (E4 .NotIn) lh:=yI.weak λx y H Q h=>by
 obtain ⟨p,xs,e,h,F,n,q⟩:=h;exact {p,xs,e,h.elim (λh=>.inl (SqL.of h)) (λh=>.inr (SqT.of h)),F,n,by simpa using q}
theorem C2{p:Addr}:lh x (.ref p) H Q = ∃xs,(H p=some (.lst xs)\/H p=some (.tup xs))/\zO x=true/\xs.all zO=true/\Q (.bl (!inV x xs)) H:=by simp [lh]
theorem cN:(sk kvs).length=kvs.length:=by simp [sk]
section
variable {X:Cx}
def kN(K:Ei)(D:Addr)(tb:(Addr->St->Hp->Prop)->TS)(F:TS):TS:=λZ σ H =>
 tb (λC n H'=>aR K C/\G0 K C (.ref D)=some true/\∀ea oe,H' ea=none->eI C oe->F Z n (upd H' ea (.frz oe (.own 0)))) Z σ H
theorem yK{K:Ei}:kN K D tb F Z σ H=tb (λC n H'=>aR K C/\G0 K C (.ref D)=some true/\∀ea oe,H' ea=none->eI C oe->F Z n (upd H' ea (.frz oe (.own 0)))) Z σ H:=rfl
def lH(neg:Bool):R2:=λx y H Q=>∃a b xs ys,x = .ref a/\y = .ref b/\H a=some (.lst xs)/\H b=some (.lst ys)/\(xs.length=0\/ys.length=0)/\Q (.bl (if neg then !decide (xs.length=ys.length) else decide (xs.length=ys.length))) H
theorem xJ(n:X.A.units<cLine):OpR X (E4 .Eq) (lH false):=by
 intro Ga s σ H x y v u Q I G J h;obtain ⟨a,b,xs,ys,rfl,rfl,ha,hb,W,q⟩:=h;cases G;cases J;by_cases S:xs.length=ys.length
 .have h1:xs=[]:=Fk.mp 'l';have h2:ys=[]:=Fk.mp 'l';subst h1 h2;exact pJ n Ga s σ H (.ref a) (.ref b) (.ref a) (.ref b) Q I rfl rfl {a,b,[],[],rfl,rfl,SqL.of ha,SqL.of hb,rfl,rfl,q}
 .obtain ⟨is,r1,O,_⟩:=I.list (SqL.of (K:=X.K) ha);obtain ⟨Z,r2,p2,_⟩:=I.list (SqL.of (K:=X.K) hb);have U:=r1.length;have l2:=r2.length;refine SeqAt.eq_list_lengthsAt O.isList p2.isList (by simp;lia) n {.bl false,H,I,rfl,?_};have F:Q (.bl (decide (xs.length=ys.length))) H:=q;rw [decide_eq_false S] at F;exact F
theorem Aw(n:X.A.units<cLine):OpR X (E4 .NotEq) (lH true):=by
 intro Ga s σ H x y v u Q I G J h;obtain ⟨a,b,xs,ys,rfl,rfl,ha,hb,W,q⟩:=h;cases G;cases J;by_cases S:xs.length=ys.length
 .have h1:xs=[]:=Fk.mp 'l';have h2:ys=[]:=Fk.mp 'l';subst h1 h2;exact nF n Ga s σ H (.ref a) (.ref b) (.ref a) (.ref b) Q I rfl rfl {a,b,[],[],rfl,rfl,SqL.of ha,SqL.of hb,rfl,rfl,q}
 .obtain ⟨is,r1,O,_⟩:=I.list (SqL.of (K:=X.K) ha);obtain ⟨Z,r2,p2,_⟩:=I.list (SqL.of (K:=X.K) hb);have U:=r1.length;have l2:=r2.length;refine SeqAt.RcNeAt.lists_lengths O.isList p2.isList (by simp;lia) n _ _ _ _ {.bl true,H,I,rfl,?_};have F:Q (.bl (!decide (xs.length=ys.length))) H:=q;rw [decide_eq_false S] at F;exact F
theorem wa:lH neg (.ref a) (.ref b) H Q = ∃xs ys,H a=some (.lst xs)/\H b=some (.lst ys)/\(xs.length=0\/ys.length=0)/\Q (.bl (if neg then !decide (xs.length=ys.length) else decide (xs.length=ys.length))) H:=by
 apply propext;constructor
 .rintro ⟨G,J,xs,ys,n,F,h⟩;cases n;cases F;exact ⟨xs,ys,h⟩
 .rintro ⟨xs,ys,h⟩;exact {a,b,xs,ys,rfl,rfl,h}
end
theorem Cp{p:Addr}:kG c (.int i) (.ref p) H Q = ∃kvs,Rd H p (.dK kvs)/\Q (.bl (if c then !(zY kvs (.inl i)).isSome else (zY kvs (.inl i)).isSome)) H:=by
 apply propext;constructor
 .rintro ⟨a,k,kvs,F,n,h,q⟩;cases F;cases k with
  | inl i=>cases n;exact ⟨kvs,h,q⟩
  | inr x=>cases n
 .rintro ⟨kvs,h,q⟩;exact {p,.inl i,kvs,rfl,rfl,h,q}
def dr(f:Nat->Int):Nat->Option Int
 | 0=>none
 | j+1=>some (match dr f j with|none=>f j|some m=>if f j>m then f j else m)
def iU:Option Int->Array Value->Prop|none,Z7=>Z7 = #[]|some m,Z7=>∃t,Z7 = #[.int m t,.int m t]
def jy(d:Value):Option Int->Value->Prop|none,v=>v=d|some m,v=>∃t,v = .int m t
section
variable {prog:Eo}{w:EG}{A:EB}{E:Value->Eh->Prop}{s:Eh}
theorem xm{St:Nat->Heap->Prop}(W:Walks prog w A.in1 I fp wr n P St)(f:Nat->Int)(hv:∀i v,P i v->∃t,v = .int (f i) t)(S:Addr)(a3:S∉fp)(a4:0<n\/kw=[(Es "default",d)]):
  ∀(k j:Nat)(s:Eh)(c:Nat)(Z7:Array Value),n-j=k->j<=n->St j s.heap->iU (dr f j) Z7 ->
  s.heap.get? S=some { cls:=.type "list",dict:=none,data:=.seq Z7 c,slots:=#[] } ->
  (∀v h' tk,jy d (dr f n) v->(∀b o,b∉wr->b≠S->s.heap.get? b=some o->h'.get? b=some o)->R (.ok (.ret v)) { s with heap:=h',toks:=tk }) ->
  GL (Ez prog w) A (.builtin "max.loop" {[.ref I,.none,.ref S],kw}) R s:=by
 have av:S∉wr:=λh=>a3 (W.sub _ h);have YK:(toString "max"++toString ".loop":String)="max.loop":=by decide
 intro k
 induction k with
 | zero =>
  intro j s c Z7 hk hj Y0 hC hS hR;have aI:j=n:=by lia
  refine GE F.entry_max_loop ?_;rw [EB.under_plainId F.plain_max_loop _];show Et _ A.in1 (seqItems? (.ref S)>>=_) _ _ s;refine we (HS hS rfl ?_);show Et _ A.in1 (tryCatch (Il (.ref I)) _>>=_) _ _ s;refine we (HR (W.done s _ _ (aI ▸ Y0) λh' tk YM=>?_));have Yg:=YM S _ av hS;rw [aI] at hC;cases hb:dr f n with
  | none =>
   rw [hb] at hC hR;cases (show Z7 = #[] from hC);have h0 : ¬ 0<n:=λz=>by
    cases n with
    | zero=>lia
    | succ m=>cases hb
   rcases a4 with z|rfl
   .exact absurd z h0
   show Et _ A.in1 (rule _>>=_) _ _ _;exact we (Hu (Ej (hR d _ tk rfl λb o J _ e=>YM b o J e)))
  | some m =>
   rw [hb] at hC hR;obtain ⟨t,rfl⟩:=hC;show Et _ A.in1 (updateSeq S (λ_=>#[])>>=_) _ _ _;refine we (wpAny_updateSeq Yg rfl (we (wpAny_letGo (Ej ?_))));exact hR _ _ tk {t,rfl} λb o J G e=>(E3 _ _ (Fi G)).trans (YM b o J e)
 | succ k ih =>
  intro j s c Z7 hk hj Y0 hC hS hR;have Zf:j<n:=by lia
  refine GE F.entry_max_loop ?_;rw [EB.under_plainId F.plain_max_loop _];show Et _ A.in1 (seqItems? (.ref S)>>=_) _ _ s;refine we (HS hS rfl ?_);show Et _ A.in1 (tryCatch (Il (.ref I)) _>>=_) _ _ s;refine we (HR (W.item j s _ _ Zf Y0 λv h' tk hP ag YM=>?_));have Yg:=YM S _ av hS;obtain ⟨t,rfl⟩:=hv j v hP;have U:∀{b o}{g:Array Value->Array Value},b≠S->h'.get? b=some o->(h'.update S (mapSeq g)).get? b=some o:=λn e=>(E3 _ _ (Fi n)).trans e;have a0:∀{g:Array Value->Array Value},St (j+1) (h'.update S (mapSeq g)):=λ{g}=>W.frame _ _ _ ag λb hb o e=>U (λz=>a3 (z ▸ hb)) e;cases hb:dr f j with
  | none =>
   rw [hb] at hC;cases (show Z7 = #[] from hC);show Et _ A.in1 (updateSeq S (λ_=>#[.int (f j) t,.int (f j) t])>>=_) _ _ _;refine we (wpAny_updateSeq Yg rfl ?_);rw [YK];refine Ej {Gq F.plain_max_loop _,ih (j+1) _ _ _ 'l' Zf a0 ?_ (FA _ Yg rfl) λv' h2 O YY Z=>?_}
   .show iU (some _) _;rw [hb];exact {t,rfl}
   .exact hR v' h2 O YY λb o J G e=>Z b o J G (U G (YM b o J e))
  | some m =>
   rw [hb] at hC;obtain ⟨u,rfl⟩:=hC;show Et _ A.in1 (tryCatch (GJ [.int (f j) t,.int (f j) t] (richCompare .Gt (.int (f j) t) (.int m u)>>=_)) _>>=_) _ _ _;obtain ⟨bt,ax,ak⟩:∃bt:Nat->Nat->Bool,bt 0 1=decide (f j>m)/\CmpOf prog w A.in1 .Gt (λi v=>(i=0/\v = .int (f j) t)\/(i=1/\v = .int m u)) bt:={_,rfl,CmpOf.ints_gt (λi=>if i=0 then f j else m) λi v h=>by rcases h with ⟨rfl,rfl⟩|⟨rfl,rfl⟩<;>exact {_,rfl}};refine we (HR (E1 (we (ak 0 1 _ _ _ _ _ (.inl {rfl,rfl}) (.inr {rfl,rfl}) ?_))));refine we (E1 (FL ?_));refine we (wpAny_letGo (Ej ?_));by_cases hg:f j>m
   .rw [ax,decide_eq_true hg];simp only [if_true];refine we (wpAny_updateSeq Yg rfl (we (wpAny_letGo ?_)));rw [YK];refine Ej {Gq F.plain_max_loop _,ih (j+1) _ _ _ 'l' Zf a0 ?_ (FA _ Yg rfl) λv' h2 O YY Z=>?_}
    .show iU (some _) _;rw [hb];simp only [if_pos hg];exact {t,rfl}
    .exact hR v' h2 O YY λb o J G e=>Z b o J G (U G (YM b o J e))
   .rw [ax,decide_eq_false hg];simp only [FK,if_false];refine we (wpAny_letGo ?_);rw [YK];refine Ej {Gq F.plain_max_loop _,ih (j+1) _ _ _ 'l' Zf ag ?_ Yg λv' h2 O YY Z=>?_}
    .show iU (some _) _;rw [hb];simp only [if_neg hg];exact {u,rfl}
    .exact hR v' h2 O YY λb o J G e=>Z b o J G (YM b o J e)
theorem vj(a d:Value):argsOk "max" {[a],[(Es "default",d)]}:=by unfold argsOk;kernel_rfl
theorem A7(hh:A.handled=none)(U:s.heap.IsList l G)(hv:∀(i:Nat) v,G[i]?=some v->∃t,v = .int (f i) t)(n:(0<G.size/\kw=[])\/kw=[(Es "default",d)])(h:∀v h' tk,jy d (dr f G.size) v->(∀b o,s.heap.get? b=some o->h'.get? b=some o)->Q v { s with heap:=h',toks:=tk }):
  Et (Ez prog w) A (call (.builtin "max") [.ref l] kw) Q E s:=by
 have YK:(toString "max"++toString ".loop":String)="max.loop":=by decide
 have Zf:l<s.heap.objs.size:=by obtain ⟨_,e,_⟩:=U;exact EM e
 have W:argsOk "max" {[.ref l],kw}:=by
  rcases n with ⟨_,rfl⟩|rfl
  .exact F.args_max1 _
  .exact vj _ _
 refine PyProof.Rows.kmk_tree F.kind_max F.plain_max F.entry_max W ?_;obtain ⟨J,S,hdk⟩:∃J:Option Value,EE.Builtins.bindParams "max" ["key","default"] 0 ⟨[],kw⟩=pure [none,J]/\(J.toList.map λd=>((Es "default":Str),d))=kw:=by
  rcases n with ⟨_,rfl⟩|rfl
  .exact {none,rfl,rfl}
  .exact {some d,rfl,rfl}
 show Et _ A.in1 (EE.Builtins.bindParams "max" ["key","default"] 0 {[],kw}>>=_) _ _ s;refine we (wpAny_of_eq S ?_);refine we (Ej ?_);refine we (Hh U ?_);refine we (Fo ?_);rw [YK];have O:(s.heap.push { cls:=.type "list_iterator",data:=.fields #[.ref l,.int 0 0] }).objs.size=s.heap.objs.size+1:=size_push' ..;have Z:l≠s.heap.objs.size:=E7 Zf;refine Ej {Gq F.plain_max_loop _,?_};show GL _ A (.builtin "max.loop" {[_,.none,_],J.toList.map λd=>((Es "default":Str),d)}) _ _;rw [hdk];refine xm (Walks.list (A:=A.in1) hh _ l Z G) f hv _ (λhm=>?_) (n.imp (·.1) id) _ 0 _ _ #[] rfl (Gr _) {{_,El _ (EW _ rfl),rfl,rfl},(U.push _).push _} rfl (EW _ rfl) λv h' tk hr hk=>?_
 .rcases EI.mp hm with e|hm
  .rw [O] at e;exact absurd e (Iu (Hl _))
  .rcases EI.mp hm with e|hm
   .rw [O] at e;exact absurd (e ▸ Ij Zf) (Fb _)
   .cases hm
 .refine h v h' tk hr λb o e=>hk b o (λhm=>?_) (λz=>?_) (El _ (El _ e))
  .rcases EI.mp hm with e1|hm
   .exact absurd (e1 ▸ EM e) (Fb _)
   .cases hm
  .have:=EM e;rw [z,O] at this;exact absurd this (Nat.not_lt.mpr (Nat.le_succ _))
end
section
variable {X:Cx}
def oi:Option Int->V|none=>.non|some m=>.int m
def jw:List V->Hp->VK->Prop:=λxs H Q=>k7 xs H Q\/∃(l:Addr)(ks:List Int),xs=[.ref l]/\H l=some (.lst (ks.map V.int))/\0<ks.length/\Q (oi (dr (λi=>ks.getD i 0) ks.length)) H
theorem AV{ks:List Int}(r:zo (ks.map V.int) n):∀(i:Nat) v,n.toArray[i]?=some v->∃t,v = .int (ks.getD i 0) t:=by
 intro i v h;rw [<- Ht] at h
 replace h:n[i]?=some v:=h
 induction ks generalizing n i with
 | nil=>cases r;simp at h
 | cons k ks G =>
  cases r with
  | cons r F =>
   cases i with
   | zero=>obtain ⟨t,rfl⟩:=r;simp at h;subst h;exact {t,rfl}
   | succ i=>exact G F i (by simpa using h)
theorem yU{o:Option Int}(h:jy .none o v):zh (oi o) v:=by
 cases o with
 | none=>cases (show v = .none from h);rfl
 | some m=>obtain ⟨t,rfl⟩:=h;exact {_,rfl}
theorem jr(hc:X.calm=true):zM X (.builtin "max") jw:=by
 intro Ga s σ H xs us Q I r h;rcases h with h|⟨l,ks,rfl,G,U,q⟩
 .exact Eg hc Ga s σ H xs us Q I r h
 .obtain ⟨u,rfl,J⟩:=cn r;cases J;obtain ⟨S,F,p,W⟩:=I.list (SqL.of (K:=X.K) G);have n:=F.length;rw [En] at n;refine A7 (d:=.none) (f:=λi=>ks.getD i 0) (I.ok.hd hc) p.isList (AV F) (.inl {by rw [EC];lia,rfl}) λv h' tk hr O=>{_,H,I.kept O,yU hr,?_};rw [EC,<- n];exact q
theorem wL:jw [.int i,.int j] H Q=Q (.int (if j>i then j else i)) H:=by
 apply propext;constructor
 .rintro (h|⟨l,ks,e,_⟩)
  .rw [k4] at h;exact h
  .cases e
 .exact λq=>.inl (by rw [k4];exact q)
theorem B3:jw [.ref l] H Q = ∃ks:List Int,H l=some (.lst (ks.map V.int))/\0<ks.length/\Q (oi (dr (λi=>ks.getD i 0) ks.length)) H:=by
 apply propext;constructor
 .rintro (⟨i,j,e,_⟩|⟨l',ks,e,h⟩)
  .cases e
  .cases e;exact ⟨ks,h⟩
 .rintro ⟨ks,h⟩;exact .inr {l,ks,rfl,h}
end
end L2
namespace L2
open PySem PySem.Spec PyProof.Rows PySem.W
section
variable {α β:Type}{lt:Nat->Nat->Bool}{N:Nat}
def at0(p:Array Nat)(i:Nat):Nat:=p.getD i 0
end
end L2
namespace L2
open PySem PySem.Spec PyProof.Rows
end L2
namespace L2
open PySem PySem.Spec PyProof.Rows PySem.W PySem.Calls
theorem wj:kE (.ref a) (.int i) H Q = ∃kvs,Rd H a (.dK kvs)/\∃v,zY kvs (.inl i)=some v/\Q v H:=by
 apply propext;constructor
 .rintro ⟨G,k,kvs,v,F,n,h1,h2,q⟩;cases F;cases k with
  | inl j=>cases n;exact ⟨kvs,h1,v,h2,q⟩
  | inr x=>cases n
 .rintro ⟨kvs,h1,v,h2,q⟩;exact {a,.inl i,kvs,v,rfl,rfl,h1,h2,q}
end L2
namespace L2
open PySem PySem.Spec PyProof.Rows
def Ris(xs:Array Nat):Prop:=∀i j,i<j->j<xs.size->xs.getD i 0<xs.getD j 0
structure A8(bt:Bool)(t:SetTable):Prop where
 led:t.led = !bt
 dum:t.dummies = #[]
 ris:Ris t.place
def btW(w:EG):Bool:=w.params.followText "set-order"
def BO(e:Int×Value):Int:=numOf e.2
structure mx(prog:Eo)(w:EG)(h:Heap)(a:Addr)(ns:List Int):Prop where
 ex:∃o es ep t,h.get? a=some o/\o.ExactSet/\o.data = .set es ep t/\ElemsOf (PySem.intKind prog w) es.toList/\t.fits es.size=true/\A8 (btW w) t/\(es.toList.map BO).Perm ns
 Mt:ns.length<4000
section
variable {prog:Eo}{w:EG}{A:EB}{E:Value->Eh->Prop}{s:Eh}
theorem mx.at(x:mx prog w h a ns)(k:∀o,h.get? a=some o->h'.get? a=some o):mx prog w h' a ns :=
 let ⟨o,es,ep,t,ho,r⟩:=x.ex;{{o,es,ep,t,k o ho,r},x.Mt}
end
section
variable {prog:Eo}{w:EG}{A:EB}{E:Value->Eh->Prop}{s:Eh}
structure SIt(h:Heap)(I a:Addr)(n ep:Nat)(first:Value)(i:Nat):Prop where
 ex:∃o,h.get? I=some o/\o.cls = .type "set_iterator"/\o.data = .fields #[first,.int i 0,.ref a,.int n 0,.int ep 0]
theorem SIt.at(x:SIt h I a n ep first i)(k:∀o,h.get? I=some o->h'.get? I=some o):SIt h' I a n ep first i:=let ⟨o,ho,r⟩:=x.ex;{{o,k o ho,r}}
section
variable {a:Addr}{o:Obj}{es:Array (Int×Value)}{ep:Nat}{t:SetTable}
def Fst(w:EG)(t:SetTable)(n i:Nat)(first:Value):Prop:=∃k:Nat,first = .int k 0/\(btW w=false->SetTable.below t.place k=i)
end
end
end L2
namespace L2
open PySem PySem.Spec PyProof.Rows PySem.W PySem.Calls
theorem kC:∀{ns:List Int}{F:List Value},zo (ns.map V.int) F->IntsAre F ns
 | [],_,h=>by cases h;exact .nil
 | n::ns,_,h=>by
  cases h with
  | cons r G =>
   obtain ⟨t,rfl⟩:=r;exact .cons n t (kC G)
end L2
namespace L2
open PySem PySem.Spec PyProof.Rows
section
variable {X:Cx}
def EqR(H:Hp)(x y:V)(b:Bool):Prop:=∃p q zs ws,x = .ref p/\y = .ref q/\H p=some (.tup zs)/\H q=some (.tup ws)/\zs.all zO=true/\ws.all zO=true/\b=eqL zs ws
theorem EqR.at(I:Inv X Ga σ H s)(h:EqR H x y b)(rx:zh x u)(ry:zh y v)(hu:A.units<cLine):SeqAt.EqAt A s u v b:=by
 obtain ⟨p,q,xs,ys,rfl,rfl,ha,hb,G,fy,rfl⟩:=h;cases rx;cases ry;by_cases F:p=q
 .subst F;rw [ha] at hb;cases hb;rw [Cq G λx hx b e=>by have:=EZ.mp G x hx;rw [e] at this;cases this];exact SeqAt.EqAt.same _
 obtain ⟨is,r1,p1,_⟩:=I.tuple (SqT.of (K:=X.K) ha);obtain ⟨n,r2,p2,_⟩:=I.tuple (SqT.of (K:=X.K) hb);have l1:=r1.length;have Z:=r2.length;have z:=SeqAt.RcAt.tuples (A:=A) (e:=λj=>eqV (xs.getD j .non) (ys.getD j .non)) p1 p2 hu λj h1 h2=>by
  simp only [EC] at h1 h2;have O:xs[j]?=some (xs.getD j .non):=by rw [EX,Ek 'l'];rfl
  have J:ys[j]?=some (ys.getD j .non):=by rw [EX,Ek 'l'];rfl
  obtain ⟨u,S,q1⟩:=r1.get O;obtain ⟨v,U,q2⟩:=r2.get J;rw [Ek h1] at S;rw [Ek h2] at U;have w1:is.toArray[j]=u:=by simpa using E8.inj S
  have w2:n.toArray[j]=v:=by simpa using E8.inj U
  rw [w1,w2];exact lA q1 q2 (EZ.mp G _ (ER O)) (EZ.mp fy _ (ER J))
 have e:eqL xs ys=((range (min is.toArray.size n.toArray.size)).all (λj=>eqV (xs.getD j .non) (ys.getD j .non))&&is.toArray.size==n.toArray.size):=by
  unfold eqL;simp only [EC];rw [l1,Z];by_cases W:is.length=n.length
  .rw [W];simp
  .have z:(is.length==n.length)=false:=by simpa using W
   rw [z,Ie,Bool.and_false]
 rw [e];exact .of_refs F z
def isB(b:Bool):Value->Bool | .bool a=>a==b|_=>false
theorem oo(b:Bool):∀bs:List Bool,(bs.map Fy).countP (isB b)=bs.count b
 | []=>rfl
 | c::bs=>by
  rw [Fq,Ft,List.count_cons,oo b bs];rfl
def jh:V->List V->Hp->VK->Prop:=λx vs H Q=>∃l b,x = .ref l/\vs=[.bl b]/\∃bs:List Bool,H l=some (.lst (bs.map V.bl))/\Q (.int (bs.count b:Nat)) H
def iA:V->List V->Hp->VK->Prop:=λx vs H Q=>∃l b,x = .ref l/\vs=[.bl b]/\∃bs:List Bool,H l=some (.lst (bs.map V.bl))/\∃j,bs[j]?=some b/\(∀m,m<j->bs[m]?≠some b)/\Q (.int (j:Nat)) H
theorem xO:jh (.ref l) [.bl b] H Q = ∃bs:List Bool,H l=some (.lst (bs.map V.bl))/\Q (.int (bs.count b:Nat)) H:=by
 apply propext;constructor
 .rintro ⟨l',G,n,F,h⟩;cases n;cases F;exact h
 .exact λh=>{l,b,rfl,rfl,h}
theorem Bt:iA (.ref l) [.bl b] H Q = ∃bs:List Bool,H l=some (.lst (bs.map V.bl))/\∃j,bs[j]?=some b/\(∀m,m<j->bs[m]?≠some b)/\Q (.int (j:Nat)) H:=by
 apply propext;constructor
 .rintro ⟨l',G,n,F,h⟩;cases n;cases F;exact h
 .exact λh=>{l,b,rfl,rfl,h}
theorem oZ{bs:List Bool}(y:Value)(n:y∈(bs.map Fy).toArray):SeqAt.EqAt A s y (.bool b) (isB b y):=by
 rw [List.mem_toArray] at n;obtain ⟨a,_,rfl⟩:=Gf.mp n;exact SeqAt.EqAt.bool_bool a b
theorem DT:MtM X "list.count" jh:=by
 intro Ga s σ H x vs v us Q I G S h;obtain ⟨l,b,rfl,rfl,bs,O,q⟩:=h;cases G;obtain ⟨u,rfl,J⟩:=S.one;obtain rfl:u=Fy b:=J;obtain ⟨z,W,n,r,Z,e⟩:=I.Lb O;obtain rfl:=lJ r;refine GQ F.slot_list_count {_,e,rfl} F.entry_list_count (F.args_list_count_2 _ _) (SeqAt.list_countAt l (bs.map Fy).toArray n none #[] (.bool b) (isB b)) {e,λy U=>oZ y U,?_};rw [show (bs.map Fy).toArray.toList=bs.map Fy from rfl,oo];exact {.int _,H,I.tok _,{_,rfl},q}
theorem CN:MtM X "list.index" iA:=by
 intro Ga s σ H x vs v us Q I U rv h;obtain ⟨l,b,rfl,rfl,bs,hH,j,S,J,q⟩:=h;cases U;obtain ⟨u,rfl,W⟩:=rv.one;obtain rfl:u=Fy b:=W;obtain ⟨z,Z7,n,r,hl,e⟩:=I.Lb hH;obtain rfl:=lJ r;obtain ⟨O,ej⟩:=ED.mp S;rw [En,Gk] at z;refine GQ F.slot_list_index {_,e,rfl} F.entry_list_index (F.args_list_index_2 _ _) (SeqAt.list_indexAt l (bs.map Fy).toArray n none #[] (.bool b) (isB b) j (by simpa using O) 'l' ?_ ?_) {e,λy hy=>oZ y hy,{.int _,H,I.tok _,{_,rfl},q}}
 .show isB b ((bs.map Fy).toArray[j]'(by simpa using O))=true;simp [isB,ej]
 .intro m hm G;have Z:m<bs.length:=by simpa using hm
  have Yt:bs[m]≠b:=λz=>J m G (by rw [Ek Z,z]);show isB b ((bs.map Fy).toArray[m]'hm)=false;simp [isB,Yt]
def uLm(R:V->List V->Hp->VK->Prop)(to te:TE):TE:=λσ H Q=>to σ H λx H1=>uR x λl=>(∃xs,H1 l=some (.lst xs))/\te σ H1 λy H2=>R (.ref l) [y] H2 Q
theorem Bg:uLm R to te σ H Q=to σ H λx H1=>uR x λl=>(∃xs,H1 l=some (.lst xs))/\te σ H1 λy H2=>R (.ref l) [y] H2 Q:=rfl
theorem ow{id:String}(slot:Slot "list" nm id)(ty:typeOf (.builtin id)=pure (.type "method_descriptor"))(hm:MtM X id R){o e:EN}(ho:PE X o to)(he:PE X e te)(U:FE o nm X.env (Fx o X.env)=Fx o X.env)(O:(Z3.endLine==cpos.line)=true)(hp:zZ e=true):PE X (.Call (.Attribute o nm Z3) [e] [] cpos) (uLm R to te):=by
 intro Ga s σ H Q I h;have hs:EH [e] X.env=[(false,Fx e X.env)]:=gp hp;refine Gy U (by rw [hs];rfl) O rfl (thn (ho Ga s σ H _ I h) λv s1=>x5e λx H1 F r1 J=>?_);obtain ⟨l,ex,⟨xs,S⟩,q1⟩:=J;subst ex;obtain ⟨h1,h2⟩:=jo (T:="list") F r1 (.inl {rfl,xs,SqL.of S});refine {"list",id,Iz,slot,ty,h1,h2,?_};rw [hs];refine Calls.callWith_builtin rfl (Calls.evalArgs_plain ?_);have G:=fq he fh (hs:=hs) cpos Ga s1 σ H1 (λys H2=>cF (λy=>R (.ref l) [y] H2 Q) ys) F q1;rw [hs] at G;refine thn G λus s2=>x5e λvs H2 W r2 n=>?_;obtain ⟨_,rfl,n⟩:=cF.ex n;exact hm Ga s2 σ H2 (.ref l) _ v us Q W r1 r2 n
theorem Am{o e:EN}(ho:PE X o to)(he:PE X e te)(G:FE o "count" X.env (Fx o X.env)=Fx o X.env:=by rfl)(n:(Z3.endLine==cpos.line)=true:=by rfl)(hp:zZ e=true:=by rfl):PE X (.Call (.Attribute o "count" Z3) [e] [] cpos) (uLm jh to te):=ow PySem.F.slot_list_count PySem.F.type_list_count DT ho he G n hp
theorem Ac{o e:EN}(ho:PE X o to)(he:PE X e te)(G:FE o "index" X.env (Fx o X.env)=Fx o X.env:=by rfl)(n:(Z3.endLine==cpos.line)=true:=by rfl)(hp:zZ e=true:=by rfl):PE X (.Call (.Attribute o "index" Z3) [e] [] cpos) (uLm iA to te):=ow PySem.F.slot_list_index PySem.F.type_list_index CN ho he G n hp
theorem vg{o e:EN}(ho:W (PE X o to))(he:W (PE X e te))(F:FE o "count" X.env (Fx o X.env)=Fx o X.env:=by rfl)(n:(Z3.endLine==cpos.line)=true:=by rfl)(hp:zZ e=true:=by rfl):W (PE X (.Call (.Attribute o "count" Z3) [e] [] cpos) (uLm jh to te)):={Am ho.h he.h F n hp}
theorem yb{o e:EN}(ho:W (PE X o to))(he:W (PE X e te))(F:FE o "index" X.env (Fx o X.env)=Fx o X.env:=by rfl)(n:(Z3.endLine==cpos.line)=true:=by rfl)(hp:zZ e=true:=by rfl):W (PE X (.Call (.Attribute o "index" Z3) [e] [] cpos) (uLm iA to te)):={Ac ho.h he.h F n hp}
theorem x8{G F pt:Pos}{kt k2 pt2}(hc:X.calm=true)(hN:X.N.Nodup)(hi:X.N[i]?=some x)(J:X.N[j]?=some y)(n:i≠j)(O:X.env.scope.names.lookup x=some .local)(U:X.env.scope.names.lookup y=some .local)(ha:W (PA X [a,b] ta))(S:swappedStores [.Tuple [.Name x G,.Name y F] kt pt] (.Tuple [a,b] k2 pt2) X.env=pure (some [x,y]))(hs:swapsWithSole [.Tuple [.Name x G,.Name y F] kt pt] (.Tuple [a,b] k2 pt2) pos.line X.env=pure false:=by rfl):
  W (PS X (.Assign [.Tuple [.Name x G,.Name y F] kt pt] (.Tuple [a,b] k2 pt2) pos) (kU i j ta)):={DN hc hN hi J n O U ha.h S hs}
theorem C5:kU i j ta D σ H=ta σ H λvs H1=>∃v w,vs=[v,w]/\D.nx ((σ.set i (some v)).set j (some w)) H1:=rfl
end
theorem As{α β:Type}{f:α->β}{a:α}{l:List α}:(a::l).map f=f a::l.map f:=rfl
theorem CB{α β:Type}{f:α->β}:([]:List α).map f=[]:=rfl
theorem uh:(!true)=false:=rfl
theorem v5:(!false)=true:=rfl
theorem fsc(a:sc.kind = .function:=by rfl)(b:sc.isCoroutine=false:=by rfl)(c:sc.isGenerator=false:=by rfl)(d:N.Nodup:=by decide +kernel)(e:N.take P.length=P:=by rfl)(f:∀x∈P,sc.names.lookup x=some .local\/sc.names.lookup x=some .cell:=by decide +kernel)(g:∀y∈sc.names,y.2≠.free:=by decide +kernel):zB N P sc:=⟨a,b,c,d,e,f,g⟩
abbrev FnM(K:Ei)(x:Str)(st:Stmt):Prop:=∃f fd,GB K Ep x=some (some (.ref f))/\Fun K x x st f fd
abbrev az(K:Ei)(C:Addr)(m q:Str)(st:Stmt):Prop:=∃f fd,FF K (.ref C) m=some (some (.ref f))/\isFn K (.ref f)=true/\Fun K m q st f fd
theorem u1{α:Type}{p:List α->Prop}(h:∀a,p [a]):∀us,us.length=1->p us
 | [a],_=>h a
theorem u2{α:Type}{p:List α->Prop}(h:∀a b,p [a,b]):∀us,us.length=2->p us
 | [a,b],_=>h a b
theorem u3{α:Type}{p:List α->Prop}(h:∀a b c,p [a,b,c]):∀us,us.length=3->p us
 | [a,b,c],_=>h a b c
theorem u4{α:Type}{p:List α->Prop}(h:∀a b c d,p [a,b,c,d]):∀us,us.length=4->p us
 | [a,b,c,d],_=>h a b c d
section
variable {w:EG}{K:Ei}{mg:Str->Option Value}{h:Heap}{k:Nat}{x q:Str}{C:Addr}{ps:List Str}{sp:Sp}{st:Stmt} (P:Eo) (base:Heap) (cm:Bool)
abbrev BdA(x q:Str)(st:Stmt)(ps:List Str):Prop:=∀(kV G J:Value)(F:Option Addr)(n ct:Value)(us:List Value),us.length=ps.length->bindArgs (fnOf x q (kL st) (dQ st) (zp st) .none kV G J F n ct) {us,[]}=pure (ps.zip us)
theorem gf(X:K.In h)(G:h.Ns Ep mg)(m:FnM K x st)(o:∀f fd,Fun K x x st f fd->zr P w K mg base CX0 cm k f fd ps sp)(b:BdA x x st ps):GF P w K mg base cm k x ps sp:=let ⟨f,fd,a,F⟩:=m;{f,fd,o f fd F,Gv X G a,F.kp,F.binds b}
theorem gx(X:K.In h)(G:h.Ns Ep mg)(m:FnM K x st)(o:∀f fd,Fun K x x st f fd->zr P w K mg base (CXW P w) cm k f fd ps sp)(b:BdA x x st ps):GX P w K mg base cm k x ps sp:=let ⟨f,fd,a,F⟩:=m;{f,fd,o f fd F,Gv X G a,F.kp,F.binds b}
theorem gm(m:az K C x q st)(o:∀f fd,Fun K x q st f fd->zr P w K mg base CX0 cm k f fd ps sp)(b:BdA x q st ps):GM P w K mg base cm k C x ps sp:=let ⟨f,fd,a,i,F⟩:=m;{f,fd,o f fd F,⟨a,i,F.kp⟩,F.binds b}
theorem gmx(m:az K C x q st)(o:∀f fd,Fun K x q st f fd->zr P w K mg base (CXW P w) cm k f fd ps sp)(b:BdA x q st ps):GMX P w K mg base cm k C x ps sp:=let ⟨f,fd,a,i,F⟩:=m;{f,fd,o f fd F,⟨a,i,F.kp⟩,F.binds b}
theorem gc(X:K.In h)(G:h.Ns Ep mg)(c:GB K Ep x=some (some (.ref C)))(mk:makesIn K C=true)(n:IE K (.ref C)=true)(m:az K C XJ q st)(o:∀f fd,Fun K XJ q st f fd->zr P w K mg base CX0 cm k f fd ps sp)(b:BdA XJ q st ps):GC P w K mg base cm k x C ps sp:=let ⟨f,fd,a,i,F⟩:=m;{f,fd,o f fd F,Gv X G c,⟨mk,a,i,n⟩,F.binds b}
end
def fw(i:Nat):TE:=λσ H Q=>match σ[i]? with|some (some v)=>Q v H|_=>False
def nW(g:Int->Int->V):R2:=λx y H Q=>match x,y with | .int i,.int j=>Q (g i j) H|_,_=>False
section
variable {X:Cx}{f:Value->Value->Sem Value}{C:Int->Int->Prop}{g:Int->Int->V}
theorem pvD(i:Nat)(hN:X.N[i]?=some x:=by rfl)(hv:Vis X.env.scope x:=by first|exact EA rfl|exact G6 (EA rfl)|exact G6 (G6 rfl))(hd:(x==("__debug__":Str))=false:=by decide)(hcd:(x==("__classdict__":Str))=false:=by decide):PE X (.Name x pos) (fw i):=λGa s σ H Q I h=>pv i hN hv hd hcd Ga s σ H Q I (by
 unfold fw at h;split at h
 .exact {_,by assumption,h}
 .exact h.elim)
theorem zb(i:Nat)(hN:X.N[i]?=some x:=by rfl)(hv:Vis X.env.scope x:=by first|exact EA rfl|exact G6 (EA rfl)|exact G6 (G6 rfl))(hd:(x==("__debug__":Str))=false:=by decide)(hcd:(x==("__classdict__":Str))=false:=by decide):W (PE X (.Name x pos) (fw i)):={pvD i hN hv hd hcd}
theorem oI0(h:OpR X f (rI0 g)):OpR X f (nW g):=h.weak λx y H Q q=>by
 cases x<;>cases y<;>first|exact q.elim|exact {_,_,rfl,rfl,q}
end
section
variable {i j:Int}{H:Hp}{Q:VK}{C:Int->Int->Prop}{g:Int->Int->V}
theorem Dk:nW g (.int i) (.int j) H Q=Q (g i j) H:=rfl
end
abbrev clT(t:TE):TE:=λσ H Q=>∃R:VK,t σ H R/\∀v H,R v H->Q v H
abbrev clR(r:R2):R2:=λx y H Q=>∃R:VK,r x y H R/\∀v H,R v H->Q v H
abbrev clA(t:TA):TA:=λσ H Q=>∃R:List V->Hp->Prop,t σ H R/\∀v H,R v H->Q v H
def bD(v:V)(q:Bool->Prop):Prop:=match v with | .bl c=>q c|_=>False
def aD(v:V)(q:Addr->Prop):Prop:=match v with | .ref a=>q a|_=>False
theorem DV:bD (.bl c) q=q c:=rfl
theorem uC:aD (.ref a) q=q a:=rfl
theorem bD.ex(h:bD v q):∃c,v = .bl c/\q c:=by
 cases v<;>first|exact {_,rfl,h}|exact h.elim
theorem aD.ex(h:aD v q):∃a,v = .ref a/\q a:=by
 cases v<;>first|exact {_,rfl,h}|exact h.elim
def kZ(t:TE):TT:=λσ H Q=>t σ H λx H1=>bD x λc=>Q c H1
def lI(C:Addr)(m:Str)(sp:Sp)(E:XK)(ta:TE)(t:TA):TE:=λσ H Q=>ta σ H λx H1=>aD x λa=>∃dx fs,H1 a=some (.ins C dx fs)/\fs.lookup m=none/\t σ H1 λvs H2=>sp (.ref a::vs) H2 Q E
def oj(C:Addr)(m:Str)(sp:Sp)(Ex:Addr->St->Hp->Prop)(ta:TE)(t:TA):TE:=λσ H Q=>ta σ H λx H1=>aD x λa=>∃dx fs,H1 a=some (.ins C dx fs)/\fs.lookup m=none/\t σ H1 λvs H2=>sp (.ref a::vs) H2 Q (XE Ex σ)
def qt(sp:Sp)(E:XK)(t:TA):TE:=λσ H Q=>t σ H λvs H1=>sp vs H1 Q E
def sd(sp:Sp)(Ex:Addr->St->Hp->Prop)(t:TA):TE:=λσ H Q=>t σ H λvs H1=>sp vs H1 Q (XE Ex σ)
def qg(C:Addr)(ta:TE)(f:Str):TE:=λσ H Q=>ta σ H λx H1=>aD x λa=>∃dx fs v,H1 a=some (.ins C dx fs)/\fs.lookup f=some v/\Q v H1
def pA(C:Addr)(ta tv:TE)(f:Str):TS:=λD σ H=>tv σ H λy H1=>ta σ H1 λx H2=>aD x λa=>∃dx fs,H2 a=some (.ins C dx fs)/\fs.length<1000/\D.nx σ (upd H2 a (.ins C dx (z5 f y fs)))
def rm(K:Ei)(tl:TE):TI:=λσ H R=>tl σ H λx H1=>aD x λa=>(∃xs,SqL K H1 a xs)/\R (Itl K a) H1
def qd(t:TG)(u:TGs):TGs:=λvs σ H Q=>match vs with|v::r=>t v σ H λn H'=>u r n H' Q|[]=>False
theorem yD{t:TG}{r:List V}:qd t u (v::r) σ H Q=t v σ H λn H'=>u r n H' Q:=rfl
def lO:R2:=λx y H Q=>match x,y with
 | .ref a,.int i=>∃xs,(H a=some (.lst xs)\/H a=some (.tup xs))/\∃v,atI xs i=some v/\Q v H
 | .str x,.int i=>x.length<=sizeLine/\∃c,atI x.cps.toList i=some c/\Q (.str {#[c]}) H
 | _,_=>False
def mh:List V->Hp->VK->Prop:=λxs H Q=>match xs with
 | [.ref a]=>∃ys,(H a=some (.lst ys)\/H a=some (.tup ys))/\Q (.int ys.length) H
 | [.str x]=>x.length<=sizeLine/\Q (.int x.length) H
 | _=>False
def fP(c:Bool):R2:=λx y H Q=>match x,y with
 | .int i,.int j=>Q (.bl (if c then !decide (i=j) else decide (i=j))) H
 | .str i,.str j=>Q (.bl (if c then !decide (i=j) else decide (i=j))) H
 | .bl i,.bl j=>Q (.bl (if c then !decide (i=j) else decide (i=j))) H
 | .ref a,.ref b=>∃xs ys,H a=some (.lst xs)/\H b=some (.lst ys)/\xs.all zO=true/\ys.all zO=true/\Q (.bl (if c then !eqL xs ys else eqL xs ys)) H
 | _,_=>False
def gS:R2:=λx y H Q=>match x,y with
 | .int i,.int j=>Q (.int (i+j)) H
 | .str x,.str y=>x.length+y.length<=sizeLine/\Q (.str (x++y)) H
 | .ref a,.ref b=>∃xs zs,H a=some (.lst xs)/\H b=some (.lst zs)/\xs.length+zs.length<=sizeLine/\∀p H2,New H p (.lst (xs++zs)) H2->Q (.ref p) H2
 | _,_=>False
section
variable {H:Hp}{Q:VK}{i j:Int}{x y:Str}{a b:Addr}{k k' c:Bool}
theorem BF:lO (.ref a) (.int i) H Q = ∃xs,(H a=some (.lst xs)\/H a=some (.tup xs))/\∃v,atI xs i=some v/\Q v H:=rfl
theorem yB:lO (.str x) (.int i) H Q=(x.length<=sizeLine/\∃c,atI x.cps.toList i=some c/\Q (.str {#[c]}) H):=rfl
theorem Ba:mh [.ref a] H Q = ∃ys,(H a=some (.lst ys)\/H a=some (.tup ys))/\Q (.int ys.length) H:=rfl
theorem Bi:mh [.str x] H Q=(x.length<=sizeLine/\Q (.int x.length) H):=rfl
theorem uZ:fP c (.int i) (.int j) H Q=Q (.bl (if c then !decide (i=j) else decide (i=j))) H:=rfl
theorem wm:fP c (.str x) (.str y) H Q=Q (.bl (if c then !decide (x=y) else decide (x=y))) H:=rfl
theorem yP:fP c (.bl k) (.bl k') H Q=Q (.bl (if c then !decide (k=k') else decide (k=k'))) H:=rfl
theorem AA:fP c (.ref a) (.ref b) H Q = ∃xs ys,H a=some (.lst xs)/\H b=some (.lst ys)/\xs.all zO=true/\ys.all zO=true/\Q (.bl (if c then !eqL xs ys else eqL xs ys)) H:=rfl
theorem vc:gS (.int i) (.int j) H Q=Q (.int (i+j)) H:=rfl
theorem ub:gS (.str x) (.str y) H Q=(x.length+y.length<=sizeLine/\Q (.str (x++y)) H):=rfl
theorem wD:gS (.ref a) (.ref b) H Q = ∃xs zs,H a=some (.lst xs)/\H b=some (.lst zs)/\xs.length+zs.length<=sizeLine/\∀p H2,New H p (.lst (xs++zs)) H2->Q (.ref p) H2:=rfl
end
section
variable {X:Cx}{e:EN}{es:List EN}{st:Stmt}{t ta tb tv:TE}{tA:TA}{r:R2}{f:Value->Value->Sem Value}{C:Addr}{m:Str}{sp:Sp}{E:XK}{Ex:Addr->St->Hp->Prop}{c:Bool}
theorem clE(h:W (PE X e t)):W (PE X e (clT t)):={λGa s σ H Q I=>x3e λR q n=>thn (h.h Ga s σ H R I q) λ_ _=>x5e λv H' a b c=>{v,H',a,b,n _ _ c}}
theorem clO(h:OpR X f r):OpR X f (clR r):=λGa s σ H x y v u Q I F G=>x3e λR q n=>thn (h Ga s σ H x y v u R I F G q) λ_ _=>x5e λv H' a b c=>{v,H',a,b,n _ _ c}
theorem clP(h:W (PA X es tA)):W (PA X es (clA tA)):=⟨h.h.any⟩
theorem peD(h:W (PE X e t))(w:∀σ H Q,t' σ H Q->t σ H Q):W (PE X e t'):={λGa s σ H Q I q=>h.h Ga s σ H Q I (w σ H Q q)}
theorem tD(h:W (PT X e (g8 (tOp (clR r) (clT ta) (clT tb))))):W (PT X e (kZ (tOp r ta tb))):={λGa s σ H Q I q=>h.h Ga s σ H Q I {_,q,λx H1 q1=>{_,q1,λy H2 F=>{_,F,λz H3 n=>n.ex}}}}
theorem mD(h:W (PE X e (dH C m sp [] E (clT ta) (clA tA)))):W (PE X e (lI C m sp E ta tA)):=peD h λσ H Q q=>{_,q,λx H1 q1=>by
 obtain ⟨a,rfl,dx,fs,h1,h2,F⟩:=q1.ex;exact {a,dx,fs,rfl,h1,h2,_,F,λvs H2 n=>by dsimp only;rw [Gc];exact n}}
theorem m0D(h:W (PE X e (dH C m sp [] E (clT ta) bE))):W (PE X e (lI C m sp E ta bE)):=peD h λσ H Q q=>{_,q,λx H1 q1=>by
 obtain ⟨a,rfl,dx,fs,h1,h2,n⟩:=q1.ex;exact {a,dx,fs,rfl,h1,h2,n}}
theorem dE(h:W (PE X e (fJ C m sp [] Ex (clT ta) bE))):W (PE X e (oj C m sp Ex ta bE)):=peD h λσ H Q q=>{_,q,λx H1 q1=>by
 obtain ⟨a,rfl,dx,fs,h1,h2,n⟩:=q1.ex;exact {a,dx,fs,rfl,h1,h2,n}}
theorem caD(h:W (PE X e (je sp [] E (clA tA)))):W (PE X e (qt sp E tA)):=peD h λσ H Q q=>{_,q,λvs H2 n=>by dsimp only;rw [Gc];exact n}
theorem cXD(h:W (PE X e (ic sp [] Ex (clA tA)))):W (PE X e (sd sp Ex tA)):=peD h λσ H Q q=>{_,q,λvs H2 n=>by dsimp only;rw [Gc];exact n}
theorem fD(h:W (PE X e (hZ C (clT ta) m))):W (PE X e (qg C ta m)):=peD h λσ H Q q=>{_,q,λx H1 q1=>by
 obtain ⟨a,rfl,dx,fs,v,n⟩:=q1.ex;exact {a,dx,fs,v,rfl,n}}
theorem sfD(h:W (PS X st (jq C (clT ta) (clT tv) m))):W (PS X st (pA C ta tv m)):={λGa s σ H D I q=>h.h Ga s σ H D I {_,q,λy H1 q1=>{_,q1,λx H2 F=>by
 obtain ⟨a,rfl,dx,fs,n⟩:=F.ex;exact {a,dx,fs,rfl,n}}}}
theorem liD(h:W (PIc c X tg e (jb X.K (clT ta)))):W (PIc c X tg e (rm X.K ta)):={λGa s σ H R I q=>h.h Ga s σ H R I {_,q,λx H1 q1=>q1.ex}}
theorem gsD(h:W (PGs X n (kQ g u))):W (PGs X n (qd g u)):={λGa s σ H vs us Q I F q=>h.h Ga s σ H vs us Q I F (by cases vs with|nil=>exact q.elim|cons v r=>exact {v,r,rfl,q})}
theorem aq:IxR X lO:=cU.weak λx y H Q h=>by
 cases x<;>cases y<;>first|exact h.elim|skip
 .rename_i a i;exact (j4 (x:=a) (i:=i)).mpr h
 .rename_i a i;exact (jn (a:=a) (i:=i)).mpr h
theorem bG:zM X (.builtin "len") mh:=fB.weak λxs H Q h=>by
 match xs,h with
 | [.ref a],h=>exact (hU (a:=a)).mpr h
 | [.str x],h=>exact (qO (x:=x)).mpr h
theorem oE{f:Value->Value->Sem Value}(h:OpR X f (uEq c)):OpR X f (fP c):=h.weak λx y H Q h=>by
 cases x<;>cases y<;>first|exact h.elim|exact o6.mpr h|exact qf.mpr h|exact m8.mpr h|exact nO.mpr h
theorem zU:OpR X (FP .Add) gS:=bL.weak λx y H Q h=>by
 cases x<;>cases y<;>first|exact h.elim|exact sH.mpr h|exact sQ.mpr h|exact gv.mpr h
end
end L2
namespace HT
open PySem PyProof.Rows
end HT
namespace L2
open PySem PySem.Spec PyProof.Rows
section
variable {P:Eo}{w:EG}{K:Ei}{mg:Str->Option Value}{base:Heap}{x qual:Str}{st:Stmt}{f:Addr}{fd:Ey}{N ps:List Str}{cm:Bool}{k:Nat}{sp:Sp}
theorem Fun.o(F:Fun K x qual st f fd)(S:zB N ps (zp st))
  (hb:∀(n:Value)(A:EB)(outer:List Env)(s:Eh)(H:Hp)(vs:List V)(Q:VK)(E:XK),zD cm k (A.deeper (GP qual (zp st) s.heap.objs.size f n))->sp vs H Q E ->
   ∃t,PSs (bH CX0 cm P w K mg base N qual (zp st) f n A outer s H E).Mi (dQ st) t/\t { nx:=λ_ H'=>Q .non H',rt:=Q } (start N vs) H)
  (len:∀vs H Q E,sp vs H Q E->vs.length=ps.length:=by intro _ _ _ _ h;repeat (first|(obtain ⟨rfl,_⟩:=h;rfl)|(obtain ⟨_,h⟩:=h))):zr P w K mg base CX0 cm (k+1) f fd ps sp:=F.ok S len hb
theorem Fun.oW(F:Fun K x qual st f fd)(S:zB N ps (zp st))
  (hb:∀(n:Value)(A:EB)(outer:List Env)(s:Eh)(H:Hp)(vs:List V)(Q:VK)(E:XK),zD cm k (A.deeper (GP qual (zp st) s.heap.objs.size f n))->sp vs H Q E ->
   ∃t,PSs (bH (CXW P w) cm P w K mg base N qual (zp st) f n A outer s H E) (dQ st) t/\t { nx:=λ_ H'=>Q .non H',rt:=Q } (start N vs) H)
  (len:∀vs H Q E,sp vs H Q E->vs.length=ps.length:=by intro _ _ _ _ h;repeat (first|(obtain ⟨rfl,_⟩:=h;rfl)|(obtain ⟨_,h⟩:=h))):zr P w K mg base (CXW P w) cm (k+1) f fd ps sp:=F.Mw S len hb
end
section
variable {prog:Eo}{w:EG}{A:EB}{E:Value->Eh->Prop}{s:Eh}{env:Env}
variable {nm q:Str}{C N:Addr}{bs bm bmB:List Value}{hdct:Bool}{sn:List Str}{sub:List Value}{ab:Bool}{col:Option Bool}{dd:Option Addr}{k0 k1 k2 k3 k5:Option Value}{B newId initId:String}
def mn(A:EB)(F:Heap)(e:Addr)(h h':Heap):Prop:=h'=h\/∃a n,A.handled=some (.ref a)/\aJ F n a/\h'=h.update e (HN (·.setIfInBounds 2 (.ref a)))
theorem vX{α:Type}{Q:α->Eh->Prop}(G:Hnd A F)(kp:∀b o,(∃C,o.cls = .ref C)->F.get? b=some o->s.heap.get? b=some o)(J:F.get? e=none)(he:s.heap.get? e=some oe)(hd:oe.data = .fields ws)(O:2<ws.size)(k:∀h',mn A F e s.heap h'->E (.ref e) { s with heap:=h' }):Et (Ez prog w) A (raiseNew (.ref e):Sem α) Q E s:=by
 unfold raiseNew;refine we (wpAny_handled ?_);rcases G with G|⟨a,n,h1,h2⟩
 .rw [G];exact we (Ej (wpAny_throw (k s.heap (.inl rfl))))
 .rw [h1];have ne:∀n b,aJ F n b->b≠e:=λn b x z=>by
   obtain ⟨o,C,g,c⟩:=x.cls;rw [z,J] at g;cases g
  dsimp only;rw [if_pos (show (Ew a != Ew e)=true by simpa using ne _ _ h2)];refine we (E1 (wpAny_runValue (sA kp ne h2 h2 (EF _) ?_)));refine we ?_;show Et _ _ (setField (.ref e) 2 (.ref a)) _ _ _;exact FV he hd O (wpAny_throw (k _ (.inr {a,n,h1,h2,rfl})))
theorem lq(S:bm.contains (.type "BaseException")=true)(h:Et (Ez prog w) A x (λv s₁=>∃e t n,v = .ref e/\Hnd A n/\(∀b o,(∃C,o.cls = .ref C)->n.get? b=some o->s₁.heap.get? b=some o)/\n.get? e=none/\s₁.heap.get? C=some (excClassObj nm q C N bs bm hdct sn sub ab col dd k0 k1 k2 k3 k5 newId) /\
   s₁.heap.get? e=some { cls:=.ref C,data:=.fields #[.ref t,.none,.none,.none,.bool false,.none] }/\∀h',mn A n e s₁.heap h'->E (.ref e) { s₁ with heap:=h' }) E s):
  Et (Ez prog w) A (raiseStmt env (some x) none) Q E s:=by
 have F:(Ew C::bm).contains (.type "BaseException")=true:=by rw [List.contains_cons,S,Bool.or_true]
 unfold raiseStmt;refine we (Fe h (λv s₁ h₁=>?_) λ_ _ x=>x);obtain ⟨e,t,n,rfl,U,kp,O,G,he,J⟩:=h₁;obtain ⟨hp,g,d,tk,os⟩:=s₁
 repeat (first|with_reducible refine Hi he ?_|with_reducible refine Hi G ?_|(with_reducible refine HF G ?_;rw [F])|wp_step)
 exact vX U kp O he rfl 's' J
theorem uJ(F:ExcBaseFacts B newId initId bmB)(ZR:bm.contains (.type "BaseException")=true)(O:(FZ cpos (EH args env)).any (·.1)=false)(W:mN XJ=none)(h:Et (Ez prog w) A (Fx (.Name x np) env) (λf s₁=>f = .ref C/\Et (Ez prog w) A (evalArgs (.ref C) true (FZ cpos (EH args env)) [])
   (λa n=>a.kw=[]/\a.pos.length<=sizeLine/\Hnd A n.heap/\n.heap.get? C=some (excClassObj nm q C N bs bm hdct sn sub ab col dd k0 k1 k2 k3 k5 newId)/\n.heap.Ns N mN/\OwnTail n.heap bmB bm /\
    ∀h' e,Heap.MadeExcOf n.heap h' e (.ref C) a.pos->∀S,mn A n.heap e h' S->E (.ref e) { n with heap:=S }) E s₁) E s):
  Et (Ez prog w) A (exec (.Raise (some (.Call (.Name x np) args [] cpos)) none pos) env) Q E s:=by
 rw [arm_exec_Raise]
 first
  | refine we (FJ (lq (C:=C) (nm:=nm) (q:=q) (N:=N) (bs:=bs) (bm:=bm) (hdct:=hdct) (sn:=sn) (sub:=sub) (ab:=ab) (col:=col) (dd:=dd) (k0:=k0) (k1:=k1) (k2:=k2) (k3:=k3) (k5:=k5) (newId:=newId) ZR (we (Fe (Ih (Fe h (λf s₁ h₁=>?_) λ_ _ x=>x)) (λv s₃ G=>we (FJ (Ej G))) λ_ _ x=>x))))
  | (simp only [evalOpt,Option.map];refine we (FJ (lq (C:=C) (nm:=nm) (q:=q) (N:=N) (bs:=bs) (bm:=bm) (hdct:=hdct) (sn:=sn) (sub:=sub) (ab:=ab) (col:=col) (dd:=dd) (k0:=k0) (k1:=k1) (k2:=k2) (k3:=k3) (k5:=k5) (newId:=newId) ZR (we (Fe (Ih (Fe h (λf s₁ h₁=>?_) λ_ _ x=>x)) (λv s₃ G=>we (FJ (Ej G))) λ_ _ x=>x)))))
  | (refine we (FJ (lq (C:=C) (nm:=nm) (q:=q) (N:=N) (bs:=bs) (bm:=bm) (hdct:=hdct) (sn:=sn) (sub:=sub) (ab:=ab) (col:=col) (dd:=dd) (k0:=k0) (k1:=k1) (k2:=k2) (k3:=k3) (k5:=k5) (newId:=newId) ZR ?_));refine we (Fe (Ih (Fe h (λf s₁ h₁=>?_) λ_ _ x=>x)) (λv s₃ G=>we (FJ (Ej G))) λ_ _ x=>x))
 obtain ⟨rfl,h₁⟩:=h₁;unfold Iw;refine we (E1 (Fe h₁ (λa n J=>we (FJ ?_)) λ_ _ x=>x));obtain ⟨Z3,ag⟩:=a;obtain ⟨U,ZS,hh,Z,hn,T,J⟩:=J;obtain rfl:ag=[]:=U;obtain ⟨hp,g,d,tk,os⟩:=n;simp only [O];refine we (wpAny_keeperOf_exc Z ?_);refine we (wpAny_call_exc_subT (hrest:=ZS) F T Z hn W λh' e hm=>we (E1 (wpAny_point (Ej ?_))));obtain ⟨t,ht,_,_⟩:=hm.there;exact {e,t,hp,rfl,hh,λb o _ z=>hm.keeps _ _ z,hm.new,hm.keeps _ _ Z,ht,J h' e hm}
end
theorem Bs{t:TA}(T:ar X Ex)(O:aR X.K C)(hg:Gl X x)(hm:X.mg x=some (.ref C))(ha:PA X (e::es) t)(Zv:(x==("__debug__":Str))=false:=by decide)(Y0:EH (e::es) X.env=(false,Fx e X.env)::EH es X.env:=by rfl)(Y1:(FZ cpos (EH es X.env)).any (·.1)=false:=by rfl):
  PS X (.Raise (some (.Call (.Name x np) (e::es) [] cpos)) none pos) (fI C Ex t):=by
 intro Ga s σ H D I h;obtain ⟨cd,_,⟨bm,N,nm,q,bs,hdct,sn,sub,ab,col,dd,k0,k1,k2,k3,k5,mN,em,hC,hN,S,Z⟩⟩:=O.obj I.ok.mod.LY;refine uJ (C:=C) (nm:=nm) (q:=q) (N:=N) (bs:=bs) (bm:=bm) (hdct:=hdct) (sn:=sn) (sub:=sub) (ab:=ab) (col:=col) (dd:=dd) (k0:=k0) (k1:=k1) (k2:=k2) (k3:=k3) (k5:=k5) (mN:=mN) Ia (Z.hasType 'd')
  (by rw [Y0];show (false||(FZ cpos (EH es X.env)).any (·.1))=false;rw [Y1];rfl) S (cP I hg hm {rfl,?_} Zv)
 have hA:=ha cpos Ga s σ H _ I h;rw [Y0] at hA ⊢;refine Calls.evalArgs_plain (thn hA λus s2=>x5e λvs H2 F r2=>x2e λhz q2=>{rfl,by rw [<- r2.length];exact hz,F.Mu,F.bk _ _ hC,hN.keeps F.bk,Z.keeps F.bk,λh' ea G J hu=>?_});obtain ⟨tt,he,ag,_⟩:=G.there;have U:∀env∈X.stack,∀a,env.frame=some a->a∈frs X.stack:=λenv hm a ha=>G7.mpr ⟨env,hm,ha⟩;have kp:∀b o,s2.heap.get? b=some o->J.get? b=some o:=λb o z=>by
  rcases hu with rfl|⟨a,n,_,_,rfl⟩
  .exact G.keeps b o z
  .rw [E3 _ _ (λy=>by rw [<- y,G.new] at z;cases z)];exact G.keeps b o z
 refine T Ga σ H2 s2 ea C (IG s2.heap (frs X.stack)) .none { s2 with heap:=J } F {λb o e=>kp b o (Hv _ e),?_,?_,?_} rfl F.bare (λb o e hb=>hideAll_get _ e hb) (λb o e _=>{o.slots,kp b o e}) q2
 .cases z:(IG s2.heap (frs X.stack)).get? ea with
  | none=>rfl
  | some o =>
   have:=Hv _ z;rw [G.new] at this;cases this
 .exact (PySem.W.funFrames_hide F.stack U).of_keeps λb o e _=>{o,kp b o e,rfl}
 .rcases hu with rfl|⟨a,n,h1,_,rfl⟩
  .exact {_,_,he,rfl,rfl,rfl,'s',{_,rfl,.inl rfl},.inl rfl}
  .obtain ⟨k,ch⟩:∃k,Chn H2 k a:=by
    rcases F.hdk with z|⟨a',k,z,ch⟩
    .rw [z] at h1;cases h1
    .rw [h1] at z;cases z;exact ⟨k,ch⟩
   exact {_,_,FA _ he rfl,rfl,rfl,rfl,'s',{_,rfl,.inr {a,k,rfl,ch}},.inl rfl}
abbrev eP(X:Cx)(Ga:List (Addr×Obj))(ea:Addr)(Ex:Addr->St->Hp->Prop):Cx:={ dy X Ga ea with xe:=gs X Ex }
theorem Inv.yz(ok:X.Ok)(n:X.A.handled=none)(I:Inv (eP X Ga ea Ex) ps σ H s):Inv X (Ga++ps) σ H s :=
 {ok,I.os,I.bare,I.base,I.loc,I.cell,I.free,I.ti,λp hp=>I.pin p (by show p∈(X.pn++Ga)++ps;rw [FD];exact hp),I.hok,I.len,.inl n}
theorem vR(ok:X.Ok)(G:X.A.handled=none):ar (eP X Ga ea Ex) Ex :=
 λps σ H J n C B fl s' I y os bare O F q=>{n,C,B,H,fl,σ,J,Ga++ps,rfl,I.yz ok G,y,os,bare,O,F,q}
theorem CZ(T:ar X Ex)(n:X.stack=X.env::X.outer/\X.env.frame=some X.env.locals)(h:gs X Ex e s'):notedBy (Ez X.prog X.w) (X.A.mark hd) X.env (cameBackBy (Ez X.prog X.w) X.A X.env X.xe) e s':=by
 obtain ⟨ea,C,B,H',fl,σ,Z,Ga,rfl,I,y,os,bare,J,up,q⟩:=h;have W:X.A.frames=some (X.env::X.outer):=by rw [I.ok.frames,n.1]
 rw [n.1] at y;refine o7 (A:=X.A.mark hd) W n.2 y λh1 y1 G u1=>?_;obtain ⟨oe,vs,U,O,g2,S⟩:=G;refine we (Fh O g2 S ?_);rw [if_neg (show ¬ ((Ew U==E6)=true) by simp)];rw [n.2];refine sM (s:={ s' with heap:=h1 }) y1 λh2 F u2=>?_;rw [<- n.1] at F;exact T Ga σ H' Z ea C B _ { s' with heap:=h2 } I F os bare J ((up.trans u1).trans u2) q
theorem ve(hc:X.calm=true)(av:X.ex=[])(U:X.stack=X.env::X.outer/\X.env.frame=some X.env.locals)(OD:aR X.K D)(hg:Gl X x)(hm:X.mg x=some (.ref D))(hb:∀Ga Ex,PSs (i4 X Ga Ex) Zn (tb Ex))(T:ar X Ex)(hs:∀Ga ea,ar (eP X Ga ea Ex) Ex->PSs (eP X Ga ea Ex) (F::Y2) ts)(Zv:(x==("__debug__":Str))=false:=by decide):
  PS X (.Try Zn [.ExceptHandler (some (.Name x np)) none (F::Y2) Yr] [] [] pos) (kN X.K D tb ts):=by
 intro Ga s σ H Z I h;have W:X.A.handled=none:=I.ok.hd hc;refine wpAny_Try_except (Fe (hb Ga _ [] s σ H Z (I.p.IT _) h) (λf s1 q=>?_) λe s1 q=>?_)
 .cases f with
  | next =>
   obtain ⟨n,H',J,q⟩:=q;exact GA {n,H',Inv.LV I.ok J.nT,q}
  | brk=>obtain ⟨n,H',J,q⟩:=q;exact {n,H',Inv.LV I.ok J.nT,q}
  | cont=>obtain ⟨n,H',J,q⟩:=q;exact {n,H',Inv.LV I.ok J.nT,q}
  | ret u=>obtain ⟨v,n,H',J,r,q⟩:=q;exact {v,n,H',Inv.LV I.ok J.nT,r,q}
 .obtain ⟨ea,C,B,H',fl,n,sI,rfl,J,y,os,bare,hB,up,OC,sub,ag⟩:=q;have fr:X.A.frames=some (X.env::X.outer):=by rw [I.ok.frames,U.1]
  rw [U.1] at y;refine lK fr U.2 y λh2 y2 u2=>gK (s:={ s1 with heap:=h2 }) y2 λh3 y3 u3=>?_;have aI:aw H' B X.stack ea (.ref C) .none h3:=by rw [U.1];exact y3
  have ak:=(up.trans u2).trans u3;obtain ⟨_,a6,c3,g3,J3⟩:=h9 (s':={ s1 with heap:=h3 }) av J aI os bare hB ak;obtain ⟨a4,cC,eC⟩:=OC.obj J3.z4;obtain ⟨a5,cD,eD⟩:=OD.obj J3.z4;have Yh:a4.mro.contains (.ref D)=true:=by
   unfold G0 at sub;rw [cC] at sub;simp only [IC] at sub;split at sub
   .cases sub
   .exact E8.inj sub
  refine wpAny_handleBy_cons (codeAny_handlers_test (cP (X:=dy X Ga ea) J3 hg hm ?_ Zv)) (by intro q;cases q);refine tO (h:=h3) (g:=s1.gens) (d:=s1.drawn) (t:=s1.toks) (os:=s1.os) eC eD g3 c3.1 Yh ?_;refine codeAny_handlers_suite ?_;refine gK (s:={ s1 with heap:=h3 }) y3 λh4 y4 u4=>?_;have ax:aw H' B X.stack ea (.ref C) .none h4:=by rw [U.1];exact y4
  obtain ⟨a3,a0,c4,g4,J4⟩:=h9 (s':={ s1 with heap:=h4 }) av J ax os bare hB (ak.trans u4);refine Fe (hs Ga ea (vR I.ok W) [] _ _ _ _ (J4.IT (gs X Ex)) (ag ea a0 a3 c4)) (λf s6 q6=>?_) λ_ _ z=>CZ T U z;cases f with
  | next=>obtain ⟨O,H7,S,G⟩:=q6;exact {_,_,(by simpa using S.yz I.ok W),G}
  | brk=>obtain ⟨O,H7,S,G⟩:=q6;exact {_,_,(by simpa using S.yz I.ok W),G}
  | cont=>obtain ⟨O,H7,S,G⟩:=q6;exact {_,_,(by simpa using S.yz I.ok W),G}
  | ret u=>obtain ⟨v,O,H7,S,r7,G⟩:=q6;exact {v,_,_,(by simpa using S.yz I.ok W),r7,G}
section
variable {X:Cx}
theorem wO{t:TA}(T:ar X Ex)(O:aR X.K C)(G:Gl X x)(hm:X.mg x=some (.ref C))(ha:W (PA X (e::es) t))(hp:zZ e=true:=by rfl)(F:bT es=true:=by rfl)(n:(x==("__debug__":Str))=false:=by decide):
  W (PS X (.Raise (some (.Call (.Name x J) (e::es) [] cpos)) none pos) (fI C Ex t)):={Bs T O G hm ha.h n (ck hp) (dv F)}
theorem Ce(hc:X.calm=true)(F:X.ex=[])(Z:X.stack=X.env::X.outer/\X.env.frame=some X.env.locals)(U:aR X.K D)(hg:Gl X x)(hm:X.mg x=some (.ref D))(hb:∀Ga Ex,W (PSs (i4 X Ga Ex) O (tb Ex)))(T:ar X Ex)(hs:∀Ga ea,ar (eP X Ga ea Ex) Ex->W (PSs (eP X Ga ea Ex) (n::G) J))(Zv:(x==("__debug__":Str))=false:=by decide):
  W (PS X (.Try O [.ExceptHandler (some (.Name x np)) none (n::G) S] [] [] pos) (kN X.K D tb J)):={ve hc F Z U hg hm (λGa Ex=>(hb Ga Ex).h) T (λGa ea t=>(hs Ga ea t).h) Zv}
end
end L2
namespace L2
open PySem PySem.Spec PyProof.Rows PySem.W PySem.Calls
theorem iB{t:TA}(h1:W (PE X n t1))(h2:W (PE X J t2))(h3:W (PE X F S))(h4:W (PE X G O))(hr:W (PA X es t))(p1:zZ n=true:=by rfl)(p2:zZ J=true:=by rfl)(U:zZ F=true:=by rfl)(Z:zZ G=true:=by rfl):W (PA X (n::J::F::G::es) (dC t1 (dC t2 (dC S (dC O t))))):={gy h1.h (gy h2.h (gy h3.h (gy h4.h hr.h Z) U) p2) p1}
theorem iK:plainId "dict.update.loop"=true:=by decide +kernel
theorem qR:entryFor table "dict.update.loop"=some EE.«dict.update.loop»:=entryFor_of_tree (by kernel_rfl)
theorem vq:typeLookup (.type "list") "keys"=pure none:=by rw [typeLookup_type,builtinLookup_eq_fast];kernel_rfl
section
variable {prog:Eo}{w:EG}{A:EB}{E:Value->Eh->Prop}{s:Eh}
theorem u6{k:Nat}(J:s.heap.get? a=some { cls:=.type "list",data:=.seq xs k })(S:A.handled=none)(h:∀h' tk,(∀b ob,s.heap.get? b=some ob->h'.get? b=some ob)->Q none { s with heap:=h',toks:=tk }):Et (Ez prog w) A (getAttr? (.ref a) "keys") Q E s:=by
 obtain ⟨hp,g,d,tk,os⟩:=s;have O:∀n,(⟨hp,g,d,n,os⟩:Eh).TypeIs (.ref a) "list":=λ_=>{_,J,rfl};have f1:=sub_AttributeError;have W:=Gw.lookup;have U:=Gw.bind (.ref a);have Z:=am_list_getattr_none;unfold getAttr? getAttrBy? getAttrBy
 repeat (any_goals (first|assumption|exact O _|((with_reducible show Et _ _ (call (builtin "list.__getattribute__") _ _) _ _ _);refine GQ Gw (O _) am_entry_list_getattribute (PySem.F.args_list_getattribute_2 _ _) (meets_getattribute_miss_list a xs k #[] "keys" _ vq (f!"") (by size_fits)) {J,S,λh' n e G=>?_})|wp_step))
 obtain ⟨t',u',he⟩:=G.there;show Et _ _ (getattributeRaised _ _ _ _ _ _ _) _ _ _;unfold getattributeRaised
 repeat (any_goals (first|assumption|wp_step))
 exact h _ _ G.keeps
variable {K:Type} [DecidableEq K] {knd:KeyKind prog w K}
structure yx(knd:KeyKind prog w K)(D I:Addr)(h:Heap)(v:Value)(p:K×Value):Prop where
 ex:∃a YW,v = .ref a/\a≠D/\a≠I/\h.IsTuple a #[YW,p.2]/\knd.is p.1 YW=true
def stl(kvs:List (K×Value)):List (K×Value):=kvs.foldl (λt p=>stored t p.1 p.2) []
theorem nH{kvs:List (K×Value)}{p:K×Value}(h:kvs[i]?=some p):stl (kvs.take (i+1))=stored (stl (kvs.take i)) p.1 p.2:=by
 unfold stl;rw [Fw,h,List.foldl_append];rfl
theorem Ai(kvs:List (K×Value))(i:Nat):(stl (kvs.take i)).length<=i:=by
 induction i with
 | zero=>exact EF _
 | succ i n =>
  cases e:kvs[i]? with
  | none=>rw [Fw,e];simp;exact GH n
  | some p=>rw [nH e];exact EL (stored_length_le ..) (Hx n)
theorem Cy{L:List Value}{St:Nat->Heap->Prop}(hl:L.length=kvs.length)(hn:kvs.length<=100000)(W:Walks prog w A.in1 I fp [I] L.length (λi v=>L[i]?=some v) St)(ag:D∉fp)(S:D≠I):
  ∀(k i:Nat)(s:Eh),L.length-i=k->i<=L.length->s.heap.DictOf knd D (stl (kvs.take i))->(∀(j:Nat)(v:Value)(p:K×Value),L[j]?=some v->kvs[j]?=some p->yx knd D I s.heap v p)->St i s.heap ->
  (∀h' tk,(∀b o,b≠D->b≠I->s.heap.get? b=some o->h'.get? b=some o)->h'.DictOf knd D (stl kvs)->R (.ok (.ret .none)) { s with heap:=h',toks:=tk }) ->
  GL (Ez prog w) A (.builtin "dict.update.loop" {[.ref D,.ref I,Gu i,.none],[]}) R s:=by
 intro k
 induction k with
 | zero =>
  intro i s hk hi hS hP st hR;have e:i=L.length:=by lia
  subst e;refine GE qR ?_;rw [EB.under_plainId iK _];show Et _ A.in1 (Il (.ref I)>>=_) _ _ s;refine we (W.done s _ _ st λh1 G F=>?_);show Et _ A.in1 (EE.Dict.addKeywords D []>>=_) _ _ _;refine we (Ej (Ej (hR h1 G (λb o n1 Z e=>F b o (by simp [Z]) e) ?_)));rw [hl,EU (EF _)] at hS;obtain ⟨o,es,ep,x,r⟩:=hS;exact {o,es,ep,F D o (by simp [S]) x,r}
 | succ k ih =>
  intro i s hk hi hS hP st hR;have Zf:i<L.length:=by lia
  have O:kvs[i]?=some (kvs[i]''l'):=Ek _;refine GE qR ?_;rw [EB.under_plainId iK _];show Et _ A.in1 (Il (.ref I)>>=_) _ _ s;refine we (W.item i s _ _ Zf st λv h1 G hv ak F=>?_);obtain ⟨⟨a,YW,rfl,aD,aI,⟨o,ho,hc,n,hd⟩,YQ⟩⟩:=hP i v _ hv O;have U:h1.get? a=some o:=F a o (by simp [aI]) ho;have av:h1.DictOf knd D (stl (kvs.take i)):=by
   obtain ⟨o,es,ep,x,r⟩:=hS;exact {o,es,ep,F D o (by simp [S]) x,r}
  show Et _ A.in1 (GJ [.ref a] ((EE.Dict.pairItems (.ref a)).tryCatch _>>=_)>>=_) _ _ _;refine we (E1 (we (HR ?_)));unfold EE.Dict.pairItems;refine we (Hg (T:="tuple") (s:={ s with heap:=h1,toks:=G }) ⟨o,U,hc⟩ ?_);rw [if_pos 'd'];refine we (HS (s:={ s with heap:=h1,toks:=G }) U hd (Ej ?_));show Et _ A.in1 (GJ [YW,_] (dictSet D YW _)) _ _ _;refine E1 (wpAny_dictSet_pairs (s:={ s with heap:=h1,toks:=G }) (hsz:=EL (Ai kvs i) (EL (by lia:i<=100000) 'd')) YQ av λh2 J sb=>?_);rw [<- nH O] at J;refine Ej {Gq iK _,ih (i+1) _ 'l' Zf J (λj v p hv hp=>?_) (W.frame _ _ _ ak λb hb o e=>(sb.2 b (λz=>ag (z ▸ hb))).trans e) λh' tk YM Yg=>?_}
  .obtain ⟨⟨a,YW,rfl,aD,aI,⟨o,ho,r⟩,YQ⟩⟩:=hP j v p hv hp;exact {{a,YW,rfl,aD,aI,{o,(sb.2 a aD).trans (F a o (by simp [aI]) ho),r},YQ}}
  .exact hR h' tk (λb o n1 Z e=>YM b o n1 Z ((sb.2 b n1).trans (F b o (by simp [Z]) e))) Yg
theorem Dx{L:List Value}(hh:A.handled=none)(ho:s.heap.get? l=some { cls:=.type "list",data:=.seq L.toArray c })(hl:L.length=kvs.length)(hn:kvs.length<=100000)(hP:∀(j:Nat)(v:Value)(p:K×Value),L[j]?=some v->kvs[j]?=some p->∃a S,v = .ref a/\s.heap.IsTuple a #[S,p.2]/\knd.is p.1 S=true)(h:∀h' tk,(∀b o,s.heap.get? b=some o->h'.get? b=some o)->h'.DictOf knd s.heap.objs.size (stl kvs)->Q (.ref s.heap.objs.size) { s with heap:=h',toks:=tk }):
  Et (Ez prog w) A (call (.type "dict") [.ref l]) Q E s:=by
 refine callType_codes (Q₁:=λobj s₁=>obj = .ref s.heap.objs.size/\s₁={ s with heap:=s.heap.push { cls:=.type "dict",data:=.dict #[] } }) PySem.F.kt_called_dict (PySem.F.kt_typeCall_dict_1 _) PySem.F.entry_dict_init (kt_code_dict_new _ {rfl,rfl}) ?_;rintro obj s₁ ⟨rfl,rfl⟩;have O:(s.heap.push { cls:=.type "dict",data:=.dict #[] }).DictOf knd s.heap.objs.size []:=Heap.DictOf.new s.heap;refine {O.typeIs,PySem.F.args_dict_init_2 _ _,?_};unfold EE.«dict.__init__»
 refine we ?_;unfold EE.Dict.selfAndRest;refine we (wpAny_notOrdered_dict O.typeIs ?_);show Et _ _ (pure (s.heap.objs.size,[Ew l])) _ _ _;refine Ej ?_;show Et _ _ (EE.Dict.updateFrom "dict.__init__" s.heap.objs.size (.ref l) [] .none) _ _ _;have G:(s.heap.push { cls:=.type "dict",data:=.dict #[] }).get? l=some { cls:=.type "list",data:=.seq L.toArray c }:=El _ ho;have Zf:=EM ho;unfold EE.Dict.updateFrom;refine we (Hg (T:="list") {_,G,rfl} ?_);rw [if_pos 'd'];refine we (u6 (s:={ s with heap:=s.heap.push { cls:=.type "dict",data:=.dict #[] } }) G hh λh1 av kp=>?_);rw [if_pos (show (none:Option Value).isNone=true from rfl)];refine we (Hu ?_);have n:=kp _ _ G;refine we (Hh (s:={ s with heap:=h1,toks:=av }) {_,n,rfl,c,rfl} ?_);have U:(h1.get? s.heap.objs.size).isSome=true:=by
  obtain ⟨o,es,ep,x,r⟩:=O;rw [kp _ _ x];rfl
 obtain ⟨oD,eD⟩:=Hm.mp U;have ak:=EM eD;have Z:=EM n;have ag:l≠h1.objs.size:=E7 Z;have J:s.heap.objs.size≠h1.objs.size:=E7 ak;have W:=Walks.list (prog:=prog) (w:=w) (A:=A.in1.in1) hh h1.objs.size l ag L.toArray;have e1:L.toArray.size=L.length:=EC;have W':Walks prog w A.in1.in1 h1.objs.size [h1.objs.size,l] [h1.objs.size] L.length (λi v=>L[i]?=some v) (λi h=>h.IsListIter h1.objs.size l i/\h.IsList l L.toArray):=by
  rw [e1] at W;simpa using W
 refine Ej {Gq iK _,Cy (A:=A.in1) (knd:=knd) (D:=s.heap.objs.size) hl hn W' ?_ J L.length 0 _ rfl (Gr _) ?_ (λj v p hv hp=>?_) ?_ λh' tk YM Yg=>?_}
 .simp only [EI,FW,or_false,not_or];exact {J,Iu Zf}
 .obtain ⟨o,es,ep,x,r⟩:=O;exact {o,es,ep,El _ (kp _ _ x),r}
 .obtain ⟨a,S,rfl,⟨o,ho,r⟩,hk⟩:=hP j v p hv hp;have h1:=kp _ _ (El _ ho);exact {{a,S,rfl,E7 (EM ho),E7 (EM h1),{o,El _ h1,r},hk}}
 .exact {{_,EW _ rfl,rfl,rfl},{_,El _ n,rfl,c,rfl}}
 .refine {rfl,h h' tk (λb o e=>?_) Yg};have h1:=kp _ _ (El _ e);exact YM b o (E7 (EM e)) (E7 (EM h1)) (El _ h1)
end
theorem oM(I:Inv X Ga σ H s):∀{vs:List V}{us:List Value}{kvs:List (Str×V)},zo vs us->vs.length=kvs.length->(∀(j:Nat)(v:V)(p:Str×V),vs[j]?=some v->kvs[j]?=some p->∃a,v = .ref a/\H a=some (.tup [.str p.1,p.2])) ->
  ∃ks:List (Key×Value),KV (sk kvs) ks/\∀(j:Nat)(u:Value)(p:Key×Value),us[j]?=some u->ks[j]?=some p->∃a F,u = .ref a/\s.heap.IsTuple a #[F,p.2]/\(aF X.prog X.w).is p.1 F=true
 | [],us,[],r,_,_=>{[],.nil,λj u p _ h=>by simp at h}
 | v::vs,us,p::kvs,r,O,hp=>by
  cases r with
  | @cons _ u _ us J rt =>
   obtain ⟨ks,U,n⟩:=oM I rt (by simpa using O) λj v p h1 h2=>hp (j+1) v p (by simpa using h1) (by simpa using h2);obtain ⟨a,rfl,ha⟩:=hp 0 v p rfl rfl;cases J;obtain ⟨is,r1,Z,_⟩:=I.tuple (SqT.of (K:=X.K) ha);cases r1 with
   | @cons _ k _ is W r2 =>
    cases r2 with
    | @cons _ x _ is G S =>
     cases S;refine {(.inr p.1,x)::ks,.cons {rfl,G} U,λj u q h1 h2=>?_};cases j with
     | zero =>
      cases h1;cases h2;exact {a,k,rfl,Z,ee (k:=.inr p.1) W}
     | succ j=>exact n j u q (by simpa using h1) (by simpa using h2)
 | [],_,_::_,_,h,_=>nomatch h
 | _::_,_,[],_,h,_=>nomatch h
theorem qY:∀{kvs:List (Str×V)}{ks:List (Key×Value)}{t:List (Str×V)}{tv:List (Key×Value)},KV (sk kvs) ks->KV (sk t) tv->KV (sk (kvs.foldl (λt p=>zt t p.1 p.2) t)) (ks.foldl (λt p=>stored t p.1 p.2) tv)
 | [],ks,t,tv,h,n=>by cases h;exact n
 | p::kvs,ks,t,tv,h,n=>by
  cases h with
  | @cons _ q _ ks r h =>
   have z:=n.put (.inr p.1) r.2;rw [dA] at z;have e:q.1 = .inr p.1:=r.1.symm;show KV (sk (kvs.foldl _ (zt t p.1 p.2))) (ks.foldl _ (stored tv q.1 q.2));rw [e];exact qY (kvs:=kvs) (ks:=ks) h z
theorem qG{α:Type}:∀{kvs t:List (Str×α)},(kvs.foldl (λt p=>zt t p.1 p.2) t).length<=t.length+kvs.length
 | [],t=>EF _
 | p::kvs,t=>by
  have h:=qG (kvs:=kvs) (t:=zt t p.1 p.2);have:(zt t p.1 p.2).length<=t.length+1:=by unfold zt;split<;>simp
  rw [foldl_cons,EY];lia
def mZ:List V->Hp->VK->Prop:=λxs H Q=>uR1 xs λl=>∃(vs:List V)(kvs:List (Str×V)),H l=some (.lst vs)/\vs.length=kvs.length/\kvs.length<=100000/\(∀(j:Nat)(v:V)(p:Str×V),vs[j]?=some v->kvs[j]?=some p->∃a,v = .ref a/\H a=some (.tup [.str p.1,p.2]))/\∀p H2,New H p (.dK (sk (kvs.foldl (λt p=>zt t p.1 p.2) []))) H2->Q (.ref p) H2
theorem yh:mZ [.ref l] H Q = ∃(vs:List V)(kvs:List (Str×V)),H l=some (.lst vs)/\vs.length=kvs.length/\kvs.length<=100000/\(∀(j:Nat)(v:V)(p:Str×V),vs[j]?=some v->kvs[j]?=some p->∃a,v = .ref a/\H a=some (.tup [.str p.1,p.2]))/\∀p H2,New H p (.dK (sk (kvs.foldl (λt p=>zt t p.1 p.2) []))) H2->Q (.ref p) H2:=fc
theorem Ak(hc:X.calm=true):zM X (.type "dict") mZ:=by
 intro Ga s σ H xs us Q I r h;obtain ⟨l,rfl,vs,kvs,hv,F,S,hp,q⟩:=h;obtain ⟨u,rfl,ru⟩:=cn r;cases ru;obtain ⟨z,W,n,G,e⟩:=(show Rd H l (.lst vs) from .inl hv).ok I.hok;obtain ⟨ks,O,J⟩:=oM I G F hp;have U:W.length=ks.length:=by rw [<- G.length,F,<- O.length];unfold sk;rw [En]
 refine Dx (knd:=aF X.prog X.w) (I.ok.hd hc) e U (by rw [<- U,<- G.length,F];exact S) J λh' tk hk Z=>?_;refine {.ref s.heap.objs.size,upd H s.heap.objs.size (.dK (sk (kvs.foldl (λt p=>zt t p.1 p.2) []))),I.laid (a:=s.heap.objs.size) (t':=tk) hk (EF _) {?_,beq_eq_false_iff_ne.mpr (Fi (E7 I.big)),_,qY (t:=[]) (tv:=[]) O .nil,Z},rfl,q _ _ (.mk' (I.hok.fresh (EF _)))};have:=qG (kvs:=kvs) (t:=[]);unfold sk;rw [En];exact EL this (EL (by simpa using S) 'd')
def EqP(P:Eo)(w:EG)(A:EB)(s:Eh)(u v:Value):Prop:=∀(E:Value->Eh->Prop)(Q:Bool->Eh->Prop),Q true s->Et (Ez P w) A (eqBool u v) Q E s
section
variable {prog:Eo}{w:EG}{A:EB}{E:Value->Eh->Prop}{s:Eh}{K:Type} [DecidableEq K] {knd:KeyKind prog w K}
theorem wM(ha:(a==sysModules)=false)(hb:(b==sysModules)=false)(da:s.heap.DictOf knd a n)(db:s.heap.DictOf knd b kb)(hl:n.length=kb.length)(O:∀(i:Nat) k v,n[i]?=some (k,v)->∃y,HH kb k=some y/\EqP prog w A s v y)(h:Q true s):Et (Ez prog w) A (EE.Dict.samePairs nm a b) Q E s:=by
 obtain ⟨oa,es,ep,G,_,F,ag,W,_⟩:=da;obtain ⟨ob,fs,eq,J,_,Zv,ak,S,_⟩:=db;have la:es.size=n.length:=by rw [<- W.length,GZ]
 have lb:fs.size=kb.length:=by rw [<- S.length,GZ]
 unfold EE.Dict.samePairs EE.Dict.showsAll;rw [if_neg (by rw [ha];exact Eu),if_neg (by rw [hb];exact Eu)];refine we (Ej (we (Ej (we (Hj G F ?_)))));dsimp only;refine we (Hj J Zv ?_);rw [if_neg (by rw [la,lb,hl];simp)];refine we (wpAny_dictEpoch G F (we ?_));rw [Std.Legacy.Range.forIn_eq_forIn_range'];simp only [Std.Legacy.Range.size,Nat.sub_zero,Nat.add_sub_cancel,Nat.div_one];refine wpAny_forIn_list _ (λZo q s'=>s'=s/\q=(none,())/\∃i,Zo=range' i (es.size-i)) _ ?_ ?_ _ _ {rfl,rfl,0,'s'}
 .rintro x Zo q s' ⟨rfl,rfl,i,hr⟩;have lt:i<es.size:=Fg λc=>by rw [Nat.sub_eq_zero_of_le 'l'] at hr;cases hr
  rw [show es.size-i=(es.size-(i+1))+1 by lia,List.range'_succ] at hr;obtain ⟨rfl,rfl⟩:=IR.inj hr;refine we (Hj G F ?_);rw [GW lt];have lk:x<n.length:=by lia
  have ek:n[x]?=some (n[x].1,n[x].2):=Ek lk;obtain ⟨YQ,U⟩:=W.get? (i:=x) (e:=es[x]) (by rw [Ht];exact GW lt) ek;obtain ⟨k',YM,hh⟩:=ag es[x] (Array.getElem_mem lt);rw [knd.inj _ _ _ YM YQ] at hh;obtain ⟨y,hy,he⟩:=O x _ _ ek;show Et _ _ (GJ [es[x].key,es[x].val] _>>=_) _ _ _;rw [hh];refine we (E1 (we (wpAny_dictFind_of YQ J Zv ak ?_)));have Z:=(S.find n[x].1).trans hy;cases hj:fs.findIdx? λe=>knd.is n[x].1 e.key with
  | none =>
   have:fs.toList.find? (λe=>knd.is n[x].1 e.key)=none:=by
    rw [List.find?_eq_none];intro e hm;have:=Array.findIdx?_eq_none_iff.mp hj e (HW.mp hm);simp [this]
   rw [this] at Z;cases Z
  | some j =>
   obtain ⟨lj,t1,t2⟩:=Array.findIdx?_eq_some_iff_getElem.mp hj;have ey:fs[j].val=y:=by
    have:fs.toList.find? (λe=>knd.is n[x].1 e.key)=some fs[j]:=by
     rw [List.find?_eq_some_iff_getElem];exact {t1,j,by simpa using lj,'s',λm hm=>by have:=t2 m hm;simpa using this}
    rw [this] at Z;exact E8.inj Z
   refine we (Hj J Zv ?_);rw [GW lj];rw [<- ey,<- U] at he;refine E1 (he _ _ ?_);rw [if_neg 'd'];refine we (wpAny_dictEpoch G F ?_);rw [if_neg 's'];exact Ej {rfl,rfl,x+1,rfl}
 .rintro q s' ⟨rfl,rfl,i,hr⟩;exact Ej h
theorem De(ha:(a==sysModules)=false)(hb:(b==sysModules)=false)(G:s.heap.DictOf knd a S)(J:s.heap.DictOf knd b O)(W:A.units<cLine)(U:S.length=O.length)(n:∀(i:Nat) k v,S[i]?=some (k,v)->∃y,HH O k=some y/\EqP prog w A.in1 s v y):EqP prog w A s (.ref a) (.ref b):=λE Q q=>by
 by_cases e:a=b
 .subst e;exact SeqAt.EqAt.same _ prog w E Q q
 unfold eqBool;refine E1 (wpAny_ite_split (λz=>absurd (by have:=eq_of_beq z;injection this) e) λ_=>we ?_);refine wpAny_richCompare_same_room (op:=.Eq) G.typeIs J.typeIs PySem.F.slot_dict_eq (Gs PySem.F.slot_dict_eq G.typeIs PySem.F.entry_dict_eq ?_ (PySem.F.args_dict_eq_2 _ _)) W;show Et _ _ (EE.Dict.dictSlotArgs "__eq__" {[.ref a,.ref b],[]}>>=_) _ _ s;unfold EE.Dict.dictSlotArgs;refine we (we (wpAny_notOrdered_dict G.typeIs ?_));show Et _ _ (pure (Ew a,Ew b)) _ _ s;refine Ej (we (wpAny_isInstance (T:="dict") J.typeIs PySem.F.sub_dict_dict ?_));simp only [Bool.not_true,FK,if_false];refine we (Ej (we (Ej (we (wM ha hb G J U n (Ej {_,rfl,(λx=>nomatch x),?_}))))));exact FL q
theorem yC{p q:Addr}{W:Value}(hp:s.heap.IsTuple p #[Z,U])(hq:s.heap.IsTuple q #[y1,W])(hu:A.units<cLine)(e1:EqP prog w A.in1 s Z y1)(e2:EqP prog w A.in1 s U W)(h:Q (.bool false) s):
  Et (Ez prog w) A (E4 .NotEq (.ref p) (.ref q)) Q E s:=by
 obtain ⟨⟨cls,dd,data,sl⟩,ho,hc,n,hd⟩:=id hp;obtain ⟨⟨ag,av,data2,ak⟩,O,J,n2,S⟩:=id hq;simp only at hc hd J S;subst hc hd J S;have tp:s.TypeIs (.ref p) "tuple":={_,ho,rfl};have tq:s.TypeIs (.ref q) "tuple":={_,O,rfl};refine wpAny_richCompare_same_room (op:=.NotEq) tp tq PySem.F.slot_tuple_ne (Gs PySem.F.slot_tuple_ne tp PySem.F.entry_tuple_ne ?_ (PySem.F.args_tuple_ne_2 _ _)) hu;have f2:=AutoSeq1.sub_tuple_tuple
 wp_walk using AutoSeq1.wpAny_loadPart' ho,AutoSeq1.wpAny_loadPart' O,wpAny_forIn_list _ (λZo b s'=>b.1=none/\s'=s/\(Zo=[(Z,y1),(U,W)]\/Zo=[(U,W)]\/Zo=[])) _
 case turn =>
  rintro ⟨y,x⟩ Zo b s' ⟨G,rfl,z|z|z⟩
  .obtain ⟨z1,rfl⟩:=IR.inj z;obtain ⟨rfl,rfl⟩:=Prod.mk.inj z1;refine we (e1 _ _ ?_)
   wp_walk
   exact {rfl,rfl,.inr (.inl rfl)}
  .obtain ⟨z1,rfl⟩:=IR.inj z;obtain ⟨rfl,rfl⟩:=Prod.mk.inj z1;refine we (e2 _ _ ?_)
   wp_walk
   exact {rfl,rfl,.inr (.inr rfl)}
  .cases z
 case fin =>
  rintro ⟨b1,b2⟩ s' ⟨G,rfl,_⟩;simp only at G;subst G
  wp_walk
  exact {_,rfl,(λx=>nomatch x),h}
 case h=>exact {rfl,rfl,.inl rfl}
end
def EqT(H:Hp)(d d':Addr):Prop:=∃kvs F,H d=some (.dK (sk kvs))/\H d'=some (.dK (sk F))/\kvs.length=F.length/\∀(i:Nat) n v,kvs[i]?=some (n,v)->∃G,look F n=some G/\∃(a b:Addr)(l:List Int),v = .ref a/\G = .ref b/\H a=some (.lst (l.map V.int))/\H b=some (.lst (l.map V.int))
def gw(H:Hp)(d d':Addr):Prop:=∃kvs F,H d=some (.dK (sk kvs))/\H d'=some (.dK (sk F))/\kvs.length=F.length/\∀(i:Nat) n v,kvs[i]?=some (n,v)->∃G,look F n=some G/\∃a b,v = .ref a/\G = .ref b/\EqT H a b
section
variable {X:Cx}{Ga:List (Addr×Obj)}{σ:St}{H:Hp}{s:Eh}{A:EB}
theorem tN(I:Inv X Ga σ H s){R:V->V->Prop}(e1:H d=some (.dK (sk kvs)))(e2:H d'=some (.dK (sk Z)))(hl:kvs.length=Z.length)(hu:A.units<cLine)(h:∀(i:Nat) n v,kvs[i]?=some (n,v)->∃G,look Z n=some G/\R v G)(hR:∀v G u u',R v G->zh v u->zh G u'->EqP X.prog X.w A.in1 s u u'):EqP X.prog X.w A s (.ref d) (.ref d'):=by
 obtain ⟨z,hd,vs,S,dd⟩:=cc I.hok (.inl e1);obtain ⟨z2,ag,O,F,W⟩:=cc I.hok (.inl e2);refine De hd ag dd W hu ?_ λi k u hi=>?_
 .rw [<- S.length,<- F.length];unfold sk;rw [En,En];exact hl
 .have li:i<kvs.length:=by
   have:=(ED.mp hi).1;rw [<- S.length] at this;unfold sk at this;rwa [En] at this
  have ek:kvs[i]?=some (kvs[i].1,kvs[i].2):=Ek li;have es:(sk kvs)[i]?=some (.inr kvs[i].1,kvs[i].2):=by unfold sk;rw [E5,ek];rfl
  obtain ⟨u',J,ru⟩:=S.at es;rw [hi] at J;injection J with J
  injection J with e3 e4
  subst e3 e4;obtain ⟨G,U,r⟩:=h i _ _ ek;have hv:=F.val (.inr kvs[i].1);rw [bS,U] at hv;cases hy:HH O (.inr kvs[i].1) with
  | none=>rw [hy] at hv;exact hv.elim
  | some y=>rw [hy] at hv;exact {y,rfl,hR _ _ _ _ r ru hv}
theorem EqT.at(I:Inv X Ga σ H s)(h:EqT H d d')(U:A.in1.units+64<cLine)(n:A.units<cLine):EqP X.prog X.w A s (.ref d) (.ref d'):=by
 obtain ⟨kvs,Zu,J,Z,S,h⟩:=h;refine tN I (R:=λv G=>∃(a b:Addr)(l:List Int),v = .ref a/\G = .ref b/\H a=some (.lst (l.map V.int))/\H b=some (.lst (l.map V.int))) J Z S n h ?_;rintro v G u u' ⟨a,b,l,rfl,rfl,ha,hb⟩ O F;cases O;cases F;obtain ⟨is,r1,p1,_⟩:=I.list (SqL.of (K:=X.K) ha);obtain ⟨js,r2,p2,_⟩:=I.list (SqL.of (K:=X.K) hb);have z:=PySem.W.keq_ints (A:=A) p1.isList (kC r1) p2.isList (kC r2) U;rw [decide_eq_true rfl] at z;exact λE Q q=>z X.prog X.w E Q q
theorem gw.at(I:Inv X Ga σ H s)(h:gw H d d')(W:A.in1.in1.units+64<cLine)(n:A.in1.units<cLine)(F:A.units<cLine):EqP X.prog X.w A s (.ref d) (.ref d'):=by
 obtain ⟨kvs,Zu,O,Z,U,h⟩:=h;refine tN I (R:=λv J=>∃a b,v = .ref a/\J = .ref b/\EqT H a b) O Z U F h ?_;rintro v J u u' ⟨a,b,rfl,rfl,t⟩ S G;cases S;cases G;exact t.at I W n
def B4:R2:=λx y H Q=>Q (.bl false) H/\((x = .non/\y = .non)\/∃p q a b c d,x = .ref p/\y = .ref q/\H p=some (.tup [.ref a,.ref b])/\H q=some (.tup [.ref c,.ref d])/\EqT H a c/\gw H b d)
theorem jC(G:X.A.units+100<cLine):OpR X (E4 .NotEq) B4:=by
 intro Ga s σ H x y v u Q I O S h;obtain ⟨q,⟨rfl,rfl⟩|⟨p,p',a,b,c,d,rfl,rfl,hp,J,t1,t2⟩⟩:=h
 .exact gD (FR (Nat.le_add_right ..) G) Ga s σ H _ _ v u Q I O S (.inl {rfl,by simpa using q})
 .cases O;cases S;obtain ⟨is,r1,p1,_⟩:=I.tuple (SqT.of (K:=X.K) hp);obtain ⟨U,r2,p2,_⟩:=I.tuple (SqT.of (K:=X.K) J);cases r1 with
  | @cons _ u1 _ is Z r1 =>
   cases r1 with
   | @cons _ u2 _ is W r1 =>
    cases r1;cases r2 with
    | @cons _ v1 _ U rc r2 =>
     cases r2 with
     | @cons _ v2 _ U rd r2 =>
      cases r2;cases Z;cases W;cases rc;cases rd;have F:∀n,n<=70->X.A.units+n<cLine:=λn hn=>FR (Nat.add_le_add_left (EL hn 'd') _) G;exact yC p1 p2 (FR (Nat.le_add_right ..) G) (t1.at I (F 66 'd') (F 1 'd')) (t2.at I (F 67 'd') (F 2 'd') (F 1 'd')) {.bl false,H,I,rfl,q}
theorem zD.LZ{k:Nat}{A:EB}(r:zD c k A):A.units+100<cLine:=by have:=r.un;lia
end
end L2
namespace K24
open PySem PySem.Spec PyProof.Rows L2
open PySem.W (Frag OpenLaw WalkO findIn kitOne mroIn)
local macro_rules | `(tactic| erw [$ls,*])=>do
 let l<-("i9 tC nj tOr rG tIf sO sL nL jI oY iL BN yg jz tOp bE dC om pH qr je h7 ic tCB fI sH sQ gv mV Eb jn j4 hU qO vO wb o6 qf m8 nO xn xc AI k4 BU xp vS BV vB D1 CV AS Ec AG vE xv C0 wW C9 BK rO A1 vh yZ xG Ci AZ uO cA IC Option.bind_none Option.join_some qU and_assoc exists_and_left exists_and_right exists_eq_left' exists_eq_left exists_eq exists_eq' exists_eq_right exists_eq_right' and_true true_and and_false false_and or_false false_or exists_false exists_const E8.injEq V.int.injEq V.str.injEq V.ref.injEq V.bl.injEq V.ty.injEq HO.lst.injEq HO.tup.injEq HO.ins.injEq IR.injEq reduceCtorEq reduceIte FK List.getElem?_cons_zero List.getElem?_cons_succ List.set_cons_zero Ib G3 Hd Gc EY G5 L2.start As CB Fs Nat.reduceSub Nat.reduceAdd uh v5 o4 BS A4 vV BX vp wA tI o5 tSl ou vf xx qy pD nY qN r8 fc AE A6 xM Ef uX xw xU CM wc v8 C3 wF xT yO Dy C4 tj Ct xu A9 Bk DG wu uq uU yQ Dj ur wy Bl D3 Bu yL rV C2 yK wa Cp wL B3 wj Bg xO Bt C5 fw Dk kZ lI oj qt sd qg pA rm DV uC yD BF yB Ba Bi uZ wm yP AA vc ub wD yh".splitOn " ").toArray.mapM fun s=>`(Lean.Parser.Tactic.simpLemma|$(Lean.mkIdent s.toName):ident)
 let k<-ls.getElems.mapM fun s=>match s with
  | `(Lean.Parser.Tactic.rwRule|$t:term)=>`(Lean.Parser.Tactic.simpLemma|$t:term)
  | _=>Lean.Macro.throwUnsupported
 let l:=l++k
 `(tactic| try simp only [$l,*])
local macro_rules | `(tactic| ac_rfl)=>`(tactic| erw [])
def top(i:Nat):Stmt:=PySem.Challenge.pw_cleanrows_k24_whole_spoilt_texts_of_file.main.body.getD i (.Pass {0,0,0,0})
structure zk where
 IZ:Addr
 K5:Addr
 Kg:Addr
 Full:Addr
 Jq:Addr
 Kf:Addr
 Js:Addr
 tw:Addr
 Jr:Addr
 kc:Addr
 Ke:Addr
 Kd:Addr
 LS:Addr
 IS:Addr
 Jg:Addr
 Kh:Addr
 Jt:Addr
 ro:Addr
 Words:Addr
 nv:Addr
structure Txt(K:Frag)(mg:Str->Option Value)(A:zk):Prop where
 J9:mg "ValueError"=none
 LX:mg "all"=none
 L3:mg "bool"=none
 Ls:mg "dict"=none
 Lr:mg "divmod"=none
 Jm:mg "int"=none
 i3:mg "isinstance"=none
 o2:mg "len"=none
 K4:mg "max"=none
 LW:mg "min"=none
 rk:mg "range"=none
 I0:mg "sorted"=none
 IV:mg "str"=none
 Lp:∃u,mg "FIGURES"=some u/\zh (.str "0123456789") u
 Lo:∃u,mg "LETTERS"=some u/\zh (.str "abcdefghijklmnopqrstuvwxyz") u
 JB:∃u,mg "MOST_FIGURES"=some u/\zh (.int 18) u
 JA:∃u,mg "MOST_LETTERS"=some u/\zh (.int 6) u
 JC:mg "CleanError"=some (.ref A.IZ)
 Lu:mg "NoRow"=some (.ref A.K5)
 K9:mg "NoDisk"=some (.ref A.Kg)
 LO:mg "Full"=some (.ref A.Full)
 KW:mg "Stopped"=some (.ref A.Jq)
 K8:mg "NoFile"=some (.ref A.Kf)
 KZ:mg "NoPlace"=some (.ref A.Js)
 Jw:mg "HeldAlready"=some (.ref A.tw)
 KY:mg "NotHeld"=some (.ref A.Jr)
 IW:mg "NoFiles"=some (.ref A.kc)
 K7:mg "NoMark"=some (.ref A.Ke)
 K6:mg "NoRoom"=some (.ref A.Kd)
 LN:mg "Gone"=some (.ref A.LS)
 Ka:mg "NotClosed"=some (.ref A.IS)
 KQ:mg "NotBlank"=some (.ref A.Jg)
 La:mg "NoDeed"=some (.ref A.Kh)
 K0:mg "NoHouse"=some (.ref A.Jt)
 rb:mg "NoPart"=some (.ref A.ro)
 Ml:mg "Words"=some (.ref A.Words)
 Mm:mg "Files"=some (.ref A.nv)
 JE:aR K A.IZ
 wh:aR K A.kc
 qs:aR K A.ro
 L4:mroIn K A.kc (.ref A.kc)=some true
 JG:mroIn K A.ro (.ref A.ro)=some true
 K2:gM K A.kc
 Jn:mroIn K A.kc (.ref A.IZ)=some true
 zf:kitOne K (.ref A.kc) (.type "ValueError")=some true
 Jo:kitOne K (.ref A.kc) (.ref A.K5)=some false
 Jk:kitOne K (.ref A.kc) (.ref A.Kg)=some false
 Jz:kitOne K (.ref A.kc) (.ref A.Full)=some false
 Ja:kitOne K (.ref A.kc) (.ref A.Jq)=some false
 Jj:kitOne K (.ref A.kc) (.ref A.Kf)=some false
 Jc:kitOne K (.ref A.kc) (.ref A.Js)=some false
 xy:kitOne K (.ref A.kc) (.ref A.tw)=some false
 Jb:kitOne K (.ref A.kc) (.ref A.Jr)=some false
 Je:kitOne K (.ref A.kc) (.ref A.kc)=some true
 Ji:kitOne K (.ref A.kc) (.ref A.Ke)=some false
 Jh:kitOne K (.ref A.kc) (.ref A.Kd)=some false
 Jy:kitOne K (.ref A.kc) (.ref A.LS)=some false
 IU:kitOne K (.ref A.kc) (.ref A.IS)=some false
 IY:kitOne K (.ref A.kc) (.ref A.Jg)=some false
 Jl:kitOne K (.ref A.kc) (.ref A.Kh)=some false
 Jd:kitOne K (.ref A.kc) (.ref A.Jt)=some false
 Lg:kitOne K (.ref A.kc) (.ref A.ro)=some false
 mu:Cls K A.Words
 ra:cb K A.Words "taken"
 tr:cb K A.Words "words"
 ka:Cls K A.nv
 kz:cb K A.nv "births"
 o1:cb K A.nv "kept"
theorem Txt.LR{K:Frag}(T:Txt K mg A):∃u,mg "NoRow"=some u/\zh (.ref A.K5) u:={_,T.Lu,rfl}
theorem Txt.LG{K:Frag}(T:Txt K mg A):∃u,mg "NoDisk"=some u/\zh (.ref A.Kg) u:={_,T.K9,rfl}
theorem Txt.Md{K:Frag}(T:Txt K mg A):∃u,mg "Full"=some u/\zh (.ref A.Full) u:={_,T.LO,rfl}
theorem Txt.Lj{K:Frag}(T:Txt K mg A):∃u,mg "Stopped"=some u/\zh (.ref A.Jq) u:={_,T.KW,rfl}
theorem Txt.LF{K:Frag}(T:Txt K mg A):∃u,mg "NoFile"=some u/\zh (.ref A.Kf) u:={_,T.K8,rfl}
theorem Txt.Ll{K:Frag}(T:Txt K mg A):∃u,mg "NoPlace"=some u/\zh (.ref A.Js) u:={_,T.KZ,rfl}
theorem Txt.JF{K:Frag}(T:Txt K mg A):∃u,mg "HeldAlready"=some u/\zh (.ref A.tw) u:={_,T.Jw,rfl}
theorem Txt.Lk{K:Frag}(T:Txt K mg A):∃u,mg "NotHeld"=some u/\zh (.ref A.Jr) u:={_,T.KY,rfl}
theorem Txt.Ln{K:Frag}(T:Txt K mg A):∃u,mg "NoFiles"=some u/\zh (.ref A.kc) u:={_,T.IW,rfl}
theorem Txt.LD{K:Frag}(T:Txt K mg A):∃u,mg "NoMark"=some u/\zh (.ref A.Ke) u:={_,T.K7,rfl}
theorem Txt.LC{K:Frag}(T:Txt K mg A):∃u,mg "NoRoom"=some u/\zh (.ref A.Kd) u:={_,T.K6,rfl}
theorem Txt.Mc{K:Frag}(T:Txt K mg A):∃u,mg "Gone"=some u/\zh (.ref A.LS) u:={_,T.LN,rfl}
theorem Txt.KS{K:Frag}(T:Txt K mg A):∃u,mg "NotClosed"=some u/\zh (.ref A.IS) u:={_,T.Ka,rfl}
theorem Txt.K3{K:Frag}(T:Txt K mg A):∃u,mg "NotBlank"=some u/\zh (.ref A.Jg) u:={_,T.KQ,rfl}
theorem Txt.LH{K:Frag}(T:Txt K mg A):∃u,mg "NoDeed"=some u/\zh (.ref A.Kh) u:={_,T.La,rfl}
theorem Txt.Lm{K:Frag}(T:Txt K mg A):∃u,mg "NoHouse"=some u/\zh (.ref A.Jt) u:={_,T.K0,rfl}
theorem wI:(("births":Str) == "kept")=false:=by decide +kernel
theorem va:(("kept":Str) == "births")=false:=by decide +kernel
theorem Dl:(("births":Str)="kept")=False:=by simpa using wI
theorem aA(h:n<=1000000):n<=sizeLine:=EL h 'd'
abbrev kM:Stmt:=top 24
abbrev kB:Stmt:=top 25
inductive Thg(H:Hp):V->Prop
 | non:Thg H .non
 | bl (b:Bool):Thg H (.bl b)
 | int (i:Int):Thg H (.int i)
 | str (x:Str):Thg H (.str x)
 | lst {a:Addr}{xs:List V}:H a=some (.lst xs)->Thg H (.ref a)
 | tup {a:Addr}{xs:List V}:H a=some (.tup xs)->Thg H (.ref a)
 | dic {a:Addr}{kvs:List (Key×V)}:H a=some (.dK kvs)->Thg H (.ref a)
theorem Thg.same(t:Thg H v)(s:zg H H'):Thg H' v:=by
 cases t with
 | non=>exact .non
 | bl b=>exact .bl b
 | int i=>exact .int i
 | str x=>exact .str x
 | lst h=>exact .lst (s _ _ h)
 | tup h=>exact .tup (s _ _ h)
 | dic h=>exact .dic (s _ _ h)
def Ab:V->Bool | .int _=>true|_=>false
def iD(v:V)(a b:Int):Bool:=match v with | .int i=>decide (a<=i)&&decide (i<=b)|_=>false
def rZ:Sp:=λvs H Q _=>∃v,vs=[v]/\Thg H v/\Q (.bl (Ab v)) H
def kh:Sp:=λvs H Q _=>∃v a b,vs=[v,.int a,.int b]/\Thg H v/\Q (.bl (iD v a b)) H
section
variable {P:Eo}{w:EG}{K:Frag}{mg:Str->Option Value}{base:Heap}{A:zk}
theorem DO{X:Cx}(t:Thg H v)(q:Q (.bl (match v with | .int _=>true | .bl _=>true|_=>false)) H):gh X.K [v,.ty "int"] H Q:=by
 cases t with
 | non=>exact {_,_,_,_,_,rfl,rfl,.of .non,rfl,q}
 | bl b=>exact {_,_,_,_,_,rfl,rfl,.of (.bl b),rfl,q}
 | int i=>exact {_,_,_,_,_,rfl,rfl,.of (.int i),rfl,q}
 | str x=>exact {_,_,_,_,_,rfl,rfl,.of (.str x),rfl,q}
 | lst h=>exact {_,_,_,_,_,rfl,rfl,.of (.lst h),rfl,q}
 | tup h=>exact {_,_,_,_,_,rfl,rfl,.of (.tup h),rfl,q}
 | dic h=>exact {_,_,_,_,_,rfl,rfl,.of (.dK h),rfl,q}
theorem tV{X:Cx}(t:Thg H v)(q:Q (.bl (match v with | .bl _=>true|_=>false)) H):gh X.K [v,.ty "bool"] H Q:=by
 cases t with
 | non=>exact {_,_,_,_,_,rfl,rfl,.of .non,rfl,q}
 | bl b=>exact {_,_,_,_,_,rfl,rfl,.of (.bl b),rfl,q}
 | int i=>exact {_,_,_,_,_,rfl,rfl,.of (.int i),rfl,q}
 | str x=>exact {_,_,_,_,_,rfl,rfl,.of (.str x),rfl,q}
 | lst h=>exact {_,_,_,_,_,rfl,rfl,.of (.lst h),rfl,q}
 | tup h=>exact {_,_,_,_,_,rfl,rfl,.of (.tup h),rfl,q}
 | dic h=>exact {_,_,_,_,_,rfl,rfl,.of (.dK h),rfl,q}
theorem C8:zB ["value"] ["value"] (zp kM):=fsc
theorem vo(F:Fun K "is_whole" "is_whole" kM f fd)(T:Txt K mg A):zr P w K mg base CX0 cm 1 f fd ["value"] rZ:=by
 refine F.o C8 λn G outer s H vs Q E hr h=>?_;obtain ⟨v,rfl,th,q⟩:=h;refine {_,(W.h (zi (zz (mI (zA fS rfl T.i3 ES (za (zd 0) (za (fE rfl T.Jm HY (v:=.ty "int") rfl) zc))) (gO (wt (zA fS rfl T.i3 ES (za (zd 0) (za (fE rfl T.L3 boot_bool (v:=.ty "bool") rfl) zc))))))))),?_};ac_rfl;refine DO th ?_;cases th with
 | int i=>exact {true,rfl,kj (tV (.int i) {false,rfl,q})}
 | bl i=>exact {true,rfl,kj (tV (.bl i) {true,rfl,q})}
 | _=>exact {false,rfl,ji q}
theorem uu:zB Yb Yb (zp kB):=fsc
theorem BL(F:Fun K Xq Xq kB f fd)(T:Txt K mg A)(n:GF P w K mg base cm 1 "is_whole" ["value"] rZ):zr P w K mg base CX0 cm 2 f fd Yb kh:=by
 refine F.o uu λG J outer s H vs Q E hr h=>?_;obtain ⟨v,a,b,rfl,th,q⟩:=h;refine {_,(W.h (zi (zz (mI (zy n hr rfl (za (zd 0) zc)) (gO (sy fR fR (zd 1) (zd 0) (zd 2))))))),?_};ac_rfl;refine {_,rfl,th,?_};cases th with
 | int i =>
  refine {true,rfl,kj ?_};ac_rfl;refine ah (λh=>?_) (λh=>?_)
  .have e:iD (.int i) a b=decide (i<=b):=by show (decide (a<=i)&&_)=_;rw [h];rfl
   rw [<- e];exact q
  .have e:iD (.int i) a b=false:=by show (decide (a<=i)&&_)=_;rw [E9.mpr h];rfl
   rw [<- e];exact q
 | _=>exact {false,rfl,ji q}
def But(b:Addr)(H H':Hp):Prop:=∀a o,a≠b->H a=some o->H' a=some o
theorem But.of(s:zg H H'):But b H H':=λa o _ e=>s a o e
theorem But.trans(x:But b H H1)(y:But b H1 H2):But b H H2:=λa o n e=>y a o n (x a o n e)
def ae(z y:Str)(m:Int):Bool:=decide (1<=(z.length:Int))&&decide ((z.length:Int)<=m)&&(sg z).all λc=>(sg y).contains c
def FIG:Str:="0123456789"
def LET:Str:="abcdefghijklmnopqrstuvwxyz"
def zC(z:Str):Bool:=ae z FIG 18&&(decide (z="0") || !decide (tx ((sg z).take 1)="0"))
def zv(z:Str):Bool:=ae z LET 6
def mr:Sp:=λvs H Q _=>∃z y m,vs=[.str z,.str y,.int m]/\asc z=true/\z.length<=200000/\∀H',zg H H'->Q (.bl (ae z y m)) H'
def bX(p:Str->Bool):Sp:=λvs H Q _=>∃z,vs=[.str z]/\asc z=true/\z.length<=200000/\∀H',zg H H'->Q (.bl (p z)) H'
theorem aO(h:n<=1000000):n<sizeLine:=FR h 'd'
abbrev iR:Stmt:=top 26
abbrev kO:Stmt:=top 27
abbrev jG:Stmt:=top 28
structure yr(H:Hp)(z y:Str)(i:Nat)(τ:L2.St)(ys:List V)(H':Hp):Prop where
 ex:∃t,τ=[t,some (V.str y)]
 ys:ys=(((sg z).take i).map λc=>(sg y).contains c).map V.bl
 same:H'=H
theorem Ds:zB Yc Yc (zp iR):=fsc
theorem w6:bP { kind:=.function,names:=[(Es ".0",.local),(Es "sign",.local),(Es "signs",.free)],isGenerator:=false,isCoroutine:=false,more:=[] } (zp iR).names Yc ["sign","signs"] [none,some 1]=true:=by decide +kernel
theorem BQ:(["sign","signs"]:List Str).Nodup:=by decide +kernel
theorem x3(F:Fun K Xy Xy iR f fd)(T:Txt K mg A):zr P w K mg base CX0 true 1 f fd Yc mr:=by
 refine F.o Ds λZ U outer s H vs Q E hr h=>?_;obtain ⟨z,y,m,rfl,ha,S,q⟩:=h;have O:_<cLine:=Fc (zR hr);refine {_,(W.h (zi (zz (mI (sy fR fR zj (zA fB rfl T.o2 EK (za (zd 0) zc)) (zd 2)) (gO (zA (rF rfl) rfl T.LX boot_all (za (cq (λ_=>rfl) (bo.of w6) (lW (zd 0)) (λ_ _ _ _ _=>(zW (i:=0) BQ rfl (EA rfl))) (λ_ _ _ _ _=>c7) (λ_ _ _ _ _=>(dN (wZ O) (zd 0) (zd 1) rfl))) zc))))))),?_};erw [aA (EL S 'd')];refine ah (λh1=>ah (λh2=>?_) λh2=>?_) λh1=>?_
 .refine {ha,aQ.str (yr H z y) (λi n ys H' I=>?_) {{_,rfl},'s',rfl} ?_ ?_}
  .rw [I.ys,En,En,Fn];exact aO (by rw [zE];omega)
  .intro N i c n ys H' hc I hN;obtain ⟨t,rfl⟩:=I.ex;ac_rfl;rw [qX];have J:(sg z)[i]?=some c:=by simpa [sg] using hc
   exact hN _ _ _ {{_,rfl},by rw [I.ys,Fw,J];simp,I.same}
  .intro n ys H' I p H2 G;ac_rfl;refine {_,by rw [G.at_,I.ys],?_};have hs:zg H H2:=by have:=G.same;rw [I.same] at this;exact this
   have e:ae z y m=(((sg z).take z.cps.size).map λc=>(sg y).contains c).all id:=by
    unfold ae;rw [h1,h2,EU (by rw [zE];exact EF _),List.all_map];rfl
   rw [<- e];exact q H2 hs
 .have e:ae z y m=false:=by unfold ae;rw [E9.mpr h2];simp
  rw [<- e];exact q H (zg.refl _)
 .have e:ae z y m=false:=by unfold ae;rw [E9.mpr h1];simp
  rw [<- e];exact q H (zg.refl _)
theorem AL:zB X4 X4 (zp jG):=fsc
theorem Cj(F:Fun K "is_name" "is_name" jG f fd)(T:Txt K mg A)(G:GF P w K mg base true 1 Xy Yc mr):zr P w K mg base CX0 true 2 f fd X4 (bX zv):=by
 refine F.o AL λJ O outer s H vs Q E hr h=>?_;obtain ⟨z,rfl,ha,n,q⟩:=h;refine {_,(W.h (zi (zz (zy G hr rfl (za (zd 0) (za (aB rfl T.Lo) (za (aB rfl T.JA) zc))))))),?_};ac_rfl;exact {z,_,_,rfl,ha,n,q}
theorem xt:zB X4 X4 (zp kO):=fsc
theorem yd(F:Fun K XA XA kO f fd)(T:Txt K mg A)(O:GF P w K mg base true 1 Xy Yc mr):zr P w K mg base CX0 true 2 f fd X4 (bX zC):=by
 refine F.o xt λZ U outer s H vs Q E hr h=>?_;obtain ⟨z,rfl,ha,J,q⟩:=h;have G:_<cLine:=Fc (zR hr);refine {_,(W.h (ze (zL (aY (aX (zy O hr rfl (za (zd 0) (za (aB rfl T.Lp) (za (aB rfl T.JB) zc))))))
   (zi (zz dm))
   zN)
   (zi (zz (tM (dN (bO G) (zd 0) zq (zF _)) (gO (dN (gD G) (zJ cU (zd 0) zj (λ_ _=>rfl)) zq (zF _)))))))),?_}
 ac_rfl;refine {z,_,_,rfl,ha,J,λH1 s1=>?_};erw [aA (EL J 'd')];refine ah (λh1=>?_) λh1=>?_
 .have e:zC z=false:=by
   unfold zC FIG;rw [show ae z "0123456789" 18=false by simpa using h1];rfl
  rw [<- e];exact q H1 s1
 .have h1:ae z "0123456789" 18=true:=by simpa using h1
  refine ah (λh2=>?_) λh2=>?_
  .have e:zC z=true:=by
    unfold zC FIG;rw [h1,h2];rfl
   rw [<- e];exact q H1 s1
  .have n:0<(sg z).length:=by
    rw [zE];unfold ae at h1;rw [EJ,EJ,decide_eq_true_eq] at h1;omega
   have S:(sg z).take 1=[(sg z)[0]]:=by
    generalize sg z=l at n;cases l with
    | nil=>cases n
    | cons x l=>rfl
   refine {(sg z)[0],bx (xs:=sg z) (j:=0) (Ek n),?_};have e:zC z = !decide (({ cps:=#[(sg z)[0]] }:Str)="0"):=by
    unfold zC FIG;rw [h1,E9.mpr h2,S];rfl
   rw [<- e];exact q H1 s1
end
abbrev kY:Stmt:=aL (top 32) 0
abbrev mK:Stmt:=aL (top 32) 1
abbrev mG:Stmt:=aL (top 32) 2
abbrev jR:Stmt:=aL (top 32) 14
abbrev mf:Stmt:=aL (top 32) 15
abbrev Tab:=List (Str×List Int)
def br(H:Hp)(v:V)(l:List Int):Prop:=∃p,v = .ref p/\H p=some (.tup (l.map V.int))
def zP(b k:Addr):List (Str×V):=[("births",.ref b),("kept",.ref k)]
structure bC(H:Hp)(b:Addr)(t:Tab):Prop where
 ex:∃kvs,H b=some (.dK (sk kvs))/\Dct (br H) kvs t
 nd:(names t).Nodup
structure cy(H:Hp)(b:Addr)(t:Tab):Prop where
 ex:∃kvs,Rd H b (.dK (sk kvs))/\Dct (br H) kvs t
 nd:(names t).Nodup
theorem bC.r{t:Tab}(h:bC H b t):cy H b t:=let ⟨kvs,e,d⟩:=h.ex;{{kvs,.inl e,d},h.nd}
structure aK(A:zk)(H:Hp)(q b k:Addr)(t:Tab):Prop where
 ob:∃dx,H q=some (.ins A.nv dx (zP b k))
 mC:cy H b t
 kept:Rd H k (.dK (sk []))
def bK(A:zk)(H:Hp)(b k:Addr)(v:V)(t:Tab):Prop:=∃q n k',v = .ref q/\aK A H q n k' t/\n≠b/\n≠k/\k'≠b/\k'≠k
structure zQ(A:zk)(H:Hp)(p b k:Addr)(t:Tab)(ks:List (Str×Tab)):Prop where
 ob:∃dx,H p=some (.ins A.nv dx (zP b k))
 mC:bC H b t
 kept:∃kk,H k=some (.dK (sk kk))/\Dct (bK A H b k) kk ks
 LM:(names ks).Nodup
 ne:b≠k
structure bj(A:zk)(H:Hp)(p b k:Addr)(t:Tab)(ks:List (Str×Tab)):Prop where
 ob:∃dx,H p=some (.ins A.nv dx (zP b k))
 mC:cy H b t
 kept:∃kk,Rd H k (.dK (sk kk))/\Dct (bK A H b k) kk ks
 LM:(names ks).Nodup
theorem zQ.r{p b k:Addr}{t:Tab}(h:zQ A H p b k t ks):bj A H p b k t ks:=let ⟨kk,e,d⟩:=h.kept;{h.ob,h.mC.r,{kk,.inl e,d},h.LM}
structure FS(H H':Hp):Prop where
 oth:∀a o,(∀kvs,o≠.dK kvs)->(∀ob kvs,o≠.frz ob (.dK kvs))->H a=some o->H' a=some o
 dic:∀a kvs,Rd H a (.dK kvs)->Rd H' a (.dK kvs)
theorem FS.of(s:zg H H'):FS H H':={λa o _ _ e=>s a o e,λa kvs r=>r.elim (λe=>.inl (s _ _ e)) (λ⟨o,e⟩=>.inr {o,s _ _ e})}
theorem Rd.same(h:Rd H a u)(s:zg H H'):Rd H' a u:=h.elim (λe=>.inl (s _ _ e)) (λ⟨o,e⟩=>.inr {o,s _ _ e})
theorem But.upd{b:Addr}{H:Hp}{o:HO}:But b H (upd H b o):=λa u n e=>by rw [zm n];exact e
theorem br.but(h:br H v l)(s:But b H H')(hb:∀xs,H b≠some (.tup xs)):br H' v l:=by
 obtain ⟨p,e,hp⟩:=h;exact {p,e,s p _ (λz=>by subst z;exact hb _ hp) hp}
theorem br.same(h:br H v l)(s:zg H H'):br H' v l:=let ⟨p,e,hp⟩:=h;{p,e,s p _ hp}
theorem bC.but{t:Tab}(h:bC H b t)(s:But x H H')(F:∀xs,H x≠some (.tup xs))(n:b≠x):bC H' b t:=by
 obtain ⟨kvs,e,d⟩:=h.ex;exact {{kvs,s _ _ n e,d.imp λv a r=>r.but s F},h.nd}
theorem bC.same{t:Tab}(h:bC H b t)(s:zg H H'):bC H' b t:=by
 obtain ⟨kvs,e,d⟩:=h.ex;exact {{kvs,s _ _ e,d.imp λv a r=>r.same s},h.nd}
theorem cy.but{t:Tab}(h:cy H b t)(s:But x H H')(F:∀xs,H x≠some (.tup xs))(n:b≠x):cy H' b t:=by
 obtain ⟨kvs,e,d⟩:=h.ex;exact {{kvs,e.elim (λe=>.inl (s _ _ n e)) (λ⟨o,e⟩=>.inr {o,s _ _ n e}),d.imp λv a r=>r.but s F},h.nd}
theorem br.fs(h:br H v l)(s:FS H H'):br H' v l:=let ⟨p,e,hp⟩:=h;{p,e,s.oth p _ (λ_=>nofun) (λ_ _=>nofun) hp}
theorem cy.fs{t:Tab}(h:cy H b t)(s:FS H H'):cy H' b t:=by
 obtain ⟨kvs,e,d⟩:=h.ex;exact {{kvs,s.dic _ _ e,d.imp λv a r=>r.fs s},h.nd}
theorem aK.but{q b k:Addr}{t:Tab}(h:aK A H q b k t)(s:But x H H')(n:H x=some (.dK kvs))(G:b≠x)(F:k≠x):aK A H' q b k t:=by
 obtain ⟨dx,e⟩:=h.ob;exact {{dx,s _ _ (λz=>by subst z;rw [e] at n;cases n) e},h.mC.but s (λxs z=>by rw [z] at n;cases n) G,h.kept.elim (λe=>.inl (s _ _ F e)) (λ⟨o,e⟩=>.inr {o,s _ _ F e})}
theorem aK.fs{q b k:Addr}{t:Tab}(h:aK A H q b k t)(s:FS H H'):aK A H' q b k t:=let ⟨dx,e⟩:=h.ob;{{dx,s.oth _ _ (λ_=>nofun) (λ_ _=>nofun) e},h.mC.fs s,s.dic _ _ h.kept}
theorem aK.same{q b k:Addr}{t:Tab}(h:aK A H q b k t)(s:zg H H'):aK A H' q b k t:=h.fs (.of s)
theorem bK.fs{b k:Addr}{t:Tab}(h:bK A H b k v t)(s:FS H H'):bK A H' b k v t:=let ⟨q,b',k',e,r,n⟩:=h;{q,b',k',e,r.fs s,n}
theorem bj.fs{p b k:Addr}{t:Tab}(h:bj A H p b k t ks)(s:FS H H'):bj A H' p b k t ks:=by
 obtain ⟨dx,e⟩:=h.ob;obtain ⟨kk,n,d⟩:=h.kept;exact {{dx,s.oth _ _ (λ_=>nofun) (λ_ _=>nofun) e},h.mC.fs s,{kk,s.dic _ _ n,d.imp λv a r=>r.fs s},h.LM}
theorem bj.same{p b k:Addr}{t:Tab}(h:bj A H p b k t ks)(s:zg H H'):bj A H' p b k t ks:=h.fs (.of s)
theorem zQ.fs{p b k d:Addr}{t:Tab}(h:zQ A H p b k t ks)(s:FS H H')(bt:But d H H')(G:b≠d)(O:k≠d):zQ A H' p b k t ks:=by
 obtain ⟨dx,e⟩:=h.ob;obtain ⟨kk,J,d⟩:=h.kept;obtain ⟨kvs,F,n⟩:=h.mC.ex;exact {{dx,s.oth _ _ (λ_=>nofun) (λ_ _=>nofun) e},{{kvs,bt _ _ G F,n.imp λv a r=>r.fs s},h.mC.nd},{kk,bt _ _ O J,d.imp λv a r=>r.fs s},h.LM,h.ne}
theorem bK.same{b k:Addr}{t:Tab}(h:bK A H b k v t)(s:zg H H'):bK A H' b k v t:=let ⟨q,b',k',e,r,n⟩:=h;{q,b',k',e,r.same s,n}
theorem zQ.same{p b k:Addr}{t:Tab}(h:zQ A H p b k t ks)(s:zg H H'):zQ A H' p b k t ks:=by
 obtain ⟨dx,e⟩:=h.ob;obtain ⟨kk,n,d⟩:=h.kept;exact {{dx,s _ _ e},h.mC.same s,{kk,s _ _ n,d.imp λv a r=>r.same s},h.LM,h.ne}
theorem zQ.setB{p b k:Addr}{t t':Tab}(h:zQ A H p b k t ks)(s:But b H H')(e:H' b=some (.dK (sk F)))(d':Dct (br H') F t')(nd:(names t').Nodup):zQ A H' p b k t' ks:=by
 obtain ⟨dx,G⟩:=h.ob;obtain ⟨kk,U,d⟩:=h.kept;obtain ⟨kvs,n,_⟩:=h.mC.ex;exact {{dx,s _ _ (λz=>by subst z;rw [G] at n;cases n) G},{⟨F,e,d'⟩,nd},{kk,s _ _ (Fi h.ne) U,d.imp λv a ⟨q,W,k',S,r,J,Z,O,n4⟩=>{q,W,k',S,r.but s n J O,J,Z,O,n4}},h.LM,h.ne}
theorem zQ.Mg{p b k:Addr}{t:Tab}(h:zQ A H p b k t ks)(s:But k H H')(e:H' k=some (.dK (sk n)))(d':Dct (bK A H' b k) n ks')(nd:(names ks').Nodup):zQ A H' p b k t ks':=by
 obtain ⟨dx,G⟩:=h.ob;obtain ⟨kk,F,d⟩:=h.kept;exact {{dx,s _ _ (λz=>by subst z;rw [G] at F;cases F) G},h.mC.but s (λxs z=>by rw [z] at F;cases F) h.ne,⟨n,e,d'⟩,nd,h.ne}
theorem bK.but{b k:Addr}{t:Tab}(h:bK A H b k v t)(s:But k H H')(n:H k=some (.dK kvs)):bK A H' b k v t:=let ⟨q,b',k',ev,r,n1,n2,n3,n4⟩:=h;{q,b',k',ev,r.but s n n2 n4,n1,n2,n3,n4}
section
variable {P:Eo}{w:EG}{K:Frag}{mg:Str->Option Value}{base:Heap}{A:zk}{b k:Addr}
theorem bV:(zP b k).lookup ("births":Str)=some (.ref b):=by simp only [zP,Gx,beq_self_eq_true]
theorem d5:(zP b k).lookup ("kept":Str)=some (.ref k):=by simp only [zP,Gx,beq_self_eq_true,va]
theorem CT:(zP b k).lookup ("names":Str)=none:=by kernel_rfl
theorem iN:(zP b k).lookup ("many":Str)=none:=by kernel_rfl
theorem Ee:(zP b k).lookup ("birth":Str)=none:=by kernel_rfl
theorem xE:(zP b k).lookup ("put":Str)=none:=by kernel_rfl
theorem By:(zP b k).lookup ("held":Str)=none:=by kernel_rfl
theorem wG:(zP b k).lookup ("of_held":Str)=none:=by kernel_rfl
theorem rh:(zP b k).lookup ("bare":Str)=none:=by kernel_rfl
theorem Dt:(zP b k).lookup ("keep":Str)=none:=by kernel_rfl
theorem qm:(zP b k).lookup (XB:Str)=none:=by kernel_rfl
theorem gW:(zP b k).lookup (XH:Str)=none:=by kernel_rfl
def lD(A:zk):Sp:=λvs H Q _=>∃(p dx:Addr),vs=[.ref p]/\H p=some (.ins A.nv dx [])/\∀b k H',But p H H'->H b=none->H k=none->H' b=some (.dK (sk []))->H' k=some (.dK (sk []))->b≠k->H' p=some (.ins A.nv dx (zP b k))->Q .non H'
theorem DD:zB YE YE (zp kY):=fsc
theorem Cf(F:Fun K XJ "Files.__init__" kY f fd)(T:Txt K mg A):zr P w K mg base CX0 true 1 f fd YE (lD A):=by
 refine F.o DD λZX Z outer s H vs Q E hr h=>?_;obtain ⟨p,dx,rfl,hp,q⟩:=h;refine {_,(W.h (ze (gF T.ka T.kz (zd 0) dG)
   (zi (gF T.ka T.o1 (zd 0) dG)))),?_}
 ac_rfl;refine λb H1 G=>{dx,[],G.same _ _ hp,'d',λk H2 J=>{dx,_,J.same _ _ zG,by show 1<1000;decide,?_}};have O:b≠p:=λz=>by have:=G.no;rw [z,hp] at this;cases this
 have kp:k≠p:=λz=>by have:=J.no;rw [z,zG] at this;cases this
 have k1:H1 k=none:=by have:=J.no;rw [zm kp] at this;exact this
 have S:z5 ("kept":Str) (V.ref k) (z5 ("births":Str) (V.ref b) [])=zP b k:=by simp only [z5,zP,Dl,if_false]
 have U:H2 b=some (.dK []):=J.same _ _ (by rw [zm O];exact G.at_);rw [S];refine q b k _ (λa o n e=>?_) G.no (G.same.free k1) (by rw [zm O];exact U) (by rw [zm kp];exact J.at_) (λz=>?_) zG
 .rw [zm n];exact J.same _ _ (by rw [zm n];exact G.same _ _ e)
 .have:=J.no;rw [<- z,zm O,G.at_] at this;cases this
def ql(A:zk):Sp:=λvs H Q _=>∃(p b k:Addr)(t:Tab)(ks:List (Str×Tab)),vs=[.ref p]/\bj A H p b k t ks/\t.length<64/\∀l H',New H l (.lst ((zu (names t)).map V.str)) H'->Q (.ref l) H'
theorem wH:zB YE YE (zp mK):=fsc
theorem yf(F:Fun K "names" "Files.names" mK f fd)(T:Txt K mg A):zr P w K mg base CX0 true 1 f fd YE (ql A):=by
 refine F.o wH λU S outer s H vs Q E hr h=>?_;obtain ⟨p,b,k,t,ks,rfl,n,J,q⟩:=h;refine {_,(W.h (zi (zz (zA (h8 rfl) rfl T.I0 boot_sorted (za (bc T.ka T.kz (zd 0)) zc))))),?_};obtain ⟨dx,G⟩:=n.ob;obtain ⟨kvs,O,d⟩:=n.mC.ex;erw [G,bV];refine {kvs,O,by rw [d.length];exact J,?_};rw [d.names];exact q
def lk(t:Tab)(n:Str):List Int:=(look t n).getD []
def ju(A:zk):Sp:=λvs H Q _=>∃(p b k:Addr)(t:Tab)(ks:List (Str×Tab))(n:Str),vs=[.ref p,.str n]/\bj A H p b k t ks/\∀H',zg H H'->Q (.int (lk t n).length) H'
theorem bC.get{t:Tab}(d:Dct (br H) kvs t)(n:Str){p:Addr}(s:zg H H')(hp:H' p=some (.tup [])):∃a,(look kvs n).getD (.ref p) = .ref a/\H' a=some (.tup ((lk t n).map V.int)):=by
 rcases d.look n with ⟨v,l,F,G,a,J,ha⟩|⟨F,G⟩
 .exact {a,by rw [F,J];rfl,by unfold lk;rw [G];exact s _ _ ha}
 .exact {p,by rw [F];rfl,by unfold lk;rw [G];exact hp}
theorem uY:zB Yi Yi (zp mG):=fsc
theorem xH(F:Fun K "many" "Files.many" mG f fd)(T:Txt K mg A):zr P w K mg base CX0 true 1 f fd Yi (ju A):=by
 refine F.o uY λZ U outer s H vs Q E hr h=>?_;obtain ⟨p,b,k,t,ks,n,rfl,J,q⟩:=h;refine {_,(W.h (zi (zz (zA fB rfl T.o2 EK (za (tG (zR hr) (bc T.ka T.kz (zd 0)) (zd 1) (bg zc)) zc))))),?_};obtain ⟨dx,S⟩:=J.ob;obtain ⟨kvs,O,d⟩:=J.mC.ex;erw [S,bV];refine {{_,O},Gr _,λp' H2 G=>{_,Rd.same O G.same,?_}};obtain ⟨a,ea,ha⟩:=bC.get d n G.same G.at_;rw [bS,ea,hU];exact {_,.inr ha,by rw [En];exact q H2 G.same}
theorem Dct.Jv{α:Type}{R:V->α->Prop}{t:List (Str×α)}(d:Dct R kvs t)(n:Str):(look kvs n).isSome=(look t n).isSome:=by
 rcases d.look n with ⟨v,l,F,G,_⟩|⟨F,G⟩<;>rw [F,G]<;>rfl
def mS(A:zk):Sp:=λvs H Q _=>∃(p b k:Addr)(t:Tab)(ks:List (Str×Tab))(n:Str),vs=[.ref p,.str n]/\bj A H p b k t ks/\(look t n).isSome=true/\Q .non H
theorem Bp:zB Yi Yi (zp jR):=fsc
theorem xY(F:Fun K XB "Files.refuse_if_none" jR f fd)(T:Txt K mg A):zr P w K mg base CX0 true 1 f fd Yi (mS A):=by
 refine F.o Bp λZ U outer s H vs Q E hr h=>?_;obtain ⟨p,b,k,t,ks,n,rfl,G,O,q⟩:=h;refine {_,(W.h (zi (zL (zH (rR (zR hr)) (zd 1) (bc T.ka T.kz (zd 0)) rfl)
   (zi iT)
   zN))),?_}
 obtain ⟨dx,J⟩:=G.ob;obtain ⟨kvs,S,d⟩:=G.mC.ex;erw [J,bV];refine {_,S,?_};rw [bS,Dct.Jv d n,O];exact ji q
def kx(A:zk):Sp:=λvs H Q _=>∃(p b k:Addr)(t:Tab)(ks:List (Str×Tab))(n:Str),vs=[.ref p,.str n]/\bj A H p b k t ks/\(look ks n).isSome=true/\Q .non H
theorem Cb:zB Yx Yx (zp mf):=fsc
theorem xh(F:Fun K XH "Files.refuse_if_not_held" mf f fd)(T:Txt K mg A):zr P w K mg base CX0 true 1 f fd Yx (kx A):=by
 refine F.o Cb λZ U outer s H vs Q E hr h=>?_;obtain ⟨p,b,k,t,ks,n,rfl,G,O,q⟩:=h;refine {_,(W.h (zi (zL (zH (rR (zR hr)) (zd 1) (bc T.ka T.o1 (zd 0)) rfl)
   (zi iT)
   zN))),?_}
 obtain ⟨dx,J⟩:=G.ob;obtain ⟨kk,S,d⟩:=G.kept;erw [J,d5];refine {_,S,?_};rw [bS,Dct.Jv d n,O];exact ji q
abbrev kI:Stmt:=aL (top 32) 3
abbrev mL:Stmt:=aL (top 32) 4
theorem nC{i a b:Int}(h1:a<=i)(h2:i<=b):iD (.int i) a b=true:=by
 show (decide (a<=i)&&decide (i<=b))=true;rw [decide_eq_true h1,decide_eq_true h2];rfl
theorem rJ(G:0<=i)(h1:i<=xs.length):z8 xs none (some i)=xs.take i.toNat:=by
 have n:HT.sIx xs.length 0 none=0:=rfl;have F:HT.sIx xs.length xs.length (some i)=i.toNat:=by
  unfold HT.sIx;simp only;split<;>omega
 unfold z8;rw [n,F];simp
theorem j8{i:Int}(G:0<=i)(h1:i<=xs.length+1):z8 xs (some i) none=xs.drop i.toNat:=by
 have n:HT.sIx xs.length xs.length none=xs.length:=rfl;have F:HT.sIx xs.length 0 (some i)=min i.toNat xs.length:=by
  unfold HT.sIx;simp only;split<;>omega
 unfold z8;rw [n,F];by_cases h:i.toNat<=xs.length
 .rw [Nat.min_eq_left h,EU (by rw [Ha];omega)]
 .rw [Nat.min_eq_right (by omega),GK (EF _),GK (by omega)];simp
def rE(A:zk):Sp:=λvs H Q _=>∃(p b k:Addr)(t:Tab)(ks:List (Str×Tab))(n:Str)(l:List Int)(i:Int),vs=[.ref p,.str n,.int i]/\bj A H p b k t ks/\look t n=some l/\0<=i/\i<l.length/\∀H',zg H H'->Q (.int (l.getD i.toNat 0)) H'
theorem w9:zB X5 X5 (zp kI):=fsc
theorem xl(F:Fun K "birth" "Files.birth" kI f fd)(T:Txt K mg A)(ZU:GM P w K mg base true 1 A.nv XB Yi (mS A))(ZZ:GM P w K mg base true 1 A.nv "many" Yi (ju A))(ZN:GF P w K mg base true 2 Xq Yb kh):zr P w K mg base CX0 true 4 f fd X5 (rE A):=by
 refine F.o w9 λZX Ar outer s H vs Q E hr h=>?_;obtain ⟨p,b,k,t,ks,n,l,i,rfl,J,O,i0,i1,q⟩:=h;refine {_,(W.h (ze (dR (cw (zd 0) T.ka ZU hr (za (zd 1) zc)))
   (ze (zL (aY (aX (zy ZN hr rfl (za (zd 2) (za zj (za (zx fM (cw (zd 0) T.ka ZZ hr (za (zd 1) zc)) zj) zc))))))
   (zi iT)
   zN)
   (zi (zz (zJ cU (zJ (fX (zR hr)) (bc T.ka T.kz (zd 0)) (zd 1) (λ_ _=>rfl)) (zd 2) (λ_ _=>rfl))))))),?_}
 obtain ⟨dx,U⟩:=J.ob;erw [U,bV,qm,iN];refine {p,b,k,t,ks,n,rfl,J,by rw [O];rfl,?_};erw [U,bV,qm,iN];refine {p,b,k,t,ks,n,rfl,J,λH1 s1=>?_};have Z:=J.same s1;obtain ⟨ag,S⟩:=Z.ob;obtain ⟨kvs,e2,d⟩:=Z.mC.ex;have el:lk t n=l:=by unfold lk;rw [O];rfl
 ac_rfl;refine {_,_,_,rfl,.int i,?_};rw [nC i0 (by rw [el];omega)];erw [S,bV];refine {_,e2,?_};rcases d.look n with ⟨v,l',d1,G,a,ev,ha⟩|⟨_,G⟩
 .rw [O] at G;cases G;subst ev;refine {.ref a,by rw [bS];exact d1,?_};rw [jn];have hi:i.toNat<l.length:=by omega
  refine {_,.inr ha,.int (l.getD i.toNat 0),?_,q H1 s1};have z:atI (l.map V.int) ((i.toNat:Nat):Int)=some (.int (l[i.toNat])):=bx (by rw [E5,Ek hi];rfl);rw [show ((i.toNat:Nat):Int)=i by omega] at z;rw [z,EX,Ek hi];rfl
 .rw [O] at G;cases G
def oR(A:zk):Sp:=λvs H Q _=>∃(p b k:Addr)(t:Tab)(ks:List (Str×Tab))(n:Str)(i x:Int),vs=[.ref p,.str n,.int i,.int x]/\zQ A H p b k t ks/\0<=i/\i<=(lk t n).length/\(lk t n).length<=1000/\t.length<=1000 /\
 ∀H',But b H H'->zQ A H' p b k (zt t n ((lk t n).take i.toNat++[x]++(lk t n).drop (i.toNat+1))) ks->Q .non H'
theorem qV:zB ["self","file","place","birth","births"] X3 (zp mL):=fsc
theorem uT(F:Fun K "put" "Files.put" mL f fd)(T:Txt K mg A)(ZZ:GM P w K mg base true 1 A.nv "many" Yi (ju A))(ZN:GF P w K mg base true 2 Xq Yb kh):zr P w K mg base CX0 true 4 f fd X3 (oR A):=by
 refine F.o qV λZX Ar outer s H vs Q E hr h=>?_;obtain ⟨p,b,k,t,ks,n,i,x,rfl,S,i0,i1,l1,t1,q⟩:=h;refine {_,(W.h (ze (zL (aY (aX (zy ZN hr rfl (za (zd 2) (za zj (za (cw (zd 0) T.ka ZZ hr (za (zd 1) zc)) zc))))))
   (zi iT)
   zN)
   (ze (zw (i:=4) qV.nd rfl (EA rfl) (tG (zR hr) (bc T.ka T.kz (zd 0)) (zd 1) (bg zc)))
   (zi (bu (zx mq (zx mq (cB rA (zd 4) cO (bZ (zd 2))) (bg (za (zd 3) zc))) (cB rA (zd 4) (bZ (zx mq (zd 2) zj)) cO)) (bR (bc T.ka T.kz (zd 0)) (zd 1) (dS (zR hr)))))))),?_}
 obtain ⟨dx,e1⟩:=S.ob;erw [e1,bV,iN];refine {p,b,k,t,ks,n,rfl,S.r,λH1 s1=>?_};have F1:=S.same s1;obtain ⟨av,ag⟩:=F1.ob;obtain ⟨kvs,U,d⟩:=F1.mC.ex;ac_rfl;refine {_,_,_,rfl,.int i,?_};rw [nC i0 i1];erw [ag,bV];refine {{_,.inl U},Gr _,λp1 H2 O=>{_,.inl (O.same _ _ U),?_}};obtain ⟨a,ea,ha⟩:=bC.get d n O.same O.at_;rw [bS,ea];erw [ha];intro p2 H3 s3 e3;refine {'d',λp3 H4 J=>?_};rw [rJ i0 (by rw [En];exact i1)] at e3;have big:∀n:Nat,n<=100000->n<=sizeLine:=λn h=>EL h 'd';refine .inr {_,J.same _ _ e3,_,J.at_,big _ (by simp;omega),λp4 H5 s5 e5=>?_};have Z:=s5 _ _ (J.same _ _ (s3 _ _ ha));refine .inr {_,Z,λp6 H6 s6 e6=>?_};rw [j8 (by omega) (by rw [En];omega)] at e6;refine .inr {_,s6 _ _ e5,_,e6,big _ (by simp;omega),λp7 H7 s7 e7=>?_};have G:zg H1 H7:=((((O.same.trans s3).trans J.same).trans s5).trans s6).trans s7;have F7:=F1.same G;obtain ⟨ax,ak⟩:=F7.ob;erw [ak,bV];refine {_,G _ _ U,by rw [cN,d.length];exact FR t1 'd',?_};rw [dA];have bt:∀xs,H7 b≠some (.tup xs):=λxs z=>by rw [G _ _ U] at z;cases z
 have et:(i+1).toNat=i.toNat+1:=by omega
 have d7:Dct (br H7) kvs t:=d.imp λv a r=>r.same G;have r7:br H7 (.ref p7) ((lk t n).take i.toNat++[x]++(lk t n).drop (i.toNat+1)):={p7,rfl,by rw [e7,et];simp [map_take,map_drop]};refine q _ (λc o nc e=>by rw [zm nc];exact G _ _ (s1 _ _ e)) (F7.setB But.upd zG ((d7.put n r7).imp λv a r=>r.but But.upd bt) (fz S.mC.nd))
abbrev jZ:Stmt:=aL (top 32) 7
abbrev mP:Stmt:=aL (top 32) 8
abbrev my:Stmt:=aL (top 32) 9
abbrev km:Stmt:=aL (top 32) 12
abbrev jP:Stmt:=aL (top 32) 13
def o8(A:zk):Sp:=λvs H Q _=>∃(p b k:Addr)(t:Tab)(ks:List (Str×Tab)),vs=[.ref p]/\bj A H p b k t ks/\ks.length<64/\∀l H',New H l (.lst ((zu (names ks)).map V.str)) H'->Q (.ref l) H'
theorem B9:zB YE YE (zp mP):=fsc
theorem xq(F:Fun K "held" "Files.held" mP f fd)(T:Txt K mg A):zr P w K mg base CX0 true 1 f fd YE (o8 A):=by
 refine F.o B9 λU S outer s H vs Q E hr h=>?_;obtain ⟨p,b,k,t,ks,rfl,n,J,q⟩:=h;refine {_,(W.h (zi (zz (zA (h8 rfl) rfl T.I0 boot_sorted (za (bc T.ka T.o1 (zd 0)) zc))))),?_};obtain ⟨dx,G⟩:=n.ob;obtain ⟨kk,O,d⟩:=n.kept;erw [G,d5];refine {kk,O,by rw [d.length];exact J,?_};rw [d.names];exact q
structure Has(A:zk)(H:Hp)(p:Addr)(t:Tab):Prop where
 ob:∃b k dx,H p=some (.ins A.nv dx (zP b k))/\cy H b t
theorem zQ.has{p:Addr}{t:Tab}(h:zQ A H p b k t ks):Has A H p t:=let ⟨dx,e⟩:=h.ob;⟨b,k,dx,e,h.mC.r⟩
theorem aK.has{p:Addr}{t:Tab}(h:aK A H p b k t):Has A H p t:=let ⟨dx,e⟩:=h.ob;⟨b,k,dx,e,h.mC⟩
def jD(A:zk):Sp:=λvs H Q _=>∃(p:Addr)(t:Tab),vs=[.ref p]/\Has A H p t/\∀q n k' H',zg H H'->H n=none->H k'=none->H q=none->aK A H' q n k' t->bC H' n t->Q (.ref q) H'
theorem mT:zB ["self","other"] YE (zp km):=fsc
theorem Bj(F:Fun K "bare" "Files.bare" km f fd)(T:Txt K mg A)(Zb:GC P w K mg base true 1 "Files" A.nv YE (lD A)):zr P w K mg base CX0 true 3 f fd YE (jD A):=by
 refine F.o mT λZX Ar outer s H vs Q E hr h=>?_;obtain ⟨p,t,rfl,⟨b,k,dx,e1,hB⟩,q⟩:=h;refine {_,(W.h (ze (zw (i:=1) mT.nd rfl (EA rfl) (pj Zb hr rfl))
   (ze (gF T.ka T.kz (zd 1) (aW DH rfl T.Ls boot_dict (za (bc T.ka T.kz (zd 0)) zc)))
   (zi (zz (zd 1)))))),?_}
 obtain ⟨kvs,e2,d⟩:=hB.ex;erw [e1,bV];refine λx U H2 O=>{x,U,rfl,O.at_,λb1 k1 H3 s3 nb nk eb ek ak ex=>{rfl,?_}};have px:∀c o,H c=some o->c≠x:=λc o e z=>by have:=O.no;rw [<- z,e] at this;cases this
 have S:∀c o,H c=some o->H3 c=some o:=λc o e=>s3 c o (px c o e) (O.same c o e);have Z:=S _ _ e1;erw [Z,bV];refine {_,Rd.same e2 S,λG H4 n=>{U,_,n.same _ _ ex,by show 2<1000;decide,?_}};have eF:z5 ("births":Str) (V.ref G) (zP b1 k1)=zP G k1:=by simp only [z5,zP,if_true]
 rw [eF];have J:G≠x:=λz=>by have:=n.no;rw [z,ex] at this;cases this
 have ag:k1≠x:=λz=>by rw [z,ex] at ek;cases ek
 have sF:zg H (upd H4 x (.ins A.nv U (zP G k1))):=λc o e=>by rw [zm (px c o e)];exact n.same _ _ (S c o e)
 have fr:∀c,H3 c=none->H c=none:=λc e=>by
  cases h:H c with
  | none=>rfl
  | some o=>rw [S c o h] at e;cases e
 have k0:H k1=none:=O.same.free nk;refine q x G k1 _ sF (fr G n.no) k0 O.no {⟨U,zG⟩,{{kvs,.inl (by rw [zm J];exact n.at_),d.imp λv a r=>r.same sF},hB.nd},.inl (by rw [zm ag];exact n.same _ _ ek)} {{kvs,by rw [zm J];exact n.at_,d.imp λv a r=>r.same sF},hB.nd}
theorem f9{α:Type}{t:List (Str×α)}{a:α}{p:Str×α}(h:p∈zt t n a):p∈t\/p=(n,a):=by
 unfold zt at h;split at h
 .obtain ⟨q,F,e⟩:=Gf.mp h;by_cases c:q.1=n
  .rw [if_pos c] at e;right;rw [<- e,c]
  .rw [if_neg c] at e;left;rw [<- e];exact F
 .rcases Ff.mp h with h|h
  .exact .inl h
  .exact .inr (by simpa using h)
def iz(A:zk)(H:Hp)(k c:Addr):Prop:=∀kvs,H k=some (.dK kvs)->∀pv∈kvs,∀q n k' dx,pv.2 = .ref q->H q=some (.ins A.nv dx (zP n k'))->n≠c/\k'≠c
theorem pI{b k n k':Addr}(h:zP b k=zP n k'):b=n/\k=k':=by
 unfold zP at h;injection h with h1 h2
 injection h1 with _ h1
 injection h2 with h2 _
 injection h2 with _ h2
 injection h1 with h1
 injection h2 with h2
 exact ⟨h1,h2⟩
def qW(A:zk):Sp:=λvs H Q _=>∃(p b k:Addr)(t:Tab)(ks:List (Str×Tab))(n:Str)(q:Addr)(u:Tab),vs=[.ref p,.str n,.ref q]/\zQ A H p b k t ks/\Has A H q u/\ks.length<=1000/\∀H',But k H H'->zQ A H' p b k t (zt ks n u)->(∀c,H c≠none->iz A H k c->iz A H' k c)->Q .non H'
theorem yi:zB X6 X6 (zp jP):=fsc
theorem AC(F:Fun K "keep" "Files.keep" jP f fd)(T:Txt K mg A)(ZP:GM P w K mg base true 3 A.nv "bare" YE (jD A)):zr P w K mg base CX0 true 4 f fd X6 (qW A):=by
 refine F.o yi λZX Ar outer s H vs Q E hr h=>?_;obtain ⟨p,b,k,t,ks,n,qa,u,rfl,Z,hQ,kl,q⟩:=h;refine {_,(W.h (zi (bu (eO (zd 2) T.ka ZP hr) (bR (bc T.ka T.o1 (zd 0)) (zd 1) (dS (zR hr)))))),?_};obtain ⟨dx,e1⟩:=Z.ob;obtain ⟨bq,kq,bt,a8,_⟩:=hQ.ob;erw [a8,rh];refine {qa,u,rfl,hQ,λx b' k' H1 s1 nb nk nx hB _=>?_};have F1:=Z.same s1;obtain ⟨a6,a9⟩:=F1.ob;obtain ⟨kk,e2,d⟩:=F1.kept;obtain ⟨bb,eb,_⟩:=Z.mC.ex;obtain ⟨bp,ek,_⟩:=Z.kept;erw [a9,d5];refine {_,e2,by rw [cN,d.length];exact FR kl 'd',?_};rw [dA];have ne:∀c o,H c=some o->∀e,H e=none->e≠c:=λc o h e he z=>by rw [z,h] at he;cases he
 have r:bK A H1 b k (.ref x) u:={x,b',k',rfl,hB,ne _ _ eb _ nb,ne _ _ ek _ nb,ne _ _ eb _ nk,ne _ _ ek _ nk};refine q _ (λc o nc e=>by rw [zm nc];exact s1 _ _ e) (F1.Mg But.upd zG ((d.put n r).imp λv a r=>r.but But.upd e2) (fz Z.LM)) λc hc av kvs hk pv ax q1 b1 k1 a6 S O=>?_;rw [zG] at hk;cases hk;have qk:q1≠k:=λz=>by rw [z,zG] at O;cases O
 rw [zm qk] at O;unfold sk at ax;obtain ⟨a4,ak,rfl⟩:=Gf.mp ax;have S:a4.2 = .ref q1:=S;rcases f9 ak with h|rfl
 .obtain ⟨U,a3,a7⟩:=Z.kept;have:=s1 _ _ a3;rw [e2] at this;have a5:U.map (·.2)=kk.map (·.2):=by
   have h2:sk U=sk kk:=by injection this with this;injection this with this;exact this.symm
   have h3:=congrArg (List.map (·.2)) h2;unfold sk at h3;rw [GT,GT] at h3;exact h3
  have hm:a4.2∈U.map (·.2):=by rw [a5];exact Gf.mpr {_,h,rfl}
  obtain ⟨pw,ag,aI⟩:=Gf.mp hm;obtain ⟨j,hj,ej⟩:=GY ag;obtain ⟨a2,_,q2,b2,k2,a0,ba,_⟩:=Dct.at a7 (Ek hj);rw [ej,aI,S] at a0;cases a0;obtain ⟨Yf,G⟩:=ba.ob;have J:=s1 _ _ G;rw [O] at J;injection J with J
  injection J with _ _ J
  obtain ⟨r1,r2⟩:=pI J;subst r1 r2;exact av _ a3 _ (by unfold sk;exact Gf.mpr {pw,ag,rfl}) q1 b1 k1 Yf (show pw.2=_ by rw [aI,S]) G
 .have S:V.ref x = .ref q1:=S;cases S;obtain ⟨Yf,G⟩:=hB.ob;rw [O] at G;injection G with G
  injection G with _ _ G
  obtain ⟨r1,r2⟩:=pI G;subst r1 r2;exact {λz=>hc (by rw [<- z];exact nb),λz=>hc (by rw [<- z];exact nk)}
def wk(A:zk):Sp:=λvs H Q _=>∃(p b k:Addr)(t:Tab)(ks:List (Str×Tab))(n:Str),vs=[.ref p,.str n]/\zQ A H p b k t ks/\(look ks n).isSome=true/\∀H',But k H H'->zQ A H' p b k t (bw ks n)->(∀c,iz A H k c->iz A H' k c)->Q .non H'
theorem wK:zB Yx Yx (zp jZ):=fsc
theorem Dv(F:Fun K "free" "Files.free" jZ f fd)(T:Txt K mg A)(Z6:GM P w K mg base true 1 A.nv XH Yx (kx A)):zr P w K mg base CX0 true 3 f fd Yx (wk A):=by
 refine F.o wK λZX Ar outer s H vs Q E hr h=>?_;obtain ⟨p,b,k,t,ks,n,rfl,O,hn,q⟩:=h;refine {_,(W.h (ze (dR (cw (zd 0) T.ka Z6 hr (za (zd 1) zc)))
   (zi (yW (bc T.ka T.o1 (zd 0)) (zd 1))))),?_}
 obtain ⟨dx,e1⟩:=O.ob;obtain ⟨kk,U,d⟩:=O.kept;erw [e1,d5,gW];refine {p,b,k,t,ks,n,rfl,O.r,hn,?_};erw [e1,d5,gW];refine {_,U,by rw [bS,Dct.Jv d n];exact hn,?_};rw [Ap];refine q _ But.upd (O.Mg But.upd zG ((d.drop n).imp λv a r=>r.but But.upd U) (Cv O.LM)) λc av kvs hk pv J q1 b1 k1 Z ev G=>?_;rw [zG] at hk;cases hk;have qk:q1≠k:=λz=>by rw [z,zG] at G;cases G
 rw [zm qk] at G;refine av _ U pv ?_ q1 b1 k1 Z ev G;unfold sk bw at J;obtain ⟨ag,S,rfl⟩:=Gf.mp J;unfold sk;exact Gf.mpr {ag,(mem_filter.mp S).1,rfl}
def mY(A:zk):Sp:=λvs H Q _=>∃(p b k:Addr)(t:Tab)(ks:List (Str×Tab))(n:Str)(u:Tab),vs=[.ref p,.str n]/\bj A H p b k t ks/\look ks n=some u/\∀q F k' H',zg H H'->H F=none->H k'=none->H q=none->aK A H' q F k' u->bC H' F u->Q (.ref q) H'
theorem Bw:zB Yx Yx (zp my):=fsc
theorem Dm(F:Fun K "of_held" "Files.of_held" my f fd)(T:Txt K mg A)(Z6:GM P w K mg base true 1 A.nv XH Yx (kx A))(ZP:GM P w K mg base true 3 A.nv "bare" YE (jD A)):zr P w K mg base CX0 true 4 f fd Yx (mY A):=by
 refine F.o Bw λZX Ar outer s H vs Q E hr h=>?_;obtain ⟨p,b,k,t,ks,n,u,rfl,J,U,q⟩:=h;refine {_,(W.h (ze (dR (cw (zd 0) T.ka Z6 hr (za (zd 1) zc)))
   (zi (zz (eO (zJ (fX (zR hr)) (bc T.ka T.o1 (zd 0)) (zd 1) (λ_ _=>rfl)) T.ka ZP hr))))),?_}
 obtain ⟨dx,Z⟩:=J.ob;obtain ⟨kk,e2,d⟩:=J.kept;erw [Z,d5,gW];refine {p,b,k,t,ks,n,rfl,J,by rw [U];rfl,?_};erw [Z,d5,gW];refine {_,e2,?_};rcases d.look n with ⟨v,u',d1,G,x,b',k',ev,hB,_⟩|⟨_,G⟩
 .rw [U] at G;cases G;subst ev;obtain ⟨S,O⟩:=hB.ob;refine {.ref x,by rw [bS];exact d1,x,rfl,S,_,O,rh,x,u,rfl,hB.has,q}
 .rw [U] at G;cases G
theorem ug(a b:Str):leS a b\/leS b a:=by
 unfold leS;rw [ltCps_eq,ltCps_eq];by_cases h:Gp.blt b.cps.toList a.cps.toList=true
 .exact .inr (KeyOrd.klt_asymm (O:=Gp.toKeyOrd) h)
 .exact .inl (by simpa using h)
theorem uy{b:Str}(h1:leS a b)(h2:leS b c):leS a c:=by
 unfold leS at *
 rw [ltCps_eq] at *
 exact KeyOrd.kle_trans (O:=Gp.toKeyOrd) h1 h2
theorem nM(x:Str):∀l:List Str,l.Pairwise leS->∃m:List Str,m.Perm (x::l)/\m.Pairwise leS
 | [],_=>{[x],Perm.refl _,'s'}
 | y::l,h=>by
  rcases ug x y with F|F
  .refine {x::y::l,Perm.refl _,Fp.mpr {λz n=>?_,h}};rcases EI.mp n with rfl|n
   .exact F
   .exact uy F ((Fp.mp h).1 z n)
  .obtain ⟨m,p,hm⟩:=nM x l (Fp.mp h).2;refine {y::m,(Perm.cons y p).trans (Perm.swap x y l),Fp.mpr {λz n=>?_,hm}};rcases EI.mp (p.mem_iff.mp n) with rfl|n
   .exact F
   .exact (Fp.mp h).1 z n
theorem rp:∀ks:List Str,∃n:List Str,n.Perm ks/\n.Pairwise leS
 | []=>{[],Perm.refl _,.nil}
 | x::ks=>by
  obtain ⟨n,p,h⟩:=rp ks;obtain ⟨m,p2,h2⟩:=nM x n h;exact {m,p2.trans (Perm.cons x p),h2}
theorem z6(ks:List Str):(zu ks).Perm ks/\(zu ks).Pairwise leS:=by
 obtain ⟨n,p,h⟩:=rp ks;have e:=qE p (sortedS_of_pairwise n h);rw [<- e];exact ⟨p,h⟩
theorem Bf{α:Type}{t u:List (Str×α)}(h:eh t u)(F:(names t).Nodup)(n:(names u).Nodup):t.length=u.length:=by
 have:=(h.names F n).length_eq;simpa [names] using this
theorem aK.files{t:Tab}(h:aK A H q b k t):bj A H q b k t []:={h.ob,h.mC,{[],h.kept,.nil},by simp [names]}
end
abbrev lL:Stmt:=top 39
abbrev lr:Stmt:=top 40
abbrev ky:Stmt:=top 41
abbrev kP:Stmt:=top 42
abbrev lQ:Stmt:=top 45
section
variable {P:Eo}{w:EG}{K:Frag}{mg:Str->Option Value}{base:Heap}{A:zk}
def atD(ns:List Int)(k:Int):Int:=if k<ns.length then ns.getD k.toNat 0 else 0
def pz(K:Frag):Sp:=λvs H Q _=>∃(a:Addr)(ns:List Int)(k:Int),vs=[.ref a,.int k]/\SqL K H a (ns.map V.int)/\0<=k/\Q (.int (atD ns k)) H
theorem AJ:zB Yq Yq (zp lL):=fsc
theorem Di(F:Fun K "_law_at" "_law_at" lL f fd)(T:Txt K mg A):zr P w K mg base CX0 true 1 f fd Yq (pz K):=by
 refine F.o AJ λS O outer s H vs Q E hr h=>?_;obtain ⟨a,ns,k,rfl,n,U,q⟩:=h;refine {_,pF (oG (tJ (rH gJ (pv 1) (pC mO rfl T.o2 EK (fq (pv 0) fh)) (zF _))
  (qP pf (pv 0) (pv 1) (λ_ _=>rfl)) qC)),?_}
 ac_rfl;refine {_,.inl n,?_};rw [En];refine ah (λh=>?_) (λh=>?_)
 .have h':k<(ns.length:Int):=of_decide_eq_true h;have G:k.toNat<ns.length:=by omega
  have e:atD ns k=ns[k.toNat]:=by unfold atD;rw [if_pos h',EX,Ek G];rfl
  refine {a,ns.map V.int,k,.int (ns[k.toNat]),rfl,rfl,n,?_,by rw [<- e];exact q};have z:atI (ns.map V.int) ((k.toNat:Nat):Int)=some (.int (ns[k.toNat])):=bx (by rw [E5,Ek G];rfl);have J:((k.toNat:Nat):Int)=k:=by omega
  rw [J] at z;exact z
 .have h' : ¬ k<(ns.length:Int):=λz=>h (decide_eq_true z);have e:atD ns k=0:=by unfold atD;rw [if_neg h']
  rw [<- e];exact q
theorem qI{a b:V}:atI [a,b] 0=some a:=rfl
theorem kA{a b:V}:atI [a,b] 1=some b:=rfl
theorem Av:ixN 2 0=some 0:=rfl
theorem AM:ixN 2 1=some 1:=rfl
structure Pot(H:Hp)(a:Addr):Prop where
 ex:∃x y:Int,H a=some (.lst [.int x,.int y])/\0<=x/\0<=y/\y<2147483629
theorem Pot.same(h:Pot H a)(s:zg H H'):Pot H' a:=let ⟨x,y,e,r⟩:=h.ex;{{x,y,s _ _ e,r}}
theorem Pot.ne(h:Pot H a)(n:H l=none):l≠a:=λz=>by
 obtain ⟨x,y,e,_⟩:=h.ex;rw [z,e] at n;cases n
def oH(K:Frag):Sp:=λvs H Q _=>∃(a:Addr)(ns:List Int)(k:Int),vs=[.ref a,.int k]/\SqL K H a (ns.map V.int)/\0<=k/\∀l H',zg H H'->H l=none->Pot H' l->Q (.ref l) H'
theorem tL:zB ["_law_script","_law_k","_law_cell"] Yq (zp lr):=fsc
theorem Bv(F:Fun K "_law_pot" "_law_pot" lr f fd)(T:Txt K mg A)(O:GF P w K mg base true 1 "_law_at" Yq (pz K)):zr P w K mg base CX0 true 2 f fd Yq (oH K):=by
 refine F.o tL λU S outer s H vs Q E hr h=>?_;obtain ⟨a,ns,k,rfl,G,J,q⟩:=h;refine {_,(W.h (ze (zw (i:=2) tL.nd rfl (EA rfl) (zy O hr rfl (za (zd 0) (za (zd 1) zc))))
   (zi (zz (af (za (zA (jr rfl) rfl T.K4 boot_max (za zj (za (zx fM (zd 2) (zx tP zj zj)) zc))) (za (zx gn (zx bL (zx gn (zd 2) zj) (zx fV zj (zx bL (zd 1) zj))) zj) zc))))))),?_}
 ac_rfl;refine {a,ns,k,rfl,G,J,?_};ac_rfl;refine {{'d','d','d'},'d',.inl {'d','d'},'d','d',λl H1 n _=>q l H1 n.same n.no {{_,_,n.at_,?_,?_,?_}}}
 .split<;>omega
 .omega
 .omega
def cE:Sp:=λvs H Q _=>∃(a:Addr)(m:Int),vs=[.ref a,.int m]/\Pot H a/\0<m/\m<2 ^ 64/\∀(r:Int) H',But a H H'->Pot H' a->0<=r->r<m->Q (.int r) H'
theorem rP:zB ["_law_pot_here","_law_many","_law_digit"] Za (zp ky):=fsc
theorem Dq(F:Fun K XO XO ky f fd)(T:Txt K mg A):zr P w K mg base CX0 true 1 f fd Za cE:=by
 refine F.o rP λZX Ar outer s H vs Q E hr h=>?_;obtain ⟨a,m,rfl,⟨x,y,e,S,y0,y1⟩,G,Z,q⟩:=h;refine {_,(W.h (ze (zL (zH gY (zJ cU (zd 0) zj (λ_ _=>rfl)) zj (zF _))
   (ze (bu (zA Dr rfl T.Lr boot_divmod (za (zJ cU (zd 0) zj (λ_ _=>rfl)) (za (zd 1) zc))) (iF (n:=2) (cZ (bR (zd 0) zj fo) (cZ (zW (i:=2) rP.nd rfl (EA rfl)) iV))))
   (zi (zz (zd 2))))
   zN)
   (ze (bu (zx gn (zx bL (zx fV (zJ cU (zd 0) zj (λ_ _=>rfl)) zj) zj) zj) (bR (zd 0) zj fo))
   (zi (zz (zx gn (zx Dg (zx gn (zx fV (zJ cU (zd 0) zj (λ_ _=>rfl)) (zJ cU (zd 0) zj (λ_ _=>rfl))) zj) zj) (zd 1))))))),?_}
 erw [e,qI,kA];refine ah (λh=>?_) (λh=>?_)
 .refine {G,Z,λp H2 J=>{p,_,rfl,SqT.of J.at_,rfl,?_}};have U:=J.same _ _ e;erw [U,Av,qI];refine q _ _ (λc o O ec=>by rw [zm O];exact J.same _ _ ec) {{_,_,zG,Int.ediv_nonneg S (by omega),y0,y1}} (Int.emod_nonneg _ (by omega)) (Int.emod_lt_of_pos _ G)
 .erw [AM,zG,kA];refine {.inr {'d','d'},'d',.inl {by omega,by omega},'d',{'d','d'},G,q _ _ (λc o O ec=>by rw [zm O];exact ec) {{_,_,zG,S,by omega,by omega}} (Int.emod_nonneg _ (by omega)) (Int.emod_lt_of_pos _ G)}
def dI:Sp:=λvs H Q _=>∃(a:Addr),Pot H a/\((∃(l:Addr)(xs:List V),vs=[.ref a,.ref l]/\l≠a/\(H l=some (.lst xs)\/H l=some (.tup xs))/\0<xs.length/\xs.length<=1000/\∀v H',v∈xs->But a H H'->Pot H' a->Q v H') \/
 ∃z:Str,vs=[.ref a,.str z]/\0<z.length/\z.length<=1000/\∀c H',c∈sg z->But a H H'->Pot H' a->Q (.str (c1 c)) H')
theorem sS{α:Type}{xs:List α}{i:Int}(F:0<=i)(h1:i<xs.length):∃v,atI xs i=some v/\v∈xs:=by
 have n:i.toNat<xs.length:=by omega
 have z:atI xs ((i.toNat:Nat):Int)=some xs[i.toNat]:=bx (Ek n);rw [show ((i.toNat:Nat):Int)=i by omega] at z;exact {_,z,FT n}
theorem CP:zB YB YB (zp kP):=fsc
theorem C7(F:Fun K XN XN kP f fd)(T:Txt K mg A)(O:GF P w K mg base true 1 XO Za cE):zr P w K mg base CX0 true 2 f fd YB dI:=by
 refine F.ok CP (λvs H Q E h=>?_) (λZX Z outer s H vs Q E hr h=>?_)
 .obtain ⟨a,_,⟨l,xs,rfl,_⟩|⟨z,rfl,_⟩⟩:=h<;>rfl
 .refine {_,(W.h (zi (zz (zJ cU (zd 1) (zy O hr rfl (za (zd 0) (za (zA fB rfl T.o2 EK (za (zd 1) zc)) zc))) (λ_ _=>rfl))))),?_};obtain ⟨a,J,⟨l,xs,rfl,ne,G,x0,x1,q⟩|⟨z,rfl,z0,U,q⟩⟩:=h
  .ac_rfl;refine {xs,G,a,_,rfl,J,by omega,FU (show (xs.length:Int)<=1000 by omega) 'd',λr H' bt n r0 r1=>?_};obtain ⟨v,S,hv⟩:=sS (xs:=xs) r0 r1;rw [jn];exact {xs,G.imp (bt _ _ ne) (bt _ _ ne),v,S,q v H' hv bt n}
  .ac_rfl;refine {aA (by omega),a,_,rfl,J,by omega,FU (show (z.length:Int)<=1000 by omega) 'd',λr H' bt n r0 r1=>?_};obtain ⟨c,ec,hc⟩:=sS (xs:=sg z) r0 (by rw [zE];exact r1);rw [j4];exact {aA (by omega),c,ec,q c H' hc bt n}
def nJ:Sp:=λvs H Q _=>∃(a:Addr),vs=[.ref a]/\Pot H a/\∀(r:Int) H',But a H H'->Pot H' a->0<=r->r<10 ^ 18->Q (.int r) H'
theorem uj:zB YJ YJ (zp lQ):=fsc
theorem BH(F:Fun K Xv Xv lQ f fd)(T:Txt K mg A)(S:GF P w K mg base true 1 XO Za cE)(Z:GF P w K mg base true 2 XN YB dI):zr P w K mg base CX0 true 3 f fd YJ nJ:=by
 refine F.o uj λZX Ar outer s H vs Q E hr h=>?_;obtain ⟨a,rfl,O,q⟩:=h;refine {_,(W.h (zi (zz (zy S hr rfl (za (zd 0) (za (zy Z hr rfl (za (zd 0) (za (af (za zj (za zj (za zj (za (zx tP zj zj) zc))))) zc))) zc)))))),?_};ac_rfl;refine {{'d','d','d'},'d',λp H2 G _=>{a,O.same G.same,.inl {p,_,rfl,O.ne G.no,.inl G.at_,'d','d',λv H3 hv bt Y5=>?_}}};have n:∀m:Int,0<m->m<=10 ^ 18->cE [.ref a,.int m] H3 Q E0:=λm h1 h2=>{a,m,rfl,Y5,h1,FU h2 'd',λr H4 U J r0 r1=>q r H4 ((But.of G.same).trans (bt.trans U)) J r0 (by omega)};simp only [EI,FW,or_false] at hv;rcases hv with rfl|rfl|rfl|rfl
 .exact n 12 'd' 'd'
 .exact n 12 'd' 'd'
 .exact n 1000 'd' 'd'
 .exact n _ 'd' 'd'
abbrev iq:Stmt:=top 43
abbrev j9:Stmt:=top 44
theorem wU:∀ys:List Str,sg (FG "" ys)=(ys.map sg).flatten:=by
 intro ys;have e:FG "" ys=Str.join "" ys:=StrLaws.glued_eq_join "" ys;rw [e]
 induction ys with
 | nil=>rfl
 | cons y ys n =>
  cases ys with
  | nil=>show sg y=_;simp
  | cons x ys =>
   have n:=n (StrLaws.glued_eq_join "" _);show sg (y++""++Str.join "" (x::ys))=_;rw [cT,cT,n];have:sg ("":Str)=[]:=by decide
   rw [this];simp
theorem CY(cs:List Nat):FG "" (cs.map c1)=tx cs:=by
 refine fk ?_;rw [wU,cW,GT]
 induction cs with
 | nil=>rfl
 | cons c cs n=>rw [Fq,Ho,n];rfl
theorem qw(h:∀c∈sg z,c∈sg y)(h1:1<=z.length)(h2:(z.length:Int)<=m):ae z y m=true:=by
 unfold ae;rw [decide_eq_true (show (1:Int)<=z.length by omega),decide_eq_true h2];rw [Bool.true_and,Bool.true_and,EZ];exact λc hc=>FB.mpr (h c hc)
structure B6(H:Hp)(a:Addr)(i:Nat)(τ:L2.St)(ys:List V)(H':Hp):Prop where
 ex:∃t,τ=[t,some (V.ref a),some (.str LET)]
 ys:∃cs:List Nat,ys=(cs.map c1).map V.str/\cs.length=i/\∀c∈cs,c∈sg LET
 but:But a H H'
 Lq:Pot H' a
 le:i<=10
def lg:Sp:=λvs H Q _=>∃(a:Addr),vs=[.ref a]/\Pot H a/\∀(z:Str) H',But a H H'->Pot H' a->zv z=true->Q (.str z) H'
theorem qA:zB ["_law_pot_here","_law_letters"] YJ (zp iq):=fsc
theorem ye:bP { kind:=.function,names:=[(Es ".0",.local),(Es "_law_k",.local),(Es "_law_drawn",.globalImplicit),(Es "_law_pot_here",.free),(Es "_law_letters",.free)],isGenerator:=false,isCoroutine:=false,more:=[] } (zp iq).names ["_law_pot_here","_law_letters"] XQ [none,some 0,some 1]=true:=by decide +kernel
theorem u0:(XQ:List Str).Nodup:=by decide +kernel
theorem A0(F:Fun K Xp Xp iq f fd)(T:Txt K mg A)(Z9:GF P w K mg base true 1 XO Za cE)(Z8:GF P w K mg base true 2 XN YB dI):zr P w K mg base CX0 true 3 f fd YJ lg:=by
 refine F.o qA λZX Ar outer s H vs Q E hr h=>?_;obtain ⟨a,rfl,hP,q⟩:=h;refine {_,(W.h (ze (zL (zH gJ (zy Z9 hr rfl (za (zd 0) (za zj zc))) zj (zF _))
   (zi (zz (zy Z8 hr rfl (za (zd 0) (za (af (za zq (za zq (za zq (za zq zc))))) zc)))))
   zN)
   (ze (zw (i:=1) qA.nd rfl (G6 rfl) zq)
   (zi (zz (fg zq (cq (λ_=>rfl) (bo.of ye) (cz rfl T.rk (za (zx bL zj (zy Z9 hr rfl (za (zd 0) (za zj zc)))) zc)) (λ_ _ _ _ _=>(zW (i:=0) u0 rfl (EA rfl))) (λ_ _ _ _ _=>c7) (λ_ _ _ _ _=>(zy Z8 hr rfl (za (zd 1) (za (zd 2) zc))))))))))),?_}
 ac_rfl;refine {a,_,rfl,hP,'d','d',λr H1 b1 n r0 r1=>?_};ac_rfl;refine ah (λh=>?_) (λh=>?_)
 .refine {'d',λp H2 J _=>{a,n.same J.same,.inl {p,_,rfl,n.ne J.no,.inl J.at_,'d','d',λv H3 hv bt G=>?_}}};have O:=(b1.trans (But.of J.same)).trans bt;simp only [EI,FW,or_false] at hv;rcases hv with rfl|rfl|rfl|rfl
  .exact q _ _ O G (f!"")
  .exact q _ _ O G (f!"")
  .exact q _ _ O G (f!"")
  .exact q _ _ O G (f!"")
 .refine {a,_,rfl,n,'d','d',λm H2 b2 ag m0 m1=>?_};ac_rfl;refine {by omega,by omega,aQ.rng (B6 H2 a) (λi τ ys H' I=>?_) {{_,rfl},{[],rfl,rfl,'s'},λ_ _ _ e=>e,ag,by omega} ?_ ?_}
  .obtain ⟨cs,e,S,_⟩:=I.ys;rw [e,En,En,S];exact aO (by have:=I.le;omega)
  .intro N i τ ys H' hi I hN;obtain ⟨t,rfl⟩:=I.ex;obtain ⟨cs,e,S,hc⟩:=I.ys;ac_rfl;refine {a,I.Lq,.inr {LET,rfl,'d','d',λc H3 Z b3 G=>hN _ _ _ {{_,rfl},{cs++[c],by rw [e];simp,by simp [S],λx hx=>?_},I.but.trans b3,G,by omega}}};rcases Ff.mp hx with h|h
   .exact hc x h
   .rw [Fj] at h;rw [h];exact Z
  .intro τ ys H' I D H3 U;obtain ⟨cs,e,S,hc⟩:=I.ys;rw [r8];refine {cs.map c1,by rw [U.at_,e],?_,?_}
   .rw [GT,show ("":Str).length=0 by decide,Nat.mul_zero,Nat.add_zero];have:∀l:List Nat,(l.map ((λx:Str=>x.length)∘c1)).sum=l.length:=λl=>by
     induction l with
     | nil=>rfl
     | cons a l ih=>rw [Fq,IL,ih];show 1+_=_;simp;omega
    rw [this];omega
   .rw [CY];refine q (tx cs) H3 (((b1.trans b2).trans I.but).trans (But.of U.same)) (I.Lq.same U.same) (qw (by rw [cW];exact hc) (by rw [gq];omega) (by rw [gq];omega))
structure ym(H:Hp)(a l:Addr)(i:Nat)(σ:L2.St)(H':Hp):Prop where
 ex:∃t1 t2,σ=[some (V.ref a),some (.ref l),t1,t2]
 ns:∃zs:List Str,H' l=some (.lst (zs.map V.str))/\zs.Nodup/\zs.length<=i/\∀z∈zs,zv z=true
 but:But a H H'
 Lq:Pot H' a
 ne:H l=none
theorem xI{zs:List Str}:inV (.str z) (zs.map V.str)=decide (z∈zs):=by
 unfold inV;rw [List.any_map,FO];simp only [List.any_eq_true,decide_eq_true_eq,Function.comp];constructor
 .rintro ⟨y,n,h⟩;have:y=z:=by simpa [eqV] using h
  rw [<- this];exact n
 .intro h;exact {z,h,by simp [eqV]}
theorem vG{zs:List Str}:(zs.map V.str).all zO=true:=by simp [zO]
def pW:Sp:=λvs H Q _=>∃(a:Addr),vs=[.ref a]/\Pot H a/\∀(l:Addr)(zs:List Str) H',But a H H'->Pot H' a->H l=none->H' l=some (.lst (zs.map V.str))->zs.Nodup->zs.length<=4->(∀z∈zs,zv z=true)->Q (.ref l) H'
theorem hV:zB ["_law_pot_here","_law_found","_law_k","_law_name_here"] YJ (zp j9):=fsc
theorem wY(F:Fun K "_law_names" "_law_names" j9 f fd)(T:Txt K mg A)(Z9:GF P w K mg base true 1 XO Za cE)(ZM:GF P w K mg base true 3 Xp YJ lg):zr P w K mg base CX0 true 4 f fd YJ pW:=by
 refine F.o hV λZX Ar outer s H vs Q E hr h=>?_;obtain ⟨a,rfl,hP,q⟩:=h;have hu:_<cLine:=Fc (zR hr);refine {_,(W.h (ze (zw (i:=1) hV.nd rfl (EA rfl) (af zc))
   (ze (bW Gj.never (λ_=>rfl) (cz rfl T.rk (za (zx bL zj (zy Z9 hr rfl (za (zd 0) (za zj zc)))) zc)) (zW (i:=2) hV.nd rfl (EA rfl))
   (ze (zw (i:=3) hV.nd rfl (EA rfl) (zy ZM hr rfl (za (zd 0) zc)))
   (zi (zL (zH (nV hu) (zd 3) (zd 1) rfl)
   (zi (dR (vb (zd 1) (zd 3))))
   zN))))
   (zi (zz (zd 1)))))),?_}
 ac_rfl;refine {'d',λl H1 n _=>{a,_,rfl,hP.same n.same,'d','d',λr H2 b2 ag r0 r1=>?_}};ac_rfl;have Z:l≠a:=hP.ne n.no;refine {by omega,by omega,aZ.rng (ym H a l) {{_,_,rfl},{[],b2 _ _ Z n.at_,'s','s','s'},(But.of n.same).trans b2,ag,n.no} ?_ ?_}
 .rintro i σ H' hi ⟨⟨t1,t2,rfl⟩,⟨zs,J,nd,zl,G⟩,bt,S,_⟩;ac_rfl;refine {a,rfl,S,λz H3 b3 Y5 hz=>?_};have e3:=b3 _ _ Z J;have U:(zs.map V.str).length<sizeLine:=by rw [En];exact aO (by omega)
  erw [e3];refine {rfl,vG,?_};rw [xI];by_cases hm:z∈zs
  .rw [decide_eq_true hm];ac_rfl;exact {{_,_,rfl},{zs,e3,nd,by omega,G},bt.trans b3,Y5,n.no}
  .rw [decide_eq_false hm];erw [e3];refine {U,{_,_,rfl},{zs++[z],by rw [zG];simp,?_,by simp;omega,λy O=>?_},λc o nc ec=>?_,?_,n.no}
   .rw [HI];refine {nd,'s',λx hx y O e=>?_};have ey:y=z:=by simpa using O
    rw [e,ey] at hx;exact hm hx
   .rcases Ff.mp O with h|h
    .exact G y h
    .rw [Fj] at h;rw [h];exact hz
   .rw [zm (λz=>by subst z;rw [n.no] at ec;cases ec)];exact (bt.trans b3) c o nc ec
   .obtain ⟨x,y,ep,r⟩:=Y5.ex;exact {{x,y,by rw [zm (Fi Z)];exact ep,r}}
 .rintro σ H' ⟨⟨t1,t2,rfl⟩,⟨zs,J,nd,zl,G⟩,bt,S,_⟩;ac_rfl;exact q l zs H' bt S n.no J nd (by omega) G
abbrev gU:Stmt:=top 46
abbrev jF:Stmt:=top 47
def MdR(H:Hp)(v:V)(l:List Int):Prop:=∃p,v = .ref p/\H p=some (.lst (l.map V.int))
structure bY(H:Hp)(d:Addr)(t:Tab):Prop where
 ex:∃kvs,H d=some (.dK (sk kvs))/\Dct (MdR H) kvs t
structure aj(t:Tab):Prop where
 nd:(names t).Nodup
 len:t.length<=3
 nm:∀n∈names t,zv n=true
 ls:∀p∈t,1<=p.2.length/\p.2.length<=60/\∀x∈p.2,0<=x/\x<10 ^ 18
theorem MdR.same(h:MdR H v l)(s:zg H H'):MdR H' v l:=let ⟨p,e,hp⟩:=h;{p,e,s _ _ hp}
theorem bY.same{t:Tab}(h:bY H d t)(s:zg H H'):bY H' d t:=let ⟨kvs,e,r⟩:=h.ex;{{kvs,s _ _ e,r.imp λv a z=>z.same s}}
theorem cJ{α:Type}{t:List (Str×α)}{a:α}:(zt t n a).length<=t.length+1:=by
 unfold zt;split<;>simp
theorem aj.put{t:Tab}(h:aj t)(G:t.length<=2)(F:zv n=true)(h1:1<=l.length)(h2:l.length<=60)(h3:∀x∈l,0<=x/\x<10 ^ 18):aj (zt t n l):=by
 refine {fz h.nd,by have:=cJ (t:=t) (n:=n) (a:=l);omega,λm hm=>?_,λp hp=>?_}
 .rw [jc] at hm;split at hm
  .exact h.nm m hm
  .rcases Ff.mp hm with hm|hm
   .exact h.nm m hm
   .rw [Fj] at hm;rw [hm];exact F
 .rcases f9 hp with hp|hp
  .exact h.ls p hp
  .rw [hp];exact ⟨h1,h2,h3⟩
theorem qM(G:0<=i):z8 xs none (some i)=xs.take i.toNat:=by
 by_cases h:i<=xs.length
 .exact rJ G h
 .have n:HT.sIx xs.length 0 none=0:=rfl;have F:HT.sIx xs.length xs.length (some i)=xs.length:=by
   unfold HT.sIx;simp only;split<;>omega
  unfold z8;rw [n,F,IQ,Nat.sub_zero,EU (EF _),EU (by omega)]
def MdP(H:Hp)(a:Addr)(v:V)(l:List Int):Prop:=∃p,v = .ref p/\H p=some (.lst (l.map V.int))/\p≠a
theorem MdP.but(h:MdP H a v l)(s:But a H H'):MdP H' a v l:=let ⟨p,e,hp,n⟩:=h;{p,e,s _ _ n hp,n}
structure A5(H:Hp)(a d l:Addr)(zs:List Str)(i:Nat)(σ:L2.St)(H':Hp):Prop where
 ex:∃t1 t2 t3,σ=[some (V.ref a),some (.ref d),t1,t2,t3]
 but:But a H H'
 Lq:Pot H' a
 md:∃t kvs,H' d=some (.dK (sk kvs))/\Dct (MdP H' a) kvs t/\aj t/\t.length<=i
 sq:H' l=some (.lst (zs.map V.str))
 no:H d=none
structure yX(H:Hp)(a:Addr)(wd:Int)(i:Nat)(τ:L2.St)(ys:List V)(H':Hp):Prop where
 ex:∃t,τ=[t,some (.int wd),some (V.ref a)]
 ys:∃l:List Int,ys=l.map V.int/\l.length=i/\∀x∈l,0<=x/\x<10 ^ 18
 but:But a H H'
 Lq:Pot H' a
 le:i<=60
def qh:Sp:=λvs H Q _=>∃(a:Addr),vs=[.ref a]/\Pot H a/\∀(d:Addr)(t:Tab) H',But a H H'->Pot H' a->H d=none->(∃kvs,H' d=some (.dK (sk kvs))/\Dct (MdP H' a) kvs t)->aj t->Q (.ref d) H'
theorem gb:zB X8 YJ (zp gU):=fsc
theorem Cd:bP { kind:=.function,names:=[(Es ".0",.local),(Es "_law_k",.local),(Es "_law_wide",.free),(Es "_law_take",.globalImplicit),(Es "_law_pot_here",.free),(Es "_law_birth",.globalImplicit)],isGenerator:=false,isCoroutine:=false,more:=[] } (zp gU).names X8 ["_law_k","_law_wide","_law_pot_here"] [none,some 3,some 0]=true:=by decide +kernel
theorem vH:(["_law_k","_law_wide","_law_pot_here"]:List Str).Nodup:=by decide +kernel
theorem Dz(F:Fun K "_law_model" "_law_model" gU f fd)(T:Txt K mg A)(Z9:GF P w K mg base true 1 XO Za cE)(Z8:GF P w K mg base true 2 XN YB dI)(Zm:GF P w K mg base true 3 Xv YJ nJ)(Zl:GF P w K mg base true 4 "_law_names" YJ pW):zr P w K mg base CX0 true 5 f fd YJ qh:=by
 refine F.o gb λZX Ar outer s H vs Q E hr h=>?_;obtain ⟨a,rfl,hP,q⟩:=h;refine {_,(W.h (ze (zw (i:=1) gb.nd rfl (EA rfl) dG)
   (ze (bW Gj.never (λ_=>rfl) (cY (cB cQ (zy Zl hr rfl (za (zd 0) zc)) cO (bZ (zy Z9 hr rfl (za (zd 0) (za zj zc)))))) (zW (i:=2) gb.nd rfl (EA rfl))
   (ze (zw (i:=3) gb.nd rfl (G6 rfl) (zy Z8 hr rfl (za (zd 0) (za (af (za zj (za zj (za zj (za zj zc))))) zc))))
   (ze (zw (i:=4) gb.nd rfl (EA rfl) (zx bL zj (zy Z9 hr rfl (za (zd 0) (za (zd 3) zc)))))
   (zi (bu (cq (λ_=>rfl) (bo.of Cd) (cz rfl T.rk (za (zd 4) zc)) (λ_ _ _ _ _=>(zW (i:=0) vH rfl (EA rfl))) (λ_ _ _ _ _=>c7) (λ_ _ _ _ _=>(gL (zH gY (zd 1) zj (zF _)) (zy Z9 hr rfl (za (zd 2) (za zj zc))) (zy Zm hr rfl (za (zd 2) zc))))) (bR (zd 1) (zd 2) (dS (zR hr))))))))
   (zi (zz (zd 1)))))),?_}
 ac_rfl;refine λd H1 O=>{a,rfl,hP.same O.same,λl zs H2 b2 a3 l0 el nd zl zn=>{a,_,rfl,a3,'d','d',λr H3 b3 Y5 r0 r1=>?_}};have la:l≠a:=(hP.same O.same).ne l0;have U:d≠a:=hP.ne O.no;have a4:=b3 _ _ la el;erw [a4];intro l2 H4 S;rw [qM r0,<- map_take] at S;have av:l2≠a:=Y5.ne S.no;have ax:H4 d=some (.dK (sk [])):=S.same _ _ (b3 _ _ U (b2 _ _ U O.at_));have ak:l2≠d:=λz=>by have:=S.no;rw [z] at this;rw [b3 _ _ U (b2 _ _ U O.at_)] at this;cases this
 have aI:But a H H4:=(((But.of O.same).trans b2).trans b3).trans (But.of S.same);refine {{_,SqL.of S.at_},aZ.lst (xs:=(zs.take r.toNat).map V.str) (A5 H a d l2 (zs.take r.toNat)) {{_,_,_,rfl},aI,Y5.same S.same,{[],[],ax,.nil,{by simp [names],'s',by simp [names],'s'},'s'},S.at_,O.no} (λi σ H' _ I=>SqL.of I.sq) ?_ ?_}
 .rintro i x σ H' hx ⟨⟨t1,t2,t3,rfl⟩,bt,YY,⟨t,kvs,ed,dc,gm,tl⟩,sq,dn⟩;rw [E5] at hx;obtain ⟨n,hn,rfl⟩:=FH.mp hx;have hi:i<(zs.take r.toNat).length:=(ED.mp hn).1;rw [Fn] at hi;have a0:zv n=true:=zn n (HD (ER hn));ac_rfl;refine {'d',λp5 H5 n5 _=>{a,YY.same n5.same,.inl {p5,_,rfl,YY.ne n5.no,.inl n5.at_,'d','d',λv H6 hv b6 Ye=>?_}}};obtain ⟨wd,rfl,w0,w1⟩:∃wd:Int,v = .int wd/\0<wd/\wd<=60:=by
   simp only [EI,FW,or_false] at hv;rcases hv with rfl|rfl|rfl|rfl
   .exact {3,rfl,'d','d'}
   .exact {3,rfl,'d','d'}
   .exact {12,rfl,'d','d'}
   .exact {60,rfl,'d','d'}
  refine {a,wd,rfl,Ye,w0,FU w1 'd',λm H7 b7 a5 m0 m1=>?_};ac_rfl;refine {by omega,by omega,aQ.rng (yX H7 a wd) (λi τ ys H' I=>?_) {{_,rfl},{[],rfl,rfl,'s'},λ_ _ _ e=>e,a5,by omega} ?_ ?_}
  .obtain ⟨l,e,Z,_⟩:=I.ys;rw [e,En,Z];exact aO (by have:=I.le;omega)
  .intro N j τ ys H8 hj I hN;obtain ⟨t,rfl⟩:=I.ex;obtain ⟨l,e,Z,hl⟩:=I.ys;have nx:∀(x:Int)(H9:Hp),But a H8 H9->Pot H9 a->0<=x->x<10 ^ 18->N [some (.int (0+j)),some (.int wd),some (V.ref a)] (ys++[.int x]) H9:=λx H9 J G x0 x1=>hN _ _ _ {{_,rfl},{l++[x],by rw [e];simp,by simp [Z],λy hy=>by
    rcases Ff.mp hy with h|h
    .exact hl y h
    .rw [Fj] at h;rw [h];exact ⟨x0,x1⟩},I.but.trans J,G,by omega}
   ac_rfl;refine ah (λh=>{a,_,rfl,I.Lq,'d','d',λx H9 J G x0 x1=>nx x H9 J G x0 (by omega)}) (λh=>{a,rfl,I.Lq,λx H9 J G x0 x1=>nx x H9 J G x0 x1})
  .intro τ ys H8 I D H9 n9;obtain ⟨l,e,Z,hl⟩:=I.ys;have J:But a H' H9:=((((But.of n5.same).trans b6).trans b7).trans I.but).trans (But.of n9.same);have ag:=J _ _ U ed;erw [ag];refine {_,rfl,by rw [cN,dc.length];exact aO (by have:=gm.len;omega),?_};rw [dA];have Da:D≠a:=I.Lq.ne n9.no;have up:∀v x,MdP H9 a v x->MdP (upd H9 d (.dK (sk (zt kvs n (V.ref D))))) a v x:=λv x ⟨p,e,hp,Yt⟩=>{p,e,by rw [zm (λz=>by subst z;rw [ag] at hp;cases hp)];exact hp,Yt};have a6:l.length=(1+m).toNat:=Z;refine {{_,_,_,rfl},λc o nc ec=>?_,?_,{zt t n l,_,zG,(((dc.imp λv x r=>r.but J).put n (show MdP H9 a (.ref D) l from {D,rfl,by rw [n9.at_,e],Da})).imp up),gm.put (by omega) a0 (by omega) (by omega) hl,by have:=cJ (t:=t) (n:=n) (a:=l);omega},by rw [zm ak];exact J _ _ av sq,dn}
   .rw [zm (λz=>by subst z;rw [dn] at ec;cases ec)];exact (bt.trans J) c o nc ec
   .obtain ⟨x,y,ep,rr⟩:=(I.Lq.same n9.same).ex;exact {{x,y,by rw [zm (Fi U)];exact ep,rr}}
 .rintro σ H' ⟨⟨t1,t2,t3,rfl⟩,bt,YY,⟨t,kvs,ed,dc,gm,tl⟩,sq,dn⟩;ac_rfl;exact q d t H' bt YY O.no ⟨kvs,ed,dc⟩ gm
def MdK(H:Hp)(a k:Addr)(v:V)(t:Tab):Prop:=∃d kvs,v = .ref d/\d≠a/\d≠k/\H d=some (.dK (sk kvs))/\Dct (MdP H a) kvs t
theorem MdK.but{a k:Addr}{t:Tab}(h:MdK H a k v t)(s:But a H H'):MdK H' a k v t:=let ⟨d,kvs,e,n,nk,ed,dc⟩:=h;{d,kvs,e,n,nk,s _ _ n ed,dc.imp λv x r=>r.but s}
theorem MdP.upd{H:Hp}{a k:Addr}{o:HO}{v:V}{l:List Int}{ks:List (Key×V)}(h:MdP H a v l)(n:H k=some (.dK ks)):MdP (upd H k o) a v l:=let ⟨p,e,hp,Yt⟩:=h;{p,e,by rw [zm (λz=>by subst z;rw [n] at hp;cases hp)];exact hp,Yt}
theorem MdK.upd{H:Hp}{a k:Addr}{o:HO}{v:V}{t:Tab}{ks:List (Key×V)}(h:MdK H a k v t)(F:H k=some (.dK ks)):MdK (upd H k o) a k v t:=let ⟨d,kvs,e,n,nk,ed,dc⟩:=h;{d,kvs,e,n,nk,by rw [zm nk];exact ed,dc.imp λv x r=>r.upd F}
structure bU(ks:List (Str×Tab)):Prop where
 nd:(names ks).Nodup
 len:ks.length<=3
 nm:∀n∈names ks,zv n=true
 gm:∀p∈ks,aj p.2
structure Aq(H:Hp)(a d:Addr)(i:Nat)(σ:L2.St)(H':Hp):Prop where
 ex:∃t1,σ=[some (V.ref a),some (.ref d),t1]
 but:But a H H'
 Lq:Pot H' a
 md:∃ks kvs,H' d=some (.dK (sk kvs))/\Dct (MdK H' a d) kvs ks/\(names ks).Nodup/\ks.length<=i/\(∀n∈names ks,zv n=true)/\∀p∈ks,aj p.2
 no:H d=none
def rS:Sp:=λvs H Q _=>∃(a:Addr),vs=[.ref a]/\Pot H a/\∀(p d k:Addr)(t:Tab)(ks:List (Str×Tab)) H',But a H H'->Pot H' a->H' p=some (.tup [.ref d,.ref k])->(∃kvs,H' d=some (.dK (sk kvs))/\Dct (MdP H' a) kvs t)->aj t->(∃kvs,H' k=some (.dK (sk kvs))/\Dct (MdK H' a k) kvs ks)->bU ks->Q (.ref p) H'
theorem mM:zB ["_law_pot_here","_law_kept","_law_k"] YJ (zp jF):=fsc
theorem DQ(F:Fun K Xm Xm jF f fd)(T:Txt K mg A)(Z9:GF P w K mg base true 1 XO Za cE)(ZM:GF P w K mg base true 3 Xp YJ lg)(ZC:GF P w K mg base true 5 "_law_model" YJ qh):zr P w K mg base CX0 true 6 f fd YJ rS:=by
 refine F.o mM λZX Ar outer s H vs Q E hr h=>?_;obtain ⟨a,rfl,hP,q⟩:=h;refine {_,(W.h (ze (zw (i:=1) mM.nd rfl (EA rfl) dG)
   (ze (bW Gj.never (λ_=>rfl) (cz rfl T.rk (za (zy Z9 hr rfl (za (zd 0) (za zj zc))) zc)) (zW (i:=2) mM.nd rfl (EA rfl))
   (zi (bu (zy ZC hr rfl (za (zd 0) zc)) (bR (zd 1) (zy ZM hr rfl (za (zd 0) zc)) (dS (zR hr))))))
   (zi (zz (bg (za (zy ZC hr rfl (za (zd 0) zc)) (za (zd 1) zc)))))))),?_}
 ac_rfl;refine λd H1 n1=>{a,_,rfl,hP.same n1.same,'d','d',λr H2 b2 aI r0 r1=>?_};have da:d≠a:=hP.ne n1.no;ac_rfl;refine {by omega,by omega,aZ.rng (Aq H a d) {{_,rfl},(But.of n1.same).trans b2,aI,{[],[],b2 _ _ da n1.at_,.nil,by simp [names],'s',by simp [names],'s'},n1.no} ?_ ?_}
 .rintro i σ H' hi ⟨⟨t1,rfl⟩,bt,YY,⟨ks,kvs,ed,dc,nd,kl,kn,kg⟩,dn⟩;ac_rfl;refine {a,rfl,YY,λZ t2 H3 b3 Y5 J O g2=>{a,rfl,Y5,λz H4 b4 av hz=>?_}};obtain ⟨U,O,S⟩:=O;have G:=b3.trans b4;have ak:=G _ _ da ed;have ag:Z≠a:=YY.ne J;have ax:Z≠d:=λz=>by rw [z,ed] at J;cases J
  rw [tj];refine {_,ak,by rw [cN,dc.length];exact aO (by omega),?_};rw [dA];refine {{_,rfl},λc o nc ec=>?_,?_,{zt ks z t2,_,zG,((dc.imp λv x r=>r.but G).put z (show MdK H4 a d (.ref Z) t2 from {Z,U,rfl,ag,ax,b4 _ _ ag O,S.imp λv x r=>r.but b4})).imp (λv x r=>r.upd ak),fz nd,by have:=cJ (t:=ks) (n:=z) (a:=t2);omega,λm hm=>?_,λp hp=>?_},dn}
  .rw [zm (λz=>by subst z;rw [dn] at ec;cases ec)];exact (bt.trans G) c o nc ec
  .obtain ⟨x,y,ep,rr⟩:=av.ex;exact {{x,y,by rw [zm (Fi da)];exact ep,rr}}
  .rw [jc] at hm;split at hm
   .exact kn m hm
   .rcases Ff.mp hm with hm|hm
    .exact kn m hm
    .rw [Fj] at hm;rw [hm];exact hz
  .rcases f9 hp with hp|hp
   .exact kg p hp
   .rw [hp];exact g2
 .rintro σ H' ⟨⟨t1,rfl⟩,bt,YY,⟨ks,kvs,ed,dc,nd,kl,kn,kg⟩,dn⟩;ac_rfl;refine {a,rfl,YY,λZ t2 H3 b3 Y5 J O g2=>{'d',λp H4 n4=>?_}};obtain ⟨U,O,S⟩:=O;have G:=b3.trans (But.of n4.same);exact q p Z d t2 ks H4 (bt.trans G) (Y5.same n4.same) n4.at_ {U,n4.same _ _ O,S.imp λv x r=>r.but (But.of n4.same)} g2 {kvs,G _ _ da ed,dc.imp λv x r=>r.but G} {nd,by omega,kn,kg}
end
def au(t:Tab)(zs:List Str):List Str:=zs.flatMap λn=>n::(toString ((lk t n).length:Int):Str)::(lk t n).map λx=>(toString x:Str)
noncomputable def aC(t:Tab):List Str:=(toString (t.length:Int):Str)::au t (zu (names t))
theorem oz{t:Tab}{zs:List Str}(h:zs[i]?=some n):au t (zs.take (i+1))=au t (zs.take i)++[n,(toString ((lk t n).length:Int):Str)]++(lk t n).map λx=>(toString x:Str):=by
 unfold au;rw [Fw,h];simp
theorem c9(h:n<2 ^ 64):n.log2<1920:=by
 by_cases F:n=0
 .subst F;decide
 .exact Nat.lt_trans ((Nat.log2_lt F).mpr h) 'd'
section
variable {P:Eo}{w:EG}{K:Frag}{mg:Str->Option Value}{base:Heap}{A:zk}{b k:Addr}
theorem aj.lk{t:Tab}(h:aj t)(F:n∈names t):∃l,look t n=some l/\K24.lk t n=l/\1<=l.length/\l.length<=60/\∀x∈l,0<=x/\x<10 ^ 18:=by
 cases e:look t n with
 | none=>exact absurd F (bh.mp e)
 | some l=>exact {l,rfl,by unfold K24.lk;rw [e];rfl,h.ls _ (dz e)}
abbrev i6:Stmt:=top 48
abbrev lR:Stmt:=top 49
theorem ni(m:Nat)(h:0<m):∃c r,(IK 10 m).map Char.toNat=c::r/\49<=c:=by
 induction m using Nat.strongRecOn with
 | _ m n =>
  by_cases h1:m<10
  .rw [Nat.toDigits_of_lt_base h1];refine {_,[],rfl,?_};have:∀d:Nat,d<10->0<d->49<=(Nat.digitChar d).toNat:=by decide
   exact this m h1 h
  .have hm:m % 10<10:=Nat.mod_lt m 'd';have t:IK 10 (m / 10)++IK 10 (m % 10)=IK 10 (10*(m / 10)+m % 10):=Nat.toDigits_append_toDigits 'd' (by omega) hm;rw [Nat.div_add_mod] at t;obtain ⟨c,r,e,hc⟩:=n (m / 10) (by omega) (by omega);rw [<- t,FY,e];exact {c,_,rfl,hc}
structure vJ(i:Int):Prop where
 dig:∀c∈sg (toString i:Str),48<=c/\c<=57
 one:1<=(sg (toString i:Str)).length
 most:(sg (toString i:Str)).length<=18
 back:Gd (toString i:Str)=some i
 head:(toString i:Str)="0"\/∃c r,sg (toString i:Str)=c::r/\49<=c
theorem i5(F:0<=i)(h1:i<10 ^ 18):vJ i:=by
 obtain ⟨m,rfl⟩:=Int.eq_ofNat_of_zero_le F;have hd:∀c∈sg (toString ((m:Nat):Int):Str),48<=c/\c<=57:=by
  intro c hc;rw [ft] at hc;obtain ⟨ch,G,e⟩:=Gf.mp hc;have r:=HL 'd' 'd' G;rw [<- e];exact digit_range r
 have n:1<=(sg (toString ((m:Nat):Int):Str)).length:=by
  rcases Nat.eq_zero_or_pos m with h|h
  .rw [h,ft];decide
  .obtain ⟨c,r,e,_⟩:=ni m h;rw [ft,e];simp
 have J:(sg (toString ((m:Nat):Int):Str)).length<=18:=by
  have e:(Nat.repr m).length<=18:=(Nat.length_repr_le_iff 'd').mpr (by omega);rw [zE];show (Es (toString ((m:Nat):Int))).length<=18;rw [PySem.ofString_length];exact e
 refine {hd,n,J,?_,?_}
 .have e:=intText_digits (x:=(toString ((m:Nat):Int):Str)) hd (λz=>by rw [show sg (toString ((m:Nat):Int):Str)=[] from z] at n;cases n) (by rw [<- zE];omega);have O:(toString ((m:Nat):Int):Str).cps.toList=(IK 10 m).map Char.toNat:=ft m;rw [O,PySem.W.KIN.val_back] at e;exact e
 .rcases Nat.eq_zero_or_pos m with h|h
  .left;rw [h];rfl
  .obtain ⟨c,r,e,hc⟩:=ni m h;exact .inr {c,r,by rw [ft,e],hc}
theorem iW{i:Int}(h:0<=i/\i<10 ^ 18):zC (toString i:Str)=true:=by
 have F:=i5 h.1 h.2;unfold zC;rw [EJ];constructor
 .refine qw (λc hc=>?_) (by rw [<- zE];exact F.one) (by rw [<- zE];have:=F.most;omega);have n:sg FIG=[48,49,50,51,52,53,54,55,56,57]:=by decide
  rw [n];have:=F.dig c hc;simp;omega
 .rcases F.head with h|⟨c,r,e,hc⟩
  .rw [decide_eq_true h];rfl
  .rw [e];have : ¬ tx (List.take 1 (c::r))=("0":Str):=λx=>by
    have:=congrArg sg x;rw [cW] at this;have G:sg ("0":Str)=[48]:=by decide
    rw [G] at this;injection this with h1 _
    omega
   rw [decide_eq_false this];simp
structure Wd(z:Str):Prop where
 a:asc z=true
 one:1<=z.length
 most:z.length<=20
 no:32∉sg z
theorem iI{i:Int}(n:0<=i)(h1:i<10 ^ 18):Wd (toString i:Str):=by
 have F:=i5 n h1;refine {?_,by rw [<- zE];exact F.one,by rw [<- zE];have:=F.most;omega,λh=>by have:=F.dig 32 h;omega};rw [eU,EZ];exact λc hc=>decide_eq_true (by have:=F.dig c hc;omega)
theorem kW(h:zv z=true):Wd z:=by
 unfold zv ae at h;rw [EJ,EJ,decide_eq_true_eq,decide_eq_true_eq,EZ] at h;have n:∀c∈sg LET,c<128/\c≠32:=by decide +kernel
 refine {?_,by omega,by omega,λF=>(n 32 (FB.mp (h.2 32 F))).2 rfl};rw [eU,EZ];exact λc hc=>decide_eq_true (n c (FB.mp (h.2 c hc))).1
theorem su{t:Tab}(gm:aj t):∀{zs:List Str},(∀n∈zs,n∈names t)->(∀z∈au t zs,Wd z)/\(au t zs).length<=62*zs.length
 | [],_=>by simp [au]
 | n::zs,h=>by
  obtain ⟨i1,i2⟩:=su gm (zs:=zs) λm hm=>h m (Em _ hm);obtain ⟨l,S,O,W,U,G⟩:=gm.lk (h n (Er ..));have e:au t (n::zs)=(n::(toString ((lk t n).length:Int):Str)::(lk t n).map λx=>(toString x:Str))++au t zs:=by simp [au]
  rw [e,O];refine {λz F=>?_,by simp;omega};rcases Ff.mp F with F|F
  .rcases EI.mp F with rfl|F
   .exact kW (gm.nm _ (h _ (Er ..)))
   .rcases EI.mp F with rfl|F
    .exact iI (by omega) (by omega)
    .obtain ⟨x,J,rfl⟩:=Gf.mp F;exact iI (G x J).1 (G x J).2
  .exact i1 z F
theorem i8{t:Tab}(gm:aj t):(∀z∈aC t,Wd z)/\(aC t).length<=187:=by
 have J:=gm.len;obtain ⟨i1,i2⟩:=su gm (zs:=zu (names t)) λn G=>(z6 _).1.mem_iff.mp G;have O:(zu (names t)).length=t.length:=by rw [(z6 _).1.length_eq];simp [names]
 unfold aC;refine {λz F=>?_,by simp;omega};rcases EI.mp F with rfl|F
 .exact iI (by omega) (by omega)
 .exact i1 z F
def kkT(ks:List (Str×Tab))(n:Str):Tab:=(look ks n).getD []
noncomputable def zV(ks:List (Str×Tab))(zs:List Str):List Str:=zs.flatMap λn=>n::aC (kkT ks n)
noncomputable def cj(t:Tab)(ks:List (Str×Tab)):List Str:=aC t++(toString (ks.length:Int):Str)::zV ks (zu (names ks))
noncomputable def bQ(t:Tab)(ks:List (Str×Tab)):Str:=FG " " (cj t ks)
theorem pS{zs:List Str}(h:zs[i]?=some n):zV ks (zs.take (i+1))=zV ks (zs.take i)++[n]++aC (kkT ks n):=by
 unfold zV;rw [Fw,h];simp
theorem bU.lk(h:bU ks)(F:n∈names ks):∃u,look ks n=some u/\kkT ks n=u/\aj u:=by
 cases e:look ks n with
 | none=>exact absurd F (bh.mp e)
 | some u=>exact {u,rfl,by unfold kkT;rw [e];rfl,h.gm _ (dz e)}
theorem rK(G:bU ks):∀{zs:List Str},(∀n∈zs,n∈names ks)->(∀z∈zV ks zs,Wd z)/\(zV ks zs).length<=188*zs.length
 | [],_=>by simp [zV]
 | n::zs,h=>by
  obtain ⟨i1,i2⟩:=rK G (zs:=zs) λm hm=>h m (Em _ hm);obtain ⟨u,W,J,S⟩:=G.lk (h n (Er ..));obtain ⟨O,U⟩:=i8 S;have e:zV ks (n::zs)=(n::aC (kkT ks n))++zV ks zs:=by simp [zV]
  rw [e,J];refine {λz F=>?_,by simp;omega};rcases Ff.mp F with F|F
  .rcases EI.mp F with rfl|F
   .exact kW (G.nm _ (h _ (Er ..)))
   .exact O z F
  .exact i1 z F
theorem mj{t:Tab}(gm:aj t)(G:bU ks):(∀z∈cj t ks,Wd z)/\(cj t ks).length<=760:=by
 obtain ⟨O,U⟩:=i8 gm;have W:=G.len;obtain ⟨i1,i2⟩:=rK G (zs:=zu (names ks)) λn J=>(z6 _).1.mem_iff.mp J;have S:(zu (names ks)).length=ks.length:=by rw [(z6 _).1.length_eq];simp [names]
 unfold cj;refine {λz F=>?_,by simp;omega};rcases Ff.mp F with F|F
 .exact O z F
 .rcases EI.mp F with rfl|F
  .exact iI (by omega) (by omega)
  .exact i1 z F
theorem uG{zs:List Str}(h:∀z∈zs,Wd z)(G:zs.length<=1000):(zs.map (·.length)).sum+zs.length*(" ":Str).length<=16777216:=by
 have:∀l:List Str,(∀z∈l,Wd z)->(l.map (·.length)).sum<=20*l.length:=by
  intro l
  induction l with
  | nil=>simp
  | cons z l F =>
   intro h;have h1:=(h z (Er ..)).most;have h2:=F λy n=>h y (Em _ n);rw [Fq,IL,EY];omega
 have:=this zs h;rw [show (" ":Str).length=1 by decide];omega
structure B7(H:Hp)(d nl:Addr)(t:Tab)(i:Nat)(σ:L2.St)(H':Hp):Prop where
 ex:∃wl t1,σ=[some (V.ref d),some (.ref wl),t1]/\H' wl=some (.lst (((toString (t.length:Int):Str)::au t ((zu (names t)).take i)).map V.str))/\H wl=none
 same:zg H H'
 hnl:H' nl=some (.lst ((zu (names t)).map V.str))
 sz:(au t ((zu (names t)).take i)).length<=62*i
 le:i<=4
structure LWc(H:Hp)(l:List Int)(i:Nat)(τ:L2.St)(ys:List V)(H':Hp):Prop where
 ex:∃t,τ=[t]
 ys:ys=((l.take i).map λx=>(toString x:Str)).map V.str
 same:zg H H'
 le:i<=60
def rj:Sp:=λvs H Q _=>∃(d:Addr)(t:Tab),vs=[.ref d]/\bY H d t/\aj t/\∀l H',zg H H'->H l=none->H' l=some (.lst ((aC t).map V.str))->Q (.ref l) H'
theorem g6:zB XZ ["_law_model_here"] (zp i6):=fsc
theorem v7:bP { kind:=.function,names:=[(Es ".0",.local),(Es "_law_birth_here",.local),(Es "str",.globalImplicit)],isGenerator:=false,isCoroutine:=false,more:=[] } (zp i6).names XZ Ya [none]=true:=by decide +kernel
theorem xg:(Ya:List Str).Nodup:=by decide +kernel
theorem vK(F:Fun K "_law_words" "_law_words" i6 f fd)(T:Txt K mg A):zr P w K mg base CX0 true 1 f fd ["_law_model_here"] rj:=by
 refine F.o g6 λZX Ar outer s H vs Q E hr h=>?_;obtain ⟨d,t,rfl,hM,gm,q⟩:=h;refine {_,(W.h (ze (zw (i:=1) g6.nd rfl (EA rfl) (af (za (aW c0 rfl T.IV Hq (za (zA gE rfl T.o2 EK (za (zd 0) zc)) zc)) zc)))
   (ze (bW Gj.never (λ_=>rfl) (cY (zA (h8 rfl) rfl T.I0 boot_sorted (za (zd 0) zc))) (zW (i:=2) g6.nd rfl (EA rfl))
   (zi (zw (i:=1) g6.nd rfl (EA rfl) (zx bL (zx bL (zd 1) (af (za (zd 2) (za (aW c0 rfl T.IV Hq (za (zA fB rfl T.o2 EK (za (zJ (fX (zR hr)) (zd 0) (zd 2) (λ_ _=>rfl)) zc)) zc)) zc)))) (cq (λ_=>rfl) (bo.of v7) (cY (zJ (fX (zR hr)) (zd 0) (zd 2) (λ_ _=>rfl))) (λ_ _ _ _ _=>(zW (i:=0) xg rfl (EA rfl))) (λ_ _ _ _ _=>c7) (λ_ _ _ _ _=>(aW c0 rfl T.IV Hq (za (zd 0) zc))))))))
   (zi (zz (zd 1)))))),?_}
 obtain ⟨kvs,e1,dc⟩:=hM.ex;have gl:=gm.len;ac_rfl;refine {_,.inl e1,?_};rw [cN,dc.length];refine {c9 (by omega),'d',λwl H1 n1 _=>{kvs,.inl (n1.same _ _ e1),by rw [dc.length];omega,λnl H2 G=>?_}};have sl:(zu (names t)).length=t.length:=by rw [(z6 _).1.length_eq];simp [names]
 rw [dc.names] at G;refine {{_,SqL.of G.at_},aZ.lst (xs:=(zu (names t)).map V.str) (B7 H d nl t) {{wl,_,rfl,by rw [G.same _ _ n1.at_];rfl,n1.no},n1.same.trans G.same,G.at_,by simp [au],by omega} (λi σ H' _ I=>SqL.of I.hnl) ?_ ?_}
 .rintro i x σ H' O ⟨⟨Z,t1,rfl,YA,wn⟩,J,hnl,sz,le⟩;rw [E5] at O;obtain ⟨n,hn,rfl⟩:=FH.mp O;have hi:i<(zu (names t)).length:=(ED.mp hn).1;obtain ⟨l,hl,el,l1,l2,lx⟩:=gm.lk ((z6 _).1.mem_iff.mp (ER hn));obtain ⟨v,l',d1,U,r⟩:∃v l',look kvs n=some v/\look t n=some l'/\MdR H v l':=by
   rcases dc.look n with z|⟨_,U⟩
   .exact z
   .rw [hl] at U;cases U
  rw [hl] at U;cases U;obtain ⟨pl,rfl,Y1⟩:=r;have ag:=J _ _ e1;erw [YA];refine {_,.inl ag,.ref pl,by rw [bS];exact d1,?_};rw [hU];refine {_,.inl (J _ _ Y1),?_};rw [En];ac_rfl;refine {c9 (by omega),'d',λp3 H3 n3 _=>{_,n3.same _ _ YA,_,n3.at_,aA (by simp;omega),λp4 H4 n4=>?_}};have S:=(J.trans n3.same).trans n4.same;refine {_,.inl (S _ _ e1),.ref pl,by rw [bS];exact d1,pl,rfl,{_,SqL.of (S _ _ Y1)},aQ.lst (xs:=l.map V.int) (LWc H4 l) (λj τ ys H6 I=>?_) (λj τ ys H6 I=>SqL.of (I.same _ _ (S _ _ Y1))) {{_,rfl},'s',zg.refl _,by omega} ?_ ?_}
  .rw [I.ys,En,En,Fn];exact aO (by have:=I.le;omega)
  .intro N j x τ ys H6 O I hN;obtain ⟨tt,rfl⟩:=I.ex;rw [E5] at O;obtain ⟨y,hy,rfl⟩:=FH.mp O;have ak:j<l.length:=(ED.mp hy).1;have av:=lx y (ER hy);ac_rfl;refine {c9 (by omega),hN _ _ _ {{_,rfl},?_,I.same,by omega}};rw [I.ys,Fw,hy,FY,FY];rfl
  .intro τ ys H6 I D H7 n7;have ly:ys.length<=60:=by rw [I.ys,En,En,Fn];omega
   rw [gv];refine {_,_,n7.same _ _ (I.same _ _ n4.at_),n7.at_,aA (by simp;omega),λp8 H8 n8=>?_};have s8:zg H4 H8:=(I.same.trans n7.same).trans n8.same;refine {{p8,_,rfl,?_,?_},S.trans s8,s8 _ _ (n4.same _ _ (n3.same _ _ hnl)),?_,by omega}
   .rw [n8.at_,oz hn,I.ys,el];have:l.take (List.map V.int l).length=l:=EU 's';rw [this];simp
   .exact ((S.trans I.same).trans n7.same).free n8.no
   .rw [oz hn,el];simp;omega
 .rintro σ H' ⟨⟨Z,t1,rfl,YA,wn⟩,J,hnl,sz,le⟩;ac_rfl;refine q Z H' J wn ?_;rw [YA,En,EU (EF _)];rfl
structure dq(H:Hp)(k:Addr)(ks:List (Str×Tab)):Prop where
 ex:∃kvs,H k=some (.dK (sk kvs))/\Dct (λv t=>∃d,v = .ref d/\d≠k/\bY H d t) kvs ks
theorem dq.same{k:Addr}(h:dq H k ks)(s:zg H H'):dq H' k ks:=let ⟨kvs,e,r⟩:=h.ex;{{kvs,s _ _ e,r.imp λv a ⟨d,F,n,z⟩=>{d,F,n,z.same s}}}
structure uA(H:Hp)(d k nl:Addr)(t:Tab)(ks:List (Str×Tab))(i:Nat)(σ:L2.St)(H':Hp):Prop where
 ex:∃wl t1,σ=[some (V.ref d),some (.ref k),some (.ref wl),t1]/\H' wl=some (.lst ((aC t++(toString (ks.length:Int):Str)::zV ks ((zu (names ks)).take i)).map V.str))
 same:zg H H'
 hnl:H' nl=some (.lst ((zu (names ks)).map V.str))
 sz:(zV ks ((zu (names ks)).take i)).length<=188*i
 le:i<=3
def nD:Sp:=λvs H Q _=>∃(d k:Addr)(t:Tab)(ks:List (Str×Tab)),vs=[.ref d,.ref k]/\bY H d t/\aj t/\dq H k ks/\bU ks/\∀H',zg H H'->Q (.str (bQ t ks)) H'
theorem hJ:zB ["_law_model_here","_law_kept","_law_words_here","_law_name_here"] X2 (zp lR):=fsc
theorem x5(F:Fun K "_law_text" "_law_text" lR f fd)(T:Txt K mg A)(ZA:GF P w K mg base true 1 "_law_words" ["_law_model_here"] rj):zr P w K mg base CX0 true 2 f fd X2 nD:=by
 refine F.o hJ λZX Ar outer s H vs Q E hr h=>?_;obtain ⟨d,k,t,ks,rfl,hM,gm,hK,gk,q⟩:=h;refine {_,(W.h (ze (zw (i:=2) hJ.nd rfl (EA rfl) (zx bL (zy ZA hr rfl (za (zd 0) zc)) (af (za (aW c0 rfl T.IV Hq (za (zA gE rfl T.o2 EK (za (zd 1) zc)) zc)) zc))))
   (ze (bW Gj.never (λ_=>rfl) (cY (zA (h8 rfl) rfl T.I0 boot_sorted (za (zd 1) zc))) (zW (i:=3) hJ.nd rfl (EA rfl))
   (zi (zw (i:=2) hJ.nd rfl (EA rfl) (zx bL (zx bL (zd 2) (af (za (zd 3) zc))) (zy ZA hr rfl (za (zJ (fX (zR hr)) (zd 1) (zd 3) (λ_ _=>rfl)) zc))))))
   (zi (zz (fg zq (zd 2))))))),?_}
 obtain ⟨kvs,e1,Z⟩:=hK.ex;have kl:=gk.len;have av:=(i8 gm).2;ac_rfl;refine {d,t,rfl,hM,gm,λl H1 s1 n1 el=>?_};ac_rfl;refine {_,.inl (s1 _ _ e1),?_};rw [cN,Z.length];refine {c9 (by omega),'d',λp2 H2 n2 _=>{_,n2.same _ _ el,_,n2.at_,aA (by simp;omega),λwl H3 n3=>?_}};have s3:zg H H3:=(s1.trans n2.same).trans n3.same;refine {kvs,.inl (s3 _ _ e1),by rw [Z.length];omega,λnl H4 O=>?_};have sl:(zu (names ks)).length=ks.length:=by rw [(z6 _).1.length_eq];simp [names]
 rw [Z.names] at O;refine {{_,SqL.of O.at_},aZ.lst (xs:=(zu (names ks)).map V.str) (uA H d k nl t ks) {{wl,_,rfl,by rw [O.same _ _ n3.at_];simp [zV]},s3.trans O.same,O.at_,by simp [zV],by omega} (λi σ H' _ I=>SqL.of I.hnl) ?_ ?_}
 .rintro i x σ H' hx ⟨⟨ak,t1,rfl,G⟩,sm,hnl,sz,le⟩;rw [E5] at hx;obtain ⟨n,U,rfl⟩:=FH.mp hx;have hi:i<(zu (names ks)).length:=(ED.mp U).1;obtain ⟨u,hu,eu,gu⟩:=gk.lk ((z6 _).1.mem_iff.mp (ER U));have uw:=(i8 gu).2;obtain ⟨v,u',d1,J,r⟩:∃v u',look kvs n=some v/\look ks n=some u'/\∃d,v = .ref d/\d≠k/\bY H d u':=by
   rcases Z.look n with z|⟨_,J⟩
   .exact z
   .rw [hu] at J;cases J
  rw [hu] at J;cases J;obtain ⟨pd,rfl,_,ag⟩:=r;erw [G];refine {'d',λp5 H5 S _=>{_,S.same _ _ G,_,S.at_,aA (by simp;omega),λp6 H6 n6=>?_}};have s6:zg H H6:=(sm.trans S.same).trans n6.same;refine {_,.inl (s6 _ _ e1),.ref pd,by rw [bS];exact d1,pd,u,rfl,ag.same s6,gu,λl7 H7 s7 n7 e7=>?_};show cg (V.ref p6) (V.ref l7) H7 _;rw [gv];refine {_,_,s7 _ _ n6.at_,e7,aA (by simp;omega),λp8 H8 n8=>?_};have s8:zg H H8:=(s6.trans s7).trans n8.same;refine {{p8,_,rfl,?_},s8,n8.same _ _ (s7 _ _ (n6.same _ _ (S.same _ _ hnl))),?_,by omega}
  .rw [n8.at_,pS U,eu];simp
  .rw [pS U,eu];simp;omega
 .rintro σ H' ⟨⟨ak,t1,rfl,G⟩,sm,hnl,sz,le⟩;ac_rfl;rw [En,EU (EF _)] at G;obtain ⟨w1,w2⟩:=mj gm gk;exact {cj t ks,G,uG w1 (by omega),q H' sm}
end
abbrev ku:Stmt:=aL (top 30) 5
abbrev hG:Stmt:=aL (top 30) 1
abbrev il:Stmt:=aL (top 30) 2
abbrev iH:Stmt:=aL (top 30) 3
abbrev ij:Stmt:=aL (top 30) 6
abbrev iP:Stmt:=top 37
def bM(wl:Addr)(i:Int):List (Str×V):=[("words",.ref wl),("taken",.int i)]
structure zK(A:zk)(H:Hp)(p:Addr)(ws:List Str):Prop where
 ex:∃(dx wl:Addr)(pre:List Str),H p=some (.ins A.Words dx (bM wl pre.length))/\H wl=some (.lst ((pre++ws).map V.str))/\(pre++ws).length<=2000
 wd:∀z∈ws,asc z=true/\z.length<=200000
theorem zK.same{p:Addr}(h:zK A H p ws)(s:zg H H'):zK A H' p ws:=let ⟨dx,wl,pre,e1,e2,r⟩:=h.ex;{{dx,wl,pre,s _ _ e1,s _ _ e2,r},h.wd}
theorem zK.but{p b:Addr}(h:zK A H p ws)(s:But b H H')(hb:∃kvs,H b=some (.dK kvs)):zK A H' p ws:=by
 obtain ⟨dx,wl,pre,n,F,r⟩:=h.ex;obtain ⟨kvs,hb⟩:=hb;exact {{dx,wl,pre,s _ _ (λz=>by subst z;rw [n] at hb;cases hb) n,s _ _ (λz=>by subst z;rw [F] at hb;cases hb) F,r},h.wd}
def ay:List Str->Option (Int×List Str)
 | []=>none
 | z::ws=>if zC z=true then some ((Gd z).getD 0,ws) else none
def gP:List Str->Option (Str×List Str)
 | []=>none
 | z::ws=>if zv z=true then some (z,ws) else none
def bf(y:Str)(ws:List Str):Option (Str×List Str):=match gP ws with
 | none=>none
 | some (z,r)=>if y.cps.toList<z.cps.toList then some (z,r) else none
theorem oS:∀(l:List Nat)(a:Nat),(∀c∈l,48<=c/\c<=57)->l.foldl (λZT c=>ZT*10+(c-48)) a<(a+1)*10 ^ l.length
 | [],a,_=>by simp
 | c::l,a,h=>by
  have:=h c (Er ..);have b:=oS l (a*10+(c-48)) (λz n=>h z (Em _ n));refine EO b ?_;rw [EY,Nat.pow_succ,Nat.mul_comm (10 ^ l.length) 10,<- Nat.mul_assoc];exact Nat.mul_le_mul_right _ (by omega)
theorem fm(h:zC z=true):z.length<=640/\∃i,Gd z=some i/\0<=i/\i<10 ^ 18:=by
 unfold zC ae at h;rw [EJ,EJ,EJ,decide_eq_true_eq,decide_eq_true_eq] at h;obtain ⟨⟨⟨h1,h2⟩,h3⟩,_⟩:=h;have n:z.length<=18:=by lia
 have hd:∀c∈sg z,48<=c/\c<=57:=by
  intro c hc;have:=EZ.mp h3 c hc;have F:sg FIG=[48,49,50,51,52,53,54,55,56,57]:=by decide
  rw [F] at this;have:=FB.mp this;simp only [EI,FW,or_false] at this;omega
 have e:=intText_digits (x:=z) hd (λe=>by have:z.length=0:=(by rw [<- zE];rw [show sg z=[] from e];rfl);lia) 'l';refine {'l',_,e,by omega,?_};have b:=oS _ 0 hd;have G:(sg z).length<=18:=by rw [zE];exact n
 have:=EO b (Nat.mul_le_mul_left _ (Nat.pow_le_pow_right 'd' G))
 exact_mod_cast this
section
variable {P:Eo}{w:EG}{K:Frag}{mg:Str->Option Value}{base:Heap}{A:zk}{wl:Addr}{i:Int}
theorem pN:(bM wl i).lookup ("words":Str)=some (.ref wl):=by kernel_rfl
theorem lM:(bM wl i).lookup ("taken":Str)=some (.int i):=by kernel_rfl
theorem rf:(bM wl i).lookup (Xo:Str)=none:=by kernel_rfl
theorem iY:(bM wl i).lookup (XC:Str)=none:=by kernel_rfl
theorem ue:(bM wl i).lookup ("take_name":Str)=none:=by kernel_rfl
theorem pY:(bM wl i).lookup (Xr:Str)=none:=by kernel_rfl
theorem Ag:(bM wl i).lookup ("take_end":Str)=none:=by kernel_rfl
def lU(A:zk):Sp:=λvs H Q _=>∃(p:Addr)(ws:List Str),vs=[.ref p]/\zK A H p ws/\Q (.bl (decide (ws=[]))) H
theorem xA:zB YE YE (zp ku):=fsc
theorem DZ(F:Fun K Xr "Words.is_at_end" ku f fd)(T:Txt K mg A):zr P w K mg base CX0 true 1 f fd YE (lU A):=by
 refine F.o xA λU S outer s H vs Q E hr h=>?_;obtain ⟨p,ws,rfl,G,q⟩:=h;have J:_<cLine:=Fc (zR hr);refine {_,(W.h (zi (zz (dN (oE (bO J)) (fD (bc T.mu T.ra (clE (zb 0)))) (zA bG rfl T.o2 EK (za (fD (bc T.mu T.tr (clE (zb 0)))) zc)) (zF _))))),?_};obtain ⟨dx,wl,pre,n,O,r⟩:=G.ex;erw [n,O,pN,lM];have e:decide ((pre.length:Int)=((List.map V.str (pre++ws)).length:Nat))=decide (ws=[]):=by
  rw [En,EV];cases ws with
  | nil=>simp
  | cons z ws=>simp;omega
 rw [e];exact q
def lS(A:zk):Sp:=λvs H Q E=>∃(p:Addr)(ws:List Str),vs=[.ref p]/\zK A H p ws/\(∀z r,ws=z::r->∀H',But p H H'->zK A H' p r->Q (.str z) H')/\(ws=[]->E (.ref A.ro) none H)
theorem Ah:zB YE YE (zp hG):=fsc
theorem yj(F:Fun K Xo "Words.take_word" hG f fd)(T:Txt K mg A)(Z2:GM P w K mg base true 1 A.Words Xr YE (lU A)):zr P w K mg base (CXW P w) true 2 f fd YE (lS A):=by
 refine F.oW Ah λZX S outer s H vs Q E hr h=>?_;obtain ⟨p,ws,rfl,J,q,qe⟩:=h;have U:=di (cm:=true) (P:=P) (w:=w) (K:=K) (mg:=mg) (base:=base) (N:=YE) (qual:="Words.take_word") (scope:=zp hG) (f:=f) (cd:=ZX) (A:=S) (outer:=outer) (s:=s) (H:=H) (E:=E);refine {_,(W.h (ze (zL (aX (m0D (eO (clE (zb 0)) T.mu Z2 hr)))
   (zi (dU rfl U T.qs rfl T.rb (za zq zc)))
   zN)
   (ze (Ax T.mu T.ra (zb 0) zj DE)
   (zi (zz (zJ aq (fD (bc T.mu T.tr (clE (zb 0)))) (zx (oI0 fM) (fD (bc T.mu T.ra (clE (zb 0)))) zj) (λ_ _=>rfl))))))),?_}
 obtain ⟨dx,wl,pre,G,n,r⟩:=J.ex;erw [G,pY];refine {p,ws,rfl,J,?_};have O:wl≠p:=λy=>by rw [y,G] at n;cases n
 cases ws with
 | nil =>
  erw [decide_true];exact {'d',qe rfl}
 | cons z ws =>
  erw [G,lM,List.cons_ne_nil,decide_false];have eF:z5 ("taken":Str) (V.int ((pre.length:Int)+1)) (bM wl pre.length)=bM wl ((pre.length:Int)+1):=by kernel_rfl
  try rw [eF]
  refine {by show 2<1000;decide,dx,_,zG,_,pN,dx,_,zG,_,lM,?_};ac_rfl;have Z:(pre.length:Int)+1-1=((pre.length:Nat):Int):=by omega
  refine {_,.inl (by rw [zm O];exact n),.str z,by rw [Z];exact bx 's',q z ws rfl _ But.upd {{dx,wl,pre++[z],?_,?_,?_},λy hy=>J.wd y (Em _ hy)}}
  .rw [zG];simp
  .rw [zm O,n];simp
  .simpa using r
def mi(A:zk):Sp:=λvs H Q E=>∃(p:Addr)(ws:List Str),vs=[.ref p]/\zK A H p ws/\(∀i r,ay ws=some (i,r)->0<=i->i<10 ^ 18->∀H',But p H H'->zK A H' p r->Q (.int i) H')/\(ay ws=none->∀H',But p H H'->E (.ref A.ro) none H')
theorem sT:zB XT YE (zp il):=fsc
theorem Cn(F:Fun K XC Xu il f fd)(T:Txt K mg A)(Z1:GMX P w K mg base true 2 A.Words Xo YE (lS A))(ZH:GF P w K mg base true 2 XA X4 (bX zC)):zr P w K mg base (CXW P w) true 3 f fd YE (mi A):=by
 refine F.oW sT λZX Ar outer s H vs Q E hr h=>?_;obtain ⟨p,ws,rfl,J,q,qe⟩:=h;have U:=di (cm:=true) (P:=P) (w:=w) (K:=K) (mg:=mg) (base:=base) (N:=XT) (qual:=Xu) (scope:=zp il) (f:=f) (cd:=ZX) (A:=Ar) (outer:=outer) (s:=s) (H:=H) (E:=E);refine {_,(W.h (ze (zw (i:=1) sT.nd rfl (EA rfl) (dE (du (clE (zb 0)) T.mu U Z1 hr)))
   (ze (zL (aY (aX (caD (zy ZH hr rfl (clP (za (zb 1) zc))))))
   (zi (dU rfl U T.qs rfl T.rb (za zq zc)))
   zN)
   (zi (zz (aW eJ rfl T.Jm HY (za (zb 1) zc))))))),?_}
 obtain ⟨dx,wl,pre,e1,e2,hl⟩:=J.ex;erw [e1,rf];refine {p,ws,rfl,J,λz r O H1 b1 G=>?_,λO=>?_}
 .subst O;have wd:=J.wd z (Er ..);ac_rfl;refine {z,rfl,wd.1,wd.2,λH2 s2=>?_};ac_rfl;by_cases n:zC z=true
  .obtain ⟨S,i,Z,i0,i1⟩:=fm n;rw [n];ac_rfl;exact {S,i,Z,q i r ((if_pos n).trans (by rw [Z];rfl)) i0 i1 H2 (b1.trans (But.of s2)) (G.same s2)}
  .rw [E9.mpr n];ac_rfl;exact {'d',qe (if_neg n) H2 (b1.trans (But.of s2))}
 .subst O;ac_rfl;exact {_,rfl,qe rfl H (But.of (zg.refl _))}
def qv(A:zk):Sp:=λvs H Q E=>∃(p:Addr)(ws:List Str),vs=[.ref p]/\zK A H p ws/\(∀z r,gP ws=some (z,r)->∀H',But p H H'->zK A H' p r->Q (.str z) H')/\(gP ws=none->∀H',But p H H'->E (.ref A.ro) none H')
theorem o3:zB XT YE (zp iH):=fsc
theorem xb(F:Fun K "take_name" "Words.take_name" iH f fd)(T:Txt K mg A)(Z1:GMX P w K mg base true 2 A.Words Xo YE (lS A))(Y3:GF P w K mg base true 2 "is_name" X4 (bX zv)):zr P w K mg base (CXW P w) true 3 f fd YE (qv A):=by
 refine F.oW o3 λZX Ar outer s H vs Q E hr h=>?_;obtain ⟨p,ws,rfl,J,q,U⟩:=h;have S:=di (cm:=true) (P:=P) (w:=w) (K:=K) (mg:=mg) (base:=base) (N:=XT) (qual:="Words.take_name") (scope:=zp iH) (f:=f) (cd:=ZX) (A:=Ar) (outer:=outer) (s:=s) (H:=H) (E:=E);refine {_,(W.h (ze (zw (i:=1) o3.nd rfl (EA rfl) (dE (du (clE (zb 0)) T.mu S Z1 hr)))
   (ze (zL (aY (aX (caD (zy Y3 hr rfl (clP (za (zb 1) zc))))))
   (zi (dU rfl S T.qs rfl T.rb (za zq zc)))
   zN)
   (zi (zz (zb 1)))))),?_}
 obtain ⟨dx,wl,pre,e1,e2,hl⟩:=J.ex;erw [e1,rf];refine {p,ws,rfl,J,λz r O H1 Z G=>?_,λO=>?_}
 .subst O;have wd:=J.wd z (Er ..);ac_rfl;refine {z,rfl,wd.1,wd.2,λH2 s2=>?_};ac_rfl;by_cases n:zv z=true
  .rw [n];ac_rfl;exact q z r (if_pos n) H2 (Z.trans (But.of s2)) (G.same s2)
  .rw [E9.mpr n];ac_rfl;exact {'d',U (if_neg n) H2 (Z.trans (But.of s2))}
 .subst O;ac_rfl;exact {_,rfl,U rfl H (But.of (zg.refl _))}
def sE(A:zk):Sp:=λvs H Q E=>∃(p:Addr)(ws:List Str),vs=[.ref p]/\zK A H p ws/\(ws=[]->Q .non H)/\(ws≠[]->E (.ref A.ro) none H)
theorem vz:zB YE YE (zp ij):=fsc
theorem xP(F:Fun K "take_end" "Words.take_end" ij f fd)(T:Txt K mg A)(Z2:GM P w K mg base true 1 A.Words Xr YE (lU A)):zr P w K mg base (CXW P w) true 2 f fd YE (sE A):=by
 refine F.oW vz λU O outer s H vs Q E hr h=>?_;obtain ⟨p,ws,rfl,G,q,Z⟩:=h;have S:=di (cm:=true) (P:=P) (w:=w) (K:=K) (mg:=mg) (base:=base) (N:=YE) (qual:="Words.take_end") (scope:=zp ij) (f:=f) (cd:=U) (A:=O) (outer:=outer) (s:=s) (H:=H) (E:=E);refine {_,(W.h (zi (zL (aY (aX (m0D (eO (clE (zb 0)) T.mu Z2 hr))))
   (zi (dU rfl S T.qs rfl T.rb (za zq zc)))
   zN))),?_}
 obtain ⟨dx,wl,pre,J,e2,r⟩:=G.ex;erw [J,pY];refine {p,ws,rfl,G,?_};by_cases n:ws=[]
 .rw [decide_eq_true n];ac_rfl;exact q n
 .rw [decide_eq_false n];ac_rfl;exact {'d',Z n}
def jK(A:zk):Sp:=λvs H Q E=>∃(p:Addr)(y:Str)(ws:List Str),vs=[.ref p,.str y]/\zK A H p ws/\(∀z r,bf y ws=some (z,r)->∀H',But p H H'->zK A H' p r->Q (.str z) H')/\(bf y ws=none->∀H',But p H H'->E (.ref A.ro) none H')
theorem rD:zB ["words","name","later"] XX (zp iP):=fsc
theorem Cz(F:Fun K XI XI iP f fd)(T:Txt K mg A)(ZL:GMX P w K mg base true 3 A.Words "take_name" YE (qv A)):zr P w K mg base (CXW P w) true 4 f fd XX (jK A):=by
 refine F.oW rD λZX Ar outer s H vs Q E hr h=>?_;obtain ⟨p,y,ws,rfl,S,q,U⟩:=h;have O:=di (cm:=true) (P:=P) (w:=w) (K:=K) (mg:=mg) (base:=base) (N:=["words","name","later"]) (qual:=XI) (scope:=zp iP) (f:=f) (cd:=ZX) (A:=Ar) (outer:=outer) (s:=s) (H:=H) (E:=E);refine {_,(W.h (ze (zw (i:=2) rD.nd rfl (EA rfl) (dE (du (clE (zb 0)) T.mu O ZL hr)))
   (ze (zL (tD (zH (clO yw) (clE (zb 2)) (clE (zb 1)) (zF _)))
   (zi (dU rfl O T.qs rfl T.rb (za zq zc)))
   zN)
   (zi (zz (zb 2)))))),?_}
 obtain ⟨dx,wl,pre,Z,e2,hl⟩:=S.ex;erw [Z,ue];refine {p,ws,rfl,S,λz r n H1 G J=>?_,λn H1 G=>?_}
 .ac_rfl;by_cases lt:y.cps.toList<z.cps.toList
  .rw [decide_eq_true lt];ac_rfl;exact q z r (by unfold bf;rw [n];exact if_pos lt) H1 G J
  .rw [decide_eq_false lt];ac_rfl;exact {'d',U (by unfold bf;rw [n];exact if_neg lt) H1 G}
 .ac_rfl;exact {_,rfl,U (by unfold bf;rw [n]) H1 G}
end
abbrev jV:Stmt:=aL (top 30) 0
theorem ip:∀{l:List Nat}{v:List Nat},v∈zS c l->v.length<=l.length/\∀x∈v,x∈l
 | [],v,h=>by
  have:=Fj.mp h;subst this;exact {EF _,λ_ h=>h}
 | y::l,v,h=>by
  by_cases e:y=c
  .have es:zS c (y::l)=[]::zS c l:=if_pos e;rw [es] at h;rcases EI.mp h with rfl|h
   .exact {Gr _,λ_ h=>nomatch h}
   .have:=ip h;exact {GH this.1,λx n=>Em _ (this.2 x n)}
  .rw [c8 c y l e] at h;obtain ⟨a,r,F⟩:=cx c l;rw [F] at h;rcases EI.mp h with rfl|h
   .have:=ip (v:=a) (by rw [F];exact Er ..);exact {Hx this.1,λx n=>(EI.mp n).elim (λz=>z ▸ Er ..) λz=>Em _ (this.2 x z)}
   .have:=ip (v:=v) (by rw [F];exact Em _ h);exact {GH this.1,λx n=>Em _ (this.2 x n)}
def wds(z:Str):List Str:=FI z " "
theorem dh(z:Str):wds z=(zS 32 (sg z)).map tx:=(congrArg (FI z) (show (" ":Str)=c1 32 from by decide)).trans (BC z 'd')
theorem eQ(h:v∈wds z):v.length<=z.length/\∀x∈sg v,x∈sg z:=by
 rw [dh] at h;obtain ⟨l,n,rfl⟩:=Gf.mp h;have:=ip n;rw [<- zE,<- zE,cW];exact this
theorem jJ(h:asc z=true)(s:∀x∈sg v,x∈sg z):asc v=true:=by
 unfold asc at h ⊢;rw [Array.all_eq_true_iff_forall_mem] at h ⊢;exact λx n=>h x (HW.mp (s x (HW.mpr n)))
section
variable {P:Eo}{w:EG}{K:Frag}{mg:Str->Option Value}{base:Heap}{A:zk}
def qx(A:zk):Sp:=λvs H Q _=>∃(p dx:Addr)(z:Str),vs=[.ref p,.str z]/\H p=some (.ins A.Words dx [])/\asc z=true/\z.length<=200000/\(wds z).length<=2000/\∀H',But p H H'->zK A H' p (wds z)->Q .non H'
theorem xN:zB XS XS (zp jV):=fsc
theorem A2(F:Fun K XJ "Words.__init__" jV f fd)(T:Txt K mg A):zr P w K mg base CX0 true 1 f fd XS (qx A):=by
 refine F.o xN λZX Z outer s H vs Q E hr h=>?_;obtain ⟨p,dx,z,rfl,hp,ha,U,O,q⟩:=h;refine {_,(W.h (ze (sfD (gF T.mu T.tr (clE (zb 0)) (clE (l9 (zb 1) zq))))
   (zi (sfD (gF T.mu T.ra (clE (zb 0)) (clE zj)))))),?_}
 ac_rfl;refine {'d',aO (by omega),aA (by show (wds z).length<=_;omega),λl H2 G=>{dx,[],G.same _ _ hp,'d',dx,_,zG,by show 1<1000;decide,?_}};have S:z5 ("taken":Str) (V.int 0) (z5 ("words":Str) (V.ref l) [])=bM l 0:=by kernel_rfl
 rw [S];have J:l≠p:=λz=>by have:=G.no;rw [z,hp] at this;cases this
 exact q _ (λa o n e=>by rw [zm n,zm n];exact G.same _ _ e) {{dx,l,[],by rw [zG];rfl,by rw [zm J,zm J];exact G.at_,O},λv hv=>{jJ ha (eQ hv).2,EL (eQ hv).1 U}}
abbrev iy:Stmt:=top 36
def aH:Nat->List Int->List Str->Option (List Int×List Str)
 | 0,l,ws=>some (l,ws)
 | n+1,l,ws=>(ay ws).bind λa=>aH n (l++[a.1]) a.2
def zT:Nat->Tab->Str->List Str->Option (Tab×List Str)
 | 0,t,_,ws=>some (t,ws)
 | n+1,t,y,ws=>(bf y ws).bind λa=>(ay a.2).bind λb=>if b.1=0 then none else (aH b.1.toNat [] b.2).bind λc=>zT n (zt t a.1 c.1) a.1 c.2
def rdT(ws:List Str):Option (Tab×List Str):=(ay ws).bind λa=>zT a.1.toNat [] "" a.2
theorem dX{ws r:List Str}(h:ay ws=some (i,r)):ws.length=r.length+1:=by
 cases ws with
 | nil=>cases h
 | cons z ws =>
  have h:(if zC z=true then some ((Gd z).getD 0,ws) else none)=some (i,r):=h;split at h
  .injection h with h;injection h with _ h;rw [h];rfl
  .cases h
theorem jO{ws r:List Str}(h:bf y ws=some (z,r)):ws.length=r.length+1/\y.cps.toList<z.cps.toList:=by
 unfold bf at h;cases ws with
 | nil=>cases h
 | cons v ws =>
  have e:gP (v::ws)=if zv v=true then some (v,ws) else none:=rfl;rw [e] at h;split at h
  .cases h
  .rename_i a b c;split at h
   .injection h with h;injection h with h1 h2
    split at c
    .injection c with c;injection c with c1 c2
     subst h1 h2;exact {by rw [<- c2];rfl,by assumption}
    .cases c
   .cases h
theorem Dp{α:Type}{t:List (Str×α)}{a b:α}:zt (zt t n a) n b=zt t n b:=by
 have hs:(look (zt t n a) n).isSome=true:=by rw [o9,if_pos rfl];rfl
 have e:zt (zt t n a) n b=(zt t n a).map λp=>if p.1=n then (p.1,b) else p:=if_pos hs;rw [e];by_cases h:(look t n).isSome
 .have F:zt t n a=t.map λp=>if p.1=n then (p.1,a) else p:=if_pos h;have G:zt t n b=t.map λp=>if p.1=n then (p.1,b) else p:=if_pos h;rw [F,G,GT];refine Hk λp _=>?_;show (if (if p.1=n then (p.1,a) else p).1=n then ((if p.1=n then (p.1,a) else p).1,b) else (if p.1=n then (p.1,a) else p))=_;by_cases hp:p.1=n
  .simp only [if_pos hp]
  .simp only [if_neg hp]
 .have F:zt t n a=t++[(n,a)]:=if_neg h;have G:zt t n b=t++[(n,b)]:=if_neg h;rw [F,G,FY];have J:(t.map λp=>if p.1=n then (p.1,b) else p)=t:=by
   refine (Hk λp hp=>?_).trans (map_id t);have:p.1≠n:=λz=>by
    have:=bh.mp (Option.not_isSome_iff_eq_none.mp h);exact this (by rw [<- z];exact Gf.mpr {p,hp,rfl})
   exact if_neg this
  rw [J];exact congrArg (t++·) (by show [if n=n then (n,b) else (n,a)]=_;rw [if_pos rfl])
theorem DB{b k wl:Addr}:zP b k≠bM wl i:=by
 intro h;have h1:(zP b k).map (·.1)=(bM wl i).map (·.1):=by rw [h]
 have h2:("births":Str)=("words":Str):=by injection h1
 exact absurd h2 'd'
theorem But.fresh{p b:Addr}(x:But p H H1)(y:But b H1 H2)(n:H b=none):But p H H2:=λa o F e=>y a o (λz=>by rw [<- z,e] at n;cases n) (x a o F e)
def cf{α:Type}(u:List (Str×α))(y:Str):Prop:=∀m∈names u,¬ y.cps.toList<m.cps.toList
theorem cf.new{α:Type}{u:List (Str×α)}(h:cf u y)(l:y.cps.toList<n.cps.toList):look u n=none:=bh.mpr λz=>h n z l
theorem cf.put{α:Type}{u:List (Str×α)}{a:α}(h:cf u y)(l:y.cps.toList<n.cps.toList):cf (zt u n a) n:=λm hm z=>by
 rw [jc,h.new l] at hm;rcases Ff.mp hm with hm|hm
 .exact h m hm (List.lt_trans l z)
 .rw [Fj.mp hm] at z;exact List.lt_irrefl _ z
theorem zK.ne{p q b k dx:Addr}(h:zK A H p ws)(e:H q=some (.ins A.nv dx (zP b k))):q≠p:=λz=>by
 obtain ⟨F,wl,pre,n,_⟩:=h.ex;rw [z,n] at e;injection e with e
 injection e with _ _ e
 exact DB e.symm
theorem zK.Mr{p q:Addr}(h:zK A H p ws)(e:H q=some (.dK kvs)):q≠p:=λz=>by
 obtain ⟨F,wl,pre,n,_⟩:=h.ex;rw [z,n] at e;cases e
theorem zK.nf{p q:Addr}{o:Obj}(h:zK A H p ws)(e:H q=some (.frz o (.dK kvs))):q≠p:=λz=>by
 obtain ⟨F,wl,pre,n,_⟩:=h.ex;rw [z,n] at e;cases e
theorem zK.nt{p:Addr}(h:zK A H p ws)(xs:List V):H p≠some (.tup xs):=λz=>by
 obtain ⟨F,wl,pre,n,_⟩:=h.ex;rw [n] at z;cases z
theorem aK.Kc{p q b k:Addr}{t:Tab}(h:aK A H q b k t)(s:But p H H')(hp:zK A H p ws):aK A H' q b k t:=by
 obtain ⟨dx,e⟩:=h.ob;have hd:∀a kvs,Rd H a (.dK kvs)->Rd H' a (.dK kvs):=λa kvs r=>r.elim (λe=>.inl (s _ _ (hp.Mr e) e)) (λ⟨o,e⟩=>.inr {o,s _ _ (hp.nf e) e});obtain ⟨kvs,n,d⟩:=h.mC.ex;exact {{dx,s _ _ (hp.ne e) e},{{kvs,hd _ _ n,d.imp λv a r=>r.but s hp.nt},h.mC.nd},hd _ _ h.kept}
theorem zQ.Kc{p q b k:Addr}{t:Tab}(h:zQ A H q b k t ks)(s:But p H H')(hp:zK A H p ws):zQ A H' q b k t ks:=by
 obtain ⟨dx,e⟩:=h.ob;obtain ⟨kvs,G,d⟩:=h.mC.ex;obtain ⟨kk,F,J⟩:=h.kept;exact {{dx,s _ _ (hp.ne e) e},{{kvs,s _ _ (hp.Mr G) G,d.imp λv a r=>r.but s hp.nt},h.mC.nd},{kk,s _ _ (hp.Mr F) F,J.imp λv a ⟨q,S,k',O,r,n⟩=>{q,S,k',O,r.Kc s hp,n}},h.LM,h.ne}
structure Az(A:zk)(H:Hp)(p q b k:Addr)(N:Nat)(R:Option (Tab×List Str))(m:Nat)(i:Nat)(σ:L2.St)(H':Hp):Prop where
 ex:∃y ws u t1 t2 t3,σ=[some (V.ref p),some (.ref q),some (.str y),t1,t2,t3]/\zK A H' p ws/\zQ A H' q b k u []/\zT (N-i) u y ws=R/\u.length+ws.length<=m/\cf u y
 but:But p H H'
structure C6(A:zk)(H:Hp)(p q b k:Addr)(M:Int)(n:Str)(u:Tab)(R:Option (List Int×List Str))(m:Nat)(j:Nat)(σ:L2.St)(H':Hp):Prop where
 ex:∃l ws u' t1 t3,σ=[some (V.ref p),some (.ref q),some (.str n),t1,some (.int M),t3]/\zK A H' p ws/\zQ A H' q b k u' []/\aH (M.toNat-j) l ws=R/\l.length=j/\j+ws.length<=m/\lk u' n=l/\(∀l',zt u' n l'=zt u n l')/\(0<j->u'=zt u n l)/\u'.length<=u.length+1
 but:But p H H'
def rq(A:zk):Sp:=λvs H Q E=>∃(p:Addr)(ws:List Str),vs=[.ref p]/\zK A H p ws/\ws.length<=1003/\(∀u r,rdT ws=some (u,r)->∀q b k H',But p H H'->H q=none->H b=none->H k=none->zQ A H' q b k u []->zK A H' p r->Q (.ref q) H')/\(rdT ws=none->∀H',But p H H'->E (.ref A.ro) none H')
theorem dZ:zB XY ["words"] (zp iy):=fsc
theorem vZ(F:Fun K Xz Xz iy f fd)(T:Txt K mg A)(Zb:GC P w K mg base true 1 "Files" A.nv YE (lD A))(Z4:GMX P w K mg base true 3 A.Words XC YE (mi A))(Z0:GX P w K mg base true 4 XI XX (jK A))(Zd:GM P w K mg base true 4 A.nv "put" X3 (oR A)):zr P w K mg base (CXW P w) true 5 f fd ["words"] (rq A):=by
 refine F.oW dZ λZX Ar outer s H vs Q E hr h=>?_;obtain ⟨p,ws,rfl,hW,hl,q,qe⟩:=h;have hu:_<cLine:=Fc (zR hr);have Th:=di (cm:=true) (P:=P) (w:=w) (K:=K) (mg:=mg) (base:=base) (N:=XY) (qual:=Xz) (scope:=zp iy) (f:=f) (cd:=ZX) (A:=Ar) (outer:=outer) (s:=s) (H:=H) (E:=E);refine {_,(W.h (ze (zw (i:=1) dZ.nd rfl (EA rfl) (pj Zb hr rfl))
   (ze (zw (i:=2) dZ.nd rfl (EA rfl) zq)
   (ze (jS Th (bW (mJ rfl (λok=>ok.frames) rfl) (λ_=>rfl) (cz rfl T.rk (za (dE (du (clE (zb 0)) T.mu cX Z4 hr)) zc)) (zW (i:=3) dZ.nd rfl (EA rfl))
   (ze (zw (i:=2) dZ.nd rfl (EA rfl) (cXD (fi cX Z0 hr rfl (clP (za (zb 0) (za (zb 2) zc))))))
   (ze (zw (i:=4) dZ.nd rfl (EA rfl) (dE (du (clE (zb 0)) T.mu cX Z4 hr)))
   (ze (zL (tD (zH (clO (oE (bO hu))) (clE (zb 4)) (clE zj) (zF _)))
   (zi (dU rfl cX T.qs rfl T.rb (za zq zc)))
   zN)
   (zi (jS cX (bW (mJ rfl (λok=>ok.frames) rfl) (λ_=>rfl) (cz rfl T.rk (za (zb 4) zc)) (zW (i:=5) dZ.nd rfl (EA rfl))
   (zi (dR (mD (cw (clE (zb 1)) T.ka Zd hr (clP (za (zb 2) (za (zb 5) (za (dE (du (clE (zb 0)) T.mu cX Z4 hr)) zc))))))))))))))))
   (zi (zz (zb 1))))))),?_}
 ac_rfl;refine λx Yf H2 nI=>{x,Yf,rfl,nI.at_,λb1 k1 H3 s3 nb nk eb ek a9 ex=>{rfl,?_}};have px:∀c o,H c=some o->c≠x:=λc o e z=>by have:=nI.no;rw [<- z,e] at this;cases this
 have Yp:zg H H3:=λc o e=>s3 c o (px c o e) (nI.same c o e);have b0:H b1=none:=nI.same.free nb;have k0:H k1=none:=nI.same.free nk;have F3:zQ A H3 x b1 k1 [] []:={⟨Yf,ex⟩,{{[],eb,.nil},by simp [names]},{[],ek,.nil},by simp [names],a9};have W3:=hW.same Yp;obtain ⟨dx,wl,pre,e1,e2,r⟩:=W3.ex;erw [e1,iY];refine {p,ws,rfl,W3,λN r1 eN N0 N1 H4 b4 a3=>?_,λeN H4 b4=>?_}
 rotate_left
 .ac_rfl;exact {_,rfl,qe (by unfold rdT;rw [eN];rfl) H4 ((But.of Yp).trans b4)}
 have F4:=F3.Kc b4 W3;have eT:rdT ws=zT N.toNat [] "" r1:=by unfold rdT;rw [eN];rfl
 rw [eT] at qe;have l1:=dX eN;ac_rfl;have bb:But p H H4:=(But.of Yp).trans b4;refine {by omega,by omega,aZ.rng (Az A H p x b1 k1 N.toNat (zT N.toNat [] "" r1) 1002) {{_,r1,[],_,_,_,rfl,a3,F4,rfl,by simp;omega,λm hm=>nomatch hm},bb} ?_ ?_}
 .rintro i σ H' hi ⟨⟨y,YV,u,t1,t2,t3,rfl,J,U,hR,hm,hy⟩,bt⟩;obtain ⟨c,hc⟩:∃c,N.toNat-i=c+1:={N.toNat-i-1,by omega};rw [hc] at hR;ac_rfl;refine {p,y,YV,rfl,J,λn r2 e5 H5 b5 Z=>?_,λe5 H5 b5=>?_}
  rotate_left
  .ac_rfl;exact {_,rfl,qe (by rw [<- hR];unfold zT;rw [e5];rfl) H5 (bt.trans b5)}
  have F5:=U.Kc b5 J;obtain ⟨l5,av⟩:=jO e5;obtain ⟨cv,bA,bp,a7,_⟩:=Z.ex;erw [a7,iY];refine {p,r2,rfl,Z,λM r3 e6 M0 M1 H6 b6 a6=>?_,λe6 H6 b6=>?_}
  rotate_left
  .ac_rfl;exact {_,rfl,qe (by rw [<- hR];unfold zT;rw [e5];show (ay r2).bind _=_;rw [e6];rfl) H6 ((bt.trans b5).trans b6)}
  have F6:=F5.Kc b6 Z;have l6:=dX e6;have G:(if M=0 then none else (aH M.toNat [] r3).bind λc'=>zT c (zt u n c'.1) n c'.2)=zT N.toNat [] "" r1:=by
   rw [<- hR];conv=>rhs;unfold zT
   rw [e5];show _=(ay r2).bind _;rw [e6];rfl
  by_cases hM:M=0
  .subst hM;rw [if_pos rfl] at G;erw [decide_true];exact {'d',qe G.symm H6 ((bt.trans b5).trans b6)}
  rw [if_neg hM] at G;erw [decide_eq_false hM];have nu:look u n=none:=hy.new av;refine {by omega,by omega,aZ.rng (C6 A H p x b1 k1 M n u (aH M.toNat [] r3) r3.length) {{[],r3,u,_,_,rfl,a6,F6,rfl,rfl,by omega,by unfold lk;rw [nu];rfl,λ_=>rfl,λz=>absurd z (by omega),by omega},(bt.trans b5).trans b6} ?_ ?_}
  .rintro j σ H' hj ⟨⟨l,ag,u',t1,t3,rfl,J,U,hN,ak,a0,S,O,ax,a5⟩,bt⟩;obtain ⟨ct,a8⟩:=U.ob;obtain ⟨b7,b3,bq,ba,_⟩:=J.ex;obtain ⟨d,hd⟩:∃d,M.toNat-j=d+1:={M.toNat-j-1,by omega};rw [hd] at hN;erw [a8,ba,xE,iY];refine {p,ag,rfl,J,λv r5 e8 v0 v1 H8 b8 a4=>?_,λe8 H8 b8=>?_}
   rotate_left
   .ac_rfl;exact {_,rfl,qe (by rw [<- G,<- hN];unfold aH;rw [e8];rfl) H8 (bt.trans b8)}
   have F8:=U.Kc b8 J;have l8:=dX e8;have ej:(0+(j:Int)).toNat=j:=by omega
   ac_rfl;refine {x,b1,k1,u',[],n,_,v,rfl,F8,by omega,?_,?_,?_,λH9 b9 F9=>?_}
   .rw [S];omega
   .rw [S];omega
   .omega
   .rw [ej,S,GK (by omega),EU (by omega),Gc] at F9;obtain ⟨b2,aI,_⟩:=F8.mC.ex;refine {{l++[v],r5,_,_,_,rfl,a4.but b9 {_,aI},F9,?_,by simp [ak],by omega,?_,λl'=>?_,λ_=>?_,?_},(bt.trans b8).fresh b9 b0}
    .rw [<- hN];conv=>rhs;unfold aH
     rw [e8,show M.toNat-(j+1)=d from by omega];rfl
    .unfold lk;rw [o9,if_pos rfl];rfl
    .rw [Dp,O]
    .exact O _
    .rw [O];exact cJ
  .rintro σ H' ⟨⟨l,ag,u',t1,t3,rfl,J,U,hN,ak,a0,S,O,ax,a5⟩,bt⟩;have h3:=ax (by omega);subst h3;rw [Ip] at hN;rw [<- hN] at G;refine {{n,ag,_,_,_,_,rfl,J,U,?_,?_,hy.put av},bt}
   .rw [show N.toNat-(i+1)=c from by omega];exact G
   .have:=cJ (t:=u) (n:=n) (a:=l);omega
 .rintro σ H' ⟨⟨y,YV,u,t1,t2,t3,rfl,J,U,hR,hm,hy⟩,bt⟩;rw [Ip] at hR;ac_rfl;exact q u YV (eT.trans hR.symm) x b1 k1 H' bt nI.no b0 k0 U J
abbrev iM:Stmt:=top 35
def rdK:Nat->List (Str×Tab)->Str->List Str->Option (List (Str×Tab)×List Str)
 | 0,ks,_,ws=>some (ks,ws)
 | n+1,ks,y,ws=>(bf y ws).bind λa=>(rdT a.2).bind λc=>rdK n (zt ks a.1 c.1) a.1 c.2
def rdF(ws:List Str):Option ((Tab×List (Str×Tab))×List Str):=(rdT ws).bind λa=>(ay a.2).bind λb=>(rdK b.1.toNat [] "" b.2).map λc=>((a.1,c.1),c.2)
theorem bind_some{α β:Type}{x:Option α}{f:α->Option β}{b:β}(h:x.bind f=some b):∃a,x=some a/\f a=some b:=by
 cases x with
 | none=>cases h
 | some a=>exact {a,rfl,h}
theorem qH:∀{n:Nat}{l l':List Int}{ws r:List Str},aH n l ws=some (l',r)->r.length<=ws.length
 | 0,_,_,_,_,h=>by injection h with h;injection h with _ h;rw [h];exact EF _
 | n+1,l,l',ws,r,h=>by
  obtain ⟨⟨i,r1⟩,e,h⟩:=bind_some h;have:=dX e;have h:aH n (l++[i]) r1=some (l',r):=h;have:=qH h;omega
theorem oJ:∀{n:Nat}{t u:Tab}{y:Str}{ws r:List Str},zT n t y ws=some (u,r)->r.length<=ws.length
 | 0,_,_,_,_,_,h=>by injection h with h;injection h with _ h;rw [h];exact EF _
 | n+1,t,u,y,ws,r,h=>by
  obtain ⟨⟨z,r1⟩,e,h⟩:=bind_some h;obtain ⟨⟨i,r2⟩,G,h⟩:=bind_some h;have h:(if i=0 then none else (aH i.toNat [] r2).bind λc=>zT n (zt t z c.1) z c.2)=some (u,r):=h;split at h
  .cases h
  .obtain ⟨⟨l,J⟩,F,h⟩:=bind_some h;have:=jO e;have:=dX G;have:=qH F;have:=oJ h;simp only at *
   omega
theorem fH{ws r:List Str}(h:rdT ws=some (u,r)):r.length+1<=ws.length:=by
 obtain ⟨⟨i,r1⟩,e,h⟩:=bind_some h;have:=dX e;have:=oJ h;simp only at *
 omega
structure um(A:zk)(H:Hp)(p q b k:Addr)(t:Tab)(N:Nat)(R:Option (List (Str×Tab)×List Str))(i:Nat)(σ:L2.St)(H':Hp):Prop where
 ex:∃y ws us t1,σ=[some (V.ref p),some (.ref q),some (.str y),t1]/\zK A H' p ws/\zQ A H' q b k t us/\rdK (N-i) us y ws=R/\us.length+ws.length<=1001
 but:But p H H'
def qZ(A:zk):Sp:=λvs H Q E=>∃(p:Addr)(ws:List Str),vs=[.ref p]/\zK A H p ws/\ws.length<=1003/\(∀u us r,rdF ws=some ((u,us),r)->∀q b k H',But p H H'->H q=none->H b=none->H k=none->zQ A H' q b k u us->zK A H' p r->Q (.ref q) H')/\(rdF ws=none->∀H',But p H H'->E (.ref A.ro) none H')
theorem gj:zB ["words","files","name","number"] ["words"] (zp iM):=fsc
theorem AY(F:Fun K Xx Xx iM f fd)(T:Txt K mg A)(Zz:GX P w K mg base true 5 Xz ["words"] (rq A))(Z4:GMX P w K mg base true 3 A.Words XC YE (mi A))(Z0:GX P w K mg base true 4 XI XX (jK A))(Zk:GM P w K mg base true 4 A.nv "keep" X6 (qW A)):zr P w K mg base (CXW P w) true 6 f fd ["words"] (qZ A):=by
 refine F.oW gj λZX Ar outer s H vs Q E hr h=>?_;obtain ⟨p,ws,rfl,hW,hl,q,U⟩:=h;have Th:=di (cm:=true) (P:=P) (w:=w) (K:=K) (mg:=mg) (base:=base) (N:=["words","files","name","number"]) (qual:=Xx) (scope:=zp iM) (f:=f) (cd:=ZX) (A:=Ar) (outer:=outer) (s:=s) (H:=H) (E:=E);refine {_,(W.h (ze (zw (i:=1) gj.nd rfl (EA rfl) (cXD (fi Th Zz hr rfl (clP (za (zb 0) zc)))))
   (ze (zw (i:=2) gj.nd rfl (EA rfl) zq)
   (ze (jS Th (bW (mJ rfl (λok=>ok.frames) rfl) (λ_=>rfl) (cz rfl T.rk (za (dE (du (clE (zb 0)) T.mu cX Z4 hr)) zc)) (zW (i:=3) gj.nd rfl (EA rfl))
   (ze (zw (i:=2) gj.nd rfl (EA rfl) (cXD (fi cX Z0 hr rfl (clP (za (zb 0) (za (zb 2) zc))))))
   (zi (dR (mD (cw (clE (zb 1)) T.ka Zk hr (clP (za (zb 2) (za (cXD (fi cX Zz hr rfl (clP (za (zb 0) zc)))) zc))))))))))
   (zi (zz (zb 1))))))),?_}
 ac_rfl;refine {p,ws,rfl,hW,hl,λu r1 Z x b1 k1 H3 ak x0 b0 k0 F3 W3=>?_,λZ H3 b3=>?_}
 rotate_left
 .ac_rfl;exact {_,rfl,U (by unfold rdF;rw [Z];rfl) H3 b3}
 have l1:=fH Z;obtain ⟨dx,wl,pre,e1,e2,r⟩:=W3.ex;erw [e1,iY];refine {p,r1,rfl,W3,λN r2 eN N0 N1 H4 b4 ax=>?_,λeN H4 b4=>?_}
 rotate_left
 .ac_rfl;exact {_,rfl,U (by unfold rdF;rw [Z];show (ay r1).bind _=_;rw [eN];rfl) H4 (ak.trans b4)}
 have F4:=F3.Kc b4 W3;have l2:=dX eN;have eF:rdF ws=(rdK N.toNat [] "" r2).map λc=>((u,c.1),c.2):=by unfold rdF;rw [Z];show (ay r1).bind _=_;rw [eN];rfl
 rw [eF] at U;ac_rfl;refine {by omega,by omega,aZ.rng (um A H p x b1 k1 u N.toNat (rdK N.toNat [] "" r2)) {{_,r2,[],_,rfl,ax,F4,rfl,by simp;omega},ak.trans b4} ?_ ?_}
 .rintro i σ H' hi ⟨⟨y,YV,us,t1,rfl,YF,hF,G,hm⟩,bt⟩;obtain ⟨c,hc⟩:∃c,N.toNat-i=c+1:={N.toNat-i-1,by omega};rw [hc] at G;ac_rfl;refine {p,y,YV,rfl,YF,λn r3 e5 H5 J S=>?_,λe5 H5 J=>?_}
  rotate_left
  .ac_rfl;exact {_,rfl,U (by rw [<- G];unfold rdK;rw [e5];rfl) H5 (bt.trans J)}
  have F5:=hF.Kc J YF;obtain ⟨l5,a5⟩:=jO e5;obtain ⟨a3,a0⟩:=F5.ob;erw [a0,Dt];refine {p,r3,rfl,S,by omega,λv r4 e6 q6 b6 k6 H6 ag _ _ _ F6 aI=>?_,λe6 H6 b6=>?_}
  rotate_left
  .ac_rfl;exact {_,rfl,U (by rw [<- G];unfold rdK;rw [e5];show ((rdT r3).bind _).map _=_;rw [e6];rfl) H6 ((bt.trans J).trans b6)}
  have O:=F5.Kc ag S;have l6:=fH e6;obtain ⟨a4,av,_⟩:=O.kept;ac_rfl;refine {x,b1,k1,u,us,n,q6,v,rfl,O,F6.has,by omega,λH7 b7 F7 _=>{{n,r4,_,_,rfl,aI.but b7 {_,av},F7,?_,?_},((bt.trans J).trans ag).fresh b7 k0}}
  .rw [<- G];conv=>rhs;unfold rdK
   rw [e5,show N.toNat-(i+1)=c from by omega];show _=(rdT r3).bind _;rw [e6];rfl
  .have:=cJ (t:=us) (n:=n) (a:=v);omega
 .rintro σ H' ⟨⟨y,YV,us,t1,rfl,YF,hF,G,hm⟩,bt⟩;rw [Ip] at G;ac_rfl;exact q u us YV (by rw [eF,<- G];rfl) x b1 k1 H' bt x0 b0 k0 hF YF
abbrev jm:Stmt:=top 34
theorem But.gone{p:Addr}(x:But p H H')(n:H p=none):zg H H':=λa o e=>x a o (λz=>by rw [<- z,e] at n;cases n) e
def rdX(z:Str):Option (Tab×List (Str×Tab)):=(rdF (wds z)).bind λa=>if a.2=[] then some a.1 else none
structure Al(A:zk)(H:Hp)(z:Str)(Q:VK)(E:XK):Prop where
 a:asc z=true
 l:z.length<=200000
 w:(wds z).length<=1003
 q:∀u us,rdX z=some (u,us)->∀q b k H',zg H H'->H q=none->H b=none->H k=none->zQ A H' q b k u us->Q (.ref q) H'
 e:rdX z=none->∀H',zg H H'->E (.ref A.kc) none H'
def tU(K:Frag)(A:zk):Sp:=λvs H Q E=>∃(v:V),vs=[v]/\((∃z,v = .str z/\Al A H z Q E)\/(∃t,TyX K H v t/\kitOne K t (.type "str")=some false/\E (.ref A.kc) none H))
theorem jX:zB ["text","words","files"] X4 (zp jm):=fsc
theorem DR(F:Fun K Xw Xw jm f fd)(T:Txt K mg A)(YR:GC P w K mg base true 1 "Words" A.Words XS (qx A))(Zj:GX P w K mg base true 6 Xx ["words"] (qZ A))(ZG:GMX P w K mg base true 2 A.Words "take_end" YE (sE A)):zr P w K mg base (CXW P w) true 7 f fd X4 (tU K A):=by
 refine F.oW jX λZX Ar outer s H vs Q E hr h=>?_;obtain ⟨v,rfl,h⟩:=h;have Th:=di (cm:=true) (P:=P) (w:=w) (K:=K) (mg:=mg) (base:=base) (N:=["text","words","files"]) (qual:=Xw) (scope:=zp jm) (f:=f) (cd:=ZX) (A:=Ar) (outer:=outer) (s:=s) (H:=H) (E:=E);refine {_,(W.h (ze (zL (aY (aX (zA fS rfl T.i3 ES (za (zb 0) (za (fE rfl T.IV Hq (v:=.ty "str") rfl) zc)))))
   (zi (dU rfl Th T.wh rfl T.IW (za zq zc)))
   zN)
   (ze (zw (i:=1) jX.nd rfl (EA rfl) (xX YR hr rfl (za (zb 0) zc)))
   (ze (Ce rfl rfl {rfl,rfl} T.qs rfl T.rb (λGa Ex=>(ze (zw (i:=2) jX.nd rfl (EA rfl) (cXD (fi mH Zj hr rfl (clP (za (zb 1) zc)))))
   (zi (dR (dE (du (clE (zb 1)) T.mu mH ZG hr)))))) Th (λGa ea ak=>by
   have hr:=hr.mark (v:=some (.ref ea));exact (zi (wO ak T.wh rfl T.IW (za zq zc)))))
   (zi (zz (zb 2))))))),?_}
 ac_rfl;rcases h with ⟨z,rfl,h⟩|⟨t,ht,hf,qe⟩
 rotate_left
 .refine {_,_,_,_,_,rfl,rfl,ht,hf,?_};ac_rfl;exact {'d',qe}
 refine {_,_,_,_,_,rfl,rfl,.of (.str _),rfl,?_};ac_rfl;intro x dx H2 n;refine {x,dx,z,rfl,n.at_,h.a,h.l,by have:=h.w;omega,λH3 b3 U=>{rfl,?_}};have Z:zg H H3:=((But.of n.same).trans b3).gone n.no;ac_rfl;refine {x,wds z,rfl,U,h.w,λu us r O q' b k H4 S q0 b0 k0 F4 J=>?_,λO H4 S=>?_}
 .have G:zg H H4:=(((But.of n.same).trans b3).trans S).gone n.no;obtain ⟨av,wl,pre,ag,_⟩:=J.ex;erw [ag,Ag];refine {x,r,rfl,J,λer=>?_,λer=>?_}
  .subst er;ac_rfl;exact h.q u us (by unfold rdX;rw [O];rfl) q' b k H4 G (Z.free q0) (Z.free b0) (Z.free k0) F4
  .ac_rfl;refine {_,rfl,T.qs,T.JG,λea oe na xo=>{'d',h.e (by unfold rdX;rw [O];exact if_neg er) _ (λc o e=>by rw [zm (z7 (G c o e) na)];exact G c o e)}}
 .ac_rfl;have G:zg H H4:=(((But.of n.same).trans b3).trans S).gone n.no;refine {_,rfl,T.qs,T.JG,λea oe na xo=>{'d',h.e (by unfold rdX;rw [O];rfl) _ (λc o e=>by rw [zm (z7 (G c o e) na)];exact G c o e)}}
abbrev gZ:Stmt:=top 50
abbrev jt:Stmt:=top 53
def lN:L2.R2:=λx y H Q=>∃i j,x = .str i/\y = .str j/\Q (.bl (!(sg j).contains (sg i)[0]!)) H/\(sg i).length=1
theorem pT:L2.OpR X (PySem.compareOp .NotIn) lN:=An.weak λx y H Q h=>by
 obtain ⟨i,j,F,G,q,l⟩:=h;refine {i,j,F,G,?_};obtain ⟨c,hc⟩:=List.length_eq_one_iff.mp l;have n:i={#[c]}:=fk hc;rw [hc] at q;rw [n,qX];exact q
theorem D9:lN (.str {#[c]}) (.str y) H Q=Q (.bl (!(sg y).contains c)) H:=by
 refine propext {λ⟨i,j,n,F,q,l⟩=>?_,λq=>{_,_,rfl,rfl,q,rfl}};injection n with n;injection F with F
 subst n F;exact q
theorem mR:inV (V.int n) [V.int 1,V.int 2,V.int 3,V.int 4,V.int 5,V.int 6]=decide (1<=n/\n<=6):=by
 show (decide (_=n)||(decide (_=n)||(decide (_=n)||(decide (_=n)||(decide (_=n)||(decide (_=n)||false))))))=_;rw [FO];simp only [Bool.or_eq_true,decide_eq_true_eq,FK,or_false];omega
structure AK(H:Hp)(z:Str)(y:List Nat)(i:Nat)(τ:L2.St)(ys:List V)(H':Hp):Prop where
 ex:∃t,τ=[t]
 ys:ys=(((sg z).take i).filter λc=>!y.contains c).map λc=>V.str {#[c]}
 same:H'=H
theorem AU{l y:List Nat}:((l.filter λc=>!y.contains c).map λc=>V.str {#[c]}).length=0↔l.all (λc=>y.contains c)=true:=by
 rw [En,Fk,List.filter_eq_nil_iff,EZ];refine forall_congr' λc=>forall_congr' λ_=>?_;cases y.contains c<;>simp
theorem jN{l y:List Nat}:decide (((l.filter λc=>!y.contains c).map λc=>V.str {#[c]}).length=([]:List V).length)=l.all (λc=>y.contains c):=FO.mpr (decide_eq_true_iff.trans AU)
theorem nR(S:z.length<=200000)(h:∀D H',New H D (.lst (((sg z).filter λc=>!(sg y).contains c).map λc=>V.str {#[c]})) H'->Q (.ref D) H'):aQ (Its z) (iL 0) (kZ (tOp lN (fw 0) (tC (V.str y)))) (fw 0) [none] H Q:=by
 refine aQ.str (AK H z (sg y)) (λi n ys H' I=>?_) {{_,rfl},'s',rfl} ?_ ?_
 .rw [I.ys,En];refine aO (EL (List.length_filter_le _ _) ?_);rw [Fn,zE];omega
 .intro N i c n ys H' hc I hN;obtain ⟨t,rfl⟩:=I.ex;erw [D9];have O:(sg z)[i]?=some c:=by simpa [sg] using hc
  have F:(sg z).take (i+1)=(sg z).take i++[c]:=by rw [Fw,O];rfl
  cases G:(sg y).contains c with
  | true =>
   show N _ ys H';exact hN _ _ _ {{_,rfl},by rw [I.ys,F,List.filter_append];simp only [Gm,List.filter_nil,G];simp,I.same}
  | false =>
   show N _ (ys++[_]) H';exact hN _ _ _ {{_,rfl},by rw [I.ys,F,List.filter_append];simp only [Gm,List.filter_nil,G];simp,I.same}
 .intro n ys H' I p H2 J;rw [I.ys,I.same,EU (by rw [zE];exact EF _)] at J;exact h p H2 J
theorem Ay:zB Ys Ys (zp gZ):=fsc
theorem Bx:bP { kind:=.function,names:=[(Es ".0",.local),(Es "_law_sign",.local)],isGenerator:=false,isCoroutine:=false,more:=[] } (zp gZ).names Ys ["_law_sign"] [none]=true:=by decide +kernel
theorem AD:(["_law_sign"]:List Str).Nodup:=by decide +kernel
theorem u5(F:Fun K XM XM gZ f fd)(T:Txt K mg A):zr P w K mg base CX0 true 1 f fd Ys (bX zC):=by
 refine F.o Ay λZX Ar outer s H vs Q E hr h=>?_;obtain ⟨z,rfl,ha,U,q⟩:=h;have G:_<cLine:=Fc (zR hr);refine {_,(W.h (ze (zL (cu (bJ (tD (zH (clO (oE (bO G))) (clE (zb 0)) (clE zq) (zF _))) (bJ (tD (zH (clO (oI0 gY)) (clE (zA bG rfl T.o2 EK (za (zb 0) zc))) (clE zj) (zF _))) (cK (tD (zH (clO (Aw G)) (clE (cq (λ_=>rfl) (bo.of Bx) (lW (zb 0)) (λ_ _ _ _ _=>(zW (i:=0) AD rfl (EA rfl))) (λ_ _ _ _ _=>(sN (tD (zH (clO pT) (clE (zb 0)) (clE zq) rfl)))) (λ_ _ _ _ _=>(zb 0)))) (clE (af zc)) (zF _)))))))
   (zi (zz dm))
   zN)
   (zi (zz (tM (dN (oE (bO G)) (zb 0) zq (zF _)) (gO (dN (oE (gD G)) (zJ aq (zb 0) zj (λ_ _=>rfl)) zq (zF _)))))))),?_}
 erw [aA (EL U 'd')];refine ah (λh1=>?_) λh1=>ah (λh2=>?_) λh2=>{ha,nR (y:=FIG) U λD H1 S=>{'d',λp H2 O _=>?_}}
 .have e:zC z=false:=by
   have:z="":=of_decide_eq_true h1;rw [this];decide
  rw [<- e];exact q H (zg.refl _)
 .have e:zC z=false:=by
   have:=of_decide_eq_true h2;unfold zC ae;rw [decide_eq_false (show ¬ (z.length:Int)<=18 by omega),Bool.and_false];rfl
  rw [<- e];exact q H (zg.refl _)
 .have s2:zg H H2:=S.same.trans O.same;refine {_,_,_,_,rfl,rfl,O.same _ _ S.at_,O.at_,.inr rfl,?_};have Z:1<=z.length:=by
   refine Fg λc=>h1 (decide_eq_true ?_);exact fk (Fk.mp (by rw [zE];omega))
  have J:(z.length:Int)<=18:=by
   refine Fg λc=>h2 (decide_eq_true (by omega))
  have em:ae z FIG 18=(sg z).all λc=>(sg FIG).contains c:=by
   unfold ae;rw [decide_eq_true (show 1<=(z.length:Int) by omega),decide_eq_true J];rfl
  by_cases hb:((sg z).all λc=>(sg FIG).contains c)=true
  .rw [if_pos rfl,jN,hb];ac_rfl;have n:zC z=(decide (z="0") || !decide (tx ((sg z).take 1)="0")):=by unfold zC;rw [em,hb];rfl
   obtain ⟨c,cs,ec⟩:∃c cs,sg z=c::cs:=FC (by rw [zE];exact Z);rw [ec] at n;refine ah (λh3=>?_) λh3=>{c,?_,?_}
   .rw [h3] at n;have n:zC z=true:=n;rw [<- n];exact q H2 s2
   .show atI (sg z) 0=_;rw [ec];exact bx (j:=0) rfl
   .rw [E9.mpr h3] at n;have n:zC z = !decide (({ cps:=#[c] }:Str)="0"):=n;rw [<- n];exact q H2 s2
  .rw [if_pos rfl,jN,E9.mpr hb];ac_rfl;have e:zC z=false:=by unfold zC;rw [em,E9.mpr hb];rfl
   rw [<- e];exact q H2 s2
theorem B0:zB Ys Ys (zp jt):=fsc
theorem BZ:bP { kind:=.function,names:=[(Es ".0",.local),(Es "_law_sign",.local)],isGenerator:=false,isCoroutine:=false,more:=[] } (zp jt).names Ys ["_law_sign"] [none]=true:=by decide +kernel
theorem Ea:(["_law_sign"]:List Str).Nodup:=by decide +kernel
theorem vC(F:Fun K XF XF jt f fd)(T:Txt K mg A):zr P w K mg base CX0 true 1 f fd Ys (bX zv):=by
 refine F.o B0 λZX Ar outer s H vs Q E hr h=>?_;obtain ⟨z,rfl,ha,J,q⟩:=h;have O:_<cLine:=Fc (zR hr);refine {_,(W.h (ze (zL (tD (zH (clO (nV O)) (clE (zA bG rfl T.o2 EK (za (zb 0) zc))) (clE (bg (za zj (za zj (za zj (za zj (za zj (za zj zc)))))))) rfl))
   (zi (zz dm))
   zN)
   (zi (zz (dN (xJ O) (cq (λ_=>rfl) (bo.of BZ) (lW (zb 0)) (λ_ _ _ _ _=>(zW (i:=0) Ea rfl (EA rfl))) (λ_ _ _ _ _=>(sN (tD (zH (clO pT) (clE (zb 0)) (clE zq) rfl)))) (λ_ _ _ _ _=>(zb 0))) (af zc) (zF _)))))),?_}
 erw [aA (EL J 'd')];refine {'d',λp H1 n=>{_,.inr n.at_,rfl,'d',ah (λh1=>?_) λh1=>{ha,nR (y:=LET) J λD H2 S=>{'d',λp2 H3 G _=>{_,_,_,_,rfl,rfl,G.same _ _ S.at_,G.at_,.inr rfl,?_}}}}}
 .have e:zv z=false:=by
   refine E9.mpr λh=>?_;unfold zv ae at h;rw [EJ,EJ,decide_eq_true_eq,decide_eq_true_eq] at h;obtain ⟨⟨Z,U⟩,_⟩:=h;rw [mR] at h1;rw [decide_eq_true (show 1<=(z.length:Int)/\(z.length:Int)<=6 from ⟨Z,U⟩)] at h1;cases h1
  rw [<- e];exact q H1 n.same
 .rw [mR] at h1;have h1:1<=(z.length:Int)/\(z.length:Int)<=6:=Fg λc=>h1 (by rw [decide_eq_false c];rfl);rw [if_neg 'd',jN];have e:zv z=(sg z).all λc=>(sg LET).contains c:=by
   unfold zv ae;rw [decide_eq_true h1.1,decide_eq_true h1.2];rfl
  rw [<- e];exact q H3 ((n.same.trans S.same).trans G.same)
abbrev fT:Stmt:=top 54
def qp:L2.R2:=λx y H Q=>∃i j,x = .str i/\y = .str j/\Q (.bl (decide (j.cps.toList<i.cps.toList))) H
theorem oA:L2.OpR X (PySem.compareOp .Gt) qp:=by
 intro Ga s σ H x y v u Q I n F h;obtain ⟨i,j,rfl,rfl,q⟩:=h;obtain ⟨t,rfl⟩:=n;obtain ⟨t',rfl⟩:=F;exact PySem.P.gt_str (zI I q rfl)
theorem pU:qp (.str i) (.str j) H Q=Q (.bl (decide (j.cps.toList<i.cps.toList))) H:=by
 refine propext {λ⟨x,y,n,F,q⟩=>?_,λq=>{_,_,rfl,rfl,q}};injection n with n;injection F with F
 subst n F;exact q
def aa(z:Str):Int:=(Gd z).getD 0
theorem lF{α:Type}{t:List (Str×α)}{a:α}(h:look t n=none):(zt t n a).length=t.length+1:=by
 unfold zt;rw [h];simp
theorem CD{i j:Nat}(G:i<=xs.length):z8 xs (some (i:Int)) (some (j:Int))=(xs.drop i).take (j-i):=by
 have n:HT.sIx xs.length 0 (some (i:Int))=i:=by
  unfold HT.sIx;simp only;split<;>omega
 have F:HT.sIx xs.length xs.length (some (j:Int))=min j xs.length:=by
  unfold HT.sIx;simp only;split<;>omega
 unfold z8;rw [n,F];rw [List.take_eq_take_iff,Ha];omega
structure CJ(H:Hp)(a:Addr)(bs:List Str)(i:Nat)(τ:L2.St)(ys:List V)(H':Hp):Prop where
 ex:∃t,τ=[t]
 ys:ys=(bs.take i).map λz=>V.bl (zC z)
 same:zg H H'
 sq:H' a=some (.lst (bs.map V.str))
structure yM(H:Hp)(bs:List Str)(i:Nat)(τ:L2.St)(ys:List V)(H':Hp):Prop where
 ex:∃t,τ=[t]
 ys:ys=(bs.take i).map λz=>V.int (aa z)
 same:H'=H
theorem eW(h:Gd z=some i):aa z=i:=by unfold aa;rw [h];rfl
theorem cR(z:Str)(ws:List Str):ay (z::ws)=if zC z=true then some (aa z,ws) else none:=rfl
theorem jB:∀(n:Nat)(l:List Int)(ws:List Str),aH n l ws=if n<=ws.length/\(ws.take n).all zC=true then some (l++(ws.take n).map aa,ws.drop n) else none
 | 0,l,ws=>by
  rw [if_pos {Gr _,'s'}];simp [aH]
 | n+1,l,[]=>by
  rw [if_neg (λh=>by have:=h.1;simp at this)];rfl
 | n+1,l,z::ws=>by
  have e:aH (n+1) l (z::ws)=(ay (z::ws)).bind λa=>aH n (l++[a.1]) a.2:=rfl;rw [e,cR];by_cases F:zC z=true
  .rw [if_pos F];show aH n (l++[aa z]) ws=_;rw [jB n];simp [F]
  .rw [if_neg F,if_neg (λh=>F (by have:=h.2;simp at this;exact this.1))];rfl
theorem ox:∀(l:List Nat)(a:Nat),a<=l.foldl (λZT c=>ZT*10+(c-48)) a
 | [],_=>EF _
 | c::l,a=>EL (by omega) (ox l (a*10+(c-48)))
theorem mB(h:zC z=true):(aa z=0)↔z="0":=by
 refine {λe=>Fg λJ=>?_,λe=>by subst e;decide +kernel};unfold zC ae at h;rw [EJ,EJ,EJ,decide_eq_true_eq,decide_eq_true_eq,decide_eq_false J,Bool.false_or] at h;obtain ⟨⟨⟨h1,h2⟩,h3⟩,h4⟩:=h;have hd:∀c∈sg z,48<=c/\c<=57:=by
  intro c hc;have:=EZ.mp h3 c hc;have F:sg FIG=[48,49,50,51,52,53,54,55,56,57]:=by decide
  rw [F] at this;have:=FB.mp this;simp only [EI,FW,or_false] at this;omega
 obtain ⟨c,cs,ec⟩:∃c cs,sg z=c::cs:=FC (by rw [zE];omega);have G:=eW (intText_digits (x:=z) hd (λe=>by rw [show sg z=[] from e] at ec;cases ec) 'l');have hc:c≠48:=λx=>by
  rw [ec,x] at h4;have h4:(!decide (tx [48]="0"))=true:=h4;exact absurd h4 'd'
 have b:=hd c (by rw [ec];exact Er ..);rw [G] at e;have n:(sg z).foldl (λZT c=>ZT*10+(c-48)) 0=0:=by exact_mod_cast e
 rw [ec] at n;have:=ox cs (0*10+(c-48));have n:cs.foldl (λZT c=>ZT*10+(c-48)) (0*10+(c-48))=0:=n;omega
theorem fA(y z:Str)(ws:List Str):bf y (z::ws)=if zv z=true/\y.cps.toList<z.cps.toList then some (z,ws) else none:=by
 have e:gP (z::ws)=if zv z=true then some (z,ws) else none:=rfl;unfold bf;rw [e];by_cases n:zv z=true
 .by_cases F:y.cps.toList<z.cps.toList
  .rw [if_pos n,if_pos ⟨n,F⟩];exact if_pos F
  .rw [if_pos n,if_neg λh=>F h.2];exact if_neg F
 .rw [if_neg n,if_neg λh=>n h.1]
theorem w5(h:ws.length<=1):zT (c+1) u y ws=none:=by
 have e:zT (c+1) u y ws=(bf y ws).bind λa=>(ay a.2).bind λb=>if b.1=0 then none else (aH b.1.toNat [] b.2).bind λd=>zT c (zt u a.1 d.1) a.1 d.2:=rfl;rw [e];cases ws with
 | nil=>rfl
 | cons z ws =>
  have:ws=[]:=Fk.mp (by simp at h;simp [h]);subst this;rw [fA];split<;>rfl
theorem sr(c:Nat)(u:Tab)(y z x:Str)(ws:List Str):zT (c+1) u y (z::x::ws)=if zv z=true/\y.cps.toList<z.cps.toList then (if zC x=true/\x≠"0" then (if (aa x).toNat<=ws.length/\(ws.take (aa x).toNat).all zC=true then zT c (zt u z ((ws.take (aa x).toNat).map aa)) z (ws.drop (aa x).toNat) else none) else none) else none:=by
 have e:zT (c+1) u y (z::x::ws)=(bf y (z::x::ws)).bind λa=>(ay a.2).bind λb=>if b.1=0 then none else (aH b.1.toNat [] b.2).bind λd=>zT c (zt u a.1 d.1) a.1 d.2:=rfl;rw [e,fA];by_cases h1:zv z=true/\y.cps.toList<z.cps.toList
 .rw [if_pos h1,if_pos h1];show (ay (x::ws)).bind _=_;rw [cR];by_cases h2:zC x=true
  .rw [if_pos h2];show (if aa x=0 then none else _)=_;by_cases h3:x="0"
   .rw [if_pos ((mB h2).mpr h3),if_neg λh=>h.2 h3]
   .rw [if_neg (λz=>h3 ((mB h2).mp z)),if_pos ⟨h2,h3⟩];show (aH (aa x).toNat [] ws).bind _=_;rw [jB];split<;>rfl
  .rw [if_neg h2,if_neg λh=>h2 h.1];rfl
 .rw [if_neg h1,if_neg h1];rfl
structure Md2(H0 H:Hp)(d:Addr)(t:Tab):Prop where
 ex:∃kvs,H d=some (.dK (sk kvs))/\Dct (λv (l:List Int)=>∃a,v = .ref a/\H a=some (.lst (l.map V.int))/\H0 a=none) kvs t
 no:H0 d=none
structure Ao(H:Hp)(zs pre ws:List Str)(Q:VK):Prop where
 e:pre++ws=zs
 l:zs.length<=900
 w:∀z∈zs,asc z=true/\z.length<=200000
 q:∀u r,rdT ws=some (u,r)->∀pre',pre'++r=zs->∀p d H',zg H H'->H p=none->H' p=some (.tup [.ref d,.int pre'.length])->Md2 H H' d u->Q (.ref p) H'
 n:rdT ws=none->∀p i H',zg H H'->H p=none->H' p=some (.tup [.non,.int i])->Q (.ref p) H'
def mv:Sp:=λvs H Q _=>∃(a:Addr)(zs pre ws:List Str),vs=[.ref a,.int pre.length]/\H a=some (.lst (zs.map V.str))/\Ao H zs pre ws Q
structure pX(H:Hp)(a d:Addr)(zs:List Str)(N:Int)(R:Option (Tab×List Str))(m:Nat)(σ:L2.St)(H':Hp):Prop where
 ex:∃pre ws u y t5,σ=[some (V.ref a),some (.int (pre.length:Nat)),some (.int N),some (.ref d),some (.str y),t5]/\pre++ws=zs/\Md2 H H' d u/\cf u y/\zT m u y ws=R/\u.length+m=N.toNat/\u.length<=pre.length
 same:zg H H'
theorem dB:zB Yy Yz (zp fT):=fsc
theorem uH:bP { kind:=.function,names:=[(Es ".0",.local),(Es "_law_birth_here",.local),(Es "_law_is_number",.globalImplicit)],isGenerator:=false,isCoroutine:=false,more:=[] } (zp fT).names Yy Ya [none]=true:=by decide +kernel
theorem yJ:(Ya:List Str).Nodup:=by decide +kernel
theorem vT:bP { kind:=.function,names:=[(Es ".0",.local),(Es "_law_birth_here",.local),(Es "int",.globalImplicit)],isGenerator:=false,isCoroutine:=false,more:=[] } (zp fT).names Yy Ya [none]=true:=by decide +kernel
theorem uL:(Ya:List Str).Nodup:=by decide +kernel
theorem wV(F:Fun K XG XG fT f fd)(T:Txt K mg A)(Z5:GF P w K mg base true 1 XM Ys (bX zC))(ZW:GF P w K mg base true 1 XF Ys (bX zv)):zr P w K mg base CX0 true 2 f fd Yz mv:=by
 refine F.o dB λZX Ar outer s H vs Q E hr h=>?_;obtain ⟨a,zs,pre,ws,rfl,ha,ok⟩:=h;have hu:_<cLine:=Fc (zR hr);have b6:=ok.l;refine {_,(W.h (ze (zL (cu (bJ (tD (zH (clO (oI0 jg)) (clE (zb 1)) (clE (zA bG rfl T.o2 EK (za (zb 0) zc))) (zF _))) (cK (aY (aX (caD (zy Z5 hr rfl (clP (za (zJ aq (zb 0) (zb 1) (λ_ _=>rfl)) zc)))))))))
   (zi (zz (bg (za aN (za (zb 1) zc)))))
   zN)
   (ze (zw (i:=2) dB.nd rfl (EA rfl) (aW eJ rfl T.Jm HY (za (zJ aq (zb 0) (zb 1) (λ_ _=>rfl)) zc)))
   (ze (zw (i:=1) dB.nd rfl (EA rfl) (zx zU (zb 1) zj))
   (ze (zw (i:=3) dB.nd rfl (EA rfl) dG)
   (ze (zw (i:=4) dB.nd rfl (EA rfl) zq)
   (ze (oU Gj.never (tD (zH (clO (oI0 gJ)) (clE (zA gE rfl T.o2 EK (za (zb 3) zc))) (clE (zb 2)) (zF _)))
   (ze (zL (cu (bJ (tD (zH (clO (oI0 jg)) (clE (zx zU (zb 1) zj)) (clE (zA bG rfl T.o2 EK (za (zb 0) zc))) (zF _))) (bJ (aY (aX (caD (zy ZW hr rfl (clP (za (zJ aq (zb 0) (zb 1) (λ_ _=>rfl)) zc)))))) (cK (aY (tD (zH (clO oA) (clE (zJ aq (zb 0) (zb 1) (λ_ _=>rfl))) (clE (zb 4)) (zF _))))))))
   (zi (zz (bg (za aN (za (zb 1) zc)))))
   zN)
   (ze (zw (i:=4) dB.nd rfl (EA rfl) (zJ aq (zb 0) (zb 1) (λ_ _=>rfl)))
   (ze (zL (cu (bJ (aY (aX (caD (zy Z5 hr rfl (clP (za (zJ aq (zb 0) (zx zU (zb 1) zj) (λ_ _=>rfl)) zc)))))) (cK (tD (zH (clO (oE (bO hu))) (clE (zJ aq (zb 0) (zx zU (zb 1) zj) (λ_ _=>rfl))) (clE zq) (zF _))))))
   (zi (zz (bg (za aN (za (zb 1) zc)))))
   zN)
   (ze (zw (i:=5) dB.nd rfl (EA rfl) (cB cQ (zb 0) (bZ (zx zU (zb 1) zj)) (bZ (zx zU (zx zU (zb 1) zj) (zA (oI rfl) rfl T.LW boot_min (za (aW eJ rfl T.Jm HY (za (zJ aq (zb 0) (zx zU (zb 1) zj) (λ_ _=>rfl)) zc)) (za zj zc)))))))
   (ze (zL (cu (bJ (tD (zH (clO (oE (gD hu))) (clE (zA bG rfl T.o2 EK (za (zb 5) zc))) (clE (aW eJ rfl T.Jm HY (za (zJ aq (zb 0) (zx zU (zb 1) zj) (λ_ _=>rfl)) zc))) (zF _))) (cK (aY (aX (zA (rF rfl) rfl T.LX boot_all (za (cq (λ_=>rfl) (bo.of uH) (liD (cY (clE (zb 5)))) (λ_ _ _ _ _=>(zW (i:=0) yJ rfl (EA rfl))) (λ_ _ _ _ _=>c7) (λ_ _ _ _ _=>(caD (zy Z5 hr rfl (clP (za (zb 0) zc)))))) zc)))))))
   (zi (zz (bg (za aN (za (zb 1) zc)))))
   zN)
   (ze (bu (cq (λ_=>rfl) (bo.of vT) (liD (cY (clE (zb 5)))) (λ_ _ _ _ _=>(zW (i:=0) uL rfl (EA rfl))) (λ_ _ _ _ _=>c7) (λ_ _ _ _ _=>(aW eJ rfl T.Jm HY (za (zb 0) zc)))) (bR (zb 3) (zb 4) (dS (zR hr))))
   (zi (zw (i:=1) dB.nd rfl (EA rfl) (zx zU (zx zU (zb 1) zj) (zA bG rfl T.o2 EK (za (zb 5) zc))))))))))))
   (zi (zz (bg (za (zb 3) (za (zb 1) zc)))))))))))),?_}
 erw [ha];have b5:pre.length+ws.length=zs.length:=by rw [<- ok.e,EV]
 refine ah (λh1=>?_) λh1=>?_
 .have h1:=of_decide_eq_true h1;rw [En] at h1;have:ws=[]:=Fk.mp (by omega);exact {'d',λp H2 J=>ok.n (by rw [this];rfl) p _ H2 J.same J.no J.at_}
 obtain ⟨z0,r0,e0⟩:∃z r,ws=z::r:=FC (by
  refine Nat.pos_of_ne_zero λc=>h1 (decide_eq_true ?_);rw [En];omega)
 have at0:zs[pre.length]?=some z0:=by rw [<- ok.e,e0];simp
 have a9:=ok.w z0 (ER at0);have Yd:atI (zs.map V.str) (pre.length:Int)=some (V.str z0):=bx (by rw [E5,at0];rfl);refine {_,Yd,z0,rfl,a9.1,a9.2,λH1 s1=>?_};ac_rfl;by_cases Z:zC z0=true
 rotate_left
 .rw [E9.mpr Z];ac_rfl;exact {'d',λp H2 J=>ok.n (by unfold rdT;rw [e0,cR,if_neg Z];rfl) p _ H2 (s1.trans J.same) (s1.free J.no) J.at_}
 rw [Z];have b2:=s1 _ _ ha;erw [b2];obtain ⟨bA,N,eN,N0,N1⟩:=fm Z;have eR:rdT ws=zT N.toNat [] "" r0:=by unfold rdT;rw [e0,cR,if_pos Z,eW eN];rfl
 have a8:=ok.n;have bp:=ok.q;rw [eR] at a8 bp;refine {_,Yd,?_};ac_rfl;refine {bA,N,eN,λd H2 J=>?_};unfold j6;refine {pX H a d zs N (zT N.toNat [] "" r0),{N.toNat,{{pre++[z0],r0,[],"",none,?_,?_,{{[],J.at_,.nil},s1.free J.no},(λm hm=>nomatch hm),rfl,'s','s'},s1.trans J.same}},?_}
 .simp
 .rw [<- ok.e,e0];simp
 rintro m σ H3 ⟨⟨G,YV,u,y,t5,rfl,ez,md,hy,hR,hm,b7⟩,s3⟩;obtain ⟨kvs,ed,dc⟩:=md.ex;have a6:=s3 _ _ ha;have b3:G.length+YV.length=zs.length:=by rw [<- ez,EV]
 have lk:(sk kvs).length=u.length:=by rw [cN,dc.length]
 ac_rfl;refine {_,.inl ed,?_};rw [lk];cases m with
 | zero =>
  rw [decide_eq_false (show ¬ ((u.length:Nat):Int)<N by omega)];ac_rfl;have hR:some (u,YV)=zT N.toNat [] "" r0:=hR;refine {'d',λp H4 n4=>bp u YV hR.symm G ez p d H4 (s3.trans n4.same) (s3.free n4.no) n4.at_ {{kvs,n4.same _ _ ed,dc.imp λv l ⟨b,e,hb,nb⟩=>{b,e,n4.same _ _ hb,nb}},md.no}}
 | succ c =>
  rw [decide_eq_true (show ((u.length:Nat):Int)<N by omega)];ac_rfl;refine {pX H a d zs N (zT N.toNat [] "" r0) c,λb4 H' h=>{c,Hl _,h},_,.inl a6,?_};rw [En];have O:zT (c+1) u y YV=none->∀H4,zg H H4->2<=sizeLine/\∀(p:Addr)(H2:Hp),New H4 p (HO.tup [V.non,V.int (G.length:Nat)]) H2->Q (V.ref p) H2:=λe H4 s4=>{'d',λp H5 n5=>a8 (hR.symm.trans e) p _ H5 (s4.trans n5.same) (s4.free n5.no) n5.at_};refine ah (λh2=>O (w5 (by have:=of_decide_eq_true h2;omega)) H3 s3) λh2=>?_;have h2 : ¬ (zs.length:Int)<=G.length+1:=λz=>h2 (decide_eq_true z);obtain ⟨z,x,r,ew⟩:∃z x r,YV=z::x::r:=by
   match YV,b3 with
   | [],h=>simp at h;omega
   | [_],h=>simp at h;omega
   | z::x::r,_=>exact {z,x,r,rfl}
  subst ew;have g1:zs[G.length]?=some z:=by rw [<- ez];simp
  have g2:zs[G.length+1]?=some x:=by rw [<- ez];simp
  have i1:atI (zs.map V.str) (G.length:Int)=some (V.str z):=bx (by rw [E5,g1];rfl);have i2:atI (zs.map V.str) ((G.length:Int)+1)=some (V.str x):=bx (j:=G.length+1) (by rw [E5,g2];rfl);have w1:=ok.w z (ER g1);have w2:=ok.w x (ER g2);rw [sr] at O hR;refine {_,.inl a6,_,i1,z,rfl,w1.1,w1.2,λH4 s4=>?_};have a5:=s3.trans s4;have av:=s4 _ _ a6;ac_rfl;by_cases c1:zv z=true
  rotate_left
  .rw [E9.mpr c1];ac_rfl;exact O (if_neg λh=>c1 h.1) H4 a5
  rw [c1];ac_rfl;refine {_,.inl av,_,i1,?_};erw [pU];by_cases c2:y.cps.toList<z.cps.toList
  rotate_left
  .rw [decide_eq_false c2];ac_rfl;exact O (if_neg λh=>c2 h.2) H4 a5
  rw [decide_eq_true c2];rw [if_pos ⟨c1,c2⟩] at O hR;ac_rfl;refine {_,.inl av,_,i1,_,.inl av,_,i2,x,rfl,w2.1,w2.2,λH5 s5=>?_};have ag:=a5.trans s5;have ak:=s5 _ _ av;ac_rfl;by_cases c3:zC x=true
  rotate_left
  .rw [E9.mpr c3];ac_rfl;exact O (if_neg λh=>c3 h.1) H5 ag
  rw [c3];ac_rfl;refine {_,.inl ak,_,i2,?_};ac_rfl;by_cases c4:x="0"
  .rw [decide_eq_true c4];ac_rfl;exact O (if_neg λh=>h.2 c4) H5 ag
  rw [decide_eq_false c4];rw [if_pos ⟨c3,c4⟩] at O hR;obtain ⟨bb,M,eM,M0,M1⟩:=fm c3;rw [eW eM] at O hR;ac_rfl;refine {_,.inl ak,_,i2,?_};ac_rfl;refine {bb,M,eM,?_};ac_rfl;obtain ⟨k,hk⟩:∃k:Nat,(if 999<M then 999 else M)=(k:Int):={(if 999<M then 999 else M).toNat,by split<;>omega};rw [hk];ac_rfl;refine {_,ak,λb H6 n6=>?_};have ec:z8 (zs.map V.str) (some ((G.length:Int)+2)) (some ((G.length:Int)+2+(k:Int)))=(r.take k).map V.str:=by
   have:=CD (xs:=zs.map V.str) (i:=G.length+2) (j:=G.length+2+k) (by rw [En];omega);have e3:((G.length+2:Nat):Int)=(G.length:Int)+2:=by omega
   have e4:((G.length+2+k:Nat):Int)=(G.length:Int)+2+(k:Int):=by omega
   rw [e3,e4] at this;rw [this,<- map_drop,<- map_take,<- ez];congr 1;rw [List.drop_append,GK (by omega),G3,show G.length+2-G.length=2 from by omega,show G.length+2+k-(G.length+2)=k from by omega];rfl
  rw [ec] at n6;have bq:=ag.trans n6.same;have bt:=n6.same _ _ ak;have b0:H b=none:=ag.free n6.no;refine {_,.inl n6.at_,_,.inl bt,_,i2,?_};ac_rfl;refine {bb,M,eM,?_};ac_rfl;rw [En];have rl:r.length<=898:=by have:(z::x::r).length=r.length+2:=rfl;omega
  by_cases c5:((r.take k).length:Int)=M
  rotate_left
  .rw [decide_eq_false c5];ac_rfl;refine O (if_neg λh=>c5 ?_) H6 bq;rw [Fn];split at hk<;>omega
  rw [decide_eq_true c5];have ek:k=M.toNat/\k<=r.length:=by
   rw [Fn] at c5;split at hk<;>omega
  ac_rfl;refine {{_,SqL.of n6.at_},aQ.lst (xs:=(r.take k).map V.str) (CJ H6 b (r.take k)) (λi τ ys H' I=>?_) (λi τ ys H' I=>SqL.of I.sq) {{_,rfl},'s',zg.refl _,n6.at_} ?_ ?_}
  .rw [I.ys,En,Fn,Fn];exact aO (by omega)
  .intro N' i v τ ys H7 hv I hN;obtain ⟨t,rfl⟩:=I.ex;rw [E5] at hv;obtain ⟨v',S,rfl⟩:=FH.mp hv;have w3:=ok.w v' (by rw [<- ez];exact ET _ (Em _ (Em _ (HD (ER S)))));ac_rfl;refine {v',rfl,w3.1,w3.2,λH8 s8=>?_};ac_rfl;exact hN _ _ _ {{_,rfl},by rw [I.ys,Fw,S];simp,I.same.trans s8,s8 _ _ I.sq}
  .intro τ ys H7 I D H8 n8;have a4:zg H6 H8:=I.same.trans n8.same;have a3:=bq.trans a4;rw [I.ys,En,EU (EF _)] at n8;ac_rfl;refine {(r.take k).map zC,by rw [n8.at_,GT];rfl,?_};have ea:((r.take k).map zC).all id=(r.take k).all zC:=by rw [List.all_map];rfl
   rw [ea];ac_rfl;by_cases c6:(r.take k).all zC=true
   rotate_left
   .rw [E9.mpr c6];ac_rfl;exact O (if_neg λh=>c6 (by rw [ek.1];exact h.2)) H8 a3
   rw [c6];rw [<- ek.1,if_pos ⟨ek.2,c6⟩] at hR;have a7:H8 b=some (.lst ((r.take k).map V.str)):=a4 _ _ n6.at_;ac_rfl;refine {{_,SqL.of a7},aQ.lst (xs:=(r.take k).map V.str) (yM H8 (r.take k)) (λi τ ys H' I=>?_) (λi τ ys H' I=>by rw [I.same];exact SqL.of a7) {{_,rfl},'s',rfl} ?_ ?_}
   .rw [I.ys,En,Fn,Fn];exact aO (by omega)
   .intro N' i v τ ys H9 hv I hN;obtain ⟨t,rfl⟩:=I.ex;rw [E5] at hv;obtain ⟨v',S,rfl⟩:=FH.mp hv;obtain ⟨b1,vi,eV,_,_⟩:=fm (EZ.mp c6 v' (ER S));ac_rfl;exact {b1,vi,eV,hN _ _ _ {{_,rfl},by rw [I.ys,Fw,S];simp [eW eV],I.same}}
   .intro τ ys H9 I D2 H10 ax;rw [I.ys,I.same,En,EU (EF _)] at ax;have U:zg H8 H10:=ax.same;have a0:zg H3 H10:=((s4.trans s5).trans n6.same).trans (a4.trans U);have aI:=a0 _ _ ed;have ba:=U _ _ a7;erw [aI];refine {_,rfl,by rw [lk];exact aO (by omega),?_};rw [dA];have d0:H d=none:=md.no;have bd:b≠d:=λz=>by rw [z] at b0;have:=n6.no;rw [z,(s4.trans s5) _ _ ed] at this;cases this
    have D0:H D2=none:=a3.free ax.no;refine {_,.inl (by rw [zm bd];exact ba),{{G++z::x::r.take k,r.drop k,zt u z ((r.take k).map aa),z,some (.ref b),?_,?_,{{_,zG,?_},d0},hy.put c2,hR,?_,?_},?_}}
    .simp only [EV,EY,En];congr 5;omega
    .rw [<- ez];simp
    .have up:∀(v:V)(l:List Int),(∃a,v = .ref a/\H10 a=some (.lst (l.map V.int))/\H a=none)->∃a,v = .ref a/\upd H10 d (.dK (sk (zt kvs z (V.ref D2)))) a=some (.lst (l.map V.int))/\H a=none:=λv l ⟨a,e,hp,n⟩=>{a,e,by rw [zm (λz=>by rw [z,aI] at hp;cases hp)];exact hp,n};exact ((dc.imp λv l ⟨a,e,hp,n⟩=>{a,e,a0 _ _ hp,n}).put z {D2,rfl,by rw [ax.at_,GT];rfl,D0}).imp up
    .rw [lF (hy.new c2)];omega
    .have:=cJ (t:=u) (n:=z) (a:=(r.take k).map aa);simp only [EV,EY];omega
    .exact λc o e=>by rw [zm (z7 e d0)];exact (a3.trans U) c o e
abbrev kd:Stmt:=top 55
theorem Md2.same{t:Tab}(h:Md2 F H d t)(s:zg H H'):Md2 F H' d t:=let ⟨kvs,e,dc⟩:=h.ex;{{kvs,s _ _ e,dc.imp λv l ⟨a,e,hp,n⟩=>{a,e,s _ _ hp,n}},h.no}
theorem Md2.old{t:Tab}(h:Md2 H1 H d t)(s:zg F H1):Md2 F H d t:=let ⟨kvs,e,dc⟩:=h.ex;{{kvs,e,dc.imp λv l ⟨a,e,hp,n⟩=>{a,e,hp,s.free n}},s.free h.no}
theorem Md2.upd{F H:Hp}{d c:Addr}{t:Tab}{ks:List (Key×V)}{o:HO}(h:Md2 F H d t)(hc:H c=some (.dK ks))(n:d≠c):Md2 F (upd H c o) d t:=let ⟨kvs,e,dc⟩:=h.ex;{{kvs,by rw [zm n];exact e,dc.imp λv l ⟨a,e,hp,n⟩=>{a,e,by rw [zm (λz=>by rw [z,hc] at hp;cases hp)];exact hp,n}},h.no}
def dj(ws:List Str):Option (List (Str×Tab)×List Str):=(ay ws).bind λb=>rdK b.1.toNat [] "" b.2
structure Mk2(H0 H:Hp)(d:Addr)(ks:List (Str×Tab)):Prop where
 ex:∃kvs,H d=some (.dK (sk kvs))/\Dct (λv t=>∃d',v = .ref d'/\Md2 H0 H d' t/\d'≠d) kvs ks
 no:H0 d=none
structure Bn(H:Hp)(zs pre ws:List Str)(Q:VK):Prop where
 e:pre++ws=zs
 l:zs.length<=900
 w:∀z∈zs,asc z=true/\z.length<=200000
 q:∀ks,dj ws=some (ks,[])->∀d H',zg H H'->Mk2 H H' d ks->Q (.ref d) H'
 n:(∀ks,dj ws≠some (ks,[]))->∀H',zg H H'->Q .non H'
def tT:Sp:=λvs H Q _=>∃(a:Addr)(zs pre ws:List Str),vs=[.ref a,.int pre.length]/\H a=some (.lst (zs.map V.str))/\Bn H zs pre ws Q
structure pP(H:Hp)(a d:Addr)(zs:List Str)(N:Int)(R:Option (List (Str×Tab)×List Str))(m:Nat)(σ:L2.St)(H':Hp):Prop where
 ex:∃pre ws us y t5,σ=[some (V.ref a),some (.int (pre.length:Nat)),some (.int N),some (.ref d),some (.str y),t5]/\pre++ws=zs/\Mk2 H H' d us/\cf us y/\rdK m us y ws=R/\us.length+m=N.toNat/\us.length<=pre.length
 same:zg H H'
theorem dF:zB ["_law_words_here","_law_at_here","_law_many","_law_kept","_law_ahead","_law_model_here"] Yz (zp kd):=fsc
theorem CF(F:Fun K Xs Xs kd f fd)(T:Txt K mg A)(Z5:GF P w K mg base true 1 XM Ys (bX zC))(ZW:GF P w K mg base true 1 XF Ys (bX zv))(ZY:GF P w K mg base true 2 XG Yz mv):zr P w K mg base CX0 true 3 f fd Yz tT:=by
 refine F.o dF λZX Ar outer s H vs Q E hr h=>?_;obtain ⟨a,zs,pre,ws,rfl,ha,ok⟩:=h;have hu:_<cLine:=Fc (zR hr);have a7:=ok.l;refine {_,(W.h (ze (zL (cu (bJ (tD (zH (clO (oI0 jg)) (clE (zb 1)) (clE (zA bG rfl T.o2 EK (za (zb 0) zc))) (zF _))) (cK (aY (aX (caD (zy Z5 hr rfl (clP (za (zJ aq (zb 0) (zb 1) (λ_ _=>rfl)) zc)))))))))
   (zi (zz aN))
   zN)
   (ze (zw (i:=2) dF.nd rfl (EA rfl) (aW eJ rfl T.Jm HY (za (zJ aq (zb 0) (zb 1) (λ_ _=>rfl)) zc)))
   (ze (zw (i:=1) dF.nd rfl (EA rfl) (zx zU (zb 1) zj))
   (ze (zw (i:=3) dF.nd rfl (EA rfl) dG)
   (ze (zw (i:=4) dF.nd rfl (EA rfl) zq)
   (ze (oU Gj.never (tD (zH (clO (oI0 gJ)) (clE (zA gE rfl T.o2 EK (za (zb 3) zc))) (clE (zb 2)) (zF _)))
   (ze (zL (cu (bJ (tD (zH (clO (oI0 jg)) (clE (zb 1)) (clE (zA bG rfl T.o2 EK (za (zb 0) zc))) (zF _))) (bJ (aY (aX (caD (zy ZW hr rfl (clP (za (zJ aq (zb 0) (zb 1) (λ_ _=>rfl)) zc)))))) (cK (aY (tD (zH (clO oA) (clE (zJ aq (zb 0) (zb 1) (λ_ _=>rfl))) (clE (zb 4)) (zF _))))))))
   (zi (zz aN))
   zN)
   (ze (zw (i:=4) dF.nd rfl (EA rfl) (zJ aq (zb 0) (zb 1) (λ_ _=>rfl)))
   (ze (bu (caD (zy ZY hr rfl (clP (za (zb 0) (za (zx zU (zb 1) zj) zc))))) (iF (n:=2) (gsD (cZ (zW (i:=5) dF.nd rfl (EA rfl)) (gsD (cZ (zW (i:=1) dF.nd rfl (EA rfl)) iV))))))
   (ze (zL (tD (zH (clO mF) (clE (zb 5)) (clE aN) (zF _)))
   (zi (zz aN))
   zN)
   (zi (bu (zb 5) (bR (zb 3) (zb 4) (dS (zR hr))))))))))
   (zi (zz (gL (tD (zH (clO (oE (bO hu))) (clE (zb 1)) (clE (zA bG rfl T.o2 EK (za (zb 0) zc))) (zF _))) (zb 3) aN)))))))))),?_}
 erw [ha];have a8:pre.length+ws.length=zs.length:=by rw [<- ok.e,EV]
 refine ah (λh1=>?_) λh1=>?_
 .have h1:=of_decide_eq_true h1;rw [En] at h1;have:ws=[]:=Fk.mp (by omega);exact ok.n (λks e=>by rw [this] at e;cases e) H (zg.refl _)
 obtain ⟨z0,r0,e0⟩:∃z r,ws=z::r:=FC (by
  refine Nat.pos_of_ne_zero λc=>h1 (decide_eq_true ?_);rw [En];omega)
 have at0:zs[pre.length]?=some z0:=by rw [<- ok.e,e0];simp
 have ak:=ok.w z0 (ER at0);have Yd:atI (zs.map V.str) (pre.length:Int)=some (V.str z0):=bx (by rw [E5,at0];rfl);refine {_,Yd,z0,rfl,ak.1,ak.2,λH1 s1=>?_};ac_rfl;by_cases O:zC z0=true
 rotate_left
 .rw [E9.mpr O];ac_rfl;exact ok.n (λks e=>by unfold dj at e;rw [e0,cR,if_neg O] at e;cases e) H1 s1
 rw [O];have a4:=s1 _ _ ha;erw [a4];obtain ⟨a3,N,eN,N0,N1⟩:=fm O;have eR:dj ws=rdK N.toNat [] "" r0:=by unfold dj;rw [e0,cR,if_pos O,eW eN];rfl
 have ag:=ok.n;have av:=ok.q;rw [eR] at ag av;refine {_,Yd,?_};ac_rfl;refine {a3,N,eN,λd H2 n2=>?_};unfold j6;refine {pP H a d zs N (rdK N.toNat [] "" r0),{N.toNat,{{pre++[z0],r0,[],"",none,?_,?_,{{[],n2.at_,.nil},s1.free n2.no},(λm hm=>nomatch hm),rfl,'s','s'},s1.trans n2.same}},?_}
 .simp
 .rw [<- ok.e,e0];simp
 rintro m σ H3 ⟨⟨ZJ,YV,us,y,t5,rfl,ez,md,hy,G,hm,a9⟩,s3⟩;obtain ⟨kvs,ed,dc⟩:=md.ex;have S:=s3 _ _ ha;have a0:ZJ.length+YV.length=zs.length:=by rw [<- ez,EV]
 have lk:(sk kvs).length=us.length:=by rw [cN,dc.length]
 ac_rfl;refine {_,.inl ed,?_};rw [lk];cases m with
 | zero =>
  rw [decide_eq_false (show ¬ ((us.length:Nat):Int)<N by omega)];erw [S];have G:some (us,YV)=rdK N.toNat [] "" r0:=G;rw [En];refine ah (λh2=>?_) λh2=>?_
  .have h2:=of_decide_eq_true h2;have:YV=[]:=Fk.mp (by omega);subst this;exact av us G.symm d H3 s3 md
  .refine ag (λks e=>h2 (decide_eq_true ?_)) H3 s3;rw [e] at G;injection G with G;injection G with _ G
   rw [G] at a0;simp at a0;omega
 | succ c =>
  rw [decide_eq_true (show ((us.length:Nat):Int)<N by omega)];ac_rfl;refine {pP H a d zs N (rdK N.toNat [] "" r0) c,λa6 H' h=>{c,Hl _,h},_,.inl S,?_};rw [En];have ZI:rdK (c+1) us y YV=none->∀H4,zg H H4->Q .non H4:=λe H4 s4=>ag (λks e'=>by rw [<- G,e] at e';cases e') H4 s4;refine ah (λh2=>ZI ?_ H3 s3) λh2=>?_
  .have:YV=[]:=Fk.mp (by have:=of_decide_eq_true h2;omega);rw [this];rfl
  have h2 : ¬ (zs.length:Int)<=ZJ.length:=λz=>h2 (decide_eq_true z);obtain ⟨z,r,ew⟩:∃z r,YV=z::r:=FC (by omega);subst ew;have g1:zs[ZJ.length]?=some z:=by rw [<- ez];simp
  have i1:atI (zs.map V.str) (ZJ.length:Int)=some (V.str z):=bx (by rw [E5,g1];rfl);have w1:=ok.w z (ER g1);have e1:rdK (c+1) us y (z::r)=if zv z=true/\y.cps.toList<z.cps.toList then (rdT r).bind λb=>rdK c (zt us z b.1) z b.2 else none:=by
   have e:rdK (c+1) us y (z::r)=(bf y (z::r)).bind λa=>(rdT a.2).bind λb=>rdK c (zt us a.1 b.1) a.1 b.2:=rfl;rw [e,fA];split<;>rfl
  rw [e1] at ZI G;refine {_,.inl S,_,i1,z,rfl,w1.1,w1.2,λH4 s4=>?_};have J:=s3.trans s4;have Z:=s4 _ _ S;ac_rfl;by_cases c1:zv z=true
  rotate_left
  .rw [E9.mpr c1];ac_rfl;exact ZI (if_neg λh=>c1 h.1) H4 J
  rw [c1];ac_rfl;refine {_,.inl Z,_,i1,?_};erw [pU];by_cases c2:y.cps.toList<z.cps.toList
  rotate_left
  .rw [decide_eq_false c2];ac_rfl;exact ZI (if_neg λh=>c2 h.2) H4 J
  rw [decide_eq_true c2];rw [if_pos ⟨c1,c2⟩] at ZI G;ac_rfl;refine {_,.inl Z,_,i1,?_};ac_rfl;refine {a,zs,ZJ++[z],r,'s',Z,{by rw [<- ez];simp,ok.l,ok.w,λu r2 eT U e2 p d2 H5 s5 p0 hp ax=>?_,λeT p i H5 s5 p0 hp=>?_}}
  rotate_left
  .ac_rfl;refine {p,_,rfl,SqT.of hp,rfl,?_};ac_rfl;exact ZI (by rw [eT];rfl) H5 (J.trans s5)
  ac_rfl;refine {p,_,rfl,SqT.of hp,rfl,?_};rw [eT] at G;have G:rdK c (zt us z u) z r2=rdK N.toNat [] "" r0:=G;have aI:=s5 _ _ (s4 _ _ ed);erw [aI];refine {_,rfl,by rw [lk];exact aO (by omega),?_};rw [dA];have a5:=J.trans s5;have d0:H d=none:=md.no;have dn:d2≠d:=λz=>by have:=ax.no;rw [z,s4 _ _ ed] at this;cases this
  have l2:=fH eT;have l3:U.length+r2.length=zs.length:=by rw [<- e2,EV]
  have l4:(z::r).length=r.length+1:=rfl;refine {{U,r2,zt us z u,z,some (.ref d2),rfl,e2,{{_,zG,?_},d0},hy.put c2,G,by rw [lF (hy.new c2)];omega,by rw [lF (hy.new c2)];omega},?_}
  .have up:∀(v:V)(t:Tab),(∃d',v = .ref d'/\Md2 H H5 d' t/\d'≠d)->∃d',v = .ref d'/\Md2 H (upd H5 d (.dK (sk (zt kvs z (V.ref d2))))) d' t/\d'≠d:=λv t ⟨d',e,m,n⟩=>{d',e,m.upd aI n,n};exact ((dc.imp λv t ⟨d',e,m,n⟩=>{d',e,m.same (s4.trans s5),n}).put z {d2,rfl,ax.old J,dn}).imp up
  .exact λc o e=>by rw [zm (z7 e d0)];exact a5 c o e
abbrev lT:Stmt:=top 56
theorem B8{r:List Str}(h:rdT (wds z)=some (u,r)):rdX z=(dj r).bind λc=>if c.2=[] then some (u,c.1) else none:=by
 unfold rdX rdF;rw [h];show ((((ay r).bind λb=>(rdK b.1.toNat [] "" b.2).map λc=>((u,c.1),c.2))).bind _)=_;unfold dj;cases ay r with
 | none=>rfl
 | some b =>
  show (((rdK b.1.toNat [] "" b.2).map λc=>((u,c.1),c.2)).bind _)=(rdK b.1.toNat [] "" b.2).bind _;cases rdK b.1.toNat [] "" b.2 with
  | none=>rfl
  | some c=>rfl
theorem DU(h:rdT (wds z)=none):rdX z=none:=by
 unfold rdX rdF;rw [h];rfl
theorem Mk2.old(h:Mk2 H1 H d ks)(s:zg F H1):Mk2 F H d ks:=let ⟨kvs,e,dc⟩:=h.ex;{{kvs,e,dc.imp λv t ⟨d',e,m,n⟩=>{d',e,m.old s,n}},s.free h.no}
theorem Mk2.same(h:Mk2 F H d ks)(s:zg H H'):Mk2 F H' d ks:=let ⟨kvs,e,dc⟩:=h.ex;{{kvs,s _ _ e,dc.imp λv t ⟨d',e,m,n⟩=>{d',e,m.same s,n}},h.no}
structure wo(H:Hp)(z:Str)(Q:VK):Prop where
 a:asc z=true
 l:z.length<=200000
 w:(wds z).length<=900
 q:∀u us,rdX z=some (u,us)->∀p d k H',zg H H'->H p=none->H' p=some (.tup [.ref d,.ref k])->Md2 H H' d u->Mk2 H H' k us->Q (.ref p) H'
 n:rdX z=none->∀H',zg H H'->Q .non H'
def pK(K:Frag):Sp:=λvs H Q _=>∃(v:V),vs=[v]/\((∃z,v = .str z/\wo H z Q)\/(∃t,TyX K H v t/\kitOne K t (.type "str")=some false/\Q .non H))
theorem gG:zB ["_law_text_here","_law_words_here","_law_model_here","_law_at_here","_law_kept"] X9 (zp lT):=fsc
theorem AQ(F:Fun K "_law_due" "_law_due" lT f fd)(T:Txt K mg A)(ZY:GF P w K mg base true 2 XG Yz mv)(Zy:GF P w K mg base true 3 Xs Yz tT):zr P w K mg base CX0 true 4 f fd X9 (pK K):=by
 refine F.o gG λZX Ar outer s H vs Q E hr h=>?_;obtain ⟨v,rfl,h⟩:=h;have hu:_<cLine:=Fc (zR hr);refine {_,(W.h (ze (zL (aY (aX (zA fS rfl T.i3 ES (za (zb 0) (za (fE rfl T.IV Hq (v:=.ty "str") rfl) zc)))))
   (zi (zz aN))
   zN)
   (ze (zw (i:=1) gG.nd rfl (EA rfl) (l9 (zb 0) zq))
   (ze (bu (caD (zy ZY hr rfl (clP (za (zb 1) (za zj zc))))) (iF (n:=2) (gsD (cZ (zW (i:=2) gG.nd rfl (EA rfl)) (gsD (cZ (zW (i:=3) gG.nd rfl (EA rfl)) iV))))))
   (ze (zw (i:=4) gG.nd rfl (EA rfl) (gL (tD (zH (clO mF) (clE (zb 2)) (clE aN) (zF _))) aN (caD (zy Zy hr rfl (clP (za (zb 1) (za (zb 3) zc)))))))
   (zi (zz (gL (tD (zH (clO mF) (clE (zb 4)) (clE aN) (zF _))) aN (bg (za (zb 2) (za (zb 4) zc))))))))))),?_}
 ac_rfl;rcases h with ⟨z,rfl,h⟩|⟨t,ht,hf,qe⟩
 rotate_left
 .refine {_,_,_,_,_,rfl,rfl,ht,hf,?_};ac_rfl;exact qe
 refine {_,_,_,_,_,rfl,rfl,.of (.str _),rfl,?_};have hz:=h.l;have hw:=h.w;ac_rfl;refine {'d',aO (by omega),aA (by show (wds z).length<=_;omega),λl H1 U=>?_};have hl:H1 l=some (.lst ((wds z).map V.str)):=U.at_;have wz:∀v∈wds z,asc v=true/\v.length<=200000:=λv hv=>{jJ h.a (eQ hv).2,EL (eQ hv).1 hz};refine {l,wds z,[],wds z,rfl,hl,{rfl,hw,wz,λu r Z O e2 p d H2 s2 p0 hp md=>?_,λZ p i H2 s2 p0 hp=>?_}}
 rotate_left
 .ac_rfl;refine {p,_,rfl,SqT.of hp,rfl,?_};ac_rfl;exact h.n (DU Z) H2 (U.same.trans s2)
 ac_rfl;refine {p,_,rfl,SqT.of hp,rfl,?_};have eX:=B8 Z;have G:=U.same.trans s2;ac_rfl;refine {l,wds z,O,r,rfl,s2 _ _ hl,{e2,hw,wz,λks eK k H3 J mk=>?_,λeK H3 J=>?_}}
 .ac_rfl;exact {'d',λp4 H4 S=>h.q u ks (by rw [eX,eK];rfl) p4 d k H4 ((G.trans J).trans S.same) ((G.trans J).free S.no) S.at_ ((md.old U.same).same (J.trans S.same)) ((mk.old G).same S.same)}
 .ac_rfl;refine h.n ?_ H3 (G.trans J);rw [eX];cases e:dj r with
  | none=>rfl
  | some c =>
   obtain ⟨ks,r'⟩:=c;exact if_neg λz=>eK ks (by rw [e,show r'=[] from z])
end
theorem iQ(c:Nat)(t:List Nat):zS c (c::t)=[]::zS c t:=if_pos rfl
theorem kS:∀l:List Nat,(zS c l).length=l.count c+1/\((zS c l).map length).sum+l.count c=l.length
 | []=>{rfl,rfl}
 | x::l=>by
  have n:=kS (c:=c) l;by_cases e:x=c
  .subst e;rw [iQ,List.count_cons_self];simp only [EY,Fq,IL,G5];omega
  .obtain ⟨a,r,F⟩:=cx c l;rw [c8 c x l e,List.count_cons_of_ne e];rw [F] at n ⊢;show ((x::a)::r).length=_/\(List.map length ((x::a)::r)).sum+_=_;simp only [EY,Fq,IL] at n ⊢;omega
theorem iC:∀{l v:List Nat},v∈zS c l->c∉v
 | [],v,h=>by rw [Fj.mp h];simp
 | x::l,v,h=>by
  by_cases e:x=c
  .subst e;rw [iQ] at h;rcases EI.mp h with rfl|h
   .simp
   .exact iC h
  .obtain ⟨a,r,n⟩:=cx c l;rw [c8 c x l e,n] at h;rcases EI.mp h with rfl|h
   .intro z;rcases EI.mp z with z|z
    .exact e z.symm
    .exact iC (v:=a) (by rw [n];exact Er ..) z
   .exact iC (v:=v) (by rw [n];exact Em _ h)
section
variable {c:Nat}{p:List Nat->Bool}
def Fst(c:Nat)(l:List Nat):List Nat:=(zS c l).headD []
def Ftl(c:Nat)(p:List Nat->Bool)(l:List Nat):Nat:=(zS c l).tail.countP p
theorem eS(l:List Nat):(zS c l).countP p=Ftl c p l+if p (Fst c l)=true then 1 else 0:=by
 unfold Ftl Fst;obtain ⟨a,r,n⟩:=cx c l;rw [n];exact Ft
theorem hX(l:List Nat):Ftl c p (c::l)=(zS c l).countP p:=by unfold Ftl;rw [iQ];rfl
theorem mX(l:List Nat):Fst c (c::l)=[]:=by unfold Fst;rw [iQ];rfl
theorem jj(e:x≠c)(l:List Nat):Ftl c p (x::l)=Ftl c p l:=by
 unfold Ftl;obtain ⟨a,r,n⟩:=cx c l;rw [c8 c x l e,n];rfl
theorem tR(e:x≠c)(l:List Nat):Fst c (x::l)=x::Fst c l:=by
 unfold Fst;obtain ⟨a,r,n⟩:=cx c l;rw [c8 c x l e,n];rfl
theorem Cc(x l:List Nat):Ftl c p l<=Ftl c p (x++l):=by
 induction x with
 | nil=>exact EF _
 | cons y x n =>
  rw [Hd];by_cases e:y=c
  .subst e;rw [hX,eS];omega
  .rw [jj e];exact n
theorem yl(a x d b:List Nat)(F:x.length<=1):(zS c (a++x++b)).countP p<=(zS c (a++d++b)).countP p+2:=by
 have G:Ftl c p (x++b)<=Ftl c p (d++b)+1:=by
  have h:=Cc (c:=c) (p:=p) d b
  match x,F with
  | [],_=>exact GH h
  | [y],_ =>
   show Ftl c p (y::b)<=_;by_cases e:y=c
   .subst e;rw [hX,eS];split<;>omega
   .rw [jj e];omega
 have h1:Ftl c p (a++(x++b))<=Ftl c p (a++(d++b))+1\/(Ftl c p (a++(x++b))<=Ftl c p (a++(d++b))+2/\Fst c (a++(x++b))=Fst c (a++(d++b))):=by
  induction a with
  | nil=>exact .inl G
  | cons y a n =>
   rw [Hd,Hd];by_cases e:y=c
   .subst e;rw [hX,hX,mX,mX,eS,eS];refine .inr {?_,rfl};rcases n with n|⟨n,e⟩
    .split<;>split<;>omega
    .rw [e];omega
   .rw [jj e,jj e,tR e,tR e];exact n.imp id λ⟨h,e⟩=>{h,by rw [e]}
 rw [FD,FD,eS,eS];rcases h1 with h|⟨h,e⟩
 .split<;>split<;>omega
 .rw [e];omega
end
theorem rW:∀(l:List Nat)(i a:Nat)(h:i<l.length),(l.set i a).sum+l[i]=l.sum+a
 | x::l,0,a,_=>by simp;omega
 | x::l,i+1,a,h=>by
  have:=rW l i a (by simpa using h);simp only [Ib,IL,List.getElem_cons_succ];omega
theorem iZ{α:Type}{p:α->Bool}:∀(l:List α)(i:Nat)(a:α),(l.set i a).countP p<=l.countP p+1
 | [],_,_=>by simp
 | x::l,0,a=>by simp only [List.set_cons_zero,Ft];split<;>split<;>omega
 | x::l,i+1,a=>by
  have:=iZ (p:=p) l i a;simp only [Ib,Ft];omega
theorem jv(z:Str):(wds z).length=(sg z).count 32+1:=by rw [dh,En];exact (kS _).1
def aS(ws:List Str):Nat:=(ws.map (·.length)).sum+ws.length
theorem fL(a b:List Str):aS (a++b)=aS a+aS b:=by
 unfold aS;rw [FY,List.sum_append,EV];omega
theorem lC(x:Str)(b:List Str):aS (x::b)=x.length+1+aS b:=by
 unfold aS;rw [Fq,IL,EY];omega
theorem fe(z:Str):aS (wds z)=z.length+1:=by
 unfold aS;have h:=kS (c:=32) (sg z);rw [jv,dh,GT];have e:((λx:Str=>x.length)∘tx)=length:=funext λl=>gq l;have n:(sg z).length=z.length:=zE z;rw [e];omega
theorem fY(ha:asc z=true)(h:v∈wds z):asc v=true/\32∉sg v:=by
 refine {jJ ha (eQ h).2,?_};rw [dh] at h;obtain ⟨l,n,rfl⟩:=Gf.mp h;rw [cW];exact iC n
theorem pL:∀(v:Str)(ws:List Str),sg (FG " " (v::ws))=sg v++((ws.map sg).map (32::·)).flatten:=by
 intro v ws;have e:FG " " (v::ws)=Str.join " " (v::ws):=StrLaws.glued_eq_join " " (v::ws);rw [e]
 induction ws generalizing v with
 | nil=>show sg v=_;simp
 | cons x ws n =>
  have n:=n x (StrLaws.glued_eq_join " " _);show sg (v++" "++Str.join " " (x::ws))=_;rw [cT,cT,n];have:sg (" ":Str)=[32]:=by decide
  rw [this];simp
theorem kJ(h:∀v∈ws,32∉sg v)(G:ws≠[]):wds (FG " " ws)=ws:=by
 cases ws with
 | nil=>exact absurd rfl G
 | cons v ws =>
  rw [dh,pL,ma (c:=32) (sg v) (ws.map sg) (λx n=>by
   rcases EI.mp n with rfl|n
   .exact h v (Er ..)
   .obtain ⟨y,F,rfl⟩:=Gf.mp n;exact h y (Em _ F)),Fq,gR,GT]
  congr 1;have:(tx∘sg)=id:=funext λz=>gR z;rw [this,map_id]
theorem si:FG " " ([]:List Str)="":=StrLaws.glued_eq_join " " []
theorem tK(h:∀v∈ws,asc v=true):asc (FG " " ws)=true:=by
 cases ws with
 | nil=>rw [si];decide +kernel
 | cons v ws =>
  have h':∀F∈v::ws,∀c∈sg F,c<128:=λF hv c hc=>by
   have:=h F hv;rw [eU,EZ] at this;exact of_decide_eq_true (this c hc)
  rw [eU,EZ,pL];intro c hc;refine decide_eq_true ?_;rcases Ff.mp hc with hc|hc
  .exact h' v (Er ..) c hc
  .obtain ⟨l,J,hc⟩:=List.mem_flatten.mp hc;obtain ⟨l',n,rfl⟩:=Gf.mp J;obtain ⟨y,G,rfl⟩:=Gf.mp n;rcases EI.mp hc with rfl|hc
   .decide
   .exact h' y (Em _ G) c hc
structure Spo(z z':Str):Prop where
 a:asc z'=true
 l:z'.length<=2*z.length+30
 w:(wds z').length<=(wds z).length+1
 n:(wds z').countP zv<=(wds z).countP zv+2
structure Ed(z:Str)(ws:List Str):Prop where
 h:∀v∈ws,asc v=true/\32∉sg v
 l:aS ws<=2*z.length+31
 w:ws.length<=(wds z).length+1
 n:ws.countP zv<=(wds z).countP zv+2
theorem Ed.fits(e:Ed z ws)(n:z.length<=200000):(ws.map (·.length)).sum+ws.length*(" ":Str).length<=16777216:=by
 have h:=e.l;unfold aS at h;rw [show (" ":Str).length=1 by decide];omega
theorem Ed.Mo(E:Ed z ws):Spo z (FG " " ws):=by
 obtain ⟨h,O,J,G⟩:=E;by_cases e:ws=[]
 .subst e;rw [si];have F:wds ""=[("":Str)]:=by rw [dh];decide +kernel
  refine {f!"",Gr _,?_,?_}
  .rw [F];exact Hx (Gr _)
  .rw [F];exact EL (f!"") (Gr _)
 .have n:=kJ (λv hv=>(h v hv).2) e;refine {tK λv hv=>(h v hv).1,?_,by rw [n];exact J,by rw [n];exact G};have:=fe (FG " " ws);rw [n] at this;omega
theorem t9{ws:List Str}(h:i<ws.length):ws.take i++ws[i]::ws.drop (i+1)=ws:=by rw [<- Gg h,GI]
section
variable {z:Str}{i j:Nat}
theorem vI(ha:asc z=true)(h:i<(wds z).length):Ed z ((wds z).take i++(wds z).drop (i+1)):=by
 have e:=t9 h;have l:=fe z;generalize (wds z).take i=p at e ⊢;generalize (wds z).drop (i+1)=q at e ⊢;refine Ed.mk (λv hv=>fY ha ?_) ?_ ?_ ?_
 .rw [<- e];rcases Ff.mp hv with hv|hv
  .exact Gi _ hv
  .exact ET _ (Em _ hv)
 .rw [<- e,fL,lC] at l;rw [fL];omega
 .rw [<- congrArg length e];simp only [EV,EY];omega
 .rw [<- congrArg (List.countP zv) e];simp only [Hz,Ft];omega
theorem qb(h:v∈wds z):v.length<=z.length:=(eQ h).1
theorem BM(ha:asc z=true)(n:y∈wds z):Ed z ((wds z).take i++[y]++(wds z).drop i):=by
 have e:=GI i (wds z);have l:=fe z;have F:=qb n;generalize (wds z).take i=p at e ⊢;generalize (wds z).drop i=q at e ⊢;refine Ed.mk (λv hv=>fY ha ?_) ?_ ?_ ?_
 .rcases Ff.mp hv with hv|hv
  .rcases Ff.mp hv with hv|hv
   .rw [<- e];exact Gi _ hv
   .rw [Fj.mp hv];exact n
  .rw [<- e];exact ET _ hv
 .rw [<- e,fL] at l;rw [fL,fL,lC];have:aS []=0:=rfl;omega
 .rw [<- congrArg length e];simp only [EV,EY,G5];omega
 .rw [<- congrArg (List.countP zv) e];simp only [Hz,Ft,List.countP_nil];split<;>omega
theorem kr(h:i<ws.length):aS (ws.set i v)+ws[i].length=aS ws+v.length:=by
 unfold aS;have:=rW (ws.map (·.length)) i v.length (by rw [En];exact h);rw [List.getElem_map] at this;rw [map_set,G4];omega
theorem CS(ha:asc z=true)(h:i<(wds z).length)(hv:asc v=true/\32∉sg v)(F:v.length<=20):Ed z ((wds z).set i v):=by
 have l:=fe z;have G:=kr (v:=v) h;refine Ed.mk (λu n=>?_) ?_ ?_ ?_
 .rcases GU n with n|rfl
  .exact fY ha n
  .exact hv
 .omega
 .rw [G4];omega
 .exact GH (iZ _ _ _)
theorem Dc(ha:asc z=true)(hi:i<(wds z).length)(F:j<(wds z).length):Ed z (((wds z).set i (wds z)[j]).set j (wds z)[i]):=by
 have l:=fe z;have J:=kr (v:=(wds z)[j]) hi;have G:=kr (ws:=(wds z).set i (wds z)[j]) (i:=j) (v:=(wds z)[i]) (by rw [G4];exact F);have e:((wds z).set i (wds z)[j])[j]'(by rw [G4];exact F)=(wds z)[j]:=by
  rw [List.getElem_set];split
  .rfl
  .rfl
 rw [e] at G;refine Ed.mk (λu n=>fY ha ?_) ?_ ?_ ?_
 .rcases GU n with n|rfl
  .rcases GU n with n|rfl
   .exact n
   .exact FT _
  .exact FT _
 .omega
 .rw [G4,G4];omega
 .exact EL (iZ _ _ _) (Hx (iZ _ _ _))
theorem AX(ha:asc z=true)(F:asc x=true)(J:x.length<=1){k:Nat}(e:sg z'=(sg z).take i++sg x++(sg z).drop (i+k)):Spo z z':=by
 have n:(sg z).take i++((sg z).drop i).take k++(sg z).drop (i+k)=sg z:=by
  rw [FD,<- List.drop_drop,GI,GI]
 have G:(sg x).length<=1:=by rw [zE];exact J
 have c1:(sg x).count 32<=(sg x).length:=List.count_le_length;refine {?_,?_,?_,?_}
 .rw [eU,EZ] at ha F ⊢;intro c hc;rw [e] at hc;rcases Ff.mp hc with hc|hc
  .rcases Ff.mp hc with hc|hc
   .exact ha c (HD hc)
   .exact F c hc
  .exact ha c (List.mem_of_mem_drop hc)
 .have h1:=congrArg length e;have h2:=congrArg length n;simp only [EV,zE] at h1 h2;rw [zE] at G;omega
 .have h1:=congrArg (List.count 32) e;have h2:=congrArg (List.count 32) n;rw [List.count_append,List.count_append] at h1 h2;rw [jv,jv];omega
 .rw [dh,dh,List.countP_map,List.countP_map];have h:=yl (c:=32) (p:=zv∘tx) ((sg z).take i) (sg x) (((sg z).drop i).take k) ((sg z).drop (i+k)) G;rw [n,<- e] at h;exact h
end
theorem kX{ws r:List Str}(h:ay ws=some (i,r)):∃z,ws=z::r:=by
 cases ws with
 | nil=>cases h
 | cons z ws =>
  rw [cR] at h;split at h
  .injection h with h;injection h with _ h;exact {z,by rw [h]}
  .cases h
theorem m7{ws r:List Str}(h:bf y ws=some (z,r)):ws=z::r/\zv z=true:=by
 cases ws with
 | nil=>cases h
 | cons v ws =>
  rw [fA] at h;split at h
  .rename_i n;injection h with h;injection h with h1 h2;exact {by rw [h1,h2],by rw [<- h1];exact n.1}
  .cases h
theorem m6:∀{n:Nat}{t u:Tab}{y:Str}{ws r:List Str},zT n t y ws=some (u,r)->(names t).Nodup->u.length+r.countP zv<=t.length+ws.countP zv/\(names u).Nodup/\∀p∈u,p∈t\/p.2.length<=ws.length
 | 0,_,_,_,_,_,h,J=>by injection h with h;injection h with h1 h2;rw [h1] at J;rw [h1,h2];exact {EF _,J,λp hp=>.inl hp}
 | n+1,t,u,y,ws,r,h,J=>by
  obtain ⟨⟨z,r1⟩,e,g⟩:=bind_some h;obtain ⟨⟨i,r2⟩,G,g⟩:=bind_some g;have g:(if i=0 then none else (aH i.toNat [] r2).bind λc=>zT n (zt t z c.1) z c.2)=some (u,r):=g;clear h;split at g
  .cases g
  .obtain ⟨⟨l,O⟩,F,g⟩:=bind_some g;obtain ⟨rfl,U⟩:=m7 e;obtain ⟨x,G⟩:=kX G;have G:r1=x::r2:=G;rw [jB] at F;split at F
   .injection F with F;injection F with e4 F
    have h3:O.countP zv<=r2.countP zv:=by rw [<- F];exact (List.drop_sublist _ _).countP_le
    have h1:zT n (zt t z l) z O=some (u,r):=g;obtain ⟨i1,i2,S⟩:=m6 h1 (fz J);have W:=cJ (t:=t) (n:=z) (a:=l);refine {?_,i2,λp hp=>?_}
    .rw [G,Ft,Ft,U];simp only [if_true];omega
    .have Z:O.length<=r2.length:=by rw [<- F,Ha];omega
     have l4:l.length<=r2.length:=by rw [<- e4,EV,En,Fn,G5];omega
     rw [G,EY,EY];rcases S p hp with h|h
     .rcases f9 h with h|h
      .exact .inl h
      .rw [h];exact .inr (by show l.length<=_;omega)
     .exact .inr (by omega)
   .cases F
theorem pk{ws r:List Str}(h:rdT ws=some (u,r)):u.length+r.countP zv<=ws.countP zv/\(names u).Nodup/\∀p∈u,p.2.length<=ws.length:=by
 obtain ⟨⟨i,r1⟩,e,g⟩:=bind_some h;clear h;obtain ⟨x,rfl⟩:=kX e;have g:zT i.toNat [] "" r1=some (u,r):=g;obtain ⟨h1,h2,h3⟩:=m6 g (by simp [names]);refine {?_,h2,λp hp=>?_}
 .rw [Ft];simp only [G5] at h1;omega
 .rcases h3 p hp with h|h
  .cases h
  .exact GH h
theorem qJ:∀{n:Nat}{ks us:List (Str×Tab)}{y:Str}{ws r:List Str},rdK n ks y ws=some (us,r)->(names ks).Nodup->us.length+r.countP zv<=ks.length+ws.countP zv/\(names us).Nodup/\∀p∈us,p∈ks\/(p.2.length<=ws.countP zv/\(names p.2).Nodup/\∀q∈p.2,q.2.length<=ws.length)
 | 0,_,_,_,_,_,h,F=>by injection h with h;injection h with h1 h2;rw [h1] at F ⊢;rw [h2];exact {EF _,F,λp hp=>.inl hp}
 | n+1,ks,us,y,ws,r,h,F=>by
  obtain ⟨⟨z,r1⟩,e,g⟩:=bind_some h;obtain ⟨⟨t,r2⟩,J,g⟩:=bind_some g;clear h;obtain ⟨rfl,Z⟩:=m7 e;obtain ⟨c1,S,O⟩:=pk J;have W:=fH J;have h1:rdK n (zt ks z t) z r2=some (us,r):=g;obtain ⟨i1,i2,U⟩:=qJ h1 (fz F);have lp:=cJ (t:=ks) (n:=z) (a:=t);have e3:(z::r1).countP zv=r1.countP zv+1:=by rw [Ft,Z];rfl
  simp only at c1 O W;refine {by omega,i2,λp hp=>?_};rcases U p hp with h|⟨h,h',h2⟩
  .rcases f9 h with h|h
   .exact .inl h
   .rw [h];exact .inr {by show t.length<=_;omega,S,λq G=>GH (O q G)}
  .exact .inr {by omega,h',λq G=>by have:=h2 q G;rw [EY];omega}
structure Few(z:Str)(u:Tab)(us:List (Str×Tab)):Prop where
 ul:u.length<=(wds z).countP zv
 un:(names u).Nodup
 k:us.length<=(wds z).countP zv
 kn:(names us).Nodup
 e:∀p∈us,p.2.length<=(wds z).countP zv/\(names p.2).Nodup/\∀q∈p.2,q.2.length<=(wds z).length
 r:∀q∈u,q.2.length<=(wds z).length
theorem kR(h:rdX z=some (u,us)):Few z u us:=by
 unfold rdX rdF at h;obtain ⟨⟨a,r⟩,e,h⟩:=bind_some h;obtain ⟨⟨t,r1⟩,J,e⟩:=bind_some e;obtain ⟨⟨i,r2⟩,G,e⟩:=bind_some e;obtain ⟨⟨ks,r3⟩,O,e⟩:=FH.mp e;injection e with ea er
 have h:(if r=[] then some a else none)=some (u,us):=h;split at h
 .injection h with h
  rw [h] at ea;injection ea with F n
  have F:t=u:=F;have n:ks=us:=n;subst F n;obtain ⟨c1,S,U⟩:=pk J;have c4:=fH J;obtain ⟨x,G⟩:=kX G;have G:r1=x::r2:=G;obtain ⟨k1,k2,k3⟩:=qJ O (by simp [names]);simp only [G5] at k1 k3;have e4:r2.countP zv<=r1.countP zv:=by rw [G,Ft];omega
  have Z:r1.length=r2.length+1:=by rw [G];rfl
  refine {by omega,S,by omega,k2,λp hp=>?_,U};rcases k3 p hp with h|⟨h,h',h2⟩
  .cases h
  .exact {by omega,h',λq W=>by have:=h2 q W;omega}
 .cases h
abbrev kT:Stmt:=top 51
structure Wq(z:Str):Prop where
 a:asc z=true
 no:32∉sg z
 most:z.length<=20
theorem oF(hd:∀c∈sg z,48<=c/\c<=57)(n:z.length<=20):Wq z:=by
 refine {?_,λh=>by have:=hd 32 h;omega,n};rw [eU,EZ];exact λc hc=>decide_eq_true (by have:=hd c hc;omega)
theorem g7{i:Int}(n:0<=i)(h1:i<10 ^ 20):Wq (toString i:Str):=by
 obtain ⟨m,rfl⟩:=Int.eq_ofNat_of_zero_le n;refine oF (λc hc=>?_) ?_
 .rw [ft] at hc;obtain ⟨ch,F,e⟩:=Gf.mp hc;have r:=HL 'd' 'd' F;rw [<- e];exact digit_range r
 .have e:(Nat.repr m).length<=20:=(Nat.length_repr_le_iff 'd').mpr (by omega);show (Es (toString ((m:Nat):Int))).length<=20;rw [PySem.ofString_length];exact e
theorem tZ(h:zC z=true):(∀c∈sg z,48<=c/\c<=57)/\z.length<=18:=by
 unfold zC ae at h;rw [EJ,EJ,EJ,decide_eq_true_eq,decide_eq_true_eq] at h;obtain ⟨⟨⟨h1,h2⟩,h3⟩,_⟩:=h;refine {λc hc=>?_,by omega};have:=EZ.mp h3 c hc;have n:sg FIG=[48,49,50,51,52,53,54,55,56,57]:=by decide
 rw [n] at this;have:=FB.mp this;simp only [EI,FW,or_false] at this;omega
def wqB:V->Bool | .str z=>asc z&&(!(sg z).contains 32&&decide (z.length<=20))|_=>false
theorem AO(h:wqB v=true):∃z,v = .str z/\Wq z:=by
 cases v with
 | str z =>
  have h:(asc z&&(!(sg z).contains 32&&decide (z.length<=20)))=true:=h;rw [EJ,EJ,decide_eq_true_eq] at h;exact {z,rfl,h.1,λc=>(by have:=h.2.1;rw [FB.mpr c] at this;cases this),h.2.2}
 | _=>cases h
theorem oOf{t:TS}(h:W (PSs X b t))(q:t D σ H):∃t,PSs X b t/\t D σ H:=⟨t,h.h,q⟩
section
variable {P:Eo}{w:EG}{K:Frag}{mg:Str->Option Value}{base:Heap}{A:zk}
def sY:Sp:=λvs H Q _=>∃(a:Addr)(z:Str),vs=[.ref a,.str z]/\Pot H a/\asc z=true/\z.length<=200000/\∀v H',But a H H'->Pot H' a->Wq v->Q (.str v) H'
theorem i7:zB ["_law_pot_here","_law_word","_law_some","_law_number"] X0 (zp kT):=fsc
theorem wX(F:Fun K XD XD kT f fd)(T:Txt K mg A)(Z5:GF P w K mg base true 1 XM Ys (bX zC))(Z8:GF P w K mg base true 2 XN YB dI):zr P w K mg base CX0 true 3 f fd X0 sY:=by
 refine F.o i7 λZX Ar outer s H vs Q E hr h=>?_;obtain ⟨a,z,rfl,S,ha,hz,q⟩:=h;have hu:_<cLine:=Fc (zR hr);refine oOf (ze (zw (i:=2) i7.nd rfl (EA rfl) (af (iB zq zq zq zq (iB zq zq zq zq (iB zq zq zq zq (iB zq zq (zx fV zq zj) (zx zU zq (zx fV zq zj)) zc))))))
   (ze (zL (aX (caD (zy Z5 hr rfl (clP (za (zb 1) zc)))))
   (ze (zw (i:=3) i7.nd rfl (EA rfl) (aW eJ rfl T.Jm HY (za (zb 1) zc)))
   (zi (zw (i:=2) i7.nd rfl (EA rfl) (zx zU (zb 2) (af (za (aW c0 rfl T.IV Hq (za (zx zU (zb 3) zj) zc)) (za (aW c0 rfl T.IV Hq (za (zA (jr rfl) rfl T.K4 boot_max (za zj (za (zx (oI0 fM) (zb 3) zj) zc))) zc)) (za (zx zU zq (zb 1)) (za (aW c0 rfl T.IV Hq (za (zx zU (zb 3) zj) zc)) (za (aW c0 rfl T.IV Hq (za (zA (jr rfl) rfl T.K4 boot_max (za zj (za (zx (oI0 fM) (zb 3) zj) zc))) zc)) zc))))))))))
   zN)
   (zi (zz (caD (zy Z8 hr rfl (clP (za (zb 0) (za (zb 2) zc))))))))) ?_
 ac_rfl;have G:∀(l:Addr)(xs:List V)(H5:Hp),zg H H5->H5 l=some (.lst xs)->l≠a->0<xs.length->xs.length<=1000->(∀v∈xs,∃z,v = .str z/\Wq z)->dI [.ref a,.ref l] H5 Q E0:=λl xs H5 s5 hl l0 x0 x1 hx=>{a,S.same s5,.inl {l,xs,rfl,l0,.inl hl,x0,x1,λv H6 hv b6 Ye=>by
  obtain ⟨y,rfl,w⟩:=hx v hv;exact q y H6 ((But.of s5).trans b6) Ye w}}
 refine {'d','d','d','d','d','d','d','d',f!"",'d',λp H1 U _=>{z,rfl,ha,hz,λH2 s2=>?_}};have h1:=s2 _ _ U.at_;have all1:∀v∈([V.str "0",V.str "1",V.str "2",V.str "a",V.str "ab",V.str "zz",V.str "A",V.str "abcdefg",V.str "a1",V.str "-1",V.str "+1",V.str "1.",V.str "0x1",V.str "",V.str (dY "9" (Int.toNat 18)),V.str ("1"++dY "0" (Int.toNat 18))]:List V),∃z,v = .str z/\Wq z:=λv hv=>AO (EZ.mp (f!"") v hv);have n:zg H H2:=U.same.trans s2;have pa:p≠a:=S.ne U.no;ac_rfl;cases Z:zC z with
 | false =>
  ac_rfl;exact G p _ H2 n h1 pa 's' 's' all1
 | true =>
  obtain ⟨g1,i,gi,g2,g3⟩:=fm Z;obtain ⟨d1,d2⟩:=tZ Z;have wz:Wq ("0"++z):=by
   refine oF (λc hc=>?_) ?_
   .rw [cT] at hc;rcases Ff.mp hc with hc|hc
    .have:sg ("0":Str)=[48]:=by decide
     rw [this,Fj] at hc;omega
    .exact d1 c hc
   .rw [<- zE,cT,EV,zE,zE];have:("0":Str).length=1:=by decide
    omega
  ac_rfl;refine {g1,i,gi,?_};have O:0<=(if i-1>0 then i-1 else 0)/\(if i-1>0 then i-1 else 0)<10 ^ 18:=by split<;>omega
  generalize (if i-1>0 then i-1 else 0)=j at O ⊢;refine {c9 (by omega),c9 (by omega),aA (by have:("0":Str).length=1:='d';omega),c9 (by omega),c9 (by omega),'d',λp3 H3 J _=>{_,J.same _ _ h1,_,J.at_,EL (show 16+5<=1000 by decide) 'd',λp4 H4 W=>?_}};refine G p4 _ H4 ((n.trans J.same).trans W.same) W.at_ ((S.same (n.trans J.same)).ne W.no) 's' 's' λv hv=>?_;rcases Ff.mp hv with hv|hv
  .exact all1 v hv
  .simp only [EI,FW,or_false] at hv;rcases hv with rfl|rfl|rfl|rfl|rfl
   .exact {_,rfl,g7 (by omega) (by omega)}
   .exact {_,rfl,g7 O.1 (by omega)}
   .exact {_,rfl,wz}
   .exact {_,rfl,g7 (by omega) (by omega)}
   .exact {_,rfl,g7 O.1 (by omega)}
abbrev lE:Stmt:=top 52
theorem oh(h:j<=(sg x).length):FN x (some (j:Int)) none=tx ((sg x).drop j):=by
 have e:=StrLaws.sliceText_from (x:=x) (i:=(j:Int)) {by omega,by simpa [sg] using h};refine Eq.trans (show FN x (some (j:Int)) none=StrLaws.sliceText x (some (j:Int)) none from rfl) (e.trans ?_);show tx _=tx _;congr 1;rw [GG];refine EU ?_;rw [Ha];simp [sg] at h ⊢
theorem yA(h:(x.length:Int)<=j):FN x (some j) none=FN x (some (x.length:Int)) none:=by
 have e:EE.Str.strSliceIndices (some j) none 1 x.length=EE.Str.strSliceIndices (some (x.length:Int)) none 1 x.length:=by
  have a : ¬ (j<0):=by omega
  have b : ¬ ((x.length:Int)<0):=by omega
  have c:min j (x.length:Int)=x.length:=by omega
  simp [EE.Str.strSliceIndices,a,b,c]
 show StrLaws.sliceText x _ none=StrLaws.sliceText x _ none;unfold StrLaws.sliceText;rw [e]
theorem D8(h:0<=j):FN x (some j) none=tx ((sg x).drop j.toNat):=by
 by_cases n:j<=(x.length:Int)
 .have:=oh (x:=x) (j:=j.toNat) (by rw [zE];omega);rw [show ((j.toNat:Nat):Int)=j by omega] at this;exact this
 .rw [yA (by omega),oh (x:=x) (j:=x.length) (by rw [zE];exact EF _),List.drop_of_length_le (by rw [zE];exact EF _),List.drop_of_length_le (by rw [zE];omega)]
theorem jH(h:m<n):ixN n (m:Int)=some m:=by
 unfold ixN;rw [if_pos (by omega),if_pos (by omega)];simp
def nX:Sp:=λvs H Q _=>∃(a:Addr)(z:Str),vs=[.ref a,.str z]/\Pot H a/\asc z=true/\z.length<=200000/\(wds z).length<=800/\∀z' H',Spo z z'->But a H H'->Pot H' a->Q (.str z') H'
theorem dM:zB ["_law_pot_here","_law_text_here","_law_words_here","_law_at_here","_law_other","_law_way","_law_word","_law_spot"] X7 (zp lE):=fsc
theorem yu(F:Fun K Xl Xl lE f fd)(T:Txt K mg A)(Z9:GF P w K mg base true 1 XO Za cE)(Z8:GF P w K mg base true 2 XN YB dI)(ZK:GF P w K mg base true 3 XD X0 sY):zr P w K mg base CX0 true 4 f fd X7 nX:=by
 refine F.o dM λZX Ar outer s H vs Q E hr h=>?_;obtain ⟨a,z,rfl,hP,ha,hz,hw,q⟩:=h;have hu:_<cLine:=Fc (zR hr);refine {_,(W.h (ze (zw (i:=2) dM.nd rfl (EA rfl) (l9 (zb 1) zq))
   (ze (zw (i:=3) dM.nd rfl (EA rfl) (caD (zy Z9 hr rfl (clP (za (zb 0) (za (zA bG rfl T.o2 EK (za (zb 2) zc)) zc))))))
   (ze (zw (i:=4) dM.nd rfl (EA rfl) (caD (zy Z9 hr rfl (clP (za (zb 0) (za (zA bG rfl T.o2 EK (za (zb 2) zc)) zc))))))
   (ze (zw (i:=5) dM.nd rfl (EA rfl) (caD (zy Z9 hr rfl (clP (za (zb 0) (za zj zc))))))
   (ze (zL (tD (zH (clO (oE (bO hu))) (clE (zb 5)) (clE zj) (zF _)))
   (zi (zz (fg zq (zx zU (cB cQ (zb 2) cO (bZ (zb 3))) (cB cQ (zb 2) (bZ (zx zU (zb 3) zj)) cO)))))
   zN)
   (ze (zL (tD (zH (clO (oE (bO hu))) (clE (zb 5)) (clE zj) (zF _)))
   (zi (zz (fg zq (zx zU (zx zU (cB cQ (zb 2) cO (bZ (zb 3))) (af (za (zJ aq (zb 2) (zb 4) (λ_ _=>rfl)) zc))) (cB cQ (zb 2) (bZ (zb 3)) cO)))))
   zN)
   (ze (zL (tD (zH (clO (oE (bO hu))) (clE (zb 5)) (clE zj) (zF _)))
   (ze (zw (i:=6) dM.nd rfl (EA rfl) (zJ aq (zb 2) (zb 3) (λ_ _=>rfl)))
   (ze (bu (zJ aq (zb 2) (zb 4) (λ_ _=>rfl)) (bR (zb 2) (zb 3) fo))
   (ze (bu (zb 6) (bR (zb 2) (zb 4) fo))
   (zi (zz (fg zq (zb 2)))))))
   zN)
   (ze (zL (tD (zH (clO (oI0 gJ)) (clE (zb 5)) (clE zj) (zF _)))
   (ze (bu (caD (zy ZK hr rfl (clP (za (zb 0) (za (zJ aq (zb 2) (zb 3) (λ_ _=>rfl)) zc))))) (bR (zb 2) (zb 3) fo))
   (zi (zz (fg zq (zb 2)))))
   zN)
   (ze (zw (i:=7) dM.nd rfl (EA rfl) (caD (zy Z9 hr rfl (clP (za (zb 0) (za (zx zU (zA bG rfl T.o2 EK (za (zb 1) zc)) zj) zc))))))
   (zi (zz (zx zU (zx zU (cB cQ (zb 1) cO (bZ (zb 7))) (caD (zy Z8 hr rfl (clP (za (zb 0) (za (af (za zq (za zq (za zq (za zq (za zq (za zq (za zq zc)))))))) zc)))))) (cB cQ (zb 1) (bZ (zx zU (zb 7) (caD (zy Z9 hr rfl (clP (za (zb 0) (za zj zc))))))) cO)))))))))))))),?_}
 ac_rfl;refine {'d',aO (by omega),aA (by show (wds z).length<=_;omega),λl H1 n1=>?_};have hl:H1 l=some (.lst ((wds z).map V.str)):=n1.at_;erw [hl];have la:l≠a:=hP.ne n1.no;have wl:((wds z).map V.str).length=(wds z).length:=En ..;have w1:(wds z).length=(sg z).count 32+1:=jv z;rw [wl];refine {a,_,rfl,hP.same n1.same,by omega,FU (show ((wds z).length:Int)<=800 by omega) 'd',λi H2 b2 a0 i0 i1=>{_,.inl (b2 _ _ la hl),?_}};rw [wl];refine {a,_,rfl,a0,by omega,FU (show ((wds z).length:Int)<=800 by omega) 'd',λj H3 b3 Y5 j0 j1=>{a,_,rfl,Y5,'d','d',λy H4 b4 S y0 y1=>?_}};have G:=b4 _ _ la (b3 _ _ la (b2 _ _ la hl));have U:But a H H4:=(((But.of n1.same).trans b2).trans b3).trans b4;obtain ⟨m,rfl⟩:∃m:Nat,i=m:={i.toNat,by omega};obtain ⟨k,rfl⟩:∃k:Nat,j=k:={j.toNat,by omega};have hm:m<(wds z).length:=by omega
 have hk:k<(wds z).length:=by omega
 have c1:z8 ((wds z).map V.str) none (some (m:Int))=((wds z).take m).map V.str:=by rw [qM (by omega),GG,map_take]
 have c2:z8 ((wds z).map V.str) (some ((m:Int)+1)) none=((wds z).drop (m+1)).map V.str:=by rw [j8 (by omega) (by rw [wl];omega),map_drop];rfl
 have c3:z8 ((wds z).map V.str) (some (m:Int)) none=((wds z).drop m).map V.str:=by rw [j8 (by omega) (by rw [wl];omega),map_drop,GG]
 have am:atI ((wds z).map V.str) (m:Int)=some (.str (wds z)[m]):=bx (by rw [E5,Ek hm];rfl);have ak:atI ((wds z).map V.str) (k:Int)=some (.str (wds z)[k]):=bx (by rw [E5,Ek hk];rfl);have up:∀{H5:Hp}{o:HO},But a H H5->Pot H5 a->H l=none->But a H (upd H5 l o)/\Pot (upd H5 l o) a:=λ{H5 o} b p n=>{λc o nc e=>by rw [zm (z7 e n)];exact b c o nc e,by obtain ⟨x,y,e,r⟩:=p.ex;exact {{x,y,by rw [zm (Fi la)];exact e,r}}};ac_rfl;refine ah (λh0=>?_) λh0=>?_
 .refine {_,G,λp5 H5 Z=>{_,Z.same _ _ G,λp6 H6 J=>{_,J.same _ _ Z.at_,_,J.at_,?_,λp7 H7 n7=>?_}}}
  .rw [c1,c2];exact aA (by simp;omega)
  .rw [c1,c2,<- FY] at n7;have s7:=(Z.same.trans J.same).trans n7.same;have e:=vI ha hm;exact {_,n7.at_,e.fits hz,q _ _ e.Mo (U.trans (.of s7)) (S.same s7)}
 ac_rfl;refine ah (λh1=>?_) λh1=>?_
 .refine {_,G,λp5 H5 Z=>{_,.inl (Z.same _ _ G),_,ak,'d',λp6 H6 J _=>{_,J.same _ _ Z.at_,_,J.at_,?_,λp7 H7 n7=>{_,n7.same _ _ (J.same _ _ (Z.same _ _ G)),λp8 H8 n8=>{_,n8.same _ _ n7.at_,_,n8.at_,?_,λp9 H9 n9=>?_}}}}}
  .rw [c1];exact aA (by simp;omega)
  .rw [c1,c3];exact aA (by simp;omega)
  .rw [c1,c3,show [V.str (wds z)[k]]=[(wds z)[k]].map V.str from rfl,<- FY,<- FY] at n9;have s9:=(((Z.same.trans J.same).trans n7.same).trans n8.same).trans n9.same;have e:=BM (i:=m) ha (FT hk);exact {_,n9.at_,e.fits hz,q _ _ e.Mo (U.trans (.of s9)) (S.same s9)}
 ac_rfl;refine ah (λh2=>?_) λh2=>?_
 .have e:=Dc ha hm hk;obtain ⟨b5,O⟩:=up (o:=.lst (((wds z).map V.str).set m (.str (wds z)[k]))) U S n1.no;obtain ⟨b6,Ye⟩:=up (o:=.lst ((((wds z).map V.str).set m (.str (wds z)[k])).set k (.str (wds z)[m]))) b5 O n1.no;exact {_,.inl G,_,am,_,.inl G,_,ak,_,G,m,by rw [wl];exact jH hm,_,zG,k,by rw [G4,wl];exact jH hk,_,by rw [zG,map_set,map_set],e.fits hz,q _ _ e.Mo b6 Ye}
 ac_rfl;refine ah (λh3=>?_) λh3=>?_
 .obtain ⟨g1,g2⟩:=fY ha (FT hm);refine {_,.inl G,_,am,a,_,rfl,S,g1,EL (qb (FT hm)) hz,λv H5 b5 O wv=>?_};have e:=CS ha hm ⟨wv.a,wv.no⟩ wv.most;obtain ⟨b6,Ye⟩:=up (o:=.lst (((wds z).map V.str).set m (.str v))) (U.trans b5) O n1.no;exact {_,b5 _ _ la G,m,by rw [wl];exact jH hm,_,by rw [zG,map_set],e.fits hz,q _ _ e.Mo b6 Ye}
 have ag:z.length<=sizeLine:=aA (EL hz 'd');refine {ag,a,_,rfl,S,by omega,FU (show ((z.length:Int)+1)<=200001 by omega) 'd',λr H5 b5 O r0 r1=>?_};ac_rfl;refine {ag,'d',λp6 H6 J _=>{a,O.same J.same,.inl {p6,_,rfl,O.ne J.no,.inl J.at_,'d','d',λv H7 hv b7 a3=>?_}}};obtain ⟨x,rfl,ax,lx⟩:∃x:Str,v = .str x/\asc x=true/\x.length<=1:=by
  simp only [EI,FW,or_false] at hv;rcases hv with rfl|rfl|rfl|rfl|rfl|rfl|rfl<;>exact {_,rfl,f!"",'d'}
 have e1:FN z none (some r)=tx ((sg z).take r.toNat):=by
  have:=Bm (x:=z) (j:=r.toNat) (by rw [zE];omega);rw [show ((r.toNat:Nat):Int)=r by omega] at this;exact this
 erw [e1];have lt:(tx ((sg z).take r.toNat)).length<=z.length:=by rw [gq,Fn,zE];omega
 refine {aA (by omega),a,_,rfl,a3,'d','d',λy8 H8 b8 av a5 a4=>?_};have e2:FN z (some (r+y8)) none=tx ((sg z).drop (r.toNat+y8.toNat)):=by
  rw [D8 (by omega),show (r+y8).toNat=r.toNat+y8.toNat by omega]
 have ld:(tx ((sg z).drop (r.toNat+y8.toNat))).length<=z.length:=by rw [gq,Ha,zE];omega
 erw [e2];have aI:(tx ((sg z).take r.toNat)++x).length=(tx ((sg z).take r.toNat)).length+x.length:=by rw [<- zE,cT,EV,zE,zE]
 refine {ag,?_,q _ H8 (AX (i:=r.toNat) (k:=y8.toNat) ha ax lx ?_) ((((U.trans b5).trans (.of J.same)).trans b7).trans b8) av}
 .rw [aI];exact aA (by omega)
 .rw [cT,cT,cW,cW]
end
def ai(t:Tab)(zs:List Str):Tab:=zs.map λn=>(n,lk t n)
noncomputable def ao(ks:List (Str×Tab))(zs:List Str):List (Str×Tab):=zs.map λn=>(n,ai (kkT ks n) (zu (names (kkT ks n))))
theorem eZ{α:Type}{t:List (Str×α)}{a:α}(h:look t n=none):zt t n a=t++[(n,a)]:=by unfold zt;rw [h];rfl
def ltS(a b:Str):Prop:=a.cps.toList<b.cps.toList
theorem tS(nd:ks.Nodup):(zu ks).Pairwise ltS:=by
 obtain ⟨p,h⟩:=z6 ks;have n:(zu ks).Nodup:=p.nodup_iff.mpr nd;refine (h.and n).imp λ{a b} ⟨h1,h2⟩=>Fg λc=>h2 (oO h1 ?_);unfold leS;rw [ltCps_eq];exact decide_eq_false c
theorem yp(h:zv n=true):ltS "" n:=by
 have:=(kW h).one;rw [<- zE] at this;show ([]:List Nat)<sg n;cases e:sg n with
 | nil=>rw [e] at this;cases this
 | cons c r=>exact List.nil_lt_cons c r
theorem jd(n:0<=i)(h1:i<10 ^ 18):aa (toString i:Str)=i:=eW (i5 n h1).back
theorem qT{t:Tab}(gm:aj t)(r:List Str):∀(zs:List Str)(ZT:Tab)(y:Str),(∀n∈zs,n∈names t)->(y::zs).Pairwise ltS->cf ZT y->zT zs.length ZT y (au t zs++r)=some (ZT++ai t zs,r)
 | [],ZT,y,_,_,_=>by show some (ZT,[]++r)=_;rw [G3];unfold ai;rw [map_nil,Gc]
 | n::zs,ZT,y,G,hp,S=>by
  obtain ⟨l,hl,U,l1,l2,O⟩:=gm.lk (G n (Er ..));obtain ⟨p1,p2⟩:=Fp.mp hp;have F:y.cps.toList<n.cps.toList:=p1 n (Er ..);have e:au t (n::zs)++r=n::(toString ((lk t n).length:Int):Str)::((lk t n).map (λx=>(toString x:Str))++(au t zs++r)):=by simp [au]
  rw [e,U,EY,sr,if_pos {gm.nm n (G n (Er ..)),F}];have nx:zC (toString (l.length:Int):Str)=true:=iW {by omega,by omega};have J:aa (toString (l.length:Int):Str)=l.length:=jd (by omega) (by omega);have lm:(l.map λx=>(toString x:Str)).length=l.length:=En ..;have x0:(toString (l.length:Int):Str)≠"0":=λz=>by
   have:=(mB nx).mpr z;rw [J] at this;omega
  rw [if_pos ⟨nx,x0⟩,J,GG,<- lm,List.take_left,List.drop_left];have ha:(l.map λx=>(toString x:Str)).all zC=true:=by
   rw [EZ];intro z W;obtain ⟨x,hx,rfl⟩:=Gf.mp W;exact iW (O x hx)
  rw [if_pos {by rw [EV];omega,ha}];have Z:(l.map λx=>(toString x:Str)).map aa=l:=by
   rw [GT];have:∀m:List Int,(∀x∈m,0<=x/\x<10 ^ 18)->m.map (aa∘λx=>(toString x:Str))=m:=λm hm=>by
    induction m with
    | nil=>rfl
    | cons x m ih =>
     rw [Fq,ih λy F=>hm y (Em _ F)];have:=hm x (Er ..);show aa (toString x:Str)::m=_;rw [jd this.1 this.2]
   exact this l O
  rw [Z,qT gm r zs (zt ZT n l) n (λm hm=>G m (Em _ hm)) p2 (S.put F),eZ (S.new F)];unfold ai;rw [Fq,U,FD];rfl
theorem qF(h:zs.Pairwise ltS)(F:∀n∈zs,zv n=true):(("":Str)::zs).Pairwise ltS:=Fp.mpr {λn h=>yp (F n h),h}
theorem rL{α:Type}:cf ([]:List (Str×α)) y:=λm hm=>nomatch hm
theorem se{t:Tab}(gm:aj t)(r:List Str):rdT (aC t++r)=some (ai t (zu (names t)),r):=by
 have G:∀n∈zu (names t),n∈names t:=λn F=>(z6 _).1.mem_iff.mp F;have J:(zu (names t)).length=t.length:=by rw [(z6 _).1.length_eq];simp [names]
 have S:=gm.len;have nx:zC (toString (t.length:Int):Str)=true:=iW {by omega,by omega};have O:aa (toString (t.length:Int):Str)=t.length:=jd (by omega) (by omega);have e:=qT gm r (zu (names t)) [] "" G (qF (tS gm.nd) λn F=>gm.nm n (G n F)) rL;unfold rdT aC;rw [Hd,cR,if_pos nx];show zT (aa _).toNat [] "" _=_;rw [O,GG,<- J];exact e
theorem so(J:bU ks):∀(zs:List Str)(ZT:List (Str×Tab))(y:Str),(∀n∈zs,n∈names ks)->(y::zs).Pairwise ltS->cf ZT y->rdK zs.length ZT y (zV ks zs)=some (ZT++ao ks zs,[])
 | [],ZT,y,_,_,_=>by show some (ZT,[])=_;unfold ao;rw [map_nil,Gc]
 | n::zs,ZT,y,F,hp,O=>by
  obtain ⟨u,Z,S,W⟩:=J.lk (F n (Er ..));obtain ⟨U,p2⟩:=Fp.mp hp;have G:y.cps.toList<n.cps.toList:=U n (Er ..);have e:zV ks (n::zs)=n::(aC (kkT ks n)++zV ks zs):=by simp [zV]
  rw [e,S];show ((bf y (n::(aC u++zV ks zs))).bind λa=>(rdT a.2).bind λc=>rdK zs.length (zt ZT a.1 c.1) a.1 c.2)=_;rw [fA,if_pos {J.nm n (F n (Er ..)),G}];show ((rdT (aC u++zV ks zs)).bind λc=>rdK zs.length (zt ZT n c.1) n c.2)=_;rw [se W];show rdK zs.length (zt ZT n (ai u (zu (names u)))) n (zV ks zs)=_;rw [so J zs (zt ZT n _) n (λm hm=>F m (Em _ hm)) p2 (O.put G),eZ (O.new G)];unfold ao;rw [Fq,S,FD];rfl
theorem ke{t:Tab}(gm:aj t)(F:bU ks):rdX (bQ t ks)=some (ai t (zu (names t)),ao ks (zu (names ks))):=by
 have J:∀n∈zu (names ks),n∈names ks:=λn G=>(z6 _).1.mem_iff.mp G;have O:(zu (names ks)).length=ks.length:=by rw [(z6 _).1.length_eq];simp [names]
 have W:=F.len;have nx:zC (toString (ks.length:Int):Str)=true:=iW {by omega,by omega};have U:aa (toString (ks.length:Int):Str)=ks.length:=jd (by omega) (by omega);have e:=so F (zu (names ks)) [] "" J (qF (tS F.nd) λn G=>F.nm n (J n G)) rL;have S:wds (bQ t ks)=cj t ks:=kJ (λv hv=>((mj gm F).1 v hv).no) (λz=>by unfold cj aC at z;cases z);unfold rdX rdF;rw [S];show (((rdT (aC t++(toString (ks.length:Int):Str)::zV ks (zu (names ks)))).bind _).bind _)=_;rw [se gm];show (((ay ((toString (ks.length:Int):Str)::zV ks (zu (names ks)))).bind _).bind _)=_;rw [cR,if_pos nx];show (((rdK (aa _).toNat [] "" _).map _).bind _)=_;rw [U,GG,<- O,e];rfl
theorem fZ{α:Type}{f:Str->α}:∀{zs:List Str},look (zs.map λn=>(n,f n)) m=if m∈zs then some (f m) else none
 | []=>rfl
 | n::zs=>by
  rw [Fq,bF,fZ (zs:=zs)];by_cases h:n=m
  .rw [if_pos h,if_pos (by rw [h];exact Er ..),h]
  .rw [if_neg h];by_cases h2:m∈zs
   .rw [if_pos h2,if_pos (Em _ h2)]
   .rw [if_neg h2,if_neg λz=>(EI.mp z).elim (λz=>h z.symm) h2]
theorem gQ{t:Tab}:eh (ai t (zu (names t))) t:=λm=>by
 unfold ai;rw [fZ];by_cases h:m∈names t
 .rw [if_pos ((z6 _).1.mem_iff.mpr h)];cases e:look t m with
  | none=>exact absurd h (bh.mp e)
  | some l=>unfold lk;rw [e];rfl
 .rw [if_neg λz=>h ((z6 _).1.mem_iff.mp z),bh.mpr h]
theorem gz{α:Type}{f:Str->α}:names (zs.map λn=>(n,f n))=zs:=by
 unfold names;rw [GT];exact map_id _
theorem gg(h:ks.Nodup):(zu ks).Nodup:=(z6 ks).1.nodup_iff.mpr h
structure cI(us vs:List (Str×Tab)):Prop where
 un:(names us).Nodup
 vn:(names vs).Nodup
 len:us.length=vs.length
 eq:∀n u,look us n=some u->∃v,look vs n=some v/\eh u v/\(names u).Nodup/\(names v).Nodup
theorem fG(nd:(names ks).Nodup)(J:∀p∈ks,(names p.2).Nodup):cI (ao ks (zu (names ks))) ks:=by
 refine {?_,nd,?_,λn u h=>?_}
 .unfold ao;rw [gz];exact gg nd
 .unfold ao;rw [En,(z6 _).1.length_eq];simp [names]
 .unfold ao at h;rw [fZ] at h;split at h
  .rename_i hm;injection h with h
   cases e:look ks n with
   | none=>exact absurd ((z6 _).1.mem_iff.mp hm) (bh.mp e)
   | some v =>
    have G:kkT ks n=v:=by unfold kkT;rw [e];rfl
    have F:=J _ (dz e);subst h;refine {v,rfl,?_,?_,F}
    .rw [G];exact gQ
    .rw [G];unfold ai;rw [gz];exact gg F
  .cases h
theorem cI.trans(a:cI us vs)(b:cI vs ws):cI us ws:={a.un,b.vn,a.len.trans b.len,λn u e=>by
 obtain ⟨v,G,J,O,S⟩:=a.eq n u e;obtain ⟨x,ex,F,_,nx⟩:=b.eq n v G;exact {x,ex,λm=>(J m).trans (F m),O,nx}}
theorem jk{t:Tab}(h:(names t).Nodup):(names (ai t (zu (names t)))).Nodup:=by unfold ai;rw [gz];exact gg h
theorem pR(nd:(names ks).Nodup)(F:∀p∈ks,(names p.2).Nodup):(names (ao ks (zu (names ks)))).Nodup/\∀p∈ao ks (zu (names ks)),(names p.2).Nodup:=by
 refine {(fG nd F).un,λp hp=>?_};unfold ao at hp;obtain ⟨n,G,rfl⟩:=Gf.mp hp;refine jk ?_;unfold kkT;cases e:look ks n with
 | none=>simp [names]
 | some v=>exact F _ (dz e)
theorem iS{i:Int}(h:0<=i/\i<10 ^ 18):zv (toString i:Str)=false:=by
 have F:=i5 h.1 h.2;rw [E9];intro n;unfold zv ae at n;rw [EJ,EZ] at n;have G:∀c∈sg LET,97<=c:=by decide +kernel
 cases e:sg (toString i:Str) with
 | nil=>have:=F.one;rw [e] at this;cases this
 | cons c r =>
  have hc:c∈sg (toString i:Str):=by rw [e];exact Er ..
  have h1:=F.dig c hc;have h2:=G c (FB.mp (n.2 c hc));omega
theorem pE:∀l:List Int,(∀x∈l,0<=x/\x<10 ^ 18)->(l.map λx=>(toString x:Str)).countP zv=0
 | [],_=>rfl
 | x::l,h=>by
  rw [Fq,Ft,pE l λy n=>h y (Em _ n),iS (h x (Er ..))];rfl
theorem sj{t:Tab}(gm:aj t):∀{zs:List Str},(∀n∈zs,n∈names t)->(au t zs).countP zv<=zs.length
 | [],_=>by simp [au]
 | n::zs,h=>by
  have O:=sj gm (zs:=zs) λm hm=>h m (Em _ hm);obtain ⟨l,J,G,U,S,F⟩:=gm.lk (h n (Er ..));have e:au t (n::zs)=n::(toString ((lk t n).length:Int):Str)::((lk t n).map (λx=>(toString x:Str))++au t zs):=by simp [au]
  rw [e,G,Ft,Ft,Hz,pE l F,iS {by omega,by omega}];simp only [EY,FK,if_false];split<;>omega
theorem oq{t:Tab}(gm:aj t):(aC t).countP zv<=3:=by
 have G:=gm.len;have h:=sj gm (zs:=zu (names t)) λn F=>(z6 _).1.mem_iff.mp F;have J:(zu (names t)).length=t.length:=by rw [(z6 _).1.length_eq];simp [names]
 unfold aC;rw [Ft,iS {by omega,by omega}];simp only [FK,if_false];omega
theorem rY(F:bU ks):∀{zs:List Str},(∀n∈zs,n∈names ks)->(zV ks zs).countP zv<=4*zs.length
 | [],_=>by simp [zV]
 | n::zs,h=>by
  have S:=rY F (zs:=zs) λm hm=>h m (Em _ hm);obtain ⟨u,O,G,J⟩:=F.lk (h n (Er ..));have e:zV ks (n::zs)=n::(aC (kkT ks n)++zV ks zs):=by simp [zV]
  have:=oq J;rw [e,G,Ft,Hz,EY];split<;>omega
theorem uI{t:Tab}(gm:aj t)(F:bU ks):(cj t ks).countP zv<=15:=by
 have h1:=oq gm;have J:=F.len;have h2:=rY F (zs:=zu (names ks)) λn G=>(z6 _).1.mem_iff.mp G;have O:(zu (names ks)).length=ks.length:=by rw [(z6 _).1.length_eq];simp [names]
 unfold cj;rw [Hz,Ft,iS {by omega,by omega}];simp only [FK,if_false];omega
structure Spt(i:Nat)(z:Str):Prop where
 a:asc z=true
 l:z.length+30<=2 ^ i*16030
 w:(wds z).length<=760+i
 n:(wds z).countP zv<=15+2*i
theorem Spt.next(h:Spt i z)(s:Spo z z'):Spt (i+1) z':=by
 refine {s.a,?_,?_,?_}
 .have h1:=h.l;have h2:=s.l;rw [Nat.pow_succ,Nat.mul_assoc,Nat.mul_comm 2,<- Nat.mul_assoc];omega
 .have h1:=h.w;have h2:=s.w;omega
 .have h1:=h.n;have h2:=s.n;omega
theorem Spt.most(h:Spt i z)(hi:i<=3):z.length<=200000/\(wds z).length<=800/\(wds z).countP zv<64:=by
 have h1:=h.l;have h2:=h.w;have h3:=h.n;have:2 ^ i<=2 ^ 3:=Nat.pow_le_pow_right 'd' hi;have:2 ^ i*16030<=2 ^ 3*16030:=Nat.mul_le_mul_right _ this;have:(2:Nat) ^ 3*16030=128240:=by decide
 omega
theorem nK:∀{l:List Str},(∀z∈l,Wd z)->aS l<=21*l.length
 | [],_=>by simp [aS]
 | z::l,h=>by
  have h1:=(h z (Er ..)).most;have h2:=nK (l:=l) λy n=>h y (Em _ n);rw [lC,EY];omega
theorem yq{t:Tab}(gm:aj t)(G:bU ks):Spt 0 (bQ t ks):=by
 obtain ⟨F,O⟩:=mj gm G;have n:wds (bQ t ks)=cj t ks:=kJ (λv hv=>(F v hv).no) (λz=>by unfold cj aC at z;cases z);have J:=fe (bQ t ks);have hs:=nK F;rw [n] at J;refine {tK λv hv=>(F v hv).a,?_,by rw [n];omega,by rw [n];exact uI gm G};rw [Nat.pow_zero];omega
abbrev ir:Stmt:=top 57
section
variable {P:Eo}{w:EG}{K:Frag}{mg:Str->Option Value}{base:Heap}{A:zk}
structure RwI(H:Hp)(p d l:Addr)(t:Tab)(i:Nat)(σ:L2.St)(H':Hp):Prop where
 ex:∃t2,σ=[some (V.ref p),some (.ref d),t2]
 md:Md2 H H' d (ai t ((zu (names t)).take i))
 same:zg H H'
 sq:H' l=some (.lst ((zu (names t)).map V.str))
structure RwC(H:Hp)(p:Addr)(n:Str)(l:List Int)(i:Nat)(τ:L2.St)(ys:List V)(H':Hp):Prop where
 ex:∃t,τ=[t,some (V.ref p),some (.str n)]
 ys:ys=(l.take i).map V.int
 same:zg H H'
theorem xa{t:Tab}{zs:List Str}(h:zs[i]?=some n)(nd:zs.Nodup):zt (ai t (zs.take i)) n (lk t n)=ai t (zs.take (i+1)):=by
 have hm:n∉zs.take i:=λz=>by
  have e:zs.take (i+1)=zs.take i++[n]:=by rw [Fw,h];rfl
  have:(zs.take i++[n]).Nodup:=by rw [<- e];exact (Ik _ _).nodup nd
  exact (HI.mp this).2.2 n z n (Fj.mpr rfl) rfl
 rw [eZ (by unfold ai;rw [fZ,if_neg hm])];unfold ai;rw [Fw,h,FY];rfl
def qS(A:zk):Sp:=λvs H Q _=>∃(p b k:Addr)(t:Tab)(ks:List (Str×Tab)),vs=[.ref p]/\bj A H p b k t ks/\t.length<64/\(∀q∈t,q.2.length<=2000)/\(names t).Nodup/\∀d H',zg H H'->Md2 H H' d (ai t (zu (names t)))->Q (.ref d) H'
theorem lG:zB XU ["_law_files"] (zp ir):=fsc
theorem Bz:bP { kind:=.function,names:=[(Es ".0",.local),(Es "_law_place",.local),(Es "_law_files",.free),(Es "_law_name_here",.free)],isGenerator:=false,isCoroutine:=false,more:=[] } (zp ir).names XU XW [none,some 0,some 2]=true:=by decide +kernel
theorem uc:(XW:List Str).Nodup:=by decide +kernel
theorem CA(F:Fun K Xn Xn ir f fd)(T:Txt K mg A)(Zt:GM P w K mg base true 1 A.nv "names" YE (ql A))(ZZ:GM P w K mg base true 1 A.nv "many" Yi (ju A))(Zs:GM P w K mg base true 4 A.nv "birth" X5 (rE A)):zr P w K mg base CX0 true 5 f fd ["_law_files"] (qS A):=by
 refine F.o lG λZX Ar outer s H vs Q E hr h=>?_;obtain ⟨p,b,k,t,ks,rfl,hF,ak,U,nd,q⟩:=h;have hu:_<cLine:=Fc (zR hr);refine {_,(W.h (ze (zw (i:=1) lG.nd rfl (EA rfl) dG)
   (ze (bW Gj.never (λ_=>rfl) (liD (cY (clE (m0D (eO (clE (zb 0)) T.ka Zt hr))))) (zW (i:=2) lG.nd rfl (G6 rfl))
   (zi (bu (cq (λ_=>rfl) (bo.of Bz) (cz rfl T.rk (za (mD (cw (clE (zb 0)) T.ka ZZ hr (clP (za (zb 2) zc)))) zc)) (λ_ _ _ _ _=>(zW (i:=0) uc rfl (EA rfl))) (λ_ _ _ _ _=>c7) (λ_ _ _ _ _=>(mD (cw (clE (zb 1)) T.ka Zs hr (clP (za (zb 2) (za (zb 0) zc))))))) (bR (zb 1) (zb 2) (dS (zR hr))))))
   (zi (zz (zb 1)))))),?_}
 ac_rfl;refine λd H1 J=>?_;have F1:=hF.same J.same;obtain ⟨a0,ax⟩:=F1.ob;erw [ax,CT];refine {p,b,k,t,ks,rfl,F1,ak,λl H2 n2=>?_};have sl:(zu (names t)).length=t.length:=by rw [(z6 _).1.length_eq];simp [names]
 ac_rfl;refine {{_,SqL.of n2.at_},aZ.lst (xs:=(zu (names t)).map V.str) (RwI H p d l t) {{_,rfl},{{[],n2.same _ _ J.at_,.nil},J.no},J.same.trans n2.same,n2.at_} (λi σ H' _ I=>SqL.of I.sq) ?_ ?_}
 .rintro i x σ H' hx ⟨⟨t2,rfl⟩,md,S,sq⟩;rw [E5] at hx;obtain ⟨n,hn,rfl⟩:=FH.mp hx;have hi:i<(zu (names t)).length:=(ED.mp hn).1;have av:n∈names t:=(z6 _).1.mem_iff.mp (ER hn);obtain ⟨l0,G⟩:∃l0,look t n=some l0:=by
   cases e:look t n with
   | none=>exact absurd av (bh.mp e)
   | some l=>exact {l,rfl}
  have el:lk t n=l0:=by unfold lk;rw [G];rfl
  have ll:=U _ (dz G);have ll:l0.length<=2000:=ll;have F3:=hF.same S;obtain ⟨a3,ag⟩:=F3.ob;erw [ag,iN];refine {p,b,k,t,ks,n,rfl,F3,λH4 s4=>?_};rw [el];ac_rfl;refine {by omega,by omega,aQ.rng (RwC H4 p n l0) (λj τ ys H5 I=>?_) {{_,rfl},'s',zg.refl _} ?_ ?_}
  .rw [I.ys,En,Fn];exact aO (by omega)
  .intro N j τ ys H5 hj I hN;obtain ⟨t',rfl⟩:=I.ex;have F5:=(F3.same s4).same I.same;obtain ⟨a4,aI⟩:=F5.ob;erw [aI,Ee];have O:j<l0.length:=by omega
   refine {p,b,k,t,ks,n,l0,_,rfl,F5,G,by omega,by omega,λH6 s6=>?_};refine hN _ _ _ {{_,rfl},?_,I.same.trans s6};rw [I.ys,Fw,Ek O,FY,EX,show ((0:Int)+(j:Int)).toNat=j by omega,Ek O];rfl
  .intro τ ys H5 I D H6 Z;have s6:zg H' H6:=(s4.trans I.same).trans Z.same;obtain ⟨kvs,ed,dc⟩:=(md.same s6).ex;have Dd:D≠d:=λz=>by have:=(s4.trans I.same).free Z.no;obtain ⟨kv,e,_⟩:=md.ex;rw [z,e] at this;cases this
   erw [ed];have a5:kvs.length<64:=by rw [dc.length];unfold ai;rw [En,Fn];omega
   refine {_,rfl,by rw [cN];exact aO (by omega),?_};rw [dA];have ey:ys=l0.map V.int:=by rw [I.ys,show ((l0.length:Int)).toNat=l0.length by omega,EU (EF _)]
   have up:∀(v:V)(x:List Int),(∃a,v=V.ref a/\H6 a=some (.lst (x.map V.int))/\H a=none)->∃a,v=V.ref a/\upd H6 d (.dK (sk (zt kvs n (V.ref D)))) a=some (.lst (x.map V.int))/\H a=none:=λv x ⟨a,e,h,n⟩=>{a,e,by rw [zm (λz=>by rw [z,ed] at h;cases h)];exact h,n};refine {{_,rfl},{{_,zG,?_},J.no},λc o e=>by rw [zm (z7 e J.no)];exact s6 _ _ (S _ _ e),?_}
   .rw [<- xa hn (gg nd),el];exact (dc.put n (show ∃a,V.ref D=V.ref a/\H6 a=some (.lst (l0.map V.int))/\H a=none from {D,rfl,by rw [Z.at_,ey],S.free ((s4.trans I.same).free Z.no)})).imp up
   .rw [zm (λz=>by have h:=s6 _ _ sq;rw [z,ed] at h;cases h)];exact s6 _ _ sq
 .rintro σ H' ⟨⟨t2,rfl⟩,md,S,sq⟩;ac_rfl;rw [En,EU (EF _)] at md;exact q d H' S md
abbrev k9:Stmt:=top 58
theorem lV:1000<=sizeLine:=by decide
theorem ya:Gn "ValueError"=some (.type "ValueError"):=by decide +kernel
theorem aT{K:Frag}{o:Obj}(he:H e=some (.frz o (.own 0)))(ho:eI C o)(O:gM K C)(n:kitOne K (.ref C) u=some b)(hc:nE c=some u)(q:Q (.bl b) H):gh K [.ref e,c] H Q :=
 {_,_,_,_,_,rfl,hc,.exc he ho O,n,q}
structure KC(K:Frag)(A:zk)(C:Addr)(n:Nat):Prop where
 ec:gM K C
 lt:n<16
 Kb:kitOne K (.ref C) (.type "ValueError")=some true
 L8:kitOne K (.ref C) (.ref A.Full)=some (decide (0=n))
 L7:kitOne K (.ref C) (.ref A.LS)=some (decide (1=n))
 JD:kitOne K (.ref C) (.ref A.tw)=some (decide (2=n))
 LA:kitOne K (.ref C) (.ref A.Kh)=some (decide (3=n))
 Lz:kitOne K (.ref C) (.ref A.Kg)=some (decide (4=n))
 Ly:kitOne K (.ref C) (.ref A.Kf)=some (decide (5=n))
 Lh:kitOne K (.ref C) (.ref A.kc)=some (decide (6=n))
 Lf:kitOne K (.ref C) (.ref A.Jt)=some (decide (7=n))
 Lx:kitOne K (.ref C) (.ref A.Ke)=some (decide (8=n))
 Le:kitOne K (.ref C) (.ref A.Js)=some (decide (9=n))
 Lw:kitOne K (.ref C) (.ref A.Kd)=some (decide (10=n))
 LP:kitOne K (.ref C) (.ref A.K5)=some (decide (11=n))
 K1:kitOne K (.ref C) (.ref A.Jg)=some (decide (12=n))
 KR:kitOne K (.ref C) (.ref A.IS)=some (decide (13=n))
 Ld:kitOne K (.ref C) (.ref A.Jr)=some (decide (14=n))
 Lc:kitOne K (.ref C) (.ref A.Jq)=some (decide (15=n))
def fnb(n:Nat):List Bool:=[decide (0=n),decide (1=n),decide (2=n),decide (3=n),decide (4=n),decide (5=n),decide (6=n),decide (7=n),decide (8=n),decide (9=n),decide (10=n),decide (11=n),decide (12=n),decide (13=n),decide (14=n),decide (15=n)]
def wdk:List V:=[.str "Full",.str "Gone",.str "HeldAlready",.str "NoDeed",.str "NoDisk",.str "NoFile",.str "NoFiles",.str "NoHouse",.str "NoMark",.str "NoPlace",.str "NoRoom",.str "NoRow",.str "NotBlank",.str "NotClosed",.str "NotHeld",.str "Stopped"]
theorem wC:∀n,n<16->(fnb n).count true=1:=by decide
theorem BJ:∀n,n<16->(fnb n)[n]?=some true/\∀m,m<n->(fnb n)[m]?≠some true:=by decide
theorem CC:∀n,n<16->∃z:Str,wdk[n]?=some (.str z):=λn h=>by
 have:n=0\/n=1\/n=2\/n=3\/n=4\/n=5\/n=6\/n=7\/n=8\/n=9\/n=10\/n=11\/n=12\/n=13\/n=14\/n=15:=by omega
 rcases this with rfl|rfl|rfl|rfl|rfl|rfl|rfl|rfl|rfl|rfl|rfl|rfl|rfl|rfl|rfl|rfl<;>exact {_,rfl}
def qj(K:Frag)(A:zk):Sp:=λvs H Q _=>∃(e C:Addr)(o:Obj)(n:Nat),vs=[.ref e]/\H e=some (.frz o (.own 0))/\eI C o/\KC K A C n/\∀(v:V)(H':Hp),wdk[n]?=some v->zg H H'->Q v H'
theorem dW:zB ["_law_e","_law_some","_law_names_here"] ["_law_e"] (zp k9):=fsc
theorem x9(F:Fun K Xt Xt k9 f fd)(T:Txt K mg A):zr P w K mg base CX0 false 1 f fd ["_law_e"] (qj K A):=by
 refine F.o dW λZX Ar outer s H vs Q E hr h=>?_;obtain ⟨e,C,o,n,rfl,he,ho,G,q⟩:=h;have hu:_<cLine:=Fc (zR hr);refine {_,(W.h (ze (zw (i:=1) dW.nd rfl (EA rfl) (af (za (zA (aU (K:=K) rfl) rfl T.i3 ES (za (zb 0) (za (aB rfl T.Md) zc))) (za (zA (aU (K:=K) rfl) rfl T.i3 ES (za (zb 0) (za (aB rfl T.Mc) zc))) (za (zA (aU (K:=K) rfl) rfl T.i3 ES (za (zb 0) (za (aB rfl T.JF) zc))) (za (zA (aU (K:=K) rfl) rfl T.i3 ES (za (zb 0) (za (aB rfl T.LH) zc))) zc))))))
   (ze (zw (i:=1) dW.nd rfl (EA rfl) (zx zU (zb 1) (af (za (zA (aU (K:=K) rfl) rfl T.i3 ES (za (zb 0) (za (aB rfl T.LG) zc))) (za (zA (aU (K:=K) rfl) rfl T.i3 ES (za (zb 0) (za (aB rfl T.LF) zc))) (za (zA (aU (K:=K) rfl) rfl T.i3 ES (za (zb 0) (za (aB rfl T.Ln) zc))) (za (zA (aU (K:=K) rfl) rfl T.i3 ES (za (zb 0) (za (aB rfl T.Lm) zc))) zc)))))))
   (ze (zw (i:=1) dW.nd rfl (EA rfl) (zx zU (zb 1) (af (za (zA (aU (K:=K) rfl) rfl T.i3 ES (za (zb 0) (za (aB rfl T.LD) zc))) (za (zA (aU (K:=K) rfl) rfl T.i3 ES (za (zb 0) (za (aB rfl T.Ll) zc))) (za (zA (aU (K:=K) rfl) rfl T.i3 ES (za (zb 0) (za (aB rfl T.LC) zc))) (za (zA (aU (K:=K) rfl) rfl T.i3 ES (za (zb 0) (za (aB rfl T.LR) zc))) zc)))))))
   (ze (zw (i:=1) dW.nd rfl (EA rfl) (zx zU (zb 1) (af (za (zA (aU (K:=K) rfl) rfl T.i3 ES (za (zb 0) (za (aB rfl T.K3) zc))) (za (zA (aU (K:=K) rfl) rfl T.i3 ES (za (zb 0) (za (aB rfl T.KS) zc))) (za (zA (aU (K:=K) rfl) rfl T.i3 ES (za (zb 0) (za (aB rfl T.Lk) zc))) (za (zA (aU (K:=K) rfl) rfl T.i3 ES (za (zb 0) (za (aB rfl T.Lj) zc))) zc)))))))
   (ze (zw (i:=2) dW.nd rfl (EA rfl) (af (za zq (za zq (za zq (za zq (za zq (za zq (za zq (za zq (za zq (za zq zc))))))))))))
   (ze (zw (i:=2) dW.nd rfl (EA rfl) (zx zU (zb 2) (af (za zq (za zq (za zq (za zq (za zq (za zq zc)))))))))
   (ze (zL (cu (bJ (aY (aX (zA (aU (K:=K) rfl) rfl T.i3 ES (za (zb 0) (za (fE rfl T.J9 ya (v:=.ty "ValueError") rfl) zc))))) (cK (tD (zH (clO (oE (gD hu))) (clE (vg (zb 1) dm)) (clE zj) (zF _))))))
   (zi (zz zq))
   zN)
   (zi (zz (zJ aq (zb 2) (yb (zb 1) dm) (λ_ _=>rfl)))))))))))),?_}
 ac_rfl;refine aT he ho G.ec G.L8 rfl (aT he ho G.ec G.L7 rfl (aT he ho G.ec G.JD rfl (aT he ho G.ec G.LA rfl {'d',λp1 H1 n1 _=>?_})));have he:=n1.same _ _ he;refine aT he ho G.ec G.Lz rfl (aT he ho G.ec G.Ly rfl (aT he ho G.ec G.Lh rfl (aT he ho G.ec G.Lf rfl {'d',λp2 H2 U _=>?_})));have he:=U.same _ _ he;refine {_,U.same _ _ n1.at_,_,U.at_,EL (show 8<=1000 by decide) lV,λp3 H3 n3=>?_};have he:=n3.same _ _ he;refine aT he ho G.ec G.Lx rfl (aT he ho G.ec G.Le rfl (aT he ho G.ec G.Lw rfl (aT he ho G.ec G.LP rfl {'d',λp4 H4 n4 _=>?_})));have he:=n4.same _ _ he;refine {_,n4.same _ _ n3.at_,_,n4.at_,EL (show 12<=1000 by decide) lV,λp5 H5 n5=>?_};have he:=n5.same _ _ he;refine aT he ho G.ec G.K1 rfl (aT he ho G.ec G.KR rfl (aT he ho G.ec G.Ld rfl (aT he ho G.ec G.Lc rfl {'d',λp6 H6 S _=>?_})));have he:=S.same _ _ he;refine {_,S.same _ _ n5.at_,_,S.at_,EL (show 16<=1000 by decide) lV,λp7 H7 n7=>?_};have he:=n7.same _ _ he;refine {'d',λp8 H8 n8 _=>{'d',λp9 H9 O _=>{_,O.same _ _ n8.at_,_,O.at_,'d',λak H10 J=>?_}}};have he:=J.same _ _ (O.same _ _ (n8.same _ _ he));have e1:H10 ak=some (.lst wdk):=J.at_;have Z:H10 p7=some (.lst ((fnb n).map V.bl)):=J.same _ _ (O.same _ _ (n8.same _ _ n7.at_));have ag:zg H H10:=n1.same.trans (U.same.trans (n3.same.trans (n4.same.trans (n5.same.trans (S.same.trans (n7.same.trans (n8.same.trans (O.same.trans J.same))))))));refine aT he ho G.ec G.Kb rfl ?_;ac_rfl;refine {{_,Z},fnb n,Z,?_};rw [wC n G.lt,if_neg 'd'];obtain ⟨a1,a2⟩:=BJ n G.lt;obtain ⟨z,hz⟩:=CC n G.lt;exact {{_,Z},fnb n,Z,n,a1,a2,wdk,.inl e1,.str z,bx hz,q _ _ hz ag}
theorem Txt.Jx(T:Txt K mg A):KC K A A.kc 6:={T.K2,'d',T.zf,T.Jz,T.Jy,T.xy,T.Jl,T.Jk,T.Jj,T.Je,T.Jd,T.Ji,T.Jc,T.Jh,T.Jo,T.IY,T.IU,T.Jb,T.Ja}
abbrev iG:Stmt:=top 59
theorem BW{K:Frag}(F:X.K=K)(n:W (PE X l tl)):W (PIc true X tg l (jb K tl)):=F ▸ cY n
theorem rU{α:Type}:∀(ps t:List (Str×α)),(names (t++ps)).Nodup->ps.foldl (λt p=>zt t p.1 p.2) t=t++ps
 | [],t,_=>by rw [Gc];rfl
 | p::ps,t,h=>by
  have e:t++p::ps=(t++[(p.1,p.2)])++ps:=by rw [FD];rfl
  have hp:look t p.1=none:=bh.mpr λz=>by
   unfold names at h z;rw [FY,Fq] at h;exact (HI.mp h).2.2 _ z _ (Er ..) rfl
  rw [foldl_cons,eZ hp,rU ps _ (by rw [<- e];exact h),<- e]
theorem uf{zs:List Str}(h:zs[i]?=some n)(nd:zs.Nodup):n∉zs.take i:=λz=>by
 have e:zs.take (i+1)=zs.take i++[n]:=by rw [Fw,h];rfl
 have:(zs.take i++[n]).Nodup:=by rw [<- e];exact (Ik _ _).nodup nd
 exact (HI.mp this).2.2 n z n (Fj.mpr rfl) rfl
structure ToC(H0 H3:Hp)(q:Addr)(us:List (Str×Tab))(i:Nat)(τ:L2.St)(ys:List V)(H':Hp):Prop where
 ex:∃t,τ=[t,some (V.ref q)]
 ys:∃ps:List (Str×V),ys.length=ps.length/\(∀(j:Nat)(v:V)(p:Str×V),ys[j]?=some v->ps[j]?=some p->∃a,v = .ref a/\H' a=some (.tup [.str p.1,p.2]))/\Dct (λv t=>∃d,v = .ref d/\Md2 H0 H' d t) ps (ao us ((zu (names us)).take i))
 same:zg H3 H'
structure Dn(H:Hp)(z:Str)(Q:VK):Prop where
 a:asc z=true
 l:z.length<=200000
 w:(wds z).length<=1003
 f:(wds z).countP zv<64
 q:∀u us,rdX z=some (u,us)->∀p d k H',zg H H'->H p=none->H' p=some (.tup [.ref d,.ref k])->Md2 H H' d (ai u (zu (names u)))->Mk2 H H' k (ao us (zu (names us)))->Q (.ref p) H'
 n:rdX z=none->∀H',zg H H'->Q .non H'
def jL(K:Frag):Sp:=λvs H Q _=>∃(v:V),vs=[v]/\((∃z,v = .str z/\Dn H z Q)\/(∃t,TyX K H v t/\kitOne K t (.type "str")=some false/\∀H',zg H H'->Q .non H'))
theorem e9:zB X1 X9 (zp iG):=fsc
theorem CU:bP { kind:=.function,names:=[(Es ".0",.local),(Es "_law_name_here",.local),(Es "_law_rows",.globalImplicit),(Es "_law_files",.free)],isGenerator:=false,isCoroutine:=false,more:=[] } (zp iG).names X1 ["_law_name_here","_law_files"] [none,some 2]=true:=by decide +kernel
theorem wN:(["_law_name_here","_law_files"]:List Str).Nodup:=by decide +kernel
theorem xV(F:Fun K "_law_told" "_law_told" iG f fd)(T:Txt K mg A)(Zi:GX P w K mg base true 7 Xw X4 (tU K A))(Zw:GF P w K mg base true 5 Xn ["_law_files"] (qS A))(Zh:GM P w K mg base true 1 A.nv "held" YE (o8 A))(ZD:GM P w K mg base true 4 A.nv "of_held" Yx (mY A))(Zx:GF P w K mg base false 1 Xt ["_law_e"] (qj K A)):zr P w K mg base CX0 true 8 f fd X9 (jL K):=by
 refine F.o e9 λZX Ar outer s H vs Q E hr h=>?_;obtain ⟨v,rfl,h⟩:=h;have hu:_<cLine:=Fc (zR hr);refine {_,(W.h (ze (zw (i:=1) e9.nd rfl (EA rfl) aN)
   (ze (v3 (i:=3) rfl rfl {rfl,rfl} e9.nd rfl rfl T.JE rfl T.JC (λGa Ex=>(ze (zw (i:=2) e9.nd rfl (G6 rfl) (cXD (fi mH Zi hr rfl (clP (za (zb 0) zc)))))
   (zi (zw (i:=1) e9.nd rfl (EA rfl) (bg (za (caD (zy Zw hr rfl (clP (za (zb 2) zc)))) (za (aW (Ak rfl) rfl T.Ls boot_dict (za (cq (λ_=>rfl) (bo.of CU) (BW (K:=K) rfl (m0D (eO (clE (zb 2)) T.ka Zh hr))) (λ_ _ _ _ _=>(zW (i:=0) wN rfl (EA rfl))) (λ_ _ _ _ _=>c7) (λ_ _ _ _ _=>(bg (za (zb 0) (za (caD (zy Zw hr rfl (clP (za (mD (cw (clE (zb 1)) T.ka ZD hr (clP (za (zb 0) zc)))) zc)))) zc))))) zc)) zc))))))) (λGa ea=>by
   have hr:=hr.mark (v:=some (.ref ea));exact (zi (zw (i:=1) e9.nd rfl (EA rfl) (gL (tD (zH (clO (oE (bO hu))) (clE (caD (zy Zx hr rfl (clP (za (zb 3) zc))))) (clE zq) (zF _))) aN zq)))))
   (zi (zz (zb 1)))))),?_}
 erw [qi];rcases h with ⟨z,rfl,h⟩|⟨t,ht,hf,qe⟩
 rotate_left
 .refine {_,rfl,.inr {t,ht,hf,?_}};refine {A.kc,rfl,T.wh,T.Jn,λea oe he ho=>?_};refine {ea,A.kc,oe,6,rfl,zG,ho,T.Jx,λv H2 ev s2=>?_};cases ev;erw [decide_true];exact qe H2 ((New.mk' he).same.trans s2)
 refine {_,rfl,.inl {z,rfl,h.a,h.l,h.w,λu us eX q b k H1 s1 q0 b0 k0 F1=>?_,λeX H1 s1=>?_}}
 rotate_left
 .refine {A.kc,rfl,T.wh,T.Jn,λea oe he ho=>?_};refine {ea,A.kc,oe,6,rfl,zG,ho,T.Jx,λv H2 ev s2=>?_};cases ev;erw [decide_true];exact h.n eX H2 (s1.trans ((New.mk' he).same.trans s2))
 have W:=kR eX;have hf:=h.f;have hw:=h.w;have g1:=W.ul;have g2:=W.k;refine {q,b,k,u,us,rfl,F1.r,by omega,λr hr=>EL (W.r r hr) (EL hw 'd'),W.un,λd H2 s2 md=>?_};have F2:=F1.same s2;obtain ⟨Yf,ag⟩:=F2.r.ob;erw [ag,By];refine {q,b,k,u,us,rfl,F2.r,by omega,λl H3 n3=>?_};ac_rfl;have Yp:zg H H3:=(s1.trans s2).trans n3.same;have nz:(zu (names us)).Nodup:=gg W.kn;have lz:(zu (names us)).length=us.length:=by rw [(z6 _).1.length_eq];simp [names]
 refine {{_,SqL.of n3.at_},aQ.lst (xs:=(zu (names us)).map V.str) (ToC H H3 q us) (λj τ ys H' I=>?_) (λj τ ys H' I=>SqL.of (I.same _ _ n3.at_)) {{_,rfl},{[],rfl,λj v p h=>by simp at h,.nil},zg.refl _} ?_ ?_}
 .obtain ⟨ps,e1,_,G⟩:=I.ys;have:ps.length<=us.length:=by rw [G.length];unfold ao;rw [En,Fn];omega
  exact aO (by omega)
 .intro N j x τ ys H4 hx I hN;obtain ⟨t',rfl⟩:=I.ex;obtain ⟨ps,e1,YS,G⟩:=I.ys;rw [E5] at hx;obtain ⟨n,hn,rfl⟩:=FH.mp hx;obtain ⟨u',YL⟩:∃u',look us n=some u':=by
   cases e:look us n with
   | none=>exact absurd ((z6 _).1.mem_iff.mp (ER hn)) (bh.mp e)
   | some l=>exact {l,rfl}
  have ek:kkT us n=u':=by unfold kkT;rw [YL];rfl
  obtain ⟨f1,f2,f3⟩:=W.e _ (dz YL);have f1:u'.length<=(wds z).countP zv:=f1;have F4:=(F2.same n3.same).same I.same;obtain ⟨a0,ax⟩:=F4.r.ob;erw [ax,wG];refine {q,b,k,u,us,n,u',rfl,F4.r,YL,λq5 b5 k5 H5 s5 _ _ _ B5 _=>?_};refine {q5,b5,k5,u',[],rfl,B5.files,by omega,λr hr=>EL (f3 r hr) (EL hw 'd'),f2,λd6 H6 s6 ak=>?_};ac_rfl;refine {'d',λp7 H7 J=>?_};have O:zg H4 H7:=(s5.trans s6).trans J.same;have nw:=uf hn nz;have ln:look ps n=none:=bh.mpr (by
   have:=G.names;unfold names;rw [this];unfold ao;rw [gz];exact nw)
  have aI:look (ao us ((zu (names us)).take j)) n=none:=by unfold ao;rw [fZ,if_neg nw]
  have eK:ao us ((zu (names us)).take (j+1))=ao us ((zu (names us)).take j)++[(n,ai u' (zu (names u')))]:=by
   unfold ao;rw [Fw,hn,FY];show _++[(n,ai (kkT us n) (zu (names (kkT us n))))]=_;rw [ek]
  refine hN _ _ _ {{_,rfl},{ps++[(n,.ref d6)],by simp [e1],λj' v' p' h1 h2=>?_,?_},I.same.trans O}
  .rcases Nat.lt_trichotomy j' ys.length with lt|eq|gt
   .rw [GV lt] at h1;rw [GV (by omega)] at h2;obtain ⟨a,e,ha⟩:=YS j' v' p' h1 h2;exact {a,e,O _ _ ha}
   .rw [GS (by omega),eq,Ip] at h1;rw [GS (by omega),eq,e1,Ip] at h2;cases h1;cases h2;exact {p7,rfl,J.at_}
   .rw [List.getElem?_eq_none (by simp;omega)] at h1;cases h1
  .have av:=(ak.old ((Yp.trans I.same).trans s5)).same J.same;have:=(G.imp λv t ⟨d,e,m⟩=>({d,e,m.same O}:∃d,v=V.ref d/\Md2 H H7 d t)).put n (show ∃d,V.ref d6=V.ref d/\Md2 H H7 d (ai u' (zu (names u'))) from {d6,rfl,av});rw [eZ ln,eZ aI,<- eK] at this;exact this
 .intro τ ys H4 I D H5 Z;obtain ⟨ps,e1,YS,G⟩:=I.ys;rw [En,EU (EF _)] at G;have lp:ps.length=us.length:=by rw [G.length];unfold ao;rw [En];exact lz
  have np:(names ps).Nodup:=by
   have:=G.names;unfold names;rw [this];unfold ao;rw [gz];exact nz
  ac_rfl;refine {ys,Z.at_,ps,e1,by omega,λj v p h1 h2=>?_,λk6 H6 U=>{'d',λp7 H7 J=>?_}}
  .obtain ⟨a,e,ha⟩:=YS j v p h1 h2;exact {a,e,Z.same _ _ ha}
  .rw [rU ps [] (by rw [G3];exact np),G3] at U;have S:=U.same.trans J.same;have s4:zg H H5:=(Yp.trans I.same).trans Z.same;refine h.q u us eX p7 d k6 H7 (s4.trans S) ((s4.trans U.same).free J.no) J.at_ ((md.old s1).same (((n3.same.trans I.same).trans Z.same).trans S)) {{ps,J.same _ _ U.at_,G.imp λv t ⟨d,e,m⟩=>{d,e,m.same (Z.same.trans S),λz=>?_}},s4.free U.no};obtain ⟨kv,ed,_⟩:=(m.same Z.same).ex;have:=U.no;rw [<- z,ed] at this;cases this
abbrev mz:Stmt:=top 60
theorem jx{t t':Tab}(m:Md2 U H d t)(m':bY H d' t')(O:eh t t')(nd:(names t).Nodup)(J:(names t').Nodup):EqT H d d':=by
 obtain ⟨kvs,e,S⟩:=m.ex;obtain ⟨Zu,e',F⟩:=m'.ex;refine {kvs,Zu,e,e',by rw [S.length,F.length];exact Bf O nd J,λi n v hi=>?_};obtain ⟨l,hl,a,W,ha,_⟩:=S.at hi;have h1:look t n=some l:=sU nd (ER hl);rw [O n] at h1;rcases F.look n with ⟨v',l',Z,G,b,eb,hb⟩|⟨_,G⟩
 .rw [h1] at G;cases G;exact {_,Z,a,b,l,W,eb,ha,hb}
 .rw [h1] at G;cases G
theorem nN{k k':Addr}(m:Mk2 U H k us)(m':dq H k' ks)(J:cI us ks):gw H k k':=by
 obtain ⟨kvs,e,O⟩:=m.ex;obtain ⟨Zu,e',F⟩:=m'.ex;refine {kvs,Zu,e,e',by rw [O.length,F.length];exact J.len,λi n v hi=>?_};obtain ⟨u,hl,a,Z,ha,_⟩:=O.at hi;obtain ⟨x,S,W,n1,n2⟩:=J.eq n u (sU J.un (ER hl));rcases F.look n with ⟨v',l',g1,G,b,eb,_,hb⟩|⟨_,G⟩
 .rw [S] at G;cases G;exact {_,g1,a,b,Z,eb,jx ha hb W n1 n2}
 .rw [S] at G;cases G
theorem cI.refl(h:(names us).Nodup)(hp:∀p∈us,(names p.2).Nodup):cI us us:={h,h,rfl,λn u e=>{u,e,λ_=>rfl,hp _ (dz e),hp _ (dz e)}}
theorem Md2.at{t:Tab}(m:Md2 n H d t):bY H d t:=let ⟨kvs,e,dc⟩:=m.ex;{{kvs,e,dc.imp λv l ⟨a,e,h,_⟩=>⟨a,e,h⟩}}
theorem Mk2.at(m:Mk2 F H d ks):dq H d ks:=let ⟨kvs,e,dc⟩:=m.ex;{{kvs,e,dc.imp λv l ⟨a,e,h,n⟩=>⟨a,e,n,h.at⟩}}
structure h6(z:Str):Prop where
 a:asc z=true
 l:z.length<=200000
 w:(wds z).length<=900
 f:(wds z).countP zv<64
structure AgT(H:Hp)(z:Str)(p:Addr):Prop where
 ex:∃u us t ks d k,rdX z=some (u,us)/\H p=some (.tup [.ref d,.ref k])/\bY H d t/\dq H k ks/\eh u t/\(names t).Nodup/\cI us ks
inductive cL(H:Hp):V->V->Prop
 | none {z:Str}:h6 z->rdX z=none->cL H (.str z) .non
 | some {z:Str}{p:Addr}:h6 z->AgT H z p->cL H (.str z) (.ref p)
 | other {v:V}:Thg H v->(∀z,v≠.str z)->cL H v .non
theorem AgT.same{p:Addr}(h:AgT H z p)(s:zg H H'):AgT H' z p:=let ⟨u,us,t,ks,d,k,e,hp,m1,m2,r⟩:=h.ex;{{u,us,t,ks,d,k,e,s _ _ hp,m1.same s,m2.same s,r}}
theorem cL.same(h:cL H v x)(s:zg H H'):cL H' v x:=by
 cases h with
 | none a b=>exact .none a b
 | some a b=>exact .some a (b.same s)
 | other a b=>exact .other (a.same s) b
theorem sP(h:Thg H v)(n:∀z,v≠.str z):∃t,TyX K H v t/\kitOne K t (.type "str")=E8 false:=by
 cases h with
 | non=>exact {_,.of .non,rfl}
 | bl b=>exact {_,.of (.bl b),rfl}
 | int i=>exact {_,.of (.int i),rfl}
 | str x=>exact absurd rfl (n x)
 | lst h=>exact {_,.of (.lst h),rfl}
 | tup h=>exact {_,.of (.tup h),rfl}
 | dic h=>exact {_,.of (.dK h),rfl}
def AH(r x:V)(H:Hp):Prop:=(r = .non/\x = .non)\/∃p q a b c d,r = .ref p/\x = .ref q/\H p=some (.tup [.ref a,.ref b])/\H q=some (.tup [.ref c,.ref d])/\EqT H a c/\gw H b d
theorem sW(h:cL H v x)(q:∀r H',zg H H'->AH r x H'->Q r H'):jL K [v] H Q E:=by
 cases h with
 | @none z o e=>exact {_,rfl,.inl {z,rfl,o.a,o.l,EL o.w 'd',o.f,λu us n=>(by rw [e] at n;cases n),λ_ H' s=>q .non H' s (.inl {rfl,rfl})}}
 | @some z p o g =>
  obtain ⟨u,us,t,ks,d,k,e,hp,Z,U,O,nt,W⟩:=g.ex;have F:=kR e;refine {_,rfl,.inl {z,rfl,o.a,o.l,EL o.w 'd',o.f,λu' S n J d' k' H' s p0 G md mk=>?_,λn=>by rw [e] at n;cases n}};rw [e] at n;cases n;exact q (.ref J) H' s (.inr {J,p,d',k',d,k,rfl,rfl,G,s _ _ hp,jx md (Z.same s) (λm=>(gQ m).trans (O m)) (jk F.un) nt,nN mk (U.same s) ((fG F.kn λp hp=>(F.e p hp).2.1).trans W)})
 | other a b =>
  obtain ⟨t,h1,h2⟩:=sP (K:=K) a b;exact {_,rfl,.inr {t,h1,h2,λH' s=>q .non H' s (.inl {rfl,rfl})}}
theorem Spt.tx(h:Spt i z)(hi:i<=3):h6 z:=let ⟨h1,h2,h3⟩:=h.most hi;{h.a,h1,EL h2 'd',h3}
structure Bb(H:Hp)(a:Addr)(i:Nat)(σ:L2.St)(H':Hp):Prop where
 ex:∃t1 t2 t3 t4 t5 t6 t7 t8,σ=[some (V.ref a),t1,t2,t3,t4,t5,t6,t7,t8]
 same:zg H H'
structure SpI(H3:Hp)(a po d k:Addr)(j:Int)(R:Str)(i:Nat)(σ:L2.St)(H':Hp):Prop where
 ex:∃z t1 t2,σ=[some (V.ref a),some (.int j),some (.ref po),some (.ref d),some (.ref k),some (.str R),some (.str z),t1,t2]/\Spt i z
 but:But po H3 H'
 Lq:Pot H' po
structure MdI(H3:Hp)(a po d k:Addr)(j:Int)(R:Str)(σ:L2.St)(H':Hp):Prop where
 ex:∃v t1 t2,σ=[some (V.ref a),some (.int j),some (.ref po),some (.ref d),some (.ref k),some (.str R),some v,t1,t2]/\((∃z,v = .str z/\h6 z)\/(Thg H' v/\∀z,v≠.str z))
 but:But po H3 H'
structure DuI(H3:Hp)(a po d k:Addr)(j:Int)(R:Str)(σ:L2.St)(H':Hp):Prop where
 ex:∃v x t1,σ=[some (V.ref a),some (.int j),some (.ref po),some (.ref d),some (.ref k),some (.str R),some v,t1,some x]/\cL H' v x
 but:But po H3 H'
def jl(K:Frag):Sp:=λvs H Q _=>∃(a:Addr)(ns:List Int),vs=[.ref a]/\SqL K H a (ns.map V.int)/\ns.length<=63/\∀H',Q (.bl true) H'
theorem bN:zB ["_law_script","_law_k","_law_pot_here","_law_model_here","_law_kept","_law_right","_law_text_here","_law_turn","_law_due_here"] XR (zp mz):=fsc
theorem uV(F:Fun K "law" "law" mz f fd)(T:Txt K mg A)(Y8:GF P w K mg base true 2 "_law_pot" Yq (oH K))(Zr:GF P w K mg base true 6 Xm YJ rS)(Zc:GF P w K mg base true 2 "_law_text" X2 nD)(Z9:GF P w K mg base true 1 XO Za cE)(Zq:GF P w K mg base true 4 Xl X7 nX)(Z8:GF P w K mg base true 2 XN YB dI)(Y7:GF P w K mg base true 4 "_law_due" X9 (pK K))(ZE:GF P w K mg base true 8 "_law_told" X9 (jL K)):zr P w K mg base CX0 true 9 f fd XR (jl K):=by
 refine F.o bN λZX Ar outer s H vs Q E hr h=>?_;obtain ⟨a,ns,rfl,hS,hl,q⟩:=h;have hu:_<cLine:=Fc (zR hr);refine {_,(W.h (ze (bW Gj.never (λ_=>rfl) (cz rfl T.rk (za (zA (jr rfl) rfl T.K4 boot_max (za zj (za (zA (oI rfl) rfl T.LW boot_min (za (zA mO rfl T.o2 EK (za (zb 0) zc)) (za zj zc))) zc))) zc)) (zW (i:=1) bN.nd rfl (EA rfl))
   (ze (zw (i:=2) bN.nd rfl (EA rfl) (caD (zy Y8 hr rfl (clP (za (zb 0) (za (zb 1) zc))))))
   (ze (bu (caD (zy Zr hr rfl (clP (za (zb 2) zc)))) (iF (n:=2) (gsD (cZ (zW (i:=3) bN.nd rfl (EA rfl)) (gsD (cZ (zW (i:=4) bN.nd rfl (EA rfl)) iV))))))
   (ze (zw (i:=5) bN.nd rfl (EA rfl) (caD (zy Zc hr rfl (clP (za (zb 3) (za (zb 4) zc))))))
   (ze (zw (i:=6) bN.nd rfl (EA rfl) (zb 5))
   (ze (bW Gj.never (λ_=>rfl) (cz rfl T.rk (za (caD (zy Z9 hr rfl (clP (za (zb 2) (za zj zc))))) zc)) (zW (i:=7) bN.nd rfl (EA rfl))
   (zi (zw (i:=6) bN.nd rfl (EA rfl) (caD (zy Zq hr rfl (clP (za (zb 2) (za (zb 6) zc))))))))
   (ze (jM (zL (tD (zH (clO (oE (bO hu))) (clE (caD (zy Z9 hr rfl (clP (za (zb 2) (za zj zc)))))) (clE zj) (zF _)))
   (zi (zw (i:=6) bN.nd rfl (EA rfl) (caD (zy Z8 hr rfl (clP (za (zb 2) (za (af (za aN (za zj (za dm (za (af zc) (za (bg (za (zb 5) zc)) (za dG (za (af (za (zb 5) zc)) zc)))))))) zc)))))))
   zN))
   (ze (jM (zw (i:=8) bN.nd rfl (EA rfl) (caD (zy Y7 hr rfl (clP (za (zb 6) zc))))))
   (ze (jM (zL (cu (wR (tD (zH (clO Cr) (clE (zb 8)) (clE aN) (zF _))) (ux (tD (zH (clO (oI0 gY)) (clE (zA gE rfl T.o2 EK (za (zJ aq (zb 8) zj (λ_ _=>rfl)) zc))) (clE zj) (zF _))))))
   (zi (x8 (i:=6) (j:=8) rfl bN.nd rfl rfl 'd' rfl rfl (za (zb 5) (za (bg (za (zb 3) (za (zb 4) zc))) zc)) rfl))
   zN))
   (zi (zL (cu (bJ (tD (zH (clO (jC hr.LZ)) (clE (caD (zy ZE hr rfl (clP (za (zb 6) zc))))) (clE (zb 8)) (zF _))) (bJ (tD (zH (clO (jC hr.LZ)) (clE (caD (zy ZE hr rfl (clP (za (zb 5) zc))))) (clE (bg (za (zb 3) (za (zb 4) zc)))) (zF _))) (cK (tD (zH (clO (jC hr.LZ)) (clE (caD (zy ZE hr rfl (clP (za (zb 6) zc))))) (clE (zb 8)) (zF _)))))))
   (zi (zz dm))
   zN)))))))))))
   (zi (zz dm)))),?_}
 ac_rfl;refine {_,.inl hS,?_};rw [En];refine {by split<;>(try split)<;>omega,by split<;>(try split)<;>omega,aZ.rng (Bb H a) {{_,_,_,_,_,_,_,_,rfl},zg.refl _} ?_ ?_}
 .rintro i σ H' hi ⟨⟨t1,t2,t3,t4,t5,t6,t7,t8,rfl⟩,sm⟩;ac_rfl;refine {a,ns,_,rfl,sm.seq hS,by omega,λpo H2 s2 a4 hP=>{po,rfl,hP,λp d k t ks H3 b3 Z hp ⟨kvs,ed,dc⟩ gm ⟨bq,ek,dk⟩ O=>?_}};have a6:But po H' H3:=(But.of s2).trans b3;have Yp:zg H' H3:=a6.gone a4;refine {p,_,rfl,SqT.of hp,rfl,?_};ac_rfl;have md:∀H4,But po H3 H4->Pot H3 po->bY H4 d t/\dq H4 k ks:=λH4 b4 Z=>by
   have dp:d≠po:=λz=>by obtain ⟨x,y,e,_⟩:=Z.ex;rw [z,e] at ed;cases ed
   have kp:k≠po:=λz=>by obtain ⟨x,y,e,_⟩:=Z.ex;rw [z,e] at ek;cases ek
   exact {{{kvs,b4 _ _ dp ed,dc.imp λv x r=>let ⟨p,e,hp,_⟩:=r.but b4;⟨p,e,hp⟩}},{{bq,b4 _ _ kp ek,dk.imp λv x r=>let ⟨d,kv,e,_,n,ed,dc⟩:=r.but b4;{d,e,n,{{kv,ed,dc.imp λv x ⟨p,e,hp,_⟩=>⟨p,e,hp⟩}}}}}}
  have m3:=md H3 (λ_ _ _ e=>e) Z;refine {d,k,t,ks,rfl,m3.1,gm,m3.2,O,λH4 s4=>?_};ac_rfl;have R0:=yq gm O;have o0:=R0.tx 'd';have bA:∀{H9:Hp}{p9:Addr},But po H3 H9->H9 p9=some (.tup [.ref d,.ref k])->cL H9 (.str (bQ t ks)) (.ref p9):=λb h=>.some o0 {{_,_,t,ks,d,k,ke gm O,h,(md _ b Z).1,(md _ b Z).2,gQ,gm.nd,fG O.nd λp hp=>(O.gm p hp).nd}};refine {po,_,rfl,Z.same s4,'d','d',λr H5 b5 ba r0 r1=>?_};ac_rfl;refine {by omega,by omega,aZ.rng (SpI H3 a po d k (0+(i:Int)) (bQ t ks)) {{_,_,_,rfl,R0},(But.of s4).trans b5,ba} ?_ ?_}
  .rintro j σ H6 hj ⟨⟨z,t1,t2,rfl,hz⟩,b6,Ye⟩;obtain ⟨z1,z2,z3⟩:=hz.most (by omega);ac_rfl;exact {po,z,rfl,Ye,hz.a,z1,z2,λz' H7 sp U S=>{{_,_,_,rfl,hz.next sp},b6.trans U,S}}
  rintro σ H6 ⟨⟨z,t1,t2,rfl,hz⟩,b6,Ye⟩;have cv:=hz.tx (by omega);ac_rfl;refine {MdI H3 a po d k (0+(i:Int)) (bQ t ks),?_,?_}
  .ac_rfl;refine {po,_,rfl,Ye,'d','d',λy H7 U S y0 y1=>?_};ac_rfl;refine ah (λ_=>?_) λ_=>{{_,_,_,rfl,.inl {z,rfl,cv}},b6.trans U};refine {'d',λc1 J1 m1 _=>{'d',λc2 J2 m2 c3 J3 m3=>{'d',λc4 J4 m4 _=>{'d',λc5 J5 m5 _=>?_}}}};have q1:=S.same m1.same;have q2:=q1.same m2.same;have q3:=q2.same m3.same;have q4:=q3.same m4.same;have a0:=m4.same.trans m5.same;have a7:=m3.same.trans a0;have aI:=m2.same.trans a7;have sJ:zg H7 J5:=m1.same.trans aI;refine {po,S.same sJ,.inl {c5,_,rfl,q4.ne m5.no,.inl m5.at_,'s','s',λv H8 hv J c6=>?_}};have bb:But po H3 H8:=(b6.trans U).trans ((But.of sJ).trans J);simp only [EI,FW,or_false] at hv;rcases hv with rfl|rfl|rfl|rfl|rfl|rfl|rfl
   .exact {{_,_,_,rfl,.inr {.non,λz h=>nomatch h}},bb}
   .exact {{_,_,_,rfl,.inr {.int 7,λz h=>nomatch h}},bb}
   .exact {{_,_,_,rfl,.inr {.bl true,λz h=>nomatch h}},bb}
   .exact {{_,_,_,rfl,.inr {.lst (J _ _ (S.ne m1.no) (aI _ _ m1.at_)),λz h=>nomatch h}},bb}
   .exact {{_,_,_,rfl,.inr {.tup (J _ _ (q1.ne m2.no) (a7 _ _ m2.at_)),λz h=>nomatch h}},bb}
   .exact {{_,_,_,rfl,.inr {.dic (J _ _ (q2.ne m3.no) (a0 _ _ m3.at_)),λz h=>nomatch h}},bb}
   .exact {{_,_,_,rfl,.inr {.lst (J _ _ (q3.ne m4.no) (m5.same _ _ m4.at_)),λz h=>nomatch h}},bb}
  .rintro dn H7 ⟨⟨v,t1,t2,rfl,hv⟩,U⟩;ac_rfl;refine {DuI H3 a po d k (0+(i:Int)) (bQ t ks),?_,?_}
   .ac_rfl;rcases hv with ⟨z,rfl,o⟩|⟨th,ns⟩
    .refine {_,rfl,.inl {z,rfl,o.a,o.l,o.w,λu us e p8 d8 k8 H8 s8 da ak b1 bp=>?_,λe H8 s8=>{{_,_,_,rfl,.none o e},U.trans (.of s8)}}};have W:=kR e;exact {{_,_,_,rfl,.some o {{u,us,u,us,d8,k8,e,ak,b1.at,bp.at,λ_=>rfl,W.un,cI.refl W.kn λp hp=>(W.e p hp).2.1}}},U.trans (.of s8)}
    .obtain ⟨t0,h1,h2⟩:=sP (K:=K) th ns;exact {_,rfl,.inr {t0,h1,h2,{{_,_,_,rfl,.other th ns},U}}}
   .rintro dT H8 ⟨⟨v,x,t1,rfl,ag⟩,J⟩;ac_rfl;refine {DuI H3 a po d k (0+(i:Int)) (bQ t ks),?_,?_}
    .ac_rfl;cases ag with
     | none o e =>
      ac_rfl;exact {{_,_,_,rfl,.none o e},J}
     | other th ns =>
      ac_rfl;exact {{_,_,_,rfl,.other th ns},J}
     | some o g =>
      obtain ⟨u,us,t',ks',d',k',e,ak,m1,m2,r⟩:=g.ex;obtain ⟨dt,bt,_⟩:=m2.ex;ac_rfl;refine {_,.inr ak,_,kA,?_};ac_rfl;refine {_,.inl bt,?_};ac_rfl;exact ah (λ_=>{'d',λp9 H9 n9=>{{_,_,_,rfl,bA (J.trans (.of n9.same)) n9.at_},J.trans (.of n9.same)}}) λ_=>{{_,_,_,rfl,.some o g},J}
    .rintro dK H9 ⟨⟨v,x,t1,rfl,ag⟩,b9⟩;ac_rfl;refine sW ag λr1 H10 av b0=>{?_,b0};ac_rfl;have cC:=b9.trans (.of av);have hh:∀p∈ks,(names p.2).Nodup:=λp hp=>(O.gm p hp).nd;refine {_,rfl,.inl {bQ t ks,rfl,o0.a,o0.l,EL o0.w 'd',o0.f,λu us e p' d' k' df ax p0 a9 ct mk'=>?_,λe=>(by rw [ke gm O] at e;cases e)}};rw [ke gm O] at e;cases e;refine {'d',λa8 H12 G=>?_};have a5:But po H3 H12:=cC.trans (.of (ax.trans G.same));have a3:=md H12 a5 Z;refine {?_,.inr {p',a8,d',k',d,k,rfl,rfl,G.same _ _ a9,G.at_,jx (ct.same G.same) a3.1 (λm=>(gQ m).trans (gQ m)) (jk (jk gm.nd)) gm.nd,nN (mk'.same G.same) a3.2 ((fG (pR O.nd hh).1 (pR O.nd hh).2).trans (fG O.nd hh))}};ac_rfl;refine sW (ag.same ((av.trans ax).trans G.same)) λr3 dg b2 cD=>{?_,cD};ac_rfl;exact {{_,_,_,_,_,_,_,_,rfl},sm.trans ((a6.trans (a5.trans (.of b2))).gone a4)}
 .rintro σ H' ⟨⟨t1,t2,t3,t4,t5,t6,t7,t8,rfl⟩,sm⟩;ac_rfl;exact q H'
end
theorem all_mk{l:OpenLaw}{w:EG}{K:Frag}{h:Heap}{mg:Str->Option Value}{fa:Addr}{ut a9 ak a0 a5 a6 ba v6 a7 n a8 ax bb aI a4 av a3 S O J:Addr}{hr dc hu e2:Tok}(X:K.In h)(G:h.Ns Ep mg)(da:mg "law"=some (.ref fa))
  (ff:GB K Ep "CleanError"=some (some (.ref ut)))
  (eX:GB K Ep "NoRow"=some (some (.ref a9)))
  (hM:GB K Ep "NoDisk"=some (some (.ref ak)))
  (ht:GB K Ep "Full"=some (some (.ref a0)))
  (dk:GB K Ep "Stopped"=some (some (.ref a5)))
  (hx:GB K Ep "NoFile"=some (some (.ref a6)))
  (ej:GB K Ep "NoPlace"=some (some (.ref ba)))
  (ez:GB K Ep "HeldAlready"=some (some (.ref v6)))
  (hW:GB K Ep "NotHeld"=some (some (.ref a7)))
  (hR:GB K Ep "NoFiles"=some (some (.ref n)))
  (b3:GB K Ep "NoMark"=some (some (.ref a8)))
  (eM:GB K Ep "NoRoom"=some (some (.ref ax)))
  (f7:GB K Ep "Gone"=some (some (.ref bb)))
  (d7:GB K Ep "NotClosed"=some (some (.ref aI)))
  (eH:GB K Ep "NotBlank"=some (some (.ref a4)))
  (eN:GB K Ep "NoDeed"=some (some (.ref av)))
  (d2:GB K Ep "NoHouse"=some (some (.ref a3)))
  (c2:GB K Ep "NoPart"=some (some (.ref S)))
  (bA:GB K Ep "Words"=some (some (.ref O)))
  (bp:GB K Ep "Files"=some (some (.ref J)))
  (ef:FnM K "is_whole" kM)
  (cC:FnM K Xq kB)
  (e1:FnM K Xy iR)
  (hl:FnM K XA kO)
  (hp:FnM K "is_name" jG)
  (e3:az K O XJ "Words.__init__" jV)
  (ew:az K O Xo "Words.take_word" hG)
  (hT:az K O XC Xu il)
  (hH:az K O "take_name" "Words.take_name" iH)
  (b5:az K O Xr "Words.is_at_end" ku)
  (c3:az K O "take_end" "Words.take_end" ij)
  (dp:az K J XJ "Files.__init__" kY)
  (d6:az K J "names" "Files.names" mK)
  (e6:az K J "many" "Files.many" mG)
  (b9:az K J "birth" "Files.birth" kI)
  (cD:az K J "put" "Files.put" mL)
  (gd:az K J "free" "Files.free" jZ)
  (dT:az K J "held" "Files.held" mP)
  (eg:az K J "of_held" "Files.of_held" my)
  (eD:az K J "bare" "Files.bare" km)
  (hL:az K J "keep" "Files.keep" jP)
  (d0:az K J XB "Files.refuse_if_none" jR)
  (v4:az K J XH "Files.refuse_if_not_held" mf)
  (dK:FnM K Xw jm)
  (hz:FnM K Xx iM)
  (hv:FnM K Xz iy)
  (b7:FnM K XI iP)
  (gi:FnM K "_law_at" lL)
  (f3:FnM K "_law_pot" lr)
  (eK:FnM K XO ky)
  (ey:FnM K XN kP)
  (b0:FnM K Xp iq)
  (ek:FnM K "_law_names" j9)
  (h3:FnM K Xv lQ)
  (e0:FnM K "_law_model" gU)
  (eT:FnM K Xm jF)
  (d3:FnM K "_law_words" i6)
  (hD:FnM K "_law_text" lR)
  (dn:FnM K XM gZ)
  (hO:FnM K XD kT)
  (hB:FnM K Xl lE)
  (hq:FnM K XF jt)
  (e4:FnM K XG fT)
  (c5:FnM K Xs kd)
  (d1:FnM K "_law_due" lT)
  (hQ:FnM K Xn ir)
  (e5:FnM K Xt k9)
  (hK:FnM K "_law_told" iG)
  (fy:FnM K "law" mz)
  (gC:GB K Ep "ValueError"=some none)
  (fv:GB K Ep "all"=some none)
  (el:GB K Ep "bool"=some none)
  (b8:GB K Ep "dict"=some none)
  (hy:GB K Ep "divmod"=some none)
  (f5:GB K Ep "int"=some none)
  (f6:GB K Ep "isinstance"=some none)
  (cv:GB K Ep "len"=some none)
  (hI:GB K Ep "max"=some none)
  (eb:GB K Ep "min"=some none)
  (hS:GB K Ep "range"=some none)
  (hc:GB K Ep "sorted"=some none)
  (dV:GB K Ep "str"=some none)
  (eu:GB K Ep "FIGURES"=some (some (.str "0123456789" hr)))
  (ha:GB K Ep "LETTERS"=some (some (.str "abcdefghijklmnopqrstuvwxyz" dc)))
  (b1:GB K Ep "MOST_FIGURES"=some (some (.int 18 hu)))
  (gr:GB K Ep "MOST_LETTERS"=some (some (.int 6 e2)))
  (hb:excIn K ut [.type "ValueError",.type "Exception",.type "BaseException",.type "object"] "ValueError.__new__"=true)
  (bt:excIn K n [.type "ValueError",.type "Exception",.type "BaseException",.type "object"] "ValueError.__new__"=true)
  (ea:excIn K S [.type "ValueError",.type "Exception",.type "BaseException",.type "object"] "ValueError.__new__"=true)
  (dg:mroIn K n (.ref n)=some true)
  (et:mroIn K S (.ref S)=some true)
  (c6:findIn K (.ref n) "__getattribute__"=some (some (.builtin "BaseException.__getattribute__")))
  (hY:findIn K (.ref n) "__getattr__"=some none)
  (d8:findIn K (.ref n) "__class__"=some (some (.builtin "object.__class__")))
  (hA:mroIn K n (.type "object")=some true)
  (hC:mroIn K n (.type "BaseException")=some true)
  (g0:mroIn K n (.ref ut)=some true)
  (e7:kitOne K (.ref n) (.type "ValueError")=some true)
  (ct:kitOne K (.ref n) (.ref a9)=some false)
  (ec:kitOne K (.ref n) (.ref ak)=some false)
  (hs:kitOne K (.ref n) (.ref a0)=some false)
  (fx:kitOne K (.ref n) (.ref a5)=some false)
  (ei:kitOne K (.ref n) (.ref a6)=some false)
  (df:kitOne K (.ref n) (.ref ba)=some false)
  (gk:kitOne K (.ref n) (.ref v6)=some false)
  (hk:kitOne K (.ref n) (.ref a7)=some false)
  (ho:kitOne K (.ref n) (.ref n)=some true)
  (g4:kitOne K (.ref n) (.ref a8)=some false)
  (eR:kitOne K (.ref n) (.ref ax)=some false)
  (hg:kitOne K (.ref n) (.ref bb)=some false)
  (hn:kitOne K (.ref n) (.ref aI)=some false)
  (b6:kitOne K (.ref n) (.ref a4)=some false)
  (gu:kitOne K (.ref n) (.ref av)=some false)
  (hh:kitOne K (.ref n) (.ref a3)=some false)
  (eV:kitOne K (.ref n) (.ref S)=some false)
  (b4:IM K O Str.empty=true)
  (b2:hasDictIn K O=true)
  (hj:plainOver K O=true)
  (ed:findIn K (.ref O) "__setattr__"=some (some (.builtin "object.__setattr__")))
  (hP:makesIn K O=true)
  (gT:IE K (.ref O)=true)
  (fF:findIn K (.ref O) "taken"=some none)
  (hF:findIn K (.ref O) "words"=some none)
  (er:IM K J Str.empty=true)
  (c4:hasDictIn K J=true)
  (e8:plainOver K J=true)
  (eF:findIn K (.ref J) "__setattr__"=some (some (.builtin "object.__setattr__")))
  (g5:makesIn K J=true)
  (eC:IE K (.ref J)=true)
  (dt:findIn K (.ref J) "births"=some none)
  (hN:findIn K (.ref J) "kept"=some none) :
  ∃fd:Ey,(∀(s:Eh)(v:Value),BindsTo s fd {[v],[]} [("_law_script",v)])/\∀base:Heap,K.In base->base.Ns Ep mg->zr l.prog w K mg base CX0 true 9 fa fd XR (jl K):=by
 obtain ⟨h4,U,bq,ag⟩:=fy;have e:=da.symm.trans (Gv X G bq);cases e;have hE:∀(s:Eh)(v:Value),BindsTo s U {[v],[]} [("_law_script",v)]:=by obtain ⟨_,_,_,_,_,_,_,_,_,rfl,_⟩:=ag.ex;exact λs v=>.of_eq rfl
 have T:Txt K mg ⟨ut,a9,ak,a0,a5,a6,ba,v6,a7,n,a8,ax,bb,aI,a4,av,a3,S,O,J⟩:={FX X G gC,FX X G fv,FX X G el,FX X G b8,FX X G hy,FX X G f5,FX X G f6,FX X G cv,FX X G hI,FX X G eb,FX X G hS,FX X G hc,FX X G dV,{_,Gv X G eu,{_,rfl}},{_,Gv X G ha,{_,rfl}},{_,Gv X G b1,{_,rfl}},{_,Gv X G gr,{_,rfl}},Gv X G ff,Gv X G eX,Gv X G hM,Gv X G ht,Gv X G dk,Gv X G hx,Gv X G ej,Gv X G ez,Gv X G hW,Gv X G hR,Gv X G b3,Gv X G eM,Gv X G f7,Gv X G d7,Gv X G eH,Gv X G eN,Gv X G d2,Gv X G c2,Gv X G bA,Gv X G bp,hb,bt,ea,dg,et,⟨bt,c6,hY,d8,hA,hC⟩,g0,e7,ct,ec,hs,fx,ei,df,gk,hk,ho,g4,eR,hg,hn,b6,gu,hh,eV,⟨b4,b2,hj,ed⟩,fF,hF,⟨er,c4,e8,eF⟩,dt,hN};refine {U,hE,λbase _ _=>?_};have Y9:=gf (w:=w) l.prog base true X G ef (λ_ _ F=>vo F T) λ_ _ _ _ _ _=>u1 λ_=>rfl;have ZN:=gf (w:=w) l.prog base true X G cC (λ_ _ F=>BL F T Y9) λ_ _ _ _ _ _=>u3 λ_ _ _=>rfl;have ZQ:=gf (w:=w) l.prog base true X G e1 (λ_ _ F=>x3 F T) λ_ _ _ _ _ _=>u3 λ_ _ _=>rfl;have Y3:=gf (w:=w) l.prog base true X G hp (λ_ _ F=>Cj F T ZQ) λ_ _ _ _ _ _=>u1 λ_=>rfl;have ZH:=gf (w:=w) l.prog base true X G hl (λ_ _ F=>yd F T ZQ) λ_ _ _ _ _ _=>u1 λ_=>rfl;have Zb:=gc (w:=w) l.prog base true X G bp g5 eC dp (λ_ _ F=>Cf F T) λ_ _ _ _ _ _=>u1 λ_=>rfl;have Zt:=gm (w:=w) l.prog base true d6 (λ_ _ F=>yf F T) λ_ _ _ _ _ _=>u1 λ_=>rfl;have ZZ:=gm (w:=w) l.prog base true e6 (λ_ _ F=>xH F T) λ_ _ _ _ _ _=>u2 λ_ _=>rfl;have ZU:=gm (w:=w) l.prog base true d0 (λ_ _ F=>xY F T) λ_ _ _ _ _ _=>u2 λ_ _=>rfl;have Z6:=gm (w:=w) l.prog base true v4 (λ_ _ F=>xh F T) λ_ _ _ _ _ _=>u2 λ_ _=>rfl;have Zs:=gm (w:=w) l.prog base true b9 (λ_ _ F=>xl F T ZU ZZ ZN) λ_ _ _ _ _ _=>u3 λ_ _ _=>rfl;have Zd:=gm (w:=w) l.prog base true cD (λ_ _ F=>uT F T ZZ ZN) λ_ _ _ _ _ _=>u4 λ_ _ _ _=>rfl;have Zh:=gm (w:=w) l.prog base true dT (λ_ _ F=>xq F T) λ_ _ _ _ _ _=>u1 λ_=>rfl;have ZP:=gm (w:=w) l.prog base true eD (λ_ _ F=>Bj F T Zb) λ_ _ _ _ _ _=>u1 λ_=>rfl;have Zk:=gm (w:=w) l.prog base true hL (λ_ _ F=>AC F T ZP) λ_ _ _ _ _ _=>u3 λ_ _ _=>rfl;have W:=gm (w:=w) l.prog base true gd (λ_ _ F=>Dv F T Z6) λ_ _ _ _ _ _=>u2 λ_ _=>rfl;have ZD:=gm (w:=w) l.prog base true eg (λ_ _ F=>Dm F T Z6 ZP) λ_ _ _ _ _ _=>u2 λ_ _=>rfl;have Y4:=gf (w:=w) l.prog base true X G gi (λ_ _ F=>Di F T) λ_ _ _ _ _ _=>u2 λ_ _=>rfl;have Y8:=gf (w:=w) l.prog base true X G f3 (λ_ _ F=>Bv F T Y4) λ_ _ _ _ _ _=>u2 λ_ _=>rfl;have Z:=gf (w:=w) l.prog base true X G eK (λ_ _ F=>Dq F T) λ_ _ _ _ _ _=>u2 λ_ _=>rfl;have Z8:=gf (w:=w) l.prog base true X G ey (λ_ _ F=>C7 F T Z) λ_ _ _ _ _ _=>u2 λ_ _=>rfl;have Zm:=gf (w:=w) l.prog base true X G h3 (λ_ _ F=>BH F T Z Z8) λ_ _ _ _ _ _=>u1 λ_=>rfl;have ZM:=gf (w:=w) l.prog base true X G b0 (λ_ _ F=>A0 F T Z Z8) λ_ _ _ _ _ _=>u1 λ_=>rfl;have Zl:=gf (w:=w) l.prog base true X G ek (λ_ _ F=>wY F T Z ZM) λ_ _ _ _ _ _=>u1 λ_=>rfl;have ZC:=gf (w:=w) l.prog base true X G e0 (λ_ _ F=>Dz F T Z Z8 Zm Zl) λ_ _ _ _ _ _=>u1 λ_=>rfl;have Zr:=gf (w:=w) l.prog base true X G eT (λ_ _ F=>DQ F T Z ZM ZC) λ_ _ _ _ _ _=>u1 λ_=>rfl;have ZA:=gf (w:=w) l.prog base true X G d3 (λ_ _ F=>vK F T) λ_ _ _ _ _ _=>u1 λ_=>rfl;have Zc:=gf (w:=w) l.prog base true X G hD (λ_ _ F=>x5 F T ZA) λ_ _ _ _ _ _=>u2 λ_ _=>rfl;have Z2:=gm (w:=w) l.prog base true b5 (λ_ _ F=>DZ F T) λ_ _ _ _ _ _=>u1 λ_=>rfl;have Z1:=gmx (w:=w) l.prog base true ew (λ_ _ F=>yj F T Z2) λ_ _ _ _ _ _=>u1 λ_=>rfl;have Z4:=gmx (w:=w) l.prog base true hT (λ_ _ F=>Cn F T Z1 ZH) λ_ _ _ _ _ _=>u1 λ_=>rfl;have ZL:=gmx (w:=w) l.prog base true hH (λ_ _ F=>xb F T Z1 Y3) λ_ _ _ _ _ _=>u1 λ_=>rfl;have ZG:=gmx (w:=w) l.prog base true c3 (λ_ _ F=>xP F T Z2) λ_ _ _ _ _ _=>u1 λ_=>rfl;have Z0:=gx (w:=w) l.prog base true X G b7 (λ_ _ F=>Cz F T ZL) λ_ _ _ _ _ _=>u2 λ_ _=>rfl;have YR:=gc (w:=w) l.prog base true X G bA hP gT e3 (λ_ _ F=>A2 F T) λ_ _ _ _ _ _=>u2 λ_ _=>rfl;have Zz:=gx (w:=w) l.prog base true X G hv (λ_ _ F=>vZ F T Zb Z4 Z0 Zd) λ_ _ _ _ _ _=>u1 λ_=>rfl;have Zj:=gx (w:=w) l.prog base true X G hz (λ_ _ F=>AY F T Zz Z4 Z0 Zk) λ_ _ _ _ _ _=>u1 λ_=>rfl;have Zi:=gx (w:=w) l.prog base true X G dK (λ_ _ F=>DR F T YR Zj ZG) λ_ _ _ _ _ _=>u1 λ_=>rfl;have Z5:=gf (w:=w) l.prog base true X G dn (λ_ _ F=>u5 F T) λ_ _ _ _ _ _=>u1 λ_=>rfl;have ZW:=gf (w:=w) l.prog base true X G hq (λ_ _ F=>vC F T) λ_ _ _ _ _ _=>u1 λ_=>rfl;have ZY:=gf (w:=w) l.prog base true X G e4 (λ_ _ F=>wV F T Z5 ZW) λ_ _ _ _ _ _=>u2 λ_ _=>rfl;have Zy:=gf (w:=w) l.prog base true X G c5 (λ_ _ F=>CF F T Z5 ZW ZY) λ_ _ _ _ _ _=>u2 λ_ _=>rfl;have Y7:=gf (w:=w) l.prog base true X G d1 (λ_ _ F=>AQ F T ZY Zy) λ_ _ _ _ _ _=>u1 λ_=>rfl;have ZK:=gf (w:=w) l.prog base true X G hO (λ_ _ F=>wX F T Z5 Z8) λ_ _ _ _ _ _=>u2 λ_ _=>rfl;have Zq:=gf (w:=w) l.prog base true X G hB (λ_ _ F=>yu F T Z Z8 ZK) λ_ _ _ _ _ _=>u2 λ_ _=>rfl;have Zw:=gf (w:=w) l.prog base true X G hQ (λ_ _ F=>CA F T Zt ZZ Zs) λ_ _ _ _ _ _=>u1 λ_=>rfl;have Zx:=gf (w:=w) l.prog base false X G e5 (λ_ _ F=>x9 F T) λ_ _ _ _ _ _=>u1 λ_=>rfl;have ZE:=gf (w:=w) l.prog base true X G hK (λ_ _ F=>xV F T Zi Zw Zh ZD Zx) λ_ _ _ _ _ _=>u1 λ_=>rfl;exact uV ag T Y8 Zr Zc Z Zq Z8 Y7 ZE
theorem walk{l:OpenLaw}{K:Params->Frag}(hn:l.most=some 63)(G:d.params.defaults=[])(U:∀(w:EG)(h:Heap),J w h->(K w.params).In h)(F:∀(w:EG)(mg:Str->Option Value)(O:Addr)(h:Heap),(K w.params).In h->h.Ns Ep mg->mg d.name=some (.ref O) ->
   ∃fd:Ey,(∀(s:Eh)(u:Value),BindsTo s fd {[u],[]} [("_law_script",u)])/\∀base:Heap,(K w.params).In base->base.Ns Ep mg->zr l.prog w (K w.params) mg base CX0 true 9 O fd XR (jl (K w.params))):
  WalkO q Z S J l.row.toRowW d [] (λf vs=>PySem.call f vs) :=
 L2.walk_of (n:=63) (k:=9) (x:="_law_script") (CX:=λ_=>CX0) (sp:=λw=>jl (K w.params)) hn 'd' G {λ_=>rfl,'d','d',rfl} U F (λ_ _ a ns hl _ W=>{a,ns,rfl,W,hl,λ_=>rfl}) λ_ _ _ _ _ z=>z
end K24
def PySem.W.Fast.Kk:Nat:=0
def PySem.W.Fast.Ko:Nat:=0
def PySem.W.Fast.KD:Nat:=0
def PySem.W.Fast.JX:Nat:=0
def PySem.W.Fast.JO:Nat:=0
def PySem.W.Fast.Kx:Nat:=0
def PySem.W.Fast.JM:Nat:=0
def PySem.W.Fast.JK:Nat:=0
def PySem.W.Fast.JI:Nat:=0
def PySem.W.Fast.JW:Nat:=0
def PySem.W.Fast.Kn:Nat:=0
def PySem.W.Fast.Km:Nat:=0
def PySem.W.Fast.J0:Nat:=0
def PySem.W.Fast.KN:Nat:=0
def PySem.W.Fast.KF:Nat:=0
def PySem.W.Fast.Ks:Nat:=0
def PySem.W.Fast.JU:Nat:=0
def PySem.W.Fast.JP:Nat:=0
def PySem.W.Fast.JJ:Nat:=0
def PySem.W.Fast.JS:Nat:=0
def PySem.W.Fast.JN:Nat:=0
def PySem.W.Fast.KB:Nat:=0
def PySem.W.Fast.JH:Nat:=0
def PySem.W.Fast.JT:Nat:=0
def PySem.W.Fast.Kv:Nat:=0
def PySem.W.Fast.Kj:Nat:=0
def PySem.W.Fast.Ky:Nat:=0
def PySem.W.Fast.Kq:Nat:=0
def PySem.W.Fast.KO:Nat:=0
def PySem.W.Fast.JQ:Nat:=0
def PySem.W.Fast.KG:Nat:=0
def PySem.W.Fast.KA:Nat:=0
def PySem.W.Fast.JR:Nat:=0
def PySem.W.Fast.Kz:Nat:=0
def PySem.W.Fast.KL:Nat:=0
def PySem.W.Fast.JY:Nat:=0
def PySem.W.Fast.Kr:Nat:=0
def PySem.W.Fast.Kl:Nat:=0
def PySem.W.Fast.Ki:Nat:=0
def PySem.W.Fast.KI:Nat:=0
def PySem.W.Fast.Ku:Nat:=0
def PySem.W.Fast.JV:Nat:=0
def PySem.W.Fast.JZ:Nat:=0
def PySem.W.Fast.JL:Nat:=0
def PySem.W.Fast.KM:Nat:=0
def PySem.W.Fast.J6:Nat:=0
def PySem.W.Fast.Kp:Nat:=0
def PySem.W.Fast.Kw:Nat:=0
def PySem.W.Fast.Kt:Nat:=0
def PySem.W.Fast.KJ:Nat:=0
def PySem.W.Fast.KH:Nat:=0
structure PySem.W.Fast:Prop where(tw7804236604578896991 tw6945917961535929849 tw3435341445577969930 tw11680362356178904033 tw15836510340395411809 tw4273444027714503349 tw17246389243271145075 tw17486114885254318748 tw18326751227762380539 tw11700954029668173224 tw7189292752961019381 tw7373579475080723903 tw10432264494019714213 tw635026209627684740 tw2639438659599230260 tw5567367686811310930 tw12573791385943263690 tw15615094625097313994 tw17751791883265615368 tw14721143539395867041 tw16985631549381001085 tw3684191183581045567 tw18387376305674342037 tw13076765526279158267 tw5017939768896784686 tw8922861440035016815 tw4076425998668486090 tw5931390530770289320 tw467786840817455230 tw15528819093015702924 tw2299925246429191952 tw3724129833979378385 tw15170490575392525087 tw3814954519464028963 tw1261024072122755839 tw11256868774290115772 tw5672143758643483378 tw7678420016160236960 tw9327078815260792942 tw2103044790020717019 tw5288556162073827159 tw12441900645921135949 tw10658978632383902538 tw17333489741383071184 tw909521833378376808 tw10418177413845678533 tw6222504373287829337 tw4741506134520259520 tw5415856447679057427 tw1906902280737908758 tw2122097770138364842 tw5141780407042651296 tw5934341952322478353 tw1983593651526935803 tw6104314582684138590 tw4411209298701018703 tw3657584392279797746 tw10100604181608241611 tw11575872982972061877 tw7955453133418982855 tw6879654747465199287 tw11884876414554222622 tw2391900274851095586 tw4042244412865425883 tw2549192588998670897 tw8796982842269104803 tw15133171883217513167 tw14492421432445377668 tw13526188563686076151 tw802923856261142074 tw16485650444201744913 tw17354513340152424801 tw6450676670608102120 tw17707692130510259874 tw11782984846257060474 tw2638293438050429630 tw9919921235393705370 tw10708794294237706851 tw6494740788373793189 tw9261593301284677688 tw3497916077014842518 tw876642335869900385 tw5199023279693373569 tw3992239242697047513 tw9428320140593568053 tw5378659449738403033 tw8488541822747698375 tw16117191062188612201 tw5062448506794416936 tw17993868809689086894 tw8237593061378049219 tw10350008977312615011 tw3008121052540685582 tw3351148331314156275 tw11230408876604483806 tw6113705977947665520 tw4815910284611459324 tw3962130741844830385 tw13676511505691350476 tw15457884034084835903 tw3802270231242141519 tw17097419881827409662 tw11485978834147268429 tw7447311490351056809 tw13332632152236324467 tw15881175517468661556 tw3933131611248981986 tw16965046923005363891 tw5912991486660056098 tw9788533982045207372 tw15034739319366886337 tw13565064766681551628 tw4377794539655623537 tw15717840949182529519 tw16500590494466655926 tw8319937327794003901 tw7902587903596944649 tw1588938547823883501 tw15875172394648645304 tw15130481487268141699 tw3337761027729176840 tw8320352289303890221 tw2509956926572818734 tw10908435872189801493 tw15209724195590332318 tw11626894901162501208 tw18313226941644506125 tw7549373970950492689 tw1046229475003913095 tw12229001865115279234 tw16414326535269095451 tw11287312510370704269 tw2744857154850602552 tw12823572483416201075 tw651302211520721917 tw6360634712547755570 tw2958072588118714832 tw8165126627362372791 tw18103956277404528396 tw10109687943426035282 tw8283810888270656334 tw7212318598273396375 tw10361507275852747681 tw17327354696832221844 tw9846401056334807989 tw16993855032136888575 tw3068602810702045637 tw12513762985896109684 tw15793534230923729768 tw12797125043248652606 tw7533084697705003788 tw5315517592720967899 tw12835264529415945442 tw12104960150025363571 tw2577711891629997029 tw1888591629868674448 tw12710183573506471542 tw5527851695117748898 tw6144565676639423501 tw15308375331887528788 tw2379002928034974037 tw10570161099291943446 tw7644628712942960914 tw3656015929001665024 tw14208745261158613343 tw5487765814408763604 tw17296855748466528542 tw4012072024249754758 tw6582281145499576131 tw3045240331352147656 tw14540356558154190373 tw10670641001998300378 tw8406058971120063174 tw1933365784325466929 tw9563287749293217729 tw3704572678477999534 tw9943687858043534748 tw3934482403672658346 tw1362727380683321255 tw15625603783216429077 tw9100757046802088607 tw542449078270261635 tw3258996647606583956 tw5752007382159825319 tw18315272601929021880 tw2742978487875337464 tw11882753909855357390 tw5111365949474732892 tw10277309586224451836 tw528832480368829282 tw14759724784500435201 tw8863533821520812594 tw2887822637347519645 tw13986775283144298275 tw11405260433378638448 tw10817414651101691084 tw17560448267103580801 tw15784981657585950373 tw9623304863522504710 tw3861388786959128143 tw3131860865275325118 tw14266433680005939948 tw344617853913534108 tw6430461234861724610 tw6223123215594411308 tw5134544175706012110 tw14434121718244661304 tw15880068917719851432 tw16987258759499431793 tw15354220301642649139 tw9334242990616763573 tw16093893574274496017 tw5559475037366708944 tw3647706751273106586 tw13210854938477958731 tw9544923880900020434 tw17280599964065873467 tw14806189883428147831 tw8625729768104700108 tw12473747169045770171 tw2922678406534686682 tw7352832730290921914 tw2081162953220294730 tw8975207142879435690 tw8332471501195250744 tw72725454420839283 tw7226014104594073688 tw6047638218616867812 tw4990501565029449018 tw3862563287910006764 tw2009053967212243066 tw1885208143893295519 tw14623218280020556994 tw14350571962278961845 tw13393412327502373309 tw13367169584041984569 tw13095435430524034964 tw605422371817469008 tw5479493233441656079 tw6500781819017935399 tw13386351371468583903 tw1789348994823736725 tw11531671830353015567 tw5914603392756676473 tw10996203670903031594 tw5079119736411339404 tw5176377165541527329 tw17062830116799976746 tw5969525683948908843 tw13510388177369181347 tw1000416154820926038 tw8902723558466731606 tw7082148924880678119 tw12631355538948681093 tw6594501132950766829 tw5439807011586373092 tw5139256106965656387 tw897212038854466669 tw4791816273630174854 tw1328501185471003740 tw513400980883995365 tw16307333495616929954 tw7724675067956116710 tw8414489008371208001 tw4780188180415643629 tw3953404704438957255 tw17819534460940394683 tw6726453667451374244 tw5683685329711756108 tw2302773350455961485 tw2012160390915517278 tw9510703330173986299 tw707659327756622868 tw17239832495310104096 tw2292017831121602829 tw7527892971160417747 tw16942717187053281261 tw10047426816988594208 tw7435282771802043146 tw10250188895022303124 tw16640460543337046985 tw11728450168198542678 tw9946288685885533828 tw6973687022089189631 tw4802768597039222550 tw3686643715751495216 tw1045830447186407074 tw12184604907566973314 tw12001418738521980365 tw7225100338998911931 tw696258366790979032 tw12322718575274786126 tw8842591161524129028 tw3739687822659931530 tw1596676935263586626 tw13076919007502856228 tw12086979701698917215 tw8144204808144040938 tw15184413085275166590 tw11460876645227602493 tw11446330372578638456 tw13844445507567633995 tw13674347891178085879 tw7128725303657936911 tw5740180040279023383 tw4101095391656987446 tw3654980477013362533 tw15862622070156428651 tw11650275476426052944 tw8246228178474462792 tw4047995323974134069 tw8100586610922922134 tw14053146872244772408 tw15036946640237688070 tw2303132157107073407 tw12827888625993775388 tw3578389461281847418 tw2888039847973905500 tw17972792660402716371 tw8903222944178669489 tw6317887052090218675 tw3978497071900455469 tw17659829697887794304 tw12485902803130006362 tw9605509999816603163 tw16013065254556227761 tw15553230789607289667 tw9872086342163220832 tw8591337468682895820 tw606151289788283133 tw17936513076802412957 tw13803607949203008036 tw4646212839353315677 tw3364092126682417874 tw925979684847960050 tw11861198095366485365 tw773715842197907608 tw2944173766857111796 tw5614869190566116709 tw9825966097290574331 tw4542817112576953640 tw16067036700353088605 tw3701567308142526331 tw7049262770079114398 tw826549831270636995 tw11901842203813400382 tw4201562225024816126 tw5978406295106058398 tw17710570304477701694 tw6517728076911949103 tw2327703472496151672 tw10757915985255108121 tw8845704005876183298 tw125229420322152740 tw1063284768887949889 tw940507088594185105 tw9714573222998508322 tw5286640603058209620 tw11211699524328568483 tw8351744926365614659 tw4398967574465863570 tw12517668488782983442 tw9113797311568378321 tw11992265626434388653 tw7093000974461119037 tw12097404667411267747 tw17774245350578036350 tw14464797617274532101 tw12188337887462695876 tw69635491012800327 tw2914714988891785398 tw198245841565692705 tw3309197990849943929 tw4084269296706367423 tw14948450702251948802 tw8873935002469183917 tw2827476754466122665 tw15257656723200482570 tw16310875738339661050 tw1368248802911622828 tw3522683447060090300 tw16717563402877012976 tw414104114633249244 tw9181230395012883357 tw4369806908623159064 tw13646515863778825714 tw4958260876129510581 tw17978009826519089100 tw1211507683066630346 tw8083488945676859793 tw7723115575871858898 tw5492401735547945114 tw12915705690242400031 tw2194575997496937769 tw10518412832059403776 tw17771811710138509418 tw9667618477801249227 tw8898132946275192820 tw428283074627062086 tw14818914317686726409 tw6387421492488617209 tw6122660422549158599 tw4143362358541623764 tw3307783730244261564 tw14638350136552615227 tw14483598130674828707 tw11327292462949593391 tw16445428505674878632 tw9624977035767254532 tw9526364872962638680 tw9005445773684936115 tw8908280363282682759 tw7275466138335730679 tw7061264802170972213 tw4973184030136322981 tw4577604218220520487 tw3246896407732076465 tw2422077899490618002 tw18029034948638516181 tw16699570340851940818 tw16461631738555330195 tw15064864902132584197 tw14318468181410987989 tw12967582735582859273 tw2013299227355097143 tw13953792984146763687 tw17669653536572373449 tw17662456412448397321 tw5070965531611557020 tw3985090304268422829 tw16026286414077719244 tw13494117807825097359 tw6850391812183520263 tw4091819813226830852 tw3715368046264938202 tw3626460615689769106 tw13941010406833162497 tw13605161551940759702 tw13446642930271257991 tw14626889165914237514 tw8454526561475123166 tw6852373832148289144 tw4206568050937431619 tw16418167664431495921 tw1002371066840026623 tw15398179911989620193 tw8502702960967980395 tw14255056416622848426 tw9420942908516548583 tw9106528221412896468 tw7748913779140478306 tw4398107232419921241 tw235875779618998211 tw17575938112778742352 tw16512220542877231784 tw15990034544292537953 tw11586077611634687425 tw11543039268484641990 tw10910611813993002477 tw10647047263281428190 tw10057341730935650527 tw94362011670805966 tw10116779064519778613 tw16511832931334559501 tw88338381215809208 tw7531396588014904364 tw7264430697592135013 tw532597839961561261 tw4699847841781634091 tw3439716628425157797 tw2861985478043377258 tw2040928201268097203 tw18018607156274898502 tw16901606199164798802 tw16891481362238619931 tw16654744217109391963 tw15568354632247141100 tw15337629485328802353 tw14067240756414563342 tw13843755204370791524 tw13445981751416939538 tw13352602381144935795 tw12983523837176547371 tw11095733647968549252 tw10354315766008425394 tw17187229878566420911 tw9861606436794221489 tw957595373724901766 tw9343485448936608357 tw7193493384488129457 tw6326858403414228172 tw4419126919607473941 tw4229817322434820703 tw3702147740678917566 tw2878243903264154692 tw2718540205877634294 tw18040825003441542847 tw17964159035881569624 tw17959369899460546924 tw17850969151122907954 tw17343226476256126120 tw16407023117751013271 tw12097288310190311001 tw11942740468618822732 tw10599469236567232684 tw10557580240045507958 tw9486033891580673405 tw5633743692879576929 tw9298887054279085549 tw8949577210198310808 tw574569016766919869 tw4236368282714909057 tw3385076870828001836 tw17716121425422113459 tw17394424870424637401 tw16657953849051839780 tw16635558980105477205 tw15892947770382958864 tw13337622878191949661 tw12859493515158205097:True)
open PySem PySem.W PyProof.Rows
set_option maxRecDepth 100000 in
set_option maxHeartbeats 0 in
theorem PySem.Challenge.cw_cleanrows_k24_whole_spoilt_texts_of_file_holds : PySem.Challenge.rw_cleanrows_k24_whole_spoilt_texts_of_file.Holds := by
 w_on;o_law;k_head;(case hw=>w_witness2)
 k_fill
 refine K24.walk (l:=PySem.Challenge.rw_cleanrows_k24_whole_spoilt_texts_of_file) rfl rfl (λw h Y=>PySem.W.kIn_of Y) ?F
 case F =>
  intro w mg fa h KX G hmg
  refine' K24.all_mk KX G hmg ..
  all_goals try refine' {_,_,?_,{{_,_,_,_,_,_,_,_,_,rfl,?_,?_},?_}}
  all_goals try refine' {_,_,?_,?_,{{_,_,_,_,_,_,_,_,_,rfl,?_,?_},?_}}
  all_goals first|k_is|kit_is|k_exc|rfl|decide +kernel|skip
