import PyProof.Rows.All
import Wide.All
import OpenK.AllK
import Wide.FinOn
import Lean
import PyProof.EqAt
import PyProof.EqKinds
import PyProof.TupleCall
import KE.KUnpack
import PyProof.NeKinds
import PyProof.EnumFor
import PyProof.EnumStmt
import PyProof.EnumMake
import PyProof.Draws
import PyProof.StrWalks
import PyProof.Rows.FStr
import PyProof.Rows.CallKw2
import PyProof.StrBlockL
import KE.KIntText
import PyProof.ConsumeWalk
import PyProof.StrBlockG
import PyProof.CallStr
import PyProof.Rows.Range3
import PyProof.MeetsDict
import PyProof.DictList
import PyProof.StrLawsChain
import PyProof.StrLawsNeg
import KE.IntTextLaws
import KE.IntTextText
import PyProof.CallFns
import PyProof.CompUse
import PyProof.DictWalks
import KE.KDictSum
import PyProof.FString5
import KE.KLam
import KE.KSortKey
import KE.KNestM
import PyProof.Rows.RuleN_abs
import PyProof.WalkInts
import KE.KMinKey
import KE.KSortTup
import PyProof.DictCompW
import PyProof.SetRoads
import PyProof.SetNew
import KE.KEqDict
import PyProof.ListRange
import KE.KRevSl
import KE.LcSums
import KE.KDictOf
import PyProof.AttrMissSeq
import PyProof.AutoListH
import PySem.Challenge.RW_cleanrows_k41_the_mark_that_is_taken
open PySem renaming wpAny_bind->we,Shared->Oq,wpAny_pure->Os,wpAny->Oz,Program->OE,mainGlobals->OH,model->OI,FuncData->OJ,Builtin->OO,Around->OR,wpAny_holding->OV,World->OW,Expr->OZ,SetTable->O1,wpAny_mono->O3,starEach->O8,foldedSetIterable->Pd,wpAny_standAt->Pn,wpAny_newObj_type->Pp,compareOp->Pq,rawInt->Px,sizeLine_eq->Py,wpAny_setField->PK,wpAny_field->PL,Spec->PN,NameKind->PR,wpAny_call_entry->PU,boot_len->PZ,eval->Qc,intKind->Qe,mem_of_lookup->Qg,assignEach->Qh,wpAny_Call_Name_kw->Qj,plainId_quiet->Ql,wpAny_truthy_bool->Qr,cellsFrom->QC,codeAny_builtin->QD,codeAny->QE,binaryOp->QH,codeAny_mono->QM,attributeBase->QN,intText?->QP,wpAny_setState_of->QQ,wpAny_updateSeq->QT,letOwnedTupleGo->QU,backTo->QW,wpAny_tryCatch->QY,holding->Q1,PassesOwn->Q6,standAt->Re,wpAny_callSpecial?_slot->Rf,wpAny_askSetting->Rg,pushCells->Rj,wpAny_rule->Rn,wpAny_Call_method_late->Ro,tupleKind_room_in1->Rp,bootBuiltins->Rt,pushCells_keeps->Rw,wpAny_pyIter_list->Rz,wpAny_seqItems->RE,wpAny_letGo->RF,strIterType->RG,setField->RH,closureFor->RK,pyNext->RS,wpAny_newList->RT,callWith->RY,wpAny_passesOwn->R0,wpAny_execs_nil->R1,call_meets->R7,builtinsNs->R8,sliceBounds->Sa,pickOrder->Sb,keywordEach->Sd,wpAny_typeOf->Sf,wpAny_loadPart_at->Sg,wpAny_dictEntries->Sh,wpAny_isInstance->Sr,typeIs_str->Ss,noteFrame->Sv,getMethod->Sy,checkBuiltinCall->SA,comprehension->SE,wpAny_loadName_local->SH,raiseNew->SI,codeAny_call_builtin->SK,wpAny_ite_split->SS,wpAny_isSubtype_exc->SW,valueAt->SY,firstIterPos->SZ,swapsWith->S5,wpAny_call->Ta,wpAny_Constant_int->Tb,firstArgMember->Tn,bindArgs->To,assign->Tp,IsPart->Tv,wpAny_throw->TF,wpAny_pyIter_strU->TH,wpAny_of_eq->TK,wpAny_Call_ofName->TM,behindInMarks->T1,Result->T2,Comprehension->T5,updateSeq->T8,tupleKind->T9,seqItems?->Ub,compTurn->Ud,backToKw->Ue,getItem->Uz,firstAsync->UB,defaultsOf->UD,argsOk->UF,Within->UG
open List renaming getElem?_eq_getElem->KE,length_map->Ow,mem_append_right->Ox,mem_cons_of_mem->Oy,mem_cons_self->OB,getElem?_eq_some_iff->OG,mem_cons->OK,getD_eq_getElem?_getD->OM,size_toArray->OQ,mem_singleton->OS,getElem?_map->OT,take_of_length_le->OU,mem_append->OY,mem_append_left->O4,append_assoc->O6,length_append->Pb,mem_of_getElem?->Pc,map_append->Pe,all_eq_true->Pg,take_add_one->Pi,mem_map->Pk,range->Pm,length_cons->Pr,not_mem_nil->PD,lookup->PF,map_cons->PP,map_congr_left->PV,length_singleton->PX,append_nil->PY,getElem_mem->P0,pairwise_cons->P9,length_take_le'->Qb,replicate->Qd,length_take->Qf,map_map->Qp,getElem?_eq_none->Qs,contains_iff_mem->Qz,perm_ext_iff_of_nodup->QA,drop_eq_getElem_cons->QF,take_append_drop->QI,length_eq_zero_iff->QJ,Perm->QK,append_cancel_left->QS,cons_append->QX,replicate_succ->QZ,mem_of_mem_take->Q4,append_cancel_right->Rc,concat_eq_append->Rm,foldl_append->Rr,drop_eq_nil_of_le->Ru,lookup_cons->RI,getElem_of_mem->RJ,mem_of_mem_drop->RL,getElem?_append_right->RM,flatten_cons->RP,eq_nil_or_concat->RQ,mem_filterMap->RV,filter_append->RX,nodup_cons->R5,nil_append->R6,getElem?_cons_succ->Se,flatMap_append->Sj,drop_of_length_le->Sk,append_inj_right'->Sl,length_filter_le->So,getElem?_toArray->Sq,mem_range->Sw,length_nil->Sx,find?_cons->Sz,length_drop->SJ,take_append_of_le_length->SN,eq_nil_of_length_eq_zero->SO,dropLast_concat->SQ,map_id->SU,filterMap_cons->SX,mem_filter->Ti,length->Tj,length_eraseIdx_of_lt->Tu,mem_flatMap->TN,nodup_append->TU,length_range->TV,ext_getElem?->TX,count_append->TY,any_cons->Ug,all_cons->Uh,range'_succ->Up,toArray->Ur,take_left'->Us,pairwise_map->Uu,map_nil->Uw,foldl_cons->UA,length_zip->UH,forIn_cons->UI,drop_zero->UM
open PySem.Heap renaming get?_push_of_some->Ot,get?_push_size->ON,get?_update_other->O0,lt_size->O2,get?_update_self->Pu,SameBut->Qw,size_push->Rh
open PySem.Str renaming ofString->Ou,length_append->QR,empty->SB
open PySem.W renaming Frag->Ov,kia_one->Qn,findIn->Qv,mg_none_of->Qy,mg_of->Q3,nsIn->Q8,keepIn->Si,of_hideAll->Su,mroIn->SF,hasDictIn->S6,plainGet->Tg,plainOver->Uc,instObj->Ux,hideAll->Uy,codeHdIn->UL,makesIn->UO
open Nat renaming le_refl->OA,lt_of_lt_of_le->OX,lt_of_le_of_lt->O9,lt_irrefl->Ph,le_trans->Pj,ne_of_lt->Pl,zero_le->Pz,lt_of_succ_lt->Qt,lt_trans->Ra,lt_succ_of_lt->Rb,le_succ_of_le->Rx,le_succ->RA,lt_succ_self->RO,le_of_eq->RR,ne_of_gt->RU,le_of_lt->RW,succ_le_succ->SC,le_add_right->SD,eq_zero_or_pos->Ts,add_sub_cancel->Tt,not_lt->TZ,sub_self->Ua,toDigits->UK
open PySem.Value renaming ref->OF,none->Pf,int->Q5,bool->R9,str->S7,isInt->TR
open Or renaming inl->OL,inr->Ry
open Bool renaming false_ne_true->OP,and_eq_true->O5,false_eq_true->Qu,eq_false_iff->QL,eq_iff_iff->Q7,false_and->Sm,or_false->SG,true_and->T7,not_eq_true'->Uv,and_false->UN
open Option renaming map_eq_some_iff->O7,some->Pa,isSome_iff_exists->TQ,bind_some->Uo
open Array renaming getElem?_eq_getElem->Po,getElem?_eq_some_iff->PC,getElem?_setIfInBounds_self_of_lt->PH,length_toList->Qa,getElem?_toList->Qm,getD_eq_getD_getElem?->QG,getElem?_setIfInBounds_ne->Sn,toArray_toList->SR
open Ne renaming symm->Pt
open PySem.Txt renaming slice->Pw,split->Qx,join->Q0,rfind->R3
open PyProof.Rows renaming slot_tuple_getitem->PQ,seqObj->Qo,envOfC->QV,strKind->Q9,subscriptTail_builtinR->Rq,IntsAre->RC,AllBare->RD,boot_str->RZ,size_push'->R4,boot_sorted->SL,entry_list_sort->SV,callWith_type1->S0,slot_tuple_getitem->Tc,slot_list_sort->Tf,args_list_sort->Tq,IsTup->Uq,plain_sorted->Ut,entry_sorted->UC,args_sorted1->UE
open PySem.Obj renaming isFreed_of_fields->Qi,data_mapFields->QO,mapSeq->Rk,cls_mapFields->RB,mapFields->RN
open Int renaming toNat_natCast->Qk,lt_of_le_of_lt->Rv,emod_lt_of_pos->Tw,emod_nonneg->UJ
open Classical renaming byContradiction->Qq
open PySem.F renaming slot_str_split->Td,excBase_ValueError->Tr,plain_extend_loop->Tz,slot_dict_values->T4,plain_list_iadd->Ui,plainAttrs_list->Uj,plainAttrs_dict->Uk,attr_ValueError->Ul,args_dict_get_3->Um
open PySem.W (methodObj hideAll_get lookIn handedIn plainGet_of isFn takerIn emptyDict callWith_K methodCall_KW callWith_K0 cellsFrom_some fnOf codeIn excIn clsIn kla_obj tabObj kla_fn codeHd_of_K tabIn)
open List (of_mem_zip foldl Pairwise take any_map filter_cons range' filter take_zero all_append)
open PySem.Heap (Ns UpToSlots ExtBut)
open Array (getD)
open Option (map_some getD_none isSome_some isSome_map)
open Int (toNat)
open PySem.Value (float type builtin)
open PyProof.Rows (KeyOrd boot_abs)
open PySem.F (slot_tuple_add entry_tuple_add args_tuple_add_2 entry_str_split args_str_split_2 slot_dict_get)
set_option bootstrap.genMatcherCode false
set_option compiler.extract_closed false
local macro_rules | `(f!$_)=>`(by decide +kernel)
local macro_rules | `({$x:term})=>`(⟨$x⟩) | `({$x:term,$xs:term,*})=>`(⟨$x,$xs,*⟩)
local macro_rules | `($c:char)=>match c.getChar with | 'l'=>`(by lia) | 'd'=>`(by decide) | 'z'=>`(by simp) | _=>Lean.Macro.throwUnsupported
set_option Elab.async false
set_option linter.all false
set_option autoImplicit true
set_option maxRecDepth 100000
namespace L2
open PySem PySem.Spec PyProof.Rows
abbrev Wm:PySem.Str:="__init__"
abbrev Wl:PySem.Str:="mark_number"
abbrev Wk:PySem.Str:="marked_state"
abbrev Wj:PySem.Str:="next_number"
abbrev Wi:PySem.Str:="files"
abbrev Wh:PySem.Str:="birth"
abbrev Wg:PySem.Str:="whole_rows"
abbrev Wf:PySem.Str:="refuse_if_stopped"
abbrev We:PySem.Str:="take_later_name"
abbrev Wc:PySem.Str:="take_number"
abbrev Wb:PySem.Str:="_law_take"
abbrev Wa:PySem.Str:="_law_files_told"
abbrev V9:PySem.Str:="many"
abbrev V8:PySem.Str:="refuse_if_not_held"
abbrev V7:PySem.Str:="spots"
abbrev V6:PySem.Str:="take_word"
abbrev V5:PySem.Str:="is_within"
abbrev V4:PySem.Str:="is_number_text"
abbrev V3:PySem.Str:="refuse_if_none"
abbrev V2:PySem.Str:="take_spots"
abbrev V1:PySem.Str:="take_files"
abbrev V0:PySem.Str:="take_table"
abbrev VZ:PySem.Str:="is_made_of"
abbrev VY:PySem.Str:="Words.take_number"
abbrev VX:PySem.Str:="names"
abbrev VW:PySem.Str:="state_behind"
abbrev VV:PySem.Str:="_law_told"
abbrev VU:PySem.Str:="_law_side"
abbrev VT:PySem.Str:="read_mark"
abbrev VS:PySem.Str:="is_at_end"
abbrev VR:PySem.Str:="first_signs"
abbrev VQ:PySem.Str:="table_words"
abbrev Zg:List PySem.Str:=["self"]
abbrev YK:List PySem.Str:=["_law_script","_law_k","_law_pot_here","_law_disk","_law_marks","_law_whole","_law_before","_law_due","_law_files","_law_held","_law_spots","_law_behind","_law_number"]
abbrev Ys:List PySem.Str:=["self","files","spots","next_number","mark_number"]
abbrev X5:List PySem.Str:=["begun","taken","mark_number","files","spot_of","by_number","row","stretch","place","spots"]
abbrev X2:List PySem.Str:=["_law_pot_here","_law_many"]
abbrev XH:List PySem.Str:=["self","name"]
abbrev XG:List PySem.Str:=["self","file"]
abbrev XF:List PySem.Str:=["_law_pot_here","_law_places","_law_number","_law_many","_law_first","_law_files","_law_spots","_law_when","_law_k","_law_name_here","_law_old"]
abbrev XC:List PySem.Str:=["birth","stretch","place"]
abbrev Xp:List PySem.Str:=["value","least","most"]
abbrev Xk:List PySem.Str:=["_law_state_here","_law_files","_law_held","_law_spots"]
abbrev WU:List PySem.Str:=["self","stretches","places"]
abbrev WT:List PySem.Str:=["text","signs","most"]
abbrev WS:List PySem.Str:=["self","file","place"]
abbrev WR:List PySem.Str:=["words","mark_number","next_number","files","spots"]
abbrev WQ:List PySem.Str:=["text"]
abbrev WO:List PySem.Str:=["_law_pot_here","_law_disk","_law_side_here"]
abbrev WN:List PySem.Str:=["self","file","place","birth"]
abbrev WM:List PySem.Str:=["_law_pot_here","_law_places","_law_number"]
abbrev WL:List PySem.Str:=["self","name","files"]
abbrev WK:List PySem.Str:=["self","text"]
abbrev WJ:List PySem.Str:=["words"]
abbrev WI:List PySem.Str:=["disk"]
abbrev WH:List PySem.Str:=["disk","states","whole"]
abbrev WG:List PySem.Str:=["begun","taken","mark_number"]
abbrev WE:List PySem.Str:=["_law_pot_here","_law_text"]
abbrev WD:List PySem.Str:=["self","k","text"]
abbrev WC:List PySem.Str:=["_law_state_here"]
abbrev WB:List PySem.Str:=["state","spots","words","birth","stretch","place"]
abbrev WA:List PySem.Str:=["files"]
abbrev Wz:List PySem.Str:=["self","stretch"]
abbrev Wy:List PySem.Str:=["words","files","name","number","many","place"]
abbrev Wx:List PySem.Str:=["_law_pot_here"]
abbrev Ww:List PySem.Str:=["_law_side_here","_law_pot_here","_law_disk"]
abbrev Wv:List PySem.Str:=["_law_script","_law_k"]
abbrev Wu:List PySem.Str:=["words","spots","number","birth","stretch"]
abbrev Wt:List PySem.Str:=["words","name"]
abbrev Ws:List PySem.Str:=["_law_place","_law_files","_law_name_here"]
abbrev Wr:List PySem.Str:=["_law_files","_law_found","_law_name_here"]
abbrev Wq:List PySem.Str:=["self","k"]
abbrev Wp:List PySem.Str:=["self","word"]
abbrev Wo:List PySem.Str:=["disk","side"]
abbrev Wn:List PySem.Str:=["_law_script"]
structure W(p:Prop):Prop where
 h:p
abbrev Key:=Sum Int Str
def fT:Key->Value->Bool
 | .inl k,v=>TR k v
 | .inr x,v=>Value.isStrOf x v
def Mr(w:OW):Key->Int
 | .inl k=>hashInt k
 | .inr x=>hashStr w x
theorem dJ:∀{k:Key}{v:Value},fT k v=true->(∃i t,k=Sum.inl i/\v=Q5 i t)\/(∃x t,k=Sum.inr x/\v=S7 x t)
 | .inl i,v,h=>by
  obtain ⟨t,e⟩:=Value.isInt_shape (k:=i) (v:=v) h;exact .inl {i,t,rfl,e}
 | .inr x,v,h=>by
  obtain ⟨t,e⟩:=Value.isStrOf_shape (x:=x) (v:=v) h;exact .inr {x,t,rfl,e}
theorem LR(i:Int)(t:Tok):fT (.inl i) (.int i t)=true:=by simp [fT,TR]
theorem LA(x:Str)(t:Tok):fT (.inr x) (.str x t)=true:=by simp [fT,Value.isStrOf]
theorem Ft(a b:Int):decide ((Sum.inl a:Key)=Sum.inl b)=(a==b):=by
 by_cases e:a=b
 .subst e;simp
 .have h : ¬ (Sum.inl a:Key)=Sum.inl b:=λq=>e (Sum.inl.inj q);rw [decide_eq_false h];exact (beq_eq_false_iff_ne.mpr e).symm
theorem Lj(a b:Str):decide ((Sum.inr a:Key)=Sum.inr b)=decide (a=b):=by
 by_cases e:a=b
 .subst e;simp
 .have h : ¬ (Sum.inr a:Key)=Sum.inr b:=λq=>e (Sum.inr.inj q);rw [decide_eq_false h,decide_eq_false e]
theorem LZ(a:Int)(b:Str):decide ((Sum.inl a:Key)=Sum.inr b)=false:=decide_eq_false (λq=>nomatch q)
theorem Jj(a:Str)(b:Int):decide ((Sum.inr a:Key)=Sum.inl b)=false:=decide_eq_false (λq=>nomatch q)
def aX(prog:OE)(w:OW):PySem.KeyKind prog w Key where
 is:=fT
 hash:=Mr w
 inj:=λv a b J F=>by
  rcases dJ J with ⟨i,t,rfl,rfl⟩|⟨x,t,rfl,rfl⟩
  .rcases dJ F with ⟨j,u,rfl,e⟩|⟨y,u,rfl,e⟩
   .injection e with e1 _;rw [e1]
   .exact nomatch e
  .rcases dJ F with ⟨j,u,rfl,e⟩|⟨y,u,rfl,e⟩
   .exact nomatch e
   .injection e with e1 _;rw [e1]
 byValue:=λk v h=>by
  rcases dJ h with ⟨i,t,rfl,rfl⟩|⟨x,t,rfl,rfl⟩<;>rfl
 pyHash:=λhv h=>by
  rcases dJ hv with ⟨i,t,rfl,rfl⟩|⟨x,t,rfl,rfl⟩
  .exact wpAny_pyHash_int h
  .exact wpAny_pyHash_str h
 eqBool:=λG hv h=>by
  rcases dJ G with ⟨i,t,rfl,rfl⟩|⟨x,t,rfl,rfl⟩
  .rcases dJ hv with ⟨j,u,rfl,rfl⟩|⟨y,u,rfl,rfl⟩
   .rw [Ft] at h;exact wpAny_eqBool_int h
   .rw [LZ] at h;exact SeqAt.EqAt.int_str i t y u _ _ _ _ h
  .rcases dJ hv with ⟨j,u,rfl,rfl⟩|⟨y,u,rfl,rfl⟩
   .rw [Jj] at h;exact SeqAt.EqAt.str_int x t j u _ _ _ _ h
   .rw [Lj] at h;exact wpAny_eqBool_str h
 «strs»:=λk x t v h=>by
  rcases dJ h with ⟨i,u,rfl,e⟩|⟨y,u,rfl,e⟩
  .exact nomatch e
  .injection e with e1 _
   subst e1;cases v<;>rfl
theorem EX(prog:OE)(w:OW)(i:Int)(t:Tok):(aX prog w).is (.inl i) (.int i t)=true:=LR i t
theorem Nc(prog:OE)(w:OW)(x:Str)(t:Tok):(aX prog w).is (.inr x) (.str x t)=true:=LA x t
inductive V where
 | non|bl (b:Bool)|int (i:Int)|str (x:Str)|byt (b:Array UInt8)|flt (b:UInt64)|ref (a:Addr)|ty (n:String)
 deriving DecidableEq
def zr:V->Value->Prop
 | .non,u=>u=Pf
 | .bl b,u=>u=R9 b
 | .int i,u=>∃t,u=Q5 i t
 | .str x,u=>∃t,u=S7 x t
 | .byt b,u=>∃t,u=Value.bytes b t
 | .flt b,u=>∃t,u=float b t
 | .ref a,u=>u=OF a
 | .ty n,u=>u=type n
abbrev zx:List V->List Value->Prop:=Paired zr
theorem zx.length(r:zx xs us):xs.length=us.length:=Paired.length r
theorem zx.get:∀{xs:List V}{us:List Value}{i:Nat}{x:V},zx xs us->xs[i]?=some x->∃u,us[i]?=some u/\zr x u
 | _,_,_,_,.nil,e=>by simp at e
 | _,_,0,_,.cons r _,e=>by simp at e;subst e;exact {_,rfl,r}
 | _,_,i+1,x,.cons _ t,e=>by
  obtain ⟨u,h1,h2⟩:=zx.get (i:=i) (x:=x) t (by simpa using e);exact {u,by simpa using h1,h2}
theorem zx.set(r:zr x u):∀{xs:List V}{us:List Value}(i:Nat),zx xs us->zx (xs.set i x) (us.set i u)
 | _,_,_,.nil=>.nil
 | _,_,0,.cons _ t=>.cons r t
 | _,_,i+1,.cons q t=>.cons q (zx.set r i t)
theorem zx.append(h:zx xs us)(k:zx ys ws):zx (xs++ys) (us++ws):=by
 induction h with
 | nil=>exact k
 | cons r t F=>exact .cons r F
theorem zx.take:∀{xs:List V}{us:List Value}(n:Nat),zx xs us->zx (xs.take n) (us.take n)
 | _,_,0,_=>.nil
 | _,_,_+1,.nil=>.nil
 | _,_,n+1,.cons r t=>.cons r (zx.take n t)
theorem zx.drop:∀{xs:List V}{us:List Value}(n:Nat),zx xs us->zx (xs.drop n) (us.drop n)
 | _,_,0,r=>r
 | _,_,_+1,.nil=>.nil
 | _,_,n+1,.cons _ t=>zx.drop n t
def bU:Option V->Option Value->Prop
 | some v,some u=>zr v u
 | none,none=>True
 | _,_=>False
def KV{κ:Type}:List (κ×V)->List (κ×Value)->Prop:=Paired λ(p:κ×V)(q:κ×Value)=>p.1=q.1/\zr p.2 q.2
def kV:Key->V
 | .inl i=>.int i
 | .inr x=>.str x
inductive HO where
 | lst (xs:List V)
 | tup (xs:List V)
 | dK (kvs:List (Key×V))|dT (kvs:List (List Key×V))
 | set (S:Int->Bool) (n:Nat)
 | ins (C dx:Addr) (fs:List (Str×V))
 | own (x:Addr)
 | xd (fs:List (Str×V))
 | met (f x:Addr)
 | rng (lo hi:Int)
 | frz (o:Obj) (u:HO)
 | tbl (ps:Array Value)
 | ext (φ:Heap->Prop)
abbrev Hp:=Addr->Option HO
def upd(H:Hp)(a:Addr)(o:HO):Hp:=λb=>if b=a then some o else H b
theorem zA{o:HO}:upd H a o a=some o:=by unfold upd;rw [if_pos rfl]
theorem zg{o:HO}(h:b≠a):upd H a o b=H b:=by unfold upd;rw [if_neg h]
theorem iL{o u:HO}:upd (upd H a o) a u=upd H a u:=by
 funext b;unfold upd;split<;>rfl
theorem CT{H:Hp}{o u:HO}(h:H a=some o)(h':H b=some u)(d:o≠u):a≠b:=by
 intro e;subst e;rw [h] at h';exact d (Pa.inj h')
theorem zH{H:Hp}{o:HO}(h:H a=some o)(h':H b=none):a≠b:=by
 intro e;subst e;rw [h] at h';cases h'
section
variable (P:OE) (w:OW)
def aq(H:Hp)(h:Heap)(a:Addr):HO->Prop
 | .lst xs=>xs.length<=sizeLine/\∃(its:List Value)(n:Nat),zx xs its/\h.get? a=some { cls:=.type "list",data:=.seq its.toArray n }
 | .tup xs=>xs.length<=sizeLine/\∃its:List Value,zx xs its/\Uq h a its.toArray
 | .dK kvs=>kvs.length<=sizeLine/\(a==sysModules)=false/\∃vs,KV kvs vs/\h.DictOf (aX P w) a vs
 | .dT kvs=>kvs.length<=sizeLine/\(a==sysModules)=false/\∃xs:List (List Key×Addr×Value),
   Paired (λ(p:List Key×V)(q:List Key×Addr×Value)=>p.1=q.1/\H q.2.1=some (.tup (p.1.map kV))/\zr p.2 q.2.2) kvs xs /\
   ∃o es ep,h.get? a=some o/\o.ExactDict/\o.data = .dict es ep/\es.toList=xs.map (entryOfKey (T9 (aX P w)))/\(xs.map (·.1)).Nodup
 | .set S n=>h.SetOf (intKind P w) a S n
 | .ins C dx fs=>H dx=some (.own a)/\fs.length<=1000/\dx≠a/\h.get? a=some (Ux C dx) /\
   ∃mA,h.Ns1 dx mA/\(∀f,bU (fs.lookup f) (mA f))/\UG mA (fs.map (·.1))
 | .own _=>∃o,h.get? a=some o
 | .xd fs=>∃mA,h.Ns1 a mA/\∀f,bU (fs.lookup f) (mA f)
 | .rng lo hi=>∃t u v,h.get? a=some { cls:=.type "range",data:=.fields #[.int lo t,.int hi u,.int 1 v] }
 | .frz o u=>h.get? a=some o/\aq H h a u
 | .tbl ps=>h.get? a=some { cls:=.none,data:=.fields ps }
 | .met f x=>h.get? a=some (methodObj (.ref f) (.ref x))
 | .ext F=>F h/\(∃o,h.get? a=some o)/\∀h1 h2:Heap,F h1->(∀o,h1.get? a=some o->h2.get? a=some o)->F h2
def HOk(H:Hp)(h:Heap):Prop:=∀a o,H a=some o->aq P w H h a o
end
section
variable {P:OE}{w:OW}{H H':Hp}{h h':Heap}{a:Addr}{o:HO}
theorem aq.lt(x:aq P w H h a o):a<h.objs.size:=by
 cases o with
 | lst xs=>obtain ⟨_,_,_,_,e⟩:=x;exact O2 e
 | tup xs=>obtain ⟨_,_,_,p⟩:=x;exact p.lt
 | dK kvs=>obtain ⟨_,_,_,_,o,_,_,e,_⟩:=x;exact O2 e
 | dT kvs=>obtain ⟨_,_,_,_,o,_,_,e,_⟩:=x;exact O2 e
 | set S n=>obtain ⟨o,_,_,_,e,_⟩:=x;exact O2 e
 | ins C dx fs=>obtain ⟨_,_,_,e,_⟩:=x;exact O2 e
 | own y=>obtain ⟨_,e⟩:=x;exact O2 e
 | xd fs=>obtain ⟨_,⟨_,_,_,e,_⟩,_⟩:=x;exact O2 e
 | rng lo hi=>obtain ⟨_,_,_,e⟩:=x;exact O2 e
 | frz ob u=>obtain ⟨e,_⟩:=x;exact O2 e
 | tbl ps=>exact O2 (show h.get? a=some _ from x)
 | met f y=>exact O2 (show h.get? a=some _ from x)
 | ext F=>obtain ⟨_,⟨_,e⟩,_⟩:=x;exact O2 e
theorem Paired.ti{α β:Type}{F G:α->β->Prop}{J:List α}{l₂:List β}(h:Paired F J l₂)(f:∀a b,F a b->G a b):Paired G J l₂:=by
 induction h with
 | nil=>exact .nil
 | cons r t O=>exact .cons (f _ _ r) O
theorem aq.U4(x:aq P w H h a o)(k:∀b u,(b=a\/H b=some (.own a))->h.get? b=some u->h'.get? b=some u)
  (O:∀b,H b=some (.own a)->H' b=some (.own a)) (U:∀b xs,H b=some (.tup xs)->H' b=some (.tup xs)):aq P w H' h' a o:=by
 induction o with
 | lst xs=>obtain ⟨z,its,n,r,e⟩:=x;exact {z,its,n,r,k _ _ (.inl rfl) e}
 | tup xs=>obtain ⟨z,its,r,ob,e,c⟩:=x;exact {z,its,r,ob,k _ _ (.inl rfl) e,c}
 | dK kvs=>obtain ⟨z,y,vs,r,ob,es,ep,e,c⟩:=x;exact {z,y,vs,r,ob,es,ep,k _ _ (.inl rfl) e,c}
 | dT kvs =>
  obtain ⟨z,y,xs,r,ob,es,ep,e,c⟩:=x;exact {z,y,xs,Paired.ti r λp q z=>{z.1,U _ _ z.2.1,z.2.2},ob,es,ep,k _ _ (.inl rfl) e,c}
 | set S n=>obtain ⟨ob,es,ep,t,e,c⟩:=x;exact {ob,es,ep,t,k _ _ (.inl rfl) e,c}
 | ins C dx fs =>
  obtain ⟨d,z,ne,e,mA,⟨F,es,ep,J,c⟩,r⟩:=x;exact {O _ d,z,ne,k _ _ (.inl rfl) e,mA,{F,es,ep,k _ _ (.inr d) J,c},r}
 | own y=>obtain ⟨ob,e⟩:=x;exact {ob,k _ _ (.inl rfl) e}
 | xd fs=>obtain ⟨mA,⟨F,es,ep,e,c⟩,r⟩:=x;exact {mA,{F,es,ep,k _ _ (.inl rfl) e,c},r}
 | rng lo hi=>obtain ⟨t,u,v,e⟩:=x;exact {t,u,v,k _ _ (.inl rfl) e}
 | frz ob u G=>obtain ⟨e,q⟩:=x;exact {k _ _ (.inl rfl) e,G q}
 | tbl ps =>
  have e:h.get? a=some { cls:=.none,data:=.fields ps }:=x;show h'.get? a=some { cls:=.none,data:=.fields ps };exact k a _ (.inl rfl) e
 | met f y =>
  have e:h.get? a=some (methodObj (.ref f) (.ref y)):=x;show h'.get? a=some (methodObj (.ref f) (.ref y));exact k a _ (.inl rfl) e
 | ext W=>obtain ⟨p,⟨o,e⟩,st⟩:=x;exact {st _ _ p λo q=>k _ _ (.inl rfl) q,{o,k _ _ (.inl rfl) e},st}
theorem HOk.lt(x:HOk P w H h)(e:H a=some o):a<h.objs.size:=(x a o e).lt
theorem HOk.fresh(x:HOk P w H h)(e:h.objs.size<=a):H a=none:=by
 cases q:H a with
 | none=>rfl
 | some u=>exact absurd (OX (x.lt q) e) (Ph _)
theorem HOk.kept(x:HOk P w H h)(k:∀b u,h.get? b=some u->h'.get? b=some u):HOk P w H h':=λa o e =>
 (x a o e).U4 (λb u _ q=>k b u q) (λ_ q=>q) λ_ _ q=>q
theorem HOk.laid(x:HOk P w H h)(k:∀b u,h.get? b=some u->h'.get? b=some u)(J:h.objs.size<=a)(new:aq P w (upd H a o) h' a o):HOk P w (upd H a o) h':=λb u e=>by
 have G:=x.fresh J;by_cases F:b=a
 .subst F;rw [zA] at e;cases e;exact new
 .rw [zg F] at e;exact (x b u e).U4 (λc v _ q=>k c v q) (λc q=>by rw [zg (zH q G)];exact q) λc xs q=>by rw [zg (zH q G)];exact q
end
def Rd(H:Hp)(a:Addr)(u:HO):Prop:=H a=some u\/∃o,H a=some (.frz o u)
theorem Rd.ok(r:Rd H a u)(x:HOk P w H h):aq P w H h a u:=by
 rcases r with r|⟨o,r⟩
 .exact x a u r
 .obtain ⟨_,q⟩:=x a _ r;exact q
def Mut:Option HO->Prop
 | some (.lst _)=>True
 | some (.dK _)=>True
 | some (.dT _)=>True
 | some (.set _ _)=>True
 | some (.ins _ _ _)=>True
 | some (.ext _)=>True
 | _=>False
section
variable {P:OE}{w:OW}{H:Hp}{h h':Heap}{x e:Addr}{o':HO}
theorem HOk.write(ok:HOk P w H h)(U:Mut (H x))(Z:e=x\/H e=some (.own x))(k:∀b u,b≠e->h.get? b=some u->h'.get? b=some u)(W:∃u,h'.get? e=some u)
  (new:aq P w (upd H x o') h' x o'):HOk P w (upd H x o') h':=λb u q=>by
 have G:∀c y,H c=some (.own y)->c≠x:=λc y r z=>by subst z;rw [r] at U;exact U
 have J:∀c xs,H c=some (.tup xs)->c≠x:=λc xs r z=>by subst z;rw [r] at U;exact U
 by_cases S:b=x
 .subst S;rw [zA] at q;cases q;exact new
 .rw [zg S] at q;by_cases F:b=e
  .have q':H b=some (.own x):=by
    rcases Z with z|z
    .exact absurd (F.trans z) S
    .rw [F];exact z
   rw [q] at q';cases q';obtain ⟨v,hv⟩:=W;exact {v,by rw [F];exact hv}
  .refine (ok b u q).U4 (λc v O r=>k c v ?_ r) (λc r=>by rw [zg (G c b r)];exact r) λc xs r=>by rw [zg (J c xs r)];exact r
   rcases O with rfl|O
   .exact F
   .rintro rfl;rcases Z with z|z
    .exact G c b O z
    .rw [O] at z;cases z;exact S rfl
end
structure Un(fs ex:List Addr)(H H':Hp)(h h':Heap):Prop where
 keep:∀b o,h.get? b=some o->H b=none->b∉fs->b∉ex->h'.get? b=some o
 slot:∀b o,h.get? b=some o->H b=none->b∈fs->b∉ex->∃sl,h'.get? b=some { o with slots:=sl }
 free:∀b o,h.get? b=some o->H b=none->b∉ex->H' b=none
 there:∀b o,h.get? b=some o->b∉ex->∃o',h'.get? b=some o'
 tups:∀b xs,H b=some (.tup xs)->H' b=some (.tup xs)
 frzs:∀b o u,H b=some (.frz o u)->H' b=some (.frz o u)
 tbls:∀b ps,H b=some (.tbl ps)->∃more,H' b=some (.tbl (ps++more))
section
variable {fs fs' ex ex':List Addr}{H H1 H2:Hp}{h h1 h2 h':Heap}{a x e:Addr}{o:HO}
theorem Un.any(u:Un fs ex H H1 h h1)(q:h.get? b=some ob)(n:H b=none)(hx:b∉ex):∃sl,h1.get? b=some { ob with slots:=sl }:=by
 by_cases F:b∈fs
 .exact u.slot b ob q n F hx
 .exact {ob.slots,u.keep b ob q n F hx}
theorem Un.kept(k:∀b u,h.get? b=some u->h'.get? b=some u):Un fs ex H H h h' :=
 {λb ob q _ _ _=>k b ob q,λb ob q _ _ _=>{ob.slots,k b ob q},λ_ _ _ n _=>n,λb ob q _=>{ob,k b ob q},λ_ _ q=>q,λ_ _ _ q=>q,λ_ ps q=>{#[],by rw [q];simp}}
theorem Un.refl:Un fs ex H H h h:=Un.kept λ_ _ q=>q
theorem Un.laid(k:∀b u,h.get? b=some u->h'.get? b=some u)(G:h.objs.size<=a)(F:H a=none):Un fs ex H (upd H a o) h h' where
 keep:=λb u q _ _ _=>k b u q
 slot:=λb u q _ _ _=>{u.slots,k b u q}
 free:=λb u q n _=>by rw [zg (Pl (OX (O2 q) G))];exact n
 there:=λb u q _=>{u,k b u q}
 tups:=λb xs q=>by rw [zg (zH q F)];exact q
 frzs:=λb u xs q=>by rw [zg (zH q F)];exact q
 tbls:=λb ps q=>{#[],by rw [zg (zH q F),q];simp}
theorem Un.write(G:Mut (H x))(U:e=x\/H e=some (.own x))(k:∀b u,b≠e->h.get? b=some u->h'.get? b=some u)(J:∃u,h'.get? e=some u):Un fs ex H (upd H x o) h h':=by
 have hx:∀b,H b=none->b≠x:=λb n z=>by subst z;rw [n] at G;exact G
 have S:∀b,H b=none->b≠e:=λb n z=>by
  subst z;rcases U with r|r
  .exact hx b n r
  .rw [n] at r;cases r
 have O:∀b u,H b=some u->¬ Mut (some u)->b≠x:=λb u q nm z=>by subst z;rw [q] at G;exact nm G
 refine {λb u q n _ _=>k b u (S b n) q,λb u q n _ _=>{u.slots,k b u (S b n) q},λb u q n _=>by rw [zg (hx b n)];exact n,λb u q _=>?_,
  λb xs q=>by rw [zg (O b _ q λz=>z)];exact q,λb u xs q=>by rw [zg (O b _ q λz=>z)];exact q,λb ps q=>{#[],by rw [zg (O b _ q λz=>z),q];simp}}
 by_cases F:b=e
 .subst F;exact J
 .exact {u,k b u F q}
end
def trk(h:Heap)(H:Hp):List Addr:=(Pm h.objs.size).filter λa=>(H a).isSome
def eO(h:Heap)(H:Hp):Heap:=Uy h (trk h H)
theorem Ez(h:Heap)(H:Hp):(eO h H).objs.size=h.objs.size:=PySem.W.hideAll_size _ _
theorem Gp{o:Obj}(e:h.get? b=some o)(n:H b=none):(eO h H).get? b=some o :=
 hideAll_get _ e λF=>by
  have q:(H b).isSome=true:=(Ti.mp F).2;rw [n] at q;simp at q
theorem EL{o:Obj}(e:(eO h H).get? b=some o):h.get? b=some o/\H b=none:=by
 have F:h.get? b=some o:=Su (trk h H) e;refine {F,?_};cases q:H b with
 | none=>rfl
 | some x =>
  have G:b∈trk h H:=Ti.mpr {Sw.mpr (O2 F),by simp [q]};have z:(eO h H).get? b=none:=PySem.W.hideAll_none (trk h H) G;rw [z] at e;cases e
def gS(g h:Heap)(L:Addr):List (Addr×Obj):=(Pm h.objs.size).filterMap λa=>if a=L\/(g.get? a).isSome=true then none else (h.get? a).map λo=>(a,o)
theorem NW{o:Obj}(h1:a≠L)(h2:g.get? a=none)(h3:h.get? a=some o):(a,o)∈gS g h L :=
 RV.mpr {a,Sw.mpr (O2 h3),by simp [h1,h2,h3]}
theorem L8{p:Addr×Obj}(G:p∈gS g h L):p.1≠L/\g.get? p.1=none/\h.get? p.1=some p.2:=by
 obtain ⟨b,_,e⟩:=RV.mp G;split at e
 .cases e
 .rename_i F;cases q:h.get? b with
  | none=>rw [q] at e;simp at e
  | some u =>
   rw [q] at e;simp only [map_some,Pa.injEq] at e;subst e;refine {λz=>F (.inl z),?_,q};show g.get? b=none;cases r:g.get? b with
   | none=>rfl
   | some v=>exact (F (.inr (by simp [r]))).elim
theorem GH:News g L h (gS g h L):=λp F=>let ⟨a,b,c⟩:=L8 F;⟨c,a,b⟩
structure Mod(K:Ov)(mg:Str->Option Value)(base:Heap):Prop where
 bY:K.In base
 glob:base.Ns OH mg
 blt:∃mb,base.Ns R8 mb/\∀x:Str,x≠"__name__"->mb x=Rt x
 nolimit:base.NoLimit
inductive Chn(H:Hp):Nat->Addr->Prop
 | one {a:Addr}{o:Obj}{vs:Array Value}{C:Addr} (h:H a=some (.frz o (.own 0))) (d:o.data = .fields vs) (n:vs[2]?=some .none) (c:o.cls = .ref C):Chn H 0 a
 | more {k:Nat}{a b:Addr}{o:Obj}{vs:Array Value}{C:Addr} (h:H a=some (.frz o (.own 0))) (d:o.data = .fields vs) (n:vs[2]?=some (.ref b)) (c:o.cls = .ref C) (t:Chn H k b):Chn H (k+1) a
theorem Chn.same{k:Nat}(x:Chn H k a)(f:∀b o,H b=some (.frz o (.own 0))->H' b=some (.frz o (.own 0))):Chn H' k a:=by
 induction x with
 | one h d n c=>exact .one (f _ _ h) d n c
 | more h d n c _ F=>exact .more (f _ _ h) d n c F
def fQ(A:OR)(H:Hp):Prop:=A.handled=none\/∃(a:Addr)(k:Nat),A.handled=some (.ref a)/\Chn H k a
theorem fQ.bS(x:fQ A H)(k:∀b o,H b=some (.frz o (.own 0))->H' b=some (.frz o (.own 0))):fQ A H':=by
 rcases x with x|⟨a,n,h1,h2⟩
 .exact .inl x
 .exact .inr {a,n,h1,h2.same k}
theorem fQ.same(x:fQ A H)(k:∀b o u,H b=some (.frz o u)->H' b=some (.frz o u)):fQ A H':=x.bS λb o h=>k b o _ h
structure Cx where
 prog:OE
 w:OW
 K:Ov
 mg:Str->Option Value
 base:Heap
 A:OR
 N:List Str
 s₀:Oq
 H₀:Hp
 env:Env
 outer:List Env
 stack:List Env
 ex:List Addr
 fn:Str->Bool
 calm:Bool
 pn:List (Addr×Obj)
 xe:Value->Oq->Prop
def frs(l:List Env):List Addr:=l.filterMap (·.frame)
abbrev Cx.fs(X:Cx):List Addr:=frs X.outer
def Vis(sc:Scope)(x:Str):Prop:=sc.names.lookup x=some .local\/sc.names.lookup x=some .cell\/sc.names.lookup x=some .free
def Loc(sc:Scope)(x:Str):Prop:=sc.names.lookup x=some .local\/sc.names.lookup x=some .cell
def CA(env:Env)(h:Heap)(m:Str->Option Value)(x:Str)(u:Value):Prop :=
 (env.kindOf x=some .local/\m x=some u)\/((env.kindOf x=some .cell\/env.kindOf x=some .free)/\∃c,env.cells.lookup x=some c/\h.IsCell c (some u))
structure Cx.Ok(X:Cx):Prop where
 mod:Mod X.K X.mg X.base
 kind:X.env.scope.kind = .function
 glob:X.env.globals=OH
 blt:X.env.builtins=R8
 above:X.s₀.heap.objs.size<=X.env.locals
 inj:∀x y c,X.env.cells.lookup x=some c->X.env.cells.lookup y=some c->x=y
 has:∀x,(X.env.kindOf x=some .cell\/X.env.kindOf x=some .free)->∃c,X.env.cells.lookup x=some c
 b7:∀x c,X.fn x=true->X.env.cells.lookup x=some c->X.s₀.heap.objs.size<=c
 hd:X.calm=true->X.A.handled=none
 frames:X.A.frames=some X.stack
 cc:X.stack=X.outer\/(X.stack=X.env::X.outer/\X.env.frame=some X.env.locals)
 cP:∀b∈X.ex,b≠X.env.locals/\∀x c,X.env.cells.lookup x=some c->c≠b
 bs:∀b o,X.base.get? b=some o->X.s₀.heap.get? b=some o/\X.H₀ b=none
 bf:X.base.objs.size<=X.s₀.heap.objs.size
 aU:∀b o,X.base.get? b=some o->b∉X.ex
 a7:∀b∈X.ex,b∉X.fs
 U0:X.s₀.heap.FunFrames X.base X.outer
 bE:∀b∈X.fs,X.H₀ b=none
structure Inv(X:Cx)(Go:List (Addr×Obj))(σ:List (Option V))(H:Hp)(s:Oq):Prop where
 ok:X.Ok
 os:s.os=X.s₀.os
 bare:RD s.gens
 base:Un X.fs X.ex X.H₀ H X.s₀.heap s.heap
 loc:∃m,s.heap.Ns X.env.locals m/\∀(i:Nat)(x:Str)(v:V),X.N[i]?=some x->σ[i]?=some (some v)->Vis X.env.scope x->∃u,zr v u/\CA X.env s.heap m x u
 cell:∀x c,X.env.cells.lookup x=some c->∃v,s.heap.IsCell c v
 free:H X.env.locals=none
 J7:∀x c,X.env.cells.lookup x=some c->H c=none
 pin:∀p∈X.pn++Go,s.heap.get? p.1=some p.2/\H p.1=none/\p.1≠X.env.locals/\p.1∉X.fs/\∀v,p.2.data≠.cell v
 hok:HOk X.prog X.w H s.heap
 len:σ.length=X.N.length
 hdk:fQ X.A H
section
variable {X:Cx}{Go:List (Addr×Obj)}{σ:List (Option V)}{H H':Hp}{s:Oq}{h':Heap}
theorem Cx.Ok.cR(ok:X.Ok){o:Obj}(e:X.base.get? b=some o):b∉X.fs:=λF=>by
 have:=(ok.U0.mem F).1;rw [e] at this;cases this
theorem Inv.bs(I:Inv X Go σ H s):∀b o,X.base.get? b=some o->s.heap.get? b=some o/\H b=none:=λb o e =>
 {I.base.keep b o (I.ok.bs b o e).1 (I.ok.bs b o e).2 (I.ok.cR e) (I.ok.aU b o e),I.base.free b o (I.ok.bs b o e).1 (I.ok.bs b o e).2 (I.ok.aU b o e)}
theorem Inv.bk(I:Inv X Go σ H s):∀b o,X.base.get? b=some o->s.heap.get? b=some o:=λb o e=>(I.bs b o e).1
theorem Inv.mod(I:Inv X Go σ H s):Mod X.K X.mg X.base:=I.ok.mod
theorem Inv.UX(I:Inv X Go σ H s):X.K.In s.heap:=I.ok.mod.bY.keeps I.bk
theorem Inv.fr(I:Inv X Go σ H s):∃m,Fr X.base X.env.locals s.heap m :=
 let ⟨m,hn,_⟩:=I.loc
 {m,hn,I.bk,Pj I.ok.bf I.ok.above}
theorem Inv.lt(I:Inv X Go σ H s):X.env.locals<s.heap.objs.size:=let ⟨_,hn,_⟩:=I.loc;hn.lt
theorem Inv.sz(I:Inv X Go σ H s):X.s₀.heap.objs.size<=s.heap.objs.size:=Pj I.ok.above (RW I.lt)
theorem Inv.cq(I:Inv X Go σ H s)(h:s.heap.objs.size<=a):a∉X.fs:=λF=>by
 obtain ⟨_,o,G,_⟩:=I.ok.U0.mem F;exact absurd (OX (O2 G) (Pj I.sz h)) (Ph _)
theorem Inv.cne(I:Inv X Go σ H s):∀x c,X.env.cells.lookup x=some c->c≠X.env.locals:=λx c e z=>by
 obtain ⟨v,o,G,hd⟩:=I.cell x c e;obtain ⟨m,⟨o',es,ep,J,F,_⟩,_⟩:=I.loc;rw [z,J] at G;cases G;rw [F] at hd;cases hd
theorem Inv.U0(I:Inv X Go σ H s):s.heap.FunFrames X.base X.outer:=by
 have all:∀(l:List Env),(∀b∈frs l,b∈X.fs)->X.s₀.heap.FunFrames X.base l->s.heap.FunFrames X.base l:=by
  intro l
  induction l with
  | nil=>intro _ _;trivial
  | cons env r J =>
   intro hs hl;obtain ⟨U,⟨L,o,hf,W,O,hd⟩,S⟩:=hl;have F:L∈X.fs:=hs L (by unfold frs;rw [SX,hf];exact OB);obtain ⟨sl,e⟩:=I.base.slot L o O (I.ok.bE L F) F λz=>I.ok.a7 L z F;exact {U,{L,_,hf,W,e,hd},J (λb G=>hs b (by unfold frs;rw [SX,hf];exact Oy _ G)) S}
 exact all X.outer (λ_ G=>G) I.ok.U0
theorem Inv.stack(I:Inv X Go σ H s):s.heap.FunFrames X.base X.stack:=by
 rcases I.ok.cc with e|⟨e,hf⟩
 .rw [e];exact I.U0
 .rw [e];obtain ⟨m,F,_⟩:=I.loc;refine .cons (by rw [I.ok.kind];decide) hf F ?_ I.U0;exact Heap.get?_none_of_le (Pj I.ok.bf I.ok.above)
theorem Inv.U3(I:Inv X Go σ H s):∀b∈frs X.stack,b∈X.env.locals::X.fs:=λb F=>by
 rcases I.ok.cc with e|⟨e,hf⟩
 .rw [e] at F;exact Oy _ F
 .rw [e] at F;unfold frs at F;rw [SX,hf] at F;exact F
theorem Inv.VD(I:Inv X Go σ H s):∀b∈frs X.stack,H b=none:=λb F=>by
 rcases OK.mp (I.U3 b F) with e|F
 .rw [e];exact I.free
 .obtain ⟨_,o,G,_⟩:=I.ok.U0.mem F;exact I.base.free b o G (I.ok.bE b F) λz=>I.ok.a7 b z F
theorem Inv.step{ch:List Addr}(I:Inv X Go σ H s)(Z:∀b∈ch,(b∈X.ex\/X.s₀.heap.objs.size<=b)/\b≠X.env.locals/\(∀x c,X.env.cells.lookup x=some c->c≠b)/\∀p∈X.pn++Go,p.1≠b)(keep:∀b o,b≠X.env.locals->b∉X.fs->b∉ch->s.heap.get? b=some o->H b=none->h'.get? b=some o)(slot:∀b o,b≠X.env.locals->b∈X.fs->b∉ch->s.heap.get? b=some o->H b=none->∃sl,h'.get? b=some { o with slots:=sl })(free:∀b o,b∉ch->s.heap.get? b=some o->H b=none->H' b=none)(there:∀b o,b∉ch->s.heap.get? b=some o->∃o',h'.get? b=some o')(tups:∀b xs,H b=some (.tup xs)->H' b=some (.tup xs))(frzs:∀b o u,H b=some (.frz o u)->H' b=some (.frz o u))(tbls:∀b ps,H b=some (.tbl ps)->∃more,H' b=some (.tbl (ps++more)))(ns:∀m,s.heap.Ns X.env.locals m->h'.Ns X.env.locals m)(hok:HOk X.prog X.w H' h')(hg:RD g'):
  Inv X Go σ H' { s with heap:=h',gens:=g',drawn:=d',toks:=t' }:=by
 have ai:∀b o,X.s₀.heap.get? b=some o->b≠X.env.locals:=λb o e=>Pl (OX (O2 e) I.ok.above);have O:∀b o,X.s₀.heap.get? b=some o->b∉X.ex->b∉ch:=λb o e hx S=>by
  rcases (Z b S).1 with z|z
  .exact hx z
  .exact absurd (OX (O2 e) z) (Ph _)
 have F:∀x c,X.env.cells.lookup x=some c->∀v,s.heap.IsCell c v->h'.IsCell c v:=λx c e v ⟨o,U,hd⟩=>by
  have G:c∉ch:=λz=>(Z c z).2.2.1 x c e rfl;by_cases hc:c∈X.fs
  .obtain ⟨sl,q⟩:=slot c o (I.cne x c e) hc G U (I.J7 x c e);exact {_,q,hd}
  .exact {o,keep c o (I.cne x c e) hc G U (I.J7 x c e),hd}
 refine {I.ok,I.os,hg,{λb o e n S hx=>?_,λb o e n S hx=>?_,λb o e n hx=>?_,λb o e hx=>?_,λb xs e=>tups b xs (I.base.tups b xs e),λb o xs e=>frzs b o xs (I.base.frzs b o xs e),λb ps e=>?_},?_,λx c e=>?_,?_,λx c e=>?_,λp hp=>?_,hok,I.len,I.hdk.same frzs}
 .exact keep b o (ai b o e) S (O b o e hx) (I.base.keep b o e n S hx) (I.base.free b o e n hx)
 .obtain ⟨sl,J⟩:=I.base.slot b o e n S hx;obtain ⟨av,W⟩:=slot b _ (ai b o e) S (O b o e hx) J (I.base.free b o e n hx);exact ⟨av,W⟩
 .obtain ⟨o',J⟩:=I.base.there b o e hx;exact free b o' (O b o e hx) J (I.base.free b o e n hx)
 .obtain ⟨o',J⟩:=I.base.there b o e hx;exact there b o' (O b o e hx) J
 .obtain ⟨m1,J⟩:=I.base.tbls b ps e;obtain ⟨m2,W⟩:=tbls b _ J;exact {m1++m2,by rw [W,Array.append_assoc]}
 .obtain ⟨m,hn,hl⟩:=I.loc;refine {m,ns m hn,λi x v J W e3=>?_};obtain ⟨u,r,l⟩:=hl i x v J W e3;refine {u,r,?_};rcases l with l|⟨k,c,e,z⟩
  .exact .inl l
  .exact .inr {k,c,e,F x c e _ z}
 .obtain ⟨v,z⟩:=I.cell x c e;exact {v,F x c e v z}
 .obtain ⟨m,⟨o,_,_,U,_⟩,_⟩:=I.loc;exact free _ o (λz=>(Z _ z).2.1 rfl) U I.free
 .obtain ⟨v,o,U,hd⟩:=I.cell x c e;exact free c o (λz=>(Z c z).2.2.1 x c e rfl) U (I.J7 x c e)
 .obtain ⟨e,n,ne,nf,d⟩:=I.pin p hp;have G:p.1∉ch:=λz=>(Z p.1 z).2.2.2 p hp rfl;exact {keep p.1 p.2 ne nf G e n,free p.1 p.2 G e n,ne,nf,d}
theorem Inv.un(I:Inv X Go σ H s)(u:Un X.fs [] H H' s.heap h')(hok:HOk X.prog X.w H' h'):Inv X Go σ H' { s with heap:=h',toks:=t' }:=by
 obtain ⟨m,⟨o,es,ep,O,r⟩,_⟩:=id I.loc;obtain ⟨sl,S⟩:=u.any O I.free 'z';exact I.step (g':=s.gens) (d':=s.drawn) (ch:=[]) (λ_ z=>nomatch z) (λb o _ F _ e n=>u.keep b o e n F 'z') (λb o _ F _ e n=>u.slot b o e n F 'z') (λb o _ e n=>u.free b o e n 'z') (λb o _ e=>u.there b o e 'z') u.tups u.frzs u.tbls (λZ U=>by
  obtain ⟨o',W,G,J,r'⟩:=U;rw [O] at J;cases J;exact {_,W,G,S,r'}) hok I.bare
theorem Inv.call(I:Inv X Go σ H s)(u:Un (frs X.stack) ch H H' s.heap h')(hok:HOk X.prog X.w H' h')(hg:RD g')(S:∀b∈ch,(b∈X.ex\/X.s₀.heap.objs.size<=b)/\b≠X.env.locals/\(∀x c,X.env.cells.lookup x=some c->c≠b)/\∀p∈X.pn++Go,p.1≠b):
  Inv X Go σ H' { s with heap:=h',gens:=g',drawn:=d',toks:=t' }:=by
 obtain ⟨m,⟨o,es,ep,U,r⟩,_⟩:=id I.loc;obtain ⟨sl,G⟩:=u.any U I.free λz=>(S _ z).2.1 rfl;exact I.step (ch:=ch) S (λb o G W F e n=>u.keep b o e n (λz=>(OK.mp (I.U3 b z)).elim G W) F) (λb o _ _ F e n=>u.any e n F) (λb o F e n=>u.free b o e n F) (λb o F e=>u.there b o e F) u.tups u.frzs u.tbls (λm' Z=>by
  obtain ⟨o',Xg,J,O,r'⟩:=Z;rw [U] at O;cases O;exact {_,Xg,J,G,r'}) hok hg
theorem Inv.turned(I:Inv X Go σ H s)(k:∀b o,b≠it->s.heap.get? b=some o->h'.get? b=some o)(W:H it=none)(J:it≠X.env.locals)(h1:it∈X.ex\/X.s₀.heap.objs.size<=it)(h2:∀x c,X.env.cells.lookup x=some c->c≠it)(h3:∀p∈X.pn++Go,p.1≠it):Inv X Go σ H { s with heap:=h',toks:=t' }:=by
 have G:∀b u,H b=some u->b≠it:=λb u e z=>by rw [z,W] at e;cases e
 refine I.step (g':=s.gens) (d':=s.drawn) (ch:=[it]) (λb S=>?_) (λb o _ _ F e _=>k b o (λz=>F (by simp [z])) e) (λb o _ _ F e _=>{o.slots,k b o (λz=>F (by simp [z])) e}) (λ_ _ _ _ n=>n)
  (λb o F e=>{o,k b o (λz=>F (by simp [z])) e}) (λ_ _ e=>e) (λ_ _ _ e=>e) (λb ps e=>{#[],by rw [e];simp}) (λm U=>?_) (λb u e=>?_) I.bare
 .have e:b=it:=by simpa using S
  subst e;exact ⟨h1,J,h2,h3⟩
 .obtain ⟨o,es,ep,O,r⟩:=U;exact {o,es,ep,k _ o (Pt J) O,r}
 .refine (I.hok b u e).U4 (λc v F q=>k c v ?_ q) (λ_ q=>q) λ_ _ q=>q;rcases F with z|z
  .rw [z];exact G b u e
  .exact G c _ z
theorem Inv.tok(I:Inv X Go σ H s)(t:Nat):Inv X Go σ H { s with toks:=t }:=I.un (h':=s.heap) (t':=t) Un.refl I.hok
theorem Inv.kept(I:Inv X Go σ H s)(k:∀b u,s.heap.get? b=some u->h'.get? b=some u):Inv X Go σ H { s with heap:=h',toks:=t' }:=I.un (Un.kept k) (I.hok.kept k)
theorem Inv.laid{o:HO}(I:Inv X Go σ H s)(k:∀b u,s.heap.get? b=some u->h'.get? b=some u)(F:s.heap.objs.size<=a)(new:aq X.prog X.w (upd H a o) h' a o):
  Inv X Go σ (upd H a o) { s with heap:=h',toks:=t' }:=I.un (Un.laid k F (I.hok.fresh F)) (I.hok.laid k F new)
theorem Inv.write{o:HO}(I:Inv X Go σ H s)(J:Mut (H x))(G:e=x\/H e=some (.own x))(k:∀b u,b≠e->s.heap.get? b=some u->h'.get? b=some u)(F:∃u,h'.get? e=some u)(new:aq X.prog X.w (upd H x o) h' x o):Inv X Go σ (upd H x o) { s with heap:=h',toks:=t' }:=I.un (Un.write J G k F) (I.hok.write J G k F new)
theorem Inv.zk(I:Inv X Go σ H s)(h:∀p∈pins',s.heap.get? p.1=some p.2/\H p.1=none/\p.1≠X.env.locals/\p.1∉X.fs/\∀v,p.2.data≠.cell v):Inv X pins' σ H s :=
 {I.ok,I.os,I.bare,I.base,I.loc,I.cell,I.free,I.J7,λp F=>(OY.mp F).elim (λz=>I.pin p (O4 _ z)) (h p),I.hok,I.len,I.hdk}
theorem yS{N:List Str}(hN:N.Nodup){i j:Nat}(a:N[i]?=some x)(b:N[j]?=some x):i=j:=by
 obtain ⟨h1,G⟩:=OG.mp a;obtain ⟨h2,F⟩:=OG.mp b;exact (List.getElem_inj hN).mp (G.trans F.symm)
theorem LG(I:Inv X Go σ H s)(hN:X.N.Nodup)(hi:X.N[i]?=some x)(hx:Loc X.env.scope x)(r:zr v u)(h:∀s',Inv X Go (σ.set i (some v)) H s'->(∃a,Qw a s.heap s'.heap/\(a=X.env.locals\/X.env.cells.lookup x=some a))->Q () s')(hf:X.fn x=true\/X.env.scope.names.lookup x=some .local:=by first|exact .inl rfl|exact .inr rfl|assumption):Oz M A (storeName X.env x u) Q E s:=by
 obtain ⟨m,hn,hl⟩:=id I.loc;have ax:(X.env.scope.kind == .class||(X.env.scope.kind == .module&&X.env.locals != X.env.globals))=false:=by rw [I.ok.kind];rfl
 have S:i<σ.length:=by rw [I.len];exact (OG.mp hi).1
 have cne:=I.cne;have XM:∀{a:Addr}{h':Heap},(∃o,s.heap.get? a=some o/\H a=none)->Qw a s.heap h'->HOk X.prog X.w H h':=λ{a h'} ha hs b ob e=>by
  obtain ⟨_,_,J⟩:=ha;refine (I.hok b ob e).U4 (λc w' G q=>(hs.2 c ?_).trans q) (λ_ q=>q) λ_ _ q=>q;rintro rfl;rcases G with rfl|G
  .rw [J] at e;cases e
  .rw [J] at G;cases G
 rcases hx with U|U
 .refine wpAny_storeName_local U hn (λh' a0 hs=>?_) ax;obtain ⟨oL,_,_,XX,_⟩:=id hn;refine h _ {I.ok,I.os,I.bare,{λb o e n Z hx=>?_,λb o e n Z hx=>?_,I.base.free,λb o e hx=>?_,I.base.tups,I.base.frzs,I.base.tbls},{_,a0,λj y v' F O e3=>?_},λy c e=>?_,I.free,I.J7,λp hp=>?_,XM ⟨oL,XX,I.free⟩ hs,by simpa using I.len,I.hdk} {_,hs,.inl rfl}
  .exact (hs.2 b (Pl (OX (O2 e) I.ok.above))).trans (I.base.keep b o e n Z hx)
  .obtain ⟨sl,F⟩:=I.base.slot b o e n Z hx;exact {sl,(hs.2 b (Pl (OX (O2 e) I.ok.above))).trans F}
  .obtain ⟨o',F⟩:=I.base.there b o e hx;exact {o',(hs.2 b (Pl (OX (O2 e) I.ok.above))).trans F}
  .by_cases W:j=i
   .subst W;rw [hi] at F;cases F;rw [List.getElem?_set_self S] at O;cases O;exact {u,r,.inl {U,'z'}}
   .rw [List.getElem?_set_ne (Pt W)] at O;obtain ⟨u',r',q⟩:=hl j y v' F O e3;refine {u',r',?_};rcases q with ⟨k,e⟩|⟨k,c,e,z⟩
    .refine .inl {k,?_};have:y≠x:=λe=>W (yS hN F (e ▸ hi));simp [this,e]
    .exact .inr {k,c,e,z.sameBut hs (cne y c e)}
  .obtain ⟨w',z⟩:=I.cell y c e;exact {w',z.sameBut hs (cne y c e)}
  .obtain ⟨e,n,ne,nf,d⟩:=I.pin p hp;exact {(hs.2 p.1 ne).trans e,n,ne,nf,d}
 .have ai:X.fn x=true:=by
   rcases hf with z|z
   .exact z
   .rw [z] at U;cases U
  obtain ⟨c,G⟩:=I.ok.has x (.inl U);obtain ⟨w',z⟩:=I.cell x c G;refine wpAny_storeName_cell I.ok.kind U G z (λh' Yg hs=>?_);obtain ⟨oc,av,aI⟩:=id z;refine h { s with heap:=h' } {I.ok,I.os,I.bare,{λb o e n Z hx=>?_,λb o e n Z hx=>?_,I.base.free,λb o e hx=>?_,I.base.tups,I.base.frzs,I.base.tbls},{m,hn.sameBut hs (Pt (cne x c G)),λj y v' F O e3=>?_},λy c' e=>?_,I.free,I.J7,λp hp=>?_,XM {oc,av,I.J7 x c G} hs,by simpa using I.len,I.hdk} {c,hs,.inr G}
  .exact (hs.2 b (Pl (OX (O2 e) (I.ok.b7 x c ai G)))).trans (I.base.keep b o e n Z hx)
  .obtain ⟨sl,F⟩:=I.base.slot b o e n Z hx;exact {sl,(hs.2 b (Pl (OX (O2 e) (I.ok.b7 x c ai G)))).trans F}
  .obtain ⟨o',F⟩:=I.base.there b o e hx;exact {o',(hs.2 b (Pl (OX (O2 e) (I.ok.b7 x c ai G)))).trans F}
  .by_cases W:j=i
   .subst W;rw [hi] at F;cases F;rw [List.getElem?_set_self S] at O;cases O;exact {u,r,.inr {.inl U,c,G,Yg}}
   .rw [List.getElem?_set_ne (Pt W)] at O;obtain ⟨u',r',q⟩:=hl j y v' F O e3;refine {u',r',?_};rcases q with q|⟨k,c',e,z'⟩
    .exact .inl q
    .refine .inr {k,c',e,z'.sameBut hs ?_};rintro rfl;exact W (yS hN F (I.ok.inj _ _ _ e G ▸ hi))
  .by_cases aT:c'=c
   .subst aT;exact {_,Yg}
   .obtain ⟨w2,z2⟩:=I.cell y c' e;exact {w2,z2.sameBut hs aT}
  .obtain ⟨e,n,ne,nf,d⟩:=I.pin p hp;refine {(hs.2 p.1 ?_).trans e,n,ne,nf,d};intro q;rw [q,av] at e;have q':oc=p.2:=Pa.inj e;exact d w' (by rw [<- q'];exact aI)
theorem nN(I:Inv X Go σ H s)(hN:X.N.Nodup)(hi:X.N[i]?=some x)(hx:Loc X.env.scope x)(r:zr v u)(h:∀s',Inv X Go (σ.set i (some v)) H s'->Q () s')(hf:X.fn x=true\/X.env.scope.names.lookup x=some .local:=by first|exact .inl rfl|exact .inr rfl|assumption):Oz M A (storeName X.env x u) Q E s :=
 LG I hN hi hx r (λs' F _=>h s' F) hf
theorem Inv.aX(I:Inv X Go σ H s)(G:s'.os=s.os)(u:Un (frs X.stack) ch H H' s.heap s'.heap)(hok:HOk X.prog X.w H' s'.heap)(F:RD s'.gens)(J:∀b∈ch,(b∈X.ex\/X.s₀.heap.objs.size<=b)/\b≠X.env.locals/\(∀x c,X.env.cells.lookup x=some c->c≠b)/\∀p∈X.pn++Go,p.1≠b):Inv X Go σ H' s':=by
 obtain ⟨h',g',d',t',o'⟩:=s';have e:o'=s.os:=G;subst e;exact I.call (g':=g') (t':=t') (d':=d') u hok F J
end
abbrev XK:=Value->Option Addr->Hp->Prop
abbrev St:=List (Option V)
abbrev VK:=V->Hp->Prop
abbrev TE:=St->Hp->VK->Prop
abbrev TT:=St->Hp->(Bool->Hp->Prop)->Prop
abbrev TA:=St->Hp->(List V->Hp->Prop)->Prop
structure bT where
 nx:St->Hp->Prop
 rt:VK
 bk:St->Hp->Prop:=λ_ _=>False
 ct:St->Hp->Prop:=λ_ _=>False
abbrev TS:=bT->St->Hp->Prop
def EP(X:Cx)(Go:List (Addr×Obj))(σ:St)(Q:VK)(u:Value)(s':Oq):Prop:=∃v H',Inv X Go σ H' s'/\zr v u/\Q v H'
def TP(X:Cx)(Go:List (Addr×Obj))(σ:St)(Q:Bool->Hp->Prop)(b:Bool)(s':Oq):Prop:=∃H',Inv X Go σ H' s'/\Q b H'
def AP(X:Cx)(Go:List (Addr×Obj))(σ:St)(Q:List V->Hp->Prop)(us:List Value)(s':Oq):Prop:=∃vs H',Inv X Go σ H' s'/\zx vs us/\Q vs H'
def SP(X:Cx)(Go:List (Addr×Obj))(D:bT)(f:Flow)(s':Oq):Prop :=
 match f with
 | .next=>∃F H',Inv X Go F H' s'/\D.nx F H'
 | .brk=>∃F H',Inv X Go F H' s'/\D.bk F H'
 | .cont=>∃F H',Inv X Go F H' s'/\D.ct F H'
 | .ret u=>∃v F H',Inv X Go F H' s'/\zr v u/\D.rt v H'
def PE(X:Cx)(e:OZ)(t:TE):Prop :=
 ∀(Go:List (Addr×Obj))(s:Oq)(σ:St)(H:Hp)(Q:VK),Inv X Go σ H s->t σ H Q->Oz (OI X.prog X.w) X.A (Qc e X.env) (EP X Go σ Q) X.xe s
def PT(X:Cx)(e:OZ)(t:TT):Prop :=
 ∀(Go:List (Addr×Obj))(s:Oq)(σ:St)(H:Hp)(Q:Bool->Hp->Prop),Inv X Go σ H s->t σ H Q->Oz (OI X.prog X.w) X.A (isTrue e X.env (Qc e X.env)) (TP X Go σ Q) X.xe s
def PW(X:Cx)(e:OZ)(t:TT):Prop :=
 ∀(F:Sem Value)(Go:List (Addr×Obj))(s:Oq)(σ:St)(H:Hp)(Q:Bool->Hp->Prop),Inv X Go σ H s->t σ H Q->Oz (OI X.prog X.w) X.A (isTrue e X.env F) (TP X Go σ Q) X.xe s
theorem PW.pt{t:TT}(h:PW X e t):PT X e t:=h _
def PA(X:Cx)(es:List OZ)(t:TA):Prop :=
 ∀(pos:Pos)(Go:List (Addr×Obj))(s:Oq)(σ:St)(H:Hp)(Q:List V->Hp->Prop),Inv X Go σ H s->t σ H Q->Oz (OI X.prog X.w) X.A (spliced (QW pos (O8 es X.env))) (AP X Go σ Q) X.xe s
def PS(X:Cx)(st:Stmt)(t:TS):Prop :=
 ∀(Go:List (Addr×Obj))(s:Oq)(σ:St)(H:Hp)(D:bT),Inv X Go σ H s->t D σ H->Oz (OI X.prog X.w) X.A (exec st X.env) (SP X Go D) X.xe s
def PSs(X:Cx)(st:List Stmt)(t:TS):Prop :=
 ∀(Go:List (Addr×Obj))(s:Oq)(σ:St)(H:Hp)(D:bT),Inv X Go σ H s->t D σ H->Oz (OI X.prog X.w) X.A (execs st X.env) (SP X Go D) X.xe s
theorem x2e{a b c:Prop}(f:a->b->c)(h:a/\b):c:=f h.1 h.2
theorem x3e{α:Sort _}{A B:α->Prop}{D:Prop}(f:∀x,A x->B x->D)(h:∃x,A x/\B x):D:=h.elim λx z=>f x z.1 z.2
theorem x4e{α β:Sort _}{A B:α->β->Prop}{D:Prop}(f:∀x y,A x y->B x y->D)(h:∃x y,A x y/\B x y):D:=h.elim λx=>x3e (f x)
theorem x5e{α β:Sort _}{A B C:α->β->Prop}{D:Prop}(f:∀x y,A x y->B x y->C x y->D)(h:∃x y,A x y/\B x y/\C x y):D:=h.elim λx=>x3e λy a=>x2e (f x y a)
theorem thn{α:Type}{t:Sem α}{Q F:α->Oq->Prop}(h:Oz M A t Q E s)(G:∀a s,Q a s->F a s):Oz M A t F E s:=O3 h G λ_ _ x=>x
section
variable {X:Cx}
def eP(i:Nat):TE:=λσ H Q=>∃v,σ[i]?=some (some v)/\Q v H
def tC(v:V):TE:=λ_ H Q=>Q v H
theorem DO(hN:X.N[i]?=some x)(hv:Vis X.env.scope x)(hd:(x==("__debug__":Str))=false:=by decide)(hcd:(x==("__classdict__":Str))=false:=by decide):PE X (.Name x pos) (eP i):=by
 intro Go s σ H Q I h;obtain ⟨v,e,h⟩:=h;obtain ⟨m,U,hl⟩:=I.loc;obtain ⟨u,r,l⟩:=hl i x v hN e hv;have G:EP X Go σ Q u s:=⟨v,H,I,r,h⟩;rcases l with ⟨F,S⟩|⟨F,c,O,J⟩
 .exact wpAny_Name (SH I.ok.kind F U S G) hd
 .rcases F with F|F
  .exact wpAny_Name (wpAny_loadName_cell I.ok.kind F O J G) hd
  .exact wpAny_Name (wpAny_loadName_free I.ok.kind F O J G hcd) hd
theorem yh{i j pos}:PE X (.Constant (.int i) j pos) (tC (.int i)):=λ_ _ _ H _ I h=>Tb {.int i,H,I.tok _,{_,rfl},h}
theorem jn{b j pos}:W (PE X (.Constant (.bool b) j pos) (tC (.bl b))):={λ_ _ _ H _ I h=>Constant_bool {.bl b,H,I,rfl,h}}
theorem cy{j pos}:W (PE X (.Constant .none j pos) (tC .non)):={λ_ _ _ H _ I h=>Constant_none {.non,H,I,rfl,h}}
theorem aL{x j pos}:W (PE X (.Constant (.str x) j pos) (tC (.str x))):={λ_ _ _ H _ I h=>Calls.Constant_str {.str x,H,I.tok _,{_,rfl},h}}
def Gl(X:Cx)(x:Str):Prop:=X.env.kindOf x=some .globalImplicit
theorem fi(I:Inv X Go σ H s)(F:Gl X x)(G:X.mg x=some u)(h:Q u s)(hd:(x==("__debug__":Str))=false:=by decide):Oz (OI X.prog X.w) X.A (Qc (.Name x pos) X.env) Q E s :=
 Calls.Name_function_global I.ok.kind F (Calls.loadGlobal_global (by rw [I.ok.glob];exact I.mod.glob.keeps I.bk) G h) hd
theorem gM(I:Inv X Go σ H s)(F:Gl X x)(J:X.mg x=none)(hv:Rt x=some u)(h:Q u s)(G:x≠"__name__":=by decide)(hd:(x==("__debug__":Str))=false:=by decide):Oz (OI X.prog X.w) X.A (Qc (.Name x pos) X.env) Q E s:=by
 obtain ⟨O,h1,h2⟩:=I.mod.blt;exact Calls.Name_function_global I.ok.kind F (Calls.loadGlobal_builtin (by rw [I.ok.glob];exact I.mod.glob.keeps I.bk) J (by rw [I.ok.blt];exact h1.keeps I.bk) ((h2 x G).trans hv) h) hd
theorem JM(F:Gl X x)(G:X.mg x=some u)(r:zr v u)(hd:(x==("__debug__":Str))=false:=by decide):PE X (.Name x pos) (tC v) :=
 λ_ _ _ H _ I h=>fi I F G ⟨v,H,I,r,h⟩ hd
theorem sh(F:Gl X x)(J:X.mg x=none)(hv:Rt x=some u)(r:zr v u)(G:x≠"__name__":=by decide)(hd:(x==("__debug__":Str))=false:=by decide):W (PE X (.Name x pos) (tC v)):={λ_ _ _ H _ I h=>gM I F J hv ⟨v,H,I,r,h⟩ G hd}
variable {a b:OZ}{ta tb:TE}{pos:Pos}
variable {tA tB':TT}{YM:List OZ}
def x6(t u:TT):TT:=λσ H Q=>t σ H λc H1=>if c=true then u σ H1 Q else Q false H1
def wC(t:TT):TT:=λσ H Q=>t σ H λc H1=>Q (!c) H1
theorem HK(F:W (PT X a tA)):W (PW X (.BoolOp .And [a] pos) tA):=by
 refine {?_};have F:=F.h;intro G Go s σ H Q I h;refine isTrue_and (thn (F Go s σ H Q I h) λc s1 e=>?_);cases c with
 | true=>exact isTrue_and_nil e
 | false=>exact e
theorem vY(G:W (PT X a tA))(F:W (PW X (.BoolOp .And (b::YM) pos) tB')):W (PW X (.BoolOp .And (a::b::YM) pos) (x6 tA tB')):=by
 refine {?_};have G:=G.h;have F:=F.h;intro O Go s σ H Q I h;refine isTrue_and (thn (G Go s σ H _ I h) λc s1=>x3e λH1 J q1=>?_);cases c with
 | true=>exact F O Go s1 σ H1 Q J q1
 | false=>exact ⟨H1,J,q1⟩
theorem d6(F:W (PT X a tA)):W (PT X (.UnaryOp .Not a pos) (wC tA)):=by
 refine {?_};have F:=F.h;intro Go s σ H Q I h;exact isTrue_not (F Go s σ H (λc H1=>Q (!c) H1) I h)
def tM(ta tb:TE):TE:=λσ H Q=>ta σ H λx H1=>∃c,x = .bl c/\if c=true then tb σ H1 Q else Q (.bl false) H1
def yr(ta tb:TE):TE:=λσ H Q=>ta σ H λx H1=>∃c,x = .bl c/\if c=true then Q (.bl true) H1 else tb σ H1 Q
def vZ(ta:TE):TE:=λσ H Q=>ta σ H λx H1=>∃c,x = .bl c/\Q (.bl (!c)) H1
theorem kI{op}{t:TE}(h:W (PE X a t)):W (PE X (.BoolOp op [a] pos) t):=by refine {?_};have h:=h.h;exact λGo s σ H Q I hw=>BoolOp_one (h Go s σ H Q I hw)
theorem nU(G:W (PE X a ta))(F:W (PE X (.BoolOp .And (b::YM) pos) tb)):W (PE X (.BoolOp .And (a::b::YM) pos) (tM ta tb)):=by
 refine {?_};have G:=G.h;have F:=F.h;intro Go s σ H Q I h;refine BoolOp_and (thn (G Go s σ H _ I h) λv s1=>x5e λx H1 J r1 q1=>?_);obtain ⟨c,rfl,q1⟩:=q1;cases r1;refine Qr ?_;cases c with
 | true=>exact F Go s1 σ H1 Q J q1
 | false=>exact {.bl false,H1,J,rfl,q1}
theorem Ie(G:W (PE X a ta))(F:W (PE X (.BoolOp .Or (b::YM) pos) tb)):W (PE X (.BoolOp .Or (a::b::YM) pos) (yr ta tb)):=by
 refine {?_};have G:=G.h;have F:=F.h;intro Go s σ H Q I h;refine BoolOp_or (thn (G Go s σ H _ I h) λv s1=>x5e λx H1 J r1 q1=>?_);obtain ⟨c,rfl,q1⟩:=q1;cases r1;refine Qr ?_;cases c with
 | false=>exact F Go s1 σ H1 Q J q1
 | true=>exact {.bl true,H1,J,rfl,q1}
theorem Ew(F:W (PE X a ta)):W (PE X (.UnaryOp .Not a pos) (vZ ta)):=by
 refine {?_};have F:=F.h;intro Go s σ H Q I h;refine UnaryOp_ (thn (F Go s σ H _ I h) λv s1=>x5e λx H1 G r1 q1=>?_);obtain ⟨c,rfl,q1⟩:=q1;cases r1;exact not_of (Qr {.bl (!c),H1,G,rfl,q1})
def tIf(t:TT)(ta tb:TE):TE:=λσ H Q=>t σ H λc H1=>if c=true then ta σ H1 Q else tb σ H1 Q
theorem FJ(G:W (PT X c tA))(J:W (PE X a ta))(F:W (PE X b tb)):W (PE X (.IfExp c a b pos) (tIf tA ta tb)):=by
 refine {?_};have G:=G.h;have J:=J.h;have F:=F.h;intro Go s σ H Q I h;refine wpAny_IfExp (thn (G Go s σ H _ I h) λd s1=>x3e λH1 O q1=>?_);cases d with
 | true=>exact J Go s1 σ H1 Q O q1
 | false=>exact F Go s1 σ H1 Q O q1
end
def SqL(K:Ov)(H:Hp)(a:Addr)(xs:List V):Prop :=
 Rd H a (.lst xs) \/
  ∃(o:Obj)(its:Array Value)(n:Nat),K.lookup a=some o/\o.cls = .type "list"/\o.dict=none/\o.data = .seq its n/\its.size<=sizeLine/\zx xs its.toList
def SqT(K:Ov)(H:Hp)(a:Addr)(xs:List V):Prop :=
 Rd H a (.tup xs) \/
  ∃(o:Obj)(its:Array Value)(n:Nat),K.lookup a=some o/\o.cls = .type "tuple"/\o.data = .seq its n/\its.size<=sizeLine/\zx xs its.toList
def Np:Value->Option V
 | .none=>some .non
 | .bool b=>some (.bl b)
 | .int i _=>some (.int i)
 | .str x _=>some (.str x)
 | .bytes b _=>some (.byt b)
 | .float b _=>some (.flt b)
 | .ref a=>some (.ref a)
 | .type n=>some (.ty n)
 | _=>none
theorem zr.abs(r:zr x u):Np u=some x:=by
 cases x with
 | non=>cases r;rfl
 | bl _=>cases r;rfl
 | int _=>obtain ⟨t,rfl⟩:=r;rfl
 | str _=>obtain ⟨t,rfl⟩:=r;rfl
 | byt _=>obtain ⟨t,rfl⟩:=r;rfl
 | flt _=>obtain ⟨t,rfl⟩:=r;rfl
 | ref _=>cases r;rfl
 | ty _=>cases r;rfl
theorem zr.inj(r:zr x u)(q:zr y u):x=y:=Pa.inj (r.abs.symm.trans q.abs)
theorem zx.inj(h:zx xs us):∀{ys:List V},zx ys us->xs=ys:=by
 induction h with
 | nil=>intro ys k;cases k;rfl
 | cons r t F =>
  intro ys k;cases k with
  | cons r' t'=>rw [r.inj r',F t']
section
variable {X:Cx}{Go:List (Addr×Obj)}{σ:St}{H:Hp}{s:Oq}{a:Addr}{xs ys:List V}
theorem SqL.of{K:Ov}(h:H a=some (.lst xs)):SqL K H a xs:=.inl (.inl h)
theorem SqT.of{K:Ov}(h:H a=some (.tup xs)):SqT K H a xs:=.inl (.inl h)
theorem Inv.list(I:Inv X Go σ H s)(h:SqL X.K H a xs):∃its:List Value,zx xs its/\PlainL s.heap a its.toArray/\xs.length<=sizeLine:=by
 rcases h with h|⟨o,its,n,F,G,hd,hs,hz,r⟩
 .obtain ⟨z,its,n,r,e⟩:=h.ok I.hok;exact {its,r,{_,n,e,rfl,rfl,rfl},z}
 .refine {its.toList,r,{o,n,I.UX a o F,G,hd,by simpa using hs},?_};have e:=r.length;simp only [Qa] at e;lia
theorem Inv.tuple(I:Inv X Go σ H s)(h:SqT X.K H a xs):∃its:List Value,zx xs its/\Uq s.heap a its.toArray/\xs.length<=sizeLine:=by
 rcases h with h|⟨o,its,n,F,G,hs,hz,r⟩
 .obtain ⟨z,its,r,p⟩:=h.ok I.hok;exact ⟨its,r,p,z⟩
 .refine {its.toList,r,{o,I.UX a o F,G,n,by simpa using hs},?_};have e:=r.length;simp only [Qa] at e;lia
theorem Inv.bB(I:Inv X Go σ H s)(h:SqL X.K H a xs)(h':SqL X.K H a ys):xs=ys:=by
 obtain ⟨its,r,⟨o,n,e,_,_,d⟩,_⟩:=I.list h;obtain ⟨its',r',⟨o',G,F,_,_,d'⟩,_⟩:=I.list h';rw [e] at F;cases F;rw [d] at d';injection d' with d1 _
 have:its=its':=by simpa using congrArg Array.toList d1
 subst this;exact r.inj r'
theorem Inv.a3(I:Inv X Go σ H s)(h:SqT X.K H a xs)(h':SqT X.K H a ys):xs=ys:=by
 obtain ⟨its,r,⟨o,e,_,n,d⟩,_⟩:=I.tuple h;obtain ⟨its',r',⟨o',F,_,G,d'⟩,_⟩:=I.tuple h';rw [e] at F;cases F;rw [d] at d';injection d' with d1 _
 have:its=its':=by simpa using congrArg Array.toList d1
 subst this;exact r.inj r'
end
abbrev Cx.UY(X:Cx)(E:Value->Oq->Prop):Cx:={ X with xe:=E }
abbrev Cx.b0(X:Cx):Cx:=X.UY λ_ _=>False
theorem Cx.Ok.UY{X:Cx}(ok:X.Ok)(E:Value->Oq->Prop):(X.UY E).Ok :=
 ⟨ok.mod,ok.kind,ok.glob,ok.blt,ok.above,ok.inj,ok.has,ok.b7,ok.hd,ok.frames,ok.cc,ok.cP,ok.bs,ok.bf,ok.aU,ok.a7,ok.U0,ok.bE⟩
theorem Cx.Ok.ro{X:Cx}(ok:(X.UY E).Ok):X.Ok :=
 ⟨ok.mod,ok.kind,ok.glob,ok.blt,ok.above,ok.inj,ok.has,ok.b7,ok.hd,ok.frames,ok.cc,ok.cP,ok.bs,ok.bf,ok.aU,ok.a7,ok.U0,ok.bE⟩
section
variable {X:Cx}{Go:List (Addr×Obj)}{σ:St}{H:Hp}{s:Oq}{E:Value->Oq->Prop}
theorem Inv.UY(I:Inv X Go σ H s)(E:Value->Oq->Prop):Inv (X.UY E) Go σ H s:={I.ok.UY E,I.os,I.bare,I.base,I.loc,I.cell,I.free,I.J7,I.pin,I.hok,I.len,I.hdk}
theorem Inv.ro(I:Inv (X.UY E) Go σ H s):Inv X Go σ H s:=⟨I.ok.ro,I.os,I.bare,I.base,I.loc,I.cell,I.free,I.J7,I.pin,I.hok,I.len,I.hdk⟩
theorem SP.ro(h:SP (X.UY E) Go D f s'):SP X Go D f s':=by
 cases f with
 | next=>obtain ⟨F,H',I,q⟩:=h;exact ⟨F,H',I.ro,q⟩
 | brk=>obtain ⟨F,H',I,q⟩:=h;exact ⟨F,H',I.ro,q⟩
 | cont=>obtain ⟨F,H',I,q⟩:=h;exact ⟨F,H',I.ro,q⟩
 | ret u=>obtain ⟨v,F,H',I,r,q⟩:=h;exact ⟨v,F,H',I.ro,r,q⟩
theorem PSs.b0{st:List Stmt}{t:TS}(h:PSs X.b0 st t):PSs X st t:=λGo s σ H D I hw =>
 O3 (h Go s σ H D (I.UY _) hw) (λ_ _ q=>q.ro) λ_ _ z=>False.elim z
end
section
variable {X:Cx}{st:Stmt}{YM:List Stmt}{t u:TS}{e:OZ}{te:TE}{pos:Pos}
def tY:TS:=λD σ H=>D.nx σ H
def wq(t u:TS):TS:=λD σ H=>t { D with nx:=u D } σ H
theorem aa:W (PSs X [] tY):={λ_ _ σ H _ I h=>R1 {σ,H,I,h}}
theorem zh(h1:W (PS X st t))(h2:W (PSs X YM u)):W (PSs X (st::YM) (wq t u)):=by
 refine {?_};have h1:=h1.h;have h2:=h2.h;intro Go s σ H D I h;refine wpAny_execs_cons (thn (h1 Go s σ H { D with nx:=u D } I h) λf s1 q=>?_);cases f with
 | next =>
  obtain ⟨F,H',G,q⟩:=q;exact h2 Go s1 F H' D G q
 | ret v=>exact q
 | brk=>exact q
 | cont=>exact q
theorem zo(h1:W (PS X st t)):W (PSs X [st] t):=by
 refine {?_};have h1:=h1.h;intro Go s σ H D I h;refine wpAny_execs_cons (thn (h1 Go s σ H D I h) λf s1 q=>?_);cases f with
 | next=>exact R1 q
 | ret v=>exact q
 | brk=>exact q
 | cont=>exact q
theorem Inv.quiet(I:Inv X Go σ H s):interactive X.env=false:=by simp [interactive,I.ok.kind]
def wH(te:TE):TS:=λD σ H=>te σ H λ_ H1=>D.nx σ H1
theorem aJ(F:W (PE X e te))(hs:S5 e none pos.line X.env=pure false:=by rfl):W (PS X (.Expr e pos) (wH te)):=by
 refine {?_};have F:=F.h;intro Go s σ H D I h;exact wpAny_Expr_any (thn (F Go s σ H _ I h) λv s1=>x5e λx H1 G r1 q1=>{σ,H1,G,q1}) I.quiet hs
def yj(te:TE):TS:=λD σ H=>te σ H D.rt
theorem zB(F:W (PE X e te)):W (PS X (.Return (some e) pos) (yj te)):=by
 refine {?_};have F:=F.h;intro Go s σ H D I h;exact wpAny_Return_some (thn (F Go s σ H _ I h) λv s1=>x5e λx H1 G r1 q1=>{x,σ,H1,G,r1,q1})
def uX(c:TT)(t u:TS):TS:=λD σ H=>c σ H λb H1=>if b=true then t D σ H1 else u D σ H1
theorem af(G:W (PT X c tc))(J:W (PSs X a t))(F:W (PSs X b u)):W (PS X (.If c a b pos) (uX tc t u)):=by
 refine {?_};have G:=G.h;have J:=J.h;have F:=F.h;intro Go s σ H D I h;refine wpAny_If (thn (G Go s σ H _ I h) λd s1=>x3e λH1 O q1=>?_);cases d with
 | true=>exact J Go s1 σ H1 D O q1
 | false=>exact F Go s1 σ H1 D O q1
end
abbrev TG:=V->St->Hp->(St->Hp->Prop)->Prop
abbrev TGs:=List V->St->Hp->(St->Hp->Prop)->Prop
def PG(X:Cx)(F:OZ)(t:TG):Prop :=
 ∀(Go:List (Addr×Obj))(s:Oq)(σ:St)(H:Hp)(v:V)(u:Value)(Q:St->Hp->Prop),Inv X Go σ H s->zr v u->t v σ H Q ->
  Oz (OI X.prog X.w) X.A (Tp F X.env u) (λ_ s'=>∃G H',Inv X Go G H' s'/\Q G H') X.xe s
def PGs(X:Cx)(ts:List OZ)(t:TGs):Prop :=
 ∀(Go:List (Addr×Obj))(s:Oq)(σ:St)(H:Hp)(vs:List V)(us:List Value)(Q:St->Hp->Prop),Inv X Go σ H s->zx vs us->t vs σ H Q ->
  Oz (OI X.prog X.w) X.A (assignInOrder ((Qh ts X.env).map (·.2)) us) (λ_ s'=>∃F H',Inv X Go F H' s'/\Q F H') X.xe s
abbrev qO:=V->V->V->Hp->(Hp->Prop)->Prop
def o7(X:Cx)(t:qO):Prop :=
 ∀(Go:List (Addr×Obj))(s:Oq)(σ:St)(H:Hp)(o i v:V)(G F u:Value)(Q:Hp->Prop),Inv X Go σ H s->zr o G->zr i F->zr v u->t o i v H Q ->
  Oz (OI X.prog X.w) X.A (setItem G F u) (λ_ s'=>∃H',Inv X Go σ H' s'/\Q H') X.xe s
abbrev TIp:=V->V->Hp->VK->Prop
def PIp(X:Cx)(op:Operator)(t:TIp):Prop :=
 ∀(Go:List (Addr×Obj))(s:Oq)(σ:St)(H:Hp)(x y:V)(v u:Value)(Q:VK),Inv X Go σ H s->zr x v->zr y u->t x y H Q ->
  Oz (OI X.prog X.w) X.A (inplaceOp op v u) (EP X Go σ Q) X.xe s
section
variable {X:Cx}{pos:Pos}
def cE(i:Nat):TG:=λv σ H Q=>Q (σ.set i (some v)) H
theorem mT(hN:X.N.Nodup)(hi:X.N[i]?=some x)(hx:Loc X.env.scope x)(hf:X.fn x=true\/X.env.scope.names.lookup x=some .local:=by first|exact .inl rfl|exact .inr rfl|assumption):PG X (.Name x pos) (cE i):=by
 intro Go s σ H v u Q I r h;exact wpAny_assign_Name (nN I hN hi hx r (λs' F=>{_,H,F,h}) hf)
def qG:TGs:=λvs σ H Q=>vs=[]/\Q σ H
def il(t:TG)(u:TGs):TGs:=λvs σ H Q=>∃v r,vs=v::r/\t v σ H λF H'=>u r F H' Q
theorem d5:W (PGs X [] qG):=by
 refine {?_};intro Go s σ H vs us Q I r h;obtain ⟨e,h⟩:=h;subst e;cases r;exact assignInOrder_nil {σ,H,I,h}
theorem aA{t:TG}(h1:W (PG X e t))(h2:W (PGs X es u))(hs:(Qh (e::es) X.env).map (·.2)=Tp e X.env::(Qh es X.env).map (·.2):=by rfl):W (PGs X (e::es) (il t u)):=by
 refine {?_};have h1:=h1.h;have h2:=h2.h;intro Go s σ H vs us Q I r h;obtain ⟨v,S,J,h⟩:=h;subst J;cases r with
 | cons r O =>
  rw [hs];refine assignInOrder_cons (thn (h1 Go s σ H _ _ _ I r h) λ_ s1=>x4e λF H1 G q1=>?_);exact h2 Go s1 F H1 _ _ Q G O q1
def kr(K:Ov)(n:Nat)(t:TGs):TG:=λv σ H Q=>∃a xs,v = .ref a/\SqT K H a xs/\xs.length=n/\t xs σ H Q
def wK(to F:TE)(t:qO):TG:=λv σ H Q=>to σ H λo H1=>F σ H1 λi H2=>t o i v H2 λH3=>Q σ H3
theorem jN{o i:OZ}{to O:TE}{t:qO}(J:W (PE X o to))(hi:W (PE X i O))(hs:o7 X t)
  (U:∀v,Tp (.Subscript o i pos) X.env v=(do
   let F<-Q1 [v] (Qc o X.env)
   let G<-Q1 [v,F] (Qc i X.env)
   Re pos
   Q1 [v,F,G] (setItem F G v)
   release [v,F,G] []):=by intro _;rfl):W (PG X (.Subscript o i pos) (wK to O t)):=by
 refine {?_};have J:=J.h;have hi:=hi.h;intro Go s σ H v u Q I r h;rw [U];refine we (OV (thn (J Go s σ H _ I h) λF s1=>x5e λx H1 S r1 q1=>?_));refine we (OV (thn (hi Go s1 σ H1 _ S q1) λG s2=>x5e λy H2 I2 r2 q2=>?_));refine we (Pn (we (OV (thn (hs Go s2 σ H2 x y v F G u _ I2 r1 r2 r q2) λ_ s3=>x3e λH3 Z q3=>?_))));exact wpAny_release {σ,H3,Z,q3}
def gO(te:TE)(g:TG):TS:=λD σ H=>te σ H λx H1=>g x σ H1 D.nx
theorem ie(F:W (PE X e te))(G:W (PG X tg g))(hs:swapsWithSole [tg] e pos.line X.env=pure false:=by rfl)(hw:swappedStores [tg] e X.env=pure none:=by rfl)(h1:(Qh [tg] X.env).map (·.2)=[Tp tg X.env]:=by rfl):W (PS X (.Assign [tg] e pos) (gO te g)):=by
 refine {?_};have F:=F.h;have G:=G.h;intro Go s σ H D I h;refine wpAny_Assign_stores (thn (F Go s σ H _ I h) λv s1=>x5e λx H1 J r1 q1=>?_) hs hw;rw [h1];exact thn (G Go s1 σ H1 x v _ J r1 q1) λ_ s2 q=>q
theorem zC(hN:X.N.Nodup)(hi:X.N[i]?=some x)(hx:Loc X.env.scope x)(F:W (PE X e te))(hs:S5 e (some (.Name x Zo)) pos.line X.env=pure false:=by rfl)(hf:X.fn x=true\/X.env.scope.names.lookup x=some .local:=by first|exact .inl rfl|exact .inr rfl|assumption):W (PS X (.Assign [.Name x Zo] e pos) (gO te (cE i))):=by
 refine {?_};have F:=F.h;intro Go s σ H D I h;refine wpAny_Assign_Name (thn (F Go s σ H _ I h) λv s1=>x5e λy H1 G r1 q1=>?_) hs;exact nN G hN hi hx r1 (λs2 J=>{_,H1,J,q1}) hf
def xj(i:Nat)(te:TE)(F:TIp):TS:=λD σ H=>∃x,σ[i]?=some (some x)/\te σ H λy H1=>F x y H1 λz H2=>D.nx (σ.set i (some z)) H2
theorem Mz(hN:X.N.Nodup)(hi:X.N[i]?=some x)(hx:Loc X.env.scope x)(J:W (PE X e te))(ho:PIp X op S)(hf:X.fn x=true\/X.env.scope.names.lookup x=some .local:=by first|exact .inl rfl|exact .inr rfl|assumption):W (PS X (.AugAssign (.Name x Zo) op e pos) (xj i te S)):=by
 refine {?_};have J:=J.h;intro Go s σ H D I h;obtain ⟨v,e1,h⟩:=h;obtain ⟨m,hn,hl⟩:=I.loc;have O:Vis X.env.scope x:=by rcases hx with k|k;exact .inl k;exact .inr (.inl k)
 obtain ⟨u,r,l⟩:=hl i x v hi e1 O;refine wpAny_AugAssign_Name ?_;have go:Oz (OI X.prog X.w) X.A (Qc e X.env) (λw G=>Oz (OI X.prog X.w) X.A (inplaceOp op u w) (λr s₃=>Oz (OI X.prog X.w) X.A (storeName X.env x r) (λ_=>SP X Go D .next) X.xe s₃) X.xe G) X.xe s:=by
  refine thn (J Go s σ H _ I h) λw s1=>x5e λy H1 U r1 q1=>?_;refine thn (ho Go s1 σ H1 v y u w _ U r r1 q1) λz s2=>x5e λzv H2 I2 r2 q2=>?_;exact nN I2 hN hi hx r2 (λs3 Z=>{_,H2,Z,q2}) hf
 rcases l with ⟨F,hm⟩|⟨F,c,hc,XJ⟩
 .exact SH I.ok.kind F hn hm go
 .rcases F with F|F
  .exact wpAny_loadName_cell I.ok.kind F hc XJ go
  .rcases hx with k|k
   .have:X.env.scope.names.lookup x=some .free:=F;rw [k] at this;cases this
   .have:X.env.scope.names.lookup x=some .free:=F;rw [k] at this;cases this
def ipI(f:Int->Int->Int):TIp:=λx y H Q=>∃i j,x = .int i/\y = .int j/\Q (.int (f i j)) H
theorem MU:PIp X .Add (ipI λi j=>i+j):=by
 intro Go s σ H x y v u Q I r1 r2 h;obtain ⟨i,j,G,F,q⟩:=h;subst G;subst F;obtain ⟨t,rfl⟩:=r1;obtain ⟨t',rfl⟩:=r2;exact iadd_int {.int _,H,I.tok _,{_,rfl},q}
end
structure It where
 go:Nat->Hp->Prop
 bg:Nat->Hp->V->Hp->Prop
 stop:Nat->Hp->Prop
def aE(X:Cx)(Go:List (Addr×Obj))(H:Hp)(b:Addr):Prop :=
 H b=none/\b≠X.env.locals/\b∉X.fs/\(b∈X.ex\/X.s₀.heap.objs.size<=b)/\(∀x c,X.env.cells.lookup x=some c->c≠b)/\∀p∈X.pn++Go,p.1≠b
theorem Inv.Va(I:Inv X Go σ H s)(F:s.heap.objs.size<=b)(J:H' b=none):aE X Go H' b:=by
 refine {J,RU (OX I.lt F),I.cq F,.inr (Pj I.sz F),λx c e z=>?_,λp G z=>?_}
 .obtain ⟨v,q⟩:=I.cell x c e;exact absurd (OX q.lt (by rw [z];exact F)) (Ph _)
 .exact absurd (OX (O2 (I.pin p G).1) (by rw [z];exact F)) (Ph _)
structure fY(c:Bool)(P:OE)(w:OW)(K:Ov)(tg:OZ)(J:It)(fp:List Addr)(it:Addr)(tn:Nat->Heap->Prop):Prop where
 mem:it∈fp
 obj:∀i h,tn i h->∀b∈fp,∃o,h.get? b=some o/\∀v,o.data≠.cell v
 keep:∀i h h',tn i h->(∀b∈fp,∀o,h.get? b=some o->h'.get? b=some o)->tn i h'
 item:∀(X:Cx),X.prog=P->X.w=w->X.K=K->(c=true->X.calm=true)->∀(i:Nat)(Go:List (Addr×Obj))(s:Oq)(σ:St)(H:Hp)(E:Value->Oq->Prop),Inv X Go σ H s->(∀b∈fp,aE X Go H b)->tn i s.heap->J.go i H ->
  Oz (OI P w) X.A (RS (.ref it)) (λr s1=>∃u,r=some u /\
   Oz (OI P w) X.A (QU tg (.ref it) u) (λ_ s2=>∃x H',Inv X Go σ H' s2/\zr x u/\J.bg i H x H'/\tn (i+1) s2.heap/\∀b∈fp,H' b=none) E s1) E s
 done:∀(X:Cx),X.prog=P->X.w=w->X.K=K->(c=true->X.calm=true)->∀(i:Nat)(Go:List (Addr×Obj))(s:Oq)(σ:St)(H:Hp)(E:Value->Oq->Prop),Inv X Go σ H s->(∀b∈fp,aE X Go H b)->tn i s.heap->J.stop i H ->
  Oz (OI P w) X.A (RS (.ref it)) (λr s1=>r=none/\Inv X Go σ H s1) E s
 self:∀(A:OR)(i:Nat)(s:Oq)(Q:Value->Oq->Prop)(E:Value->Oq->Prop),tn i s.heap->Q (.ref it) s->Oz (OI P w) A (pyIter (.ref it)) Q E s
abbrev TI:=St->Hp->(It->Hp->Prop)->Prop
def PIE(c:Bool)(X:Cx)(Go:List (Addr×Obj))(σ:St)(tg:OZ)(R:It->Hp->Prop)(F:Value)(s2:Oq):Prop :=
 ∃(it:Addr)(fp:List Addr)(G:Nat->Heap->Prop)(J:It)(H':Hp),F = .ref it/\Inv X Go σ H' s2/\fY c X.prog X.w X.K tg J fp it G/\G 0 s2.heap/\(∀b∈fp,aE X Go H' b)/\R J H'
def PIc(c:Bool)(X:Cx)(tg iter:OZ)(wi:TI):Prop :=
 ∀(Go:List (Addr×Obj))(s:Oq)(σ:St)(H:Hp)(R:It->Hp->Prop),Inv X Go σ H s->wi σ H R ->
  Oz (OI X.prog X.w) X.A (Qc iter X.env) (λv s1=>Oz (OI X.prog X.w) X.A (pyIter v) (PIE c X Go σ tg R) X.xe s1) X.xe s
abbrev PI:=PIc true
theorem jK{o:Obj}(G:s.heap.get? it=some o)(J:o.cls = .type n)(hd:o.data = .fields vs)(O:["enumerate","zip","dict_itemiterator","dict_reverseitemiterator","odict_iterator","itertools.zip_longest","itertools.pairwise"].contains n=false)(F:Q () s):Oz M A (QU tg (.ref it) u) Q E s:=by
 unfold QU;cases tg<;>first
  | exact Os F
  | (cases u<;>first
    | exact Os F
    | (refine we (wpAny_load G ?_)
       rw [J, hd];show Oz M A (if (["enumerate", "zip", "dict_itemiterator", "dict_reverseitemiterator", "odict_iterator", "itertools.zip_longest", "itertools.pairwise"].contains n && vs[0]? == some (Px _)) = true then _ else _) Q E s;rw [if_neg (by intro h; rw [O, Sm] at h; cases h)];exact Os F))
def Itl(K:Ov)(a:Addr):It :=
 {λi H=>∃xs x,SqL K H a xs/\xs[i]?=some x,λi H x H'=>H'=H/\∀xs,SqL K H a xs->xs[i]?=some x,λi H=>∃xs,SqL K H a xs/\xs.length<=i}
def Itt(K:Ov)(a:Addr):It :=
 {λi H=>∃xs x,SqT K H a xs/\xs[i]?=some x,λi H x H'=>H'=H/\∀xs,SqT K H a xs->xs[i]?=some x,λi H=>∃xs,SqT K H a xs/\xs.length<=i}
def Itr(lo:Int)(n:Nat):It:={λi _=>i<n,λi H x H'=>H'=H/\x = .int (lo+i),λi _=>n<=i}
theorem uY{P:OE}{w:OW}{K:Ov}{tg:OZ}(a it:Addr):fY true P w K tg (Itl K a) [it] it (λi h=>h.IsListIter it a i) where
 mem:=by simp
 obj:=λi h st b F=>by
  have e:b=it:=by simpa using F
  subst e;obtain ⟨o,e,c,d⟩:=st;exact {o,e,λv z=>by rw [d] at z;cases z}
 keep:=λi h h' st k=>st.at λo e=>k it 'z' o e
 item:=by
  intro X hP hw hK hc i Go s σ H E I hf st hg;subst hP hw hK;obtain ⟨xs,x,G,hx⟩:=hg;obtain ⟨its,J,p,hz⟩:=I.list G;obtain ⟨u,hu,ru⟩:=J.get hx;obtain ⟨Z,S,f2,U,W,O⟩:=hf it 'z';refine wpAny_pyNext_list_item st p.isList (x:=u) (by simpa using hu) λh' YD sb=>?_;have I1:Inv X Go σ H { s with heap:=h' }:=I.turned (t':=s.toks) (λb o F e=>(sb.2 b F).trans e) Z S U W O;obtain ⟨o,e,c,d⟩:=id YD;exact {u,rfl,jK (s:={ s with heap:=h' }) e c d 'd' {x,H,I1,ru,{rfl,λys hy=>by rw [I.bB hy G];exact hx},YD,λb F=>(hf b F).1}}
 done:=by
  intro X hP hw hK hc i Go s σ H E I hf st hg;subst hP hw hK;obtain ⟨xs,G,hx⟩:=hg;obtain ⟨its,J,p,hz⟩:=I.list G;obtain ⟨Z,S,f2,U,W,O⟩:=hf it 'z';have hl:=J.length;exact wpAny_pyNext_list_end (I.ok.hd (hc rfl)) st p.isList (by simp;lia) λh' eb=>{rfl,I.turned (t':=s.toks) (λb o F e=>eb b o F e) Z S U W O}
 self:=λ_ _ _ _ _ st h=>wpAny_pyIter_listiter st h
theorem As{P:OE}{w:OW}{K:Ov}{tg:OZ}(a it:Addr):fY true P w K tg (Itt K a) [it] it (λi h=>h.IsTupleIter it a i) where
 mem:=by simp
 obj:=λi h st b F=>by
  have e:b=it:=by simpa using F
  subst e;obtain ⟨o,e,c,d⟩:=st;exact {o,e,λv z=>by rw [d] at z;cases z}
 keep:=λi h h' st k=>st.at λo e=>k it 'z' o e
 item:=by
  intro X hP hw hK hc i Go s σ H E I hf st hg;subst hP hw hK;obtain ⟨xs,x,G,hx⟩:=hg;obtain ⟨its,J,p,hz⟩:=I.tuple G;obtain ⟨u,hu,ru⟩:=J.get hx;obtain ⟨Z,S,f2,U,W,O⟩:=hf it 'z';refine wpAny_pyNext_tuple_item st (show s.heap.IsTuple a its.toArray from p) (x:=u) (by simpa using hu) λh' YD sb=>?_;have I1:Inv X Go σ H { s with heap:=h' }:=I.turned (t':=s.toks) (λb o F e=>(sb.2 b F).trans e) Z S U W O;obtain ⟨o,e,c,d⟩:=id YD;exact {u,rfl,jK (s:={ s with heap:=h' }) e c d 'd' {x,H,I1,ru,{rfl,λys hy=>by rw [I.a3 hy G];exact hx},YD,λb F=>(hf b F).1}}
 done:=by
  intro X hP hw hK hc i Go s σ H E I hf st hg;subst hP hw hK;obtain ⟨xs,G,hx⟩:=hg;obtain ⟨its,J,p,hz⟩:=I.tuple G;obtain ⟨Z,S,f2,U,W,O⟩:=hf it 'z';have hl:=J.length;exact wpAny_pyNext_tuple_end (I.ok.hd (hc rfl)) st (show s.heap.IsTuple a its.toArray from p) (by simp;lia) λh' eb=>{rfl,I.turned (t':=s.toks) (λb o F e=>eb b o F e) Z S U W O}
 self:=λ_ _ _ _ _ st h=>wpAny_pyIter_tupleiter st h
theorem Et{P:OE}{w:OW}{K:Ov}{tg:OZ}(it:Addr)(lo:Int)(n:Nat):fY true P w K tg (Itr lo n) [it] it (λi h=>IsRangeIter h it (lo+(i:Nat)*1) ((n:Int)-(i:Nat)) 1) where
 mem:=by simp
 obj:=λi h st b F=>by
  have e:b=it:=by simpa using F
  subst e;exact {_,st,λv z=>by
   have z':Data.fields _=Data.cell v:=z;cases z'}
 keep:=λi h h' st k=>k it 'z' _ st
 item:=by
  intro X O hw J S i Go s σ H E I hf st hg;subst O hw J;obtain ⟨Z,f1,f2,G,U,f5⟩:=hf it 'z';have W:=Walks.range (prog:=X.prog) (w:=X.w) (I.ok.hd (S rfl)) it lo 1 n;refine W.item i s _ _ hg st λv h' tk hv YD kk=>?_;obtain ⟨t,rfl⟩:=hv;have I1:Inv X Go σ H { s with heap:=h',toks:=tk }:=I.turned (λb o F e=>kk b o (by simpa using F) e) Z f1 G U f5;refine {_,rfl,jK (s:={ s with heap:=h',toks:=tk }) (n:="range_iterator") YD rfl rfl 'd' {.int (lo+i),H,I1,{t,?_},{rfl,rfl},YD,λb F=>(hf b F).1}};rw [Int.mul_one]
 done:=by
  intro X O hw J S i Go s σ H E I hf st hg;subst O hw J;obtain ⟨Z,f1,f2,G,U,f5⟩:=hf it 'z';exact wpAny_pyNext_range_end (I.ok.hd (S rfl)) st (by have:n<=i:=hg;lia) λh' eb=>{rfl,I.turned (t':=s.toks) (λb o F e=>eb b o F e) Z f1 G U f5}
 self:=λ_ _ _ _ _ st h=>wpAny_pyIter_rangeiter st h
section
variable {X:Cx}{tg:OZ}
def nS(K:Ov)(tl:TE):TI:=λσ H R=>tl σ H λx H1=>∃a,x = .ref a/\(∃xs,SqL K H1 a xs)/\R (Itl K a) H1
def jt(K:Ov)(tl:TE):TI:=λσ H R=>tl σ H λx H1=>∃a,x = .ref a/\(∃xs,SqT K H1 a xs)/\R (Itt K a) H1
theorem bM(hl:W (PE X l tl)):W (PI X tg l (nS X.K tl)):=by
 refine {?_};have hl:=hl.h;intro Go s σ H R I h;refine thn (hl Go s σ H _ I h) λv s1=>x5e λx H1 F r1 q1=>?_;obtain ⟨a,e,⟨xs,G⟩,q⟩:=q1;subst e;cases r1;obtain ⟨its,O,p,hz⟩:=F.list G;refine Rz p.isList ?_;refine {s1.heap.objs.size,[s1.heap.objs.size],_,_,H1,rfl,F.kept (t':=s1.toks) λb o e=>Ot _ e,uY a _,{_,ON _ rfl,rfl,rfl},λb J=>?_,q};have e:b=s1.heap.objs.size:=by simpa using J
 subst e;exact F.Va (OA _) (F.hok.fresh (OA _))
theorem AS(hl:PE X l tl):PI X tg l (jt X.K tl):=by
 intro Go s σ H R I h;refine thn (hl Go s σ H _ I h) λv s1=>x5e λx H1 F r1 q1=>?_;obtain ⟨a,e,⟨xs,G⟩,q⟩:=q1;subst e;cases r1;obtain ⟨its,O,p,hz⟩:=F.tuple G;refine wpAny_pyIter_tuple (show s1.heap.IsTuple a its.toArray from p) ?_;refine {s1.heap.objs.size,[s1.heap.objs.size],_,_,H1,rfl,F.kept (t':=s1.toks) λb o e=>Ot _ e,As a _,{_,ON _ rfl,rfl,rfl},λb J=>?_,q};have e:b=s1.heap.objs.size:=by simpa using J
 subst e;exact F.Va (OA _) (F.hok.fresh (OA _))
theorem DR{lo hi:Int}{t u v:Tok}(I:Inv X Go σ H s)(h1 : -(2 ^ 62)<=lo)(h2:lo<2 ^ 62)(h3 : -(2 ^ 62)<=hi)(h4:hi<2 ^ 62)(q:R (Itr lo (hi-lo).toNat) H):Oz (OI X.prog X.w) X.A (pyIter (.ref s.heap.objs.size)) (PIE true X Go σ tg R) E { s with heap:=s.heap.push { cls:=.type "range",data:=.fields #[.int lo t,.int hi u,.int 1 v] },toks:=tk }:=by
 refine wpAny_pyIter_range (IsRange.new ..) (small_one h1 h2 h3 h4) ?_;have F:Inv X Go σ H { s with heap:=s.heap.push { cls:=.type "range",data:=.fields #[.int lo t,.int hi u,.int 1 v] },toks:=tk }:=I.kept λb o e=>Ot _ e;refine {(s.heap.push { cls:=.type "range",data:=.fields #[.int lo t,.int hi u,.int 1 v] }).objs.size,[(s.heap.push { cls:=.type "range",data:=.fields #[.int lo t,.int hi u,.int 1 v] }).objs.size],_,_,H,rfl,
  F.kept (t':=tk) λb o e=>Ot _ e,Et _ lo (hi-lo).toNat,?_,λb G=>?_,q}
 .have O:lo+((0:Nat):Int)*1=lo:=by simp
  have J:(((hi-lo).toNat:Nat):Int)-((0:Nat):Int)=OO.Range.rangeSize lo hi 1:=by rw [rangeSize_one];split<;>lia
  show IsRangeIter _ _ (lo+((0:Nat):Int)*1) ((((hi-lo).toNat:Nat):Int)-((0:Nat):Int)) 1;rw [O,J];exact ON _ rfl
 .have e:b=(s.heap.push { cls:=.type "range",data:=.fields #[.int lo t,.int hi u,.int 1 v] }).objs.size:=by simpa using G
  subst e;exact F.Va (OA _) (F.hok.fresh (OA _))
def nj(ta:TA):TI:=λσ H R=>ta σ H λvs H1=>∃j:Int,vs=[.int j]/\-(2 ^ 62)<=j/\j<2 ^ 62/\R (Itr 0 j.toNat) H1
theorem KF{p pos:Pos}(U:Gl X "range")(S:X.mg "range"=none)(G:PA X [a] ta)(hs:O8 [a] X.env=[(false,Qc a X.env)]:=by rfl):PI X tg (.Call (.Name "range" p) [a] [] pos) (nj ta):=by
 intro Go s σ H R I h;refine Call_ (gM I U S boot_range (S0 (thn (G pos Go s σ H _ I h) λus s1=>x5e λvs H1 F r1 q1=>?_) hs rfl));obtain ⟨j,e,q1,O,q⟩:=q1;subst e;cases r1 with
 | cons r J =>
  cases J;obtain ⟨t,rfl⟩:=r;exact call_range_1 (DR F 'l' 'l' q1 O (by simpa using q))
def sN(wi:TI)(g:TG)(tb:TS):TS:=λD σ H=>wi σ H λJ H1=>∃W:Nat->Nat->St->Hp->Prop,(∃m,W 0 m σ H1)/\∀i m σ H,W i m σ H ->
 (J.stop i H/\D.nx σ H)\/(J.go i H/\∃N:St->Hp->Prop,(∀F H',N F H'->∃O,O<m/\W (i+1) O F H')/\∀x H',J.bg i H x H'->g x σ H' λG H2=>tb { D with nx:=N,ct:=N,bk:=D.nx } G H2)
def fe(fp:List Addr)(h:Heap):List (Addr×Obj):=fp.filterMap λb=>(h.get? b).map λo=>(b,o)
theorem dA{o:Obj}(F:b∈fp)(e:h.get? b=some o):(b,o)∈fe fp h:=RV.mpr {b,F,by rw [e];rfl}
theorem mR{p:Addr×Obj}(J:p∈fe fp h):p.1∈fp/\h.get? p.1=some p.2:=by
 obtain ⟨b,F,e⟩:=RV.mp J;cases q:h.get? b with
 | none=>rw [q] at e;cases e
 | some o =>
  rw [q] at e;have G:(b,o)=p:=Pa.inj e;subst G;exact ⟨F,q⟩
theorem Inv.pinned(I:Inv X Go σ H s)(hf:∀b∈fp,aE X Go H b)(J:∀b∈fp,∃o,s.heap.get? b=some o/\∀v,o.data≠.cell v):Inv X (Go++fe fp s.heap) σ H s :=
 I.zk λp O=>(OY.mp O).elim (λz=>I.pin p (Ox _ z)) λz=>by
  obtain ⟨F,e⟩:=mR z;obtain ⟨S,U,W,_⟩:=hf p.1 F;obtain ⟨o,G,d⟩:=J p.1 F;rw [e] at G;cases G;exact ⟨e,S,U,W,d⟩
theorem Inv.q0(I:Inv X (Go++pl) σ H s):Inv X Go σ H s:=I.zk λp F=>I.pin p (Ox _ (O4 _ F))
theorem cF(hp:Q6 (OI X.prog X.w) X.A X.env X.xe)(hc:c=true->X.calm=true)(hi:W (PIc c X tg iter wi))(hg:W (PG X tg g))(G:W (PSs X ZQ tb))(hs:∀x,Pd iter X.env x=pure x:=by intro _;rfl):W (PS X (.For tg iter ZQ [] pos) (sN wi g tb)):=by
 refine {?_};have hi:=hi.h;have hg:=hg.h;have G:=G.h;intro Go s σ H D I h;refine wpAny_For (thn (hi Go s σ H _ I h) λv s1 h1=>thn h1 λa4 s2 h2=>?_) hs;obtain ⟨it,fp,tn,J,H2,e,I2,T,aT,f2,W,⟨m0,w0⟩,Yr⟩:=h2;subst e;have S:∀{H':Hp},(∀b∈fp,H' b=none)->∀b∈fp,aE X Go H' b:=λhn b G=>{hn b G,(f2 b G).2};refine codeAny_forLoop_any (λn s'=>∃i Z H',Inv X Go Z H' s'/\tn i s'.heap/\(∀b∈fp,H' b=none)/\W i n Z H') ?_ m0 {0,σ,H2,I2,aT,λb G=>(f2 b G).1,w0};rintro n s3 ⟨i,U,H3,I3,ax,av,w3⟩;rcases Yr i n U H3 w3 with ⟨stop,qn⟩|⟨go,N,hN,step⟩
 .refine R0 hp (thn (T.done X rfl rfl rfl hc i Go s3 U H3 X.xe I3 (S av) ax stop) λr s4=>x2e λhr I4=>?_);subst hr;exact R1 ⟨U,H3,I4,qn⟩
 .refine R0 hp (thn (T.item X rfl rfl rfl hc i Go s3 U H3 X.xe I3 (S av) ax go) λr s4=>x3e λu hr h4=>?_);subst hr;refine R0 hp (thn h4 λ_ s5=>x5e λx H5 I5 r5 Yc=>?_);obtain ⟨y5,ai,aI⟩:=Yc;have a3:=I5.pinned (S aI) (T.obj _ _ ai);refine R0 hp (thn (hg _ s5 U H5 x u _ a3 r5 (step x H5 y5)) λ_ s6=>x4e λa0 H6 I6 q6=>?_);refine R0 hp (thn (G _ s6 a0 H6 _ I6 q6) λf s7 q7=>?_);have again:∀{F:St}{H7:Hp},Inv X (Go++fe fp s5.heap) F H7 s7->N F H7->∃m,m<n/\∃i Z H',Inv X Go Z H' s7/\tn i s7.heap/\(∀b∈fp,H' b=none)/\W i m Z H':=λ{F H7} O n7=>by
   obtain ⟨m',hm,w7⟩:=hN F H7 n7;refine {m',hm,i+1,F,H7,O.q0,T.keep _ _ _ ai λb G o e=>(O.pin (b,o) (Ox _ (Ox _ (dA G e)))).1,λb G=>?_,w7};obtain ⟨o,e,d⟩:=T.obj _ _ ai b G;exact (O.pin (b,o) (Ox _ (Ox _ (dA G e)))).2.1
  cases f with
  | next=>obtain ⟨F,H7,O,n7⟩:=q7;exact again O n7
  | cont=>obtain ⟨F,H7,O,n7⟩:=q7;exact again O n7
  | brk=>obtain ⟨F,H7,O,q7⟩:=q7;exact ⟨F,H7,O.q0,q7⟩
  | ret v=>obtain ⟨x7,F,H7,O,r7,q7⟩:=q7;exact ⟨x7,F,H7,O.q0,r7,q7⟩
end
theorem FH{K:Ov}{g:TG}{tb:TS}{D:bT}(F:Nat->St->Hp->Prop)(U:F 0 σ H)(hl:∀i σ H,i<=xs.length->F i σ H->SqL K H a xs)(hs:∀i x σ H,xs[i]?=some x->F i σ H->g x σ H λG H2=>tb { D with nx:=F (i+1),ct:=F (i+1),bk:=D.nx } G H2)(hd:∀σ H,F xs.length σ H->D.nx σ H):
  ∃W:Nat->Nat->St->Hp->Prop,(∃m,W 0 m σ H)/\∀i m σ H,W i m σ H ->
   ((Itl K a).stop i H/\D.nx σ H)\/((Itl K a).go i H/\∃N:St->Hp->Prop,(∀J H',N J H'->∃O,O<m/\W (i+1) O J H')/\∀x H',(Itl K a).bg i H x H'->g x σ H' λG H2=>tb { D with nx:=N,ct:=N,bk:=D.nx } G H2):=by
 refine {λi m σ H=>m=xs.length-i/\i<=xs.length/\F i σ H,{xs.length,'z',Pz _,U},?_};rintro i m σ H ⟨rfl,hi,p⟩;have q:=hl i σ H hi p;by_cases S:i<xs.length
 .refine .inr {{xs,xs[i],q,by simp [S]},F (i+1),λJ H' p'=>{xs.length-(i+1),'l',rfl,S,p'},λx H' y=>?_};obtain ⟨e,y⟩:=y;subst e;exact hs i x σ _ (y xs q) p
 .have e:i=xs.length:=by lia
  subst e;exact .inl {{xs,q,OA _},hd σ H p}
theorem IJ{lo:Int}{g:TG}{tb:TS}{D:bT}(G:Nat->St->Hp->Prop)(U:G 0 σ H)(hs:∀i σ H,i<n->G i σ H->g (.int (lo+i)) σ H λF H2=>tb { D with nx:=G (i+1),ct:=G (i+1),bk:=D.nx } F H2)(hd:∀σ H,G n σ H->D.nx σ H):
  ∃W:Nat->Nat->St->Hp->Prop,(∃m,W 0 m σ H)/\∀i m σ H,W i m σ H ->
   ((Itr lo n).stop i H/\D.nx σ H)\/((Itr lo n).go i H/\∃N:St->Hp->Prop,(∀J H',N J H'->∃S,S<m/\W (i+1) S J H')/\∀x H',(Itr lo n).bg i H x H'->g x σ H' λF H2=>tb { D with nx:=N,ct:=N,bk:=D.nx } F H2):=by
 refine {λi m σ H=>m=n-i/\i<=n/\G i σ H,{n,'z',Pz _,U},?_};rintro i m σ H ⟨rfl,hi,p⟩;by_cases O:i<n
 .refine .inr {O,G (i+1),λJ H' p'=>{n-(i+1),'l',rfl,O,p'},λx H' y=>?_};obtain ⟨e,y⟩:=y;subst e y;exact hs i σ _ O p
 .have e:i=n:=by lia
  subst e;exact .inl {OA _,hd σ H p}
abbrev R2:=V->V->Hp->VK->Prop
def OpR(X:Cx)(f:Value->Value->Sem Value)(r:R2):Prop :=
 ∀(Go:List (Addr×Obj))(s:Oq)(σ:St)(H:Hp)(x y:V)(v u:Value)(Q:VK),Inv X Go σ H s->zr x v->zr y u->r x y H Q ->
  Oz (OI X.prog X.w) X.A (f v u) (EP X Go σ Q) X.xe s
def UnR(X:Cx)(f:Value->Sem Value)(r:V->Hp->VK->Prop):Prop :=
 ∀(Go:List (Addr×Obj))(s:Oq)(σ:St)(H:Hp)(x:V)(v:Value)(Q:VK),Inv X Go σ H s->zr x v->r x H Q ->
  Oz (OI X.prog X.w) X.A (f v) (EP X Go σ Q) X.xe s
def zU(X:Cx)(f:Value)(r:List V->Hp->VK->Prop):Prop :=
 ∀(Go:List (Addr×Obj))(s:Oq)(σ:St)(H:Hp)(xs:List V)(us:List Value)(Q:VK),Inv X Go σ H s->zx xs us->r xs H Q ->
  Oz (OI X.prog X.w) X.A (call f us) (EP X Go σ Q) X.xe s
def FE(X:Cx)(r:V->Hp->(Bool->Hp->Prop)->Prop):Prop :=
 ∀(Go:List (Addr×Obj))(s:Oq)(σ:St)(H:Hp)(x:V)(v:Value)(Q:Bool->Hp->Prop),Inv X Go σ H s->zr x v->r x H Q ->
  Oz (OI X.prog X.w) X.A (truthy v) (TP X Go σ Q) X.xe s
def tOp(r:R2)(ta tb:TE):TE:=λσ H Q=>ta σ H λx H1=>tb σ H1 λy H2=>r x y H2 Q
def tUn(r:V->Hp->VK->Prop)(ta:TE):TE:=λσ H Q=>ta σ H λx H1=>r x H1 Q
def rI(C:Int->Int->Prop)(g:Int->Int->V):R2:=λx y H Q=>∃i j,x = .int i/\y = .int j/\C i j/\Q (g i j) H
def rI0(g:Int->Int->V):R2:=λx y H Q=>∃i j,x = .int i/\y = .int j/\Q (g i j) H
def rU(g:Int->V):V->Hp->VK->Prop:=λx H Q=>∃i,x = .int i/\Q (g i) H
section
variable {X:Cx}{a b c:OZ}{ta tb tc:TE}{pos:Pos}
theorem pN(J:PE X a ta)(S:PE X b tb){R:V->V->Hp->Prop}(I:Inv X Go σ H s)(h:ta σ H λx H1=>tb σ H1 λy H2=>R x y H2){f:Value->Value->Sem Value}(hf:∀v u s2 x y H2,Inv X Go σ H2 s2->zr x v->zr y u->R x y H2->Oz (OI X.prog X.w) X.A (f v u) Q X.xe s2):
  Oz (OI X.prog X.w) X.A (Qc a X.env) (λv s₁=>Oz (OI X.prog X.w) X.A (Qc b X.env) (λu F=>Oz (OI X.prog X.w) X.A (f v u) Q X.xe F) X.xe s₁) X.xe s:=by
 refine thn (J Go s σ H _ I h) λv s1=>x5e λx H1 G r1 q1=>?_;refine thn (S Go s1 σ H1 _ G q1) λu s2=>x5e λy H2 U r2 O=>?_;exact hf v u s2 x y H2 U r1 r2 O
theorem zI{r:R2}(J:OpR X (QH op) r)(F:W (PE X a ta))(G:W (PE X b tb)):W (PE X (.BinOp a op b pos) (tOp r ta tb)):=by
 refine {?_};have F:=F.h;have G:=G.h;intro Go s σ H Q I h;exact wpAny_BinOp (pN F G I h λv u s2 x y H2 S U O q=>J Go s2 σ H2 x y v u Q S U O q)
theorem AJ{r:V->Hp->VK->Prop}(G:UnR X (unaryOp op) r)(F:W (PE X a ta)):W (PE X (.UnaryOp op a pos) (tUn r ta)):=by
 refine {?_};have F:=F.h;intro Go s σ H Q I h;exact UnaryOp_ (thn (F Go s σ H _ I h) λv s1=>x5e λx H1 J r1 q1=>G Go s1 σ H1 x v Q J r1 q1)
theorem opI{g:Int->Int->Int}(rule:∀(i j:Int)(t u:Tok)(s:Oq)(Q:Value->Oq->Prop)(E:Value->Oq->Prop),C i j->Q (.int (g i j) s.toks) { s with toks:=s.toks+1 }->Oz (OI X.prog X.w) X.A (f (.int i t) (.int j u)) Q E s):
  OpR X f (rI C λi j=>.int (g i j)):=by
 intro Go s σ H x y v u Q I J G h;obtain ⟨i,j,rfl,rfl,F,q⟩:=h;obtain ⟨t,rfl⟩:=J;obtain ⟨t',rfl⟩:=G;exact rule i j t t' s _ _ F {.int (g i j),H,I.tok _,{_,rfl},q}
theorem vP{g:Int->Int->Int}(rule:∀(i j:Int)(t u:Tok)(s:Oq)(Q:Value->Oq->Prop)(E:Value->Oq->Prop),Q (.int (g i j) s.toks) { s with toks:=s.toks+1 }->Oz (OI X.prog X.w) X.A (f (.int i t) (.int j u)) Q E s):
  OpR X f (rI0 λi j=>.int (g i j)):=by
 intro Go s σ H x y v u Q I G F h;obtain ⟨i,j,rfl,rfl,q⟩:=h;obtain ⟨t,rfl⟩:=G;obtain ⟨t',rfl⟩:=F;exact rule i j t t' s _ _ {.int (g i j),H,I.tok _,{_,rfl},q}
theorem rG{g:Int->Int->Bool}(rule:∀(i j:Int)(t u:Tok)(s:Oq)(Q:Value->Oq->Prop)(E:Value->Oq->Prop),Q (.bool (g i j)) s->Oz (OI X.prog X.w) X.A (f (.int i t) (.int j u)) Q E s):
  OpR X f (rI0 λi j=>.bl (g i j)):=by
 intro Go s σ H x y v u Q I G F h;obtain ⟨i,j,rfl,rfl,q⟩:=h;obtain ⟨t,rfl⟩:=G;obtain ⟨t',rfl⟩:=F;exact rule i j t t' s _ _ {.bl (g i j),H,I,rfl,q}
def EC(i j:Int):Prop:=0<j/\j<1073741824
def GZ(i j:Int):Prop:=0<=j/\j<=1000000/\i.natAbs<2 ^ 64
def fH(i j:Int):Prop:=(-(2 ^ 64)<i/\i<2 ^ 64)\/(-(2 ^ 64)<j/\j<2 ^ 64)
theorem fH.ok(h:fH i j):IntMulOk i j:=by
 rcases h with ⟨h1,h2⟩|⟨h1,h2⟩
 .exact .of_left (intBits_le_64 h1 h2)
 .exact .of_right (intBits_le_64 h1 h2)
theorem BI:OpR X (QH .Add) (rI0 λi j=>.int (i+j)):=vP λ_ _ _ _ _ _ _ q=>add_int q
theorem iH:OpR X (QH .Sub) (rI0 λi j=>.int (i-j)):=vP λ_ _ _ _ _ _ _ q=>sub_int q
theorem Kp:OpR X (QH .Mult) (rI fH λi j=>.int (i*j)):=opI λ_ _ _ _ _ _ _ F q=>mul_int q F.ok
theorem vX:OpR X (QH .FloorDiv) (rI EC λi j=>.int (i / j)):=opI λi j _ _ _ _ _ F q=>by
 have h1:(0:Int)<j:=F.1;have h2:j<1073741824:=F.2;exact floordiv_int 'l' (by rw [Int.fdiv_eq_ediv_of_nonneg i 'l'];exact q) (.inl (PyProof.noPylong_small 'l'))
theorem iO:OpR X (QH .Mod) (rI (λ_ j=>0<j) λi j=>.int (i % j)):=opI λi j _ _ _ _ _ F q=>by
 have h1:(0:Int)<j:=F;exact mod_int' 'l' (by rw [Int.fmod_eq_emod_of_nonneg i 'l'];exact q)
theorem qQ:OpR X (QH .Pow) (rI GZ λi j=>.int (i ^ j.toNat)):=opI λ_ _ _ _ _ _ _ F q=>pow_int_small F.1 F.2.1 F.2.2 q
theorem unI{g:Int->Int}(rule:∀(i:Int)(t:Tok)(s:Oq)(Q:Value->Oq->Prop)(E:Value->Oq->Prop),Q (.int (g i) s.toks) { s with toks:=s.toks+1 }->Oz (OI X.prog X.w) X.A (f (.int i t)) Q E s):
  UnR X f (rU λi=>.int (g i)):=by
 intro Go s σ H x v Q I F h;obtain ⟨i,rfl,q⟩:=h;obtain ⟨t,rfl⟩:=F;exact rule i t s _ _ {.int (g i),H,I.tok _,{_,rfl},q}
theorem yN:UnR X (unaryOp .USub) (rU λi=>.int (-i)):=unI λ_ _ _ _ _ q=>neg_int q
def f9:V->V->Bool
 | .non,.non=>true | .non,.int _=>true | .int _,.non=>true | .non,.bl _=>true | .bl _,.non=>true | .non,.str _=>true | .str _,.non=>true
 | .int _,.int _=>true | .bl _,.bl _=>true | .str _,.str _=>true | .byt _,.byt _=>true
 | .int _,.str _=>true | .str _,.int _=>true | .bl _,.str _=>true | .str _,.bl _=>true
 | _,_=>false
def rEq:R2:=λx y H Q=>f9 x y=true/\Q (.bl (decide (x=y))) H
def rNe:R2:=λx y H Q=>f9 x y=true/\Q (.bl (!decide (x=y))) H
theorem yf:decide (V.int i=V.int j)=(i==j):=by
 rw [Q7];simp
theorem vp:decide (V.bl i=V.bl j)=(i==j):=by
 rw [Q7];simp
theorem v3:decide (V.str i=V.str j)=(i==j):=by
 rw [Q7];simp
theorem vK:decide (V.byt i=V.byt j)=(i.toList==j.toList):=by
 rw [Q7];cases i;cases j;simp
theorem ah{k k':Bool}(I:Inv X Go σ H s)(q:Q (.bl k) H)(e:k=k'):EP X Go σ Q (.bool k') s:=by
 subst e;exact {.bl k,H,I,rfl,q}
theorem B5:OpR X (Pq .Eq) rEq:=by
 intro Go s σ H x y v u Q I G F h;obtain ⟨hs,q⟩:=h;cases x with
 | non =>
  cases G;cases y with
  | non=>cases F;exact PySem.EqNone.eq_none_none (ah I q 'z')
  | bl j=>cases F;exact PySem.EqNone.eq_none_bool (ah I q 'z')
  | int j=>obtain ⟨t',rfl⟩:=F;exact PySem.EqNone.eq_none_int (ah I q 'z')
  | str j=>obtain ⟨t',rfl⟩:=F;exact PySem.EqNone.eq_none_str (ah I q 'z')
  | _=>exact absurd (show false=true from hs) OP
 | bl i =>
  cases G;cases y with
  | non=>cases F;exact PySem.EqNone.eq_bool_none (ah I q 'z')
  | bl j=>cases F;exact eq_bool (ah I q vp)
  | str j=>obtain ⟨t',rfl⟩:=F;exact PySem.EqMixed.eq_bool_str (ah I q 'z')
  | _=>exact absurd (show false=true from hs) OP
 | int i =>
  obtain ⟨t,rfl⟩:=G;cases y with
  | non=>cases F;exact PySem.EqNone.eq_int_none (ah I q 'z')
  | int j=>obtain ⟨t',rfl⟩:=F;exact eq_int (ah I q yf)
  | str j=>obtain ⟨t',rfl⟩:=F;exact PySem.EqMixed.eq_int_str (ah I q 'z')
  | _=>exact absurd (show false=true from hs) OP
 | str i =>
  obtain ⟨t,rfl⟩:=G;cases y with
  | non=>cases F;exact PySem.EqNone.eq_str_none (ah I q 'z')
  | bl j=>cases F;exact PySem.EqMixed.eq_str_bool (ah I q 'z')
  | int j=>obtain ⟨t',rfl⟩:=F;exact PySem.EqMixed.eq_str_int (ah I q 'z')
  | str j=>obtain ⟨t',rfl⟩:=F;exact eq_str (ah I q v3)
  | _=>exact absurd (show false=true from hs) OP
 | byt i =>
  obtain ⟨t,rfl⟩:=G;cases y with
  | byt j=>obtain ⟨t',rfl⟩:=F;exact PySem.W.eq_bytes (ah I q vK)
  | _=>exact absurd (show false=true from hs) OP
 | _=>cases y<;>exact absurd (show false=true from hs) OP
theorem LL:OpR X (Pq .NotEq) rNe:=by
 intro Go s σ H x y v u Q I G F h;obtain ⟨hs,q⟩:=h;cases x with
 | non =>
  cases G;cases y with
  | non=>cases F;exact PySem.EqNone.ne_none_none (ah I q 'z')
  | bl j=>cases F;exact PySem.EqNone.ne_none_bool (ah I q 'z')
  | int j=>obtain ⟨t',rfl⟩:=F;exact PySem.EqNone.ne_none_int (ah I q 'z')
  | str j=>obtain ⟨t',rfl⟩:=F;exact PySem.EqNone.ne_none_str (ah I q 'z')
  | _=>exact absurd (show false=true from hs) OP
 | bl i =>
  cases G;cases y with
  | non=>cases F;exact PySem.EqNone.ne_bool_none (ah I q 'z')
  | bl j=>cases F;exact ne_bool (ah I q (congrArg not vp))
  | str j=>obtain ⟨t',rfl⟩:=F;exact PySem.EqMixed.ne_bool_str (ah I q 'z')
  | _=>exact absurd (show false=true from hs) OP
 | int i =>
  obtain ⟨t,rfl⟩:=G;cases y with
  | non=>cases F;exact PySem.EqNone.ne_int_none (ah I q 'z')
  | int j=>obtain ⟨t',rfl⟩:=F;exact ne_int (ah I q (congrArg not yf))
  | str j=>obtain ⟨t',rfl⟩:=F;exact PySem.EqMixed.ne_int_str (ah I q 'z')
  | _=>exact absurd (show false=true from hs) OP
 | str i =>
  obtain ⟨t,rfl⟩:=G;cases y with
  | non=>cases F;exact PySem.EqNone.ne_str_none (ah I q 'z')
  | bl j=>cases F;exact PySem.EqMixed.ne_str_bool (ah I q 'z')
  | int j=>obtain ⟨t',rfl⟩:=F;exact PySem.EqMixed.ne_str_int (ah I q 'z')
  | str j=>obtain ⟨t',rfl⟩:=F;exact ne_str (ah I q (congrArg not v3))
  | _=>exact absurd (show false=true from hs) OP
 | byt i =>
  obtain ⟨t,rfl⟩:=G;cases y with
  | byt j=>obtain ⟨t',rfl⟩:=F;exact PySem.W.ne_bytes (ah I q (congrArg not vK))
  | _=>exact absurd (show false=true from hs) OP
 | _=>cases y<;>exact absurd (show false=true from hs) OP
theorem qJ:OpR X (Pq .Lt) (rI0 λi j=>.bl (decide (i<j))):=rG λ_ _ _ _ _ _ _ q=>lt_int q
theorem iS:OpR X (Pq .LtE) (rI0 λi j=>.bl (decide (i<=j))):=rG λ_ _ _ _ _ _ _ q=>le_int q
theorem Bf:OpR X (Pq .Gt) (rI0 λi j=>.bl (decide (j<i))):=rG λ_ _ _ _ _ _ _ q=>gt_int q
theorem JE:OpR X (Pq .In) (λx y H Q=>∃i j,x = .str i/\y = .str j/\Q (.bl (!(OO.Str.occurrences j i 0 j.length 1).isEmpty)) H):=by
 intro Go s σ H x y v u Q I G F h;obtain ⟨i,j,rfl,rfl,q⟩:=h;obtain ⟨t,rfl⟩:=G;obtain ⟨t',rfl⟩:=F;exact in_str (ah I q rfl)
theorem Ci:OpR X (Pq .Is) (λx y H Q=>y = .non/\Q (.bl (decide (x = .non))) H):=by
 intro Go s σ H x y v u Q I F G h;obtain ⟨rfl,q⟩:=h;cases G;refine is_none_gen (ah I q ?_);cases x<;>first
  | (cases F;rfl)
  | (obtain ⟨t,rfl⟩:=F;rfl)
theorem BH:OpR X (Pq .IsNot) (λx y H Q=>y = .non/\Q (.bl (!decide (x = .non))) H):=by
 intro Go s σ H x y v u Q I F G h;obtain ⟨rfl,q⟩:=h;cases G;refine isnot_none_gen (ah I q ?_);cases x<;>first
  | (cases F;rfl)
  | (obtain ⟨t,rfl⟩:=F;rfl)
theorem OpR.or{r r':R2}(h:OpR X f r)(h':OpR X f r'):OpR X f (λx y H Q=>r x y H Q\/r' x y H Q):=by
 intro Go s σ H x y v u Q I G F q;rcases q with q|q
 .exact h Go s σ H x y v u Q I G F q
 .exact h' Go s σ H x y v u Q I G F q
theorem aH(b:OZ)(h:op≠.In:=by decide)(h2:op≠.NotIn:=by decide):T1 op b=false:=by
 have G:(op==CmpOp.In)=false:=by cases op<;>first|rfl|exact absurd rfl h
 have F:(op==CmpOp.NotIn)=false:=by cases op<;>first|rfl|exact absurd rfl h2
 cases b<;>simp [T1,G,F]
theorem jh{r:R2}(J:OpR X (Pq op) r)(F:W (PE X a ta))(G:W (PE X b tb))(S:T1 op b=false):W (PE X (.Compare a [op] [b] pos) (tOp r ta tb)):=by
 refine {?_};have F:=F.h;have G:=G.h;intro Go s σ H Q I h;exact wpAny_Compare1 (pN F G I h λv u s2 x y H2 U Z O q=>J Go s2 σ H2 x y v u Q U Z O q) S
def oM(t:TE):TT:=λσ H Q=>t σ H λx H'=>∃k,x = .bl k/\Q k H'
theorem aF{r:R2}(S:OpR X (Pq op) r)(F:W (PE X a ta))(G:W (PE X b tb))(hm:T1 op b=false):W (PT X (.Compare a [op] [b] pos) (oM (tOp r ta tb))):=by
 refine {?_};have F:=F.h;have G:=G.h;intro Go s σ H Q I h;refine wpAny_isTrue_Compare1 (thn (F Go s σ H _ I h) λv s1=>x5e λx H1 J r1 q1=>thn (G Go s1 σ H1 _ J q1) λu s2=>x5e λy H2 I2 r2 U =>
  thn (S Go s2 σ H2 x y v u _ I2 r1 r2 U) λc s3=>x5e λz H3 O r3 XT=>?_) hm
 obtain ⟨k,e,Z⟩:=XT;subst e;cases r3;exact Qr ⟨H3,O,Z⟩
def yI(r r':R2)(ta tb tc:TE):TE:=λσ H Q=>ta σ H λx H1=>tb σ H1 λy H2=>r x y H2 λz H3=>∃k,z = .bl k /\
 (if k=true then tc σ H3 λw' H4=>r' y w' H4 Q else Q (.bl false) H3)
theorem yM{r r':R2}(ho:OpR X (Pq op) r)(Yw:OpR X (Pq F) r')(S:W (PE X a ta))(G:W (PE X b tb))(J:W (PE X c tc))(hm:lastMarks [op,F] [b,c]=false:=by with_unfolding_all rfl):W (PE X (.Compare a [op,F] [b,c] pos) (yI r r' ta tb tc)):=by
 refine {?_};have S:=S.h;have G:=G.h;have J:=J.h;intro Go s σ H Q I h;refine Compare_chain (thn (S Go s σ H _ I h) λv s1=>x5e λx H1 I1 r1 q1=>chain_link (thn (G Go s1 σ H1 _ I1 q1) λu s2=>x5e λy H2 I2 r2 q2 =>
  thn (ho Go s2 σ H2 x y v u _ I2 r1 r2 q2) λd s3=>x5e λz H3 Z r3 O=>?_)) hm
 obtain ⟨k,e,U⟩:=O;subst e;cases r3;refine Qr ?_;cases k with
 | false=>exact ite_ff {.bl false,H3,Z,rfl,U}
 | true=>exact ite_tt (chain_last (thn (J Go s3 σ H3 _ Z U) λw' s4=>x5e λz' H4 I4 r4 q4=>Yw Go s4 σ H4 y z' u w' Q I4 r2 r4 q4))
def fP(K:Ov)(x:V)(H:Hp)(k:Bool):Prop :=
 match x with
 | .non=>k=false
 | .bl b=>k=b
 | .int i=>k=(i != 0)
 | .str y=>y.length<=sizeLine/\k=((y.length:Int) != 0)
 | .byt y=>y.size<=sizeLine/\k=((y.size:Int) != 0)
 | .ref p=>(∃xs,SqL K H p xs/\k = !xs.isEmpty)\/(∃xs,SqT K H p xs/\k = !xs.isEmpty)\/∃kvs,H p=some (.dK kvs)/\k = !kvs.isEmpty
 | _=>False
theorem Hq{κ:Type}{kvs:List (κ×V)}{vs:List (κ×Value)}(r:KV kvs vs):(!vs.isEmpty) = !kvs.isEmpty:=by
 cases r<;>rfl
theorem vz(r:zx xs its):(!its.toArray.isEmpty) = !xs.isEmpty:=by
 cases r<;>simp
theorem gX:(sizeLine:Nat)<2 ^ 63:=by rw [Py];decide
theorem Of:FE X (λx H Q=>∃k,fP X.K x H k/\Q k H):=by
 intro Go s σ H x v Q I G h;obtain ⟨k,e,q⟩:=h;have hl:=gX;have hs:sizeLine=16777216:=Py;cases x with
 | non =>
  cases G;have F:k=false:=e;subst F;exact truthy_none ⟨H,I,q⟩
 | bl b =>
  cases G;have F:k=b:=e;subst F;exact Qr ⟨H,I,q⟩
 | int i =>
  obtain ⟨t,rfl⟩:=G;have F:k=(i != 0):=e;subst F;exact PySem.P.truthy_int ⟨H,I,q⟩
 | str y =>
  obtain ⟨t,rfl⟩:=G;obtain ⟨O,F⟩:y.length<=sizeLine/\k=((y.length:Int) != 0):=e;subst F;exact PySem.P.truthy_str 'l' {H,I.tok _,q}
 | byt y =>
  obtain ⟨t,rfl⟩:=G;obtain ⟨O,F⟩:y.size<=sizeLine/\k=((y.size:Int) != 0):=e;subst F;exact PySem.W.truthy_bytes 'l' {H,I.tok _,q}
 | ref p =>
  cases G;have F:(∃xs,SqL X.K H p xs/\k = !xs.isEmpty)\/(∃xs,SqT X.K H p xs/\k = !xs.isEmpty)\/∃kvs,H p=some (.dK kvs)/\k = !kvs.isEmpty:=e;rcases F with ⟨xs,hx,F⟩|⟨xs,hx,F⟩|⟨kvs,hx,F⟩
  .subst F;obtain ⟨its,r,pl,hz⟩:=I.list hx;have J:=r.length;exact wpAny_truthy_list pl.isList (by simp only [OQ];lia) {H,I.tok _,by rw [vz r];exact q}
  .subst F;obtain ⟨its,r,pl,hz⟩:=I.tuple hx;have J:=r.length;exact truthy_tuple pl (by simp only [OQ];lia) {H,I.tok _,by rw [vz r];exact q}
  .subst F;obtain ⟨hz,S,vs,r,m⟩:kvs.length<=sizeLine/\(p==sysModules)=false/\∃vs,KV kvs vs/\s.heap.DictOf (aX X.prog X.w) p vs:=I.hok p _ hx;have J:kvs.length=vs.length:=Paired.length r;exact wpAny_truthy_dict S m 'l' {H,I.tok _,by rw [Hq r];exact q}
 | _=>exact (show False from e).elim
theorem Oh(J:PE X a ta)(G:∀F,isTrue a X.env F=(do let v<-F;Re a.pos;Q1 [v] (truthy v))) :
  PT X a (λσ H Q=>ta σ H λx H'=>∃k,fP X.K x H' k/\Q k H'):=by
 intro Go s σ H Q I h;exact isTrue_plain (thn (J Go s σ H _ I h) λv s1=>x5e λx H1 O r1 q1=>Of Go s1 σ H1 x v Q O r1 q1) (G _)
theorem Br:OpR X (QH .Add) (λx y H Q=>∃i j,x = .str i/\y = .str j/\i.length+j.length<=sizeLine/\Q (.str (i++j)) H):=by
 intro Go s σ H x y v u Q I G F h;obtain ⟨i,j,rfl,rfl,hz,q⟩:=h;obtain ⟨t,rfl⟩:=G;obtain ⟨t',rfl⟩:=F;exact add_str (λt' tk=>{.str (i++j),H,I.tok _,{_,rfl},q}) hz
theorem cQ(r:zx [x] us):∃u,us=[u]/\zr x u:=by
 cases r with
 | cons r1 r2=>cases r2;exact {_,rfl,r1}
theorem mQ(r:zx [x,y] us):∃u w',us=[u,w']/\zr x u/\zr y w':=by
 cases r with
 | cons r1 r2 =>
  cases r2 with
  | cons G F=>cases F;exact {_,_,rfl,r1,G}
theorem BA(G:X.calm=true):zU X (.builtin "max") (λxs H Q=>∃i j,xs=[.int i,.int j]/\Q (.int (if j>i then j else i)) H):=by
 intro Go s σ H xs us Q I r h;obtain ⟨i,j,rfl,q⟩:=h;obtain ⟨u,w',rfl,⟨t,rfl⟩,⟨t',rfl⟩⟩:=mQ r;refine max_two_ints (I.ok.hd G) λh' tk k=>{_,H,I.kept k,?_,q};by_cases F:j>i
 .rw [if_pos F,if_pos F];exact {_,rfl}
 .rw [if_neg F,if_neg F];exact {_,rfl}
theorem K0(G:X.calm=true):zU X (.builtin "min") (λxs H Q=>∃i j,xs=[.int i,.int j]/\Q (.int (if j<i then j else i)) H):=by
 intro Go s σ H xs us Q I r h;obtain ⟨i,j,rfl,q⟩:=h;obtain ⟨u,w',rfl,⟨t,rfl⟩,⟨t',rfl⟩⟩:=mQ r;refine min_two_ints (I.ok.hd G) λh' tk k=>{_,H,I.kept k,?_,q};by_cases F:j<i
 .rw [if_pos F,if_pos F];exact {_,rfl}
 .rw [if_neg F,if_neg F];exact {_,rfl}
theorem Jy:zU X (.type "int") (λxs H Q=>(∃i,xs=[.int i]/\Q (.int i) H)\/∃k,xs=[.bl k]/\Q (.int (if k then 1 else 0)) H):=by
 intro Go s σ H xs us Q I r h;rcases h with ⟨i,rfl,q⟩|⟨k,rfl,q⟩
 .obtain ⟨u,rfl,t,rfl⟩:=cQ r;exact call_int_int {.int i,H,I,{_,rfl},q}
 .obtain ⟨u,rfl,r1⟩:=cQ r;cases r1;exact call_int_bool {.int (if k then 1 else 0),H,I.tok _,{_,rfl},q}
theorem Ey:zU X (.type "str") (λxs H Q=>∃i,xs=[.int i]/\i.natAbs.log2<1920/\Q (.str (toString i)) H):=by
 intro Go s σ H xs us Q I r h;obtain ⟨i,rfl,hz,q⟩:=h;obtain ⟨u,rfl,t,rfl⟩:=cQ r;exact PySem.P.str_of_int hz {.str _,H,I.tok _,{_,rfl},q}
theorem HW:zU X (.builtin "ord") (λxs H Q=>∃x,xs=[.str x]/\x.length=1/\Q (.int (x.cps.getD 0 0:Nat)) H):=by
 intro Go s σ H xs us Q I r h;obtain ⟨x,rfl,hz,q⟩:=h;obtain ⟨u,rfl,t,rfl⟩:=cQ r;exact ord_of_one hz {.int _,H,I.tok _,{_,rfl},q}
end
structure gA(h:Heap)(x dx C:Addr)(mA:Str->Option Value):Prop where
 obj:h.get? x=some (Ux C dx)
 ns:h.Ns1 dx mA
 ne:dx≠x
theorem GY{h:Heap}(n:h.Ns1 dx mA):∃F,h.get? dx=some F/\∀name,lookIn name F=some (mA name):=by
 obtain ⟨o,es,ep,G,hd,O,_,S⟩:=n;refine {o,G,λname=>?_};have e:=S name;unfold nsFind findBy at e;rw [<- Array.find?_toList] at e;unfold lookIn;rw [hd];dsimp only;split
 .rename_i y q;rw [q] at e;exact congrArg some e
 .rename_i q;rw [q] at e;have a:es.toList.any (·.refKey)=false:=by
   rw [List.any_eq_false];intro y J;obtain ⟨z,t,U⟩:=O y (Array.mem_toList_iff.mp J);simp [DictEntry.refKey,U]
  have W : ¬ es.toList.any (·.refKey)=true:=by rw [a];exact OP
  rw [if_neg W];exact congrArg some e
theorem gA.look(I:gA h x dx C mA):∃F,PySem.W.InstAt h x (Ux C dx) C (some F)/\∀name,lookIn name F=some (mA name) :=
 let ⟨F,ho,hl⟩:=GY I.ns
 {F,{I.obj,rfl,rfl,ho},hl}
section
variable {prog:OE}{w:OW}{A:OR}{E:Value->Oq->Prop}{s:Oq}{K:Ov}{x dx C f:Addr}{mA:Str->Option Value}{name:Str}{v:Value}
theorem N9(X:K.In s.heap)(I:gA s.heap x dx C mA)(U:Tg K C name=true)(S:S6 K C=true)(O:Qv K (.ref C) name=some none)(hv:mA name=some v)(G:handedIn v=true)(h:Q v { s with toks:=s.toks+1 }):
  Oz (OI prog w) A (getAttr (.ref x) name F) Q E s:=by
 obtain ⟨Z,J,hl⟩:=I.look;exact PySem.W.get_value X J (plainGet_of U).1 (PySem.W.findObj_own S O rfl (by rw [hl,hv])) G h
theorem Df(X:K.In s.heap)(I:gA s.heap x dx C mA)(F:Tg K C name=true)(hf:Qv K (.ref C) name=some (some (.ref f)))(G:isFn K (.ref f)=true)(hv:mA name=none)(h:Q (.ref f,[.ref x]) s):
  Oz (OI prog w) A (Sy (.ref x) name pl) Q E s:=by
 obtain ⟨O,J,hl⟩:=I.look;exact PySem.W.method_fn X J (plainGet_of F).1 (plainGet_of F).2 hf (beq_iff_eq.mp G) (by show (lookIn name O).map (·.isSome)=some false;rw [hl,hv];rfl) h
theorem Iz(X:K.In s.heap)(I:gA s.heap x dx C mA)(hs:Qv K (.ref C) "__setattr__"=some (some (.builtin "object.__setattr__")))(hp:Uc K C=true)(ht:takerIn K C name=some none)(hh:S6 K C=true)(hw:UG mA ns)(hsz:ns.length<=sizeLine)(h:∀h',gA h' x dx C (λy=>if y=name then some v else mA y)->Qw dx s.heap h'->Q () { s with heap:=h',toks:=s.toks+2 }):
  Oz (OI prog w) A (setAttr (.ref x) name v) Q E s:=by
 obtain ⟨od,J,hl⟩:=I.look;refine PySem.W.set_plain X J hs (PySem.W.osa_open (s:={ s with toks:=s.toks+1 }) (r:=none) X J hp ht λb=>?_);obtain ⟨cd,hc,O⟩:=PySem.W.any_some hh;have hx:s.heap.get? x=some {.ref C,some dx,.plain,#[]}:=I.obj;refine we (Os (we (we (wpAny_loadPart hx (we (PySem.W.Looks.here (s:={ s with toks:=s.toks+1 }) (PySem.W.looks_clsIn X hc) ?_))))));rw [O];refine Os (a:=some dx) (we (Os (we ?_)));refine wpAny_nsSet1 (s:={ s with toks:=s.toks+1 }) I.ns λh' G F=>?_;obtain ⟨oD,av,ai,Z,U,S⟩:=G.count (UG.cons name v hw);refine we (wpAny_lookBehind Z (by rw [U];exact pastItsLine_dict (Pj S (by rw [Pr];lia))) ?_);exact Os (h _ {(F.2 _ (Pt I.ne)).trans I.obj,G,I.ne} F)
theorem Nu(X:K.In s.heap)(F:UO K C=true)(hi:Qv K (.ref C) Wm=some (some (.ref f)))(hf:PySem.W.typeIn K (.ref f)=some (.type "function"))(h:QE (OI prog w) (A.under (.builtin "type.__call__" {.ref C::vs,kw})) (.call (.ref f) {.ref (s.heap.objs.size+1)::vs,kw}) (PySem.W.InitBack (s.heap.objs.size+1) R)
   { s with heap:=(s.heap.push emptyDict).push (Ux C s.heap.objs.size) }):
  QE (OI prog w) A (.call (.ref C) ⟨vs,kw⟩) R s:=by
 obtain ⟨G,g,d,t,os⟩:=s;exact PySem.W.make_core (PySem.W.makes_of X F) (PySem.W.looks_findIn X hi) (λself=>PySem.W.bind_fn X self hf) (.inl rfl) h
end
def zN(f:Str)(v:V):List (Str×V)->List (Str×V)
 | []=>[(f,v)]
 | (g,x)::r=>if g=f then (g,v)::r else (g,x)::zN f v r
theorem yB(f g:Str)(v:V):∀fs:List (Str×V),(zN f v fs).lookup g=if g=f then some v else fs.lookup g
 | []=>by
  show PF g [(f,v)]=_;by_cases h:g=f
  .have F:(g==f)=true:=beq_iff_eq.mpr h;simp only [PF,F,if_pos h]
  .have F:(g==f)=false:=beq_eq_false_iff_ne.mpr h;simp only [PF,F,if_neg h]
 | (k,x)::r=>by
  have J:=yB f g v r;rw [show zN f v ((k,x)::r)=(if k=f then (k,v)::r else (k,x)::zN f v r) from rfl];by_cases G:k=f
  .rw [if_pos G];by_cases h:g=k
   .have F:(g==k)=true:=beq_iff_eq.mpr h;simp only [PF,F,if_pos (h.trans G)]
   .have F:(g==k)=false:=beq_eq_false_iff_ne.mpr h;simp only [PF,F,if_neg (λe:g=f=>h (e.trans G.symm))]
  .rw [if_neg G];by_cases h:g=k
   .have F:(g==k)=true:=beq_iff_eq.mpr h;simp only [PF,F,if_neg (λe:g=f=>G (h.symm.trans e))]
   .have F:(g==k)=false:=beq_eq_false_iff_ne.mpr h;simp only [PF,F];exact J
theorem rJ(f:Str)(v:V):∀fs:List (Str×V),f∈(zN f v fs).map (·.1)/\∀g,g∈fs.map (·.1)->g∈(zN f v fs).map (·.1)
 | []=>{by simp [zN],λg h=>by simp at h}
 | (k,x)::r=>by
  obtain ⟨i1,i2⟩:=rJ f v r;rw [show zN f v ((k,x)::r)=(if k=f then (k,v)::r else (k,x)::zN f v r) from rfl];by_cases F:k=f
  .rw [if_pos F];subst F;exact {'z',λg h=>by simpa using h}
  .rw [if_neg F];refine {?_,λg h=>?_}
   .rw [PP];exact Oy _ i1
   .rw [PP] at h ⊢;rcases OK.mp h with e|e
    .exact OK.mpr (.inl e)
    .exact Oy _ (i2 g e)
theorem tN(f:Str)(v:V):∀fs:List (Str×V),(zN f v fs).length<=fs.length+1
 | []=>by simp [zN]
 | (k,x)::r=>by
  have G:=tN f v r;rw [show zN f v ((k,x)::r)=(if k=f then (k,v)::r else (k,x)::zN f v r) from rfl];by_cases F:k=f
  .rw [if_pos F,Pr,Pr];lia
  .rw [if_neg F,Pr,Pr];lia
theorem bU.some_of{o:Option Value}(r:bU (some v) o):∃u,o=some u/\zr v u:=by
 cases o with
 | none=>exact (show False from r).elim
 | some u=>exact {u,rfl,r}
theorem bU.none_of{o:Option Value}(r:bU none o):o=none:=by
 cases o with
 | none=>rfl
 | some u=>exact (show False from r).elim
theorem MT(r:zr v u):handedIn u=true:=by
 cases v with
 | non=>cases (show u=Pf from r);rfl
 | bl b=>cases (show u=R9 b from r);rfl
 | int i=>obtain ⟨t,e⟩:=(show ∃t,u=Q5 i t from r);cases e;rfl
 | str x=>obtain ⟨t,e⟩:=(show ∃t,u=S7 x t from r);cases e;rfl
 | byt b=>obtain ⟨t,e⟩:=(show ∃t,u=Value.bytes b t from r);cases e;rfl
 | flt b=>obtain ⟨t,e⟩:=(show ∃t,u=float b t from r);cases e;rfl
 | ref a=>cases (show u=OF a from r);rfl
 | ty n=>cases (show u=type n from r);rfl
section
variable {P:OE}{w:OW}{H H':Hp}{h h':Heap}{a C dx:Addr}{fs fs':List (Str×V)}
theorem mJ(hok:HOk P w H h)(e:H a=some (.ins C dx fs)):∃mA,gA h a dx C mA/\(∀f,bU (fs.lookup f) (mA f))/\UG mA (fs.map (·.1))/\fs.length<=1000/\H dx=some (.own a):=by
 obtain ⟨d,z,ne,ob,mA,n,r,q⟩:=(show aq P w H h a (.ins C dx fs) from hok a _ e);exact {mA,⟨ob,n,ne⟩,r,q,z,d}
end
structure Cls(K:Ov)(C:Addr):Prop where
 pg:Tg K C SB=true
 hd:S6 K C=true
 po:Uc K C=true
 sa:Qv K (.ref C) "__setattr__"=some (some (.builtin "object.__setattr__"))
theorem Cls.get{K:Ov}(c:Cls K C)(f:Str):Tg K C f=true:=c.pg
def bA(K:Ov)(C:Addr)(f:Str):Prop:=Qv K (.ref C) f=some none
theorem bA.ck{K:Ov}(n:bA K C f):takerIn K C f=some none:=by
 unfold takerIn;rw [show Qv K (.ref C) f=some none from n];rfl
structure iJ(K:Ov)(C:Addr)(m:Str)(f:Addr):Prop where
 at_:Qv K (.ref C) m=some (some (.ref f))
 fn:isFn K (.ref f)=true
 kp:Si K (.ref f)=true
section
variable {X:Cx}{Go:List (Addr×Obj)}{σ:St}{H:Hp}{s:Oq}{a C dx:Addr}{fs:List (Str×V)}{f:Str}{v:V}{A:OR}{E:Value->Oq->Prop}
theorem AV(I:Inv X Go σ H s)(e:H a=some (.ins C dx fs))(c:Cls X.K C)(n:bA X.K C f)(l:fs.lookup f=some v)(h:∀u s',Inv X Go σ H s'->zr v u->Q u s'):Oz (OI X.prog X.w) A (getAttr (.ref a) f b) Q E s:=by
 obtain ⟨mA,O,r,_,_,_⟩:=mJ I.hok e;obtain ⟨u,G,F⟩:=bU.some_of (v:=v) (o:=mA f) (by rw [<- l];exact r f);exact N9 I.UX O (c.get f) c.hd n G (MT F) (h u _ (I.tok _) F)
theorem rM(I:Inv X Go σ H s)(e:H a=some (.ins C dx fs))(c:Cls X.K C)(k:iJ X.K C m g)(l:fs.lookup m=none)(h:Q (.ref g,[.ref a]) s):Oz (OI X.prog X.w) A (Sy (.ref a) m pl) Q E s:=by
 obtain ⟨mA,O,r,_,_,_⟩:=mJ I.hok e;have F:mA m=none:=bU.none_of (by rw [<- l];exact r m);exact Df I.UX O (c.get m) k.at_ k.fn F h
theorem AL(I:Inv X Go σ H s)(e:H a=some (.ins C dx fs))(c:Cls X.K C)(n:bA X.K C f)(hl:fs.length<1000)(S:zr y u)(h:∀s',Inv X Go σ (upd H a (.ins C dx (zN f y fs))) s'->Q () s'):Oz (OI X.prog X.w) A (setAttr (.ref a) f u) Q E s:=by
 obtain ⟨mA,O,r,wi,_,G⟩:=mJ I.hok e;have hz:(fs.map (·.1)).length<=sizeLine:=by rw [Ow,Py];lia
 refine Iz I.UX O c.sa c.po n.ck c.hd wi hz λh' F W=>h _ ?_;have hd:∃o,h'.get? dx=some o:=let ⟨o,_,_,e',_⟩:=F.ns;⟨o,e'⟩;refine I.write (x:=a) (e:=dx) (by rw [e];exact True.intro) (.inr G) (λb q J z=>(W.2 b J).trans z) hd ?_;refine {by rw [zg O.ne];exact G,?_,O.ne,F.obj,_,F.ns,λg=>?_,λg U=>?_}
 .have:=tN f y fs;lia
 .show bU ((zN f y fs).lookup g) (if g=f then some u else mA g);rw [yB];by_cases q:g=f
  .rw [if_pos q,if_pos q];exact S
  .rw [if_neg q,if_neg q];exact r g
 .by_cases q:g=f
  .rw [q];exact (rJ f y fs).1
  .refine (rJ f y fs).2 g (wi g λz=>U ?_);show (if g=f then some u else mA g)=none;rw [if_neg q];exact z
theorem Inv.made(I:Inv X Go σ H s):Inv X Go σ (upd (upd H s.heap.objs.size (.own (s.heap.objs.size+1))) (s.heap.objs.size+1) (.ins C s.heap.objs.size []))
  { s with heap:=(s.heap.push emptyDict).push (Ux C s.heap.objs.size) }:=by
 have F:(s.heap.push emptyDict).get? s.heap.objs.size=some emptyDict:=ON s.heap rfl;have O:((s.heap.push emptyDict).push (Ux C s.heap.objs.size)).get? (s.heap.objs.size+1)=some (Ux C s.heap.objs.size):=by
  have:=ON (s.heap.push emptyDict) (o:=Ux C s.heap.objs.size) rfl;rwa [Rh] at this
 have S:(s.heap.push emptyDict).Ns s.heap.objs.size (λ_=>none):={emptyDict,#[],_,F,rfl,(λe G=>absurd G 'z'),λ_=>rfl};have J:=I.laid (a:=s.heap.objs.size) (o:=.own (s.heap.objs.size+1)) (h':=s.heap.push emptyDict) (t':=s.toks) (λb u q=>Ot _ q) (OA _) {_,F};refine J.laid (a:=s.heap.objs.size+1) (o:=.ins C s.heap.objs.size []) (t':=s.toks) (λb u q=>Ot _ q) (RR (Rh _ _)) ?_;have ne:s.heap.objs.size≠s.heap.objs.size+1:=Pl (RO _);refine {by rw [zg ne,zA],Pz _,ne,O,λ_=>none,(Heap.Ns1.of_empty S).at λo q=>Ot _ q,λ_=>True.intro,λy U=>absurd rfl U}
theorem Js{f:Str}{s:Oq}(F:QN e f env (Qc e env)=Qc e env)(h:Oz (OI prog w) A (Qc e env) (λo s₁=>Oz (OI prog w) A (getAttr o f true) Q E s₁) E s):Oz (OI prog w) A (Qc (.Attribute e f pos) env) Q E s :=
 Attribute_any_ h (by rw [arm_eval_Attribute,F])
end
def qm(X:Cx)(op:Operator)(F:V->V->Hp->VK->Prop):Prop :=
 ∀(Go:List (Addr×Obj))(s:Oq)(σ:St)(H:Hp)(x y:V)(u v:Value)(Q:VK),Inv X Go σ H s->zr x u->zr y v->F x y H Q->Oz (OI X.prog X.w) X.A (inplaceOp op u v) (EP X Go σ Q) X.xe s
section
variable {X:Cx}{o e Zy:OZ}{f:Str}{pos Zo tpos:Pos}{ta tv:TE}
def o9:V->V->Hp->VK->Prop:=λx y H Q=>∃i j,x = .int i/\y = .int j/\Q (.int (i+j)) H
def rk:V->V->Hp->VK->Prop:=λx y H Q=>∃i j,x = .int i/\y = .int j/\Q (.int (i-j)) H
theorem yp:qm X .Add o9:=by
 rintro Go s σ H x y u v Q I G F ⟨i,j,rfl,rfl,q⟩;obtain ⟨t,rfl⟩:=(show ∃t,u=Q5 i t from G);obtain ⟨t',rfl⟩:=(show ∃t',v=Q5 j t' from F);exact PyProof.Rows.iadd_int {.int (i+j),H,I.tok _,{_,rfl},q}
theorem Ga:qm X .Sub rk:=by
 rintro Go s σ H x y u v Q I G F ⟨i,j,rfl,rfl,q⟩;obtain ⟨t,rfl⟩:=(show ∃t,u=Q5 i t from G);obtain ⟨t',rfl⟩:=(show ∃t',v=Q5 j t' from F);exact PyProof.Rows.isub_int {.int (i-j),H,I.tok _,{_,rfl},q}
end
section
variable {X:Cx}{Go:List (Addr×Obj)}{σ:St}{H:Hp}{s:Oq}{A:OR}{E:Value->Oq->Prop}{Q:Value->Oq->Prop}{c:Value}{b:Bool}
inductive cT(K:Ov)(H:Hp):V->Value->Prop where
 | non:cT K H .non (.type "NoneType")
 | bl (x:Bool):cT K H (.bl x) (.type "bool")
 | int (i:Int):cT K H (.int i) (.type "int")
 | str (x:Str):cT K H (.str x) (.type "str")
 | flt (x:UInt64):cT K H (.flt x) (.type "float")
 | lst {a:Addr}{xs:List V} (e:H a=some (.lst xs)):cT K H (.ref a) (.type "list")
 | frz {a:Addr}{o:Obj}{xs:List V} (e:H a=some (.frz o (.lst xs))):cT K H (.ref a) (.type "list")
 | tup {a:Addr}{xs:List V} (e:H a=some (.tup xs)):cT K H (.ref a) (.type "tuple")
 | dK {a:Addr}{kvs:List (Key×V)} (e:H a=some (.dK kvs)):cT K H (.ref a) (.type "dict")
 | dT {a:Addr}{kvs:List (List Key×V)} (e:H a=some (.dT kvs)):cT K H (.ref a) (.type "dict")
 | ins {a C dx:Addr}{fs:List (Str×V)} (e:H a=some (.ins C dx fs)) (cl:Cls K C) (ha:Qv K (.ref C) "__class__"=some (some (.builtin "object.__class__")))
   (hn:PySem.W.specialIn K (.builtin "object.__class__") "__get__"=some (some (.builtin "getset_descriptor.__get__"))) (htk:PySem.W.takesIn K (.builtin "object.__class__")=some true)
   (hm:SF K C (.type "object")=some true):cT K H (.ref a) (.ref C)
theorem Ih{u t:Value}(I:Inv X Go σ H s)(F:zr x u)(ty:cT X.K H x t)(e:PySem.W.kitOne X.K t c=some b)(h:∀tk,Q (.bool b) { s with toks:=tk }):
  Oz (OI X.prog X.w) A (call (.builtin "isinstance") [u,c]) Q E s:=by
 cases ty with
 | non=>cases (show u=Pf from F);exact Qn PySem.W.kitx_none I.UX True.intro e (λz=>nomatch z) h
 | bl y=>cases (show u=R9 y from F);exact Qn PySem.W.kitx_bool I.UX True.intro e (λz=>nomatch z) h
 | int i=>obtain ⟨t,q⟩:=(show ∃t,u=Q5 i t from F);cases q;exact Qn PySem.W.kitx_int I.UX True.intro e (λz=>nomatch z) h
 | str y=>obtain ⟨t,q⟩:=(show ∃t,u=S7 y t from F);cases q;exact Qn PySem.W.kitx_str I.UX True.intro e (λz=>nomatch z) h
 | flt y=>obtain ⟨t,q⟩:=(show ∃t,u=float y t from F);cases q;exact Qn PySem.W.kitx_float I.UX True.intro e (λz=>nomatch z) h
 | @lst a xs ea =>
  cases (show u=OF a from F);obtain ⟨_,_,n,_,h1⟩:=(show aq X.prog X.w H s.heap a (.lst xs) from I.hok a _ ea);exact Qn PySem.W.kitx_list I.UX {_,h1,rfl} e (λz=>nomatch z) h
 | @frz a ob xs ea =>
  cases (show u=OF a from F);obtain ⟨_,_,_,n,_,h1⟩:=(show aq X.prog X.w H s.heap a (.frz ob (.lst xs)) from I.hok a _ ea);exact Qn PySem.W.kitx_list I.UX {_,h1,rfl} e (λz=>nomatch z) h
 | @tup a xs ea =>
  cases (show u=OF a from F);obtain ⟨_,_,_,p⟩:=(show aq X.prog X.w H s.heap a (.tup xs) from I.hok a _ ea);obtain ⟨o,h1,h2,_⟩:=p;exact Qn PySem.W.kitx_tuple I.UX ⟨o,h1,h2⟩ e (λz=>nomatch z) h
 | @dK a kvs ea =>
  cases (show u=OF a from F);obtain ⟨_,_,vs,_,p⟩:=(show aq X.prog X.w H s.heap a (.dK kvs) from I.hok a _ ea);obtain ⟨o,es,ep,h1,h2,_⟩:=p;exact Qn PySem.W.kitx_dict I.UX ⟨o,h1,h2.1⟩ e (λz=>nomatch z) h
 | @dT a kvs ea =>
  cases (show u=OF a from F);obtain ⟨_,_,xs,_,o,es,ep,h1,h2,_⟩:=(show aq X.prog X.w H s.heap a (.dT kvs) from I.hok a _ ea);exact Qn PySem.W.kitx_dict I.UX ⟨o,h1,h2.1⟩ e (λz=>nomatch z) h
 | @ins a C dx fs ea cl S Z G U =>
  cases (show u=OF a from F);obtain ⟨mA,O,_⟩:=mJ I.hok ea;obtain ⟨od,J,_⟩:=O.look;exact Qn (PySem.W.kitx_own (cl.get _) cl.hd S Z G U) I.UX J e (λz=>nomatch z) h
end
structure zG(c:Bool)(k:Nat)(A:OR):Prop where
 hd:c=true->A.handled=none
 dp:A.depth+3*k+5<recursionLimit
 un:A.units+16*k+200<cLine
 gd:A.guards=some []
theorem zG.mono{j k:Nat}(r:zG c k A)(h:j<=k):zG c j A:={r.hd,by have:=r.dp;lia,by have:=r.un;lia,r.gd}
theorem zG.deeper{k:Nat}(r:zG c (k+1) A)(env:Env):zG c k (A.deeper env) :=
 {r.hd,by have:=r.dp;show A.depth+1+3*k+5<_;lia,by have:=r.un;show A.units+3+16*k+200<_;lia,by first|exact r.gd|simpa [OR.deeper,OR.under,Code.isGuard] using r.gd}
theorem zG.in1{k:Nat}(r:zG c (k+1) A):zG c k A.in1 :=
 {r.hd,by have:=r.dp;show A.depth+3*k+5<_;lia,by have:=r.un;show A.units+1+16*k+200<_;lia,r.gd}
theorem EJ{A:OR}:(A.under (.builtin "type.__call__" {.ref C::us,kw})).depth=A.depth+1:=by
 first|rfl|simp [OR.under,Code.weight,Code.isCreation,Code.isGuard,Code.isCaller,Code.frames,Code.isFrame,guardIds]
theorem JL{A:OR}:(A.under (.builtin "type.__call__" {.ref C::us,kw})).units=A.units+1:=by
 first|rfl|simp [OR.under,Code.cUnits,Code.frames,Code.isFrame]
theorem zG.make{k:Nat}(r:zG c (k+1) A)(C:Addr)(us:List Value)(kw:List (Str×Value)):zG c k (A.under (.builtin "type.__call__" {.ref C::us,kw})) :=
 {r.hd,by have:=r.dp;rw [EJ];lia,by have:=r.un;rw [JL];lia,by first|exact r.gd|simpa [OR.under,Code.isGuard,guardIds] using r.gd}
theorem zG.depth{k:Nat}(r:zG c k A):A.depth<recursionLimit:=by have:=r.dp;lia
theorem zG.units{k:Nat}(r:zG c k A):A.units+64<cLine:=by have:=r.un;lia
def cw:TA:=λ_ H Q=>Q [] H
def jd(ta:TE)(F:TA):TA:=λσ H Q=>ta σ H λx H1=>F σ H1 λxs H2=>Q (x::xs) H2
section
variable {X:Cx}{e:OZ}{es:List OZ}{te:TE}{t:TA}{pos:Pos}
theorem gp:PA X [] cw:=λ_ _ _ _ H Q I h=>Calls.spliced_nil {[],H,I,.nil,h}
theorem gD(G:PE X e te)(O:PA X es t)(hs:O8 (e::es) X.env=(false,Qc e X.env)::O8 es X.env:=by rfl):PA X (e::es) (jd te t):=by
 intro pos Go s σ H Q I h;rw [hs];show Oz _ _ (spliced ((false,Qc e X.env)::QW pos (O8 es X.env))) _ _ s;refine Calls.spliced_cons (thn (G Go s σ H _ I h) λu s1=>x5e λx H1 F r1 q1=>?_);exact thn (O pos Go s1 σ H1 _ F q1) λus s2=>x5e λxs H2 S r2 J=>{x::xs,H2,S,.cons r1 r2,J}
def KH(t:TA):TE:=λσ H Q=>t σ H λxs H1=>xs.length<=sizeLine/\∀p,H1 p=none->Q (.ref p) (upd H1 p (.tup xs))
theorem Cq{x1}(h:PA X es t):PE X (.Tuple es x1 pos) (KH t):=by
 intro Go s σ H Q I G;refine wpAny_Tuple_spliced (thn (h pos Go s σ H _ I G) λus s1=>x5e λxs H1 F r=>x2e λz q=>{by rw [<- r.length];exact z,?_});have hf:H1 s1.heap.objs.size=none:=F.hok.fresh (OA _);refine {.ref s1.heap.objs.size,upd H1 s1.heap.objs.size (.tup xs),F.laid (t':=s1.toks) (λb u e=>Ot _ e) (OA _) ?_,rfl,q _ hf};exact {z,us,r,{_,ON _ rfl,rfl,_,rfl}}
end
abbrev Sp:=List V->Hp->VK->XK->Prop
abbrev CXT:=List Env->Hp->Oq->XK->Value->Oq->Prop
structure fM(P:OE)(w:OW)(K:Ov)(mg:Str->Option Value)(base:Heap)(A:OR)(outer:List Env)(s:Oq)(H:Hp):Prop where
 frames:A.frames=some outer
 hdk:fQ A H
 mod:Mod K mg base
 bs:∀b o,base.get? b=some o->s.heap.get? b=some o/\H b=none
 bf:base.objs.size<=s.heap.objs.size
 U0:s.heap.FunFrames base outer
 bE:∀b∈frs outer,H b=none
 hok:HOk P w H s.heap
 bare:RD s.gens
def CE(outer:List Env)(P:OE)(w:OW)(H:Hp)(s:Oq)(Q:VK)(u:Value)(s':Oq):Prop :=
 ∃v H',s'.os=s.os/\RD s'.gens/\Un (frs outer) [] H H' s.heap s'.heap/\HOk P w H' s'.heap/\zr v u/\Q v H'
def CR(CX:CXT)(outer:List Env)(P:OE)(w:OW)(H:Hp)(s:Oq)(Q:VK)(E:XK)(r:T2)(s':Oq):Prop :=
 match r with
 | .ok (.ret u)=>CE outer P w H s Q u s'
 | .ok _=>False
 | .error e=>CX outer H s E e s'
structure zq(P:OE)(w:OW)(K:Ov)(mg:Str->Option Value)(base:Heap)(CX:CXT)(c:Bool)(k:Nat)(f:Addr)(fd:OJ)(ps:List Str)(sp:Sp):Prop where
 len:∀vs H Q E,sp vs H Q E->vs.length=ps.length
 run:∀(A:OR)(outer:List Env)(s:Oq)(H:Hp)(args:Args)(us:List Value)(vs:List V)(Q:VK)(E:XK),zG c k A->fM P w K mg base A outer s H->BindsTo s fd args (ps.zip us)->zx vs us->sp vs H Q E ->
  QE (OI P w) A (.call (.ref f) args) (CR CX outer P w H s Q E) s
theorem fM.make{K:Ov}(e:fM P w K mg base A outer s H)(C:Addr)(us:List Value)(kw:List (Str×Value)):
  fM P w K mg base (A.under (.builtin "type.__call__" {.ref C::us,kw})) outer s H:={by first|exact e.frames|(simpa [OR.under,Code.envs,Code.isFrame,pushEnvs] using e.frames),e.hdk,e.mod,e.bs,e.bf,e.U0,e.bE,e.hok,e.bare}
section
variable {X:Cx}{Go:List (Addr×Obj)}{σ:St}{H:Hp}{s s':Oq}
theorem Inv.bM(I:Inv X Go σ H s):fM X.prog X.w X.K X.mg X.base X.A X.stack s H :=
 {I.ok.frames,I.hdk,I.ok.mod,I.bs,Pj I.ok.bf I.sz,I.stack,I.VD,I.hok,I.bare}
theorem Inv.after(I:Inv X Go σ H s)(h:CE X.stack X.prog X.w H s Q u s'):EP X Go σ Q u s':=by
 obtain ⟨v,H',os,bare,un,hok,r,q⟩:=h;obtain ⟨G,g,d,t,F⟩:=s';obtain rfl:F=s.os:=os;exact {v,H',I.call (h':=G) (g':=g) (d':=d) (t':=t) (ch:=[]) un hok bare (λb z=>absurd z 'z'),r,q}
end
def mF(sp:Sp)(Za:List V)(E:XK)(t:TA):TE:=λσ H Q=>t σ H λvs H1=>sp (vs++Za) H1 Q E
def fJ(C:Addr)(m:Str)(sp:Sp)(Za:List V)(E:XK)(ta:TE)(t:TA):TE:=λσ H Q=>ta σ H λx H1=>∃a dx fs,x = .ref a/\H1 a=some (.ins C dx fs)/\fs.lookup m=none /\
 t σ H1 λvs H2=>sp (x::(vs++Za)) H2 Q E
def yZ(C:Addr)(sp:Sp)(Za:List V)(E:XK)(t:TA):TE:=λσ H Q=>t σ H λvs H1=>∀x dx,H1 x=none->H1 dx=none->dx≠x ->
 sp (.ref x::(vs++Za)) (upd (upd H1 dx (.own x)) x (.ins C dx [])) (λv H2=>v = .non/\Q (.ref x) H2) E
def bQ(K:Ov)(fd:OJ)(ps:List Str)(ds:List Value):Prop :=
 ∀(s:Oq)(us:List Value),K.In s.heap->(us++ds).length=ps.length->BindsTo s fd {us,[]} (ps.zip (us++ds))
theorem bQ.all{K:Ov}(h:∀us:List Value,us.length=ps.length->To fd {us,[]}=pure (ps.zip us)):bQ K fd ps []:=λs us _ hl=>by
 rw [PY] at hl ⊢;exact .of_eq (h us hl)
def fZ(CX:CXT)(X:Cx)(E:XK):Prop:=∀(Go:List (Addr×Obj))(σ:St)(H:Hp)(s:Oq)(e:Value)(s':Oq),Inv X Go σ H s->CX X.stack H s E e s'->X.xe e s'
section
variable {X:Cx}{CX:CXT}{cm:Bool}{k:Nat}{f C:Addr}{fd:OJ}{ps:List Str}{sp:Sp}{Za:List V}{ds:List Value}{E:XK}{x m:Str}{p pos ZR:Pos}{e o:OZ}{es:List OZ}{ta:TE}{t:TA}
theorem pX(F:zq X.prog X.w X.K X.mg X.base CX cm k f fd ps sp)(O:zG cm k X.A)(J:bQ X.K fd ps ds)(hd:zx Za ds)(hx:fZ CX X E)(I:Inv X Go σ H s)(r:zx vs us)(h:sp (vs++Za) H Q E):Oz (OI X.prog X.w) X.A (call (.ref f) us) (EP X Go σ Q) X.xe s:=by
 have r2:zx (vs++Za) (us++ds):=r.append hd;have hl:(us++ds).length=ps.length:=by rw [<- r2.length];exact F.len _ _ _ _ h
 refine Ta (QM (F.run X.A X.stack s H {us,[]} (us++ds) (vs++Za) Q E O I.bM (J s us I.UX hl) r2 h) λr s' G=>?_);cases r with
 | error e=>exact hx Go σ H s e s' I G
 | ok fl =>
  cases fl with
  | ret u=>exact I.after G
  | next=>exact False.elim G
  | brk=>exact False.elim G
  | cont=>exact False.elim G
theorem IM(F:zq X.prog X.w X.K X.mg X.base CX cm k f fd ps sp)(S:zG cm k X.A)(hg:Gl X x)(hm:X.mg x=some (.ref f))(U:Si X.K (.ref f)=true)(W:bQ X.K fd ps ds)(hd:zx Za ds)(hx:fZ CX X E)
  (O:PA X (e::es) t) (Z:(x==("__debug__":Str))=false:=by decide) (J:O8 (e::es) X.env=(false,Qc e X.env)::O8 es X.env:=by rfl) (Yq:(QW pos (O8 es X.env)).any (·.1)=false:=by rfl) :
  PE X (.Call (.Name x p) (e::es) [] pos) (mF sp Za E t):=by
 intro Go s σ H Q I h;refine Qj (fi I hg hm ?_ Z);refine callWith_K (h₀:=X.base) I.ok.mod.bY U (thn (O pos Go s σ H _ I h) λus s1=>x5e λvs H1 G r q=>{G.UX,?_}) J Yq;exact pX F S W hd hx G r q
theorem Ku(W:PE X o ta)(c:Cls X.K C)(S:iJ X.K C m f)(F:zq X.prog X.w X.K X.mg X.base CX cm k f fd ps sp)(hr:zG cm k X.A)(hb:bQ X.K fd ps ds)(hd:zx Za ds)(hx:fZ CX X E)(Z:PA X (e::es) t)(hst:O8 (e::es) X.env=(false,Qc e X.env)::O8 es X.env:=by rfl)(Yq:(QW pos (O8 es X.env)).any (·.1)=false:=by rfl)(ht:Qc (.Call (.Attribute o m ZR) (e::es) [] pos) X.env=(do
   let O<-Qc o X.env
   Re ZR.atName
   let (f,first)<-Q1 [O] (Sy O m pl)
   RY pos f first (QW pos (O8 (e::es) X.env)) (Ue pos (Sd [] X.env))):=by rfl):
  PE X (.Call (.Attribute o m ZR) (e::es) [] pos) (fJ C m sp Za E ta t):=by
 intro Go s σ H Q I h;refine methodCall_KW (pl:=pl) (thn (W Go s σ H _ I h) λu s1=>x5e λx H1 J rx G=>?_) ht;obtain ⟨a,dx,fs,ex,ea,l,q⟩:=G;subst ex;obtain rfl:u=OF a:=rx;refine rM J ea c S l ?_;refine callWith_K (first:=[.ref a]) (h₀:=X.base) I.ok.mod.bY S.kp (thn (Z pos Go s1 σ H1 _ J q) λus s2=>x5e λvs H2 U r q2=>{U.UX,?_}) hst Yq;exact pX (us:=.ref a::us) (vs:=.ref a::vs) F hr hb hd hx U (.cons rfl r) q2
theorem G0(U:PE X o ta)(c:Cls X.K C)(S:iJ X.K C m f)(F:zq X.prog X.w X.K X.mg X.base CX cm k f fd ps sp)(Z:zG cm k X.A)(hb:bQ X.K fd ps ds)(hd:zx Za ds)(hx:fZ CX X E)(W:Qc (.Call (.Attribute o m ZR) [] [] pos) X.env=(do
   let O<-Qc o X.env
   Re ZR.atName
   let (f,first)<-Q1 [O] (Sy O m pl)
   RY pos f first (QW pos (O8 [] X.env)) (Ue pos (Sd [] X.env))):=by rfl):
  PE X (.Call (.Attribute o m ZR) [] [] pos) (fJ C m sp Za E ta cw):=by
 intro Go s σ H Q I h;refine methodCall_KW (pl:=pl) (thn (U Go s σ H _ I h) λu s1=>x5e λx H1 J rx G=>?_) W;obtain ⟨a,dx,fs,ex,ea,l,q⟩:=G;subst ex;obtain rfl:u=OF a:=rx;refine rM J ea c S l ?_;exact callWith_K0 (first:=[.ref a]) J.UX S.kp (pX (us:=[.ref a]) (vs:=[.ref a]) F Z hb hd hx J (.cons rfl .nil) q)
structure Mk(K:Ov)(C f:Addr):Prop where
 makes:UO K C=true
 init:Qv K (.ref C) Wm=some (some (.ref f))
 fn:isFn K (.ref f)=true
 kp:Si K (.ref C)=true
theorem tL(M:Mk X.K C f)(F:zq X.prog X.w X.K X.mg X.base CX cm k f fd ps sp)(W:zG cm (k+1) X.A)(Z:bQ X.K fd ps ds)(hd:zx Za ds)(hx:fZ CX X E)(I:Inv X Go σ H s)(r:zx vs us)(h:∀x dx,H x=none->H dx=none->dx≠x->sp (.ref x::(vs++Za)) (upd (upd H dx (.own x)) x (.ins C dx [])) (λv H2=>v = .non/\Q (.ref x) H2) E):
  Oz (OI X.prog X.w) X.A (call (.ref C) us) (EP X Go σ Q) X.xe s:=by
 have O:=h (s.heap.objs.size+1) s.heap.objs.size (I.hok.fresh (RA _)) (I.hok.fresh (OA _)) (Pl (RO _));have J:=Inv.made (C:=C) I;have r2:zx (V.ref (s.heap.objs.size+1)::(vs++Za)) (OF (s.heap.objs.size+1)::(us++ds)):=.cons rfl (r.append hd);have hl:(OF (s.heap.objs.size+1)::us++ds).length=ps.length:=by
  have e:=r2.length;rw [F.len _ _ _ _ O] at e;exact e.symm
 refine Ta (Nu (f:=f) I.UX M.makes M.init (beq_iff_eq.mp M.fn) (QM (F.run _ X.stack _ _ {OF (s.heap.objs.size+1)::us,[]} (OF (s.heap.objs.size+1)::(us++ds)) _ _ E (W.make C us [])
  (J.bM.make C us []) (Z _ (OF (s.heap.objs.size+1)::us) J.UX hl) r2 O) λr s' G=>?_))
 cases r with
 | error e=>exact hx Go σ _ _ e s' J G
 | ok fl =>
  cases fl with
  | ret u =>
   obtain ⟨v,H',S,rv,ev,U⟩:=J.after G;subst ev;exact {rv,{V.ref (s.heap.objs.size+1),H',S,rfl,U}}
  | next=>exact False.elim G
  | brk=>exact False.elim G
  | cont=>exact False.elim G
theorem HD(M:Mk X.K C f)(F:zq X.prog X.w X.K X.mg X.base CX cm k f fd ps sp)(S:zG cm (k+1) X.A)(hg:Gl X x)(Z:X.mg x=some (.ref C))(U:bQ X.K fd ps ds)(hd:zx Za ds)(hx:fZ CX X E)
  (O:PA X (e::es) t) (W:(x==("__debug__":Str))=false:=by decide) (J:O8 (e::es) X.env=(false,Qc e X.env)::O8 es X.env:=by rfl) (Yq:(QW pos (O8 es X.env)).any (·.1)=false:=by rfl) :
  PE X (.Call (.Name x p) (e::es) [] pos) (yZ C sp Za E t):=by
 intro Go s σ H Q I h;refine Qj (fi I hg Z ?_ W);refine callWith_K (h₀:=X.base) I.ok.mod.bY M.kp (thn (O pos Go s σ H _ I h) λus s1=>x5e λvs H1 G r q=>{G.UX,?_}) J Yq;exact tL M F S U hd hx G r q
theorem Dn(M:Mk X.K C f)(F:zq X.prog X.w X.K X.mg X.base CX cm k f fd ps sp)(G:zG cm (k+1) X.A)(U:Gl X x)(S:X.mg x=some (.ref C))(J:bQ X.K fd ps ds)(hd:zx Za ds)(hx:fZ CX X E)
  (O:(x==("__debug__":Str))=false:=by decide):PE X (.Call (.Name x p) [] [] pos) (yZ C sp Za E cw):=by
 intro Go s σ H Q I h;refine Qj (fi I U S ?_ O);exact callWith_K0 I.UX M.kp (tL (us:=[]) M F G J hd hx I .nil h)
end
structure zy(N P:List Str)(sc:Scope):Prop where
 kind:sc.kind = .function
 co:sc.isCoroutine=false
 gen:sc.isGenerator=false
 nd:N.Nodup
 pre:N.take P.length=P
 par:∀x∈P,sc.names.lookup x=some .local\/sc.names.lookup x=some .cell
 b1:∀y∈sc.names,y.2≠.free
theorem yo{kindOf:Str->Option PR}:∀{binds:List (Str×Value)}{m:Str->Option Value},(∀v,(x,v)∉binds)->bindL kindOf binds m x=m x
 | [],_,_=>rfl
 | (n,v)::r,m,h=>by
  unfold bindL;rw [yo λw hw=>h w (Oy _ hw)];split
  .have:x≠n:=by rintro rfl;exact h v OB
   simp [this]
  .rfl
theorem v5{kindOf:Str->Option PR}:∀{binds:List (Str×Value)}{m:Str->Option Value},(∀v,(x,v)∉binds)->bindC kindOf binds m x=m x
 | [],_,_=>rfl
 | (n,v)::r,m,h=>by
  unfold bindC;rw [v5 λw hw=>h w (Oy _ hw)];split
  .rfl
  .have:x≠n:=by rintro rfl;exact h v OB
   simp [this]
theorem yD{kindOf:Str->Option PR}:∀{P:List Str}{vs:List Value}{i:Nat}{m:Str->Option Value},P.Nodup->P[i]?=some x->vs[i]?=some v->kindOf x=some .local ->
  bindL kindOf (P.zip vs) m x=some v
 | [],_,_,_,_,h,_,_=>by simp at h
 | _::_,[],_,_,_,_,h,_=>by simp at h
 | p::P,w::vs,0,m,nd,h1,h2,F=>by
  simp at h1 h2;subst h1;subst h2;show bindL kindOf ((p,w)::P.zip vs) m p=_;unfold bindL;rw [yo λv hv=>(R5.mp nd).1 (of_mem_zip hv).1,if_pos F];simp
 | p::P,w::vs,i+1,m,nd,h1,h2,F=>by
  show bindL kindOf ((p,w)::P.zip vs) m x=_;unfold bindL;exact yD (i:=i) (R5.mp nd).2 (by simpa using h1) (by simpa using h2) F
theorem A9{kindOf:Str->Option PR}:∀{P:List Str}{vs:List Value}{i:Nat}{m:Str->Option Value},P.Nodup->P[i]?=some x->vs[i]?=some v->kindOf x≠some .local ->
  bindC kindOf (P.zip vs) m x=some v
 | [],_,_,_,_,h,_,_=>by simp at h
 | _::_,[],_,_,_,_,h,_=>by simp at h
 | p::P,w::vs,0,m,nd,h1,h2,F=>by
  simp at h1 h2;subst h1;subst h2;show bindC kindOf ((p,w)::P.zip vs) m p=_;unfold bindC;rw [v5 λv hv=>(R5.mp nd).1 (of_mem_zip hv).1,if_neg F];simp
 | p::P,w::vs,i+1,m,nd,h1,h2,F=>by
  show bindC kindOf ((p,w)::P.zip vs) m x=_;unfold bindC;exact A9 (i:=i) (R5.mp nd).2 (by simpa using h1) (by simpa using h2) F
def start(N:List Str)(vs:List V):St:=vs.map some++Qd (N.length-vs.length) none
def bH(CX:CXT)(cm:Bool)(P:OE)(w:OW)(K:Ov)(mg:Str->Option Value)(base:Heap)(N:List Str)(qual:Str)(scope:Scope)(f:Addr)(cd:Value)(A:OR)(outer:List Env)(s:Oq)(H:Hp)(E:XK):Cx where
 prog:=P
 w:=w
 K:=K
 mg:=mg
 base:=base
 A:=A.deeper (QV qual scope s.heap.objs.size f cd)
 N:=N
 s₀:=s
 H₀:=H
 env:=QV qual scope s.heap.objs.size f cd
 outer:=outer
 stack:=QV qual scope s.heap.objs.size f cd::outer
 ex:=[]
 calm:=cm
 fn:=λ_=>true
 pn:=[]
 xe:=λe s'=>Oz (OI P w) (A.deeper (QV qual scope s.heap.objs.size f cd)) (leaving (QV qual scope s.heap.objs.size f cd) e) (λ_ F=>CX outer H s E e F) (λG F=>CX outer H s E G F) s'
theorem Ao{sc:Scope}(h:sc.names.lookup x=some .cell):∃c,(QC n sc.names []).lookup x=some c:=by
 have q:=cellsFrom_some sc.names n [] (.inl h);exact TQ.mp q
theorem uh{K:Ov}(S:zy N ps scope)(hd:cm=true->A.handled=none)(F:fM P w K mg base A outer s H)(hl:vs.length=ps.length)(r:zx vs us)(x:InCallC s s.heap.objs.size (bindL (QV qual scope s.heap.objs.size f cd).kindOf (ps.zip us) λ_=>none) (QC (s.heap.objs.size+1) scope.names []) (bindC (QV qual scope s.heap.objs.size f cd).kindOf (ps.zip us) λ_=>none) s1):
  Inv (bH CX cm P w K mg base N qual scope f cd A outer s H E) [] (start N vs) H s1:=by
 have Yq:ps.length<=N.length:=by have:=congrArg Tj S.pre;rw [Qf] at this;lia
 obtain ⟨h1,tk,rfl,W⟩:=x.done;have J:∀b:Addr,b∉(bH CX cm P w K mg base N qual scope f cd A outer s H E).ex:=λb z=>absurd (show b∈([]:List Addr) from z) 'z';refine {{F.mod,S.kind,rfl,rfl,OA _,λy z c h1 h2=>?_,λy G=>?_,λy c _ h=>?_,hd,OR.frames_deeper F.frames,.inr {rfl,rfl},λb z=>absurd z (J b),F.bs,F.bf,λb _ _=>J b,λb z=>absurd z (J b),F.U0,F.bE},
  rfl,F.bare,Un.kept W,{_,x.toInCall.ns,λi y v h1 h2 h3=>?_},λy c h=>{_,x.cell y c h},F.hok.fresh (OA _),λy c h=>?_,λp O=>absurd (show p∈([]:List (Addr×Obj)) from O) 'z',F.hok.kept W,?_,F.hdk}
 .exact name_of_addr x.apart (Qg h1) (Qg h2)
 .have G:scope.names.lookup y=some .cell\/scope.names.lookup y=some .free:=G;rcases G with G|G
  .exact Ao G
  .exact absurd rfl (S.b1 _ (Qg G))
 .exact RW (x.above y c (Qg h))
 .have hi:i<vs.length:=by
   unfold start at h2;by_cases hi:i<vs.length
   .exact hi
   .rw [RM (by simpa using hi)] at h2;rw [List.getElem?_replicate] at h2;split at h2<;>cases h2
  have ha:vs[i]?=some v:=by
   unfold start at h2;rw [List.getElem?_append_left (by simpa using hi),OT] at h2;cases e:vs[i]? with
   | none=>rw [e] at h2;cases h2
   | some a=>rw [e] at h2;cases h2;rfl
  obtain ⟨u,Z,rv⟩:=r.get ha;have O:ps[i]?=some y:=by
   rw [<- S.pre,List.getElem?_take_of_lt 'l'];exact h1
  have U:ps.Nodup:=by rw [<- S.pre];exact S.nd.sublist (List.take_sublist _ _)
  refine {u,rv,?_};rcases S.par y (Pc O) with k|k
  .exact .inl {k,yD U O Z k}
  .obtain ⟨c,e⟩:=Ao (n:=s.heap.objs.size+1) k;refine .inr {.inl k,c,e,?_};have q:=x.cell y c e;rw [A9 U O Z (by show scope.names.lookup y≠_;rw [k];decide)] at q;exact q
 .exact F.hok.fresh (RW (x.above y c (Qg h)))
 .unfold start;show _=N.length;rw [Pb,Ow,List.length_replicate];lia
theorem kR{K:Ov}{k:Nat}{dV kV Yp pm G ct oc:Value}(lk:K.lookup f=some {oc,od,.func (fnOf name qual Z0 ZQ scope dV kV Yp pm an G ct),Xf})(hcd:codeIn K G qual=true)(S:zy N ps scope)(len:∀vs H Q E,sp vs H Q E->vs.length=ps.length)(Zh:∀(A:OR)(outer:List Env)(s:Oq)(H:Hp)(vs:List V)(Q:VK)(E:XK),zG cm k (A.deeper (QV qual scope s.heap.objs.size f G))->sp vs H Q E ->
   ∃t,PSs (bH CX cm P w K mg base N qual scope f G A outer s H E) ZQ t/\t { nx:=λ_ H'=>Q .non H',rt:=Q } (start N vs) H):
  zq P w K mg base CX cm (k+1) f (fnOf name qual Z0 ZQ scope dV kV Yp pm an G ct) ps sp:=by
 refine {len,λA outer s H args us vs Q E U O hb r Xo=>?_};have hl:=len _ _ _ _ Xo;have KX:K.In s.heap:=O.mod.bY.keeps λb o e=>(O.bs b o e).1;have ai:s.heap.NoLimit:=O.mod.nolimit.keeps λb o e=>(O.bs b o e).1;have Yx:∀y∈ps.zip us,scope.names.lookup y.1=some .local\/(scope.names.lookup y.1=some .cell/\((QC (s.heap.objs.size+1) scope.names []).lookup y.1).isSome=true):=λ⟨n,v⟩ hy=>by
  rcases S.par n (of_mem_zip hy).1 with q|q
  .exact .inl q
  .exact .inr {q,cellsFrom_some _ _ _ (.inl q)}
 refine codeAny_call_function U.depth (KX _ _ lk) rfl S.co S.gen rfl (PySem.W.codeRec_of KX hcd) (hb _ _ _ _ ?_);refine wpAny_newFunctionEnv_cells S.kind Yx λenv he s1 x=>?_;subst he;refine {ai.keeps x.toInCall.keep,codeAny_func ?_};obtain ⟨t,ht,hq⟩:=Zh A outer s H vs Q E (U.deeper _) Xo;have I:Inv (bH CX cm P w K mg base N qual scope f G A outer s H E) [] (start N vs) H s1:=uh S U.hd O hl r x;refine O3 (ht [] s1 (start N vs) H _ I hq) (λfl s' hs=>?_) λe s' hs=>hs;have Zi:∀{F:St}{H':Hp}{v:V}{u:Value},Inv (bH CX cm P w K mg base N qual scope f G A outer s H E) [] F H' s'->zr v u->Q v H'->CE outer P w H s Q u s' :=
  λ{F H' v u} J Z q=>⟨v,H',J.os,J.bare,J.base,J.hok,Z,q⟩
 cases fl with
 | ret u =>
  obtain ⟨v,F,H',J,Z,q⟩:=hs;exact Zi J Z q
 | next =>
  obtain ⟨F,H',J,q⟩:=hs;exact Zi (v:=V.non) (u:=Pf) J rfl q
 | brk =>
  obtain ⟨_,_,_,q⟩:=hs;exact False.elim q
 | cont =>
  obtain ⟨_,_,_,q⟩:=hs;exact False.elim q
section
variable {X:Cx}{x:Str}{p pos:Pos}{e:OZ}{es:List OZ}{t:TA}{id T:String}{r:List V->Hp->VK->Prop}
def tCB(r:List V->Hp->VK->Prop)(t:TA):TE:=λσ H Q=>t σ H λvs H1=>r vs H1 Q
theorem HJ(O:zU X (.builtin id) r)(Z:Gl X x)(U:X.mg x=none)(hv:Rt x=some (.builtin id))(J:PA X (e::es) t)(hn:x≠"__name__":=by decide)(S:(x==("__debug__":Str))=false:=by decide)
  (F:O8 (e::es) X.env=(false,Qc e X.env)::O8 es X.env:=by rfl) (W:(QW pos (O8 es X.env)).any (·.1)=false:=by rfl):PE X (.Call (.Name x p) (e::es) [] pos) (tCB r t):=by
 intro Go s σ H Q I h;refine Qj (gM I Z U hv ?_ hn S);exact PyProof.Rows.callWith_builtin1 (thn (J pos Go s σ H _ I h) λus s1=>x5e λvs H1 G r1 q1=>O Go s1 σ H1 vs us Q G r1 q1) F W
theorem ND(O:zU X (.type T) r)(Z:Gl X x)(U:X.mg x=none)(hv:Rt x=some (.type T))(J:PA X (e::es) t)(hn:x≠"__name__":=by decide)(S:(x==("__debug__":Str))=false:=by decide)
  (F:O8 (e::es) X.env=(false,Qc e X.env)::O8 es X.env:=by rfl) (W:(QW pos (O8 es X.env)).any (·.1)=false:=by rfl):PE X (.Call (.Name x p) (e::es) [] pos) (tCB r t):=by
 intro Go s σ H Q I h;refine Qj (gM I Z U hv ?_ hn S);exact S0 (thn (J pos Go s σ H _ I h) λus s1=>x5e λvs H1 G r1 q1=>O Go s1 σ H1 vs us Q G r1 q1) F W
end
end L2
namespace HT
open PySem PyProof.Rows
section
variable {prog:OE}{w:OW}{A:OR}{E:Value->Oq->Prop}{s:Oq}
theorem cat_tup{t b:Addr}(ht:Uq s.heap t vs.toArray)(hb:Uq s.heap b ws.toArray)(hv:vs≠[])(h1:ws=[]->Q (.ref t) s)(h2:ws≠[]->Q (.ref s.heap.objs.size) { s with heap:=s.heap.push { cls:=.type "tuple",data:=.seq (vs++ws).toArray } })(hsz:vs.length+ws.length<=sizeLine):Oz (OI prog w) A (QH .Add (.ref t) (.ref b)) Q E s:=by
 obtain ⟨⟨cls,dd,data,sl⟩,S,W,n,hd⟩:=id ht;obtain ⟨⟨U,G,data2,O⟩,F,Z,n2,J⟩:=id hb;simp only at W hd Z J;subst W hd Z J;have e:vs.toArray++ws.toArray=(vs++ws).toArray:=by simp
 by_cases hw:ws=[]
 .exact concat_meets {_,S,rfl} {_,F,rfl} noFill_tuple_add seq_tuple_add slot_tuple_add entry_tuple_add (args_tuple_add_2 _ _)
   (tuple_addW1 t b vs.toArray ws.toArray n n2 dd G sl O (by simpa using hv) (by simp [hw])) {S,F,h1 hw}
 .refine concat_meets {_,S,rfl} {_,F,rfl} noFill_tuple_add seq_tuple_add slot_tuple_add entry_tuple_add (args_tuple_add_2 _ _)
   (tuple_addW2 t b vs.toArray ws.toArray n n2 dd G sl O (by simpa using hv) (by simpa using hw) (by rw [OQ,OQ];exact hsz)) {S,F,?_}
  rw [e];exact h2 hw
def sIx(n d:Nat):Option Int->Nat
 | none=>d
 | some v=>if v<0 then (v+(n:Int)).toNat else min v.toNat n
theorem Ik(n d:Nat)(hd:d<=n)(o:Option Int):sIx n d o<=n:=by
 cases o with
 | none=>exact hd
 | some v =>
  show (if v<0 then (v+(n:Int)).toNat else min v.toNat n)<=n;by_cases hv:v<0
  .rw [if_pos hv];lia
  .rw [if_neg hv];exact Nat.min_le_right _ _
theorem wO(v:Int)(n d:Nat):(if v<0 then max (v+(n:Int)) 0 else min v (n:Int))=((sIx n d (some v):Nat):Int):=by
 show (if v<0 then max (v+(n:Int)) 0 else min v (n:Int))=(((if v<0 then (v+(n:Int)).toNat else min v.toNat n):Nat):Int);by_cases hv:v<0
 .simp only [if_pos hv];lia
 .simp only [if_neg hv];lia
theorem Dg(lo hi:Option Int)(n:Nat):OO.Slice.sliceAdjust lo hi 1 (n:Int)=(((sIx n 0 lo:Nat):Int),((sIx n n hi:Nat):Int)):=by
 have h1 : ¬ ((1:Int)<0):=by lia
 unfold OO.Slice.sliceAdjust;simp only [h1,if_false];refine Prod.ext ?_ ?_
 .cases lo with
  | none=>rfl
  | some v=>exact wO v n 0
 .cases hi with
  | none=>rfl
  | some v=>exact wO v n n
theorem Hn(i j:Nat):OO.Slice.slicePlaces (i:Int) (j:Int) 1=j-i:=by
 unfold OO.Slice.slicePlaces;have h1:(1:Int)>0:=by lia
 simp only [h1,if_true,Int.ediv_one];split<;>lia
theorem yF{o:Option Int}(p:Tv v o)(h:Q o s):Oz (OI prog w) A (OO.Slice.slicePartIndex v) Q E s:=by
 cases p with
 | none=>exact slicePart_none h
 | int i t=>exact slicePart_int h
theorem vf{sl:Addr}{O J:Value}{lo hi:Option Int}{n:Nat}{Q:Int×Int×Nat->Oq->Prop}(hs:s.heap.IsSliceOf sl O J .none)(pl:Tv O lo)(U:Tv J hi)
  (h:Q (((sIx n 0 lo:Nat):Int),1,sIx n n hi-sIx n 0 lo) s):Oz (OI prog w) A (OO.Slice.sliceApplied (.ref sl) (pure (n:Int))) Q E s:=by
 obtain ⟨os,G,S,F⟩:=id hs;unfold OO.Slice.sliceApplied OO.Slice.sliceFields;refine we (we (PL G F (x:=O) rfl (we (PL G F (x:=J) rfl (we (PL G F (x:=.none) rfl (Os ?_)))))));refine we (slicePart_none ?_);show Oz _ _ (if ((1:Int)==0)=true then _ else _) _ _ s;rw [if_neg 'd'];refine we (yF pl (we (yF U (we (Os ?_)))));show Oz _ _ (match OO.Slice.sliceAdjust lo hi 1 (n:Int) with|(lo,hi)=>pure (lo,(1:Int),OO.Slice.slicePlaces lo hi 1)) _ _ s;rw [Dg lo hi n];show Oz _ _ (pure (((sIx n 0 lo:Nat):Int),(1:Int),OO.Slice.slicePlaces ((sIx n 0 lo:Nat):Int) ((sIx n n hi:Nat):Int) 1)) _ _ s;rw [Hn];exact Os h
theorem En(xs:Array Value)(i k:Nat):((Pm k).filterMap λ(m:Nat)=>xs[((i:Int)+(m:Int)*1).toNat]?).toArray=((xs.toList.drop i).take k).toArray:=by
 have e:(λ(m:Nat)=>xs[((i:Int)+(m:Int)*1).toNat]?)=λm=>xs[i+m]?:=by
  funext m;have:((i:Int)+(m:Int)*1).toNat=i+m:=by lia
  rw [this]
 rw [e];have:=pick_run xs i k;rw [List.filterMap_map] at this;have F:((λx=>xs[x]?)∘λx=>i+x)=λm=>xs[i+m]?:=rfl;rw [F] at this;rw [this]
theorem getItem_tuple_cut{t sl:Addr}{W:Value}{lo hi:Option Int}(F:Uq s.heap t items)(hs:s.heap.IsSliceOf sl Z W .none)(pl:Tv Z lo)(pu:Tv W hi)(hw : ¬ (sIx items.size 0 lo=0/\sIx items.size items.size hi=items.size))(h:Q (.ref s.heap.objs.size) { s with heap:=s.heap.push { cls:=.type "tuple",data:=.seq ((items.toList.drop (sIx items.size 0 lo)).take (sIx items.size items.size hi-sIx items.size 0 lo)).toArray } })(hsz:items.size<=sizeLine):Oz (OI prog w) A (Uz (.ref t) (.ref sl)) Q E s:=by
 have G:sizeOk (.seq ((items.toList.drop (sIx items.size 0 lo)).take (sIx items.size items.size hi-sIx items.size 0 lo)).toArray):=by
  show ((items.toList.drop (sIx items.size 0 lo)).take (sIx items.size items.size hi-sIx items.size 0 lo)).toArray.size<=sizeLine;rw [OQ,Qf,SJ,Qa];lia
 have hj:sIx items.size items.size hi<=items.size:=Ik _ _ (OA _) hi;obtain ⟨os,S,O,ai⟩:=id hs;have J:s.TypeIs (.ref sl) "slice":=⟨os,S,O⟩;unfold Uz
 try with_reducible refine OV ?_
 first|refine we (Os ?_)|skip
 refine we (wpAny_sequenceKey F.typeIs 'd' ?_);refine we (Rf (name:=Ou "__getitem__") F.typeIs PQ
  (PU PQ F.typeIs entry_tuple_getitem ?_ (args_tuple_getitem _ _)))
 show Oz _ _ (OO.Tuple.tupleItemsOf (.ref t)>>=_) _ _ s;refine we (tupleItemsOf_ F ?_);refine we (Sf J ?_);rw [if_pos 'd'];refine we (vf hs pl pu ?_);have U : ¬ ((((sIx items.size 0 lo:Nat):Int)==0&&(1:Int)==1&&(sIx items.size items.size hi-sIx items.size 0 lo)==items.size)=true):=by
  intro q;rw [O5,O5] at q;have q1:((sIx items.size 0 lo:Nat):Int)=0:=eq_of_beq q.1.1;have q2:sIx items.size items.size hi-sIx items.size 0 lo=items.size:=eq_of_beq q.2;exact hw {'l','l'}
 show Oz _ _ (if (((sIx items.size 0 lo:Nat):Int)==0&&(1:Int)==1&&(sIx items.size items.size hi-sIx items.size 0 lo)==items.size)=true then _ else _) _ _ s;rw [if_neg U,En]
 first
  | exact we (m:=OO.Tuple.tupleExact _) (Pp (Os {_,rfl,Os h}) G)
  | exact we (m:=OO.Tuple.tupleExact _) (Pp (we (Os (Os {_,rfl,Os h}))) G)
  | exact we (we (m:=OO.Tuple.tupleExact _) (Pp (Os (Os {_,rfl,Os h})) G))
  | exact we (we (m:=OO.Tuple.tupleExact _) (Pp (Os {_,rfl,Os h}) G))
end
end HT
namespace L2
open PySem PySem.Spec PyProof.Rows
abbrev TO:=St->Hp->(Option Int->Hp->Prop)->Prop
def PO(X:Cx)(e:Option OZ)(t:TO):Prop :=
 ∀(Go:List (Addr×Obj))(s:Oq)(σ:St)(H:Hp)(Q:Option Int->Hp->Prop),Inv X Go σ H s->t σ H Q ->
  Oz (OI X.prog X.w) X.A (evalPart e X.env) (λu s'=>∃o H',Inv X Go σ H' s'/\Tv u o/\Q o H') X.xe s
def uH:TO:=λ_ H Q=>Q none H
def uo(t:TE):TO:=λσ H Q=>t σ H λx H1=>∃i,x = .int i/\Q (some i) H1
section
variable {X:Cx}{e:OZ}{te:TE}{lo hi:Option OZ}{tl th:TO}{pos p2:Pos}
theorem fR:W (PO X none uH):=by
 refine {?_};intro Go s σ H Q I h;rw [evalPart_none];exact Os {none,H,I,.none,h}
theorem fA(h:W (PE X e te)):W (PO X (some e) (uo te)):=by
 refine {?_};have h:=h.h;intro Go s σ H Q I hw;rw [evalPart_some];refine thn (h Go s σ H _ I hw) λu s1=>x5e λx H1 F r1 q1=>?_;obtain ⟨i,rfl,q⟩:=q1;obtain ⟨t,rfl⟩:=r1;exact {some i,H1,F,.int i t,q}
def SlR(X:Cx)(r:V->Option Int->Option Int->Hp->VK->Prop):Prop :=
 ∀(Go:List (Addr×Obj))(s:Oq)(σ:St)(H:Hp)(x:V)(v G F:Value)(lo hi:Option Int)(sl:Addr)(Q:VK),Inv X Go σ H s->zr x v->s.heap.IsSliceOf sl G F .none->Tv G lo->Tv F hi->r x lo hi H Q ->
  ∃T id,typeLookup (.type T) "__getitem__"=pure (some (.builtin id))/\s.TypeIs v T/\Oz (OI X.prog X.w) X.A (Uz v (.ref sl)) (EP X Go σ Q) X.xe s
theorem SlR.or{r r':V->Option Int->Option Int->Hp->VK->Prop}(h:SlR X r)(h':SlR X r'):SlR X (λx lo hi H Q=>r x lo hi H Q\/r' x lo hi H Q):=by
 intro Go s σ H x v O J lo hi sl Q I F hs pl G q;rcases q with q|q
 .exact h Go s σ H x v O J lo hi sl Q I F hs pl G q
 .exact h' Go s σ H x v O J lo hi sl Q I F hs pl G q
def tSl(r:V->Option Int->Option Int->Hp->VK->Prop)(te:TE)(tl th:TO):TE:=λσ H Q=>te σ H λx H1=>tl σ H1 λl H2=>th σ H2 λu H3=>r x l u H3 Q
theorem fW{r:V->Option Int->Option Int->Hp->VK->Prop}(hr:SlR X r)(O:W (PE X e te))(hl:W (PO X lo tl))(S:W (PO X hi th)):W (PE X (.Subscript e (.Slice lo hi none p2) pos) (tSl r te tl th)):=by
 refine {?_};have O:=O.h;have hl:=hl.h;have S:=S.h;intro Go s σ H Q I h;refine Subscript_ (thn (O Go s σ H _ I h) λv s1=>x5e λx H1 U r1 q1=>?_);refine wpAny_Slice (thn (hl Go s1 σ H1 _ U q1) λJ s2=>x5e λl H2 I2 pl q2=>thn (S Go s2 σ H2 _ I2 q2) λG F=>x5e λu H3 Z pu q3=>?_);rw [evalPart_none];refine Os ?_;have I4:Inv X Go σ H3 { F with heap:=F.heap.push { cls:=.type "slice",data:=.fields #[J,G,.none] } }:=Z.kept (t':=F.toks) λb ob q=>Ot _ q;obtain ⟨T,id,hT,ht,hg⟩:=hr Go { F with heap:=F.heap.push { cls:=.type "slice",data:=.fields #[J,G,.none] } } σ H3 x v J G l u F.heap.objs.size Q I4 r1 (Heap.IsSliceOf.new ..) pl pu q3;show Oz (OI X.prog X.w) X.A (subscriptTail e (.Slice lo hi none p2) v (.ref F.heap.objs.size)) (EP X Go σ Q) X.xe { F with heap:=F.heap.push { cls:=.type "slice",data:=.fields #[J,G,.none] } };exact tail_any (ops:=[.ref F.heap.objs.size,v]) ht hT hg (by with_unfolding_all rfl)
def cf(xs:List V)(lo hi:Option Int):List V:=(xs.drop (HT.sIx xs.length 0 lo)).take (HT.sIx xs.length xs.length hi-HT.sIx xs.length 0 lo)
theorem wB(xs:List V)(lo hi:Option Int):(cf xs lo hi).length<=xs.length:=by
 unfold cf;rw [Qf,SJ];lia
def Dc(K:Ov):V->Option Int->Option Int->Hp->VK->Prop:=λx lo hi H Q=>∃a xs,x = .ref a/\SqT K H a xs /\
 ¬ (HT.sIx xs.length 0 lo=0/\HT.sIx xs.length xs.length hi=xs.length)/\∀p,H p=none->Q (.ref p) (upd H p (.tup (cf xs lo hi)))
theorem JI:SlR X (Dc X.K):=by
 intro Go s σ H x v S U lo hi sl Q I O hs pl J h;obtain ⟨a,xs,rfl,hx,hw,q⟩:=h;cases O;obtain ⟨its,r,G,hz⟩:=I.tuple hx;have F:its.toArray.size=xs.length:=by rw [OQ];exact r.length.symm
 refine {"tuple",_,PQ.lookup,G.typeIs,?_};refine HT.getItem_tuple_cut G hs pl J (by rw [F];exact hw) ?_ (by rw [F];exact hz);rw [F];refine {.ref s.heap.objs.size,_,I.laid (t':=s.toks) (o:=.tup (cf xs lo hi)) (λb ob q=>Ot _ q) (OA _) ?_,rfl,q _ (I.hok.fresh (OA _))};exact {Pj (wB xs lo hi) hz,_,(r.drop (HT.sIx xs.length 0 lo)).take (HT.sIx xs.length xs.length hi-HT.sIx xs.length 0 lo),Uq.new _ _}
def Hg(K:Ov):R2:=λx y H Q=>∃a b xs ys,x = .ref a/\y = .ref b/\SqT K H a xs/\SqT K H b ys/\xs≠[]/\xs.length+ys.length<=sizeLine /\
 (ys=[]->Q (.ref a) H)/\(ys≠[]->∀p,H p=none->Q (.ref p) (upd H p (.tup (xs++ys))))
theorem zx.U7(r:zx xs us):us=[]↔xs=[]:=by
 cases r with
 | nil=>simp
 | cons _ _=>simp
theorem L5:OpR X (QH .Add) (Hg X.K):=by
 intro Go s σ H x y v u Q I F S h;obtain ⟨a,b,xs,ys,rfl,rfl,G,O,hx,hz,q1,J⟩:=h;cases F;cases S;obtain ⟨its,r1,U,_⟩:=I.tuple G;obtain ⟨W,r2,p2,_⟩:=I.tuple O;refine HT.cat_tup U p2 (λz=>hx (r1.U7.mp z)) (λz=>{.ref a,H,I,rfl,q1 (r2.U7.mp z)}) (λz=>?_) (by rw [<- r1.length,<- r2.length];exact hz);refine {.ref s.heap.objs.size,_,I.laid (t':=s.toks) (o:=.tup (xs++ys)) (λb ob q=>Ot _ q) (OA _) ?_,rfl,J (λw=>z (r2.U7.mpr w)) _ (I.hok.fresh (OA _))};exact {by rw [Pb];exact hz,_,r1.append r2,Uq.new _ _}
end
def ixN(n:Nat)(i:Int):Option Nat:=if 0<=i then (if i<n then some i.toNat else none) else if -(n:Int)<=i then some (i+n).toNat else none
def atI{α:Type}(xs:List α)(i:Int):Option α:=(ixN xs.length i).bind λj=>xs[j]?
theorem wg(h:ixN n i=some j):seqIndex? i n=some j/\j<n/\-(n:Int)<=i/\i<n:=by
 unfold ixN at h;by_cases F:0<=i
 .rw [if_pos F] at h;by_cases h1:i<n
  .rw [if_pos h1] at h;have e:i.toNat=j:=Pa.inj h;exact {by rw [seqIndex_of F h1,e],'l','l',h1}
  .rw [if_neg h1] at h;cases h
 .rw [if_neg F] at h;by_cases h1 : -(n:Int)<=i
  .rw [if_pos h1] at h;have e:(i+n).toNat=j:=Pa.inj h;exact {by rw [seqIndex_neg 'l' h1,e],'l',h1,'l'}
  .rw [if_neg h1] at h;cases h
theorem qL{α:Type}{xs:List α}{v:α}(h:atI xs i=some v):∃j,seqIndex? i xs.length=some j/\xs[j]?=some v/\j<xs.length/\-(xs.length:Int)<=i/\i<xs.length:=by
 unfold atI at h;cases e:ixN xs.length i with
 | none=>rw [e] at h;cases h
 | some j =>
  rw [e] at h;obtain ⟨h1,h2,h3,h4⟩:=wg e;exact ⟨j,h1,h,h2,h3,h4⟩
theorem gq{α:Type}{xs:List α}{j:Nat}{v:α}(h:xs[j]?=some v):atI xs (j:Int)=some v:=by
 have F:j<xs.length:=(OG.mp h).1;have e:ixN xs.length (j:Int)=some j:=by
  unfold ixN;rw [if_pos 'l',if_pos 'l'];simp
 unfold atI;rw [e];exact h
theorem GT{α:Type}(xs:List α)(v:α):atI (xs++[v]) (-1)=some v:=by
 have hl:(xs++[v]).length=xs.length+1:=by simp
 have e:ixN (xs++[v]).length (-1)=some xs.length:=by
  unfold ixN;rw [hl,if_neg 'd',if_pos 'l'];congr 1;lia
 unfold atI;rw [e];show (xs++[v])[xs.length]?=some v;simp
def K9(b:OZ):Prop:=∀o i,subscripted b false o i=operate [o,i] (Uz o i)
def IxR(X:Cx)(r:R2):Prop :=
 ∀(Zy F:OZ)(Go:List (Addr×Obj))(s:Oq)(σ:St)(H:Hp)(x y:V)(v u:Value)(Q:VK),Inv X Go σ H s->zr x v->zr y u->r x y H Q ->
  subscripted F false v u=operate [v,u] (Uz v u)->Oz (OI X.prog X.w) X.A (subscriptTail Zy F v u) (EP X Go σ Q) X.xe s
def MtR(X:Cx)(id:String)(r:V->List V->Hp->VK->Prop):Prop :=
 ∀(Go:List (Addr×Obj))(s:Oq)(σ:St)(H:Hp)(x:V)(xs:List V)(v:Value)(us:List Value)(Q:VK),Inv X Go σ H s->zr x v->zx xs us->r x xs H Q ->
  Oz (OI X.prog X.w) X.A (call (.builtin id) (v::us)) (EP X Go σ Q) X.xe s
section
variable {X:Cx}{a b:OZ}{ta tb:TE}{pos:Pos}
theorem IxR.or{r r':R2}(h:IxR X r)(h':IxR X r'):IxR X (λx y H Q=>r x y H Q\/r' x y H Q):=by
 intro Zy G Go s σ H x y v u Q I J F q hs;rcases q with q|q
 .exact h Zy G Go s σ H x y v u Q I J F q hs
 .exact h' Zy G Go s σ H x y v u Q I J F q hs
theorem aR{r:R2}(J:IxR X r)(F:W (PE X a ta))(G:W (PE X b tb))(hs:K9 b):W (PE X (.Subscript a b pos) (tOp r ta tb)):=by
 refine {?_};have F:=F.h;have G:=G.h;intro Go s σ H Q I h;exact Subscript_ (pN F G I h λv u s2 x y H2 S U O q=>J a b Go s2 σ H2 x y v u Q S U O q (hs _ _))
def tW(K:Ov):R2:=λx y H Q=>∃p xs i v,x = .ref p/\y = .int i/\SqL K H p xs/\atI xs i=some v/\Q v H
def yd(K:Ov):R2:=λx y H Q=>∃p xs i v,x = .ref p/\y = .int i/\SqT K H p xs/\atI xs i=some v/\Q v H
def A4:R2:=λx y H Q=>∃z i c,x = .str z/\y = .int i/\z.length<=sizeLine/\atI z.cps.toList i=some c/\Q (.str {#[c]}) H
theorem wG:IxR X (tW X.K):=by
 intro Zy YW Go s σ H x y v u Q I W ry h hs;obtain ⟨p,xs,i,z,rfl,rfl,U,S,q⟩:=h;cases W;obtain ⟨t,rfl⟩:=ry;obtain ⟨its,r,pl,hz⟩:=I.list U;obtain ⟨j,h1,h2,h3,h4,Z⟩:=qL S;obtain ⟨w,O,Xe⟩:=r.get h2;have hl:=r.length;have hn:=gX;have G:EP X Go σ Q w s:=⟨z,H,I,Xe,q⟩;by_cases J:0<=i
 .have F:i.toNat=j:=by
   rw [seqIndex_of J Z] at h1;exact Pa.inj h1
  exact item_listR pl.isList J 'l' (by rw [F];simpa using O) G hs
 .have F:(i+(its.toArray.size:Int)).toNat=j:=by
   rw [seqIndex_neg 'l' h4] at h1;rw [OQ,<- hl];exact Pa.inj h1
  exact Rq (x:=w) pl.isList.typeIs slot_list_getitem.lookup
   (wpAny_getItem_list_neg (Q:=λr s'=>r=w/\EP X Go σ Q r s') pl.isList 'l' (by rw [OQ]<;>lia) 'l' (by rw [F];simpa using O) {rfl,G}) hs
theorem Gs:IxR X (yd X.K):=by
 intro Zy YW Go s σ H x y v u Q I J S h hs;obtain ⟨p,xs,i,z,rfl,rfl,G,F,q⟩:=h;cases J;obtain ⟨t,rfl⟩:=S;obtain ⟨its,r,pl,hz⟩:=I.tuple G;obtain ⟨j,h1,h2,h3,h4,Z⟩:=qL F;obtain ⟨w,W,U⟩:=r.get h2;have hl:=r.length;have hn:=gX;have O:EP X Go σ Q w s:=⟨z,H,I,U,q⟩;exact Rq (x:=w) pl.typeIs Tc.lookup
  (getItem_tuple (j:=j) (Q:=λr s'=>r=w/\EP X Go σ Q r s') pl 'l' 'l' (by rw [OQ,<- hl];exact h1) (by simpa using W) {rfl,O}) hs
theorem Lb:IxR X A4:=by
 intro Zy Z Go s σ H x y v u Q I U S h hs;obtain ⟨z,i,c,rfl,rfl,hz,F,q⟩:=h;obtain ⟨t,rfl⟩:=U;obtain ⟨t',rfl⟩:=S;obtain ⟨j,h1,h2,h3,h4,J⟩:=qL F;have hl:z.cps.toList.length=z.length:=by simp [Str.length]
 rw [hl] at h1 h4 J;have W:=gX;exact tail_any (Ss s z t) slot_str_getitem.lookup (getItem_str (c:=c) (by
  have O:decide (i < -(2 ^ 63:Int))=false:=decide_eq_false 'l';have G:decide (i ≥ 2 ^ 63)=false:=decide_eq_false 'l';rw [O,G,SG]) (by rw [h1];simpa using h2) {.str {#[c]},H,I.tok _,{_,rfl},q}) hs
def rIx(K:Ov):R2:=λx y H Q=>tW K x y H Q\/yd K x y H Q\/A4 x y H Q
theorem HH:IxR X (rIx X.K):=wG.or (Gs.or Lb)
theorem MO(its:List Value)(n j:Nat)(u:Value):Rk (·.setIfInBounds j u) { cls:=.type "list",data:=.seq its.toArray n }={ cls:=.type "list",data:=.seq (its.set j u).toArray n }:=by
 simp [Rk]
theorem Inv.lst{Go:List (Addr×Obj)}{σ:St}{H:Hp}{s:Oq}{p:Addr}{xs:List V}(I:Inv X Go σ H s)(h:H p=some (.lst xs)) :
  ∃(its:List Value)(n:Nat),zx xs its/\s.heap.get? p=some { cls:=.type "list",data:=.seq its.toArray n }/\xs.length<=sizeLine:=by
 obtain ⟨z,its,n,r,e⟩:=I.hok p _ h;exact ⟨its,n,r,e,z⟩
theorem Inv.b6{p:Addr}{its its':List Value}(I:Inv X Go σ H s)(h:H p=some (.lst xs))(J:s.heap.get? p=some { cls:=.type "list",data:=.seq its.toArray n })(hf:f { cls:=.type "list",data:=.seq its.toArray n }={ cls:=.type "list",data:=.seq its'.toArray F })(r:zx ys its')(hz:ys.length<=sizeLine)(t:Nat):
  Inv X Go σ (upd H p (.lst ys)) { s with heap:=s.heap.update p f,toks:=t }:=by
 have e:(s.heap.update p f).get? p=some { cls:=.type "list",data:=.seq its'.toArray F }:=by
  rw [Pu f J (by rw [hf]<;>rfl),hf]
 refine I.write (x:=p) (e:=p) (by rw [h];trivial) (.inl rfl) (λb u G q=>(O0 _ _ (Pt G)).trans q) {_,e} ?_;exact ⟨hz,its',F,r,e⟩
def om:V->V->V->Hp->(Hp->Prop)->Prop:=λo i v H Q=>∃p xs k j,o = .ref p/\i = .int k/\H p=some (.lst xs)/\ixN xs.length k=some j/\Q (upd H p (.lst (xs.set j v)))
theorem lG:o7 X om:=by
 intro Go s σ H o i v ov iv u Q I U ri rv h;obtain ⟨p,xs,k,j,rfl,rfl,J,Z,q⟩:=h;cases U;obtain ⟨t,rfl⟩:=ri;obtain ⟨its,n,r,F,hz⟩:=I.lst J;obtain ⟨h1,h2,h3,h4⟩:=wg Z;have hl:=r.length;have hn:=gX;have S:Inv X Go σ (upd H p (.lst (xs.set j v))) { s with heap:=s.heap.update p (Rk (·.setIfInBounds j u)) } :=
  I.b6 J F (MO its n j u) (r.set rv j) (by rw [List.length_set];exact hz) s.toks
 by_cases O:0<=k
 .have G:k.toNat=j:=by
   rw [seqIndex_of O h4] at h1;exact Pa.inj h1
  exact PySem.W.ki_setAt F O 'l' (by rw [OQ,<- hl];exact h4) (by rw [G];exact {_,S,q})
 .have G:(k+(its.toArray.size:Int)).toNat=j:=by
   rw [seqIndex_neg 'l' h3] at h1;rw [OQ,<- hl];exact Pa.inj h1
  exact PySem.W.ki_setBack F 'l' (by rw [OQ,<- hl];exact h3) 'l' (by rw [G];exact {_,S,q})
theorem Hu(lo hi:Option Int)(n:Nat):(Sa lo hi none n).1=((HT.sIx n 0 lo:Nat):Int)/\(Sa lo hi none n).2.1=((HT.sIx n n hi:Nat):Int)/\(Sa lo hi none n).2.2=1:=by
 refine {?_,?_,rfl}
 .cases lo with
  | none=>simp [Sa,HT.sIx]
  | some i =>
   simp only [Sa,HT.sIx,getD_none,show (1:Int)>0 by decide,if_true];by_cases h:i<0
   .simp only [h,if_true]<;>lia
   .simp only [h,if_false]<;>lia
 .cases hi with
  | none=>simp [Sa,HT.sIx]
  | some i =>
   simp only [Sa,HT.sIx,getD_none,show (1:Int)>0 by decide,if_true];by_cases h:i<0
   .simp only [h,if_true]<;>lia
   .simp only [h,if_false]<;>lia
theorem KY(its:List Value)(lo hi:Option Int):slicePick its.toArray lo hi none=((its.drop (HT.sIx its.length 0 lo)).take (HT.sIx its.length its.length hi-HT.sIx its.length 0 lo)).toArray:=by
 obtain ⟨h1,h2,h3⟩:=Hu lo hi its.toArray.size;unfold slicePick;rw [h1,h2,h3];simp only [sliceRange_one,pick_run,OQ]<;>rfl
def Mu(K:Ov):V->Option Int->Option Int->Hp->VK->Prop:=λx lo hi H Q=>∃a xs,x = .ref a/\SqL K H a xs/\∀p,H p=none->Q (.ref p) (upd H p (.lst (cf xs lo hi)))
theorem ES:SlR X (Mu X.K):=by
 intro Go s σ H x v S U lo hi sl Q I O hs pl J h;obtain ⟨a,xs,rfl,hx,q⟩:=h;cases O;obtain ⟨its,r,F,hz⟩:=I.list hx;have G:=r.length;refine {"list",_,slot_list_getitem.lookup,F.isList.typeIs,?_};refine wpAny_getItem_list_slice F.isList hs pl J .none 'z' ?_ (by rw [OQ]<;>lia);rw [KY,<- G];refine {.ref s.heap.objs.size,_,I.laid (t':=s.toks) (o:=.lst (cf xs lo hi)) (λb ob q=>Ot _ q) (OA _) ?_,rfl,q _ (I.hok.fresh (OA _))};exact {Pj (wB xs lo hi) hz,_,0,(r.drop (HT.sIx xs.length 0 lo)).take (HT.sIx xs.length xs.length hi-HT.sIx xs.length 0 lo),ON _ rfl}
def zP:V->Bool
 | .non=>true
 | .bl _=>true
 | .int _=>true
 | .str _=>true
 | _=>false
def eqV:V->V->Bool
 | .non,.non=>true
 | .bl a,.bl b=>a==b
 | .bl a,.int b=>(if a then 1 else 0)==b
 | .int a,.bl b=>a==(if b then 1 else 0)
 | .int a,.int b=>a==b
 | .str a,.str b=>a==b
 | _,_=>false
theorem jH(J:zr y u)(F:zr x v)(O:zP y=true)(G:zP x=true):SeqAt.EqAt A s u v (eqV y x):=by
 cases y with
 | non =>
  cases J;cases x with
  | non=>cases F;exact SeqAt.EqAt.same _
  | bl b=>cases F;exact SeqAt.EqAt.none_bool b
  | int b=>obtain ⟨t,rfl⟩:=F;exact SeqAt.EqAt.none_int b t
  | str b=>obtain ⟨t,rfl⟩:=F;exact SeqAt.EqAt.none_str b t
  | _=>exact absurd (show false=true from G) OP
 | bl a =>
  cases J;cases x with
  | non=>cases F;exact SeqAt.EqAt.bool_none a
  | bl b=>cases F;exact SeqAt.EqAt.bool_bool a b
  | int b=>obtain ⟨t,rfl⟩:=F;exact SeqAt.EqAt.bool_int a b t
  | str b=>obtain ⟨t,rfl⟩:=F;exact SeqAt.EqAt.bool_str a b t
  | _=>exact absurd (show false=true from G) OP
 | int a =>
  obtain ⟨t',rfl⟩:=J;cases x with
  | non=>cases F;exact SeqAt.EqAt.int_none a t'
  | bl b=>cases F;exact SeqAt.EqAt.int_bool a t' b
  | int b=>obtain ⟨t,rfl⟩:=F;exact SeqAt.EqAt.int_int a t' b t
  | str b=>obtain ⟨t,rfl⟩:=F;exact SeqAt.EqAt.int_str a t' b t
  | _=>exact absurd (show false=true from G) OP
 | str a =>
  obtain ⟨t',rfl⟩:=J;cases x with
  | non=>cases F;exact SeqAt.EqAt.str_none a t'
  | bl b=>cases F;exact SeqAt.EqAt.str_bool a t' b
  | int b=>obtain ⟨t,rfl⟩:=F;exact SeqAt.EqAt.str_int a t' b t
  | str b=>obtain ⟨t,rfl⟩:=F;exact SeqAt.EqAt.str_str a t' b t
  | _=>exact absurd (show false=true from G) OP
 | _=>exact absurd (show false=true from O) OP
def eqU(x:V)(u:Value):Bool:=match u with
 | .none=>eqV .non x
 | .bool b=>eqV (.bl b) x
 | .int i _=>eqV (.int i) x
 | .str z _=>eqV (.str z) x
 | _=>false
theorem uD(r:zr y u)(f:zP y=true):eqU x u=eqV y x:=by
 cases y with
 | non=>cases r;rfl
 | bl b=>cases r;rfl
 | int i=>obtain ⟨t,rfl⟩:=r;rfl
 | str z=>obtain ⟨t,rfl⟩:=r;rfl
 | _=>exact absurd (show false=true from f) OP
theorem kg(h:zx xs us)(f:xs.all zP=true):us.any (eqU x)=xs.any λy=>eqV y x:=by
 induction h with
 | nil=>rfl
 | cons r t F =>
  rw [Uh,O5] at f;rw [Ug,Ug,uD r f.1,F f.2]
theorem iY(J:zr x v)(G:zP x=true):∀{xs:List V}{us:List Value},zx xs us->xs.all zP=true->∀u∈us,SeqAt.EqAt A s u v (eqU x u)
 | _,_,.nil,_=>λu F=>by cases F
 | y::xs,u::us,.cons r t,f=>λu' F=>by
  rw [Uh,O5] at f;rcases OK.mp F with rfl|F
  .rw [uD r f.1];exact jH r J f.1 G
  .exact iY J G t f.2 u' F
def inV(x:V)(xs:List V):Bool:=xs.any λy=>eqV y x
def rIn(K:Ov)(neg:Bool):R2:=λx y H Q=>∃p xs,y = .ref p/\(SqL K H p xs\/SqT K H p xs)/\zP x=true/\xs.all zP=true/\Q (.bl (if neg then !inV x xs else inV x xs)) H
theorem Cg:OpR X (Pq .In) (rIn X.K false):=by
 intro Go s σ H x y v u Q I J O h;obtain ⟨p,xs,rfl,F,G,fs,q⟩:=h;cases O;rcases F with F|F
 .obtain ⟨its,r,pl,hz⟩:=I.list F;refine SeqAt.in_listAt (eqU x) pl.isList (λw hw=>iY J G r fs w (by simpa using hw)) {.bl _,H,I,rfl,?_};rw [show its.toArray.any (eqU x)=its.any (eqU x) by simp,kg r fs];exact q
 .obtain ⟨its,r,pl,hz⟩:=I.tuple F;refine SeqAt.in_tupleAt (eqU x) pl (λw hw=>iY J G r fs w (by simpa using hw)) {.bl _,H,I,rfl,?_};rw [show its.toArray.any (eqU x)=its.any (eqU x) by simp,kg r fs];exact q
theorem DL:OpR X (Pq .NotIn) (rIn X.K true):=by
 intro Go s σ H x y v u Q I J O h;obtain ⟨p,xs,rfl,F,G,fs,q⟩:=h;cases O;rcases F with F|F
 .obtain ⟨its,r,pl,hz⟩:=I.list F;refine SeqAt.notIn_listAt (eqU x) pl.isList (λw hw=>iY J G r fs w (by simpa using hw)) {.bl _,H,I,rfl,?_};rw [show its.toArray.any (eqU x)=its.any (eqU x) by simp,kg r fs];exact q
 .obtain ⟨its,r,pl,hz⟩:=I.tuple F;refine SeqAt.notIn_tupleAt (eqU x) pl (λw hw=>iY J G r fs w (by simpa using hw)) {.bl _,H,I,rfl,?_};rw [show its.toArray.any (eqU x)=its.any (eqU x) by simp,kg r fs];exact q
theorem pO:zU X (.builtin "len") (λxs H Q=>∃p ys,xs=[.ref p]/\(SqL X.K H p ys\/SqT X.K H p ys)/\Q (.int ys.length) H):=by
 intro Go s σ H xs us Q I r h;obtain ⟨p,ys,rfl,F,q⟩:=h;obtain ⟨u,rfl,J⟩:=cQ r;cases J;have O:=gX;rcases F with F|F
 .obtain ⟨its,r',pl,hz⟩:=I.list F;have G:=r'.length;exact Calls.call_len_list pl.isList (by simp only [OQ]<;>lia) {.int ys.length,H,I.tok _,{s.toks+1,by rw [OQ,G]},q}
 .obtain ⟨its,r',pl,hz⟩:=I.tuple F;have G:=r'.length;exact len_tuple pl (by simp only [OQ]<;>lia) {.int ys.length,H,I.tok _,{s.toks+1,by rw [OQ,G]},q}
theorem HM:zU X (.builtin "len") (λxs H Q=>∃z,xs=[.str z]/\z.length<=sizeLine/\Q (.int z.length) H):=by
 intro Go s σ H xs us Q I r h;obtain ⟨z,rfl,hz,q⟩:=h;obtain ⟨u,rfl,t,rfl⟩:=cQ r;have F:=gX;exact len_str 'l' {.int z.length,H,I.tok _,{_,rfl},q}
theorem zU.or{r r':List V->Hp->VK->Prop}(h:zU X f r)(h':zU X f r'):zU X f (λxs H Q=>r xs H Q\/r' xs H Q):=by
 intro Go s σ H xs us Q I F q;rcases q with q|q
 .exact h Go s σ H xs us Q I F q
 .exact h' Go s σ H xs us Q I F q
theorem CB:zU X (.type "tuple") (λxs H Q=>∃p ys,xs=[.ref p]/\((SqL X.K H p ys/\∀l,H l=none->Q (.ref l) (upd H l (.tup ys)))\/(SqT X.K H p ys/\Q (.ref p) H))):=by
 intro Go s σ H xs us Q I r h;obtain ⟨p,ys,rfl,h⟩:=h;obtain ⟨u,rfl,O⟩:=cQ r;cases O;rcases h with ⟨F,q⟩|⟨F,q⟩
 .obtain ⟨its,r',pl,hz⟩:=I.list F;have S:=r'.length;refine call_tuple_list pl.isList (λh' kp=>?_) (by simp only [OQ]<;>lia);have G:Inv X Go σ H { s with heap:=h' }:=I.kept (t':=s.toks) kp;have J:Inv X Go σ (upd H h'.objs.size (.tup ys)) { s with heap:=h'.push { cls:=.type "tuple",data:=.seq its.toArray } } :=
   G.laid (t':=s.toks) (λb o e=>Ot _ e) (OA _) (show aq X.prog X.w _ _ _ (.tup ys) from {hz,its,r',Uq.new _ _})
  exact {.ref h'.objs.size,_,J,rfl,q _ (G.hok.fresh (OA _))}
 .obtain ⟨its,r',pl,hz⟩:=I.tuple F;exact call_tuple_same pl {.ref p,H,I,rfl,q}
def tyV(K:Ov)(T:String)(x:V)(H:Hp):Prop:=match x with
 | .str _=>T="str"
 | .int _=>T="int"
 | .ref p=>(T="list"/\∃xs,SqL K H p xs)\/(T="tuple"/\∃o,K.lookup p=some o/\o.cls = .type "tuple"/\o.dict=none) \/
   (T="dict"/\((∃kvs,H p=some (.dK kvs))\/∃kvs,H p=some (.dT kvs)))\/(T="set"/\∃S n,H p=some (.set S n))
 | _=>False
theorem lh(I:Inv X Go σ H s)(r:zr x v)(ty:tyV X.K T x H):
  s.TypeIs v T/\∀a,v = .ref a->∃ob,s.heap.get? a=some ob/\ob.dict=none:=by
 cases x with
 | str z =>
  obtain ⟨t,rfl⟩:=r;cases (show T="str" from ty);exact {Ss s z t,λ_ e=>nomatch e}
 | int i =>
  obtain ⟨t,rfl⟩:=r;cases (show T="int" from ty);exact {typeIs_int s i t,λ_ e=>nomatch e}
 | ref p =>
  cases r;rcases ty with ⟨rfl,xs,J⟩|⟨rfl,o,F,O,hd⟩|⟨rfl,F⟩|⟨rfl,S,n,F⟩
  .obtain ⟨its,_,pl,_⟩:=I.list J;refine {pl.isList.typeIs,λa e=>?_};cases e;obtain ⟨o,n,e,c,hd,_⟩:=pl;exact ⟨o,e,hd⟩
  .refine {{o,I.UX p o F,O},λa e=>?_};cases e;exact {o,I.UX _ o F,hd}
  .have z:∃o,s.heap.get? p=some o/\o.ExactDict:=by
    rcases F with ⟨kvs,F⟩|⟨kvs,F⟩
    .obtain ⟨_,_,_,_,o,_,_,e,ex,_⟩:=I.hok p _ F;exact ⟨o,e,ex⟩
    .obtain ⟨_,_,_,_,o,_,_,e,ex,_⟩:=I.hok p _ F;exact ⟨o,e,ex⟩
   obtain ⟨o,e,ex⟩:=z;refine {⟨o,e,ex.1⟩,λa G=>?_};cases G;exact ⟨o,e,ex.2.1⟩
  .obtain ⟨o,_,_,_,e,ex,_⟩:=I.hok p _ F;refine {⟨o,e,ex.1⟩,λa G=>?_};cases G;exact ⟨o,e,ex.2.1⟩
 | _=>exact False.elim ty
variable {o e:OZ}{es:List OZ}{to:TE}{t:TA}{name:Str}{ZR cpos:Pos}{T id:String}{r:V->List V->Hp->VK->Prop}
end
def MtM(X:Cx)(id:String)(r:V->List V->Hp->VK->Prop):Prop :=
 ∀(Go:List (Addr×Obj))(s:Oq)(σ:St)(H:Hp)(x:V)(xs:List V)(v:Value)(us:List Value)(Q:VK),Inv X Go σ H s->zr x v->zx xs us->r x xs H Q ->
  Oz (OI X.prog X.w) X.A (call (.builtin id) (v::us)) (EP X Go σ Q) X.xe s
theorem Ib{α β:Type}{F:α->β->Prop}{x:α}{xs:List α}{us:List β}(h:Paired F (x::xs) us):∃u ws,us=u::ws/\F x u/\Paired F xs ws:=by
 cases h with
 | cons r t=>exact {_,_,rfl,r,t}
theorem E1{α β:Type}{F:α->β->Prop}{us:List β}(h:Paired F [] us):us=[]:=by cases h;rfl
theorem zx.one(h:zx [x] us):∃u,us=[u]/\zr x u:=by
 obtain ⟨u,ws,rfl,r,t⟩:=Ib h;cases E1 t;exact {_,rfl,r}
def dZ(k:V->Prop):List V->Prop
 | [y]=>k y
 | _=>False
theorem dZ.ex{k:V->Prop}(h:dZ k vs):∃y,vs=[y]/\k y:=by
 cases vs with
 | nil=>exact h.elim
 | cons y t =>
  cases t with
  | nil=>exact {y,rfl,h}
  | cons _ _=>exact h.elim
theorem zx.rep(h:zx xs us):∀k:Nat,zx (Qd k xs).flatten (Qd k us).flatten
 | 0=>.nil
 | k+1=>by
  rw [QZ,QZ,RP,RP];exact zx.append h (zx.rep h k)
theorem wZ(its:List Value):∀(k:Nat)(Z2:List Value),
  foldl (λF G=>F++G) Z2.toArray (Qd k its.toArray)=(Z2++(Qd k its).flatten).toArray
 | 0,Z2=>by simp
 | k+1,Z2=>by
  have e:Z2.toArray++its.toArray=(Z2++its).toArray:=by simp
  have J:(Z2++its)++(Qd k its).flatten=Z2++(Qd (k+1) its).flatten:=by
   rw [QZ,RP,O6]
  rw [<- J,<- wZ its k (Z2++its),<- e,QZ,UA]
section
variable {X:Cx}{Go:List (Addr×Obj)}{σ:St}{H:Hp}{s:Oq}{l b:Addr}{xs ys zs:List V}
theorem Inv.cD{its its':List Value}(I:Inv X Go σ H s)(J:H l=some (.lst xs))(e:s.heap.get? l=some { cls:=.type "list",data:=.seq its.toArray n })(hf:f its.toArray=its'.toArray)(hv:zx ys its')(hz:ys.length<=sizeLine):
  Inv X Go σ (upd H l (.lst ys)) { s with heap:=s.heap.update l (Rk f),toks:=t' }:=by
 have q:=PySem.IsL.update e f;rw [hf] at q;refine I.write (x:=l) (e:=l) (by rw [J];exact trivial) (.inl rfl) (λO u F G=>(O0 s.heap (Rk f) (Pt F)).trans G) {_,q} ?_;exact {hz,its',_,hv,q}
theorem Inv.cE(I:Inv X Go σ H s)(hv:zx ys its)(hz:ys.length<=sizeLine):
  Inv X Go σ (upd H s.heap.objs.size (.lst ys)) { s with heap:=s.heap.push { cls:=.type "list",data:=.seq its.toArray },toks:=t' } :=
 I.laid (λ_ _ q=>Ot _ q) (OA _) {hz,its,0,hv,ON _ rfl}
theorem Inv.fresh(I:Inv X Go σ H s):H s.heap.objs.size=none:=I.hok.fresh (OA _)
theorem Inv.a6(I:Inv X Go σ H s)(F:H l=some (.lst xs)):xs.length<=sizeLine/\∃(its:List Value)(n:Nat),zx xs its/\xs.length=its.length/\s.heap.get? l=some { cls:=.type "list",data:=.seq its.toArray n }:=by
 obtain ⟨z,its,n,r,e⟩:=I.hok l _ F;exact ⟨z,its,n,r,r.length,e⟩
theorem yu(h:n<=sizeLine):OO.List.listTooLong n=false:=by
 unfold OO.List.listTooLong;exact decide_eq_false 'l'
end
section
variable {X:Cx}
def Ll:V->List V->Hp->VK->Prop:=λx vs H Q=>∃l xs y,x = .ref l/\vs=[y]/\H l=some (.lst xs)/\xs.length<sizeLine/\Q .non (upd H l (.lst (xs++[y])))
theorem NA:MtM X "list.append" Ll:=by
 intro Go s σ H x vs v us Q I S O h;obtain ⟨l,xs,y,rfl,rfl,G,hz,q⟩:=h;cases S;obtain ⟨u,rfl,J⟩:=O.one;obtain ⟨z,its,n,r,hl,e⟩:=I.a6 G;refine R7 F.slot_list_append {_,e,rfl} F.entry_list_append (F.args_list_append_2 _ _) (PySem.list_append l its.toArray n u (by rw [OQ];lia)) {e,?_};refine {.non,_,I.cD (its':=its++[u]) G e 'z' (r.append (.cons J .nil)) ?_,rfl,q};rw [Pb,PX];lia
def Gf:V->List V->Hp->VK->Prop:=λx vs H Q=>∃l b xs zs,x = .ref l/\vs=[.ref b]/\H l=some (.lst xs)/\H b=some (.lst zs)/\xs.length+zs.length<=sizeLine/\Q .non (upd H l (.lst (xs++zs)))
theorem Iu:MtM X "list.extend" Gf:=by
 intro Go s σ H x vs v us Q I rx rv h;obtain ⟨l,b,xs,zs,rfl,rfl,J,U,hz,q⟩:=h;cases rx;obtain ⟨u,rfl,Z⟩:=rv.one;cases Z;obtain ⟨z,its,n,r,hl,e⟩:=I.a6 J;obtain ⟨z2,G,n2,r2,O,S⟩:=I.a6 U;have hsz:its.toArray.size+G.toArray.size<=sizeLine:=by rw [OQ,OQ];lia
 have W : ¬ (!its.toArray.isEmpty&&OO.List.listTooLong (its.toArray.size+G.toArray.size))=true:=by
  rw [yu hsz,UN];exact OP
 refine R7 F.slot_list_extend {_,e,rfl} F.entry_list_extend (F.args_list_extend_2 _ _)
  (AutoSeq1.list_extend_list_list_0 l its.toArray n b G.toArray n2 W (by rw [OQ];lia) 'l') {e,S,?_}
 refine {.non,_,I.cD (its':=its++G) J e 'z' (r.append r2) ?_,rfl,q};rw [Pb];lia
def EH:R2:=λx y H Q=>∃l b xs zs,x = .ref l/\y = .ref b/\H l=some (.lst xs)/\H b=some (.lst zs)/\xs.length+zs.length<=sizeLine/\∀p,H p=none->Q (.ref p) (upd H p (.lst (xs++zs)))
theorem DK:OpR X (QH .Add) EH:=by
 intro Go s σ H x y v u Q I G U h;obtain ⟨l,b,xs,zs,rfl,rfl,S,W,hz,q⟩:=h;cases G;cases U;obtain ⟨z,its,n,r,hl,e⟩:=I.a6 S;obtain ⟨Z,F,n2,r2,J,O⟩:=I.a6 W;refine PySem.P.add_list e O ?_ (by rw [OQ,OQ];lia);have ea:its.toArray++F.toArray=(its++F).toArray:=by simp
 rw [ea];exact {.ref _,_,I.cE (t':=s.toks) (r.append r2) (by rw [Pb];lia),rfl,q _ I.fresh}
def Im:R2:=λx y H Q=>∃l k xs,x = .ref l/\y = .int k/\H l=some (.lst xs)/\-(2 ^ 63)<=k/\k<2 ^ 63/\xs.length*k.toNat<=sizeLine /\
 ∀p,H p=none->Q (.ref p) (upd H p (.lst (Qd k.toNat xs).flatten))
theorem Mv{α:Type}(xs:List α)(k:Nat):(Qd k xs).flatten.length=k*xs.length:=by
 induction k with
 | zero=>simp
 | succ k F=>rw [QZ,RP,Pb,F,Nat.succ_mul,Nat.add_comm]
theorem FR:OpR X (QH .Mult) Im:=by
 intro Go s σ H x y v u Q I rx ry h;obtain ⟨l,k,xs,rfl,rfl,Z,h1,h2,hz,q⟩:=h;cases rx;obtain ⟨t,rfl⟩:=ry;obtain ⟨z,its,n,r,hl,e⟩:=I.a6 Z;have ZL:its.toArray.size*k.toNat<=sizeLine:=by rw [OQ,<- hl];exact hz
 have O : ¬ its.toArray.size*k.toNat>(2 ^ 63-1) / 8:=by
  have:(sizeLine:Nat)<=(2 ^ 63-1) / 8:=by decide
  lia
 have J : ¬ (!OO.List.listFitsIndex k)=true:=by
  rw [fitsIndex_both h1 h2];exact OP
 have Xd : ¬ OO.List.listTooLong (its.toArray.size*k.toNat)=true:=by
  rw [yu ZL];exact OP
 have G:foldl (λS W=>S++W) #[] (Qd (if its.toArray.isEmpty=true then 0 else k.toNat) its.toArray)=(Qd k.toNat its).flatten.toArray:=by
  have f0:∀m:Nat,foldl (λS W=>S++W) #[] (Qd m its.toArray)=(Qd m its).flatten.toArray:=λm=>by
   have:=wZ its m [];rw [R6] at this;exact this
  rw [f0];cases its with
  | nil=>simp
  | cons a r'=>rw [if_neg 'z']
 refine wpAny_binaryOp_repeat_ref (T:="list") (U:="int") 'd' {_,e,rfl} (λs'=>typeIs_int s' k t) noFill_list_mul F.fills_int_mul F.slot_int_rmul repeat_list F.slot_int_index.lookup
  (R7 F.slot_int_rmul (typeIs_int s k t) F.entry_int_rmul (F.args_int_rmul_2 _ _) (int___rmul___int_list k t l its.toArray n)
   {e,rfl,{_,e,rfl},R7 F.slot_list_mul {_,e,rfl} F.entry_list_mul (F.args_list_mul_2 _ _) (AutoListH.list___mul___list_int_3 l its.toArray n k t J O Xd) {e,?_}})
 rw [G];exact {.ref _,_,I.cE (t':=s.toks) (r.rep k.toNat) (by rw [Mv,Nat.mul_comm];exact hz),rfl,q _ I.fresh}
end
end L2
namespace Att
open PySem PySem.W PySem.Calls PyProof.Rows
theorem BD:∀(ns:List Int)(vs:List Value),WellAll P h vs (ns.map WData.int)->RC vs ns:=by
 intro ns
 induction ns with
 | nil =>
  intro vs w;rw [Uw] at w;cases w;exact .nil
 | cons n ns F =>
  intro vs w;rw [PP] at w;cases w with
  | cons a b =>
   cases a;exact .cons _ _ (F _ b)
theorem FP{l:OpenLaw}(hn:l.most=some n){vals:List Value}(F:l.row.toRowW.claim.pre args=true)(hwl:WellAll P h vals args):
  ∃a vs ns,vals=[OF a]/\args=[WData.list (ns.map WData.int)]/\h.get? a=some { cls:=.type "list",data:=.seq vs.toArray }/\RC vs ns/\ns.length<=n:=by
 have O:WShape.hasAll [] args [.list .int]=true:=(pre_splitW F).1;have S:l.pre.holds [] { args:=args }=true:=(pre_splitW F).2;obtain ⟨d,r,rfl,h1,h2⟩:=hasAllW_cons O;obtain rfl:=hasAllW_nil h2;obtain ⟨xs,rfl,h3⟩:=hasW_list h1;obtain ⟨ns,rfl⟩:=items_int h3;have W:ns.length<=n:=by
  unfold OpenLaw.pre at S;have h4:(WTm.not (.lt (.lit (.int (n:Int))) (.len (.arg 0)))).holds [] { args:=[.list (ns.map .int)] }=true:=by
   have h4:=(holds_andW S).1;rw [hn] at h4;exact h4
  have J:=condW_of h4 (w_not (w_lt w_lit (w_len_list (w_arg rfl))));rw [Ow] at J;refine Nat.le_of_not_lt λq=>?_;have q':(n:Int)<((ns.length:Nat):Int):=by lia
  first
   | (rw [decide_eq_true q'] at J;exact absurd J 'd')
   | (simp at J;lia)
 cases hwl with
 | cons w1 Z =>
  cases Z;cases w1 with
  | list U G=>exact {_,_,ns,rfl,rfl,U,BD ns _ G,W}
theorem II(l:OpenLaw)(args:List WData):l.row.toRowW.claim.post args (.bool true) args=true :=
 postW_of (r:=l.row.toRowW) (X:=(true==true))
  (show WShape.has [] (.bool true) .bool=true by first|rfl|decide|simp [WShape.has,WShape.arms,WShape.armsAll])
  (show (WTm.eq .res (.lit (.bool true))).value [] { args:=args,res:=some (.bool true),after:=args }=some (.bool (true==true)) from w_eq_bool (w_res rfl) w_lit) rfl
theorem attach_call{l:OpenLaw}{d:DefRec}(hn:l.most=some n)(S:d.params.defaults=[])(call:∀(w:OW)(s₀ s₁:Oq)(mg U:Str->Option Value)(fa:Addr)(o:Obj)(pm cd W:Value)(a:Addr)(vs:List Value)(ns:List Int),
   Ground q Z [] XP w s₀ mg U s₁.heap->YP w s₁.heap ->
   s₁.heap.get? fa=some o->o.data = .func (docDef d.name d.params d.body d.scope pm cd W)->s₁.heap.CodeRec cd d.name->mg d.name=some (.ref fa) ->
   s₁.heap.get? a=some { cls:=.type "list",data:=.seq vs.toArray }->RC vs ns->ns.length<=n->s₁.gens = #[] ->
   QE (OI l.prog w) callerA (.call (.ref fa) {[.ref a],[]}) (λr s'=>r = .ok (.ret (.bool true))/\OldK s₁.heap s'.heap/\s'.os=s₁.os/\RD s'.gens) s₁):
  WalkO q Z XP YP l.row.toRowW d [] (λf vs=>PySem.call f vs):=by
 intro w s₀ s₁ mg U G Y fa o pm cd W dV kV ho hd hcd hD O hg args vals as J ai ax hwl av;obtain rfl:dV = .none:=Dflts.none hD S;obtain rfl:kV = .none:=Dflts.noKw hD;obtain ⟨a,vs,ns,rfl,rfl,F,Xc,ZL⟩:=FP hn J hwl;refine enter_call (QM (call w s₀ s₁ mg U fa o pm cd W a vs ns G Y ho (fd_plain hd) hcd O F Xc ZL hg) λr s' hq=>?_);obtain ⟨rfl,h2,h3,h4⟩:=hq;exact {.inl {.bool true,.bool true,[],rfl,λ_=>rfl,.bool true,II l _,λ_=>{Pairwise.nil,λ_ hm=>(nomatch hm)}},h2,h3,h4}
end Att
namespace L2
open PySem PySem.Spec PyProof.Rows
theorem oP(h:RC vs ns):zx (ns.map V.int) vs:=by
 induction h with
 | nil=>exact .nil
 | cons n t h F=>exact .cons {t,rfl} F
def z8(s:Stmt)(j:Nat):Stmt:=match s with
 | .ClassDef _ _ _ F _ _ _ _ _ _ _=>F.getD j (.Pass {0,0,0,0})
 | _=>.Pass {0,0,0,0}
def gH(s:Stmt):Arguments:=match s with
 | .FunctionDef _ a _ _ _ _ _ _ _ _=>a
 | _=>{ posonlyargs:=[],args:=[],vararg:=none,kwonlyargs:=[],kw_defaults:=[],kwarg:=none,defaults:=[] }
def cU(s:Stmt):List Stmt:=match s with
 | .FunctionDef _ _ b _ _ _ _ _ _ _=>b
 | _=>[]
def zm(s:Stmt):Scope:=match s with
 | .FunctionDef _ _ _ _ _ _ sc _ _ _=>sc
 | _=>{ kind:=.function,names:=[],isGenerator:=false,isCoroutine:=false }
abbrev CX0:CXT:=λ_ _ _ _ _ _=>False
abbrev E0:XK:=λ_ _ _=>False
theorem i9:fZ CX0 X E0:=λ_ _ _ _ _ _ _ h=>h.elim
structure Fun(K:Ov)(x qual:Str)(st:Stmt)(f:Addr)(fd:OJ):Prop where
 ex:∃(oc:Value)(od:Option Addr)(kV Yp pm:Value)(an:Option Addr)(Z1 ct:Value)(Xf:Array (Option Value)),
  fd=fnOf x qual (gH st) (cU st) (zm st) .none kV Yp pm an Z1 ct/\K.lookup f=some {oc,od,.func fd,Xf}/\codeIn K Z1 qual=true
 kp:Si K (.ref f)=true
section
variable {P:OE}{w:OW}{K:Ov}{mg:Str->Option Value}{base:Heap}
theorem Fun.ok{st:Stmt}{k:Nat}(F:Fun K x qual st f fd)(S:zy N ps (zm st))(len:∀vs H Q E,sp vs H Q E->vs.length=ps.length)(J:∀(G:Value)(A:OR)(outer:List Env)(s:Oq)(H:Hp)(vs:List V)(Q:VK)(E:XK),zG cm k (A.deeper (QV qual (zm st) s.heap.objs.size f G))->sp vs H Q E ->
   ∃t,PSs (bH CX0 cm P w K mg base N qual (zm st) f G A outer s H E).b0 (cU st) t/\t { nx:=λ_ H'=>Q .non H',rt:=Q } (start N vs) H):zq P w K mg base CX0 cm (k+1) f fd ps sp:=by
 obtain ⟨oc,od,kV,Z,pm,W,G,ct,Xf,rfl,lk,hcd⟩:=F.ex;refine kR lk hcd S len λA outer s H vs Q E U O=>?_;obtain ⟨t,h,q⟩:=J G A outer s H vs Q E U O;exact ⟨t,h.b0,q⟩
theorem Fun.binds{st:Stmt}(F:Fun K x qual st f fd)(h:∀(kV J pm:Value)(G:Option Addr)(O ct:Value)(us:List Value),us.length=ps.length->To (fnOf x qual (gH st) (cU st) (zm st) .none kV J pm G O ct) {us,[]}=pure (ps.zip us)):bQ K fd ps []:=by
 obtain ⟨oc,U,kV,J,pm,G,O,ct,S,rfl,lk,hcd⟩:=F.ex;exact .all (h kV J pm G O ct)
theorem yt{st:Stmt}{kV J pm F ct:Value}(l:K.lookup f=some {oc,S,.func (fnOf x qual (gH st) (cU st) (zm st) .none kV J pm G F ct),O})(c:codeIn K F qual=true)(k:Si K (.ref f)=true):Fun K x qual st f (fnOf x qual (gH st) (cU st) (zm st) .none kV J pm G F ct):={{oc,S,kV,J,pm,G,F,ct,O,rfl,l,c},k}
end
theorem bo{k:Nat}(F:zG c k A):A.units+1<cLine:=O9 (Nat.add_le_add_left (by decide:1<=64) _) F.units
section
variable {X:Cx}
theorem pv(i:Nat)(hN:X.N[i]?=some x:=by rfl)(hv:Vis X.env.scope x:=by first|exact OL rfl|exact Ry (OL rfl)|exact Ry (Ry rfl))(hd:(x==("__debug__":Str))=false:=by decide)(hcd:(x==("__classdict__":Str))=false:=by decide):PE X (.Name x pos) (eP i):=DO hN hv hd hcd
end
theorem jO{A B:Prop}(h:B):if false=true then A else B:=by
 rw [if_neg OP];exact h
theorem p8{A B:Prop}(h:A):if true=true then A else B:=by
 rw [if_pos rfl];exact h
theorem bZ{c A B:Prop} [Decidable c] (h1:c->A) (h2 : ¬ c->B):if c then A else B:=by
 by_cases h:c
 .rw [if_pos h];exact h1 h
 .rw [if_neg h];exact h2 h
def zj(H H':Hp):Prop:=∀b o,H b=some o->H' b=some o
theorem zj.refl(H:Hp):zj H H:=λ_ _ h=>h
theorem zj.trans(a:zj H H1)(b:zj H1 H2):zj H H2:=λc o h=>b c o (a c o h)
theorem zj.free(e:zj H H')(h:H' l=Option.none):H l=Option.none:=by
 cases q:H l with
 | none=>rfl
 | some o =>
  rw [e l o q] at h;cases h
end L2
set_option maxHeartbeats 4000000
namespace L2
open PySem PySem.Spec PyProof.Rows
def cz(F:List (Str×Addr)):List (Str×PR)->List (Str×Addr)->List (Str×Addr)
 | [],cs=>cs
 | (n,k)::r,cs=>cz F r (if k == .free then (match F.lookup n with|some c=>(n,c)::cs|none=>cs) else cs)
theorem uj(h:∀y∈scope.names,y.2 = .free->∃c,env.cells.lookup y.1=some c):RK scope env=pure (cz env.cells scope.names []):=by
 simp only [RK];have all:∀(l:List (Str×PR))(cs:List (Str×Addr)),(∀y∈l,y.2 = .free->∃c,env.cells.lookup y.1=some c) ->
   (forIn l cs λ(x:Str×PR)(r:List (Str×Addr))=>match x with|(name,kind)=>if (kind==PR.free)=true then do let a<-cellOf env name;pure (ForInStep.yield ((name,a)::r)) else pure (ForInStep.yield r):Sem (List (Str×Addr)))=pure (cz env.cells l cs):=by
  intro l
  induction l with
  | nil=>intro cs _;rfl
  | cons y r G =>
   intro cs F;obtain ⟨n,k⟩:=y;rw [UI];by_cases J:k = .free
   .subst J;obtain ⟨c,O⟩:=F (n,.free) OB rfl;have S:env.cells.lookup n=some c:=O;simp only [cellOf,S,cz,beq_self_eq_true,if_true];exact G _ λz hz=>F z (Oy _ hz)
   .have U:(k==PR.free)=false:=by simpa using J
    simp only [cz,U,Qu,if_false];exact G _ λz hz=>F z (Oy _ hz)
 have e:=all scope.names [] h;show (do let cs<-forIn scope.names [] _;pure cs)=_
 first
  | (rw [bind_pure];exact e)
  | exact e
  | (simpa using e)
theorem wN:∀{l:List (Str×PR)}{cs:List (Str×Addr)}{x:Str}{c:Addr},(cz G l cs).lookup x=some c->cs.lookup x=some c\/(G.lookup x=some c/\(x,PR.free)∈l)
 | [],_,_,_,h=>.inl h
 | (n,k)::r,cs,x,c,h=>by
  unfold cz at h;rcases wN h with h|⟨h1,h2⟩
  .by_cases J:k = .free
   .subst J;simp only [beq_self_eq_true,if_true] at h;cases e:G.lookup n with
    | none=>rw [e] at h;exact .inl h
    | some c' =>
     rw [e] at h;simp only [RI] at h;by_cases hx:x=n
     .subst hx;simp only [beq_self_eq_true] at h;cases h;exact .inr ⟨e,OB⟩
     .have F:(x==n)=false:=by simpa using hx
      rw [F] at h;exact .inl h
   .have F:(k==PR.free)=false:=by simpa using J
    rw [F] at h;exact .inl h
  .exact .inr {h1,Oy _ h2}
theorem vC:∀{l:List (Str×PR)}{cs:List (Str×Addr)}{x:Str},(cs.lookup x).isSome=true->((cz F l cs).lookup x).isSome=true
 | [],_,_,h=>h
 | (n,k)::r,cs,x,h=>by
  unfold cz;refine vC ?_;split
  .split
   .simp only [RI];split
    .rfl
    .exact h
   .exact h
  .exact h
theorem su:∀{l:List (Str×PR)}{cs:List (Str×Addr)}{x:Str}{c:Addr},(x,PR.free)∈l->J.lookup x=some c->((cz J l cs).lookup x).isSome=true
 | (n,k)::r,cs,x,c,F,G=>by
  unfold cz;rcases OK.mp F with e|F
  .cases e;refine vC ?_;simp only [beq_self_eq_true,if_true,G,RI];rfl
  .exact su F G
theorem j6:∀(names:List (Str×PR))(n:Nat)(Z2:List (Str×Addr)),QC n names Z2=QC n names []++Z2
 | [],_,_=>rfl
 | (x,k)::r,n,Z2=>by
  unfold QC;split
  .rw [j6 r (n+1) ((x,n)::Z2),j6 r (n+1) [(x,n)],O6];rfl
  .exact j6 r n Z2
theorem oR:∀{names:List (Str×PR)}{n:Nat}{Z2:List (Str×Addr)},(x,c)∈QC n names Z2->(x,c)∈Z2\/(x,PR.cell)∈names
 | [],_,_,h=>.inl h
 | (y,k)::r,n,Z2,h=>by
  unfold QC at h;split at h
  .next hk =>
   rcases oR h with h|h
   .rcases OK.mp h with e|h
    .cases e;rw [eq_of_beq hk];exact .inr OB
    .exact .inl h
   .exact .inr (Oy _ h)
  .rcases oR h with h|h
   .exact .inl h
   .exact .inr (Oy _ h)
theorem lL:∀{names:List (Str×PR)}{n:Nat}{Z2:List (Str×Addr)},(Z2.lookup x).isSome=true->((QC n names Z2).lookup x).isSome=true
 | [],_,_,h=>h
 | (y,k)::r,n,Z2,h=>by
  unfold QC;split
  .refine lL ?_;rw [RI];cases x==y with
   | true=>rfl
   | false=>exact h
  .exact lL h
theorem ng:∀{names:List (Str×PR)}{n:Nat}{Z2:List (Str×Addr)},(x,PR.cell)∈names->((QC n names Z2).lookup x).isSome=true
 | (y,k)::r,n,Z2,h=>by
  unfold QC;rcases OK.mp h with e|h
  .cases e;rw [if_pos 'd'];exact lL (by rw [RI,beq_self_eq_true];rfl)
  .split
   .exact ng h
   .exact ng h
def fu(F:List (Str×Addr))(sc:Scope)(C:Addr):List (Str×Addr):=QC (C+1) sc.names (cz F sc.names [])
structure i6(ZZ:List (Str×Addr))(sc:Scope)(C:Addr)(h:Heap):Prop where
 bq:∀x c,(fu ZZ sc C).lookup x=some c->(C<c/\h.IsCell c none/\(x,PR.cell)∈sc.names)\/(ZZ.lookup x=some c/\(x,PR.free)∈sc.names)
 inj:∀x y c,(fu ZZ sc C).lookup x=some c->(fu ZZ sc C).lookup y=some c->C<c->x=y\/(ZZ.lookup x=some c\/ZZ.lookup y=some c)
theorem wj:∀{a b:List (Str×Addr)},(a++b).lookup x=(a.lookup x).or (b.lookup x)
 | [],b=>rfl
 | (y,c)::r,b=>by
  rw [QX,RI,RI];cases x==y with
  | true=>rfl
  | false=>exact wj
theorem i6.mk'(G:h.objs.size=C+1):i6 F sc C (Rj h sc.names):=by
 have ok:=cellsFrom_ok sc.names h (C+1) [] {λ_ _ J=>(nomatch J),Pairwise.nil} (RR G.symm);rw [G] at ok;have sp:∀x c,(fu F sc C).lookup x=some c->(x,c)∈QC (C+1) sc.names []\/(F.lookup x=some c/\(x,PR.free)∈sc.names):=λx c h=>by
  unfold fu at h;rw [j6,wj] at h;cases e:(QC (C+1) sc.names []).lookup x with
  | some d=>rw [e] at h;cases h;exact .inl (Qg e)
  | none =>
   rw [e] at h;rcases wN (show (cz F sc.names []).lookup x=some c from h) with h|h
   .cases h
   .exact .inr h
 refine {λx c h=>?_,λx y c h1 h2 _=>?_}
 .rcases sp x c h with h|h
  .refine .inl {(ok.empty x c h).2,(ok.empty x c h).1,?_};rcases oR h with h|h
   .cases h
   .exact h
  .exact .inr h
 .rcases sp x c h1 with a|a
  .rcases sp y c h2 with b|b
   .exact .inl (PySem.name_of_addr ok.apart a b)
   .exact .inr (.inr b.1)
  .exact .inr (.inl a.1)
theorem wW{code:Value}(S:Q (newEnv scope s.heap.objs.size O (QC (s.heap.objs.size+1) scope.names J) qual F code (some outer) R8) { s with heap:=Rj (s.heap.push { cls:=.type "dict",data:=.dict #[] }) scope.names }):
  Oz M A (newFunctionEnv scope O J [] qual F code (some outer)) Q E s:=by
 simp only [newFunctionEnv,isSome_some,if_true];refine we (wpAny_alloc ?_);refine we (wpAny_layCells _ (λname kind U=>by cases G:kind==PR.cell<;>simp [G]) _ _ _ _ ?_);rw [show ({ s with heap:=s.heap.push { cls:=.type "dict",data:=.dict #[] } }:Oq).heap.objs.size=s.heap.objs.size+1 from Rh ..];exact we (Os (Os S))
def bb(sc:Scope)(names:List (Str×PR))(N N':List Str)(ix:List (Option Nat)):Bool :=
 sc.kind == .function&&sc.names.all (λy=>(y.2 != .cell||sc.names.lookup y.1==some .cell)&&(y.2 != .local||sc.names.lookup y.1==some .local)&&(y.2 != .free||(names.lookup y.1==some .cell&&sc.names.lookup y.1==some .free)) ) &&
 ix.length==N'.length&&(Pm ix.length).all (λi=>match ix.getD i none with
  | none=>true
  | some j=>(match N'[i]?,N[j]? with|some x,some y=>x==y&&sc.names.lookup x==some .free|_,_=>false))
def cq(ix:List (Option Nat))(σ:St):St:=ix.map λo=>o.bind λj=>(σ[j]?).join
structure z6(X:Cx)(sc:Scope)(N':List Str)(ix:List (Option Nat)):Prop where
 kind:sc.kind = .function
 cell:∀y∈sc.names,y.2 = .cell->sc.names.lookup y.1=some .cell
 names:∀y∈sc.names,y.2 = .local->sc.names.lookup y.1=some .local
 free:∀y∈sc.names,y.2 = .free->X.env.kindOf y.1=some .cell/\sc.names.lookup y.1=some .free
 len:ix.length=N'.length
 at_:∀(i j:Nat),ix[i]?=some (some j)->∃x,N'[i]?=some x/\X.N[j]?=some x/\sc.names.lookup x=some .free
theorem z6.of(h:bb sc X.env.scope.names X.N N' ix=true):z6 X sc N' ix:=by
 unfold bb at h;simp only [O5,Pg] at h;obtain ⟨⟨⟨h1,h2⟩,h3⟩,h4⟩:=h;refine {by simpa using h1,λy F G=>?_,λy F G=>?_,λy F G=>?_,by simpa using h3,λi j e=>?_}
 .have q:=(h2 y F).1.1;rw [G] at q;simpa using q
 .have q:=(h2 y F).1.2;rw [G] at q;simpa using q
 .have q:=(h2 y F).2;rw [G] at q;simp only [bne_self_eq_false,Bool.false_or,O5,beq_iff_eq] at q;exact q
 .have hi:i<ix.length:=(OG.mp e).1;have:=h4 i (Sw.mpr hi);have S:ix.getD i none=some j:=by rw [OM,e];rfl
  rw [S] at this;dsimp only at this;cases J:N'[i]? with
  | none=>rw [J] at this;simp at this
  | some x =>
   cases O:X.N[j]? with
   | none=>rw [J,O] at this;simp at this
   | some y =>
    rw [J,O] at this;simp only [O5,beq_iff_eq] at this;exact {x,rfl,by rw [this.1],this.2}
def zz(X:Cx)(sc:Scope)(N':List Str)(Go:List (Addr×Obj))(C:Addr)(fp:List Addr)(s:Oq)(H:Hp):Cx :=
 { X with N:=N',s₀:=s,H₀:=H,env:=compEnvC sc (fu X.env.cells sc C) C X.env,outer:=X.stack,stack:=X.stack,ex:=fp,fn:=λx=>sc.names.lookup x==some .cell,pn:=X.pn++Go,xe:=λ_ _=>False }
theorem HOk.add{o:HO}(x:HOk P w H h)(G:H D=none)(new:aq P w (upd H D o) h D o):HOk P w (upd H D o) h:=λb u e=>by
 by_cases F:b=D
 .subst F;rw [zA] at e;cases e;exact new
 .rw [zg F] at e;exact (x b u e).U4 (λ_ _ _ q=>q) (λc q=>by rw [zg (zH q G)];exact q) λc xs q=>by rw [zg (zH q G)];exact q
theorem HOk.but(x:HOk P w H h)(F:H C=none)(k:∀b u,b≠C->h.get? b=some u->h'.get? b=some u):HOk P w H h':=λb u e =>
 (x b u e).U4 (λc v G q=>k c v (by
  rcases G with z|z
  .rw [z];exact zH e F
  .exact zH z F) q) (λ_ q=>q) λ_ _ q=>q
theorem Cz(S:env.scope.kind = .function)(hf:∀y∈sc.names,y.2 = .free->env.kindOf y.1=some .cell):
  ∀x,(relabel sc env).names.lookup x=(sc.names.lookup x).map λk=>if k == .free then .cell else k:=by
 intro x;have em:(relabel sc env).names=sc.names.map λy=>(y.1,if y.2 == .free then PR.cell else y.2):=by
  show sc.names.map _=_;refine PV λy J=>?_;obtain ⟨n,k⟩:=y;by_cases F:k = .free
  .subst F;have e:env.kindOf n=some .cell:=hf (n,.free) J rfl;simp [S,e]
  .have O:(k==PR.free)=false:=by simpa using F
   simp [O]
 rw [em];generalize sc.names=l
 induction l with
 | nil=>rfl
 | cons y r G =>
  obtain ⟨n,k⟩:=y;simp only [PP,RI];cases x==n with
  | true=>rfl
  | false=>exact G
section
variable {X:Cx}{sc:Scope}{N':List Str}{ix:List (Option Nat)}
theorem Gv{i:Nat}(h:(cq ix σ)[i]?=some (some v)):∃j,ix[i]?=some (some j)/\σ[j]?=some (some v):=by
 unfold cq at h;rw [OT] at h;cases e:ix[i]? with
 | none=>rw [e] at h;cases h
 | some o =>
  rw [e] at h;have h':(o.bind λj=>(σ[j]?).join)=some v:=Pa.inj h;cases o with
  | none=>cases h'
  | some j =>
   have F:(σ[j]?).join=some v:=h';cases G:σ[j]? with
   | none=>rw [G] at F;cases F
   | some z =>
    rw [G] at F;have:z=some v:=F;exact {j,rfl,by rw [G,this]}
theorem vW(I:Inv X Go σ H s)(L:z6 X sc N' ix)(f:∀b∈fp,aE X Go H b)(fl:∀b∈fp,b<s.heap.objs.size)(S:s.heap.objs.size<=C)(av:h₁.Ns C m)(old:∀b o,s.heap.get? b=some o->h₁.get? b=some o)(own:i6 X.env.cells sc C h₁):
  Inv (zz X sc N' Go C fp s H) [] (cq ix σ) H { s with heap:=h₁,toks:=tk }:=by
 have lt:∀{x c},X.env.cells.lookup x=some c->¬ C<c:=λ{x c} h=>by
  obtain ⟨_,q⟩:=I.cell x c h;have:=q.lt;lia
 have rl:=Cz (sc:=sc) (env:=X.env) I.ok.kind λy hy G=>(L.free y hy G).1;have O:∀x,sc.names.lookup x=some .free->∃c,(fu X.env.cells sc C).lookup x=some c/\X.env.cells.lookup x=some c:=λx hx=>by
  have hm:(x,PR.free)∈sc.names:=Qg hx;obtain ⟨c,hc⟩:=I.ok.has x (.inl (L.free _ hm rfl).1);obtain ⟨c',U⟩:=TQ.mp (lL (names:=sc.names) (n:=C+1) (su (cs:=[]) hm hc));rcases own.bq x c' U with a|a
  .have:=L.cell _ a.2.2 rfl;rw [hx] at this;cases this
  .exact ⟨c',U,a.1⟩
 refine {{I.ok.mod,L.kind,I.ok.glob,I.ok.blt,S,λx y c h1 h2=>?_,λx hx=>?_,λx c h h'=>?_,I.ok.hd,I.ok.frames,.inl rfl,λb J=>{Pl (OX (fl b J) S),λx c h=>?_},
   I.bs,Pj I.ok.bf I.sz,λb o e J=>?_,λb J z=>?_,I.stack,I.VD},rfl,I.bare,Un.kept old,{m,av,λi x v e1 e2 e3=>?_},λx c h=>?_,I.hok.fresh S,λx c h=>?_,λp hp=>?_,I.hok.kept old,?_,I.hdk}
 .rcases own.bq x c h1 with a|a<;>rcases own.bq y c h2 with b|b
  .rcases own.inj x y c h1 h2 a.1 with e|e|e
   .exact e
   .exact absurd a.1 (lt e)
   .exact absurd a.1 (lt e)
  .exact absurd a.1 (lt b.1)
  .exact absurd b.1 (lt a.1)
  .exact I.ok.inj x y c a.1 b.1
 .have F:(relabel sc X.env).names.lookup x=some .cell\/(relabel sc X.env).names.lookup x=some .free:=hx;rw [rl x] at F;cases e:sc.names.lookup x with
  | none=>rw [e] at F;simp at F
  | some k =>
   have G:k = .free\/k = .cell:=by
    cases k with
    | free=>exact .inl rfl
    | cell=>exact .inr rfl
    | _=>rw [e] at F;revert F;decide
   rcases G with G|G
   .subst G;obtain ⟨c,h1,_⟩:=O x e;exact ⟨c,h1⟩
   .subst G;exact TQ.mp (ng (Qg e))
 .rcases own.bq x c h' with a|a
  .exact Pj S (RW a.1)
  .have:=(L.free _ a.2 rfl).2;have h:(sc.names.lookup x==some .cell)=true:=h;rw [this] at h;exact absurd h 'd'
 .rcases own.bq x c h with a|a
  .have:=fl b J;have:=a.1;exact λz=>by subst z;lia
  .exact (f b J).2.2.2.2.1 x c a.1
 .rcases (f b J).2.2.2.1 with z|z
  .exact I.ok.aU b o e z
  .exact absurd (OX (O2 (I.ok.bs b o e).1) z) (Ph _)
 .rcases OK.mp (I.U3 b z) with e|e
  .exact (f b J).2.1 e
  .exact (f b J).2.2.1 e
 .obtain ⟨j,hj,hv⟩:=Gv e2;obtain ⟨y,n1,n2,n3⟩:=L.at_ i j hj;have ai:x=y:=Pa.inj ((show N'[i]?=some x from e1).symm.trans n1);subst ai;obtain ⟨c,c1,c2⟩:=O x n3;have kf:=(L.free _ (Qg n3) rfl).1;obtain ⟨m0,ax,hl⟩:=I.loc;obtain ⟨u,r,l⟩:=hl j x v n2 hv (.inr (.inl kf));refine {u,r,.inr {.inl ?_,c,c1,?_}}
  .show (relabel sc X.env).names.lookup x=some .cell;rw [rl x,n3];rfl
  .rcases l with ⟨G,_⟩|⟨_,c',U,z⟩
   .have W:X.env.kindOf x=some .cell:=kf;rw [G] at W;cases W
   .rw [c2] at U;cases U;obtain ⟨oc,ho,hd⟩:=z;exact {oc,old _ _ ho,hd}
 .rcases own.bq x c h with a|a
  .exact {_,a.2.1}
  .obtain ⟨v,oc,ho,hd⟩:=I.cell x c a.1;exact {v,oc,old _ _ ho,hd}
 .rcases own.bq x c h with a|a
  .exact I.hok.fresh (Pj S (RW a.1))
  .exact I.J7 x c a.1
 .have Z:p∈X.pn++Go:=by
   have:p∈(X.pn++Go)++[]:=hp;simpa using this
  obtain ⟨a,b,c,d,e⟩:=I.pin p Z;exact {old _ _ a,b,Pl (OX (O2 a) S),λz=>(OK.mp (I.U3 p.1 z)).elim c d,e}
 .show (cq ix σ).length=N'.length;unfold cq;rw [Ow,L.len]
end
def PTs(X:Cx)(F:List OZ)(t:TT):Prop :=
 ∀(Go:List (Addr×Obj))(s:Oq)(σ:St)(H:Hp)(Q:Bool->Hp->Prop),Inv X Go σ H s->t σ H Q ->
  Oz (OI X.prog X.w) X.A (forIn F true λc r=>if r=true then do let ok<-isTrue c X.env (Qc c X.env);pure (ForInStep.yield ok) else pure (ForInStep.yield r)) (TP X Go σ Q) X.xe s
def me:TT:=λ_ H Q=>Q true H
theorem cn:W (PTs X [] me):={λ_ _ _ H _ I h=>wpAny_tests_nil ⟨H,I,h⟩}
theorem nG{t:TT}(h:W (PT X c t)):W (PTs X [c] t):=by refine {?_};have h:=h.h;exact λGo s σ H Q I q=>wpAny_tests_one (h Go s σ H Q I q)
theorem GD{e tg iter : OZ}{Zt : List OZ}(hct : (∀ B : OR, B.under (.compLoop e 0 it Z2 env) = B) ∧ (OI prog w).den (.compLoop e 0 it Z2 env) = Sem.onRaise (do
      Re iter.pos
      match ← RS it with
      | none => pure (.done .next)
      | some v =>
        QU tg it v
        Tp tg env v
        let mut ok := true
        for c in Zt do
          if ok then ok ← isTrue c env (Qc c env)
        if ok then
          em
        again (.compLoop e 0 it Z2 env)) (fun x => do Sv x env; theTreesLotGoes x))(I:Nat->Oq->Prop)(Z:∀n s,I n s->Oz (OI prog w) A (RS it) (λr s₁=>match r with
   | none=>R (.ok .next) s₁
   | some v=>Oz (OI prog w) A (QU tg it v) (λ_ F=>Oz (OI prog w) A (Tp tg env v) (λ_ G =>
     Oz (OI prog w) A (forIn Zt true λc r=>if r=true then do let ok<-isTrue c env (Qc c env);pure (ForInStep.yield ok) else pure (ForInStep.yield r)) (λok s₃ =>
      if ok=true then Oz (OI prog w) A em (λ_ J=>∃m,m<n/\I m J) (λ_ _=>False) s₃
      else ∃m,m<n/\I m s₃) (λ_ _=>False) G) (λ_ _=>False) F) (λ_ _=>False) s₁) (λ_ _=>False) s)(n:Nat)(h:I n s):QE (OI prog w) A (.compLoop e 0 it Z2 env) R s:=by
 refine codeAny_loop rfl I (λn s hI=>?_) n h;rw [hct.1,hct.2];refine wpAny_noted (O3 (E:=λ_ _=>False) ?_ (λ_ _ q=>q) λ_ _ z=>z.elim);refine we (Pn (we (O3 (Z n s hI) (λr s₁ h₁=>?_) λ_ _ h'=>h')));cases r with
 | none=>exact Os h₁
 | some v =>
  refine we (O3 h₁ (λ_ F S=>?_) λ_ _ h'=>h');refine we (O3 S (λ_ G W=>we (O3 W (λok s₃ O=>?_) λ_ _ h'=>h')) λ_ _ h'=>h');cases ok with
  | false=>exact Os {rfl,O}
  | true=>exact we (O3 O (λ_ J U=>Os {rfl,U}) λ_ _ h'=>h')
def tLC(ix:List (Option Nat))(wi:TI)(g:TG)(tt:TT)(te:TE):TE:=λσ H Q=>wi σ H λJ H1=>∃W:Nat->Nat->St->List V->Hp->Prop,(∃m,W 0 m (cq ix σ) [] H1)/\∀i m τ ys H2,W i m τ ys H2->ys.length<sizeLine /\
 ((J.stop i H2 ∧ ∀ D, H2 D = none → D ≠ sysModules → Q (.ref D) (upd H2 D (.lst ys))) ∨
  (J.go i H2 ∧ ∀ x H3, J.bg i H2 x H3 → g x τ H3 fun F H4 => tt F H4 fun ok H5 => if ok = true then te F H5 fun y H6 => ∃ G, G < m ∧ W (i + 1) G F (ys ++ [y]) H6 else ∃ G, G < m ∧ W (i + 1) G F ys H5))
theorem vI{α:Type}{Q:VK}{em:Addr->Env->Sem Unit}(len:α->Nat)(ho:α->HO)(a0:α)(At:α->Obj->Prop)(tm:(α->Hp->Prop)->α->St->Hp->Prop)(Xn:clausesOf e=[{tg,iter,Zt,0}])(hsz:sizeOk dt)(c4:∀it D env,(∀B:OR,B.under (.compLoop e 0 it (.ref D) env)=B)/\(OI X.prog X.w).den (.compLoop e 0 it (.ref D) env)=Sem.onRaise (do
   Re iter.pos
   match<-RS it with
   | none=>pure (.done .next)
   | some v =>
    QU tg it v
    Tp tg env v
    let mut ok:=true
    for c in Zt do
     if ok then ok<-isTrue c env (Qc c env)
    if ok then
     em D env
    again (.compLoop e 0 it (.ref D) env)) (λx=>do Sv x env;theTreesLotGoes x))(hst:∀{A:OR}{R:T2->Oq->Prop}{s:Oq}{it Z2:Value}{env:Env},QE (OI X.prog X.w) A (.compLoop e 0 it Z2 env) R s->Oz (OI X.prog X.w) A (pyIter it) (λb9 s'=>QE (OI X.prog X.w) A (.compLoop e 0 b9 Z2 env) R s') (notedBy (OI X.prog X.w) A env λx s'=>R (.error x) s') s->QE (OI X.prog X.w) A (.compStart e 0 it Z2 env) R s)(h0:At a0 { cls:=.type T,dict:=none,data:=dt })(Yv:({ cls:=.type T,dict:=none,data:=dt }:Obj).isFreed=false)(a9:∀{ys o},At ys o->∀v,o.data≠.cell v)(b6:∀{ys o H' h D},At ys o->len ys<sizeLine->D≠sysModules->h.get? D=some o->aq X.prog X.w H' h D (ho ys))(c0:∀Go C fp s H pins' s8 τ H8 ys ob D (K:α->Hp->Prop),Inv (zz X sc N' Go C fp s H) pins' τ H8 s8->tm K ys τ H8->At ys ob->len ys<sizeLine->(D,ob)∈pins' ->
   Oz (OI X.prog X.w) X.A (em D (zz X sc N' Go C fp s H).env) (λ_ s'=>∃s9 bt H9 ax h' tk,s'={ s9 with heap:=h',toks:=tk }/\K bt H9/\Inv (zz X sc N' Go C fp s H) pins' τ H9 s9/\At bt ax/\h'.get? D=some ax/\Qw D s9.heap h') (λ_ _=>False) s8)(hc:c=true->X.calm=true)(L:z6 X sc N' ix)(hi:PIc c X tg iter wi)(hg:∀Go C fp s H,PG (zz X sc N' Go C fp s H) tg g)(ht:∀Go C fp s H,PTs (zz X sc N' Go C fp s H) Zt tt)(hs:∀x,Pd iter X.env x=pure x)(I:Inv X Go σ H s)(h:wi σ H λJ H1=>∃W:Nat->Nat->St->α->Hp->Prop,(∃m,W 0 m (cq ix σ) a0 H1)/\∀i m τ ys H2,W i m τ ys H2->len ys<sizeLine /\
   ((J.stop i H2 ∧ ∀ D, H2 D = none → D ≠ sysModules → Q (.ref D) (upd H2 D (ho ys))) ∨
    (J.go i H2 ∧ ∀ x H3, J.bg i H2 x H3 → g x τ H3 fun aT H4 => tt aT H4 fun ok H5 => if ok = true then tm (fun zs H6 => ∃ m', m' < m ∧ W (i + 1) m' aT zs H6) ys aT H5 else ∃ m', m' < m ∧ W (i + 1) m' aT ys H5)))(kk:∀(C D:Addr)(oC:Obj)(H':Hp)(s5:Oq)(m5:Str->Option Value),Inv X (Go++[(C,oC)]) σ H' s5->(∀{G:Heap},G.get? C=some oC->G.Ns C m5)->(∀{bP:St}{a5:Hp}{s':Oq}{h':Heap},Inv X Go bP a5 s'->a5 C=none->Qw C s'.heap h'->Inv X Go bP a5 { s' with heap:=h' })->Q (.ref D) H'->compPost (OI X.prog X.w) X.A X.xe use R (.ref D) C (.ok .next) s5):
  Oz (OI X.prog X.w) X.A (SE e sc X.env (SZ [{tg,iter,Zt,0}] pos) (newObj (.type T) dt none) (UB [{tg,iter,Zt,0}]) (firstIter [{tg,iter,Zt,0}] X.env) use) R X.xe s:=by
 have Xb:RK sc X.env=pure (cz X.env.cells sc.names []):=uj λy hy hk=>I.ok.has y.1 (.inl (L.free y hy hk).1);refine wpAny_comprehension_free (use:=use) Xn hs Xb L.kind L.names (thn (hi Go s σ H _ I h) λv s1 h1=>thn h1 λdK s2 h2=>?_);obtain ⟨it,fp,tn,J,H2,e,S,T',bq,f2,W,⟨m0,w0⟩,Yr⟩:=h2;subst e;refine Pp (wW ?_) hsz;dsimp only;generalize a6:s2.heap.push { cls:=.type T,dict:=none,data:=dt }=G2;have hC:G2.objs.size=s2.heap.objs.size+1:=by rw [<- a6,Rh]
 have b0:s2.heap.objs.size≠G2.objs.size:=by rw [hC];exact Pl (RO _)
 have Yi:s2.heap.objs.size<=G2.objs.size:=by rw [hC];exact RA _
 have below:∀b,b<s2.heap.objs.size->b≠G2.objs.size/\b≠s2.heap.objs.size:=λb F=>{by rw [hC];exact Pl (Rb F),Pl F};have old:∀b o,s2.heap.get? b=some o->(Rj (G2.push { cls:=.type "dict",data:=.dict #[] }) sc.names).get? b=some o:=λb o e=>Rw _ _ _ _ (Ot _ (a6 ▸ Ot _ e));have Xa:(Rj (G2.push { cls:=.type "dict",data:=.dict #[] }) sc.names).Ns G2.objs.size λ_=>none:=(Ns.new G2 (.type "dict")).keeps (Rw _ _);have own:i6 X.env.cells sc G2.objs.size (Rj (G2.push { cls:=.type "dict",data:=.dict #[] }) sc.names):=.mk' (Rh ..);have Zc:(Rj (G2.push { cls:=.type "dict",data:=.dict #[] }) sc.names).get? s2.heap.objs.size=some { cls:=.type T,dict:=none,data:=dt }:=Rw _ _ _ _ (Ot _ (a6 ▸ ON _ Yv));generalize Rj (G2.push { cls:=.type "dict",data:=.dict #[] }) sc.names=h₁ at old Xa own Zc ⊢;have fl:∀b∈fp,b<s2.heap.objs.size:=λb F=>by
  obtain ⟨o,e,_⟩:=T'.obj 0 _ bq b F;exact O2 e
 have Yh:s2.heap.objs.size∉fp:=λz=>Ph _ (fl _ z);generalize Z:s2.heap.objs.size=D at *
 generalize dy:G2.objs.size=C at *
 have bx:tn 0 h₁:=T'.keep _ _ _ bq λb _ o e=>old b o e;have I3:Inv (zz X sc N' Go C fp s2 H2) [] (cq ix σ) H2 { s2 with heap:=h₁ }:=vW (tk:=s2.toks) S L f2 (λb F=>by rw [Z];exact fl b F) (by rw [Z];exact Yi) Xa old own;have D0:H2 D=none:=S.hok.fresh (RR Z);have fD:∀{H':Hp},H' D=none->aE (zz X sc N' Go C fp s2 H2) [] H' D:=λ{H'} hn=>by
  refine {hn,b0,λz=>?_,.inr (RR Z),λx c hx z=>?_,λp G z=>?_}
  .obtain ⟨_,o,ho,_⟩:=S.stack.mem (show D∈frs X.stack from z);exact absurd (O2 ho) (by rw [Z];exact Ph _)
  .rcases own.bq x c hx with a|a
   .have:=a.1;rw [z] at this;exact absurd this (TZ.mpr Yi)
   .obtain ⟨v,q⟩:=S.cell x c a.1;have:=q.lt;rw [z,Z] at this;exact Ph _ this
  .have cv:p∈X.pn++Go:=by
    have:p∈(X.pn++Go)++[]:=G;simpa using this
   have:=O2 (S.pin p cv).1;rw [z,Z] at this;exact Ph _ this
 have fF:∀{H':Hp},(∀b∈fp,H' b=none)->∀b∈fp,aE (zz X sc N' Go C fp s2 H2) [] H' b:=λ{H'} hn b F=>by
  obtain ⟨_,g1,g2,g3,g4,g5⟩:=f2 b F;refine {hn b F,(below b (fl b F)).1,λz=>?_,.inl F,λx c hx=>?_,λp G=>g5 p ?_}
  .rcases OK.mp (S.U3 b z) with e|e
   .exact g1 e
   .exact g2 e
  .rcases own.bq x c hx with a|a
   .have:=a.1;have:=fl b F;exact λz=>by subst z;lia
   .exact g4 x c a.1
  .have:p∈(X.pn++Go)++[]:=G;simpa using this
 have a3:∀s₃:Oq,s₃={ s2 with heap:=h₁ } ->
   QE (OI X.prog X.w) X.A (.compLoop e 0 (.ref it) (.ref D) (compEnvC sc (fu X.env.cells sc C) C X.env))
    (compPost (OI X.prog X.w) X.A X.xe use R (.ref D) C) s₃:=by
  rintro s₃ rfl;refine GD (c4 _ _ _) (λn s'=>∃i τ ys H',Inv (zz X sc N' Go C fp s2 H2) [] τ H' s'/\tn i s'.heap/\(∀b∈fp,H' b=none)/\H' D=none/\(∃ob,At ys ob/\s'.heap.get? D=some ob)/\W i n τ ys H')
   ?_ m0 {0,_,a0,H2,I3,bx,λb F=>(f2 b F).1,D0,{_,h0,Zc},w0}
  rintro n s4 ⟨i,τ,ys,H4,I4,b8,ba,O,⟨ob,av,dg⟩,w4⟩;obtain ⟨ZL,step⟩:=Yr i n τ ys H4 w4;rcases step with ⟨stop,Zi⟩|⟨go,step⟩
  .refine thn (T'.done (zz X sc N' Go C fp s2 H2) rfl rfl rfl hc i [(D,ob)] s4 τ H4 (λ_ _=>False) (I4.zk λp G=>?_) (λb F=>?_) b8 stop) λr s5=>x2e λhr I5=>?_
   .have e:p=(D,ob):=by simpa using G
    subst e;obtain ⟨g0,g1,g2,_⟩:=fD O;exact {dg,g0,g1,g2,a9 av}
   .obtain ⟨g0,g1,g2,g3,g4,g5⟩:=fF ba b F;refine {g0,g1,g2,g3,g4,λp G=>?_};rcases OY.mp G with z|z
    .exact g5 p (O4 _ z)
    .have e:p=(D,ob):=by simpa using z
     subst e;exact λq=>Yh (by have q':D=b:=q;rw [q'];exact F)
   .subst hr;have da:=(I5.pin (D,_) (Ox _ (OS.mpr rfl))).1;obtain ⟨m5,cD,_⟩:=id I5.loc;have ZE:∀b o,s2.heap.get? b=some o->b≠C/\b≠D:=λb o e=>by
     have:=O2 e;rw [Z] at this;exact below b this
    have b7:D≠sysModules:=by have h:OH<s2.heap.objs.size:=(S.mod.glob.keeps S.bk).lt;rw [Z] at h;exact RU (Ra 'd' h)
    have U:=I5.base;have IX:Inv X Go σ (upd H4 D (ho ys)) s5:=by
     refine S.aX (s':=s5) (ch:=fp) I5.os {λb o e n F hx=>U.keep b o e n F hx,λb o e n F hx=>U.slot b o e n F hx,λb o e n hx=>?_,λb o e hx=>U.there b o e hx,λb xs e=>?_,λb o u e=>?_,λb ps e=>?_} ?_ I5.bare (λb F=>?_)
     .rw [zg (ZE b o e).2];exact U.free b o e n hx
     .have q:=U.tups b xs e;rw [zg (zH q O)];exact q
     .have q:=U.frzs b o u e;rw [zg (zH q O)];exact q
     .obtain ⟨more,q⟩:=U.tbls b ps e;exact {more,by rw [zg (zH q O)];exact q}
     .exact I5.hok.add O (b6 av ZL b7 da)
     .obtain ⟨_,g1,g2,g3,g4,g5⟩:=f2 b F;exact ⟨g3,g1,g4,g5⟩
    obtain ⟨oC,cP,c2,gC,rC⟩:=id cD;have a8:∀v,oC.data≠.cell v:=λv z=>by rw [rC.1] at z;cases z
    have b5:C≠D:=Pt b0;have HC:upd H4 D (ho ys) C=none:=by rw [zg b5];exact I5.free
    have a4:C≠X.env.locals:=λz=>by
     have:=S.lt;rw [<- z,Z] at this;exact absurd (OX this Yi) (Ph _)
    have ct:C∉X.fs:=S.cq (by rw [Z];exact Yi);have c5:=IX.zk (pins':=Go++[(C,oC)]) λp G=>by
     rcases OY.mp G with z|z
     .exact IX.pin p (Ox _ z)
     .rw [OS.mp z];exact ⟨gC,HC,a4,ct,a8⟩
    refine kk C D oC _ s5 m5 c5 (λe=>⟨oC,cP,c2,e,rC⟩) (λ{du H6 s6 h'} I7 cp Xu=>I7.turned (t':=s6.toks) (it:=C) (λb o F e=>(Xu.2 b F).trans e) cp a4 (.inr (Pj S.sz (by rw [Z];exact Yi))) (λx c hx z=>?_) (λp G z=>?_)) (Zi D O b7)
    .obtain ⟨v,q⟩:=S.cell x c hx;have:=q.lt;rw [z,Z] at this;exact absurd (OX this Yi) (Ph _)
    .have:=O2 (S.pin p G).1;rw [z,Z] at this;exact absurd (OX this Yi) (Ph _)
  .refine thn (T'.item (zz X sc N' Go C fp s2 H2) rfl rfl rfl hc i [(D,ob)] s4 τ H4 (λ_ _=>False) (I4.zk λp G=>?_) (λb F=>?_) b8 go) λr s5=>x3e λu hr h5=>?_
   .have e:p=(D,ob):=by simpa using G
    subst e;obtain ⟨g0,g1,g2,_⟩:=fD O;exact {dg,g0,g1,g2,a9 av}
   .obtain ⟨g0,g1,g2,g3,g4,g5⟩:=fF ba b F;refine {g0,g1,g2,g3,g4,λp G=>?_};rcases OY.mp G with z|z
    .exact g5 p (O4 _ z)
    .have e:p=(D,ob):=by simpa using z
     subst e;exact λq=>Yh (by have q':D=b:=q;rw [q'];exact F)
   .subst hr;refine thn h5 λ_ s6=>x5e λx H6 I6 r6 Yc=>?_;obtain ⟨y6,a7,cC⟩:=Yc;obtain ⟨aI,dc,_⟩:=I6.pin (D,_) (Ox _ (OS.mpr rfl));have bf:H6 D=none:=dc;have bL:∀b∈D::fp,aE (zz X sc N' Go C fp s2 H2) [] H6 b:=λb F=>by
     rcases OK.mp F with z|z
     .subst z;exact fD bf
     .exact fF cC b z
    have bp:∀b∈D::fp,∃o,s6.heap.get? b=some o/\∀v,o.data≠.cell v:=λb F=>by
     rcases OK.mp F with z|z
     .subst z;exact {_,aI,a9 av}
     .exact T'.obj _ _ a7 b z
    have c3:=(I6.q0 (Go:=[])).pinned bL bp;refine thn (hg Go C fp s2 H2 _ s6 τ H6 x u _ c3 r6 (step x H6 y6)) λ_ s7=>x4e λai H7 I7 q7=>?_;refine thn (ht Go C fp s2 H2 _ s7 ai H7 _ I7 q7) λok s8=>x3e λH8 I8 q8=>?_;have back:∀{s9:Oq}{H9:Hp},Inv (zz X sc N' Go C fp s2 H2) ([]++fe (D::fp) s6.heap) ai H9 s9->s9.heap.get? D=some ob/\H9 D=none/\tn (i+1) s9.heap/\∀b∈fp,H9 b=none:=λ{s9 H9} I9=>by
     have pin:∀b o,b∈D::fp->s6.heap.get? b=some o->s9.heap.get? b=some o/\H9 b=none:=λb o F e=>by
      have q:=I9.pin (b,o) (Ox _ (Ox _ (dA F e)));exact ⟨q.1,q.2.1⟩
     refine {(pin D _ OB aI).1,(pin D _ OB aI).2,T'.keep _ _ _ a7 λb F o e=>(pin b o (Oy _ F) e).1,λb F=>?_};obtain ⟨o,e,_⟩:=T'.obj _ _ a7 b F;exact (pin b o (Oy _ F) e).2
    cases ok with
    | false =>
     obtain ⟨b1,b2,b3,b4⟩:=back I8;simp only [Qu,if_false] at q8 ⊢;obtain ⟨m',hm,w'⟩:=q8;exact {m',hm,i+1,ai,ys,H8,I8.q0,b3,b4,b2,⟨ob,av,b1⟩,w'}
    | true =>
     simp only [if_true] at q8 ⊢;refine thn (c0 Go C fp s2 H2 _ s8 ai H8 ys ob D _ I8 q8 av ZL (Ox _ (dA OB aI))) λ_ s'=>?_;rintro ⟨s9,zs,H9,ax,dp,tk,rfl,⟨m',hm,w'⟩,I9,df,c6,sb⟩;obtain ⟨b1,b2,b3,b4⟩:=back I9;obtain ⟨_,g1,_,g3,g4,g5⟩:=fD b2;exact {m',hm,i+1,ai,zs,H9,(I9.q0 (Go:=[])).turned (t':=tk) (λb o F e=>(sb.2 b F).trans e) b2 g1 g3 g4 g5,T'.keep _ _ _ b3 λb F o e=>(sb.2 b λq=>Yh (by rw [<- q];exact F)).trans e,b4,b2,⟨ax,df,c6⟩,w'}
 exact hst (a3 _ rfl) (T'.self _ 0 _ _ _ bx (a3 _ rfl))
theorem yc(hc:c=true->X.calm=true)(L:z6 X sc N' ix)(hi:PIc c X tg iter wi)(hg:∀Go C fp s H,PG (zz X sc N' Go C fp s H) tg g)(ht:∀Go C fp s H,PTs (zz X sc N' Go C fp s H) G tt)(he:∀Go C fp s H,PE (zz X sc N' Go C fp s H) Y7 te)(hs:∀x,Pd iter X.env x=pure x)(I:Inv X Go σ H s)(h:tLC ix wi g tt te σ H Q)(kk:∀(C D:Addr)(Z:Obj)(H':Hp)(s5:Oq)(m5:Str->Option Value),Inv X (Go++[(C,Z)]) σ H' s5->(∀{hp:Heap},hp.get? C=some Z->hp.Ns C m5)->(∀{O:St}{F:Hp}{s':Oq}{h':Heap},Inv X Go O F s'->F C=none->Qw C s'.heap h'->Inv X Go O F { s' with heap:=h' })->Q (.ref D) H'->compPost (OI X.prog X.w) X.A X.xe use R (.ref D) C (.ok .next) s5):
  Oz (OI X.prog X.w) X.A (SE (.ListComp Y7 [{tg,iter,G,0}] sc pos) sc X.env (SZ [{tg,iter,G,0}] pos) (newList []) (UB [{tg,iter,G,0}]) (firstIter [{tg,iter,G,0}] X.env) use) R X.xe s:=by
 refine vI (e:=.ListComp Y7 [{tg,iter,G,0}] sc pos) (em:=λD env=>do let _<-call (.builtin "list.append") [.ref D,<- Qc Y7 env]) (T:="list") (dt:=.seq ([]:List Value).toArray) Tj HO.lst [] (λys o=>∃its k,zx ys its/\o={ cls:=.type "list",data:=.seq its.toArray k }) (λK ys τ H=>te τ H λy H'=>K (ys++[y]) H') rfl (by size_fits) (λ_ _ _=>{λ_=>rfl,rfl}) codeAny_compStart_list {[],0,.nil,rfl} rfl ?_ ?_ ?_ hc L hi hg ht hs I h kk
 .rintro ys o ⟨its,k,_,rfl⟩ v z;cases z
 .rintro ys o H' h D ⟨its,k,S,rfl⟩ hl _ e;exact {RW hl,its,k,S,e}
 .rintro Go C fp s H pins' s8 τ H8 ys ob D K I8 q8 ⟨its,k,S,rfl⟩ hl hD;refine we (thn (he Go C fp s H _ s8 τ H8 _ I8 q8) λy W=>x5e λyv H9 I9 r9 w'=>?_);have el:its.toArray.size<=sizeLine:=by
   have:=S.length;simp only [OQ];lia
  refine we (append_at (hsz:=el) (I9.pin _ (Ox _ hD)).1 λU sb J=>Os {W,_,H9,_,U,W.toks,rfl,w',I9,{its++[y],k+1,S.append (.cons r9 .nil),rfl},?_,sb});rw [J];simp
theorem fj(hc:c=true->X.calm=true)(L:z6 X sc N' ix)(hi:W (PIc c X tg iter wi))(hg:∀Go C fp s H,W (PG (zz X sc N' Go C fp s H) tg g))(Z:∀Go C fp s H,W (PTs (zz X sc N' Go C fp s H) Zt tt))(U:∀Go C fp s H,W (PE (zz X sc N' Go C fp s H) Y7 te))(hs:∀x,Pd iter X.env x=pure x:=by intro _;rfl):W (PE X (.ListComp Y7 [{tg,iter,Zt,0}] sc pos) (tLC ix wi g tt te)):=by
 refine {?_};have hi:=hi.h;have hg:=λF G O J S=>(hg F G O J S).h;have Z:=λF G O J S=>(Z F G O J S).h;have U:=λF G O J S=>(U F G O J S).h;intro Go s σ H Q I h;rw [eval_ListComp];refine yc (use:=none) hc L hi hg Z U hs I h λC D oC H' s5 m5 IX ns tu q=>?_;obtain ⟨p6,ai,_⟩:=IX.pin (C,oC) (Ox _ (Ox _ (OS.mpr rfl)));exact {m5,ns p6,λh' Xu=>{.ref D,H',tu (IX.zk λp hp=>IX.pin p (Ox _ (O4 _ hp))) ai Xu,rfl,q}}
def Ctx(H:Hp)(vs:Array Value):Prop:=∃cv,vs[2]?=some cv/\(cv = .none\/∃b k,cv = .ref b/\Chn H k b)
structure bz(Hc:Hp)(B:Heap)(l:List Env)(e:Addr)(cls fl:Value)(h:Heap):Prop where
 stays:B.StaysIn h
 new:B.get? e=none
 frames:h.FunFrames B l
 obj:∃oe vs,h.get? e=some oe/\oe.cls=cls/\oe.dict=none/\oe.data = .fields vs/\2<vs.size/\Ctx Hc vs /\
  (vs[1]?=some .none\/∃T oT ts,vs[1]?=some (.ref T)/\B.get? T=none/\T≠e/\h.get? T=some oT/\oT.data = .fields ts/\ts[3]?=some fl)
section
variable {M:Model}{A:OR}{E:Value->Oq->Prop}{s:Oq}{Hc:Hp}{B:Heap}{env:Env}{outer l:List Env}{L e:Addr}{cls fl:Value}
theorem wJ(o:Obj)(f:Array Value->Array Value):(o.mapFields f).dict=o.dict:=by
 obtain ⟨c,d,dt,sl⟩:=o;cases dt<;>rfl
theorem sQ(Yv:A.frames=some (env::outer))(hf:env.frame=some L)(st:B.StaysIn s.heap)(Z:B.get? e=none)(hl:s.heap.FunFrames B (env::outer))(F:s.heap.get? e=some oe)(hc:oe.cls=cls)(YE:oe.dict=none)(hd:oe.data = .fields vs)(hz:2<vs.size)(h2:Ctx Hc vs)(k:∀h',bz Hc B (env::outer) e cls (Px L) h'->s.heap.UpToSlots h'->Q () { s with heap:=h' }):
  Oz M A (do let a<-frameOf env;let pl<-entryPlaceOf L G;let b<-EntryCells.newEntry head a .none (Px L) .none pl;RH (.ref e) 1 b) Q E s:=by
 have J:e∉(env::outer).filterMap (·.frame):=λz=>by
  obtain ⟨_,o,U,nf⟩:=hl.mem z;rw [F] at U;cases U;exact nf vs hd
 refine we (wpAny_frameOf_fun Yv hl hf λg only=>?_);obtain ⟨_,same,slots⟩:=only;refine we (wpAny_entryPlaceOf λpl Yq=>?_);have XW:∀(tb:Obj)(ts:Array Value),tb.data = .fields ts->ts[3]?=some (Px L)->Oz M A (RH (.ref e) 1 (.ref g.objs.size)) Q E { s with heap:=g.push tb }:=by
  intro tb ts td t3;have S:g.get? e=some oe:=(same e J).trans F;have O:(g.push tb).get? e=some oe:=Ot _ S;have hT:(g.push tb).get? g.objs.size=some tb:=ON _ (by rw [Qi td]);have W:g.objs.size≠e:=RU (O2 S);have fresh:B.get? g.objs.size=none:=by
   cases q:B.get? g.objs.size with
   | none=>rfl
   | some o =>
    obtain ⟨sl,z⟩:=slots _ o (st _ o q);exact absurd (O2 z) (Ph _)
  have up:∀b o,b≠e->g.get? b=some o->((g.push tb).update e (RN (·.setIfInBounds 1 (.ref g.objs.size)))).get? b=some o:=λb o hb q =>
   (O0 _ _ (Pt hb)).trans (Ot _ q)
  have W9:∀b o,s.heap.get? b=some o->(∀ws,o.data≠.fields ws)->b≠e:=λb o q nf z=>by
   rw [z,F] at q;cases q;exact nf vs hd
  have dd:=QO hd (·.setIfInBounds 1 (OF g.objs.size));refine PK O hd 'l' (k _ {λb o q=>?_,Z,?_,?_} λb o q nf=>?_)
  .refine up b o (λz=>by rw [z,Z] at q;cases q) ((same b λz=>?_).trans (st b o q));rw [(hl.mem z).1] at q;cases q
  .refine hl.of_keeps λb o q nf=>?_;obtain ⟨sl,z⟩:=slots b o q;exact {_,up b _ (W9 b o q nf) z,rfl}
  .refine {_,_,Pu _ O (Qi dd),(RB _ _).trans hc,(wJ _ _).trans YE,dd,by simpa using hz,(by obtain ⟨cv,q1,q2⟩:=h2;exact {cv,by rw [Sn 'd'];exact q1,q2}),.inr {g.objs.size,tb,ts,?_,fresh,W,?_,td,t3}}
   .rw [PH 'l']
   .rw [O0 _ _ (Pt W)];exact hT
  .obtain ⟨sl,z⟩:=slots b o q;exact {sl,up b _ (W9 b o q nf) z}
 unfold EntryCells.newEntry newFields;refine we (Pp ?_ (Yq.sizeOk5 _ _ _ _ _));exact XW _ _ rfl 'z'
theorem oJ(Yv:A.frames=some (env::outer))(hf:env.frame=some L)(x:bz Hc B (env::outer) e cls fl s.heap)(k:∀h',bz Hc B (env::outer) e cls (Px L) h'->s.heap.UpToSlots h'->Q () { s with heap:=h' }):Oz M A (Sv (.ref e) env) Q E s:=by
 obtain ⟨st,U,hl,oe,vs,F,O,S,hd,hz,h2,h1⟩:=x;unfold Sv;simp only [hf];rcases h1 with h1|⟨T,oT,ts,h1,Z,Te,J,dT,W⟩
 .refine we (PL F hd h1 ?_);rw [if_neg (show ¬ ((Pf != Pf)=true) by decide)];exact sQ Yv hf st U hl F O S hd hz h2 k
 .refine we (PL F hd h1 ?_);rw [if_pos (show (OF T != Pf)=true by simp)];refine we (PL J dT W ?_);by_cases G:fl=Px L
  .subst G;rw [if_pos (show (Px L==Px L)=true by simp)];exact Os (k s.heap {st,U,hl,oe,vs,F,O,S,hd,hz,h2,.inr ⟨T,oT,ts,h1,Z,Te,J,dT,W⟩} (UpToSlots.refl _))
  .rw [if_neg (show ¬ ((fl==Px L)=true) by simpa using G)];refine we (PK J dT (PC.mp W).1 ?_);have oth:∀b,b≠T->(s.heap.update T (RN (·.setIfInBounds 3 Pf))).get? b=s.heap.get? b:=λb hb=>O0 _ _ (Pt hb);have Yo:∀b o,s.heap.get? b=some o->(∀ws,o.data≠.fields ws)->b≠T:=λb o q nf z=>by
    rw [z,J] at q;cases q;exact nf ts dT
   refine sQ (B:=B) (cls:=cls) Yv hf (λb o q=>?_) U (hl.of_keeps λb o q nf=>{o,(oth b (Yo b o q nf)).trans q,rfl}) ((oth e (Pt Te)).trans F) O S hd hz h2 λh' y up=>k h' y λb o q nf=>up b o ((oth b (Yo b o q nf)).trans q) nf;exact (oth b λz=>by rw [z,Z] at q;cases q).trans (st b o q)
theorem iU(x:bz Hc B l e cls fl s.heap)(k:∀h',bz Hc B l e cls .none h'->s.heap.UpToSlots h'->Q () { s with heap:=h' }):Oz M A (setFlight (.ref e) none) Q E s:=by
 obtain ⟨st,hn,hl,oe,vs,G,U,W,hd,hz,h2,h1⟩:=x;unfold setFlight;rcases h1 with h1|⟨T,oT,ts,h1,O,S,J,dT,t3⟩
 .refine we (PL G hd h1 ?_);rw [if_neg (show ¬ ((Pf != Pf)=true) by decide)];exact Os (k s.heap {st,hn,hl,oe,vs,G,U,W,hd,hz,h2,.inl h1} (UpToSlots.refl _))
 .refine we (PL G hd h1 ?_);rw [if_pos (show (OF T != Pf)=true by simp)];have F:3<ts.size:=(PC.mp t3).1;have dd:=QO dT (·.setIfInBounds 3 Pf);have oth:∀b,b≠T->(s.heap.update T (RN (·.setIfInBounds 3 Pf))).get? b=s.heap.get? b:=λb hb=>O0 _ _ (Pt hb);have Z:∀b o,s.heap.get? b=some o->(∀ws,o.data≠.fields ws)->b≠T:=λb o q nf z=>by
   rw [z,J] at q;cases q;exact nf ts dT
  refine PK J dT F (k _ {λb o q=>(oth b λz=>by rw [z,O] at q;cases q).trans (st b o q),hn,hl.of_keeps λb o q nf=>{o,(oth b (Z b o q nf)).trans q,rfl},oe,vs,(oth e (Pt S)).trans G,U,W,hd,hz,h2,
   .inr {T,_,_,h1,O,S,Pu _ J (Qi dd),dd,?_}} λb o q nf=>{o.slots,(oth b (Z b o q nf)).trans q})
  rw [PH F]
theorem EE(F:A.frames=some (env::outer))(hf:env.frame=some L)(x:bz Hc B (env::outer) e cls fl s.heap)(k:∀h',bz Hc B outer e cls .none h'->s.heap.UpToSlots h'->Q () { s with heap:=h' }):Oz M A (leaving env (.ref e)) Q E s:=by
 unfold leaving;refine we (oJ F hf x λh1 y u1=>iU (s:={ s with heap:=h1 }) y λh2 z u2=>?_);obtain ⟨a,b,⟨_,_,c⟩,d⟩:=z;exact k h2 ⟨a,b,c,d⟩ (u1.trans u2)
end
def CXW(P:OE)(w:OW):CXT:=λouter H s E e s'=>∃(ea C:Addr)(B:Heap)(H':Hp)(F:Oq),e = .ref ea/\bz H' B outer ea (.ref C) .none s'.heap/\Un (frs outer) [] H H' s.heap F.heap/\HOk P w H' F.heap /\
 F.os=s.os/\RD F.gens/\s'.os=s.os/\RD s'.gens/\(∀b o,F.heap.get? b=some o->b∉frs outer->B.get? b=some o)/\F.heap.UpToSlots s'.heap/\E (.ref C) none H'
def bj(X:Cx)(Ex:Addr->St->Hp->Prop):Prop:=∀(Go:List (Addr×Obj))(σ:St)(H:Hp)(F:Oq)(ea C:Addr)(B:Heap)(fl:Value)(s':Oq),Inv X Go σ H F->bz H B X.stack ea (.ref C) fl s'.heap->s'.os=F.os->RD s'.gens ->
 (∀b o,F.heap.get? b=some o->b∉frs X.stack->B.get? b=some o)->F.heap.UpToSlots s'.heap->Ex C σ H->X.xe (.ref ea) s'
theorem dw{K:Ov}:
  bj (bH (CXW P w) cm P w K mg base N qual scope f cd A outer s H E) (λC _ H'=>E (.ref C) none H'):=by
 intro Go σ H' G ea C B fl s' I x os bare hB up q;have S:A.frames=some outer:=by
  have:=I.ok.frames;cases h:A.frames with
  | none =>
   have z:(A.deeper (QV qual scope s.heap.objs.size f cd)).frames=none:=by
    first|(show (A.frames.map _)=none;rw [h];rfl)|simp [OR.deeper,OR.under,h]
   rw [show (bH (CXW P w) cm P w K mg base N qual scope f cd A outer s H E).A=A.deeper (QV qual scope s.heap.objs.size f cd) from rfl,z] at this;cases this
  | some l =>
   have z:=OR.frames_deeper (env:=QV qual scope s.heap.objs.size f cd) h;rw [show (bH (CXW P w) cm P w K mg base N qual scope f cd A outer s H E).A=A.deeper (QV qual scope s.heap.objs.size f cd) from rfl,z] at this;have:=Pa.inj this;exact congrArg some (List.cons.inj this).2
 show Oz (OI P w) (A.deeper (QV qual scope s.heap.objs.size f cd)) (leaving (QV qual scope s.heap.objs.size f cd) (.ref ea)) _ _ s';refine EE (L:=s.heap.objs.size) (OR.frames_deeper S) rfl x λh' y u=>?_;have J:∀b o,b≠s.heap.objs.size->G.heap.get? b=some o->(Uy G.heap [s.heap.objs.size]).get? b=some o:=λb o F e=>hideAll_get _ e (by simpa using F);have U:=I.base;have lt:∀b o,s.heap.get? b=some o->b≠s.heap.objs.size:=λb o e=>Pl (O2 e);have O:∀b:Addr,b∉(bH (CXW P w) cm P w K mg base N qual scope f cd A outer s H E).ex:=λb z=>absurd (show b∈([]:List Addr) from z) 'z';refine {ea,C,B,H',{ G with heap:=Uy G.heap [s.heap.objs.size] },rfl,y,{λb o e n F _=>J b o (lt b o e) (U.keep b o e n F (O b)),λb o e n F _=>?_,λb o e n _=>U.free b o e n (O b),λb o e _=>?_,U.tups,U.frzs,U.tbls},
  I.hok.but (C:=s.heap.objs.size) I.free J,I.os,I.bare,os.trans I.os,bare,λb o e F=>?_,λb o e nf=>?_,q}
 .obtain ⟨sl,z⟩:=U.slot b o e n F (O b);exact {sl,J b _ (lt b o e) z}
 .obtain ⟨o',z⟩:=U.there b o e (O b);exact {o',J b _ (lt b o e) z}
 .have e':=Su _ e;refine hB b o e' λz=>?_;have z':b∈s.heap.objs.size::frs outer:=z;rcases OK.mp z' with r|r
  .rw [r] at e;have Z:(Uy G.heap [s.heap.objs.size]).get? s.heap.objs.size=none:=PySem.W.hideAll_none _ 'z';exact absurd (Z.symm.trans e) 'z'
  .exact F r
 .exact (up.trans u) b o (Su _ e) nf
def XE(Ex:Addr->St->Hp->Prop)(σ:St):XK:=λc _ H'=>∃C,c = .ref C/\Ex C σ H'
def kL(sp:Sp)(Za:List V)(Ex:Addr->St->Hp->Prop)(t:TA):TE:=λσ H Q=>t σ H λvs H1=>sp (vs++Za) H1 Q (XE Ex σ)
def jR(C:Addr)(m:Str)(sp:Sp)(Za:List V)(Ex:Addr->St->Hp->Prop)(ta:TE)(t:TA):TE:=λσ H Q=>ta σ H λx H1=>∃a dx fs,x = .ref a/\H1 a=some (.ins C dx fs)/\fs.lookup m=none /\
 t σ H1 λvs H2=>sp (x::(vs++Za)) H2 Q (XE Ex σ)
section
variable {X:Cx}{cm:Bool}{k:Nat}{f C:Addr}{fd:OJ}{ps:List Str}{sp:Sp}{Za:List V}{ds:List Value}{Ex:Addr->St->Hp->Prop}{x m:Str}{p pos ZR:Pos}{e o:OZ}{es:List OZ}{ta:TE}{t:TA}
theorem bj.of(T:bj X Ex)(I:Inv X Go σ H s)(h:CXW X.prog X.w X.stack H s (XE Ex σ) v s'):X.xe v s':=by
 obtain ⟨ea,C,B,H',J,rfl,y,un,hok,os,bare,G,F,S,up,U,O,q⟩:=h;cases O;exact T Go σ H' J ea C B .none s' (I.aX os un hok bare λb z=>absurd z 'z') y (G.trans os.symm) F S up q
theorem xv(T:bj X Ex)(F:zq X.prog X.w X.K X.mg X.base (CXW X.prog X.w) cm k f fd ps sp)(O:zG cm k X.A)(J:bQ X.K fd ps ds)(hd:zx Za ds)(I:Inv X Go σ H s)(r:zx vs us)(h:sp (vs++Za) H Q (XE Ex σ)):Oz (OI X.prog X.w) X.A (call (.ref f) us) (EP X Go σ Q) X.xe s:=by
 have r2:zx (vs++Za) (us++ds):=r.append hd;have hl:(us++ds).length=ps.length:=by rw [<- r2.length];exact F.len _ _ _ _ h
 refine Ta (QM (F.run X.A X.stack s H {us,[]} (us++ds) (vs++Za) Q (XE Ex σ) O I.bM (J s us I.UX hl) r2 h) λr s' G=>?_);cases r with
 | error v=>exact T.of I G
 | ok fl =>
  cases fl with
  | ret u=>exact I.after G
  | next=>exact False.elim G
  | brk=>exact False.elim G
  | cont=>exact False.elim G
theorem NP(T:bj X Ex)(F:zq X.prog X.w X.K X.mg X.base (CXW X.prog X.w) cm k f fd ps sp)(S:zG cm k X.A)(hg:Gl X x)(hm:X.mg x=some (.ref f))(U:Si X.K (.ref f)=true)(W:bQ X.K fd ps ds)(hd:zx Za ds)
  (O:PA X (e::es) t) (Z:(x==("__debug__":Str))=false:=by decide) (J:O8 (e::es) X.env=(false,Qc e X.env)::O8 es X.env:=by rfl) (Yq:(QW pos (O8 es X.env)).any (·.1)=false:=by rfl) :
  PE X (.Call (.Name x p) (e::es) [] pos) (kL sp Za Ex t):=by
 intro Go s σ H Q I h;refine Qj (fi I hg hm ?_ Z);refine callWith_K (h₀:=X.base) I.ok.mod.bY U (thn (O pos Go s σ H _ I h) λus s1=>x5e λvs H1 G r q=>{G.UX,?_}) J Yq;exact xv T F S W hd G r q
theorem EU(S:PE X o ta)(c:Cls X.K C)(O:iJ X.K C m f)(T:bj X Ex)(F:zq X.prog X.w X.K X.mg X.base (CXW X.prog X.w) cm k f fd ps sp)(W:zG cm k X.A)(Z:bQ X.K fd ps ds)(hd:zx Za ds)(U:Qc (.Call (.Attribute o m ZR) [] [] pos) X.env=(do
   let J<-Qc o X.env
   Re ZR.atName
   let (f,first)<-Q1 [J] (Sy J m pl)
   RY pos f first (QW pos (O8 [] X.env)) (Ue pos (Sd [] X.env))):=by rfl):
  PE X (.Call (.Attribute o m ZR) [] [] pos) (jR C m sp Za Ex ta cw):=by
 intro Go s σ H Q I h;refine methodCall_KW (pl:=pl) (thn (S Go s σ H _ I h) λu s1=>x5e λx H1 G rx XT=>?_) U;obtain ⟨a,dx,fs,ex,ea,l,q⟩:=XT;subst ex;obtain rfl:u=OF a:=rx;refine rM G ea c O l ?_;exact callWith_K0 (first:=[.ref a]) G.UX O.kp (xv (us:=[.ref a]) (vs:=[.ref a]) T F W Z hd G (.cons rfl .nil) q)
end
theorem Fun.c1{K:Ov}{st:Stmt}{k:Nat}(F:Fun K x qual st f fd)(S:zy N ps (zm st))(len:∀vs H Q E,sp vs H Q E->vs.length=ps.length)(J:∀(G:Value)(A:OR)(outer:List Env)(s:Oq)(H:Hp)(vs:List V)(Q:VK)(E:XK),zG cm k (A.deeper (QV qual (zm st) s.heap.objs.size f G))->sp vs H Q E ->
   ∃t,PSs (bH (CXW P w) cm P w K mg base N qual (zm st) f G A outer s H E) (cU st) t/\t { nx:=λ_ H'=>Q .non H',rt:=Q } (start N vs) H):zq P w K mg base (CXW P w) cm (k+1) f fd ps sp:=by
 obtain ⟨oc,od,kV,Z,pm,W,G,ct,Xf,rfl,lk,hcd⟩:=F.ex;exact kR lk hcd S len λA outer s H vs Q E U O=>J G A outer s H vs Q E U O
def bmV:List Value:=[.type "ValueError",.type "Exception",.type "BaseException",.type "object"]
def bG(K:Ov)(C:Addr):Prop:=excIn K C bmV "ValueError.__new__"=true
structure pU(h:Heap)(C:Addr)(mro:List Value):Prop where
 ex:∃bm N nm q bs hdct sn sub ab col dd k0 k1 k2 k3 k5 mN,mro = .ref C::bm/\h.get? C=some (excClassObj nm q C N bs bm hdct sn sub ab col dd k0 k1 k2 k3 k5 "ValueError.__new__")/\h.Ns N mN/\mN Wm=none/\OwnTail h bmV bm
theorem bG.obj{K:Ov}(x:bG K C)(X:K.In h):∃cd,clsIn K C=some cd/\pU h C cd.mro:=by
 unfold bG excIn at x;split at x
 .rename_i dd cd sl look;have hc:clsIn K C=some cd:=by
   unfold clsIn;rw [look]
  refine {cd,hc,?_};split at x
  .rename_i C' bm k0 k1 k2 k3 n k5 em es;simp only [O5,beq_iff_eq,Uv] at x;obtain ⟨⟨⟨⟨⟨c1,c2⟩,O⟩,c4⟩,G⟩,J⟩:=x;subst c1 c2;obtain ⟨a1,a2,a3,a4,a5,U,Z,a8,S,F,ai⟩:=cd;dsimp only at em O G J ⊢;subst em O;obtain ⟨sl⟩:=sl;dsimp only at es;subst es;exact {bm,a4,a1,a5,a2,U,Z,a8,S,F,dd,k0,k1,k2,k3,k5,_,rfl,X _ _ look,.of_isNs (PySem.W.isNs_of_in X G),PySem.W.nsMap_none_of_in X G J,PySem.W.tail_of_in X c4}
  .cases x
 .cases x
def jD(C:Addr)(Ex:Addr->St->Hp->Prop)(t:TA):TS:=λ_ σ H=>t σ H λvs H1=>vs.length<=sizeLine/\Ex C σ H1
theorem NU{t:TA}(hc:X.calm=true)(T:bj X Ex)(O:bG X.K C)(hg:Gl X x)(U:X.mg x=some (.ref C))(J:PA X (e::es) t)(Zn:(x==("__debug__":Str))=false:=by decide)(hst:O8 (e::es) X.env=(false,Qc e X.env)::O8 es X.env:=by rfl)(Yq:(QW cpos (O8 es X.env)).any (·.1)=false:=by rfl):
  PS X (.Raise (some (.Call (.Name x np) (e::es) [] cpos)) none pos) (jD C Ex t):=by
 intro Go s σ H D I h;obtain ⟨cd,_,⟨bm,N,nm,q,bs,hdct,sn,sub,ab,col,dd,k0,k1,k2,k3,k5,mN,em,hC,hN,S,TL⟩⟩:=O.obj I.ok.mod.bY;refine wpAny_Raise_call_subT (C:=C) (nm:=nm) (q:=q) (N:=N) (bs:=bs) (bm:=bm) (hdct:=hdct) (sn:=sn) (sub:=sub) (ab:=ab) (col:=col) (dd:=dd) (k0:=k0) (k1:=k1) (k2:=k2) (k3:=k3) (k5:=k5) (mN:=mN) Tr (TL.hasType 'd') (I.ok.hd hc)
  (by rw [hst];show (false||(QW cpos (O8 es X.env)).any (·.1))=false;rw [Yq];rfl) S (fi I hg U {rfl,?_} Zn)
 have Z:=J cpos Go s σ H _ I h;rw [hst] at Z ⊢;refine Calls.evalArgs_plain (thn Z λus s2=>x5e λvs H2 F r2=>x2e λhz q2=>{rfl,by rw [<- r2.length];exact hz,F.bk _ _ hC,hN.keeps F.bk,TL.keeps F.bk,λh' ea G=>?_});obtain ⟨tt,he,ai,_⟩:=G.there;have Xm:∀env∈X.stack,∀a,env.frame=some a->a∈frs X.stack:=λenv U a J=>RV.mpr ⟨env,U,J⟩;refine T Go σ H2 s2 ea C (Uy s2.heap (frs X.stack)) .none { s2 with heap:=h' } F {λb o e=>G.keeps b o (Su _ e),?_,?_,?_} rfl F.bare (λb o e hb=>hideAll_get _ e hb) (λb o e _=>{o.slots,G.keeps b o e}) q2
 .cases z:(Uy s2.heap (frs X.stack)).get? ea with
  | none=>rfl
  | some o =>
   have:=Su _ z;rw [G.new] at this;cases this
 .exact (PySem.W.funFrames_hide F.stack Xm).of_keeps λb o e _=>{o,G.keeps b o e,rfl}
 .exact {_,_,he,rfl,rfl,rfl,'z',{_,rfl,.inl rfl},.inl rfl}
section
variable {M:Model}{A:OR}{E:Value->Oq->Prop}
theorem wt{d:Drawn}{t:Nat}{os:OsState}{U mD:List Value}(OC:pU h C U)(OD:pU h D mD)(he:h.get? e=some oe)(F:oe.cls = .ref C)(XS:U.contains (.ref D)=true)(hq:Q true ⟨h,g,d,t,os⟩):Oz M A (excMatches (.ref e) (.ref D)) Q E ⟨h,g,d,t,os⟩:=by
 obtain ⟨bm,N,nm,q,bs,hdct,sn,sub,ab,col,dd,k0,k1,k2,k3,k5,mN,rfl,hC,_,_,TC⟩:=OC;obtain ⟨G,N',aI,q',ax,J,a0,W,aT,O,ai,j0,j1,j2,j3,j5,av,rfl,S,_,_,TD⟩:=OD;have Z:(OF D::G).contains (.type "BaseException")=true:=by
  rw [List.contains_cons,TD.hasType (X:="BaseException") (b:=true) 'd',Bool.or_true]
 have b2:=tc_notTuple;unfold excMatches
 repeat (first|(with_reducible refine Sg he ?_;rw [F])|with_reducible refine Sg S ?_|(with_reducible refine SW S ?_;rw [Z])|(with_reducible refine SW hC ?_;rw [XS])|wp_step)
 exact hq
end
theorem aq.ex{o:HO}(x:aq P w H h a o):∃ob,h.get? a=some ob:=by
 cases o with
 | lst xs=>obtain ⟨_,_,_,_,e⟩:=x;exact {_,e}
 | tup xs=>obtain ⟨_,_,_,o,e,_⟩:=x;exact {_,e}
 | dK kvs=>obtain ⟨_,_,_,_,o,_,_,e,_⟩:=x;exact {_,e}
 | dT kvs=>obtain ⟨_,_,_,_,o,_,_,e,_⟩:=x;exact {_,e}
 | set S n=>obtain ⟨o,_,_,_,e,_⟩:=x;exact {_,e}
 | ins C dx fs=>obtain ⟨_,_,_,e,_⟩:=x;exact {_,e}
 | own y=>exact x
 | xd fs=>obtain ⟨_,⟨_,_,_,e,_⟩,_⟩:=x;exact {_,e}
 | rng lo hi=>obtain ⟨_,_,_,e⟩:=x;exact {_,e}
 | frz ob u=>exact {_,x.1}
 | tbl ps=>exact {_,x}
 | met f y=>exact {_,x}
 | ext F=>exact x.2.1
abbrev cxP(X:Cx)(Go:List (Addr×Obj)):Cx:={ X with pn:=X.pn++Go }
theorem Cx.Ok.p(ok:X.Ok)(Go:List (Addr×Obj)):(cxP X Go).Ok :=
 ⟨ok.mod,ok.kind,ok.glob,ok.blt,ok.above,ok.inj,ok.has,ok.b7,ok.hd,ok.frames,ok.cc,ok.cP,ok.bs,ok.bf,ok.aU,ok.a7,ok.U0,ok.bE⟩
theorem Inv.p(I:Inv X Go σ H s):Inv (cxP X Go) [] σ H s :=
 {I.ok.p Go,I.os,I.bare,I.base,I.loc,I.cell,I.free,I.J7,λp F=>I.pin p (by have h:p∈(X.pn++Go)++[]:=F;simpa using h),I.hok,I.len,I.hdk}
theorem Inv.bR(ok:X.Ok)(I:Inv (cxP X Go) [] σ H s):Inv X Go σ H s :=
 {ok,I.os,I.bare,I.base,I.loc,I.cell,I.free,I.J7,λp F=>I.pin p (by show p∈(X.pn++Go)++[];simpa using F),I.hok,I.len,I.hdk}
abbrev ji(X:Cx)(Go:List (Addr×Obj))(Ex:Addr->St->Hp->Prop):Cx:=(cxP X Go).UY λe s'=>∃(ea C:Addr)(B:Heap)(H':Hp)(fl:Value)(σ:St)(F:Oq),e = .ref ea/\Inv (cxP X Go) [] σ H' F/\bz H' B X.stack ea (.ref C) fl s'.heap /\
 s'.os=F.os/\RD s'.gens/\(∀b o,F.heap.get? b=some o->b∉frs X.stack->B.get? b=some o)/\F.heap.UpToSlots s'.heap/\Ex C σ H'
theorem pR:bj (ji X Go Ex) Ex:=λps σ H F ea C B fl s' I y os bare J up q =>
 {ea,C,B,H,fl,σ,F,rfl,(I.ro.zk λp G=>(nomatch G)),y,os,bare,J,up,q}
abbrev g9(X:Cx)(Go:List (Addr×Obj))(ea:Addr):Cx:={ X with pn:=X.pn++Go,A:=X.A.mark (some (.ref ea)),calm:=false,xe:=λ_ _=>False }
def iR(C:Addr)(o:Obj):Prop:=o.cls = .ref C/\o.dict=none/\∃vs,o.data = .fields vs
theorem l9(Yk:X.ex=[])(I:Inv (cxP X Go) [] σ H O)(y:bz H B X.stack ea (.ref C) fl s'.heap)(os:s'.os=O.os)(bare:RD s'.gens)(hB:∀b o,O.heap.get? b=some o->b∉frs X.stack->B.get? b=some o)(up:O.heap.UpToSlots s'.heap):
  H ea=none/\∃oe,iR C oe/\s'.heap.get? ea=some oe/\Inv (g9 X Go ea) [] σ (upd H ea (.frz oe (.own 0))) s':=by
 obtain ⟨st,hn,hl,oe,vs,U,hc,YE,hd,hz,h2,h1⟩:=y;have ai:ea∉frs X.stack:=λz=>by
  obtain ⟨_,o,S,nf⟩:=hl.mem z;rw [U] at S;cases S;exact nf vs hd
 have new:O.heap.get? ea=none:=by
  cases q:O.heap.get? ea with
  | none=>rfl
  | some o =>
   have:=hB _ o q ai;rw [hn] at this;cases this
 have W:H ea=none:=by
  cases q:H ea with
  | none=>rfl
  | some u =>
   obtain ⟨ob,z⟩:=(I.hok ea u q).ex;rw [new] at z;cases z
 have keep:∀b o,O.heap.get? b=some o->b∉frs X.stack->s'.heap.get? b=some o:=λb o e J=>st b o (hB b o e J);have slot:∀b o,O.heap.get? b=some o->b∈frs X.stack->∃sl,s'.heap.get? b=some { o with slots:=sl }:=λb o e J=>by
  obtain ⟨_,o',Z,nf⟩:=I.stack.mem (show b∈(cxP X Go).stack.filterMap (·.frame) from J);rw [e] at Z;cases Z;exact up b o e nf
 have F:Inv (cxP X Go) [] σ H s':=I.aX (ch:=[]) os {λb o e _ J _=>keep b o e J,λb o e _ J _=>slot b o e J,λ_ _ _ n _=>n,λb o e _=>?_,λ_ _ e=>e,λ_ _ _ e=>e,λb ps e=>{#[],by rw [e];simp}}
  (λb u e=>(I.hok b u e).U4 (λc v hc q=>keep c v q λz=>?_) (λ_ q=>q) λ_ _ q=>q) bare λb z=>absurd z 'z'
 .have av:ea≠X.env.locals:=λz=>by
   obtain ⟨m,⟨o,es,ep,S,G,_⟩,_⟩:=F.loc;have Z:s'.heap.get? ea=some o:=by rw [z];exact S
   rw [U] at Z;cases Z;rw [hd] at G;cases G
  refine {W,oe,⟨hc,YE,vs,hd⟩,U,{{F.ok.mod,F.ok.kind,F.ok.glob,F.ok.blt,F.ok.above,F.ok.inj,F.ok.has,F.ok.b7,λz=>(nomatch z),F.ok.frames,F.ok.cc,F.ok.cP,F.ok.bs,F.ok.bf,F.ok.aU,F.ok.a7,F.ok.U0,F.ok.bE},F.os,F.bare,
   {F.base.keep,F.base.slot,λb o e n hx=>?_,F.base.there,λb xs e=>?_,λb o u e=>?_,λb ps e=>?_},F.loc,F.cell,?_,λx c e=>?_,λp hp=>?_,F.hok.add W ⟨U,oe,U⟩,F.len,.inr ?_}}
  .obtain ⟨o',z⟩:=I.base.there b o e hx;rw [zg (λw=>by rw [w,new] at z;cases z)];exact F.base.free b o e n hx
  .have z:=F.base.tups b xs e;rw [zg (zH z W)];exact z
  .have z:=F.base.frzs b o u e;rw [zg (zH z W)];exact z
  .obtain ⟨more,z⟩:=F.base.tbls b ps e;exact {more,by rw [zg (zH z W)];exact z}
  .rw [zg (Pt av)];exact F.free
  .have nc:c≠ea:=λw=>by
    obtain ⟨v,o,S,G⟩:=F.cell x c e;rw [w,U] at S;cases S;rw [hd] at G;cases G
   rw [zg nc];exact F.J7 x c e
  .obtain ⟨a,b,c,d,f⟩:=F.pin p hp;refine {a,?_,c,d,f};rw [zg λw=>?_]
   .exact b
   .have:=(I.pin p hp).1;rw [w,new] at this;cases this
  .obtain ⟨cv,q1,rfl|⟨b,k,rfl,ch⟩⟩:=h2
   .exact {ea,0,rfl,.one zA hd q1 hc}
   .exact {ea,k+1,rfl,.more zA hd q1 hc (ch.same λc o e=>by rw [zg (zH e W)];exact e)}
 .by_cases J:b∈frs X.stack
  .obtain ⟨sl,z⟩:=slot b o e J;exact {_,z}
  .exact {o,keep b o e J}
 .have zf:H c=none:=I.VD c z;rcases hc with w|w
  .rw [w] at zf;rw [zf] at e;cases e
  .rw [zf] at w;cases w
theorem Inv.U6(ok:X.Ok)(F:X.A.handled=none)(I:Inv (g9 X Go ea) [] σ H s):Inv X Go σ H s :=
 {ok,I.os,I.bare,I.base,I.loc,I.cell,I.free,I.J7,λp G=>I.pin p (by show p∈(X.pn++Go)++[];simpa using G),I.hok,I.len,.inl F}
end L2
namespace L2
open PySem PySem.Spec PyProof.Rows PySem.W
section
variable {prog:OE}{w:OW}{A:OR}{E:Value->Oq->Prop}{K:Frag}{h:Heap}{g:Array GenState}{d:Drawn}{t:Nat}{os:OsState}{e C:Addr}{oe:Obj}
theorem HP(X:K.In h)(I:InstAt h e oe C none)(J:findIn K (.ref C) "__class__"=some (some (.builtin "object.__class__")))(O:mroIn K C (.type "object")=some true)(G:Q (.done (.ret (.ref C))) ⟨h,g,d,t,os⟩):Oz (OI prog w) A (OO.«object.__getattribute__» {[.ref e,.str "__class__" tk],[]}) Q E ⟨h,g,d,t,os⟩:=by
 have U:=I.type (M:=OI prog w);have S:=looks_findIn (M:=OI prog w) X J;have f5:=F.typeOf_object_class;have Z:=F.slot_gs_get.lookup;have W:=F.slot_gs_set.lookup
 repeat (any_goals (first|assumption|with_reducible refine U.at ?_|with_reducible refine S.at ?_|wp_step))
 exact class_get (s:=⟨h,g,d,t,os⟩) X I O (Os G)
theorem Ia(X:K.In h)(I:InstAt h e oe C none)(S:mroIn K C (.type "BaseException")=some true)(J:Q () ⟨h,g,d,t,os⟩):
  Oz (OI prog w) A (SA "BaseException.__getattribute__" {[.ref e,G],[]}) Q E ⟨h,g,d,t,os⟩:=by
 have W:=I.type (M:=OI prog w);have O:=looks_mroIn (M:=OI prog w) X S;have c1:builtinKind "BaseException.__getattribute__"=some .slot:=by decide +kernel
 have U:splitId "BaseException.__getattribute__"=some ("BaseException","__getattribute__"):=by decide +kernel
 have Z:=F.args_bexc_ga (.ref e) G;simp only [SA,c1,U];refine we ?_;unfold isInstance
 repeat (first|with_reducible refine W.at ?_|with_reducible refine O.at ?_|wp_step)
 exact J
theorem Ly(X:K.In h)(I:InstAt h e oe C none)(Z:findIn K (.ref C) "__getattribute__"=some (some (.builtin "BaseException.__getattribute__")))(f2:findIn K (.ref C) "__getattr__"=some none)(G:findIn K (.ref C) "__class__"=some (some (.builtin "object.__class__")))(W:mroIn K C (.type "object")=some true)(U:mroIn K C (.type "BaseException")=some true)(hq:Q (some (.ref C)) {h,g,d,t+1,os}):
  Oz (OI prog w) A (getAttr? (.ref e) "__class__") Q E ⟨h,g,d,t,os⟩:=by
 have J:=I.type (M:=OI prog w);have O:=looks_findIn (M:=OI prog w) X Z;have L2:=looks_findIn (M:=OI prog w) X f2;have f4:=Ul.ga.bind (.ref e);have S:(builtin "BaseException.__getattribute__" == builtin "object.__getattribute__")=false:=by decide +kernel
 have x1:(onTheHeap (OF C)&&builtin "BaseException.__getattribute__" == builtin "object.__getattribute__")=false:=by rw [S];rfl
 have x0:(false&&onTheHeap (builtin "BaseException.__getattribute__"))=false:=rfl;unfold getAttr? getAttrBy?;refine we (wpAny_mkText (we (wpAny_attempt ?_)))
 repeat (any_goals (first|assumption|with_reducible refine J.at ?_|with_reducible refine O.at ?_|with_reducible refine L2.at ?_|wp_step))
 refine SK Ul.ga.plain F.entry_bexc_ga (Ia X I U (HP X I G W ?_))
 repeat (any_goals (first|assumption|wp_step))
structure uL(K:Frag)(C:Addr):Prop where
 err:bG K C
 ga:findIn K (.ref C) "__getattribute__"=some (some (.builtin "BaseException.__getattribute__"))
 gr:findIn K (.ref C) "__getattr__"=some none
 cl:findIn K (.ref C) "__class__"=some (some (.builtin "object.__class__"))
 ob:mroIn K C (.type "object")=some true
 ba:mroIn K C (.type "BaseException")=some true
theorem HA(O:uL K C):KitX K (.ref e) (.ref C) (λh=>InstAt h e oe C none) where
 ty:=λ_ _ _ I=>I.type
 it:=λM h X I=>by
  obtain ⟨cd,_,⟨bm,N,nm,q,bs,hdct,sn,sub,ab,col,dd,k0,k1,k2,k3,k5,mN,_,G,_⟩⟩:=O.err.obj X;intro Z U S s' k q';unfold isType loadHead;exact we (wpAny_loadPart (k _ _ G) (Os q'))
 ne:=λh tp dd its n sl X F=>by
  obtain ⟨cd,_,⟨bm,N,nm,q,bs,hdct,sn,sub,ab,col,W,k0,k1,k2,k3,k5,mN,_,G,_⟩⟩:=O.err.obj X;refine QL.mpr λz=>?_;have J:C=tp:=OF.inj (beq_iff_eq.mp z);subst J;have wd:=congrArg Obj.data (Pa.inj (G.symm.trans F));cases wd
 ca:=λ{prog w A E Q s} X I k=>by
  obtain ⟨h,g,d,t,os⟩:=s;exact Ly X I O.ga O.gr O.cl O.ob O.ba k
end
def Fl:V->Option Value
 | .ref a=>some (.ref a)
 | .ty n=>some (.type n)
 | _=>none
inductive TyX(K:Frag)(H:Hp):V->Value->Prop where
 | of {x:V}{t:Value} (h:cT K H x t):TyX K H x t
 | exc {a C:Addr}{o:Obj} (e:H a=some (.frz o (.own 0))) (ho:iR C o) (O:uL K C):TyX K H (.ref a) (.ref C)
def rE(K:Frag):List V->Hp->VK->Prop:=λxs H Q=>∃x c t u b,xs=[x,c]/\Fl c=some u/\TyX K H x t/\kitOne K t u=some b/\Q (.bl b) H
theorem oB:zU X (.builtin "isinstance") (rE X.K):=by
 intro Go s σ H xs us Q I r h;obtain ⟨x,c,t,u,b,rfl,G,ty,S,q⟩:=h;cases r with
 | cons r1 F =>
  cases F with
  | cons r2 F =>
   cases F;rename_i v1 v2;have U:v2=u:=by
    cases c with
    | ref a=>cases G;exact r2
    | ty n=>cases G;exact r2
    | _=>cases G
   subst U;cases ty with
   | of ty=>exact Ih I r1 ty S λtk=>{.bl b,H,I.tok tk,rfl,q}
   | exc e W O =>
    rename_i a C o;obtain rfl:v1=OF a:=r1;obtain ⟨z,_⟩:=I.hok a _ e;obtain ⟨c1,c2,vs,Z⟩:=W;have J:InstAt s.heap a o C none:={z,c1,by unfold notCls;rw [Z],by rw [c2];trivial};exact kia_one (HA O) I.UX J S (λw=>nomatch w) λtk=>{.bl b,H,I.tok tk,rfl,q}
end L2
namespace L2
open PySem PySem.Spec PyProof.Rows
inductive bF(h:Heap):Nat->Addr->Prop
 | one {a:Addr}{o:Obj}{vs:Array Value}{C:Addr} (g:h.get? a=some o) (d:o.data = .fields vs) (n:vs[2]?=some .none) (c:o.cls = .ref C):bF h 0 a
 | more {k:Nat}{a b:Addr}{o:Obj}{vs:Array Value}{C:Addr} (g:h.get? a=some o) (d:o.data = .fields vs) (n:vs[2]?=some (.ref b)) (c:o.cls = .ref C) (t:bF h k b):bF h (k+1) a
theorem bF.keeps{k:Nat}(x:bF h k a)(f:∀b o,(∃C,o.cls = .ref C)->h.get? b=some o->h'.get? b=some o):bF h' k a:=by
 induction x with
 | one g d n c=>exact .one (f _ _ {_,c} g) d n c
 | more g d n c _ F=>exact .more (f _ _ {_,c} g) d n c F
theorem bF.uniq{k:Nat}(x:bF h k a):∀{m:Nat},bF h m a->k=m:=by
 induction x with
 | one g d n c =>
  intro m y;cases y with
  | one=>rfl
  | more g' d' F _ _ =>
   rw [g] at g';cases g';rw [d] at d';cases d';rw [n] at F;cases F
 | more g d n c t G =>
  intro m y;cases y with
  | one g' d' F _ =>
   rw [g] at g';cases g';rw [d] at d';cases d';rw [n] at F;cases F
  | more g' d' F _ t' =>
   rw [g] at g';cases g';rw [d] at d';cases d';rw [n] at F;cases F;rw [G t']
theorem bF.cls{k:Nat}(x:bF h k a):∃o C,h.get? a=some o/\o.cls = .ref C:=by
 cases x with
 | one g d n c=>exact {_,_,g,c}
 | more g d n c _=>exact {_,_,g,c}
def Hnd(A:OR)(h:Heap):Prop:=A.handled=none\/∃(a:Addr)(k:Nat),A.handled=some (.ref a)/\bF h k a
theorem Chn.heap{k:Nat}(x:Chn H k a)(ok:HOk P w H h):bF h k a:=by
 induction x with
 | one g d n c=>exact .one (ok _ _ g).1 d n c
 | more g d n c _ F=>exact .more (ok _ _ g).1 d n c F
theorem Inv.hnd(I:Inv X Go σ H s):Hnd X.A s.heap:=by
 rcases I.hdk with h|⟨a,k,h1,h2⟩
 .exact .inl h
 .exact .inr {a,k,h1,h2.heap I.hok}
theorem Hnd.keeps(x:Hnd A h)(k:∀b o,(∃C,o.cls = .ref C)->h.get? b=some o->h'.get? b=some o):Hnd A h':=by
 rcases x with x|⟨a,n,h1,h2⟩
 .exact .inl x
 .exact .inr {a,n,h1,h2.keeps k}
theorem vN:entryFor table "proto.unchain"=some OO.«proto.unchain»:=entryFor_of_tree (by kernel_rfl)
section
variable {prog:OE}{w:OW}{A:OR}{E:Value->Oq->Prop}{s:Oq}
theorem yC(kp:∀b o,(∃C,o.cls = .ref C)->G.get? b=some o->s.heap.get? b=some o)(ne:∀n b,bF G n b->b≠e){k:Nat}:∀{o slow:Addr}{m:Nat}{F:Bool}{R:T2->Oq->Prop},bF G k o->bF G m slow->k<=m->R (.ok (.ret .none)) s ->
  QE (OI prog w) A (.builtin "proto.unchain" {[.ref e,.ref o,.ref slow,.bool F],[]}) R s:=by
 induction k with
 | zero =>
  intro o slow m F R x y _ q;cases x with
  | one g d n c =>
   refine QD vN ?_;refine we (m:=field (.ref o) 2) (PL (kp _ _ {_,c} g) d n ?_);rw [if_pos (show (Pf==Pf)=true by rfl)];exact Os q
 | succ k J =>
  intro o slow m F R x y le q;cases x with
  | more g d n c t =>
   rename_i b _ _ _;have O:b≠e:=ne _ _ t;have bs:b≠slow:=λz=>by subst z;have:=t.uniq y;lia
   refine QD vN ?_;refine we (m:=field (.ref o) 2) (PL (kp _ _ {_,c} g) d n ?_);rw [if_neg (show ¬ ((OF b==Pf)=true) by simp)];rw [if_neg (show ¬ ((OF b==OF e)=true) by simpa using O),if_neg (show ¬ ((OF b==OF slow)=true) by simpa using bs)];cases F with
   | false=>exact we (Os (Os {Ql (f!"") _,J t y 'l' q}))
   | true =>
    cases y with
    | one=>lia
    | more g' d' S c' t'=>exact we (m:=field (.ref slow) 2) (PL (kp _ _ {_,c'} g') d' S (Os {Ql (f!"") _,J t t' 'l' q}))
theorem NZ{α:Type}{Q:α->Oq->Prop}(G:Hnd A s.heap)(F:s.heap.get? e=some oe)(hd:oe.data = .fields ws)(hz:2<ws.size)(J:∀C,oe.cls≠.ref C)(k:∀h',Qw e s.heap h'->(∃o,h'.get? e=some o/\o.cls=oe.cls)->E (.ref e) { s with heap:=h' }):Oz (OI prog w) A (SI (.ref e):Sem α) Q E s:=by
 unfold SI;refine we (wpAny_handled ?_);rcases G with G|⟨a,n,h1,h2⟩
 .rw [G];exact we (Os (TF (k s.heap (Qw.refl _ _) {oe,F,rfl})))
 .rw [h1];have ne:∀n b,bF s.heap n b->b≠e:=λn b x z=>by
   obtain ⟨o,C,g,c⟩:=x.cls;rw [z,F] at g;cases g;exact J C c
  dsimp only;rw [if_pos (show (OF a != OF e)=true by simpa using ne _ _ h2)];refine we (OV (wpAny_runValue (yC (λ_ _ _ q=>q) ne h2 h2 (OA _) ?_)));refine we ?_;show Oz _ _ (RH (.ref e) 2 (.ref a)) _ _ _;have dd:=QO hd (·.setIfInBounds 2 (OF a));exact PK F hd hz (TF (k _ (Qw.update ..) {_,Pu _ F (Qi dd),RB _ _}))
theorem MJ{α:Type}{Q:α->Oq->Prop}(G:Hnd A s.heap)(k:∀h' e,(∀b o,s.heap.get? b=some o->h'.get? b=some o)->(∃o,h'.get? e=some o/\o.cls = .type "StopIteration")->E (.ref e) { s with heap:=h' }) :
  Oz (OI prog w) A (newExc (.type "StopIteration") []>>=λe=>(SI e:Sem α)) Q E s:=by
 refine we ?_;simp only [newExc,newTuple];refine we (Pp (we (m:=Tn _ _) (TK (a:=Pf) (by first|rfl|(simp only [Tn];rfl)) (Pp ?_ (by size_fits)))) (by size_fits));have old:∀(o1 F:Obj) b o,s.heap.get? b=some o->((s.heap.push o1).push F).get? b=some o:=λo1 F b o q=>Ot _ (Ot _ q);refine NZ (G.keeps λb o _ q=>old _ _ b o q) (ON _ rfl) rfl (by simp;lia) (λC z=>by cases z) λh' J=>x3e λo g c=>k h' _ (λb o q=>?_) ⟨o,g,c⟩;refine (J.2 b (λz=>?_)).trans (old _ _ b o q);have:=O2 q;rw [z,Rh] at this;exact absurd (Qt this) (Ph _)
theorem Hv{it t:Addr}(Z:Hnd A s.heap)(J:s.heap.IsTupleIter it t i)(ht:s.heap.IsTuple t items)(hx:items[i]?=none)(k:∀h',ExtBut it s.heap h'->Q none { s with heap:=h' }):Oz (OI prog w) A (RS (.ref it)) Q E s:=by
 obtain ⟨o,G,hc,hd⟩:=id J;obtain ⟨ol,O,_,nl,S⟩:=ht;unfold RS;refine we (wpAny_attempt (Rf (name:=Ou "__next__") J.typeIs F.slot_tuple_iterator_next (PU F.slot_tuple_iterator_next J.typeIs F.entry_tuple_iterator_next ?_ (F.args_tuple_iterator_next_1 _))));refine we (m:=field (.ref it) 0) (PL G hd (x:=.ref t) rfl ?_);rw [if_neg (show ¬ ((OF t==Pf)=true) by simp)];refine we (m:=field (.ref it) 1) (PL G hd (x:=.int i 0) rfl (we (m:=Ub (.ref t)) (RE O S ?_)));simp only [Qk,hx];refine we (Rn (we (PK G hd 'z' ?_)));refine MJ (Z.keeps λb q W e=>(O0 _ _ λz=>?_).trans e) λh' e up=>x3e λo' g' c' =>
  we (Sr (T:="StopIteration") (b:=true) ⟨o',g',c'⟩ isSubtype_stop (Os (k h' λb q hb z=>up b q ((O0 _ _ (Pt hb)).trans z))))
 obtain ⟨C,U⟩:=W;rw [<- z,G] at e;cases e;rw [hc] at U;cases U
theorem K6{x1}{t:Addr}(hh:Hnd A s.heap)(G:Uq s.heap t items)(hn:(Qh S env).length=items.size)(F:(Qh S env).findIdx? (·.1)=none)(h:∀h',ExtBut s.heap.objs.size s.heap h'->Oz (OI prog w) A (assignInOrder ((Qh S env).map (·.2)) items.toList) Q E { s with heap:=h' }):Oz (OI prog w) A (Tp (.Tuple S x1 pos) env (.ref t)) Q E s:=by
 have lt:t≠s.heap.objs.size:=by obtain ⟨o,ho,_⟩:=G;exact Pl (O2 ho)
 have all:take items.size (List.drop 0 items.toList)=items.toList:=by rw [UM];exact OU 'z'
 have J:Oz (OI prog w) A (unpackItems (.ref t) items.size none) (λvs s'=>∃h',vs=items.toList/\s'={ s with heap:=h' }/\ExtBut s.heap.objs.size s.heap h') E s:=by
  unfold unpackItems;refine we ?_;unfold notIterableAtAll;refine we (wpAny_specialOf G.typeIs slot_tuple_iter.lookup (Os ?_));simp only [Qu,if_false];refine we (OV (iter_tuple G (we (OV (draw_tuple lt items.size 0 _ _ {_,ON _ rfl,rfl,rfl} (G.push _) 'l' λh1 W s1=>?_)))));rw [all,if_neg 'z'];have t1:Uq h1 t items:=(G.push _).extBut s1.extBut lt;have up1:∀b o,b≠s.heap.objs.size->s.heap.get? b=some o->h1.get? b=some o:=λb o O e=>s1.extBut b o O (Ot _ e);refine we (OV (Hv (s:={ s with heap:=h1 }) (hh.keeps λb o _ e=>up1 b o (Pl (O2 e)) e) W t1 'z' λh2 U=>?_));simp only [Option.isSome_none,Qu,if_false];exact Os {h2,rfl,rfl,λb o O e=>U b o O (up1 b o O e)}
 rw [assign_Tuple];refine we (Pn ?_);unfold unpack;rw [F,hn];refine we (OV (O3 J (λvs s'=>x3e λh' Z=>x2e λU x=>?_) λ_ _ z=>z));subst Z U;exact h h' x
end
theorem uu{k:Nat}{t:TGs}(h:PGs X es t)(hl:(Qh es X.env).length=n:=by rfl)(hst:(Qh es X.env).findIdx? (·.1)=none:=by rfl):PG X (.Tuple es k pos) (kr X.K n t):=by
 intro Go s σ H v u Q I r q;obtain ⟨a,xs,rfl,hx,O,q⟩:=q;obtain rfl:u=OF a:=r;obtain ⟨its,F,J,hz⟩:=I.tuple hx;refine K6 I.hnd J (by rw [hl,<- O,F.length];simp) hst λh' ex=>?_;have G:Inv X Go σ H { s with heap:=h' }:=I.kept (t':=s.toks) λb o e=>ex b o (Pl (O2 e)) e;have:=h Go { s with heap:=h' } σ H xs its Q G F q;simpa using this
def eqL(xs ys:List V):Bool:=xs.length==ys.length&&(Pm xs.length).all λi=>eqV (xs.getD i .non) (ys.getD i .non)
theorem kZ:∀{xs:List V},xs.all zP=true->(∀x∈xs,∀b,x≠.byt b)->eqL xs xs=true:=by
 intro xs h _;unfold eqL;rw [beq_self_eq_true,T7,Pg];intro i hi;have F:=Sw.mp hi;have G:xs[i]∈xs:=P0 F;have:=Pg.mp h _ G;rw [OM,KE F,Option.getD_some];cases e:xs[i] with
 | non=>rfl
 | bl b=>simp [eqV]
 | int j=>simp [eqV]
 | str x=>simp [eqV]
 | _=>rw [e] at this;cases this
section
variable {X:Cx}
def AG(K:Ov)(neg:Bool):R2:=λx y H Q=>∃a b xs ys,x = .ref a/\y = .ref b/\SqL K H a xs/\SqL K H b ys/\xs.all zP=true/\ys.all zP=true/\Q (.bl (if neg then !eqL xs ys else eqL xs ys)) H
theorem sC(I:Inv X Go σ H s)(W:SqL X.K H a xs)(hb:SqL X.K H b ys)(fx:xs.all zP=true)(Z:ys.all zP=true):
  ∃is F:List Value,s.heap.IsList a is.toArray/\s.heap.IsList b F.toArray/\xs.length=is.length/\ys.length=F.length/\∀(A:OR)(j:Nat)(h1:j<is.toArray.size)(h2:j<F.toArray.size),SeqAt.EqAt A s is.toArray[j] F.toArray[j] (eqV (xs.getD j .non) (ys.getD j .non)):=by
 obtain ⟨is,r1,U,_⟩:=I.list W;obtain ⟨F,r2,p2,_⟩:=I.list hb;refine {is,F,U.isList,p2.isList,r1.length,r2.length,λA j h1 h2=>?_};have l1:=r1.length;have l2:=r2.length;simp only [OQ] at h1 h2;have J:xs[j]?=some (xs.getD j .non):=by rw [OM,KE 'l'];rfl
 have G:ys[j]?=some (ys.getD j .non):=by rw [OM,KE 'l'];rfl
 obtain ⟨u,S,q1⟩:=r1.get J;obtain ⟨v,O,q2⟩:=r2.get G;rw [KE h1] at S;rw [KE h2] at O;have f1:=Pg.mp fx _ (Pc J);have f2:=Pg.mp Z _ (Pc G);have z:=jH (A:=A) (s:=s) q1 q2 f1 f2;have w1:is.toArray[j]=u:=by simpa using Pa.inj S
 have w2:F.toArray[j]=v:=by simpa using Pa.inj O
 rw [w1,w2];exact z
theorem Fz(J:X.A.units<cLine):OpR X (Pq .Eq) (AG X.K false):=by
 intro Go s σ H x y v u Q I S ry h;obtain ⟨a,b,xs,ys,rfl,rfl,U,hb,fx,W,q⟩:=h;cases S;cases ry;obtain ⟨is,js,O,p2,F,G,Z⟩:=sC I U hb fx W;by_cases hz:is.toArray.size=js.toArray.size
 .refine SeqAt.eq_listAt O p2 hz J (λj h1 h2=>Z _ j h1 h2) {.bl _,H,I,rfl,?_};have e:eqL xs ys=(Pm is.toArray.size).all λj=>eqV (xs.getD j .non) (ys.getD j .non):=by
   unfold eqL;simp only [OQ] at hz ⊢;rw [F,G,hz];simp
  rw [<- e];exact q
 .refine SeqAt.eq_list_lengthsAt O p2 (by simpa using hz) J {.bl false,H,I,rfl,?_};have e:eqL xs ys=false:=by
   unfold eqL;have:(xs.length==ys.length)=false:=by simp only [OQ] at hz;rw [F,G];simpa using hz
   rw [this,Sm]
  have q':Q (.bl (eqL xs ys)) H:=q;rw [e] at q';exact q'
theorem yx(J:X.A.units<cLine):OpR X (Pq .NotEq) (AG X.K true):=by
 intro Go s σ H x y v u Q I S ry h;obtain ⟨a,b,xs,ys,rfl,rfl,U,hb,fx,W,q⟩:=h;cases S;cases ry;obtain ⟨is,js,O,p2,F,G,Z⟩:=sC I U hb fx W;have q':Q (.bl (!eqL xs ys)) H:=q;by_cases hz:is.toArray.size=js.toArray.size
 .refine SeqAt.RcNeAt.lists O p2 hz J (λj h1 h2=>Z _ j h1 h2) _ _ _ _ {.bl _,H,I,rfl,?_};have e:eqL xs ys=(Pm is.toArray.size).all λj=>eqV (xs.getD j .non) (ys.getD j .non):=by
   unfold eqL;simp only [OQ] at hz ⊢;rw [F,G,hz];simp
  rw [<- e];exact q'
 .refine SeqAt.RcNeAt.lists_lengths O p2 (by simpa using hz) J _ _ _ _ {.bl true,H,I,rfl,?_};have e:eqL xs ys=false:=by
   unfold eqL;have:(xs.length==ys.length)=false:=by simp only [OQ] at hz;rw [F,G];simpa using hz
   rw [this,Sm]
  rw [e] at q';exact q'
theorem Inv.big(I:Inv X Go σ H s):sysModules<s.heap.objs.size:=by
 have h:OH<s.heap.objs.size:=(I.mod.glob.keeps I.bk).lt;exact Ra 'd' h
def BC:TE:=λ_ H Q=>∀p,H p=none->Q (.ref p) (upd H p (.dK []))
theorem MX:PE X (.Dict [] [] pos) BC:=λGo s σ H Q I h =>
 wpAny_Dict_empty {.ref s.heap.objs.size,_,I.laid (a:=s.heap.objs.size) (o:=.dK []) (t':=s.toks) (λ_ _ q=>Ot _ q) (OA _) {Pz _,beq_eq_false_iff_ne.mpr (Pt (Pl I.big)),[],.nil,Heap.DictOf.new s.heap},rfl,h _ (I.hok.fresh (OA _))}
def Io(K:Ov)(n:Nat)(t:TGs):TG:=λv σ H Q=>∃a xs,v = .ref a/\SqL K H a xs/\xs.length=n/\t xs σ H Q
theorem BQ{k:Nat}{t:TGs}(O:X.calm=true)(h:PGs X es t)(hl:(Qh es X.env).length=n:=by rfl)(hst:(Qh es X.env).findIdx? (·.1)=none:=by rfl):PG X (.Tuple es k pos) (Io X.K n t):=by
 intro Go s σ H v u Q I r q;obtain ⟨a,xs,rfl,hx,S,q⟩:=q;obtain rfl:u=OF a:=r;obtain ⟨its,F,J,hz⟩:=I.list hx;rw [assign_Tuple];refine we (Pn ?_);unfold unpack;have hs:n=its.toArray.size:=by rw [<- S,F.length];simp
 rw [hl,hst,hs];refine we (OV (PySem.W.kun_itemsOf (I.ok.hd O) J.isList λh' ex=>?_));have G:Inv X Go σ H { s with heap:=h' }:=I.kept (t':=s.toks) λb o e=>ex b o (Pl (O2 e)) e;have:=h Go { s with heap:=h' } σ H xs its Q G F q;simpa using this
theorem zG.mark{k:Nat}(r:zG c k A):zG false k (A.mark v):={λh=>(nomatch h),r.dp,r.un,r.gd}
def aU:OZ->Bool
 | .Starred _ _=>false
 | _=>true
theorem dE(h:aU e=true):O8 (e::es) env=(false,Qc e env)::O8 es env:=by
 cases e<;>first|rfl|(exact absurd (show false=true from h) OP)
def dG(es:List OZ):Bool:=es.all aU
theorem xg:∀{es:List OZ}(h:dG es=true),(O8 es env).any (·.1)=false
 | [],_=>rfl
 | e::es,h=>by
  unfold dG at h;rw [Uh,O5] at h;rw [dE h.1,Ug,xg h.2];rfl
theorem fB(h:dG es=true):(QW pos (O8 es env)).any (·.1)=false:=by
 have q:=xg (env:=env) h;unfold QW;rw [any_map];exact q
theorem fV(h:aU e=true):O8 [e] env=[(false,Qc e env)]:=(dE h).trans rfl
theorem zd{t:TA}(F:W (PE X e te))(G:W (PA X es t))(J:aU e=true:=by rfl):W (PA X (e::es) (jd te t)):=by refine {?_};have F:=F.h;have G:=G.h;exact gD F G (dE J)
theorem ar{id:String}{r:List V->Hp->VK->Prop}{t:TA}{p pos:Pos}(J:zU X (.builtin id) r)(U:Gl X x)(S:X.mg x=none)(hv:Rt x=some (.builtin id))(F:W (PA X (e::es) t))(G:aU e=true:=by rfl)(Yb:dG es=true:=by rfl)(Z:x≠"__name__":=by decide)(O:(x==("__debug__":Str))=false:=by decide):W (PE X (.Call (.Name x p) (e::es) [] pos) (tCB r t)):=by refine {?_};have F:=F.h;exact HJ J U S hv F Z O (dE G) (fB Yb)
theorem cR{r:List V->Hp->VK->Prop}{t:TA}{p pos:Pos}(J:zU X (.type T) r)(U:Gl X x)(S:X.mg x=none)(hv:Rt x=some (.type T))(F:W (PA X (e::es) t))(G:aU e=true:=by rfl)(Yb:dG es=true:=by rfl)(Z:x≠"__name__":=by decide)(O:(x==("__debug__":Str))=false:=by decide):W (PE X (.Call (.Name x p) (e::es) [] pos) (tCB r t)):=by refine {?_};have F:=F.h;exact ND J U S hv F Z O (dE G) (fB Yb)
theorem dB{p pos:Pos}(G:Gl X "range")(O:X.mg "range"=none)(F:W (PA X [a] ta))(J:aU a=true:=by rfl):W (PIc true X tg (.Call (.Name "range" p) [a] [] pos) (nj ta)):=by refine {?_};have F:=F.h;exact KF G O F (fV J)
theorem dS{t:TA}(S:X.calm=true)(T:bj X Ex)(O:bG X.K C)(hg:Gl X x)(Z:X.mg x=some (.ref C))(F:W (PA X (e::es) t))(J:aU e=true:=by rfl)(Yb:dG es=true:=by rfl)(U:(x==("__debug__":Str))=false:=by decide):W (PS X (.Raise (some (.Call (.Name x G) (e::es) [] cpos)) none pos) (jD C Ex t)):=by refine {?_};have F:=F.h;exact NU S T O hg Z F U (dE J) (fB Yb)
structure New(H:Hp)(p:Addr)(o:HO)(H':Hp):Prop where
 no:H p=none
 at_:H' p=some o
 same:zj H H'
theorem New.mk'{p:Addr}{o:HO}(h:H p=none):New H p o (upd H p o):={h,zA,λb u e=>by rw [zg (zH e h)];exact e}
def Ac(t:TA):TE:=λσ H Q=>t σ H λxs H1=>xs.length<=sizeLine/\∀p H2,New H1 p (.lst xs) H2->p≠sysModules->Q (.ref p) H2
theorem bV{t:TA}(h:W (PA X es t)):W (PE X (.List es pos) (Ac t)):=by
 refine {?_};have h:=h.h;intro Go s σ H Q I G;refine wpAny_List_spliced (thn (h pos Go s σ H _ I G) λus s1=>x5e λxs H1 F r=>x2e λz q=>{by rw [<- r.length];exact z,?_});have hf:H1 s1.heap.objs.size=none:=F.hok.fresh (OA _);refine {.ref s1.heap.objs.size,upd H1 s1.heap.objs.size (.lst xs),F.laid (t':=s1.toks) (λb u e=>Ot _ e) (OA _) ?_,rfl,q _ _ (.mk' hf) (RU F.big)};exact {z,us,0,r,ON _ rfl}
def pM(t:TA):TE:=λσ H Q=>t σ H λxs H1=>xs.length<=sizeLine/\∀p H2,New H1 p (.tup xs) H2->Q (.ref p) H2
theorem yi{t:TA}(hw:∀xs H,R xs H->R' xs H)(h:PA X es t)(pos:Pos)(Go:List (Addr×Obj))(s:Oq)(σ:St)(H:Hp)(I:Inv X Go σ H s)(q:t σ H R):
  Oz (OI X.prog X.w) X.A (spliced (QW pos (O8 es X.env))) (AP X Go σ R') X.xe s :=
 thn (h pos Go s σ H R I q) λ_ _=>x5e λvs H' a b c=>{vs,H',a,b,hw _ _ c}
theorem bR{t:TA}{x1}(h:W (PA X es t)):W (PE X (.Tuple es x1 pos) (pM t)):=by
 refine {?_};have h:=h.h;have h':PA X es (λσ H Q=>∃R:List V->Hp->Prop,t σ H R/\∀xs H,R xs H->Q xs H):=λpos Go s σ H Q I=>x3e λR q hw=>yi hw h pos Go s σ H I q;intro Go s σ H Q I F;exact Cq h' Go s σ H Q I {_,F,λxs H1=>x2e λz q=>{z,λp G=>q p _ (.mk' G)}}
def vi:TE:=λ_ H Q=>∀p H2,New H p (.dK []) H2->Q (.ref p) H2
theorem wR:W (PE X (.Dict [] [] pos) vi):={λGo s σ H Q I h=>MX Go s σ H Q I λp F=>h p _ (.mk' F)}
end
def uR(v:V)(q:Addr->Prop):Prop:=∃a,v = .ref a/\q a
def tV(to te:TE):TE:=λσ H Q=>to σ H λx H1=>uR x λl=>(∃xs,H1 l=some (.lst xs))/\te σ H1 λy H2=>∃xs,H2 l=some (.lst xs)/\xs.length<sizeLine/\Q .non (upd H2 l (.lst (xs++[y])))
section
variable {X:Cx}
theorem OpR.weak{r r':R2}(h:OpR X f r)(hw:∀x y H Q,r' x y H Q->r x y H Q):OpR X f r' :=
 λGo s σ H x y v u Q I G F q=>h Go s σ H x y v u Q I G F (hw x y H Q q)
theorem zU.weak{r r':List V->Hp->VK->Prop}(h:zU X f r)(hw:∀xs H Q,r' xs H Q->r xs H Q):zU X f r' :=
 λGo s σ H xs us Q I F q=>h Go s σ H xs us Q I F (hw xs H Q q)
theorem IxR.weak{r r':R2}(h:IxR X r)(hw:∀x y H Q,r' x y H Q->r x y H Q):IxR X r' :=
 λZy G Go s σ H x y v u Q I J F q hs=>h Zy G Go s σ H x y v u Q I J F (hw x y H Q q) hs
def dQ:R2:=λx y H Q=>(∃i j,x = .int i/\y = .int j/\Q (.int (i+j)) H)\/(∃i j,x = .str i/\y = .str j/\i.length+j.length<=sizeLine/\Q (.str (i++j)) H) \/
 (∃l b xs zs,x = .ref l/\y = .ref b/\H l=some (.lst xs)/\H b=some (.lst zs)/\xs.length+zs.length<=sizeLine/\∀p H2,New H p (.lst (xs++zs)) H2->Q (.ref p) H2)
theorem o5:OpR X (QH .Add) dQ:=BI.or (Br.or (DK.weak λx y H Q h=>by
 obtain ⟨l,b,xs,zs,J,G,h1,h2,h3,h4⟩:=h;exact {l,b,xs,zs,J,G,h1,h2,h3,λp F=>h4 p _ (.mk' F)}))
def fE:R2:=λx y H Q=>(∃i j,x = .int i/\y = .int j/\fH i j/\Q (.int (i*j)) H) \/
 (∃l k xs,x = .ref l/\y = .int k/\H l=some (.lst xs)/\-(2 ^ 63)<=k/\k<2 ^ 63/\xs.length*k.toNat<=sizeLine/\∀p H2,New H p (.lst (Qd k.toNat xs).flatten) H2->Q (.ref p) H2)
theorem BE:OpR X (QH .Mult) fE:=Kp.or (FR.weak λx y H Q h=>by
 obtain ⟨l,k,xs,G,O,h1,h2,h3,J,h4⟩:=h;exact {l,k,xs,G,O,h1,h2,h3,J,λp F=>h4 p _ (.mk' F)})
def uIx:R2:=λx y H Q=>(∃p xs i v,x = .ref p/\y = .int i/\H p=some (.lst xs)/\atI xs i=some v/\Q v H) \/
 (∃p xs i v,x = .ref p/\y = .int i/\H p=some (.tup xs)/\atI xs i=some v/\Q v H)\/(∃z i c,x = .str z/\y = .int i/\z.length<=sizeLine/\atI z.cps.toList i=some c/\Q (.str {#[c]}) H)
theorem pZ:IxR X uIx:=HH.weak λx y H Q h=>by
 rcases h with ⟨p,xs,i,v,G,F,h,r⟩|⟨p,xs,i,v,G,F,h,r⟩|h
 .exact .inl {p,xs,i,v,G,F,SqL.of h,r}
 .exact .inr (.inl {p,xs,i,v,G,F,SqT.of h,r})
 .exact .inr (.inr h)
def ke:List V->Hp->VK->Prop:=λxs H Q=>(∃p ys,xs=[.ref p]/\H p=some (.lst ys)/\Q (.int ys.length) H)\/(∃p ys,xs=[.ref p]/\H p=some (.tup ys)/\Q (.int ys.length) H) \/
 (∃z,xs=[.str z]/\z.length<=sizeLine/\Q (.int z.length) H)
theorem jL:zU X (.builtin "len") ke:=(pO.or HM).weak λxs H Q h=>by
 rcases h with ⟨p,ys,e,h,q⟩|⟨p,ys,e,h,q⟩|h
 .exact .inl {p,ys,e,.inl (SqL.of h),q}
 .exact .inl {p,ys,e,.inr (SqT.of h),q}
 .exact .inr h
def uEq(neg:Bool):R2:=λx y H Q=>(f9 x y=true/\Q (.bl (if neg then !decide (x=y) else decide (x=y))) H) \/
 (∃a b xs ys,x = .ref a/\y = .ref b/\H a=some (.lst xs)/\H b=some (.lst ys)/\xs.all zP=true/\ys.all zP=true/\Q (.bl (if neg then !eqL xs ys else eqL xs ys)) H)
theorem dH(F:X.A.units<cLine):OpR X (Pq .Eq) (uEq false):=(B5.or (Fz F)).weak λx y H Q h=>by
 rcases h with h|⟨a,b,xs,ys,J,G,h1,h2,r⟩
 .exact .inl {h.1,by simpa using h.2}
 .exact .inr {a,b,xs,ys,J,G,SqL.of h1,SqL.of h2,r}
theorem iP(F:X.A.units<cLine):OpR X (Pq .NotEq) (uEq true):=(LL.or (yx F)).weak λx y H Q h=>by
 rcases h with h|⟨a,b,xs,ys,J,G,h1,h2,r⟩
 .exact .inl {h.1,by simpa using h.2}
 .exact .inr {a,b,xs,ys,J,G,SqL.of h1,SqL.of h2,r}
def xE(K:Ov)(ta:TE):TT:=λσ H Q=>ta σ H λx H'=>∃k,fP K x H' k/\Q k H'
theorem dk(F:W (PE X a ta))(J:∀G,isTrue a X.env G=(do let v<-G;Re a.pos;Q1 [v] (truthy v)):=by intro _;rfl):W (PT X a (xE X.K ta)):=by refine {?_};have F:=F.h;exact Oh F J
def lB(C:Addr)(ta:TE)(f:Str):TE:=λσ H Q=>ta σ H λx H1=>∃a dx fs v,x = .ref a/\H1 a=some (.ins C dx fs)/\fs.lookup f=some v/\Q v H1
theorem ae(c:Cls X.K C)(n:bA X.K C f)(F:W (PE X e ta))(J:QN e f X.env (Qc e X.env)=Qc e X.env:=by rfl):W (PE X (.Attribute e f pos) (lB C ta f)):=by
 refine {?_};have F:=F.h;intro Go s σ H Q I h;refine Js J (thn (F Go s σ H _ I h) λu s1=>x5e λx H1 G Z U=>?_);obtain ⟨a,dx,fs,v,ex,ea,l,q⟩:=U;subst ex;obtain rfl:u=OF a:=Z;exact AV G ea c n l λu' s2 S O=>⟨v,H1,S,O,q⟩
def lD(C:Addr)(ta tv:TE)(f:Str):TS:=λD σ H=>tv σ H λy H1=>ta σ H1 λx H2=>∃a dx fs,x = .ref a/\H2 a=some (.ins C dx fs)/\fs.length<1000/\D.nx σ (upd H2 a (.ins C dx (zN f y fs)))
theorem cg{o Zy:OZ}{ta tv:TE}(c:Cls X.K C)(n:bA X.K C f)(F:W (PE X o ta))(hv:W (PE X Zy tv))(hs:S5 Zy (some (.Attribute o f Zo)) pos.line X.env=pure false:=by rfl):W (PS X (.Assign [.Attribute o f Zo] Zy pos) (lD C ta tv f)):=by
 refine {?_};have F:=F.h;have hv:=hv.h;intro Go s σ H D I h;refine plainObj_wpAny_Assign_Attribute (thn (hv Go s σ H _ I h) λu s1=>x5e λy H1 G U q=>thn (F Go s1 σ H1 _ G q) λS s2=>x5e λx H2 Z rx XT=>?_) hs;obtain ⟨a,dx,fs,ex,ea,l,O⟩:=XT;subst ex;obtain rfl:S=OF a:=rx;exact AL Z ea c n l U λs3 J=>{σ,_,J,O}
structure GF(P:OE)(w:OW)(K:Ov)(mg:Str->Option Value)(base:Heap)(cm:Bool)(k:Nat)(x:Str)(ps:List Str)(sp:Sp):Prop where
 ex:∃(f:Addr)(fd:OJ),zq P w K mg base CX0 cm k f fd ps sp/\mg x=some (.ref f)/\Si K (.ref f)=true/\bQ K fd ps []
structure GX(P:OE)(w:OW)(K:Ov)(mg:Str->Option Value)(base:Heap)(cm:Bool)(k:Nat)(x:Str)(ps:List Str)(sp:Sp):Prop where
 ex:∃(f:Addr)(fd:OJ),zq P w K mg base (CXW P w) cm k f fd ps sp/\mg x=some (.ref f)/\Si K (.ref f)=true/\bQ K fd ps []
structure GM(P:OE)(w:OW)(K:Ov)(mg:Str->Option Value)(base:Heap)(cm:Bool)(k:Nat)(C:Addr)(m:Str)(ps:List Str)(sp:Sp):Prop where
 ex:∃(f:Addr)(fd:OJ),zq P w K mg base CX0 cm k f fd ps sp/\iJ K C m f/\bQ K fd ps []
structure GMX(P:OE)(w:OW)(K:Ov)(mg:Str->Option Value)(base:Heap)(cm:Bool)(k:Nat)(C:Addr)(m:Str)(ps:List Str)(sp:Sp):Prop where
 ex:∃(f:Addr)(fd:OJ),zq P w K mg base (CXW P w) cm k f fd ps sp/\iJ K C m f/\bQ K fd ps []
structure GC(P:OE)(w:OW)(K:Ov)(mg:Str->Option Value)(base:Heap)(cm:Bool)(k:Nat)(x:Str)(C:Addr)(ps:List Str)(sp:Sp):Prop where
 ex:∃(f:Addr)(fd:OJ),zq P w K mg base CX0 cm k f fd ps sp/\mg x=some (.ref C)/\Mk K C f/\bQ K fd ps []
variable {cm:Bool}{k j:Nat}{x m:Str}{C:Addr}{ps:List Str}{sp:Sp}{e o:OZ}{es:List OZ}{t:TA}{ta:TE}{p pos ZR:Pos}{Ex:Addr->St->Hp->Prop}
theorem zL(G:GF X.prog X.w X.K X.mg X.base cm j x ps sp)(U:zG cm k X.A)(hg:Gl X x)(J:W (PA X (e::es) t))(S:j<=k:=by decide)(Zn:(x==("__debug__":Str))=false:=by decide)(O:aU e=true:=by rfl)(Yb:dG es=true:=by rfl):W (PE X (.Call (.Name x p) (e::es) [] pos) (mF sp [] E0 t)):=by
 refine {?_};have J:=J.h;obtain ⟨f,fd,F,hm,Z,hb⟩:=G.ex;exact IM F (U.mono S) hg hm Z hb .nil i9 J Zn (dE O) (fB Yb)
theorem dP(T:bj X Ex)(G:GX X.prog X.w X.K X.mg X.base cm j x ps sp)(U:zG cm k X.A)(hg:Gl X x)(J:W (PA X (e::es) t))(S:j<=k:=by decide)(Zn:(x==("__debug__":Str))=false:=by decide)(O:aU e=true:=by rfl)(Yb:dG es=true:=by rfl):W (PE X (.Call (.Name x p) (e::es) [] pos) (kL sp [] Ex t)):=by
 refine {?_};have J:=J.h;obtain ⟨f,fd,F,hm,Z,hb⟩:=G.ex;exact NP T F (U.mono S) hg hm Z hb .nil J Zn (dE O) (fB Yb)
theorem aC(J:W (PE X o ta))(c:Cls X.K C)(G:GM X.prog X.w X.K X.mg X.base cm j C m ps sp)(hr:zG cm k X.A)(O:W (PA X (e::es) t))(hj:j<=k:=by decide)(U:aU e=true:=by rfl)(Yb:dG es=true:=by rfl)(Z:Qc (.Call (.Attribute o m ZR) (e::es) [] pos) X.env=(do
   let S<-Qc o X.env
   Re ZR.atName
   let (f,first)<-Q1 [S] (Sy S m pl)
   RY pos f first (QW pos (O8 (e::es) X.env)) (Ue pos (Sd [] X.env))):=by rfl):W (PE X (.Call (.Attribute o m ZR) (e::es) [] pos) (fJ C m sp [] E0 ta t)):=by
 refine {?_};have J:=J.h;have O:=O.h;obtain ⟨f,fd,F,hm,hb⟩:=G.ex;exact Ku J c hm F (hr.mono hj) hb .nil i9 O (dE U) (fB Yb) Z
theorem zY(J:W (PE X o ta))(c:Cls X.K C)(G:GM X.prog X.w X.K X.mg X.base cm j C m ps sp)(Z:zG cm k X.A)(U:j<=k:=by decide)(S:Qc (.Call (.Attribute o m ZR) [] [] pos) X.env=(do
   let O<-Qc o X.env
   Re ZR.atName
   let (f,first)<-Q1 [O] (Sy O m pl)
   RY pos f first (QW pos (O8 [] X.env)) (Ue pos (Sd [] X.env))):=by rfl):W (PE X (.Call (.Attribute o m ZR) [] [] pos) (fJ C m sp [] E0 ta cw)):=by
 refine {?_};have J:=J.h;obtain ⟨f,fd,F,hm,hb⟩:=G.ex;exact G0 J c hm F (Z.mono U) hb .nil i9 S
theorem cx(J:W (PE X o ta))(c:Cls X.K C)(T:bj X Ex)(G:GMX X.prog X.w X.K X.mg X.base cm j C m ps sp)(Z:zG cm k X.A)(U:j<=k:=by decide)(S:Qc (.Call (.Attribute o m ZR) [] [] pos) X.env=(do
   let O<-Qc o X.env
   Re ZR.atName
   let (f,first)<-Q1 [O] (Sy O m pl)
   RY pos f first (QW pos (O8 [] X.env)) (Ue pos (Sd [] X.env))):=by rfl):W (PE X (.Call (.Attribute o m ZR) [] [] pos) (jR C m sp [] Ex ta cw)):=by
 refine {?_};have J:=J.h;obtain ⟨f,fd,F,hm,hb⟩:=G.ex;exact EU J c hm T F (Z.mono U) hb .nil S
structure rV(H:Hp)(C x dx:Addr)(H':Hp):Prop where
 no:H x=none
 nod:H dx=none
 ne:dx≠x
 at_:H' x=some (.ins C dx [])
 own:H' dx=some (.own x)
 same:zj H H'
theorem rV.mk'{C x dx:Addr}(h:H x=none)(hd:H dx=none)(ne:dx≠x):rV H C x dx (upd (upd H dx (.own x)) x (.ins C dx [])) :=
 {h,hd,ne,zA,by rw [zg ne,zA],λb u e=>by rw [zg (zH e h),zg (zH e hd)];exact e}
def mL(C:Addr)(sp:Sp)(t:TA):TE:=λσ H Q=>t σ H λvs H1=>∀x dx H2,rV H1 C x dx H2->sp (.ref x::vs) H2 (λv H3=>v = .non/\Q (.ref x) H3) E0
theorem PA.any{es:List OZ}{t:TA}(h:PA X es t):PA X es (λσ H Q=>∃R:List V->Hp->Prop,t σ H R/\∀xs H,R xs H->Q xs H):=λpos Go s σ H Q I=>x3e λR q hw=>yi hw h pos Go s σ H I q
theorem ja(G:GC X.prog X.w X.K X.mg X.base cm j x C ps sp)(U:zG cm k X.A)(hg:Gl X x)(J:W (PA X (e::es) t))(S:j+1<=k:=by decide)(Zn:(x==("__debug__":Str))=false:=by decide)(O:aU e=true:=by rfl)(Yb:dG es=true:=by rfl):W (PE X (.Call (.Name x p) (e::es) [] pos) (mL C sp t)):=by
 refine {?_};have J:=J.h;obtain ⟨f,fd,F,hm,M,Z⟩:=G.ex;intro Go s σ H Q I h;exact HD M F (U.mono S) hg hm Z .nil i9 J.any Zn (dE O) (fB Yb) Go s σ H Q I {_,h,λvs H1 q x dx hx hd ne=>by rw [PY];exact q x dx _ (.mk' hx hd ne)}
theorem dM{pos:Pos}(G:Gl X x)(F:∃u,X.mg x=some u/\zr v u)(hd:(x==("__debug__":Str))=false:=by decide):W (PE X (.Name x pos) (tC v)):=by
 refine {?_};obtain ⟨u,F,r⟩:=F;exact JM G F r hd
theorem gh{o e:OZ}{to te:TE}{ZR cpos:Pos}(S:W (PE X o to))(G:W (PE X e te))
  (Zw:QN o "append" X.env (Qc o X.env)=Qc o X.env:=by rfl)
  (Y9:(ZR.endLine==cpos.line)=true:=by rfl) (hp:aU e=true:=by rfl):W (PE X (.Call (.Attribute o "append" ZR) [e] [] cpos) (tV to te)):=by
 refine {?_};have S:=S.h;have G:=G.h;intro Go s σ H Q I h;have hs:O8 [e] X.env=[(false,Qc e X.env)]:=fV hp;refine Ro Zw (by rw [hs];rfl) Y9 rfl (thn (S Go s σ H _ I h) λv s1=>x5e λx H1 I1 r1 ai=>?_);obtain ⟨l,ex,⟨xs,hx⟩,q1⟩:=ai;subst ex;obtain ⟨h1,h2⟩:=lh (T:="list") I1 r1 (.inl {rfl,xs,SqL.of hx});refine {"list","list.append",Uj,PySem.F.slot_list_append,PySem.F.type_list_append,h1,h2,?_};rw [hs];refine Calls.callWith_builtin rfl (Calls.evalArgs_plain ?_);have hA:=gD G gp (hs:=hs) cpos Go s1 σ H1 (λys H2=>dZ (λy=>∃xs,H2 l=some (.lst xs)/\xs.length<sizeLine/\Q .non (upd H2 l (.lst (xs++[y])))) ys) I1 q1;rw [hs] at hA;refine thn hA λus s2=>x5e λvs H2 I2 r2 U=>?_;obtain ⟨y,rfl,Z,O,J,U⟩:=dZ.ex U;exact NA Go s2 σ H2 (.ref l) [y] v us Q I2 r1 r2 {l,Z,y,rfl,rfl,O,J,U}
end
section
variable {X:Cx}
def fg:List V->Hp->VK->Prop:=λxs H Q=>(∃i,xs=[.int i]/\Q (.int i) H)\/∃k,xs=[.bl k]/\Q (.int (if k then 1 else 0)) H
theorem Dr:zU X (.type "int") fg:=Jy
def iM:List V->Hp->VK->Prop:=λxs H Q=>∃i,xs=[.int i]/\i.natAbs.log2<1920/\Q (.str (toString i)) H
theorem Fv:zU X (.type "str") iM:=Ey
theorem JR:fg [.int i] H Q=Q (.int i) H:=by simp [fg]
theorem Mi{k:Bool}:fg [.bl k] H Q=Q (.int (if k then 1 else 0)) H:=by simp [fg]
theorem Kc:iM [.int i] H Q=(i.natAbs.log2<1920/\Q (.str (toString i)) H):=by simp [iM]
def pE:List V->Hp->VK->Prop:=λxs H Q=>∃i j,xs=[.int i,.int j]/\Q (.int (if j>i then j else i)) H
def uU:List V->Hp->VK->Prop:=λxs H Q=>∃i j,xs=[.int i,.int j]/\Q (.int (if j<i then j else i)) H
theorem IU(F:X.calm=true):zU X (.builtin "max") pE:=BA F
theorem xm(F:X.calm=true):zU X (.builtin "min") uU:=K0 F
theorem qg:pE [.int i,.int j] H Q=Q (.int (if j>i then j else i)) H:=by
 apply propext;constructor
 .rintro ⟨a,b,e,q⟩;cases e;exact q
 .exact λq=>{i,j,rfl,q}
theorem Jm:uU [.int i,.int j] H Q=Q (.int (if j<i then j else i)) H:=by
 apply propext;constructor
 .rintro ⟨a,b,e,q⟩;cases e;exact q
 .exact λq=>{i,j,rfl,q}
end
section
variable {Y:Cx}{sc:Scope}{N':List Str}{Go:List (Addr×Obj)}{D:Addr}{fp:List Addr}{s:Oq}{H:Hp}
theorem tE{k:Nat}{t:TGs}(h:PGs (zz Y sc N' Go D fp s H) es t)(hl:(Qh es (zz Y sc N' Go D fp s H).env).length=n:=by rfl)(hst:(Qh es (zz Y sc N' Go D fp s H).env).findIdx? (·.1)=none:=by rfl):PG (zz Y sc N' Go D fp s H) (.Tuple es k pos) (kr Y.K n t):=uu h hl hst
end
theorem JB{t:TG}{r:List V}:il t u (v::r) σ H Q=t v σ H λF H'=>u r F H' Q:=by
 apply propext;constructor
 .rintro ⟨v,r,e,h⟩;cases e;exact h
 .exact λh=>{v,r,rfl,h}
theorem Ky:qG [] σ H Q=Q σ H:=by
 apply propext;constructor
 .exact λh=>h.2
 .exact λh=>{rfl,h}
section
variable {H:Hp}{Q:VK}{i j:Int}{x y:Str}{a b:Addr}{K:Ov}{g:Int->Int->V}{C:Int->Int->Prop}{k c:Bool}{QB:Bool->Hp->Prop}
theorem x3:dQ (.int i) (.int j) H Q=Q (.int (i+j)) H:=by simp [dQ]
theorem ua:dQ (.str x) (.str y) H Q=(x.length+y.length<=sizeLine/\Q (.str (x++y)) H):=by simp [dQ]
theorem rN:dQ (.ref a) (.ref b) H Q = ∃xs zs,H a=some (.lst xs)/\H b=some (.lst zs)/\xs.length+zs.length<=sizeLine/\∀p H2,New H p (.lst (xs++zs)) H2->Q (.ref p) H2:=by simp [dQ]
theorem Ay:fE (.int i) (.int j) H Q=(fH i j/\Q (.int (i*j)) H):=by simp [fE]
theorem JS:fE (.ref a) (.int i) H Q = ∃xs,H a=some (.lst xs)/\-(2 ^ 63)<=i/\i<2 ^ 63/\xs.length*i.toNat<=sizeLine/\∀p H2,New H p (.lst (Qd i.toNat xs).flatten) H2->Q (.ref p) H2:=by simp [fE]
theorem m4:uIx (.ref a) (.int i) H Q = ∃xs,(H a=some (.lst xs)\/H a=some (.tup xs))/\∃v,atI xs i=some v/\Q v H:=by
 apply propext;constructor
 .rintro (⟨p,xs,i,v,G,F,h,r⟩|⟨p,xs,i,v,G,F,h,r⟩|⟨z,i,c,e,_⟩)
  .cases G;cases F;exact {xs,.inl h,v,r}
  .cases G;cases F;exact {xs,.inr h,v,r}
  .cases e
 .rintro ⟨xs,h|h,v,r⟩
  .exact .inl {_,xs,_,v,rfl,rfl,h,r}
  .exact .inr (.inl {_,xs,_,v,rfl,rfl,h,r})
theorem uW:uIx (.str x) (.int i) H Q=(x.length<=sizeLine/\∃c,atI x.cps.toList i=some c/\Q (.str {#[c]}) H):=by simp [uIx]
theorem pF:ke [.ref a] H Q = ∃ys,(H a=some (.lst ys)\/H a=some (.tup ys))/\Q (.int ys.length) H:=by
 apply propext;constructor
 .rintro (⟨p,xs,F,h,r⟩|⟨p,xs,F,h,r⟩|⟨z,e,_⟩)
  .cases F;exact {xs,.inl h,r}
  .cases F;exact {xs,.inr h,r}
  .cases e
 .rintro ⟨xs,h|h,r⟩
  .exact .inl {_,xs,rfl,h,r}
  .exact .inr (.inl {_,xs,rfl,h,r})
theorem xB:ke [.str x] H Q=(x.length<=sizeLine/\Q (.int x.length) H):=by simp [ke]
theorem Bv:rI C g (.int i) (.int j) H Q=(C i j/\Q (g i j) H):=by simp [rI]
theorem Jn:rI0 g (.int i) (.int j) H Q=Q (g i j) H:=by simp [rI0]
theorem Bz{g:Int->V}:rU g (.int i) H Q=Q (g i) H:=by simp [rU]
theorem u9:uEq c (.int i) (.int j) H Q=Q (.bl (if c then !decide (i=j) else decide (i=j))) H:=by simp [uEq,f9]
theorem ud:uEq c (.str x) (.str y) H Q=Q (.bl (if c then !decide (x=y) else decide (x=y))) H:=by simp [uEq,f9]
theorem sy:uEq c (.bl k) (.bl k') H Q=Q (.bl (if c then !decide (k=k') else decide (k=k'))) H:=by simp [uEq,f9]
theorem jV:uEq c (.ref a) (.ref b) H Q = ∃xs ys,H a=some (.lst xs)/\H b=some (.lst ys)/\xs.all zP=true/\ys.all zP=true/\Q (.bl (if c then !eqL xs ys else eqL xs ys)) H:=by simp [uEq,f9]
def hG(K:Ov)(v:V)(H:Hp)(Q:Bool->Hp->Prop):Prop:=∃k,fP K v H k/\Q k H
theorem Jz:hG K (.bl k) H QB=QB k H:=by simp [hG,fP]
theorem G4:hG K .non H QB=QB false H:=by simp [hG,fP]
theorem Hr:hG K (.int i) H QB=QB (i != 0) H:=by simp [hG,fP]
theorem IV:xE K ta σ H QB=ta σ H λx H'=>hG K x H' QB:=rfl
def uB(v:V)(q:Bool->Prop):Prop:=∃c,v = .bl c/\q c
theorem IZ:uB (.bl k) q=q k:=by simp [uB]
theorem Hk{t:TE}:oM t σ H QB=t σ H λx H1=>uB x λc=>QB c H1:=rfl
theorem C6{t u:TE}:tM t u σ H Q=t σ H λx H1=>uB x λc=>if c=true then u σ H1 Q else Q (.bl false) H1:=rfl
theorem I0{t u:TE}:yr t u σ H Q=t σ H λx H1=>uB x λc=>if c=true then Q (.bl true) H1 else u σ H1 Q:=rfl
theorem Lv{t:TE}:vZ t σ H Q=t σ H λx H1=>uB x λc=>Q (.bl (!c)) H1:=rfl
theorem K8{r r':R2}:yI r r' ta tb tc σ H Q=ta σ H λx H1=>tb σ H1 λy H2=>r x y H2 λz H3=>uB z λk=>if k=true then tc σ H3 λw' H4=>r' y w' H4 Q else Q (.bl false) H3:=rfl
theorem m8:uR (.ref a) q=q a:=by simp [uR]
theorem Kd{C:Addr}:lB C ta f σ H Q=ta σ H λx H1=>uR x λa=>∃dx fs v,H1 a=some (.ins C dx fs)/\fs.lookup f=some v/\Q v H1:=by
 unfold lB uR;congr;funext x H1;apply propext;constructor
 .rintro ⟨a,dx,fs,v,h1,h2,h3,h4⟩;exact ⟨a,h1,dx,fs,v,h2,h3,h4⟩
 .rintro ⟨a,h1,dx,fs,v,h2,h3,h4⟩;exact ⟨a,dx,fs,v,h1,h2,h3,h4⟩
theorem L9{C:Addr}{ta tv:TE}:lD C ta tv f D σ H=tv σ H λy H1=>ta σ H1 λx H2=>uR x λa=>∃dx fs,H2 a=some (.ins C dx fs)/\fs.length<1000/\D.nx σ (upd H2 a (.ins C dx (zN f y fs))):=by
 unfold lD uR;congr;funext x H1;congr;funext x2 H2;apply propext;constructor
 .rintro ⟨a,dx,fs,h1,h2,h3,h4⟩;exact ⟨a,h1,dx,fs,h2,h3,h4⟩
 .rintro ⟨a,h1,dx,fs,h2,h3,h4⟩;exact ⟨a,dx,fs,h1,h2,h3,h4⟩
theorem Md{C:Addr}{t:TA}:fJ C m sp Za E ta t σ H Q=ta σ H λx H1=>uR x λa=>∃dx fs,H1 a=some (.ins C dx fs)/\fs.lookup m=none/\t σ H1 λvs H2=>sp (.ref a::(vs++Za)) H2 Q E:=by
 unfold fJ uR;congr;funext x H1;apply propext;constructor
 .rintro ⟨a,dx,fs,rfl,h2,h3,h4⟩;exact {a,rfl,dx,fs,h2,h3,h4}
 .rintro ⟨a,rfl,dx,fs,h2,h3,h4⟩;exact {a,dx,fs,rfl,h2,h3,h4}
theorem Fu{C:Addr}{t:TA}:jR C m sp Za Ex ta t σ H Q=ta σ H λx H1=>uR x λa=>∃dx fs,H1 a=some (.ins C dx fs)/\fs.lookup m=none/\t σ H1 λvs H2=>sp (.ref a::(vs++Za)) H2 Q (XE Ex σ):=by
 unfold jR uR;congr;funext x H1;apply propext;constructor
 .rintro ⟨a,dx,fs,rfl,h2,h3,h4⟩;exact {a,rfl,dx,fs,h2,h3,h4}
 .rintro ⟨a,rfl,dx,fs,h2,h3,h4⟩;exact {a,dx,fs,rfl,h2,h3,h4}
end
section
variable {K:Ov}{g:TG}{tb:TS}{D:bT}{σ:St}{H:Hp}{ta:TA}{tl:TE}{wi:TI}{R:It->Hp->Prop}{j:Int}{tt:TT}{te:TE}{ix:List (Option Nat)}{Q:VK}
def bg(J:It)(g:TG)(tb:TS)(D:bT)(σ:St)(H:Hp):Prop:=∃W:Nat->Nat->St->Hp->Prop,(∃m,W 0 m σ H)/\∀i m σ H,W i m σ H ->
 (J.stop i H/\D.nx σ H)\/(J.go i H/\∃N:St->Hp->Prop,(∀F H',N F H'->∃O,O<m/\W (i+1) O F H')/\∀x H',J.bg i H x H'->g x σ H' λG H2=>tb { D with nx:=N,ct:=N,bk:=D.nx } G H2)
theorem Ju:sN wi g tb D σ H=wi σ H λJ H1=>bg J g tb D σ H1:=rfl
def uI1(vs:List V)(q:Int->Prop):Prop:=∃j,vs=[.int j]/\q j
theorem LQ:uI1 [.int j] q=q j:=by simp [uI1]
theorem MP:nj ta σ H R=ta σ H λvs H1=>uI1 vs λj=>-(2 ^ 62)<=j/\j<2 ^ 62/\R (Itr 0 j.toNat) H1:=rfl
theorem HR:nS K tl σ H R=tl σ H λx H1=>uR x λa=>(∃xs,SqL K H1 a xs)/\R (Itl K a) H1:=rfl
theorem Gz:jt K tl σ H R=tl σ H λx H1=>uR x λa=>(∃xs,SqT K H1 a xs)/\R (Itt K a) H1:=rfl
def aM(J:It)(g:TG)(tt:TT)(te:TE)(τ:St)(H:Hp)(Q:VK):Prop:=∃W:Nat->Nat->St->List V->Hp->Prop,(∃m,W 0 m τ [] H)/\∀i m τ ys H2,W i m τ ys H2->ys.length<sizeLine /\
 ((J.stop i H2 ∧ ∀ D, H2 D = none → D ≠ sysModules → Q (.ref D) (upd H2 D (.lst ys))) ∨
  (J.go i H2 ∧ ∀ x H3, J.bg i H2 x H3 → g x τ H3 fun F H4 => tt F H4 fun ok H5 => if ok = true then te F H5 fun y H6 => ∃ G, G < m ∧ W (i + 1) G F (ys ++ [y]) H6 else ∃ G, G < m ∧ W (i + 1) G F ys H5))
theorem Fn:tLC ix wi g tt te σ H Q=wi σ H λJ H1=>aM J g tt te (cq ix σ) H1 Q:=rfl
theorem bg.rng{lo:Int}(F:Nat->St->Hp->Prop)(J:F 0 σ H)(hs:∀i σ H,i<n->F i σ H->g (.int (lo+i)) σ H λG H2=>tb { D with nx:=F (i+1),ct:=F (i+1),bk:=D.nx } G H2)(hd:∀σ H,F n σ H->D.nx σ H):bg (Itr lo n) g tb D σ H:=IJ F J hs hd
theorem bg.lst{a:Addr}{xs:List V}(F:Nat->St->Hp->Prop)(J:F 0 σ H)(hl:∀i σ H,i<=xs.length->F i σ H->SqL K H a xs)
  (hs:∀i x σ H,xs[i]?=some x->F i σ H->g x σ H λG H2=>tb { D with nx:=F (i+1),ct:=F (i+1),bk:=D.nx } G H2) (hd:∀σ H,F xs.length σ H->D.nx σ H):bg (Itl K a) g tb D σ H:=FH F J hl hs hd
def fX(N:St->List V->Hp->Prop)(ys:List V)(F:St)(te:TE)(ok:Bool)(H5:Hp):Prop:=if ok=true then te F H5 λy H6=>N F (ys++[y]) H6 else N F ys H5
theorem M9:fX N ys τ te true H=te τ H λy H6=>N τ (ys++[y]) H6:=rfl
theorem K7:fX N ys τ te false H=N τ ys H:=rfl
theorem aM.rng{lo:Int}(G:Nat->St->List V->Hp->Prop)(hz:∀i τ ys H,G i τ ys H->ys.length<sizeLine)(U:G 0 τ [] H)(hs:∀(N:St->List V->Hp->Prop) i τ ys H,i<n->G i τ ys H->(∀τ ys H,G (i+1) τ ys H->N τ ys H)->g (.int (lo+i)) τ H λF H4=>tt F H4 λok H5=>fX N ys F te ok H5)(hd:∀τ ys H,G n τ ys H->∀D H',New H D (.lst ys) H'->Q (.ref D) H'):aM (Itr lo n) g tt te τ H Q:=by
 refine {λi m τ ys H=>m=n-i/\i<=n/\G i τ ys H,{n,'z',Pz _,U},?_};rintro i m τ ys H2 ⟨rfl,hi,p⟩;refine {hz i τ ys H2 p,?_};by_cases J:i<n
 .refine .inr {J,λx H' y=>?_};obtain ⟨e,y⟩:=y;subst e y;exact hs (λF ys H=>∃O,O<n-i/\O=n-(i+1)/\i+1<=n/\G (i+1) F ys H) i τ ys _ J p λF zs H q=>{n-(i+1),'l',rfl,J,q}
 .have e:i=n:=by lia
  subst e;exact .inl {OA _,λD S _=>hd τ ys H2 p D _ (.mk' S)}
end
section
variable {X:Cx}
def kY:V->Option Int->Option Int->Hp->VK->Prop:=λx lo hi H Q=>∃z,x = .str z/\z.length<=sizeLine/\Q (.str (Txt.slice z lo hi)) H
theorem NM{h:Heap}{lo hi:Option Int}(hs:h.IsSliceOf sl J G .none)(pl:Tv J lo)(F:Tv G hi):∃l u:Option (Int×Tok),h.IsSlice sl l u none/\l.map (·.1)=lo/\u.map (·.1)=hi:=by
 obtain ⟨o,h1,h2,h3⟩:=hs;cases pl with
 | none =>
  cases F with
  | none=>exact {none,none,⟨o,h1,h2,h3⟩,rfl,rfl}
  | int j t=>exact {none,some (j,t),⟨o,h1,h2,h3⟩,rfl,rfl}
 | int i t' =>
  cases F with
  | none=>exact {some (i,t'),none,⟨o,h1,h2,h3⟩,rfl,rfl}
  | int j t=>exact {some (i,t'),some (j,t),⟨o,h1,h2,h3⟩,rfl,rfl}
theorem CL:SlR X kY:=by
 intro Go s σ H x v Z W lo hi sl Q I G hs pl U h;obtain ⟨z,rfl,hz,q⟩:=h;obtain ⟨t,rfl⟩:=G;obtain ⟨l,u,S,O,J⟩:=NM hs pl U;subst O J;exact {"str",_,F.slot_str_getitem.lookup,Ss _ _ _,wpAny_getItem_str_slice (l:=l) (u:=u) (st:=none) S rfl
  (post_val_or_str {Pj (Txt.slice_le z _ _) hz,λt' k=>{.str _,H,I.tok k,{_,rfl},q}})}
def uSl:V->Option Int->Option Int->Hp->VK->Prop:=λx lo hi H Q=>(∃a xs,x = .ref a/\H a=some (.lst xs)/\∀p H2,New H p (.lst (cf xs lo hi)) H2->Q (.ref p) H2)\/kY x lo hi H Q
theorem SlR.weak{r r':V->Option Int->Option Int->Hp->VK->Prop}(h:SlR X r)(hw:∀x l u H Q,r' x l u H Q->r x l u H Q):SlR X r' :=
 λGo s σ H x v O J lo hi sl Q I F hs pl G q=>h Go s σ H x v O J lo hi sl Q I F hs pl G (hw _ _ _ _ _ q)
theorem gE:SlR X uSl:=((ES (X:=X)).or CL).weak λx l u H Q h=>by
 rcases h with ⟨a,xs,e,h,q⟩|h
 .exact .inl {a,xs,e,SqL.of h,λp F=>q p _ (.mk' F)}
 .exact .inr h
def qH(v:V)(q:Int->Prop):Prop:=∃i,v = .int i/\q i
theorem EK:qH (.int i) q=q i:=by simp [qH]
theorem Cj{t:TE}:uo t σ H Q=t σ H λx H1=>qH x λi=>Q (some i) H1:=rfl
theorem xx{lo hi:Option Int}:uSl (.str z) lo hi H Q=(z.length<=sizeLine/\Q (.str (Txt.slice z lo hi)) H):=by simp [uSl,kY]
theorem xn{lo hi:Option Int}:uSl (.ref a) lo hi H Q = ∃xs,H a=some (.lst xs)/\∀p H2,New H p (.lst (cf xs lo hi)) H2->Q (.ref p) H2:=by simp [uSl,kY]
theorem CC:∀{us:List Value},zx (ys.map V.str) us->StrsAre us ys:=by
 induction ys with
 | nil=>intro us r;rw [Uw] at r;cases r;exact .nil
 | cons n ns F =>
  intro us r;rw [PP] at r;cases r with
  | cons r1 r2 =>
   obtain ⟨t,e⟩:=r1;subst e;exact .cons n t (F r2)
def mH:V->List V->Hp->VK->Prop:=λx vs H Q=>∃z p ys,x = .str z/\vs=[.ref p]/\H p=some (.lst (ys.map V.str))/\(ys.map (·.length)).sum+ys.length*z.length<=16777216/\Q (.str (Txt.join z ys)) H
theorem Bt:MtR X "str.join" mH:=by
 intro Go s σ H x xs v us Q I S F h;obtain ⟨z,p,ys,rfl,rfl,J,hz,q⟩:=h;obtain ⟨t,rfl⟩:=S;cases F with
 | cons r1 G =>
  cases G;cases (show _=OF p from r1);obtain ⟨its,r,O,_⟩:=I.list (SqL.of (K:=X.K) J);exact join_list O.isList (by simpa using CC r) hz λt' k=>{.str _,H,I.tok k,{_,rfl},q}
def jG(z:Str)(n:Nat):Str:={((Qd n z.cps.toList).flatten).toArray}
theorem yU{α:Type}(l:List α):∀(n:Nat)(Z2:List α),foldl (λF G:Array α=>F++G) Z2.toArray (Qd n l.toArray)=(Z2++(Qd n l).flatten).toArray
 | 0,Z2=>by simp
 | n+1,Z2=>by
  rw [QZ,UA,List.append_toArray,yU l n (Z2++l)];simp [QZ]
theorem LN(z:Str)(n:Nat):({(Qd n z.cps).foldl (·++·) #[]}:Str)=jG z n:=by
 have h:=yU z.cps.toList n [];unfold jG;congr 1
theorem jT{α:Type}(l:List α):∀n:Nat,((Qd n l).flatten).length=l.length*n
 | 0=>by simp
 | n+1=>by rw [QZ,RP,Pb,jT l n,Nat.mul_succ];lia
theorem N4(z:Str)(n:Nat):(jG z n).length=z.length*n:=by
 show (((Qd n z.cps.toList).flatten).toArray).size=_;rw [OQ,jT];rfl
def jE:R2:=λx y H Q=>∃z n,x = .str z/\y = .int n/\1<n/\n<2 ^ 31/\z.length≠0/\z.length*n.toNat<=sizeLine/\Q (.str (jG z n.toNat)) H
theorem Mf:OpR X (QH .Mult) jE:=by
 intro Go s σ H x y v u Q I O G h;obtain ⟨z,n,rfl,rfl,h1,h2,h3,h4,q⟩:=h;obtain ⟨t,rfl⟩:=O;obtain ⟨t',rfl⟩:=G;have hs:sizeLine=16777216:=Py;have F:(n==1||z.length==0)=false:=by
  rw [Bool.or_eq_false_iff];exact {beq_eq_false_iff_ne.mpr 'l',beq_eq_false_iff_ne.mpr h3}
 have hz:z.length<=16777216:=by
  have:z.length*1<=z.length*n.toNat:=Nat.mul_le_mul_left _ 'l';lia
 refine PySem.P.mul_str ?_ ?_ ?_ ?_
 .rw [decide_eq_false (show ¬ n < -(2 ^ 63:Int) by lia),decide_eq_false (show ¬ n ≥ 2 ^ 63 by lia)];rfl
 .intro _ _ J;have:(16777216:Int)<=(2 ^ 63-1) / n:=Int.le_ediv_of_mul_le 'l' 'l';lia
 .intro _ _;exact decide_eq_false 'l'
 .rw [if_neg (show ¬ n<1 by lia),if_neg (by rw [F];exact OP),LN];exact {by rw [N4];lia,{.str _,H,I.tok _,{_,rfl},q}}
theorem AZ{p:Addr}{k:Int}:om (.ref p) (.int k) v H Q = ∃xs j,H p=some (.lst xs)/\ixN xs.length k=some j/\Q (upd H p (.lst (xs.set j v))):=by
 apply propext;constructor
 .rintro ⟨p',xs,k',j,G,F,h⟩;cases G;cases F;exact ⟨xs,j,h⟩
 .rintro ⟨xs,j,h⟩;exact {p,xs,k,j,rfl,rfl,h}
theorem sj{p:Addr}:mH (.str z) [.ref p] H Q = ∃ys:List Str,H p=some (.lst (ys.map V.str))/\(ys.map (·.length)).sum+ys.length*z.length<=16777216/\Q (.str (Txt.join z ys)) H:=by
 apply propext;constructor
 .rintro ⟨z',p',ys,G,F,h⟩;cases G;cases F;exact ⟨ys,h⟩
 .rintro ⟨ys,h⟩;exact {z,p,ys,rfl,rfl,h}
end
section
variable {K:Ov}{g:TG}{tb:TS}{D:bT}{σ:St}{H:Hp}{ta:TA}{R:It->Hp->Prop}
def uR1(vs:List V)(q:Addr->Prop):Prop:=∃a,vs=[.ref a]/\q a
theorem fC:uR1 [.ref a] q=q a:=by
 apply propext;constructor
 .rintro ⟨c,e,h⟩;cases e;exact h
 .exact λh=>{a,rfl,h}
end
section
variable {X:Cx}
def yV(C:Addr)(ta tv:TE)(G:V->V->Hp->VK->Prop)(f:Str):TS:=λD σ H=>ta σ H λx H1=>uR x λa=>∃dx fs v,H1 a=some (.ins C dx fs)/\fs.lookup f=some v /\
 tv σ H1 λy H2=>G v y H2 λz H3=>∃F fs',H3 a=some (.ins C F fs')/\fs'.length<1000/\D.nx σ (upd H3 a (.ins C F (zN f z fs')))
theorem rP{o Zy:OZ}{ta tv:TE}(c:Cls X.K C)(n:bA X.K C f)(J:W (PE X o ta))(hv:W (PE X Zy tv))(F:qm X op O):W (PS X (.AugAssign (.Attribute o f tpos) op Zy pos) (yV C ta tv O f)):=by
 refine {?_};have J:=J.h;have hv:=hv.h;intro Go s σ H D I h;refine wpAny_AugAssign_AttributeAny (thn (J Go s σ H _ I h) λov s1=>x5e λx H1 S Z Yc=>?_);obtain ⟨a,ex,dx,fs,v,ea,l,q⟩:=Yc;subst ex;obtain rfl:ov=OF a:=Z;refine AV S ea c n l λu s2 U ru=>thn (hv Go s2 σ H1 _ U q) λw3 s3=>x5e λy H2 I3 ry q3=>thn (F Go s3 σ H2 v y u w3 _ I3 ru ry q3) λw4 s4=>x5e λz H3 I4 rz XT=>?_;obtain ⟨Xs,fs',G,l',q4⟩:=XT;exact AL I4 G c n l' rz λs5 I5=>{σ,_,I5,q4}
theorem HS:o9 (.int i) (.int j) H Q=Q (.int (i+j)) H:=by simp [o9]
theorem LM:rk (.int i) (.int j) H Q=Q (.int (i-j)) H:=by simp [rk]
def dF(neg:Bool):R2:=λx y H Q=>y = .non/\Q (.bl (if neg then !decide (x = .non) else decide (x = .non))) H
theorem MQ:OpR X (Pq .Is) (dF false):=Ci.weak λx y H Q h=>{h.1,by simpa using h.2}
theorem qV:OpR X (Pq .IsNot) (dF true):=BH.weak λx y H Q h=>{h.1,by simpa using h.2}
theorem Fy:dF c .non .non H Q=Q (.bl (if c then false else true)) H:=by simp [dF]
theorem JZ:dF c (.int i) .non H Q=Q (.bl (if c then true else false)) H:=by simp [dF]
def gL:R2:=λx y H Q=>fE x y H Q\/jE x y H Q
theorem dW:OpR X (QH .Mult) gL:=BE.or Mf
theorem JV:gL (.int i) (.int j) H Q=(fH i j/\Q (.int (i*j)) H):=by simp [gL,Ay,jE]
theorem Bs:gL (.ref a) (.int i) H Q=fE (.ref a) (.int i) H Q:=by simp [gL,jE]
theorem Nq:gL (.str z) (.int i) H Q=(1<i/\i<2 ^ 31/\z.length≠0/\z.length*i.toNat<=sizeLine/\Q (.str (jG z i.toNat)) H):=by
 simp [gL,fE,jE]
def uS(v:V)(q:Str->Prop):Prop:=∃z,v = .str z/\q z
theorem pf:uS (.str z) q=q z:=by simp [uS]
def uc(to te:TE):TE:=λσ H Q=>to σ H λx H1=>uS x λz=>te σ H1 λy H2=>mH (.str z) [y] H2 Q
theorem yl{o e:OZ}{to te:TE}(J:W (PE X o to))(G:W (PE X e te))(Zw:QN o "join" X.env (Qc o X.env)=Qc o X.env:=by rfl)(Y9:(ZR.endLine==cpos.line)=true:=by rfl)(hp:aU e=true:=by rfl):W (PE X (.Call (.Attribute o "join" ZR) [e] [] cpos) (uc to te)):=by
 refine {?_};have J:=J.h;have G:=G.h;intro Go s σ H Q I h;have hs:O8 [e] X.env=[(false,Qc e X.env)]:=fV hp;refine Ro Zw (by rw [hs];rfl) Y9 rfl (thn (J Go s σ H _ I h) λv s1=>x5e λx H1 U r1 S=>?_);obtain ⟨z,ex,q1⟩:=S;subst ex;obtain ⟨h1,h2⟩:=lh (T:="str") U r1 rfl;refine {"str","str.join",PySem.F.plainAttrs_str,PySem.F.slot_str_join,PySem.F.type_str_join,h1,h2,?_};rw [hs];refine Calls.callWith_builtin rfl (Calls.evalArgs_plain ?_);have Z:=gD G gp (hs:=hs) cpos Go s1 σ H1 (λys H2=>dZ (λy=>mH (.str z) [y] H2 Q) ys) U q1;rw [hs] at Z;refine thn Z λus s2=>x5e λvs H2 I2 r2 O=>?_;obtain ⟨y,rfl,O⟩:=dZ.ex O;exact Bt Go s2 σ H2 (.str z) [y] v us Q I2 r1 r2 O
end
section
variable {K:Ov}{g:TG}{tb:TS}{D:bT}{σ:St}{H:Hp}{ta:TA}{tl:TE}{wi:TI}{R:It->Hp->Prop}{j:Int}{tt:TT}{te:TE}{ix:List (Option Nat)}{Q:VK}
theorem aM.lst{a:Addr}{xs:List V}{τ:St}(G:Nat->St->List V->Hp->Prop)(hz:∀i τ ys H,G i τ ys H->ys.length<sizeLine)(S:∀i τ ys H,G i τ ys H->SqL K H a xs)(W:G 0 τ [] H)
  (hs:∀(N:St->List V->Hp->Prop) i x τ ys H,xs[i]?=some x->G i τ ys H->(∀τ ys H,G (i+1) τ ys H->N τ ys H)->g x τ H λF H4=>tt F H4 λok H5=>fX N ys F te ok H5) (hd:∀τ ys H,G xs.length τ ys H->∀D H',New H D (.lst ys) H'->Q (.ref D) H'):aM (Itl K a) g tt te τ H Q:=by
 refine {λi m τ ys H=>m=xs.length-i/\i<=xs.length/\G i τ ys H,{xs.length,'z',Pz _,W},?_};rintro i m τ ys H2 ⟨rfl,hi,p⟩;refine {hz i τ ys H2 p,?_};have q:=S i τ ys H2 p;by_cases O:i<xs.length
 .refine .inr {{xs,xs[i],q,by simp [O]},λx H' y=>?_};obtain ⟨e,y⟩:=y;subst e;exact hs (λF ys H=>∃J,J<xs.length-i/\J=xs.length-(i+1)/\i+1<=xs.length/\G (i+1) F ys H) i x τ ys _ (y xs q) p λF zs H q=>{xs.length-(i+1),'l',rfl,O,q}
 .have e:i=xs.length:=by lia
  subst e;exact .inl {{xs,q,OA _},λD U _=>hd τ ys H2 p D _ (.mk' U)}
def vU(t:TS):TS:=λD σ H=>∃F:St->Hp->Prop,t { D with nx:=F } σ H/\∀G H',F G H'->D.nx G H'
theorem Kn{st:Stmt}{t:TS}(h:W (PS X st t)):W (PS X st (vU t)):=by
 refine {?_};have h:=h.h;exact λGo s σ H D I hw=>by
  obtain ⟨G,h1,h2⟩:=hw;refine thn (h Go s σ H _ I h1) λf s1 q=>?_;cases f with
  | next=>obtain ⟨F,H',J,q⟩:=q;exact {F,H',J,h2 _ _ q}
  | ret v=>exact q
  | brk=>exact q
  | cont=>exact q
theorem Gr{t:TS}{D:bT}{σ:St}{H:Hp}:vU t D σ H = ∃F:St->Hp->Prop,t { D with nx:=F } σ H/\∀G H',F G H'->D.nx G H':=rfl
end
section
variable {X:Cx}
theorem ze  : W (PA X [] cw):=⟨gp ⟩
theorem zp(i:Nat)(hN:X.N[i]?=some x:=by rfl)(hv:Vis X.env.scope x:=by first|exact OL rfl|exact Ry (OL rfl)|exact Ry (Ry rfl))(hd:(x==("__debug__":Str))=false:=by decide)(hcd:(x==("__classdict__":Str))=false:=by decide):W (PE X (.Name x pos) (eP i)):={pv (i:=i) (hN:=hN) (hv:=hv) (hd:=hd) (hcd:=hcd)}
theorem zu{i j pos}:W (PE X (.Constant (.int i) j pos) (tC (.int i))):=⟨yh ⟩
theorem zD(hN:X.N.Nodup)(hi:X.N[i]?=some x)(hx:Loc X.env.scope x)(hf:X.fn x=true\/X.env.scope.names.lookup x=some .local:=by first|exact .inl rfl|exact .inr rfl|assumption):W (PG X (.Name x pos) (cE i)):={mT (hN:=hN) (hi:=hi) (hx:=hx) (hf:=hf)}
theorem iI{X:Cx}{k:Nat}{t:TGs}(h:W (PGs X es t))(hl:(Qh es X.env).length=n:=by rfl)(hst:(Qh es X.env).findIdx? (·.1)=none:=by rfl):W (PG X (.Tuple es k pos) (kr X.K n t)):={uu (h:=h.h) (hl:=hl) (hst:=hst)}
theorem pL{k:Nat}{t:TGs}(h:W (PGs (zz Y sc N' Go D fp s H) es t))(hl:(Qh es (zz Y sc N' Go D fp s H).env).length=n:=by rfl)(hst:(Qh es (zz Y sc N' Go D fp s H).env).findIdx? (·.1)=none:=by rfl):W (PG (zz Y sc N' Go D fp s H) (.Tuple es k pos) (kr Y.K n t)):={tE (h:=h.h) (hl:=hl) (hst:=hst)}
theorem N2(hl:W (PE X l tl)):W (PI X tg l (jt X.K tl)):={AS (hl:=hl.h)}
theorem GB{t:TT}(h:W (PW X e t)):W (PT X e t):={PW.pt h.h}
end
def asc(z:Str):Bool:=z.cps.all (· < 128)
def Its(z:Str):It:={λi _=>i<z.cps.size,λi H x H'=>H'=H/\∃c,z.cps[i]?=some c/\x = .str {#[c]},λi _=>z.cps.size<=i}
theorem C0{P:OE}{w:OW}{K:Ov}{tg:OZ}(z:Str)(it:Addr):fY true P w K tg (Its z) [it] it (λi h=>∃t,h.IsStrIter it "str_ascii_iterator" z t i) where
 mem:=by simp
 obj:=λi h st b F=>by
  have e:b=it:=by simpa using F
  subst e;obtain ⟨t,o,e,c,d⟩:=st;exact {o,e,λv z=>by rw [d] at z;cases z}
 keep:=λi h h' st k=>by
  obtain ⟨t,o,e,r⟩:=st;exact {t,o,k it 'z' o e,r}
 item:=by
  intro X O hw J hc i Go s σ H E I hf st hg;subst O hw J;obtain ⟨t,st⟩:=st;obtain ⟨U,W,f2,G,S,Z⟩:=hf it 'z';have hi:i<z.cps.size:=hg;refine wpAny_pyNext_ascii_item st (c:=z.cps[i]) (by simp [hi]) λh' YD sb=>?_;have I1:Inv X Go σ H { s with heap:=h',toks:=s.toks+1 }:=I.turned (λb o F e=>(sb.2 b F).trans e) U W G S Z;obtain ⟨o,e,c,d⟩:=id YD;exact {_,rfl,jK (s:={ s with heap:=h',toks:=s.toks+1 }) e c d 'd' {.str {#[z.cps[i]]},H,I1,{_,rfl},{rfl,_,by simp [hi],rfl},⟨t,YD⟩,λb F=>(hf b F).1}}
 done:=by
  intro X O hw J hc i Go s σ H E I hf st hg;subst O hw J;obtain ⟨t,st⟩:=st;obtain ⟨U,W,f2,G,S,Z⟩:=hf it 'z';have hi:z.cps.size<=i:=hg;exact wpAny_pyNext_ascii_end (I.ok.hd (hc rfl)) st (by simp [hi]) λh' eb=>{rfl,I.turned (t':=s.toks) (λb o F e=>eb b o F e) U W G S Z}
 self:=λ_ _ _ _ _ st h=>by
  obtain ⟨t,st⟩:=st;exact wpAny_pyIter_striter_ascii st h
section
variable {X:Cx}{tg:OZ}
def Ad(tl:TE):TI:=λσ H R=>tl σ H λx H1=>uS x λz=>asc z=true/\R (Its z) H1
theorem Cc:Ad tl σ H R=tl σ H λx H1=>uS x λz=>asc z=true/\R (Its z) H1:=rfl
theorem Ls(hl:W (PE X l tl)):W (PIc true X tg l (Ad tl)):=by
 refine {?_};have hl:=hl.h;intro Go s σ H R I h;refine thn (hl Go s σ H _ I h) λv s1=>x5e λx H1 F r1 q1=>?_;obtain ⟨z,e,J,q⟩:=q1;subst e;obtain ⟨t,rfl⟩:=r1;refine wpAny_pyIter_ascii J ?_;refine {s1.heap.objs.size,[s1.heap.objs.size],_,_,H1,rfl,F.kept (t':=s1.toks) λb o e=>Ot _ e,C0 z _,{t,_,ON _ rfl,rfl,rfl},λb G=>?_,q};have e:b=s1.heap.objs.size:=by simpa using G
 subst e;exact F.Va (OA _) (F.hok.fresh (OA _))
end
theorem Draws.later{prog:OE}{w:OW}{A:OR}{it:Addr}{fp:List Addr}{n k:Nat}{P:Nat->Value->Prop}{St:Nat->Heap->Prop}(D:Draws prog w A it fp n P St) :
  Draws prog w A it fp (n+k) (λi v=>P (i-k) v) (λi h=>k<=i/\St (i-k) h) where
 live:=λ_ _ st=>D.live _ _ st.2
 frame:=λ_ _ _ st J=>{st.1,D.frame _ _ _ st.2 J}
 item:=λi s Q E hi st G=>D.item (i-k) s Q E (by have:=st.1;lia) st.2 λx h' tk p O S=>G x h' tk p {by have:=st.1;lia,by
  have e:i+1-k=i-k+1:=by have:=st.1;lia
  rw [e];exact O} S
 done:=λs Q E st F=>D.done s Q E (by
  have e:n+k-k=n:=by lia
  have:=st.2;rwa [e] at this) F
def jb(z:Str)(k:Nat):It :=
 {λi _=>i<z.cps.size,λi H v H'=>∃T c,H T=none/\v = .ref T/\z.cps[i]?=some c/\H'=upd H T (.tup [.int ((i:Nat)+k:Nat),.str {#[c]}]),λi _=>i=z.cps.size}
structure LJ(e it:Addr)(z:Str)(k i:Nat)(h:Heap):Prop where
 en:∃old,IsEnum h e it ((i+k:Nat):Int) old
 a:∃t,h.IsStrIter it "str_ascii_iterator" z t i
theorem Oi{P:OE}{w:OW}{K:Ov}{X3:List OZ}{kk:Nat}{tp:Pos}{z:Str}{k:Nat}{e it:Addr}(XD:e≠it) :
  fY true P w K (.Tuple X3 kk tp) (jb z k) [e,it] e (LJ e it z k) where
 mem:=by simp
 obj:=λi h st b F=>by
  obtain ⟨⟨old,J⟩,⟨t,o4,G,_,d4⟩⟩:=st;simp only [OK,PD,or_false] at F;rcases F with rfl|rfl
  .exact {_,J,λv q=>nomatch q}
  .exact {_,G,λv q=>by rw [d4] at q;cases q}
 keep:=λi h h' st k=>by
  obtain ⟨⟨old,J⟩,⟨t,o,G,r⟩⟩:=st;exact {{old,k _ 'z' _ J},t,o,k _ 'z' o G,r}
 item:=by
  intro X hP hw hK U i Go s σ H E I hf st hg;subst hP hw hK;obtain ⟨⟨old,J⟩,⟨t,G⟩⟩:=st;have hi:i<z.cps.size:=hg;have W8:=I.ok.hd (U rfl);have D:=Draws.later (k:=k) (Draws.strAscii (prog:=X.prog) (w:=X.w) (A:=X.A.in1) W8 it z t);refine wpAny_pyNext_enum_itemD D J (i:=i+k) {'l',by rw [Tt];exact G} 'l' XD (by simpa using XD) λx h' tk px b1 W b3 b4 b5=>?_;obtain ⟨c,u,av,rfl⟩:=px;rw [Tt] at av;refine {_,rfl,wpAny_letOwnedTupleGo_enum (s:={ s with heap:=h',toks:=tk+1 }) b1 λh2 c1 c2=>?_};have ai:e<s.heap.objs.size:=O2 J;have nz:s.heap.objs.size≠e:=RU ai;have all:∀c o,c≠e->c≠it->s.heap.get? c=some o->h2.get? c=some o:=λc o n1 n2 q=>c2.extBut c o n1 (b5 c o n1 n2 q);have tT:h2.get? s.heap.objs.size=some { cls:=.type "tuple",data:=.seq #[.int ((i+k:Nat):Int) tk,.str {#[c]} u] }:=c2.extBut _ _ nz b3;have Yv:H s.heap.objs.size=none:=I.hok.fresh (OA _);have Z:HOk X.prog X.w H h2:=λb u S=>by
   refine (I.hok b u S).U4 (λc v U q=>?_) (λ_ q=>q) λ_ _ q=>q;have O:∀d∈[e,it],c≠d:=λd hd w=>by
    have fd:=(hf d hd).1;rcases U with k|k
    .rw [k] at w;rw [w,fd] at S;cases S
    .rw [w,fd] at k;cases k
   exact all c v (O e 'z') (O it 'z') q
  have ax:∀b o,s.heap.get? b=some o->b≠s.heap.objs.size:=λb o e=>Pl (O2 e);have I2:Inv X Go σ (upd H s.heap.objs.size (.tup [.int ((i+k:Nat):Int),.str {#[c]}])) { s with heap:=h2,toks:=tk+1 }:=by
   refine I.step (g':=s.gens) (d':=s.drawn) (t':=tk+1) (ch:=[e,it]) (λb F=>?_) (λb o _ _ F q _=>?_) (λb o _ _ F q _=>?_) (λb o _ q n=>?_) (λb o F q=>?_) (λb ps q=>?_) (λb o u q=>?_) (λb ps q=>?_) (λm hm=>?_) (Z.add Yv ?_) I.bare
   .obtain ⟨f0,f1,f2,f3,f4,f5⟩:=hf b F;exact ⟨f3,f1,f4,f5⟩
   .simp only [OK,PD,or_false,not_or] at F;exact all b o F.1 F.2 q
   .simp only [OK,PD,or_false,not_or] at F;exact {o.slots,all b o F.1 F.2 q}
   .rw [zg (ax b o q)];exact n
   .simp only [OK,PD,or_false,not_or] at F;exact {o,all b o F.1 F.2 q}
   .rw [zg (zH q Yv)];exact q
   .rw [zg (zH q Yv)];exact q
   .exact {#[],by rw [zg (zH q Yv),q];simp}
   .obtain ⟨o,es,ep,ho,r⟩:=hm;exact {o,es,ep,all _ o (Pt (hf e 'z').2.1) (Pt (hf it 'z').2.1) ho,r}
   .exact {by show 2<=sizeLine;decide,[.int ((i+k:Nat):Int) tk,.str {#[c]} u],.cons {_,rfl} (.cons {_,rfl} .nil),{_,tT,rfl,_,rfl}}
  refine {.ref s.heap.objs.size,_,I2,rfl,{_,c,Yv,rfl,av,rfl},?_,λb F=>?_}
  .obtain ⟨_,W⟩:=W;have e1:i+k+1-k=i+1:=by lia
   rw [e1] at W;obtain ⟨o,W,r⟩:=W;have e3:((i+1+k:Nat):Int)=((i+k:Nat):Int)+1:=by lia
   refine {?_,t,o,c2.extBut _ _ (Pt XD) W,r};rw [e3];exact {_,c1}
  .have ne:b≠s.heap.objs.size:=λq=>by
    have:b<s.heap.objs.size:=by
     simp only [OK,PD,or_false] at F;obtain ⟨o4,G,_⟩:=G;rcases F with rfl|rfl
     .exact ai
     .exact O2 G
    exact absurd (q ▸ this) (Ph _)
   rw [zg ne];exact (hf b F).1
 done:=by
  intro X hP hw hK U i Go s σ H E I hf st hg;subst hP hw hK;obtain ⟨⟨old,J⟩,⟨t,G⟩⟩:=st;have hi:i=z.cps.size:=hg;have W8:=I.ok.hd (U rfl);have D:=Draws.strAscii (prog:=X.prog) (w:=X.w) (A:=X.A.in1) W8 it z t;rw [hi] at G;refine wpAny_pyNext_enum_endD D J G λh' up=>{rfl,?_};refine I.step (g':=s.gens) (d':=s.drawn) (t':=s.toks) (ch:=[it]) (λb F=>?_) (λb o _ _ F q _=>?_) (λb o _ _ F q _=>?_) (λ_ _ _ _ n=>n) (λb o F q=>?_) (λ_ _ q=>q) (λ_ _ _ q=>q) (λb ps q=>{#[],by rw [q];simp}) (λm hm=>?_) (λb u S=>?_) I.bare
  .have Xl:b∈[e,it]:=by simp only [OK,PD,or_false] at F ⊢;exact .inr F
   obtain ⟨f0,f1,f2,f3,f4,f5⟩:=hf b Xl;exact ⟨f3,f1,f4,f5⟩
  .simp only [OK,PD,or_false] at F;exact up b o F q
  .simp only [OK,PD,or_false] at F;exact {o.slots,up b o F q}
  .simp only [OK,PD,or_false] at F;exact {o,up b o F q}
  .obtain ⟨o,es,ep,ho,r⟩:=hm;exact {o,es,ep,up _ o (Pt (hf it 'z').2.1) ho,r}
  .refine (I.hok b u S).U4 (λc v U q=>?_) (λ_ q=>q) λ_ _ q=>q;have O:c≠it:=λw=>by
    have fd:=(hf it 'z').1;rcases U with k|k
    .rw [k] at w;rw [w,fd] at S;cases S
    .rw [w,fd] at k;cases k
   exact up c v O q
 self:=λ_ _ _ _ _ st h=>by
  obtain ⟨old,J⟩:=st.en;exact wpAny_pyIter_enum J h
section
variable {prog:OE}{w:OW}{A:OR}{E:Value->Oq->Prop}{s:Oq}
theorem Mc(a b:Value):checkTypeCall "enumerate" {[a],[(Ou "start",b)]}=pure ():=by kernel_rfl
theorem N6(a b:Value):SA "enumerate.__new__" {[.type "enumerate",a],[(Ou "start",b)]}=pure ():=by kernel_rfl
theorem Ff(o a b:Value):UF "object.__init__" {[o,a],[(Ou "start",b)]}:=by
 unfold UF;kernel_rfl
theorem DY (x : Str) (t u : Tok) : Meets (OO.«enumerate.__new__» {[.type "enumerate", .str x t], [(Ou "start", .int 1 u)]}) (fun _ R s =>
      R (.ok (.ret (.ref (s.heap.push { cls := .type (RG x), data := .fields #[.str x t, .int 0 0] }).objs.size)))
        { s with heap := (s.heap.push { cls := .type (RG x), data := .fields #[.str x t, .int 0 0] }).push { cls := .type "enumerate", data := .fields #[.none, .bool false, .ref s.heap.objs.size, Px 1, .none, .none] } }) :=
 .of_wp λprog w A R s h=>by
  obtain ⟨F,g,d,tk,os⟩:=s;have G:=sub_enumerate
  wp_walk
  refine wpAny_stack_any λst=>Os ?_;split
  .rename_i c _ _ _ _ _;cases (c==type "enumerate")
   .wp_walk using TH
    exact {_,rfl,h}
   .wp_walk using TH
    exact {_,rfl,h}
  .wp_walk using TH
   exact {_,rfl,h}
theorem Ho(hl:typeLookup (.type T) Wm=pure (some (.builtin "object.__init__")))(J:Bind.madeBy (.type T)=pure (some newId))(G:(some newId != some "object.__new__")=true):Meets (OO.«object.__init__» {[self,a],kws}) (λ_ R s=>s.TypeIs self T/\R (.ok (.ret .none)) s):=by
 refine Meets.of_wp λprog w A R s=>x2e λO F=>?_
 repeat (any_goals (first|assumption|wp_step))
 exact {_,rfl,F}
theorem BS(G:TypeCalled T newId "object.__init__")(XD:(some newId != some "object.__new__")=true)(aI:checkTypeCall T {[a],kws}=pure ())(W:SA newId {[.type T,a],kws}=pure ())(hok:∀obj,UF "object.__init__" {[obj,a],kws})(J:entryFor table newId=some Bn)(g:Meets (Bn {[.type T,a],kws}) S)(h:S A.in1 (wants (λobj s₁=>s₁.TypeIs obj T/\Q obj s₁) E) s):Oz (OI prog w) A (call (.type T) [a] kws) Q E s:=by
 obtain ⟨c,tl,av⟩:=G.mro;have ai:=G.made;have XS:=G.sub;refine Ta (A:=A) (codeAny_of_tree (A:=A) ?_);show Oz (OI prog w) _ (callAny (.type T) _) _ _ _;refine Os {Code.quiet_builtin _ (f!""),QD (A:=A) F.entry_type_call ?_};rw [OR.under_plain (weight_type_call_type T [a] kws) (units_type_call_type T [a] kws)];have k1:=G.notType;have k2:=G.canCreate
 repeat (any_goals (first|assumption|wp_step))
 refine QM (SK G.plain J (TK W (g prog w A.in1 _ s h))) λr s1 U=>?_;cases r with
 | error e=>exact U
 | ok fl =>
  cases fl with
  | ret obj =>
   have aT:=G.init.lookup;have ax:=G.init.bind obj;have hT:=U.1
   repeat (any_goals (first|assumption|wp_step))
   refine QM (SK G.init.plain F.entry_object_init (G.init.check _ _ _ _ _ _ _ _ U.1 (hok obj) (Ho G.init.lookup G.made XD prog w A.in1 (wants (λr s2=>r = .none/\Q obj s2) E) s1 {U.1,rfl,U.2}))) λr2 s2 O=>?_;cases r2 with
   | error e=>exact O
   | ok Z =>
    cases Z with
    | ret r =>
     obtain ⟨rfl,hq⟩:=O
     repeat (any_goals (first|assumption|wp_step))
    | _=>exact O.elim
  | _=>exact U.elim
theorem Bo{t u:Tok}(h:∀h',IsEnum h' (s.heap.objs.size+1) s.heap.objs.size 1 .none->h'.IsStrIter s.heap.objs.size (RG x) x t 0->h'.objs.size=s.heap.objs.size+2->(∀b o,s.heap.get? b=some o->h'.get? b=some o)->Q (.ref (s.heap.objs.size+1)) { s with heap:=h' }):
  Oz (OI prog w) A (call (.type "enumerate") [.str x t] [(Ou "start",.int 1 u)]) Q E s:=by
 refine BS F.called_enumerate 'd' (Mc _ _) (N6 _ _) (λobj=>Ff obj _ _) F.entry_enumerate_new (DY x t u) ?_;have hz:(s.heap.push { cls:=.type (RG x),data:=.fields #[.str x t,.int 0 0] }).objs.size=s.heap.objs.size+1:=Rh ..;show _/\_;rw [hz];have G:IsEnum ((s.heap.push { cls:=.type (RG x),data:=.fields #[.str x t,.int 0 0] }).push { cls:=.type "enumerate",data:=.fields #[.none,.bool false,.ref s.heap.objs.size,Px 1,.none,.none] }) (s.heap.objs.size+1) s.heap.objs.size 1 .none:=by
  have q:=ON (s.heap.push { cls:=.type (RG x),data:=.fields #[.str x t,.int 0 0] }) (o:={ cls:=.type "enumerate",data:=.fields #[.none,.bool false,.ref s.heap.objs.size,Px 1,.none,.none] }) rfl;rw [hz] at q;exact q
 exact {{_,G,rfl},h _ G {_,Ot _ (ON _ rfl),rfl,rfl} (by rw [Rh,hz]) λb o y=>Ot _ (Ot _ y)}
theorem Bl(G:args.any (·.1)=false)(J:F.any (·.1.isNone)=false)(h:Oz M A (evalArgs (.type T) true args F) (λa s1=>Oz M A (call (.type T) a.pos a.kw) Q E s1) E s):Oz M A (RY pos (.type T) [] args F) Q E s:=by
 unfold RY;refine we (OV (O3 h (λa s1 h1=>we (Pn ?_)) λ_ _ x=>x));simp only [G,J,SG];exact we (Os (we (O3 h1 (λr s2 O=>we (OV (wpAny_point (Os O)))) λ_ _ x=>x)))
end
section
variable {X:Cx}
def Ak(k:Nat)(ta:TE):TI:=λσ H R=>ta σ H λx H1=>uS x λz=>asc z=true/\R (jb z k) H1
theorem Ko{k:Nat}:Ak k ta σ H R=ta σ H λx H1=>uS x λz=>asc z=true/\R (jb z k) H1:=rfl
theorem Gy(h:asc z=true):RG z="str_ascii_iterator":=by
 unfold RG;rw [show z.cps.all (· < 128)=true from h];rfl
theorem Og{tp p pos kp cp:Pos}(hg:Gl X "enumerate")(hm:X.mg "enumerate"=none)(O:W (PE X a ta))(hp:aU a=true:=by rfl):W (PIc true X (.Tuple X3 kk tp) (.Call (.Name "enumerate" p) [a] [{some (Ou "start"),.Constant (.int 1) j cp,kp}] pos) (Ak 1 ta)):=by
 refine {?_};have O:=O.h;intro Go s σ H R I h;have hs:O8 [a] X.env=[(false,Qc a X.env)]:=fV hp;have U:=gD O gp (hs:=hs) pos Go s σ H (λys H2=>dZ (λy=>uS y λz=>asc z=true/\R (jb z 1) H2) ys) I h;refine Qj (gM I hg hm boot_enumerate (Bl (by rw [hs];rfl) rfl ?_));rw [hs] at U ⊢;refine evalArgs_kwB rfl (thn U λus s1=>x5e λvs H1 I1 r1 q1=>kws_cons (thn (yh Go s1 σ H1 (λv H=>v = .int 1/\H=H1) I1 {rfl,rfl}) λw2 s2=>x5e λy2 H2 F r2 Yc=>kws_nil ?_));obtain ⟨G,J⟩:=Yc;subst G J;obtain ⟨t2,rfl⟩:=r2;obtain ⟨y,rfl,z,ey,hz,q⟩:=dZ.ex q1;subst ey;cases r1 with
 | cons r rr =>
  cases rr;obtain ⟨t,rfl⟩:=r;refine Bo (s:=s2) λh' Z a4 a6 a7=>wpAny_pyIter_enum (s:={ s2 with heap:=h' }) Z ?_;rw [Gy hz] at a4;refine {_,_,_,_,H2,rfl,F.kept (t':=s2.toks) a7,Oi (Nat.succ_ne_self _),{{_,Z},t,a4},λb S=>?_,q};have le:s2.heap.objs.size<=b:=by
   simp only [OK,PD,or_false] at S;rcases S with rfl|rfl
   .exact RA _
   .exact OA _
  exact F.Va le (F.hok.fresh le)
end
section
variable {K:Ov}{g:TG}{tb:TS}{D:bT}{σ:St}{H:Hp}{tt:TT}{te:TE}{Q:VK}
theorem bg.cG{k:Nat}(F:Nat->St->Hp->Prop)(S:F 0 σ H)(hs:∀i c p σ H,z.cps[i]?=some c->F i σ H->H p=none->g (.ref p) σ (upd H p (.tup [.int ((i+k:Nat):Int),.str {#[c]}])) λG H2=>tb { D with nx:=F (i+1),ct:=F (i+1),bk:=D.nx } G H2)(hd:∀σ H,F z.cps.size σ H->D.nx σ H):bg (jb z k) g tb D σ H:=by
 refine {λi m σ H=>m=z.cps.size-i/\i<=z.cps.size/\F i σ H,{z.cps.size,'z',Pz _,S},?_};rintro i m σ H ⟨rfl,hi,p⟩;by_cases J:i<z.cps.size
 .refine .inr {J,F (i+1),λU H' p'=>{z.cps.size-(i+1),'l',rfl,J,p'},λx H' y=>?_};obtain ⟨T,c,W,rfl,O,rfl⟩:=y;exact hs i c T σ _ O p W
 .have e:i=z.cps.size:=by lia
  subst e;exact .inl {rfl,hd σ H p}
theorem aM.str(G:Nat->St->List V->Hp->Prop)(hz:∀i τ ys H,G i τ ys H->ys.length<sizeLine)(W:G 0 τ [] H)(hs:∀(N:St->List V->Hp->Prop) i c τ ys H,z.cps[i]?=some c->G i τ ys H->(∀τ ys H,G (i+1) τ ys H->N τ ys H)->g (.str {#[c]}) τ H λF H4=>tt F H4 λok H5=>fX N ys F te ok H5)(hd:∀τ ys H,G z.cps.size τ ys H->∀D H',New H D (.lst ys) H'->Q (.ref D) H'):aM (Its z) g tt te τ H Q:=by
 refine {λi m τ ys H=>m=z.cps.size-i/\i<=z.cps.size/\G i τ ys H,{z.cps.size,'z',Pz _,W},?_};rintro i m τ ys H2 ⟨rfl,hi,p⟩;refine {hz i τ ys H2 p,?_};by_cases O:i<z.cps.size
 .refine .inr {O,λx H' y=>?_};obtain ⟨e,c,S,rfl⟩:=y;subst e;exact hs (λF ys H=>∃J,J<z.cps.size-i/\J=z.cps.size-(i+1)/\i+1<=z.cps.size/\G (i+1) F ys H) i c τ ys _ S p λF zs H q=>{z.cps.size-(i+1),'l',rfl,O,q}
 .have e:i=z.cps.size:=by lia
  subst e;exact .inl {OA _,λD U _=>hd τ ys H2 p D _ (.mk' U)}
end
section
variable {X:Cx}
def uM:List V->Hp->VK->Prop:=λxs H Q=>uR1 xs λp=>∃bs:List Bool,H p=some (.lst (bs.map V.bl))/\Q (.bl (bs.all id)) H
theorem Nb{bs:List Bool}:∀{us:List Value},zx (bs.map V.bl) us->us=bs.map R9:=by
 induction bs with
 | nil=>intro us r;rw [Uw] at r;cases r;rfl
 | cons b bs F =>
  intro us r;rw [PP] at r;cases r with
  | cons r1 r2=>rw [show _=R9 b from r1,F r2];rfl
theorem Gd(O:X.calm=true):zU X (.builtin "all") uM:=by
 intro Go s σ H xs us Q I r h;obtain ⟨p,rfl,bs,S,q⟩:=h;cases r with
 | cons r1 J =>
  cases J;cases (show _=OF p from r1);obtain ⟨its,U,pl,_⟩:=I.list (SqL.of (K:=X.K) S);have e:=Nb U;subst e;have W:p≠s.heap.objs.size:=by obtain ⟨o,e,_⟩:=pl.isList;exact Pl (O2 e)
  refine call_all_walk (Rz pl.isList ?_);have hl:∀k:Nat,k=bs.length->(Pm k).all (λi=>bs.getD i true)=bs.all id:=by
   intro k e;subst e;rw [Q7,Pg,Pg];constructor
   .intro h x hx;obtain ⟨i,hi,rfl⟩:=RJ hx;have:=h i (Sw.mpr hi);rw [OM,KE hi] at this;exact this
   .intro h i hi;have hi:=Sw.mp hi;rw [OM,KE hi];exact h _ (P0 hi)
  refine {s.heap.objs.size,_,_,_,_,_,λi=>bs.getD i true,rfl,Walks.list (prog:=X.prog) (w:=X.w) (A:=X.A.in1) (show X.A.in1.handled=none from I.ok.hd O) s.heap.objs.size p W (bs.map R9).toArray,{{_,ON _ rfl,rfl,rfl},pl.isList.push _},?_,λh' tk kp=>?_}
  .intro i v s2 Z E2 hv F;have hv:(bs.map R9)[i]?=some v:=by simpa using hv
   rw [OT] at hv;cases e:bs[i]? with
   | none=>rw [e] at hv;cases hv
   | some b =>
    rw [e] at hv;cases hv;have G:bs.getD i true=b:=by rw [OM,e];rfl
    have F:Z (bs.getD i true) s2:=F;rw [G] at F;exact Os F
  .refine {.bl _,H,I.kept (t':=tk) λb o e=>kp b o ?_ (Ot _ e),rfl,?_}
   .simpa using Pl (O2 e)
   .rw [hl _ 'z'];exact q
theorem Dh{p:Addr}:uM [.ref p] H Q = ∃bs:List Bool,H p=some (.lst (bs.map V.bl))/\Q (.bl (bs.all id)) H:=fC
def uIn:R2:=λx y H Q=>(∃i j,x = .str i/\y = .str j/\Q (.bl (!(OO.Str.occurrences j i 0 j.length 1).isEmpty)) H)\/∃p xs,y = .ref p/\(H p=some (.lst xs)\/H p=some (.tup xs))/\zP x=true/\xs.all zP=true/\Q (.bl (inV x xs)) H
theorem LS(J:X.A.units<cLine):OpR X (Pq .In) uIn:=(JE.or Cg).weak λx y H Q h=>by
 rcases h with h|⟨p,xs,e,h,F,G,q⟩
 .exact .inl h
 .exact .inr {p,xs,e,h.elim (λh=>.inl (SqL.of h)) (λh=>.inr (SqT.of h)),F,G,by simpa using q}
theorem KR:uIn (.str x) (.str y) H Q=Q (.bl (!(OO.Str.occurrences y x 0 y.length 1).isEmpty)) H:=by simp [uIn]
theorem BO{p:Addr}:uIn x (.ref p) H Q = ∃xs,(H p=some (.lst xs)\/H p=some (.tup xs))/\zP x=true/\xs.all zP=true/\Q (.bl (inV x xs)) H:=by simp [uIn]
def uM1(to te:TE)(r:Str->V->Hp->VK->Prop):TE:=λσ H Q=>to σ H λx H1=>uS x λz=>te σ H1 λy H2=>r z y H2 Q
theorem Je{to te:TE}{r:Str->V->Hp->VK->Prop}:uM1 to te r σ H Q=to σ H λx H1=>uS x λz=>te σ H1 λy H2=>r z y H2 Q:=rfl
theorem vc{o e:OZ}{to te:TE}{id:String}{r:Str->V->Hp->VK->Prop}(O:Slot "str" m id)(G:typeOf (.builtin id)=pure (.type "method_descriptor"))(hr:∀(Go:List (Addr×Obj))(s:Oq)(σ:St)(H:Hp)(z:Str)(y:V)(t:Tok)(v:Value)(Q:VK),Inv X Go σ H s->zr y v->r z y H Q->Oz (OI X.prog X.w) X.A (call (.builtin id) [.str z t,v]) (λu s1=>∃x H',Inv X Go σ H' s1/\zr x u/\Q x H') X.xe s)(Z:PE X o to)(W:PE X e te)(Zw:QN o m X.env (Qc o X.env)=Qc o X.env:=by rfl)(Y9:(ZR.endLine==cpos.line)=true:=by rfl)(hp:aU e=true:=by rfl):
  PE X (.Call (.Attribute o m ZR) [e] [] cpos) (uM1 to te r):=by
 intro Go s σ H Q I h;have hs:O8 [e] X.env=[(false,Qc e X.env)]:=fV hp;refine Ro Zw (by rw [hs];rfl) Y9 rfl (thn (Z Go s σ H _ I h) λv s1=>x5e λx H1 S r1 Yc=>?_);obtain ⟨z,ex,q1⟩:=Yc;subst ex;obtain ⟨h1,h2⟩:=lh (T:="str") S r1 rfl;refine {"str",id,PySem.F.plainAttrs_str,O,G,h1,h2,?_};rw [hs];refine Calls.callWith_builtin rfl (Calls.evalArgs_plain ?_);have U:=gD W gp (hs:=hs) cpos Go s1 σ H1 (λys H2=>dZ (λy=>r z y H2 Q) ys) S q1;rw [hs] at U;refine thn U λus s2=>x5e λvs H2 I2 r2 J=>?_;obtain ⟨t,rfl⟩:=r1;obtain ⟨y,rfl,J⟩:=dZ.ex J;obtain ⟨_,rfl,ry⟩:=zx.one r2;exact hr Go s2 σ H2 z y t _ Q I2 ry J
def Ax:Str->V->Hp->VK->Prop:=λz y H Q=>uS y λq=>Q (.int (R3 z q)) H
theorem GJ{o e:OZ}{to te:TE}(J:W (PE X o to))(G:W (PE X e te))(S:QN o "rfind" X.env (Qc o X.env)=Qc o X.env:=by rfl)(Z:(ZR.endLine==cpos.line)=true:=by rfl)(O:aU e=true:=by rfl):W (PE X (.Call (.Attribute o "rfind" ZR) [e] [] cpos) (uM1 to te Ax)):=by
 refine {?_};have J:=J.h;have G:=G.h;exact
  vc PySem.F.slot_str_rfind PySem.F.type_str_rfind (λGo s σ H z y t v Q I U q=>by
   obtain ⟨w,rfl,q⟩:=q;obtain ⟨u,rfl⟩:=U;exact R7 PySem.F.slot_str_rfind (Ss _ _ _) PySem.F.entry_str_rfind (PySem.F.args_str_rfind_2 _ _) (gives_str_rfind z w t u).meets {.int _,H,I.tok _,{_,rfl},q}) J G S Z O
theorem BW:Ax z (.str q) H Q=Q (.int (R3 z q)) H:=pf
theorem wa:∀(k:Nat)(ys:List Str),zx (ys.map V.str) (strsFrom k ys)
 | _,[]=>.nil
 | k,y::ys=>.cons {k,rfl} (wa (k+1) ys)
def yW:Str->V->Hp->VK->Prop:=λz y H Q=>uS y λq=>(q.length==0)=false/\z.length<sizeLine/\(Qx z q).length<=sizeLine/\∀p H2,New H p (.lst ((Qx z q).map V.str)) H2->Q (.ref p) H2
theorem Mm{o e:OZ}{to te:TE}(O:W (PE X o to))(J:W (PE X e te))(Zw:QN o "split" X.env (Qc o X.env)=Qc o X.env:=by rfl)(Y9:(ZR.endLine==cpos.line)=true:=by rfl)(Z:aU e=true:=by rfl):W (PE X (.Call (.Attribute o "split" ZR) [e] [] cpos) (uM1 to te yW)):=by
 refine {?_};have O:=O.h;have J:=J.h;exact
  vc Td PySem.F.type_str_split (λGo s σ H z y t v Q I ry q=>by
   obtain ⟨w,rfl,hw,hz,S,q⟩:=q;obtain ⟨u,rfl⟩:=ry;have G:∀(ys:List Str)(us:List Value)(k:Nat),ys=Qx z w->zx (ys.map V.str) us->∃x H',Inv X Go σ H' { s with heap:=s.heap.push { cls:=.type "list",data:=.seq us.toArray },toks:=k }/\zr x (.ref s.heap.objs.size)/\Q x H':=λys us k e U=>by
    subst e;have hl:=U.length;rw [Ow] at hl;exact {.ref s.heap.objs.size,_,I.laid (t':=k) (o:=.lst _) (λb ob q=>Ot _ q) (OA _) {by rw [Ow];exact S,us,0,U,ON _ rfl},rfl,q _ _ (.mk' (I.hok.fresh (OA _)))}
   cases h1:(decide (z.length<w.length)||decide (OO.Str.strKind z<OO.Str.strKind w))
   .cases hf:(OO.Str.occurrences z w 0 z.length (z.length+1)).isEmpty
    .have es:Qx z w=OO.Str.partsBetween z (OO.Str.occurrences z w 0 z.length (z.length+1)) w.length:=(if_neg (ne_true_of_eq_false h1)).trans (if_neg (ne_true_of_eq_false hf));rw [es] at S;exact R7 Td (Ss _ _ _) entry_str_split (args_str_split_2 _ _) (meets_str_split_sep z w t u h1 hw hf (RW hz) S) (G _ _ _ es.symm (wa _ _))
    .exact R7 Td (Ss _ _ _) entry_str_split (args_str_split_2 _ _) (meets_str_split_not_found z w t u h1 hw hf) (G [z] [.str z t] s.toks ((if_neg (ne_true_of_eq_false h1)).trans (if_pos hf)).symm (.cons {t,rfl} .nil))
   .exact R7 Td (Ss _ _ _) entry_str_split (args_str_split_2 _ _) (meets_str_split_cannot_occur z w t u h1) (G [z] [.str z t] s.toks (if_pos h1).symm (.cons {t,rfl} .nil))) O J Zw Y9 Z
theorem Do:yW z (.str q) H Q=((q.length==0)=false/\z.length<sizeLine/\(Qx z q).length<=sizeLine/\∀p H2,New H p (.lst ((Qx z q).map V.str)) H2->Q (.ref p) H2):=pf
def wV(te:TE):TE:=λσ H Q=>te σ H λx H1=>(∃z,x = .str z/\z.length<=sizeLine/\Q (.str z) H1)\/∃i,x = .int i/\i.natAbs.log2<1920/\Q (.str (toString i)) H1
def jf:V->Hp->VK->Prop:=λx H1 Q=>(∃z,x = .str z/\z.length<=sizeLine/\Q (.str z) H1)\/∃i,x = .int i/\i.natAbs.log2<1920/\Q (.str (toString i)) H1
theorem DC:wV te σ H Q=te σ H λx H1=>jf x H1 Q:=rfl
theorem Fq:jf (.str z) H Q=(z.length<=sizeLine/\Q (.str z) H):=by simp [jf]
theorem Cd:jf (.int i) H Q=(i.natAbs.log2<1920/\Q (.str (toString i)) H):=by simp [jf]
theorem vQ(F:W (PE X e te)):W (PE X (.FormattedValue e (-1) none pos) (wV te)):=by
 refine {?_};have F:=F.h;intro Go s σ H Q I h;refine FormattedValue_plain (thn (F Go s σ H _ I h) λv s1=>x5e λx H1 G r1 q1=>?_);rcases q1 with ⟨z,rfl,hz,q⟩|⟨i,rfl,hi,q⟩
 .obtain ⟨t,rfl⟩:=r1;exact formatField_str (λt' tk=>{.str z,H1,G.tok _,{_,rfl},q}) hz
 .obtain ⟨t,rfl⟩:=r1;exact formatField_int_small hi {.str _,H1,G.tok _,{_,rfl},q}
abbrev TJ:=Str->TE
def PJ(X:Cx)(es:List OZ)(F:TJ):Prop:=∀(out:Str)(Go:List (Addr×Obj))(s:Oq)(σ:St)(H:Hp)(Q:VK),Inv X Go σ H s->F out σ H Q ->
 Oz (OI X.prog X.w) X.A (joinParts out (evalEach es X.env)) (λu s1=>∃x H',Inv X Go σ H' s1/\zr x u/\Q x H') X.xe s
def Av:TJ:=λout _ H Q=>out.length<=sizeLine/\Q (.str out) H
def xu(te:TE)(F:TJ):TJ:=λout σ H Q=>te σ H λx H1=>uS x λy=>(out++y).length<=sizeLine/\F (out++y) σ H1 Q
theorem FC:W (PJ X [] Av):={λout Go s σ H Q I h=>joinParts_nil {.str out,H,I.tok _,{_,rfl},h.2} h.1}
theorem mY(F:W (PE X e te))(G:W (PJ X es J)):W (PJ X (e::es) (xu te J)):=by
 refine {?_};have F:=F.h;have G:=G.h;exact λout Go s σ H Q I h=>by
  refine joinParts_cons (thn (F Go s σ H _ I h) λv s1=>x5e λx H1 O r1 q1=>?_);obtain ⟨y,rfl,S,q⟩:=q1;obtain ⟨t,rfl⟩:=r1;exact {S,G _ Go s1 σ H1 Q O q}
def ya(F:TJ):TE:=F SB
theorem Ni:ya F=F SB:=rfl
theorem CK(h:W (PJ X (e::F::es) G)):W (PE X (.JoinedStr (e::F::es) pos) (ya G)):=by refine {?_};have h:=h.h;exact λGo s σ H Q I q=>JoinedStr_many (h SB Go s σ H Q I q)
def gn:List V->Hp->VK->Prop:=λxs H Q=>fg xs H Q\/∃z n,xs=[.str z]/\z.length<=640/\QP z=some n/\Q (.int n) H
theorem Mj:zU X (.type "int") gn:=by
 intro Go s σ H xs us Q I r h;rcases h with h|⟨z,n,rfl,hl,G,q⟩
 .exact Dr Go s σ H xs us Q I r h
 .cases r with
  | cons r1 F =>
   cases F;obtain ⟨t,rfl⟩:=r1;exact PySem.W.KIN.call_text G hl {.int n,H,I.tok _,{_,rfl},q}
theorem JU:gn [.int i] H Q=Q (.int i) H:=by simp [gn,fg]
theorem Gh{k:Bool}:gn [.bl k] H Q=Q (.int (if k then 1 else 0)) H:=by simp [gn,fg]
theorem N7:gn [.str z] H Q = ∃n,z.length<=640/\QP z=some n/\Q (.int n) H:=by simp [gn,fg]
def jw:List V->Hp->VK->Prop:=λxs H Q=>iM xs H Q\/∃z,xs=[.str z]/\Q (.str z) H
theorem eL:zU X (.type "str") jw:=by
 intro Go s σ H xs us Q I r h;rcases h with h|⟨z,rfl,q⟩
 .exact Fv Go s σ H xs us Q I r h
 .cases r with
  | cons r1 F =>
   cases F;obtain ⟨t,rfl⟩:=r1;exact PySem.P.str_of_str {.str z,H,I,{_,rfl},q}
theorem Ic:jw [.int i] H Q=(i.natAbs.log2<1920/\Q (.str (toString i)) H):=by simp [jw,iM]
theorem EN:jw [.str z] H Q=Q (.str z) H:=by simp [jw,iM]
def rD:List V->Hp->VK->Prop:=λxs H Q=>∃x,xs=[.str x]/\x.length=1/\Q (.int (x.cps.getD 0 0:Nat)) H
theorem CQ:zU X (.builtin "ord") rD:=HW
theorem Kk:rD [.str x] H Q=(x.length=1/\Q (.int (x.cps.getD 0 0:Nat)) H):=by simp [rD]
end
def tx(l:List Nat):Str:=⟨l.toArray⟩
def sg(z:Str):List Nat:=z.cps.toList
theorem ao(l:List Nat):sg (tx l)=l:=by simp [sg,tx]
theorem eB(z:Str):tx (sg z)=z:=by cases z;simp [sg,tx]
theorem hU(h:sg a=sg b):a=b:=by rw [<- eB a,h,eB]
theorem bO(a b:Str):sg (a++b)=sg a++sg b:=by simp [sg,Str.cps_append]
theorem zM(z:Str):(sg z).length=z.length:=by simp [sg,Str.length]
theorem hJ(l:List Nat):(tx l).length=l.length:=by simp [tx,Str.length]
def c1(c:Nat):Str:={#[c]}
theorem mK:StrLaws.At x (c1 c) x.length i↔(sg x)[i]?=some c:=by
 unfold StrLaws.At;rw [StrLaws.subAt_eq];show i+1<=x.length/\((((sg x).drop i).take 1)==[c])=true↔_;rw [<- zM x];constructor
 .rintro ⟨h1,h2⟩;have h2:=eq_of_beq h2;rw [KE 'l'];have h3:((sg x).drop i).take 1=[(sg x)[i]''l']:=by
   rw [QF 'l'];rfl
  rw [h3] at h2;injection h2 with h2 _
  rw [h2]
 .intro h;obtain ⟨h1,h2⟩:=OG.mp h;refine {'l',?_};rw [QF h1,h2];simp
theorem Nh(y:Str)(c:Nat):(!(OO.Str.occurrences y {#[c]} 0 y.length 1).isEmpty)=(sg y).contains c:=by
 rcases StrLaws.occ_head y (c1 c) 1 (OA _) with ⟨h,F⟩|⟨i,r,h,J,_⟩
 .rw [show OO.Str.occurrences y {#[c]} 0 y.length 1=[] from h];symm;show (sg y).contains c=false;rw [QL];intro G;obtain ⟨i,hi,e⟩:=RJ (Qz.mp G);exact F i (mK.mpr (by rw [KE hi,e]))
 .rw [show OO.Str.occurrences y {#[c]} 0 y.length 1=i::r from h];symm;exact Qz.mpr (Pc (mK.mp J))
def aj(c:Nat):List Nat->List (List Nat)
 | []=>[[]]
 | x::t=>if x=c then []::aj c t else match aj c t with
  | []=>[[x]]
  | h::r=>(x::h)::r
def gU(p:List Nat):List (List Nat)->List (List Nat)
 | []=>[p]
 | h::r=>(p++h)::r
theorem dN(c:Nat):∀l,∃h r,aj c l=h::r
 | []=>{_,_,rfl}
 | x::t=>by
  unfold aj;split
  .exact {_,_,rfl}
  .obtain ⟨h,r,e⟩:=dN c t;rw [e];exact {_,_,rfl}
theorem fk(c x:Nat)(t:List Nat)(h:x≠c):aj c (x::t)=gU [x] (aj c t):=by
 obtain ⟨a,r,e⟩:=dN c t;show (if x=c then _ else _)=_;rw [if_neg h,e];rfl
theorem Hl(p q:List Nat)(l:List (List Nat)):gU p (gU q l)=gU (p++q) l:=by
 cases l<;>simp [gU]
theorem qE(s:Str)(c hi G:Nat):∀(l:List Nat)(st:Array Nat×Nat),(∀i∈l,st.2<=i)->l.Pairwise (· < ·)->st.1.size+l.length<=G ->
  (forIn l st (StrLaws.occBody s (c1 c) hi G)).run.fst.toList=st.1.toList++l.filter λi=>decide (i+1<=hi)&&OO.Str.subAt s (c1 c) i
 | [],st,_,_,_=>by simp
 | a::l,st,h1,h2,h3=>by
  rw [UI];unfold StrLaws.occBody;have S:=h1 a (OB ..);rw [P9] at h2;simp only [Pr] at h3;split
  .rename_i F;have J:=qE s c hi G l (st.1.push a,a+(c1 c).length) (λi hi=>by have:=h2.1 i hi;show a+1<=i;lia) h2.2 (by simp;lia);have O:(decide (a+1<=hi)&&OO.Str.subAt s (c1 c) a)=true:=by rw [O5];exact {decide_eq_true F.1.2,F.2}
   rw [filter_cons,O,if_pos rfl];refine Eq.trans J ?_;simp
  .rename_i F;have J:=qE s c hi G l st (λi hi=>h1 i (Oy _ hi)) h2.2 'l';have O:(decide (a+1<=hi)&&OO.Str.subAt s (c1 c) a)=false:=by
    rw [QL];intro h;rw [O5] at h;exact F {{{'l',S},of_decide_eq_true h.1},h.2}
   rw [filter_cons,O,if_neg 'z'];exact J
theorem yg(x:Str)(c:Nat):OO.Str.occurrences x (c1 c) 0 x.length (x.length+1)=(range' 0 (x.length+1)).filter λi=>(sg x)[i]? == some c:=by
 rw [StrLaws.occ_eq];rw [qE x c x.length (x.length+1) _ _ (λ_ _=>Pz _) (List.pairwise_lt_range' (s:=0) (n:=x.length+1-0)) 'z'];simp only [R6,Nat.sub_zero];refine List.filter_congr λi _=>?_;rw [Q7];have:=mK (x:=x) (c:=c) (i:=i);unfold StrLaws.At at this;rw [O5,decide_eq_true_eq,beq_iff_eq];exact this
theorem mX(x:Str)(c:Nat):∀(k a i:Nat),i+k=x.length->a<=i->StrLaws.partsFrom x 1 a ((range' i (k+1)).filter λi=>(sg x)[i]? == some c)=(gU (((sg x).drop a).take (i-a)) (aj c ((sg x).drop i))).map tx
 | 0,a,i,h,J=>by
  have hl:=zM x;have U:(sg x)[i]?=none:=Qs 'l';have S:(sg x).drop i=[]:=Ru 'l';have W:(range' i (0+1)).filter (λi=>(sg x)[i]? == some c)=[]:=by
   show filter _ [i]=[];rw [filter_cons,U];rfl
  rw [S,W];show [OO.Str.strSub x a x.length]=[tx _];refine congrArg (·::[]) (hU ?_);rw [ao];show (OO.Str.strSub x a x.length).cps.toList=_;rw [StrLaws.strSub_toList,show x.length=i by lia];simp [aj,sg]
 | k+1,a,i,h,J=>by
  have hl:=zM x;have hi:i<(sg x).length:=by lia
  have G:(sg x)[i]?=some ((sg x)[i]):=KE hi;have ed:(sg x).drop i=(sg x)[i]::(sg x).drop (i+1):=QF hi;rw [Up,filter_cons,G,ed];by_cases F:(sg x)[i]=c
  .rw [if_pos (by simp [F])];have O:=mX x c k (i+1) (i+1) 'l' (OA _);show OO.Str.strSub x a i::StrLaws.partsFrom x 1 (i+1) _=_;rw [O];have Z:aj c ((sg x)[i]::(sg x).drop (i+1))=[]::aj c ((sg x).drop (i+1)):=by
    show (if _=c then _ else _)=_;rw [if_pos F]
   rw [Z];obtain ⟨p,r,e⟩:=dN c ((sg x).drop (i+1));rw [e];simp only [Ua,take_zero,gU,R6,PY,PP];refine congrArg (·::_) (hU ?_);rw [ao];exact StrLaws.strSub_toList x a i
  .rw [if_neg (by simp [F])];rw [mX x c k a (i+1) 'l' 'l',fk c _ _ F,Hl];have e5:((sg x).drop a).take (i+1-a)=((sg x).drop a).take (i-a)++[(sg x)[i]]:=by
    rw [show i+1-a=(i-a)+1 by lia,Pi];congr 1;rw [List.getElem?_drop,show a+(i-a)=i by lia,G];rfl
   rw [e5]
theorem yT:∀{l:List Nat},c∉l->aj c l=[l]
 | [],_=>rfl
 | x::t,h=>by
  rw [OK,not_or] at h;rw [fk c x t (Pt h.1),yT h.2];rfl
theorem lS(x:Str)(U:c<128):Qx x (c1 c)=(aj c (sg x)).map tx:=by
 have J:OO.Str.strKind (c1 c)=1:=by
  unfold OO.Str.strKind;rw [if_pos];show (#[c]:Array Nat).all (· < 256)=true;simp;lia
 have F : ¬ OO.Str.strKind x<OO.Str.strKind (c1 c):=by
  rw [J];unfold OO.Str.strKind;split<;>(try split)<;>lia
 have G:c∉sg x->[x]=(aj c (sg x)).map tx:=λh=>by rw [yT h];show [x]=[tx (sg x)];rw [eB]
 unfold Qx;split
 .rename_i h;rw [decide_eq_false F,SG,decide_eq_true_eq] at h;have h:x.length<1:=h;rw [<- zM] at h;refine G ?_;have S:sg x=[]:=SO 'l';rw [S];exact PD
 .split
  .rename_i h;refine G λO=>?_;obtain ⟨i,hi,e⟩:=RJ O;rw [yg] at h;have:i∈(range' 0 (x.length+1)).filter λi=>(sg x)[i]? == some c:=by
    rw [Ti];refine {?_,by rw [KE hi,e];simp};rw [List.mem_range'_1];rw [zM] at hi;lia
   rw [List.isEmpty_iff.mp h] at this;exact absurd this PD
  .rw [StrLaws.partsBetween_eq,yg];show StrLaws.partsFrom x 1 0 _=_;rw [mX x c x.length 0 0 'l' (OA _)];simp only [Ua,take_zero,UM];obtain ⟨h,r,e⟩:=dN c (sg x);rw [e];rfl
theorem qq(x:Str)(c hi:Nat):∀(l:List Nat)(st:Option Nat),(forIn l st (λi r=>if (decide (i+(c1 c).length<=hi)&&OO.Str.subAt x (c1 c) i)=true then (pure (ForInStep.yield (some i)):Id _) else pure (ForInStep.yield r))).run =
  l.foldl (λZ2 i=>if (decide (i+1<=hi)&&OO.Str.subAt x (c1 c) i)=true then some i else Z2) st
 | [],st=>rfl
 | a::l,st=>by
  rw [UI,UA];show _=l.foldl _ (if (decide (a+(c1 c).length<=hi)&&OO.Str.subAt x (c1 c) a)=true then some a else st);split
  .exact qq x c hi l _
  .exact qq x c hi l _
theorem xR(x:Str)(c:Nat):OO.Str.lastOccurrence x (c1 c) 0 x.length=(range' 0 (x.length+1)).foldl (λZ2 i=>if (sg x)[i]?=some c then some i else Z2) none:=by
 have e:OO.Str.lastOccurrence x (c1 c) 0 x.length=(forIn (range' 0 (x.length+1)) none (λi r=>if (decide (i+(c1 c).length<=x.length)&&OO.Str.subAt x (c1 c) i)=true then (pure (ForInStep.yield (some i)):Id _) else pure (ForInStep.yield r))).run:=by
  unfold OO.Str.lastOccurrence;simp
 rw [e,qq];congr 1;funext Z2 i;have:=mK (x:=x) (c:=c) (i:=i);unfold StrLaws.At at this;by_cases h:(sg x)[i]?=some c
 .rw [if_pos h,if_pos];rw [O5,decide_eq_true_eq];exact this.mpr h
 .rw [if_neg h,if_neg];intro q;rw [O5,decide_eq_true_eq] at q;exact h (this.mp q)
theorem pK{p:Nat->Prop} [DecidablePred p]:∀(l:List Nat)(a:Option Nat),(∀i∈l,¬ p i)->l.foldl (λZ2 i=>if p i then some i else Z2) a=a
 | [],_,_=>rfl
 | x::l,a,h=>by
  rw [UA,if_neg (h x (OB ..))];exact pK l a λi hi=>h i (Oy _ hi)
theorem IE(h:sg x=a++c::b)(F:c∉b):R3 x (c1 c)=a.length:=by
 have hl:x.length=a.length+(b.length+1):=by rw [<- zM,h];simp
 have e:OO.Str.lastOccurrence x (c1 c) 0 x.length=some a.length:=by
  rw [xR,show x.length+1=a.length+((b.length+1)+1) by lia,<- List.range'_append_1,Rr,Up,UA];rw [if_pos (by rw [h];simp),Nat.zero_add];refine pK (p:=λi=>(sg x)[i]?=some c) _ _ λi hi=>?_;rw [List.mem_range'_1] at hi;intro q;rw [h,RM 'l'] at q;obtain ⟨j,G⟩:∃j,i-a.length=j+1:={i-a.length-1,'l'};rw [G,Se] at q;exact F (Pc q)
 show (match OO.Str.lastOccurrence x (c1 c) 0 x.length with|some i=>(i:Int)|none=>-1)=_;rw [e]
theorem pG(h:c∉sg x):R3 x (c1 c) = -1:=by
 have e:OO.Str.lastOccurrence x (c1 c) 0 x.length=none:=by
  rw [xR];exact pK (p:=λi=>(sg x)[i]?=some c) _ _ λi _ q=>h (Pc q)
 show (match OO.Str.lastOccurrence x (c1 c) 0 x.length with|some i=>(i:Int)|none=>-1)=_;rw [e]
theorem gw(h:j<=(sg x).length):Pw x none (some (j:Int))=tx ((sg x).take j):=by
 have e:=StrLaws.sliceText_to (x:=x) (j:=(j:Int)) {'l',by simpa [sg] using h};refine Eq.trans (show Pw x none (some (j:Int))=StrLaws.sliceText x none (some (j:Int)) from rfl) (e.trans ?_);show tx _=tx _;simp [sg]
theorem lY(h:0<(sg x).length):Pw x none (some (-1))=tx ((sg x).dropLast):=by
 rw [zM] at h;have e:=StrLaws.sliceText_to_neg (x:=x) (j:=-1) 'l' 'l';refine Eq.trans (show Pw x none (some (-1))=StrLaws.sliceText x none (some (-1)) from rfl) (e.trans ?_);show tx _=tx _;rw [List.dropLast_eq_take,zM,UM,show (-1+(x.length:Int)-0).toNat=x.length-1 by lia];rfl
theorem jA(m:Nat):sg (toString ((m:Nat):Int):Str)=(UK 10 m).map Char.toNat:=PySem.W.KIN.signs_num m
section
variable {X:Cx}{tg:OZ}
def pj(K:Ov)(tl:TE):TI:=λσ H R=>tl σ H λx H1=>uR x λa=>(∃xs,SqL K H1 a xs/\R (Itl K a) H1)\/∃xs,SqT K H1 a xs/\R (Itt K a) H1
theorem Ca{K:Ov}:pj K tl σ H R=tl σ H λx H1=>uR x λa=>(∃xs,SqL K H1 a xs/\R (Itl K a) H1)\/∃xs,SqT K H1 a xs/\R (Itt K a) H1:=rfl
theorem Dv(hl:PE X l tl):PIc true X tg l (pj X.K tl):=by
 intro Go s σ H R I h;refine thn (hl Go s σ H _ I h) λv s1=>x5e λx H1 F r1 q1=>?_;obtain ⟨a,e,q1⟩:=q1;subst e;cases r1;rcases q1 with ⟨xs,G,q⟩|⟨xs,G,q⟩
 .obtain ⟨its,O,p,hz⟩:=F.list G;refine Rz p.isList {s1.heap.objs.size,[s1.heap.objs.size],_,_,H1,rfl,F.kept (t':=s1.toks) λb o e=>Ot _ e,uY a _,{_,ON _ rfl,rfl,rfl},λb J=>?_,q};have e:b=s1.heap.objs.size:=by simpa using J
  subst e;exact F.Va (OA _) (F.hok.fresh (OA _))
 .obtain ⟨its,O,p,hz⟩:=F.tuple G;refine wpAny_pyIter_tuple (show s1.heap.IsTuple a its.toArray from p) {s1.heap.objs.size,[s1.heap.objs.size],_,_,H1,rfl,F.kept (t':=s1.toks) λb o e=>Ot _ e,As a _,{_,ON _ rfl,rfl,rfl},λb J=>?_,q};have e:b=s1.heap.objs.size:=by simpa using J
  subst e;exact F.Va (OA _) (F.hok.fresh (OA _))
theorem Iw(hl:W (PE X l tl)):W (PIc true X tg l (pj X.K tl)):={Dv hl.h}
end
section
variable {K:Ov}{g:TG}{tt:TT}{te:TE}{H:Hp}{Q:VK}{R:It->Hp->Prop}
theorem aM.tup{a:Addr}{xs:List V}{τ:St}(G:Nat->St->List V->Hp->Prop)(hz:∀i τ ys H,G i τ ys H->ys.length<sizeLine)(S:∀i τ ys H,G i τ ys H->SqT K H a xs)(W:G 0 τ [] H)
  (hs:∀(N:St->List V->Hp->Prop) i x τ ys H,xs[i]?=some x->G i τ ys H->(∀τ ys H,G (i+1) τ ys H->N τ ys H)->g x τ H λF H4=>tt F H4 λok H5=>fX N ys F te ok H5) (hd:∀τ ys H,G xs.length τ ys H->∀D H',New H D (.lst ys) H'->Q (.ref D) H'):aM (Itt K a) g tt te τ H Q:=by
 refine {λi m τ ys H=>m=xs.length-i/\i<=xs.length/\G i τ ys H,{xs.length,'z',Pz _,W},?_};rintro i m τ ys H2 ⟨rfl,hi,p⟩;refine {hz i τ ys H2 p,?_};have q:=S i τ ys H2 p;by_cases O:i<xs.length
 .refine .inr {{xs,xs[i],q,by simp [O]},λx H' y=>?_};obtain ⟨e,y⟩:=y;subst e;exact hs (λF ys H=>∃J,J<xs.length-i/\J=xs.length-(i+1)/\i+1<=xs.length/\G (i+1) F ys H) i x τ ys _ (y xs q) p λF zs H q=>{xs.length-(i+1),'l',rfl,O,q}
 .have e:i=xs.length:=by lia
  subst e;exact .inl {{xs,q,OA _},λD U _=>hd τ ys H2 p D _ (.mk' U)}
theorem Bm{H:Hp}{Q:VK}:dF c (.ref a) .non H Q=Q (.bl (if c then true else false)) H:=by simp [dF]
theorem LP{H:Hp}{Q:VK}:dF c (.str a) .non H Q=Q (.bl (if c then true else false)) H:=by simp [dF]
theorem d8(z:Str):asc z=(sg z).all (· < 128):=by simp [asc,sg]
end
def wA(h:Heap)(e:Addr):Prop:=∃oe vs T,h.get? e=some oe/\oe.data = .fields vs/\vs[1]?=some (OF T)
section
variable {M:Model}{A:OR}{E:Value->Oq->Prop}{s:Oq}{Hc:Hp}{B:Heap}{env:Env}{outer l:List Env}{L e:Addr}{cls fl:Value}
theorem AN(Yv:A.frames=some (env::outer))(hf:env.frame=some L)(st:B.StaysIn s.heap)(Z:B.get? e=none)(hl:s.heap.FunFrames B (env::outer))(F:s.heap.get? e=some oe)(hc:oe.cls=cls)(YE:oe.dict=none)(hd:oe.data = .fields vs)(hz:2<vs.size)(h2:Ctx Hc vs)(k:∀h',bz Hc B (env::outer) e cls (Px L) h'->wA h' e->s.heap.UpToSlots h'->Q () { s with heap:=h' }):
  Oz M A (do let a<-frameOf env;let pl<-entryPlaceOf L J;let b<-EntryCells.newEntry head a .none (Px L) .none pl;RH (.ref e) 1 b) Q E s:=by
 have O:e∉(env::outer).filterMap (·.frame):=λz=>by
  obtain ⟨_,o,U,nf⟩:=hl.mem z;rw [F] at U;cases U;exact nf vs hd
 refine we (wpAny_frameOf_fun Yv hl hf λg only=>?_);obtain ⟨_,same,slots⟩:=only;refine we (wpAny_entryPlaceOf λpl Yq=>?_);have XW:∀(tb:Obj)(ts:Array Value),tb.data = .fields ts->ts[3]?=some (Px L)->Oz M A (RH (.ref e) 1 (.ref g.objs.size)) Q E { s with heap:=g.push tb }:=by
  intro tb ts td t3;have S:g.get? e=some oe:=(same e O).trans F;have G:(g.push tb).get? e=some oe:=Ot _ S;have hT:(g.push tb).get? g.objs.size=some tb:=ON _ (by rw [Qi td]);have W:g.objs.size≠e:=RU (O2 S);have fresh:B.get? g.objs.size=none:=by
   cases q:B.get? g.objs.size with
   | none=>rfl
   | some o =>
    obtain ⟨sl,z⟩:=slots _ o (st _ o q);exact absurd (O2 z) (Ph _)
  have up:∀b o,b≠e->g.get? b=some o->((g.push tb).update e (RN (·.setIfInBounds 1 (.ref g.objs.size)))).get? b=some o:=λb o hb q =>
   (O0 _ _ (Pt hb)).trans (Ot _ q)
  have W9:∀b o,s.heap.get? b=some o->(∀ws,o.data≠.fields ws)->b≠e:=λb o q nf z=>by
   rw [z,F] at q;cases q;exact nf vs hd
  have dd:=QO hd (·.setIfInBounds 1 (OF g.objs.size));refine PK G hd 'l' (k _ {λb o q=>?_,Z,?_,?_} {_,_,g.objs.size,Pu _ G (Qi dd),dd,by rw [PH 'l']} λb o q nf=>?_)
  .refine up b o (λz=>by rw [z,Z] at q;cases q) ((same b λz=>?_).trans (st b o q));rw [(hl.mem z).1] at q;cases q
  .refine hl.of_keeps λb o q nf=>?_;obtain ⟨sl,z⟩:=slots b o q;exact {_,up b _ (W9 b o q nf) z,rfl}
  .refine {_,_,Pu _ G (Qi dd),(RB _ _).trans hc,(wJ _ _).trans YE,dd,by simpa using hz,(by obtain ⟨cv,q1,q2⟩:=h2;exact {cv,by rw [Sn 'd'];exact q1,q2}),.inr {g.objs.size,tb,ts,?_,fresh,W,?_,td,t3}}
   .rw [PH 'l']
   .rw [O0 _ _ (Pt W)];exact hT
  .obtain ⟨sl,z⟩:=slots b o q;exact {sl,up b _ (W9 b o q nf) z}
 unfold EntryCells.newEntry newFields;refine we (Pp ?_ (Yq.sizeOk5 _ _ _ _ _));exact XW _ _ rfl 'z'
theorem uO(Yv:A.frames=some (env::outer))(hf:env.frame=some L)(x:bz Hc B (env::outer) e cls fl s.heap)(k:∀h',bz Hc B (env::outer) e cls (Px L) h'->wA h' e->s.heap.UpToSlots h'->Q () { s with heap:=h' }):Oz M A (Sv (.ref e) env) Q E s:=by
 obtain ⟨st,U,hl,oe,vs,F,O,S,hd,hz,h2,h1⟩:=x;unfold Sv;simp only [hf];rcases h1 with h1|⟨T,oT,ts,h1,Z,Te,J,dT,W⟩
 .refine we (PL F hd h1 ?_);rw [if_neg (show ¬ ((Pf != Pf)=true) by decide)];exact AN Yv hf st U hl F O S hd hz h2 k
 .refine we (PL F hd h1 ?_);rw [if_pos (show (OF T != Pf)=true by simp)];refine we (PL J dT W ?_);by_cases G:fl=Px L
  .subst G;rw [if_pos (show (Px L==Px L)=true by simp)];exact Os (k s.heap {st,U,hl,oe,vs,F,O,S,hd,hz,h2,.inr ⟨T,oT,ts,h1,Z,Te,J,dT,W⟩} ⟨oe,vs,T,F,hd,h1⟩ (UpToSlots.refl _))
  .rw [if_neg (show ¬ ((fl==Px L)=true) by simpa using G)];refine we (PK J dT (PC.mp W).1 ?_);have oth:∀b,b≠T->(s.heap.update T (RN (·.setIfInBounds 3 Pf))).get? b=s.heap.get? b:=λb hb=>O0 _ _ (Pt hb);have Yo:∀b o,s.heap.get? b=some o->(∀ws,o.data≠.fields ws)->b≠T:=λb o q nf z=>by
    rw [z,J] at q;cases q;exact nf ts dT
   refine AN (B:=B) (cls:=cls) Yv hf (λb o q=>?_) U (hl.of_keeps λb o q nf=>{o,(oth b (Yo b o q nf)).trans q,rfl}) ((oth e (Pt Te)).trans F) O S hd hz h2 λh' y ht up=>k h' y ht λb o q nf=>up b o ((oth b (Yo b o q nf)).trans q) nf;exact (oth b λz=>by rw [z,Z] at q;cases q).trans (st b o q)
theorem yX(x:bz Hc B l e cls fl s.heap)(k:∀h',bz Hc B l e cls (Px L) h'->s.heap.UpToSlots h'->Q () { s with heap:=h' }):Oz M A (setFlight (.ref e) (some L)) Q E s:=by
 obtain ⟨st,hn,hl,oe,vs,G,U,W,hd,hz,h2,h1⟩:=x;unfold setFlight;rcases h1 with h1|⟨T,oT,ts,h1,O,S,J,dT,t3⟩
 .refine we (PL G hd h1 ?_);rw [if_neg (show ¬ ((Pf != Pf)=true) by decide)];exact Os (k s.heap {st,hn,hl,oe,vs,G,U,W,hd,hz,h2,.inl h1} (UpToSlots.refl _))
 .refine we (PL G hd h1 ?_);rw [if_pos (show (OF T != Pf)=true by simp)];have F:3<ts.size:=(PC.mp t3).1;have dd:=QO dT (·.setIfInBounds 3 (Px L));have oth:∀b,b≠T->(s.heap.update T (RN (·.setIfInBounds 3 (Px L)))).get? b=s.heap.get? b:=λb hb=>O0 _ _ (Pt hb);have Z:∀b o,s.heap.get? b=some o->(∀ws,o.data≠.fields ws)->b≠T:=λb o q nf z=>by
   rw [z,J] at q;cases q;exact nf ts dT
  refine PK J dT F (k _ {λb o q=>(oth b λz=>by rw [z,O] at q;cases q).trans (st b o q),hn,hl.of_keeps λb o q nf=>{o,(oth b (Z b o q nf)).trans q,rfl},oe,vs,(oth e (Pt S)).trans G,U,W,hd,hz,h2,
   .inr {T,_,_,h1,O,S,Pu _ J (Qi dd),dd,?_}} λb o q nf=>{o.slots,(oth b (Z b o q nf)).trans q})
  rw [PH F]
end
def jj(X:Cx)(Ex:Addr->St->Hp->Prop):Value->Oq->Prop:=λe s'=>∃(ea C:Addr)(B:Heap)(H':Hp)(fl:Value)(σ:St)(F:Oq)(Go:List (Addr×Obj)),e = .ref ea/\Inv X Go σ H' F/\bz H' B X.stack ea (.ref C) fl s'.heap /\
 s'.os=F.os/\RD s'.gens/\(∀b o,F.heap.get? b=some o->b∉frs X.stack->B.get? b=some o)/\F.heap.UpToSlots s'.heap/\Ex C σ H'
abbrev cxF(X:Cx)(Ex:Addr->St->Hp->Prop):Cx:=X.UY (jj X Ex)
theorem cW:bj (cxF X Ex) Ex:=λps σ H F ea C B fl s' I y os bare G up q =>
 {ea,C,B,H,fl,σ,F,ps,rfl,I.ro,y,os,bare,G,up,q}
theorem jY(hst:X.stack=X.env::X.outer)(J:X.Ok->X.A.frames=some (X.env::X.outer))(F:X.env.frame=some L):Q6 (OI X.prog X.w) X.A X.env (jj X Ex):=by
 rintro e s' ⟨ea,C,B,H',fl,σ,Z,Go,rfl,I,y,os,bare,hB,up,q⟩;have fr:=J I.ok;rw [hst] at y;refine uO fr F y λh1 O S u1=>?_;obtain ⟨oe,vs,T,W,U,g3⟩:=S;refine we (PL W U g3 ?_);rw [if_neg (show ¬ ((OF T==Pf)=true) by simp)];rw [F];refine yX (s:={ s' with heap:=h1 }) O λh2 G u2=>?_;rw [<- hst] at G;exact {ea,C,B,H',_,σ,Z,Go,rfl,I,G,os,bare,hB,(up.trans u1).trans u2,q}
theorem PS.c0{st:Stmt}{t:TS}(T:bj X Ex)(h:PS (cxF X Ex) st t):PS X st t:=λGo s σ H D I hw =>
 O3 (h Go s σ H D (I.UY _) hw) (λ_ _ q=>q.ro) <| by
  rintro e s' ⟨ea,C,B,H',fl,F,J,ps,G,O,y,os,bare,S,up,q⟩;subst G;exact T ps F H' J ea C B fl s' O y os bare S up q
theorem mI{st:Stmt}{t:TS}(T:bj X Ex)(h:W (PS (cxF X Ex) st t)):W (PS X st t):={PS.c0 T h.h}
section
variable {X:Cx}
def xT:R2:=λx y H Q=>uEq true x y H Q\/∃a b xs ys,x = .ref a/\y = .ref b/\H a=some (.tup xs)/\H b=some (.tup ys)/\xs.all zP=true/\ys.all zP=true/\Q (.bl (!eqL xs ys)) H
theorem E9(hu:X.A.units<cLine):OpR X (Pq .NotEq) (λx y H Q=>∃a b xs ys,x = .ref a/\y = .ref b/\H a=some (.tup xs)/\H b=some (.tup ys)/\xs.all zP=true/\ys.all zP=true/\Q (.bl (!eqL xs ys)) H):=by
 intro Go s σ H x y v u Q I U ry h;obtain ⟨a,b,xs,ys,rfl,rfl,W,hb,fx,Z,q⟩:=h;cases U;cases ry;obtain ⟨is,r1,p1,_⟩:=I.tuple (SqT.of (K:=X.K) W);obtain ⟨F,r2,p2,_⟩:=I.tuple (SqT.of (K:=X.K) hb);have l1:=r1.length;have l2:=r2.length;refine SeqAt.RcNeAt.tuples (e:=λj=>eqV (xs.getD j .non) (ys.getD j .non)) p1 p2 hu (λj h1 h2=>?_) _ _ _ _ {.bl _,H,I,rfl,?_}
 .simp only [OQ] at h1 h2;have G:xs[j]?=some (xs.getD j .non):=by rw [OM,KE 'l'];rfl
  have J:ys[j]?=some (ys.getD j .non):=by rw [OM,KE 'l'];rfl
  obtain ⟨u,S,q1⟩:=r1.get G;obtain ⟨v,O,q2⟩:=r2.get J;rw [KE h1] at S;rw [KE h2] at O;have w1:is.toArray[j]=u:=by simpa using Pa.inj S
  have w2:F.toArray[j]=v:=by simpa using Pa.inj O
  rw [w1,w2];exact jH q1 q2 (Pg.mp fx _ (Pc G)) (Pg.mp Z _ (Pc J))
 .have e:eqL xs ys=((Pm (min is.toArray.size F.toArray.size)).all (λj=>eqV (xs.getD j .non) (ys.getD j .non))&&is.toArray.size==F.toArray.size):=by
   unfold eqL;simp only [OQ];rw [l1,l2];by_cases hz:is.length=F.length
   .rw [hz];simp
   .have z:(is.length==F.length)=false:=by simpa using hz
    rw [z,Sm,UN]
  rw [<- e];exact q
theorem MG(F:X.A.units<cLine):OpR X (Pq .NotEq) xT:=(iP F).or (E9 F)
theorem KW:xT (.ref a) (.ref b) H Q = ∃xs ys,((H a=some (.lst xs)/\H b=some (.lst ys))\/(H a=some (.tup xs)/\H b=some (.tup ys)))/\xs.all zP=true/\ys.all zP=true/\Q (.bl (!eqL xs ys)) H:=by
 apply propext;constructor
 .rintro (h|⟨U,S,xs,ys,O,J,h1,h2,F,G,q⟩)
  .rw [jV] at h;obtain ⟨xs,ys,h1,h2,F,G,q⟩:=h;exact {xs,ys,.inl ⟨h1,h2⟩,F,G,q}
  .cases O;cases J;exact {xs,ys,.inr ⟨h1,h2⟩,F,G,q}
 .rintro ⟨xs,ys,⟨h1,h2⟩|⟨h1,h2⟩,F,G,q⟩
  .exact .inl (by rw [jV];exact ⟨xs,ys,h1,h2,F,G,q⟩)
  .exact .inr {a,b,xs,ys,rfl,rfl,h1,h2,F,G,q}
end
theorem JW(O:X.N.Nodup)(U:X.N[i0]?=some F)(ax:Loc X.env.scope F)(hc:c=true->X.calm=true)(L:z6 X sc N' ix)(hi:PIc c X tg iter wi)(hg:∀Go C fp s H,PG (zz X sc N' Go C fp s H) tg g)(ht:∀Go C fp s H,PTs (zz X sc N' Go C fp s H) G tt)(he:∀Go C fp s H,PE (zz X sc N' Go C fp s H) Y7 te)(hs:∀x,Pd iter X.env x=pure x:=by intro _;rfl)(av:S5 (.ListComp Y7 [{tg,iter,G,0}] sc pos) (some (.Name F Zo)) S.line X.env=pure true:=by rfl)(aI:X.fn F=true\/X.env.scope.names.lookup F=some .local:=by first|exact .inl rfl|exact .inr rfl|assumption):
  PS X (.Assign [.Name F Zo] (.ListComp Y7 [{tg,iter,G,0}] sc pos) S) (gO (tLC ix wi g tt te) (cE i0)):=by
 intro Go s σ H Z I h;rw [exec_Assign_Name_used F Zo _ S av];refine we (Pn (we ?_));rw [arm_evalThenUse_ListComp];show Oz (OI X.prog X.w) X.A (SE (.ListComp Y7 [{tg,iter,G,0}] sc pos) sc X.env (SZ [{tg,iter,G,0}] pos) (newList []) (UB [{tg,iter,G,0}]) (firstIter [{tg,iter,G,0}] X.env) (some (Tp (.Name F Zo) X.env))>>=λ_=>pure ()) _ _ _;refine we (yc hc L hi hg ht he hs I h λC D oC H' s5 m5 IX ns tu q=>?_);refine thn (mT O U ax aI (Go++[(C,oC)]) s5 σ H' (.ref D) (.ref D) Z.nx IX rfl q) λ_ s6=>x4e λai H6 W q6=>?_;obtain ⟨p6,J,_⟩:=W.pin (C,oC) (Ox _ (Ox _ (OS.mpr rfl)));exact {m5,ns p6,λh' Xu=>Os (Os {ai,H6,tu (W.zk λp hp=>W.pin p (Ox _ (O4 _ hp))) J Xu,q6})}
theorem gg(Z:X.N.Nodup)(G:X.N[i0]?=some F)(O:Loc X.env.scope F)(hc:c=true->X.calm=true)(L:z6 X sc N' ix)(hi:W (PIc c X tg iter wi))(hg:∀Go C fp s H,W (PG (zz X sc N' Go C fp s H) tg g))(ht:∀Go C fp s H,W (PTs (zz X sc N' Go C fp s H) S tt))(he:∀Go C fp s H,W (PE (zz X sc N' Go C fp s H) Y7 te))(hs:∀x,Pd iter X.env x=pure x:=by intro _;rfl)(J:S5 (.ListComp Y7 [{tg,iter,S,0}] sc pos) (some (.Name F Zo)) YC.line X.env=pure true:=by rfl)(U:X.fn F=true\/X.env.scope.names.lookup F=some .local:=by first|exact .inl rfl|exact .inr rfl|assumption):
  W (PS X (.Assign [.Name F Zo] (.ListComp Y7 [{tg,iter,S,0}] sc pos) YC) (gO (tLC ix wi g tt te) (cE i0))) :=
 {JW Z G O hc L hi.h (λa b c d e=>(hg a b c d e).h) (λa b c d e=>(ht a b c d e).h) (λa b c d e=>(he a b c d e).h) hs J U}
section
variable {κ:Type} [DecidableEq κ]
def ay(kvs:List (κ×V))(k:κ):Option V:=(kvs.find? λF=>decide (F.1=k)).map (·.2)
def aV(kvs:List (κ×V))(k:κ)(v:V):List (κ×V) :=
 if (kvs.any λF=>decide (F.1=k))=true then kvs.map (λF=>if F.1=k then (F.1,v) else F) else kvs++[(k,v)]
theorem jm{p:κ×V}{r:List (κ×V)}{k:κ}(e:p.1=k):ay (p::r) k=some p.2:=by simp [ay,Sz,e]
theorem jF{p:κ×V}{r:List (κ×V)}{k:κ}(e : ¬ p.1=k):ay (p::r) k=ay r k:=by simp [ay,Sz,e]
theorem rj(k:κ):∀kvs:List (κ×V),(kvs.any λF=>decide (F.1=k))=(ay kvs k).isSome
 | []=>rfl
 | p::r=>by
  rw [Ug];by_cases e:p.1=k
  .simp only [jm e,decide_eq_true e,Bool.true_or,isSome_some]
  .rw [jF e,decide_eq_false e,Bool.false_or];exact rj k r
theorem AA(kvs:List (κ×V))(k:κ)(v:V):(aV kvs k v).length<=kvs.length+1:=by
 unfold aV;split
 .rw [Ow];lia
 .rw [Pb,Pr,Sx];lia
theorem bU.UT{o:Option V}(r:bU o u):o.isSome=u.isSome:=by
 cases o with
 | none=>cases u with
  | none=>rfl
  | some _=>exact (show False from r).elim
 | some _=>cases u with
  | none=>exact (show False from r).elim
  | some _=>rfl
theorem bU.getD{o:Option V}{d:V}(r:bU o u)(F:zr d d'):zr (o.getD d) (u.getD d'):=by
 cases o with
 | none=>cases u with
  | none=>exact F
  | some _=>exact (show False from r).elim
 | some _=>cases u with
  | none=>exact (show False from r).elim
  | some _=>exact r
theorem KV.val(r:KV kvs vs)(k:κ):bU (ay kvs k) (SY vs k):=by
 unfold KV at r
 induction r with
 | nil=>exact True.intro
 | @cons p q ps G h t J =>
  obtain ⟨h1,h2⟩:=h;by_cases e:p.1=k
  .have F:q.1=k:=h1.symm.trans e;have b:SY (q::G) k=some q.2:=by simp [SY,Sz,F]
   rw [jm e,b];exact h2
  .have F : ¬ q.1=k:=λz=>e (h1.trans z);have b:SY (q::G) k=SY G k:=by simp [SY,Sz,F]
   rw [jF e,b];exact J
theorem KV.any(r:KV kvs vs)(k:κ):(kvs.any λF=>decide (F.1=k))=vs.any λF=>decide (F.1=k):=by
 unfold KV at r
 induction r with
 | nil=>rfl
 | cons h t G=>rw [Ug,Ug,G,h.1]
theorem KV.bZ(r:KV kvs vs)(k:κ)(G:zr y u):
  KV (kvs.map λF=>if F.1=k then (F.1,y) else F) (vs.map λF=>if F.1=k then (F.1,u) else F):=by
 unfold KV at r ⊢
 induction r with
 | nil=>exact .nil
 | @cons p q ps O h t J =>
  rw [PP,PP];refine .cons ?_ J;obtain ⟨h1,h2⟩:=h;by_cases e:p.1=k
  .rw [if_pos e,if_pos (h1.symm.trans e)];exact ⟨h1,G⟩
  .rw [if_neg e,if_neg (λz=>e (h1.trans z))];exact ⟨h1,h2⟩
theorem KV.put(r:KV kvs vs)(k:κ)(F:zr y u):KV (aV kvs k y) (stored vs k u):=by
 unfold aV stored;rw [r.any k];by_cases e:(vs.any λG=>decide (G.1=k))=true
 .rw [if_pos e,if_pos e];exact r.bZ k F
 .rw [if_neg e,if_neg e];exact Paired.snoc r {rfl,F}
theorem KV.length{kvs:List (κ×V)}{vs:List (κ×Value)}(r:KV kvs vs):kvs.length=vs.length:=Paired.length r
end
theorem gF{k:Key}(r:zr (kV k) u):(aX P w).is k u=true:=by
 cases k with
 | inl i=>obtain ⟨t,e⟩:=(show ∃t,u=Q5 i t from r);subst e;exact EX P w i t
 | inr x=>obtain ⟨t,e⟩:=(show ∃t,u=S7 x t from r);subst e;exact Nc P w x t
theorem sY:∀{ks:List Key}{us:List Value},zx (ks.map kV) us->ItemsAre (aX P w) ks us
 | [],_,r=>by rw [Uw] at r;cases r;exact .nil
 | k::ks,_,r=>by
  rw [PP] at r;cases r with
  | cons h t=>exact .cons (gF h) (sY t)
abbrev KT(H:Hp):List (List Key×V)->List (List Key×Addr×Value)->Prop:=Paired λp q=>p.1=q.1/\H q.2.1=some (.tup (p.1.map kV))/\zr p.2 q.2.2
theorem KT.val(r:KT H kvs xs)(k:List Key):bU (ay kvs k) ((atKey xs k).map (·.2)):=by
 induction r with
 | nil=>exact True.intro
 | @cons p q ps G h t J =>
  obtain ⟨h1,_,h2⟩:=h;by_cases e:p.1=k
  .have F:q.1=k:=h1.symm.trans e;have b:atKey (q::G) k=some q.2:=by simp [atKey,Sz,F]
   rw [jm e,b];exact h2
  .have F : ¬ q.1=k:=λz=>e (h1.trans z);have b:atKey (q::G) k=atKey G k:=by simp [atKey,Sz,F]
   rw [jF e,b];exact J
theorem KT.bZ(r:KT H kvs xs)(k:List Key)(G:zr y u):
  KT H (kvs.map λF=>if F.1=k then (F.1,y) else F) (xs.map (putAt k u)):=by
 induction r with
 | nil=>exact .nil
 | @cons p q ps O h t J =>
  rw [PP,PP];refine .cons ?_ J;obtain ⟨h1,h2,h3⟩:=h;unfold putAt;by_cases e:p.1=k
  .rw [if_pos e,if_pos (h1.symm.trans e)];exact ⟨h1,h2,G⟩
  .rw [if_neg e,if_neg (λz=>e (h1.trans z))];exact ⟨h1,h2,h3⟩
theorem KT.put(r:KT H kvs xs)(k:List Key)(G:H b=some (.tup (k.map kV)))(F:zr y u):
  KT H (aV kvs k y) (storedH xs k b u):=by
 have e:(kvs.any λJ=>decide (J.1=k))=(atKey xs k).isSome:=by
  rw [rj,(r.val k).UT,isSome_map]
 unfold aV storedH;rw [e];by_cases q:(atKey xs k).isSome=true
 .rw [if_pos q,if_pos q];exact r.bZ k F
 .rw [if_neg q,if_neg q];exact Paired.snoc r {rfl,G,F}
theorem KT.keeps(r:KT H kvs xs)(F:∀b ys,H b=some (.tup ys)->H' b=some (.tup ys)):KT H' kvs xs :=
 Paired.ti r λ_ _ z=>{z.1,F _ _ z.2.1,z.2.2}
section
variable {P:OE}{w:OW}{H:Hp}{h:Heap}{a:Addr}
theorem Bd(ok:HOk P w H h)(e:Rd H a u):aq P w H h a u:=e.ok ok
theorem di(ok:HOk P w H h)(e:Rd H a (.dK kvs)):kvs.length<=sizeLine/\(a==sysModules)=false/\∃vs,KV kvs vs/\h.DictOf (aX P w) a vs :=
 show aq P w H h a (.dK kvs) from Bd ok e
theorem Be(ok:HOk P w H h)(e:H a=some (.dK kvs)):kvs.length<=sizeLine/\(a==sysModules)=false/\∃vs,KV kvs vs/\h.DictOf (aX P w) a vs:=di ok (.inl e)
theorem ib(ok:HOk P w H h)(e:H a=some (.tup (ks.map kV))):(T9 (aX P w)).is h ks a:=by
 obtain ⟨_,its,r,o,h1,h2,n,h3⟩:=(show aq P w H h a (.tup (ks.map kV)) from ok a _ e);exact {o,its.toArray,n,h1,h2,h3,by simpa using sY r}
theorem gj(ok:HOk P w H h)(e:Rd H a (.dT kvs)):kvs.length<=sizeLine/\(a==sysModules)=false /\
  ∃xs,KT H kvs xs/\h.DictOfH (T9 (aX P w)) a xs:=by
 obtain ⟨z,y,xs,r,o,es,ep,h1,h2,h3,h4,J⟩:=(show aq P w H h a (.dT kvs) from Bd ok e);refine {z,y,xs,r,o,es,ep,h1,h2,h3,h4,λx hx=>?_,J};have all:∀{l:List (List Key×V)}{m:List (List Key×Addr×Value)},KT H l m->∀x∈m,(T9 (aX P w)).is h x.1 x.2.1:=by
  intro l m q
  induction q with
  | nil=>intro x hx;exact nomatch hx
  | @cons p q ps O F t G =>
   intro x hx;rcases OK.mp hx with e|hx
   .subst e;exact ib ok (by rw [<- F.1];exact F.2.1)
   .exact G x hx
 exact all r x hx
theorem Cm(ok:HOk P w H h)(e:H a=some (.dT kvs)):kvs.length<=sizeLine/\(a==sysModules)=false /\
  ∃xs,KT H kvs xs/\h.DictOfH (T9 (aX P w)) a xs:=gj ok (.inl e)
end
def eE(H:Hp)(a:Addr)(y:V)(r:Option V):Prop :=
 (∃kvs k,Rd H a (.dK kvs)/\y=kV k/\r=ay kvs k)\/∃kvs k b,Rd H a (.dT kvs)/\y = .ref b/\H b=some (.tup (k.map kV))/\r=ay kvs k
def jl(H:Hp)(a:Addr)(y v:V)(H':Hp):Prop :=
 (∃kvs k,H a=some (.dK kvs)/\y=kV k/\kvs.length<sizeLine/\H'=upd H a (.dK (aV kvs k v))) \/
 ∃kvs k b,H a=some (.dT kvs)/\y = .ref b/\H b=some (.tup (k.map kV))/\kvs.length<sizeLine/\H'=upd H a (.dT (aV kvs k v))
theorem eE.k{k:Key}(e:H a=some (.dK kvs)):eE H a (kV k) (ay kvs k):=.inl {kvs,k,.inl e,rfl,rfl}
theorem eE.t{k:List Key}(e:H a=some (.dT kvs))(F:H b=some (.tup (k.map kV))):eE H a (.ref b) (ay kvs k):=.inr {kvs,k,b,.inl e,rfl,F,rfl}
theorem jl.k{k:Key}(e:H a=some (.dK kvs))(hl:kvs.length<sizeLine):jl H a (kV k) v (upd H a (.dK (aV kvs k v))):=.inl {kvs,k,e,rfl,hl,rfl}
theorem jl.t{k:List Key}(e:H a=some (.dT kvs))(F:H b=some (.tup (k.map kV)))(hl:kvs.length<sizeLine):
  jl H a (.ref b) v (upd H a (.dT (aV kvs k v))):=.inr {kvs,k,b,e,rfl,F,hl,rfl}
section
variable {X:Cx}{Go:List (Addr×Obj)}{σ:St}{H:Hp}{s:Oq}{a:Addr}{y v:V}{u r:Value}{o:Option V}{A:OR}{E:Value->Oq->Prop}
theorem Kl(Z:A.units+1<cLine)(I:Inv X Go σ H s)(g:eE H a y (some v))(S:zr y u)(h:∀w' s',Inv X Go σ H s'->zr v w'->Q w' s'):
  Oz (OI X.prog X.w) A (Uz (.ref a) u) Q E s:=by
 rcases g with ⟨kvs,k,e,G,l⟩|⟨kvs,k,b,e,G,U,l⟩
 .subst G;obtain ⟨z,hd,vs,F,dd⟩:=di I.hok e;obtain ⟨w',hw,O⟩:=bU.some_of (v:=v) (o:=SY vs k) (by rw [l];exact F.val k);exact wpAny_getItem_of (gF S) dd.mapOf hw (h w' _ (I.tok _) O)
 .subst G;cases (show u=OF b from S);obtain ⟨z,hd,xs,F,dd⟩:=gj I.hok e;obtain ⟨w',hw,O⟩:=bU.some_of (v:=v) (o:=(atKey xs k).map (·.2)) (by rw [l];exact F.val k);obtain ⟨p,W,J⟩:=O7.mp hw;refine wpAny_getItem_heap (Rp Z) (ib I.hok U) dd W ?_;rw [J];exact h w' _ (I.tok _) O
theorem KZ(S:A.units+1<cLine)(I:Inv X Go σ H s)(g:eE H a y o)(J:zr y u)(h:∀s',Inv X Go σ H s'->Q (.bool o.isSome) s'):
  Oz (OI X.prog X.w) A (Pq .In u (.ref a)) Q E s:=by
 rcases g with ⟨kvs,k,e,G,l⟩|⟨kvs,k,b,e,G,O,l⟩
 .subst G;obtain ⟨z,hd,vs,F,dd⟩:=di I.hok e;refine wpAny_in_of (gF J) hd dd.mapOf ?_;rw [<- (F.val k).UT,<- l];exact h _ (I.tok _)
 .subst G;cases (show u=OF b from J);obtain ⟨z,hd,xs,F,dd⟩:=gj I.hok e;refine wpAny_in_heap (Rp S) (ib I.hok O) hd dd ?_;have q:=(F.val k).UT;rw [isSome_map] at q;rw [<- q,<- l];exact h _ (I.tok _)
theorem F0(S:A.units+1<cLine)(I:Inv X Go σ H s)(g:eE H a y o)(J:zr y u)(h:∀s',Inv X Go σ H s'->Q (.bool (!o.isSome)) s'):
  Oz (OI X.prog X.w) A (Pq .NotIn u (.ref a)) Q E s:=by
 rcases g with ⟨kvs,k,e,G,l⟩|⟨kvs,k,b,e,G,O,l⟩
 .subst G;obtain ⟨z,hd,vs,F,dd⟩:=di I.hok e;refine wpAny_notIn_of (gF J) hd dd.mapOf ?_;rw [<- (F.val k).UT,<- l];exact h _ (I.tok _)
 .subst G;cases (show u=OF b from J);obtain ⟨z,hd,xs,F,dd⟩:=gj I.hok e;refine wpAny_notIn_heap (Rp S) (ib I.hok O) hd dd ?_;have q:=(F.val k).UT;rw [isSome_map] at q;rw [<- q,<- l];exact h _ (I.tok _)
theorem uk(I:Inv X Go σ H s)(J:Mut (H a))(hs:Qw a s.heap h')(F:∃q,h'.get? a=some q)(new:aq X.prog X.w (upd H a ob) h' a ob):
  Inv X Go σ (upd H a ob) { s with heap:=h',toks:=t' } :=
 I.write (x:=a) (e:=a) J (.inl rfl) (λb q G z=>(hs.2 b G).trans z) F new
theorem xQ(z:kvs.length<=sizeLine)(hd:(a==sysModules)=false)(F:KV kvs vs)(dd:h'.DictOf (aX P w) a vs):
  aq P w H' h' a (.dK kvs):=⟨z,hd,vs,F,dd⟩
theorem FL(hu:A.units+1<cLine)(I:Inv X Go σ H s)(g:jl H a y v H')(W:zr y u)(Z:zr v r)(h:∀s',Inv X Go σ H' s'->Q () s'):
  Oz (OI X.prog X.w) A (setItem (.ref a) u r) Q E s:=by
 rcases g with ⟨kvs,k,e,S,l,O⟩|⟨kvs,k,b,e,S,U,l,O⟩
 .subst S O;obtain ⟨z,hd,vs,G,dd⟩:=Be I.hok e;have hz:vs.length<=sizeLine:=by rw [<- G.length];exact z
  have hl:(aV kvs k v).length<=sizeLine:=by have:=AA kvs k v;lia
  refine wpAny_setItem_pairs (hsz:=hz) (gF W) dd λh' F hs=>h _ ?_;have he:∃q,h'.get? a=some q:=let ⟨q,_,_,J,_⟩:=F;⟨q,J⟩;exact uk I (by rw [e];exact True.intro) hs he (xQ hl hd (G.put k Z) F)
 .subst S O;cases (show u=OF b from W);obtain ⟨z,hd,xs,G,dd⟩:=Cm I.hok e;have hz:xs.length<=sizeLine:=by rw [<- Paired.length G];exact z
  have hl:(aV kvs k v).length<=sizeLine:=by have:=AA kvs k v;lia
  refine wpAny_setItem_heap (hsz:=hz) (Rp hu) (ib I.hok U) dd λh' F hs=>h _ ?_;obtain ⟨q,es,ep,J,h2,h3,h4,_,h5⟩:=F;refine uk I (by rw [e];exact True.intro) hs ⟨q,J⟩ {hl,hd,_,(G.put k U Z).keeps λc ys ec=>?_,q,es,ep,J,h2,h3,h4,h5};rw [zg (CT ec e (λz=>nomatch z))];exact ec
end
theorem sG{o:Option V}(I:Inv X Go σ H s)(g:eE H a y o):s.TypeIs (.ref a) "dict":=by
 rcases g with ⟨kvs,k,e,_,_⟩|⟨kvs,k,b,e,_,_,_⟩
 .obtain ⟨_,_,vs,_,dd⟩:=di I.hok e;exact dd.typeIs
 .obtain ⟨_,_,xs,_,dd⟩:=gj I.hok e;exact dd.typeIs
structure M2(X:Cx)(o:OZ)(m:Str)(ZR:Pos)(e f:OZ)(cpos:Pos):Prop where
 base:QN o m X.env (Qc o X.env)=Qc o X.env
 few:((QW cpos (O8 [e,f] X.env)).all (λx=>!x.1)&&(Ue cpos (Sd [] X.env)).all (λx=>x.1.isSome)
  && decide (([e,f]:List OZ).length+([]:List Keyword).length+(if ([]:List Keyword).isEmpty then 0 else 1)<30))=true
 line:(ZR.endLine==cpos.line)=true
 trees:QW cpos (O8 [e,f] X.env)=[(false,Qc e X.env),(false,Qc f X.env)]
def IsD(H:Hp)(a:Addr):Prop:=(∃kvs,Rd H a (.dK kvs))\/∃kvs,Rd H a (.dT kvs)
theorem sx(I:Inv X Go σ H s)(d:IsD H a):
  s.TypeIs (.ref a) "dict"/\(∀b,OF a = .ref b->∃ob,s.heap.get? b=some ob/\ob.dict=none)/\(a==sysModules)=false:=by
 rcases d with ⟨kvs,e⟩|⟨kvs,e⟩
 .obtain ⟨_,hd,vs,_,dd⟩:=di I.hok e;refine {dd.typeIs,λb q=>?_,hd};cases q;obtain ⟨ob,_,_,h1,h2,_⟩:=dd;exact ⟨ob,h1,h2.2.1⟩
 .obtain ⟨_,hd,xs,_,dd⟩:=gj I.hok e;refine {dd.typeIs,λb q=>?_,hd};cases q;obtain ⟨ob,_,_,h1,h2,_⟩:=dd;exact ⟨ob,h1,h2.2.1⟩
section
variable {X:Cx}{Go:List (Addr×Obj)}{σ:St}{H:Hp}{s:Oq}{a:Addr}{y d:V}{u r:Value}{o:Option V}{A:OR}{E:Value->Oq->Prop}
theorem DQ(W:A.units+1<cLine)(I:Inv X Go σ H s)(g:eE H a y o)(S:zr y u)(O:zr d r)(h:∀w' s',Inv X Go σ H s'->zr (o.getD d) w'->Q w' s'):
  Oz (OI X.prog X.w) A (call (.builtin "dict.get") [.ref a,u,r]) Q E s:=by
 rcases g with ⟨kvs,k,e,J,l⟩|⟨kvs,k,b,e,J,U,l⟩
 .subst J;obtain ⟨z,hd,vs,G,dd⟩:=di I.hok e;refine call_meetsIn slot_dict_get dd.typeIs PySem.F.entry_dict_get (Um _ _ _) (meets_dict_get_default (aX X.prog X.w) a (gF S) hd r) {_,dd.mapOf,h _ _ (I.tok _) ?_};rw [l];exact (G.val k).getD O
 .subst J;cases (show u=OF b from S);obtain ⟨z,hd,xs,G,dd⟩:=gj I.hok e;refine call_meetsIn slot_dict_get dd.typeIs PySem.F.entry_dict_get (Um _ _ _) (meetsH_dict_get_default (T9 (aX X.prog X.w)) a b hd r) {Rp W,k,xs,ib I.hok U,dd,h _ _ (I.tok _) ?_};rw [l];exact (G.val k).getD O
end
section
variable {X:Cx}{Go:List (Addr×Obj)}{σ:St}{H:Hp}{s:Oq}{a:Addr}{kvs:List (Key×V)}{A:OR}{E:Value->Oq->Prop}
theorem Cb(I:Inv X Go σ H s)(e:Rd H a (.dK kvs))(h:∀p s',H p=none->Inv X Go σ (upd H p (.dK kvs)) s'->Q (.ref p) s'):Oz (OI X.prog X.w) A (call (.type "dict") [.ref a]) Q E s:=by
 obtain ⟨z,hd,vs,J,dd⟩:=di I.hok e;refine kt_call_dict hd dd (by rw [<- J.length];exact z) λh' F hs=>?_;refine h _ _ (I.hok.fresh (OA _)) (I.laid (a:=s.heap.objs.size) (o:=.dK kvs) (t':=s.toks) (λb q G=>?_) (OA _) (xQ z (beq_eq_false_iff_ne.mpr (Pt (Pl I.big))) J F));exact (hs.2 b (Pl (O2 G))).trans (Ot _ G)
end
section
variable {X:Cx}{Go:List (Addr×Obj)}{σ:St}{H:Hp}{s:Oq}{a:Addr}{o:Obj}{kvs:List (Key×V)}
theorem Inv.swap(I:Inv X Go σ H s)(e:H a=some o1)(h1:∀x,o1≠.own x)(h2:∀xs,o1≠.tup xs)(h3:∀ob,o1≠.frz ob (.own 0))(h4:∀ps,o1≠.tbl ps)(S:∀ob u,X.H₀ a≠some (.frz ob u))(new:∀H',aq X.prog X.w H' s.heap a O):Inv X Go σ (upd H a O) s:=by
 have ne:∀b,H b=none->b≠a:=λb n z=>by subst z;rw [e] at n;cases n
 have G:∀b,H b=none->upd H a O b=none:=λb n=>by rw [zg (ne b n)];exact n
 refine {I.ok,I.os,I.bare,{I.base.keep,I.base.slot,λb ob q n hx=>G b (I.base.free b ob q n hx),I.base.there,λb xs q=>?_,λb ob u q=>?_,λb ps q=>?_},I.loc,I.cell,G _ I.free,λx c q=>G c (I.J7 x c q),λp U=>?_,λb u q=>?_,I.len,?_}
 .have z:=I.base.tups b xs q;rw [zg (λy=>by subst y;rw [e] at z;cases z;exact h2 _ rfl)];exact z
 .by_cases F:b=a
  .subst F;exact absurd q (S ob u)
  .rw [zg F];exact I.base.frzs b ob u q
 .obtain ⟨more,z⟩:=I.base.tbls b ps q;exact {more,by rw [zg (λy=>by subst y;rw [e] at z;cases z;exact h4 _ rfl)];exact z}
 .obtain ⟨Z,p2,W⟩:=I.pin p U;exact {Z,G _ p2,W}
 .by_cases F:b=a
  .subst F;rw [zA] at q;cases q;exact new _
  .rw [zg F] at q;exact (I.hok b u q).U4 (λc z _ y=>y) (λc z=>by rw [zg (λy=>by subst y;rw [e] at z;cases z;exact h1 _ rfl)];exact z) (λc xs z=>by rw [zg (λy=>by subst y;rw [e] at z;cases z;exact h2 _ rfl)];exact z)
 .exact I.hdk.bS λb ob J=>by rw [zg (λy=>by subst y;rw [e] at J;cases J;exact h3 _ rfl)];exact J
theorem Inv.freeze(I:Inv X Go σ H s)(e:H a=some (.dK kvs)):(∀ob u,X.H₀ a≠some (.frz ob u))/\∃o,Inv X Go σ (upd H a (.frz o (.dK kvs))) s:=by
 have F:∀ob u,X.H₀ a≠some (.frz ob u):=λob u q=>by
  have z:=I.base.frzs a ob u q;rw [e] at z;cases z
 refine {F,?_};obtain ⟨z,hd,vs,J,dd⟩:=Be I.hok e;obtain ⟨o,es,ep,G,r⟩:=id dd;exact {o,I.swap e (λ_ q=>nomatch q) (λ_ q=>nomatch q) (λ_ q=>nomatch q) (λ_ q=>nomatch q) F λH'=>⟨G,z,hd,vs,J,dd⟩}
theorem Inv.bJ(I:Inv X Go σ H s)(e:H a=some (.frz o (.dK kvs)))(F:∀ob u,X.H₀ a≠some (.frz ob u)):Inv X Go σ (upd H a (.dK kvs)) s:=by
 obtain ⟨G,z⟩:=I.hok a _ e;exact I.swap e (λ_ q=>nomatch q) (λ_ q=>nomatch q) (λ_ q=>by injection q with _ q;cases q) (λ_ q=>nomatch q) F λH'=>z
end
def mw(a:Addr)(kvs:List (Key×V))(H:Hp)(R:Hp->Prop):Prop:=∃o,H a=some (.frz o (.dK kvs))/\R (upd H a (.dK kvs))
def sq(t:TE):TE:=λσ H Q=>∃a kvs,H a=some (.dK kvs)/\∀o,t σ (upd H a (.frz o (.dK kvs))) λv H'=>mw a kvs H' (Q v)
theorem IT{t:TE}(h:W (PE X e t)):W (PE X e (sq t)):=by
 refine {?_};have h:=h.h;rintro Go s σ H Q I ⟨a,kvs,e,q⟩;obtain ⟨J,o,G⟩:=I.freeze e;refine thn (h Go s σ _ _ G (q o)) λu s' z=>?_;obtain ⟨v,H',O,r,o',F,d⟩:=z;exact {v,_,O.bJ F J,r,d}
theorem KV.at(r:KV kvs vs):∀{i:Nat}{p:Key×V},kvs[i]?=some p->∃u,vs[i]?=some (p.1,u)/\zr p.2 u:=by
 induction r with
 | nil=>intro i p h;simp at h
 | @cons x y l m r t F =>
  intro i p h;cases i with
  | zero =>
   have e:x=p:=by simpa using h
   subst e;exact {y.2,by rw [r.1];rfl,r.2}
  | succ i=>exact F (by simpa using h)
def Itw(a:Addr)(o:Obj)(kvs:List (Key×V)):It:={λi H=>H a=some (.frz o (.dK kvs))/\i<kvs.length,λi H x H'=>H'=H/\∃p,kvs[i]?=some p/\x=p.2,λi H=>H a=some (.frz o (.dK kvs))/\kvs.length<=i}
theorem qp{o:Obj}(I:Inv X Go σ H s)(e:H a=some (.frz o (.dK kvs)))(hd:o.data = .dict es ep):
  (a==sysModules)=false/\∃vs,KV kvs vs/\s.heap.DictAt (aX X.prog X.w) a vs ep/\vs.length=kvs.length:=by
 obtain ⟨J,z,W,vs,O,o',Z,U,G,S,F,r⟩:=I.hok a _ e;rw [J] at G;cases G;rw [hd] at F;cases F;exact {W,vs,O,⟨o,es,J,S,hd,r⟩,O.length.symm}
theorem FV{o:Obj}(I:Inv X Go σ H s)(e:H a=some (.frz o (.dK kvs))):∃es ep,o.data = .dict es ep:=by
 obtain ⟨J,z,W,vs,U,o',Z,O,G,S,F,r⟩:=I.hok a _ e;rw [J] at G;cases G;exact {_,_,F}
theorem ED{P:OE}{w:OW}{K:Ov}{tg:OZ}(a it:Addr){o:Obj}{kvs:List (Key×V)}{es:Array DictEntry}{ep:Nat}(hd:o.data = .dict es ep):fY true P w K tg (Itw a o kvs) [it] it (λi h=>h.IsValIter it a i kvs.length ep) where
 mem:=by simp
 obj:=λi h st b F=>by
  have e:b=it:=by simpa using F
  subst e;obtain ⟨o,e,c,d⟩:=st;exact {o,e,λv z=>by rw [d] at z;cases z}
 keep:=λi h h' st k=>st.at λo e=>k it 'z' o e
 item:=by
  intro X hP hw hK hc i Go s σ H E I hf st hg;subst hP hw hK;obtain ⟨Z,hi⟩:=hg;obtain ⟨hm,vs,Zd,dd,hl⟩:=qp I Z hd;obtain ⟨p,hp⟩:∃p,kvs[i]?=some p:={kvs[i],by simp [hi]};obtain ⟨u,hu,ru⟩:=Zd.at hp;obtain ⟨U,J,f2,O,S,G⟩:=hf it 'z';rw [<- hl] at st;refine wpAny_pyNext_values_item st dd hu λh' W sb=>?_;rw [hl] at W;have I1:Inv X Go σ H { s with heap:=h' }:=I.turned (t':=s.toks) (λb o F e=>(sb.2 b F).trans e) U J O S G;obtain ⟨o,e,c,d⟩:=id W;exact {u,rfl,jK (s:={ s with heap:=h' }) e c d 'd' {p.2,H,I1,ru,{rfl,p,hp,rfl},W,λb F=>(hf b F).1}}
 done:=by
  intro X hP hw hK hc i Go s σ H E I hf st hg;subst hP hw hK;obtain ⟨Z,hi⟩:=hg;obtain ⟨hm,vs,Zd,dd,hl⟩:=qp I Z hd;obtain ⟨U,J,f2,O,S,G⟩:=hf it 'z';rw [<- hl] at st;exact wpAny_pyNext_values_end (I.ok.hd (hc rfl)) st dd (Qs 'l') λh' eb=>{rfl,I.turned (t':=s.toks) (λb o F e=>eb b o F e) U J O S G}
 self:=λ_ _ _ _ _ st h=>wpAny_pyIter_valiter st h
section
variable {X:Cx}{tg:OZ}
def qo(tl:TE):TI:=λσ H R=>tl σ H λx H1=>∃a o kvs,x = .ref a/\H1 a=some (.frz o (.dK kvs))/\R (Itw a o kvs) H1
theorem AX(O:W (PE X l tl))(U:QN l "values" X.env (Qc l X.env)=Qc l X.env:=by rfl)(Y9:(ZR.endLine==cpos.line)=true:=by rfl):W (PI X tg (.Call (.Attribute l "values" ZR) [] [] cpos) (qo tl)):=by
 refine {?_};have O:=O.h;intro Go s σ H R I h;refine wpAny_Call_method0_late U Y9 (thn (O Go s σ H _ I h) λv s1=>x5e λx H1 G r1 Yc=>?_);obtain ⟨a,o,kvs,ex,J,q⟩:=Yc;subst ex;cases r1;obtain ⟨es,ep,hd⟩:=FV G J;obtain ⟨hm,vs,Zd,dd,hl⟩:=qp G J hd;obtain ⟨t1,t2,_⟩:=sx G (.inl {kvs,.inr ⟨o,J⟩});refine {"dict","dict.values",Uk,T4,PySem.F.type_dict_values,t1,t2,Calls.callWith_builtin rfl (PySem.evalArgs_none ?_)};refine call_meetsIn T4 dd.dictOf.typeIs PySem.F.entry_dict_values (PySem.F.args_dict_values_1 _) (meets_dict_values (aX X.prog X.w) a hm) {⟨vs,dd.dictOf⟩,?_};have hv:(s1.heap.push { cls:=.type "dict_values",data:=.fields #[.ref a] }).IsValuesView s1.heap.objs.size a:={_,ON _ rfl,rfl,rfl};refine wpAny_pyIter_values (s:={ s1 with heap:=s1.heap.push { cls:=.type "dict_values",data:=.fields #[.ref a] } }) hv (dd.push _) ?_;rw [hl];have S:Inv X Go σ H1 { s1 with heap:=s1.heap.push { cls:=.type "dict_values",data:=.fields #[.ref a] } }:=G.kept (t':=s1.toks) λb o e=>Ot _ e;refine {_,[_],_,_,H1,rfl,S.kept (t':=s1.toks) λb o e=>Ot _ e,ED a _ hd,{_,ON _ rfl,rfl,rfl},λb Z=>?_,q};have e:=OS.mp Z;subst e;exact S.Va (OA _) (S.hok.fresh (OA _))
end
def uK(y:V)(q:Key->Prop):Prop:=∃k,y=kV k/\q k
theorem MW:uK (.str z) q=q (.inr z):=by
 apply propext;constructor
 .rintro ⟨k,e,h⟩;cases k with
  | inl i=>cases e
  | inr x=>cases e;exact h
 .exact λh=>{.inr z,rfl,h}
theorem FO:uK (.int i) q=q (.inl i):=by
 apply propext;constructor
 .rintro ⟨k,e,h⟩;cases k with
  | inl i=>cases e;exact h
  | inr x=>cases e
 .exact λh=>{.inl i,rfl,h}
section
variable {X:Cx}
def oK:R2:=λx y H Q=>∃a k kvs v,x = .ref a/\y=kV k/\Rd H a (.dK kvs)/\ay kvs k=some v/\Q v H
theorem lC(W:X.A.units+1<cLine):IxR X oK:=by
 intro Zy YW Go s σ H x y v u Q I rx U h hs;obtain ⟨a,k,kvs,z,rfl,rfl,J,O,q⟩:=h;obtain rfl:v=OF a:=rx;have g:eE H a (kV k) (some z):=.inl {kvs,k,J,rfl,O.symm};unfold subscriptTail;refine we ?_;rw [getitemInPython_of_ne (sG I g).not_modules];refine we (wpAny_specialOf (sG I g) PySem.F.slot_dict_getitem.lookup ?_);have G:Oz (OI X.prog X.w) X.A (subscripted YW false (.ref a) u) (λr s₃=>Oz (OI X.prog X.w) X.A (letTemporaryGo Zy (.ref a) r>>=λ_=>pure r) (EP X Go σ Q) X.xe s₃) X.xe s:=by
  rw [hs];exact wpAny_operating (Kl W I g U λw' s3 S Z=>we (wpAny_letTemporaryGo (Os ⟨z,H,S,Z,q⟩)))
 first
  | exact Os (we G)
  | exact we (Os (we G))
  | exact we G
def mO(c:Bool):R2:=λy x H Q=>∃a k kvs,x = .ref a/\y=kV k/\Rd H a (.dK kvs)/\Q (.bl (if c then !(ay kvs k).isSome else (ay kvs k).isSome)) H
theorem FW(O:X.A.units+1<cLine):OpR X (Pq .In) (mO false):=by
 intro Go s σ H x y v u Q I S J h;obtain ⟨a,k,kvs,rfl,rfl,F,q⟩:=h;obtain rfl:u=OF a:=J;exact KZ O I (.inl {kvs,k,F,rfl,rfl}) S λU G=>{.bl (ay kvs k).isSome,H,G,rfl,q}
theorem AM(O:X.A.units+1<cLine):OpR X (Pq .NotIn) (mO true):=by
 intro Go s σ H x y v u Q I S J h;obtain ⟨a,k,kvs,rfl,rfl,F,q⟩:=h;obtain rfl:u=OF a:=J;exact F0 O I (.inl {kvs,k,F,rfl,rfl}) S λU G=>{.bl (!(ay kvs k).isSome),H,G,rfl,q}
theorem Ck{p:Addr}:mO c (.str x) (.ref p) H Q = ∃kvs,Rd H p (.dK kvs)/\Q (.bl (if c then !(ay kvs (.inr x)).isSome else (ay kvs (.inr x)).isSome)) H:=by
 apply propext;constructor
 .rintro ⟨a,k,kvs,G,F,h,q⟩;cases G;cases k with
  | inl i=>cases F
  | inr x=>cases F;exact ⟨kvs,h,q⟩
 .rintro ⟨kvs,h,q⟩;exact {p,.inr x,kvs,rfl,rfl,h,q}
def lr:V->V->V->Hp->(Hp->Prop)->Prop:=λo i v H Q=>om o i v H Q\/∃a k kvs,o = .ref a/\i=kV k/\H a=some (.dK kvs)/\kvs.length<sizeLine/\Q (upd H a (.dK (aV kvs k v)))
theorem vo(U:X.A.units+1<cLine):o7 X lr:=by
 intro Go s σ H o i v G S u Q I F O J h;rcases h with h|⟨a,k,kvs,rfl,rfl,e,l,q⟩
 .exact lG Go s σ H o i v G S u Q I F O J h
 .obtain rfl:G=OF a:=F;exact FL U I (.inl {kvs,k,e,rfl,l,rfl}) O J λs' W=>{_,W,q}
theorem Ea:lr (.ref a) (.str z) v H Q = ∃kvs,H a=some (.dK kvs)/\kvs.length<sizeLine/\Q (upd H a (.dK (aV kvs (.inr z) v))):=by
 apply propext;constructor
 .rintro (⟨_,_,_,_,_,e,_⟩|⟨J,k,kvs,G,F,h,l,q⟩)
  .cases e
  .cases G;cases k with
   | inl i=>cases F
   | inr x=>cases F;exact ⟨kvs,h,l,q⟩
 .rintro ⟨kvs,h,l,q⟩;exact .inr {a,.inr z,kvs,rfl,rfl,h,l,q}
theorem CJ:lr (.ref a) (.int i) v H Q=((∃xs j,H a=some (.lst xs)/\ixN xs.length i=some j/\Q (upd H a (.lst (xs.set j v))))\/∃kvs,H a=some (.dK kvs)/\kvs.length<sizeLine/\Q (upd H a (.dK (aV kvs (.inl i) v)))):=by
 apply propext;unfold lr;rw [AZ];constructor
 .rintro (h|⟨J,k,kvs,G,F,h,l,q⟩)
  .exact .inl h
  .cases G;cases k with
   | inl i=>cases F;exact .inr ⟨kvs,h,l,q⟩
   | inr x=>cases F
 .rintro (h|⟨kvs,h,l,q⟩)
  .exact .inl h
  .exact .inr {a,.inl i,kvs,rfl,rfl,h,l,q}
def ug(td ty tx:TE):TE:=λσ H Q=>td σ H λx H1=>uR x λa=>(∃kvs,Rd H1 a (.dK kvs))/\ty σ H1 λy H2=>tx σ H2 λz H3=>uK y λk=>∃kvs,Rd H3 a (.dK kvs)/\Q ((ay kvs k).getD z) H3
theorem Lo{td ty tx:TE}:ug td ty tx σ H Q=td σ H λx H1=>uR x λa=>(∃kvs,Rd H1 a (.dK kvs))/\ty σ H1 λy H2=>tx σ H2 λz H3=>uK y λk=>∃kvs,Rd H3 a (.dK kvs)/\Q ((ay kvs k).getD z) H3:=rfl
theorem uV{o e f:OZ}{td ty tx:TE}(hu:X.A.units+1<cLine)(O:W (PE X o td))(G:W (PE X e ty))(hf:W (PE X f tx))(m:M2 X o "get" ZR e f cpos:=by exact {rfl,rfl,rfl,rfl}):W (PE X (.Call (.Attribute o "get" ZR) [e,f] [] cpos) (ug td ty tx)):=by
 refine {?_};have O:=O.h;have G:=G.h;have hf:=hf.h;intro Go s σ H Q I h;refine wpAny_Call_method m.base m.few m.line Uk slot_dict_get PySem.F.type_dict_get (thn (O Go s σ H _ I h) λu s1=>x5e λx H1 S rx XT=>?_);obtain ⟨a,ex,d,q1⟩:=XT;subst ex;obtain rfl:u=OF a:=rx;obtain ⟨t1,t2,_⟩:=sx S (.inl d);refine {t1,t2,?_};rw [m.trees];refine Calls.callWith_builtin rfl (Calls.evalArgs_plain (Calls.spliced_cons (thn (G Go s1 σ H1 _ S q1) λiv s2=>x5e λy H2 U ry q2 =>
  Calls.spliced_cons (thn (hf Go s2 σ H2 _ U q2) λfv s3=>x5e λz H3 I3 rz J=>Calls.spliced_nil ?_))))
 obtain ⟨k,Z,kvs,g,q3⟩:=J;subst Z;exact DQ hu I3 (.inl {kvs,k,g,rfl,rfl}) ry rz λw' s4 I4 Xe=>{_,H3,I4,Xe,q3}
end
end L2
namespace L2
open PySem PySem.Spec PyProof.Rows PySem.W PySem.Calls
def leS(a b:Str):Prop:=ltCps b.cps.toList a.cps.toList=false
theorem AH(h1:leS a b)(h2:leS b a):a=b:=by
 unfold leS at h1 h2;rw [ltCps_eq] at h1 h2;exact hU (Q9.total a.cps.toList b.cps.toList h2 h1)
theorem xt:∀{l:List Str},sortedS l=true->l.Pairwise leS:=by
 have U:∀(r:List Str)(x:Str),risingS x r=true->(x::r).Pairwise leS:=by
  intro r
  induction r with
  | nil=>intro x _;simp
  | cons y r S =>
   intro x h;have h':(!ltCps y.cps.toList x.cps.toList&&risingS y r)=true:=h;rw [O5,Uv] at h';have F:=S y h'.2;refine P9.mpr {λz hz=>?_,F};rcases OK.mp hz with rfl|hz
   .exact h'.1
   .have G:=(P9.mp F).1 z hz;unfold leS at G ⊢;have J:=h'.1;rw [ltCps_eq] at G J ⊢;exact KeyOrd.kle_trans (O:=Q9.toKeyOrd) J G
 intro l h;cases l with
 | nil=>exact .nil
 | cons x r=>exact U r x h
theorem nB:∀{l m:List Str},l.Perm m->l.Pairwise leS->m.Pairwise leS->l=m
 | [],m,p,_,_=>(QK.nil_eq p)
 | x::l,[],p,_,_=>absurd p.length_eq 'z'
 | x::l,y::m,p,hl,F=>by
  have e:x=y:=by
   have h1:x∈y::m:=p.mem_iff.mp (OB ..);have h2:y∈x::l:=p.mem_iff.mpr (OB ..);rcases OK.mp h1 with e|h1
   .exact e
   .rcases OK.mp h2 with e|h2
    .exact e.symm
    .exact AH ((P9.mp hl).1 y h2) ((P9.mp F).1 x h1)
  subst e;rw [nB ((List.perm_cons x).mp p) (P9.mp hl).2 (P9.mp F).2]
open Classical in
noncomputable def zt(ks:List Str):List Str:=if h:∃F:List Str,F.Perm ks/\sortedS F=true then h.choose else ks
theorem sS(p:F.Perm ks)(h:sortedS F=true):F=zt ks:=by
 have ex:∃F:List Str,F.Perm ks/\sortedS F=true:=⟨F,p,h⟩;unfold zt;rw [dif_pos ex];exact nB (p.trans ex.choose_spec.1.symm) (xt h) (xt ex.choose_spec.2)
section
variable {X:Cx}
def yO:List V->Hp->VK->Prop:=λxs H Q=>uR1 xs λa=>∃kvs,Rd H a (.dK kvs)/\∀p H2,New H p (.dK kvs) H2->Q (.ref p) H2
theorem Lz:yO [.ref a] H Q = ∃kvs,Rd H a (.dK kvs)/\∀p H2,New H p (.dK kvs) H2->Q (.ref p) H2:=fC
theorem sR:zU X (.type "dict") yO:=by
 intro Go s σ H xs us Q I r h;obtain ⟨a,rfl,kvs,J,q⟩:=h;obtain ⟨u,rfl,F⟩:=cQ r;cases F;exact Cb I J λp s' O G=>{.ref p,_,G,rfl,q _ _ (.mk' O)}
def sk(kvs:List (Str×V)):List (Key×V):=kvs.map λp=>(.inr p.1,p.2)
def vV:List V->Hp->VK->Prop:=λxs H Q=>uR1 xs λa=>∃kvs:List (Str×V),Rd H a (.dK (sk kvs))/\kvs.length<64/\∀p H2,New H p (.lst ((zt (kvs.map (·.1))).map V.str)) H2->Q (.ref p) H2
theorem Ce:vV [.ref a] H Q = ∃kvs:List (Str×V),Rd H a (.dK (sk kvs))/\kvs.length<64/\∀p H2,New H p (.lst ((zt (kvs.map (·.1))).map V.str)) H2->Q (.ref p) H2:=fC
theorem xI:∀{vs:List Value}{F:List Str},vs.length=F.length->(∀(j:Nat)(v:Value),vs[j]?=some v->∃t,v=S7 (F.getD j "") t)->StrsAre vs F
 | [],[],_,_=>.nil
 | [],_::_,h,_=>absurd h 'z'
 | _::_,[],h,_=>absurd h 'z'
 | v::vs,x::F,h,f=>by
  obtain ⟨t,e⟩:=f 0 v rfl;have G:v=S7 x t:=e;rw [G];exact .cons x t (xI (by simpa using h) λj u J=>f (j+1) u J)
theorem xZ:∀{vs:List Value}{F:List Str},StrsAre vs F->zx (F.map V.str) vs
 | _,_,.nil=>.nil
 | _,_,.cons x t h=>.cons {t,rfl} (xZ h)
theorem AU(hc:X.calm=true):zU X (.builtin "sorted") vV:=by
 intro Go s σ H xs us Q I r h;obtain ⟨a,rfl,kvs,hq,XU,q⟩:=h;obtain ⟨u,rfl,ru⟩:=cQ r;cases ru;obtain ⟨z,hd,vs,Zd,dd⟩:=di I.hok hq;obtain ⟨ep,O⟩:=dd.dictAt;have ZL:vs.length=kvs.length:=by rw [<- Zd.length];simp [sk]
 refine call_function_entry kind_sorted Ut UC (UE _) ?_;unfold OO.«sorted»
 refine we (m:=checkCount "sorted" 1 1 _) (Os ?_);refine we (kdu_collect (A:=X.A.in1) (kdl_dict (knd:=aX X.prog X.w) (kvs:=vs) (ep:=ep) hd) (I.ok.hd hc) O (by rw [ZL,Py];lia) λh' tk Z2 W Zc=>?_);have hl:Z2.toList.length=kvs.length:=by rw [Qa,<- ZL];exact Zc.1
 have Z:StrsAre Z2.toList (kvs.map (·.1)):=xI (by rw [hl,Ow]) λj v hv=>by
  obtain ⟨k,x,hx,W⟩:=Zc.2 j v (by rw [<- Qm];exact hv);have hj:j<vs.length:=(OG.mp hx).1;have G:j<kvs.length:=by lia
  have J:(sk kvs)[j]?=some (.inr kvs[j].1,kvs[j].2):=by simp [sk,G]
  obtain ⟨u',F,_⟩:=Zd.at J;rw [hx] at F;cases F;rcases dJ (show fT (Sum.inr kvs[j].1) v=true from W) with ⟨i,t,S,J⟩|⟨y,t,S,J⟩
  .cases S
  .cases S;exact {t,by rw [J,OM,OT,KE G];rfl}
 have I1:Inv X Go σ H { s with heap:=h',toks:=tk }:=I.kept W;refine we (RT ?_ (by rw [hl,Py];lia));have U:(h'.push (Qo "list" Z2.toList.toArray 0)).get? h'.objs.size=some (Qo "list" Z2.toList.toArray 0):=ON _ rfl;refine we (OV (PU Tf {_,U,rfl} SV (list_sort_treeK strKind_oneLt U Z.keysOf (λav ax YM e=>keyKind_strs (by rw [<- e];exact Z)) (by rw [hl];exact XU) λYD a1 a2=>{_,rfl,?_}) (Tq _)));obtain ⟨aI,b1,b2,b3⟩:=sorted_out_str Z a1 a2;have e3:=sS b2 b3;subst e3;obtain ⟨c,ai⟩:=sortedHeap_at (vs:=Z2.toList) (out:=(arrOf YD).map (·.2)) U;refine Os {_,rfl,.ref h'.objs.size,upd H h'.objs.size (.lst ((zt (kvs.map (·.1))).map V.str)),I1.laid (a:=h'.objs.size) (t':=tk) (λb o e=>?_) (OA _) {?_,((arrOf YD).map (·.2)).toList,c,xZ b1,by rw [SR];exact ai},rfl,q _ _ (.mk' (I1.hok.fresh (OA _)))}
 .have hb:b<h'.objs.size:=O2 e;rw [sortedHeap_old (Pl hb) (by rw [R4];exact Rb hb)];exact Ot _ e
 .have:=b2.length_eq;rw [Ow,this,Ow,Py];lia
end
end L2
namespace HT
open PySem PySem.Spec PyProof.Rows PySem.Calls
section
variable {prog:OE}{w:OW}{A:OR}{E:Value->Oq->Prop}{s:Oq}
theorem getItem_tuple_whole{t sl:Addr}{lo hi:Option Int}(F:Uq s.heap t items)(hs:s.heap.IsSliceOf sl vl vu .none)(pl:Tv vl lo)(pu:Tv vu hi)(h0:sIx items.size 0 lo=0)(h1:sIx items.size items.size hi=items.size)(h:Q (.ref t) s):Oz (OI prog w) A (Uz (.ref t) (.ref sl)) Q E s:=by
 obtain ⟨os,S,O,ai⟩:=id hs;have J:s.TypeIs (.ref sl) "slice":=⟨os,S,O⟩;unfold Uz
 try with_reducible refine OV ?_
 first|refine we (Os ?_)|skip
 refine we (wpAny_sequenceKey F.typeIs 'd' ?_);refine we (Rf (name:=Ou "__getitem__") F.typeIs PQ
  (PU PQ F.typeIs entry_tuple_getitem ?_ (args_tuple_getitem _ _)))
 show Oz _ _ (OO.Tuple.tupleItemsOf (.ref t)>>=_) _ _ s;refine we (tupleItemsOf_ F ?_);refine we (Sf J ?_);rw [if_pos 'd'];refine we (vf hs pl pu ?_);have G:(((sIx items.size 0 lo:Nat):Int)==0&&(1:Int)==1&&(sIx items.size items.size hi-sIx items.size 0 lo)==items.size)=true:=by
  rw [h0,h1];simp
 show Oz _ _ (if (((sIx items.size 0 lo:Nat):Int)==0&&(1:Int)==1&&(sIx items.size items.size hi-sIx items.size 0 lo)==items.size)=true then _ else _) _ _ s;rw [if_pos G];have Yk:∀{R:Bool->Oq->Prop}{Z:OR}{U:Value->Oq->Prop},R true s->Oz (OI prog w) Z (OO.Tuple.tupleIsExact (.ref t)) R U s:=λ{R Z U} W=>by
  unfold OO.Tuple.tupleIsExact
  first
   | exact we (Sf F.typeIs (Os W))
   | exact wpAny_map (Sf F.typeIs W)
 refine we (Yk ?_)
 first
  | exact we (Rn (we (Os (Os ⟨_,rfl,Os h⟩))))
  | exact we (Rn (Os ⟨_,rfl,Os h⟩))
  | exact we (Rn (we (Os ⟨_,rfl,Os h⟩)))
end
end HT
namespace L2
open PySem PySem.Spec PyProof.Rows PySem.W PySem.Calls
section
variable {X:Cx}
def jP:V->Option Int->Option Int->Hp->VK->Prop:=λx lo hi H Q=>uSl x lo hi H Q\/∃a xs,x = .ref a/\H a=some (.tup xs)/\∀p H2,zj H H2->H2 p=some (.tup (cf xs lo hi))->Q (.ref p) H2
theorem sP:SlR X jP:=by
 intro Go s σ H x v J U lo hi sl Q I G hs pl F h;rcases h with h|⟨a,xs,rfl,hx,q⟩
 .exact gE Go s σ H x v J U lo hi sl Q I G hs pl F h
 .by_cases hw:HT.sIx xs.length 0 lo=0/\HT.sIx xs.length xs.length hi=xs.length
  .cases G;obtain ⟨its,r,O,hz⟩:=I.tuple (SqT.of hx);have S:its.toArray.size=xs.length:=by rw [OQ];exact r.length.symm
   refine {"tuple",_,PQ.lookup,O.typeIs,?_};refine HT.getItem_tuple_whole O hs pl F (by rw [S];exact hw.1) (by rw [S];exact hw.2) {.ref a,H,I,rfl,q a H (zj.refl _) ?_};rw [hx];unfold cf;rw [hw.1,hw.2];simp
  .exact JI Go s σ H _ v J U lo hi sl Q I G hs pl F {a,xs,rfl,SqT.of hx,hw,λp W=>q p _ (New.mk' (o:=.tup (cf xs lo hi)) W).same zA}
theorem Cp{lo hi:Option Int}:jP (.str z) lo hi H Q=(z.length<=sizeLine/\Q (.str (Txt.slice z lo hi)) H):=by simp [jP,xx]
theorem BN{lo hi:Option Int}:jP (.ref a) lo hi H Q=((∃xs,H a=some (.lst xs)/\∀p H2,New H p (.lst (cf xs lo hi)) H2->Q (.ref p) H2)\/∃xs,H a=some (.tup xs)/\∀p H2,zj H H2->H2 p=some (.tup (cf xs lo hi))->Q (.ref p) H2):=by
 unfold jP;rw [xn];apply propext;constructor
 .rintro (h|⟨F,xs,e,h⟩)
  .exact .inl h
  .cases e;exact .inr ⟨xs,h⟩
 .rintro (h|⟨xs,h⟩)
  .exact .inl h
  .exact .inr {a,xs,rfl,h}
def jM:R2:=λx y H Q=>∃a b xs ys,x = .ref a/\y = .ref b/\H a=some (.tup xs)/\H b=some (.tup ys)/\xs.length+ys.length<=sizeLine/\∀p H2,zj H H2->H2 p=some (.tup (xs++ys))->Q (.ref p) H2
theorem Eo:OpR X (QH .Add) jM:=by
 intro Go s σ H x y v u Q I W ry h;obtain ⟨a,b,xs,ys,rfl,rfl,O,S,hz,q⟩:=h;by_cases hx:xs=[]
 .cases W;cases ry;obtain ⟨its,r1,p1,_⟩:=I.tuple (SqT.of O);obtain ⟨Yj,r2,p2,_⟩:=I.tuple (SqT.of S);obtain ⟨⟨cls,dd,data,sl⟩,ho,hc,n,hd⟩:=id p1;obtain ⟨⟨Z,J,data2,U⟩,F,XI,n2,G⟩:=id p2;simp only at hc hd XI G;subst hc hd XI G;have hi:its=[]:=r1.U7.mpr hx;exact concat_meets {_,ho,rfl} {_,F,rfl} noFill_tuple_add seq_tuple_add slot_tuple_add entry_tuple_add (args_tuple_add_2 _ _)
   (tuple_addW0 a b its.toArray Yj.toArray n n2 dd J sl U (by simp [hi])) {ho,F,{.ref b,H,I,rfl,q b H (zj.refl _) (by rw [S,hx];rfl)}}
 .exact L5 Go s σ H _ _ v u Q I W ry {a,b,xs,ys,rfl,rfl,SqT.of O,SqT.of S,hx,hz,λe=>q a H (zj.refl _) (by rw [O,e,PY]),λ_ p hp=>q p _ (New.mk' (o:=.tup (xs++ys)) hp).same zA}
def gQ:R2:=λx y H Q=>dQ x y H Q\/jM x y H Q
theorem iC:OpR X (QH .Add) gQ:=o5.or Eo
theorem LC:gQ (.int i) (.int j) H Q=Q (.int (i+j)) H:=by simp [gQ,jM,dQ]
theorem BY:gQ (.str i) (.str j) H Q=(i.length+j.length<=sizeLine/\Q (.str (i++j)) H):=by simp [gQ,jM,dQ]
theorem Iq:gQ (.ref a) (.ref b) H Q=((∃xs zs,H a=some (.lst xs)/\H b=some (.lst zs)/\xs.length+zs.length<=sizeLine/\∀p H2,New H p (.lst (xs++zs)) H2->Q (.ref p) H2) \/
  ∃xs ys,H a=some (.tup xs)/\H b=some (.tup ys)/\xs.length+ys.length<=sizeLine/\∀p H2,zj H H2->H2 p=some (.tup (xs++ys))->Q (.ref p) H2):=by
 unfold gQ;rw [rN];apply propext;constructor
 .rintro (h|⟨J,O,xs,ys,G,F,h⟩)
  .exact .inl h
  .cases G;cases F;exact .inr ⟨xs,ys,h⟩
 .rintro (h|⟨xs,ys,h⟩)
  .exact .inl h
  .exact .inr {a,b,xs,ys,rfl,rfl,h}
def vO:List V->Hp->VK->Prop:=λxs H Q=>∃i j,xs=[.int i,.int j]/\(0<j/\j<2 ^ 64)/\∀p H2,New H p (.tup [.int (i / j),.int (i % j)]) H2->Q (.ref p) H2
theorem Ji:vO [.int i,.int j] H Q=((0<j/\j<2 ^ 64)/\∀p H2,New H p (.tup [.int (i / j),.int (i % j)]) H2->Q (.ref p) H2):=by
 apply propext;constructor
 .rintro ⟨F,G,e,h⟩;cases e;exact h
 .exact λh=>{i,j,rfl,h}
theorem Hz:zU X (.builtin "divmod") vO:=by
 intro Go s σ H xs us Q I r h;obtain ⟨i,j,rfl,⟨h1,h2⟩,q⟩:=h;obtain ⟨u,w',rfl,⟨t,rfl⟩,⟨t',rfl⟩⟩:=mQ r;have F:j.natAbs.log2<9000:=by
  have:j.natAbs.log2<64:=(Nat.log2_lt 'l').mpr 'l';lia
 refine divmod_int 'l' ?_ (.inl (PyProof.noPylong_of_log2 F));rw [Int.fdiv_eq_ediv_of_nonneg i 'l',Int.fmod_eq_emod_of_nonneg i 'l'];have G:H s.heap.objs.size=none:=I.hok.fresh (OA _);refine {.ref s.heap.objs.size,_,?_,rfl,q _ _ (.mk' G)};refine I.laid (λb o e=>Ot _ e) (OA _) {by simp only [Pr,Sx];rw [Py];decide,[.int (i / j) s.toks,.int (i % j) (s.toks+1)],.cons {_,rfl} (.cons {_,rfl} .nil),?_};exact {_,ON s.heap rfl,rfl,0,rfl}
def i7:R2:=λx y H Q=>rI0 (λi j=>.bl (decide (i<=j))) x y H Q\/∃i j,x = .str i/\y = .str j/\Q (.bl (!decide (j.cps.toList<i.cps.toList))) H
theorem Kj:OpR X (Pq .LtE) i7:=iS.or (by
 intro Go s σ H x y v u Q I G F h;obtain ⟨i,j,rfl,rfl,q⟩:=h;obtain ⟨t,rfl⟩:=G;obtain ⟨t',rfl⟩:=F;exact PySem.P.le_str (ah I q rfl))
theorem Jf:i7 (.int i) (.int j) H Q=Q (.bl (decide (i<=j))) H:=by simp [i7,rI0]
theorem Jd:i7 (.str i) (.str j) H Q=Q (.bl (!decide (j.cps.toList<i.cps.toList))) H:=by simp [i7,rI0]
def AR:TS:=λ_ _ _=>False
theorem cV{st:Stmt}:W (PS X st AR):={λ_ _ _ _ _ _ h=>h.elim}
def sJ(to te:TE):TE:=λσ H Q=>to σ H λx H1=>uR x λl=>(∃xs,H1 l=some (.lst xs))/\te σ H1 λy H2=>uR y λb=>∃xs zs,H2 l=some (.lst xs)/\H2 b=some (.lst zs)/\xs.length+zs.length<=sizeLine/\Q .non (upd H2 l (.lst (xs++zs)))
theorem Kz{to te:TE}:sJ to te σ H Q=to σ H λx H1=>uR x λl=>(∃xs,H1 l=some (.lst xs))/\te σ H1 λy H2=>uR y λb=>∃xs zs,H2 l=some (.lst xs)/\H2 b=some (.lst zs)/\xs.length+zs.length<=sizeLine/\Q .non (upd H2 l (.lst (xs++zs))):=rfl
theorem jz{o e:OZ}{to te:TE}(J:W (PE X o to))(G:W (PE X e te))(Z:QN o "extend" X.env (Qc o X.env)=Qc o X.env:=by rfl)(Y9:(ZR.endLine==cpos.line)=true:=by rfl)(U:aU e=true:=by rfl):W (PE X (.Call (.Attribute o "extend" ZR) [e] [] cpos) (sJ to te)):=by
 refine {?_};have J:=J.h;have G:=G.h;intro Go s σ H Q I h;have hs:O8 [e] X.env=[(false,Qc e X.env)]:=fV U;refine Ro Z (by rw [hs];rfl) Y9 rfl (thn (J Go s σ H _ I h) λv s1=>x5e λx H1 S r1 Yc=>?_);obtain ⟨l,ex,⟨xs,hx⟩,q1⟩:=Yc;subst ex;obtain ⟨h1,h2⟩:=lh (T:="list") S r1 (.inl {rfl,xs,SqL.of hx});refine {"list","list.extend",Uj,PySem.F.slot_list_extend,PySem.F.type_list_extend,h1,h2,?_};rw [hs];refine Calls.callWith_builtin rfl (Calls.evalArgs_plain ?_);refine Calls.spliced_cons (thn (G Go s1 σ H1 _ S q1) λu s2=>x5e λy H2 I2 r2 XT=>Calls.spliced_nil ?_);obtain ⟨b,ey,O,zs,hl,hb,hz,q⟩:=XT;subst ey;exact Iu Go s2 σ H2 (.ref l) [.ref b] v [u] Q I2 r1 (.cons r2 .nil) {l,b,O,zs,rfl,rfl,hl,hb,hz,q}
end
section
variable {K:Ov}{g:TG}{tb:TS}{D:bT}{σ:St}{H:Hp}{tl:TE}{R:It->Hp->Prop}{tt:TT}{te:TE}{Q:VK}{a:Addr}{o:Obj}{kvs:List (Key×V)}
theorem FX:qo tl σ H R=tl σ H λx H1=>uR x λa=>∃o kvs,H1 a=some (.frz o (.dK kvs))/\R (Itw a o kvs) H1:=by
 unfold qo uR;congr;funext x H1;apply propext;constructor
 .rintro ⟨a,o,kvs,e,h⟩;exact ⟨a,e,o,kvs,h⟩
 .rintro ⟨a,e,o,kvs,h⟩;exact ⟨a,o,kvs,e,h⟩
theorem MI{t:TE}:sq t σ H Q = ∃a kvs,H a=some (.dK kvs)/\∀o,t σ (upd H a (.frz o (.dK kvs))) λv H'=>mw a kvs H' (Q v):=rfl
end
end L2
namespace L2
open PySem PySem.Spec PyProof.Rows
section
variable {α β:Type}
def look(t:List (Str×α))(n:Str):Option α:=(t.find? λp=>decide (p.1=n)).map (·.2)
def zF(t:List (Str×α))(n:Str)(a:α):List (Str×α):=if (look t n).isSome then t.map λp=>if p.1=n then (p.1,a) else p else t++[(n,a)]
def names(t:List (Str×α)):List Str:=t.map (·.1)
theorem tw:look ([]:List (Str×α)) n=none:=rfl
theorem dq{p:Str×α}{t:List (Str×α)}:look (p::t) n=if p.1=n then some p.2 else look t n:=by
 unfold look;by_cases h:p.1=n
 .rw [List.find?_cons_of_pos (by simpa using h),if_pos h];rfl
 .rw [List.find?_cons_of_neg (by simpa using h),if_neg h]
theorem dR{t:List (Str×α)}(h:look t n=some a):(n,a)∈t:=by
 induction t with
 | nil=>cases h
 | cons p t F =>
  rw [dq] at h;by_cases e:p.1=n
  .rw [if_pos e] at h;cases h;subst e;exact OB ..
  .rw [if_neg e] at h;exact Oy _ (F h)
theorem c9{t:List (Str×α)}:look t n=none↔n∉names t:=by
 induction t with
 | nil=>simp [look,names]
 | cons p t F =>
  rw [dq];by_cases e:p.1=n
  .rw [if_pos e];simp [names,e]
  .rw [if_neg e,F];simp [names];exact λ_=>λh=>e h.symm
theorem iB{t:List (Str×α)}(nd:(names t).Nodup)(h:(n,a)∈t):look t n=some a:=by
 induction t with
 | nil=>cases h
 | cons p t G =>
  rw [dq];have F:p.1∉names t/\(names t).Nodup:=R5.mp nd;rcases OK.mp h with e|h
  .rw [<- e,if_pos rfl]
  .have:p.1≠n:=λe=>F.1 (by rw [e];exact List.mem_map_of_mem (f:=(·.1)) h);rw [if_neg this];exact G F.2 h
theorem sv{t:List (Str×α)}:names (zF t n a)=if (look t n).isSome then names t else names t++[n]:=by
 unfold zF names;by_cases h:(look t n).isSome
 .rw [if_pos h,if_pos h,Qp];refine PV λp _=>?_;show (if p.1=n then (p.1,a) else p).1=p.1;split<;>rfl
 .rw [if_neg h,if_neg h,Pe];rfl
theorem kK{t:List (Str×α)}(nd:(names t).Nodup):(names (zF t n a)).Nodup:=by
 rw [sv];by_cases h:(look t n).isSome
 .rw [if_pos h];exact nd
 .rw [if_neg h];have:look t n=none:=by simpa using h
  rw [c9] at this;rw [TU];refine {nd,'z',λx hx y F e=>?_};have:y=n:=by simpa using F
  subst this;subst e;contradiction
theorem M7{t:List (Str×α)}:look (t.map λp=>if p.1=n then (p.1,a) else p) m=if m=n then (if (look t n).isSome then some a else none) else look t m:=by
 induction t with
 | nil=>by_cases h:m=n<;>simp [look,h]
 | cons p t F =>
  rw [PP,dq,F,dq,dq];by_cases e:p.1=n
  .rw [if_pos e,if_pos e];show (if p.1=m then some a else _)=_;by_cases h:m=n
   .rw [if_pos (by rw [e,h]),if_pos h];rfl
   .rw [if_neg (λz=>h (by rw [<- z,e])),if_neg h,if_neg h,if_neg (λz=>h (by rw [<- z,e]))]
  .rw [if_neg e,if_neg e];by_cases h:m=n
   .rw [if_pos h,if_pos h,if_neg (λz=>e (by rw [z,h]))]
   .rw [if_neg h,if_neg h]
theorem Nz{t u:List (Str×α)}:look (t++u) m=(look t m).or (look u m):=by
 induction t with
 | nil=>simp [tw]
 | cons p t F =>
  rw [QX,dq,dq,F];by_cases h:p.1=m
  .rw [if_pos h,if_pos h];rfl
  .rw [if_neg h,if_neg h]
theorem iu{t:List (Str×α)}:look (zF t n a) m=if m=n then some a else look t m:=by
 unfold zF;by_cases h:(look t n).isSome
 .rw [if_pos h,M7,if_pos h]
 .rw [if_neg h,Nz,dq];have F:look t n=none:=by simpa using h
  by_cases e:m=n
  .rw [if_pos e,e,F,if_pos rfl];rfl
  .rw [if_neg e,if_neg (λz=>e z.symm),tw,Option.or_none]
def yQ(t u:List (Str×α)):Prop:=∀n,look t n=look u n
theorem yQ.names{t u:List (Str×α)}(h:yQ t u)(G:(names t).Nodup)(J:(L2.names u).Nodup):(L2.names t).Perm (L2.names u):=by
 refine (QA G J).mpr λn=>?_;have h1:=h n;constructor
 .intro F;refine Qq λz=>?_;rw [c9.mpr z] at h1;exact c9.mp h1 F
 .intro F;refine Qq λz=>?_;rw [c9.mpr z] at h1;exact c9.mp h1.symm F
def Dct(R:V->α->Prop):List (Str×V)->List (Str×α)->Prop:=Paired λp q=>p.1=q.1/\R p.2 q.2
theorem Dct.names{t:List (Str×α)}(h:Dct R kvs t):kvs.map (·.1)=L2.names t:=by
 induction h with
 | nil=>rfl
 | @cons p q l m r _ F=>show p.1::l.map (·.1)=q.1::m.map (·.1);rw [r.1,F];rfl
theorem Dct.length{t:List (Str×α)}(h:Dct R kvs t):kvs.length=t.length:=Paired.length h
theorem Dct.imp{t:List (Str×α)}(h:Dct R kvs t)(f:∀v a,R v a->S v a):Dct S kvs t:=Paired.ti h λp q z=>{z.1,f _ _ z.2}
theorem Dct.look{t:List (Str×α)}(h:Dct R kvs t)(n:Str):(∃v a,L2.look kvs n=some v/\L2.look t n=some a/\R v a)\/(L2.look kvs n=none/\L2.look t n=none):=by
 induction h with
 | nil=>exact .inr {rfl,rfl}
 | cons r _ F =>
  rw [dq,dq,<- r.1];split
  .exact .inl {_,_,rfl,rfl,r.2}
  .exact F
theorem Dct.put{t:List (Str×α)}(h:Dct R kvs t)(n:Str)(r:R v a):Dct R (zF kvs n v) (zF t n a):=by
 have hs:(L2.look kvs n).isSome=(L2.look t n).isSome:=by
  rcases h.look n with ⟨v,a,J,G,_⟩|⟨J,G⟩<;>rw [J,G]<;>rfl
 have O:Dct R (kvs.map λp=>if p.1=n then (p.1,v) else p) (t.map λp=>if p.1=n then (p.1,a) else p):=by
  clear hs
  induction h with
  | nil=>exact .nil
  | @cons p q _ _ r' _ F =>
   refine .cons ?_ F;show (if p.1=n then (p.1,v) else p).1=(if q.1=n then (q.1,a) else q).1/\R (if p.1=n then (p.1,v) else p).2 (if q.1=n then (q.1,a) else q).2;by_cases e:p.1=n
   .rw [if_pos e,if_pos (by rw [<- r'.1];exact e)];exact ⟨r'.1,r⟩
   .rw [if_neg e,if_neg (by rw [<- r'.1];exact e)];exact r'
 have S:Dct R (kvs++[(n,v)]) (t++[(n,a)]):=by
  clear hs O
  induction h with
  | nil=>exact .cons {rfl,r} .nil
  | cons r' _ F=>exact .cons r' F
 unfold zF;rw [hs];split
 .exact O
 .exact S
theorem Dct.at{t:List (Str×α)}(h:Dct R kvs t):∀{i:Nat}{p:Str×V},kvs[i]?=some p->∃a,t[i]?=some (p.1,a)/\R p.2 a:=by
 induction h with
 | nil=>intro i p e;simp at e
 | @cons x y _ _ r _ G =>
  intro i p e;cases i with
  | zero =>
   have F:x=p:=by simpa using e
   subst F;exact {y.2,by rw [r.1];rfl,r.2}
  | succ i=>exact G (by simpa using e)
end
theorem eY:ay (sk kvs) (.inr n)=look kvs n:=by
 induction kvs with
 | nil=>rfl
 | cons p t F =>
  rw [dq];by_cases e:p.1=n
  .rw [if_pos e];exact jm (show (Sum.inr p.1:Key)=Sum.inr n by rw [e])
  .rw [if_neg e,<- F];exact jF (λz=>e (by injection z))
theorem vJ:aV (sk kvs) (.inr n) v=sk (zF kvs n v):=by
 unfold aV zF;have hs:((sk kvs).any λF=>decide (F.1 = .inr n))=(look kvs n).isSome:=by rw [rj,eY]
 rw [hs];split
 .unfold sk;rw [Qp,Qp];refine PV λp _=>?_;by_cases e:p.1=n
  .simp [e]
  .simp [e]
 .simp [sk]
theorem NR:oK (.ref a) (.str z) H Q = ∃kvs,Rd H a (.dK kvs)/\∃v,ay kvs (.inr z)=some v/\Q v H:=by
 apply propext;constructor
 .rintro ⟨J,k,kvs,v,G,F,h1,h2,q⟩;cases G;cases k with
  | inl i=>cases F
  | inr x=>cases F;exact ⟨kvs,h1,v,h2,q⟩
 .rintro ⟨kvs,h1,v,h2,q⟩;exact {a,.inr z,kvs,v,rfl,rfl,h1,h2,q}
theorem GE:jM (.ref a) (.ref b) H Q = ∃xs ys,H a=some (.tup xs)/\H b=some (.tup ys)/\xs.length+ys.length<=sizeLine/\∀p H2,zj H H2->H2 p=some (.tup (xs++ys))->Q (.ref p) H2:=by
 apply propext;constructor
 .rintro ⟨J,O,xs,ys,G,F,h⟩;cases G;cases F;exact ⟨xs,ys,h⟩
 .rintro ⟨xs,ys,h⟩;exact {a,b,xs,ys,rfl,rfl,h}
theorem Mg{k j:Nat}{p pos:Pos}(G:GC X.prog X.w X.K X.mg X.base cm j x C ps sp)(O:zG cm k X.A)(Z:Gl X x)(J:j+1<=k:=by decide)(U:(x==("__debug__":Str))=false:=by decide):
  PE X (.Call (.Name x p) [] [] pos) (mL C sp cw):=by
 obtain ⟨f,fd,F,W,M,S⟩:=G.ex;intro Go s σ H Q I h;exact Dn M F (O.mono J) Z W S .nil i9 U Go s σ H Q I (λy dx hx hd ne=>h y dx _ (.mk' hx hd ne))
theorem qu{k j:Nat}{p pos:Pos}(G:GC X.prog X.w X.K X.mg X.base cm j x C ps sp)(S:zG cm k X.A)(F:Gl X x)(J:j+1<=k:=by decide)(O:(x==("__debug__":Str))=false:=by decide):
  W (PE X (.Call (.Name x p) [] [] pos) (mL C sp cw)):={Mg G S F J O}
def pV:R2:=λx y H Q=>∃p xs,y = .ref p/\(H p=some (.lst xs)\/H p=some (.tup xs))/\zP x=true/\xs.all zP=true/\Q (.bl (!inV x xs)) H
theorem Hy(J:X.A.units<cLine):OpR X (Pq .NotIn) pV:=DL.weak λx y H Q h=>by
 obtain ⟨p,xs,e,h,F,G,q⟩:=h;exact {p,xs,e,h.elim (λh=>.inl (SqL.of h)) (λh=>.inr (SqT.of h)),F,G,by simpa using q}
theorem Il{p:Addr}:pV x (.ref p) H Q = ∃xs,(H p=some (.lst xs)\/H p=some (.tup xs))/\zP x=true/\xs.all zP=true/\Q (.bl (!inV x xs)) H:=by simp [pV]
theorem tH:(sk kvs).length=kvs.length:=by simp [sk]
section
variable {M:Model}{A:OR}{E:Value->Oq->Prop}{s:Oq}
theorem wL{id:String}(G:args.any (·.1)=false)(J:F.any (·.1.isNone)=false)(h:Oz M A (evalArgs (.builtin id) true args F) (λa s1=>Oz M A (call (.builtin id) a.pos a.kw) Q E s1) E s):Oz M A (RY pos (.builtin id) [] args F) Q E s:=by
 unfold RY;refine we (OV (O3 h (λa s1 h1=>we (Pn ?_)) λ_ _ x=>x));simp only [G,J,SG];exact we (Os (we (O3 h1 (λr s2 O=>we (OV (wpAny_point (Os O)))) λ_ _ x=>x)))
end
theorem HZ{W:Nat}{a r:Addr}{k:Int}{t:Tok}(U:env.scope.kind = .function)(hl:env.kindOf x=some .local)(hn:s.heap.Ns env.locals m)(hm:m x=some (.ref a))(F:Uq s.heap a its)(J:its[0]?=some (.ref r))(G:Uq s.heap r ks)(h1:ks[1]?=some (.int k t))(hd:(x==("__debug__":Str))=false)(q:∀tk,Q (.int k t) { s with toks:=tk }):Oz (OI prog w) A (Qc (.Subscript (.Subscript (.Name x p1) (.Constant (.int 0) W p2) p3) (.Constant (.int 1) O S) Z) env) Q E s:=by
 refine Subscript_ (Subscript_ (wpAny_Name (SH U hl hn hm ?_) hd));refine Tb ?_;have s0:0<its.size:=(PC.mp J).1;have s1:1<ks.size:=(PC.mp h1).1;refine Rq (x:=.ref r) (T:="tuple") F.typeIs Tc.lookup (getItem_tuple (j:=0) F 'd' 'd' (by simp [seqIndex?,s0]) J {rfl,?_});refine Tb ?_;exact Rq (x:=.int k t) (T:="tuple") G.typeIs Tc.lookup (getItem_tuple (j:=1) G 'd' 'd' (by simp [seqIndex?];lia) h1 {rfl,q _})
def cu(pos:Pos)(qual:Str)(H:Hp)(P:Addr):Prop :=
 H P=some (.tbl #[])\/∃c' oc vs t,H P=some (.tbl #[Px pos.line,Px pos.col,.ref c'])/\H c'=some (.frz oc (.own 0))/\oc.data = .fields vs/\vs[1]?=some (.str qual t)
structure fh(mg:Str->Option Value)(base:Heap)(Z1:Value)(P:Addr):Prop where
 cd:∃c,Z1 = .ref c/\PySem.W.CodeHd base c P
 bt:∃bm o,mg "__builtins__"=some (.ref bm)/\bm≠R8/\bm≠OH/\base.get? bm=some o/\o.cls = .type "module"/\o.dict=some R8/\o.data = .plain
def gR(H H':Hp)(P:Addr):Prop:=∀a o,a≠P->H a=some o->H' a=some o
theorem xl(LB:fh X.mg X.base X.env.code P)(X9:UD Z0 X.env=([],[]))(Xn:RK scope X.env=pure [])(I:Inv X Go σ H s)(hT:cu pos (X.env.qual++"<lambda>") H P)(h:∀(f c':Addr)(O:Value)(h':Heap)(tk:Nat)(H':Hp),f+1=h'.objs.size->s.heap.objs.size<=f->h'.CodeRec (.ref c') (X.env.qual++"<lambda>") ->
   h'.get? f=some (kla_obj "<lambda>" (X.env.qual++"<lambda>") Z0 ZQ scope [] ((X.mg "__name__").getD .none) c' O)->cu pos (X.env.qual++"<lambda>") H' P->gR H H' P->Inv X Go σ H' { s with heap:=h',toks:=tk }->(H' f=none/\∃oc vs t,H' c'=some (.frz oc (.own 0))/\oc.data = .fields vs/\vs[1]?=some (.str (X.env.qual++"<lambda>") t))->Q (.ref f) { s with heap:=h',toks:=tk }):
  Oz (OI X.prog X.w) X.A (Qc (.Lambda Z0 ZQ scope pos) X.env) Q E s:=by
 refine PySem.W.kla_eval X9 ?_;obtain ⟨c,hc,C⟩:=LB.cd;obtain ⟨bm,ob,b1,b2,b3,b4,b5,b6,b7⟩:=LB.bt;obtain ⟨og,a7,a6,eg,a8⟩:=id I.ok.mod.glob;have ax:s.heap.Ns OH X.mg:=I.ok.mod.glob.keeps I.bk;have Z:∀{b:Addr}{o:Obj}{u:HO},X.base.get? b=some o->H P=some u->b≠P:=λe F z=>by
  have:=(I.bs _ _ e).2;rw [z,F] at this;cases this
 rcases hT with F|⟨c',oc,vs,t,F,Yg,hd,hv⟩
 .have J:s.heap.get? P=some (tabObj #[]):=I.hok P _ F;refine PySem.W.kla_makeFunction (mg:=X.mg) Xn I.ok.glob ax hc (C.keeps I.bk) J trivial rfl (Z eg F) {bm,ob,b1,b2,b3,Z b4 F,I.bk _ _ b4,b5,b6,b7} λc' O h' tk hx W6 ZE a3 aT=>?_;obtain ⟨a5,oc,vs,t,e2,S,hd,hv⟩:=a3;cases e2;have a0:P<s.heap.objs.size:=O2 J;have cP:c'≠P:=λz=>by rw [z] at W6;exact absurd a0 (TZ.mpr W6)
  have av:∀{b:Addr}{u:HO},H b=some u->b≠c':=λe z=>by
   have:=I.hok.lt e;rw [z] at this;exact absurd this (TZ.mpr W6)
  have aI:∀{b:Addr}{u:Obj},s.heap.get? b=some u->b≠c':=λe z=>by
   have:=O2 e;rw [z] at this;exact absurd this (TZ.mpr W6)
  have kp:∀b o,b≠P->s.heap.get? b=some o->(h'.push (kla_obj "<lambda>" (X.env.qual++"<lambda>") Z0 ZQ scope [] ((X.mg "__name__").getD .none) c' O)).get? b=some o:=λb o n e=>Ot _ (hx b o n e)
  let H':Hp:=upd (upd H P (.tbl #[Px pos.line,Px pos.col,.ref c'])) c' (.frz oc (.own 0))
  have G:∀b,b≠P->b≠c'->H' b=H b:=λb n1 n2=>by show upd _ c' _ b=H b;rw [zg n2,zg n1]
  have U:H' P=some (.tbl #[Px pos.line,Px pos.col,.ref c']):=by show upd _ c' _ P=_;rw [zg (Pt cP),zA]
  have ai:H' c'=some (.frz oc (.own 0)):=zA;have nP:∀b,H b=none->b≠P:=λb e z=>by rw [z,F] at e;cases e
  have ext:∀b u,H b=some u->(∀ps,u≠.tbl ps)->H' b=some u:=λb u e n=>by rw [G b (λz=>by rw [z,F] at e;cases e;exact n _ rfl) (av e)];exact e
  have un:Un X.fs [] H H' s.heap (h'.push (kla_obj "<lambda>" (X.env.qual++"<lambda>") Z0 ZQ scope [] ((X.mg "__name__").getD .none) c' O)):=by
   refine {λb o e n _ _=>kp b o (nP b n) e,λb o e n _ _=>{o.slots,kp b o (nP b n) e},λb o e n _=>by rw [G b (nP b n) (aI e)];exact n,λb o e _=>?_,λb xs e=>ext b _ e λ_=>nofun,λb o u e=>ext b _ e λ_=>nofun,λb ps e=>?_}
   .by_cases z:b=P
    .exact {_,by rw [z];exact Ot _ aT}
    .exact {o,kp b o z e}
   .by_cases z:b=P
    .rw [z,F] at e;cases e;exact {#[Px pos.line,Px pos.col,.ref c'],by rw [z,U];simp}
    .exact {#[],by rw [G b z (av e),e];simp}
  have hok:HOk X.prog X.w H' (h'.push (kla_obj "<lambda>" (X.env.qual++"<lambda>") Z0 ZQ scope [] ((X.mg "__name__").getD .none) c' O)):=λa o e=>by
   by_cases z1:a=c'
   .rw [z1,ai] at e;cases e;rw [z1];exact {Ot _ S,{_,Ot _ S}}
   .by_cases z2:a=P
    .rw [z2,U] at e;cases e;rw [z2];show Heap.get? _ P=_;exact Ot _ aT
    .rw [G a z2 z1] at e;refine (I.hok a o e).U4 (λb u hb q=>kp b u ?_ q) (λb q=>ext b _ q λ_=>nofun) λb xs q=>ext b _ q λ_=>nofun;rcases hb with rfl|hb
     .exact z2
     .intro z;rw [z,F] at hb;cases hb
  refine h h'.objs.size c' O _ tk H' (by rw [R4]) (RW (O9 W6 ZE)) {c',oc,vs,t,rfl,Ot _ S,hd,hv} (ON _ rfl) (.inr ⟨c',oc,vs,t,U,ai,hd,hv⟩) (λa o n e=>by rw [G a n (av e)];exact e) (I.un un hok) {by rw [G _ (λz=>by rw [<- z] at a0;lia) (λz=>by rw [z] at ZE;lia)];exact I.hok.fresh 'l',oc,vs,t,ai,hd,hv}
 .have J:s.heap.get? P=some (tabObj #[Px pos.line,Px pos.col,.ref c']):=I.hok P _ F;have a4:s.heap.get? c'=some oc:=(I.hok c' _ Yg).1;refine PySem.W.kla_makeFunctionHit (mg:=X.mg) (cv:=.ref c') Xn I.ok.glob ax hc (C.keeps I.bk) J ?_ ?_ {bm,ob,b1,b2,b3,Z b4 F,I.bk _ _ b4,b5,b6,b7} λO h' tk hk hsz=>?_
  .exact trivial
  .simp [codeAmong,Px]
  .exact h h'.objs.size c' O _ tk H (by rw [R4]) hsz {c',oc,vs,t,rfl,Ot _ (hk _ _ a4),hd,hv} (ON _ rfl) (.inr ⟨c',oc,vs,t,F,Yg,hd,hv⟩) (λ_ _ _ e=>e) (I.kept λb o e=>Ot _ (hk b o e)) {I.hok.fresh hsz,oc,vs,t,Yg,hd,hv}
def vB(H:Hp)(a:Addr)(k:Int):Prop:=∃r YM y ys,H a=some (.tup (.ref r::YM))/\H r=some (.tup (y::.int k::ys))
def gK(P:Addr)(pos:Pos)(qual:Str)(v:V)(H1:Hp)(Q:VK):Prop:=uR v λl=>∃(as:List Addr)(ks:List Int),H1 l=some (.lst (as.map V.ref))/\cu pos qual H1 P/\as.length<64/\Paired (vB H1) as ks /\
 ∀(D:Addr)(zs:List (Int×Addr))(H2:Hp),gR H1 H2 P->cu pos qual H2 P->H1 D=none->D≠P->D≠sysModules->H2 D=some (.lst (zs.map λz=>V.ref z.2))->zs.Perm (ks.zip as)->zs.Pairwise (λp q=>p.1<=q.1)->Q (.ref D) H2
def oN(P:Addr)(pos:Pos)(qual:Str)(ta:TE):TE:=λσ H Q=>ta σ H λv H1=>gK P pos qual v H1 Q
theorem FF:oN P pos qual ta σ H Q=ta σ H λv H1=>gK P pos qual v H1 Q:=rfl
theorem G1:gK P pos qual (.ref l) H1 Q = ∃(as:List Addr)(ks:List Int),H1 l=some (.lst (as.map V.ref))/\cu pos qual H1 P/\as.length<64/\Paired (vB H1) as ks /\
 ∀(D:Addr)(zs:List (Int×Addr))(H2:Hp),gR H1 H2 P->cu pos qual H2 P->H1 D=none->D≠P->D≠sysModules->H2 D=some (.lst (zs.map λz=>V.ref z.2))->zs.Perm (ks.zip as)->zs.Pairwise (λp q=>p.1<=q.1)->Q (.ref D) H2:=m8
theorem yY{as:List Addr}(h:zx (as.map V.ref) its):its=as.map OF:=by
 induction as generalizing its with
 | nil=>cases h;rfl
 | cons a as G =>
  cases h with
  | cons r F=>rw [G F,show _=OF a from r];rfl
theorem uZ(as:List Addr):zx (as.map V.ref) (as.map OF):=by
 induction as with
 | nil=>exact .nil
 | cons a as F=>exact .cons rfl F
theorem Bk(h:ps.Perm (l.map λz=>(z.1,OF z.2))):∃zs:List (Int×Addr),zs.Perm l/\ps=zs.map λz=>(z.1,OF z.2):=by
 let g:Int×Value->Int×Addr:=λp=>(p.1,match p.2 with | .ref a=>a|_=>0)
 have G:(l.map λz=>(z.1,OF z.2)).map g=l:=by
  rw [Qp];have:(g∘λz:Int×Addr=>(z.1,OF z.2))=id:=rfl;rw [this,SU]
 refine {ps.map g,by have:=h.map g;rw [G] at this;exact this,?_};rw [Qp];have:∀p∈ps,((λz:Int×Addr=>(z.1,OF z.2))∘g) p=p:=λp F=>by
  obtain ⟨z,_,rfl⟩:=Pk.mp (h.mem_iff.mp F);rfl
 exact (SU ps).symm.trans (PV λp F=>(this p F).symm)
theorem vR:∀(ks:List Int)(as:List Addr),ks.zip (as.map OF)=(ks.zip as).map λz=>(z.1,OF z.2)
 | [],_=>rfl
 | _::_,[]=>rfl
 | k::ks,a::as=>by rw [PP,List.zip_cons_cons,List.zip_cons_cons,PP,vR ks as]
theorem bY{α β:Type}{R:α->β->Prop}:∀{l:List α}{m:List β},Paired R l m->∀{i:Nat}{a:α}{b:β},l[i]?=some a->m[i]?=some b->R a b
 | _,_,.nil,i,a,b,h,_=>by simp at h
 | _,_,.cons r t,0,a,b,h,h'=>by
  simp at h h';subst h h';exact r
 | _,_,.cons r t,i+1,a,b,h,h'=>bY t (by simpa using h) (by simpa using h')
theorem aK{α β:Type}{R:α->β->Prop}{l:List α}{m:List β}(h:Paired R l m):l.length=m.length:=Paired.length h
theorem BJ{k:Nat}{p pos Y6 kp p1 p2 p3 p4 p5:Pos}(LB:fh X.mg X.base X.env.code P)(hr:zG cm k X.A)(hg:Gl X "sorted")(hm:X.mg "sorted"=none)(ha:PE X a ta)(X9:UD Z0 X.env=([],[]))(Xn:RK scope X.env=pure [])(YF:∀(q:Str)(pm cd ct v:Value),To (kla_fn "<lambda>" q Z0 (.Subscript (.Subscript (.Name x p1) (.Constant (.int 0) j1 p2) p3) (.Constant (.int 1) j2 p4) p5) scope [] pm cd ct) {[v],[]}=pure [(x,v)])(W0:scope.names=[(x,.local)])(Yx:scope.kind = .function)(b1:scope.isCoroutine=false)(a0:scope.isGenerator=false)(hp:aU a=true:=by rfl)(Zn:(x==("__debug__":Str))=false:=by decide):
  PE X (.Call (.Name "sorted" p) [a] [{some (Ou "key"),.Lambda Z0 (.Subscript (.Subscript (.Name x p1) (.Constant (.int 0) j1 p2) p3) (.Constant (.int 1) j2 p4) p5) scope Y6,kp}] pos) (oN P Y6 (X.env.qual++"<lambda>") ta):=by
 intro Go s σ H Q I h;have hs:O8 [a] X.env=[(false,Qc a X.env)]:=fV hp;have hA:=gD ha gp (hs:=hs) pos Go s σ H (λys H1=>∃y,ys=[y]/\gK P Y6 (X.env.qual++"<lambda>") y H1 Q) I (by
  show ta σ H λx H1=>∃y,[x]=[y]/\gK P Y6 (X.env.qual++"<lambda>") y H1 Q;have e:(λ(x:V)(H1:Hp)=>∃y,[x]=[y]/\gK P Y6 (X.env.qual++"<lambda>") y H1 Q)=λv H1=>gK P Y6 (X.env.qual++"<lambda>") v H1 Q:=by
   funext x H1;apply propext;constructor
   .rintro ⟨y,e,h⟩;cases e;exact h
   .exact λh=>{x,rfl,h}
  rw [e];exact h)
 refine Qj (gM I hg hm SL (wL (by rw [hs];rfl) rfl ?_));rw [hs] at hA ⊢;refine evalArgs_kwB rfl (thn hA λus s1=>x5e λvs H1 I1 r1 q1=>kws_cons ?_);obtain ⟨y,rfl,l,rfl,as,ks,hl,hT,XU,hK,q⟩:=q1
 .cases r1 with
  | cons r rr =>
   cases rr;cases r;refine xl LB X9 Xn I1 hT λf c' XB h2 tk H2 hsz W6 hcd hf a4 hL J _=>kws_nil ?_;have bt:l≠P:=λz=>by
    rcases hT with G|⟨_,_,_,_,G,_⟩ <;> · rw [z,G] at hl;cases hl
   have bp:=hL _ _ bt hl;obtain ⟨its,rv,⟨o,n,e1,e2,e3,e4⟩,hz⟩:=J.list (SqL.of bp);have XR:=yY rv;subst XR;obtain ⟨m,F⟩:=J.fr;have a8:=aK hK;have XQ:∀b o,h2.get? b=some o->b≠X.env.locals->X.base.get? b=none->(b,o)∈gS X.base h2 X.env.locals:=λb o e n1 n2=>NW n1 n2 e;refine PyProof.Rows.ksk_sorted (b:=false) (kz:=ks) (f:=.ref f) (h₀:=X.base) (L:=X.env.locals) (news:=gS X.base h2 X.env.locals) F GH (vs:=as.map OF) (l:=l) ⟨o,e1,e2,n,e4⟩ (by rw [Ow];exact a8.symm) (by rw [Ow];exact XU) (PyProof.Rows.ksk_s1 _ _) (λx=>PyProof.Rows.ksk_l1 _ _) (λx=>PyProof.Rows.ksk_t1 _ _) (λi v k' hv Ye h3 a7 own U N3=>?_) λD h3 a7 out c U N3 lt ko=>?_
   .have Z:∀b o,b≠X.env.locals->h2.get? b=some o->h3.get? b=some o:=λb o n e=>by
     cases S:X.base.get? b with
     | some u =>
      have:=F.keep b u S;rw [show h2.get? b=some u from this] at e;cases e;exact U.keep b _ S
     | none=>exact (N3 (b,o) (O4 _ (XQ b o e n S))).1
    rw [OT] at hv;obtain ⟨ai,bq,rfl⟩:=O7.mp hv;obtain ⟨r,YM,y,ys,k1,k2⟩:=bY hK bq Ye;have tt:∀{b xs},H1 b=some (.tup xs)->∃its,zx xs its/\Uq h3 b its.toArray:=λ{b xs} e=>by
     have bP:b≠P:=λz=>by
      rcases hT with G|⟨_,_,_,_,G,_⟩ <;> · rw [z,G] at e;cases e
     have e2:=hL _ _ bP e;obtain ⟨_,its,rv,ob,g1,g2⟩:=J.hok b _ e2;have bL:b≠X.env.locals:=λz=>by rw [z,J.free] at e2;cases e2
     exact {its,rv,ob,Z _ _ bL g1,g2}
    obtain ⟨b3,bf,t1⟩:=tt k1;obtain ⟨b4,bx,t2⟩:=tt k2;cases bf with
    | cons ra _ =>
    cases ra;cases bx with
    | cons rb rc =>
    cases rc with
    | cons rd _ =>
    obtain ⟨a5,rfl⟩:=rd;have fL:f≠X.env.locals:=λz=>by
     have:=I1.lt;rw [<- z] at this;exact absurd this (TZ.mpr W6)
    have b2:=Z _ _ fL hf;have aI:h3.CodeRec (.ref c') (X.env.qual++"<lambda>"):=by
     obtain ⟨c2,oc,vs,t,e,g1,g2,g3⟩:=hcd;refine {c2,oc,vs,t,e,Z _ _ (λz=>?_) g1,g2,g3};obtain ⟨m',⟨ol,es,ep,el,aT,_⟩,_⟩:=id J.loc;rw [z] at g1;rw [show h2.get? X.env.locals=some ol from el] at g1;cases g1;rw [g2] at aT;cases aT
    refine Ta (PySem.W.kla_callFunE (by show X.A.depth<recursionLimit;exact hr.depth) b2 rfl b1 a0 rfl aI ?_);rw [YF];refine Os (wpAny_newFunctionEnv (λy hy=>?_) (λy hy=>?_) (λh4 ba Xu=>?_) Yx)
    .rw [W0,OS] at hy;rw [hy];nofun
    .rw [OS] at hy;rw [hy];show scope.names.lookup x=_;rw [W0];simp [PF]
    .have k4:∀b o,h3.get? b=some o->h4.get? b=some o:=λb o e=>Xu.extBut b o (Pl (O2 e)) (Ot _ e);refine {(I.ok.mod.nolimit.keeps U.keep).keeps k4,PySem.W.kla_codeExpr ?_};refine HZ (m:=λy=>([(x,OF ai)]:List (Str×Value)).reverse.lookup y) (a:=ai) (r:=r) (k:=k') (t:=a5) Yx ?_ ba (by simp [PF]) (its:=(OF r::_).toArray) {t1.choose,k4 _ _ t1.choose_spec.1,t1.choose_spec.2} 'z' (ks:=(_::Q5 k' a5::_).toArray) {t2.choose,k4 _ _ t2.choose_spec.1,t2.choose_spec.2} 'z' Zn λb5=>?_
     .show scope.names.lookup x=_;rw [W0];simp [PF]
     .exact PyProof.Rows.KskEnd.intro (news':=gS X.base h2 X.env.locals++own) {U.ns.keeps k4,λb o e=>k4 _ _ (U.keep b o e),U.above} (λp hp=>{k4 _ _ (N3 p hp).1,(N3 p hp).2}) λ_ h=>h
   .obtain ⟨ps,a3,a9,b0⟩:=ko;rw [vR] at a3;obtain ⟨zs,a6,rfl⟩:=Bk a3;have fm:(f,kla_obj "<lambda>" (X.env.qual++"<lambda>") Z0 (.Subscript (.Subscript (.Name x p1) (.Constant (.int 0) j1 p2) p3) (.Constant (.int 1) j2 p4) p5) scope [] ((X.mg "__name__").getD .none) c' XB)∈gS X.base h2 X.env.locals:=XQ _ _ hf (λz=>by
     have:=I1.lt;rw [<- z] at this;exact absurd this (TZ.mpr W6)) (by
     cases S:X.base.get? f with
     | none=>rfl
     | some u =>
      have:=O2 (I1.bk _ _ S);exact absurd this (TZ.mpr W6))
    have av:h2.objs.size<=D:=by have:=lt _ fm;rw [<- hsz];exact this
    have D2:H2 D=none:=J.hok.fresh av;have DP:D≠P:=λz=>by
     rcases a4 with G|⟨_,_,_,_,G,_⟩ <;> · rw [z,G] at D2;cases D2
    have D1:H1 D=none:=by
     cases qd:H1 D with
     | none=>rfl
     | some u=>rw [hL _ _ DP qd] at D2;cases D2
    have eo:out=((zs.map (·.2)).map OF).toArray:=by
     apply Array.toList_inj.mp;rw [a9];simp
    have lz:zs.length<=as.length:=by rw [a6.length_eq,UH];lia
    have Z:∀b o,b≠X.env.locals->h2.get? b=some o->h3.get? b=some o:=λb o hb e=>by
     cases S:X.base.get? b with
     | some u =>
      have:=F.keep b u S;rw [show h2.get? b=some u from this] at e;cases e;exact U.keep b _ S
     | none=>exact (N3 (b,o) (Oy _ (XQ b o e hb S))).1
    have O:∀{b:Addr}{u:HO},H2 b=some u->b≠D:=λe z=>by rw [z,D2] at e;cases e
    have ax:∀{b:Addr}{u:HO},H2 b=some u->b≠X.env.locals:=λe z=>by rw [z,J.free] at e;cases e
    have hm:(zs.map λz:Int×Addr=>V.ref z.2)=(zs.map (·.2)).map V.ref:=by rw [Qp];rfl
    have new:aq X.prog X.w (upd H2 D (.lst (zs.map λz:Int×Addr=>V.ref z.2))) h3 D (.lst (zs.map λz:Int×Addr=>V.ref z.2)):={by rw [Ow,Py];lia,(zs.map (·.2)).map OF,c,by rw [hm];exact uZ _,by rw [<- eo];exact (N3 _ (OB ..)).1};refine {.ref D,upd H2 D (.lst (zs.map λz:Int×Addr=>V.ref z.2)),?_,rfl,q D zs _ (λb u n e=>by rw [zg (λz=>by rw [z,D1] at e;cases e)];exact hL _ _ n e) ?_ D1 DP (RU (OX J.big av)) zA a6 ?_}
    .refine J.step (h':=h3) (g':=s1.gens) (d':=s1.drawn) (t':=a7) (ch:=[]) (λ_ z=>nomatch z) (λb o n _ _ e _=>Z b o n e) (λb o n _ _ e _=>{o.slots,Z b o n e}) (λb o _ e n=>?_) (λb o _ e=>?_) (λb xs e=>by rw [zg (O e)];exact e) (λb o u e=>by rw [zg (O e)];exact e) (λb ps e=>{#[],by rw [zg (O e),e];simp}) (λm' Xt=>?_) (λb u e=>?_) J.bare
     .rw [zg (λz=>?_)]
      .exact n
      .have:=O2 e;rw [z] at this;exact absurd this (TZ.mpr av)
     .by_cases hb:b=X.env.locals
      .obtain ⟨o1,_,_,g1,_⟩:=U.ns;exact {o1,by rw [hb];exact g1}
      .exact {o,Z b o hb e}
     .have e1:=Xt.eq_nsMap;have e2:=F.ns.eq_nsMap;have:m'=m:=e1.trans e2.symm;rw [this];exact U.ns
     .by_cases z:b=D
      .rw [z,zA] at e;cases e;rw [z];exact new
      .rw [zg z] at e;refine (J.hok b u e).U4 (λc v hc q=>Z c v ?_ q) (λc q=>by rw [zg (O q)];exact q) λc xs q=>by rw [zg (O q)];exact q
       rcases hc with rfl|hc
       .exact ax e
       .exact ax hc
    .rcases a4 with G|⟨c1,oc,vs,t,G,hc,hr⟩
     .exact .inl (by rw [zg (Pt DP)];exact G)
     .exact .inr {c1,oc,vs,t,by rw [zg (Pt DP)];exact G,by rw [zg (λz=>by rw [<- z,hc] at D2;cases D2)];exact hc,hr}
    .have:=Uu.mp b0;exact this.imp λh=>by simpa using h
def gN(mg:Str->Option Value)(base:Heap):Prop:=∃bm o,mg "__builtins__"=some (.ref bm)/\bm≠R8/\bm≠OH/\base.get? bm=some o/\o.cls = .type "module"/\o.dict=some R8/\o.data = .plain
theorem CG{K:Ov}{k:Nat}{ts:List Addr}(hT:∀T∈ts,s₁.heap.get? T=some (tabObj #[]))(hC:∀T∈ts,K.lookup T=none/\∃c,UL K c T=true)(a5:gN mg s₁.heap)(KX:K.In s₁.heap)(aI:s₁.heap.Ns OH mg)(G:s₁.heap.Ns R8 mb)(a6:∀x:Str,x≠"__name__"->mb x=Rt x)(ai:s₁.heap.NoLimit)(hg:s₁.gens = #[])(ha:s₁.heap.get? a=some { cls:=.type "list",data:=.seq vs.toArray })(hi:RC vs ns)(hl:ns.length<=sizeLine)(hr:zG true k callerA)(F:∀base:Heap,K.In base->base.Ns OH mg->gN mg base->zq P w K mg base CX true k fa fd [x] sp)(YF:∀(s:Oq)(u:Value),BindsTo s fd {[u],[]} [(x,u)])(Xo:∀H:Hp,(∀T∈ts,H T=some (.tbl #[]))->SqL K H a (ns.map V.int)->sp [.ref a] H (λv _=>v = .bl true) λ_ _ _=>False)(a4:∀H e s',CX [] H s₁ (λ_ _ _=>False) e s'->False):
  QE (OI P w) callerA (.call (.ref fa) {[.ref a],[]}) (λr s'=>r = .ok (.ret (.bool true))/\OldK s₁.heap s'.heap/\s'.os=s₁.os/\RD s'.gens) s₁:=by
 have rv:=oP hi;have ax:=hi.length;have aT:a∉ts:=λh=>by have:=hT a h;rw [ha] at this;cases this
 have U:∀H:Hp,(∀b,H b=none\/(∃o xs,H b=some (.frz o (.lst xs)))\/(b∈ts/\H b=some (.tbl #[])))->(∀T∈ts,H T=some (.tbl #[]))->SqL K H a (ns.map V.int)->HOk P w H s₁.heap->(∀b,H b≠none->b=a\/b∈ts)->(H a≠none->K.lookup a=none) ->
   QE (OI P w) callerA (.call (.ref fa) {[.ref a],[]}) (λr s'=>r = .ok (.ret (.bool true))/\OldK s₁.heap s'.heap/\s'.os=s₁.os/\RD s'.gens) s₁:=by
  intro H hO a0 hS hok hA hK;have J:∀{b:Addr}{o:Obj},s₁.heap.get? b=some o->H b=none->(eO s₁.heap H).get? b=some o:=λe n=>Gp e n;have av:∀{b:Addr}{o:Obj},s₁.heap.get? b=some o->(∀xs n,o.data≠.seq xs n)->(∀ps,o.data≠.fields ps)->H b=none:=λ{b o} e d1 d2=>by
   cases q:H b with
   | none=>rfl
   | some u =>
    rcases hA b (by rw [q];simp) with e'|e'
    .subst e';rw [ha] at e;cases e;exact absurd rfl (d1 _ _)
    .rw [hT b e'] at e;cases e;exact absurd rfl (d2 _)
  have S:∀{b:Addr}{m:Str->Option Value},s₁.heap.Ns b m->(eO s₁.heap H).Ns b m:=λ{b m} ⟨o,es,ep,e,d,r⟩=>{o,es,ep,J e (av e (λ_ _=>by rw [d];nofun) (λ_=>by rw [d];nofun)),d,r};have a3:K.In (eO s₁.heap H):=λb o e=>J (KX b o e) (by
   cases q:H b with
   | none=>rfl
   | some u =>
    rcases hA b (by rw [q];simp) with e'|e'
    .subst e';rw [hK (by rw [q];simp)] at e;cases e
    .rw [(hC b e').1] at e;cases e)
  have hM:Mod K mg (eO s₁.heap H):={a3,S aI,{mb,S G,a6},let ⟨mc,h1,h2⟩:=ai;{mc,S h1,h2}};have hB:gN mg (eO s₁.heap H):=let ⟨bm,o,b1,b2,b3,b4,b5,b6,b7⟩:=a5;{bm,o,b1,b2,b3,J b4 (av b4 (λ_ _=>by rw [b7];nofun) (λ_=>by rw [b7];nofun)),b5,b6,b7};have e0:fM P w K mg (eO s₁.heap H) callerA [] s₁ H:={rfl,.inl rfl,hM,λb o e=>EL e,RR (Ez _ _),trivial,λb G=>absurd (show b∈([]:List Addr) from G) 'z',hok,.of_eq hg};refine QM ((F _ a3 (S aI) hB).run callerA [] s₁ H {[.ref a],[]} [.ref a] [.ref a] _ _ hr e0 (YF s₁ (.ref a)) (.cons rfl .nil) (Xo H a0 hS)) λr s' h=>?_;cases r with
  | error e=>exact (a4 H e s' h).elim
  | ok fl =>
   cases fl with
   | next=>exact False.elim h
   | brk=>exact False.elim h
   | cont=>exact False.elim h
   | ret u =>
    obtain ⟨v,H',os,bare,un,W,r',q⟩:=h;have q':v = .bl true:=q;subst q';obtain rfl:u=R9 true:=r';have Z:∀b,b∈ts->∃more:Array Value,s'.heap.get? b=some (tabObj (#[]++more)):=λb G=>by
     obtain ⟨more,z⟩:=un.tbls b #[] (a0 b G);exact {more,W b _ z}
    refine {rfl,{λb o e=>?_,λb o e=>un.there b o e 'z'},os,bare};cases q:H b with
    | none=>exact .inl (un.keep b o e q (by intro z;exact absurd (show b∈([]:List Addr) from z) 'z') 'z')
    | some u =>
     rcases hO b with z|⟨ob,xs,z⟩|⟨G,z⟩
     .rw [q] at z;cases z
     .have z2:=un.frzs b ob _ z;obtain ⟨e1,_⟩:=hok b _ z;obtain ⟨e2,_⟩:=W b _ z2;rw [e] at e1;cases e1;exact .inl e2
     .obtain ⟨more,g⟩:=Z b G;have e2:=hT b G;rw [e] at e2;cases e2;obtain ⟨_,c,hc⟩:=hC b G;exact .inr (.inl {((codeHd_of_K KX hc).tab (hT b G)).isCodeTable,rfl,#[],more,rfl,g})
 cases hk:K.lookup a with
 | some o =>
  have e:=KX a o hk;rw [ha] at e;cases e;refine U (λb=>if b∈ts then some (.tbl #[]) else none) (λb=>?_) (λT h=>if_pos h) (.inr {_,vs.toArray,_,hk,rfl,rfl,rfl,by rw [OQ,ax];exact hl,by simpa using rv}) (λb u z=>?_) (λb z=>?_) λz=>absurd (if_neg aT) z
  .by_cases G:b∈ts
   .exact .inr (.inr {G,if_pos G})
   .exact .inl (if_neg G)
  .by_cases G:b∈ts
   .have z':=(if_pos G).symm.trans z;cases z';exact hT b G
   .have z':=(if_neg G).symm.trans z;cases z'
  .by_cases G:b∈ts
   .exact .inr G
   .exact absurd (if_neg G) z
 | none =>
  refine U (λb=>if b=a then some (.frz { cls:=.type "list",data:=.seq vs.toArray } (.lst (ns.map V.int))) else if b∈ts then some (.tbl #[]) else none) (λb=>?_) (λT h=>?_) (.inl (.inr {{ cls:=.type "list",data:=.seq vs.toArray },if_pos rfl})) (λb u z=>?_) (λb z=>?_) λ_=>hk
  .by_cases G:b=a
   .exact .inr (.inl {_,_,if_pos G})
   .by_cases O:b∈ts
    .exact .inr (.inr {O,by rw [if_neg G,if_pos O]})
    .exact .inl (by rw [if_neg G,if_neg O])
  .rw [if_neg (λz=>aT (by rw [<- z];exact h)),if_pos h]
  .by_cases G:b=a
   .have z':=(if_pos G).symm.trans z;cases z';subst G;exact {ha,by rw [Ow];exact hl,vs,_,rv,ha}
   .have z1:=(if_neg G).symm.trans z;by_cases O:b∈ts
    .have z2:=(if_pos O).symm.trans z1;cases z2;exact hT b O
    .have z2:=(if_neg O).symm.trans z1;cases z2
  .by_cases G:b=a
   .exact .inl G
   .by_cases O:b∈ts
    .exact .inr O
    .exact absurd (show (if b=a then _ else if b∈ts then _ else none)=none by rw [if_neg G,if_neg O]) z
theorem walk_ofT{l:PySem.W.OpenLaw}{n k:Nat}{d:DefRec}{K:Params->Ov}{CX:OW->CXT}{sp:OW->Sp}{ts:List Addr}(hn:l.most=some n)(ai:n<=sizeLine)(Z:d.params.defaults=[])(hr:zG true k callerA)(hY:∀(w:OW)(h:Heap),YP w h->(K w.params).In h/\∀T∈ts,h.get? T=some (tabObj #[]))(F:∀(w:OW)(mg:Str->Option Value)(fa:Addr)(h:Heap),(K w.params).In h->h.Ns OH mg->mg d.name=some (.ref fa) ->
   ∃fd:OJ,(∀(s:Oq)(u:Value),BindsTo s fd {[u],[]} [(x,u)])/\(∀T∈ts,(K w.params).lookup T=none/\∃c,UL (K w.params) c T=true) /\
    ∀base:Heap,(K w.params).In base->base.Ns OH mg->gN mg base->zq l.prog w (K w.params) mg base (CX w) true k fa fd [x] (sp w))(Xo:∀(w:OW)(H:Hp)(a:Addr)(ns:List Int),ns.length<=n->(∀T∈ts,H T=some (.tbl #[]))->SqL (K w.params) H a (ns.map V.int)->sp w [.ref a] H (λv _=>v = .bl true) λ_ _ _=>False)(O:∀(w:OW)(H:Hp)(s:Oq)(e:Value)(s':Oq),CX w [] H s (λ_ _ _=>False) e s'->False):
  PySem.W.WalkO q Yf XP YP l.row.toRowW d [] (λf vs=>PySem.call f vs):=by
 refine Att.attach_call hn Z λw s₀ s₁ mg mb fa o pm cd Yp a vs ns G Y ho hd hcd U J Xc ZL hg=>?_;obtain ⟨KX,hT⟩:=hY w _ Y;obtain ⟨fd,hb,hC,hF⟩:=F w mg fa _ KX G.T.g U;have S:gN mg s₁.heap:=by
  obtain ⟨bm,ob,b1,b2,b3,b4,b5,b6⟩:=G.T.bmain;refine {bm,ob,b1,b2,λz=>?_,b3,b4,b5,b6};obtain ⟨og,es,ep,eg,av,_⟩:=G.T.g;rw [z,eg] at b3;cases b3;rw [av] at b6;cases b6
 exact CG hT hC S KX G.T.g G.T.b G.T.builtins G.T.nolimit hg J Xc (Pj ZL ai) hr hF hb (λH hO hS=>Xo w H a ns ZL hO hS) λH e s'=>O w H s₁ e s'
theorem Fun.c2{K:Ov}{st:Stmt}{k:Nat}(F:Fun K x qual st f fd)(O:fd.code = .ref c)(S:zy N ps (zm st))(len:∀vs H Q E,sp vs H Q E->vs.length=ps.length)(G:∀(A:OR)(outer:List Env)(s:Oq)(H:Hp)(vs:List V)(Q:VK)(E:XK),zG cm k (A.deeper (QV qual (zm st) s.heap.objs.size f (.ref c)))->sp vs H Q E ->
   ∃t,PSs (bH CX0 cm P w K mg base N qual (zm st) f (.ref c) A outer s H E).b0 (cU st) t/\t { nx:=λ_ H'=>Q .non H',rt:=Q } (start N vs) H):zq P w K mg base CX0 cm (k+1) f fd ps sp:=by
 obtain ⟨oc,od,kV,Yp,pm,Z,U,ct,Xf,rfl,lk,hcd⟩:=F.ex;have e:U = .ref c:=O;subst e;refine kR lk hcd S len λA outer s H vs Q E W J=>?_;obtain ⟨t,h,q⟩:=G A outer s H vs Q E W J;exact ⟨t,h.b0,q⟩
section
variable {X:Cx}
theorem HF{k:Nat}{p pos Y6 kp p1 p2 Z U S:Pos}(LB:fh X.mg X.base X.env.code P)(hr:zG cm k X.A)(hg:Gl X "sorted")(hm:X.mg "sorted"=none)(ha:W (PE X a ta))(X9:UD G X.env=([],[]))(Xn:RK scope X.env=pure [])(YF:∀(q:Str)(pm cd ct v:Value),To (kla_fn "<lambda>" q G (.Subscript (.Subscript (.Name x p1) (.Constant (.int 0) O p2) Z) (.Constant (.int 1) j2 U) S) scope [] pm cd ct) {[v],[]}=pure [(x,v)])(W0:scope.names=[(x,.local)])(Yx:scope.kind = .function)(J:scope.isCoroutine=false)(F:scope.isGenerator=false)(hp:aU a=true:=by rfl)(Zn:(x==("__debug__":Str))=false:=by decide):
  W (PE X (.Call (.Name "sorted" p) [a] [{some (Ou "key"),.Lambda G (.Subscript (.Subscript (.Name x p1) (.Constant (.int 0) O p2) Z) (.Constant (.int 1) j2 U) S) scope Y6,kp}] pos) (oN P Y6 (X.env.qual++"<lambda>") ta)):={BJ LB hr hg hm ha.h X9 Xn YF W0 Yx J F hp Zn}
def jC(K:Ov)(D:Addr)(tb:(Addr->St->Hp->Prop)->TS)(ts:TS):TS:=λZ σ H =>
 tb (λC F H'=>bG K C/\SF K C (.ref D)=some true/\∀ea oe,H' ea=none->iR C oe->ts Z F (upd H' ea (.frz oe (.own 0)))) Z σ H
theorem Ei(hc:X.calm=true)(Yk:X.ex=[])(YL:X.stack=X.env::X.outer/\X.env.frame=some X.env.locals)(OD:bG X.K D)(hg:Gl X x)(hm:X.mg x=some (.ref D))(hb:∀Go Ex,PSs (ji X Go Ex) ZQ (tb Ex))(hs:∀Go ea,PSs (g9 X Go ea) (G::YV) ts)(Zn:(x==("__debug__":Str))=false:=by decide):
  PS X (.Try ZQ [.ExceptHandler (some (.Name x np)) none (G::YV) XO] [] [] pos) (jC X.K D tb ts):=by
 intro Go s σ H Z I h;have hh:X.A.handled=none:=I.ok.hd hc;refine wpAny_Try_except (O3 (hb Go _ [] s σ H Z (I.p.UY _) h) (λf s1 q=>?_) λe s1 q=>?_)
 .cases f with
  | next =>
   obtain ⟨F,H',J,q⟩:=q;exact R1 {F,H',Inv.bR I.ok J.ro,q}
  | brk=>obtain ⟨F,H',J,q⟩:=q;exact {F,H',Inv.bR I.ok J.ro,q}
  | cont=>obtain ⟨F,H',J,q⟩:=q;exact {F,H',Inv.bR I.ok J.ro,q}
  | ret u=>obtain ⟨v,F,H',J,r,q⟩:=q;exact {v,F,H',Inv.bR I.ok J.ro,r,q}
 .obtain ⟨ea,C,B,H',fl,F,sI,rfl,J,y,os,bare,hB,up,OC,sub,W⟩:=q;have fr:X.A.frames=some (X.env::X.outer):=by rw [I.ok.frames,YL.1]
  rw [YL.1] at y;refine oJ fr YL.2 y λh2 y2 u2=>iU (s:={ s1 with heap:=h2 }) y2 λh3 y3 u3=>?_;have aI:bz H' B X.stack ea (.ref C) .none h3:=by rw [YL.1];exact y3
  have ai:=(up.trans u2).trans u3;obtain ⟨_,a4,c3,g3,J3⟩:=l9 (s':={ s1 with heap:=h3 }) Yk J aI os bare hB ai;obtain ⟨ax,cC,eC⟩:=OC.obj J3.UX;obtain ⟨a3,cD,eD⟩:=OD.obj J3.UX;have XS:ax.mro.contains (.ref D)=true:=by
   unfold SF at sub;rw [cC] at sub;simp only [Uo] at sub;split at sub
   .cases sub
   .exact Pa.inj sub
  refine wpAny_handleBy_cons (codeAny_handlers_test (fi (X:=g9 X Go ea) J3 hg hm ?_ Zn)) (by intro q;cases q);refine wt (h:=h3) (g:=s1.gens) (d:=s1.drawn) (t:=s1.toks) (os:=s1.os) eC eD g3 c3.1 XS ?_;refine codeAny_handlers_suite ?_;refine iU (s:={ s1 with heap:=h3 }) y3 λh4 y4 u4=>?_;have aT:bz H' B X.stack ea (.ref C) .none h4:=by rw [YL.1];exact y4
  obtain ⟨av,a0,c4,g4,J4⟩:=l9 (s':={ s1 with heap:=h4 }) Yk J aT os bare hB (ai.trans u4);refine O3 (hs Go ea [] _ _ _ _ J4 (W ea a0 av c4)) (λf s6 q6=>?_) λ_ _ z=>z.elim;cases f with
  | next=>obtain ⟨S,H7,U,O⟩:=q6;exact {_,_,Inv.U6 I.ok hh U,O}
  | brk=>obtain ⟨S,H7,U,O⟩:=q6;exact {_,_,Inv.U6 I.ok hh U,O}
  | cont=>obtain ⟨S,H7,U,O⟩:=q6;exact {_,_,Inv.U6 I.ok hh U,O}
  | ret u=>obtain ⟨v,S,H7,U,r7,O⟩:=q6;exact {v,_,_,Inv.U6 I.ok hh U,r7,O}
theorem Au(Z:X.calm=true)(Yk:X.ex=[])(YL:X.stack=X.env::X.outer/\X.env.frame=some X.env.locals)(O:bG X.K D)(hg:Gl X x)(hm:X.mg x=some (.ref D))(hb:∀Go Ex,W (PSs (ji X Go Ex) G (tb Ex)))(hs:∀Go ea,W (PSs (g9 X Go ea) (F::J) ts))(Zn:(x==("__debug__":Str))=false:=by decide):
  W (PS X (.Try G [.ExceptHandler (some (.Name x S)) none (F::J) U] [] [] pos) (jC X.K D tb ts)):={Ei Z Yk YL O hg hm (λGo Ex=>(hb Go Ex).h) (λGo ea=>(hs Go ea).h) Zn}
theorem NH{K:Ov}:jC K D tb ts Z σ H=tb (λC F H'=>bG K C/\SF K C (.ref D)=some true/\∀ea oe,H' ea=none->iR C oe->ts Z F (upd H' ea (.frz oe (.own 0)))) Z σ H:=rfl
def tR(neg:Bool):R2:=λx y H Q=>∃a b xs ys,x = .ref a/\y = .ref b/\H a=some (.lst xs)/\H b=some (.lst ys)/\(xs.length=0\/ys.length=0)/\Q (.bl (if neg then !decide (xs.length=ys.length) else decide (xs.length=ys.length))) H
theorem Dz(J:X.A.units<cLine):OpR X (Pq .NotEq) (tR true):=by
 intro Go s σ H x y v u Q I O S h;obtain ⟨a,b,xs,ys,rfl,rfl,F,G,h0,q⟩:=h;cases O;cases S;by_cases hz:xs.length=ys.length
 .have h1:xs=[]:=QJ.mp 'l';have h2:ys=[]:=QJ.mp 'l';subst h1 h2;exact yx J Go s σ H (.ref a) (.ref b) (.ref a) (.ref b) Q I rfl rfl {a,b,[],[],rfl,rfl,SqL.of F,SqL.of G,rfl,rfl,q}
 .obtain ⟨is,r1,U,_⟩:=I.list (SqL.of (K:=X.K) F);obtain ⟨js,r2,p2,_⟩:=I.list (SqL.of (K:=X.K) G);have W:=r1.length;have Z:=r2.length;refine SeqAt.RcNeAt.lists_lengths U.isList p2.isList (by simp;lia) J _ _ _ _ {.bl true,H,I,rfl,?_};have q':Q (.bl (!decide (xs.length=ys.length))) H:=q;rw [decide_eq_false hz] at q';exact q'
theorem uz:tR neg (.ref a) (.ref b) H Q = ∃xs ys,H a=some (.lst xs)/\H b=some (.lst ys)/\(xs.length=0\/ys.length=0)/\Q (.bl (if neg then !decide (xs.length=ys.length) else decide (xs.length=ys.length))) H:=by
 apply propext;constructor
 .rintro ⟨J,O,xs,ys,G,F,h⟩;cases G;cases F;exact ⟨xs,ys,h⟩
 .rintro ⟨xs,ys,h⟩;exact {a,b,xs,ys,rfl,rfl,h}
def rO:List V->Hp->VK->Prop:=λxs H Q=>∃i,xs=[.int i]/\Q (.int (if i<0 then -i else i)) H
theorem Ny:rO [.int i] H Q=Q (.int (if i<0 then -i else i)) H:=by simp [rO]
theorem uf:zU X (.builtin "abs") rO:=by
 intro Go s σ H xs us Q I r h;obtain ⟨i,rfl,q⟩:=h;obtain ⟨u,rfl,t,rfl⟩:=cQ r;exact call_abs_int λu tk=>{.int _,H,I.tok tk,{_,rfl},q}
end
theorem NB{p:Addr}:mO c (.int i) (.ref p) H Q = ∃kvs,Rd H p (.dK kvs)/\Q (.bl (if c then !(ay kvs (.inl i)).isSome else (ay kvs (.inl i)).isSome)) H:=by
 apply propext;constructor
 .rintro ⟨a,k,kvs,G,F,h,q⟩;cases G;cases k with
  | inl i=>cases F;exact ⟨kvs,h,q⟩
  | inr x=>cases F
 .rintro ⟨kvs,h,q⟩;exact {p,.inl i,kvs,rfl,rfl,h,q}
def fz(f:Nat->Int):Nat->Option Int
 | 0=>none
 | j+1=>some (match fz f j with|none=>f j|some m=>if f j>m then f j else m)
def lW:Option Int->Array Value->Prop|none,its=>its = #[]|some m,its=>∃t,its = #[.int m t,.int m t]
def qK(d:Value):Option Int->Value->Prop|none,v=>v=d|some m,v=>∃t,v = .int m t
section
variable {prog:OE}{w:OW}{A:OR}{E:Value->Oq->Prop}{s:Oq}
theorem Gb{St:Nat->Heap->Prop}{d:Value}(W:Walks prog w A.in1 I fp wr n P St)(f:Nat->Int)(hv:∀i v,P i v->∃t,v = .int (f i) t)(S:Addr)(a0:S∉fp)(W7:0<n\/kw=[(Ou "default",d)]):
  ∀(k j:Nat)(s:Oq)(c:Nat)(its:Array Value),n-j=k->j<=n->St j s.heap->lW (fz f j) its ->
  s.heap.get? S=some { cls:=.type "list",dict:=none,data:=.seq its c,slots:=#[] } ->
  (∀v h' tk,qK d (fz f n) v->(∀b o,b∉wr->b≠S->s.heap.get? b=some o->h'.get? b=some o)->R (.ok (.ret v)) { s with heap:=h',toks:=tk }) ->
  QE (OI prog w) A (.builtin "max.loop" {[.ref I,.none,.ref S],kw}) R s:=by
 have ax:S∉wr:=λh=>a0 (W.sub _ h);have YU:(toString "max"++toString ".loop":String)="max.loop":=by decide
 intro k
 induction k with
 | zero =>
  intro j s c its hk hj hst hC hS hR;have Xm:j=n:=by lia
  refine QD F.entry_max_loop ?_;rw [OR.under_plainId F.plain_max_loop _];show Oz _ A.in1 (Ub (.ref S)>>=_) _ _ s;refine we (RE hS rfl ?_);show Oz _ A.in1 (tryCatch (RS (.ref I)) _>>=_) _ _ s;refine we (QY (W.done s _ _ (Xm ▸ hst) λh' tk Ye=>?_));have YG:=Ye S _ ax hS;rw [Xm] at hC;cases O:fz f n with
  | none =>
   rw [O] at hC hR;cases (show its = #[] from hC);have h0 : ¬ 0<n:=λz=>by
    cases n with
    | zero=>lia
    | succ m=>cases O
   rcases W7 with z|rfl
   .exact absurd z h0
   show Oz _ A.in1 (rule _>>=_) _ _ _;exact we (Rn (Os (hR d _ tk rfl λb o G _ e=>Ye b o G e)))
  | some m =>
   rw [O] at hC hR;obtain ⟨t,rfl⟩:=hC;show Oz _ A.in1 (T8 S (λ_=>#[])>>=_) _ _ _;refine we (QT YG rfl (we (RF (Os ?_))));exact hR _ _ tk {t,rfl} λb o G Xj e=>(O0 _ _ (Pt Xj)).trans (Ye b o G e)
 | succ k ih =>
  intro j s c its hk hj hst hC hS hR;have ZE:j<n:=by lia
  refine QD F.entry_max_loop ?_;rw [OR.under_plainId F.plain_max_loop _];show Oz _ A.in1 (Ub (.ref S)>>=_) _ _ s;refine we (RE hS rfl ?_);show Oz _ A.in1 (tryCatch (RS (.ref I)) _>>=_) _ _ s;refine we (QY (W.item j s _ _ ZE hst λv h' tk hP av Ye=>?_));have YG:=Ye S _ ax hS;obtain ⟨t,rfl⟩:=hv j v hP;have U:∀{b o}{g:Array Value->Array Value},b≠S->h'.get? b=some o->(h'.update S (Rk g)).get? b=some o:=λn e=>(O0 _ _ (Pt n)).trans e;have aT:∀{g:Array Value->Array Value},St (j+1) (h'.update S (Rk g)):=λ{g}=>W.frame _ _ _ av λb O o e=>U (λz=>a0 (z ▸ O)) e;cases O:fz f j with
  | none =>
   rw [O] at hC;cases (show its = #[] from hC);show Oz _ A.in1 (T8 S (λ_=>#[.int (f j) t,.int (f j) t])>>=_) _ _ _;refine we (QT YG rfl ?_);rw [YU];refine Os {Ql F.plain_max_loop _,ih (j+1) _ _ _ 'l' ZE aT ?_ (Pu _ YG rfl) λv' h2 Z ai J=>?_}
   .show lW (some _) _;rw [O];exact {t,rfl}
   .exact hR v' h2 Z ai λb o G Xj e=>J b o G Xj (U Xj (Ye b o G e))
  | some m =>
   rw [O] at hC;obtain ⟨u,rfl⟩:=hC;show Oz _ A.in1 (tryCatch (Q1 [.int (f j) t,.int (f j) t] (richCompare .Gt (.int (f j) t) (.int m u)>>=_)) _>>=_) _ _ _;obtain ⟨bt,XA,aI⟩:∃bt:Nat->Nat->Bool,bt 0 1=decide (f j>m)/\CmpOf prog w A.in1 .Gt (λi v=>(i=0/\v = .int (f j) t)\/(i=1/\v = .int m u)) bt:={_,rfl,CmpOf.ints_gt (λi=>if i=0 then f j else m) λi v h=>by rcases h with ⟨rfl,rfl⟩|⟨rfl,rfl⟩<;>exact {_,rfl}};refine we (QY (OV (we (aI 0 1 _ _ _ _ _ (.inl {rfl,rfl}) (.inr {rfl,rfl}) ?_))));refine we (OV (Qr ?_));refine we (RF (Os ?_));by_cases hg:f j>m
   .rw [XA,decide_eq_true hg];simp only [if_true];refine we (QT YG rfl (we (RF ?_)));rw [YU];refine Os {Ql F.plain_max_loop _,ih (j+1) _ _ _ 'l' ZE aT ?_ (Pu _ YG rfl) λv' h2 Z ai J=>?_}
    .show lW (some _) _;rw [O];simp only [if_pos hg];exact {t,rfl}
    .exact hR v' h2 Z ai λb o G Xj e=>J b o G Xj (U Xj (Ye b o G e))
   .rw [XA,decide_eq_false hg];simp only [Qu,if_false];refine we (RF ?_);rw [YU];refine Os {Ql F.plain_max_loop _,ih (j+1) _ _ _ 'l' ZE av ?_ YG λv' h2 Z ai J=>?_}
    .show lW (some _) _;rw [O];simp only [if_neg hg];exact {u,rfl}
    .exact hR v' h2 Z ai λb o G Xj e=>J b o G Xj (Ye b o G e)
theorem Oo(a d:Value):UF "max" {[a],[(Ou "default",d)]}:=by unfold UF;kernel_rfl
theorem Fk{d:Value}(hh:A.handled=none)(hl:s.heap.IsList l its)(hv:∀(i:Nat) v,its[i]?=some v->∃t,v = .int (f i) t)(W:(0<its.size/\kw=[])\/kw=[(Ou "default",d)])(h:∀v h' tk,qK d (fz f its.size) v->(∀b o,s.heap.get? b=some o->h'.get? b=some o)->Q v { s with heap:=h',toks:=tk }):
  Oz (OI prog w) A (call (.builtin "max") [.ref l] kw) Q E s:=by
 have YU:(toString "max"++toString ".loop":String)="max.loop":=by decide
 have ZE:l<s.heap.objs.size:=by obtain ⟨_,e,_⟩:=hl;exact O2 e
 have O:UF "max" {[.ref l],kw}:=by
  rcases W with ⟨_,rfl⟩|rfl
  .exact F.args_max1 _
  .exact Oo _ _
 refine PyProof.Rows.kmk_tree F.kind_max F.plain_max F.entry_max O ?_;obtain ⟨J,S,hdk⟩:∃J:Option Value,OO.Builtins.bindParams "max" ["key","default"] 0 ⟨[],kw⟩=pure [none,J]/\(J.toList.map λd=>((Ou "default":Str),d))=kw:=by
  rcases W with ⟨_,rfl⟩|rfl
  .exact {none,rfl,rfl}
  .exact {some d,rfl,rfl}
 show Oz _ A.in1 (OO.Builtins.bindParams "max" ["key","default"] 0 {[],kw}>>=_) _ _ s;refine we (TK S ?_);refine we (Os ?_);refine we (Rz hl ?_);refine we (Pp ?_);rw [YU];have Z:(s.heap.push { cls:=.type "list_iterator",data:=.fields #[.ref l,.int 0 0] }).objs.size=s.heap.objs.size+1:=R4 ..;have U:l≠s.heap.objs.size:=Pl ZE;refine Os {Ql F.plain_max_loop _,?_};show QE _ A (.builtin "max.loop" {[_,.none,_],J.toList.map λd=>((Ou "default":Str),d)}) _ _;rw [hdk];refine Gb (Walks.list (A:=A.in1) hh _ l U its) f hv _ (λG=>?_) (W.imp (·.1) id) _ 0 _ _ #[] rfl (Pz _) {{_,Ot _ (ON _ rfl),rfl,rfl},(hl.push _).push _} rfl (ON _ rfl) λv h' tk hr hk=>?_
 .rcases OK.mp G with e|G
  .rw [Z] at e;exact absurd e (RU (RO _))
  .rcases OK.mp G with e|G
   .rw [Z] at e;exact absurd (e ▸ Rb ZE) (Ph _)
   .cases G
 .refine h v h' tk hr λb o e=>hk b o (λG=>?_) (λz=>?_) (Ot _ (Ot _ e))
  .rcases OK.mp G with e1|G
   .exact absurd (e1 ▸ O2 e) (Ph _)
   .cases G
  .have:=O2 e;rw [z,Z] at this;exact absurd this (TZ.mpr (RA _))
end
section
variable {X:Cx}
def oi:Option Int->V|none=>.non|some m=>.int m
def pA:List V->Hp->VK->Prop:=λxs H Q=>pE xs H Q\/∃(l:Addr)(ks:List Int),xs=[.ref l]/\H l=some (.lst (ks.map V.int))/\0<ks.length/\Q (oi (fz (λi=>ks.getD i 0) ks.length)) H
theorem Mh{ks:List Int}(r:zx (ks.map V.int) its):∀(i:Nat) v,its.toArray[i]?=some v->∃t,v = .int (ks.getD i 0) t:=by
 intro i v h;rw [<- Qm] at h
 replace h:its[i]?=some v:=h
 induction ks generalizing its i with
 | nil=>cases r;simp at h
 | cons k ks G =>
  cases r with
  | cons r F =>
   cases i with
   | zero=>obtain ⟨t,rfl⟩:=r;simp at h;subst h;exact {t,rfl}
   | succ i=>exact G F i (by simpa using h)
theorem JJ{o:Option Int}(h:qK .none o v):zr (oi o) v:=by
 cases o with
 | none=>cases (show v = .none from h);rfl
 | some m=>obtain ⟨t,rfl⟩:=h;exact {_,rfl}
theorem sX(F:X.calm=true):zU X (.builtin "max") pA:=by
 intro Go s σ H xs us Q I r h;rcases h with h|⟨l,ks,rfl,hl,W,q⟩
 .exact IU F Go s σ H xs us Q I r h
 .obtain ⟨u,rfl,U⟩:=cQ r;cases U;obtain ⟨its,J,p,hz⟩:=I.list (SqL.of (K:=X.K) hl);have G:=J.length;rw [Ow] at G;refine Fk (d:=.none) (f:=λi=>ks.getD i 0) (I.ok.hd F) p.isList (Mh J) (.inl {by rw [OQ];lia,rfl}) λv h' tk O S=>{_,H,I.kept S,JJ O,?_};rw [OQ,<- G];exact q
theorem HN:pA [.int i,.int j] H Q=Q (.int (if j>i then j else i)) H:=by
 apply propext;constructor
 .rintro (h|⟨l,ks,e,_⟩)
  .rw [qg] at h;exact h
  .cases e
 .exact λq=>.inl (by rw [qg];exact q)
theorem ET:pA [.ref l] H Q = ∃ks:List Int,H l=some (.lst (ks.map V.int))/\0<ks.length/\Q (oi (fz (λi=>ks.getD i 0) ks.length)) H:=by
 apply propext;constructor
 .rintro (⟨i,j,e,_⟩|⟨l',ks,e,h⟩)
  .cases e
  .cases e;exact ⟨ks,h⟩
 .rintro ⟨ks,h⟩;exact .inr {l,ks,rfl,h}
end
end L2
namespace L2
open PySem PySem.Spec PyProof.Rows PySem.W
section
variable {α β:Type}{lt:Nat->Nat->Bool}{N:Nat}
def wpK(lt:Nat->Nat->Bool)(N:Nat){α:Type}:KasT α->(α->Prop)->Prop
 | .ret a,Q=>Q a
 | .ask i j k,Q=>i<N/\j<N/\wpK lt N (k (lt i j)) Q
theorem h8:∀{t:KasT α},wpK lt N t (λa=>wpK lt N (f a) Q)->wpK lt N (t.bind f) Q
 | .ret _,h=>h
 | .ask _ _ _,h=>{h.1,h.2.1,h8 h.2.2}
theorem c7(F:∀a,Q a->G a):∀{t:KasT α},wpK lt N t Q->wpK lt N t G
 | .ret _,h=>F _ h
 | .ask _ _ _,h=>{h.1,h.2.1,c7 F h.2.2}
theorem wc(F:∀i j C,i<N->j<N->C (lt i j) s->cmp i j C s):∀{t:KasT α},wpK lt N t (λa=>Q a s)->t.kasWp cmp Q s
 | .ret _,h=>h
 | .ask i j k,h=>F i j _ h.1 h.2.1 (wc F h.2.2)
structure cJ(lt:Nat->Nat->Bool):Prop where
 cH:∀i j,lt i j=true->lt j i=false
 a4:∀i j k,lt j i=false->lt k j=false->lt k i=false
def at0(p:Array Nat)(i:Nat):Nat:=p.getD i 0
structure PM(N:Nat)(p:Array Nat):Prop where
 perm:p.Perm (Ur (Pm N))
theorem PM.size{p:Array Nat}(h:PM N p):p.size=N:=by have:=h.perm.size_eq;simpa using this
theorem PM.low{p:Array Nat}(h:PM N p)(hi:i<N):at0 p i<N:=by
 have hs:i<p.size:=by rw [h.size];exact hi
 have e:at0 p i=p[i]:=by unfold at0;simp [getD,hs]
 have m:p[i]∈Ur (Pm N):=h.perm.mem_iff.mp (Array.getElem_mem hs);rw [e];simpa using m
theorem rQ(p:Array Nat)(i:Nat):at0 p i=(p[i]?).getD 0:=by unfold at0;rw [QG]
def Ri(lt:Nat->Nat->Bool)(p:Array Nat)(n:Nat):Prop:=∀i j,i<=j->j<n->lt (at0 p j) (at0 p i)=false
def Fa(lt:Nat->Nat->Bool)(p:Array Nat)(n:Nat):Prop:=∀i j,i<=j->j<n->lt (at0 p i) (at0 p j)=false
theorem cJ.bC(O:cJ lt)(i:Nat):lt i i=false:=by
 cases h:lt i i with
 | false=>rfl
 | true=>rw [O.cH i i h] at h;cases h
theorem iz{p:Array Nat}{i j k:Nat}(F:j<=p.size):at0 (kas_rev p i j) k=if i<=k/\k<j then at0 p (i+j-1-k) else at0 p k:=by
 simp only [rQ];unfold kas_rev;rw [getElem?_mirror_all F];split<;>rfl
theorem PM.rev{p:Array Nat}(h:PM N p)(i j:Nat):PM N (kas_rev p i j):={(mirror_perm p i j _).trans h.perm}
theorem sH{p:Array Nat}{k d x:Nat}(F:k<p.size)(hd:d<=k):at0 (bubble p k d) x=if x=k-d then at0 p k else if k-d<x/\x<=k then at0 p (x-1) else at0 p x:=by
 simp only [rQ];rw [getElem?_bubble F d hd];split
 .rfl
 .split<;>rfl
theorem PM.c3{p:Array Nat}(h:PM N p)(k d:Nat):PM N (bubble p k d):={(bubble_perm p k d).trans h.perm}
theorem r8(O:cJ lt){p:Array Nat}(P:PM N p):∀(f n:Nat),1<=n->n+f<=N->Ri lt p n->wpK lt N (kas_asc p f n) λm=>n<=m/\m<=n+f/\Ri lt p m/\(m=n+f\/lt (at0 p m) (at0 p (m-1))=true)
 | 0,n,h1,U,r=>{OA _,OA _,r,.inl rfl}
 | f+1,n,h1,U,r=>by
  refine {P.low (show n<N by lia),P.low (show n-1<N by lia),?_};by_cases c:lt (at0 p n) (at0 p (n-1))=true
  .show wpK lt N (if lt (at0 p n) (at0 p (n-1))=true then _ else _) _;rw [if_pos c];exact {OA _,'l',r,.inr c}
  .show wpK lt N (if lt (at0 p n) (at0 p (n-1))=true then _ else _) _;rw [if_neg c];have c':lt (at0 p n) (at0 p (n-1))=false:=by simpa using c
   refine c7 (λm F=>{'l','l',F.2.2.1,F.2.2.2.imp (λe=>by lia) id}) (r8 O P f (n+1) 'l' 'l' λi j G W=>?_);by_cases e:j<n
   .exact r i j G e
   .have S:j=n:=by lia
    subst S;by_cases J:i=j
    .subst J;exact O.bC _
    .exact O.a4 _ _ _ (r i (j-1) 'l' 'l') c'
def Ali(lt:Nat->Nat->Bool)(p:Array Nat)(n q:Nat):Prop:=∀i,n<=i+(q+1)->i<n->lt (at0 p (n-1)) (at0 p i)=false
theorem oo(O:cJ lt){p:Array Nat}(hs:n<=p.size)(hq:q+1<=n)(a:Ali lt p n q)(f:Fa lt p n):Fa lt (kas_rev p (n-(q+1)) n) n:=by
 have F:∀k,k<n->lt (at0 (kas_rev p (n-(q+1)) n) k) (at0 p k)=false/\lt (at0 p k) (at0 (kas_rev p (n-(q+1)) n) k)=false:=λk hk=>by
  rw [iz hs];split
  .rename_i h;have W:=a k 'l' hk;have Z:=f k (n-1) 'l' 'l';have J:=a (n-(q+1)+n-1-k) 'l' 'l';have S:=f (n-(q+1)+n-1-k) (n-1) 'l' 'l';exact {O.a4 _ _ _ W S,O.a4 _ _ _ J Z}
  .exact {O.bC _,O.bC _}
 intro i j U G;exact O.a4 _ _ _ (O.a4 _ _ _ (F j G).2 (f i j U G)) (F i 'l').1
theorem Bi{p:Array Nat}{i j k:Nat}(F:j<=p.size)(G:j<=k):at0 (kas_rev p i j) k=at0 p k:=by rw [iz F,if_neg 'l']
structure DI(lt:Nat->Nat->Bool)(N:Nat)(p:Array Nat)(n q:Nat):Prop where
 pm:PM N p
 fa:Fa lt p n
 qn:q+1<=n
 al:Ali lt p n q
theorem lA(O:cJ lt){p:Array Nat}(f:Fa lt p n)(h1:1<=n)(c:lt (at0 p (n-1)) (at0 p n)=false):Fa lt p (n+1):=λi j F S=>by
 by_cases e:j<n
 .exact f i j F e
 .have J:j=n:=by lia
  subst J;by_cases G:i=j
  .subst G;exact O.bC _
  .exact O.a4 _ _ _ c (f i (j-1) 'l' 'l')
theorem kP(O:cJ lt):∀(f:Nat)(p:Array Nat)(n q:Nat),n+f<=N->DI lt N p n q->wpK lt N (kas_desc f p n q) λr=>n<=r.2.1/\r.2.1<=n+f/\DI lt N r.1 r.2.1 r.2.2
 | 0,p,n,q,U,d=>{OA _,OA _,d}
 | f+1,p,n,q,U,d=>by
  have G:=d.qn;have hs:n<=p.size:=by rw [d.pm.size];lia
  refine {d.pm.low (show n<N by lia),d.pm.low (show n-1<N by lia),?_};show wpK lt N (if lt (at0 p n) (at0 p (n-1))=true then _ else _) _;by_cases c:lt (at0 p n) (at0 p (n-1))=true
  .rw [if_pos c];have c':=O.cH _ _ c;have F:∀p':Array Nat,Ali lt p' (n+1) 0:=λp' i h1 h2=>by
    have:i=n:=by lia
    subst this;exact O.bC _
   split
   .refine c7 (λr h=>{'l','l',h.2.2}) (kP O f _ (n+1) 0 'l' {d.pm.rev _ _,lA O (oo O hs G d.al d.fa) 'l' ?_,'l',F _});rw [Bi hs (OA _),iz hs];split
    .have e:=d.fa (n-(q+1)+n-1-(n-1)) (n-1) 'l' 'l';have a:=d.al (n-(q+1)+n-1-(n-1)) 'l' 'l';exact O.a4 _ _ _ c' e
    .exact c'
   .exact c7 (λr h=>{'l','l',h.2.2}) (kP O f p (n+1) 0 'l' {d.pm,lA O d.fa 'l' c','l',F _})
  .rw [if_neg c];have c1:lt (at0 p n) (at0 p (n-1))=false:=by simpa using c
   refine {d.pm.low (show n-1<N by lia),d.pm.low (show n<N by lia),?_};show wpK lt N (if lt (at0 p (n-1)) (at0 p n)=true then _ else _) _;by_cases e:lt (at0 p (n-1)) (at0 p n)=true
   .rw [if_pos e];show n<=n/\n<=n+(f+1)/\DI lt N p n q;exact {OA _,'l',d}
   .rw [if_neg e];have J:lt (at0 p (n-1)) (at0 p n)=false:=by simpa using e
    refine c7 (λr h=>{'l','l',h.2.2}) (kP O f p (n+1) (q+1) 'l' {d.pm,lA O d.fa 'l' J,'l',λi h1 h2=>?_});show lt (at0 p n) (at0 p i)=false;by_cases S:i=n
    .subst S;exact O.bC _
    .exact O.a4 _ _ _ (d.al i 'l' 'l') c1
theorem xO(O:cJ lt){p:Array Nat}(P:PM N p)(f:Fa lt p n)(h1:1<=n)(F:n<=N):wpK lt N (kas_tail3 n N p) λr=>1<=r.1/\r.1<=N/\PM N r.2/\Ri lt r.2 r.1:=by
 have hs:n<=p.size:=by rw [P.size];exact F
 unfold kas_tail3;refine h8 (c7 (λm h=>?_) (r8 O (P.rev 0 n) (N-n) n h1 'l' λi j G J=>?_))
 .show 1<=m/\m<=N/\PM N (kas_rev p 0 n)/\Ri lt (kas_rev p 0 n) m;exact {'l','l',P.rev 0 n,h.2.2.1}
 .rw [iz hs,iz hs,if_pos 'l',if_pos 'l'];exact f _ _ 'l' 'l'
theorem xi(O:cJ lt){p:Array Nat}(P:PM N p)(f:Fa lt p (n+1))(G:n+1<=N):wpK lt N (kas_descPart n N p) λr=>1<=r.1/\r.1<=N/\PM N r.2/\Ri lt r.2 r.1:=by
 unfold kas_descPart;refine h8 (c7 (λr h=>?_) (kP O (N-(n+1)) p (n+1) 0 'l' {P,f,'l',λi h1 h2=>?_}))
 .have F:=h.2.2.qn;split
  .exact xO O (h.2.2.pm.rev _ _) (oo O (by rw [h.2.2.pm.size];lia) F h.2.2.al h.2.2.fa) 'l' 'l'
  .exact xO O h.2.2.pm h.2.2.fa 'l' 'l'
 .have:i=n:=by lia
  subst this;exact O.bC _
theorem E7(O:cJ lt){p:Array Nat}(P:PM N p)(h1:1<=N):wpK lt N (kas_count N p) λr=>1<=r.1/\r.1<=N/\PM N r.2/\Ri lt r.2 r.1:=by
 unfold kas_count;refine h8 (c7 (λn h=>?_) (r8 O P (N-1) 1 (OA _) 'l' λi j J S=>?_))
 .obtain ⟨G,a2,F,U⟩:=h;by_cases e:n=N
  .rw [if_pos (by simpa using e)];exact {G,'l',P,F}
  .rw [if_neg (by simpa using e)];have c:lt (at0 p n) (at0 p (n-1))=true:=U.resolve_left 'l';have hs:n<=p.size:=by rw [P.size];lia
   split
   .refine {P.low (show 0<N by lia),P.low (show n-1<N by lia),?_};show wpK lt N (if lt (at0 p 0) (at0 p (n-1))=true then _ else _) _;by_cases z:lt (at0 p 0) (at0 p (n-1))=true
    .rw [if_pos z];exact {G,'l',P,F}
    .rw [if_neg z];have z':lt (at0 p 0) (at0 p (n-1))=false:=by simpa using z
     have al:Ali lt p n (n-1):=λi _ hi=>F i (n-1) 'l' 'l';have fa:Fa lt p n:=λi j J S=>O.a4 _ _ _ (O.a4 _ _ _ (F j (n-1) 'l' 'l') z') (F 0 i 'l' 'l');have Z:n-(n-1+1)=0:=by lia
     have fr:=oo O hs (q:=n-1) 'l' al fa;rw [Z] at fr;refine xi O (P.rev 0 n) (lA O fr G ?_) 'l';rw [Bi hs (OA _),iz hs,if_pos 'l'];exact O.a4 _ _ _ (O.cH _ _ c) (fa (0+n-1-(n-1)) (n-1) 'l' 'l')
   .have en:n=1:=by lia
    subst en;refine xi O P (λi j J S=>?_) 'l';by_cases W:i=j
    .subst W;exact O.bC _
    .have:i=0/\j=1:=by lia
     rw [this.1,this.2];exact O.cH _ _ c
 .have:i=j:=by lia
  subst this;exact O.bC _
theorem rK(O:cJ lt){p:Array Nat}{k:Nat}(P:PM N p)(F:k<N)(s:Ri lt p k):∀(f l r:Nat),l<=r->r<=k->r<=l+f->(∀i,i<l->lt (at0 p k) (at0 p i)=false)->(∀i,r<=i->i<k->lt (at0 p i) (at0 p k)=false) ->
  wpK lt N (kas_place p k f l r) λx=>x<=k/\(∀i,i<x->lt (at0 p k) (at0 p i)=false)/\∀i,x<=i->i<k->lt (at0 p i) (at0 p k)=false
 | 0,l,r,h1,h2,h3,a,b=>by
  have e:l=r:=by lia
  subst e;exact ⟨h2,a,b⟩
 | f+1,l,r,h1,h2,h3,a,b=>by
  unfold kas_place;split
  .have e:l=r:=by lia
   subst e;exact ⟨h2,a,b⟩
  .refine {P.low F,P.low (show (l+r) / 2<N by lia),?_};show wpK lt N (if lt (at0 p k) (at0 p ((l+r) / 2))=true then _ else _) _;by_cases c:lt (at0 p k) (at0 p ((l+r) / 2))=true
   .rw [if_pos c];exact rK O P F s f l _ 'l' 'l' 'l' a λi hi G=>O.a4 _ _ _ (O.cH _ _ c) (s _ _ hi G)
   .rw [if_neg c];have c':lt (at0 p k) (at0 p ((l+r) / 2))=false:=by simpa using c
    exact rK O P F s f _ r 'l' h2 'l' (λi hi=>O.a4 _ _ _ (s i ((l+r) / 2) 'l' 'l') c') b
theorem xk(O:cJ lt):∀(f:Nat)(p:Array Nat)(k:Nat),PM N p->k+f<=N->Ri lt p k->wpK lt N (kas_bin f p k) λq=>PM N q/\Ri lt q (k+f)
 | 0,p,k,P,U,s=>⟨P,s⟩
 | f+1,p,k,P,U,s=>by
  unfold kas_bin;refine h8 (c7 (λl h=>?_) (rK O P (show k<N by lia) s k 0 k (Pz _) (OA _) 'l' (λi hi=>by lia) λi h1 h2=>by lia));obtain ⟨h1,h2,h3⟩:=h;have hs:k<p.size:=by rw [P.size];lia
  refine c7 (λq h=>{h.1,by rw [show k+(f+1)=k+1+f by lia];exact h.2}) (xk O f _ (k+1) (P.c3 _ _) 'l' λi j S W=>?_);rw [sH hs 'l',sH hs 'l',show k-(k-l)=l by lia];by_cases J:j=l
  .rw [if_pos J];by_cases F:i=l
   .rw [if_pos F];exact O.bC _
   .rw [if_neg F,if_neg 'l'];exact h2 i 'l'
  .rw [if_neg J];by_cases G:l<j/\j<=k
   .rw [if_pos G];by_cases F:i=l
    .rw [if_pos F];exact h3 _ 'l' 'l'
    .rw [if_neg F];split
     .exact s _ _ 'l' 'l'
     .exact s _ _ 'l' 'l'
   .rw [if_neg G,if_neg 'l',if_neg 'l'];exact s _ _ S 'l'
theorem JK(O:cJ lt)(h1:1<=N):wpK lt N (kas_sort N) λp=>PM N p/\Ri lt p N:=by
 unfold kas_sort;refine h8 (c7 (λr h=>?_) (E7 O {Array.Perm.refl _} h1));obtain ⟨J,S,G,F⟩:=h;split
 .refine c7 (λq h=>{h.1,by have e:=h.2;rw [show max r.1 1+(N-max r.1 1)=N by lia] at e;exact e}) (xk O _ _ _ G 'l' (by rw [show max r.1 1=r.1 by lia];exact F))
 .have e:r.1=N:=by lia
  rw [e] at F;exact ⟨G,F⟩
end
end L2
namespace L2
open PySem PySem.Spec PyProof.Rows
def tDC(ix:List (Option Nat))(wi:TI)(g:TG)(tt:TT)(tk tv:TE):TE:=λσ H Q=>wi σ H λJ H1=>∃W:Nat->Nat->St->List (Key×V)->Hp->Prop,(∃m,W 0 m (cq ix σ) [] H1)/\∀i m τ ys H2,W i m τ ys H2->ys.length<sizeLine /\
 ((J.stop i H2 ∧ ∀ D, H2 D = none → D ≠ sysModules → Q (.ref D) (upd H2 D (.dK ys))) ∨
  (J.go i H2 ∧ ∀ x H3, J.bg i H2 x H3 → g x τ H3 fun F H4 => tt F H4 fun ok H5 => if ok = true then tk F H5 fun y H6 => tv F H6 fun z H7 => uK y fun k => ∃ G, G < m ∧ W (i + 1) G F (aV ys k z) H7 else ∃ G, G < m ∧ W (i + 1) G F ys H5))
theorem wo{W:OZ}{tk tv:TE}(hc:c=true->X.calm=true)(L:z6 X sc N' ix)(hi:PIc c X tg iter wi)(hg:∀Go C fp s H,PG (zz X sc N' Go C fp s H) tg g)(ht:∀Go C fp s H,PTs (zz X sc N' Go C fp s H) G tt)(hk:∀Go C fp s H,PE (zz X sc N' Go C fp s H) W tk)(hv:∀Go C fp s H,PE (zz X sc N' Go C fp s H) J tv)(hs:∀x,Pd iter X.env x=pure x)(I:Inv X Go σ H s)(h:tDC ix wi g tt tk tv σ H Q)(kk:∀(C D:Addr)(oC:Obj)(H':Hp)(s5:Oq)(m5:Str->Option Value),Inv X (Go++[(C,oC)]) σ H' s5->(∀{hp:Heap},hp.get? C=some oC->hp.Ns C m5)->(∀{Z:St}{F:Hp}{s':Oq}{h':Heap},Inv X Go Z F s'->F C=none->Qw C s'.heap h'->Inv X Go Z F { s' with heap:=h' })->Q (.ref D) H'->compPost (OI X.prog X.w) X.A X.xe use R (.ref D) C (.ok .next) s5):
  Oz (OI X.prog X.w) X.A (SE (.DictComp W J [{tg,iter,G,0}] sc pos) sc X.env (SZ [{tg,iter,G,0}] pos) newDict (UB [{tg,iter,G,0}]) (firstIter [{tg,iter,G,0}] X.env) use) R X.xe s:=by
 refine vI (e:=.DictComp W J [{tg,iter,G,0}] sc pos) (em:=λD env=>do
  let kv<-Qc W env
  let vv<-Q1 [kv] (Qc J env)
  Re { W.pos with endLine:=J.pos.endLine,endCol:=J.pos.endCol }
  Q1 [kv,vv] (dictSet D kv vv)) (T:="dict") (dt:=.dict #[]) Tj HO.dK [] (λys o=>∃vs es ep,KV ys vs/\o.ExactDict/\o.data = .dict es ep/\KeysOf (aX X.prog X.w) es/\Pairs (aX X.prog X.w) es.toList vs/\(vs.map (·.1)).Nodup) (λK ys τ H=>tk τ H λy H6=>tv τ H6 λz H7=>uK y λk=>K (aV ys k z) H7) rfl (by size_fits) (λ_ _ _=>{λ_=>rfl,rfl}) codeAny_compStart_dict ?_ rfl ?_ ?_ ?_ hc L hi hg ht hs I h kk
 .obtain ⟨o,es,ep,e,r⟩:=Heap.DictOf.new (knd:=aX X.prog X.w) s.heap;rw [ON _ rfl] at e;cases e;exact {[],es,ep,.nil,r}
 .rintro ys o ⟨vs,es,ep,_,_,d,_⟩ v z;rw [d] at z;cases z
 .rintro ys o H' h D ⟨vs,es,ep,rv,dx,r⟩ hl n e;exact {RW hl,by simpa using n,vs,rv,o,es,ep,e,dx,r}
 .rintro Go C fp s H pins' s8 τ H8 ys ob D K I8 q8 ⟨vs,es,ep,rv,r⟩ hl hD;refine we (thn (hk Go C fp s H _ s8 τ H8 _ I8 q8) λy s9=>x5e λyv H9 I9 r9 q9=>we (OV (thn (hv Go C fp s H _ s9 τ H9 _ I9 q9) λz U=>x5e λzv H10 S ax XT=>?_)));obtain ⟨kk,ek,w'⟩:=XT;subst ek;have lv:vs.length<sizeLine:=by rw [<- rv.length];exact hl
  refine we (Pn (OV (wpAny_dictSet_pairs (hsz:=RW lv) (gF r9) {ob,es,ep,(S.pin _ (Ox _ hD)).1,r} λav O sb=>?_)));obtain ⟨o2,ai,aI,e2,r2⟩:=O;exact {U,_,H10,o2,av,U.toks+1,rfl,w',S,{_,ai,aI,rv.put kk ax,r2},e2,sb}
theorem EV{tk tv:TE}(W:c=true->X.calm=true)(L:z6 X sc N' ix)(hi:PIc c X tg iter wi)(hg:∀Go C fp s H,PG (zz X sc N' Go C fp s H) tg g)(Z:∀Go C fp s H,PTs (zz X sc N' Go C fp s H) O tt)(hk:∀Go C fp s H,PE (zz X sc N' Go C fp s H) J tk)(hv:∀Go C fp s H,PE (zz X sc N' Go C fp s H) S tv)(hs:∀x,Pd iter X.env x=pure x:=by intro _;rfl):PE X (.DictComp J S [{tg,iter,O,0}] sc pos) (tDC ix wi g tt tk tv):=by
 intro Go s σ H Q I h;rw [arm_eval_DictComp];refine wo (use:=none) W L hi hg Z hk hv hs I h λC D oC H' s5 m5 F ns tu q=>?_;obtain ⟨p6,G,_⟩:=F.pin (C,oC) (Ox _ (Ox _ (OS.mpr rfl)));exact {m5,ns p6,λh' U=>{.ref D,H',tu (F.zk λp hp=>F.pin p (Ox _ (O4 _ hp))) G U,rfl,q}}
end L2
namespace L2
open PySem PySem.Spec PyProof.Rows PySem.W PySem.Calls
theorem Aq{α:Type}(d:α):∀vs:List α,(Pm vs.length).map (λi=>vs.getD i d)=vs:=λvs=>by
 apply TX;intro i;rw [OT];by_cases h:i<vs.length
 .rw [List.getElem?_range h,KE h];show some (vs.getD i d)=_;rw [OM,KE h];rfl
 .rw [Qs (by simp;lia),Qs 'l'];rfl
section
variable {prog:OE}{w:OW}{A:OR}{E:Value->Oq->Prop}{s:Oq}
theorem NF{lt:Nat->Nat->Bool}(O:cJ lt)(S:s.heap.get? a=some (Qo "list" vs.toArray n))(XU:vs.length<64)(hk:∀(h':Heap)(Q:SortKind->Oq->Prop),(∀b o,b≠a->s.heap.get? b=some o->h'.get? b=some o)->2<=vs.length->Q κ { s with heap:=h' }->Oz (OI prog w) A (keyKind' vs.toArray) Q E { s with heap:=h' })(hl:∀(h':Heap) i j C,(∀b o,b≠a->s.heap.get? b=some o->h'.get? b=some o)->i<vs.length->j<vs.length->C (lt i j) { s with heap:=h' }->kas_ask prog w A κ vs i j C { s with heap:=h' })(h:∀p:Array Nat,PM vs.length p->Ri lt p vs.length->P (.done (.ret .none)) { s with heap:=sortedHeap s.heap a vs (Ur (p.toList.map λi=>vs.getD i Pf)) }):
  Oz (OI prog w) A (OO.«list.sort» {[.ref a],[]}) P E s:=by
 rw [list_sort_plain];have ha:a<s.heap.objs.size:=O2 S;obtain ⟨U,G⟩:∃U,(s.heap.update a (Rk λ_=>(#[]:Array Value))).get? a=some (Qo "list" #[] U):={_,get?_update_seq S λ_=>#[]};refine we (listItems_at S rfl (we (listUpdate_at S rfl ?_ (by rw [OQ,Py];lia) (Pz _))));refine we (seqEpoch_at G rfl (we (wpAny_newTuple (we (RT (OV ?_) (Pz _))) (by show vs.length<=_;rw [Py];lia))));have k6:∀b o,b≠a->s.heap.get? b=some o->(((s.heap.update a (Rk λ_=>(#[]:Array Value))).push (Qo "tuple" vs.toArray 0)).push (Qo "list" #[] 0)).get? b=some o:=λb o hb e=>by
  refine Ot _ (Ot _ ?_);rw [Heap.get?_update_ne _ _ _ _ hb];exact e
 have F:(((s.heap.update a (Rk λ_=>(#[]:Array Value))).push (Qo "tuple" vs.toArray 0)).push (Qo "list" #[] 0)).get? a=some (Qo "list" #[] U):=Ot _ (Ot _ G);show Oz (OI prog w) A _ P E { s with heap:=((s.heap.update a (Rk λ_=>(#[]:Array Value))).push (Qo "tuple" vs.toArray 0)).push (Qo "list" #[] 0) };dsimp only;have hz:vs.toArray.size=vs.length:=by simp
 have big:vs.length<=sizeLine:=by rw [Py];lia
 by_cases h2:vs.toArray.size<2
 .rw [if_pos h2,if_pos h2];refine we (Os ?_);rw [StateT.run_pure];refine we (Os ?_);dsimp only;have Z:=h (Ur (Pm vs.length)) {Array.Perm.refl _} (λi j X8 hj=>by
   have:i=j:=by lia
   subst this;exact O.bC _)
  rw [show (Ur (Pm vs.length)).toList=Pm vs.length from rfl,Aq] at Z;have eo:(arrOf (SortSt.mk' general' (vs.toArray.zip vs.toArray) #[] 7 none)).map (·.2)=vs.toArray:=by
   show (vs.toArray.zip vs.toArray).map (·.2)=vs.toArray;apply Array.ext
   .simp
   .intro i h1 h2;simp
  rw [eo];refine we (seqEpoch_at F rfl (we (listUpdate_at F rfl ?_ (Pz _) (by rw [hz];exact Rx big))));simp only [bne_self_eq_false,Qu,if_false];exact Os Z
 .rw [if_neg h2,if_neg h2];have n2:2<=vs.length:=by lia
  refine we (hk _ _ k6 n2 ?_);have run:=JK O (N:=vs.length) 'l';have wp:=wc (cmp:=kas_ask prog w A κ vs) (s:={ s with heap:=((s.heap.update a (Rk λ_=>(#[]:Array Value))).push (Qo "tuple" vs.toArray 0)).push (Qo "list" #[] 0) }) (hl _ · · · k6) (Q:=λp s'=>s'={ s with heap:=((s.heap.update a (Rk λ_=>(#[]:Array Value))).push (Qo "tuple" vs.toArray 0)).push (Qo "list" #[] 0) }/\PM vs.length p/\Ri lt p vs.length) (c7 (λp q=>{rfl,q}) run);refine we (O3 (kat_run (E:=E) (Q:=λJ s'=>∃p:Array Nat,p.size=vs.length/\arrOf J=p.map (kas_item (vs.toArray.zip vs.toArray))/\failedOf J=none/\s'={ s with heap:=((s.heap.update a (Rk λ_=>(#[]:Array Value))).push (Qo "tuple" vs.toArray 0)).push (Qo "list" #[] 0) }/\PM vs.length p/\Ri lt p vs.length) rfl n2 XU (λp J s' a1 a2 a3 a4=>⟨p,a1,a2,a3,a4⟩) wp) ?_ λ_ _ z=>z);rintro ⟨⟨⟩,J⟩ s' ⟨p,hp,W,hf,rfl,pm,ri⟩;dsimp only;have Yw:=kat_snds rfl W;rw [Yw,hf];refine we (seqEpoch_at F rfl (we (listUpdate_at F rfl ?_ (Pz _) (by rw [OQ,Ow,Qa,hp];exact Rx big))));simp only [bne_self_eq_false,Qu,if_false];exact Os (h p pm ri)
theorem IF{lt:Nat->Nat->Bool}(O:cJ lt)(F:s.heap.IsList l vs.toArray)(Z:vs.length<64)(W:∀(h':Heap)(Q:SortKind->Oq->Prop),(∀b o,s.heap.get? b=some o->h'.get? b=some o)->2<=vs.length->Q κ { s with heap:=h' }->Oz (OI prog w) A.in1.in1 (keyKind' vs.toArray) Q E { s with heap:=h' })(hl:∀(h':Heap) i j C,(∀b o,s.heap.get? b=some o->h'.get? b=some o)->i<vs.length->j<vs.length->C (lt i j) { s with heap:=h' }->kas_ask prog w A.in1.in1 κ vs i j C { s with heap:=h' })(h:∀p:Array Nat,PM vs.length p->Ri lt p vs.length->Q (.ref (s.heap.objs.size+1)) { s with heap:=sortedAll s.heap vs (Ur (p.toList.map λi=>vs.getD i Pf)) }):
  Oz (OI prog w) A (call (.builtin "sorted") [.ref l]) Q E s:=by
 refine call_function_entry kind_sorted Ut UC (UE _) ?_;unfold OO.«sorted»
 refine we (m:=checkCount "sorted" 1 1 _) (Os (we (collect_list F (we (RT ?_ (by rw [Py];lia))) (by rw [Py];lia))));have hsz:((s.heap.push (Qo "list" #[] 0)).update s.heap.objs.size (Rk (·++vs.toArray))).objs.size=s.heap.objs.size+1:=(Heap.size_update ..).trans (R4 ..);have G:(((s.heap.push (Qo "list" #[] 0)).update s.heap.objs.size (Rk (·++vs.toArray))).push (Qo "list" vs.toArray 0)).get? (s.heap.objs.size+1)=some (Qo "list" vs.toArray 0):=hsz ▸ ON _ rfl;have keep:∀b o,s.heap.get? b=some o->(((s.heap.push (Qo "list" #[] 0)).update s.heap.objs.size (Rk (·++vs.toArray))).push (Qo "list" vs.toArray 0)).get? b=some o:=λb o q=>by
  refine Ot _ ?_;rw [Heap.get?_update_ne _ _ _ _ (Pl (O2 q))];exact Ot _ q
 show Oz _ _ _ _ _ { s with heap:=((s.heap.push (Qo "list" #[] 0)).update s.heap.objs.size (Rk (·++vs.toArray))).push (Qo "list" vs.toArray 0) };rw [hsz];have ne:∀b o,s.heap.get? b=some o->b≠s.heap.objs.size+1:=λb o e=>Pl (Rb (O2 e));refine we (OV (PU Tf {_,G,rfl} SV (NF (κ:=κ) O (s:={ s with heap:=((s.heap.push (Qo "list" #[] 0)).update s.heap.objs.size (Rk (·++vs.toArray))).push (Qo "list" vs.toArray 0) }) G Z (λh' Q k n2 q=>?_) (λh' i j C k hi S q=>?_) λp J U=>{_,rfl,Os {_,rfl,h p J U}}) (Tq _)))
 .exact O3 (W h' Q (λb o e=>k b o (ne b o e) (keep b o e)) n2 q) (λ_ _ z=>z) λ_ _ z=>z
 .exact hl h' i j C (λb o e=>k b o (ne b o e) (keep b o e)) hi S q
end
theorem PM.mem{p:Array Nat}(h:PM N p):∀i∈p.toList,i<N:=λi hi=>by
 have m:i∈Ur (Pm N):=h.perm.mem_iff.mp (by simpa using hi);simpa using m
theorem PM.perms{α:Type}{p:Array Nat}(h:PM N p){l:List α}(hl:l.length=N)(d:α):(p.toList.map λi=>l.getD i d).Perm l:=by
 have e:p.toList.Perm (Pm N):=by have:=Array.perm_iff_toList_perm.mp h.perm;simpa using this
 have:=e.map λi=>l.getD i d;rw [<- hl,Aq] at this;exact this
theorem BV{α:Type}{p:Array Nat}(h:PM N p){l:List α}{d:α}{f:α->α->Bool}(r:Ri (λi j=>f (l.getD i d) (l.getD j d)) p N):(p.toList.map λi=>l.getD i d).Pairwise λa b=>f b a=false:=by
 rw [List.pairwise_iff_getElem];intro i j hi F G;rw [Ow,Qa] at hi F;have:=r i j (RW G) (by rw [<- h.size];exact F);simp only [rQ] at this;simp only [List.getElem_map,Array.getElem_toList];rw [Po hi,Po F] at this;exact this
section
variable {X:Cx}
def ik(kvs:List (Int×V)):List (Key×V):=kvs.map λp=>(.inl p.1,p.2)
def ue:List V->Hp->VK->Prop:=λxs H Q=>uR1 xs λa=>∃kvs:List (Int×V),Rd H a (.dK (ik kvs))/\kvs.length<64/\∀p (ns:List Int) H2,New H p (.lst (ns.map V.int)) H2->ns.Perm (kvs.map (·.1))->ns.Pairwise (·<=·)->Q (.ref p) H2
theorem IQ:ue [.ref a] H Q = ∃kvs:List (Int×V),Rd H a (.dK (ik kvs))/\kvs.length<64/\∀p (ns:List Int) H2,New H p (.lst (ns.map V.int)) H2->ns.Perm (kvs.map (·.1))->ns.Pairwise (·<=·)->Q (.ref p) H2:=fC
theorem xV:∀{vs:List Value}{ns:List Int},vs.length=ns.length->(∀(j:Nat)(v:Value),vs[j]?=some v->∃t,v=Q5 (ns.getD j 0) t)->RC vs ns
 | [],[],_,_=>.nil
 | [],_::_,h,_=>absurd h 'z'
 | _::_,[],h,_=>absurd h 'z'
 | v::vs,x::ns,h,f=>by
  obtain ⟨t,e⟩:=f 0 v rfl;have F:v=Q5 x t:=e;rw [F];exact .cons x t (xV (by simpa using h) λj u G=>f (j+1) u G)
theorem DU(hc:X.calm=true):zU X (.builtin "sorted") ue:=by
 intro Go s σ H xs us Q I r h;obtain ⟨a,rfl,kvs,hq,XU,q⟩:=h;obtain ⟨u,rfl,ru⟩:=cQ r;cases ru;obtain ⟨z,hd,vs,Zd,dd⟩:=di I.hok hq;obtain ⟨ep,O⟩:=dd.dictAt;have ZL:vs.length=kvs.length:=by rw [<- Zd.length];simp [ik]
 refine call_function_entry kind_sorted Ut UC (UE _) ?_;unfold OO.«sorted»
 refine we (m:=checkCount "sorted" 1 1 _) (Os (we (kdu_collect (A:=X.A.in1) (kdl_dict (knd:=aX X.prog X.w) (kvs:=vs) (ep:=ep) hd) (I.ok.hd hc) O (by rw [ZL,Py];lia) λh' tk Z2 W Zc=>?_)));have hl:Z2.toList.length=kvs.length:=by rw [Qa,<- ZL];exact Zc.1
 have hS:RC Z2.toList (kvs.map (·.1)):=xV (by rw [hl,Ow]) λj v hv=>by
  obtain ⟨k,x,hx,W⟩:=Zc.2 j v (by rw [<- Qm];exact hv);have hj:j<vs.length:=(OG.mp hx).1;have G:j<kvs.length:=by lia
  have J:(ik kvs)[j]?=some (.inl kvs[j].1,kvs[j].2):=by simp [ik,G]
  obtain ⟨u',F,_⟩:=Zd.at J;rw [hx] at F;cases F;rcases dJ (show fT (Sum.inl kvs[j].1) v=true from W) with ⟨i,t,S,J⟩|⟨y,t,S,J⟩
  .cases S;exact {t,by rw [J,OM,OT,KE G];rfl}
  .cases S
 have I1:Inv X Go σ H { s with heap:=h',toks:=tk }:=I.kept W;refine we (RT ?_ (by rw [hl,Py];lia));have U:(h'.push (Qo "list" Z2.toList.toArray 0)).get? h'.objs.size=some (Qo "list" Z2.toList.toArray 0):=ON _ rfl;refine we (OV (PU Tf {_,U,rfl} SV (list_sort_tree U hS (by rw [hl];exact XU) λout Yt b1 b2 b3=>{_,rfl,?_}) (Tq _)));obtain ⟨c,Z⟩:=sortedHeap_at (vs:=Z2.toList) (out:=out) U;refine Os {_,rfl,.ref h'.objs.size,upd H h'.objs.size (.lst (Yt.map V.int)),I1.laid (a:=h'.objs.size) (t':=tk) (λb o e=>?_) (OA _) {?_,out.toList,c,oP b1,by rw [SR];exact Z},rfl,q _ Yt _ (.mk' (I1.hok.fresh (OA _))) b2 b3}
 .have hb:b<h'.objs.size:=O2 e;rw [sortedHeap_old (Pl hb) (by rw [R4];exact Rb hb)];exact Ot _ e
 .have:=b2.length_eq;rw [Ow,this,Ow,Py];lia
end
theorem u7{tk tv:TE}(O:c=true->X.calm=true)(L:z6 X sc N' ix)(hi:W (PIc c X tg iter wi))(Z:∀Go C fp s H,W (PG (zz X sc N' Go C fp s H) tg g))(S:∀Go C fp s H,W (PTs (zz X sc N' Go C fp s H) G tt))(U:∀Go C fp s H,W (PE (zz X sc N' Go C fp s H) F tk))(hv:∀Go C fp s H,W (PE (zz X sc N' Go C fp s H) J tv))(hs:∀x,Pd iter X.env x=pure x:=by intro _;rfl):W (PE X (.DictComp F J [{tg,iter,G,0}] sc pos) (tDC ix wi g tt tk tv)):={EV O L hi.h (λa b c d e=>(Z a b c d e).h) (λa b c d e=>(S a b c d e).h) (λa b c d e=>(U a b c d e).h) (λa b c d e=>(hv a b c d e).h) hs}
theorem Ij:oK (.ref a) (.int i) H Q = ∃kvs,Rd H a (.dK kvs)/\∃v,ay kvs (.inl i)=some v/\Q v H:=by
 apply propext;constructor
 .rintro ⟨J,k,kvs,v,G,F,h1,h2,q⟩;cases G;cases k with
  | inl j=>cases F;exact ⟨kvs,h1,v,h2,q⟩
  | inr x=>cases F
 .rintro ⟨kvs,h1,v,h2,q⟩;exact {a,.inl i,kvs,v,rfl,rfl,h1,h2,q}
section
variable {K:Ov}{g:TG}{tt:TT}{te tk tv:TE}{σ:St}{H:Hp}{wi:TI}{ix:List (Option Nat)}{Q:VK}
def eV(J:It)(g:TG)(tt:TT)(tk tv:TE)(τ:St)(H:Hp)(Q:VK):Prop:=∃W:Nat->Nat->St->List (Key×V)->Hp->Prop,(∃m,W 0 m τ [] H)/\∀i m τ ys H2,W i m τ ys H2->ys.length<sizeLine /\
 ((J.stop i H2 ∧ ∀ D, H2 D = none → D ≠ sysModules → Q (.ref D) (upd H2 D (.dK ys))) ∨
  (J.go i H2 ∧ ∀ x H3, J.bg i H2 x H3 → g x τ H3 fun F H4 => tt F H4 fun ok H5 => if ok = true then tk F H5 fun y H6 => tv F H6 fun z H7 => uK y fun k => ∃ G, G < m ∧ W (i + 1) G F (aV ys k z) H7 else ∃ G, G < m ∧ W (i + 1) G F ys H5))
theorem GG:tDC ix wi g tt tk tv σ H Q=wi σ H λJ H1=>eV J g tt tk tv (cq ix σ) H1 Q:=rfl
def jx(N:St->List (Key×V)->Hp->Prop)(ys:List (Key×V))(F:St)(tk tv:TE)(ok:Bool)(H5:Hp):Prop:=if ok=true then tk F H5 λy H6=>tv F H6 λz H7=>uK y λk=>N F (aV ys k z) H7 else N F ys H5
theorem J9:jx N ys τ tk tv true H=tk τ H λy H6=>tv τ H6 λz H7=>uK y λk=>N τ (aV ys k z) H7:=rfl
theorem Nl:jx N ys τ tk tv false H=N τ ys H:=rfl
theorem eV.lst{a:Addr}{xs:List V}{τ:St}(G:Nat->St->List (Key×V)->Hp->Prop)(hz:∀i τ ys H,G i τ ys H->ys.length<sizeLine)(S:∀i τ ys H,G i τ ys H->SqL K H a xs)(W:G 0 τ [] H)
  (hs:∀(N:St->List (Key×V)->Hp->Prop) i x τ ys H,xs[i]?=some x->G i τ ys H->(∀τ ys H,G (i+1) τ ys H->N τ ys H)->g x τ H λF H4=>tt F H4 λok H5=>jx N ys F tk tv ok H5) (hd:∀τ ys H,G xs.length τ ys H->∀D H',New H D (.dK ys) H'->Q (.ref D) H'):eV (Itl K a) g tt tk tv τ H Q:=by
 refine {λi m τ ys H=>m=xs.length-i/\i<=xs.length/\G i τ ys H,{xs.length,'z',Pz _,W},?_};rintro i m τ ys H2 ⟨rfl,hi,p⟩;refine {hz i τ ys H2 p,?_};have q:=S i τ ys H2 p;by_cases O:i<xs.length
 .refine .inr {{xs,xs[i],q,by simp [O]},λx H' y=>?_};obtain ⟨e,y⟩:=y;subst e;exact hs (λF ys H=>∃J,J<xs.length-i/\J=xs.length-(i+1)/\i+1<=xs.length/\G (i+1) F ys H) i x τ ys _ (y xs q) p λF zs H q=>{xs.length-(i+1),'l',rfl,O,q}
 .have e:i=xs.length:=by lia
  subst e;exact .inl {{xs,q,OA _},λD U _=>hd τ ys H2 p D _ (.mk' U)}
end
end L2
namespace L2
open PySem PySem.Spec PyProof.Rows
def Ris(xs:Array Nat):Prop:=∀i j,i<j->j<xs.size->xs.getD i 0<xs.getD j 0
theorem Cw{xs:Array Nat}(h:i<xs.size):xs.getD i a=xs.getD i b:=by simp [getD,h]
structure tX(xs:Array Nat)(j b:Nat):Prop where
 le:b<=xs.size
 lo:∀i,i<b->xs.getD i 0<j
 hi:∀i,b<=i->i<xs.size->j<=xs.getD i 0
theorem rp(r:Ris xs):∀(f lo hi:Nat),lo<=hi->hi<=xs.size->hi<=lo+f->(∀i,i<lo->xs.getD i 0<j)->(∀i,hi<=i->i<xs.size->j<=xs.getD i 0)->tX xs j (O1.below.go xs j f lo hi)
 | 0,lo,hi,h1,h2,h3,a,b=>by
  have e:lo=hi:=by lia
  subst e;exact ⟨h2,a,b⟩
 | f+1,lo,hi,h1,h2,h3,a,b=>by
  unfold O1.below.go;split
  .rename_i h;have J:(lo+hi) / 2<xs.size:=by lia
   dsimp only;rw [Cw (a:=j) (b:=0) J];by_cases c:xs.getD ((lo+hi) / 2) 0<j
   .rw [if_pos c];refine rp r f ((lo+hi) / 2+1) hi 'l' h2 'l' (λi F=>?_) b;by_cases e:i=(lo+hi) / 2
    .subst e;exact c
    .have G:i<(lo+hi) / 2:=by lia
     exact Ra (r i ((lo+hi) / 2) G J) c
   .rw [if_neg c];refine rp r f lo ((lo+hi) / 2) 'l' 'l' 'l' a λi F hs=>?_;by_cases e:i=(lo+hi) / 2
    .subst e;lia
    .have G:(lo+hi) / 2<i:=by lia
     have:=r ((lo+hi) / 2) i G hs;lia
  .have e:lo=hi:=by lia
   subst e;exact ⟨h2,a,b⟩
theorem pJ(r:Ris xs)(j:Nat):tX xs j (O1.below xs j):=rp r _ _ _ (Pz _) (OA _) 'l' (λi h=>by lia) λi h1 h2=>by lia
theorem vT{p x i:Nat}(F:p<=xs.size):(O1.insertAt xs p x).getD i 0=if i<p then xs.getD i 0 else if i=p then x else xs.getD (i-1) 0:=by
 have hl:(xs.toList.take p).length=p:=by rw [Qf,Qa];lia
 rw [QG,<- Qm,O1.toList_insertAt];by_cases h:i<p
 .rw [if_pos h,List.getElem?_append_left 'l',List.getElem?_take_of_lt h,Qm,QG]
 .rw [if_neg h,RM 'l',hl];by_cases e:i=p
  .rw [if_pos e,e,Ua];rfl
  .rw [if_neg e,show i-p=(i-1-p)+1 by lia,Se,List.getElem?_drop,Qm,QG];congr 2;lia
theorem BB{p x:Nat}:(O1.insertAt xs p x).size=xs.size+1:=by
 have:=(O1.insertAt_perm xs p x).length_eq;simpa using this
theorem C1(r:Ris xs)(hn : ¬ xs[O1.below xs j]?=some j):Ris (O1.insertAt xs (O1.below xs j) j):=by
 have B:=pJ r j;generalize O1.below xs j=p at B hn;have G:=B.le;intro a b O J;rw [BB] at J;rw [vT G,vT G];have F:∀i,p<=i->i<xs.size->j<xs.getD i 0:=λi h1 h2=>by
  have h3:=B.hi i h1 h2;by_cases e:i=p
  .subst e;rcases Nat.lt_or_eq_of_le h3 with z|z
   .exact z
   .exact absurd (by rw [Po h2]; have : xs.getD i 0 = xs[i] := by simp [getD, h2]
                     rw [z, this]) hn
  .have:=r p i 'l' h2;have:=B.hi p (OA _) 'l';lia
 by_cases h1:b<p
 .rw [if_pos h1,if_pos 'l'];exact r a b O 'l'
 .rw [if_neg h1];by_cases h2:b=p
  .rw [if_pos h2,if_pos 'l'];exact B.lo a 'l'
  .rw [if_neg h2];by_cases h3:a<p
   .rw [if_pos h3];exact Ra (B.lo a h3) (F (b-1) 'l' 'l')
   .rw [if_neg h3];by_cases h4:a=p
    .rw [if_pos h4];exact F (b-1) 'l' 'l'
    .rw [if_neg h4];exact r (a-1) (b-1) 'l' 'l'
structure dh(bt:Bool)(t:O1):Prop where
 led:t.led = !bt
 cZ:t.dummies = #[]
 cK:Ris t.place
theorem xK:O1.has #[] j=false:=by simp [O1.has]
theorem Jx(n:Nat):Ris (Array.range n):=λi j h J=>by
 have G:j<n:=by simpa using J
 have F:i<n:=by lia
 simp [getD,F,G,h]
theorem k7{t:O1}(h:dh bt t)(n:Nat):dh bt (t.standIn n):={h.led,rfl,Jx n}
theorem Lf{t:O1}(h:dh bt t)(n:Nat):dh bt (t.orStandIn n):=by
 unfold O1.orStandIn;split
 .exact h
 .exact k7 h n
theorem Kx{t:O1}(h:t.dummies = #[])(j:Nat):(t.slot j = .empty/\¬ t.place[O1.below t.place j]?=some j)\/∃i,t.slot j = .live i:=by
 unfold O1.slot;dsimp only;split
 .exact .inr {_,rfl}
 .rename_i F;rw [h,xK];exact .inl {rfl,by simpa using F}
theorem sE{t:O1}(hd:t.dummies = #[]):∀(f:Nat)(p:O1.Probe)(j:Nat)(d:Option Nat),p.dummy=none->O1.probe.go t g h f p=some (.empty j d)->d=none/\¬ t.place[O1.below t.place j]?=some j
 | 0,p,j,d,_,e=>by cases e
 | f+1,p,j,d,G,e=>by
  have F:∀q:O1.Probe,(t.advance q).dummy=q.dummy:=λq=>by
   unfold O1.advance;split
   .rfl
   .rfl
  unfold O1.probe.go at e;rcases Kx hd p.j with ⟨h1,h2⟩|⟨i,h1⟩
  .rw [h1] at e;cases e;exact ⟨G,h2⟩
  .rw [h1] at e;dsimp only at e;split at e
   .cases e
   .exact sE hd f _ j d (by rw [F];exact G) e
theorem Km{t:O1}(h:dh bt t)(es:Array (Int×Value))(F:Int)(x:Value):dh bt (layNew t es F x).2.1:=by
 unfold layNew;split
 .rename_i slot wd e;refine Lf ?_ _;unfold O1.freeSlot at e;split at e
  .rename_i j d J;obtain ⟨rfl,G⟩:=sE h.cZ _ _ _ _ rfl J;cases e;refine {h.led,?_,C1 h.cK G};show (if O1.has t.dummies j=true then _ else t.dummies) = #[];rw [h.cZ,xK];rfl
  .cases e
 .exact k7 h _
theorem DZ{t:O1}(h:dh bt t)(es:Array (Int×Value))(n:Nat):dh bt (relayAll t es n).2.1:=by
 unfold relayAll;split
 .rename_i t' G e;dsimp only;split
  .unfold O1.relaid O1.laid at e;obtain ⟨owner,_,e⟩:=Option.bind_eq_some_iff.mp e;cases e;refine {h.led,rfl,λi j O F=>?_};have W:(((Pm (O1.sizeAbove n-1+1)).filterMap λj=>(owner.getD j none).map (j,·)).map (·.1)).Pairwise (· < ·):=by
    rw [Uu];refine Pairwise.filterMap _ (λa a' J b U Z S=>?_) List.pairwise_lt_range;obtain ⟨_,_,rfl⟩:=O7.mp U;obtain ⟨_,_,rfl⟩:=O7.mp S;exact J
   rw [OQ] at F;have:=List.pairwise_iff_getElem.mp W i j 'l' F O;rw [QG,QG,Sq,Sq,KE F,KE (Ra O F)];exact this
  .exact k7 h _
 .exact k7 h _
def btW(w:OW):Bool:=w.params.followText "set-order"
def dX(e:Int×Value):Int:=numOf e.2
structure zZ(prog:OE)(w:OW)(h:Heap)(a:Addr)(ns:List Int):Prop where
 ex:∃o es ep t,h.get? a=some o/\o.ExactSet/\o.data = .set es ep t/\ElemsOf (Qe prog w) es.toList/\t.fits es.size=true/\dh (btW w) t/\(es.toList.map dX).Perm ns
 few:ns.length<4000
section
variable {prog:OE}{w:OW}{A:OR}{E:Value->Oq->Prop}{s:Oq}
theorem zZ.size{h:Heap}{a:Addr}{ns:List Int}{es:Array (Int×Value)}(p:(es.toList.map dX).Perm ns):es.size=ns.length:=by
 have:=p.length_eq;rw [Ow,Qa] at this;exact this
theorem zZ.at(x:zZ prog w h a ns)(k:∀o,h.get? a=some o->h'.get? a=some o):zZ prog w h' a ns :=
 let ⟨o,es,ep,t,ho,r⟩:=x.ex;{{o,es,ep,t,k o ho,r},x.few}
theorem ql(h:(Qe prog w).is n v=true):∃t,v = .int n t:=by
 cases v with
 | int m t =>
  have e:(m==n)=true:=by simpa [Qe,TR] using h
  have e:m=n:=by simpa using e
  exact {t,by rw [e]}
 | _=>exact absurd h (by simp [Qe,TR])
theorem Gk(n:Int)(t:Tok):(Qe prog w).is n (.int n t)=true:=by simp [Qe,TR]
theorem JX(h:∀o,zZ prog w (s.heap.push o) s.heap.objs.size []->(∀v,o.data≠.cell v)->Q (.ref s.heap.objs.size) { s with heap:=s.heap.push o }):
  Oz (OI prog w) A (newSet (.type "set")) Q E s:=by
 unfold newSet setsByText;refine we (we (Rg (Os ?_)));dsimp only;simp only [newObj];refine we (wpAny_alloc (Os (h _ {{_,#[],0,_,ON _ rfl,{rfl,rfl,rfl},rfl,λe F=>by simp at F,by rfl,{rfl,rfl,λi j _ G=>by simp [O1.fresh] at G},QK.refl _},'d'} λv z=>by cases z)))
theorem wY{h:Heap}{o:Obj}{t:O1}(G:h.get? a=some o)(hd:o.data = .set es ep t)(F:Array (Int×Value))(t':O1):
  (h.update a (Obj.putSet F t')).get? a=some { o with data:=.set F (ep+1) t' }:=by
 have:=Pu (Obj.putSet F t') G (by rw [putSet_of F t' hd];rfl);rw [putSet_of F t' hd] at this;exact this
theorem JA(hS:zZ prog w s.heap a ns)(hr:ns.length<3000)(h:∀h' b,Qw a s.heap h'->zZ prog w h' a (if n∈ns then ns else ns++[n])->Q b { s with heap:=h',toks:=s.toks+1 }):
  Oz (OI prog w) A (setAdd a (.int n tk)) Q E s:=by
 obtain ⟨o,es,ep,t,ho,Yk,hd,J,hf,gt,pm⟩:=hS.ex;have hsz:=zZ.size (h:=s.heap) (a:=a) pm;have hb:es.size<scanBound:=by rw [hsz];exact Ra hr 'd'
 have X4:=Gk (prog:=prog) (w:=w) n tk;unfold setAdd;refine OV (we ((Qe prog w).pyHash X4 ?_));have Zi:∀h',Qw a s.heap h'->zZ prog w h' a (if n∈ns then ns else ns++[n])->∀b:Bool,Q b { s with heap:=h',toks:=s.toks+1 }:=λh' sb W b=>h h' b sb W;unfold setAddHashed setAddHashedIn;refine OV (we (QQ (s:={ s with toks:=s.toks+1 }) ho hd hf ?_));dsimp only;rw [byScan_of (x:=.int n tk) rfl hb J];simp only [↓reduceIte];unfold setAddByScan;refine we (we (Rn (we (wpAny_setScan_of (s:={ s with toks:=s.toks+1 }) X4 ho hd hf J ?_))));cases Z:List.findIdx? (λe=>(Qe prog w).is n e.2) es.toList with
 | some j =>
  dsimp only;obtain ⟨hj,aT,_⟩:=List.findIdx?_eq_some_iff_getElem.mp Z;have Xm:n∈ns:=by
   refine pm.mem_iff.mp (Pk.mpr {_,P0 hj,?_});obtain ⟨t',e⟩:=ql aT;show numOf (es.toList[j]).2=n;rw [e];rfl
  refine Os (Os ?_);have:=Zi s.heap (Qw.refl a s.heap) (by rw [if_pos Xm];exact hS) false;exact this
 | none =>
  dsimp only;have a0:n∉ns:=λXm=>by
   obtain ⟨e,he,ev⟩:=Pk.mp (pm.mem_iff.mpr Xm);obtain ⟨⟨k,hk,_⟩,_⟩:=J e he;obtain ⟨t',e2⟩:=ql hk;have:k=n:=by rw [<- ev];show k=numOf e.2;rw [e2];rfl
   subst this;have:=List.findIdx?_eq_none_iff.mp Z e he;rw [hk] at this;cases this
  rw [if_neg a0] at Zi;have XZ:=layNew_perm t es ((Qe prog w).hash n) (.int n tk);have Xz:=layNew_fits t es ((Qe prog w).hash n) (.int n tk);have Xy:=Km gt es ((Qe prog w).hash n) (.int n tk);generalize hL:layNew t es ((Qe prog w).hash n) (.int n tk)=L at XZ Xz Xy ⊢;obtain ⟨F,t1,WY,a4⟩:=L;dsimp only at XZ Xz Xy ⊢;rw [Array.toList_push] at XZ;have ax:ElemsOf (Qe prog w) F.toList:=(J.push X4 rfl).perm XZ;have ai:(F.toList.map dX).Perm (ns++[n]):=by
   have:=XZ.map dX;rw [Pe] at this;exact this.trans (pm.append (QK.refl _))
  have aI:F.size=ns.length+1:=by have:=zZ.size (h:=s.heap) (a:=a) ai;simpa using this
  have mk:∀{h':Heap}{G:Array (Int×Value)}{t2:O1}{e:Nat},h'.get? a=some { o with data:=.set G e t2 }->G.toList.Perm F.toList->t2.fits G.size=true->dh (btW w) t2->zZ prog w h' a (ns++[n]):=λ{h' G t2 e} Yw p f g=>{{_,G,e,t2,Yw,Yk,rfl,ax.perm p,f,g,(p.map dX).trans ai},by rw [Pb,PX];lia};have big:F.size<=sizeLine:=fits_of_scanBound (by rw [aI];exact O9 (Nat.succ_le_of_lt hr) 'd');have av:∀(b:Bool){s₁:Oq}{Q':Unit->Oq->Prop},Q' () s₁->Oz (OI prog w) A (match b with|true=>rule "set.scan.the-table-gave-way" | false=>pure ()) Q' E s₁:=λb s₁ Q' hq=>by cases b<;>first|exact Os hq|exact Rn hq
  refine we (av _ ?_);have tail:∀(t2:O1),t2.fits F.size=true->dh (btW w) t2->Oz (OI prog w) A (do
    storeSet a F t2
    if (!WY&&t2.tooFull)=true then do
      (match (relayAll t2 F (O1.grown F.size)).2.2 with|true=>rule "set.scan.the-table-gave-way" | false=>pure ())
      storeSet a (relayAll t2 F (O1.grown F.size)).1 (relayAll t2 F (O1.grown F.size)).2.1
      pure (some true)
     else pure (some true)) (λr s'=>r=some true/\∃h',Qw a s.heap h'/\zZ prog w h' a (ns++[n])/\s'={ s with heap:=h',toks:=s.toks+1 }) E { s with toks:=s.toks+1 }:=λt2 f2 g2=>by
   refine we (wpAny_storeSet_of (s:={ s with toks:=s.toks+1 }) ho hd ?_ big);have S:=wY ho hd F t2;have O:=Qw.update s.heap a (Obj.putSet F t2);split
   .have hp:=relayAll_perm t2 F (O1.grown F.size);have Yv:=relayAll_fits t2 F (O1.grown F.size);have U:=DZ g2 F (O1.grown F.size);generalize a5:relayAll t2 F (O1.grown F.size)=Rl at hp Yv U ⊢;obtain ⟨G,t3,a3⟩:=Rl;dsimp only at hp Yv U ⊢;have hsz:G.size=F.size:=by rw [<- Qa,hp.length_eq,Qa]
    refine we (av _ ?_);refine we (wpAny_storeSet_of S rfl ?_ (by rw [hsz];exact big));exact Os {rfl,_,O.trans (Qw.update _ a _),mk (wY S rfl G t3) hp Yv U,rfl}
   .exact Os {rfl,_,O,mk S (QK.refl _) f2 g2,rfl}
  split
  .refine we ?_;rw [hashByValue_scannable 8 rfl];refine Os ?_
   try simp only [↓reduceIte]
   refine O3 (tail t1 Xz Xy) ?_ (λ_ _ q=>q);rintro r s' ⟨rfl,h',sb,W,rfl⟩;dsimp only;exact Os (Zi h' sb W true)
  .refine we (Os ?_)
   try simp only [↓reduceIte]
   refine O3 (tail t1 Xz Xy) ?_ (λ_ _ q=>q);rintro r s' ⟨rfl,h',sb,W,rfl⟩;dsimp only;exact Os (Zi h' sb W true)
theorem add_int(G:zZ prog w s.heap a ns)(O:ns.length<3000)(h:∀h',Qw a s.heap h'->zZ prog w h' a (if n∈ns then ns else ns++[n])->Q .none { s with heap:=h',toks:=s.toks+1 }):
  Oz (OI prog w) A (call (.builtin "set.add") [.ref a,.int n tk]) Q E s:=by
 obtain ⟨o,es,ep,t,J,S,hd,_⟩:=G.ex;have typ:s.TypeIs (.ref a) "set":=⟨o,J,S.1⟩;refine PU F.slot_set_add typ F.entry_set_add ?_ (F.args_set_add_2 _ _);unfold OO.«set.add» OO.Frozenset.oneOther
 simp only [List.isEmpty_nil,bind_assoc];unfold OO.Frozenset.addrOf;refine we (Os (we (Os (we (JA G O λh' b W U=>Os {_,rfl,h h' W U})))))
end
def inB(e:OZ)(d:Nat)(iter:OZ)(Z2:Value)(env:Env):Sem Unit:=do
 let x<-Qc iter env
 Re iter.pos
 let x<-Pd iter env x
 let _<-runOwn (.compStart e d (<- Q1 [x] (pyIter x)) Z2 env) env
def emB(Y7:OZ)(Z2:Value)(env:Env):Sem Unit:=do
 let v<-Qc Y7 env
 Re Y7.pos
 let _<-call (.builtin "set.add") [Z2,v]
def d9(e:OZ)(d:Nat)(tg iter:OZ)(F:Sem Unit)(it Z2:Value)(env:Env):Sem Fin:=do
 Re iter.pos
 match<-RS it with
 | none=>pure (.done .next)
 | some v =>
  QU tg it v
  Tp tg env v
  F
  again (.compLoop e d it Z2 env)
section
variable {Y7 t0 i0 t1 i1 t2 i2:OZ}{sc:Scope}{pos:Pos}{it Z2:Value}{env:Env}
theorem MF(F:e = .SetComp Y7 [{t0,i0,[],0},{t1,i1,[],0},{t2,i2,[],0}] sc pos):Ud e 0 it Z2 env=d9 e 0 t0 i0 (inB e 1 i1 Z2 env) it Z2 env:=by
 subst F;unfold d9 inB;simp only [bind_assoc];rfl
theorem G8(F:e = .SetComp Y7 [{t0,i0,[],0},{t1,i1,[],0},{t2,i2,[],0}] sc pos):Ud e 1 it Z2 env=d9 e 1 t1 i1 (inB e 2 i2 Z2 env) it Z2 env:=by
 subst F;unfold d9 inB;simp only [bind_assoc];rfl
theorem Lq(F:e = .SetComp Y7 [{t0,i0,[],0},{t1,i1,[],0},{t2,i2,[],0}] sc pos):Ud e 2 it Z2 env=d9 e 2 t2 i2 (emB Y7 Z2 env) it Z2 env:=by
 subst F;unfold d9 emB;rfl
theorem vt(J:e = .SetComp Y7 gs sc pos){d:Nat}(hd:(clausesOf e)[d]?=some {tg,iter,[],0})(G:QE (OI prog w) A (.compLoop e d it Z2 env) R s)(h:Oz (OI prog w) A (pyIter it) (λF s'=>QE (OI prog w) A (.compLoop e d F Z2 env) R s') (notedBy (OI prog w) A env λx s'=>R (.error x) s') s):
  QE (OI prog w) A (.compStart e d it Z2 env) R s:=by
 subst J;refine codeAny_of_tree ?_;show Oz _ A ((compStart _ d it Z2 env).onRaise (λx=>do Sv x env;Re theWindowsPlace)) _ _ s;refine wpAny_notedAt ?_;unfold compStart;rw [hd];show Oz _ A (ask>>=_) _ _ s;refine we (Rg (wpAny_ite ?_));split
 .first
   | exact we (Os (Os (And.intro rfl G)))
   | exact Os (And.intro rfl G)
 .first
   | exact we (Rn (we (Pn (we (O3 h (λF s' h'=>Os (And.intro rfl h')) λ_ _ x=>x)))))
   | (refine we (Rn ?_);show Oz _ _ (Re iter.pos>>=_) _ _ s;exact we (Pn (we (O3 h (λF s' h'=>Os (And.intro rfl h')) λ_ _ x=>x))))
theorem Eh(W:e = .SetComp Y7 gs sc pos){d:Nat}(ht:Ud e d it Z2 env=d9 e d tg iter U it Z2 env)(I:Nat->Oq->Prop)(Z:∀n s,I n s->Oz (OI prog w) A (RS it) (λr s₁=>match r with
   | none=>R (.ok .next) s₁
   | some v=>Oz (OI prog w) A (QU tg it v) (λ_ F=>Oz (OI prog w) A (Tp tg env v) (λ_ G =>
     Oz (OI prog w) A U (λ_ s₃=>∃m,m<n/\I m s₃) (λ_ _=>False) G) (λ_ _=>False) F) (λ_ _=>False) s₁) (λ_ _=>False) s)(n:Nat)(h:I n s):QE (OI prog w) A (.compLoop e d it Z2 env) R s:=by
 subst W;refine codeAny_loop rfl I (λn s hI=>?_) n h;show Oz _ A ((Ud _ d it Z2 env).onRaise (λx=>do Sv x env;theTreesLotGoes x)) _ _ s;refine wpAny_noted (O3 (E:=λ_ _=>False) ?_ (λ_ _ q=>q) λ_ _ z=>z.elim);rw [ht];unfold d9;refine we (Pn (we (O3 (Z n s hI) (λr s₁ h₁=>?_) λ_ _ h'=>h')));cases r with
 | none=>exact Os h₁
 | some v =>
  refine we (O3 h₁ (λ_ F J=>?_) λ_ _ h'=>h');exact we (O3 J (λ_ G S=>we (O3 S (λok s₃ O=>Os {rfl,O}) λ_ _ h'=>h')) λ_ _ h'=>h')
end
abbrev TB:=St->List Int->Hp->(St->List Int->Hp->Prop)->Prop
def ag(ns:List Int)(n:Int):List Int:=if n∈ns then ns else ns++[n]
def BP(X:Cx)(D:Addr)(Go:List (Addr×Obj))(Q:St->List Int->Hp->Prop)(s':Oq):Prop :=
 ∃σ ns H,Inv X Go σ H s'/\H D=none/\zZ X.prog X.w s'.heap D ns/\Q σ ns H
def PB(X:Cx)(D:Addr)(m:Sem Unit)(tb:TB):Prop :=
 ∀(Go:List (Addr×Obj))(s:Oq)(σ:St)(H:Hp)(ns:List Int)(Q:St->List Int->Hp->Prop),Inv X Go σ H s->aE X Go H D->zZ X.prog X.w s.heap D ns->tb σ ns H Q ->
  Oz (OI X.prog X.w) X.A m (λ_ s'=>BP X D Go Q s') (λ_ _=>False) s
theorem aE.to(f:aE X Go H b)(h:H' b=none):aE X Go H' b:=⟨h,f.2⟩
theorem aE.more(f:aE X Go H b)(h:∀p∈pl,p.1≠b):aE X (Go++pl) H b :=
 {f.1,f.2.1,f.2.2.1,f.2.2.2.1,f.2.2.2.2.1,λp F=>by
  rcases OY.mp F with z|z
  .exact f.2.2.2.2.2 p (O4 _ z)
  .rcases OY.mp z with z|z
   .exact f.2.2.2.2.2 p (Ox _ z)
   .exact h p z}
theorem zZ.obj(x:zZ P w h D ns):∃o,h.get? D=some o/\∀v,o.data≠.cell v:=by
 obtain ⟨o,es,ep,t,F,_,hd,_⟩:=x.ex;exact {o,F,λv z=>by rw [hd] at z;cases z}
section
variable {X:Cx}{D:Addr}
theorem Inv.holds{o:Obj}(I:Inv X Go σ H s)(f:aE X Go H D)(F:s.heap.get? D=some o)(J:∀v,o.data≠.cell v):Inv X (Go++[(D,o)]) σ H s :=
 I.zk λp G=>(OY.mp G).elim (λz=>I.pin p (Ox _ z)) λz=>by
  have e:p=(D,o):=by simpa using z
  subst e;exact ⟨F,f.1,f.2.1,f.2.2.1,J⟩
theorem Inv.held{o:Obj}(I:Inv X (Go++[(D,o)]) σ H s):s.heap.get? D=some o/\H D=none :=
 let q:=I.pin (D,o) (Ox _ (Ox _ (OS.mpr rfl)));⟨q.1,q.2.1⟩
def gW(te:TE):TB:=λσ ns H Q=>te σ H λv H1=>∃n,v = .int n/\ns.length<3000/\Q σ (ag ns n) H1
theorem Ig(hx:X.xe=λ_ _=>False)(W:PE X Y7 te):PB X D (emB Y7 (.ref D) X.env) (gW te):=by
 intro Go s σ H ns Q I f U h;obtain ⟨o,S,hn⟩:=U.obj;unfold emB;have:=W (Go++[(D,o)]) s σ H _ (I.holds f S hn) h;rw [hx] at this;refine we (thn this λv s1=>x5e λx H1 O r1 Yc=>?_);obtain ⟨n,e,hl,q⟩:=Yc;subst e;obtain ⟨tk,rfl⟩:=r1;obtain ⟨G,F⟩:=O.held;have J:zZ X.prog X.w s1.heap D ns:=U.at λo' e=>by rw [S] at e;cases e;exact G
 refine we (Pn (we (add_int J hl λh' Z YG=>Os ?_)));obtain ⟨_,g1,_,g3,g4,g5⟩:=f.to F;exact {σ,_,H1,(O.q0 (Go:=Go)).turned (t':=s1.toks+1) (λb o hb e=>(Z.2 b hb).trans e) F g1 g3 g4 g5,F,YG,q}
def mh(W:Nat->Nat->St->List Int->Hp->Prop)(J:It)(g:TG)(tb:TB)(Fin:St->List Int->Hp->Prop):Prop :=
 ∀i m τ ns H2,W i m τ ns H2->(J.stop i H2/\Fin τ ns H2)\/(J.go i H2/\∀x H3,J.bg i H2 x H3->g x τ H3 λG H4=>tb G ns H4 λO F H5=>∃S,S<m/\W (i+1) S O F H5)
def gP(wi:TI)(g:TG)(tb:TB):TB:=λσ ns H Q=>wi σ H λJ H1=>∃W:Nat->Nat->St->List Int->Hp->Prop,(∃m,W 0 m σ ns H1)/\mh W J g tb Q
theorem vm{d:Nat}{W:Nat->Nat->St->List Int->Hp->Prop}{Fin:St->List Int->Hp->Prop}(he:e = .SetComp Y7 gs sc pos)(ht:Ud e d (.ref it) (.ref D) X.env=d9 e d tg iter ZQ (.ref it) (.ref D) X.env)(hx:X.xe=λ_ _=>False)(hc:c=true->X.calm=true)(hg:PG X tg g)(F:PB X D ZQ tb)(T:fY c X.prog X.w X.K tg J fp it tn)(Yh:D∉fp)(step:mh W J g tb Fin)(I:Inv X Go σ H s)(st:tn 0 s.heap)(ff:∀b∈fp,aE X Go H b)(fD:aE X Go H D)(hS:zZ X.prog X.w s.heap D ns)(w0:W 0 m σ ns H):
  QE (OI X.prog X.w) X.A (.compLoop e d (.ref it) (.ref D) X.env) (λr s'=>r = .ok .next/\∃a6 Yt H',Inv X Go a6 H' s'/\(∀b∈fp,H' b=none)/\H' D=none/\zZ X.prog X.w s'.heap D Yt/\Fin a6 Yt H') s:=by
 refine Eh he ht (λn s'=>∃i τ ys H',Inv X Go τ H' s'/\tn i s'.heap/\(∀b∈fp,H' b=none)/\H' D=none/\zZ X.prog X.w s'.heap D ys/\W i n τ ys H') ?_ m {0,σ,ns,H,I,st,λb F=>(ff b F).1,fD.1,hS,w0};rintro n s4 ⟨i,τ,ys,H4,I4,ax,aI,ai,U,w4⟩;obtain ⟨ob,dg,a4⟩:=U.obj;have a5:=I4.holds (fD.to ai) dg a4;have a7:∀b∈fp,aE X (Go++[(D,ob)]) H4 b:=λb F=>((ff b F).to (aI b F)).more λp hp=>by
  have e:p=(D,ob):=by simpa using hp
  subst e;exact λq=>Yh (by have q':D=b:=q;rw [q'];exact F)
 rcases step i n τ ys H4 w4 with ⟨stop,Zi⟩|⟨go,step⟩
 .refine thn (T.done X rfl rfl rfl hc i (Go++[(D,ob)]) s4 τ H4 (λ_ _=>False) a5 a7 ax stop) λr s5=>x2e λhr I5=>?_;subst hr;exact {rfl,τ,ys,H4,I5.q0,aI,ai,U.at λo' e=>by rw [dg] at e;cases e;exact I5.held.1,Zi}
 .refine thn (T.item X rfl rfl rfl hc i (Go++[(D,ob)]) s4 τ H4 (λ_ _=>False) a5 a7 ax go) λr s5=>x3e λu hr h5=>?_;subst hr;refine thn h5 λ_ s6=>x5e λx H6 I6 r6 XT=>?_;obtain ⟨y6,S,bp⟩:=XT;obtain ⟨Z,bx⟩:=I6.held;have a3:∀b∈D::fp,aE X Go H6 b:=λb F=>by
   rcases OK.mp F with z|z
   .subst z;exact fD.to bx
   .exact (ff b z).to (bp b z)
  have av:∀b∈D::fp,∃o,s6.heap.get? b=some o/\∀v,o.data≠.cell v:=λb F=>by
   rcases OK.mp F with z|z
   .subst z;exact {_,Z,a4}
   .exact T.obj _ _ S b z
  have bf:=(I6.q0 (Go:=Go)).pinned a3 av;have aT:=hg _ s6 τ H6 x u _ bf r6 (step x H6 y6);rw [hx] at aT;refine thn aT λ_ s7=>x4e λa0 H7 I7 q7=>?_;have G:∀b o,b∈D::fp->s6.heap.get? b=some o->s7.heap.get? b=some o/\H7 b=none:=λb o F e=>by
   have q:=I7.pin (b,o) (Ox _ (Ox _ (dA F e)));exact ⟨q.1,q.2.1⟩
  have bL:Inv X (Go++fe fp s6.heap) a0 H7 s7:=I7.zk λp hp=>I7.pin p (Ox _ ((OY.mp hp).elim (λz=>O4 _ z) λz=>Ox _ (by
   obtain ⟨z1,z2⟩:=mR z;exact dA (Oy _ z1) z2)))
  have ba:aE X (Go++fe fp s6.heap) H7 D:=(fD.to (G D _ OB Z).2).more λp hp z=>Yh (by rw [<- z];exact (mR hp).1);have bP:zZ X.prog X.w s7.heap D ys:=U.at λo' e=>by rw [dg] at e;cases e;exact (G D _ OB Z).1
  refine thn (F _ s7 a0 H7 ys _ bL ba bP q7) λ_ s8 bt=>?_;obtain ⟨b0,a8,H8,I8,a9,bq,m',hm,w'⟩:=bt;have O:∀b o,b∈fp->s6.heap.get? b=some o->s8.heap.get? b=some o/\H8 b=none:=λb o F e=>by
   have q:=I8.pin (b,o) (Ox _ (Ox _ (dA F e)));exact ⟨q.1,q.2.1⟩
  refine {m',hm,i+1,b0,a8,H8,I8.q0,T.keep _ _ _ S λb F o e=>(O b o F e).1,λb F=>?_,a9,bq,w'};obtain ⟨o,e,_⟩:=T.obj _ _ S b F;exact (O b o F e).2
theorem pb_loop{d:Nat}(he:e = .SetComp Y7 gs sc pos)(hd:(clausesOf e)[d]?=some {tg,iter,[],0})(ht:∀it,Ud e d (.ref it) (.ref D) X.env=d9 e d tg iter ZQ (.ref it) (.ref D) X.env)(hx:X.xe=λ_ _=>False)(hm:X.A.mark none=X.A)(hc:c=true->X.calm=true)(hi:PIc c X tg iter wi)(hg:PG X tg g)(Z:PB X D ZQ tb)(hs:∀x,Pd iter X.env x=pure x):PB X D (inB e d iter (.ref D) X.env) (gP wi g tb):=by
 intro Go s σ H ns Q I f hS h;obtain ⟨o,ho,hn⟩:=hS.obj;unfold inB;have G:=hi (Go++[(D,o)]) s σ H _ (I.holds f ho hn) h;rw [hx] at G;refine we (thn G λv s1 h1=>we (Pn ?_));rw [hs];refine we (Os (we (OV (thn h1 λax s2 h2=>?_))));obtain ⟨it,fp,tn,J,H2,e',I2,T,F,f2,W,⟨m0,w0⟩,step⟩:=h2;subst e';obtain ⟨U,ai⟩:=I2.held;have Yh:D∉fp:=λz=>(f2 D z).2.2.2.2.2 (D,o) (Ox _ (Ox _ (OS.mpr rfl))) rfl;have O:zZ X.prog X.w s2.heap D ns:=hS.at λo' e=>by rw [ho] at e;cases e;exact U
 have ff:∀b∈fp,aE X Go H2 b:=λb Z=>by
  obtain ⟨g0,g1,g2,g3,g4,g5⟩:=f2 b Z;exact {g0,g1,g2,g3,g4,λp hp=>g5 p ((OY.mp hp).elim (O4 _) λz=>Ox _ (O4 _ z))}
 have L:=vm he (ht it) hx hc hg Z T Yh step (I2.q0 (Go:=Go)) F ff (f.to ai) O w0;refine we (wpAny_runOwn ?_);rw [hm];have L':=QM L (R':=λr s'=>match r with | .ok f=>Oz (OI X.prog X.w) X.A (pure ()) (λ_ s'=>BP X D Go Q s') (λ_ _=>False) s' | .error e=>cameBackBy (OI X.prog X.w) X.A X.env (λ_ _=>False) e s') λr s' S=>by
  obtain ⟨hr,av,Yt,H',a,b,c,d,q⟩:=S;subst hr;exact Os ⟨av,Yt,H',a,c,d,q⟩
 exact vt he hd L' (T.self _ 0 _ _ _ F L')
def lM(tb:TB):TB:=λσ ns H Q=>tb σ ns H Q\/∃a kvs,H a=some (.dK kvs)/\∀o,tb σ ns (upd H a (.frz o (.dK kvs))) λF G H'=>mw a kvs H' (Q F G)
theorem Nj(h:PB X D m tb):PB X D m (lM tb):=by
 intro Go s σ H ns Q I f S F;rcases F with F|⟨a,kvs,e,q⟩
 .exact h Go s σ H ns Q I f S F
 obtain ⟨Z,o,I'⟩:=I.freeze e;have U:D≠a:=λz=>by have:=f.1;rw [z,e] at this;cases this
 refine thn (h Go s σ _ ns _ I' (f.to (by rw [zg U];exact f.1)) S (q o)) λ_ s1 O=>?_;obtain ⟨G,J,H1,W,d1,S1,o1,e1,q1⟩:=O;exact {G,J,_,W.bJ e1 Z,by rw [zg U];exact d1,S1,q1}
end
def gB(P:OE)(w:OW)(D:Addr)(ns:List Int):HO:=.ext λh=>zZ P w h D ns
theorem CN(x:zZ P w h D ns):aq P w H h D (gB P w D ns) :=
 {x,let ⟨o,e,_⟩:=x.obj;⟨o,e⟩,λh1 h2 F k=>F.at k}
theorem NK(x:HOk P w H h)(e:H D=some (gB P w D ns)):zZ P w h D ns:=(x D _ e).1
def tSC(P:OE)(w:OW)(ix:List (Option Nat))(wi:TI)(g:TG)(tb:TB):TE:=λσ H Q=>wi σ H λJ H1=>∃W:Nat->Nat->St->List Int->Hp->Prop,(∃m,W 0 m (cq ix σ) [] H1) /\
 mh W J g tb λ_ ns H2=>∀D,H2 D=none->D≠sysModules->Q (.ref D) (upd H2 D (gB P w D ns))
theorem HQ{c c1 c2:Bool}(hc:c=true->X.calm=true)(a4:c1=true->X.calm=true)(XI:c2=true->X.calm=true)(L:z6 X sc N' ix)(hi:PIc c X t0 i0 wi)(hg:∀Go C fp s H,PG (zz X sc N' Go C fp s H) t0 g)(a6:∀Go C fp s H,PIc c1 (zz X sc N' Go C fp s H) t1 i1 w1)(a3:∀Go C fp s H,PG (zz X sc N' Go C fp s H) t1 g1)(bq:∀Go C fp s H,PIc c2 (zz X sc N' Go C fp s H) t2 i2 w2)(a8:∀Go C fp s H,PG (zz X sc N' Go C fp s H) t2 g2)(he:∀Go C fp s H,PE (zz X sc N' Go C fp s H) Y7 te)(hs:∀x,Pd i0 X.env x=pure x:=by intro _;rfl)(ba:∀env x,Pd i1 env x=pure x:=by intro _ _;rfl)(a5:∀env x,Pd i2 env x=pure x:=by intro _ _;rfl):
  PE X (.SetComp Y7 [{t0,i0,[],0},{t1,i1,[],0},{t2,i2,[],0}] sc pos) (tSC X.prog X.w ix wi g (lM (gP w1 g1 (gP w2 g2 (gW te))))):=by
 intro Go s σ H Q I h;rw [arm_eval_SetComp];have Xb:RK sc X.env=pure (cz X.env.cells sc.names []):=uj λy hy hk=>I.ok.has y.1 (.inl (L.free y hy hk).1);refine wpAny_comprehension_free (use:=none) rfl hs Xb L.kind L.names (thn (hi Go s σ H _ I h) λv s1 h1=>thn h1 λbL s2 h2=>?_);obtain ⟨it,fp,tn,J,H2,e,I2,T,ax,f2,W,⟨m0,w0⟩,Yr⟩:=h2;subst e;refine JX λon ai bt=>wW ?_;dsimp only;generalize aT:s2.heap.push on=G at ai ⊢;have hC:G.objs.size=s2.heap.objs.size+1:=by rw [<- aT,Rh]
 have av:s2.heap.objs.size≠G.objs.size:=by rw [hC];exact Pl (RO _)
 have Yi:s2.heap.objs.size<=G.objs.size:=by rw [hC];exact RA _
 have below:∀b,b<s2.heap.objs.size->b≠G.objs.size/\b≠s2.heap.objs.size:=λb F=>{by rw [hC];exact Pl (Rb F),Pl F};have old:∀b o,s2.heap.get? b=some o->(Rj (G.push { cls:=.type "dict",data:=.dict #[] }) sc.names).get? b=some o:=λb o e=>Rw _ _ _ _ (Ot _ (aT ▸ Ot _ e));have Xa:(Rj (G.push { cls:=.type "dict",data:=.dict #[] }) sc.names).Ns G.objs.size λ_=>none:=(Ns.new G (.type "dict")).keeps (Rw _ _);have own:i6 X.env.cells sc G.objs.size (Rj (G.push { cls:=.type "dict",data:=.dict #[] }) sc.names):=.mk' (Rh ..);have Zc:zZ X.prog X.w (Rj (G.push { cls:=.type "dict",data:=.dict #[] }) sc.names) s2.heap.objs.size []:=ai.at λo e=>Rw _ _ _ _ (Ot _ e);generalize Rj (G.push { cls:=.type "dict",data:=.dict #[] }) sc.names=h₁ at old Xa own Zc ⊢;have fl:∀b∈fp,b<s2.heap.objs.size:=λb F=>by
  obtain ⟨o,e,_⟩:=T.obj 0 _ ax b F;exact O2 e
 have Yh:s2.heap.objs.size∉fp:=λz=>Ph _ (fl _ z);generalize hD:s2.heap.objs.size=D at *
 generalize bP:G.objs.size=C at *
 have aI:tn 0 h₁:=T.keep _ _ _ ax λb _ o e=>old b o e;have I3:Inv (zz X sc N' Go C fp s2 H2) [] (cq ix σ) H2 { s2 with heap:=h₁ }:=vW (tk:=s2.toks) I2 L f2 (λb F=>by rw [hD];exact fl b F) (by rw [hD];exact Yi) Xa old own;have D0:H2 D=none:=I2.hok.fresh (RR hD);have fD:aE (zz X sc N' Go C fp s2 H2) [] H2 D:=by
  refine {D0,av,λz=>?_,.inr (RR hD),λx c hx z=>?_,λp hp z=>?_}
  .obtain ⟨_,o,ho,_⟩:=I2.stack.mem (show D∈frs X.stack from z);exact absurd (O2 ho) (by rw [hD];exact Ph _)
  .rcases own.bq x c hx with a|a
   .have:=a.1;rw [z] at this;exact absurd this (TZ.mpr Yi)
   .obtain ⟨v,q⟩:=I2.cell x c a.1;have:=q.lt;rw [z,hD] at this;exact Ph _ this
  .have a7:p∈X.pn++Go:=by
    have:p∈(X.pn++Go)++[]:=hp;simpa using this
   have:=O2 (I2.pin p a7).1;rw [z,hD] at this;exact Ph _ this
 have fF:∀b∈fp,aE (zz X sc N' Go C fp s2 H2) [] H2 b:=λb F=>by
  obtain ⟨g0,g1,g2,g3,g4,g5⟩:=f2 b F;refine {g0,(below b (fl b F)).1,λz=>?_,.inl F,λx c hx=>?_,λp hp=>g5 p ?_}
  .rcases OK.mp (I2.U3 b z) with e|e
   .exact g1 e
   .exact g2 e
  .rcases own.bq x c hx with a|a
   .have:=a.1;have:=fl b F;exact λz=>by subst z;lia
   .exact g4 x c a.1
  .have:p∈(X.pn++Go)++[]:=hp;simpa using this
 generalize Z:OZ.SetComp Y7 [{t0,i0,[],0},{t1,i1,[],0},{t2,i2,[],0}] sc pos=E;have F:=Nj <| pb_loop (X:=zz X sc N' Go C fp s2 H2) (D:=D) (c:=c1) Z.symm (d:=1) (by rw [<- Z];rfl) (λ_=>G8 Z.symm) rfl rfl a4 (a6 Go C fp s2 H2) (a3 Go C fp s2 H2) (pb_loop (c:=c2) Z.symm (d:=2) (by rw [<- Z];rfl) (λ_=>Lq Z.symm) rfl rfl XI (bq Go C fp s2 H2) (a8 Go C fp s2 H2) (Ig rfl (he Go C fp s2 H2)) (a5 _)) (ba _);have a0:=vm (X:=zz X sc N' Go C fp s2 H2) Z.symm (MF Z.symm) rfl hc (hg Go C fp s2 H2) F T Yh Yr I3 aI fF fD Zc w0;have S:=QM a0 (R':=compPost (OI X.prog X.w) X.A X.xe none (EP X Go σ Q) (.ref D) C) λr s5 Yc=>by
  obtain ⟨hr,b0,ns,H5,I5,bx,O,a9,Zi⟩:=Yc;subst hr;obtain ⟨m5,bf,_⟩:=id I5.loc;refine {m5,bf,λh' Xu=>?_};have kb:∀b u,b≠C->s5.heap.get? b=some u->h'.get? b=some u:=λb u F e=>(Xu.2 b F).trans e;have ZE:∀b o,s2.heap.get? b=some o->b≠C/\b≠D:=λb o e=>by
   have:=O2 e;rw [hD] at this;exact below b this
  have bp:D≠sysModules:=by have h:OH<s2.heap.objs.size:=(I2.mod.glob.keeps I2.bk).lt;rw [hD] at h;exact RU (Ra 'd' h)
  have U:=I5.base;refine {.ref D,upd H5 D (gB X.prog X.w D ns),I2.aX (s':={ s5 with heap:=h' }) (ch:=fp) I5.os {λb o e n F hx=>kb b o (ZE b o e).1 (U.keep b o e n F hx),λb o e n F hx=>?_,λb o e n hx=>?_,λb o e hx=>?_,λb xs e=>?_,λb o u e=>?_,λb ps e=>?_} ?_ I5.bare (λb F=>?_),rfl,Zi D O bp}
  .obtain ⟨sl,q⟩:=U.slot b o e n F hx;exact {sl,kb b _ (ZE b o e).1 q}
  .rw [zg (ZE b o e).2];exact U.free b o e n hx
  .obtain ⟨o',q⟩:=U.there b o e hx;exact {o',kb b _ (ZE b o e).1 q}
  .have q:=U.tups b xs e;rw [zg (zH q O)];exact q
  .have q:=U.frzs b o u e;rw [zg (zH q O)];exact q
  .obtain ⟨more,q⟩:=U.tbls b ps e;exact {more,by rw [zg (zH q O)];exact q}
  .exact (I5.hok.but I5.free kb).add O (CN (a9.at λo e=>kb D o av e))
  .obtain ⟨_,g1,g2,g3,g4,g5⟩:=f2 b F;exact ⟨g3,g1,g4,g5⟩
 exact vt Z.symm (by rw [<- Z];rfl) S (T.self _ 0 _ _ _ aI S)
theorem Ag:Manifest.owners.lookup (String.ofList ['r','o','t','a','r','e','t','i','_','t','e','s'].reverse)=some Manifest.sig_set_iterator:=by kernel_rfl
theorem i4:Slot "set_iterator" "__next__" "set_iterator.__next__" :=
 .of (owner:="set_iterator") (n:="__next__") (by rw [typeLookup_type,builtinLookup_eq_fast];kernel_rfl) (f!"") (f!"") (f!"")
  (by first|exact .inl (f!"")|exact .inr (f!"")) (by rw [isSubtype_type];kernel_rfl)
theorem KI:entryFor table "set_iterator.__next__"=some OO.«set_iterator.__next__»:=entryFor_of_tree (by kernel_rfl)
theorem LF(a:Value):UF "set_iterator.__next__" {[a],[]}:=by
 unfold UF;rw [signature?_of (id:="set_iterator.__next__") (n:=['_','_','t','x','e','n','_','_']) (o:=['r','o','t','a','r','e','t','i','_','t','e','s']) (by kernel_rfl) Ag];kernel_rfl
theorem vh:Slot "set_iterator" "__iter__" "set_iterator.__iter__" :=
 .of (owner:="set_iterator") (n:="__iter__") (by rw [typeLookup_type,builtinLookup_eq_fast];kernel_rfl) (f!"") (f!"") (f!"")
  (by first|exact .inl (f!"")|exact .inr (f!"")) (by rw [isSubtype_type];kernel_rfl)
theorem Bu:entryFor table "set_iterator.__iter__"=some OO.«dict_keyiterator.__iter__»:=entryFor_alias (id':="dict_keyiterator.__iter__") (by kernel_rfl) rfl (f!"") (by kernel_rfl)
theorem Er(a:Value):UF "set_iterator.__iter__" {[a],[]}:=by
 unfold UF;rw [signature?_of (id:="set_iterator.__iter__") (n:=['_','_','r','e','t','i','_','_']) (o:=['r','o','t','a','r','e','t','i','_','t','e','s']) (by kernel_rfl) Ag];kernel_rfl
theorem FZ:entryFor table "set.__iter__"=some OO.«frozenset.__iter__»:=entryFor_alias (id':="frozenset.__iter__") (by kernel_rfl) rfl (f!"") (by kernel_rfl)
section
variable {prog:OE}{w:OW}{A:OR}{E:Value->Oq->Prop}{s:Oq}
theorem GO(G:n≠0)(h:∀i d,i<n->Q i { s with drawn:=d }):Oz (OI prog w) A (choose F n) Q E s:=by
 intro Γ p J;unfold choose;rw [Sem.wp_choose];exact {G,h _ _ (Nat.mod_lt _ (Nat.pos_of_ne_zero G))}
theorem mU{α:Type}:∀{xs:List α}{i:Nat}(h:i<xs.length),(xs[i]::xs.eraseIdx i).Perm xs
 | x::xs,0,h=>QK.refl _
 | x::xs,i+1,h=>by
  have:=mU (xs:=xs) (i:=i) (by simpa using h);exact (QK.swap _ _ _).trans (this.cons x)
theorem wz{α:Type}:∀(n:Nat)(xs:List α)(s:Oq)(Q:List α->Oq->Prop),xs.length=n->(∀l d,l.Perm xs->Q l { s with drawn:=d })->Oz (OI prog w) A (drawOrder n xs) Q E s
 | 0,xs,s,Q,hl,h=>by
  have:xs=[]:=QJ.mp hl;subst this;exact Os (h [] s.drawn (QK.refl _))
 | n+1,[],s,Q,hl,h=>by cases hl
 | n+1,x::xs,s,Q,hl,h=>by
  unfold drawOrder;refine we (GO 'z' λi d hi=>?_);rw [KE hi];dsimp only;have le:((x::xs).eraseIdx i).length=n:=by rw [Tu hi];simpa using hl
  refine we (wz n _ _ _ le λl d' p=>Os ?_);exact h _ _ ((p.cons _).trans (mU hi))
def itO(a:Addr)(n ep:Nat)(first:Value)(i:Nat):Obj:={ cls:=.type "set_iterator",data:=.fields #[first,.int i 0,.ref a,.int n 0,.int ep 0] }
structure SIt(h:Heap)(I a:Addr)(n ep:Nat)(first:Value)(i:Nat):Prop where
 ex:∃o,h.get? I=some o/\o.cls = .type "set_iterator"/\o.data = .fields #[first,.int i 0,.ref a,.int n 0,.int ep 0]
theorem SIt.at(x:SIt h I a n ep first i)(k:∀o,h.get? I=some o->h'.get? I=some o):SIt h' I a n ep first i:=let ⟨o,ho,r⟩:=x.ex;{{o,k o ho,r}}
theorem SIt.typ(x:SIt s.heap I a n ep first i):s.TypeIs (.ref I) "set_iterator":=let ⟨o,ho,hc,_⟩:=x.ex;⟨o,ho,hc⟩
section
variable {a:Addr}{o:Obj}{es:Array (Int×Value)}{ep:Nat}{t:O1}
theorem Nn(G:s.heap.get? a=some o)(W:o.ExactSet)(hd:o.data = .set es ep t)(hf:t.fits es.size=true)(hz:es.size<=sizeLine)(h1:(btW w=true\/t.plain=true\/es.size<=1)->Q (.ref s.heap.objs.size) { s with heap:=s.heap.push (itO a es.size ep (.int 0 0) 0) })(h2:∀(ps:List Nat) d,btW w=false->ps.Perm (Pm es.size)->Q (.ref (s.heap.objs.size+1)) { s with heap:=(s.heap.push { cls:=.type "tuple",data:=.seq (ps.map λ(i:Nat)=>Px i).toArray }).push (itO a es.size ep (.ref s.heap.objs.size) 0),drawn:=d }):
  Oz (OI prog w) A (pyIter (.ref a)) Q E s:=by
 have J:s.TypeIs (.ref a) "set":=⟨o,G,W.1⟩;refine wpAny_pyIter_slot J F.slot_set_iter (PU F.slot_set_iter J FZ ?_ (F.args_set_iter_1 _));unfold OO.«frozenset.__iter__» OO.Frozenset.slot0 slotArgs
 simp only [List.isEmpty_nil,Bool.not_true,Qu,↓reduceIte,bind_assoc,Sx,bne_self_eq_false];unfold OO.Frozenset.addrOf OO.Frozenset.sizeOf;refine we (Os ?_)
 try dsimp only
 refine we (Os ?_);refine we (we (wpAny_setEntries_of G hd hf (Os ?_)));unfold setDrawn;refine we (we (QQ G hd hf ?_));dsimp only;unfold setsByText;refine we (we (Rg (Os (Os ?_))));show Oz _ _ (if (!btW w&&(!t.plain&&decide (es.size>1)))=true then _ else _) _ _ _;by_cases c:(!btW w&&(!t.plain&&decide (es.size>1)))=true
 .rw [if_pos c];simp only [O5,Uv,decide_eq_true_eq] at c;refine we (wz es.size _ s _ TV λps d pm=>we (wpAny_newTuple ?_ (by rw [Ow,pm.length_eq,TV];exact hz)));have U:((s.heap.push { cls:=.type "tuple",data:=.seq (ps.map λ(i:Nat)=>Px i).toArray }).get? a)=some o:=Ot _ G;unfold setEpoch;refine we (we (QQ U hd hf (Os ?_)));refine we (Pp (Os {_,rfl,"set_iterator",_,{_,ON _ rfl,rfl},i4.lookup,?_}));have:=h2 ps d c.1 pm;rw [<- Rh] at this;exact this
 .rw [if_neg c];have c':btW w=true\/t.plain=true\/es.size<=1:=by
   cases S:btW w
   .cases O:t.plain
    .rw [S,O] at c;right;right;simpa using c
    .right;left;rfl
   .left;rfl
  refine we (Os ?_);unfold setEpoch;refine we (we (QQ G hd hf (Os ?_)));exact we (Pp (Os {_,rfl,"set_iterator",_,{_,ON _ rfl,rfl},i4.lookup,h1 c'}))
def cH(w:OW)(a:Addr)(es:Array (Int×Value))(ep:Nat):Array (Int×Value):=if btW w=true then Sb (w.params.setOrder a ep) es else es
def Fst(w:OW)(t:O1)(n i:Nat)(first:Value):Prop:=∃k:Nat,first = .int k 0/\(btW w=false->O1.below t.place k=i)
theorem CP{k i:Nat}(O:s.heap.get? a=some o)(hd:o.data = .set es ep t)(hf:t.fits es.size=true)(g:dh (btW w) t)(c:btW w=true\/t.plain=true\/es.size<=1)(U:btW w=false->O1.below t.place k=i)(h1:∀e k',(cH w a es ep)[i]?=some e->(btW w=false->O1.below t.place k'=i+1)->Q (some (e.2,k')) s)(h2:(cH w a es ep)[i]?=none->Q none s):
  Oz (OI prog w) A (setNext a k i ep) Q E s:=by
 unfold setNext;refine we (QQ O hd hf ?_);dsimp only;unfold setsByText;refine we (we (Rg (Os ?_)));show Oz _ _ (if btW w=true then _ else _) _ _ _;have Yq:t.place.size=es.size:=by
  unfold O1.fits at hf;simp only [O5,beq_iff_eq] at hf;exact hf.1
 cases F:btW w
 .rw [if_neg OP];have W:t.plain=true\/es.size<=1:=c.resolve_left (by rw [F];exact OP);show Oz _ _ (if (!t.plain&&decide (es.size>1))=true then _ else _) _ _ _;rw [if_neg (show ¬ ((!t.plain&&decide (es.size>1))=true) from by
   simp only [O5,Uv,decide_eq_true_eq,not_and];intro h3;rcases W with h4|h4
   .rw [h3] at h4;cases h4
   .lia)]
  have G:t.led=true:=by rw [g.led,F];rfl
  have J:cH w a es ep=es:=by unfold cH;rw [if_neg (by rw [F];exact OP)]
  rw [J] at h1 h2;refine we ?_;show Oz _ _ (if (!t.led && !es.isEmpty)=true then _ else _) _ _ _;rw [if_neg (show ¬ ((!t.led && !es.isEmpty)=true) from by rw [G];simp)];refine Os (Os ?_);rw [U F];cases e:es[i]? with
  | none=>exact h2 e
  | some x =>
   have hi:i<es.size:=(PC.mp e).1;have S:t.place[i]?=some t.place[i]:=Po 'l';rw [S];refine h1 x _ e λ_=>?_;have B:=pJ g.cK (t.place[i]+1);have gi:t.place.getD i 0=t.place[i]:=by simp [getD,show i<t.place.size by lia]
   have lo:i<O1.below t.place (t.place[i]+1):=by
    rcases Nat.lt_or_ge i (O1.below t.place (t.place[i]+1)) with z|z
    .exact z
    .have:=B.hi i z 'l';lia
   rcases Nat.lt_or_ge (i+1) (O1.below t.place (t.place[i]+1)) with z|z
   .have Z:=B.lo (i+1) z;have l2:=g.cK i (i+1) 'l' (by have:=B.le;lia);lia
   .lia
 .rw [if_pos rfl];rw [if_neg 'z'];unfold setWalk;refine we (we (QQ O hd hf ?_));dsimp only;unfold setsByText;refine we (we (Rg (Os ?_)));show Oz _ _ (if btW w=true then _ else _) _ _ _;rw [if_pos F];refine we (Rg (Os (Os ?_)));have J:cH w a es ep=Sb (w.params.setOrder a ep) es:=by unfold cH;rw [if_pos F]
  rw [J] at h1 h2;show Q (((Sb (w.params.setOrder a ep) es)[i]?).map λe=>(e.2,k)) s;cases e:(Sb (w.params.setOrder a ep) es)[i]? with
  | none=>exact h2 e
  | some x=>exact h1 x k e λz=>by rw [F] at z;cases z
end
end
section
variable {prog:OE}{w:OW}{A:OR}{E:Value->Oq->Prop}{s:Oq}
variable {a I:Addr}{o:Obj}{es:Array (Int×Value)}{ep:Nat}{t:O1}{i:Nat}
theorem SIt.cp{n k':Nat}(x:SIt s.heap I a n ep first i):∀h':Heap,h'=s.heap.update I (RN (·.setIfInBounds 0 (Px k')))->SIt h' I a n ep (.int k' 0) i/\Qw I s.heap h':=λh' e=>by
 subst e;obtain ⟨o,F,G,hd⟩:=x.ex;exact {{{_,Pu _ F (Qi (QO hd _)),(RB ..).trans G,by rw [QO hd];simp [Px]}},Qw.update ..}
theorem SIt.cn(x:SIt s.heap I a n ep first i):∀h':Heap,h'=s.heap.update I (RN (·.setIfInBounds 1 (Px ((i:Int)+1))))->SIt h' I a n ep first (i+1)/\Qw I s.heap h':=λh' e=>by
 subst e;obtain ⟨o,F,G,hd⟩:=x.ex;exact {{{_,Pu _ F (Qi (QO hd _)),(RB ..).trans G,by rw [QO hd];simp [Px]}},Qw.update ..}
theorem wU(G:SIt s.heap I a es.size ep first i)(S:s.heap.get? a=some o)(hd:o.data = .set es ep t)(hf:t.fits es.size=true)(h:Oz (OI prog w) A.in1 (match first with
   | .int slot _=>do
    match<-setNext a slot.toNat i ep with
    | some (x,next) =>
     RH (.ref I) 0 (Px next)
     RH (.ref I) 1 (Px ((i:Int)+1))
     ret x
    | none=>RH (.ref I) 2 .none;SI (<- newExc (.type "StopIteration") [])
   | _=>do
    let some places<-Ub first|unsupported "internal:set_iterator"
    match places[i]? with
    | some (.int F _) =>
     let x<-setNextDrawn a F.toNat ep
     RH (.ref I) 1 (Px ((i:Int)+1))
     ret x
    | some _=>unsupported "internal:set_iterator"
    | none=>RH (.ref I) 0 (Px 0);RH (.ref I) 2 .none;SI (<- newExc (.type "StopIteration") []))
   (λO s'=>∃v,O = .done (.ret v)/\Q (some v) s') (λe s'=>Oz (OI prog w) A (do if<-isInstance e (.type "StopIteration") then pure none else throw e) Q E s') s):
  Oz (OI prog w) A (RS (.ref I)) Q E s:=by
 obtain ⟨oi,J,U,W⟩:=G.ex;unfold RS;refine we (wpAny_attempt (Rf (name:=Ou "__next__") G.typ i4 (PU i4 G.typ KI ?_ (LF _))));unfold OO.«set_iterator.__next__»
 refine we (Os ?_);refine we (wpAny_fieldsOf J W ?_);dsimp only;refine we (wpAny_setEntries_of S hd hf ?_);rw [if_neg 'z'];simp only [Qk];refine O3 h ?_ ?_
 .rintro O s' ⟨v,rfl,q⟩;exact {_,rfl,Os q}
 .intro e s' q;exact q
theorem xA(G:A.handled=none)(F:ExtBut I s.heap h1)(J:∀h',ExtBut I s.heap h'->Q none { s with heap:=h' }):
  Oz (OI prog w) A.in1 (do SI (<- newExc (.type "StopIteration") []):Sem Fin) (λO s'=>∃v,O = .done (.ret v)/\Q (some v) s') (λe s'=>Oz (OI prog w) A (do if<-isInstance e (.type "StopIteration") then pure none else throw e) Q E s') { s with heap:=h1 }:=by
 refine we ?_;simp only [newExc,newTuple];refine we (Pp ?_ (by size_fits));refine we (m:=Tn _ _) (TK (a:=Pf) (by first|rfl|(simp only [Tn];rfl)) ?_);refine Pp ?_ (by size_fits);simp only [SI];refine we (wpAny_handled ?_);rw [show A.in1.handled=none from G];refine we (Os (TF ?_));refine we (Sr (T:="StopIteration") (b:=true) {_,ON _ rfl,rfl} isSubtype_stop ?_);exact Os (J _ ((F.push _).push _))
theorem AC{k:Nat}(hh:A.handled=none)(G:SIt s.heap I a es.size ep (.int k 0) i)(ho:s.heap.get? a=some o)(hd:o.data = .set es ep t)(hf:t.fits es.size=true)(g:dh (btW w) t)(c:btW w=true\/t.plain=true\/es.size<=1)(hb:btW w=false->O1.below t.place k=i)(h1:∀e k' h',(cH w a es ep)[i]?=some e->(btW w=false->O1.below t.place k'=i+1)->SIt h' I a es.size ep (.int k' 0) (i+1)->Qw I s.heap h'->Q (some e.2) { s with heap:=h' })(h2:(cH w a es ep)[i]?=none->∀h',ExtBut I s.heap h'->Q none { s with heap:=h' }):Oz (OI prog w) A (RS (.ref I)) Q E s:=by
 refine wU G ho hd hf ?_;dsimp only;refine we (CP ho hd hf g c (by simpa using hb) (λe k' J Ye=>?_) λJ=>?_)
 .dsimp only;obtain ⟨oi,F,U,W⟩:=G.ex;refine we (PK F W 'z' ?_);obtain ⟨x1,S⟩:=G.cp (k':=k') _ rfl;obtain ⟨oj,ai,av,O⟩:=x1.ex;refine we (PK ai O 'z' ?_);obtain ⟨x2,Z⟩:=SIt.cn (s:={ s with heap:=s.heap.update I (RN (·.setIfInBounds 0 (Px k'))) }) x1 _ rfl;exact Os {_,rfl,h1 e k' _ J Ye x2 (S.trans Z)}
 .dsimp only;obtain ⟨oi,F,U,W⟩:=G.ex;refine we (PK F W 'z' ?_);exact xA hh (Qw.update ..).extBut (h2 J)
theorem yy{ps:List Nat}(hh:A.handled=none)(G:SIt s.heap I a es.size ep (.ref T) i)(ho:s.heap.get? a=some o)(hd:o.data = .set es ep t)(hf:t.fits es.size=true)(hT:s.heap.get? T=some Z)(S:Z.data = .seq (ps.map λ(i:Nat)=>Px i).toArray c)(pm:ps.Perm (Pm es.size))(h1:∀p e h',ps[i]?=some p->es[p]?=some e->SIt h' I a es.size ep (.ref T) (i+1)->Qw I s.heap h'->Q (some e.2) { s with heap:=h' })(h2:ps[i]?=none->∀h',ExtBut I s.heap h'->Q none { s with heap:=h' }):Oz (OI prog w) A (RS (.ref I)) Q E s:=by
 refine wU G ho hd hf ?_;dsimp only;refine we (RE hT S ?_);dsimp only;obtain ⟨oi,F,av,YE⟩:=G.ex;rw [Sq,OT];cases e:ps[i]? with
 | none =>
  dsimp only [Option.map_none];refine we (PK F YE 'z' ?_);obtain ⟨x1,U⟩:=G.cp (k':=0) _ rfl;obtain ⟨oj,O,ai,J⟩:=x1.ex;refine we (PK O J 'z' ?_);exact xA (s:=s) (I:=I) hh (U.trans (Qw.update ..)).extBut (h2 e)
 | some p =>
  have hp:p<es.size:=by
   have:=pm.mem_iff.mp (Pc e);simpa using this
  have he:es[p]?=some es[p]:=Po hp;dsimp only [map_some,Px];unfold setNextDrawn;refine we (we (QQ ho hd hf ?_));dsimp only;rw [if_neg 'z',Qk,he];refine Os ?_;refine we (PK F YE 'z' ?_);obtain ⟨x2,W⟩:=G.cn _ rfl;exact Os {_,rfl,h1 p es[p] _ e he x2 W}
theorem Am(F:SIt s.heap I a n ep first i)(h:Q (.ref I) s):Oz (OI prog w) A (pyIter (.ref I)) Q E s:=by
 refine wpAny_pyIter_slot F.typ vh (PU vh F.typ Bu ?_ (Er _));show Oz _ _ (ret (.ref I)) _ _ s;exact Os {_,rfl,"set_iterator",_,F.typ,i4.lookup,h}
end
theorem xS{α:Type}(nx:Nat->Nat):∀(f k:Nat)(left:List α)(out:Array α),left.length=f->(Sb.go nx f k left out).toList.Perm (out.toList++left)
 | 0,k,left,out,h=>by
  have:left=[]:=QJ.mp h;subst this;unfold Sb.go;simp
 | f+1,k,left,out,h=>by
  have F:0<left.length:=by lia
  have hi:nx k % left.length<left.length:=Nat.mod_lt _ F;unfold Sb.go;rw [KE hi];dsimp only;refine (xS nx f (k+1) _ _ (by rw [Tu hi,h];rfl)).trans ?_;rw [Array.toList_push,O6];exact QK.append_left _ (mU hi)
theorem ML{α:Type}(nx:Nat->Nat)(xs:Array α):(Sb nx xs).toList.Perm xs.toList:=by
 have:=xS nx xs.size 0 xs.toList #[] 'z';unfold Sb;simpa using this
theorem Ln:(cH w a es ep).toList.Perm es.toList:=by
 unfold cH;split
 .exact ML _ _
 .exact QK.refl _
theorem m6:∀{l:List (Int×Value)},ElemsOf (Qe prog w) l->RC (l.map (·.2)) (l.map dX)
 | [],_=>.nil
 | e::l,h=>by
  obtain ⟨⟨k,F,_⟩,_⟩:=h e OB;obtain ⟨t,G⟩:=ql F;have:=m6 (l:=l) λx hx=>h x (Oy _ hx);show RC (e.2::_) (numOf e.2::_);rw [G];exact .cons _ _ this
structure CU(prog:OE)(w:OW)(A:OR)(h0 h:Heap)(a I:Addr)(ns:List Int):Prop where
 new:h0.objs.size<=I
 old:∀b o,h0.get? b=some o->h.get? b=some o
 ex:∃(L:List Value)(ms:List Int)(fp:List Addr)(St:Nat->Heap->Prop),RC L ms/\ms.Perm ns/\(∀b∈fp,b=a\/h0.objs.size<=b)/\Walks prog w A I fp [I] L.length (λi v=>L[i]?=some v) St/\St 0 h
section
variable {prog:OE}{w:OW}{A:OR}{E:Value->Oq->Prop}{s:Oq}
theorem JY(hh:A.handled=none)(hS:zZ prog w s.heap a ns)(h:∀I h' d,CU prog w A s.heap h' a I ns->Q (.ref I) { s with heap:=h',drawn:=d }):Oz (OI prog w) A (pyIter (.ref a)) Q E s:=by
 obtain ⟨o,es,ep,t,ho,Yk,hd,av,hf,gt,pm⟩:=hS.ex;have hsz:=zZ.size (h:=s.heap) (a:=a) pm;have hz:es.size<=sizeLine:=by rw [hsz,Py];have:=hS.few;lia
 have W:=O2 ho;refine Nn ho Yk hd hf hz (λc=>?_) λps d XA pp=>?_
 .have op:=Ln (w:=w) (a:=a) (es:=es) (ep:=ep);have ai:=av.perm op;have U:(cH w a es ep).toList.length=es.size:=by rw [op.length_eq,Qa]
  have S:∀i,(cH w a es ep)[i]?=(cH w a es ep).toList[i]?:=λi=>(Qm).symm;have:=h s.heap.objs.size (s.heap.push (itO a es.size ep (.int 0 0) 0)) s.drawn {OA _,λb o e=>Ot _ e,(cH w a es ep).toList.map (·.2),(cH w a es ep).toList.map dX,[s.heap.objs.size,a],λi h=>(∃k:Nat,SIt h s.heap.objs.size a es.size ep (.int k 0) i/\(btW w=false->O1.below t.place k=i))/\h.get? a=some o,m6 ai,(op.map dX).trans pm,λb F=>?_,?_,?_}
  .exact this
  .simp only [OK,PD,or_false] at F;rcases F with rfl|rfl
   .exact .inr (OA _)
   .exact .inl rfl
  .have aI:a≠s.heap.objs.size:=Pl W;refine {λb F=>?_,λi h h' st hk=>?_,λi s' Q E hi st O=>?_,λs' Q E st O=>?_,λi s' Q E st O=>?_}
   .simp at F;simp [F]
   .obtain ⟨⟨k,x,F⟩,J⟩:=st;exact {{k,x.at λo e=>hk _ 'z' o e,F},hk a 'z' o J}
   .obtain ⟨⟨k,x,F⟩,J⟩:=st;rw [Ow,U] at hi;refine AC hh x J hd hf gt c F (λe k' h' G Ye x' Z=>?_) λG=>?_
    .refine O _ h' s'.toks ?_ {⟨k',x',Ye⟩,Z.extBut a _ aI J} λb o F e=>Z.extBut b o (λz=>F (by simp [z])) e;rw [OT,<- S,G];rfl
    .rw [S] at G;exact absurd (List.getElem?_eq_none_iff.mp G) 'l'
   .obtain ⟨⟨k,x,F⟩,J⟩:=st;rw [Ow,U] at x F;refine AC hh x J hd hf gt c F (λe k' h' G Ye x' Z=>?_) λG h' eb=>?_
    .rw [S] at G;exact absurd (OG.mp G).1 'l'
    .exact O h' s'.toks λb o F e=>eb b o (λz=>F (by simp [z])) e
   .obtain ⟨⟨k,x,F⟩,J⟩:=st;exact Am x O
  .exact {{0,{{_,ON _ rfl,rfl,rfl}},λ_=>by
    have B:=pJ gt.cK 0;rcases Ts (O1.below t.place 0) with z|z
    .exact z
    .exact absurd (B.lo 0 z) (Nat.not_lt_zero _)},Ot _ ho}
 .have aT:s.heap.objs.size=s.heap.objs.size:=rfl
  let f:Nat->Int×Value:=λp=>es.getD p (0,.none)
  have ax:∀p,p<es.size->es[p]?=some (f p):=λp hp=>by rw [Po hp];simp [f,getD,hp]
  have op:(ps.map f).Perm es.toList:=by
   have e:(Pm es.size).map f=es.toList:=by
    apply TX;intro i;rw [OT,show es.toList[i]?=es[i]? from Qm];by_cases hi:i<es.size
    .rw [List.getElem?_range hi,ax i hi];rfl
    .rw [Array.getElem?_eq_none 'l',Qs (by simpa using hi)];rfl
   rw [<- e];exact pp.map f
  have ai:=av.perm op;have U:ps.length=es.size:=by rw [pp.length_eq,TV]
  have:=h (s.heap.objs.size+1) ((s.heap.push { cls:=.type "tuple",data:=.seq (ps.map λ(i:Nat)=>Px i).toArray }).push (itO a es.size ep (.ref s.heap.objs.size) 0)) d {RA _,λb o e=>Ot _ (Ot _ e),(ps.map f).map (·.2),(ps.map f).map dX,[s.heap.objs.size+1,a,s.heap.objs.size],λi h=>SIt h (s.heap.objs.size+1) a es.size ep (.ref s.heap.objs.size) i/\h.get? a=some o/\h.get? s.heap.objs.size=some { cls:=.type "tuple",data:=.seq (ps.map λ(i:Nat)=>Px i).toArray },m6 ai,(op.map dX).trans pm,λb F=>?_,?_,?_}
  .exact this
  .simp only [OK,PD,or_false] at F;rcases F with rfl|rfl|rfl
   .exact .inr (RA _)
   .exact .inl rfl
   .exact .inr (OA _)
  .have aI:a≠s.heap.objs.size+1:=Pl (Rb W);have tI:s.heap.objs.size≠s.heap.objs.size+1:=Pl (RO _);refine {λb F=>?_,λi h h' st hk=>?_,λi s' Q E hi st O=>?_,λs' Q E st O=>?_,λi s' Q E st O=>?_}
   .simp at F;simp [F]
   .obtain ⟨x,J,ht⟩:=st;exact {x.at λo e=>hk _ 'z' o e,hk a 'z' o J,hk _ 'z' _ ht}
   .obtain ⟨x,J,ht⟩:=st;rw [Ow,Ow] at hi;refine yy hh x J hd hf ht rfl pp (λp e h' hp G x' Z=>?_) λG=>?_
    .refine O _ h' s'.toks ?_ {x',Z.extBut a _ aI J,Z.extBut _ _ tI ht} λb o F e=>Z.extBut b o (λz=>F (by simp [z])) e;have Yq:p<es.size:=(PC.mp G).1;rw [ax p Yq] at G;cases G;rw [OT,OT,hp];rfl
    .exact absurd (List.getElem?_eq_none_iff.mp G) 'l'
   .obtain ⟨x,J,ht⟩:=st;rw [Ow,Ow] at x;refine yy hh x J hd hf ht rfl pp (λp e h' hp G x' Z=>?_) λG h' eb=>?_
    .exact absurd (OG.mp hp).1 'l'
    .exact O h' s'.toks λb o F e=>eb b o (λz=>F (by simp [z])) e
   .exact Am st.1 O
  .refine {{{itO a es.size ep (.ref s.heap.objs.size) 0,?_,rfl,rfl}},Ot _ (Ot _ ho),Ot _ (ON _ rfl)};have:=ON (s.heap.push { cls:=.type "tuple",data:=.seq (ps.map λ(i:Nat)=>Px i).toArray }) (o:=itO a es.size ep (.ref s.heap.objs.size) 0) rfl;rw [Rh] at this;exact this
theorem EF(O:s.TypeIs (.ref a) "set")(h:Q false s):Oz (OI prog w) A (OO.List.listLengthHint (.ref a)) Q E s:=by
 unfold OO.List.listLengthHint;refine we (wpAny_specialOf O PySem.F.slot_set_len.lookup ?_);generalize S:("set.__len__":String)=G
 wp_delta
 rw [show splitId G=some ("set","__len__") from by subst S;decide +kernel];subst S;refine we (Sr (T:="set") (b:=true) O (by rw [isSubtype_type];kernel_rfl) ?_);refine SS (λJ=>absurd J 'd') (λ_=>?_);refine SS (λ_=>?_) (λJ=>absurd (f!"") J);refine we (Sf O ?_);exact Os h
theorem zZ.typ(x:zZ prog w s.heap a ns):s.TypeIs (.ref a) "set":=let ⟨o,_,_,_,ho,Yk,_⟩:=x.ex;⟨o,ho,Yk.1⟩
theorem Nd(h:ItemsOf (λi v=>L[i]?=some v) Z2 L.length):Z2.toList=L:=by
 apply TX;intro i;by_cases hi:i<L.length
 .have hs:i<Z2.size:=by rw [h.1];exact hi
  have e:Z2[i]?=some Z2[i]:=Po hs;rw [Qm,e,h.2 i _ e]
 .rw [Qm,Array.getElem?_eq_none (by rw [h.1];lia),Qs 'l']
theorem JP(hh:A.handled=none)(hS:zZ prog w s.heap a ns)(ax:S≠a)(res:Value)(Z:Nat)(hl:s.heap.get? S=some { cls:=.type "list",data:=.seq #[] Z })(hR:∀h' tk d Ym c' ms,(∀b o,b≠S->s.heap.get? b=some o->h'.get? b=some o)->h'.get? S=some { cls:=.type "list",dict:=none,data:=.seq Ym c',slots:=#[] }->RC Ym.toList ms->ms.Perm ns->R (.ok (.ret res)) { s with heap:=h',toks:=tk,drawn:=d }):
  Oz (OI prog w) A.in1 (OO.List.listExtendWith (.ref S) (.ref a) res)
   (λZi s'=>match Zi with | .done f=>R (.ok f) s' | .again c'=>c'.quiet=true/\QE (OI prog w) A c' R s') (λe s'=>R (.error e) s') s:=by
 unfold OO.List.listExtendWith;refine we (Sf (T:="set") hS.typ ?_);have h1:OO.List.listSameRef (.ref S) (.ref a)=false:=by simp [OO.List.listSameRef,ax]
 have n1:(type "set" == type "list")=false:=by decide
 have n2:(type "set" == type "tuple")=false:=by decide
 simp only [h1,n1,n2,SG,Qu,if_false];refine we (JY hh hS λI h2 d sw=>?_);obtain ⟨L,ms,fp,St,hL,hp,aI,W,st⟩:=sw.ex;have ZL:L.length<=sizeLine:=by
  have e1:L.length=ms.length:=by
   clear W st hp
   induction hL with
   | nil=>rfl
   | cons _ _ _ ih=>simp [ih]
  rw [e1,hp.length_eq,Py];have:=hS.few;lia
 have U:=O2 hl;have av:S∉fp:=λz=>by
  rcases aI S z with q|q
  .exact ax q
  .exact Ph _ (OX U q)
 have aT:S≠I:=Pl (OX U sw.new);have XW:∀(h:Heap)(O tk:Nat),St 0 h->(∀b o,b≠S->s.heap.get? b=some o->h.get? b=some o) ->
   h.get? S=some { cls:=.type "list",data:=.seq #[] O }->QE (OI prog w) A (.builtin "list.extend.loop" {[.ref S,.ref I,res],[]}) R { s with heap:=h,toks:=tk,drawn:=d }:=by
  intro h O tk hst hk F;refine codeAny_extend_loopS W.toS ZL S av res L.length 0 _ #[] O rfl (Pz _) hst F (ItemsOf.nil _) λs' Ym c' hm YG Zc=>?_;rw [Moved.eq_with hm];refine hR s'.heap s'.toks d Ym c' ms (λb o hb e=>hm.heap b o (λJ=>?_) (hk b o hb e)) YG (by rw [Nd Zc];exact hL) hp;rcases OK.mp J with e'|J
  .exact hb e'
  .have e3:=OS.mp J;exact absurd (O2 e) (by rw [e3];exact TZ.mpr sw.new)
 have F:=sw.old _ _ hl;refine we (OV (EF (zZ.typ (s:={ s with heap:=h2,drawn:=d }) (hS.at λo e=>sw.old _ _ e)) ?_));refine SS (λ_=>?_) (λ_=>Os {Ql Tz _,XW _ Z _ st (λb o _ e=>sw.old _ _ e) F});refine we (Rn ?_);refine we ?_;show Oz _ _ (T8 S (·.push .none)>>=λ_=>T8 S (·.pop)) _ _ _;refine we (QT F rfl ?_);have G:=Pu (Rk (·.push Pf)) F rfl;refine QT (hz:=by seq_fits) G rfl ?_;have ai:=Pu (Rk (·.pop)) G rfl;refine Os {Ql Tz _,XW _ _ _ ?_ (λb o hb e=>?_) ai}
 .refine W.frame 0 _ _ st λb hb o e=>?_;have Xj:b≠S:=λh=>av (h ▸ hb);exact (O0 _ _ (Pt Xj)).trans ((O0 _ _ (Pt Xj)).trans e)
 .exact (O0 _ _ (Pt hb)).trans ((O0 _ _ (Pt hb)).trans (sw.old _ _ e))
theorem NT(hh:A.handled=none)(hS:zZ prog w s.heap a ns)(h:∀(h':Heap)(tk:Nat) d (Z2:List Value) G,(∀b o,s.heap.get? b=some o->h'.get? b=some o)->RC Z2 G->G.Perm ns->R Z2 { s with heap:=h',toks:=tk,drawn:=d }):
  Oz (OI prog w) A (collect (.ref a)) R E s:=by
 have ZE:a<s.heap.objs.size:=let ⟨o,e,_⟩:=hS.obj;O2 e;unfold collect;refine we (wpAny_runValue (QD entry_proto_collect' ?_));rw [OR.under_plainId PySem.F.plain_proto_collect _];show Oz _ A.in1 (newList []>>=λl=>again (.builtin "list.__iadd__" {[l,.ref a],[]})) _ _ s;refine we (Pp ?_);refine Os {Ql Ui _,QD entry_list_iadd' ?_};rw [OR.under_plainId Ui _];have J:(s.heap.push { cls:=.type "list",data:=.seq ([]:List Value).toArray }).get? s.heap.objs.size=some { cls:=.type "list",data:=.seq #[] }:=ON _ rfl;show Oz _ A.in1 (OO.List.listExtendWith (.ref s.heap.objs.size) (.ref a) (.ref s.heap.objs.size)) _ _ _;have XW:=JP (A:=A) (s:={ s with heap:=s.heap.push { cls:=.type "list",data:=.seq ([]:List Value).toArray } })
  (R:=λ(q:T2)(s':Oq)=>∃(h':Heap)(tk:Nat)(d:Drawn)(O:Array Value)(c':Nat)(G:List Int),q = .ok (.ret (.ref s.heap.objs.size))/\s'={ s with heap:=h',toks:=tk,drawn:=d } /\
   (∀b o,s.heap.get? b=some o->h'.get? b=some o)/\h'.get? s.heap.objs.size=some { cls:=.type "list",dict:=none,data:=.seq O c',slots:=#[] }/\RC O.toList G/\G.Perm ns)
  hh (hS.at λo e=>Ot _ e) (RU ZE) (.ref s.heap.objs.size) 0 J
  (λh' tk d O c' G W Z S U=>{h',tk,d,O,c',G,rfl,rfl,λb o e=>W b o (Pl (O2 e)) (Ot _ e),Z,S,U})
 refine O3 XW (λZi s' x=>?_) λe s' x=>?_
 .cases Zi with
  | done f =>
   obtain ⟨h',tk,d,O,c',G,e,rfl,W,Z,S,U⟩:=x;cases e;show Oz _ A (load s.heap.objs.size>>=_) _ _ _;refine we (wpAny_load Z ?_);exact Os (h h' tk d _ G W S U)
  | again av =>
   refine {x.1,QM x.2 λq ai y=>?_};obtain ⟨h',tk,d,O,c',G,rfl,rfl,W,Z,S,U⟩:=y;show Oz _ A (load s.heap.objs.size>>=_) _ _ _;refine we (wpAny_load Z ?_);exact Os (h h' tk d _ G W S U)
 .obtain ⟨_,_,_,_,_,_,e',_⟩:=x;cases e'
end
end L2
namespace L2
open PySem PySem.Spec PyProof.Rows PySem.W PySem.Calls
def tF(P:OE)(w:OW):List V->Hp->VK->Prop:=λxs H Q=>uR1 xs λa=>∃F:List Int,H a=some (gB P w a F)/\F.length<64/\∀p (ns:List Int) H2,New H p (.lst (ns.map V.int)) H2->ns.Perm F->ns.Pairwise (·<=·)->Q (.ref p) H2
theorem Lx:tF P w [.ref a] H Q = ∃F:List Int,H a=some (gB P w a F)/\F.length<64/\∀p (ns:List Int) H2,New H p (.lst (ns.map V.int)) H2->ns.Perm F->ns.Pairwise (·<=·)->Q (.ref p) H2:=fC
theorem Ke(h:RC vs ns):vs.length=ns.length:=by
 induction h with
 | nil=>rfl
 | cons _ _ _ F=>simp [F]
theorem Inv.drew{d:Drawn}(I:Inv X Go σ H s):Inv X Go σ H { s with drawn:=d }:=⟨I.ok,I.os,I.bare,I.base,I.loc,I.cell,I.free,I.J7,I.pin,I.hok,I.len,I.hdk⟩
section
variable {X:Cx}
theorem DE(hc:X.calm=true):zU X (.builtin "sorted") (tF X.prog X.w):=by
 intro Go s σ H xs us Q I r h;obtain ⟨a,rfl,ms,Z,XU,q⟩:=h;obtain ⟨u,rfl,ru⟩:=cQ r;cases ru;have hS:=NK I.hok Z;refine call_function_entry kind_sorted Ut UC (UE _) ?_;unfold OO.«sorted»
 refine we (m:=checkCount "sorted" 1 1 _) (Os (we (NT (A:=X.A.in1) (I.ok.hd hc) hS λh' tk d Z2 ns hk O pm=>?_)));have hl:Z2.length=ms.length:=by rw [Ke O,pm.length_eq]
 have J:Inv X Go σ H { s with heap:=h',toks:=tk,drawn:=d }:=(I.kept (t':=tk) hk).drew;refine we (RT ?_ (by rw [hl,Py];lia));have F:(h'.push (Qo "list" Z2.toArray 0)).get? h'.objs.size=some (Qo "list" Z2.toArray 0):=ON _ rfl;refine we (OV (PU Tf {_,F,rfl} SV (list_sort_tree F O (by rw [hl];exact XU) λout U b1 W b3=>{_,rfl,?_}) (Tq _)));obtain ⟨c,G⟩:=sortedHeap_at (vs:=Z2) (out:=out) F;refine Os {_,rfl,.ref h'.objs.size,upd H h'.objs.size (.lst (U.map V.int)),J.laid (a:=h'.objs.size) (t':=tk) (λb o e=>?_) (OA _) {?_,out.toList,c,oP b1,by rw [SR];exact G},rfl,q _ U _ (.mk' (J.hok.fresh (OA _))) (W.trans pm) b3}
 .have S:b<h'.objs.size:=O2 e;rw [sortedHeap_old (Pl S) (by rw [R4];exact Rb S)];exact Ot _ e
 .have:=W.length_eq;rw [Ow,this,pm.length_eq,Py];lia
end
theorem NN{c c1 c2:Bool}(hc:c=true->X.calm=true)(F:c1=true->X.calm=true)(XI:c2=true->X.calm=true)(L:z6 X sc N' ix)(hi:W (PIc c X t0 i0 wi))(hg:∀Go C fp s H,W (PG (zz X sc N' Go C fp s H) t0 g))(J:∀Go C fp s H,W (PIc c1 (zz X sc N' Go C fp s H) t1 i1 w1))(O:∀Go C fp s H,W (PG (zz X sc N' Go C fp s H) t1 g1))(Z:∀Go C fp s H,W (PIc c2 (zz X sc N' Go C fp s H) t2 i2 w2))(U:∀Go C fp s H,W (PG (zz X sc N' Go C fp s H) t2 g2))(he:∀Go C fp s H,W (PE (zz X sc N' Go C fp s H) Y7 te))(hs:∀x,Pd i0 X.env x=pure x:=by intro _;rfl)(S:∀env x,Pd i1 env x=pure x:=by intro _ _;rfl)(G:∀env x,Pd i2 env x=pure x:=by intro _ _;rfl):
  W (PE X (.SetComp Y7 [{t0,i0,[],0},{t1,i1,[],0},{t2,i2,[],0}] sc pos) (tSC X.prog X.w ix wi g (lM (gP w1 g1 (gP w2 g2 (gW te)))))) :=
 {HQ hc F XI L hi.h (λa b c d e=>(hg a b c d e).h) (λa b c d e=>(J a b c d e).h) (λa b c d e=>(O a b c d e).h) (λa b c d e=>(Z a b c d e).h) (λa b c d e=>(U a b c d e).h) (λa b c d e=>(he a b c d e).h) hs S G}
section
variable {prog:OE}{w:OW}{A:OR}{E:Value->Oq->Prop}{s:Oq}
def uniq(ns:List Int):List Int:=ns.foldl ag []
end
theorem qz:∀{ns:List Int}{its:List Value},zx (ns.map V.int) its->RC its ns
 | [],_,h=>by cases h;exact .nil
 | n::ns,_,h=>by
  cases h with
  | cons r F =>
   obtain ⟨t,rfl⟩:=r;exact .cons n t (qz F)
theorem Ka{n k:Int}:k∈ag F n↔k∈F\/k=n:=by
 unfold ag;split
 .rename_i h;constructor
  .exact .inl
  .rintro (h'|rfl)
   .exact h'
   .exact h
 .simp
theorem Nw(h:F.Nodup):(ag F n).Nodup:=by
 unfold ag;split
 .exact h
 .rename_i J;rw [TU];refine {h,'z',λa O b G=>?_};have e:b=n:=by simpa using G
  subst e;exact λz=>J (z ▸ O)
theorem yw{k:Int}:∀{ns F:List Int},k∈ns.foldl ag F↔k∈F\/k∈ns
 | [],F=>by simp
 | n::ns,F=>by
  show k∈ns.foldl ag (ag F n)↔_;rw [yw,Ka,OK,or_assoc]
theorem ye:∀{ns F:List Int},F.Nodup->(ns.foldl ag F).Nodup
 | [],F,h=>h
 | n::ns,F,h=>ye (ns:=ns) (Nw h)
theorem fb{k:Int}:k∈uniq ns↔k∈ns:=by
 unfold uniq;rw [yw];simp
theorem dD:(uniq ns).Nodup:=ye List.nodup_nil
theorem qt{xs ys:List Int}(hx:xs.Pairwise (·<=·))(G:ys.Pairwise (·<=·))(nx:xs.Nodup)(F:ys.Nodup)(h:∀k,k∈xs↔k∈ys):xs=ys:=by
 have p:xs.Perm ys:=(QA nx F).mpr h;exact p.eq_of_pairwise (λa b _ _ h1 h2=>Int.le_antisymm h1 h2) hx G
end L2
namespace L2
open PySem PySem.Spec PyProof.Rows
def uN(v:V)(k:Int->Prop):Prop:=match v with | .int n=>k n|_=>False
theorem DN{k:Int->Prop}:uN (.int n) k=k n:=rfl
def cY(J:It)(g:TG)(tb:TB)(σ:St)(ns:List Int)(H:Hp)(Q:St->List Int->Hp->Prop):Prop:=∃W:Nat->Nat->St->List Int->Hp->Prop,(∃m,W 0 m σ ns H)/\mh W J g tb Q
section
variable {P:OE}{w:OW}{K:Ov}{ix:List (Option Nat)}{wi:TI}{g:TG}{tb:TB}{te:TE}{σ:St}{ns:List Int}{H:Hp}{Q:St->List Int->Hp->Prop}{R:VK}
theorem La:tSC P w ix wi g tb σ H R=wi σ H λJ H1=>cY J g tb (cq ix σ) [] H1 λ_ ns H2=>∀D,H2 D=none->D≠sysModules->R (.ref D) (upd H2 D (gB P w D ns)):=rfl
theorem EA:gP wi g tb σ ns H Q=wi σ H λJ H1=>cY J g tb σ ns H1 Q:=rfl
theorem M6:lM tb σ ns H Q=(tb σ ns H Q\/∃a kvs,H a=some (.dK kvs)/\∀o,tb σ ns (upd H a (.frz o (.dK kvs))) λF G H'=>mw a kvs H' (Q F G)):=rfl
theorem DX:gW te σ ns H Q=te σ H λv H1=>uN v λn=>ns.length<3000/\Q σ (ag ns n) H1:=by
 unfold gW;congr 1;funext v H1;apply propext;constructor
 .rintro ⟨n,rfl,h⟩;exact h
 .intro h;cases v with
  | int n=>exact {n,rfl,h}
  | _=>exact h.elim
theorem cY.lst{a:Addr}{xs:List V}(G:Nat->St->List Int->Hp->Prop)(S:∀i τ ns H,G i τ ns H->SqL K H a xs)(U:G 0 σ ns H)
  (hs:∀(N:St->List Int->Hp->Prop) i x τ ns H,xs[i]?=some x->G i τ ns H->(∀τ ns H,G (i+1) τ ns H->N τ ns H)->g x τ H λF H4=>tb F ns H4 N) (hd:∀τ ns H,G xs.length τ ns H->Q τ ns H):cY (Itl K a) g tb σ ns H Q:=by
 refine {λi m τ ns H=>m=xs.length-i/\i<=xs.length/\G i τ ns H,{xs.length,'z',Pz _,U},?_};rintro i m τ ys H2 ⟨rfl,hi,p⟩;have q:=S i τ ys H2 p;by_cases O:i<xs.length
 .refine .inr {{xs,xs[i],q,by simp [O]},λx H' y=>?_};obtain ⟨e,y⟩:=y;subst e;exact hs (λF ys H=>∃J,J<xs.length-i/\J=xs.length-(i+1)/\i+1<=xs.length/\G (i+1) F ys H) i x τ ys _ (y xs q) p λF zs H q=>{xs.length-(i+1),'l',rfl,O,q}
 .have e:i=xs.length:=by lia
  subst e;exact .inl {{xs,q,OA _},hd τ ys H2 p}
theorem cY.tup{a:Addr}{xs:List V}(G:Nat->St->List Int->Hp->Prop)(S:∀i τ ns H,G i τ ns H->SqT K H a xs)(U:G 0 σ ns H)
  (hs:∀(N:St->List Int->Hp->Prop) i x τ ns H,xs[i]?=some x->G i τ ns H->(∀τ ns H,G (i+1) τ ns H->N τ ns H)->g x τ H λF H4=>tb F ns H4 N) (hd:∀τ ns H,G xs.length τ ns H->Q τ ns H):cY (Itt K a) g tb σ ns H Q:=by
 refine {λi m τ ns H=>m=xs.length-i/\i<=xs.length/\G i τ ns H,{xs.length,'z',Pz _,U},?_};rintro i m τ ys H2 ⟨rfl,hi,p⟩;have q:=S i τ ys H2 p;by_cases O:i<xs.length
 .refine .inr {{xs,xs[i],q,by simp [O]},λx H' y=>?_};obtain ⟨e,y⟩:=y;subst e;exact hs (λF ys H=>∃J,J<xs.length-i/\J=xs.length-(i+1)/\i+1<=xs.length/\G (i+1) F ys H) i x τ ys _ (y xs q) p λF zs H q=>{xs.length-(i+1),'l',rfl,O,q}
 .have e:i=xs.length:=by lia
  subst e;exact .inl {{xs,q,OA _},hd τ ys H2 p}
theorem cY.vals{o:Obj}(G:Nat->St->List Int->Hp->Prop)(S:∀i τ ns H,G i τ ns H->H a=some (.frz o (.dK kvs)))(U:G 0 σ ns H)(hs:∀(N:St->List Int->Hp->Prop) i p τ ns H,kvs[i]?=some p->G i τ ns H->(∀τ ns H,G (i+1) τ ns H->N τ ns H)->g p.2 τ H λF H4=>tb F ns H4 N)(hd:∀τ ns H,G kvs.length τ ns H->Q τ ns H):cY (Itw a o kvs) g tb σ ns H Q:=by
 refine {λi m τ ns H=>m=kvs.length-i/\i<=kvs.length/\G i τ ns H,{kvs.length,'z',Pz _,U},?_};rintro i m τ ys H2 ⟨rfl,hi,p⟩;have q:=S i τ ys H2 p;by_cases O:i<kvs.length
 .refine .inr {⟨q,O⟩,λx H' y=>?_};obtain ⟨e,z,hz,ex⟩:=y;subst e ex;exact hs (λF ys H=>∃J,J<kvs.length-i/\J=kvs.length-(i+1)/\i+1<=kvs.length/\G (i+1) F ys H) i z τ ys _ hz p λF zs H q=>{kvs.length-(i+1),'l',rfl,O,q}
 .have e:i=kvs.length:=by lia
  subst e;exact .inl {{q,OA _},hd τ ys H2 p}
theorem aM.vals{o:Obj}(G:Nat->St->List V->Hp->Prop)(hz:∀i τ ys H,G i τ ys H->ys.length<sizeLine)(S:∀i τ ys H,G i τ ys H->H a=some (.frz o (.dK kvs)))(W:G 0 τ [] H)(hs:∀(N:St->List V->Hp->Prop) i p τ ys H,kvs[i]?=some p->G i τ ys H->(∀τ ys H,G (i+1) τ ys H->N τ ys H)->g p.2 τ H λF H4=>tt F H4 λok H5=>fX N ys F te ok H5)(hd:∀τ ys H,G kvs.length τ ys H->∀D H',New H D (.lst ys) H'->R (.ref D) H'):aM (Itw a o kvs) g tt te τ H R:=by
 refine {λi m τ ys H=>m=kvs.length-i/\i<=kvs.length/\G i τ ys H,{kvs.length,'z',Pz _,W},?_};rintro i m τ ys H2 ⟨rfl,hi,p⟩;refine {hz i τ ys H2 p,?_};have q:=S i τ ys H2 p;by_cases O:i<kvs.length
 .refine .inr {⟨q,O⟩,λx H' y=>?_};obtain ⟨e,z,hz,ex⟩:=y;subst e ex;exact hs (λF ys H=>∃J,J<kvs.length-i/\J=kvs.length-(i+1)/\i+1<=kvs.length/\G (i+1) F ys H) i z τ ys _ hz p λF zs H q=>{kvs.length-(i+1),'l',rfl,O,q}
 .have e:i=kvs.length:=by lia
  subst e;exact .inl {{q,OA _},λD U _=>hd τ ys H2 p D _ (.mk' U)}
theorem Nk{H:Hp}(hl:W (PE (zz X sc N' Go C fp s H) l tl)):W (PIc true (zz X sc N' Go C fp s H) tg l (jt X.K tl)):={AS (hl:=hl.h)}
end
section
variable {Y:Cx}{sc:Scope}{N':List Str}{Go:List (Addr×Obj)}{D:Addr}{fp:List Addr}{s:Oq}{H:Hp}
def gSq(K:Ov)(n:Nat)(t:TGs):TG:=λv σ H Q=>∃a xs,v = .ref a/\(SqT K H a xs\/SqL K H a xs)/\xs.length=n/\t xs σ H Q
theorem Ii{k:Nat}{t:TGs}(G:Y.calm=true)(h:W (PGs (zz Y sc N' Go D fp s H) es t))(hl:(Qh es (zz Y sc N' Go D fp s H).env).length=n:=by rfl)(hst:(Qh es (zz Y sc N' Go D fp s H).env).findIdx? (·.1)=none:=by rfl):W (PG (zz Y sc N' Go D fp s H) (.Tuple es k pos) (gSq Y.K n t)):={λpins' s' σ H' v u Q I r q=>by
 obtain ⟨a,xs,rfl,h1|h1,F,q⟩:=q
 .exact tE h.h hl hst pins' s' σ H' _ u Q I r {a,xs,rfl,h1,F,q}
 .exact BQ (X:=zz Y sc N' Go D fp s H) G h.h hl hst pins' s' σ H' _ u Q I r {a,xs,rfl,h1,F,q}}
end
section
variable {K:Ov}{g:TG}{tt:TT}{tk tv:TE}{H:Hp}{Q:VK}
theorem eV.tup{a:Addr}{xs:List V}{τ:St}(G:Nat->St->List (Key×V)->Hp->Prop)(hz:∀i τ ys H,G i τ ys H->ys.length<sizeLine)(S:∀i τ ys H,G i τ ys H->SqT K H a xs)(W:G 0 τ [] H)
  (hs:∀(N:St->List (Key×V)->Hp->Prop) i x τ ys H,xs[i]?=some x->G i τ ys H->(∀τ ys H,G (i+1) τ ys H->N τ ys H)->g x τ H λF H4=>tt F H4 λok H5=>jx N ys F tk tv ok H5) (hd:∀τ ys H,G xs.length τ ys H->∀D H',New H D (.dK ys) H'->Q (.ref D) H'):eV (Itt K a) g tt tk tv τ H Q:=by
 refine {λi m τ ys H=>m=xs.length-i/\i<=xs.length/\G i τ ys H,{xs.length,'z',Pz _,W},?_};rintro i m τ ys H2 ⟨rfl,hi,p⟩;refine {hz i τ ys H2 p,?_};have q:=S i τ ys H2 p;by_cases O:i<xs.length
 .refine .inr {{xs,xs[i],q,by simp [O]},λx H' y=>?_};obtain ⟨e,y⟩:=y;subst e;exact hs (λF ys H=>∃J,J<xs.length-i/\J=xs.length-(i+1)/\i+1<=xs.length/\G (i+1) F ys H) i x τ ys _ (y xs q) p λF zs H q=>{xs.length-(i+1),'l',rfl,O,q}
 .have e:i=xs.length:=by lia
  subst e;exact .inl {{xs,q,OA _},λD U _=>hd τ ys H2 p D _ (.mk' U)}
end
section
variable {X:Cx}
def EqR(H:Hp)(x y:V)(b:Bool):Prop:=∃p q zs ws,x = .ref p/\y = .ref q/\H p=some (.tup zs)/\H q=some (.tup ws)/\zs.all zP=true/\ws.all zP=true/\b=eqL zs ws
theorem EqR.at(I:Inv X Go σ H s)(h:EqR H x y b)(rx:zr x u)(ry:zr y v)(hu:A.units<cLine):SeqAt.EqAt A s u v b:=by
 obtain ⟨p,q,xs,ys,rfl,rfl,ha,J,O,fy,rfl⟩:=h;cases rx;cases ry;by_cases F:p=q
 .subst F;rw [ha] at J;cases J;rw [kZ O λx hx b e=>by have:=Pg.mp O x hx;rw [e] at this;cases this];exact SeqAt.EqAt.same _
 obtain ⟨is,r1,p1,_⟩:=I.tuple (SqT.of (K:=X.K) ha);obtain ⟨G,r2,p2,_⟩:=I.tuple (SqT.of (K:=X.K) J);have l1:=r1.length;have l2:=r2.length;have z:=SeqAt.RcAt.tuples (A:=A) (e:=λj=>eqV (xs.getD j .non) (ys.getD j .non)) p1 p2 hu λj h1 h2=>by
  simp only [OQ] at h1 h2;have U:xs[j]?=some (xs.getD j .non):=by rw [OM,KE 'l'];rfl
  have S:ys[j]?=some (ys.getD j .non):=by rw [OM,KE 'l'];rfl
  obtain ⟨u,Z,q1⟩:=r1.get U;obtain ⟨v,W,q2⟩:=r2.get S;rw [KE h1] at Z;rw [KE h2] at W;have w1:is.toArray[j]=u:=by simpa using Pa.inj Z
  have w2:G.toArray[j]=v:=by simpa using Pa.inj W
  rw [w1,w2];exact jH q1 q2 (Pg.mp O _ (Pc U)) (Pg.mp fy _ (Pc S))
 have e:eqL xs ys=((Pm (min is.toArray.size G.toArray.size)).all (λj=>eqV (xs.getD j .non) (ys.getD j .non))&&is.toArray.size==G.toArray.size):=by
  unfold eqL;simp only [OQ];rw [l1,l2];by_cases hz:is.length=G.length
  .rw [hz];simp
  .have z:(is.length==G.length)=false:=by simpa using hz
   rw [z,Sm,UN]
 rw [e];exact .of_refs F z
end
theorem FI{α β:Type}{f:α->β}{a:α}{l:List α}:(a::l).map f=f a::l.map f:=rfl
theorem IB{α β:Type}{f:α->β}:([]:List α).map f=[]:=rfl
theorem Ef:(!true)=false:=rfl
theorem Lh:(!false)=true:=rfl
theorem fsc(a:sc.kind = .function:=by rfl)(b:sc.isCoroutine=false:=by rfl)(c:sc.isGenerator=false:=by rfl)(d:N.Nodup:=by decide +kernel)(e:N.take P.length=P:=by rfl)(f:∀x∈P,sc.names.lookup x=some .local\/sc.names.lookup x=some .cell:=by decide +kernel)(g:∀y∈sc.names,y.2≠.free:=by decide +kernel):zy N P sc:=⟨a,b,c,d,e,f,g⟩
abbrev FnM(K:Ov)(x:Str)(st:Stmt):Prop:=∃f fd,Q8 K OH x=some (some (.ref f))/\Fun K x x st f fd
abbrev zV(K:Ov)(C:Addr)(m q:Str)(st:Stmt):Prop:=∃f fd,Qv K (.ref C) m=some (some (.ref f))/\isFn K (.ref f)=true/\Fun K m q st f fd
theorem u1{α:Type}{p:List α->Prop}(h:∀a,p [a]):∀us,us.length=1->p us
 | [a],_=>h a
theorem u2{α:Type}{p:List α->Prop}(h:∀a b,p [a,b]):∀us,us.length=2->p us
 | [a,b],_=>h a b
theorem u3{α:Type}{p:List α->Prop}(h:∀a b c,p [a,b,c]):∀us,us.length=3->p us
 | [a,b,c],_=>h a b c
theorem u4{α:Type}{p:List α->Prop}(h:∀a b c d,p [a,b,c,d]):∀us,us.length=4->p us
 | [a,b,c,d],_=>h a b c d
theorem u5{α:Type}{p:List α->Prop}(h:∀a b c d e,p [a,b,c,d,e]):∀us,us.length=5->p us
 | [a,b,c,d,e],_=>h a b c d e
section
variable {w:OW}{K:Ov}{mg:Str->Option Value}{h:Heap}{k:Nat}{x q:Str}{C:Addr}{ps:List Str}{sp:Sp}{st:Stmt} (P:OE) (base:Heap) (cm:Bool)
abbrev BdA(x q:Str)(st:Stmt)(ps:List Str):Prop:=∀(kV F pm:Value)(G:Option Addr)(J ct:Value)(us:List Value),us.length=ps.length->To (fnOf x q (gH st) (cU st) (zm st) .none kV F pm G J ct) {us,[]}=pure (ps.zip us)
theorem gf(X:K.In h)(G:h.Ns OH mg)(m:FnM K x st)(o:∀f fd,Fun K x x st f fd->zq P w K mg base CX0 cm k f fd ps sp)(b:BdA x x st ps):GF P w K mg base cm k x ps sp:=let ⟨f,fd,a,F⟩:=m;{f,fd,o f fd F,Q3 X G a,F.kp,F.binds b}
theorem gx(X:K.In h)(G:h.Ns OH mg)(m:FnM K x st)(o:∀f fd,Fun K x x st f fd->zq P w K mg base (CXW P w) cm k f fd ps sp)(b:BdA x x st ps):GX P w K mg base cm k x ps sp:=let ⟨f,fd,a,F⟩:=m;{f,fd,o f fd F,Q3 X G a,F.kp,F.binds b}
theorem gm(m:zV K C x q st)(o:∀f fd,Fun K x q st f fd->zq P w K mg base CX0 cm k f fd ps sp)(b:BdA x q st ps):GM P w K mg base cm k C x ps sp:=let ⟨f,fd,a,i,F⟩:=m;{f,fd,o f fd F,⟨a,i,F.kp⟩,F.binds b}
theorem gmx(m:zV K C x q st)(o:∀f fd,Fun K x q st f fd->zq P w K mg base (CXW P w) cm k f fd ps sp)(b:BdA x q st ps):GMX P w K mg base cm k C x ps sp:=let ⟨f,fd,a,i,F⟩:=m;{f,fd,o f fd F,⟨a,i,F.kp⟩,F.binds b}
theorem gc(X:K.In h)(G:h.Ns OH mg)(c:Q8 K OH x=some (some (.ref C)))(mk:UO K C=true)(J:Si K (.ref C)=true)(m:zV K C Wm q st)(o:∀f fd,Fun K Wm q st f fd->zq P w K mg base CX0 cm k f fd ps sp)(b:BdA Wm q st ps):GC P w K mg base cm k x C ps sp:=let ⟨f,fd,a,i,F⟩:=m;{f,fd,o f fd F,Q3 X G c,⟨mk,a,i,J⟩,F.binds b}
end
def h9(i:Nat):TE:=λσ H Q=>match σ[i]? with|some (some v)=>Q v H|_=>False
def rID(C:Int->Int->Prop)(g:Int->Int->V):R2:=λx y H Q=>match x,y with | .int i,.int j=>C i j/\Q (g i j) H|_,_=>False
def uy(g:Int->Int->V):R2:=λx y H Q=>match x,y with | .int i,.int j=>Q (g i j) H|_,_=>False
section
variable {X:Cx}{f:Value->Value->Sem Value}{C:Int->Int->Prop}{g:Int->Int->V}
theorem pvD(i:Nat)(hN:X.N[i]?=some x:=by rfl)(hv:Vis X.env.scope x:=by first|exact OL rfl|exact Ry (OL rfl)|exact Ry (Ry rfl))(hd:(x==("__debug__":Str))=false:=by decide)(hcd:(x==("__classdict__":Str))=false:=by decide):PE X (.Name x pos) (h9 i):=λGo s σ H Q I h=>pv i hN hv hd hcd Go s σ H Q I (by
 unfold h9 at h;split at h
 .exact {_,by assumption,h}
 .exact h.elim)
theorem zb(i:Nat)(hN:X.N[i]?=some x:=by rfl)(hv:Vis X.env.scope x:=by first|exact OL rfl|exact Ry (OL rfl)|exact Ry (Ry rfl))(hd:(x==("__debug__":Str))=false:=by decide)(hcd:(x==("__classdict__":Str))=false:=by decide):W (PE X (.Name x pos) (h9 i)):={pvD i hN hv hd hcd}
theorem oI(h:OpR X f (rI C g)):OpR X f (rID C g):=h.weak λx y H Q q=>by
 cases x<;>cases y<;>first|exact q.elim|exact {_,_,rfl,rfl,q}
theorem oI0(h:OpR X f (rI0 g)):OpR X f (uy g):=h.weak λx y H Q q=>by
 cases x<;>cases y<;>first|exact q.elim|exact {_,_,rfl,rfl,q}
end
section
variable {i j:Int}{H:Hp}{Q:VK}{C:Int->Int->Prop}{g:Int->Int->V}
theorem NY:rID C g (.int i) (.int j) H Q=(C i j/\Q (g i j) H):=rfl
theorem Lp:uy g (.int i) (.int j) H Q=Q (g i j) H:=rfl
end
abbrev clT(t:TE):TE:=λσ H Q=>∃R:VK,t σ H R/\∀v H,R v H->Q v H
abbrev clR(r:R2):R2:=λx y H Q=>∃R:VK,r x y H R/\∀v H,R v H->Q v H
abbrev clA(t:TA):TA:=λσ H Q=>∃R:List V->Hp->Prop,t σ H R/\∀v H,R v H->Q v H
def bD(v:V)(q:Bool->Prop):Prop:=match v with | .bl c=>q c|_=>False
def aD(v:V)(q:Addr->Prop):Prop:=match v with | .ref a=>q a|_=>False
theorem FN:bD (.bl c) q=q c:=rfl
theorem DB:aD (.ref a) q=q a:=rfl
theorem bD.ex(h:bD v q):∃c,v = .bl c/\q c:=by
 cases v<;>first|exact {_,rfl,h}|exact h.elim
theorem aD.ex(h:aD v q):∃a,v = .ref a/\q a:=by
 cases v<;>first|exact {_,rfl,h}|exact h.elim
def wu(t:TE):TT:=λσ H Q=>t σ H λx H1=>bD x λc=>Q c H1
def kT(C:Addr)(m:Str)(sp:Sp)(E:XK)(ta:TE)(t:TA):TE:=λσ H Q=>ta σ H λx H1=>aD x λa=>∃dx fs,H1 a=some (.ins C dx fs)/\fs.lookup m=none/\t σ H1 λvs H2=>sp (.ref a::vs) H2 Q E
def Ae(C:Addr)(m:Str)(sp:Sp)(Ex:Addr->St->Hp->Prop)(ta:TE)(t:TA):TE:=λσ H Q=>ta σ H λx H1=>aD x λa=>∃dx fs,H1 a=some (.ins C dx fs)/\fs.lookup m=none/\t σ H1 λvs H2=>sp (.ref a::vs) H2 Q (XE Ex σ)
def Aa(sp:Sp)(E:XK)(t:TA):TE:=λσ H Q=>t σ H λvs H1=>sp vs H1 Q E
def xC(sp:Sp)(Ex:Addr->St->Hp->Prop)(t:TA):TE:=λσ H Q=>t σ H λvs H1=>sp vs H1 Q (XE Ex σ)
def An(C:Addr)(ta:TE)(f:Str):TE:=λσ H Q=>ta σ H λx H1=>aD x λa=>∃dx fs v,H1 a=some (.ins C dx fs)/\fs.lookup f=some v/\Q v H1
def x8(C:Addr)(ta tv:TE)(f:Str):TS:=λD σ H=>tv σ H λy H1=>ta σ H1 λx H2=>aD x λa=>∃dx fs,H2 a=some (.ins C dx fs)/\fs.length<1000/\D.nx σ (upd H2 a (.ins C dx (zN f y fs)))
def vG(K:Ov)(tl:TE):TI:=λσ H R=>tl σ H λx H1=>aD x λa=>(∃xs,SqL K H1 a xs)/\R (Itl K a) H1
def sr(t:TG)(u:TGs):TGs:=λvs σ H Q=>match vs with|v::r=>t v σ H λF H'=>u r F H' Q|[]=>False
theorem JF{t:TG}{r:List V}:sr t u (v::r) σ H Q=t v σ H λF H'=>u r F H' Q:=rfl
def iG:R2:=λx y H Q=>match x,y with
 | .ref a,.int i=>∃xs,(H a=some (.lst xs)\/H a=some (.tup xs))/\∃v,atI xs i=some v/\Q v H
 | .str x,.int i=>x.length<=sizeLine/\∃c,atI x.cps.toList i=some c/\Q (.str {#[c]}) H
 | _,_=>False
def oz:List V->Hp->VK->Prop:=λxs H Q=>match xs with
 | [.ref a]=>∃ys,(H a=some (.lst ys)\/H a=some (.tup ys))/\Q (.int ys.length) H
 | [.str x]=>x.length<=sizeLine/\Q (.int x.length) H
 | _=>False
def jQ(c:Bool):R2:=λx y H Q=>match x,y with
 | .int i,.int j=>Q (.bl (if c then !decide (i=j) else decide (i=j))) H
 | .str i,.str j=>Q (.bl (if c then !decide (i=j) else decide (i=j))) H
 | .bl i,.bl j=>Q (.bl (if c then !decide (i=j) else decide (i=j))) H
 | .ref a,.ref b=>∃xs ys,H a=some (.lst xs)/\H b=some (.lst ys)/\xs.all zP=true/\ys.all zP=true/\Q (.bl (if c then !eqL xs ys else eqL xs ys)) H
 | _,_=>False
def jr:R2:=λx y H Q=>match x,y with
 | .int i,.int j=>Q (.int (i+j)) H
 | .str x,.str y=>x.length+y.length<=sizeLine/\Q (.str (x++y)) H
 | .ref a,.ref b=>∃xs zs,H a=some (.lst xs)/\H b=some (.lst zs)/\xs.length+zs.length<=sizeLine/\∀p H2,New H p (.lst (xs++zs)) H2->Q (.ref p) H2
 | _,_=>False
section
variable {H:Hp}{Q:VK}{i j:Int}{x y:Str}{a b:Addr}{k k' c:Bool}
theorem kM:iG (.ref a) (.int i) H Q = ∃xs,(H a=some (.lst xs)\/H a=some (.tup xs))/\∃v,atI xs i=some v/\Q v H:=rfl
theorem B1:iG (.str x) (.int i) H Q=(x.length<=sizeLine/\∃c,atI x.cps.toList i=some c/\Q (.str {#[c]}) H):=rfl
theorem Hm:oz [.ref a] H Q = ∃ys,(H a=some (.lst ys)\/H a=some (.tup ys))/\Q (.int ys.length) H:=rfl
theorem K2:oz [.str x] H Q=(x.length<=sizeLine/\Q (.int x.length) H):=rfl
theorem Ol:jQ c (.int i) (.int j) H Q=Q (.bl (if c then !decide (i=j) else decide (i=j))) H:=rfl
theorem Ld:jQ c (.str x) (.str y) H Q=Q (.bl (if c then !decide (x=y) else decide (x=y))) H:=rfl
theorem Dj:jQ c (.bl k) (.bl k') H Q=Q (.bl (if c then !decide (k=k') else decide (k=k'))) H:=rfl
theorem DD:jQ c (.ref a) (.ref b) H Q = ∃xs ys,H a=some (.lst xs)/\H b=some (.lst ys)/\xs.all zP=true/\ys.all zP=true/\Q (.bl (if c then !eqL xs ys else eqL xs ys)) H:=rfl
theorem Ek:jr (.int i) (.int j) H Q=Q (.int (i+j)) H:=rfl
theorem BX:jr (.str x) (.str y) H Q=(x.length+y.length<=sizeLine/\Q (.str (x++y)) H):=rfl
theorem DJ:jr (.ref a) (.ref b) H Q = ∃xs zs,H a=some (.lst xs)/\H b=some (.lst zs)/\xs.length+zs.length<=sizeLine/\∀p H2,New H p (.lst (xs++zs)) H2->Q (.ref p) H2:=rfl
end
section
variable {X:Cx}{e:OZ}{es:List OZ}{st:Stmt}{t ta tb tv:TE}{tA:TA}{r:R2}{f:Value->Value->Sem Value}{C:Addr}{m:Str}{sp:Sp}{E:XK}{Ex:Addr->St->Hp->Prop}{c:Bool}
theorem clE(h:W (PE X e t)):W (PE X e (clT t)):={λGo s σ H Q I=>x3e λR q hw=>thn (h.h Go s σ H R I q) λ_ _=>x5e λv H' a b c=>{v,H',a,b,hw _ _ c}}
theorem clO(h:OpR X f r):OpR X f (clR r):=λGo s σ H x y v u Q I G F=>x3e λR q hw=>thn (h Go s σ H x y v u R I G F q) λ_ _=>x5e λv H' a b c=>{v,H',a,b,hw _ _ c}
theorem clP(h:W (PA X es tA)):W (PA X es (clA tA)):=⟨h.h.any⟩
theorem peD(h:W (PE X e t))(w:∀σ H Q,t' σ H Q->t σ H Q):W (PE X e t'):={λGo s σ H Q I q=>h.h Go s σ H Q I (w σ H Q q)}
theorem tD(h:W (PT X e (oM (tOp (clR r) (clT ta) (clT tb))))):W (PT X e (wu (tOp r ta tb))):={λGo s σ H Q I q=>h.h Go s σ H Q I {_,q,λx H1 q1=>{_,q1,λy H2 F=>{_,F,λz H3 G=>G.ex}}}}
theorem mD(h:W (PE X e (fJ C m sp [] E (clT ta) (clA tA)))):W (PE X e (kT C m sp E ta tA)):=peD h λσ H Q q=>{_,q,λx H1 q1=>by
 obtain ⟨a,rfl,dx,fs,h1,h2,F⟩:=q1.ex;exact {a,dx,fs,rfl,h1,h2,_,F,λvs H2 G=>by dsimp only;rw [PY];exact G}}
theorem m0D(h:W (PE X e (fJ C m sp [] E (clT ta) cw))):W (PE X e (kT C m sp E ta cw)):=peD h λσ H Q q=>{_,q,λx H1 q1=>by
 obtain ⟨a,rfl,dx,fs,h1,h2,F⟩:=q1.ex;exact {a,dx,fs,rfl,h1,h2,F}}
theorem cG(h:W (PE X e (jR C m sp [] Ex (clT ta) cw))):W (PE X e (Ae C m sp Ex ta cw)):=peD h λσ H Q q=>{_,q,λx H1 q1=>by
 obtain ⟨a,rfl,dx,fs,h1,h2,F⟩:=q1.ex;exact {a,dx,fs,rfl,h1,h2,F}}
theorem caD(h:W (PE X e (mF sp [] E (clA tA)))):W (PE X e (Aa sp E tA)):=peD h λσ H Q q=>{_,q,λvs H2 F=>by dsimp only;rw [PY];exact F}
theorem cXD(h:W (PE X e (kL sp [] Ex (clA tA)))):W (PE X e (xC sp Ex tA)):=peD h λσ H Q q=>{_,q,λvs H2 F=>by dsimp only;rw [PY];exact F}
theorem fD(h:W (PE X e (lB C (clT ta) m))):W (PE X e (An C ta m)):=peD h λσ H Q q=>{_,q,λx H1 q1=>by
 obtain ⟨a,rfl,dx,fs,v,F⟩:=q1.ex;exact {a,dx,fs,v,rfl,F}}
theorem sfD(h:W (PS X st (lD C (clT ta) (clT tv) m))):W (PS X st (x8 C ta tv m)):={λGo s σ H D I q=>h.h Go s σ H D I {_,q,λy H1 q1=>{_,q1,λx H2 F=>by
 obtain ⟨a,rfl,dx,fs,G⟩:=F.ex;exact {a,dx,fs,rfl,G}}}}
theorem liD(h:W (PIc c X tg e (nS X.K (clT ta)))):W (PIc c X tg e (vG X.K ta)):={λGo s σ H R I q=>h.h Go s σ H R I {_,q,λx H1 q1=>q1.ex}}
theorem gsD(h:W (PGs X ts (il g u))):W (PGs X ts (sr g u)):={λGo s σ H vs us Q I F q=>h.h Go s σ H vs us Q I F (by cases vs with|nil=>exact q.elim|cons v r=>exact {v,r,rfl,q})}
theorem bS:IxR X iG:=pZ.weak λx y H Q h=>by
 cases x<;>cases y<;>first|exact h.elim|skip
 .rename_i a i;exact (uW (x:=a) (i:=i)).mpr h
 .rename_i a i;exact (m4 (a:=a) (i:=i)).mpr h
theorem fK:zU X (.builtin "len") oz:=jL.weak λxs H Q h=>by
 match xs,h with
 | [.ref a],h=>exact (pF (a:=a)).mpr h
 | [.str x],h=>exact (xB (x:=x)).mpr h
theorem oE{f:Value->Value->Sem Value}(h:OpR X f (uEq c)):OpR X f (jQ c):=h.weak λx y H Q h=>by
 cases x<;>cases y<;>first|exact h.elim|exact u9.mpr h|exact ud.mpr h|exact sy.mpr h|exact jV.mpr h
theorem bw:OpR X (QH .Add) jr:=o5.weak λx y H Q h=>by
 cases x<;>cases y<;>first|exact h.elim|exact x3.mpr h|exact ua.mpr h|exact rN.mpr h
end
end L2
namespace HT
open PySem PyProof.Rows
end HT
namespace L2
open PySem PySem.Spec PyProof.Rows
section
variable {P:OE}{w:OW}{K:Ov}{mg:Str->Option Value}{base:Heap}{x qual:Str}{st:Stmt}{f:Addr}{fd:OJ}{N ps:List Str}{cm:Bool}{k:Nat}{sp:Sp}
theorem Fun.o(F:Fun K x qual st f fd)(S:zy N ps (zm st))
  (J:∀(G:Value)(A:OR)(outer:List Env)(s:Oq)(H:Hp)(vs:List V)(Q:VK)(E:XK),zG cm k (A.deeper (QV qual (zm st) s.heap.objs.size f G))->sp vs H Q E ->
   ∃t,PSs (bH CX0 cm P w K mg base N qual (zm st) f G A outer s H E).b0 (cU st) t/\t { nx:=λ_ H'=>Q .non H',rt:=Q } (start N vs) H)
  (len:∀vs H Q E,sp vs H Q E->vs.length=ps.length:=by intro _ _ _ _ h;repeat (first|(obtain ⟨rfl,_⟩:=h;rfl)|(obtain ⟨_,h⟩:=h))):zq P w K mg base CX0 cm (k+1) f fd ps sp:=F.ok S len J
theorem Fun.oW(F:Fun K x qual st f fd)(S:zy N ps (zm st))
  (J:∀(G:Value)(A:OR)(outer:List Env)(s:Oq)(H:Hp)(vs:List V)(Q:VK)(E:XK),zG cm k (A.deeper (QV qual (zm st) s.heap.objs.size f G))->sp vs H Q E ->
   ∃t,PSs (bH (CXW P w) cm P w K mg base N qual (zm st) f G A outer s H E) (cU st) t/\t { nx:=λ_ H'=>Q .non H',rt:=Q } (start N vs) H)
  (len:∀vs H Q E,sp vs H Q E->vs.length=ps.length:=by intro _ _ _ _ h;repeat (first|(obtain ⟨rfl,_⟩:=h;rfl)|(obtain ⟨_,h⟩:=h))):zq P w K mg base (CXW P w) cm (k+1) f fd ps sp:=F.c1 S len J
end
section
variable {prog:OE}{w:OW}{A:OR}{E:Value->Oq->Prop}{s:Oq}{env:Env}
variable {nm q:Str}{C N:Addr}{bs bm bmB:List Value}{hdct:Bool}{sn:List Str}{sub:List Value}{ab:Bool}{col:Option Bool}{dd:Option Addr}{k0 k1 k2 k3 k5:Option Value}{B newId initId:String}
def nA(A:OR)(F:Heap)(e:Addr)(h h':Heap):Prop:=h'=h\/∃a n,A.handled=some (.ref a)/\bF F n a/\h'=h.update e (RN (·.setIfInBounds 2 (.ref a)))
theorem JT{α:Type}{Q:α->Oq->Prop}(G:Hnd A F)(kp:∀b o,(∃C,o.cls = .ref C)->F.get? b=some o->s.heap.get? b=some o)(O:F.get? e=none)(J:s.heap.get? e=some oe)(hd:oe.data = .fields ws)(hz:2<ws.size)(k:∀h',nA A F e s.heap h'->E (.ref e) { s with heap:=h' }):Oz (OI prog w) A (SI (.ref e):Sem α) Q E s:=by
 unfold SI;refine we (wpAny_handled ?_);rcases G with G|⟨a,n,h1,h2⟩
 .rw [G];exact we (Os (TF (k s.heap (.inl rfl))))
 .rw [h1];have ne:∀n b,bF F n b->b≠e:=λn b x z=>by
   obtain ⟨o,C,g,c⟩:=x.cls;rw [z,O] at g;cases g
  dsimp only;rw [if_pos (show (OF a != OF e)=true by simpa using ne _ _ h2)];refine we (OV (wpAny_runValue (yC kp ne h2 h2 (OA _) ?_)));refine we ?_;show Oz _ _ (RH (.ref e) 2 (.ref a)) _ _ _;exact PK J hd hz (TF (k _ (.inr {a,n,h1,h2,rfl})))
theorem rh(W:bm.contains (.type "BaseException")=true)(h:Oz (OI prog w) A x (λv s₁=>∃e t F,v = .ref e/\Hnd A F/\(∀b o,(∃C,o.cls = .ref C)->F.get? b=some o->s₁.heap.get? b=some o)/\F.get? e=none/\s₁.heap.get? C=some (excClassObj nm q C N bs bm hdct sn sub ab col dd k0 k1 k2 k3 k5 newId) /\
   s₁.heap.get? e=some { cls:=.ref C,data:=.fields #[.ref t,.none,.none,.none,.bool false,.none] }/\∀h',nA A F e s₁.heap h'->E (.ref e) { s₁ with heap:=h' }) E s):
  Oz (OI prog w) A (raiseStmt env (some x) none) Q E s:=by
 have G:(OF C::bm).contains (.type "BaseException")=true:=by rw [List.contains_cons,W,Bool.or_true]
 unfold raiseStmt;refine we (O3 h (λv s₁ h₁=>?_) λ_ _ x=>x);obtain ⟨e,t,F,rfl,U,kp,Z,O,J,S⟩:=h₁;obtain ⟨hp,g,d,tk,os⟩:=s₁
 repeat (first|with_reducible refine Sg J ?_|with_reducible refine Sg O ?_|(with_reducible refine SW O ?_;rw [G])|wp_step)
 exact JT U kp Z J rfl 'z' S
theorem LO(F:ExcBaseFacts B newId initId bmB)(Zw:bm.contains (.type "BaseException")=true)(Yn:(QW cpos (O8 args env)).any (·.1)=false)(W:mN Wm=none)(h:Oz (OI prog w) A (Qc (.Name x np) env) (λf s₁=>f = .ref C/\Oz (OI prog w) A (evalArgs (.ref C) true (QW cpos (O8 args env)) [])
   (λa G=>a.kw=[]/\a.pos.length<=sizeLine/\Hnd A G.heap/\G.heap.get? C=some (excClassObj nm q C N bs bm hdct sn sub ab col dd k0 k1 k2 k3 k5 newId)/\G.heap.Ns N mN/\OwnTail G.heap bmB bm /\
    ∀h' e,Heap.MadeExcOf G.heap h' e (.ref C) a.pos->∀U,nA A G.heap e h' U->E (.ref e) { G with heap:=U }) E s₁) E s):
  Oz (OI prog w) A (exec (.Raise (some (.Call (.Name x np) args [] cpos)) none pos) env) Q E s:=by
 rw [arm_exec_Raise]
 first
  | refine we (Pn (rh (C:=C) (nm:=nm) (q:=q) (N:=N) (bs:=bs) (bm:=bm) (hdct:=hdct) (sn:=sn) (sub:=sub) (ab:=ab) (col:=col) (dd:=dd) (k0:=k0) (k1:=k1) (k2:=k2) (k3:=k3) (k5:=k5) (newId:=newId) Zw (we (O3 (TM (O3 h (λf s₁ h₁=>?_) λ_ _ x=>x)) (λv s₃ J=>we (Pn (Os J))) λ_ _ x=>x))))
  | (simp only [evalOpt,Option.map];refine we (Pn (rh (C:=C) (nm:=nm) (q:=q) (N:=N) (bs:=bs) (bm:=bm) (hdct:=hdct) (sn:=sn) (sub:=sub) (ab:=ab) (col:=col) (dd:=dd) (k0:=k0) (k1:=k1) (k2:=k2) (k3:=k3) (k5:=k5) (newId:=newId) Zw (we (O3 (TM (O3 h (λf s₁ h₁=>?_) λ_ _ x=>x)) (λv s₃ J=>we (Pn (Os J))) λ_ _ x=>x)))))
  | (refine we (Pn (rh (C:=C) (nm:=nm) (q:=q) (N:=N) (bs:=bs) (bm:=bm) (hdct:=hdct) (sn:=sn) (sub:=sub) (ab:=ab) (col:=col) (dd:=dd) (k0:=k0) (k1:=k1) (k2:=k2) (k3:=k3) (k5:=k5) (newId:=newId) Zw ?_));refine we (O3 (TM (O3 h (λf s₁ h₁=>?_) λ_ _ x=>x)) (λv s₃ J=>we (Pn (Os J))) λ_ _ x=>x))
 obtain ⟨rfl,h₁⟩:=h₁;unfold RY;refine we (OV (O3 h₁ (λa G O=>we (Pn ?_)) λ_ _ x=>x));obtain ⟨ZR,Z⟩:=a;obtain ⟨W7,ZL,hh,hC,hn,T,O⟩:=O;obtain rfl:Z=[]:=W7;obtain ⟨hp,g,d,tk,os⟩:=G;simp only [Yn];refine we (wpAny_keeperOf_exc hC ?_);refine we (wpAny_call_exc_subT (hrest:=ZL) F T hC hn W λh' e S=>we (OV (wpAny_point (Os ?_))));obtain ⟨t,ht,_,_⟩:=S.there;exact {e,t,hp,rfl,hh,λb o _ z=>S.keeps _ _ z,S.new,S.keeps _ _ hC,ht,O h' e S}
end
theorem NG{t:TA}(T:bj X Ex)(O:bG X.K C)(hg:Gl X x)(U:X.mg x=some (.ref C))(Z:PA X (e::es) t)(Zn:(x==("__debug__":Str))=false:=by decide)(hst:O8 (e::es) X.env=(false,Qc e X.env)::O8 es X.env:=by rfl)(Yq:(QW cpos (O8 es X.env)).any (·.1)=false:=by rfl):
  PS X (.Raise (some (.Call (.Name x np) (e::es) [] cpos)) none pos) (jD C Ex t):=by
 intro Go s σ H D I h;obtain ⟨cd,_,⟨bm,N,nm,q,bs,hdct,sn,sub,ab,col,dd,k0,k1,k2,k3,k5,mN,em,hC,hN,S,TL⟩⟩:=O.obj I.ok.mod.bY;refine LO (C:=C) (nm:=nm) (q:=q) (N:=N) (bs:=bs) (bm:=bm) (hdct:=hdct) (sn:=sn) (sub:=sub) (ab:=ab) (col:=col) (dd:=dd) (k0:=k0) (k1:=k1) (k2:=k2) (k3:=k3) (k5:=k5) (mN:=mN) Tr (TL.hasType 'd')
  (by rw [hst];show (false||(QW cpos (O8 es X.env)).any (·.1))=false;rw [Yq];rfl) S (fi I hg U {rfl,?_} Zn)
 have hA:=Z cpos Go s σ H _ I h;rw [hst] at hA ⊢;refine Calls.evalArgs_plain (thn hA λus s2=>x5e λvs H2 F r2=>x2e λhz q2=>{rfl,by rw [<- r2.length];exact hz,F.hnd,F.bk _ _ hC,hN.keeps F.bk,TL.keeps F.bk,λh' ea G J hu=>?_});obtain ⟨tt,he,ai,_⟩:=G.there;have Xm:∀env∈X.stack,∀a,env.frame=some a->a∈frs X.stack:=λenv U a Z=>RV.mpr ⟨env,U,Z⟩;have kp:∀b o,s2.heap.get? b=some o->J.get? b=some o:=λb o z=>by
  rcases hu with rfl|⟨a,n,_,_,rfl⟩
  .exact G.keeps b o z
  .rw [O0 _ _ (λy=>by rw [<- y,G.new] at z;cases z)];exact G.keeps b o z
 refine T Go σ H2 s2 ea C (Uy s2.heap (frs X.stack)) .none { s2 with heap:=J } F {λb o e=>kp b o (Su _ e),?_,?_,?_} rfl F.bare (λb o e hb=>hideAll_get _ e hb) (λb o e _=>{o.slots,kp b o e}) q2
 .cases z:(Uy s2.heap (frs X.stack)).get? ea with
  | none=>rfl
  | some o =>
   have:=Su _ z;rw [G.new] at this;cases this
 .exact (PySem.W.funFrames_hide F.stack Xm).of_keeps λb o e _=>{o,kp b o e,rfl}
 .rcases hu with rfl|⟨a,n,h1,_,rfl⟩
  .exact {_,_,he,rfl,rfl,rfl,'z',{_,rfl,.inl rfl},.inl rfl}
  .obtain ⟨k,ch⟩:∃k,Chn H2 k a:=by
    rcases F.hdk with z|⟨a',k,z,ch⟩
    .rw [z] at h1;cases h1
    .rw [h1] at z;cases z;exact ⟨k,ch⟩
   exact {_,_,Pu _ he rfl,rfl,rfl,rfl,'z',{_,rfl,.inr {a,k,rfl,ch}},.inl rfl}
abbrev iD(X:Cx)(Go:List (Addr×Obj))(ea:Addr)(Ex:Addr->St->Hp->Prop):Cx:={ g9 X Go ea with xe:=jj X Ex }
theorem Inv.UV(ok:X.Ok)(F:X.A.handled=none)(I:Inv (iD X Go ea Ex) ps σ H s):Inv X (Go++ps) σ H s :=
 {ok,I.os,I.bare,I.base,I.loc,I.cell,I.free,I.J7,λp G=>I.pin p (by show p∈(X.pn++Go)++ps;rw [O6];exact G),I.hok,I.len,.inl F}
theorem N8(ok:X.Ok)(J:X.A.handled=none):bj (iD X Go ea Ex) Ex :=
 λps σ H G F C B fl s' I y os bare O up q=>{F,C,B,H,fl,σ,G,Go++ps,rfl,I.UV ok J,y,os,bare,O,up,q}
theorem EG(T:bj X Ex)(hst:X.stack=X.env::X.outer/\X.env.frame=some X.env.locals)(h:jj X Ex e s'):notedBy (OI X.prog X.w) (X.A.mark hd) X.env (cameBackBy (OI X.prog X.w) X.A X.env X.xe) e s':=by
 obtain ⟨ea,C,B,H',fl,σ,S,Go,rfl,I,y,os,bare,Z,up,q⟩:=h;have fr:X.A.frames=some (X.env::X.outer):=by rw [I.ok.frames,hst.1]
 rw [hst.1] at y;refine uO (A:=X.A.mark hd) fr hst.2 y λh1 G J u1=>?_;obtain ⟨oe,vs,U,g1,O,W⟩:=J;refine we (PL g1 O W ?_);rw [if_neg (show ¬ ((OF U==Pf)=true) by simp)];rw [hst.2];refine yX (s:={ s' with heap:=h1 }) G λh2 F u2=>?_;rw [<- hst.1] at F;exact T Go σ H' S ea C B _ { s' with heap:=h2 } I F os bare Z ((up.trans u1).trans u2) q
theorem FD(hc:X.calm=true)(Yk:X.ex=[])(W:X.stack=X.env::X.outer/\X.env.frame=some X.env.locals)(OD:bG X.K D)(hg:Gl X x)(hm:X.mg x=some (.ref D))(hb:∀Go Ex,PSs (ji X Go Ex) ZQ (tb Ex))(T:bj X Ex)(hs:∀Go ea,bj (iD X Go ea Ex) Ex->PSs (iD X Go ea Ex) (G::YV) ts)(Zn:(x==("__debug__":Str))=false:=by decide):
  PS X (.Try ZQ [.ExceptHandler (some (.Name x np)) none (G::YV) XO] [] [] pos) (jC X.K D tb ts):=by
 intro Go s σ H Z I h;have hh:X.A.handled=none:=I.ok.hd hc;refine wpAny_Try_except (O3 (hb Go _ [] s σ H Z (I.p.UY _) h) (λf s1 q=>?_) λe s1 q=>?_)
 .cases f with
  | next =>
   obtain ⟨F,H',J,q⟩:=q;exact R1 {F,H',Inv.bR I.ok J.ro,q}
  | brk=>obtain ⟨F,H',J,q⟩:=q;exact {F,H',Inv.bR I.ok J.ro,q}
  | cont=>obtain ⟨F,H',J,q⟩:=q;exact {F,H',Inv.bR I.ok J.ro,q}
  | ret u=>obtain ⟨v,F,H',J,r,q⟩:=q;exact {v,F,H',Inv.bR I.ok J.ro,r,q}
 .obtain ⟨ea,C,B,H',fl,F,sI,rfl,J,y,os,bare,hB,up,OC,sub,ai⟩:=q;have fr:X.A.frames=some (X.env::X.outer):=by rw [I.ok.frames,W.1]
  rw [W.1] at y;refine oJ fr W.2 y λh2 y2 u2=>iU (s:={ s1 with heap:=h2 }) y2 λh3 y3 u3=>?_;have aT:bz H' B X.stack ea (.ref C) .none h3:=by rw [W.1];exact y3
  have av:=(up.trans u2).trans u3;obtain ⟨_,a5,c3,g3,J3⟩:=l9 (s':={ s1 with heap:=h3 }) Yk J aT os bare hB av;obtain ⟨aI,cC,eC⟩:=OC.obj J3.UX;obtain ⟨a4,cD,eD⟩:=OD.obj J3.UX;have XS:aI.mro.contains (.ref D)=true:=by
   unfold SF at sub;rw [cC] at sub;simp only [Uo] at sub;split at sub
   .cases sub
   .exact Pa.inj sub
  refine wpAny_handleBy_cons (codeAny_handlers_test (fi (X:=g9 X Go ea) J3 hg hm ?_ Zn)) (by intro q;cases q);refine wt (h:=h3) (g:=s1.gens) (d:=s1.drawn) (t:=s1.toks) (os:=s1.os) eC eD g3 c3.1 XS ?_;refine codeAny_handlers_suite ?_;refine iU (s:={ s1 with heap:=h3 }) y3 λh4 y4 u4=>?_;have a0:bz H' B X.stack ea (.ref C) .none h4:=by rw [W.1];exact y4
  obtain ⟨ax,a3,c4,g4,J4⟩:=l9 (s':={ s1 with heap:=h4 }) Yk J a0 os bare hB (av.trans u4);refine O3 (hs Go ea (N8 I.ok hh) [] _ _ _ _ (J4.UY (jj X Ex)) (ai ea a3 ax c4)) (λf s6 q6=>?_) λ_ _ z=>EG T W z;cases f with
  | next=>obtain ⟨S,H7,U,O⟩:=q6;exact {_,_,(by simpa using U.UV I.ok hh),O}
  | brk=>obtain ⟨S,H7,U,O⟩:=q6;exact {_,_,(by simpa using U.UV I.ok hh),O}
  | cont=>obtain ⟨S,H7,U,O⟩:=q6;exact {_,_,(by simpa using U.UV I.ok hh),O}
  | ret u=>obtain ⟨v,S,H7,U,r7,O⟩:=q6;exact {v,_,_,(by simpa using U.UV I.ok hh),r7,O}
section
variable {X:Cx}
theorem KJ{t:TA}(T:bj X Ex)(O:bG X.K C)(Z:Gl X x)(U:X.mg x=some (.ref C))(G:W (PA X (e::es) t))(J:aU e=true:=by rfl)(Yb:dG es=true:=by rfl)(S:(x==("__debug__":Str))=false:=by decide):
  W (PS X (.Raise (some (.Call (.Name x F) (e::es) [] cpos)) none pos) (jD C Ex t)):={NG T O Z U G.h S (dE J) (fB Yb)}
theorem Ds(Z:X.calm=true)(Yk:X.ex=[])(YL:X.stack=X.env::X.outer/\X.env.frame=some X.env.locals)(O:bG X.K D)(hg:Gl X x)(hm:X.mg x=some (.ref D))(hb:∀Go Ex,W (PSs (ji X Go Ex) G (tb Ex)))(T:bj X Ex)(hs:∀Go ea,bj (iD X Go ea Ex) Ex->W (PSs (iD X Go ea Ex) (F::J) ts))(Zn:(x==("__debug__":Str))=false:=by decide):
  W (PS X (.Try G [.ExceptHandler (some (.Name x S)) none (F::J) U] [] [] pos) (jC X.K D tb ts)):={FD Z Yk YL O hg hm (λGo Ex=>(hb Go Ex).h) T (λGo ea t=>(hs Go ea t).h) Zn}
end
end L2
namespace L2
open PySem PySem.Spec PyProof.Rows PySem.W PySem.Calls
def EqP(P:OE)(w:OW)(A:OR)(s:Oq)(u v:Value):Prop:=∀(E:Value->Oq->Prop)(Q:Bool->Oq->Prop),Q true s->Oz (OI P w) A (eqBool u v) Q E s
section
variable {prog:OE}{w:OW}{A:OR}{E:Value->Oq->Prop}{s:Oq}{K:Type} [DecidableEq K] {knd:KeyKind prog w K}
theorem B6(ha:(a==sysModules)=false)(hb:(b==sysModules)=false)(da:s.heap.DictOf knd a F)(db:s.heap.DictOf knd b kb)(hl:F.length=kb.length)(XR:∀(i:Nat) k v,F[i]?=some (k,v)->∃y,SY kb k=some y/\EqP prog w A s v y)(h:Q true s):Oz (OI prog w) A (OO.Dict.samePairs nm a b) Q E s:=by
 obtain ⟨oa,es,ep,J,_,G,av,W,_⟩:=da;obtain ⟨ob,fs,eq,O,_,Zn,ai,Z,_⟩:=db;have la:es.size=F.length:=by rw [<- W.length,Qa]
 have lb:fs.size=kb.length:=by rw [<- Z.length,Qa]
 unfold OO.Dict.samePairs OO.Dict.showsAll;rw [if_neg (by rw [ha];exact OP),if_neg (by rw [hb];exact OP)];refine we (Os (we (Os (we (Sh J G ?_)))));dsimp only;refine we (Sh O Zn ?_);rw [if_neg (by rw [la,lb,hl];simp)];refine we (wpAny_dictEpoch J G (we ?_));rw [Std.Legacy.Range.forIn_eq_forIn_range'];simp only [Std.Legacy.Range.size,Nat.sub_zero,Tt,Nat.div_one];refine wpAny_forIn_list _ (λYM q s'=>s'=s/\q=(none,())/\∃i,YM=range' i (es.size-i)) _ ?_ ?_ _ _ {rfl,rfl,0,'z'}
 .rintro x YM q s' ⟨rfl,rfl,i,S⟩;have lt:i<es.size:=Qq λc=>by rw [Nat.sub_eq_zero_of_le 'l'] at S;cases S
  rw [show es.size-i=(es.size-(i+1))+1 by lia,Up] at S;obtain ⟨rfl,rfl⟩:=List.cons.inj S;refine we (Sh J G ?_);rw [Po lt];have lk:x<F.length:=by lia
  have ek:F[x]?=some (F[x].1,F[x].2):=KE lk;obtain ⟨X4,U⟩:=W.get? (i:=x) (e:=es[x]) (by rw [Qm];exact Po lt) ek;obtain ⟨k',Ye,hh⟩:=av es[x] (Array.getElem_mem lt);rw [knd.inj _ _ _ Ye X4] at hh;obtain ⟨y,hy,he⟩:=XR x _ _ ek;show Oz _ _ (Q1 [es[x].key,es[x].val] _>>=_) _ _ _;rw [hh];refine we (OV (we (wpAny_dictFind_of X4 O Zn ai ?_)));have ef:=(Z.find F[x].1).trans hy;cases hj:fs.findIdx? λe=>knd.is F[x].1 e.key with
  | none =>
   have:fs.toList.find? (λe=>knd.is F[x].1 e.key)=none:=by
    rw [List.find?_eq_none];intro e hm;have:=Array.findIdx?_eq_none_iff.mp hj e (Array.mem_toList_iff.mp hm);simp [this]
   rw [this] at ef;cases ef
  | some j =>
   obtain ⟨lj,t1,t2⟩:=Array.findIdx?_eq_some_iff_getElem.mp hj;have ey:fs[j].val=y:=by
    have:fs.toList.find? (λe=>knd.is F[x].1 e.key)=some fs[j]:=by
     rw [List.find?_eq_some_iff_getElem];exact {t1,j,by simpa using lj,'z',λm hm=>by have:=t2 m hm;simpa using this}
    rw [this] at ef;exact Pa.inj ef
   refine we (Sh O Zn ?_);rw [Po lj];rw [<- ey,<- U] at he;refine OV (he _ _ ?_);rw [if_neg 'd'];refine we (wpAny_dictEpoch J G ?_);rw [if_neg 'z'];exact Os {rfl,rfl,x+1,rfl}
 .rintro q s' ⟨rfl,rfl,i,S⟩;exact Os h
theorem HI(W:(a==sysModules)=false)(Z:(b==sysModules)=false)(G:s.heap.DictOf knd a S)(O:s.heap.DictOf knd b J)(hu:A.units<cLine)(hl:S.length=J.length)(U:∀(i:Nat) k v,S[i]?=some (k,v)->∃y,SY J k=some y/\EqP prog w A.in1 s v y):EqP prog w A s (.ref a) (.ref b):=λE Q q=>by
 by_cases e:a=b
 .subst e;exact SeqAt.EqAt.same _ prog w E Q q
 unfold eqBool;refine OV (SS (λz=>absurd (by have:=eq_of_beq z;injection this) e) λ_=>we ?_);refine wpAny_richCompare_same_room (op:=.Eq) G.typeIs O.typeIs PySem.F.slot_dict_eq (PU PySem.F.slot_dict_eq G.typeIs PySem.F.entry_dict_eq ?_ (PySem.F.args_dict_eq_2 _ _)) hu;show Oz _ _ (OO.Dict.dictSlotArgs "__eq__" {[.ref a,.ref b],[]}>>=_) _ _ s;unfold OO.Dict.dictSlotArgs;refine we (we (wpAny_notOrdered_dict G.typeIs ?_));show Oz _ _ (pure (OF a,OF b)) _ _ s;refine Os (we (Sr (T:="dict") O.typeIs PySem.F.sub_dict_dict ?_));simp only [Bool.not_true,Qu,if_false];refine we (Os (we (Os (we (B6 W Z G O hl U (Os {_,rfl,(λx=>nomatch x),?_}))))));exact Qr q
end
def EqT(H:Hp)(d d':Addr):Prop:=∃kvs F,H d=some (.dK (sk kvs))/\H d'=some (.dK (sk F))/\kvs.length=F.length/\∀(i:Nat) n v,kvs[i]?=some (n,v)->∃G,look F n=some G/\∃(a b:Addr)(l:List Int),v = .ref a/\G = .ref b/\H a=some (.lst (l.map V.int))/\H b=some (.lst (l.map V.int))
def vM(H:Hp)(d d':Addr):Prop:=∃kvs F,H d=some (.dK (sk kvs))/\H d'=some (.dK (sk F))/\kvs.length=F.length/\∀(i:Nat) n v,kvs[i]?=some (n,v)->∃G,look F n=some G/\∃a b,v = .ref a/\G = .ref b/\EqT H a b
section
variable {X:Cx}{Go:List (Addr×Obj)}{σ:St}{H:Hp}{s:Oq}{A:OR}
theorem wk(I:Inv X Go σ H s){R:V->V->Prop}{d d':Addr}(e1:H d=some (.dK (sk kvs)))(e2:H d'=some (.dK (sk YT)))(hl:kvs.length=YT.length)(hu:A.units<cLine)(h:∀(i:Nat) n v,kvs[i]?=some (n,v)->∃J,look YT n=some J/\R v J)(hR:∀v J u u',R v J->zr v u->zr J u'->EqP X.prog X.w A.in1 s u u'):EqP X.prog X.w A s (.ref d) (.ref d'):=by
 obtain ⟨z,hd,vs,S,dd⟩:=di I.hok (.inl e1);obtain ⟨z2,U,Z,G,O⟩:=di I.hok (.inl e2);refine HI hd U dd O hu ?_ λi k u hi=>?_
 .rw [<- S.length,<- G.length];unfold sk;rw [Ow,Ow];exact hl
 .have li:i<kvs.length:=by
   have:=(OG.mp hi).1;rw [<- S.length] at this;unfold sk at this;rwa [Ow] at this
  have ek:kvs[i]?=some (kvs[i].1,kvs[i].2):=KE li;have es:(sk kvs)[i]?=some (.inr kvs[i].1,kvs[i].2):=by unfold sk;rw [OT,ek];rfl
  obtain ⟨u',F,ru⟩:=S.at es;rw [hi] at F;injection F with F
  injection F with e3 e4
  subst e3 e4;obtain ⟨J,W,r⟩:=h i _ _ ek;have hv:=G.val (.inr kvs[i].1);rw [eY,W] at hv;cases hy:SY Z (.inr kvs[i].1) with
  | none=>rw [hy] at hv;exact hv.elim
  | some y=>rw [hy] at hv;exact {y,rfl,hR _ _ _ _ r ru hv}
theorem EqT.at(I:Inv X Go σ H s){d d':Addr}(h:EqT H d d')(hu:A.in1.units+64<cLine)(F:A.units<cLine):EqP X.prog X.w A s (.ref d) (.ref d'):=by
 obtain ⟨kvs,YT,U,S,hl,h⟩:=h;refine wk I (R:=λv J=>∃(a b:Addr)(l:List Int),v = .ref a/\J = .ref b/\H a=some (.lst (l.map V.int))/\H b=some (.lst (l.map V.int))) U S hl F h ?_;rintro v J u u' ⟨a,b,l,rfl,rfl,O,Z⟩ ru G;cases ru;cases G;obtain ⟨is,r1,p1,_⟩:=I.list (SqL.of (K:=X.K) O);obtain ⟨js,r2,p2,_⟩:=I.list (SqL.of (K:=X.K) Z);have z:=PySem.W.keq_ints (A:=A) p1.isList (qz r1) p2.isList (qz r2) hu;rw [decide_eq_true rfl] at z;exact λE Q q=>z X.prog X.w E Q q
theorem vM.at(I:Inv X Go σ H s){d d':Addr}(h:vM H d d')(Z:A.in1.in1.units+64<cLine)(G:A.in1.units<cLine)(F:A.units<cLine):EqP X.prog X.w A s (.ref d) (.ref d'):=by
 obtain ⟨kvs,YT,U,S,hl,h⟩:=h;refine wk I (R:=λv O=>∃a b,v = .ref a/\O = .ref b/\EqT H a b) U S hl F h ?_;rintro v O u u' ⟨a,b,rfl,rfl,t⟩ W J;cases W;cases J;exact t.at I Z G
end
end L2
namespace L2
open PySem PySem.Spec PyProof.Rows
end L2
namespace HT
open PySem PyProof.Rows
end HT
namespace L2
open PySem PySem.Spec PyProof.Rows
section
variable {X:Cx}
def EqD:Nat->Hp->V->V->Prop
 | 0,_,p,q=>p=q/\zP p=true
 | n+1,H,p,q=>(p=q/\zP p=true)\/∃a b xs ys,p = .ref a/\q = .ref b/\((H a=some (.lst xs)/\H b=some (.lst ys))\/(H a=some (.tup xs)/\H b=some (.tup ys)))/\xs.length=ys.length/\∀(j:Nat) x y,xs[j]?=some x->ys[j]?=some y->EqD n H x y
theorem wD(f:zP x=true)(J:zr x u)(F:zr x v):SeqAt.EqAt A s u v true:=by
 have e:eqV x x=true:=by
  have:=kZ (xs:=[x]) (by rw [Uh,f];rfl) λy G b z=>by rw [OS.mp G] at z;rw [z] at f;cases f
  unfold eqL at this;simpa using this
 rw [<- e];exact jH J F f f
theorem EqD.at(I:Inv X Go σ H s):∀(n:Nat){x y:V}{u v:Value}{A:OR},EqD n H x y->zr x u->zr y v->A.units+n<cLine->SeqAt.EqAt A s u v true
 | 0,x,y,u,v,A,h,G,J,O=>by
  obtain ⟨rfl,f⟩:=h;exact wD f G J
 | n+1,x,y,u,v,A,h,G,J,O=>by
  rcases h with ⟨rfl,f⟩|⟨a,b,xs,ys,rfl,rfl,hh,hl,he⟩
  .exact wD f G J
  cases G;cases J;by_cases S:a=b
  .subst S;exact SeqAt.EqAt.same _
  have Z:A.in1.units+n<cLine:=O9 (by first|exact OA _|(show A.units+n<=A.units+(n+1);exact RA _)|(simp [OR.in1];lia)) O;have cmp:∀{is F:List Value},zx xs is->zx ys F->∀j (h1:j<is.toArray.size) (h2:j<F.toArray.size),SeqAt.EqAt A.in1 s is.toArray[j] F.toArray[j] true:=λ{is F} r1 r2 j h1 h2=>by
   have l1:=r1.length;have l2:=r2.length;simp only [OQ] at h1 h2;have e1:xs[j]?=some (xs[j]''l'):=KE _;have e2:ys[j]?=some (ys[j]''l'):=KE _;obtain ⟨u,g1,q1⟩:=r1.get e1;obtain ⟨v,g2,q2⟩:=r2.get e2;rw [KE h1] at g1;rw [KE h2] at g2;have w1:is.toArray[j]=u:=by simpa using Pa.inj g1
   have w2:F.toArray[j]=v:=by simpa using Pa.inj g2
   rw [w1,w2];exact EqD.at I n (he j _ _ e1 e2) q1 q2 Z
  rcases hh with ⟨ha,W⟩|⟨ha,W⟩
  .obtain ⟨is,r1,U,_⟩:=I.list (SqL.of (K:=X.K) ha);obtain ⟨F,r2,p2,_⟩:=I.list (SqL.of (K:=X.K) W);have z:=SeqAt.RcAt.lists (A:=A) (e:=λ_=>true) U.isList p2.isList (by have:=r1.length;have:=r2.length;simp only [OQ];lia) (O9 (SD ..) O) (cmp r1 r2);have e:(Pm is.toArray.size).all (λ_=>true)=true:=by simp
   rw [e] at z;exact .of_refs S z
  .obtain ⟨is,r1,U,_⟩:=I.tuple (SqT.of (K:=X.K) ha);obtain ⟨F,r2,p2,_⟩:=I.tuple (SqT.of (K:=X.K) W);have z:=SeqAt.RcAt.tuples (A:=A) (e:=λ_=>true) U p2 (O9 (SD ..) O) (cmp r1 r2);have e:((Pm (min is.toArray.size F.toArray.size)).all (λ_=>true)&&is.toArray.size==F.toArray.size)=true:=by have:=r1.length;have:=r2.length;simp;lia
   rw [e] at z;exact .of_refs S z
end
theorem GU{K:Ov}{k:Nat}(G:zG cm (k+1) A)(U:fM P w K mg base A outer s H)(ho:s.heap.get? f=some (kla_obj "<lambda>" qual Z0 F scope [] pm c' XB))(hcd:s.heap.CodeRec (.ref c') qual)(S:zy [x] [x] scope)(hb:To (kla_fn "<lambda>" qual Z0 F scope [] pm (.ref c') XB) {[u],[]}=pure [(x,u)])(r:zr v u)(Zh:zG cm k (A.deeper (QV qual scope s.heap.objs.size f (.ref c')))->PE (bH CX0 cm P w K mg base [x] qual scope f (.ref c') A outer s H E) F te)(h:te [some v] H Q):
  QE (OI P w) A (.call (.ref f) {[u],[]}) (CR CX0 outer P w H s Q E) s:=by
 have O:s.heap.NoLimit:=U.mod.nolimit.keeps λb o e=>(U.bs b o e).1;have Yx:∀y∈[x].zip [u],scope.names.lookup y.1=some .local\/(scope.names.lookup y.1=some .cell/\((QC (s.heap.objs.size+1) scope.names []).lookup y.1).isSome=true):=λ⟨n,v⟩ hy=>by
  rcases S.par n (of_mem_zip hy).1 with q|q
  .exact .inl q
  .exact .inr {q,cellsFrom_some _ _ _ (.inl q)}
 refine PySem.W.kla_callFunE G.depth ho rfl S.co S.gen rfl hcd ?_;rw [hb];refine Os (wpAny_newFunctionEnv_cells S.kind Yx λenv he s1 Z=>?_);subst he;refine {O.keeps Z.toInCall.keep,PySem.W.kla_codeExpr ?_};have I:Inv (bH CX0 cm P w K mg base [x] qual scope f (.ref c') A outer s H E) [] (start [x] [v]) H s1:=uh (us:=[u]) S G.hd U rfl (.cons r .nil) Z;refine O3 (Zh (G.deeper _) [] s1 _ H Q I h) (λu' s' hs=>?_) λe s' hs=>hs;obtain ⟨v',H',J,rv,q⟩:=hs;exact ⟨v',H',J.os,J.bare,J.base,J.hok,rv,q⟩
def bX(F:Nat->Int):Nat->Nat
 | 0=>0
 | j+1=>if F (j+1)>F (bX F j) then j+1 else bX F j
def Gu(as:List Addr)(F:Nat->Int):Nat->Array Value->Prop
 | 0,its=>its = #[]
 | j+1,its=>∃a t,as[bX F j]?=some a/\its = #[.ref a,.int (F (bX F j)) t]
theorem Mn(G:Nat->Int)(hc:X.calm=true)(hl:H l=some (.lst (as.map V.ref)))(U:S≠I)(h0:0<as.length)(fI:aE X Go H I)(fS:aE X Go H S)(Yr:∀(i:Nat) a,as[i]?=some a->∀(s:Oq)(ps:List (Addr×Obj)),Inv X (Go++ps) σ H s->Oz (OI X.prog X.w) X.A.in1 (call (.ref q) [.ref a]) (EP X (Go++ps) σ λv H'=>v = .int (G i)/\H'=H) (λ_ _=>False) s)(hR:∀a s',Inv X Go σ H s'->as[bX G (as.length-1)]?=some a->R (.ok (.ret (.ref a))) s'):
  ∀(r j:Nat)(s:Oq)(c:Nat)(its:Array Value),as.length-j=r->j<=as.length->Inv X Go σ H s->s.heap.IsListIter I l j->Gu as G j its->s.heap.get? S=some (Qo "list" its c) ->
   QE (OI X.prog X.w) X.A (.builtin "max.loop" {[.ref I,.ref q,.ref S],[]}) R s:=by
 have YU:(toString "max"++toString ".loop":String)="max.loop":=by decide
 have hh:X.Ok->X.A.in1.handled=none:=λok=>ok.hd hc;have O:∀{s:Oq}{h':Heap}{b:Addr}{t:Nat},aE X Go H b->Inv X Go σ H s->(∀d o,d≠b->s.heap.get? d=some o->h'.get? d=some o)->Inv X Go σ H { s with heap:=h',toks:=t }:=λ{s h' b t} f I k=>I.turned k f.1 f.2.1 f.2.2.2.1 f.2.2.2.2.1 f.2.2.2.2.2;intro r
 induction r with
 | zero =>
  intro j s c its hr hj Iv Yu hC hS;obtain ⟨vs,rv,p,hz⟩:=Iv.list (SqL.of (K:=X.K) hl);have lv:=rv.length;rw [Ow] at lv;cases j with
  | zero=>lia
  | succ j =>
  have Xm:j+1=as.length:=by lia
  obtain ⟨a,t,ha,rfl⟩:=hC;refine QD F.entry_max_loop ?_;rw [OR.under_plainId F.plain_max_loop _];show Oz _ X.A.in1 (Ub (.ref S)>>=_) _ _ _;refine we (RE hS rfl ?_);show Oz _ X.A.in1 (tryCatch (RS (.ref I)) _>>=_) _ _ _;refine we (QY (wpAny_pyNext_list_end (hh Iv.ok) Yu p.isList (by simp;lia) λh' eb=>?_));have I1:Inv X Go σ H { s with heap:=h' }:=O (t:=s.toks) fI Iv eb;have YG:=eb S _ U hS;show Oz _ X.A.in1 (T8 S (λ_=>#[])>>=_) _ _ _;refine we (QT YG rfl (we (RF (Os ?_))));refine hR a _ (O (s:={ s with heap:=h' }) fS I1 λd o nd e=>(O0 _ _ (Pt nd)).trans e) ?_;rw [<- Xm];exact ha
 | succ r ih =>
  intro j s c its hr hj Iv Yu hC hS;obtain ⟨vs,rv,p,hz⟩:=Iv.list (SqL.of (K:=X.K) hl);have ZE:j<as.length:=by lia
  have Z:as[j]?=some as[j]:=KE ZE;obtain ⟨u,hu,ru⟩:=rv.get (show (as.map V.ref)[j]?=some (V.ref as[j]) by rw [OT,Z];rfl);cases ru;refine QD F.entry_max_loop ?_;rw [OR.under_plainId F.plain_max_loop _];show Oz _ X.A.in1 (Ub (.ref S)>>=_) _ _ _;refine we (RE hS rfl ?_);show Oz _ X.A.in1 (tryCatch (RS (.ref I)) _>>=_) _ _ _;refine we (QY (wpAny_pyNext_list_item Yu p.isList (x:=.ref as[j]) (by simpa using hu) λh' YD sb=>?_));have I1:Inv X Go σ H { s with heap:=h' }:=O (t:=s.toks) fI Iv λd o nd e=>(sb.2 d nd).trans e;have YG:h'.get? S=some (Qo "list" its c):=(sb.2 S U).trans hS;obtain ⟨oI,W,av,ai⟩:=id YD;have I2:=I1.pinned (fp:=[S,I]) (λb hb=>(OK.mp hb).elim (λz=>by rw [z];exact fS) λz=>by rw [OS.mp z];exact fI) (λb hb=>by
   rcases OK.mp hb with rfl|hb
   .exact {_,YG,λ_=>nofun}
   .rw [OS.mp hb];exact {_,W,λv z=>by rw [ai] at z;cases z})
  have XW:=Yr j _ Z _ _ I2;have back:∀{s2:Oq}{ps},ps=fe [S,I] h'->Inv X (Go++ps) σ H s2->Inv X Go σ H s2/\s2.heap.get? S=some (Qo "list" its c)/\s2.heap.IsListIter I l (j+1):=λ{s2 ps} e J=>by
   subst e;exact {J.q0,(J.pin (S,_) (Ox _ (Ox _ (dA 'z' YG)))).1,oI,(J.pin (I,oI) (Ox _ (Ox _ (dA 'z' W)))).1,av,ai}
  cases j with
  | zero =>
   cases (show its = #[] from hC);show Oz _ X.A.in1 (tryCatch (Q1 [.ref as[0]] (call (.ref q) [.ref as[0]])) _>>=_) _ _ _;refine we (QY (OV (O3 XW (λx s2 he=>?_) λ_ _ hF=>hF.elim)));obtain ⟨v,H',J,ax,rfl,rfl⟩:=he;obtain ⟨t2,rfl⟩:=ax;obtain ⟨J1,g1,g2⟩:=back rfl J;show Oz _ X.A.in1 (T8 S (λ_=>#[.ref as[0],.int (G 0) t2])>>=_) _ _ _;refine we (QT g1 rfl ?_);rw [YU];exact Os {Ql F.plain_max_loop _,ih 1 _ _ _ 'l' 'l' (O fS J1 λd o nd e=>(O0 _ _ (Pt nd)).trans e) {oI,(O0 _ _ U).trans (by obtain ⟨o2,e1,e2,e3⟩:=g2;exact (J.pin (I,oI) (Ox _ (Ox _ (dA 'z' W)))).1),av,ai} {_,t2,Z,rfl} (get?_update_seq g1 _)}
  | succ j =>
   obtain ⟨ab,tb,WZ,rfl⟩:=hC;show Oz _ X.A.in1 (tryCatch (Q1 [.ref as[j+1]] (call (.ref q) [.ref as[j+1]])) _>>=_) _ _ _;refine we (QY (OV (O3 XW (λx s2 he=>?_) λ_ _ hF=>hF.elim)));obtain ⟨v,H',J,ax,rfl,rfl⟩:=he;obtain ⟨t2,rfl⟩:=ax;obtain ⟨J1,g1,g2⟩:=back rfl J;have gI:=(J.pin (I,oI) (Ox _ (Ox _ (dA 'z' W)))).1;show Oz _ X.A.in1 (tryCatch (Q1 [.ref as[j+1],.int (G (j+1)) t2] (richCompare .Gt (.int (G (j+1)) t2) (.int (G (bX G j)) tb)>>=_)) _>>=_) _ _ _;refine we (QY (OV (we (CmpOf.ints_gt (prog:=X.prog) (w:=X.w) (A:=X.A.in1) (P:=λi v=>∃t,v = .int (G i) t) G (λi v h=>h) (j+1) (bX G j) _ _ _ _ _ {t2,rfl} {tb,rfl} ?_))));refine we (OV (Qr ?_));refine we (RF (Os ?_));by_cases Xl:G (j+1)>G (bX G j)
   .simp only [Xl,decide_true,if_true];refine we (QT g1 rfl (we (RF ?_)));rw [YU];exact Os {Ql F.plain_max_loop _,ih (j+1+1) _ _ _ 'l' 'l' (O fS J1 λd o nd e=>(O0 _ _ (Pt nd)).trans e) {oI,(O0 _ _ U).trans gI,av,ai} {as[j+1],t2,by unfold bX;rw [if_pos Xl];exact Z,by rw [show bX G (j+1)=j+1 from if_pos Xl]} (get?_update_seq g1 _)}
   .simp only [Xl,decide_false,Qu,if_false];refine we (RF ?_);rw [YU];exact Os {Ql F.plain_max_loop _,ih (j+1+1) _ _ _ 'l' 'l' J1 g2 {ab,tb,by unfold bX;rw [if_neg Xl];exact WZ,by rw [show bX G (j+1)=bX G j from if_neg Xl]} g1}
def fO(P:Addr)(pos:Pos)(qual:Str)(te:TE)(v:V)(H1:Hp)(Q:VK):Prop:=uR v λl=>∃(as:List Addr)(F:Nat->Int),H1 l=some (.lst (as.map V.ref))/\0<as.length/\cu pos qual H1 P /\
 ∀H2,gR H1 H2 P->cu pos qual H2 P->(∀(i:Nat) a,as[i]?=some a->te [some (.ref a)] H2 λv H'=>v = .int (F i)/\H'=H2)/\∀a,as[bX F (as.length-1)]?=some a->Q (.ref a) H2
theorem xU:fO P pos qual te (.ref l) H1 Q = ∃(as:List Addr)(F:Nat->Int),H1 l=some (.lst (as.map V.ref))/\0<as.length/\cu pos qual H1 P /\
 ∀H2,gR H1 H2 P->cu pos qual H2 P->(∀(i:Nat) a,as[i]?=some a->te [some (.ref a)] H2 λv H'=>v = .int (F i)/\H'=H2)/\∀a,as[bX F (as.length-1)]?=some a->Q (.ref a) H2:=m8
def oS(P:Addr)(pos:Pos)(qual:Str)(te ta:TE):TE:=λσ H Q=>ta σ H λv H1=>fO P pos qual te v H1 Q
theorem K1:oS P pos qual te ta σ H Q=ta σ H λv H1=>fO P pos qual te v H1 Q:=rfl
theorem FT{k:Nat}{p pos J kp:Pos}(LB:fh X.mg X.base X.env.code P)(hc:X.calm=true)(hr:zG cm (k+2) X.A)(hg:Gl X "max")(hm:X.mg "max"=none)(ha:PE X a ta)(X9:UD Z0 X.env=([],[]))(Xn:RK scope X.env=pure [])(YF:∀(q:Str)(pm cd ct v:Value),To (kla_fn "<lambda>" q Z0 ZQ scope [] pm cd ct) {[v],[]}=pure [(x,v)])(S:zy [x] [x] scope)(Zh:∀(A:OR)(outer:List Env)(s:Oq)(H:Hp)(E:XK)(f c':Addr),zG cm k (A.deeper (QV (X.env.qual++"<lambda>") scope s.heap.objs.size f (.ref c')))->PE (bH CX0 cm X.prog X.w X.K X.mg X.base [x] (X.env.qual++"<lambda>") scope f (.ref c') A outer s H E) ZQ te)(hp:aU a=true:=by rfl):
  PE X (.Call (.Name "max" p) [a] [{some (Ou "key"),.Lambda Z0 ZQ scope J,kp}] pos) (oS P J (X.env.qual++"<lambda>") te ta):=by
 intro Go s σ H Q I h;have YU:(toString "max"++toString ".loop":String)="max.loop":=by decide
 have hs:O8 [a] X.env=[(false,Qc a X.env)]:=fV hp;have hA:=gD ha gp (hs:=hs) pos Go s σ H (λys H1=>∃y,ys=[y]/\fO P J (X.env.qual++"<lambda>") te y H1 Q) I (by
  show ta σ H λx H1=>∃y,[x]=[y]/\fO P J (X.env.qual++"<lambda>") te y H1 Q;have e:(λ(x:V)(H1:Hp)=>∃y,[x]=[y]/\fO P J (X.env.qual++"<lambda>") te y H1 Q)=λv H1=>fO P J (X.env.qual++"<lambda>") te v H1 Q:=by
   funext x H1;apply propext;constructor
   .rintro ⟨y,e,h⟩;cases e;exact h
   .exact λh=>{x,rfl,h}
  rw [e];exact h)
 refine Qj (gM I hg hm boot_max (wL (by rw [hs];rfl) rfl ?_));rw [hs] at hA ⊢;refine evalArgs_kwB rfl (thn hA λus s1=>x5e λvs H1 I1 r1 q1=>kws_cons ?_);obtain ⟨y,rfl,l,rfl,as,kf,hl,h0,hT,q⟩:=q1;cases r1 with
 | cons r rr =>
  cases rr;cases r;refine xl LB X9 Xn I1 hT λf c' XB h2 tk H2 hsz W6 hcd hf aI hL Z fr=>kws_nil ?_;obtain ⟨a0,oc,ws,t,c1,c2,c3⟩:=fr;have av:l≠P:=λz=>by
   rcases hT with hP|⟨_,_,_,_,hP,_⟩ <;> · rw [z,hP] at hl;cases hl
  have U:=hL _ _ av hl;obtain ⟨q1,q2⟩:=q H2 hL aI;obtain ⟨its,rv,pl,hz⟩:=Z.list (SqL.of (K:=X.K) U);have Ip:=Z.pinned (fp:=[f]) (λb hb=>by rw [OS.mp hb];exact I1.Va W6 a0) (λb hb=>by rw [OS.mp hb];exact {_,hf,λ_=>nofun});refine kmk_tree F.kind_max F.plain_max F.entry_max (kmk_max_key _ _) ?_;show Oz _ X.A.in1 (OO.Builtins.bindParams "max" ["key","default"] 0 {[],[(Ou "key",.ref f)]}>>=_) _ _ _;refine we (TK (show OO.Builtins.bindParams "max" ["key","default"] 0 {[],[(Ou "key",.ref f)]}=pure [some (.ref f),none] from rfl) ?_);refine we (Os ?_);refine we (Rz pl.isList ?_);refine we (RT ?_ (Pz _));rw [YU];have hS:(h2.push { cls:=.type "list_iterator",data:=.fields #[.ref l,.int 0 0] }).objs.size=h2.objs.size+1:=R4 ..;have I3:=Ip.kept (h':=(h2.push { cls:=.type "list_iterator",data:=.fields #[.ref l,.int 0 0] }).push (Qo "list" #[] 0)) (t':=tk) λb u e=>Ot _ (Ot _ e);refine Os {Ql F.plain_max_loop _,Mn (as:=as) (Go:=Go++fe [f] h2) (σ:=σ) (H:=H2) (l:=l) kf hc U (by show _≠h2.objs.size;rw [hS];exact RU (RO _)) h0 (Ip.Va (OA _) (Z.hok.fresh (OA _))) (Ip.Va (by rw [hS];exact RA _) (Z.hok.fresh (by rw [hS];exact RA _))) (λi a ai s5 ps O=>?_) (λa s5 O aT=>{.ref a,H2,O.q0,rfl,q2 a aT}) _ 0 _ _ _ rfl (Pz _) I3 {_,Ot _ (ON _ rfl),rfl,rfl} rfl (ON _ rfl)};have ho:=(O.pin (f,_) (Ox _ (O4 _ (Ox _ (dA 'z' hf))))).1;have ax:=(O.hok c' _ c1).1;have G:=O.bM;refine Ta (QM (GU (k:=k) (E:=λ_ _ _=>False) (Q:=λv H'=>v = .int (kf i)/\H'=H2) hr.in1 ⟨G.frames,G.hdk,G.mod,G.bs,G.bf,G.U0,G.bE,G.hok,G.bare⟩ ho {c',oc,ws,t,rfl,ax,c2,c3} S (YF _ _ _ _ _) (v:=.ref a) rfl (Zh _ _ _ _ _ _ _) (q1 i a ai)) λr s6 W=>?_);cases r with
  | error e=>exact W
  | ok fl =>
   cases fl with
   | ret u=>exact O.after W
   | next=>exact False.elim W
   | brk=>exact False.elim W
   | cont=>exact False.elim W
def ki(H:Hp)(a:Addr)(n:Int):Prop:=∃r,H a=some (.tup [.int n,.ref r])
def yb:List V->Hp->VK->Prop:=λxs H Q=>uR1 xs λl=>∃(as:List Addr)(ns:List Int),H l=some (.lst (as.map V.ref))/\Paired (ki H) as ns/\ns.Nodup/\as.length<64 /\
 ∀D (zs:List (Int×Addr)) H2,New H D (.lst (zs.map λz=>V.ref z.2)) H2->zs.Perm (ns.zip as)->zs.Pairwise (λa b=>a.1<=b.1)->Q (.ref D) H2
theorem vk:yb [.ref l] H Q = ∃(as:List Addr)(ns:List Int),H l=some (.lst (as.map V.ref))/\Paired (ki H) as ns/\ns.Nodup/\as.length<64 /\
 ∀D (zs:List (Int×Addr)) H2,New H D (.lst (zs.map λz=>V.ref z.2)) H2->zs.Perm (ns.zip as)->zs.Pairwise (λa b=>a.1<=b.1)->Q (.ref D) H2:=fC
section
variable {X:Cx}
open PySem.W PySem.Calls
theorem yk{p:Int}(I:Inv X Go σ H s)(e:ki H a p):∃o n t u,s.heap.get? a=some o/\o.cls = .type "tuple"/\o.data = .seq #[.int p t,u] n:=by
 obtain ⟨r,e⟩:=e;obtain ⟨_,its,J,ob,S,F,n,G⟩:=I.hok a _ e;cases J with
 | cons O r1 =>
 cases r1 with
 | cons U r2 =>
 cases r2;obtain ⟨t,rfl⟩:=O;exact {ob,n,t,_,S,F,G}
theorem DM(I:Inv X Go σ H s)(k:∀b o,s.heap.get? b=some o->h'.get? b=some o)(h:Paired (ki H) as ps):∃fs,KatTups h' (as.map OF) fs/\fs.length=as.length/\∀v∈fs,∃n t,v=Q5 n t:=by
 induction h with
 | nil=>exact {[],.nil,rfl,'z'}
 | cons r _ J =>
  obtain ⟨fs,h1,h2,h3⟩:=J;obtain ⟨o,n,t,u,O,F,G⟩:=yk I r;refine {.int _ t::fs,KatTups.cons (k _ _ O) F G rfl h1,by simp [h2],λv hv=>?_};rcases OK.mp hv with rfl|hv
  .exact {_,_,rfl}
  .exact h3 v hv
theorem B2:zU X (.builtin "sorted") yb:=by
 intro Go s σ H xs us Q I r h;obtain ⟨l,rfl,as,ps,hl,U,nd,XU,q⟩:=h;obtain ⟨u,rfl,ru⟩:=cQ r;cases ru;obtain ⟨its,rv,⟨o,n,e1,e2,e3,e4⟩,hz⟩:=I.list (SqL.of hl);have XR:=yY rv;subst XR;have lp:=aK U;refine IF (κ:=tuples' true) (lt:=λi j=>decide (ps.getD i 0<ps.getD j 0)) {λi j h=>by simp only [decide_eq_true_eq,decide_eq_false_iff_not] at *;lia,λi j k h1 h2=>by simp only [decide_eq_false_iff_not] at *;lia} ⟨o,e1,e2,n,e4⟩ (by rw [Ow];exact XU) (λh' Q' k n2 q'=>?_) (λh' i j C k hi hj W=>?_) λp pm ri=>?_
 .obtain ⟨fs,t1,t2,t3⟩:=DM I k U;refine kat_kind (T:=.type "int") t1 (by rw [t2];rw [Ow] at n2;lia) (λv hv=>?_) 'd' (by rw [show (type "int" != type "tuple")=true by decide];exact q');obtain ⟨n,t,rfl⟩:=t3 v hv;exact .now
 .rw [Ow] at hi hj;have get:∀i,i<as.length->∃a t u,(as.map OF).getD i Pf = .ref a/\as[i]?=some a/\∃o n,h'.get? a=some o/\o.data = .seq #[.int (ps.getD i 0) t,u] n:=λi hi=>by
   have J:i<ps.length:=by lia
   obtain ⟨o,n,t,u,g1,_,g3⟩:=yk I (bY U (KE hi) (KE J));refine {as[i],t,u,by rw [OM,OT,KE hi];rfl,KE hi,o,n,k _ _ g1,?_};rw [OM,KE J];exact g3
  obtain ⟨a,t,u,ea,xa,oa,na,ga,da⟩:=get i hi;obtain ⟨b,t',u',eb,xb,ob,nb,Z,G⟩:=get j hj;unfold kas_ask;rw [ea,eb];refine kat_lt ga da Z G (kat_cons (wpAny_eqBool_int ?_));by_cases z:ps.getD i 0=ps.getD j 0
  .have X8:i=j:=by
    rw [OM,OM] at z;refine (List.getElem?_inj (show i<ps.length by lia) nd).mp ?_;rw [KE (show i<ps.length by lia),KE (show j<ps.length by lia)] at z ⊢;exact congrArg some z
   subst X8;rw [xa] at xb;cases xb;rw [ga] at Z;cases Z;rw [da] at G;injection G with G _
   have eu:u=u':=by have:=congrArg (λx=>x[1]?) G;simpa using this
   subst eu;rw [show (ps.getD i 0==ps.getD i 0)=true by simp];refine kat_yes (kat_cons (SeqAt.EqAt.same (A:=_) u _ _ _ _ (kat_yes (kat_nil ?_))));have e:decide (ps.getD i 0<ps.getD i 0)=false:=by simp
   rw [e] at W;exact W
  .rw [show (ps.getD i 0==ps.getD j 0)=false by simpa using z];exact kat_no (oneLt_int W)
 .rw [Ow] at pm ri;have O:=pm.mem;have F:(ps.zip as).length=as.length:=by rw [UH];lia
  have S:∀i,i<as.length->(ps.zip as).getD i (0,0)=(ps.getD i 0,as.getD i 0):=λi hi=>by
   rw [OM,OM,OM,KE (by rw [F];exact hi),KE (show i<ps.length by lia),KE hi];simp
  have eo:(p.toList.map λi=>(as.map OF).getD i Pf)=(p.toList.map λi=>as.getD i 0).map OF:=by
   rw [Qp];refine PV λi hi=>?_;show (as.map OF).getD i Pf=OF (as.getD i 0);have:=O i hi;rw [OM,OM,OT,KE this];rfl
  obtain ⟨e,he⟩:=sortedAll_at s.heap (as.map OF) (Ur (p.toList.map λi=>(as.map OF).getD i Pf));have lz:(p.toList.map λi=>as.getD i 0).length=as.length:=by rw [Ow,Qa,pm.size]
  refine {.ref (s.heap.objs.size+1),upd H (s.heap.objs.size+1) (.lst ((p.toList.map λi=>as.getD i 0).map V.ref)),I.laid (t':=s.toks) (λb o e=>sortedAll_old e) (RA _) {by rw [Ow,lz,Py];lia,(p.toList.map λi=>as.getD i 0).map OF,e,uZ _,by rw [<- eo];exact he},rfl,?_};have ez:(p.toList.map λi=>as.getD i 0).map V.ref=((p.toList.map λi=>(ps.zip as).getD i (0,0)).map λz=>V.ref z.2):=by
   rw [Qp,Qp];exact PV λi hi=>by show V.ref (as.getD i 0)=V.ref ((ps.zip as).getD i (0,0)).2;rw [S i (O i hi)]
  rw [ez];refine q _ _ _ (.mk' (I.hok.fresh (RA _))) (pm.perms F (0,0)) ?_;have:=BV (f:=λa b=>decide (a<b)) pm ri;rw [Uu] at this ⊢;refine Pairwise.imp_of_mem (λ{a b} ha hb h=>?_) this;rw [S a (O a ha),S b (O b hb)];simp only [decide_eq_false_iff_not] at h;show ps.getD a 0<=ps.getD b 0;lia
def rS(n:Nat):R2:=λx y H Q=>(x = .non/\y = .non/\Q (.bl false) H)\/∃a b xs ys,x = .ref a/\y = .ref b/\H a=some (.tup xs)/\H b=some (.tup ys)/\xs.length=ys.length/\(∀(j:Nat) x y,xs[j]?=some x->ys[j]?=some y->EqD n H x y)/\Q (.bl false) H
theorem MK:rS n .non .non H Q=Q (.bl false) H:=by
 apply propext;constructor
 .rintro (⟨_,_,h⟩|⟨a,b,xs,ys,F,_⟩)
  .exact h
  .cases F
 .exact λh=>.inl {rfl,rfl,h}
theorem AK:rS n (.ref a) (.ref b) H Q = ∃xs ys,H a=some (.tup xs)/\H b=some (.tup ys)/\xs.length=ys.length/\(∀(j:Nat) x y,xs[j]?=some x->ys[j]?=some y->EqD n H x y)/\Q (.bl false) H:=by
 apply propext;constructor
 .rintro (⟨e,_⟩|⟨J,O,xs,ys,G,F,h⟩)
  .cases e
  .cases G;cases F;exact ⟨xs,ys,h⟩
 .rintro ⟨xs,ys,h⟩;exact .inr {a,b,xs,ys,rfl,rfl,h}
theorem Gc(G:X.A.units+(n+1)<cLine):OpR X (Pq .NotEq) (rS n):=by
 intro Go s σ H x y v u Q I J Z h;rcases h with ⟨rfl,rfl,q⟩|⟨a,b,xs,ys,rfl,rfl,ha,hb,hl,he,q⟩
 .exact iP (O9 (SD ..) G) Go s σ H _ _ v u Q I J Z (.inl {rfl,by simpa using q})
 cases J;cases Z;obtain ⟨is,r1,p1,_⟩:=I.tuple (SqT.of (K:=X.K) ha);obtain ⟨F,r2,p2,_⟩:=I.tuple (SqT.of (K:=X.K) hb);have l1:=r1.length;have l2:=r2.length;refine SeqAt.RcNeAt.tuples (e:=λ_=>true) p1 p2 (O9 (SD ..) G) (λj h1 h2=>?_) _ _ _ _ {.bl false,H,I,?_,q}
 .simp only [OQ] at h1 h2;have S:xs[j]?=some (xs[j]''l'):=KE _;have O:ys[j]?=some (ys[j]''l'):=KE _;obtain ⟨u,W,q1⟩:=r1.get S;obtain ⟨v,U,q2⟩:=r2.get O;rw [KE h1] at W;rw [KE h2] at U;have w1:is.toArray[j]=u:=by simpa using Pa.inj W
  have w2:F.toArray[j]=v:=by simpa using Pa.inj U
  rw [w1,w2];exact EqD.at I n (he j _ _ S O) q1 q2 (O9 (by first|exact OA _|(show X.A.units+n<=X.A.units+(n+1);exact RA _)|(simp [OR.in1];lia)) G)
 .have e:((Pm (min is.toArray.size F.toArray.size)).all (λ_=>true)&&is.toArray.size==F.toArray.size)=true:=by simp;lia
  rw [e];rfl
end
theorem FQ{k:Nat}{p pos J kp:Pos}(LB:fh X.mg X.base X.env.code P)(hc:X.calm=true)(hr:zG cm (k+2) X.A)(hg:Gl X "max")(hm:X.mg "max"=none)(U:W (PE X a ta))(Z:UD G X.env=([],[]))(Xn:RK scope X.env=pure [])(YF:∀(q:Str)(pm cd ct v:Value),To (kla_fn "<lambda>" q G F scope [] pm cd ct) {[v],[]}=pure [(x,v)])(S:zy [x] [x] scope)(O:∀(A:OR)(outer:List Env)(s:Oq)(H:Hp)(E:XK)(f c':Addr),zG cm k (A.deeper (QV (X.env.qual++"<lambda>") scope s.heap.objs.size f (.ref c')))->W (PE (bH CX0 cm X.prog X.w X.K X.mg X.base [x] (X.env.qual++"<lambda>") scope f (.ref c') A outer s H E) F te))(hp:aU a=true:=by rfl):
  W (PE X (.Call (.Name "max" p) [a] [{some (Ou "key"),.Lambda G F scope J,kp}] pos) (oS P J (X.env.qual++"<lambda>") te ta)):={FT LB hc hr hg hm U.h Z Xn YF S (λA o s H E f c r=>(O A o s H E f c r).h) hp}
theorem Ks{W:Pos}{tk tv:TE}(U:X.N.Nodup)(ai:X.N[i0]?=some F)(aI:Loc X.env.scope F)(hc:c=true->X.calm=true)(L:z6 X sc N' ix)(hi:PIc c X tg iter wi)(hg:∀Go C fp s H,PG (zz X sc N' Go C fp s H) tg g)(ht:∀Go C fp s H,PTs (zz X sc N' Go C fp s H) G tt)(hk:∀Go C fp s H,PE (zz X sc N' Go C fp s H) O tk)(hv:∀Go C fp s H,PE (zz X sc N' Go C fp s H) J tv)(hs:∀x,Pd iter X.env x=pure x:=by intro _;rfl)(ax:S5 (.DictComp O J [{tg,iter,G,0}] sc pos) (some (.Name F Zo)) W.line X.env=pure true:=by rfl)(aT:X.fn F=true\/X.env.scope.names.lookup F=some .local:=by first|exact .inl rfl|exact .inr rfl|assumption):
  PS X (.Assign [.Name F Zo] (.DictComp O J [{tg,iter,G,0}] sc pos) W) (gO (tDC ix wi g tt tk tv) (cE i0)):=by
 intro Go s σ H Z I h;rw [exec_Assign_Name_used F Zo _ W ax];refine we (Pn (we ?_));rw [arm_evalThenUse_DictComp];show Oz (OI X.prog X.w) X.A (SE (.DictComp O J [{tg,iter,G,0}] sc pos) sc X.env (SZ [{tg,iter,G,0}] pos) newDict (UB [{tg,iter,G,0}]) (firstIter [{tg,iter,G,0}] X.env) (some (Tp (.Name F Zo) X.env))>>=λ_=>pure ()) _ _ _;refine we (wo hc L hi hg ht hk hv hs I h λC D oC H' s5 m5 IX ns tu q=>?_);refine thn (mT U ai aI aT (Go++[(C,oC)]) s5 σ H' (.ref D) (.ref D) Z.nx IX rfl q) λ_ s6=>x4e λav H6 I6 q6=>?_;obtain ⟨p6,S,_⟩:=I6.pin (C,oC) (Ox _ (Ox _ (OS.mpr rfl)));exact {m5,ns p6,λh' Xu=>Os (Os {av,H6,tu (I6.zk λp hp=>I6.pin p (Ox _ (O4 _ hp))) S Xu,q6})}
theorem Dt{tk tv:TE}(ai:X.N.Nodup)(G:X.N[i0]?=some F)(S:Loc X.env.scope F)(hc:c=true->X.calm=true)(L:z6 X sc N' ix)(hi:W (PIc c X tg iter wi))(hg:∀Go C fp s H,W (PG (zz X sc N' Go C fp s H) tg g))(ht:∀Go C fp s H,W (PTs (zz X sc N' Go C fp s H) U tt))(hk:∀Go C fp s H,W (PE (zz X sc N' Go C fp s H) J tk))(hv:∀Go C fp s H,W (PE (zz X sc N' Go C fp s H) vx tv))(hs:∀x,Pd iter X.env x=pure x:=by intro _;rfl)(O:S5 (.DictComp J vx [{tg,iter,U,0}] sc pos) (some (.Name F Zo)) YC.line X.env=pure true:=by rfl)(Z:X.fn F=true\/X.env.scope.names.lookup F=some .local:=by first|exact .inl rfl|exact .inr rfl|assumption):
  W (PS X (.Assign [.Name F Zo] (.DictComp J vx [{tg,iter,U,0}] sc pos) YC) (gO (tDC ix wi g tt tk tv) (cE i0))) :=
 {Ks ai G S hc L hi.h (λa b c d e=>(hg a b c d e).h) (λa b c d e=>(ht a b c d e).h) (λa b c d e=>(hk a b c d e).h) (λa b c d e=>(hv a b c d e).h) hs O Z}
end L2
namespace K41
open PySem PySem.Spec PyProof.Rows L2
open PySem.W (Frag OpenLaw WalkO findIn kitOne mroIn)
local macro_rules | `(tactic| erw [$ls,*])=>do
 let l<-("eP tC x6 wC tIf tY wq wH yj uX cE Ky JB gO xj ipI tOp tUn cw jd pM Ac vi mF mL kL tCB jD x3 ua rN Ay JS m4 uW pF xB Bv Jn Bz u9 ud sy jV JR Mi Kc qg Jm Jz G4 Hr IV IZ Hk C6 I0 Lv K8 m8 Kd L9 Md Fu tV Ju LQ MP HR Gz Fn M9 K7 cq Uo Option.bind_none Option.join_some me and_assoc exists_and_left exists_and_right exists_eq_left' exists_eq_left exists_eq exists_eq' exists_eq_right exists_eq_right' and_true true_and and_false false_and or_false false_or exists_false exists_const Pa.injEq V.int.injEq V.str.injEq V.ref.injEq V.bl.injEq V.ty.injEq HO.lst.injEq HO.tup.injEq HO.ins.injEq List.cons.injEq reduceCtorEq reduceIte Qu List.getElem?_cons_zero Se List.set_cons_zero List.set_cons_succ R6 QX PY Pr Sx L2.start FI IB Qd Nat.reduceSub Nat.reduceAdd Ef Lh yV HS LM Fy JZ JV Bs Nq xx xn tSl uH Cj EK AZ wK uc pf sj fC Cc Ko KR BO Je BW Do DC Fq Cd Av xu Ni JU Gh N7 Ic EN Kk Dh Ca Bm LP KW NR Ck Ea CJ MW FO Lo Lz Ce Cp BN LC BY Iq GE Ji Jf Jd Kz FX MI AR Il FF G1 NH uz Ny NB HN ET IQ Ij GG J9 Nl Lx La EA M6 DX DN h9 NY Lp wu kT Ae Aa xC An x8 vG FN DB JF kM B1 Hm K2 Ol Ld Dj DD Ek BX DJ K1 xU vk MK AK".splitOn " ").toArray.mapM fun s=>`(Lean.Parser.Tactic.simpLemma|$(Lean.mkIdent s.toName):ident)
 let k<-ls.getElems.mapM fun s=>match s with
  | `(Lean.Parser.Tactic.rwRule|$t:term)=>`(Lean.Parser.Tactic.simpLemma|$t:term)
  | _=>Lean.Macro.throwUnsupported
 let l:=l++k
 `(tactic| try simp only [$l,*])
local macro_rules | `(tactic| ac_rfl)=>`(tactic| erw [])
def top(i:Nat):Stmt:=PySem.Challenge.pw_cleanrows_k41_the_mark_that_is_taken.main.body.getD i (.Pass {0,0,0,0})
structure zi where
 Ve:Addr
 cI:Addr
 b9:Addr
 Full:Addr
 bN:Addr
 b8:Addr
 bP:Addr
 aM:Addr
 bO:Addr
 S2:Addr
 NoPart:Addr
 Words:Addr
 ot:Addr
 State:Addr
 tj:Addr
 L4:Addr
 vr:Addr
structure Txt(K:Frag)(mg:Str->Option Value)(A:zi):Prop where
 bX:mg "abs"=none
 cw:mg "all"=none
 b2:mg "bool"=none
 bw:mg "dict"=none
 bu:mg "divmod"=none
 aL:mg "enumerate"=none
 bV:mg "int"=none
 UU:mg "isinstance"=none
 UQ:mg "len"=none
 br:mg "max"=none
 bU:mg "min"=none
 cv:mg "ord"=none
 z3:mg "range"=none
 UR:mg "sorted"=none
 UW:mg "str"=none
 bL:mg "tuple"=none
 bb:∃u,mg "FIGURES"=some u/\zr (.str "0123456789") u
 a9:∃u,mg "LETTERS"=some u/\zr (.str "abcdefghijklmnopqrstuvwxyz") u
 Vc:∃u,mg "MOST_FIGURES"=some u/\zr (.int 18) u
 Vb:∃u,mg "MOST_LETTERS"=some u/\zr (.int 6) u
 a8:∃u,mg "MODULUS"=some u/\zr (.int 65521) u
 U2:∃u,mg "FIRST_WORD"=some u/\zr (.str "mark") u
 U1:∃u,mg "LEAST_STRETCHES"=some u/\zr (.int 3) u
 U5:∃u,mg "MOST_STRETCHES"=some u/\zr (.int 16) u
 Vd:∃u,mg "LEAST_PLACES"=some u/\zr (.int 2) u
 Vf:∃u,mg "MOST_PLACES"=some u/\zr (.int 32) u
 bD:mg "CleanError"=some (.ref A.Ve)
 cz:mg "NoRow"=some (.ref A.cI)
 cg:mg "NoDisk"=some (.ref A.b9)
 cN:mg "Full"=some (.ref A.Full)
 b3:mg "Stopped"=some (.ref A.bN)
 cf:mg "NoFile"=some (.ref A.b8)
 b5:mg "NoPlace"=some (.ref A.bP)
 bx:mg "HeldAlready"=some (.ref A.aM)
 b4:mg "NotHeld"=some (.ref A.bO)
 US:mg "NoMark"=some (.ref A.S2)
 xy:mg "NoPart"=some (.ref A.NoPart)
 cx:mg "Words"=some (.ref A.Words)
 cC:mg "Files"=some (.ref A.ot)
 cy:mg "State"=some (.ref A.State)
 cO:mg "Disk"=some (.ref A.tj)
 bH:bG K A.Ve
 Hx:bG K A.S2
 sU:bG K A.NoPart
 Vh:mroIn K A.S2 (.ref A.S2)=some true
 a5:mroIn K A.NoPart (.ref A.NoPart)=some true
 nT:Cls K A.Words
 z4:bA K A.Words "taken"
 M5:bA K A.Words "words"
 mu:Cls K A.ot
 nD:bA K A.ot "births"
 qs:bA K A.ot "kept"
 qb:Cls K A.State
 Q2:bA K A.State "next_mark"
 UP:bA K A.State "next_row"
 Pv:bA K A.State "own_files"
 z9:bA K A.State "spot_of"
 mC:Cls K A.tj
 Da:bA K A.tj "at_sides"
 L1:bA K A.tj "counted"
 yz:bA K A.tj "has_stopped"
 M3:bA K A.tj "left"
 UZ:bA K A.tj "width"
 L0:bA K A.tj "written"
theorem Kg:(("births":Str) == "kept")=false:=by decide +kernel
theorem L7:(("kept":Str) == "births")=false:=by decide +kernel
theorem tS:(("births":Str)="kept")=False:=by simpa using Kg
theorem KS:(("next_mark":Str) == "next_row")=false:=by decide +kernel
theorem EM:(("next_mark":Str) == "own_files")=false:=by decide +kernel
theorem Nv:(("next_mark":Str) == "spot_of")=false:=by decide +kernel
theorem JG:(("next_row":Str) == "next_mark")=false:=by decide +kernel
theorem J8:(("next_row":Str) == "own_files")=false:=by decide +kernel
theorem Gi:(("next_row":Str) == "spot_of")=false:=by decide +kernel
theorem KA:(("own_files":Str) == "next_mark")=false:=by decide +kernel
theorem Bp:(("own_files":Str) == "next_row")=false:=by decide +kernel
theorem LI:(("own_files":Str) == "spot_of")=false:=by decide +kernel
theorem Jh:(("spot_of":Str) == "next_mark")=false:=by decide +kernel
theorem Jp:(("spot_of":Str) == "next_row")=false:=by decide +kernel
theorem GR:(("spot_of":Str) == "own_files")=false:=by decide +kernel
theorem Ee:((Wi:Str) == "next_mark")=false:=by decide +kernel
theorem Bq:((Wi:Str) == "next_row")=false:=by decide +kernel
theorem Jb:((Wi:Str) == "own_files")=false:=by decide +kernel
theorem Fc:((Wi:Str) == "spot_of")=false:=by decide +kernel
theorem Cr:((V7:Str) == "next_mark")=false:=by decide +kernel
theorem MS:((V7:Str) == "next_row")=false:=by decide +kernel
theorem Dq:((V7:Str) == "own_files")=false:=by decide +kernel
theorem Lc:((V7:Str) == "spot_of")=false:=by decide +kernel
theorem ER:((Wj:Str) == "next_mark")=false:=by decide +kernel
theorem ID:((Wj:Str) == "next_row")=false:=by decide +kernel
theorem HL:((Wj:Str) == "own_files")=false:=by decide +kernel
theorem Fj:((Wj:Str) == "spot_of")=false:=by decide +kernel
theorem GS:((Wl:Str) == "next_mark")=false:=by decide +kernel
theorem Ir:((Wl:Str) == "next_row")=false:=by decide +kernel
theorem C2:((Wl:Str) == "own_files")=false:=by decide +kernel
theorem JD:((Wl:Str) == "spot_of")=false:=by decide +kernel
theorem Jl:(("next_row":Str)="next_mark")=False:=by simpa using JG
theorem Na:(("own_files":Str)="next_mark")=False:=by simpa using KA
theorem uq:(("own_files":Str)="next_row")=False:=by simpa using Bp
theorem pe:(("own_files":Str)="spot_of")=False:=by simpa using LI
theorem B3:(("spot_of":Str)="next_mark")=False:=by simpa using Jh
theorem A8:(("spot_of":Str)="next_row")=False:=by simpa using Jp
theorem bB(h:n<=1000000):n<=sizeLine:=Pj h 'd'
abbrev si:Stmt:=top 18
abbrev qw:Stmt:=top 19
inductive Thg(H:Hp):V->Prop
 | non:Thg H .non
 | bl (b:Bool):Thg H (.bl b)
 | int (i:Int):Thg H (.int i)
 | str (x:Str):Thg H (.str x)
 | lst {a:Addr}{xs:List V}:H a=some (.lst xs)->Thg H (.ref a)
 | tup {a:Addr}{xs:List V}:H a=some (.tup xs)->Thg H (.ref a)
 | dic {a:Addr}{kvs:List (Key×V)}:H a=some (.dK kvs)->Thg H (.ref a)
def Fx:V->Bool | .int _=>true|_=>false
def iN(v:V)(a b:Int):Bool:=match v with | .int i=>decide (a<=i)&&decide (i<=b)|_=>false
def vL:Sp:=λvs H Q _=>∃v,vs=[v]/\Thg H v/\Q (.bl (Fx v)) H
def lH:Sp:=λvs H Q _=>∃v a b,vs=[v,.int a,.int b]/\Thg H v/\Q (.bl (iN v a b)) H
section
variable {P:OE}{w:OW}{K:Frag}{mg:Str->Option Value}{base:Heap}{A:zi}
theorem Dp{X:Cx}(t:Thg H v)(q:Q (.bl (match v with | .int _=>true | .bl _=>true|_=>false)) H):rE X.K [v,.ty "int"] H Q:=by
 cases t with
 | non=>exact {_,_,_,_,_,rfl,rfl,.of .non,rfl,q}
 | bl b=>exact {_,_,_,_,_,rfl,rfl,.of (.bl b),rfl,q}
 | int i=>exact {_,_,_,_,_,rfl,rfl,.of (.int i),rfl,q}
 | str x=>exact {_,_,_,_,_,rfl,rfl,.of (.str x),rfl,q}
 | lst h=>exact {_,_,_,_,_,rfl,rfl,.of (.lst h),rfl,q}
 | tup h=>exact {_,_,_,_,_,rfl,rfl,.of (.tup h),rfl,q}
 | dic h=>exact {_,_,_,_,_,rfl,rfl,.of (.dK h),rfl,q}
theorem sT{X:Cx}(t:Thg H v)(q:Q (.bl (match v with | .bl _=>true|_=>false)) H):rE X.K [v,.ty "bool"] H Q:=by
 cases t with
 | non=>exact {_,_,_,_,_,rfl,rfl,.of .non,rfl,q}
 | bl b=>exact {_,_,_,_,_,rfl,rfl,.of (.bl b),rfl,q}
 | int i=>exact {_,_,_,_,_,rfl,rfl,.of (.int i),rfl,q}
 | str x=>exact {_,_,_,_,_,rfl,rfl,.of (.str x),rfl,q}
 | lst h=>exact {_,_,_,_,_,rfl,rfl,.of (.lst h),rfl,q}
 | tup h=>exact {_,_,_,_,_,rfl,rfl,.of (.tup h),rfl,q}
 | dic h=>exact {_,_,_,_,_,rfl,rfl,.of (.dK h),rfl,q}
theorem IS:zy ["value"] ["value"] (zm si):=fsc
theorem E3(F:Fun K "is_whole" "is_whole" si f fd)(T:Txt K mg A):zq P w K mg base CX0 cm 1 f fd ["value"] vL:=by
 refine F.o IS λJ G outer s H vs Q E O h=>?_;obtain ⟨v,rfl,th,q⟩:=h;refine {_,(W.h (zo (zB (nU (ar oB rfl T.UU boot_isinstance (zd (zp 0) (zd (sh rfl T.bV boot_int (v:=.ty "int") rfl) ze))) (kI (Ew (ar oB rfl T.UU boot_isinstance (zd (zp 0) (zd (sh rfl T.b2 boot_bool (v:=.ty "bool") rfl) ze))))))))),?_};ac_rfl;refine Dp th ?_;cases th with
 | int i=>exact {true,rfl,p8 (sT (.int i) {false,rfl,q})}
 | bl i=>exact {true,rfl,p8 (sT (.bl i) {true,rfl,q})}
 | _=>exact {false,rfl,jO q}
theorem B9:zy Xp Xp (zm qw):=fsc
theorem GI(F:Fun K V5 V5 qw f fd)(T:Txt K mg A)(G:GF P w K mg base cm 1 "is_whole" ["value"] vL):zq P w K mg base CX0 cm 2 f fd Xp lH:=by
 refine F.o B9 λS O outer s H vs Q E J h=>?_;obtain ⟨v,a,b,rfl,th,q⟩:=h;refine {_,(W.h (zo (zB (nU (zL G J rfl (zd (zp 0) ze)) (kI (yM iS iS (zp 1) (zp 0) (zp 2))))))),?_};ac_rfl;refine {_,rfl,th,?_};cases th with
 | int i =>
  refine {true,rfl,p8 ?_};ac_rfl;refine bZ (λh=>?_) (λh=>?_)
  .have e:iN (.int i) a b=decide (i<=b):=by show (decide (a<=i)&&_)=_;rw [h];rfl
   rw [<- e];exact q
  .have e:iN (.int i) a b=false:=by show (decide (a<=i)&&_)=_;rw [QL.mpr h];rfl
   rw [<- e];exact q
 | _=>exact {false,rfl,jO q}
def bE(z y:Str)(m:Int):Bool:=decide (1<=(z.length:Int))&&decide ((z.length:Int)<=m)&&(sg z).all λc=>(sg y).contains c
def FIG:Str:="0123456789"
def LET:Str:="abcdefghijklmnopqrstuvwxyz"
def zT(z:Str):Bool:=bE z FIG 18&&(decide (z="0") || !decide (tx ((sg z).take 1)="0"))
def aN(z:Str):Bool:=bE z LET 6
def nM:Sp:=λvs H Q _=>∃z y m,vs=[.str z,.str y,.int m]/\asc z=true/\z.length<=100000/\∀H',zj H H'->Q (.bl (bE z y m)) H'
def lF(p:Str->Bool):Sp:=λvs H Q _=>∃z,vs=[.str z]/\asc z=true/\z.length<=100000/\∀H',zj H H'->Q (.bl (p z)) H'
theorem br(h:n<=1000000):n<sizeLine:=O9 h 'd'
abbrev mE:Stmt:=top 20
abbrev nr:Stmt:=top 21
abbrev qx:Stmt:=top 22
structure Kt(H:Hp)(z y:Str)(i:Nat)(τ:L2.St)(ys:List V)(H':Hp):Prop where
 ex:∃t,τ=[t,some (V.str y)]
 ys:ys=(((sg z).take i).map λc=>(sg y).contains c).map V.bl
 same:H'=H
theorem LV:zy WT WT (zm mE):=fsc
theorem Ki:bb { kind:=.function,names:=[(Ou ".0",.local),(Ou "sign",.local),(Ou "signs",.free)],isGenerator:=false,isCoroutine:=false,more:=[] } (zm mE).names WT ["sign","signs"] [none,some 1]=true:=by decide +kernel
theorem G6:(["sign","signs"]:List Str).Nodup:=by decide +kernel
theorem N5(F:Fun K VZ VZ mE f fd)(T:Txt K mg A):zq P w K mg base CX0 true 1 f fd WT nM:=by
 refine F.o LV λZ1 Ar outer s H vs Q E S h=>?_;obtain ⟨z,y,m,rfl,J,hz,q⟩:=h;have Z:_<cLine:=Qt (bo S);refine {_,(W.h (zo (zB (nU (yM iS iS zu (ar jL rfl T.UQ PZ (zd (zp 0) ze)) (zp 2)) (kI (ar (Gd rfl) rfl T.cw boot_all (zd (fj (λ_=>rfl) (z6.of Ki) (Ls (zp 0)) (λ_ _ _ _ _=>(zD (i:=0) G6 rfl (OL rfl))) (λ_ _ _ _ _=>cn) (λ_ _ _ _ _=>(jh (LS Z) (zp 0) (zp 1) rfl))) ze))))))),?_};erw [bB (Pj hz 'd')];refine bZ (λh1=>bZ (λh2=>?_) λh2=>?_) λh1=>?_
 .refine {J,aM.str (Kt H z y) (λi τ ys H' I=>?_) {{_,rfl},'z',rfl} ?_ ?_}
  .rw [I.ys,Ow,Ow,Qf];exact br (by rw [zM];lia)
  .intro N i c τ ys H' O I hN;obtain ⟨t,rfl⟩:=I.ex;ac_rfl;rw [Nh];have U:(sg z)[i]?=some c:=by simpa [sg] using O
   exact hN _ _ _ {{_,rfl},by rw [I.ys,Pi,U];simp,I.same}
  .intro τ ys H' I p H2 G;ac_rfl;refine {_,by rw [G.at_,I.ys],?_};have hs:zj H H2:=by have:=G.same;rw [I.same] at this;exact this
   have e:bE z y m=(((sg z).take z.cps.size).map λc=>(sg y).contains c).all id:=by
    unfold bE;rw [h1,h2,OU (by rw [zM];exact OA _),List.all_map];rfl
   rw [<- e];exact q H2 hs
 .have e:bE z y m=false:=by unfold bE;rw [QL.mpr h2];simp
  rw [<- e];exact q H (zj.refl _)
 .have e:bE z y m=false:=by unfold bE;rw [QL.mpr h1];simp
  rw [<- e];exact q H (zj.refl _)
theorem C3:zy WQ WQ (zm qx):=fsc
theorem KU(F:Fun K "is_name" "is_name" qx f fd)(T:Txt K mg A)(O:GF P w K mg base true 1 VZ WT nM):zq P w K mg base CX0 true 2 f fd WQ (lF aN):=by
 refine F.o C3 λS U outer s H vs Q E J h=>?_;obtain ⟨z,rfl,G,hz,q⟩:=h;refine {_,(W.h (zo (zB (zL O J rfl (zd (zp 0) (zd (dM rfl T.a9) (zd (dM rfl T.Vb) ze))))))),?_};ac_rfl;exact {z,_,_,rfl,G,hz,q}
theorem KM:zy WQ WQ (zm nr):=fsc
theorem LU(F:Fun K V4 V4 nr f fd)(T:Txt K mg A)(S:GF P w K mg base true 1 VZ WT nM):zq P w K mg base CX0 true 2 f fd WQ (lF zT):=by
 refine F.o KM λZ Ar outer s H vs Q E G h=>?_;obtain ⟨z,rfl,O,hz,q⟩:=h;have J:_<cLine:=Qt (bo G);refine {_,(W.h (zh (af (d6 (dk (zL S G rfl (zd (zp 0) (zd (dM rfl T.bb) (zd (dM rfl T.Vc) ze))))))
   (zo (zB jn))
   aa)
   (zo (zB (Ie (jh (dH J) (zp 0) aL (aH _)) (kI (jh (iP J) (aR pZ (zp 0) zu (λ_ _=>rfl)) aL (aH _)))))))),?_}
 ac_rfl;refine {z,_,_,rfl,O,hz,λH1 s1=>?_};erw [bB (Pj hz 'd')];refine bZ (λh1=>?_) λh1=>?_
 .have e:zT z=false:=by
   unfold zT FIG;rw [show bE z "0123456789" 18=false by simpa using h1];rfl
  rw [<- e];exact q H1 s1
 .have h1:bE z "0123456789" 18=true:=by simpa using h1
  refine bZ (λh2=>?_) λh2=>?_
  .have e:zT z=true:=by
    unfold zT FIG;rw [h1,h2];rfl
   rw [<- e];exact q H1 s1
  .have hl:0<(sg z).length:=by
    rw [zM];unfold bE at h1;rw [O5,O5,decide_eq_true_eq] at h1;lia
   have U:(sg z).take 1=[(sg z)[0]]:=by
    generalize sg z=l at hl;cases l with
    | nil=>cases hl
    | cons x l=>rfl
   refine {(sg z)[0],gq (xs:=sg z) (j:=0) (KE hl),?_};have e:zT z = !decide (({ cps:=#[(sg z)[0]] }:Str)="0"):=by
    unfold zT FIG;rw [h1,QL.mpr h2,U];rfl
   rw [<- e];exact q H1 s1
abbrev o3:Stmt:=top 29
abbrev pH:Stmt:=top 30
abbrev rR:Stmt:=top 31
def cL:Nat->List Nat->Nat
 | _,[]=>0
 | k,c::l=>c*k+cL (k+1) l
def bN(z:Str):Int:=((cL 1 (sg z) % 65521:Nat):Int)
def cN(z:Str):Str:=z++(toString (bN z):Str)++";"
def aP(z:Str):Str:=Pw z none (some (R3 z (c1 32)+1))
def cc(z:Str):Option Str:=if z=cN (aP z) then some (aP z) else none
def uF:Sp:=λvs H Q _=>∃z,vs=[.str z]/\asc z=true/\z.length<=100000/\∀H',zj H H'->Q (.int (bN z)) H'
def pd:Sp:=λvs H Q _=>∃z,vs=[.str z]/\asc z=true/\z.length<=100000/\∀H',zj H H'->Q (.str (cN z)) H'
def A3(o:Option Str):V:=match o with|some b=>.str b|none=>.non
def vw(K:Frag):Sp:=λvs H Q _=>∃(v:V),vs=[v]/\((∃z,v = .str z/\asc z=true/\z.length<=100000/\∀H',zj H H'->Q (A3 (cc z)) H')\/(∃t,TyX K H v t/\kitOne K t (.type "str")=some false/\Q .non H))
theorem j8:∀(k:Nat)(a b:List Nat),cL k (a++b)=cL k a+cL (k+a.length) b
 | k,[],b=>by simp [cL]
 | k,c::a,b=>by
  show c*k+cL (k+1) (a++b)=c*k+cL (k+1) a+_;rw [j8 (k+1) a b,Pr,show k+1+a.length=k+(a.length+1) by lia];lia
structure FG(H:Hp)(z:Str)(i:Nat)(σ:L2.St)(H':Hp):Prop where
 ex:∃a b,σ=[some (V.str z),some (.int (cL 1 ((sg z).take i):Nat)),a,b]
 same:zj H H'
theorem i5:zy ["text","total","place","sign"] WQ (zm o3):=fsc
theorem MZ(F:Fun K "sum_of" "sum_of" o3 f fd)(T:Txt K mg A):zq P w K mg base CX0 true 1 f fd WQ uF:=by
 refine F.o i5 λZ1 Ar outer s H vs Q E hr h=>?_;obtain ⟨z,rfl,G,hz,q⟩:=h;refine {_,(W.h (zh (zC (i:=1) i5.nd rfl (OL rfl) zu)
   (zh (cF Q6.never (λ_=>rfl) (Og rfl T.aL (zb 0)) (iI (n:=2) (gsD (aA (zD (i:=2) i5.nd rfl (OL rfl)) (gsD (aA (zD (i:=3) i5.nd rfl (OL rfl)) d5)))))
   (zo (Mz (i:=1) i5.nd rfl (OL rfl) (zI dW (ar CQ rfl T.cv boot_ord (zd (zb 3) ze)) (zb 2)) MU)))
   (zo (zB (zI (oI iO) (zb 1) (dM rfl T.a8))))))),?_}
 ac_rfl;refine {G,bg.cG (FG H z) {{_,_,rfl},zj.refl _} ?_ ?_}
 .rintro i c p σ H' U ⟨⟨a,b,rfl⟩,O⟩ S;have J:(sg z)[i]?=some c:=by simpa [sg] using U
  ac_rfl;refine {p,_,rfl,SqT.of zA,rfl,?_};ac_rfl;refine {rfl,.inl {by simp;lia,?_},{{some (.int ((i+1:Nat):Int)),some (.str {#[c]}),?_},?_}}
  .have Z:c<128:=by
    have h3:=Pc J;rw [d8] at G;simpa using Pg.mp G c h3
   simp;lia
  .rw [Pi,J,j8];have hi:i<(sg z).length:=(OG.mp J).1;rw [Qf,Nat.min_eq_left 'l'];simp [cL];rw [Int.add_comm 1 (i:Int)]
  .exact O.trans λb o e=>by rw [zg (zH e S)];exact e
 .rintro σ H' ⟨⟨a,b,rfl⟩,O⟩;ac_rfl;refine {'d',?_};have e:bN z=((cL 1 ((sg z).take z.cps.size):Nat):Int) % 65521:=by
   unfold bN;rw [OU (by rw [zM];exact OA _)];lia
  rw [<- e];exact q H' O
theorem DV:(" ":Str)=c1 32:=by decide +kernel
theorem dI(h:n<2 ^ 64):n.log2<1920:=by
 by_cases F:n=0
 .subst F;decide
 .exact Ra ((Nat.log2_lt F).mpr h) 'd'
theorem fG(z:Str):0<=bN z/\bN z<65521:=by unfold bN;lia
theorem Bc{i:Int}(F:0<=i)(h1:i<10 ^ 18):(toString i:Str).length<=19:=by
 have e:=int_text_length_le10 (a:=i) (k:=18) 'd' 'l';show (Ou (toString i)).length<=19;rw [PySem.ofString_length];exact e
theorem MY:zy ["body"] ["body"] (zm pH):=fsc
theorem DS(F:Fun K "summed" "summed" pH f fd)(T:Txt K mg A)(U:GF P w K mg base true 1 "sum_of" WQ uF):zq P w K mg base CX0 true 2 f fd ["body"] pd:=by
 refine F.o MY λZ Ar outer s H vs Q E S h=>?_;obtain ⟨z,rfl,J,hz,q⟩:=h;refine {_,(W.h (zo (zB (CK (mY (vQ (zb 0)) (mY (vQ (caD (zL U S rfl (clP (zd (zb 0) ze))))) (mY aL FC))))))),?_};ac_rfl;have hs:=fG z;have hn:=Bc hs.1 'l';refine {bB 'l',by rw [Str.empty_append];exact bB 'l',z,rfl,J,hz,λH' s1=>?_};ac_rfl;rw [Str.empty_append];have O:(z++(toString (bN z):Str)).length<=1000000:=by rw [QR];lia
 have G:(z++(toString (bN z):Str)++";").length<=1000000:=by
  rw [QR,QR];have:(";":Str).length=1:=by decide
  lia
 exact {dI 'l',bB O,bB G,bB G,q H' s1}
theorem nF(l:List Nat):asc (tx l)=l.all (· < 128):=by rw [d8,ao]
theorem oF(h:asc z=true)(hl:∀c∈l,c∈sg z):asc (tx l)=true:=by
 rw [nF,Pg];rw [d8,Pg] at h;exact λc F=>h c (hl c F)
theorem jX(c:Nat):∀l:List Nat,c∈l->∃a b,l=a++c::b/\c∉b
 | [],h=>by cases h
 | x::l,h=>by
  by_cases F:c∈l
  .obtain ⟨a,b,e,G⟩:=jX c l F;exact {x::a,b,by rw [e];rfl,G}
  .rcases OK.mp h with e|e
   .exact {[],l,by rw [e];rfl,F}
   .exact absurd e F
theorem jB(h:sg z=a++32::b)(F:32∉b):aP z=tx (a++[32]):=by
 unfold aP;rw [IE h F];have e:((a.length:Int)+1)=((a.length+1:Nat):Int):=by lia
 rw [e,gw (by rw [h];simp),h];congr 1;rw [show a++32::b=(a++[32])++b by simp,Us 'z']
theorem Kq(h:32∉sg z):aP z=tx []:=by
 unfold aP;rw [pG h];exact gw (j:=0) (Pz _)
theorem A1(h:asc z=true):asc (aP z)=true/\(aP z).length<=z.length:=by
 refine {?_,PySem.Txt.slice_le _ _ _};by_cases F:32∈sg z
 .obtain ⟨a,b,e,G⟩:=jX 32 _ F;rw [jB e G];refine oF h λc J=>?_;rw [e,show a++32::b=(a++[32])++b by simp];exact O4 _ J
 .rw [Kq F,nF];rfl
theorem tQ:zy ["text","body"] WQ (zm rR):=fsc
theorem Ml(F:Fun K "body_of" "body_of" rR f fd)(T:Txt K mg A)(S:GF P w K mg base true 2 "summed" ["body"] pd):zq P w K mg base CX0 true 3 f fd WQ (vw K):=by
 refine F.o tQ λZ1 Ar outer s H vs Q E G h=>?_;have hu:_<cLine:=Qt (bo G);refine {_,(W.h (zh (af (d6 (dk (ar oB rfl T.UU boot_isinstance (zd (zb 0) (zd (sh rfl T.UW RZ (v:=.ty "str") rfl) ze)))))
   (zo (zB cy))
   aa)
   (zh (zC (i:=1) tQ.nd rfl (OL rfl) (fW gE (zb 0) fR (fA (zI bw (GJ (zb 0) aL) zu))))
   (zo (zB (FJ (tD (aF (clO (oE (dH hu))) (clE (zb 0)) (clE (caD (zL S G rfl (clP (zd (zb 1) ze))))) (aH _))) (zb 1) cy)))))),?_}
 obtain ⟨v,rfl,⟨z,rfl,O,hz,q⟩|⟨t,U,hf,Z⟩⟩:=h
 rotate_left
 .ac_rfl;refine {_,_,_,_,_,rfl,rfl,U,hf,?_};ac_rfl;exact Z
 ac_rfl;refine {_,_,_,_,_,rfl,rfl,.of (.str z),rfl,?_};erw [bB (Pj hz 'd'),DV];obtain ⟨J,b2⟩:=A1 O;refine {aP z,rfl,J,'l',λH' s1=>?_};ac_rfl;have q':=q H' s1;refine bZ (λh=>?_) λh=>?_
 .have e:cc z=some (aP z):=if_pos (of_decide_eq_true h);rw [e] at q';exact q'
 .have e:cc z=none:=if_neg λx=>h (decide_eq_true x);rw [e] at q';exact q'
theorem Kr:∀ys:List Str,sg (Q0 "" ys)=(ys.map sg).flatten:=by
 intro ys;have e:Q0 "" ys=Str.join "" ys:=StrLaws.glued_eq_join "" ys;rw [e]
 induction ys with
 | nil=>rfl
 | cons y ys F =>
  cases ys with
  | nil=>show sg y=_;simp
  | cons x ys =>
   have F:=F (StrLaws.glued_eq_join "" _);show sg (y++""++Str.join "" (x::ys))=_;rw [bO,bO,F];have:sg ("":Str)=[]:=by decide
   rw [this];simp
abbrev m7:Stmt:=top 71
abbrev nX:Stmt:=top 72
abbrev qY:Stmt:=top 73
def But(b:Addr)(H H':Hp):Prop:=∀a o,a≠b->H a=some o->H' a=some o
theorem But.of(s:zj H H'):But b H H':=λa o _ e=>s a o e
theorem But.trans(x:But b H H1)(y:But b H1 H2):But b H H2:=λa o n e=>y a o n (x a o n e)
theorem qS{α:Type}{xs:List α}{i:Int}(G:0<=i)(h1:i<xs.length):∃v,atI xs i=some v/\v∈xs:=by
 have F:i.toNat<xs.length:=by lia
 have z:atI xs ((i.toNat:Nat):Int)=some xs[i.toNat]:=gq (KE F);rw [show ((i.toNat:Nat):Int)=i by lia] at z;exact {_,z,P0 F}
theorem oq{a b:V}:atI [a,b] 0=some a:=rfl
theorem lP{a b:V}:atI [a,b] 1=some b:=rfl
theorem Jq:ixN 2 0=some 0:=rfl
theorem E8:ixN 2 1=some 1:=rfl
structure Pot(H:Hp)(a:Addr):Prop where
 ex:∃x y:Int,H a=some (.lst [.int x,.int y])/\0<=x/\0<=y/\y<2147483647
theorem Pot.same(h:Pot H a)(s:zj H H'):Pot H' a:=let ⟨x,y,e,r⟩:=h.ex;{{x,y,s _ _ e,r}}
theorem Pot.ne(h:Pot H a)(n:H l=none):l≠a:=λz=>by
 obtain ⟨x,y,e,_⟩:=h.ex;rw [z,e] at n;cases n
def vd(K:Frag):Sp:=λvs H Q _=>∃(a:Addr)(ns:List Int)(k:Int),vs=[.ref a,.int k]/\SqL K H a (ns.map V.int)/\0<=k/\k<=100/\∀l H',zj H H'->H l=none->Pot H' l->Q (.ref l) H'
theorem nR:zy ["_law_script","_law_k","_law_cell"] Wv (zm m7):=fsc
theorem M4(F:Fun K "_law_pot" "_law_pot" m7 f fd)(T:Txt K mg A):zq P w K mg base CX0 true 1 f fd Wv (vd K):=by
 refine F.o nR λZ1 Ar outer s H vs Q E hr h=>?_;obtain ⟨a,ns,k,rfl,O,U,S,q⟩:=h;refine {_,(W.h (zh (zC (i:=2) nR.nd rfl (OL rfl) (zI bw (zI dW zu (zb 1)) zu))
   (zh (af (tD (aF (clO (oI0 qJ)) (clE (zb 1)) (clE (ar pO rfl T.UQ PZ (zd (zb 0) ze))) (aH _)))
   (zo (zC (i:=2) nR.nd rfl (OL rfl) (aR wG (zb 0) (zb 1) (λ_ _=>rfl))))
   aa)
   (zo (zB (bV (zd (ar (sX rfl) rfl T.br boot_max (zd zu (zd (zI (oI0 iH) (ar uf rfl T.bX boot_abs (zd (zb 2) ze)) (zI (oI qQ) zu zu)) ze))) (zd (zI bw (zI (oI iO) (ar uf rfl T.bX boot_abs (zd (zb 2) ze)) zu) zu) ze)))))))),?_}
 ac_rfl;have J:∀(z:Int) l H2,New H l (.lst [.int (if z-10 ^ toNat 18>0 then z-10 ^ toNat 18 else 0),.int (z % 2147483579+1)]) H2->Q (.ref l) H2:=λz l H2 G=>q l H2 G.same G.no {{_,_,G.at_,by split<;>lia,'l','l'}};refine {.inl {'l','l'},_,.inl O,?_};rw [Ow];refine bZ (λh=>?_) (λh=>?_)
 .have h':k<(ns.length:Int):=of_decide_eq_true h;obtain ⟨v,Z,hv⟩:=qS (xs:=ns.map V.int) U (by simpa using h');obtain ⟨z,hz,rfl⟩:=Pk.mp hv;refine {a,ns.map V.int,k,_,rfl,rfl,O,Z,?_};ac_rfl;exact {{'d','d','d'},'d','d',λl H2 G _=>J _ l H2 G}
 .ac_rfl;exact {{'d','d','d'},'d','d',λl H2 G _=>J _ l H2 G}
def iA:Sp:=λvs H Q _=>∃(a:Addr)(m:Int),vs=[.ref a,.int m]/\Pot H a/\0<m/\m<2 ^ 64/\∀(r:Int) H',But a H H'->Pot H' a->0<=r->r<m->Q (.int r) H'
theorem zzD{a:Addr}{m:Int}{H:Hp}{Q:VK}{E}(h:Pot H a)(m0:0<m)(m1:m<2 ^ 64)(q:∀(r:Int) H',But a H H'->Pot H' a->0<=r->r<m->Q (.int r) H'):iA [.ref a,.int m] H Q E:={a,m,rfl,h,m0,m1,q}
theorem Al:zy ["_law_pot_here","_law_many","_law_digit"] X2 (zm nX):=fsc
theorem Iy(F:Fun K Wb Wb nX f fd)(T:Txt K mg A):zq P w K mg base CX0 true 1 f fd X2 iA:=by
 refine F.o Al λZ1 Ar outer s H vs Q E hr h=>?_;obtain ⟨a,m,rfl,⟨x,y,e,U,Z,y1⟩,G,m1,q⟩:=h;refine {_,(W.h (zh (af (tD (aF (clO (oI0 Bf)) (clE (aR bS (zb 0) zu (λ_ _=>rfl))) (clE zu) (aH _)))
   (zh (ie (ar Hz rfl T.bu boot_divmod (zd (aR bS (zb 0) zu (λ_ _=>rfl)) (zd (zb 1) ze))) (iI (n:=2) (gsD (aA (jN (zb 0) zu lG) (gsD (aA (zD (i:=2) Al.nd rfl (OL rfl)) d5))))))
   (zo (zB (zb 2))))
   aa)
   (zh (ie (zI (oI iO) (zI bw (zI dW (aR bS (zb 0) zu (λ_ _=>rfl)) zu) zu) zu) (jN (zb 0) zu lG))
   (zo (zB (zI (oI iO) (zI (oI vX) (zI (oI iO) (zI dW (aR bS (zb 0) zu (λ_ _=>rfl)) (aR bS (zb 0) zu (λ_ _=>rfl))) zu) zu) (zb 1))))))),?_}
 erw [e,oq,lP];refine bZ (λh=>?_) (λh=>?_)
 .refine {G,m1,λp H2 O=>{p,_,rfl,SqT.of O.at_,rfl,?_}};have e2:=O.same _ _ e;erw [e2,Jq,oq];refine q _ _ (λc o J S=>by rw [zg J];exact O.same _ _ S) {{_,_,zA,Int.ediv_nonneg U 'l',Z,y1}} (UJ _ 'l') (Tw _ G)
 .erw [E8,zA,lP];refine {.inr {'d','d'},'d',.inl {'l','l'},'d',{'d','d'},G,q _ _ (λc o J S=>by rw [zg J];exact S) {{_,_,zA,U,'l','l'}} (UJ _ 'l') (Tw _ G)}
def AQ:Sp:=λvs H Q _=>∃(a:Addr),vs=[.ref a]/\Pot H a/\∀z H',But a H H'->Pot H' a->z∈(["a","b","zz","abcdef"]:List Str)->Q (.str z) H'
theorem J6:zy Wx Wx (zm qY):=fsc
theorem GW(F:Fun K "_law_name" "_law_name" qY f fd)(T:Txt K mg A)(U:GF P w K mg base true 1 Wb X2 iA):zq P w K mg base CX0 true 2 f fd Wx AQ:=by
 refine F.o J6 λZ1 Ar outer s H vs Q E Z h=>?_;obtain ⟨a,rfl,O,q⟩:=h;refine {_,(W.h (zo (zB (aR bS (bV (zd aL (zd aL (zd aL (zd aL ze))))) (caD (zL U Z rfl (clP (zd (zb 0) (zd zu ze))))) (λ_ _=>rfl))))),?_};ac_rfl;refine {'d',λl H1 G _=>zzD (O.same G.same) 'd' 'd' λr H2 bt J r0 r1=>?_};obtain ⟨v,ev,hv⟩:=qS (xs:=[V.str "a",V.str "b",V.str "zz",V.str "abcdef"]) r0 (by simpa using r1);have S:=bt _ _ (O.ne G.no) G.at_;erw [S,ev];have hz:∃z:Str,v = .str z/\z∈(["a","b","zz","abcdef"]:List Str):=by
  simp only [OK,PD,or_false] at hv;rcases hv with rfl|rfl|rfl|rfl<;>exact {_,rfl,'z'}
 obtain ⟨z,rfl,hz⟩:=hz;exact q z H2 (λc o nc e=>bt _ _ nc (G.same _ _ e)) J hz
end
abbrev rq:Stmt:=z8 (top 40) 0
abbrev oY:Stmt:=z8 (top 40) 1
abbrev nW:Stmt:=z8 (top 40) 2
abbrev rF:Stmt:=z8 (top 40) 14
abbrev p9:Stmt:=z8 (top 40) 15
abbrev Tab:=List (Str×List Int)
def cj(H:Hp)(v:V)(l:List Int):Prop:=∃p,v = .ref p/\H p=some (.tup (l.map V.int))
def zQ(b k:Addr):List (Str×V):=[("births",.ref b),("kept",.ref k)]
structure cM(H:Hp)(b:Addr)(t:Tab):Prop where
 ex:∃kvs,H b=some (.dK (sk kvs))/\Dct (cj H) kvs t
 nd:(names t).Nodup
structure dj(H:Hp)(b:Addr)(t:Tab):Prop where
 ex:∃kvs,Rd H b (.dK (sk kvs))/\Dct (cj H) kvs t
 nd:(names t).Nodup
theorem cM.r{t:Tab}(h:cM H b t):dj H b t:=let ⟨kvs,e,d⟩:=h.ex;{{kvs,.inl e,d},h.nd}
structure aQ(A:zi)(H:Hp)(q b k:Addr)(t:Tab):Prop where
 ob:∃dx,H q=some (.ins A.ot dx (zQ b k))
 ny:dj H b t
 kept:Rd H k (.dK (sk []))
def c8(A:zi)(H:Hp)(b k:Addr)(v:V)(t:Tab):Prop:=∃q F k',v = .ref q/\aQ A H q F k' t/\F≠b/\F≠k/\k'≠b/\k'≠k
structure zJ(A:zi)(H:Hp)(p b k:Addr)(t:Tab)(ks:List (Str×Tab)):Prop where
 ob:∃dx,H p=some (.ins A.ot dx (zQ b k))
 ny:cM H b t
 kept:∃kk,H k=some (.dK (sk kk))/\Dct (c8 A H b k) kk ks
 bc:(names ks).Nodup
 ne:b≠k
structure bK(A:zi)(H:Hp)(p b k:Addr)(t:Tab)(ks:List (Str×Tab)):Prop where
 ob:∃dx,H p=some (.ins A.ot dx (zQ b k))
 ny:dj H b t
 kept:∃kk,Rd H k (.dK (sk kk))/\Dct (c8 A H b k) kk ks
 bc:(names ks).Nodup
theorem zJ.r{p b k:Addr}{t:Tab}(h:zJ A H p b k t ks):bK A H p b k t ks:=let ⟨kk,e,d⟩:=h.kept;{h.ob,h.ny.r,{kk,.inl e,d},h.bc}
structure FS(H H':Hp):Prop where
 oth:∀a o,(∀kvs,o≠.dK kvs)->(∀ob kvs,o≠.frz ob (.dK kvs))->H a=some o->H' a=some o
 dic:∀a kvs,Rd H a (.dK kvs)->Rd H' a (.dK kvs)
theorem FS.of(s:zj H H'):FS H H':={λa o _ _ e=>s a o e,λa kvs r=>r.elim (λe=>.inl (s _ _ e)) (λ⟨o,e⟩=>.inr {o,s _ _ e})}
theorem FS.trans(x:FS H H1)(y:FS H1 H2):FS H H2:={λa o n m e=>y.oth a o n m (x.oth a o n m e),λa kvs r=>y.dic a kvs (x.dic a kvs r)}
theorem Rd.same(h:Rd H a u)(s:zj H H'):Rd H' a u:=h.elim (λe=>.inl (s _ _ e)) (λ⟨o,e⟩=>.inr {o,s _ _ e})
theorem But.upd{b:Addr}{H:Hp}{o:HO}:But b H (upd H b o):=λa u n e=>by rw [zg n];exact e
theorem cj.but(h:cj H v l)(s:But b H H')(G:∀xs,H b≠some (.tup xs)):cj H' v l:=by
 obtain ⟨p,e,F⟩:=h;exact {p,e,s p _ (λz=>by subst z;exact G _ F) F}
theorem cj.same(h:cj H v l)(s:zj H H'):cj H' v l:=let ⟨p,e,hp⟩:=h;{p,e,s p _ hp}
theorem cM.but{t:Tab}(h:cM H b t)(s:But x H H')(hx:∀xs,H x≠some (.tup xs))(n:b≠x):cM H' b t:=by
 obtain ⟨kvs,e,d⟩:=h.ex;exact {{kvs,s _ _ n e,d.imp λv a r=>r.but s hx},h.nd}
theorem cM.same{t:Tab}(h:cM H b t)(s:zj H H'):cM H' b t:=by
 obtain ⟨kvs,e,d⟩:=h.ex;exact {{kvs,s _ _ e,d.imp λv a r=>r.same s},h.nd}
theorem dj.but{t:Tab}(h:dj H b t)(s:But x H H')(hx:∀xs,H x≠some (.tup xs))(n:b≠x):dj H' b t:=by
 obtain ⟨kvs,e,d⟩:=h.ex;exact {{kvs,e.elim (λe=>.inl (s _ _ n e)) (λ⟨o,e⟩=>.inr {o,s _ _ n e}),d.imp λv a r=>r.but s hx},h.nd}
theorem cj.fs(h:cj H v l)(s:FS H H'):cj H' v l:=let ⟨p,e,hp⟩:=h;{p,e,s.oth p _ (λ_=>nofun) (λ_ _=>nofun) hp}
theorem dj.fs{t:Tab}(h:dj H b t)(s:FS H H'):dj H' b t:=by
 obtain ⟨kvs,e,d⟩:=h.ex;exact {{kvs,s.dic _ _ e,d.imp λv a r=>r.fs s},h.nd}
theorem aQ.but{q b k:Addr}{t:Tab}(h:aQ A H q b k t)(s:But x H H')(hx:H x=some (.dK kvs))(G:b≠x)(F:k≠x):aQ A H' q b k t:=by
 obtain ⟨dx,e⟩:=h.ob;exact {{dx,s _ _ (λz=>by subst z;rw [e] at hx;cases hx) e},h.ny.but s (λxs z=>by rw [z] at hx;cases hx) G,h.kept.elim (λe=>.inl (s _ _ F e)) (λ⟨o,e⟩=>.inr {o,s _ _ F e})}
theorem aQ.fs{q b k:Addr}{t:Tab}(h:aQ A H q b k t)(s:FS H H'):aQ A H' q b k t:=let ⟨dx,e⟩:=h.ob;{{dx,s.oth _ _ (λ_=>nofun) (λ_ _=>nofun) e},h.ny.fs s,s.dic _ _ h.kept}
theorem aQ.same{q b k:Addr}{t:Tab}(h:aQ A H q b k t)(s:zj H H'):aQ A H' q b k t:=h.fs (.of s)
theorem c8.fs{b k:Addr}{t:Tab}(h:c8 A H b k v t)(s:FS H H'):c8 A H' b k v t:=let ⟨q,b',k',e,r,n⟩:=h;{q,b',k',e,r.fs s,n}
theorem bK.fs{p b k:Addr}{t:Tab}(h:bK A H p b k t ks)(s:FS H H'):bK A H' p b k t ks:=by
 obtain ⟨dx,e⟩:=h.ob;obtain ⟨kk,F,d⟩:=h.kept;exact {{dx,s.oth _ _ (λ_=>nofun) (λ_ _=>nofun) e},h.ny.fs s,{kk,s.dic _ _ F,d.imp λv a r=>r.fs s},h.bc}
theorem bK.same{p b k:Addr}{t:Tab}(h:bK A H p b k t ks)(s:zj H H'):bK A H' p b k t ks:=h.fs (.of s)
theorem zJ.fs{p b k d:Addr}{t:Tab}(h:zJ A H p b k t ks)(s:FS H H')(bt:But d H H')(O:b≠d)(S:k≠d):zJ A H' p b k t ks:=by
 obtain ⟨dx,e⟩:=h.ob;obtain ⟨kk,G,d⟩:=h.kept;obtain ⟨kvs,J,F⟩:=h.ny.ex;exact {{dx,s.oth _ _ (λ_=>nofun) (λ_ _=>nofun) e},{{kvs,bt _ _ O J,F.imp λv a r=>r.fs s},h.ny.nd},{kk,bt _ _ S G,d.imp λv a r=>r.fs s},h.bc,h.ne}
theorem c8.same{b k:Addr}{t:Tab}(h:c8 A H b k v t)(s:zj H H'):c8 A H' b k v t:=let ⟨q,b',k',e,r,n⟩:=h;{q,b',k',e,r.same s,n}
theorem zJ.same{p b k:Addr}{t:Tab}(h:zJ A H p b k t ks)(s:zj H H'):zJ A H' p b k t ks:=by
 obtain ⟨dx,e⟩:=h.ob;obtain ⟨kk,F,d⟩:=h.kept;exact {{dx,s _ _ e},h.ny.same s,{kk,s _ _ F,d.imp λv a r=>r.same s},h.bc,h.ne}
theorem zJ.setB{p b k:Addr}{t t':Tab}(h:zJ A H p b k t ks)(s:But b H H')(e:H' b=some (.dK (sk G)))(d':Dct (cj H') G t')(nd:(names t').Nodup):zJ A H' p b k t' ks:=by
 obtain ⟨dx,J⟩:=h.ob;obtain ⟨kk,S,d⟩:=h.kept;obtain ⟨kvs,F,_⟩:=h.ny.ex;exact {{dx,s _ _ (λz=>by subst z;rw [J] at F;cases F) J},{⟨G,e,d'⟩,nd},{kk,s _ _ (Pt h.ne) S,d.imp λv a ⟨q,Z,k',W,r,O,n2,n3,U⟩=>{q,Z,k',W,r.but s F O n3,O,n2,n3,U}},h.bc,h.ne}
theorem zJ.cQ{p b k:Addr}{t:Tab}(h:zJ A H p b k t ks)(s:But k H H')(e:H' k=some (.dK (sk F)))(d':Dct (c8 A H' b k) F ks')(nd:(names ks').Nodup):zJ A H' p b k t ks':=by
 obtain ⟨dx,J⟩:=h.ob;obtain ⟨kk,G,d⟩:=h.kept;exact {{dx,s _ _ (λz=>by subst z;rw [J] at G;cases G) J},h.ny.but s (λxs z=>by rw [z] at G;cases G) h.ne,⟨F,e,d'⟩,nd,h.ne}
theorem c8.but{b k:Addr}{t:Tab}(h:c8 A H b k v t)(s:But k H H')(hx:H k=some (.dK kvs)):c8 A H' b k v t:=let ⟨q,b',k',ev,r,n1,n2,n3,n4⟩:=h;{q,b',k',ev,r.but s hx n2 n4,n1,n2,n3,n4}
section
variable {P:OE}{w:OW}{K:Frag}{mg:Str->Option Value}{base:Heap}{A:zi}{b k:Addr}
theorem cZ:(zQ b k).lookup ("births":Str)=some (.ref b):=by simp only [zQ,PF,beq_self_eq_true]
theorem fo:(zQ b k).lookup ("kept":Str)=some (.ref k):=by simp only [zQ,PF,beq_self_eq_true,L7]
theorem rB:(zQ b k).lookup (VX:Str)=none:=by kernel_rfl
theorem gG:(zQ b k).lookup (V9:Str)=none:=by kernel_rfl
theorem jq:(zQ b k).lookup (Wh:Str)=none:=by kernel_rfl
theorem rA:(zQ b k).lookup ("put":Str)=none:=by kernel_rfl
theorem Hj:(zQ b k).lookup ("hold":Str)=none:=by kernel_rfl
theorem xN:(zQ b k).lookup ("held":Str)=none:=by kernel_rfl
theorem w9:(zQ b k).lookup ("of_held":Str)=none:=by kernel_rfl
theorem qT:(zQ b k).lookup ("living":Str)=none:=by kernel_rfl
theorem yK:(zQ b k).lookup ("copied":Str)=none:=by kernel_rfl
theorem nQ:(zQ b k).lookup ("bare":Str)=none:=by kernel_rfl
theorem Ba:(zQ b k).lookup ("keep":Str)=none:=by kernel_rfl
theorem xM:(zQ b k).lookup (V3:Str)=none:=by kernel_rfl
theorem va:(zQ b k).lookup (V8:Str)=none:=by kernel_rfl
def j4(A:zi):Sp:=λvs H Q _=>∃(p dx:Addr),vs=[.ref p]/\H p=some (.ins A.ot dx [])/\∀b k H',But p H H'->H b=none->H k=none->H' b=some (.dK (sk []))->H' k=some (.dK (sk []))->b≠k->H' p=some (.ins A.ot dx (zQ b k))->Q .non H'
theorem BK:zy Zg Zg (zm rq):=fsc
theorem Jo(F:Fun K Wm "Files.__init__" rq f fd)(T:Txt K mg A):zq P w K mg base CX0 true 1 f fd Zg (j4 A):=by
 refine F.o BK λZ1 Ar outer s H vs Q E hr h=>?_;obtain ⟨p,dx,rfl,S,q⟩:=h;refine {_,(W.h (zh (cg T.mu T.nD (zp 0) wR)
   (zo (cg T.mu T.qs (zp 0) wR)))),?_}
 ac_rfl;refine λb H1 G=>{dx,[],G.same _ _ S,'d',λk H2 J=>{dx,_,J.same _ _ zA,by show 1<1000;decide,?_}};have O:b≠p:=λz=>by have:=G.no;rw [z,S] at this;cases this
 have kp:k≠p:=λz=>by have:=J.no;rw [z,zA] at this;cases this
 have k1:H1 k=none:=by have:=J.no;rw [zg kp] at this;exact this
 have Z:zN ("kept":Str) (V.ref k) (zN ("births":Str) (V.ref b) [])=zQ b k:=by simp only [zN,zQ,tS,if_false]
 have U:H2 b=some (.dK []):=J.same _ _ (by rw [zg O];exact G.at_);rw [Z];refine q b k _ (λa o n e=>?_) G.no (G.same.free k1) (by rw [zg O];exact U) (by rw [zg kp];exact J.at_) (λz=>?_) zA
 .rw [zg n];exact J.same _ _ (by rw [zg n];exact G.same _ _ e)
 .have:=J.no;rw [<- z,zg O,G.at_] at this;cases this
def mP(A:zi):Sp:=λvs H Q _=>∃(p b k:Addr)(t:Tab)(ks:List (Str×Tab)),vs=[.ref p]/\bK A H p b k t ks/\t.length<64/\∀l H',New H l (.lst ((zt (names t)).map V.str)) H'->Q (.ref l) H'
theorem Hi:zy Zg Zg (zm oY):=fsc
theorem Ej(F:Fun K VX "Files.names" oY f fd)(T:Txt K mg A):zq P w K mg base CX0 true 1 f fd Zg (mP A):=by
 refine F.o Hi λS Z outer s H vs Q E U h=>?_;obtain ⟨p,b,k,t,ks,rfl,G,hl,q⟩:=h;refine {_,(W.h (zo (zB (ar (AU rfl) rfl T.UR SL (zd (ae T.mu T.nD (zp 0)) ze))))),?_};obtain ⟨dx,O⟩:=G.ob;obtain ⟨kvs,J,d⟩:=G.ny.ex;erw [O,cZ];refine {kvs,J,by rw [d.length];exact hl,?_};rw [d.names];exact q
def lk(t:Tab)(n:Str):List Int:=(look t n).getD []
def iK(A:zi):Sp:=λvs H Q _=>∃(p b k:Addr)(t:Tab)(ks:List (Str×Tab))(n:Str),vs=[.ref p,.str n]/\bK A H p b k t ks/\∀H',zj H H'->Q (.int (lk t n).length) H'
theorem cM.get{t:Tab}(d:Dct (cj H) kvs t)(n:Str){p:Addr}(s:zj H H')(O:H' p=some (.tup [])):∃a,(look kvs n).getD (.ref p) = .ref a/\H' a=some (.tup ((lk t n).map V.int)):=by
 rcases d.look n with ⟨v,l,G,F,a,S,J⟩|⟨G,F⟩
 .exact {a,by rw [G,S];rfl,by unfold lk;rw [F];exact s _ _ J}
 .exact {p,by rw [G];rfl,by unfold lk;rw [F];exact O}
theorem Gq:zy XG XG (zm nW):=fsc
theorem Li(F:Fun K V9 "Files.many" nW f fd)(T:Txt K mg A):zq P w K mg base CX0 true 1 f fd XG (iK A):=by
 refine F.o Gq λZ1 Ar outer s H vs Q E Z h=>?_;obtain ⟨p,b,k,t,ks,n,rfl,O,q⟩:=h;refine {_,(W.h (zo (zB (ar jL rfl T.UQ PZ (zd (uV (bo Z) (ae T.mu T.nD (zp 0)) (zp 1) (bR ze)) ze))))),?_};obtain ⟨dx,U⟩:=O.ob;obtain ⟨kvs,J,d⟩:=O.ny.ex;erw [U,cZ];refine {{_,J},Pz _,λp' H2 G=>{_,Rd.same J G.same,?_}};obtain ⟨a,ea,S⟩:=cM.get d n G.same G.at_;rw [eY,ea,pF];exact {_,.inr S,by rw [Ow];exact q H2 G.same}
theorem Dct.U8{α:Type}{R:V->α->Prop}{t:List (Str×α)}(d:Dct R kvs t)(n:Str):(look kvs n).isSome=(look t n).isSome:=by
 rcases d.look n with ⟨v,l,G,F,_⟩|⟨G,F⟩<;>rw [G,F]<;>rfl
def Aw(A:zi):Sp:=λvs H Q _=>∃(p b k:Addr)(t:Tab)(ks:List (Str×Tab))(n:Str),vs=[.ref p,.str n]/\bK A H p b k t ks/\(look t n).isSome=true/\Q .non H
theorem Hs:zy XG XG (zm rF):=fsc
theorem Gn(F:Fun K V3 "Files.refuse_if_none" rF f fd)(T:Txt K mg A):zq P w K mg base CX0 true 1 f fd XG (Aw A):=by
 refine F.o Hs λZ Ar outer s H vs Q E S h=>?_;obtain ⟨p,b,k,t,ks,n,rfl,G,U,q⟩:=h;refine {_,(W.h (zo (af (aF (AM (bo S)) (zp 1) (ae T.mu T.nD (zp 0)) rfl)
   (zo cV)
   aa))),?_}
 obtain ⟨dx,O⟩:=G.ob;obtain ⟨kvs,J,d⟩:=G.ny.ex;erw [O,cZ];refine {_,J,?_};rw [eY,Dct.U8 d n,U];exact jO q
def AE(A:zi):Sp:=λvs H Q _=>∃(p b k:Addr)(t:Tab)(ks:List (Str×Tab))(n:Str),vs=[.ref p,.str n]/\bK A H p b k t ks/\(look ks n).isSome=true/\Q .non H
theorem Eg:zy XH XH (zm p9):=fsc
theorem E5(F:Fun K V8 "Files.refuse_if_not_held" p9 f fd)(T:Txt K mg A):zq P w K mg base CX0 true 1 f fd XH (AE A):=by
 refine F.o Eg λZ Ar outer s H vs Q E S h=>?_;obtain ⟨p,b,k,t,ks,n,rfl,G,U,q⟩:=h;refine {_,(W.h (zo (af (aF (AM (bo S)) (zp 1) (ae T.mu T.qs (zp 0)) rfl)
   (zo cV)
   aa))),?_}
 obtain ⟨dx,O⟩:=G.ob;obtain ⟨kk,J,d⟩:=G.kept;erw [O,fo];refine {_,J,?_};rw [eY,Dct.U8 d n,U];exact jO q
abbrev mV:Stmt:=z8 (top 40) 3
abbrev qI:Stmt:=z8 (top 40) 4
theorem Af{i a b:Int}(h1:a<=i)(h2:i<=b):iN (.int i) a b=true:=by
 show (decide (a<=i)&&decide (i<=b))=true;rw [decide_eq_true h1,decide_eq_true h2];rfl
theorem G7(J:0<=i)(h1:i<=xs.length):cf xs none (some i)=xs.take i.toNat:=by
 have G:HT.sIx xs.length 0 none=0:=rfl;have F:HT.sIx xs.length xs.length (some i)=i.toNat:=by
  unfold HT.sIx;simp only;split<;>lia
 unfold cf;rw [G,F];simp
theorem Fs{i:Int}(J:0<=i)(h1:i<=xs.length+1):cf xs (some i) none=xs.drop i.toNat:=by
 have G:HT.sIx xs.length xs.length none=xs.length:=rfl;have F:HT.sIx xs.length 0 (some i)=min i.toNat xs.length:=by
  unfold HT.sIx;simp only;split<;>lia
 unfold cf;rw [G,F];by_cases h:i.toNat<=xs.length
 .rw [Nat.min_eq_left h,OU (by rw [SJ];lia)]
 .rw [Nat.min_eq_right 'l',Ru (OA _),Ru 'l'];simp
def kQ(A:zi):Sp:=λvs H Q _=>∃(p b k:Addr)(t:Tab)(ks:List (Str×Tab))(n:Str)(l:List Int)(i:Int),vs=[.ref p,.str n,.int i]/\bK A H p b k t ks/\look t n=some l/\0<=i/\i<l.length/\∀H',zj H H'->Q (.int (l.getD i.toNat 0)) H'
theorem B7:zy WS WS (zm mV):=fsc
theorem C8(F:Fun K Wh "Files.birth" mV f fd)(T:Txt K mg A)(ZI:GM P w K mg base true 1 A.ot V3 XG (Aw A))(Z4:GM P w K mg base true 1 A.ot V9 XG (iK A))(ZO:GF P w K mg base true 2 V5 Xp lH):zq P w K mg base CX0 true 4 f fd WS (kQ A):=by
 refine F.o B7 λZ1 Ar outer s H vs Q E J h=>?_;obtain ⟨p,b,k,t,ks,n,l,i,rfl,O,S,i0,i1,q⟩:=h;refine {_,(W.h (zh (aJ (aC (zp 0) T.mu ZI J (zd (zp 1) ze)))
   (zh (af (d6 (dk (zL ZO J rfl (zd (zp 2) (zd zu (zd (zI iH (aC (zp 0) T.mu Z4 J (zd (zp 1) ze)) zu) ze))))))
   (zo cV)
   aa)
   (zo (zB (aR pZ (aR (lC (bo J)) (ae T.mu T.nD (zp 0)) (zp 1) (λ_ _=>rfl)) (zp 2) (λ_ _=>rfl))))))),?_}
 obtain ⟨dx,U⟩:=O.ob;erw [U,cZ,xM,gG];refine {p,b,k,t,ks,n,rfl,O,by rw [S];rfl,?_};erw [U,cZ,xM,gG];refine {p,b,k,t,ks,n,rfl,O,λH1 s1=>?_};have Z:=O.same s1;obtain ⟨Xs,Xr⟩:=Z.ob;obtain ⟨kvs,e2,d⟩:=Z.ny.ex;have el:lk t n=l:=by unfold lk;rw [S];rfl
 ac_rfl;refine {_,_,_,rfl,.int i,?_};rw [Af i0 (by rw [el];lia)];erw [Xr,cZ];refine {_,e2,?_};rcases d.look n with ⟨v,l',d1,G,a,ev,ha⟩|⟨_,G⟩
 .rw [S] at G;cases G;subst ev;refine {.ref a,by rw [eY];exact d1,?_};rw [m4];have hi:i.toNat<l.length:=by lia
  refine {_,.inr ha,.int (l.getD i.toNat 0),?_,q H1 s1};have z:atI (l.map V.int) ((i.toNat:Nat):Int)=some (.int (l[i.toNat])):=gq (by rw [OT,KE hi];rfl);rw [show ((i.toNat:Nat):Int)=i by lia] at z;rw [z,OM,KE hi];rfl
 .rw [S] at G;cases G
def mW(A:zi):Sp:=λvs H Q _=>∃(p b k:Addr)(t:Tab)(ks:List (Str×Tab))(n:Str)(i x:Int),vs=[.ref p,.str n,.int i,.int x]/\zJ A H p b k t ks/\0<=i/\i<=(lk t n).length/\(lk t n).length<=4000/\t.length<=4000 /\
 ∀H',But b H H'->zJ A H' p b k (zF t n ((lk t n).take i.toNat++[x]++(lk t n).drop (i.toNat+1))) ks->Q .non H'
theorem xW:zy ["self","file","place",Wh,"births"] WN (zm qI):=fsc
theorem E6(F:Fun K "put" "Files.put" qI f fd)(T:Txt K mg A)(Z4:GM P w K mg base true 1 A.ot V9 XG (iK A))(ZO:GF P w K mg base true 2 V5 Xp lH):zq P w K mg base CX0 true 4 f fd WN (mW A):=by
 refine F.o xW λZ1 Ar outer s H vs Q E O h=>?_;obtain ⟨p,b,k,t,ks,n,i,x,rfl,S,i0,i1,l1,t1,q⟩:=h;refine {_,(W.h (zh (af (d6 (dk (zL ZO O rfl (zd (zp 2) (zd zu (zd (aC (zp 0) T.mu Z4 O (zd (zp 1) ze)) ze))))))
   (zo cV)
   aa)
   (zh (zC (i:=4) xW.nd rfl (OL rfl) (uV (bo O) (ae T.mu T.nD (zp 0)) (zp 1) (bR ze)))
   (zo (ie (zI iC (zI iC (fW sP (zp 4) fR (fA (zp 2))) (bR (zd (zp 3) ze))) (fW sP (zp 4) (fA (zI iC (zp 2) zu)) fR)) (jN (ae T.mu T.nD (zp 0)) (zp 1) (vo (bo O)))))))),?_}
 obtain ⟨dx,e1⟩:=S.ob;erw [e1,cZ,gG];refine {p,b,k,t,ks,n,rfl,S.r,λH1 s1=>?_};have F1:=S.same s1;obtain ⟨Xs,Xr⟩:=F1.ob;obtain ⟨kvs,J,d⟩:=F1.ny.ex;ac_rfl;refine {_,_,_,rfl,.int i,?_};rw [Af i0 i1];erw [Xr,cZ];refine {{_,.inl J},Pz _,λp1 H2 U=>{_,.inl (U.same _ _ J),?_}};obtain ⟨a,ea,ha⟩:=cM.get d n U.same U.at_;rw [eY,ea];erw [ha];intro p2 H3 s3 e3;refine {'d',λp3 H4 Z=>?_};rw [G7 i0 (by rw [Ow];exact i1)] at e3;have big:∀n:Nat,n<=100000->n<=sizeLine:=λn h=>Pj h 'd';refine .inr {_,Z.same _ _ e3,_,Z.at_,big _ (by simp;lia),λp4 H5 s5 e5=>?_};have av:=s5 _ _ (Z.same _ _ (s3 _ _ ha));refine .inr {_,av,λp6 H6 s6 e6=>?_};rw [Fs 'l' (by rw [Ow];lia)] at e6;refine .inr {_,s6 _ _ e5,_,e6,big _ (by simp;lia),λp7 H7 s7 e7=>?_};have G:zj H1 H7:=((((U.same.trans s3).trans Z.same).trans s5).trans s6).trans s7;have F7:=F1.same G;obtain ⟨ax,ai⟩:=F7.ob;erw [ai,cZ];refine {_,G _ _ J,by rw [tH,d.length];exact O9 t1 'd',?_};rw [vJ];have bt:∀xs,H7 b≠some (.tup xs):=λxs z=>by rw [G _ _ J] at z;cases z
 have et:(i+1).toNat=i.toNat+1:=by lia
 have d7:Dct (cj H7) kvs t:=d.imp λv a r=>r.same G;have r7:cj H7 (.ref p7) ((lk t n).take i.toNat++[x]++(lk t n).drop (i.toNat+1)):={p7,rfl,by rw [e7,et];simp [List.map_take,List.map_drop]};refine q _ (λc o nc e=>by rw [zg nc];exact G _ _ (s1 _ _ e)) (F7.setB But.upd zA ((d7.put n r7).imp λv a r=>r.but But.upd bt) (kK S.ny.nd))
abbrev rY:Stmt:=z8 (top 40) 6
abbrev nE:Stmt:=z8 (top 40) 8
abbrev pC:Stmt:=z8 (top 40) 9
abbrev oX:Stmt:=z8 (top 40) 12
abbrev qB:Stmt:=z8 (top 40) 13
def rn(A:zi):Sp:=λvs H Q _=>∃(p b k:Addr)(t:Tab)(ks:List (Str×Tab)),vs=[.ref p]/\bK A H p b k t ks/\ks.length<64/\∀l H',New H l (.lst ((zt (names ks)).map V.str)) H'->Q (.ref l) H'
theorem B4:zy Zg Zg (zm nE):=fsc
theorem E4(F:Fun K "held" "Files.held" nE f fd)(T:Txt K mg A):zq P w K mg base CX0 true 1 f fd Zg (rn A):=by
 refine F.o B4 λS Z outer s H vs Q E U h=>?_;obtain ⟨p,b,k,t,ks,rfl,G,hl,q⟩:=h;refine {_,(W.h (zo (zB (ar (AU rfl) rfl T.UR SL (zd (ae T.mu T.qs (zp 0)) ze))))),?_};obtain ⟨dx,O⟩:=G.ob;obtain ⟨kk,J,d⟩:=G.kept;erw [O,fo];refine {kk,J,by rw [d.length];exact hl,?_};rw [d.names];exact q
structure Has(A:zi)(H:Hp)(p:Addr)(t:Tab):Prop where
 ob:∃b k dx,H p=some (.ins A.ot dx (zQ b k))/\dj H b t
theorem zJ.has{p:Addr}{t:Tab}(h:zJ A H p b k t ks):Has A H p t:=let ⟨dx,e⟩:=h.ob;⟨b,k,dx,e,h.ny.r⟩
theorem aQ.has{p:Addr}{t:Tab}(h:aQ A H p b k t):Has A H p t:=let ⟨dx,e⟩:=h.ob;⟨b,k,dx,e,h.ny⟩
def kU(A:zi):Sp:=λvs H Q _=>∃(p:Addr)(t:Tab),vs=[.ref p]/\Has A H p t/\∀q F k' H',zj H H'->H F=none->H k'=none->H q=none->aQ A H' q F k' t->cM H' F t->Q (.ref q) H'
theorem wF:zy ["self","other"] Zg (zm oX):=fsc
theorem Ep(F:Fun K "bare" "Files.bare" oX f fd)(T:Txt K mg A)(Zm:GC P w K mg base true 1 "Files" A.ot Zg (j4 A)):zq P w K mg base CX0 true 3 f fd Zg (kU A):=by
 refine F.o wF λZ1 Ar outer s H vs Q E hr h=>?_;obtain ⟨p,t,rfl,⟨b,k,dx,e1,hB⟩,q⟩:=h;refine {_,(W.h (zh (zC (i:=1) wF.nd rfl (OL rfl) (qu Zm hr rfl))
   (zh (cg T.mu T.nD (zp 1) (cR sR rfl T.bw boot_dict (zd (ae T.mu T.nD (zp 0)) ze)))
   (zo (zB (zp 1)))))),?_}
 obtain ⟨kvs,e2,d⟩:=hB.ex;erw [e1,cZ];refine λx Z H2 O=>{x,Z,rfl,O.at_,λb1 k1 H3 s3 nb nk eb ek ax ex=>{rfl,?_}};have px:∀c o,H c=some o->c≠x:=λc o e z=>by have:=O.no;rw [<- z,e] at this;cases this
 have U:∀c o,H c=some o->H3 c=some o:=λc o e=>s3 c o (px c o e) (O.same c o e);have av:=U _ _ e1;erw [av,cZ];refine {_,Rd.same e2 U,λJ H4 G=>{Z,_,G.same _ _ ex,by show 2<1000;decide,?_}};have eF:zN ("births":Str) (V.ref J) (zQ b1 k1)=zQ J k1:=by simp only [zN,zQ,if_true]
 rw [eF];have S:J≠x:=λz=>by have:=G.no;rw [z,ex] at this;cases this
 have ai:k1≠x:=λz=>by rw [z,ex] at ek;cases ek
 have sF:zj H (upd H4 x (.ins A.ot Z (zQ J k1))):=λc o e=>by rw [zg (px c o e)];exact G.same _ _ (U c o e)
 have fr:∀c,H3 c=none->H c=none:=λc e=>by
  cases h:H c with
  | none=>rfl
  | some o=>rw [U c o h] at e;cases e
 have k0:H k1=none:=O.same.free nk;refine q x J k1 _ sF (fr J G.no) k0 O.no {⟨Z,zA⟩,{{kvs,.inl (by rw [zg S];exact G.at_),d.imp λv a r=>r.same sF},hB.nd},.inl (by rw [zg ai];exact G.same _ _ ek)} {{kvs,by rw [zg S];exact G.at_,d.imp λv a r=>r.same sF},hB.nd}
theorem eR{α:Type}{t:List (Str×α)}{a:α}{p:Str×α}(h:p∈zF t n a):p∈t\/p=(n,a):=by
 unfold zF at h;split at h
 .obtain ⟨q,F,e⟩:=Pk.mp h;by_cases c:q.1=n
  .rw [if_pos c] at e;right;rw [<- e,c]
  .rw [if_neg c] at e;left;rw [<- e];exact F
 .rcases OY.mp h with h|h
  .exact .inl h
  .exact .inr (by simpa using h)
def km(A:zi)(H:Hp)(k c:Addr):Prop:=∀kvs,H k=some (.dK kvs)->∀pv∈kvs,∀q F k' dx,pv.2 = .ref q->H q=some (.ins A.ot dx (zQ F k'))->F≠c/\k'≠c
theorem vb{b k F k':Addr}(h:zQ b k=zQ F k'):b=F/\k=k':=by
 unfold zQ at h;injection h with h1 h2
 injection h1 with _ h1
 injection h2 with h2 _
 injection h2 with _ h2
 injection h1 with h1
 injection h2 with h2
 exact ⟨h1,h2⟩
def rH(A:zi):Sp:=λvs H Q _=>∃(p b k:Addr)(t:Tab)(ks:List (Str×Tab))(n:Str)(q:Addr)(u:Tab),vs=[.ref p,.str n,.ref q]/\zJ A H p b k t ks/\Has A H q u/\ks.length<=4000/\∀H',But k H H'->zJ A H' p b k t (zF ks n u)->(∀c,H c≠none->km A H k c->km A H' k c)->Q .non H'
theorem ME:zy WL WL (zm qB):=fsc
theorem Ge(F:Fun K "keep" "Files.keep" qB f fd)(T:Txt K mg A)(ZP:GM P w K mg base true 3 A.ot "bare" Zg (kU A)):zq P w K mg base CX0 true 4 f fd WL (rH A):=by
 refine F.o ME λZ1 Ar outer s H vs Q E hr h=>?_;obtain ⟨p,b,k,t,ks,n,qa,u,rfl,Z,hQ,kl,q⟩:=h;refine {_,(W.h (zo (ie (zY (zp 2) T.mu ZP hr) (jN (ae T.mu T.qs (zp 0)) (zp 1) (vo (bo hr)))))),?_};obtain ⟨dx,e1⟩:=Z.ob;obtain ⟨bq,kq,bf,a7,_⟩:=hQ.ob;erw [a7,nQ];refine {qa,u,rfl,hQ,λx b' k' H1 s1 nb nk nx hB _=>?_};have F1:=Z.same s1;obtain ⟨Xw,Xq⟩:=F1.ob;obtain ⟨kk,e2,d⟩:=F1.kept;obtain ⟨ba,eb,_⟩:=Z.ny.ex;obtain ⟨a9,ek,_⟩:=Z.kept;erw [Xq,fo];refine {_,e2,by rw [tH,d.length];exact O9 kl 'd',?_};rw [vJ];have ne:∀c o,H c=some o->∀e,H e=none->e≠c:=λc o h e he z=>by rw [z,h] at he;cases he
 have r:c8 A H1 b k (.ref x) u:={x,b',k',rfl,hB,ne _ _ eb _ nb,ne _ _ ek _ nb,ne _ _ eb _ nk,ne _ _ ek _ nk};refine q _ (λc o nc e=>by rw [zg nc];exact s1 _ _ e) (F1.cQ But.upd zA ((d.put n r).imp λv a r=>r.but But.upd e2) (kK Z.bc)) λc hc av kvs hk pv a3 q1 b1 k1 Xw U O=>?_;rw [zA] at hk;cases hk;have qk:q1≠k:=λz=>by rw [z,zA] at O;cases O
 rw [zg qk] at O;unfold sk at a3;obtain ⟨ai,a4,rfl⟩:=Pk.mp a3;have U:ai.2 = .ref q1:=U;rcases eR a4 with h|rfl
 .obtain ⟨S,aI,a5⟩:=Z.kept;have:=s1 _ _ aI;rw [e2] at this;have a8:S.map (·.2)=kk.map (·.2):=by
   have h2:sk S=sk kk:=by injection this with this;injection this with this;exact this.symm
   have h3:=congrArg (List.map (·.2)) h2;unfold sk at h3;rw [Qp,Qp] at h3;exact h3
  have hm:ai.2∈S.map (·.2):=by rw [a8];exact Pk.mpr {_,h,rfl}
  obtain ⟨pw,aT,a0⟩:=Pk.mp hm;obtain ⟨j,hj,ej⟩:=RJ aT;obtain ⟨a2,_,q2,b2,k2,ax,a6,_⟩:=Dct.at a5 (KE hj);rw [ej,a0,U] at ax;cases ax;obtain ⟨Xx,G⟩:=a6.ob;have J:=s1 _ _ G;rw [O] at J;injection J with J
  injection J with _ _ J
  obtain ⟨r1,r2⟩:=vb J;subst r1 r2;exact av _ aI _ (by unfold sk;exact Pk.mpr {pw,aT,rfl}) q1 b1 k1 Xx (show pw.2=_ by rw [a0,U]) G
 .have U:V.ref x = .ref q1:=U;cases U;obtain ⟨Xx,G⟩:=hB.ob;rw [O] at G;injection G with G
  injection G with _ _ G
  obtain ⟨r1,r2⟩:=vb G;subst r1 r2;exact {λz=>hc (by rw [<- z];exact nb),λz=>hc (by rw [<- z];exact nk)}
def vy(A:zi):Sp:=λvs H Q _=>∃(p b k:Addr)(t:Tab)(ks:List (Str×Tab))(n:Str),vs=[.ref p,.str n]/\zJ A H p b k t ks/\look ks n=none/\ks.length<=4000/\∀H',But k H H'->zJ A H' p b k t (zF ks n t)->(∀c,H c≠none->km A H k c->km A H' k c)->Q .non H'
theorem BU:zy XH XH (zm rY):=fsc
theorem Kh(F:Fun K "hold" "Files.hold" rY f fd)(T:Txt K mg A)(ZC:GM P w K mg base true 4 A.ot "keep" WL (rH A)):zq P w K mg base CX0 true 5 f fd XH (vy A):=by
 refine F.o BU λZ1 Ar outer s H vs Q E J h=>?_;obtain ⟨p,b,k,t,ks,n,rfl,G,Z,U,q⟩:=h;refine {_,(W.h (zh (af (aF (FW (bo J)) (zp 1) (ae T.mu T.qs (zp 0)) rfl)
   (zo cV)
   aa)
   (zo (aJ (aC (zp 0) T.mu ZC J (zd (zp 1) (zd (zp 0) ze))))))),?_}
 obtain ⟨dx,S⟩:=G.ob;obtain ⟨kk,O,d⟩:=G.kept;erw [S,fo,Ba];refine {_,.inl O,?_};rw [eY,Dct.U8 d n,Z];exact jO {p,b,k,t,ks,n,p,t,rfl,G,G.has,U,q}
def m3(A:zi):Sp:=λvs H Q _=>∃(p b k:Addr)(t:Tab)(ks:List (Str×Tab))(n:Str)(u:Tab),vs=[.ref p,.str n]/\bK A H p b k t ks/\look ks n=some u/\∀q F k' H',zj H H'->H F=none->H k'=none->H q=none->aQ A H' q F k' u->cM H' F u->Q (.ref q) H'
theorem Jv:zy XH XH (zm pC):=fsc
theorem Gj(F:Fun K "of_held" "Files.of_held" pC f fd)(T:Txt K mg A)(ZN:GM P w K mg base true 1 A.ot V8 XH (AE A))(ZP:GM P w K mg base true 3 A.ot "bare" Zg (kU A)):zq P w K mg base CX0 true 4 f fd XH (m3 A):=by
 refine F.o Jv λZ1 Ar outer s H vs Q E O h=>?_;obtain ⟨p,b,k,t,ks,n,u,rfl,S,Z,q⟩:=h;refine {_,(W.h (zh (aJ (aC (zp 0) T.mu ZN O (zd (zp 1) ze)))
   (zo (zB (zY (aR (lC (bo O)) (ae T.mu T.qs (zp 0)) (zp 1) (λ_ _=>rfl)) T.mu ZP O))))),?_}
 obtain ⟨dx,e1⟩:=S.ob;obtain ⟨kk,e2,d⟩:=S.kept;erw [e1,fo,va];refine {p,b,k,t,ks,n,rfl,S,by rw [Z];rfl,?_};erw [e1,fo,va];refine {_,e2,?_};rcases d.look n with ⟨v,u',d1,G,x,b',k',ev,hB,_⟩|⟨_,G⟩
 .rw [Z] at G;cases G;subst ev;obtain ⟨J,U⟩:=hB.ob;refine {.ref x,by rw [eY];exact d1,x,rfl,J,_,U,nQ,x,u,rfl,hB.has,q}
 .rw [Z] at G;cases G
theorem FU(a b:Str):leS a b\/leS b a:=by
 unfold leS;rw [ltCps_eq,ltCps_eq];by_cases h:Q9.blt b.cps.toList a.cps.toList=true
 .exact .inr (KeyOrd.klt_asymm (O:=Q9.toKeyOrd) h)
 .exact .inl (by simpa using h)
theorem JN{b:Str}(h1:leS a b)(h2:leS b c):leS a c:=by
 unfold leS at *
 rw [ltCps_eq] at *
 exact KeyOrd.kle_trans (O:=Q9.toKeyOrd) h1 h2
theorem AB(x:Str):∀l:List Str,l.Pairwise leS->∃m:List Str,m.Perm (x::l)/\m.Pairwise leS
 | [],_=>{[x],QK.refl _,'z'}
 | y::l,h=>by
  rcases FU x y with hx|hx
  .refine {x::y::l,QK.refl _,P9.mpr {λz hz=>?_,h}};rcases OK.mp hz with rfl|hz
   .exact hx
   .exact JN hx ((P9.mp h).1 z hz)
  .obtain ⟨m,p,F⟩:=AB x l (P9.mp h).2;refine {y::m,(QK.cons y p).trans (QK.swap x y l),P9.mpr {λz hz=>?_,F}};rcases OK.mp (p.mem_iff.mp hz) with rfl|hz
   .exact hx
   .exact (P9.mp h).1 z hz
theorem vA:∀ks:List Str,∃F:List Str,F.Perm ks/\F.Pairwise leS
 | []=>{[],QK.refl _,.nil}
 | x::ks=>by
  obtain ⟨F,p,h⟩:=vA ks;obtain ⟨m,p2,h2⟩:=AB x F h;exact {m,p2.trans (QK.cons x p),h2}
theorem aB(ks:List Str):(zt ks).Perm ks/\(zt ks).Pairwise leS:=by
 obtain ⟨F,p,h⟩:=vA ks;have e:=sS p (sortedS_of_pairwise F h);rw [<- e];exact ⟨p,h⟩
theorem IP(p:ks.Perm ls):zt ks=zt ls:=nB (((aB ks).1.trans p).trans (aB ls).1.symm) (aB ks).2 (aB ls).2
theorem aQ.files{t:Tab}(h:aQ A H q b k t):bK A H q b k t []:={h.ob,h.ny,{[],h.kept,.nil},by simp [names]}
end
abbrev ju:Stmt:=z8 (top 40) 10
theorem FS.freeze{d:Addr}{o:Obj}(e:H d=some (.dK kvs)):FS H (upd H d (.frz o (.dK kvs))):=by
 refine {λa u n m h=>?_,λa xs r=>?_}
 .rw [zg (λz=>by subst z;rw [e] at h;cases h;exact n _ rfl)];exact h
 .by_cases z:a=d
  .subst z;rcases r with r|⟨o',r⟩
   .rw [e] at r;cases r;exact .inr ⟨o,zA⟩
   .rw [e] at r;cases r
  .unfold Rd;rw [zg z];exact r
theorem FS.bJ{d:Addr}{o:Obj}(e:H d=some (.frz o (.dK kvs))):FS H (upd H d (.dK kvs)):=by
 refine {λa u n m h=>?_,λa xs r=>?_}
 .rw [zg (λz=>by subst z;rw [e] at h;cases h;exact m _ _ rfl)];exact h
 .by_cases z:a=d
  .subst z;rcases r with r|⟨o',r⟩
   .rw [e] at r;cases r
   .rw [e] at r;cases r;exact .inl zA
  .unfold Rd;rw [zg z];exact r
theorem dm{α β:Type}{R:α->β->Prop}{F G:List α}{J O:List β}(h1:Paired R F J)(h2:Paired R G O):Paired R (F++G) (J++O):=by
 induction h1 with
 | nil=>exact h2
 | cons r _ S=>exact .cons r S
def zX(t:Tab):List Int:=t.flatMap (·.2)
def zW(t:Tab)(ks:List (Str×Tab)):List Int:=zX t++ks.flatMap λp=>zX p.2
section
variable {P:OE}{w:OW}{K:Frag}{mg:Str->Option Value}{base:Heap}{A:zi}
def nH(H:Hp)(v:V)(t:Tab):Prop:=∃b,v = .ref b/\dj H b t
theorem NC:ns.length<=(ag ns n).length:=by
 unfold ag;split
 .exact OA _
 .simp
theorem kD:∀{l ns:List Int},ns.length<=(l.foldl ag ns).length
 | [],ns=>OA _
 | n::l,ns=>Pj (NC (n:=n)) (kD (l:=l) (ns:=ag ns n))
theorem Gm{l ns:List Int}:((l.take i).foldl ag ns).length<=(l.foldl ag ns).length:=by
 have h:=kD (l:=l.drop i) (ns:=(l.take i).foldl ag ns);rw [<- Rr,QI] at h;exact h
theorem Jk{l ns:List Int}(h:l[i]?=some n):(l.take (i+1)).foldl ag ns=ag ((l.take i).foldl ag ns) n:=by
 rw [Pi,h,Rr];rfl
theorem Cv{l:List Int}(h:F a=some (.tup (l.map V.int)))(few:(l.foldl ag ns).length<3000)(hN:∀z',N [x,y,z'] (l.foldl ag ns) F):
  cY (Itt K a) (cE 2) (gW (eP 2)) [x,y,z] ns F N:=by
 refine cY.tup (xs:=l.map V.int) (λi τ G H'=>H'=F/\(∃z',τ=[x,y,z'])/\G=(l.take i).foldl ag ns) (λi τ ns H ⟨e,_⟩=>e ▸ .inl (.inl h)) {rfl,{z,rfl},rfl} ?_ ?_
 .rintro N' i v τ G H' hv ⟨rfl,⟨z',rfl⟩,rfl⟩ J;rw [OT] at hv;obtain ⟨n,O,rfl⟩:=O7.mp hv;ac_rfl;exact {O9 Gm few,J _ _ _ {rfl,{_,rfl},(Jk O).symm}}
 .rintro τ G H' ⟨rfl,⟨z',rfl⟩,rfl⟩;rw [Ow,OU (OA _)];exact hN z'
theorem AO{u:Tab}{p:Str×List Int}(h:u[i]?=some p):zX (u.take (i+1))=zX (u.take i)++p.2:=by
 unfold zX;rw [Pi,h,Sj];simp
theorem Jt:∃r,zX u=zX (u.take i)++r:={zX (u.drop i),by unfold zX;rw [<- Sj,QI]}
theorem sO{d:Addr}{o:Obj}(h:G d=some (.frz o (.dK (sk kvs))))(W:Dct (cj G) kvs u)(few:((zX u).foldl ag ns).length<3000)(hN:∀F z',N [x,F,z'] ((zX u).foldl ag ns) G):
  cY (Itw d o (sk kvs)) (cE 1) (gP (jt K (eP 1)) (cE 2) (gW (eP 2))) [x,y,z] ns G N:=by
 have hl:=W.length;refine cY.vals (λi τ U H'=>H'=G/\(∃F z',τ=[x,F,z'])/\U=(zX (u.take i)).foldl ag ns) (λi τ ns H ⟨e,_⟩=>e ▸ h) {rfl,{y,z,rfl},rfl} ?_ ?_
 .rintro N' i p τ U H' O ⟨rfl,⟨F,z',rfl⟩,rfl⟩ S;obtain ⟨pv,J,rfl⟩:∃pv,kvs[i]?=some pv/\p=(.inr pv.1,pv.2):=by
   unfold sk at O;rw [OT] at O;obtain ⟨pv,e1,e2⟩:=O7.mp O;exact ⟨pv,e1,e2.symm⟩
  obtain ⟨l,hu,a,ea,Z⟩:=Dct.at W J;erw [ea];have fw:(l.foldl ag ((zX (u.take i)).foldl ag ns)).length<3000:=by
   have hs:=AO hu;rw [<- Rr,<- hs];obtain ⟨r,e⟩:=Jt (u:=u) (i:=i+1);rw [e,Rr] at few;exact O9 kD few
  refine {{_,.inl (.inl Z)},Cv Z fw λz2=>S _ _ _ {rfl,{_,_,rfl},?_}};have hs:=AO hu;rw [<- Rr,<- hs]
 .rintro τ U H' ⟨rfl,⟨F,z',rfl⟩,rfl⟩;have e:(sk kvs).length=u.length:=by rw [<- hl];simp [sk]
  rw [e,OU (OA _)];exact hN F z'
structure LvI(Hf:Hp)(k:Addr)(o:Obj)(kk:List (Str×V))(ks:List (Str×Tab))(i:Nat)(τ:L2.St)(ys:List V)(H':Hp):Prop where
 ex:∃t1,τ=[t1]
 ys:Paired (nH Hf) ys ((ks.take i).map (·.2))
 same:zj Hf H'
structure OuI(H4:Hp)(us:List Tab)(i:Nat)(τ:L2.St)(ns:List Int)(H':Hp):Prop where
 ex:∃x y z,τ=[x,y,z]
 ns:ns=((us.take i).flatMap zX).foldl ag []
 same:zj H4 H'
def mq(A:zi):Sp:=λvs H Q _=>∃(p b k:Addr)(t:Tab)(ks:List (Str×Tab)),vs=[.ref p]/\zJ A H p b k t ks/\(uniq (zW t ks)).length<64/\ks.length<=4000 /\
 ∀l (ns:List Int) H',zj H H'->H l=none->H' l=some (.lst (ns.map V.int))->ns.Perm (uniq (zW t ks))->ns.Pairwise (·<=·)->Q (.ref l) H'
theorem AY:zy ["self","tables"] Zg (zm ju):=fsc
theorem Mq:bb { kind:=.function,names:=[(Ou ".0",.local),(Ou "files",.local)],isGenerator:=false,isCoroutine:=false,more:=[] } (zm ju).names ["self","tables"] WA [none]=true:=by decide +kernel
theorem NJ:(WA:List Str).Nodup:=by decide +kernel
theorem Cu:bb { kind:=.function,names:=[(Ou ".0",.local),(Ou "table",.local),(Ou "births",.local),(Ou "birth",.local)],isGenerator:=false,isCoroutine:=false,more:=[] } (zm ju).names ["self","tables"] ["table","births",Wh] [none,none,none]=true:=by decide +kernel
theorem nZ:(["table","births",Wh]:List Str).Nodup:=by decide +kernel
theorem Gg(F:Fun K "living" "Files.living" ju f fd)(T:Txt K mg A):zq P w K mg base CX0 true 1 f fd Zg (mq A):=by
 refine F.o AY λZ1 Ar outer s H vs Q E hr h=>?_;obtain ⟨p,b,k,t,ks,rfl,hF,XU,hk,q⟩:=h;refine {_,(W.h (zh (zC (i:=1) AY.nd rfl (OL rfl) (zI o5 (bV (zd (ae T.mu T.nD (zp 0)) ze)) (IT (fj (λ_=>rfl) (z6.of Mq) (AX (ae T.mu T.qs (zp 0))) (λ_ _ _ _ _=>(zD (i:=0) NJ rfl (OL rfl))) (λ_ _ _ _ _=>cn) (λ_ _ _ _ _=>(ae T.mu T.nD (zp 0)))))))
   (zo (zB (ar (DE rfl) rfl T.UR SL (zd (NN (λ_=>rfl) (λ_=>rfl) (λ_=>rfl) (z6.of Cu) (bM (zp 1)) (λ_ _ _ _ _=>(zD (i:=0) nZ rfl (OL rfl))) (λ_ _ _ _ _=>(AX (zp 0))) (λ_ _ _ _ _=>(zD (i:=1) nZ rfl (OL rfl))) (λ_ _ _ _ _=>(Nk (zp 1))) (λ_ _ _ _ _=>(zD (i:=2) nZ rfl (OL rfl))) (λ_ _ _ _ _=>(zp 2))) ze)))))),?_}
 obtain ⟨dx,Z⟩:=hF.ob;obtain ⟨kk,U,d⟩:=hF.kept;erw [Z,cZ,fo];refine {'d',λlb H1 O ba=>{k,sk kk,O.same _ _ U,λo=>?_}};have pk:p≠k:=λz=>by rw [z,U] at Z;cases Z
 have hf:upd H1 k (.frz o (.dK (sk kk))) p=some (.ins A.ot dx (zQ b k)):=by rw [zg pk];exact O.same _ _ Z
 have fs:FS H (upd H1 k (.frz o (.dK (sk kk)))):=(FS.of O.same).trans (.freeze (O.same _ _ U));erw [hf,fo];refine {o,sk kk,zA,aM.vals (LvI (upd H1 k (.frz o (.dK (sk kk)))) k o kk ks) (λi τ ys H' I=>?_) (λi τ ys H' I=>I.same _ _ zA) {{_,rfl},by rw [take_zero];exact .nil,zj.refl _} ?_ ?_}
 .have:=I.ys.length;have h2:=Qb i ks;rw [Ow] at this;exact O9 (show ys.length<=4000 by lia) 'd'
 .intro N i pv τ ys H' hp I hN;obtain ⟨t1,rfl⟩:=I.ex;obtain ⟨qv,aT,rfl⟩:∃qv,kk[i]?=some qv/\pv=(.inr qv.1,qv.2):=by
   unfold sk at hp;rw [OT] at hp;obtain ⟨pv,Z,U⟩:=O7.mp hp;exact ⟨pv,Z,U.symm⟩
  obtain ⟨u,hu,q1,b1,k1,a4,hB,a9,a8,_⟩:=Dct.at d aT;have av:=hB.fs fs;obtain ⟨Xw,Xq⟩:=av.ob;have a0:=I.same _ _ Xq;erw [a4,a0,cZ];refine hN _ _ _ {{_,rfl},?_,I.same};rw [Pi,hu,Pe];exact dm I.ys (.cons {b1,rfl,av.ny} .nil)
 .intro τ ys H' I D H2 n2;have hz:H2 k=some (.frz o (.dK (sk kk))):=n2.same _ _ (I.same _ _ zA);refine {o,hz,?_};have a5:=O.same _ _ U;have s3:zj H1 (upd H2 k (.dK (sk kk))):=λc u J=>by
   by_cases z:c=k
   .subst z;rw [a5] at J;cases J;exact zA
   .rw [zg z];exact n2.same _ _ (I.same _ _ (by rw [zg z];exact J))
  have Dk:D≠k:=λz=>by have:=n2.no;rw [z,I.same _ _ zA] at this;cases this
  have hD:upd H2 k (.dK (sk kk)) D=some (.lst ys):=by rw [zg Dk];exact n2.at_
  have ax:=s3 _ _ O.at_;have aI:FS (upd H1 k (.frz o (.dK (sk kk)))) (upd H2 k (.dK (sk kk))):=((FS.of I.same).trans (FS.of n2.same)).trans (.bJ hz);have py:Paired (nH (upd H2 k (.dK (sk kk)))) ys (ks.map (·.2)):=by
   have:=I.ys;rw [show (sk kk).length=ks.length by rw [<- d.length];simp [sk],OU (OA _)] at this;exact Paired.ti this λv t ⟨b,e,hb⟩=>{b,e,hb.fs aI}
  have ai:dj (upd H2 k (.dK (sk kk))) b t:=hF.ny.r.fs ((FS.of O.same).trans (.of s3));generalize upd H2 k (.dK (sk kk))=H3 at s3 hD ax py ai;ac_rfl;have ly:=py.length;rw [Ow] at ly;refine {[.ref b],ax,ys,hD,by rw [PX];exact Pj (show 1+ys.length<=4001 by lia) 'd',λtl H4 n4=>{{_,.inl (.inl n4.at_)},?_}};have G:Paired (nH H4) ([.ref b]++ys) (t::ks.map (·.2)):=.cons {b,rfl,ai.fs (.of n4.same)} (Paired.ti py λv t ⟨b,e,hb⟩=>{b,e,hb.fs (.of n4.same)});have eU:(t::ks.map (·.2)).flatMap zX=zW t ks:=by
   unfold zW;rw [List.flatMap_cons,List.flatMap_map]
  have S:=G.length;generalize a7:t::ks.map (·.2)=us at G eU S;refine cY.lst (xs:=[.ref b]++ys) (OuI H4 us) (λi τ ns H' I=>.inl (.inl (I.same _ _ n4.at_))) {{_,_,_,rfl},rfl,zj.refl _} ?_ ?_
  .intro N i v τ ns H' hv I hN;obtain ⟨x,y,z,rfl⟩:=I.ex;have hi:i<us.length:=by rw [<- S];exact (OG.mp hv).1
   have hu:us[i]?=some us[i]:=KE hi;obtain ⟨bi,rfl,hb⟩:=bY G hv hu;have Xl:=hb.fs (.of I.same);obtain ⟨kvs,a3,dc⟩:=Xl.ex;have es:(zX us[i]).foldl ag ns=((us.take (i+1)).flatMap zX).foldl ag []:=by
    rw [I.ns,<- Rr,Pi,hu,Sj];simp
   have few:((zX us[i]).foldl ag ns).length<3000:=by
    rw [es];have h1:=kD (l:=(us.drop (i+1)).flatMap zX) (ns:=((us.take (i+1)).flatMap zX).foldl ag []);rw [<- Rr,<- Sj,QI,eU] at h1;exact O9 h1 (Ra XU 'd')
   ac_rfl;rcases a3 with e|⟨o',e⟩
   .refine .inr {bi,sk kvs,e,λo'=>{o',sk kvs,zA,sO zA (dc.imp λv l ⟨a,ea,ha⟩=>{a,ea,by rw [zg (λz=>by rw [z,e] at ha;cases ha)];exact ha}) few λy' z'=>{o',zA,hN _ _ _ {{_,_,_,rfl},es,λc u J=>?_}}}};by_cases zc:c=bi
    .subst zc;have:=I.same _ _ J;rw [e] at this;cases this;exact zA
    .rw [zg zc,zg zc];exact I.same _ _ J
   .exact .inl {o',sk kvs,e,sO e dc few λy' z'=>hN _ _ _ {{_,_,_,rfl},es,I.same}}
  .intro τ ns H' I D' a6 _;have en:ns=uniq (zW t ks):=by
    rw [I.ns,S,OU (OA _),eU];rfl
   subst en;refine {_,zA,XU,λl Yt H5 n5 pm so=>?_};have sA:∀{o:HO},zj H (upd H' D' o):=λ{o} c u J=>by
    have h1:=I.same _ _ (n4.same _ _ (s3 _ _ (O.same _ _ J)));rw [zg (λz=>by rw [z,a6] at h1;cases h1)];exact h1
   exact q l Yt H5 (sA.trans n5.same) (sA.free n5.no) n5.at_ pm so
end
abbrev qh:Stmt:=z8 (top 40) 11
abbrev jW:Stmt:=z8 (top 48) 0
abbrev o6:Stmt:=z8 (top 48) 1
abbrev lK:Stmt:=z8 (top 48) 2
abbrev qi:Stmt:=z8 (top 48) 4
abbrev nh:Stmt:=z8 (top 48) 5
def k9{α:Type}(l:List (Int×α))(n:Int)(a:α):List (Int×α):=if n∈l.map (·.1) then l.map (λp=>if p.1=n then (p.1,a) else p) else l++[(n,a)]
theorem xh:((ik kvs).any λG=>decide (G.1=(.inl n:Key)))=true↔n∈kvs.map (·.1):=by
 unfold ik;rw [any_map,List.any_eq_true];constructor
 .rintro ⟨p,F,h⟩;have h:(Sum.inl p.1:Key) = .inl n:=of_decide_eq_true h;cases h;exact Pk.mpr {p,F,rfl}
 .intro h;obtain ⟨p,F,rfl⟩:=Pk.mp h;exact {p,F,'z'}
theorem uP:aV (ik kvs) (.inl n) v=ik (k9 kvs n v):=by
 unfold aV k9;by_cases h:n∈kvs.map (·.1)
 .rw [if_pos (xh.mpr h),if_pos h];unfold ik;rw [Qp,Qp];refine PV λp _=>?_;show (if (Sum.inl p.1:Key) = .inl n then _ else _)=_;by_cases e:p.1=n
  .rw [if_pos (by rw [e])];show _=(Sum.inl (if p.1=n then (p.1,v) else p).1,(if p.1=n then (p.1,v) else p).2);rw [if_pos e]
  .rw [if_neg (λz=>e (by cases z;rfl))];show _=(Sum.inl (if p.1=n then (p.1,v) else p).1,(if p.1=n then (p.1,v) else p).2);rw [if_neg e]
 .rw [if_neg (λz=>h (xh.mp z)),if_neg h];unfold ik;rw [Pe];rfl
theorem oU:∀{kvs:List (Int×V)},(kvs.map (·.1)).Nodup->(n,v)∈kvs->ay (ik kvs) (.inl n)=some v
 | [],_,h=>by cases h
 | p::kvs,nd,h=>by
  have F:=R5.mp nd;show ay ((Sum.inl p.1,p.2)::ik kvs) (.inl n)=_;rcases OK.mp h with e|h
  .rw [<- e];exact jm rfl
  .have ne : ¬ (Sum.inl p.1:Key) = .inl n:=λz=>by
    cases z;exact F.1 (Pk.mpr {_,h,rfl})
   rw [jF ne];exact oU F.2 h
theorem uI:(ik kvs).length=kvs.length:=by simp [ik]
structure NoPart(u:HO):Prop where
 d:∀kvs,u≠.dK kvs
 f:∀o kvs,u≠.frz o (.dK kvs)
 t:∀xs,u≠.tup xs
 i:∀C dx b k,u≠.ins C dx (zQ b k)
theorem NoPart.lst{xs:List V}:NoPart (.lst xs):={λ_ z=>HO.noConfusion z,λ_ _ z=>HO.noConfusion z,λ_ z=>HO.noConfusion z,λ_ _ _ _ z=>HO.noConfusion z}
theorem Du{b k:Addr}:([]:List (Str×V))≠zQ b k:=λz=>by have:=congrArg Tj z;exact absurd this (by show ¬ 0=2;decide)
theorem NoPart.cW:NoPart (.ins C dx []):={λ_ z=>(HO.noConfusion z),λ_ _ z=>(HO.noConfusion z),λ_ z=>(HO.noConfusion z),λ_ _ _ _ z=>Du (by injection z)}
theorem aQ.bo{x q b k:Addr}{t:Tab}(h:aQ A H q b k t)(s:But x H H')(hx:H x=some u)(F:NoPart u):aQ A H' q b k t:=by
 have ne:∀{c:Addr}{o:HO},H c=some o->o≠u->H' c=some o:=λ{c o} e n=>s _ _ (λz=>n (by rw [z,hx] at e;exact (Pa.inj e).symm)) e;have G:∀{c:Addr}{kvs:List (Key×V)},Rd H c (.dK kvs)->Rd H' c (.dK kvs):=λ{c kvs} r=>r.elim (λe=>.inl (ne e λz=>F.d _ z.symm)) λ⟨o,e⟩=>.inr {o,ne e λz=>F.f _ _ z.symm};obtain ⟨dx,e⟩:=h.ob;obtain ⟨kvs,J,d⟩:=h.ny.ex;exact {{dx,ne e λz=>F.i _ _ _ _ z.symm},{{kvs,G J,d.imp λv l ⟨a,ea,O⟩=>{a,ea,ne O λz=>F.t _ z.symm}},h.ny.nd},G h.kept}
theorem zJ.bo{x p b k:Addr}{t:Tab}(h:zJ A H p b k t ks)(s:But x H H')(hx:H x=some u)(F:NoPart u):zJ A H' p b k t ks:=by
 have ne:∀{c:Addr}{o:HO},H c=some o->o≠u->H' c=some o:=λ{c o} e n=>s _ _ (λz=>n (by rw [z,hx] at e;exact (Pa.inj e).symm)) e;obtain ⟨dx,e⟩:=h.ob;obtain ⟨kvs,O,d⟩:=h.ny.ex;obtain ⟨kk,J,S⟩:=h.kept;exact {{dx,ne e λz=>F.i _ _ _ _ z.symm},{{kvs,ne O λz=>F.d _ z.symm,d.imp λv l ⟨a,ea,G⟩=>{a,ea,ne G λz=>F.t _ z.symm}},h.ny.nd},{kk,ne J λz=>F.d _ z.symm,S.imp λv u ⟨q,W,k',U,r,n⟩=>{q,W,k',U,r.bo s hx F,n}},h.bc,h.ne}
abbrev T3:=Int×Int×Int
def fc(H:Hp)(p:Int×V)(t:T3):Prop:=p.1=t.1/\∃a,p.2 = .ref a/\H a=some (.tup [.int t.2.1,.int t.2.2])
def dr(H:Hp)(a:Addr)(t:T3):Prop:=H a=some (.tup [.int t.1,.int t.2.1,.int t.2.2])
def T3S(H:Hp)(a:Addr)(t:T3):Prop:=H a=some (.tup [.int t.1,.int t.2.1,.int t.2.2])\/H a=some (.lst [.int t.1,.int t.2.1,.int t.2.2])
structure jy(ts:List T3):Prop where
 nd:(ts.map (·.1)).Nodup
 few:ts.length<40
def bh(f d:Addr)(n m:Int):List (Str×V):=[("own_files",.ref f),("spot_of",.ref d),("next_row",.int n),("next_mark",.int m)]
structure aY(A:zi)(H:Hp)(x fx b k d:Addr)(t:Tab)(ks:List (Str×Tab))(ts:List T3)(n m:Int):Prop where
 ob:∃dx,H x=some (.ins A.State dx (bh fx d n m))
 files:zJ A H fx b k t ks
 bj:∃kvs,H d=some (.dK (ik kvs))/\Paired (fc H) kvs ts
 ok:jy ts
theorem fc.keep{p:Int×V}{t:T3}(h:fc H p t)(k:∀r xs,H r=some (.tup xs)->H' r=some (.tup xs)):fc H' p t:=let ⟨e,a,e2,e3⟩:=h;{e,a,e2,k _ _ e3}
theorem aY.same{x F b k d:Addr}{t:Tab}(h:aY A H x F b k d t ks ts n m)(s:zj H H'):aY A H' x F b k d t ks ts n m :=
 let ⟨dx,e⟩:=h.ob;let ⟨kvs,e2,p⟩:=h.bj;{{dx,s _ _ e},h.files.same s,{kvs,s _ _ e2,Paired.ti p λ_ _ r=>r.keep λ_ _ e=>s _ _ e},h.ok}
theorem md(h:Paired (fc H) kvs ts):kvs.map (·.1)=ts.map (·.1):=by
 induction h with
 | nil=>rfl
 | cons r _ F=>rw [PP,PP,F,r.1]
section
variable {P:OE}{w:OW}{K:Frag}{mg:Str->Option Value}{base:Heap}{A:zi}{b k f d:Addr}{n m:Int}
theorem Fb:(bh f d n m).lookup ("own_files":Str)=some (.ref f):=by simp only [bh,PF,beq_self_eq_true]
theorem vF:(bh f d n m).lookup ("spot_of":Str)=some (.ref d):=by simp only [bh,PF,beq_self_eq_true,GR]
theorem IA:(bh f d n m).lookup ("next_row":Str)=some (.int n):=by simp only [bh,PF,beq_self_eq_true,J8,Gi]
theorem JO:(bh f d n m).lookup ("next_mark":Str)=some (.int m):=by simp only [bh,PF,beq_self_eq_true,EM,Nv,KS]
theorem qZ:(bh f d n m).lookup (V7:Str)=none:=by simp only [bh,PF,Dq,Lc,MS,Cr]
theorem jc:(bh f d n m).lookup (Wi:Str)=none:=by simp only [bh,PF,Jb,Fc,Bq,Ee]
theorem ia:(bh f d n m).lookup (Wj:Str)=none:=by simp only [bh,PF,HL,Fj,ID,ER]
theorem gY:(bh f d n m).lookup (Wl:Str)=none:=by simp only [bh,PF,C2,JD,Ir,GS]
def oQ(A:zi):Sp:=λvs H Q _=>∃(p b k:Addr)(t:Tab)(ks:List (Str×Tab)),vs=[.ref p]/\zJ A H p b k t ks /\
 ∀q F k' H',zj H H'->H q=none->H F=none->H k'=none->zJ A H' q F k' t ks->H' k'=H k->Q (.ref q) H'
theorem xP:zy ["self","other"] Zg (zm qh):=fsc
theorem Nm{f:Addr}(F:Fun K "copied" "Files.copied" qh f fd)(T:Txt K mg A)(ZP:GM P w K mg base true 3 A.ot "bare" Zg (kU A)):zq P w K mg base CX0 true 4 f fd Zg (oQ A):=by
 refine F.o xP λZ1 Ar outer s H vs Q E hr h=>?_;obtain ⟨p,b,k,t,ks,rfl,hF,q⟩:=h;refine {_,(W.h (zh (zC (i:=1) xP.nd rfl (OL rfl) (zY (zp 0) T.mu ZP hr))
   (zh (cg T.mu T.qs (zp 1) (cR sR rfl T.bw boot_dict (zd (ae T.mu T.qs (zp 0)) ze)))
   (zo (zB (zp 1)))))),?_}
 obtain ⟨dx,e1⟩:=hF.ob;erw [e1,nQ];refine {p,t,rfl,hF.has,λx U k' H1 s1 nb nk nx hB aI=>?_};obtain ⟨Xw,J⟩:=hB.ob;have F1:=hF.same s1;obtain ⟨Xs,Xr⟩:=F1.ob;obtain ⟨ax,Z,d0⟩:=hF.kept;have e2:=s1 _ _ Z;erw [Xr,fo];refine {_,.inl e2,λkd H2 G=>{Xw,_,G.same _ _ J,by show 2<1000;decide,?_}};have eF:zN ("kept":Str) (V.ref kd) (zQ U k')=zQ U kd:=by simp only [zN,zQ,tS,if_false,if_true]
 rw [eF];have px:∀c o,H c=some o->c≠x:=λc o e=>zH e nx;have sA:zj H (upd H2 x (.ins A.ot Xw (zQ U kd))):=λa o e=>by rw [zg (px a o e)];exact G.same _ _ (s1 _ _ e)
 have ai:kd≠x:=λz=>by have:=G.no;rw [z,J] at this;cases this
 have bx:U≠x:=λz=>by obtain ⟨kvs,er,_⟩:=hB.ny.ex;rw [z] at er;rcases er with e|⟨o,e⟩ <;> · rw [J] at e;cases e
 have S:H kd=none:=s1.free G.no;obtain ⟨kvs,eb,dd⟩:=aI.ex;have av:U≠kd:=λz=>by have:=G.no;rw [<- z,eb] at this;cases this
 refine q x U kd _ sA nx nb S {⟨Xw,zA⟩,{{kvs,by rw [zg bx];exact G.same _ _ eb,dd.imp λv l ⟨a,ea,ha⟩=>{a,ea,by rw [zg (λz=>by rw [z,J] at ha;cases ha)];exact G.same _ _ ha}},hB.ny.nd},{ax,by rw [zg ai];exact G.at_,d0.imp λv u r=>?_},hF.bc,av} (by rw [zg ai,G.at_,Z]);obtain ⟨q1,b1,k1,ev,O,_⟩:=r;have hh:=O.same sA;obtain ⟨a0,aT,_⟩:=O.ny.ex;have live:∀{c:Addr}{u:HO},Rd H c u->∃o,H c=some o:=λh=>h.elim (λe=>{_,e}) λ⟨o,e⟩=>{_,e};obtain ⟨o1,l1⟩:=live aT;obtain ⟨o2,l2⟩:=live O.kept;exact {q1,b1,k1,ev,hh,zH l1 nb,zH l1 S,zH l2 nb,zH l2 S}
structure DcI(H:Hp)(ts:List T3)(i:Nat)(τ:L2.St)(ys:List (Key×V))(H':Hp):Prop where
 ex:∃t1 t2 t3,τ=[t1,t2,t3]
 ys:∃kvs,ys=ik kvs/\Paired (fc H') kvs (ts.take i)
 same:zj H H'
def kh(A:zi):Sp:=λvs H Q _=>∃(x p b k sl dx:Addr)(n m:Int)(t:Tab)(ks:List (Str×Tab))(as:List Addr)(ts:List T3),vs=[.ref x,.ref p,.ref sl,.int n,.int m]/\H x=some (.ins A.State dx [])/\zJ A H p b k t ks/\(H sl=some (.lst (as.map V.ref))\/H sl=some (.tup (as.map V.ref)))/\Paired (T3S H) as ts/\jy ts /\
 ∀F G k' d H',But x H H'->H F=none->H G=none->H k'=none->H d=none->aY A H' x F G k' d t ks ts n m->H' k'=H k->Q .non H'
theorem J0:zy Ys Ys (zm jW):=fsc
theorem Me:bb { kind:=.function,names:=[(Ou ".0",.local),(Ou "birth",.local),(Ou "stretch",.local),(Ou "place",.local)],isGenerator:=false,isCoroutine:=false,more:=[] } (zm jW).names Ys XC [none,none,none]=true:=by decide +kernel
theorem rW:(XC:List Str).Nodup:=by decide +kernel
theorem CI{f:Addr}(F:Fun K Wm "State.__init__" jW f fd)(T:Txt K mg A)(ZJ:GM P w K mg base true 4 A.ot "copied" Zg (oQ A)):zq P w K mg base CX0 true 5 f fd Ys (kh A):=by
 refine F.o J0 λZ1 Ar outer s H vs Q E hr h=>?_;obtain ⟨x,p,b,k,sl,dx,n,m,t,ks,as,ts,rfl,hx,hF,hs,hp,ok,q⟩:=h;refine {_,(W.h (zh (cg T.qb T.Pv (zp 0) (zY (zp 1) T.mu ZJ hr))
   (zh (cg T.qb T.z9 (zp 0) (u7 (λ_=>rfl) (z6.of Me) (Iw (zp 2)) (λ_ _ _ _ _=>(Ii rfl (n:=3) (aA (zD (i:=0) rW rfl (OL rfl)) (aA (zD (i:=1) rW rfl (OL rfl)) (aA (zD (i:=2) rW rfl (OL rfl)) d5))))) (λ_ _ _ _ _=>cn) (λ_ _ _ _ _=>(zp 0)) (λ_ _ _ _ _=>(bR (zd (zp 1) (zd (zp 2) ze))))))
   (zh (cg T.qb T.UP (zp 0) (zp 3))
   (zo (cg T.qb T.Q2 (zp 0) (zp 4))))))),?_}
 obtain ⟨a4,e1⟩:=hF.ob;erw [e1,yK];refine {p,b,k,t,ks,rfl,hF,λJ b1 k1 H1 s1 nq nb nk S aI=>{dx,[],s1 _ _ hx,'d',?_}};have G:∀{o:HO}{r:Addr}{u:HO},(∀C dx fs,u≠.ins C dx fs)->H1 r=some u->upd H1 x o r=some u:=λ{o r u} hu e=>by rw [zg (λz=>by rw [z,s1 _ _ hx] at e;exact hu _ _ _ (Pa.inj e).symm)];exact e
 have ZL:=aK hp;have hz:∀i τ ys H',DcI (upd H1 x (.ins A.State dx (zN "own_files" (V.ref J) []))) ts i τ ys H'->ys.length<sizeLine:=λi τ ys H' I=>by
  obtain ⟨kvs,e,pr⟩:=I.ys;have:=aK pr;have h2:=Qb i ts;have:=ok.few;rw [e,uI];exact br 'l'
 have step:∀(N:L2.St->List (Key×V)->Hp->Prop) i v τ ys H',(as.map V.ref)[i]?=some v->DcI (upd H1 x (.ins A.State dx (zN "own_files" (V.ref J) []))) ts i τ ys H'->(∀τ ys H,DcI (upd H1 x (.ins A.State dx (zN "own_files" (V.ref J) []))) ts (i+1) τ ys H->N τ ys H) ->
   gSq K 3 (il (cE 0) (il (cE 1) (il (cE 2) qG))) v τ H' λU H4=>me U H4 λok H5=>jx N ys U (eP 0) (pM (jd (eP 1) (jd (eP 2) cw))) ok H5:=by
  intro N i v τ ys H' hv I hN;obtain ⟨t1,t2,t3,rfl⟩:=I.ex;obtain ⟨kvs,e,pr⟩:=I.ys;rw [OT] at hv;obtain ⟨a,ha,rfl⟩:=O7.mp hv;have hi:i<ts.length:=by rw [<- ZL];exact (OG.mp ha).1
  have XY:ts[i]?=some ts[i]:=KE hi;have ht:SqT K H' a [.int ts[i].1,.int ts[i].2.1,.int ts[i].2.2]\/SqL K H' a [.int ts[i].1,.int ts[i].2.1,.int ts[i].2.2]:=by
   rcases bY hp ha XY with h|h
   .exact .inl (.inl (.inl (I.same _ _ (G (λ_ _ _=>nofun) (s1 _ _ h)))))
   .exact .inr (.inl (.inl (I.same _ _ (G (λ_ _ _=>nofun) (s1 _ _ h)))))
  refine {a,_,rfl,ht,rfl,?_};ac_rfl;refine {'d',λa2 H2 n2=>hN _ _ _ {{_,_,_,rfl},{kvs++[(ts[i].1,.ref a2)],?_,?_},I.same.trans n2.same}}
  .have a3:ts[i].1∉kvs.map (·.1):=by
    rw [md pr];intro z;obtain ⟨u,hu,eu⟩:=Pk.mp z;obtain ⟨j,hj,ej⟩:=RJ hu;have a5:j<i:=by rw [Qf] at hj;lia
    rw [List.getElem_take] at ej;have aT:j<(ts.map (·.1)).length:=by rw [Ow];lia
    have:=(List.getElem?_inj aT ok.nd).mp (show (ts.map (·.1))[j]?=(ts.map (·.1))[i]? by rw [OT,OT,XY,KE (show j<ts.length by lia),ej];show some u.1=some ts[i].1;rw [eu]);lia
   rw [e,uP];unfold k9;rw [if_neg a3]
  .rw [Pi,XY];exact dm (Paired.ti pr λp t r=>r.keep λr xs e=>n2.same _ _ e) (.cons {rfl,a2,rfl,n2.at_} .nil)
 rcases hs with hs|hs
 all_goals first
  | refine .inl ⟨⟨_,.inl (.inl (G (λ_ _ _=>nofun) (s1 _ _ hs)))⟩,eV.lst (xs:=as.map V.ref) (DcI _ ts) hz (λi τ ys H' I=>.inl (.inl (I.same _ _ (G (λ_ _ _=>nofun) (s1 _ _ hs))))) ⟨⟨_,_,_,rfl⟩,⟨[],rfl,.nil⟩,zj.refl _⟩ step ?_⟩
  | refine .inr ⟨⟨_,.inl (.inl (G (λ_ _ _=>nofun) (s1 _ _ hs)))⟩,eV.tup (xs:=as.map V.ref) (DcI _ ts) hz (λi τ ys H' I=>.inl (.inl (I.same _ _ (G (λ_ _ _=>nofun) (s1 _ _ hs))))) ⟨⟨_,_,_,rfl⟩,⟨[],rfl,.nil⟩,zj.refl _⟩ step ?_⟩
 all_goals
  intro τ ys H3 I D H4 O;obtain ⟨kvs,e,pr⟩:=I.ys;rw [Ow,ZL,OU (OA _)] at pr;rw [e] at O;have x4:=O.same _ _ (I.same _ _ zA);refine {dx,_,x4,by show 1<1000;decide,dx,_,zA,by simp only [zN,pe,if_false];show 2<1000;decide,dx,_,zA,by simp only [zN,pe,uq,A8,if_false];show 3<1000;decide,?_};rw [iL,iL];have eF:zN ("next_mark":Str) (V.int m) (zN "next_row" (V.int n) (zN "spot_of" (V.ref D) (zN "own_files" (V.ref J) [])))=bh J D n m:=by
   simp only [zN,bh,pe,uq,A8,Na,B3,Jl,if_false]
  rw [eF];have Dx:D≠x:=λz=>by have:=O.no;rw [z,I.same _ _ zA] at this;cases this
  have bt:But x H1 (upd H4 x (.ins A.State dx (bh J D n m))):=λc u nc e=>by
   rw [zg nc];exact O.same _ _ (I.same _ _ (by rw [zg nc];exact e))
  have a0:=S.bo bt (s1 _ _ hx) .cW;have ax:∀{r:Addr}{xs:List V},H3 r=some (.tup xs)->upd H4 x (.ins A.State dx (bh J D n m)) r=some (.tup xs):=λ{r xs} e=>by
   rw [zg (λz=>by rw [z,I.same _ _ zA] at e;cases e)];exact O.same _ _ e
  have av:k1≠x:=λz=>by rw [z,hx] at nk;cases nk
  have D0:H D=none:=by
   cases eD:H D with
   | none=>rfl
   | some u =>
    have:=I.same D u (by rw [zg Dx];exact s1 _ _ eD);rw [O.no] at this;cases this
  refine q J b1 k1 D _ (λa o na ea=>bt _ _ na (s1 _ _ ea)) nq nb nk D0 {⟨dx,zA⟩,a0,{kvs,by rw [zg Dx];exact O.at_,Paired.ti pr λp t r=>r.keep λr xs e=>ax e},ok} ?_;obtain ⟨kk,ai,_⟩:=S.kept;have Z:=bt _ _ av ai;rw [Z,<- ai,aI]
end
def dY(ts:List T3)(n:Int):T3:=(ts.find? λt=>decide (t.1=n)).getD (0,0,0)
theorem lN(nd:(ts.map (·.1)).Nodup){t:T3}(h:t∈ts):dY ts t.1=t:=by
 unfold dY
 induction ts with
 | nil=>cases h
 | cons u ts G =>
  obtain ⟨F,J⟩:=R5.mp nd;rw [Sz];rcases OK.mp h with rfl|h
  .rw [decide_eq_true rfl];rfl
  .have ne : ¬ u.1=t.1:=λz=>F (by show u.1∈_;rw [z];exact Pk.mpr {t,h,rfl});rw [decide_eq_false ne];exact G J h
theorem LY{ts:List T3}(nd:(ts.map (·.1)).Nodup):(ts.map (·.1)).map (dY ts)=ts:=by
 rw [Qp];have:∀us:List T3,(∀u∈us,u∈ts)->us.map (dY ts∘(·.1))=us:=λus h=>by
  induction us with
  | nil=>rfl
  | cons u us F=>rw [PP,F λv hv=>h v (Oy _ hv)];show dY ts u.1::us=_;rw [lN nd (h u (OB ..))]
 exact this ts λ_ h=>h
section
variable {P:OE}{w:OW}{K:Frag}{mg:Str->Option Value}{base:Heap}{A:zi}
def kF(A:zi):Sp:=λvs H Q _=>∃(x G b k d:Addr)(t:Tab)(ks:List (Str×Tab))(ts:List T3)(n m:Int),vs=[.ref x]/\aY A H x G b k d t ks ts n m /\
 ∀q F k' H',zj H H'->H q=none->H F=none->H k'=none->zJ A H' q F k' t ks->H' k'=H k->Q (.ref q) H'
theorem DF:zy Zg Zg (zm o6):=fsc
theorem EO(F:Fun K Wi "State.files" o6 f fd)(T:Txt K mg A)(U:GM P w K mg base true 4 A.ot "copied" Zg (oQ A)):zq P w K mg base CX0 true 5 f fd Zg (kF A):=by
 refine F.o DF λZ1 Ar outer s H vs Q E Z h=>?_;obtain ⟨x,S,b,k,d,t,ks,ts,n,m,rfl,G,q⟩:=h;refine {_,(W.h (zo (zB (zY (ae T.qb T.Pv (zp 0)) T.mu U Z)))),?_};obtain ⟨dx,O⟩:=G.ob;obtain ⟨Xx,J⟩:=G.files.ob;erw [O,J,Fb,yK];exact {S,b,k,t,ks,rfl,G.files,q}
def jk(A:zi):Sp:=λvs H Q _=>∃(x F b k d:Addr)(t:Tab)(ks:List (Str×Tab))(ts:List T3)(n m:Int),vs=[.ref x]/\aY A H x F b k d t ks ts n m/\Q (.int n) H
theorem Fm:zy Zg Zg (zm qi):=fsc
theorem IK(F:Fun K Wj "State.next_number" qi f fd)(T:Txt K mg A):zq P w K mg base CX0 true 1 f fd Zg (jk A):=by
 refine F.o Fm λS Z outer s H vs Q E U h=>?_;obtain ⟨x,O,b,k,d,t,ks,ts,n,m,rfl,J,q⟩:=h;refine {_,(W.h (zo (zB (ae T.qb T.UP (zp 0))))),?_};obtain ⟨dx,G⟩:=J.ob;erw [G,IA];exact q
def iQ(A:zi):Sp:=λvs H Q _=>∃(x F b k d:Addr)(t:Tab)(ks:List (Str×Tab))(ts:List T3)(n m:Int),vs=[.ref x]/\aY A H x F b k d t ks ts n m/\Q (.int m) H
theorem HU:zy Zg Zg (zm nh):=fsc
theorem MM(F:Fun K Wl "State.mark_number" nh f fd)(T:Txt K mg A):zq P w K mg base CX0 true 1 f fd Zg (iQ A):=by
 refine F.o HU λS Z outer s H vs Q E U h=>?_;obtain ⟨x,O,b,k,d,t,ks,ts,n,m,rfl,J,q⟩:=h;refine {_,(W.h (zo (zB (ae T.qb T.Q2 (zp 0))))),?_};obtain ⟨dx,G⟩:=J.ob;erw [G,JO];exact q
def kX(A:zi):Sp:=λvs H Q _=>∃(x G b k d:Addr)(t:Tab)(ks:List (Str×Tab))(ts:List T3)(n m:Int),vs=[.ref x]/\aY A H x G b k d t ks ts n m /\
 ∀l as F H',zj H H'->H l=none->H' l=some (.lst (as.map V.ref))->Paired (dr H') as F->F.Perm ts->(F.map (·.1)).Pairwise (·<=·)->Q (.ref l) H'
structure SpI(H:Hp)(x:Addr)(ts:List T3)(ns:List Int)(i:Nat)(τ:L2.St)(ys:List V)(H':Hp):Prop where
 ex:∃t1,τ=[t1,some (.ref x)]
 ys:∃as:List Addr,ys=as.map V.ref/\Paired (dr H') as ((ns.take i).map (dY ts))
 same:zj H H'
theorem Mo:zy Zg Zg (zm lK):=fsc
theorem Jg:bb { kind:=.function,names:=[(Ou ".0",.local),(Ou "birth",.local),(Ou "self",.free)],isGenerator:=false,isCoroutine:=false,more:=[] } (zm lK).names Zg [Wh,"self"] [none,some 0]=true:=by decide +kernel
theorem HB:([Wh,"self"]:List Str).Nodup:=by decide +kernel
theorem Jr(F:Fun K V7 "State.spots" lK f fd)(T:Txt K mg A):zq P w K mg base CX0 true 1 f fd Zg (kX A):=by
 refine F.o Mo λZ1 Ar outer s H vs Q E hr h=>?_;obtain ⟨x,fx,b,k,d,t,ks,ts,n,m,rfl,hS,q⟩:=h;refine {_,(W.h (zo (zB (fj (λ_=>rfl) (z6.of Jg) (bM (ar (DU rfl) rfl T.UR SL (zd (ae T.qb T.z9 (zp 0)) ze))) (λ_ _ _ _ _=>(zD (i:=0) HB rfl (OL rfl))) (λ_ _ _ _ _=>cn) (λ_ _ _ _ _=>(zI iC (bR (zd (zp 0) ze)) (aR (lC (bo hr)) (ae T.qb T.z9 (zp 1)) (zp 0) (λ_ _=>rfl)))))))),?_};obtain ⟨dx,e1⟩:=hS.ob;obtain ⟨kvs,e2,e3⟩:=hS.bj;have ok:=hS.ok;have lk:=aK e3;have ky:=md e3;erw [e1,vF];refine {kvs,.inl e2,by rw [lk];have:=ok.few;lia,λp ns H1 J pm so=>?_};rw [ky] at pm;have aT:ns.length=ts.length:=by rw [pm.length_eq,Ow]
 refine {{_,SqL.of J.at_},aM.lst (xs:=ns.map V.int) (SpI H1 x ts ns) (λi τ ys H' I=>?_) (λi τ ys H' I=>SqL.of (I.same _ _ J.at_)) {{_,rfl},{[],rfl,.nil},zj.refl _} ?_ ?_}
 .obtain ⟨as,e,pr⟩:=I.ys;have:=aK pr;rw [Ow] at this;have h2:=Qb i ns;have:=ok.few;rw [e,Ow];exact br 'l'
 .intro N i v τ ys H' hv I hN;obtain ⟨t1,rfl⟩:=I.ex;obtain ⟨as,e,pr⟩:=I.ys;rw [OT] at hv;obtain ⟨nb,U,rfl⟩:=O7.mp hv;have Xr:=I.same _ _ (J.same _ _ e1);have aI:=I.same _ _ (J.same _ _ e2);obtain ⟨t,ht,et⟩:=Pk.mp (pm.mem_iff.mp (Pc U));obtain ⟨j,hj,ej⟩:=RJ ht;have S:j<kvs.length:=by rw [lk];exact hj
  obtain ⟨s1,a,s2,s3⟩:=bY e3 (KE S) (KE hj);rw [ej] at s1 s3;have av:ay (ik kvs) (.inl nb)=some (.ref a):=by
   refine oU (by rw [ky];exact ok.nd) ?_;rw [<- et,<- s1,<- s2];exact P0 S
  ac_rfl;refine {'d',λp1 H2 G=>?_};have ai:=G.same _ _ Xr;erw [ai,vF];refine {_,.inl (G.same _ _ aI),_,av,?_};ac_rfl;refine .inr {_,G.at_,_,G.same _ _ (I.same _ _ (J.same _ _ s3)),by show 3<=sizeLine;decide,λp2 H3 O ax=>hN _ _ _ {{_,rfl},{as++[p2],by rw [e,Pe];rfl,?_},I.same.trans (G.same.trans O)}};rw [Pi,U,Pe];refine dm (Paired.ti pr λa t r=>O _ _ (G.same _ _ r)) (.cons ?_ .nil);show H3 p2=_;rw [ax,<- et,lN ok.nd ht];rfl
 .intro τ ys H' I D H2 G;obtain ⟨as,e,pr⟩:=I.ys;rw [Ow,OU (OA _)] at pr;rw [e] at G;have Z:=pm.map (dY ts);rw [LY ok.nd] at Z;refine q D as _ H2 ((J.same.trans I.same).trans G.same) ((J.same.trans I.same).free G.no) G.at_ (Paired.ti pr λa t r=>G.same _ _ r) Z ?_;rw [Qp,show ns.map ((λx=>x.1)∘dY ts)=ns from ?_]
  .exact so
  .refine (PV λn hn=>?_).trans (SU ns);obtain ⟨t,ht,rfl⟩:=Pk.mp (pm.mem_iff.mp hn);show (dY ts t.1).1=t.1;rw [lN ok.nd ht]
end
abbrev jZ:Stmt:=top 43
abbrev pQ:Stmt:=top 42
theorem iX{α:Type}{t:List (Str×α)}{a:α}:(zF t n a).length<=t.length+1:=by
 unfold zF;split<;>simp
structure z7(t:Tab):Prop where
 nd:(names t).Nodup
 len:t.length<=16
 nm:∀n∈names t,aN n=true
 ls:∀p∈t,1<=p.2.length/\p.2.length<=16/\∀x∈p.2,0<=x/\x<10 ^ 18
structure aO(ks:List (Str×Tab)):Prop where
 nd:(names ks).Nodup
 len:ks.length<=3
 nm:∀n∈names ks,aN n=true
 gm:∀p∈ks,z7 p.2
def cb(t:Tab)(zs:List Str):List Str:=zs.flatMap λn=>n::(toString ((lk t n).length:Int):Str)::(lk t n).map λx=>(toString x:Str)
noncomputable def bW(t:Tab):List Str:=(toString (t.length:Int):Str)::cb t (zt (names t))
theorem tf{t:Tab}{zs:List Str}(h:zs[i]?=some n):cb t (zs.take (i+1))=cb t (zs.take i)++[n,(toString ((lk t n).length:Int):Str)]++(lk t n).map λx=>(toString x:Str):=by
 unfold cb;rw [Pi,h];simp
section
variable {P:OE}{w:OW}{K:Frag}{mg:Str->Option Value}{base:Heap}{A:zi}{b k:Addr}
theorem z7.lk{t:Tab}(h:z7 t)(F:n∈names t):∃l,look t n=some l/\K41.lk t n=l/\1<=l.length/\l.length<=16/\∀x∈l,0<=x/\x<10 ^ 18:=by
 cases e:look t n with
 | none=>exact absurd F (c9.mp e)
 | some l=>exact {l,rfl,by unfold K41.lk;rw [e];rfl,h.ls _ (dR e)}
structure KG(H:Hp)(p nl wl:Addr)(t:Tab)(i:Nat)(σ:L2.St)(H':Hp):Prop where
 ex:∃t1 t2,σ=[some (V.ref p),some (.ref nl),some (.ref wl),t1,t2]
 same:zj H H'
 hnl:H' nl=some (.lst ((zt (names t)).map V.str))
 hwl:H' wl=some (.lst (((toString (t.length:Int):Str)::cb t ((zt (names t)).take i)).map V.str))
 no:H wl=none
 ne:nl≠wl
 sz:(cb t ((zt (names t)).take i)).length<=18*i
 le:i<=16
structure TWc(H:Hp)(p:Addr)(n:Str)(l:List Int)(i:Nat)(τ:L2.St)(ys:List V)(H':Hp):Prop where
 ex:∃t,τ=[t,some (V.ref p),some (.str n)]
 ys:ys=((l.take i).map λx=>(toString x:Str)).map V.str
 same:zj H H'
 le:i<=16
def xF(A:zi):Sp:=λvs H Q _=>∃(p b k:Addr)(t:Tab)(ks:List (Str×Tab)),vs=[.ref p]/\bK A H p b k t ks/\z7 t/\∀l H',zj H H'->H l=none->H' l=some (.lst ((bW t).map V.str))->Q (.ref l) H'
theorem jv:zy [Wi,VX,"words","name",V9] WA (zm jZ):=fsc
theorem CS:bb { kind:=.function,names:=[(Ou ".0",.local),(Ou "place",.local),(Ou "str",.globalImplicit),(Ou "files",.free),(Ou "name",.free)],isGenerator:=false,isCoroutine:=false,more:=[] } (zm jZ).names [Wi,VX,"words","name",V9] ["place",Wi,"name"] [none,some 0,some 3]=true:=by decide +kernel
theorem Cn:(["place",Wi,"name"]:List Str).Nodup:=by decide +kernel
theorem Cy(F:Fun K VQ VQ jZ f fd)(T:Txt K mg A)(ZX:GM P w K mg base true 1 A.ot VX Zg (mP A))(Z4:GM P w K mg base true 1 A.ot V9 XG (iK A))(ZW:GM P w K mg base true 4 A.ot Wh WS (kQ A)):zq P w K mg base CX0 true 5 f fd WA (xF A):=by
 refine F.o jv λZ1 Ar outer s H vs Q E hr h=>?_;obtain ⟨p,b,k,t,ks,rfl,hF,gm,q⟩:=h;refine {_,(W.h (zh (zC (i:=1) jv.nd rfl (OL rfl) (zY (zp 0) T.mu ZX hr))
   (zh (zC (i:=2) jv.nd rfl (OL rfl) (bV (zd (cR eL rfl T.UW RZ (zd (ar jL rfl T.UQ PZ (zd (zp 1) ze)) ze)) ze)))
   (zh (cF Q6.never (λ_=>rfl) (bM (zp 1)) (zD (i:=3) jv.nd rfl (Ry rfl))
   (zh (zC (i:=4) jv.nd rfl (OL rfl) (aC (zp 0) T.mu Z4 hr (zd (zp 3) ze)))
   (zh (aJ (jz (zp 2) (bV (zd (zp 3) (zd (cR eL rfl T.UW RZ (zd (zp 4) ze)) ze)))))
   (zo (aJ (jz (zp 2) (fj (λ_=>rfl) (z6.of CS) (dB rfl T.z3 (zd (zp 4) ze)) (λ_ _ _ _ _=>(zD (i:=0) Cn rfl (OL rfl))) (λ_ _ _ _ _=>cn) (λ_ _ _ _ _=>(cR eL rfl T.UW RZ (zd (aC (zp 1) T.mu ZW hr (zd (zp 2) (zd (zp 0) ze))) ze))))))))))
   (zo (zB (zp 2))))))),?_}
 obtain ⟨dx,e1⟩:=hF.ob;have gl:=gm.len;erw [e1,rB,gG,jq];refine {p,b,k,t,ks,rfl,hF,'l',λnl H1 U=>?_};erw [U.at_];have sl:(zt (names t)).length=t.length:=by rw [(aB _).1.length_eq];simp [names]
 rw [Ow,sl];refine {dI 'l','d',λwl H2 S _=>{{_,SqL.of (S.same _ _ U.at_)},?_}};have J:H wl=none:=U.same.free S.no;have O:nl≠wl:=λz=>by have:=S.no;rw [<- z,U.at_] at this;cases this
 refine bg.lst (xs:=(zt (names t)).map V.str) (KG H p nl wl t) {{_,_,rfl},U.same.trans S.same,S.same _ _ U.at_,by rw [S.at_];rfl,J,O,by simp [cb],'l'} (λi σ H' _ I=>SqL.of I.hnl) ?_ ?_
 .rintro i x σ H' hx ⟨⟨t1,t2,rfl⟩,sm,hnl,hwl,J,O,sz,le⟩;rw [OT] at hx;obtain ⟨n,hn,rfl⟩:=O7.mp hx;obtain ⟨l,hl,el,l1,l2,lx⟩:=gm.lk ((aB _).1.mem_iff.mp (Pc hn));have F':=hF.same sm;obtain ⟨Xs,Xr⟩:=F'.ob;erw [Xr,gG,jq];refine {p,b,k,t,ks,n,rfl,F',λH3 s3=>?_};have F3:=F'.same s3;obtain ⟨aT,a3⟩:=F3.ob;have ai:=s3 _ _ hwl;erw [ai];have hi:i<(zt (names t)).length:=(OG.mp hn).1;rw [el];refine {dI 'l','d',λp1 H4 n4 _=>{_,n4.same _ _ ai,_,n4.at_,bB (by simp;lia),{_,zA},'l','l',?_}};have Xi:zj H H4:=(sm.trans s3).trans n4.same;have s5:∀o,zj H (upd H4 wl o):=λo c u ec=>by rw [zg (zH ec J)];exact Xi c u ec
  refine aM.rng (TWc _ p n l) (λj τ ys H6 I=>?_) {{_,rfl},'z',zj.refl _,'l'} ?_ ?_
  .rw [I.ys,Ow,Ow,Qf];exact br (by have:=I.le;lia)
  .intro N j τ ys H6 hj I hN;obtain ⟨tt,rfl⟩:=I.ex;have F6:=hF.same ((s5 _).trans I.same);obtain ⟨a0,ax⟩:=F6.ob;have G:j<l.length:=by lia
   erw [ax,jq];refine {p,b,k,t,ks,n,l,_,rfl,F6,hl,'l','l',λH7 s7=>?_};have ej:(0+(j:Int)).toNat=j:=by lia
   have eg:l.getD j 0=l[j]:=by rw [OM,KE G];rfl
   have hx:=lx l[j] (P0 G);rw [ej,eg];ac_rfl;refine {dI 'l',hN _ _ _ {{_,rfl},?_,I.same.trans s7,'l'}};rw [I.ys,Pi,KE G,Pe,Pe];rfl
  .intro τ ys H6 I D H7 Z;have aI:=Z.same _ _ (I.same _ _ zA);have av:H7 nl=some (.lst ((zt (names t)).map V.str)):=Z.same _ _ (I.same _ _ (by rw [zg O];exact n4.same _ _ (s3 _ _ hnl)));have Dw:D≠wl:=λz=>by have:=Z.no;rw [z,I.same _ _ zA] at this;cases this
   erw [aI,Z.at_];have ly:ys.length<=16:=by rw [I.ys,Ow,Ow,Qf];lia
   refine {bB (by simp;lia),{_,_,rfl},λc u ec=>?_,by rw [zg O];exact av,?_,J,O,?_,'l'}
   .rw [zg (zH ec J)];exact Z.same _ _ (I.same _ _ (s5 _ _ _ ec))
   .rw [zA,tf hn,I.ys,el];have:l.take ((l.length:Nat):Int).toNat=l:=OU 'l';rw [this];simp
   .rw [tf hn,el];simp;lia
 .rintro σ H' ⟨⟨t1,t2,rfl⟩,sm,hnl,hwl,J,O,sz,le⟩;ac_rfl;refine q wl H' sm J ?_;rw [hwl,Ow,OU (OA _)];rfl
theorem xc(m:Nat)(h:0<m):∃c r,(UK 10 m).map Char.toNat=c::r/\49<=c:=by
 induction m using Nat.strongRecOn with
 | _ m J =>
  by_cases h1:m<10
  .rw [Nat.toDigits_of_lt_base h1];refine {_,[],rfl,?_};have:∀d:Nat,d<10->0<d->49<=(Nat.digitChar d).toNat:=by decide
   exact this m h1 h
  .have G:m % 10<10:=Nat.mod_lt m 'd';have t:UK 10 (m / 10)++UK 10 (m % 10)=UK 10 (10*(m / 10)+m % 10):=Nat.toDigits_append_toDigits 'd' 'l' G;rw [Nat.div_add_mod] at t;obtain ⟨c,r,e,F⟩:=J (m / 10) 'l' 'l';rw [<- t,Pe,e];exact {c,_,rfl,F}
structure y8(i:Int):Prop where
 dig:∀c∈sg (toString i:Str),48<=c/\c<=57
 one:1<=(sg (toString i:Str)).length
 most:(sg (toString i:Str)).length<=18
 back:QP (toString i:Str)=some i
 head:(toString i:Str)="0"\/∃c r,sg (toString i:Str)=c::r/\49<=c
theorem g8(S:0<=i)(h1:i<10 ^ 18):y8 i:=by
 obtain ⟨m,rfl⟩:=Int.eq_ofNat_of_zero_le S;have hd:∀c∈sg (toString ((m:Nat):Int):Str),48<=c/\c<=57:=by
  intro c F;rw [jA] at F;obtain ⟨ch,O,e⟩:=Pk.mp F;have r:=Nat.isDigit_of_mem_toDigits 'd' 'd' O;rw [<- e];exact PyProof.Rows.digit_range r
 have G:1<=(sg (toString ((m:Nat):Int):Str)).length:=by
  rcases Ts m with h|h
  .rw [h,jA];decide
  .obtain ⟨c,r,e,_⟩:=xc m h;rw [jA,e];simp
 have hl:(sg (toString ((m:Nat):Int):Str)).length<=18:=by
  have e:(Nat.repr m).length<=18:=(Nat.length_repr_le_iff 'd').mpr 'l';rw [zM];show (Ou (toString ((m:Nat):Int))).length<=18;rw [PySem.ofString_length];exact e
 refine {hd,G,hl,?_,?_}
 .have e:=intText_digits (x:=(toString ((m:Nat):Int):Str)) hd (λz=>by rw [show sg (toString ((m:Nat):Int):Str)=[] from z] at G;cases G) (by rw [<- zM];lia);have J:(toString ((m:Nat):Int):Str).cps.toList=(UK 10 m).map Char.toNat:=jA m;rw [J,PySem.W.KIN.val_back] at e;exact e
 .rcases Ts m with h|h
  .left;rw [h];rfl
  .obtain ⟨c,r,e,F⟩:=xc m h;exact .inr {c,r,by rw [jA,e],F}
theorem LX(h:∀c∈sg z,c∈sg y)(h1:1<=z.length)(h2:(z.length:Int)<=m):bE z y m=true:=by
 unfold bE;rw [decide_eq_true (show (1:Int)<=z.length by lia),decide_eq_true h2];rw [T7,T7,Pg];exact λc F=>Qz.mpr (h c F)
theorem hX{i:Int}(h:0<=i/\i<10 ^ 18):zT (toString i:Str)=true:=by
 have F:=g8 h.1 h.2;unfold zT;rw [O5];constructor
 .refine LX (λc G=>?_) (by rw [<- zM];exact F.one) (by rw [<- zM];have:=F.most;lia);have hf:sg FIG=[48,49,50,51,52,53,54,55,56,57]:=by decide
  rw [hf];have:=F.dig c G;simp;lia
 .rcases F.head with h|⟨c,r,e,G⟩
  .rw [decide_eq_true h];rfl
  .rw [e];have : ¬ tx (take 1 (c::r))=("0":Str):=λx=>by
    have:=congrArg sg x;rw [ao] at this;have J:sg ("0":Str)=[48]:=by decide
    rw [J] at this;injection this with h1 _
    lia
   rw [decide_eq_false this];simp
structure Wd(z:Str):Prop where
 a:asc z=true
 most:z.length<=20
 no:32∉sg z
 n9:59∉sg z
theorem dO{i:Int}(J:0<=i)(h1:i<10 ^ 18):Wd (toString i:Str):=by
 have F:=g8 J h1;refine {?_,by rw [<- zM];have:=F.most;lia,λh=>(by have:=F.dig 32 h;lia),λh=>by have:=F.dig 59 h;lia};rw [d8,Pg];exact λc G=>decide_eq_true (by have:=F.dig c G;lia)
theorem nL(h:aN z=true):Wd z:=by
 unfold aN bE at h;rw [O5,O5,decide_eq_true_eq,decide_eq_true_eq,Pg] at h;have hl:∀c∈sg LET,c<128/\c≠32/\c≠59:=by decide +kernel
 refine {?_,'l',λhz=>(hl 32 (Qz.mp (h.2 32 hz))).2.1 rfl,λhz=>(hl 59 (Qz.mp (h.2 59 hz))).2.2 rfl};rw [d8,Pg];exact λc F=>decide_eq_true (hl c (Qz.mp (h.2 c F))).1
theorem wb{t:Tab}(gm:z7 t):∀{zs:List Str},(∀n∈zs,n∈names t)->(∀z∈cb t zs,Wd z)/\(cb t zs).length<=18*zs.length
 | [],_=>by simp [cb]
 | n::zs,h=>by
  obtain ⟨i1,i2⟩:=wb gm (zs:=zs) λm J=>h m (Oy _ J);obtain ⟨l,hl,G,O,S,F⟩:=gm.lk (h n (OB ..));have e:cb t (n::zs)=(n::(toString ((lk t n).length:Int):Str)::(lk t n).map λx=>(toString x:Str))++cb t zs:=by simp [cb]
  rw [e,G];refine {λz hz=>?_,by simp;lia};rcases OY.mp hz with hz|hz
  .rcases OK.mp hz with rfl|hz
   .exact nL (gm.nm _ (h _ (OB ..)))
   .rcases OK.mp hz with rfl|hz
    .exact dO 'l' 'l'
    .obtain ⟨x,hx,rfl⟩:=Pk.mp hz;exact dO (F x hx).1 (F x hx).2
  .exact i1 z hz
theorem lQ{t:Tab}(gm:z7 t):(∀z∈bW t,Wd z)/\(bW t).length<=289:=by
 have hl:=gm.len;obtain ⟨i1,i2⟩:=wb gm (zs:=zt (names t)) λn F=>(aB _).1.mem_iff.mp F;have sl:(zt (names t)).length=t.length:=by rw [(aB _).1.length_eq];simp [names]
 unfold bW;refine {λz hz=>?_,by simp;lia};rcases OK.mp hz with rfl|hz
 .exact dO 'l' 'l'
 .exact i1 z hz
def kkT(ks:List (Str×Tab))(n:Str):Tab:=(look ks n).getD []
noncomputable def aW(ks:List (Str×Tab))(zs:List Str):List Str:=zs.flatMap λn=>n::bW (kkT ks n)
noncomputable def bc(t:Tab)(ks:List (Str×Tab)):List Str:=bW t++(toString (ks.length:Int):Str)::aW ks (zt (names ks))
noncomputable def dz(t:Tab)(ks:List (Str×Tab)):Str:=Q0 " " (bc t ks)
theorem tG{zs:List Str}(h:zs[i]?=some n):aW ks (zs.take (i+1))=aW ks (zs.take i)++[n]++bW (kkT ks n):=by
 unfold aW;rw [Pi,h];simp
theorem aO.lk(h:aO ks)(F:n∈names ks):∃u,look ks n=some u/\kkT ks n=u/\z7 u:=by
 cases e:look ks n with
 | none=>exact absurd F (c9.mp e)
 | some u=>exact {u,rfl,by unfold kkT;rw [e];rfl,h.gm _ (dR e)}
theorem Aj(gk:aO ks):∀{zs:List Str},(∀n∈zs,n∈names ks)->(∀z∈aW ks zs,Wd z)/\(aW ks zs).length<=290*zs.length
 | [],_=>by simp [aW]
 | n::zs,h=>by
  obtain ⟨i1,i2⟩:=Aj gk (zs:=zs) λm G=>h m (Oy _ G);obtain ⟨u,U,O,F⟩:=gk.lk (h n (OB ..));obtain ⟨J,S⟩:=lQ F;have e:aW ks (n::zs)=(n::bW (kkT ks n))++aW ks zs:=by simp [aW]
  rw [e,O];refine {λz hz=>?_,by simp;lia};rcases OY.mp hz with hz|hz
  .rcases OK.mp hz with rfl|hz
   .exact nL (gk.nm _ (h _ (OB ..)))
   .exact J z hz
  .exact i1 z hz
theorem pY{t:Tab}(gm:z7 t)(gk:aO ks):(∀z∈bc t ks,Wd z)/\(bc t ks).length<=1200:=by
 obtain ⟨F,J⟩:=lQ gm;have O:=gk.len;obtain ⟨i1,i2⟩:=Aj gk (zs:=zt (names ks)) λn G=>(aB _).1.mem_iff.mp G;have sl:(zt (names ks)).length=ks.length:=by rw [(aB _).1.length_eq];simp [names]
 unfold bc;refine {λz hz=>?_,by simp;lia};rcases OY.mp hz with hz|hz
 .exact F z hz
 .rcases OK.mp hz with rfl|hz
  .exact dO 'l' 'l'
  .exact i1 z hz
theorem BR{zs:List Str}(h:∀z∈zs,Wd z)(hl:zs.length<=2000):(zs.map (·.length)).sum+zs.length*(" ":Str).length<=16777216:=by
 have:∀l:List Str,(∀z∈l,Wd z)->(l.map (·.length)).sum<=20*l.length:=by
  intro l
  induction l with
  | nil=>simp
  | cons z l G =>
   intro h;have h1:=(h z (OB ..)).most;have h2:=G λy F=>h y (Oy _ F);rw [PP,List.sum_cons,Pr];lia
 have:=this zs h;rw [show (" ":Str).length=1 by decide];lia
structure Cf(H:Hp)(p nl wl:Addr)(t:Tab)(ks:List (Str×Tab))(i:Nat)(σ:L2.St)(H':Hp):Prop where
 ex:∃t1,σ=[some (V.ref p),some (.ref wl),some (.ref nl),t1]
 same:zj H H'
 hnl:H' nl=some (.lst ((zt (names ks)).map V.str))
 hwl:H' wl=some (.lst ((bW t++(toString (ks.length:Int):Str)::aW ks ((zt (names ks)).take i)).map V.str))
 no:H wl=none
 ne:nl≠wl
 sz:(aW ks ((zt (names ks)).take i)).length<=290*i
 le:i<=3
def tB(A:zi):Sp:=λvs H Q _=>∃(p b k:Addr)(t:Tab)(ks:List (Str×Tab)),vs=[.ref p]/\bK A H p b k t ks/\z7 t/\aO ks/\∀H',zj H H'->Q (.str (dz t ks)) H'
theorem kj:zy [Wi,"words","held","name"] WA (zm pQ):=fsc
theorem MA(F:Fun K "files_text" "files_text" pQ f fd)(T:Txt K mg A)(Zp:GF P w K mg base true 5 VQ WA (xF A))(ZA:GM P w K mg base true 1 A.ot "held" Zg (rn A))(ZM:GM P w K mg base true 4 A.ot "of_held" XH (m3 A)):zq P w K mg base CX0 true 6 f fd WA (tB A):=by
 refine F.o kj λZ1 Ar outer s H vs Q E U h=>?_;obtain ⟨p,b,k,t,ks,rfl,hF,gm,gk,q⟩:=h;refine {_,(W.h (zh (zC (i:=1) kj.nd rfl (OL rfl) (zL Zp U rfl (zd (zp 0) ze)))
   (zh (zC (i:=2) kj.nd rfl (OL rfl) (zY (zp 0) T.mu ZA U))
   (zh (aJ (gh (zp 1) (cR eL rfl T.UW RZ (zd (ar jL rfl T.UQ PZ (zd (zp 2) ze)) ze))))
   (zh (cF Q6.never (λ_=>rfl) (bM (zp 2)) (zD (i:=3) kj.nd rfl (OL rfl))
   (zh (aJ (gh (zp 1) (zp 3)))
   (zo (aJ (jz (zp 1) (zL Zp U rfl (zd (aC (zp 0) T.mu ZM U (zd (zp 3) ze)) ze)))))))
   (zo (zB (yl aL (zp 1))))))))),?_}
 ac_rfl;refine {p,b,k,t,ks,rfl,hF,gm,λwl H1 s1 O ew=>?_};have F1:=hF.same s1;obtain ⟨dx,e1⟩:=F1.ob;have kl:=gk.len;erw [e1,xN];refine {p,b,k,t,ks,rfl,F1,'l',λnl H2 J=>?_};have av:=J.same _ _ ew;erw [av,J.at_];have sl:(zt (names ks)).length=ks.length:=by rw [(aB _).1.length_eq];simp [names]
 have aT:=(lQ gm).2;have G:nl≠wl:=λz=>by have:=J.no;rw [z,ew] at this;cases this
 simp only [Ow,sl];have S:∀H' o,zj H H'->zj H (upd H' wl o):=λH' o h c u ec=>by rw [zg (zH ec O)];exact h c u ec
 refine {dI 'l',br 'l',{_,SqL.of (by rw [zg G];exact J.at_)},bg.lst (xs:=(zt (names ks)).map V.str) (Cf H p nl wl t ks) {{_,rfl},S _ _ (s1.trans J.same),by rw [zg G];exact J.at_,by rw [zA];simp [aW],O,G,by simp [aW],'l'} (λi σ H' _ I=>SqL.of I.hnl) ?_ ?_}
 .rintro i x σ H' hx ⟨⟨t1,rfl⟩,sm,hnl,hwl,O,G,sz,le⟩;rw [OT] at hx;obtain ⟨n,Z,rfl⟩:=O7.mp hx;have hi:i<(zt (names ks)).length:=(OG.mp Z).1;obtain ⟨u,hu,eu,gu⟩:=gk.lk ((aB _).1.mem_iff.mp (Pc Z));have uw:=(lQ gu).2;erw [hwl];refine {br (by simp;lia),{_,zA},?_};have F4:=hF.same (S H' (.lst (List.map V.str (bW t++(toString (ks.length:Int):Str)::aW ks (take i (zt (names ks))))++[V.str n])) sm);obtain ⟨ai,e4⟩:=F4.ob;refine {ai,_,e4,w9,p,b,k,t,ks,n,u,rfl,F4,hu,λx b' k' H5 s5 nb nk nx hB _=>{x,b',k',u,[],rfl,hB.files,gu,λl6 H6 s6 n6 e6=>?_}};have ax:=s6 _ _ (s5 _ _ (zA (H:=H')));have aI:zj H H6:=((S H' _ sm).trans s5).trans s6;erw [ax,e6];refine {bB (by simp;lia),{_,rfl},S _ _ aI,?_,?_,O,G,?_,'l'}
  .rw [zg G];exact s6 _ _ (s5 _ _ (by rw [zg G];exact hnl))
  .rw [zA,tG Z,eu];simp
  .rw [tG Z,eu];simp;lia
 .rintro σ H' ⟨⟨t1,rfl⟩,sm,hnl,hwl,O,G,sz,le⟩;ac_rfl;rw [Ow,OU (OA _)] at hwl;obtain ⟨w1,w2⟩:=pY gm gk;exact {bc t ks,hwl,BR w1 'l',q H' sm}
end
abbrev nV:Stmt:=z8 (top 25) 5
abbrev mB:Stmt:=z8 (top 25) 1
abbrev lg:Stmt:=z8 (top 25) 2
abbrev mf:Stmt:=z8 (top 25) 3
abbrev kE:Stmt:=z8 (top 25) 6
abbrev j7:Stmt:=top 46
def cS(wl:Addr)(i:Int):List (Str×V):=[("words",.ref wl),("taken",.int i)]
structure zS(A:zi)(H:Hp)(p:Addr)(ws:List Str):Prop where
 ex:∃(dx wl:Addr)(pre:List Str),H p=some (.ins A.Words dx (cS wl pre.length))/\H wl=some (.lst ((pre++ws).map V.str))/\(pre++ws).length<=4000/\pre++ws≠[]
 wd:∀z∈ws,asc z=true/\z.length<=100000
theorem zS.same{p:Addr}(h:zS A H p ws)(s:zj H H'):zS A H' p ws:=let ⟨dx,wl,pre,e1,e2,r⟩:=h.ex;{{dx,wl,pre,s _ _ e1,s _ _ e2,r},h.wd}
theorem zS.but{p b:Addr}(h:zS A H p ws)(s:But b H H')(F:∃kvs,H b=some (.dK kvs)):zS A H' p ws:=by
 obtain ⟨dx,wl,pre,J,G,r⟩:=h.ex;obtain ⟨kvs,F⟩:=F;exact {{dx,wl,pre,s _ _ (λz=>by subst z;rw [J] at F;cases F) J,s _ _ (λz=>by subst z;rw [G] at F;cases F) G,r},h.wd}
def zO:List Str->Option (Int×List Str)
 | []=>none
 | z::ws=>if zT z=true then some ((QP z).getD 0,ws) else none
def iZ:List Str->Option (Str×List Str)
 | []=>none
 | z::ws=>if aN z=true then some (z,ws) else none
def cO(y:Str)(ws:List Str):Option (Str×List Str):=match iZ ws with
 | none=>none
 | some (z,r)=>if y.cps.toList<z.cps.toList then some (z,r) else none
theorem y9:∀(l:List Nat)(a:Nat),(∀c∈l,48<=c/\c<=57)->l.foldl (λZ2 c=>Z2*10+(c-48)) a<(a+1)*10 ^ l.length
 | [],a,_=>by simp
 | c::l,a,h=>by
  have:=h c (OB ..);have b:=y9 l (a*10+(c-48)) (λz hz=>h z (Oy _ hz));refine OX b ?_;rw [Pr,Nat.pow_succ,Nat.mul_comm (10 ^ l.length) 10,<- Nat.mul_assoc];exact Nat.mul_le_mul_right _ 'l'
theorem EB(h:zT z=true):z.length<=640/\∃i,QP z=some i/\0<=i/\i<10 ^ 18:=by
 unfold zT bE at h;rw [O5,O5,O5,decide_eq_true_eq,decide_eq_true_eq] at h;obtain ⟨⟨⟨h1,h2⟩,h3⟩,_⟩:=h;have hl:z.length<=18:=by lia
 have hd:∀c∈sg z,48<=c/\c<=57:=by
  intro c F;have:=Pg.mp h3 c F;have hf:sg FIG=[48,49,50,51,52,53,54,55,56,57]:=by decide
  rw [hf] at this;have:=Qz.mp this;simp only [OK,PD,or_false] at this;omega
 have e:=intText_digits (x:=z) hd (λe=>by have:z.length=0:=(by rw [<- zM];rw [show sg z=[] from e];rfl);lia) 'l';refine {'l',_,e,'l',?_};have b:=y9 _ 0 hd;have hz:(sg z).length<=18:=by rw [zM];exact hl
 have:=OX b (Nat.mul_le_mul_left _ (Nat.pow_le_pow_right 'd' hz))
 exact_mod_cast this
section
variable {P:OE}{w:OW}{K:Frag}{mg:Str->Option Value}{base:Heap}{A:zi}{wl:Addr}{i:Int}
theorem v8:(cS wl i).lookup ("words":Str)=some (.ref wl):=by kernel_rfl
theorem pB:(cS wl i).lookup ("taken":Str)=some (.int i):=by kernel_rfl
theorem pP:(cS wl i).lookup (V6:Str)=none:=by kernel_rfl
theorem dU:(cS wl i).lookup (Wc:Str)=none:=by kernel_rfl
theorem Oj:(cS wl i).lookup ("take_name":Str)=none:=by kernel_rfl
theorem xX:(cS wl i).lookup (VS:Str)=none:=by kernel_rfl
theorem KL:(cS wl i).lookup ("take_end":Str)=none:=by kernel_rfl
def oA(A:zi):Sp:=λvs H Q _=>∃(p:Addr)(ws:List Str),vs=[.ref p]/\zS A H p ws/\Q (.bl (decide (ws=[]))) H
theorem HE:zy Zg Zg (zm nV):=fsc
theorem Oa(F:Fun K VS "Words.is_at_end" nV f fd)(T:Txt K mg A):zq P w K mg base CX0 true 1 f fd Zg (oA A):=by
 refine F.o HE λZ Ar outer s H vs Q E O h=>?_;obtain ⟨p,ws,rfl,U,q⟩:=h;have S:_<cLine:=Qt (bo O);refine {_,(W.h (zo (zB (jh (oE (dH S)) (fD (ae T.nT T.z4 (clE (zb 0)))) (ar fK rfl T.UQ PZ (zd (fD (ae T.nT T.M5 (clE (zb 0)))) ze)) (aH _))))),?_};obtain ⟨dx,wl,pre,J,G,r⟩:=U.ex;erw [J,G,v8,pB];have e:decide ((pre.length:Int)=((List.map V.str (pre++ws)).length:Nat))=decide (ws=[]):=by
  rw [Ow,Pb];cases ws with
  | nil=>simp
  | cons z ws=>simp;lia
 rw [e];exact q
def mj(A:zi):Sp:=λvs H Q E=>∃(p:Addr)(ws:List Str),vs=[.ref p]/\zS A H p ws/\(∀z r,ws=z::r->∀H',But p H H'->zS A H' p r->Q (.str z) H')/\(ws=[]->E (.ref A.NoPart) none H)
theorem Fw:zy Zg Zg (zm mB):=fsc
theorem Kv(F:Fun K V6 "Words.take_word" mB f fd)(T:Txt K mg A)(ZT:GM P w K mg base true 1 A.Words VS Zg (oA A)):zq P w K mg base (CXW P w) true 2 f fd Zg (mj A):=by
 refine F.oW Fw λZ Ar outer s H vs Q E hr h=>?_;obtain ⟨p,ws,rfl,O,q,qe⟩:=h;have Th:=dw (cm:=true) (P:=P) (w:=w) (K:=K) (mg:=mg) (base:=base) (N:=Zg) (qual:="Words.take_word") (scope:=zm mB) (f:=f) (cd:=Z) (A:=Ar) (outer:=outer) (s:=s) (H:=H) (E:=E);refine {_,(W.h (zh (af (dk (m0D (zY (clE (zb 0)) T.nT ZT hr)))
   (zo (dS rfl Th T.sU rfl T.xy (zd aL ze)))
   aa)
   (zh (rP T.nT T.z4 (zb 0) zu yp)
   (zo (zB (aR bS (fD (ae T.nT T.M5 (clE (zb 0)))) (zI (oI0 iH) (fD (ae T.nT T.z4 (clE (zb 0)))) zu) (λ_ _=>rfl))))))),?_}
 obtain ⟨dx,wl,pre,J,G,r⟩:=O.ex;erw [J,xX];refine {p,ws,rfl,O,?_};have S:wl≠p:=λy=>by rw [y,J] at G;cases G
 cases ws with
 | nil =>
  erw [decide_true];exact {'d',qe rfl}
 | cons z ws =>
  erw [J,pB,List.cons_ne_nil,decide_false];have eF:zN ("taken":Str) (V.int ((pre.length:Int)+1)) (cS wl pre.length)=cS wl ((pre.length:Int)+1):=by kernel_rfl
  try rw [eF]
  refine {by show 2<1000;decide,dx,_,zA,_,v8,dx,_,zA,_,pB,?_};ac_rfl;have U:(pre.length:Int)+1-1=((pre.length:Nat):Int):=by lia
  refine {_,.inl (by rw [zg S];exact G),.str z,by rw [U];exact gq 'z',q z ws rfl _ But.upd {{dx,wl,pre++[z],?_,?_,?_},λy hy=>O.wd y (Oy _ hy)}}
  .rw [zA];simp
  .rw [zg S,G];simp
  .simpa using r
def jI(A:zi):Sp:=λvs H Q E=>∃(p:Addr)(ws:List Str),vs=[.ref p]/\zS A H p ws/\(∀i r,zO ws=some (i,r)->0<=i->i<10 ^ 18->∀H',But p H H'->zS A H' p r->Q (.int i) H')/\(zO ws=none->∀H',But p H H'->E (.ref A.NoPart) none H')
theorem AD:zy Wp Zg (zm lg):=fsc
theorem LD(F:Fun K Wc VY lg f fd)(T:Txt K mg A)(Z3:GMX P w K mg base true 2 A.Words V6 Zg (mj A))(Zs:GF P w K mg base true 2 V4 WQ (lF zT)):zq P w K mg base (CXW P w) true 3 f fd Zg (jI A):=by
 refine F.oW AD λZ1 Ar outer s H vs Q E hr h=>?_;obtain ⟨p,ws,rfl,S,q,qe⟩:=h;have Th:=dw (cm:=true) (P:=P) (w:=w) (K:=K) (mg:=mg) (base:=base) (N:=Wp) (qual:=VY) (scope:=zm lg) (f:=f) (cd:=Z1) (A:=Ar) (outer:=outer) (s:=s) (H:=H) (E:=E);refine {_,(W.h (zh (zC (i:=1) AD.nd rfl (OL rfl) (cG (cx (clE (zb 0)) T.nT Th Z3 hr)))
   (zh (af (d6 (dk (caD (zL Zs hr rfl (clP (zd (zb 1) ze))))))
   (zo (dS rfl Th T.sU rfl T.xy (zd aL ze)))
   aa)
   (zo (zB (cR Mj rfl T.bV boot_int (zd (zb 1) ze))))))),?_}
 obtain ⟨dx,wl,pre,e1,e2,hl⟩:=S.ex;erw [e1,pP];refine {p,ws,rfl,S,λz r G H1 U J=>?_,λG=>?_}
 .subst G;have wd:=S.wd z (OB ..);ac_rfl;refine {z,rfl,wd.1,wd.2,λH2 s2=>?_};ac_rfl;by_cases hz:zT z=true
  .obtain ⟨O,i,Z,i0,i1⟩:=EB hz;rw [hz];ac_rfl;exact {O,i,Z,q i r ((if_pos hz).trans (by rw [Z];rfl)) i0 i1 H2 (U.trans (But.of s2)) (J.same s2)}
  .rw [QL.mpr hz];ac_rfl;exact {'d',qe (if_neg hz) H2 (U.trans (But.of s2))}
 .subst G;ac_rfl;exact {_,rfl,qe rfl H (But.of (zj.refl _))}
def sM(A:zi):Sp:=λvs H Q E=>∃(p:Addr)(ws:List Str),vs=[.ref p]/\zS A H p ws/\(∀z r,iZ ws=some (z,r)->∀H',But p H H'->zS A H' p r->Q (.str z) H')/\(iZ ws=none->∀H',But p H H'->E (.ref A.NoPart) none H')
theorem wM:zy Wp Zg (zm mf):=fsc
theorem MN(F:Fun K "take_name" "Words.take_name" mf f fd)(T:Txt K mg A)(Z3:GMX P w K mg base true 2 A.Words V6 Zg (mj A))(YB:GF P w K mg base true 2 "is_name" WQ (lF aN)):zq P w K mg base (CXW P w) true 3 f fd Zg (sM A):=by
 refine F.oW wM λZ1 Ar outer s H vs Q E U h=>?_;obtain ⟨p,ws,rfl,O,q,Z⟩:=h;have Th:=dw (cm:=true) (P:=P) (w:=w) (K:=K) (mg:=mg) (base:=base) (N:=Wp) (qual:="Words.take_name") (scope:=zm mf) (f:=f) (cd:=Z1) (A:=Ar) (outer:=outer) (s:=s) (H:=H) (E:=E);refine {_,(W.h (zh (zC (i:=1) wM.nd rfl (OL rfl) (cG (cx (clE (zb 0)) T.nT Th Z3 U)))
   (zh (af (d6 (dk (caD (zL YB U rfl (clP (zd (zb 1) ze))))))
   (zo (dS rfl Th T.sU rfl T.xy (zd aL ze)))
   aa)
   (zo (zB (zb 1)))))),?_}
 obtain ⟨dx,wl,pre,e1,e2,hl⟩:=O.ex;erw [e1,pP];refine {p,ws,rfl,O,λz r G H1 S J=>?_,λG=>?_}
 .subst G;have wd:=O.wd z (OB ..);ac_rfl;refine {z,rfl,wd.1,wd.2,λH2 s2=>?_};ac_rfl;by_cases hz:aN z=true
  .rw [hz];ac_rfl;exact q z r (if_pos hz) H2 (S.trans (But.of s2)) (J.same s2)
  .rw [QL.mpr hz];ac_rfl;exact {'d',Z (if_neg hz) H2 (S.trans (But.of s2))}
 .subst G;ac_rfl;exact {_,rfl,Z rfl H (But.of (zj.refl _))}
def sD(A:zi):Sp:=λvs H Q E=>∃(p:Addr)(ws:List Str),vs=[.ref p]/\zS A H p ws/\(ws=[]->Q .non H)/\(ws≠[]->E (.ref A.NoPart) none H)
theorem EY:zy Zg Zg (zm kE):=fsc
theorem BZ(F:Fun K "take_end" "Words.take_end" kE f fd)(T:Txt K mg A)(Z:GM P w K mg base true 1 A.Words VS Zg (oA A)):zq P w K mg base (CXW P w) true 2 f fd Zg (sD A):=by
 refine F.oW EY λO Ar outer s H vs Q E U h=>?_;obtain ⟨p,ws,rfl,G,q,S⟩:=h;have Th:=dw (cm:=true) (P:=P) (w:=w) (K:=K) (mg:=mg) (base:=base) (N:=Zg) (qual:="Words.take_end") (scope:=zm kE) (f:=f) (cd:=O) (A:=Ar) (outer:=outer) (s:=s) (H:=H) (E:=E);refine {_,(W.h (zo (af (d6 (dk (m0D (zY (clE (zb 0)) T.nT Z U))))
   (zo (dS rfl Th T.sU rfl T.xy (zd aL ze)))
   aa))),?_}
 obtain ⟨dx,wl,pre,J,e2,r⟩:=G.ex;erw [J,xX];refine {p,ws,rfl,G,?_};by_cases hz:ws=[]
 .rw [decide_eq_true hz];ac_rfl;exact q hz
 .rw [decide_eq_false hz];ac_rfl;exact {'d',S hz}
def rf(A:zi):Sp:=λvs H Q E=>∃(p:Addr)(y:Str)(ws:List Str),vs=[.ref p,.str y]/\zS A H p ws/\(∀z r,cO y ws=some (z,r)->∀H',But p H H'->zS A H' p r->Q (.str z) H')/\(cO y ws=none->∀H',But p H H'->E (.ref A.NoPart) none H')
theorem AF:zy ["words","name","later"] Wt (zm j7):=fsc
theorem Hb(F:Fun K We We j7 f fd)(T:Txt K mg A)(Zv:GMX P w K mg base true 3 A.Words "take_name" Zg (sM A)):zq P w K mg base (CXW P w) true 4 f fd Wt (rf A):=by
 refine F.oW AF λZ1 Ar outer s H vs Q E hr h=>?_;obtain ⟨p,y,ws,rfl,U,q,S⟩:=h;have Z:=dw (cm:=true) (P:=P) (w:=w) (K:=K) (mg:=mg) (base:=base) (N:=["words","name","later"]) (qual:=We) (scope:=zm j7) (f:=f) (cd:=Z1) (A:=Ar) (outer:=outer) (s:=s) (H:=H) (E:=E);refine {_,(W.h (zh (zC (i:=2) AF.nd rfl (OL rfl) (cG (cx (clE (zb 0)) T.nT Z Zv hr)))
   (zh (af (tD (aF (clO Kj) (clE (zb 2)) (clE (zb 1)) (aH _)))
   (zo (dS rfl Z T.sU rfl T.xy (zd aL ze)))
   aa)
   (zo (zB (zb 2)))))),?_}
 obtain ⟨dx,wl,pre,e1,e2,hl⟩:=U.ex;erw [e1,Oj];refine {p,ws,rfl,U,λz r J H1 G O=>?_,λJ H1 G=>?_}
 .ac_rfl;by_cases lt:y.cps.toList<z.cps.toList
  .rw [decide_eq_true lt];ac_rfl;exact q z r (by unfold cO;rw [J];exact if_pos lt) H1 G O
  .rw [decide_eq_false lt];ac_rfl;exact {'d',S (by unfold cO;rw [J];exact if_neg lt) H1 G}
 .ac_rfl;exact {_,rfl,S (by unfold cO;rw [J]) H1 G}
end
abbrev rm:Stmt:=z8 (top 25) 0
theorem lO:∀{l:List Nat}{v:List Nat},v∈aj c l->v.length<=l.length/\∀x∈v,x∈l
 | [],v,h=>by
  have:=OS.mp h;subst this;exact {OA _,λ_ h=>h}
 | y::l,v,h=>by
  by_cases e:y=c
  .have es:aj c (y::l)=[]::aj c l:=if_pos e;rw [es] at h;rcases OK.mp h with rfl|h
   .exact {Pz _,λ_ h=>nomatch h}
   .have:=lO h;exact {Rx this.1,λx hx=>Oy _ (this.2 x hx)}
  .rw [fk c y l e] at h;obtain ⟨a,r,F⟩:=dN c l;rw [F] at h;rcases OK.mp h with rfl|h
   .have:=lO (v:=a) (by rw [F];exact OB ..);exact {SC this.1,λx hx=>(OK.mp hx).elim (λz=>z ▸ OB ..) λz=>Oy _ (this.2 x z)}
   .have:=lO (v:=v) (by rw [F];exact Oy _ h);exact {Rx this.1,λx hx=>Oy _ (this.2 x hx)}
def wds(z:Str):List Str:=Qx z " "
theorem de(z:Str):wds z=(aj 32 (sg z)).map tx:=(congrArg (Qx z) (show (" ":Str)=c1 32 from by decide)).trans (lS z 'd')
theorem xY(h:v∈wds z):v.length<=z.length/\∀x∈sg v,x∈sg z:=by
 rw [de] at h;obtain ⟨l,hl,rfl⟩:=Pk.mp h;have:=lO hl;rw [<- zM,<- zM,ao];exact this
theorem Jw(z:Str):wds z≠[]:=by
 rw [de];obtain ⟨a,r,e⟩:=dN 32 (sg z);rw [e];simp
section
variable {P:OE}{w:OW}{K:Frag}{mg:Str->Option Value}{base:Heap}{A:zi}
def ve(A:zi):Sp:=λvs H Q _=>∃(p dx:Addr)(z:Str),vs=[.ref p,.str z]/\H p=some (.ins A.Words dx [])/\asc z=true/\z.length<=100000/\(wds z).length<=4000/\∀H',But p H H'->zS A H' p (wds z)->Q .non H'
theorem CV:zy WK WK (zm rm):=fsc
theorem CD(F:Fun K Wm "Words.__init__" rm f fd)(T:Txt K mg A):zq P w K mg base CX0 true 1 f fd WK (ve A):=by
 refine F.o CV λZ Ar outer s H vs Q E hr h=>?_;obtain ⟨p,dx,z,rfl,O,S,hz,hl,q⟩:=h;refine {_,(W.h (zh (sfD (cg T.nT T.M5 (clE (zb 0)) (clE (Mm (zb 1) aL))))
   (zo (sfD (cg T.nT T.z4 (clE (zb 0)) (clE zu)))))),?_}
 ac_rfl;refine {'d',br 'l',bB (by show (wds z).length<=_;lia),λl H2 G=>{dx,[],G.same _ _ O,'d',dx,_,zA,by show 1<1000;decide,?_}};have U:zN ("taken":Str) (V.int 0) (zN ("words":Str) (V.ref l) [])=cS l 0:=by kernel_rfl
 rw [U];have J:l≠p:=λz=>by have:=G.no;rw [z,O] at this;cases this
 exact q _ (λa o n e=>by rw [zg n,zg n];exact G.same _ _ e) {{dx,l,[],by rw [zA];rfl,by rw [zg J,zg J];exact G.at_,hl,Jw z},λv hv=>{oF S (xY hv).2,Pj (xY hv).1 hz}}
abbrev kS:Stmt:=top 45
def bI:Nat->List Int->List Str->Option (List Int×List Str)
 | 0,l,ws=>some (l,ws)
 | n+1,l,ws=>(zO ws).bind λa=>bI n (l++[a.1]) a.2
def aZ:Nat->Tab->Str->List Str->Option (Tab×List Str)
 | 0,t,_,ws=>some (t,ws)
 | n+1,t,y,ws=>(cO y ws).bind λa=>(zO a.2).bind λb=>if b.1=0 then none else (bI b.1.toNat [] b.2).bind λc=>aZ n (zF t a.1 c.1) a.1 c.2
def rdT(ws:List Str):Option (Tab×List Str):=(zO ws).bind λa=>aZ a.1.toNat [] "" a.2
theorem bJ{ws r:List Str}(h:zO ws=some (i,r)):ws.length=r.length+1:=by
 cases ws with
 | nil=>cases h
 | cons z ws =>
  have h:(if zT z=true then some ((QP z).getD 0,ws) else none)=some (i,r):=h;split at h
  .injection h with h;injection h with _ h;rw [h];rfl
  .cases h
theorem ma{ws r:List Str}(h:cO y ws=some (z,r)):ws.length=r.length+1/\y.cps.toList<z.cps.toList:=by
 unfold cO at h;cases ws with
 | nil=>cases h
 | cons v ws =>
  have e:iZ (v::ws)=if aN v=true then some (v,ws) else none:=rfl;rw [e] at h;split at h
  .cases h
  .rename_i a b c;split at h
   .injection h with h;injection h with h1 h2
    split at c
    .injection c with c;injection c with c1 c2
     subst h1 h2;exact {by rw [<- c2];rfl,by assumption}
    .cases c
   .cases h
theorem CO{α:Type}{t:List (Str×α)}{a b:α}:zF (zF t n a) n b=zF t n b:=by
 have hs:(look (zF t n a) n).isSome=true:=by rw [iu,if_pos rfl];rfl
 have e:zF (zF t n a) n b=(zF t n a).map λp=>if p.1=n then (p.1,b) else p:=if_pos hs;rw [e];by_cases h:(look t n).isSome
 .have J:zF t n a=t.map λp=>if p.1=n then (p.1,a) else p:=if_pos h;have G:zF t n b=t.map λp=>if p.1=n then (p.1,b) else p:=if_pos h;rw [J,G,Qp];refine PV λp _=>?_;show (if (if p.1=n then (p.1,a) else p).1=n then ((if p.1=n then (p.1,a) else p).1,b) else (if p.1=n then (p.1,a) else p))=_;by_cases F:p.1=n
  .simp only [if_pos F]
  .simp only [if_neg F]
 .have J:zF t n a=t++[(n,a)]:=if_neg h;have G:zF t n b=t++[(n,b)]:=if_neg h;rw [J,G,Pe];have O:(t.map λp=>if p.1=n then (p.1,b) else p)=t:=by
   refine (PV λp F=>?_).trans (SU t);have:p.1≠n:=λz=>by
    have:=c9.mp (Option.not_isSome_iff_eq_none.mp h);exact this (by rw [<- z];exact Pk.mpr {p,F,rfl})
   exact if_neg this
  rw [O];exact congrArg (t++·) (by show [if n=n then (n,b) else (n,a)]=_;rw [if_pos rfl])
theorem GL{b k wl:Addr}:zQ b k≠cS wl i:=by
 intro h;have h1:(zQ b k).map (·.1)=(cS wl i).map (·.1):=by rw [h]
 have h2:("births":Str)=("words":Str):=by injection h1
 exact absurd h2 'd'
theorem But.fresh{p b:Addr}(x:But p H H1)(y:But b H1 H2)(n:H b=none):But p H H2:=λa o F e=>y a o (λz=>by rw [<- z,e] at n;cases n) (x a o F e)
def eS{α:Type}(u:List (Str×α))(y:Str):Prop:=∀m∈names u,¬ y.cps.toList<m.cps.toList
theorem eS.new{α:Type}{u:List (Str×α)}(h:eS u y)(l:y.cps.toList<n.cps.toList):look u n=none:=c9.mpr λz=>h n z l
theorem eS.put{α:Type}{u:List (Str×α)}{a:α}(h:eS u y)(l:y.cps.toList<n.cps.toList):eS (zF u n a) n:=λm F z=>by
 rw [sv,h.new l] at F;rcases OY.mp F with F|F
 .exact h m F (List.lt_trans l z)
 .rw [OS.mp F] at z;exact List.lt_irrefl _ z
theorem zS.ne{p q b k dx:Addr}(h:zS A H p ws)(e:H q=some (.ins A.ot dx (zQ b k))):q≠p:=λz=>by
 obtain ⟨G,wl,pre,F,_⟩:=h.ex;rw [z,F] at e;injection e with e
 injection e with _ _ e
 exact GL e.symm
theorem zS.cV{p q:Addr}(h:zS A H p ws)(e:H q=some (.dK kvs)):q≠p:=λz=>by
 obtain ⟨G,wl,pre,F,_⟩:=h.ex;rw [z,F] at e;cases e
theorem zS.nf{p q:Addr}{o:Obj}(h:zS A H p ws)(e:H q=some (.frz o (.dK kvs))):q≠p:=λz=>by
 obtain ⟨G,wl,pre,F,_⟩:=h.ex;rw [z,F] at e;cases e
theorem zS.nt{p:Addr}(h:zS A H p ws)(xs:List V):H p≠some (.tup xs):=λz=>by
 obtain ⟨G,wl,pre,F,_⟩:=h.ex;rw [F] at z;cases z
theorem aQ.Vg{p q b k:Addr}{t:Tab}(h:aQ A H q b k t)(s:But p H H')(F:zS A H p ws):aQ A H' q b k t:=by
 obtain ⟨dx,e⟩:=h.ob;have hd:∀a kvs,Rd H a (.dK kvs)->Rd H' a (.dK kvs):=λa kvs r=>r.elim (λe=>.inl (s _ _ (F.cV e) e)) (λ⟨o,e⟩=>.inr {o,s _ _ (F.nf e) e});obtain ⟨kvs,G,d⟩:=h.ny.ex;exact {{dx,s _ _ (F.ne e) e},{{kvs,hd _ _ G,d.imp λv a r=>r.but s F.nt},h.ny.nd},hd _ _ h.kept}
theorem zJ.Vg{p q b k:Addr}{t:Tab}(h:zJ A H q b k t ks)(s:But p H H')(F:zS A H p ws):zJ A H' q b k t ks:=by
 obtain ⟨dx,e⟩:=h.ob;obtain ⟨kvs,G,d⟩:=h.ny.ex;obtain ⟨kk,J,O⟩:=h.kept;exact {{dx,s _ _ (F.ne e) e},{{kvs,s _ _ (F.cV G) G,d.imp λv a r=>r.but s F.nt},h.ny.nd},{kk,s _ _ (F.cV J) J,O.imp λv a ⟨q,U,k',S,r,n⟩=>{q,U,k',S,r.Vg s F,n}},h.bc,h.ne}
structure Nr(A:zi)(H:Hp)(p q b k:Addr)(N:Nat)(R:Option (Tab×List Str))(m:Nat)(i:Nat)(σ:L2.St)(H':Hp):Prop where
 ex:∃y ws u t1 t2 t3,σ=[some (V.ref p),some (.ref q),some (.str y),t1,t2,t3]/\zS A H' p ws/\zJ A H' q b k u []/\aZ (N-i) u y ws=R/\u.length+ws.length<=m/\eS u y
 but:But p H H'
structure IG(A:zi)(H:Hp)(p q b k:Addr)(M:Int)(n:Str)(u:Tab)(R:Option (List Int×List Str))(m:Nat)(j:Nat)(σ:L2.St)(H':Hp):Prop where
 ex:∃l ws u' t1 t3,σ=[some (V.ref p),some (.ref q),some (.str n),t1,some (.int M),t3]/\zS A H' p ws/\zJ A H' q b k u' []/\bI (M.toNat-j) l ws=R/\l.length=j/\j+ws.length<=m/\lk u' n=l/\(∀l',zF u' n l'=zF u n l')/\(0<j->u'=zF u n l)/\u'.length<=u.length+1
 but:But p H H'
def uE(A:zi):Sp:=λvs H Q E=>∃(p:Addr)(ws:List Str),vs=[.ref p]/\zS A H p ws/\ws.length<=3003/\(∀u r,rdT ws=some (u,r)->∀q b k H',But p H H'->H q=none->H b=none->H k=none->zJ A H' q b k u []->zS A H' p r->Q (.ref q) H')/\(rdT ws=none->∀H',But p H H'->E (.ref A.NoPart) none H')
theorem gy:zy Wy WJ (zm kS):=fsc
theorem Nt(F:Fun K V0 V0 kS f fd)(T:Txt K mg A)(Zm:GC P w K mg base true 1 "Files" A.ot Zg (j4 A))(Z9:GMX P w K mg base true 3 A.Words Wc Zg (jI A))(ZS:GX P w K mg base true 4 We Wt (rf A))(ZF:GM P w K mg base true 4 A.ot "put" WN (mW A)):zq P w K mg base (CXW P w) true 5 f fd WJ (uE A):=by
 refine F.oW gy λZ1 Ar outer s H vs Q E hr h=>?_;obtain ⟨p,ws,rfl,hW,hl,q,qe⟩:=h;have hu:_<cLine:=Qt (bo hr);have Th:=dw (cm:=true) (P:=P) (w:=w) (K:=K) (mg:=mg) (base:=base) (N:=Wy) (qual:=V0) (scope:=zm kS) (f:=f) (cd:=Z1) (A:=Ar) (outer:=outer) (s:=s) (H:=H) (E:=E);refine {_,(W.h (zh (zC (i:=1) gy.nd rfl (OL rfl) (qu Zm hr rfl))
   (zh (zC (i:=2) gy.nd rfl (OL rfl) aL)
   (zh (mI Th (cF (jY rfl (λok=>ok.frames) rfl) (λ_=>rfl) (dB rfl T.z3 (zd (cG (cx (clE (zb 0)) T.nT cW Z9 hr)) ze)) (zD (i:=3) gy.nd rfl (OL rfl))
   (zh (zC (i:=2) gy.nd rfl (OL rfl) (cXD (dP cW ZS hr rfl (clP (zd (zb 0) (zd (zb 2) ze))))))
   (zh (zC (i:=4) gy.nd rfl (OL rfl) (cG (cx (clE (zb 0)) T.nT cW Z9 hr)))
   (zh (af (tD (aF (clO (oE (dH hu))) (clE (zb 4)) (clE zu) (aH _)))
   (zo (dS rfl cW T.sU rfl T.xy (zd aL ze)))
   aa)
   (zo (mI cW (cF (jY rfl (λok=>ok.frames) rfl) (λ_=>rfl) (dB rfl T.z3 (zd (zb 4) ze)) (zD (i:=5) gy.nd rfl (OL rfl))
   (zo (aJ (mD (aC (clE (zb 1)) T.mu ZF hr (clP (zd (zb 2) (zd (zb 5) (zd (cG (cx (clE (zb 0)) T.nT cW Z9 hr)) ze))))))))))))))))
   (zo (zB (zb 1))))))),?_}
 ac_rfl;refine λx Xx H2 nI=>{x,Xx,rfl,nI.at_,λb1 k1 H3 s3 nb nk eb ek a3 ex=>{rfl,?_}};have px:∀c o,H c=some o->c≠x:=λc o e z=>by have:=nI.no;rw [<- z,e] at this;cases this
 have WX:zj H H3:=λc o e=>s3 c o (px c o e) (nI.same c o e);have b0:H b1=none:=nI.same.free nb;have k0:H k1=none:=nI.same.free nk;have F3:zJ A H3 x b1 k1 [] []:={⟨Xx,ex⟩,{{[],eb,.nil},by simp [names]},{[],ek,.nil},by simp [names],a3};have W3:=hW.same WX;obtain ⟨dx,wl,pre,e1,e2,r⟩:=W3.ex;erw [e1,dU];refine {p,ws,rfl,W3,λN r1 eN N0 N1 H4 b4 a7=>?_,λeN H4 b4=>?_}
 rotate_left
 .ac_rfl;exact {_,rfl,qe (by unfold rdT;rw [eN];rfl) H4 ((But.of WX).trans b4)}
 have F4:=F3.Vg b4 W3;have eT:rdT ws=aZ N.toNat [] "" r1:=by unfold rdT;rw [eN];rfl
 rw [eT] at qe;have l1:=bJ eN;ac_rfl;have a5:But p H H4:=(But.of WX).trans b4;refine {'l','l',bg.rng (Nr A H p x b1 k1 N.toNat (aZ N.toNat [] "" r1) 3002) {{_,r1,[],_,_,_,rfl,a7,F4,rfl,by simp;lia,λm hm=>nomatch hm},a5} ?_ ?_}
 .rintro i σ H' hi ⟨⟨y,WW,u,t1,t2,t3,rfl,J,U,hR,hm,hy⟩,bt⟩;obtain ⟨c,hc⟩:∃c,N.toNat-i=c+1:={N.toNat-i-1,'l'};rw [hc] at hR;ac_rfl;refine {p,y,WW,rfl,J,λn r2 e5 H5 b5 ai=>?_,λe5 H5 b5=>?_}
  rotate_left
  .ac_rfl;exact {_,rfl,qe (by rw [<- hR];unfold aZ;rw [e5];rfl) H5 (bt.trans b5)}
  have F5:=U.Vg b5 J;obtain ⟨l5,av⟩:=ma e5;obtain ⟨bP,bx,bq,bf,_⟩:=ai.ex;erw [bf,dU];refine {p,r2,rfl,ai,λM r3 e6 M0 M1 H6 b6 a8=>?_,λe6 H6 b6=>?_}
  rotate_left
  .ac_rfl;exact {_,rfl,qe (by rw [<- hR];unfold aZ;rw [e5];show (zO r2).bind _=_;rw [e6];rfl) H6 ((bt.trans b5).trans b6)}
  have F6:=F5.Vg b6 ai;have l6:=bJ e6;have G:(if M=0 then none else (bI M.toNat [] r3).bind λc'=>aZ c (zF u n c'.1) n c'.2)=aZ N.toNat [] "" r1:=by
   rw [<- hR];conv=>rhs;unfold aZ
   rw [e5];show _=(zO r2).bind _;rw [e6];rfl
  by_cases hM:M=0
  .subst hM;rw [if_pos rfl] at G;erw [decide_true];exact {'d',qe G.symm H6 ((bt.trans b5).trans b6)}
  rw [if_neg hM] at G;erw [decide_eq_false hM];have nu:look u n=none:=hy.new av;refine {'l','l',bg.rng (IG A H p x b1 k1 M n u (bI M.toNat [] r3) r3.length) {{[],r3,u,_,_,rfl,a8,F6,rfl,rfl,'l',by unfold lk;rw [nu];rfl,λ_=>rfl,λz=>absurd z 'l','l'},(bt.trans b5).trans b6} ?_ ?_}
  .rintro j σ H' hj ⟨⟨l,Z,u',t1,t3,rfl,J,U,hN,aI,ba,O,S,ax,a0⟩,bt⟩;obtain ⟨bL,aT⟩:=U.ob;obtain ⟨b2,b7,bp,a9,_⟩:=J.ex;obtain ⟨d,hd⟩:∃d,M.toNat-j=d+1:={M.toNat-j-1,'l'};rw [hd] at hN;erw [aT,a9,rA,dU];refine {p,Z,rfl,J,λv r5 e8 v0 v1 H8 b8 a6=>?_,λe8 H8 b8=>?_}
   rotate_left
   .ac_rfl;exact {_,rfl,qe (by rw [<- G,<- hN];unfold bI;rw [e8];rfl) H8 (bt.trans b8)}
   have F8:=U.Vg b8 J;have l8:=bJ e8;have ej:(0+(j:Int)).toNat=j:=by lia
   ac_rfl;refine {x,b1,k1,u',[],n,_,v,rfl,F8,'l',?_,?_,?_,λH9 b9 F9=>?_}
   .rw [O];lia
   .rw [O];lia
   .lia
   .rw [ej,O,Ru 'l',OU 'l',PY] at F9;obtain ⟨b3,a4,_⟩:=F8.ny.ex;refine {{l++[v],r5,_,_,_,rfl,a6.but b9 {_,a4},F9,?_,by simp [aI],'l',?_,λl'=>?_,λ_=>?_,?_},(bt.trans b8).fresh b9 b0}
    .rw [<- hN];conv=>rhs;unfold bI
     rw [e8,show M.toNat-(j+1)=d from by lia];rfl
    .unfold lk;rw [iu,if_pos rfl];rfl
    .rw [CO,S]
    .exact S _
    .rw [S];exact iX
  .rintro σ H' ⟨⟨l,Z,u',t1,t3,rfl,J,U,hN,aI,ba,O,S,ax,a0⟩,bt⟩;have h3:=ax 'l';subst h3;rw [Ua] at hN;rw [<- hN] at G;refine {{n,Z,_,_,_,_,rfl,J,U,?_,?_,hy.put av},bt}
   .rw [show N.toNat-(i+1)=c from by lia];exact G
   .have:=iX (t:=u) (n:=n) (a:=l);lia
 .rintro σ H' ⟨⟨y,WW,u,t1,t2,t3,rfl,J,U,hR,hm,hy⟩,bt⟩;rw [Ua] at hR;ac_rfl;exact q u WW (eT.trans hR.symm) x b1 k1 H' bt nI.no b0 k0 U J
abbrev kH:Stmt:=top 44
def rdK:Nat->List (Str×Tab)->Str->List Str->Option (List (Str×Tab)×List Str)
 | 0,ks,_,ws=>some (ks,ws)
 | n+1,ks,y,ws=>(cO y ws).bind λa=>(rdT a.2).bind λc=>rdK n (zF ks a.1 c.1) a.1 c.2
def rdF(ws:List Str):Option ((Tab×List (Str×Tab))×List Str):=(rdT ws).bind λa=>(zO a.2).bind λb=>(rdK b.1.toNat [] "" b.2).map λc=>((a.1,c.1),c.2)
theorem bind_some{α β:Type}{x:Option α}{f:α->Option β}{b:β}(h:x.bind f=some b):∃a,x=some a/\f a=some b:=by
 cases x with
 | none=>cases h
 | some a=>exact {a,rfl,h}
theorem vq:∀{n:Nat}{l l':List Int}{ws r:List Str},bI n l ws=some (l',r)->r.length<=ws.length
 | 0,_,_,_,_,h=>by injection h with h;injection h with _ h;rw [h];exact OA _
 | n+1,l,l',ws,r,h=>by
  obtain ⟨⟨i,r1⟩,e,h⟩:=bind_some h;have:=bJ e;have h:bI n (l++[i]) r1=some (l',r):=h;have:=vq h;lia
theorem yJ:∀{n:Nat}{t u:Tab}{y:Str}{ws r:List Str},aZ n t y ws=some (u,r)->r.length<=ws.length
 | 0,_,_,_,_,_,h=>by injection h with h;injection h with _ h;rw [h];exact OA _
 | n+1,t,u,y,ws,r,h=>by
  obtain ⟨⟨z,r1⟩,e,h⟩:=bind_some h;obtain ⟨⟨i,r2⟩,G,h⟩:=bind_some h;have h:(if i=0 then none else (bI i.toNat [] r2).bind λc=>aZ n (zF t z c.1) z c.2)=some (u,r):=h;split at h
  .cases h
  .obtain ⟨⟨l,J⟩,F,h⟩:=bind_some h;have:=ma e;have:=bJ G;have:=vq F;have:=yJ h;simp only at *
   lia
theorem kO{ws r:List Str}(h:rdT ws=some (u,r)):r.length+1<=ws.length:=by
 obtain ⟨⟨i,r1⟩,e,h⟩:=bind_some h;have:=bJ e;have:=yJ h;simp only at *
 lia
structure Ec(A:zi)(H:Hp)(p q b k:Addr)(t:Tab)(N:Nat)(R:Option (List (Str×Tab)×List Str))(i:Nat)(σ:L2.St)(H':Hp):Prop where
 ex:∃y ws us t1,σ=[some (V.ref p),some (.ref q),some (.str y),t1]/\zS A H' p ws/\zJ A H' q b k t us/\rdK (N-i) us y ws=R/\us.length+ws.length<=3001
 but:But p H H'
def Ah(A:zi):Sp:=λvs H Q E=>∃(p:Addr)(ws:List Str),vs=[.ref p]/\zS A H p ws/\ws.length<=3003/\(∀u us r,rdF ws=some ((u,us),r)->∀q b k H',But p H H'->H q=none->H b=none->H k=none->zJ A H' q b k u us->zS A H' p r->Q (.ref q) H')/\(rdF ws=none->∀H',But p H H'->E (.ref A.NoPart) none H')
theorem iW:zy ["words",Wi,"name","number"] WJ (zm kH):=fsc
theorem EZ(F:Fun K V1 V1 kH f fd)(T:Txt K mg A)(Zl:GX P w K mg base true 5 V0 WJ (uE A))(Z9:GMX P w K mg base true 3 A.Words Wc Zg (jI A))(ZS:GX P w K mg base true 4 We Wt (rf A))(ZC:GM P w K mg base true 4 A.ot "keep" WL (rH A)):zq P w K mg base (CXW P w) true 6 f fd WJ (Ah A):=by
 refine F.oW iW λZ1 Ar outer s H vs Q E U h=>?_;obtain ⟨p,ws,rfl,hW,hl,q,qe⟩:=h;have Th:=dw (cm:=true) (P:=P) (w:=w) (K:=K) (mg:=mg) (base:=base) (N:=["words",Wi,"name","number"]) (qual:=V1) (scope:=zm kH) (f:=f) (cd:=Z1) (A:=Ar) (outer:=outer) (s:=s) (H:=H) (E:=E);refine {_,(W.h (zh (zC (i:=1) iW.nd rfl (OL rfl) (cXD (dP Th Zl U rfl (clP (zd (zb 0) ze)))))
   (zh (zC (i:=2) iW.nd rfl (OL rfl) aL)
   (zh (mI Th (cF (jY rfl (λok=>ok.frames) rfl) (λ_=>rfl) (dB rfl T.z3 (zd (cG (cx (clE (zb 0)) T.nT cW Z9 U)) ze)) (zD (i:=3) iW.nd rfl (OL rfl))
   (zh (zC (i:=2) iW.nd rfl (OL rfl) (cXD (dP cW ZS U rfl (clP (zd (zb 0) (zd (zb 2) ze))))))
   (zo (aJ (mD (aC (clE (zb 1)) T.mu ZC U (clP (zd (zb 2) (zd (cXD (dP cW Zl U rfl (clP (zd (zb 0) ze)))) ze))))))))))
   (zo (zB (zb 1))))))),?_}
 ac_rfl;refine {p,ws,rfl,hW,hl,λu r1 J x b1 k1 H3 Z x0 b0 k0 F3 W3=>?_,λJ H3 b3=>?_}
 rotate_left
 .ac_rfl;exact {_,rfl,qe (by unfold rdF;rw [J];rfl) H3 b3}
 have l1:=kO J;obtain ⟨dx,wl,pre,e1,e2,r⟩:=W3.ex;erw [e1,dU];refine {p,r1,rfl,W3,λN r2 eN N0 N1 H4 b4 av=>?_,λeN H4 b4=>?_}
 rotate_left
 .ac_rfl;exact {_,rfl,qe (by unfold rdF;rw [J];show (zO r1).bind _=_;rw [eN];rfl) H4 (Z.trans b4)}
 have F4:=F3.Vg b4 W3;have l2:=bJ eN;have eF:rdF ws=(rdK N.toNat [] "" r2).map λc=>((u,c.1),c.2):=by unfold rdF;rw [J];show (zO r1).bind _=_;rw [eN];rfl
 rw [eF] at qe;ac_rfl;refine {'l','l',bg.rng (Ec A H p x b1 k1 u N.toNat (rdK N.toNat [] "" r2)) {{_,r2,[],_,rfl,av,F4,rfl,by simp;lia},Z.trans b4} ?_ ?_}
 .rintro i σ H' hi ⟨⟨y,WW,us,t1,rfl,Yd,hF,G,hm⟩,bt⟩;obtain ⟨c,hc⟩:∃c,N.toNat-i=c+1:={N.toNat-i-1,'l'};rw [hc] at G;ac_rfl;refine {p,y,WW,rfl,Yd,λn r3 e5 H5 b5 ai=>?_,λe5 H5 b5=>?_}
  rotate_left
  .ac_rfl;exact {_,rfl,qe (by rw [<- G];unfold rdK;rw [e5];rfl) H5 (bt.trans b5)}
  have F5:=hF.Vg b5 Yd;obtain ⟨l5,a3⟩:=ma e5;obtain ⟨a4,ax⟩:=F5.ob;erw [ax,Ba];refine {p,r3,rfl,ai,'l',λv r4 e6 q6 b6 k6 H6 S _ _ _ F6 aI=>?_,λe6 H6 b6=>?_}
  rotate_left
  .ac_rfl;exact {_,rfl,qe (by rw [<- G];unfold rdK;rw [e5];show ((rdT r3).bind _).map _=_;rw [e6];rfl) H6 ((bt.trans b5).trans b6)}
  have O:=F5.Vg S ai;have l6:=kO e6;obtain ⟨a0,aT,_⟩:=O.kept;ac_rfl;refine {x,b1,k1,u,us,n,q6,v,rfl,O,F6.has,'l',λH7 b7 F7 _=>{{n,r4,_,_,rfl,aI.but b7 {_,aT},F7,?_,?_},((bt.trans b5).trans S).fresh b7 k0}}
  .rw [<- G];conv=>rhs;unfold rdK
   rw [e5,show N.toNat-(i+1)=c from by lia];show _=(rdT r3).bind _;rw [e6];rfl
  .have:=iX (t:=us) (n:=n) (a:=v);lia
 .rintro σ H' ⟨⟨y,WW,us,t1,rfl,Yd,hF,G,hm⟩,bt⟩;rw [Ua] at G;ac_rfl;exact q u us WW (by rw [eF,<- G];rfl) x b1 k1 H' bt x0 b0 k0 hF Yd
end
theorem ij(c:Nat)(t:List Nat):aj c (c::t)=[]::aj c t:=if_pos rfl
theorem A0:∀l:List Nat,(aj c l).length=l.count c+1/\((aj c l).map Tj).sum+l.count c=l.length
 | []=>{rfl,rfl}
 | x::l=>by
  have F:=A0 (c:=c) l;by_cases e:x=c
  .subst e;rw [ij,List.count_cons_self];simp only [Pr,PP,List.sum_cons,Sx];lia
  .obtain ⟨a,r,G⟩:=dN c l;rw [fk c x l e,List.count_cons_of_ne e];rw [G] at F ⊢;show ((x::a)::r).length=_/\(List.map Tj ((x::a)::r)).sum+_=_;simp only [Pr,PP,List.sum_cons] at F ⊢;lia
def Fst(c:Nat)(l:List Nat):List Nat:=(aj c l).headD []
def Tls(c:Nat)(l:List Nat):List (List Nat):=(aj c l).tail
section
variable {c:Nat}
theorem eQ(l:List Nat):aj c l=Fst c l::Tls c l:=by
 unfold Fst Tls;obtain ⟨a,r,F⟩:=dN c l;rw [F];rfl
theorem ig(l:List Nat):Tls c (c::l)=aj c l:=by unfold Tls;rw [ij];rfl
theorem kG(l:List Nat):Fst c (c::l)=[]:=by unfold Fst;rw [ij];rfl
theorem lq(e:x≠c)(l:List Nat):Tls c (x::l)=Tls c l:=by
 unfold Tls;obtain ⟨a,r,F⟩:=dN c l;rw [fk c x l e,F];rfl
theorem wI(e:x≠c)(l:List Nat):Fst c (x::l)=x::Fst c l:=by
 unfold Fst;obtain ⟨a,r,F⟩:=dN c l;rw [fk c x l e,F];rfl
theorem Oe(x l:List Nat):∀v∈Tls c l,v∈Tls c (x++l):=by
 induction x with
 | nil=>exact λv h=>h
 | cons y x F =>
  intro v hv;rw [QX];by_cases e:y=c
  .subst e;rw [ig,eQ];exact Oy _ (F v hv)
  .rw [lq e];exact F v hv
theorem Es(a x d b:List Nat)(hx:x.length<=1):∃N:List (List Nat),N.length<=2/\∀v∈aj c (a++x++b),v∈aj c (a++d++b)\/v∈N:=by
 have F:∃N:List (List Nat),N.length<=1/\∀v∈Tls c (x++b),v∈Tls c (d++b)\/v∈N:=by
  have h:=Oe (c:=c) d b
  match x,hx with
  | [],_=>exact {[],Pz _,λv hv=>.inl (h v hv)}
  | [y],_ =>
   by_cases e:y=c
   .subst e;refine {[Fst y b],OA _,λv hv=>?_};have hv:v∈Tls y (y::b):=hv;rw [ig,eQ] at hv;rcases OK.mp hv with rfl|hv
    .exact .inr (OS.mpr rfl)
    .exact .inl (h v hv)
   .refine {[],Pz _,λv hv=>?_};have hv:v∈Tls c (y::b):=hv;rw [lq e] at hv;exact .inl (h v hv)
 have h1:∃N:List (List Nat),(∀v∈Tls c (a++(x++b)),v∈Tls c (a++(d++b))\/v∈N)/\(N.length<=1\/(N.length<=2/\Fst c (a++(x++b))=Fst c (a++(d++b)))):=by
  induction a with
  | nil=>obtain ⟨N,h2,h3⟩:=F;exact {N,h3,.inl h2}
  | cons y a G =>
   obtain ⟨N,h2,h3⟩:=G;rw [QX,QX];by_cases e:y=c
   .subst e;rcases h3 with h3|⟨h3,h4⟩
    .refine {Fst y (a++(x++b))::N,λv hv=>?_,.inr {SC h3,by rw [kG,kG]}};rw [ig,eQ] at hv;rw [ig,eQ (a++(d++b))];rcases OK.mp hv with rfl|hv
     .exact .inr (OB ..)
     .exact (h2 v hv).imp (Oy _) (Oy _)
    .refine {N,λv hv=>?_,.inr {h3,by rw [kG,kG]}};rw [ig,eQ] at hv;rw [ig,eQ (a++(d++b))];rcases OK.mp hv with rfl|hv
     .exact .inl (by rw [h4];exact OB ..)
     .exact (h2 v hv).imp (Oy _) id
   .rw [lq e,lq e,wI e,wI e];exact {N,h2,h3.imp id λ⟨h,e⟩=>{h,by rw [e]}}
 obtain ⟨N,h2,h3⟩:=h1;rw [O6,O6,eQ,eQ (a++(d++b))];rcases h3 with h3|⟨h3,h4⟩
 .refine {Fst c (a++(x++b))::N,SC h3,λv hv=>?_};rcases OK.mp hv with rfl|hv
  .exact .inr (OB ..)
  .exact (h2 v hv).imp (Oy _) (Oy _)
 .refine {N,h3,λv hv=>?_};rcases OK.mp hv with rfl|hv
  .exact .inl (by rw [h4];exact OB ..)
  .exact (h2 v hv).imp (Oy _) id
theorem jJ(r:List Nat):∀a:List Nat,aj c (a++c::r)=aj c a++aj c r
 | []=>by rw [R6,ij];rfl
 | y::a=>by
  rw [QX];by_cases e:y=c
  .rw [e,ij,ij,jJ r a];rfl
  .obtain ⟨h,t,F⟩:=dN c a;rw [fk c y _ e,fk c y _ e,jJ r a,F];rfl
theorem B0(h:c∉a)(b:List Nat):aj c (a++b)=(a++Fst c b)::Tls c b:=by
 induction a with
 | nil=>exact eQ b
 | cons y a F =>
  rw [OK,not_or] at h;rw [QX,fk c y _ (Pt h.1),F h.2];rfl
end
theorem iy(z:Str):(wds z).length=(sg z).count 32+1:=by rw [de,Ow];exact (A0 _).1
theorem Bg:∀(v:Str)(ws:List Str),sg (Q0 " " (v::ws))=sg v++((ws.map sg).map (32::·)).flatten:=by
 intro v ws;have e:Q0 " " (v::ws)=Str.join " " (v::ws):=StrLaws.glued_eq_join " " (v::ws);rw [e]
 induction ws generalizing v with
 | nil=>show sg v=_;simp
 | cons x ws F =>
  have F:=F x (StrLaws.glued_eq_join " " _);show sg (v++" "++Str.join " " (x::ws))=_;rw [bO,bO,F];have:sg (" ":Str)=[32]:=by decide
  rw [this];simp
def GdT(t:Tab):Prop:=∀p∈t,aN p.1=true/\∀x∈p.2,0<=x/\x<10 ^ 18
structure Bud(t:Tab)(ks:List (Str×Tab))(B:Nat):Prop where
 few:t.length<=B
 row:∀n,(lk t n).length<=B
 live:∃L:List Int,L.length<=B/\∀y∈zW t ks,y∈L
 ne:∀n l,look t n=some l->l≠[]
 old:∀p∈ks,p.2.length<=B/\∀m,(lk p.2 m).length<=B
 gt:GdT t
 gk:∀p∈ks,aN p.1=true/\GdT p.2/\∀n l,look p.2 n=some l->l≠[]
theorem pW{t:Tab}:lk (zF t n l) m=if m=n then l else lk t m:=by
 unfold lk;rw [iu];split<;>rfl
theorem eK{t:Tab}:y∈zX t↔∃p∈t,y∈p.2:=by unfold zX;exact TN
theorem Mw{t:Tab}(h:y∈zX (zF t z ((lk t z).take i++[x]++(lk t z).drop (i+1)))):y∈zX t\/y=x:=by
 obtain ⟨p,G,F⟩:=eK.mp h;have inl:y∈lk t z->y∈zX t:=λhl=>by
  unfold lk at hl;cases e:look t z with
  | none=>rw [e] at hl;cases hl
  | some l=>rw [e] at hl;exact eK.mpr {_,dR e,hl}
 rcases eR G with G|rfl
 .exact .inl (eK.mpr ⟨p,G,F⟩)
 .rcases OY.mp F with F|F
  .rcases OY.mp F with F|F
   .exact .inl (inl (Q4 F))
   .exact .inr (by simpa using F)
  .exact .inl (inl (RL F))
theorem Bud.put{t:Tab}(h:Bud t ks B)(hi:i<=(lk t z).length)(hz:aN z=true)(hx:0<=x/\x<10 ^ 18):Bud (zF t z ((lk t z).take i++[x]++(lk t z).drop (i+1))) ks (B+1):=by
 refine {Pj iX (SC h.few),λn=>?_,?_,λn l e=>?_,λp G=>{Rx (h.old p G).1,λm=>Rx ((h.old p G).2 m)},λp G=>?_,h.gk}
 .rw [pW];split
  .have:=h.row z;simp only [Pb,Qf,SJ,PX];lia
  .exact Rx (h.row n)
 .obtain ⟨L,O,J⟩:=h.live;refine {L++[x],by rw [Pb,PX];lia,λy F=>?_};unfold zW at F J;rcases OY.mp F with F|F
  .rcases Mw F with F|rfl
   .exact O4 _ (J y (O4 _ F))
   .exact Ox _ 'z'
  .exact O4 _ (J y (Ox _ F))
 .rw [iu] at e;split at e
  .cases e;simp
  .exact h.ne n l e
 .rcases eR G with G|rfl
  .exact h.gt p G
  .refine {hz,λy F=>?_};have inl:y∈lk t z->0<=y/\y<10 ^ 18:=λhl=>by
    unfold lk at hl;cases e:look t z with
    | none=>rw [e] at hl;cases hl
    | some l=>rw [e] at hl;exact (h.gt _ (dR e)).2 y hl
   rcases OY.mp F with F|F
   .rcases OY.mp F with F|F
    .exact inl (Q4 F)
    .rw [OS] at F;rw [F];exact hx
   .exact inl (RL F)
theorem ck{t:Tab}:y∈zW t ks↔y∈zX t\/∃p∈ks,y∈zX p.2:=by
 unfold zW;rw [OY,TN]
theorem Bud.sub{t:Tab}(h:Bud t ks B)(s:∀p∈ks',p∈ks\/(p.2=t/\aN p.1=true)):Bud t ks' B:=by
 obtain ⟨L,O,J⟩:=h.live;refine {h.few,h.row,{L,O,λy G=>?_},h.ne,λp F=>(s p F).elim (h.old p) λe=>by rw [e.1];exact ⟨h.few,h.row⟩,h.gt,λp F=>(s p F).elim (h.gk p) λe=>by rw [e.1];exact ⟨e.2,h.gt,h.ne⟩};rcases ck.mp G with G|⟨p,F,G⟩
 .exact J y (ck.mpr (.inl G))
 .rcases s p F with F|e
  .exact J y (ck.mpr (.inr ⟨p,F,G⟩))
  .rw [e.1] at G;exact J y (ck.mpr (.inl G))
theorem l0{α:Type} [DecidableEq α]:∀{xs L:List α},xs.Nodup->(∀y∈xs,y∈L)->xs.length<=L.length
 | [],_,_,_=>Pz _
 | x::xs,L,nd,s=>by
  have F:=R5.mp nd;have hx:x∈L:=s x OB;have h1:=l0 (xs:=xs) (L:=L.erase x) F.2 λy G=>(List.mem_erase_of_ne (λz:y=x=>F.1 (by rw [<- z];exact G))).mpr (s y (Oy _ G));rw [List.length_erase_of_mem hx] at h1;have:=List.length_pos_of_mem hx;rw [Pr];lia
theorem Bud.uniq{t:Tab}(h:Bud t ks B):(L2.uniq (zW t ks)).length<=B:=let ⟨L,hL,hm⟩:=h.live;Pj (l0 dD λy F=>hm y (fb.mp F)) hL
theorem Bb{t:Tab}(nd:(names t).Nodup)(few:t.length<=16)(row:∀n,(lk t n).length<=16)(ne:∀n l,look t n=some l->l≠[])(g:GdT t):z7 t:=by
 refine {nd,few,λn J=>?_,λp F=>?_}
 .obtain ⟨p,F,rfl⟩:=Pk.mp J;exact (g p F).1
 .have e:=iB nd (show (p.1,p.2)∈t from F);have G:lk t p.1=p.2:=by unfold lk;rw [e];rfl
  have h1:=List.length_pos_iff.mpr (ne _ _ e);have h2:=row p.1;rw [G] at h2;exact {h1,h2,λx hx=>by have:=(g p F).2 x hx;lia}
theorem Bud.good{t:Tab}(h:Bud t ks B)(G:B<=16)(nt:(names t).Nodup)(J:(names ks).Nodup)(nk:∀p∈ks,(names p.2).Nodup)(few:ks.length<=3):z7 t/\aO ks:=by
 refine {Bb nt (Pj h.few G) (λn=>Pj (h.row n) G) h.ne h.gt,J,few,λn O=>?_,λp F=>?_}
 .obtain ⟨p,F,rfl⟩:=Pk.mp O;exact (h.gk p F).1
 .have o:=h.old p F;have g:=h.gk p F;exact Bb (nk p F) (Pj o.1 G) (λn=>Pj (o.2 n) G) g.2.2 g.2.1
theorem Bud.mono{t:Tab}(h:Bud t ks B)(l:B<=C):Bud t ks C :=
 let ⟨L,hL,hm⟩:=h.live;{Pj h.few l,λn=>Pj (h.row n) l,{L,Pj hL l,hm},h.ne,λp F=>{Pj (h.old p F).1 l,λm=>Pj ((h.old p F).2 m) l},h.gt,h.gk}
theorem Bud.rng{t:Tab}(h:Bud t ks B):∀y∈zW t ks,0<=y/\y<10 ^ 18:=λy F=>by
 rcases ck.mp F with F|⟨p,G,F⟩
 .obtain ⟨p,G,F⟩:=eK.mp F;exact (h.gt p G).2 y F
 .obtain ⟨r,J,F⟩:=eK.mp F;exact ((h.gk p G).2.1 r J).2 y F
def hZ(ts:List T3):Prop:=∀t∈ts,(0<=t.2.1/\t.2.1<16)/\0<=t.2.2/\t.2.2<32
abbrev kB:Stmt:=top 51
theorem jT:∀ws:List Str,(∀z∈ws,Wd z)->(((ws.map sg).map (32::·)).flatten).length<=21*ws.length
 | [],_=>by simp
 | z::ws,h=>by
  have h1:=(h z (OB ..)).most;have h2:=jT ws λy F=>h y (Oy _ F);rw [PP,PP,RP,Pb,Pr,Pr,zM];lia
theorem GQ(h:∀z∈v::ws,Wd z):(Q0 " " (v::ws)).length<=21*(ws.length+1):=by
 have h1:=(h v (OB ..)).most;have h2:=jT ws λy F=>h y (Oy _ F);rw [<- zM,Bg,Pb,zM];lia
theorem HX(t:Tab)(ks:List (Str×Tab)):∃v ws,bc t ks=v::ws:={_,_,by unfold bc bW;rw [QX]}
def zE(ws:List Str):List Nat:=(ws.map λz=>sg z++[32]).flatten
def az(ts:List T3):List Str:=ts.flatMap λt=>[(toString t.1:Str),(toString t.2.1:Str),(toString t.2.2:Str)]
noncomputable def zR(m n:Int)(t:Tab)(ks:List (Str×Tab))(ts:List T3):List Str:="mark"::(toString m:Str)::(toString n:Str)::(bc t ks++(toString (ts.length:Int):Str)::az ts)
noncomputable def bu(m n:Int)(t:Tab)(ks:List (Str×Tab))(ts:List T3):Str:=cN (tx (zE (zR m n t ks ts)))
structure eG(ts:List T3)(m n:Int):Prop where
 b:∀t∈ts,0<=t.1/\t.1<10 ^ 18
 r:hZ ts
 few:ts.length<40
 m:0<=m/\m<10 ^ 18
 n:0<=n/\n<10 ^ 18
theorem hV(a b:List Str):zE (a++b)=zE a++zE b:=by unfold zE;rw [Pe,List.flatten_append]
theorem lT(v:Str)(ws:List Str):sg (Q0 " " (v::ws))++[32]=zE (v::ws):=by
 rw [Bg];have:∀ws:List Str,((ws.map sg).map (32::·)).flatten++[32]=32::zE ws:=by
  intro ws
  induction ws with
  | nil=>rfl
  | cons z ws F =>
   show (32::sg z++((ws.map sg).map (32::·)).flatten)++[32]=32::((sg z++[32])++zE ws);rw [O6,F];simp
 rw [O6,this];show _=(sg v++[32])++zE ws;simp
theorem my:∀{ws:List Str},(∀z∈ws,Wd z)->(zE ws).length<=21*ws.length/\(zE ws).all (· < 128)=true
 | [],_=>{by simp [zE],rfl}
 | z::ws,h=>by
  obtain ⟨h1,h2⟩:=my (ws:=ws) λu F=>h u (Oy _ F);have hz:=h z (OB ..);have e:zE (z::ws)=sg z++[32]++zE ws:=by simp [zE]
  have G:=hz.most;have p2:=hz.a;rw [e];rw [<- zM] at G;rw [d8] at p2;refine {by simp;lia,?_};rw [all_append,all_append,p2,h2];rfl
theorem h6:∀{ts:List T3},(∀t∈ts,0<=t.1/\t.1<10 ^ 18)->hZ ts->(∀z∈az ts,Wd z)/\(az ts).length=3*ts.length
 | [],_,_=>by simp [az]
 | t::ts,h,r=>by
  obtain ⟨i1,i2⟩:=h6 (ts:=ts) (λu F=>h u (Oy _ F)) (λu F=>r u (Oy _ F));have h1:=h t (OB ..);have h2:=r t (OB ..);have e:az (t::ts)=[(toString t.1:Str),(toString t.2.1:Str),(toString t.2.2:Str)]++az ts:=by simp [az]
  rw [e];refine {λz hz=>?_,by simp;lia};rcases OY.mp hz with hz|hz
  .simp only [OK,PD,or_false] at hz;rcases hz with rfl|rfl|rfl
   .exact dO h1.1 'l'
   .exact dO h2.1.1 'l'
   .exact dO h2.2.1 'l'
  .exact i1 z hz
theorem ip{t:Tab}(gm:z7 t)(gk:aO ks)(gs:eG ts m n):(∀z∈zR m n t ks ts,Wd z)/\(zR m n t ks ts).length<=1400:=by
 obtain ⟨F,G⟩:=pY gm gk;obtain ⟨s1,s2⟩:=h6 gs.b gs.r;have few:=gs.few;refine {λz hz=>?_,by unfold zR;simp;lia};unfold zR at hz;rcases OK.mp hz with rfl|hz
 .exact nL (f!"")
 rcases OK.mp hz with rfl|hz
 .exact dO gs.m.1 gs.m.2
 rcases OK.mp hz with rfl|hz
 .exact dO gs.n.1 gs.n.2
 rcases OY.mp hz with hz|hz
 .exact F z hz
 rcases OK.mp hz with rfl|hz
 .exact dO 'l' 'l'
 .exact s1 z hz
theorem JC{ts:List T3}{t:T3}(h:ts[i]?=some t):az (ts.take (i+1))=az (ts.take i)++[(toString t.1:Str),(toString t.2.1:Str),(toString t.2.2:Str)]:=by
 unfold az;rw [Pi,h,Sj];simp
def eA(m n:Int)(z:Str)(l:Int)(ts:List T3):List Str:=[("mark":Str),(toString m:Str),(toString n:Str),z,(toString l:Str)]++az ts
theorem HG{t:Tab}(gm:z7 t)(gk:aO ks)(gs:eG ts m n):((eA m n (dz t ks) ts.length ts).length<=200/\∀z∈eA m n (dz t ks) ts.length ts,z.length<=100000)/\zE (eA m n (dz t ks) ts.length ts)=zE (zR m n t ks ts):=by
 obtain ⟨G,J⟩:=pY gm gk;obtain ⟨s1,s2⟩:=h6 gs.b gs.r;obtain ⟨U,_⟩:=ip gm gk gs;obtain ⟨v,ws,ea⟩:=HX t ks;have few:=gs.few;refine {{by unfold eA;simp;lia,λz hz=>?_},?_}
 .by_cases F:z=dz t ks
  .rw [F];unfold dz;rw [ea] at G J ⊢;have:=GQ G;simp only [Pr] at J;lia
  .have:z∈zR m n t ks ts:=by
    unfold eA at hz;unfold zR;simp only [QX,R6,OK,OY] at hz ⊢;rcases hz with h|h|h|h|h|h<;>simp_all
   have:=(U z this).most;lia
 .have S:zR m n t ks ts=[("mark":Str),(toString m:Str),(toString n:Str)]++(bc t ks++([(toString (ts.length:Int):Str)]++az ts)):=rfl;have O:eA m n (dz t ks) ts.length ts=[("mark":Str),(toString m:Str),(toString n:Str)]++([dz t ks]++([(toString (ts.length:Int):Str)]++az ts)):=rfl;rw [S,O,hV,hV _ (bc t ks++_),hV [dz t ks],hV (bc t ks)];congr 2;unfold dz;rw [ea];refine Eq.trans ?_ (lT v ws);simp [zE]
section
variable {P:OE}{w:OW}{K:Frag}{mg:Str->Option Value}{base:Heap}{A:zi}
structure MtI(H:Hp)(x sl wl:Addr)(pm:List T3->List Str)(us:List T3)(i:Nat)(σ:L2.St)(H':Hp):Prop where
 ex:∃t1 t2 t3,σ=[some (V.ref x),some (.ref sl),some (.ref wl),t1,t2,t3]
 hw:H' wl=some (.lst ((pm (us.take i)).map V.str))
 same:∀c o,c≠wl->H c=some o->H' c=some o
structure MtC(H:Hp)(ws:List Str)(i:Nat)(τ:L2.St)(ys:List V)(H':Hp):Prop where
 ex:∃t,τ=[t]
 ys:ys=((ws.take i).map λz:Str=>z++(" ":Str)).map V.str
 same:zj H H'
theorem Mt(l:List Str):((l.map λz:Str=>z++(" ":Str)).map (·.length)).sum=(zE l).length:=by
 unfold zE;rw [List.length_flatten,Qp,Qp];congr 1;refine PV λv _=>?_;show (v++(" ":Str)).length=(sg v++[32]).length;rw [QR,Pb,zM];rfl
theorem GV(l:List Str):Q0 "" (l.map λz:Str=>z++(" ":Str))=tx (zE l):=by
 refine hU ?_;rw [Kr,ao,Qp];unfold zE;congr 1;refine PV λv _=>?_;show sg (v++(" ":Str))=_;rw [bO];rfl
theorem KC(hl:∀z∈ws,z.length<=100000):∀(N:L2.St->List V->Hp->Prop)(i:Nat)(v:V)(τ:L2.St)(ys:List V)(H':Hp),(ws.map V.str)[i]?=some v->MtC H5 ws i τ ys H'->(∀τ ys H,MtC H5 ws (i+1) τ ys H->N τ ys H)->cE 0 v τ H' λF H4=>me F H4 λok H5=>fX N ys F (tOp jr (h9 0) (tC (V.str " "))) ok H5:=by
 intro N i v τ ys H' hv I hN;obtain ⟨t1,rfl⟩:=I.ex;rw [OT] at hv;obtain ⟨z,hz,rfl⟩:=O7.mp hv;have hl:=hl z (Pc hz);ac_rfl;refine {?_,hN _ _ _ {{_,rfl},?_,I.same}}
 .rw [show (" ":Str).length=1 by decide];exact bB 'l'
 .rw [I.ys,Pi,hz];simp
def wQ(A:zi):Sp:=λvs H Q _=>∃(x F b k d:Addr)(t:Tab)(ks:List (Str×Tab))(ts:List T3)(n m:Int),vs=[.ref x]/\aY A H x F b k d t ks ts n m/\z7 t/\aO ks/\eG ts m n /\
 ∀us H',zj H H'->us.Perm ts->(us.map (·.1)).Pairwise (·<=·)->Q (.str (bu m n t ks us)) H'
theorem iF:zy WB ["state"] (zm kB):=fsc
theorem J5:bb { kind:=.function,names:=[(Ou ".0",.local),(Ou "word",.local)],isGenerator:=false,isCoroutine:=false,more:=[] } (zm kB).names WB ["word"] [none]=true:=by decide +kernel
theorem Mp:(["word"]:List Str).Nodup:=by decide +kernel
theorem LH(F:Fun K "mark_text" "mark_text" kB f fd)(T:Txt K mg A)(ZV:GM P w K mg base true 1 A.State V7 Zg (kX A))(Z7:GM P w K mg base true 1 A.State Wl Zg (iQ A))(Z6:GM P w K mg base true 1 A.State Wj Zg (jk A))(ZU:GM P w K mg base true 5 A.State Wi Zg (kF A))(Y5:GF P w K mg base true 6 "files_text" WA (tB A))(Y8:GF P w K mg base true 2 "summed" ["body"] pd):zq P w K mg base CX0 true 7 f fd ["state"] (wQ A):=by
 refine F.o iF λZ1 Ar outer s H vs Q E hr h=>?_;obtain ⟨x,fx,b,k,d,t,ks,ts,n,m,rfl,hS,gm,gk,gs,q⟩:=h;refine {_,(W.h (zh (zC (i:=1) iF.nd rfl (OL rfl) (m0D (zY (clE (zb 0)) T.qb ZV hr)))
   (zh (zC (i:=2) iF.nd rfl (OL rfl) (bV (zd (dM rfl T.U2) (zd (cR eL rfl T.UW RZ (zd (m0D (zY (clE (zb 0)) T.qb Z7 hr)) ze)) (zd (cR eL rfl T.UW RZ (zd (m0D (zY (clE (zb 0)) T.qb Z6 hr)) ze)) (zd (caD (zL Y5 hr rfl (clP (zd (m0D (zY (clE (zb 0)) T.qb ZU hr)) ze)))) ze))))))
   (zh (aJ (gh (zb 2) (cR eL rfl T.UW RZ (zd (ar fK rfl T.UQ PZ (zd (zb 1) ze)) ze))))
   (zh (cF Q6.never (λ_=>rfl) (liD (bM (clE (zb 1)))) (iI (n:=3) (gsD (aA (zD (i:=3) iF.nd rfl (OL rfl)) (gsD (aA (zD (i:=4) iF.nd rfl (OL rfl)) (gsD (aA (zD (i:=5) iF.nd rfl (OL rfl)) d5)))))))
   (zo (aJ (jz (zb 2) (bV (zd (cR eL rfl T.UW RZ (zd (zb 3) ze)) (zd (cR eL rfl T.UW RZ (zd (zb 4) ze)) (zd (cR eL rfl T.UW RZ (zd (zb 5) ze)) ze))))))))
   (zo (zB (caD (zL Y8 hr rfl (clP (zd (yl aL (fj (λ_=>rfl) (z6.of J5) (liD (bM (clE (zb 2)))) (λ_ _ _ _ _=>(zD (i:=0) Mp rfl (OL rfl))) (λ_ _ _ _ _=>cn) (λ_ _ _ _ _=>(zI bw (zb 0) aL)))) ze))))))))))),?_}
 obtain ⟨dx,e1⟩:=hS.ob;erw [e1,qZ];refine {x,fx,b,k,d,t,ks,ts,n,m,rfl,hS,λsl as us H1 s1 a0 Xv pr pm so=>?_};have S1:=hS.same s1;obtain ⟨Xw,Xq⟩:=S1.ob;erw [Xq,gY,ia,jc];refine {x,fx,b,k,d,t,ks,ts,n,m,rfl,S1,?_};have hm:=gs.m;have hn:=gs.n;erw [Xq,gY,ia,jc];refine {dI 'l',x,fx,b,k,d,t,ks,ts,n,m,rfl,S1,?_};erw [Xq,gY,ia,jc];refine {dI 'l',x,fx,b,k,d,t,ks,ts,n,m,rfl,S1,λq' b' k' H2 s2 nq nb nk F2 _=>{q',b',k',t,ks,rfl,F2.r,gm,gk,λH3 s3=>?_}};have G:=s3 _ _ (s2 _ _ Xv);have aT:=pm.length_eq;have O:=aK pr;have few:=gs.few;refine {'d',λwl H4 J _=>{{_,J.at_},_,.inl (J.same _ _ G),?_}};rw [Ow,O];have Z:H1 wl=none:=(s2.trans s3).free J.no;have ai:sl≠wl:=zH Xv Z;have aI:∀{H':Hp},(∀c o,c≠wl->H4 c=some o->H' c=some o)->Paired (dr H') as us:=λ{H'} k'=>Paired.ti pr λr u e=>k' _ _ (zH e Z) (J.same _ _ (s3 _ _ (s2 _ _ e)));have ax:∀{H':Hp},(∀c o,c≠wl->H4 c=some o->H' c=some o)->H' sl=some (.lst (as.map V.ref)):=λ{H'} k'=>k' _ _ ai (J.same _ _ G);refine {dI 'l',_,J.at_,br 'z',{_,SqL.of (by rw [zg ai];exact J.same _ _ G)},bg.lst (xs:=as.map V.ref) (MtI H4 x sl wl (eA m n (dz t ks) us.length) us) {{_,_,_,rfl},by rw [zA];rfl,λc o nc e=>by rw [zg nc];exact e} (λi σ H' _ I=>SqL.of (ax I.same)) ?_ ?_}
 .rintro i v σ H5 hv ⟨⟨t1,t2,t3,rfl⟩,hw,k5⟩;rw [OT] at hv;obtain ⟨r,av,rfl⟩:=O7.mp hv;have hi:i<us.length:=by rw [<- O];exact (OG.mp av).1
  have S:us[i]?=some us[i]:=KE hi;have g1:=bY (aI k5) av S;have ub:=gs.b us[i] (pm.mem_iff.mp (P0 hi));have ur:=gs.r us[i] (pm.mem_iff.mp (P0 hi));generalize us[i]=u at S g1 ub ur;refine {r,_,rfl,SqT.of g1,rfl,?_};erw [hw];refine {dI 'l',dI 'l',dI 'l','d',λp H6 n6 _=>{_,n6.same _ _ hw,_,n6.at_,bB ?_,{_,_,_,rfl},?_,λc o nc e=>by rw [zg nc];exact n6.same _ _ (k5 _ _ nc e)}}
  .have h1:=(h6 (ts:=us.take i) (λt U=>gs.b t (pm.mem_iff.mp (Q4 U))) (λt U=>gs.r t (pm.mem_iff.mp (Q4 U)))).2;rw [Qf] at h1;rw [Ow];unfold eA;simp;lia
  .rw [zA];unfold eA;rw [JC S];simp
 .rintro σ H5 ⟨⟨t1,t2,t3,rfl⟩,hw,k5⟩;rw [Ow,O,OU (OA _)] at hw;erw [hw];have gu:eG us m n:={λt U=>gs.b t (pm.mem_iff.mp U),λt U=>gs.r t (pm.mem_iff.mp U),'l',gs.m,gs.n};obtain ⟨p1,p2⟩:=HG gm gk gu;obtain ⟨m1,m2⟩:=ip gm gk gu;obtain ⟨b1,b2⟩:=my m1;generalize eA m n (dz t ks) us.length us=ws at hw p1 p2;refine {{_,SqL.of hw},aM.lst (xs:=ws.map V.str) (MtC H5 ws) (λi τ ys H' I=>?_) (λi τ ys H' I=>SqL.of (I.same _ _ hw)) {{_,rfl},'z',zj.refl _} (KC p1.2) ?_}
  .rw [I.ys,Ow,Ow,Qf];exact br 'l'
  .intro τ ys H6 I D H7 n7;rw [sj];have ey:=I.ys;rw [Ow,OU (OA _)] at ey;refine {ws.map λz:Str=>z++(" ":Str),by rw [n7.at_,ey],?_,tx (zE (zR m n t ks us)),?_,by rw [nF];exact b2,by rw [hJ];lia,λH8 s8=>?_}
   .rw [Mt,p2,show ("":Str).length=0 by decide];lia
   .rw [GV,p2]
   .have s7:∀c o,c≠wl->H4 c=some o->H8 c=some o:=λc o nc e=>s8 _ _ (n7.same _ _ (I.same _ _ (k5 _ _ nc e)));exact q us H8 (λc o e=>s7 _ _ (zH (s1 _ _ e) Z) (J.same _ _ (s3 _ _ (s2 _ _ (s1 _ _ e))))) pm so
end
abbrev lI:Stmt:=top 54
abbrev i3:Stmt:=top 53
abbrev lE:Stmt:=top 52
theorem MV(hl:∃a,l=a++[32]):aP (cN (tx l))=tx l:=by
 obtain ⟨a,rfl⟩:=hl;have F:=g8 (fG (tx (a++[32]))).1 (by have:=(fG (tx (a++[32]))).2;lia);have e:sg (cN (tx (a++[32])))=a++32::(sg (toString (bN (tx (a++[32]))):Str)++[59]):=by
  unfold cN;rw [bO,bO,ao];simp;decide +kernel
 refine jB e λh=>?_;rcases OY.mp h with h|h
 .have:=F.dig 32 h;lia
 .simp at h
def aS:Nat->List T3->List Str->Option (List T3×List Str)
 | 0,ts,ws=>some (ts,ws)
 | n+1,ts,ws=>(zO ws).bind λa=>(zO a.2).bind λb=>(zO b.2).bind λc=>aS n (ts++[(a.1,b.1,c.1)]) c.2
def cI(ws:List Str):Option (List T3×List Str):=(zO ws).bind λa=>aS a.1.toNat [] a.2
theorem yA:∀{n:Nat}{ts us:List T3}{ws r:List Str},aS n ts ws=some (us,r)->us.length=ts.length+n/\r.length+3*n<=ws.length
 | 0,ts,us,ws,r,h=>by injection h with h;injection h with h1 h2;rw [h1,h2];exact {rfl,OA _}
 | n+1,ts,us,ws,r,h=>by
  obtain ⟨⟨a,r1⟩,G,g⟩:=bind_some h;obtain ⟨⟨b,r2⟩,F,g⟩:=bind_some g;obtain ⟨⟨c,W⟩,J,g⟩:=bind_some g;have O:=bJ G;have S:=bJ F;have U:=bJ J;have g:aS n (ts++[(a,b,c)]) W=some (us,r):=g;obtain ⟨Z,g2⟩:=yA g;rw [Pb,PX] at Z;simp only at O S U;lia
section
variable {P:OE}{w:OW}{K:Frag}{mg:Str->Option Value}{base:Heap}{A:zi}
theorem zS.cX{p sl:Addr}{as:List Addr}(h:zS A H p ws)(s:But sl H H')(hs:H sl=some (.lst (as.map V.ref))):zS A H' p ws:=by
 obtain ⟨dx,wl,pre,G,F,r1,r2⟩:=h.ex;refine {{dx,wl,pre,s _ _ (λz=>by subst z;rw [G] at hs;cases hs) G,s _ _ (λz=>?_) F,r1,r2},h.wd};subst z;rw [F] at hs;cases e:pre++ws with
 | nil=>exact r2 e
 | cons y ys =>
  rw [e] at hs;cases as with
  | nil=>cases hs
  | cons a as=>cases hs
structure TsI(A:zi)(H:Hp)(p sl:Addr)(N:Nat)(R:Option (List T3×List Str))(i:Nat)(σ:L2.St)(H':Hp):Prop where
 ex:∃ws ts as t1 t2 t3,σ=[some (V.ref p),some (.ref sl),t1,t2,t3]/\zS A H' p ws/\H' sl=some (.lst (as.map V.ref))/\Paired (dr H') as ts/\aS (N-i) ts ws=R/\ts.length+ws.length<=3003
 but:But p H H'
def xp(A:zi):Sp:=λvs H Q E=>∃(p:Addr)(ws:List Str),vs=[.ref p]/\zS A H p ws/\ws.length<=3003/\(∀ts r,cI ws=some (ts,r)->∀l as H',But p H H'->H l=none->H' l=some (.lst (as.map V.ref))->Paired (dr H') as ts->zS A H' p r->Q (.ref l) H')/\(cI ws=none->∀H',But p H H'->E (.ref A.NoPart) none H')
theorem jS:zy Wu WJ (zm lI):=fsc
theorem CY(F:Fun K V2 V2 lI f fd)(T:Txt K mg A)(Z9:GMX P w K mg base true 3 A.Words Wc Zg (jI A)):zq P w K mg base (CXW P w) true 4 f fd WJ (xp A):=by
 refine F.oW jS λZ1 Ar outer s H vs Q E hr h=>?_;obtain ⟨p,ws,rfl,hW,hl,q,qe⟩:=h;have Th:=dw (cm:=true) (P:=P) (w:=w) (K:=K) (mg:=mg) (base:=base) (N:=Wu) (qual:=V2) (scope:=zm lI) (f:=f) (cd:=Z1) (A:=Ar) (outer:=outer) (s:=s) (H:=H) (E:=E);refine {_,(W.h (zh (zC (i:=1) jS.nd rfl (OL rfl) (bV ze))
   (zh (mI Th (cF (jY rfl (λok=>ok.frames) rfl) (λ_=>rfl) (dB rfl T.z3 (zd (cG (cx (clE (zb 0)) T.nT cW Z9 hr)) ze)) (zD (i:=2) jS.nd rfl (OL rfl))
   (zh (zC (i:=3) jS.nd rfl (OL rfl) (cG (cx (clE (zb 0)) T.nT cW Z9 hr)))
   (zh (zC (i:=4) jS.nd rfl (OL rfl) (cG (cx (clE (zb 0)) T.nT cW Z9 hr)))
   (zo (aJ (gh (zb 1) (bR (zd (zb 3) (zd (zb 4) (zd (cG (cx (clE (zb 0)) T.nT cW Z9 hr)) ze)))))))))))
   (zo (zB (zb 1)))))),?_}
 ac_rfl;refine {'d',λsl H1 Z _=>?_};have W1:=hW.same Z.same;obtain ⟨dx,wl,pre,e1,_⟩:=W1.ex;erw [e1,dU];refine {p,ws,rfl,W1,λN r1 eN N0 N1 H2 b2 W2=>?_,λeN H2 b2=>?_}
 rotate_left
 .ac_rfl;exact {_,rfl,qe (by unfold cI;rw [eN];rfl) H2 ((But.of Z.same).trans b2)}
 have ai:sl≠p:=λz=>by have:=Z.at_;rw [z,e1] at this;cases this
 have Xv:H2 sl=some (.lst (([]:List Addr).map V.ref)):=b2 _ _ ai Z.at_;have l1:=bJ eN;have eF:cI ws=aS N.toNat [] r1:=by unfold cI;rw [eN];rfl
 rw [eF] at q qe;ac_rfl;refine {'l','l',bg.rng (TsI A H p sl N.toNat (aS N.toNat [] r1)) {{r1,[],[],_,_,_,rfl,W2,Xv,.nil,rfl,by simp;lia},(But.of Z.same).trans b2} ?_ ?_}
 .rintro i σ H' hi ⟨⟨WW,ts,as,t1,t2,t3,rfl,Yd,has,pr,S,hm⟩,bt⟩;obtain ⟨c,hc⟩:∃c,N.toNat-i=c+1:={N.toNat-i-1,'l'};rw [hc] at S;obtain ⟨a0,a3,ax,e3,_⟩:=Yd.ex;erw [e3,dU];refine {p,WW,rfl,Yd,λx r2 ex x0 x1 H3 b3 W3=>?_,λex H3 b3=>?_}
  rotate_left
  .ac_rfl;exact {_,rfl,qe (by rw [<- S];unfold aS;rw [ex];rfl) H3 (bt.trans b3)}
  obtain ⟨a4,a5,av,e4,_⟩:=W3.ex;erw [e4,dU];refine {p,r2,rfl,W3,λy r3 ey y0 y1 H4 b4 W4=>?_,λey H4 b4=>?_}
  rotate_left
  .ac_rfl;exact {_,rfl,qe (by rw [<- S];unfold aS;rw [ex];show (zO r2).bind _=_;rw [ey];rfl) H4 ((bt.trans b3).trans b4)}
  obtain ⟨a6,aT,aI,e5,_⟩:=W4.ex;have J:But p H' H4:=b3.trans b4;have U:=J _ _ ai has;erw [e5,dU,U];refine {p,r3,rfl,W4,λz r4 ez z0 z1 H5 b5 W5=>{'d',λtp H6 n6=>?_},λez H5 b5=>?_}
  rotate_left
  .ac_rfl;exact {_,rfl,qe (by rw [<- S];unfold aS;rw [ex];show (zO r2).bind _=_;rw [ey];show (zO r3).bind _=_;rw [ez];rfl) H5 ((bt.trans J).trans b5)}
  have l2:=bJ ex;have l3:=bJ ey;have l4:=bJ ez;have G:=n6.same _ _ (b5 _ _ ai U);have la:=aK pr;have O:∀{r:Addr}{xs:List V}{o:HO},H6 r=some (.tup xs)->upd H6 sl o r=some (.tup xs):=λ{r xs o} e=>by
   rw [zg (λz=>by rw [z,G] at e;cases e)];exact e
  refine {_,G,by rw [Ow];exact br 'l',{{r4,ts++[(x,y,z)],as++[tp],_,_,_,rfl,(W5.same n6.same).cX But.upd G,by rw [zA,Pe];rfl,dm (Paired.ti pr λr v e=>O (n6.same _ _ (b5 _ _ ?_ (J _ _ ?_ e)))) (.cons (O n6.at_) .nil),?_,by rw [Pb,PX];lia},λc o nc e=>?_}}
  .exact λz=>by have e:H' r=_:=e;rw [z,e3] at e;cases e
  .exact λz=>by have e:H' r=_:=e;rw [z,e3] at e;cases e
  .rw [<- S];conv=>rhs;unfold aS
   rw [ex,show N.toNat-(i+1)=c from by lia];show _=(zO r2).bind _;rw [ey];show _=(zO r3).bind _;rw [ez];rfl
  .rw [zg (λz=>by rw [z,Z.no] at e;cases e)];exact n6.same _ _ (b5 _ _ nc (J _ _ nc (bt _ _ nc e)))
 .rintro σ H' ⟨⟨WW,ts,as,t1,t2,t3,rfl,Yd,has,pr,S,hm⟩,bt⟩;rw [Ua] at S;ac_rfl;exact q ts WW (by rw [<- S];rfl) sl as H' bt Z.no has pr Yd
theorem kC{zs:List Int}:(zs.map V.int).all zP=true:=by simp [zP]
theorem EW(zs:List Int):eqL (zs.map V.int) (zs.map V.int)=true:=kZ kC λx hx b e=>by
 obtain ⟨y,_,rfl⟩:=Pk.mp hx;cases e
theorem Gw(zs ys:List Int):eqL (zs.map V.int) (ys.map V.int)=decide (zs=ys):=by
 by_cases h:zs=ys
 .subst h;rw [EW,decide_eq_true rfl]
 .rw [decide_eq_false h,QL];intro e;unfold eqL at e;rw [O5,beq_iff_eq,Ow,Ow,Pg] at e;refine h (List.ext_getElem e.1 λi h1 h2=>?_);have:=e.2 i (Sw.mpr h1);rw [OM,OM,OT,OT,KE h1,KE h2] at this;simpa [eqV] using this
theorem iT{ws r:List Str}(h:zO ws=some (i,r)):∃z,ws=z::r:=by
 cases ws with
 | nil=>cases h
 | cons z ws =>
  have h:(if zT z=true then some ((QP z).getD 0,ws) else none)=some (i,r):=h;split at h
  .injection h with h;injection h with _ h;exact {z,by rw [h]}
  .cases h
theorem sL:∀{n:Nat}{ks us:List (Str×Tab)}{y:Str}{ws r:List Str},rdK n ks y ws=some (us,r)->r.length<=ws.length
 | 0,_,_,_,_,_,h=>by injection h with h;injection h with _ h;rw [h];exact OA _
 | n+1,ks,us,y,ws,r,h=>by
  obtain ⟨⟨z,r1⟩,e,g⟩:=bind_some h;obtain ⟨⟨t,r2⟩,G,g⟩:=bind_some g;have F:=ma e;have J:=kO G;have g:rdK n (zF ks z t) z r2=some (us,r):=g;have O:=sL g;simp only at F J;lia
theorem KP{ws r:List Str}(h:rdF ws=some (c,r)):r.length<=ws.length:=by
 unfold rdF at h;obtain ⟨⟨t,r1⟩,G,g⟩:=bind_some h;obtain ⟨⟨i,r2⟩,F,g⟩:=bind_some g;obtain ⟨⟨ks,W⟩,J,g⟩:=O7.mp g;injection g with g1 g2
 have O:=kO G;have S:=bJ F;have U:=sL J;simp only at O S U g2;rw [<- g2];lia
theorem Fg{ws r:List Str}(h:cI ws=some (ts,r)):3*ts.length<=ws.length:=by
 unfold cI at h;obtain ⟨⟨a,r1⟩,F,g⟩:=bind_some h;have G:=bJ F;have g:aS a.toNat [] r1=some (ts,r):=g;obtain ⟨J,O⟩:=yA g;simp only [Sx] at G J;lia
structure SoI(H:Hp)(ts:List T3)(i:Nat)(τ:L2.St)(ys:List V)(H':Hp):Prop where
 ex:∃t1 t2 t3,τ=[t1,t2,t3]
 ys:ys=((ts.take i).map (·.1)).map V.int
 same:zj H H'
def jU(c:Tab×List (Str×Tab))(ts:List T3):Prop:=(ts.map (·.1)).Perm (uniq (zW c.1 c.2))/\(ts.map (·.1)).Pairwise (·<=·)
open Classical in
noncomputable def fq(c:Tab×List (Str×Tab))(ts:List T3):Bool:=decide (jU c ts)
theorem qF:fq c ts=true↔jU c ts:=by classical exact decide_eq_true_iff
noncomputable def cB:List Str->Option ((Int×Int)×(Tab×List (Str×Tab))×List T3)
 | []=>none
 | z::ws=>if z="mark" then (zO ws).bind λa=>(zO a.2).bind λb=>(rdF b.2).bind λc=>(cI c.2).bind λd=>if d.2=[]/\fq c.1 d.1=true then some ((a.1,b.1),c.1,d.1) else none else none
structure C7(A:zi)(H:Hp)(p:Addr)(ws:List Str)(Q:VK)(E:XK):Prop where
 w:ws.length<=3003
 lv:∀Xh u us r,(∀v∈Xh,v∈ws)->rdF Xh=some ((u,us),r)->(uniq (zW u us)).length<64/\us.length<=4000
 q:∀m n u us ts,cB ws=some ((m,n),(u,us),ts)->jy ts/\∀x fx b k d H',But p H H'->aY A H' x fx b k d u us ts n (m+1)->Q (.ref x) H'
 e:cB ws=none->∀H',But p H H'->E (.ref A.NoPart) none H'
def w8(A:zi):Sp:=λvs H Q E=>∃(p:Addr)(ws:List Str),vs=[.ref p]/\zS A H p ws/\C7 A H p ws Q E
theorem jo:zy WR WJ (zm i3):=fsc
theorem Om:bb { kind:=.function,names:=[(Ou ".0",.local),(Ou "birth",.local),(Ou "stretch",.local),(Ou "place",.local)],isGenerator:=false,isCoroutine:=false,more:=[] } (zm i3).names WR XC [none,none,none]=true:=by decide +kernel
theorem pT:(XC:List Str).Nodup:=by decide +kernel
theorem CZ(F:Fun K "state_of" "state_of" i3 f fd)(T:Txt K mg A)(Z3:GMX P w K mg base true 2 A.Words V6 Zg (mj A))(Z9:GMX P w K mg base true 3 A.Words Wc Zg (jI A))(Y4:GX P w K mg base true 6 V1 WJ (Ah A))(Y3:GX P w K mg base true 4 V2 WJ (xp A))(Zr:GMX P w K mg base true 2 A.Words "take_end" Zg (sD A))(ZY:GM P w K mg base true 1 A.ot "living" Zg (mq A))(Zk:GC P w K mg base true 5 "State" A.State Ys (kh A)):zq P w K mg base (CXW P w) true 7 f fd WJ (w8 A):=by
 refine F.oW jo λZ1 Ar outer s H vs Q E J h=>?_;obtain ⟨p,ws,rfl,hW,h⟩:=h;have hu:_<cLine:=Qt (bo J);have O:=dw (cm:=true) (P:=P) (w:=w) (K:=K) (mg:=mg) (base:=base) (N:=WR) (qual:="state_of") (scope:=zm i3) (f:=f) (cd:=Z1) (A:=Ar) (outer:=outer) (s:=s) (H:=H) (E:=E);refine {_,(W.h (zh (af (tD (aF (clO (oE (iP hu))) (clE (cG (cx (clE (zb 0)) T.nT O Z3 J))) (clE (dM rfl T.U2)) (aH _)))
   (zo (dS rfl O T.sU rfl T.xy (zd aL ze)))
   aa)
   (zh (zC (i:=1) jo.nd rfl (OL rfl) (cG (cx (clE (zb 0)) T.nT O Z9 J)))
   (zh (zC (i:=2) jo.nd rfl (OL rfl) (cG (cx (clE (zb 0)) T.nT O Z9 J)))
   (zh (zC (i:=3) jo.nd rfl (OL rfl) (cXD (dP O Y4 J rfl (clP (zd (zb 0) ze)))))
   (zh (zC (i:=4) jo.nd rfl (OL rfl) (cXD (dP O Y3 J rfl (clP (zd (zb 0) ze)))))
   (zh (aJ (cG (cx (clE (zb 0)) T.nT O Zr J)))
   (zh (af (tD (aF (clO (oE (iP hu))) (clE (fj (λ_=>rfl) (z6.of Om) (liD (bM (clE (zb 4)))) (λ_ _ _ _ _=>(pL (n:=3) (gsD (aA (zD (i:=0) pT rfl (OL rfl)) (gsD (aA (zD (i:=1) pT rfl (OL rfl)) (gsD (aA (zD (i:=2) pT rfl (OL rfl)) d5)))))))) (λ_ _ _ _ _=>cn) (λ_ _ _ _ _=>(zb 0)))) (clE (m0D (zY (clE (zb 3)) T.mu ZY J))) (aH _)))
   (zo (dS rfl O T.sU rfl T.xy (zd aL ze)))
   aa)
   (zo (zB (ja Zk J rfl (zd (zb 3) (zd (zb 4) (zd (zb 2) (zd (zI bw (zb 1) zu) ze))))))))))))))),?_}
 obtain ⟨dx,wl,pre,e1,_⟩:=hW.ex;erw [e1,pP];refine {p,ws,rfl,hW,λz r0 ez H1 U W1=>?_,λe0=>?_}
 rotate_left
 .subst e0;exact {_,rfl,h.e rfl H (.of (zj.refl _))}
 subst ez;have hl:=h.w;rw [Pr] at hl;ac_rfl;by_cases hz:z="mark"
 rotate_left
 .rw [decide_eq_false hz];ac_rfl;exact {'d',h.e (if_neg hz) H1 U}
 rw [decide_eq_true hz];have G:cB (z::r0)=(zO r0).bind λa=>(zO a.2).bind λb=>(rdF b.2).bind λc=>(cI c.2).bind λd=>if d.2=[]/\fq c.1 d.1=true then some ((a.1,b.1),c.1,d.1) else none:=if_pos hz;obtain ⟨Xw,bf,a8,Xq,_⟩:=W1.ex;erw [Xq,dU];refine {p,r0,rfl,W1,λm r1 em m0 m1 H2 Z W2=>?_,λem H2 Z=>?_}
 rotate_left
 .ac_rfl;exact {_,rfl,h.e (by rw [G,em];rfl) H2 (U.trans Z)}
 obtain ⟨y1,rfl⟩:=iT em;rw [em] at G;obtain ⟨Xx,bt,a7,a3,_⟩:=W2.ex;erw [a3,dU];refine {p,r1,rfl,W2,λn r2 en n0 n1 H3 b3 W3=>?_,λen H3 b3=>?_}
 rotate_left
 .ac_rfl;exact {_,rfl,h.e (by rw [G];show (zO r1).bind _=_;rw [en];rfl) H3 ((U.trans Z).trans b3)}
 obtain ⟨y2,rfl⟩:=iT en;rw [Pr,Pr] at hl;have G:cB (z::y1::y2::r2)=(rdF r2).bind λc=>(cI c.2).bind λd=>if d.2=[]/\fq c.1 d.1=true then some ((m,n),c.1,d.1) else none:=by rw [G];show (zO (y2::r2)).bind _=_;rw [en];rfl
 ac_rfl;refine {p,r2,rfl,W3,'l',λu us r3 eu q4 aI k4 H4 b4 _ _ _ F4 W4=>?_,λeu H4 b4=>?_}
 rotate_left
 .ac_rfl;exact {_,rfl,h.e (by rw [G,eu];rfl) H4 (((U.trans Z).trans b3).trans b4)}
 have lv:=h.lv r2 u us r3 (λv hv=>Oy _ (Oy _ (Oy _ hv))) eu;rw [eu] at G;have l3:r3.length<=r2.length:=KP eu;ac_rfl;refine {p,r3,rfl,W4,'l',λts r4 es sl as H5 b5 bL Xv pr W5=>?_,λes H5 b5=>?_}
 rotate_left
 .ac_rfl;exact {_,rfl,h.e (by rw [G];show (cI r3).bind _=_;rw [es];rfl) H5 ((((U.trans Z).trans b3).trans b4).trans b5)}
 have S:=(((U.trans Z).trans b3).trans b4).trans b5;have G:cB (z::y1::y2::r2)=if r4=[]/\fq (u,us) ts=true then some ((m,n),(u,us),ts) else none:=by rw [G];show (cI r3).bind _=_;rw [es];rfl
 have F5:=F4.Vg b5 W4;obtain ⟨bq,ba,a9,a6,_⟩:=W5.ex;erw [a6,KL];refine {p,r4,rfl,W5,λer=>?_,λer=>?_}
 rotate_left
 .ac_rfl;exact {_,rfl,h.e (by rw [G];exact if_neg λc=>er c.1) H5 S}
 ac_rfl;have ai:=aK pr;have bx:ts.length<=3003:=by have:=Fg es;lia
 refine {{_,SqL.of Xv},aM.lst (xs:=as.map V.ref) (SoI H5 ts) (λi τ ys H' I=>by rw [I.ys,Ow,Ow,Qf];exact br 'l') (λi τ ys H' I=>SqL.of (I.same _ _ Xv)) {{_,_,_,rfl},rfl,zj.refl _} ?_ ?_}
 .intro N i v τ ys H' hv I hN;obtain ⟨t1,t2,t3,rfl⟩:=I.ex;rw [OT] at hv;obtain ⟨r,ax,rfl⟩:=O7.mp hv;have hi:i<ts.length:=by rw [<- ai];exact (OG.mp ax).1
  have XY:ts[i]?=some ts[i]:=KE hi;have g1:=I.same _ _ (bY pr ax XY);refine {r,_,rfl,SqT.of g1,rfl,?_};ac_rfl;refine hN _ _ _ {{_,_,_,rfl},?_,I.same};rw [I.ys,Pi,XY,Pe,Pe];rfl
 .intro τ ys H6 I D H7 n7;have ey:=I.ys;rw [Ow,ai,OU (OA _)] at ey;rw [ey] at n7;have WV:zj H5 H7:=I.same.trans n7.same;have F7:=F5.same WV;obtain ⟨bp,aT⟩:=F7.ob;erw [aT,qT];refine {q4,aI,k4,u,us,rfl,F7,lv.1,lv.2,λl ns H8 s8 nl el pm so=>?_};have a5:=s8 _ _ n7.at_;erw [a5,el];refine {kC,kC,?_};rw [Gw];by_cases hn:ts.map (·.1)=ns
  rotate_left
  .rw [if_pos (by rw [decide_eq_false hn];rfl)];refine {'d',h.e ?_ H8 (S.trans (.of (WV.trans s8)))};rw [G];refine if_neg λc=>hn ?_;have c:jU (u,us) ts:=qF.mp c.2;exact qt c.2 so (c.1.nodup_iff.mpr dD) (pm.nodup_iff.mpr dD) λy=>by rw [c.1.mem_iff,pm.mem_iff]
  rw [if_neg (by rw [decide_eq_true hn];decide)];have ok:fq (u,us) ts=true:=by
   refine qF.mpr ?_;unfold jU;rw [hn];exact ⟨pm,so⟩
  obtain ⟨a4,q2⟩:=h.q m n u us ts (by rw [G];exact if_pos ⟨er,ok⟩);intro x dx H9 nI;have F8:=F7.same s8;have av:zj H5 H9:=(WV.trans s8).trans nI.same;refine {x,q4,aI,k4,sl,dx,n,m+1,u,us,as,ts,rfl,nI.at_,F8.same nI.same,.inl (av _ _ Xv),Paired.ti pr λr v e=>.inl (av _ _ e),a4,λfx b' k' d' H10 a0 _ _ _ _ st _=>{rfl,?_}};refine q2 x fx b' k' d' H10 (λc o nc e=>?_) st;have e8:=s8 _ _ (WV _ _ (S _ _ nc e));exact a0 _ _ (zH e8 nI.no) (nI.same _ _ e8)
end
theorem But.gone{p:Addr}(x:But p H H')(n:H p=none):zj H H':=λa o e=>x a o (λz=>by rw [<- z,e] at n;cases n) e
def aG(b:Str):Str:=Pw b none (some (-1))
theorem JQ(h:asc b=true):asc (aG b)=true/\(aG b).length<=b.length:=by
 unfold aG;by_cases G:0<(sg b).length
 .rw [lY G];refine {oF h λc F=>List.dropLast_subset _ F,?_};rw [hJ,List.length_dropLast,zM];lia
 .have e:b="":=hU (QJ.mp 'l');subst e;decide +kernel
noncomputable def rdZ(z:Str):Option ((Int×Int)×(Tab×List (Str×Tab))×List T3):=(cc z).bind λb=>cB (wds (aG b))
section
variable {P:OE}{w:OW}{K:Frag}{mg:Str->Option Value}{base:Heap}{A:zi}
structure K5(A:zi)(H:Hp)(z:Str)(Q:VK)(E:XK):Prop where
 a:asc z=true
 l:z.length<=100000
 w:(wds (aG (aP z))).length<=3003
 lv:∀Xh u us r,(∀v∈Xh,v∈wds (aG (aP z)))->rdF Xh=some ((u,us),r)->(uniq (zW u us)).length<64/\us.length<=4000
 q:∀m n u us ts,rdZ z=some ((m,n),(u,us),ts)->jy ts/\∀x fx b k d H',zj H H'->aY A H' x fx b k d u us ts n (m+1)->Q (.ref x) H'
 e:rdZ z=none->∀H',zj H H'->E (.ref A.S2) none H'
def qN(K:Frag)(A:zi):Sp:=λvs H Q E=>∃(v:V),vs=[v]/\((∃z,v = .str z/\K5 A H z Q E)\/(∃t,TyX K H v t/\kitOne K t (.type "str")=some false/\E (.ref A.S2) none H))
theorem w6:zy ["text","body"] WQ (zm lE):=fsc
theorem MR(F:Fun K VT VT lE f fd)(T:Txt K mg A)(YA:GF P w K mg base true 3 "body_of" WQ (vw K))(X7:GC P w K mg base true 1 "Words" A.Words WK (ve A))(YI:GX P w K mg base true 7 "state_of" WJ (w8 A)):zq P w K mg base (CXW P w) true 8 f fd WQ (qN K A):=by
 refine F.oW w6 λZ1 Ar outer s H vs Q E J h=>?_;obtain ⟨v,rfl,h⟩:=h;have Th:=dw (cm:=true) (P:=P) (w:=w) (K:=K) (mg:=mg) (base:=base) (N:=["text","body"]) (qual:=VT) (scope:=zm lE) (f:=f) (cd:=Z1) (A:=Ar) (outer:=outer) (s:=s) (H:=H) (E:=E);refine {_,(W.h (zh (zC (i:=1) w6.nd rfl (OL rfl) (caD (zL YA J rfl (clP (zd (zb 0) ze)))))
   (zh (af (tD (aF (clO MQ) (clE (zb 1)) (clE cy) (aH _)))
   (zo (dS rfl Th T.Hx rfl T.US (zd aL ze)))
   aa)
   (zo (Ds rfl rfl {rfl,rfl} T.sU rfl T.xy (λGo Ex=>(zo (zB (cXD (dP pR YI J rfl (clP (zd (ja X7 J rfl (zd (fW gE (zb 1) fR (fA (AJ yN zu))) ze)) ze))))))) Th (λGo ea U=>by
   have J:=J.mark (v:=some (.ref ea));exact (zo (KJ U T.Hx rfl T.US (zd aL ze))))))))),?_}
 ac_rfl;rcases h with ⟨z,rfl,h⟩|⟨t,ht,hf,qe⟩
 rotate_left
 .refine {_,rfl,.inr {t,ht,hf,?_}};ac_rfl;exact {'d',qe}
 refine {_,rfl,.inl {z,rfl,h.a,h.l,λH1 s1=>?_}};cases G:cc z with
 | none =>
  show dF false V.non V.non H1 _;ac_rfl;exact {'d',h.e (by unfold rdZ;rw [G];rfl) H1 s1}
 | some b =>
  have eb:b=aP z:=by
   unfold cc at G;split at G
   .exact (Pa.inj G).symm
   .cases G
  have eZ:rdZ z=cB (wds (aG b)):=by unfold rdZ;rw [G];rfl
  obtain ⟨a1,a2⟩:=A1 h.a;rw [<- eb] at a1 a2;obtain ⟨c1,c2⟩:=JQ a1;have hl:=h.l;have hw:=h.w;have hv:=h.lv;rw [<- eb] at hw hv;have es:Pw b none (some (-1))=aG b:=rfl;have eo:A3 (some b) = .str b:=rfl;rw [eo];erw [es];refine {bB 'l',λx dx H2 O=>{x,dx,aG b,rfl,O.at_,c1,'l','l',λH3 b3 S=>{rfl,x,_,rfl,S,hw,hv,λm n u us ts e=>?_,λe H4 Z=>?_}}}
  .obtain ⟨so,q⟩:=h.q m n u us ts (by rw [eZ];exact e);exact {so,λy fx b k d H4 Z st=>q y fx b k d H4 (s1.trans ((((But.of O.same).trans b3).trans Z).gone O.no)) st}
  .have s4:zj H1 H4:=(((But.of O.same).trans b3).trans Z).gone O.no;exact {_,rfl,T.sU,T.a5,λea oe na xo=>{'d',h.e (by rw [eZ];exact e) _ (λc o e=>by have e4:=s4 _ _ (s1 _ _ e);rw [zg (zH e4 na)];exact e4)}}
end
def au(z:Str):Int:=(QP z).getD 0
theorem sZ(h:QP z=some i):au z=i:=by unfold au;rw [h];rfl
theorem ic(z:Str)(ws:List Str):zO (z::ws)=if zT z=true then some (au z,ws) else none:=rfl
theorem pq:∀(n:Nat)(l:List Int)(ws:List Str),bI n l ws=if n<=ws.length/\(ws.take n).all zT=true then some (l++(ws.take n).map au,ws.drop n) else none
 | 0,l,ws=>by
  rw [if_pos {Pz _,'z'}];simp [bI]
 | n+1,l,[]=>by
  rw [if_neg (λh=>by have:=h.1;simp at this)];rfl
 | n+1,l,z::ws=>by
  have e:bI (n+1) l (z::ws)=(zO (z::ws)).bind λa=>bI n (l++[a.1]) a.2:=rfl;rw [e,ic];by_cases hz:zT z=true
  .rw [if_pos hz];show bI n (l++[au z]) ws=_;rw [pq n];simp [hz]
  .rw [if_neg hz,if_neg (λh=>hz (by have:=h.2;simp at this;exact this.1))];rfl
theorem xq:∀(l:List Nat)(a:Nat),a<=l.foldl (λZ2 c=>Z2*10+(c-48)) a
 | [],_=>OA _
 | c::l,a=>Pj 'l' (xq l (a*10+(c-48)))
theorem oG(h:zT z=true):(au z=0)↔z="0":=by
 refine {λe=>Qq λhz=>?_,λe=>by subst e;decide +kernel};unfold zT bE at h;rw [O5,O5,O5,decide_eq_true_eq,decide_eq_true_eq,decide_eq_false hz,Bool.false_or] at h;obtain ⟨⟨⟨h1,h2⟩,h3⟩,h4⟩:=h;have hd:∀c∈sg z,48<=c/\c<=57:=by
  intro c J;have:=Pg.mp h3 c J;have hf:sg FIG=[48,49,50,51,52,53,54,55,56,57]:=by decide
  rw [hf] at this;have:=Qz.mp this;simp only [OK,PD,or_false] at this;omega
 obtain ⟨c,cs,F⟩:∃c cs,sg z=c::cs:=List.exists_cons_of_length_pos (by rw [zM];lia);have O:=sZ (intText_digits (x:=z) hd (λe=>by rw [show sg z=[] from e] at F;cases F) 'l');have J:c≠48:=λx=>by
  rw [F,x] at h4;have h4:(!decide (tx [48]="0"))=true:=h4;exact absurd h4 'd'
 have b:=hd c (by rw [F];exact OB ..);rw [O] at e;have G:(sg z).foldl (λZ2 c=>Z2*10+(c-48)) 0=0:=by exact_mod_cast e
 rw [F] at G;have:=xq cs (0*10+(c-48));have G:cs.foldl (λZ2 c=>Z2*10+(c-48)) (0*10+(c-48))=0:=G;lia
theorem ow(y z:Str)(ws:List Str):cO y (z::ws)=if aN z=true/\y.cps.toList<z.cps.toList then some (z,ws) else none:=by
 have e:iZ (z::ws)=if aN z=true then some (z,ws) else none:=rfl;unfold cO;rw [e];by_cases hz:aN z=true
 .by_cases F:y.cps.toList<z.cps.toList
  .rw [if_pos hz,if_pos ⟨hz,F⟩];exact if_pos F
  .rw [if_pos hz,if_neg λh=>F h.2];exact if_neg F
 .rw [if_neg hz,if_neg λh=>hz h.1]
theorem FY(c:Nat)(u:Tab)(y z x:Str)(ws:List Str):aZ (c+1) u y (z::x::ws)=if aN z=true/\y.cps.toList<z.cps.toList then (if zT x=true/\x≠"0" then (if (au x).toNat<=ws.length/\(ws.take (au x).toNat).all zT=true then aZ c (zF u z ((ws.take (au x).toNat).map au)) z (ws.drop (au x).toNat) else none) else none) else none:=by
 have e:aZ (c+1) u y (z::x::ws)=(cO y (z::x::ws)).bind λa=>(zO a.2).bind λb=>if b.1=0 then none else (bI b.1.toNat [] b.2).bind λd=>aZ c (zF u a.1 d.1) a.1 d.2:=rfl;rw [e,ow];by_cases h1:aN z=true/\y.cps.toList<z.cps.toList
 .rw [if_pos h1,if_pos h1];show (zO (x::ws)).bind _=_;rw [ic];by_cases h2:zT x=true
  .rw [if_pos h2];show (if au x=0 then none else _)=_;by_cases h3:x="0"
   .rw [if_pos ((oG h2).mpr h3),if_neg λh=>h.2 h3]
   .rw [if_neg (λz=>h3 ((oG h2).mp z)),if_pos ⟨h2,h3⟩];show (bI (au x).toNat [] ws).bind _=_;rw [pq];split<;>rfl
  .rw [if_neg h2,if_neg λh=>h2 h.1];rfl
 .rw [if_neg h1,if_neg h1];rfl
theorem tO{ws r:List Str}(h:cO y ws=some (z,r)):ws=z::r/\aN z=true/\y.cps.toList<z.cps.toList:=by
 cases ws with
 | nil=>cases h
 | cons v ws =>
  rw [ow] at h;split at h
  .rename_i F;injection h with h;injection h with h1 h2
   subst h1 h2;exact {rfl,F.1,F.2}
  .cases h
theorem ui{α:Type}:eS ([]:List (Str×α)) y:=λm F=>nomatch F
theorem vg:∀{n:Nat}{t u:Tab}{y:Str}{ws r:List Str},aZ n t y ws=some (u,r)->(names t).Nodup->(names u).Nodup
 | 0,_,_,_,_,_,h,F=>by injection h with h;injection h with h1 h2;rw [h1] at F;exact F
 | n+1,t,u,y,ws,r,h,F=>by
  obtain ⟨⟨z,r1⟩,e,g⟩:=bind_some h;obtain ⟨⟨i,r2⟩,J,g⟩:=bind_some g;have g:(if i=0 then none else (bI i.toNat [] r2).bind λc=>aZ n (zF t z c.1) z c.2)=some (u,r):=g;split at g
  .cases g
  .obtain ⟨⟨l,O⟩,G,g⟩:=bind_some g;exact vg g (kK F)
theorem On{ws r:List Str}(h:rdT ws=some (u,r)):(names u).Nodup:=by
 obtain ⟨⟨i,r1⟩,e,g⟩:=bind_some h;exact vg g (by simp [names])
theorem Bh:∀{n:Nat}{ks us:List (Str×Tab)}{y:Str}{ws r:List Str},rdK n ks y ws=some (us,r)->(names ks).Nodup->(∀p∈ks,(names p.2).Nodup)->(names us).Nodup/\∀p∈us,(names p.2).Nodup
 | 0,_,_,_,_,_,h,F,G=>by injection h with h;injection h with h1 h2;rw [h1] at F G;exact ⟨F,G⟩
 | n+1,ks,us,y,ws,r,h,F,G=>by
  obtain ⟨⟨z,r1⟩,e,g⟩:=bind_some h;obtain ⟨⟨t,r2⟩,O,g⟩:=bind_some g;refine Bh g (kK F) λp J=>?_;rcases eR J with h|h
  .exact G p h
  .rw [h];exact On O
theorem Az(h:∃a,sg b=a++[32]):wds b=wds (aG b)++[("":Str)]:=by
 obtain ⟨a,F⟩:=h;have e:sg (aG b)=a:=by
  unfold aG;rw [lY (by rw [F];simp),ao,F,SQ]
 rw [de,de,e,F,jJ (c:=32) [] a,Pe];rfl
def iw:List Str->List T3
 | a::b::c::r=>(au a,au b,au c)::iw r
 | _=>[]
theorem um:∀(n:Nat)(ts:List T3)(r:List Str),r.length=3*n->aS n ts r=if r.all zT=true then some (ts++iw r,[]) else none
 | 0,ts,r,h=>by
  have:r=[]:=QJ.mp 'l';subst this;show some (ts,[])=_;simp [iw]
 | n+1,ts,r,h=>by
  match r,h with
  | a::b::c::r,h =>
   show ((zO (a::b::c::r)).bind λx=>(zO x.2).bind λy=>(zO y.2).bind λz=>aS n (ts++[(x.1,y.1,z.1)]) z.2)=_;rw [ic];by_cases J:zT a=true
   .rw [if_pos J];show ((zO (b::c::r)).bind λy=>(zO y.2).bind λz=>aS n (ts++[(au a,y.1,z.1)]) z.2)=_;rw [ic];by_cases F:zT b=true
    .rw [if_pos F];show ((zO (c::r)).bind λz=>aS n (ts++[(au a,au b,z.1)]) z.2)=_;rw [ic];by_cases G:zT c=true
     .rw [if_pos G];show aS n (ts++[(au a,au b,au c)]) r=_;rw [um n _ r (by simp only [Pr] at h;lia)];simp [J,F,G,iw]
     .rw [if_neg G,if_neg (by simp [G])];rfl
    .rw [if_neg F,if_neg (by simp [F])];rfl
   .rw [if_neg J,if_neg (by simp [J])];rfl
  | [],h=>simp at h
  | [_],h=>simp at h;lia
  | [_,_],h=>simp at h;lia
theorem xG:∀{n:Nat}{ts us:List T3}{ws r:List Str},aS n ts ws=some (us,r)->r.length+3*n=ws.length
 | 0,ts,us,ws,r,h=>by injection h with h;injection h with h1 h2;rw [h2];rfl
 | n+1,ts,us,ws,r,h=>by
  obtain ⟨⟨a,r1⟩,G,g⟩:=bind_some h;obtain ⟨⟨b,r2⟩,F,g⟩:=bind_some g;obtain ⟨⟨c,W⟩,J,g⟩:=bind_some g;have O:=bJ G;have S:=bJ F;have U:=bJ J;have g:aS n (ts++[(a,b,c)]) W=some (us,r):=g;have Z:=xG g;simp only at O S U;lia
theorem lS(h:c∉a):aj c a=[a]:=by
 have:=B0 h [];rw [PY] at this;rw [this];show [a++[]]=_;rw [PY]
theorem mM(hx:32∉x):∀{W:List Str},(∀v∈W,32∉sg v)->aj 32 (zE W++x)=W.map sg++[x]
 | [],_=>lS hx
 | v::W,h=>by
  have e:zE (v::W)++x=sg v++32::(zE W++x):=by simp [zE]
  rw [e,jJ,lS (h v (OB ..)),mM hx λu F=>h u (Oy _ F)];rfl
theorem Ob{W:List Str}(h:∀v∈W,32∉sg v):wds (cN (tx (zE W)))=W++[(toString (bN (tx (zE W))):Str)++";"]:=by
 have F:=g8 (fG (tx (zE W))).1 (by have:=(fG (tx (zE W))).2;lia);have e:sg (cN (tx (zE W)))=zE W++sg ((toString (bN (tx (zE W))):Str)++";"):=by
  unfold cN;rw [bO,bO,bO,ao,O6]
 rw [de,e,mM ?_ h,Pe,Qp]
 .have:(tx∘sg)=id:=funext λz=>eB z;rw [this,SU,List.map_singleton,eB]
 .rw [bO];intro k;rcases OY.mp k with k|k
  .have:=F.dig 32 k;lia
  .revert k;decide +kernel
theorem Lu(x:Str):zT (x++";")=false:=by
 cases e:zT (x++";") with
 | false=>rfl
 | true =>
  unfold zT bE at e;rw [O5,O5,Pg] at e;have:=e.1.2 59 (by rw [bO];exact Ox _ (f!""));exact absurd this (f!"")
def aw(t:Tab)(zs:List Str):Tab:=zs.map λn=>(n,lk t n)
noncomputable def bC(ks:List (Str×Tab))(zs:List Str):List (Str×Tab):=zs.map λn=>(n,aw (kkT ks n) (zt (names (kkT ks n))))
theorem vE{α:Type}{t:List (Str×α)}{a:α}(h:look t n=none):zF t n a=t++[(n,a)]:=by unfold zF;rw [h];rfl
def ltS(a b:Str):Prop:=a.cps.toList<b.cps.toList
theorem MB(nd:ks.Nodup):(zt ks).Pairwise ltS:=by
 obtain ⟨p,h⟩:=aB ks;have F:(zt ks).Nodup:=p.nodup_iff.mpr nd;refine (h.and F).imp λ{a b} ⟨h1,h2⟩=>Qq λc=>h2 (AH h1 ?_);unfold leS;rw [ltCps_eq];exact decide_eq_false c
theorem yq(h:aN n=true):∃c r,sg n=c::r/\(sg LET).contains c=true:=by
 unfold aN bE at h;rw [O5,O5,decide_eq_true_eq,Pg] at h;cases e:sg n with
 | nil=>have:=h.1.1;rw [<- zM,e] at this;simp at this
 | cons c r=>exact {c,r,rfl,h.2 c (by rw [e];exact OB ..)}
theorem Kb(h:aN n=true):ltS "" n:=by
 obtain ⟨c,r,e,_⟩:=yq h;show ([]:List Nat)<sg n;rw [e];exact List.nil_lt_cons c r
theorem x9(h:aN n=true):zT n=false:=by
 obtain ⟨c,r,e,G⟩:=yq h;rw [QL];intro F;unfold zT bE at F;rw [O5,O5,Pg] at F;have:=F.1.2 c (by rw [e];exact OB ..);have k:∀c∈sg LET,(sg FIG).contains c=false:=by decide +kernel
 rw [k c (Qz.mp G)] at this;cases this
theorem ir(F:0<=i)(h1:i<10 ^ 18):au (toString i:Str)=i:=sZ (g8 F h1).back
theorem dn(F:0<=i)(h1:i<10 ^ 18)(ws:List Str):zO ((toString i:Str)::ws)=some (i,ws):=by rw [ic,if_pos (hX ⟨F,h1⟩),ir F h1]
theorem tZ{t:Tab}(gm:z7 t)(r:List Str):∀(zs:List Str)(Z2:Tab)(y:Str),(∀n∈zs,n∈names t)->(y::zs).Pairwise ltS->eS Z2 y->aZ zs.length Z2 y (cb t zs++r)=some (Z2++aw t zs,r)
 | [],Z2,y,_,_,_=>by show some (Z2,[]++r)=_;rw [R6];unfold aw;rw [Uw,PY]
 | n::zs,Z2,y,J,Z,U=>by
  obtain ⟨l,hl,S,l1,l2,F⟩:=gm.lk (J n (OB ..));obtain ⟨p1,p2⟩:=P9.mp Z;have G:y.cps.toList<n.cps.toList:=p1 n (OB ..);have e:cb t (n::zs)++r=n::(toString ((lk t n).length:Int):Str)::((lk t n).map (λx=>(toString x:Str))++(cb t zs++r)):=by simp [cb]
  rw [e,S,Pr,FY,if_pos {gm.nm n (J n (OB ..)),G}];have nx:zT (toString (l.length:Int):Str)=true:=hX {'l','l'};have O:au (toString (l.length:Int):Str)=l.length:=ir 'l' 'l';have lm:(l.map λx=>(toString x:Str)).length=l.length:=Ow ..;have x0:(toString (l.length:Int):Str)≠"0":=λz=>by
   have:=(oG nx).mpr z;rw [O] at this;lia
  rw [if_pos ⟨nx,x0⟩,O,Qk,<- lm,List.take_left,List.drop_left];have W:(l.map λx=>(toString x:Str)).all zT=true:=by
   rw [Pg];intro z hz;obtain ⟨x,hx,rfl⟩:=Pk.mp hz;exact hX (F x hx)
  rw [if_pos {by rw [Pb];lia,W}];have ev:(l.map λx=>(toString x:Str)).map au=l:=by
   rw [Qp];exact (PV λx hx=>ir (F x hx).1 (F x hx).2).trans (SU _)
  rw [ev,tZ gm r zs (zF Z2 n l) n (λm hm=>J m (Oy _ hm)) p2 (U.put G),vE (U.new G)];unfold aw;rw [PP,S,O6];rfl
theorem cX:∀n∈zt zs,n∈zs:=λn F=>(aB _).1.mem_iff.mp F
theorem lR{α:Type}{t:List (Str×α)}:(zt (names t)).length=t.length:=by rw [(aB _).1.length_eq];simp [names]
theorem yH(h:zs.Nodup)(F:∀n∈zs,aN n=true):(("":Str)::zt zs).Pairwise ltS:=P9.mpr {λn h=>Kb (F n (cX n h)),MB h}
theorem uQ{t:Tab}(gm:z7 t)(r:List Str):rdT (bW t++r)=some (aw t (zt (names t)),r):=by
 have hl:=gm.len;have e:=tZ gm r (zt (names t)) [] "" cX (yH gm.nd gm.nm) ui;unfold rdT bW;rw [QX,dn 'l' 'l'];show aZ (t.length:Int).toNat [] "" _=_;rw [Qk,<- lR];exact e
theorem tJ(gk:aO ks)(r:List Str):∀(zs:List Str)(Z2:List (Str×Tab))(y:Str),(∀n∈zs,n∈names ks)->(y::zs).Pairwise ltS->eS Z2 y->rdK zs.length Z2 y (aW ks zs++r)=some (Z2++bC ks zs,r)
 | [],Z2,y,_,_,_=>by show some (Z2,r)=_;unfold bC;rw [Uw,PY]
 | n::zs,Z2,y,G,U,O=>by
  obtain ⟨u,hl,J,S⟩:=gk.lk (G n (OB ..));obtain ⟨Z,p2⟩:=P9.mp U;have F:y.cps.toList<n.cps.toList:=Z n (OB ..);have e:aW ks (n::zs)++r=n::(bW (kkT ks n)++(aW ks zs++r)):=by simp [aW]
  rw [e,J];show ((cO y (n::(bW u++(aW ks zs++r)))).bind λa=>(rdT a.2).bind λc=>rdK zs.length (zF Z2 a.1 c.1) a.1 c.2)=_;rw [ow,if_pos {gk.nm n (G n (OB ..)),F}];show ((rdT (bW u++(aW ks zs++r))).bind λc=>rdK zs.length (zF Z2 n c.1) n c.2)=_;rw [uQ S];show rdK zs.length (zF Z2 n (aw u (zt (names u)))) n (aW ks zs++r)=_;rw [tJ gk r zs (zF Z2 n _) n (λm W=>G m (Oy _ W)) p2 (O.put F),vE (O.new F)];unfold bC;rw [PP,J,O6];rfl
theorem tq{t:Tab}(gm:z7 t)(gk:aO ks)(r:List Str):rdF (bc t ks++r)=some ((aw t (zt (names t)),bC ks (zt (names ks))),r):=by
 have hl:=gk.len;have e:=tJ gk r (zt (names ks)) [] "" cX (yH gk.nd gk.nm) ui;unfold rdF bc;rw [O6,uQ gm];show ((zO ((toString (ks.length:Int):Str)::(aW ks (zt (names ks))++r))).bind _)=_;rw [dn 'l' 'l'];show (rdK (ks.length:Int).toNat [] "" _).map _=_;rw [Qk,<- lR,e];rfl
theorem wm:∀{ts:List T3},(∀t∈ts,0<=t.1/\t.1<10 ^ 18)->hZ ts->(az ts).all zT=true/\iw (az ts)=ts
 | [],_,_=>{rfl,rfl}
 | t::ts,h,r=>by
  obtain ⟨i1,i2⟩:=wm (ts:=ts) (λu F=>h u (Oy _ F)) (λu F=>r u (Oy _ F));have h1:=h t (OB ..);have h2:=r t (OB ..);have e:az (t::ts)=(toString t.1:Str)::(toString t.2.1:Str)::(toString t.2.2:Str)::az ts:=by simp [az]
  rw [e,Uh,Uh,Uh,i1,hX {h1.1,'l'},hX {h2.1.1,'l'},hX {h2.2.1,'l'}];refine {rfl,?_};show (au _,au _,au _)::iw (az ts)=_;rw [i2,ir h1.1 'l',ir h2.1.1 'l',ir h2.2.1 'l']
theorem rL{t:Tab}(gm:z7 t)(y:Int):y∈zX (aw t (zt (names t)))↔y∈zX t:=by
 rw [eK,eK];constructor
 .rintro ⟨p,F,G⟩;obtain ⟨n,O,rfl⟩:=Pk.mp F;obtain ⟨l,hl,J,_⟩:=gm.lk (cX n O);exact {(n,l),dR hl,by rw [<- J];exact G}
 .rintro ⟨p,F,G⟩;have e:=iB gm.nd (show (p.1,p.2)∈t from F);exact {(p.1,lk t p.1),Pk.mpr {p.1,(aB _).1.mem_iff.mpr (Pk.mpr {p,F,rfl}),rfl},by unfold lk;rw [e];exact G}
theorem A2{t:Tab}(gm:z7 t)(gk:aO ks)(y:Int):y∈zW (aw t (zt (names t))) (bC ks (zt (names ks)))↔y∈zW t ks:=by
 rw [ck,ck,rL gm];refine or_congr_right {?_,?_}
 .rintro ⟨p,F,G⟩;obtain ⟨n,U,rfl⟩:=Pk.mp F;obtain ⟨u,hl,J,O⟩:=gk.lk (cX n U);exact {(n,u),dR hl,by rw [J] at G;exact (rL O y).mp G}
 .rintro ⟨p,F,G⟩;have e:=iB gk.nd (show (p.1,p.2)∈ks from F);have S:kkT ks p.1=p.2:=by unfold kkT;rw [e];rfl
  exact {_,Pk.mpr {p.1,(aB _).1.mem_iff.mpr (Pk.mpr {p,F,rfl}),rfl},by show y∈zX (aw (kkT ks p.1) _);rw [S];exact (rL (gk.gm p F) y).mpr G}
theorem GA{t:Tab}(gm:z7 t)(gk:aO ks)(gs:eG ts m n)(pm:(ts.map (·.1)).Perm (uniq (zW t ks)))(O:(ts.map (·.1)).Pairwise (·<=·)):rdZ (bu m n t ks ts)=some ((m,n),(aw t (zt (names t)),bC ks (zt (names ks))),ts):=by
 have wd:=(ip gm gk gs).1;have few:=gs.few;obtain ⟨t1,t2⟩:=wm gs.b gs.r;have J:=(h6 gs.b gs.r).2;have F:∃a,zE (zR m n t ks ts)=a++[32]:=by
  have:∀(v:Str)(W:List Str),∃a,zE (v::W)=a++[32]:=λv W=>{_,(lT v W).symm};exact this _ _
 have G:=MV F;have S:wds (aG (tx (zE (zR m n t ks ts))))=zR m n t ks ts:=by
  have h1:=Az (b:=tx (zE (zR m n t ks ts))) (by rw [ao];exact F);have h2:=mM (x:=[]) 'z' λv hv=>(wd v hv).no;rw [PY] at h2;rw [de,ao,h2,Pe,Qp,show (tx∘sg)=id from funext λz=>eB z,SU] at h1;exact (Rc h1).symm
 unfold rdZ cc bu;rw [G,if_pos rfl];show cB (wds (aG (tx (zE (zR m n t ks ts)))))=_;rw [S];unfold zR;rw [cB,if_pos rfl,dn gs.m.1 gs.m.2];show (zO ((toString n:Str)::_)).bind _=_;rw [dn gs.n.1 gs.n.2];show (rdF (bc t ks++(toString (ts.length:Int):Str)::az ts)).bind _=_;rw [tq gm gk];show ((zO ((toString (ts.length:Int):Str)::az ts)).bind _).bind _=_;rw [dn 'l' 'l'];show (aS (ts.length:Int).toNat [] (az ts)).bind _=_;rw [Qk,um _ _ _ J,if_pos t1,t2];show (if _/\fq _ ts=true then _ else _)=_;refine if_pos {rfl,qF.mpr {pm.trans ((QA dD dD).mpr λy=>by rw [fb,fb];exact (A2 gm gk y).symm),O}}
theorem A5{ts us ws:List T3}(nd:(ts.map (·.1)).Nodup)(F:us.Perm ts)(s1:(us.map (·.1)).Pairwise (·<=·))(p2:ws.Perm ts)(s2:(ws.map (·.1)).Pairwise (·<=·)):us=ws:=by
 have e:us.map (·.1)=ws.map (·.1):=qt s1 s2 ((F.map _).nodup_iff.mpr nd) ((p2.map _).nodup_iff.mpr nd) λy=>by rw [(F.map _).mem_iff,(p2.map _).mem_iff]
 have f:∀vs:List T3,vs.Perm ts->(vs.map (·.1)).map (dY ts)=vs:=λvs p=>by
  rw [Qp];exact (PV λt G=>lN nd (p.mem_iff.mp G)).trans (SU _)
 rw [<- f us F,e,f ws p2]
def Src(ws:List Str)(x:Int):Prop:=∃v∈ws,zT v=true/\au v=x
theorem Src.mono(h:Src ws x)(s:∀v∈ws,v∈F):Src F x:=let ⟨v,hv,r⟩:=h;{v,s v hv,r}
theorem xw:∀{n:Nat}{t u:Tab}{y:Str}{ws r:List Str},aZ n t y ws=some (u,r)->(∀p∈u,p∈t\/∀x∈p.2,Src ws x)/\∀v∈r,v∈ws
 | 0,_,_,_,_,_,h=>by injection h with h;injection h with h1 h2;rw [h1,h2];exact {λp G=>.inl G,λv hv=>hv}
 | n+1,t,u,y,ws,r,h=>by
  obtain ⟨⟨z,r1⟩,e,g⟩:=bind_some h;obtain ⟨⟨i,r2⟩,S,g⟩:=bind_some g;have g:(if i=0 then none else (bI i.toNat [] r2).bind λc=>aZ n (zF t z c.1) z c.2)=some (u,r):=g;split at g
  .cases g
  .obtain ⟨⟨l,Z⟩,F,g⟩:=bind_some g;have s1:∀v∈r1,v∈ws:=λv hv=>by rw [(tO e).1];exact Oy _ hv
   have s2:∀v∈r2,v∈ws:=λv hv=>by
    obtain ⟨x,J⟩:=iT S;refine s1 v ?_;have J:r1=x::r2:=J;rw [J];exact Oy _ hv
   rw [pq] at F;split at F
   .rename_i U;injection F with F;injection F with e4 e5
    have O:∀v∈Z,v∈ws:=λv hv=>s2 v (by rw [<- e5] at hv;exact RL hv);obtain ⟨i1,i2⟩:=xw g;refine {λp G=>?_,λv hv=>O v (i2 v hv)};rcases i1 p G with h|h
    .rcases eR h with h|h
     .exact .inl h
     .right;rw [h];intro x hx;have hx:x∈l:=hx;rw [<- e4,R6] at hx;obtain ⟨v,hv,W⟩:=Pk.mp hx;exact {v,s2 v (Q4 hv),Pg.mp U.2 v hv,W}
    .exact .inr λx hx=>(h x hx).mono O
   .cases F
theorem Ai{ws r:List Str}(h:rdT ws=some (u,r)):(∀y∈zX u,Src ws y)/\∀v∈r,v∈ws:=by
 obtain ⟨⟨i,r1⟩,e,g⟩:=bind_some h;obtain ⟨x,F⟩:=iT e;have F:ws=x::r1:=F;have s1:∀v∈r1,v∈ws:=λv hv=>by rw [F];exact Oy _ hv
 obtain ⟨i1,i2⟩:=xw g;refine {λy G=>?_,λv hv=>s1 v (i2 v hv)};obtain ⟨p,J,G⟩:=eK.mp G;rcases i1 p J with h|h
 .cases h
 .exact (h y G).mono s1
theorem tK:∀{n:Nat}{ks us:List (Str×Tab)}{y:Str}{ws r:List Str},rdK n ks y ws=some (us,r)->(∀p∈us,p∈ks\/(p.1∈ws/\∀y∈zX p.2,Src ws y))/\∀v∈r,v∈ws
 | 0,_,_,_,_,_,h=>by injection h with h;injection h with h1 h2;rw [h1,h2];exact {λp F=>.inl F,λv hv=>hv}
 | n+1,ks,us,y,ws,r,h=>by
  obtain ⟨⟨z,r1⟩,e,g⟩:=bind_some h;obtain ⟨⟨t,r2⟩,O,g⟩:=bind_some g;have J:=(tO e).1;have s1:∀v∈r1,v∈ws:=λv hv=>by rw [J];exact Oy _ hv
  obtain ⟨k1,k2⟩:=Ai O;have s2:∀v∈r2,v∈ws:=λv hv=>s1 v (k2 v hv);obtain ⟨i1,i2⟩:=tK g;refine {λp F=>?_,λv hv=>s2 v (i2 v hv)};rcases i1 p F with h|⟨h,h'⟩
  .rcases eR h with h|h
   .exact .inl h
   .right;rw [h];exact {by rw [J];exact OB ..,λy G=>(k1 y G).mono s1}
  .exact .inr {s2 _ h,λy G=>(h' y G).mono s2}
theorem Ja{ws r:List Str}(h:rdF ws=some ((u,us),r)):(∀y∈zW u us,Src ws y)/\(∀p∈us,p.1∈ws)/\(names us).Nodup:=by
 unfold rdF at h;obtain ⟨⟨t,r1⟩,Z,g⟩:=bind_some h;obtain ⟨⟨i,r2⟩,W,g⟩:=bind_some g;obtain ⟨⟨ks,r3⟩,U,g⟩:=O7.mp g;injection g with g1 g2
 injection g1 with J O
 have J:t=u:=J;have O:ks=us:=O;subst J O;obtain ⟨a1,a2⟩:=Ai Z;obtain ⟨x,ex⟩:=iT W;have ex:r1=x::r2:=ex;have s2:∀v∈r2,v∈ws:=λv hv=>a2 v (by rw [ex];exact Oy _ hv);obtain ⟨S,b2⟩:=tK U;refine {λy F=>?_,λp G=>?_,(Bh U (by simp [names]) 'z').1}
 .rcases ck.mp F with F|⟨p,G,F⟩
  .exact a1 y F
  .rcases S p G with h|⟨_,h⟩
   .cases h
   .exact (h y F).mono s2
 .rcases S p G with h|⟨h,_⟩
  .cases h
  .exact s2 _ h
def Cov(S:List Str)(z:Str):Prop:=∀v∈wds z,zT v=true->v∈S
theorem Ma(h:zT v=true):v≠"":=λe=>by rw [e] at h;exact absurd h (f!"")
theorem JH(hv:v∈wds (aG (aP z))):v∈wds z\/v="":=by
 by_cases h:32∈sg z
 .obtain ⟨a,b,e,F⟩:=jX 32 (sg z) h;have O:aG (aP z)=tx a:=by
   rw [jB e F];unfold aG;rw [lY (by rw [ao];simp),ao,SQ]
  rw [O,de,ao] at hv;left;rw [de,e,jJ,Pe];exact O4 _ hv
 .have G:aP z="":=by
   unfold aP;rw [pG h];have:=gw (x:=z) (j:=0) (Pz _);rw [take_zero] at this;exact this
  have J:wds (aG "")=[("":Str)]:=by
   have:aG "" = "":=by decide +kernel
   rw [this,de];decide +kernel
  rw [G,J] at hv;exact .inr (OS.mp hv)
theorem qy(z:Str):(wds (aG (aP z))).length<=(wds z).length:=by
 by_cases h:32∈sg z
 .obtain ⟨a,b,e,F⟩:=jX 32 (sg z) h;have O:aG (aP z)=tx a:=by
   rw [jB e F];unfold aG;rw [lY (by rw [ao];simp),ao,SQ]
  rw [O,iy,iy,ao,e,TY];lia
 .have G:aP z="":=by
   unfold aP;rw [pG h];have:=gw (x:=z) (j:=0) (Pz _);rw [take_zero] at this;exact this
  have J:aG "" = "":=by decide +kernel
  rw [G,J,iy,iy];have:(sg ("":Str)).count 32=0:=by decide +kernel
  lia
theorem yL(c:Cov S z)(W:S.length<64)(hw:(wds z).length<=3003):∀G u us r,(∀v∈G,v∈wds (aG (aP z)))->rdF G=some ((u,us),r)->(uniq (zW u us)).length<64/\us.length<=4000:=by
 intro G u us r hs h;obtain ⟨h1,h2,h3⟩:=Ja h;constructor
 .have:=l0 (xs:=uniq (zW u us)) (L:=S.map au) dD λy O=>by
   obtain ⟨v,hv,F,e⟩:=h1 y (fb.mp O);refine Pk.mpr {v,?_,e};rcases JH (hs v hv) with k|k
   .exact c v k F
   .exact absurd k (Ma F)
  rw [Ow] at this;lia
 .have:=l0 (xs:=names us) (L:=wds (aG (aP z))) h3 λn F=>by
   obtain ⟨p,J,e⟩:=Pk.mp F;rw [<- e];exact hs _ (h2 p J)
  have U:=qy z;have Z:(names us).length=us.length:=by simp [names]
  lia
def SM:List Str:=(Pm 32).map λ(k:Nat)=>(toString (k:Int):Str)
theorem iE{S:List Str}(h:∀v∈SM,v∈S){i:Int}(F:0<=i)(h1:i<32):(toString i:Str)∈S:=h _ (Pk.mpr {i.toNat,Sw.mpr 'l',by show (toString ((i.toNat:Nat):Int):Str)=_;rw [Int.toNat_of_nonneg F]})
theorem v9{S:List Str}(h:∀v∈SM,v∈S){t:Tab}(gm:z7 t)(J:∀y∈zX t,(toString y:Str)∈S):∀v∈bW t,zT v=true->v∈S:=λv hv e=>by
 have hl:=gm.len;unfold bW at hv;rcases OK.mp hv with rfl|hv
 .exact iE h 'l' 'l'
 .obtain ⟨n,F,hv⟩:=TN.mp hv;have F:=cX n F;obtain ⟨l,hl,G,U,W,O⟩:=gm.lk F;rw [G] at hv;rcases OK.mp hv with rfl|hv
  .rw [x9 (gm.nm _ F)] at e;cases e
  rcases OK.mp hv with rfl|hv
  .exact iE h 'l' 'l'
  .obtain ⟨x,hx,rfl⟩:=Pk.mp hv;exact J x (eK.mpr {(n,l),dR hl,hx})
theorem FM{S:List Str}(h:∀v∈SM,v∈S){t:Tab}(gm:z7 t)(gk:aO ks)(gs:eG ts m n)(O:∀y∈zW t ks,(toString y:Str)∈S)(Z:∀t'∈ts,t'.1∈zW t ks)(m9:(toString m:Str)∈S)(F:(toString n:Str)∈S)(few:ts.length<32):∀v∈zR m n t ks ts,zT v=true->v∈S:=λv hv e=>by
 have hl:=gk.len;unfold zR at hv;rcases OK.mp hv with rfl|hv
 .exact absurd e (f!"")
 rcases OK.mp hv with rfl|hv
 .exact m9
 rcases OK.mp hv with rfl|hv
 .exact F
 rcases OY.mp hv with hv|hv
 .unfold bc at hv;rcases OY.mp hv with hv|hv
  .exact v9 h gm (λy J=>O y (ck.mpr (.inl J))) v hv e
  rcases OK.mp hv with rfl|hv
  .exact iE h 'l' 'l'
  obtain ⟨n,F,hv⟩:=TN.mp hv;have F:=cX n F;obtain ⟨u,hl,U,W⟩:=gk.lk F;rw [U] at hv;rcases OK.mp hv with rfl|hv
  .rw [x9 (gk.nm _ F)] at e;cases e
  .exact v9 h W (λy J=>O y (ck.mpr (.inr {(n,u),dR hl,J}))) v hv e
 rcases OK.mp hv with rfl|hv
 .exact iE h 'l' 'l'
 obtain ⟨t',G,hv⟩:=TN.mp hv;have r:=gs.r t' G;simp only [OK,PD,or_false] at hv;rcases hv with rfl|rfl|rfl
 .exact O _ (Z t' G)
 .exact iE h r.1.1 'l'
 .exact iE h r.2.1 r.2.2
def DG(b:List Nat):List Nat:=sg (toString (bN (tx b)):Str)
theorem dgF(b:List Nat):y8 (bN (tx b)):=g8 (fG _).1 (by have:=(fG (tx b)).2;lia)
theorem lX(b:List Nat)(h:c<48\/57<c):c∉DG b:=λF=>by
 have:=(dgF b).dig c F;lia
theorem mG(b:List Nat):sg (cN (tx b))=b++DG b++[59]:=by
 unfold cN DG;rw [bO,bO,ao];rfl
theorem Ed(h:DG a=DG b):cL 1 a % 65521=cL 1 b % 65521:=by
 have e:(toString (bN (tx a)):Str)=(toString (bN (tx b)):Str):=hU h;have h1:=(dgF a).back;have h2:=(dgF b).back;rw [e,h2] at h1;have:=Pa.inj h1;unfold bN at this;rw [ao,ao] at this;lia
theorem kN{u t:List Nat}(J:32∉t):cc (tx (u++32::t))=if t=DG (u++[32])++[59] then some (tx (u++[32])) else none:=by
 have G:aP (tx (u++32::t))=tx (u++[32]):=jB (by rw [ao]) J;have F:tx (u++32::t)=cN (tx (u++[32]))↔t=DG (u++[32])++[59]:=by
  constructor
  .intro h;have h:=congrArg sg h;rw [ao,mG,O6,show u++32::t=(u++[32])++t by simp] at h;exact QS h
  .intro h;refine hU ?_;rw [ao,mG,O6,<- h];simp
 unfold cc;rw [G];by_cases h:t=DG (u++[32])++[59]
 .rw [if_pos (F.mpr h),if_pos h]
 .rw [if_neg (λx=>h (F.mp x)),if_neg h]
theorem uG(F:c≠59):cc (tx (l++[c]))=none:=by
 unfold cc;refine if_neg λh=>?_;have h:=congrArg sg h;rw [ao,<- eB (aP _),mG] at h;exact F (Sl h rfl |> λz=>by injection z)
theorem DW(h:59∉l):cc (tx l)=none:=by
 rcases RQ l with e|⟨a,c,e⟩
 .rw [e];decide +kernel
 .rw [e,Rm];refine uG λx=>h ?_;rw [e,x,Rm];simp
theorem nC(h:cc z=none):rdZ z=none:=by unfold rdZ;rw [h];rfl
theorem ym{W:List Str}(G:W≠[])(no:∀v∈W,32∉sg v):wds (aG (tx (zE W)))=W:=by
 have F:∃a,zE W=a++[32]:=by
  cases W with
  | nil=>exact absurd rfl G
  | cons v W=>exact {_,(lT v W).symm}
 have h1:=Az (b:=tx (zE W)) (by rw [ao];exact F);have h2:=mM (x:=[]) 'z' no;rw [PY] at h2;rw [de,ao,h2,Pe,Qp,show (tx∘sg)=id from funext λz=>eB z,SU] at h1;exact (Rc h1).symm
theorem MH{m o c r F:Nat}(S:1<=m)(U:m<65521)(J:o<128)(O:c<128)(ne:c≠o):(F+(o*m+r)) % 65521≠(F+(c*m+r)) % 65521:=by
 have G:∀a b:Nat,a<b->b<128->(F+(a*m+r)) % 65521≠(F+(b*m+r)) % 65521:=λa b h1 h2 h=>by
  have e:(b-a)*m=65521*((F+(b*m+r)) / 65521-(F+(a*m+r)) / 65521):=by
   rw [Nat.sub_mul];have:a*m<=b*m:=Nat.mul_le_mul_right _ 'l';lia
  have d:65521 ∣ (b-a)*m:={_,e};have co:∀k:Nat,k<128->0<k->Nat.gcd 65521 k=1:=by decide +kernel
  have:=Nat.Coprime.dvd_of_dvd_mul_left (co (b-a) 'l' 'l') d;exact absurd (Nat.le_of_dvd S this) 'l'
 rcases Nat.lt_or_gt_of_ne ne with h|h
 .exact λx=>G c o h J x.symm
 .exact G o c h O
theorem Fh{r:List Str}(b:∀t∈ts,0<=t.1/\t.1<10 ^ 18)(G:hZ ts):∀Z2,aS ts.length Z2 (az ts++r)=some (Z2++ts,r):=by
 induction ts with
 | nil=>intro Z2;show some (Z2,r)=_;rw [PY]
 | cons t ts J =>
  intro Z2;have h1:=b t (OB ..);have h2:=G t (OB ..);have e:az (t::ts)=(toString t.1:Str)::(toString t.2.1:Str)::(toString t.2.2:Str)::az ts:=by simp [az]
  rw [e];show (zO ((toString t.1:Str)::_)).bind _=_;rw [dn h1.1 h1.2];show (zO ((toString t.2.1:Str)::_)).bind _=_;rw [dn h2.1.1 'l'];show (zO ((toString t.2.2:Str)::_)).bind _=_;rw [dn h2.2.1 'l'];show aS ts.length (Z2++[(t.1,t.2.1,t.2.2)]) (az ts++r)=_;rw [J (λu F=>b u (Oy _ F)) (λu F=>G u (Oy _ F))];simp
theorem sW(b:List Nat):32∉DG b++[59]:=λh=>by
 rcases OY.mp h with h|h
 .exact lX b (.inl 'd') h
 .simp at h
theorem BL{J p q:List Nat}{o c:Nat}(h:J++[32]++DG (J++[32])++[59]=p++o::q)(O:c≠o)(XI:c<128)(ho:o<128)(hl:J.length<65000) :
  cc (tx (p++c::q))=none\/(∃p',32∉p'/\cc (tx (p++c::q))=some (tx (J++[32]++p'++[32])))\/∀U v,J=U++32::v->32∉v->cc (tx (p++c::q))=none\/cc (tx (p++c::q))=some (tx (U++[32])):=by
 have h':(J++[32])++(DG (J++[32])++[59])=p++o::q:=by rw [<- h];simp
 by_cases k1:J.length<p.length
 .obtain ⟨p',W⟩:∃p',p=J++[32]++p':=by
   refine {p.drop (J.length+1),?_};have e3:p.take (J.length+1)=J++[32]:=by
    have e:=congrArg (take (J.length+1)) h';rw [Us 'z',SN 'l'] at e;exact e.symm
   rw [<- e3];exact (QI _ _).symm
  subst W;have h3:DG (J++[32])++[59]=p'++o::q:=by
   rw [O6 (J++[32])] at h';exact QS h'
  rcases RQ q with F|⟨q',x,F⟩
  .subst F;have:o=59:=by
    have:=Sl h3 rfl;injection this with z _
    exact z.symm
   rw [this] at O;exact .inl (uG O)
  .rw [Rm] at F;subst F;have hx:x=59:=by
    rw [show p'++o::(q'++[x])=(p'++o::q')++[x] by simp] at h3;have:=Sl h3 rfl;injection this with z _
    exact z.symm
   subst hx;have h4:DG (J++[32])=p'++o::q':=by
    have Z:DG (J++[32])++[59]=(p'++o::q')++[59]:=by rw [h3];simp
    exact Rc Z
   have np:32∉p':=λx=>lX (J++[32]) (c:=32) (.inl 'd') (by rw [h4];exact O4 _ x);have nq:32∉q'++[59]:=λx=>by
    rcases OY.mp x with x|x
    .exact lX (J++[32]) (c:=32) (.inl 'd') (by rw [h4];exact Ox _ (Oy _ x))
    .simp at x
   by_cases S:c=32
   .subst S;rw [kN nq];split
    .exact .inr (.inl {p',np,rfl})
    .exact .inl rfl
   .left;have e:J++[32]++p'++c::(q'++[59])=J++32::(p'++c::(q'++[59])):=by simp
    rw [e,kN (by
     intro x;rcases OY.mp x with x|x
     .exact np x
     .rcases OK.mp x with x|x
      .exact S x.symm
      .exact nq x),if_neg]
    intro x;rw [h4,O6] at x;have x:=QS x;simp at x;exact O x
 .by_cases k2:p.length=J.length
  .right;right;have W:p=J:=by
    have e:=congrArg (take J.length) h';rw [O6,Us rfl,Us k2] at e;exact e.symm
   subst W;have h3:32::(DG (p++[32])++[59])=o::q:=by
    rw [O6] at h';exact QS h'
   injection h3 with ho32 F
   subst ho32;intro U v ev nv;have e:p++c::q=U++32::(v++c::q):=by rw [ev];simp
   rw [e,kN (by
    intro x;rcases OY.mp x with x|x
    .exact nv x
    .rcases OK.mp x with x|x
     .exact O x.symm
     .rw [<- F] at x;exact sW _ x)]
   split
   .exact .inr rfl
   .exact .inl rfl
  .left;have k3:p.length<J.length:=by lia
   obtain ⟨q',G⟩:∃q',J=p++o::q':=by
    have e:=congrArg (take J.length) h';rw [O6,Us rfl,List.take_append,OU 'l'] at e;obtain ⟨m,hm⟩:∃m,J.length-p.length=m+1:={J.length-p.length-1,'l'};rw [hm,List.take_succ_cons] at e;exact {_,e}
   have F:q=q'++32::(DG (J++[32])++[59]):=by
    have h2:=h';rw [O6] at h2
    conv at h2=>lhs;rw [show ∀t,J++t=(p++o::q')++t from λt=>by rw [<- G]]
    rw [O6] at h2;have h2:=QS h2;injection h2 with _ h2
    rw [<- h2];rfl
   have e:p++c::q=(p++c::q')++32::(DG (J++[32])++[59]):=by rw [F];simp
   rw [e,kN (sW _),if_neg];intro x;have x:=Ed (Rc x);rw [G,show p++o::q'++[32]=p++(o::(q'++[32])) by simp,show p++c::q'++[32]=p++(c::(q'++[32])) by simp,j8,j8] at x;simp only [cL] at x;exact MH 'l' 'l' ho XI O x
section
variable {m n:Int}{t:Tab}{ks:List (Str×Tab)}{ts:List T3} (gm:z7 t) (gk:aO ks) (gs:eG ts m n)
include gm gk gs
theorem ph(r:List Str):cB (("mark":Str)::(toString m:Str)::(toString n:Str)::(bc t ks++r))=(cI r).bind λd=>if d.2=[]/\fq (aw t (zt (names t)),bC ks (zt (names ks))) d.1=true then some ((m,n),(aw t (zt (names t)),bC ks (zt (names ks))),d.1) else none:=by
 rw [cB,if_pos rfl,dn gs.m.1 gs.m.2];show (zO ((toString n:Str)::_)).bind _=_;rw [dn gs.n.1 gs.n.2];show (rdF (bc t ks++r)).bind _=_;rw [tq gm gk];rfl
theorem Ha(x:Str):cB (zR m n t ks ts++[x])=none:=by
 have e:zR m n t ks ts++[x]=("mark":Str)::(toString m:Str)::(toString n:Str)::(bc t ks++((toString (ts.length:Int):Str)::(az ts++[x]))):=by unfold zR;simp
 have few:=gs.few;rw [e,ph gm gk gs];unfold cI;rw [dn 'l' 'l'];show ((aS (ts.length:Int).toNat [] (az ts++[x])).bind _)=_;rw [Qk,Fh gs.b gs.r];simp
theorem Lr{W:List Str}{x:Str}(h:zR m n t ks ts=W++[x]):cB W=none:=by
 have few:=gs.few;have J:=(h6 gs.b gs.r).2;rcases RQ (az ts) with F|⟨S,y,F⟩
 .have G:W=("mark":Str)::(toString m:Str)::(toString n:Str)::(bc t ks++[]):=by
   have h2:zR m n t ks ts=(("mark":Str)::(toString m:Str)::(toString n:Str)::(bc t ks++[]))++[(toString (ts.length:Int):Str)]:=by unfold zR;rw [F];simp
   rw [h2] at h;exact (List.append_inj_left' h rfl).symm
  rw [G,ph gm gk gs];rfl
 .rw [Rm] at F;have G:W=("mark":Str)::(toString m:Str)::(toString n:Str)::(bc t ks++((toString (ts.length:Int):Str)::S)):=by
   have h2:zR m n t ks ts=(("mark":Str)::(toString m:Str)::(toString n:Str)::(bc t ks++((toString (ts.length:Int):Str)::S)))++[y]:=by unfold zR;rw [F];simp
   rw [h2] at h;exact (List.append_inj_left' h rfl).symm
  rw [G,ph gm gk gs];unfold cI;rw [dn 'l' 'l'];show ((aS (ts.length:Int).toNat [] S).bind _)=_;rw [Qk];cases O:aS ts.length [] S with
  | none=>rfl
  | some d =>
   have:=xG (r:=d.2) (us:=d.1) O;rw [F,Pb,PX] at J;lia
theorem xf:sg (bu m n t ks ts)=zE (zR m n t ks ts)++DG (zE (zR m n t ks ts))++[59]:=mG _
theorem Le:59∉zE (zR m n t ks ts):=λh=>by
 have wd:=(ip gm gk gs).1;unfold zE at h;obtain ⟨l,hl,F⟩:=List.mem_flatten.mp h;obtain ⟨v,hv,rfl⟩:=Pk.mp hl;rcases OY.mp F with F|F
 .exact (wd v hv).n9 F
 .simp at F
theorem Fd{k:Nat}(F:k<(sg (bu m n t ks ts)).length):rdZ (tx ((sg (bu m n t ks ts)).take k))=none:=by
 refine nC (DW λh=>?_);rw [xf gm gk gs] at h F;rw [SN (by rw [Pb] at F;simpa using Nat.le_of_lt_succ F)] at h;have h:=Q4 h;rcases OY.mp h with h|h
 .exact Le gm gk gs h
 .exact lX _ (.inr 'd') h
theorem Bw{p q:List Nat}{o c:Nat}(h:sg (bu m n t ks ts)=p++o::q)(hc:c≠o)(XI:c<128)(ho:o<128):rdZ (tx (p++c::q))=none:=by
 obtain ⟨wd,wl⟩:=ip gm gk gs;have no:∀v∈zR m n t ks ts,32∉sg v:=λv hv=>(wd v hv).no;have bl:=(my wd).1;rw [xf gm gk gs] at h;rcases RQ (zR m n t ks ts) with F|⟨W,v,F⟩
 .unfold zR at F;cases F
 rw [Rm] at F;have Z:W≠[]:=λz=>by
  have:=congrArg Tj F;rw [z] at this;unfold zR at this;simp at this
 have U:∀u∈W,32∉sg u:=λu J=>no u (by rw [F];exact O4 _ J);have nv:32∉sg v:=no v (by rw [F];simp);obtain ⟨O,G⟩:∃a,zE W=a++[32]:=by
  cases W with
  | nil=>exact absurd rfl Z
  | cons u W=>exact {_,(lT u W).symm}
 have S:zE (zR m n t ks ts)=(O++32::sg v)++[32]:=by rw [F,hV,G];simp [zE]
 have lJ:(O++32::sg v).length<65000:=by
  have:=congrArg Tj S;rw [Pb (bs:=[32])] at this;lia
 rw [S] at h;rcases BL h hc XI ho lJ with e|⟨p',np,e⟩|e
 .exact nC e
 .have e2:O++32::sg v++[32]++p'++[32]=zE (zR m n t ks ts++[tx p']):=by rw [hV,S];simp [zE,ao]
  unfold rdZ;rw [e,e2];show cB (wds (aG (tx (zE _))))=none;rw [ym 'z' (λu J=>(OY.mp J).elim (no u) λJ=>by rw [OS.mp J,ao];exact np)];exact Ha gm gk gs _
 .rcases e O (sg v) rfl nv with e|e
  .exact nC e
  .unfold rdZ;rw [e,<- G];show cB (wds (aG (tx (zE W))))=none;rw [ym Z U];exact Lr gm gk gs F
end
structure ZOk(z:Str):Prop where
 a:asc z=true
 l:z.length<=100000
 w:(wds z).length<=3003
 c:∃N:List Str,N.length<=63/\Cov N z
theorem AW{t:Tab}(gm:z7 t):z7 (aw t (zt (names t))):=by
 have en:names (aw t (zt (names t)))=zt (names t):=by unfold aw names;rw [Qp];exact SU _
 refine {by rw [en];exact (aB _).1.nodup_iff.mpr gm.nd,by unfold aw;rw [Ow,lR];exact gm.len,λn F=>gm.nm n (cX n (by rw [<- en];exact F)),λp G=>?_};obtain ⟨n,F,rfl⟩:=Pk.mp G;obtain ⟨l,hl,J,r⟩:=gm.lk (cX n F);show 1<=(lk t n).length/\_;rw [J];exact r
theorem Dy(gk:aO ks):aO (bC ks (zt (names ks))):=by
 have en:names (bC ks (zt (names ks)))=zt (names ks):=by unfold bC names;rw [Qp];exact SU _
 refine {by rw [en];exact (aB _).1.nodup_iff.mpr gk.nd,by unfold bC;rw [Ow,lR];exact gk.len,λn F=>gk.nm n (cX n (by rw [<- en];exact F)),λp J=>?_};obtain ⟨n,F,rfl⟩:=Pk.mp J;obtain ⟨u,hl,O,G⟩:=gk.lk (cX n F);show z7 (aw (kkT ks n) _);rw [O];exact AW G
abbrev kW:Stmt:=z8 (top 69) 0
abbrev qD:Stmt:=z8 (top 69) 1
abbrev oO:Stmt:=z8 (top 69) 2
abbrev oh:Stmt:=z8 (top 69) 3
abbrev sf:Stmt:=z8 (top 69) 5
abbrev qP:Stmt:=z8 (top 69) 6
abbrev oZ:Stmt:=z8 (top 69) 8
abbrev rT:Stmt:=z8 (top 69) 12
abbrev rZ:Stmt:=z8 (top 69) 13
abbrev nJ:Stmt:=z8 (top 69) 14
abbrev Tx:=Option Str
def tv:Tx->V|none=>.non|some z=>.str z
def ak(m:Int)(wl sl:Addr)(c:Int):List (Str×V):=[("width",.int m),("written",.ref wl),("at_sides",.ref sl),("counted",.int c),("left",.non),("has_stopped",.bl false)]
structure BkD(A:zi)(H:Hp)(p wl sl:Addr)(n:Nat)(m c:Int)(s0 s1:Tx):Prop where
 ob:∃dx,H p=some (.ins A.tj dx (ak m wl sl c))
 wr:∃ZZ:List Addr,H wl=some (.lst (ZZ.map V.ref))/\ZZ.length=n/\∀x∈ZZ,H x=some (.lst [])
 n3:3<=n/\n<=16
 sd:H sl=some (.lst [tv s0,tv s1])
section
variable {A:zi}{H H':Hp}{p wl sl:Addr}{n:Nat}{m c:Int}{s0 s1:Tx}
theorem BkD.mv(D:BkD A H p wl sl n m c s0 s1)(k:∀a o,((∃C dx fs,o = .ins C dx fs)\/∃xs,o = .lst xs)->H a=some o->H' a=some o):BkD A H' p wl sl n m c s0 s1:=by
 obtain ⟨dx,e⟩:=D.ob;obtain ⟨cs,J,F,G⟩:=D.wr;exact {{dx,k _ _ (.inl {_,_,_,rfl}) e},{cs,k _ _ (.inr {_,rfl}) J,F,λx hx=>k _ _ (.inr {_,rfl}) (G x hx)},D.n3,k _ _ (.inr {_,rfl}) D.sd}
theorem BkD.same(D:BkD A H p wl sl n m c s0 s1)(k:zj H H'):BkD A H' p wl sl n m c s0 s1:=D.mv λa o _ e=>k a o e
theorem Fe:tv s≠.ref a:=by cases s<;>nofun
theorem BkD.put(D:BkD A H p wl sl n m c s0 s1)(b:∀a o,a≠p->a≠sl->H a=some o->H' a=some o)(e:H' p=some (.ins A.tj dx (ak m wl sl c')))(U:H' sl=some (.lst [tv J,tv s1'])):BkD A H' p wl sl n m c' J s1':=by
 obtain ⟨W,S⟩:=D.ob;obtain ⟨cs,F,O,G⟩:=D.wr;have sd:=D.sd;have n3:=D.n3;refine {⟨dx,e⟩,{cs,b _ _ (λz=>by rw [z,S] at F;cases F) (λz=>?_) F,O,λx hx=>b _ _ (λz=>by have:=G x hx;rw [z,S] at this;cases this) (λz=>by have:=G x hx;rw [z,sd] at this;cases this) (G x hx)},n3,U};rw [z,sd] at F;cases cs with
 | nil=>rw [<- O] at n3;exact absurd n3.1 'd'
 | cons x cs=>injection F with F;injection F with F;injection F with F _;exact Fe F
theorem HV:(ak m wl sl c).lookup ("width":Str)=some (.int m):=by kernel_rfl
theorem Bj:(ak m wl sl c).lookup ("written":Str)=some (.ref wl):=by kernel_rfl
theorem uJ:(ak m wl sl c).lookup ("at_sides":Str)=some (.ref sl):=by kernel_rfl
theorem v7:(ak m wl sl c).lookup ("counted":Str)=some (.int c):=by kernel_rfl
theorem CH:(ak m wl sl c).lookup ("left":Str)=some .non:=by kernel_rfl
theorem Co:(ak m wl sl c).lookup ("has_stopped":Str)=some (.bl false):=by kernel_rfl
theorem Bx:zN "counted" (.int x) (ak m wl sl c)=ak m wl sl x:=by kernel_rfl
theorem Lg:zN "has_stopped" (.bl false) (ak m wl sl c)=ak m wl sl c:=by kernel_rfl
theorem yE:(ak m wl sl c).length<1000:=by show 6<1000;decide
end
theorem DH:(ak m wl sl d).lookup ("stretches":Str)=none:=by kernel_rfl
theorem Ct:(ak m wl sl d).lookup ("places":Str)=none:=by kernel_rfl
theorem Fi:(ak m wl sl d).lookup ("next_place":Str)=none:=by kernel_rfl
theorem gZ:(ak m wl sl d).lookup ("side":Str)=none:=by kernel_rfl
theorem qR:(ak m wl sl d).lookup ("signs":Str)=none:=by kernel_rfl
theorem By:(ak m wl sl d).lookup ("put_side":Str)=none:=by kernel_rfl
theorem xJ:(ak m wl sl d).lookup (Wf:Str)=none:=by kernel_rfl
theorem Dm:(ak m wl sl d).lookup ("spend":Str)=none:=by kernel_rfl
theorem IL:(ak m wl sl d).lookup (VR:Str)=none:=by kernel_rfl
section
variable {P:OE}{w:OW}{K:Frag}{mg:Str->Option Value}{base:Heap}{A:zi}
def uT(A:zi):Sp:=λvs H Q _=>∃(p dx:Addr)(n m:Int),vs=[.ref p,.int n,.int m]/\H p=some (.ins A.tj dx [])/\3<=n/\n<=16/\2<=m/\m<=32 /\
 ∀wl sl H',But p H H'->H wl=none->H sl=none->BkD A H' p wl sl n.toNat m 0 none none->Q .non H'
structure G9(H:Hp)(i:Nat)(τ:L2.St)(ys:List V)(H':Hp):Prop where
 τ:∃t,τ=[t]
 ex:∃ZZ:List Addr,ys=ZZ.map V.ref/\ZZ.length=i/\∀c∈ZZ,H' c=some (.lst [])/\H c=none
 same:zj H H'
 le:i<=16
theorem Kf:zy WU WU (zm kW):=fsc
theorem Gx:bb { kind:=.function,names:=[(Ou ".0",.local),(Ou "number",.local)],isGenerator:=false,isCoroutine:=false,more:=[] } (zm kW).names WU ["number"] [none]=true:=by decide +kernel
theorem KQ:(["number"]:List Str).Nodup:=by decide +kernel
theorem NO(F:Fun K Wm "Disk.__init__" kW f fd)(T:Txt K mg A)(ZO:GF P w K mg base true 2 V5 Xp lH):zq P w K mg base CX0 true 3 f fd WU (uT A):=by
 refine F.o Kf λZ1 Ar outer s H vs Q E hr h=>?_;obtain ⟨p,dx,n,m,rfl,hp,n0,n1,m0,m1,q⟩:=h;have h1:iN (.int n) 3 16=true:=by show (decide _&&decide _)=true;rw [decide_eq_true n0,decide_eq_true n1];rfl
 have h2:iN (.int m) 2 32=true:=by show (decide _&&decide _)=true;rw [decide_eq_true m0,decide_eq_true m1];rfl
 refine {_,(W.h (zh (af (d6 (dk (caD (zL ZO hr rfl (clP (zd (zb 1) (zd (dM rfl T.U1) (zd (dM rfl T.U5) ze))))))))
   (zo cV)
   aa)
   (zh (af (d6 (dk (caD (zL ZO hr rfl (clP (zd (zb 2) (zd (dM rfl T.Vd) (zd (dM rfl T.Vf) ze))))))))
   (zo cV)
   aa)
   (zh (sfD (cg T.mC T.UZ (clE (zb 0)) (clE (zb 2))))
   (zh (sfD (cg T.mC T.L0 (clE (zb 0)) (clE (fj (λ_=>rfl) (z6.of Gx) (dB rfl T.z3 (zd (zb 1) ze)) (λ_ _ _ _ _=>(zD (i:=0) KQ rfl (OL rfl))) (λ_ _ _ _ _=>cn) (λ_ _ _ _ _=>(bV ze))))))
   (zh (sfD (cg T.mC T.Da (clE (zb 0)) (clE (bV (zd cy (zd cy ze))))))
   (zh (sfD (cg T.mC T.L1 (clE (zb 0)) (clE zu)))
   (zh (sfD (cg T.mC T.M3 (clE (zb 0)) (clE cy)))
   (zo (sfD (cg T.mC T.yz (clE (zb 0)) (clE jn)))))))))))),?_}
 ac_rfl;refine {.int n,3,16,rfl,.int n,?_};erw [h1];refine {.int m,2,32,rfl,.int m,?_};erw [h2,hp,zA,zN,cq];refine {'d','l','l',aM.rng (G9 (upd H p (.ins A.tj dx [("width",.int m)]))) (λi τ ys H' I=>?_) {{_,rfl},{[],rfl,rfl,'z'},zj.refl _,'d'} ?_ ?_}
 .obtain ⟨Z,e,l,_⟩:=I.ex;have:=I.le;rw [e,Ow,l];exact br 'l'
 .intro N i τ ys H' hi I hN;obtain ⟨t,rfl⟩:=I.τ;obtain ⟨Z,e,l,S⟩:=I.ex;ac_rfl;refine {'d',λc H2 U _=>hN _ _ _ {{_,rfl},{Z++[c],by rw [e,Pe];rfl,by simp [l],λb G=>?_},I.same.trans U.same,'l'}};rcases OY.mp G with G|G
  .exact {U.same _ _ (S b G).1,(S b G).2}
  .rw [OS] at G;subst G;exact {U.at_,I.same.free U.no}
 .intro τ ys H1 I D H2 O;obtain ⟨Z,e,l,S⟩:=I.ex;have e1:H2 p=some (.ins A.tj dx [("width",.int m)]):=O.same _ _ (I.same _ _ zA);have w1:zN "written" (.ref D) [(("width":Str),V.int m)]=[(("width":Str),V.int m),("written",.ref D)]:=by kernel_rfl
  refine {dx,_,e1,by show 1<1000;decide,'d',λs1 H3 n3 _=>?_};rw [w1] at n3;have e3:H3 p=some (.ins A.tj dx [("width",.int m),("written",.ref D)]):=n3.same _ _ zA;have w2:zN "at_sides" (.ref s1) [(("width":Str),V.int m),("written",.ref D)]=[(("width":Str),V.int m),("written",.ref D),("at_sides",.ref s1)]:=by kernel_rfl
  have w3:zN "counted" (.int 0) [(("width":Str),V.int m),("written",.ref D),("at_sides",.ref s1)]=[(("width":Str),V.int m),("written",.ref D),("at_sides",.ref s1),("counted",.int 0)]:=by kernel_rfl
  have w4:zN "left" .non [(("width":Str),V.int m),("written",.ref D),("at_sides",.ref s1),("counted",.int 0)]=[(("width":Str),V.int m),("written",.ref D),("at_sides",.ref s1),("counted",.int 0),("left",.non)]:=by kernel_rfl
  have w5:zN "has_stopped" (.bl false) [(("width":Str),V.int m),("written",.ref D),("at_sides",.ref s1),("counted",.int 0),("left",.non)]=ak m D s1 0:=by kernel_rfl
  refine {dx,_,e3,?_};rw [w2,w3,w4,w5,iL,iL,iL];refine {by show 2<1000;decide,by show 3<1000;decide,by show 4<1000;decide,by show 5<1000;decide,?_};have pD:D≠p:=λz=>by have:=O.no;rw [z,I.same _ _ zA] at this;cases this
  have ps:s1≠p:=λz=>by have:=n3.no;rw [z,zA] at this;cases this
  have k2:∀b o,b≠p->H2 b=some o->upd H3 p (.ins A.tj dx (ak m D s1 0)) b=some o:=λb o G h=>by rw [zg G];exact n3.same _ _ (by rw [zg G];exact h)
  have k0:∀b o,b≠p->H b=some o->H2 b=some o:=λb o G h=>O.same _ _ (I.same _ _ (by rw [zg G];exact h));have J:=O.at_;rw [e] at J;have fr:∀b,b≠p->H2 b=none->H b=none:=λb G h=>by
   cases eb:H b with
   | none=>rfl
   | some o=>rw [k0 b o G eb] at h;cases h
  refine q D s1 _ (λb o G h=>k2 b o G (k0 b o G h)) ?_ (fr s1 ps (by have:=n3.no;rw [zg ps] at this;exact this)) {⟨dx,zA⟩,{Z,k2 _ _ pD J,by rw [l],λx hx=>k2 _ _ (λz=>?_) (O.same _ _ (S x hx).1)},'l',by rw [zg ps];exact n3.at_}
  .cases eb:H D with
   | none=>rfl
   | some o=>have:=I.same D o (by rw [zg pD];exact eb);rw [O.no] at this;cases this
  .have:=(S x hx).2;rw [z,zA] at this;cases this
def xr(A:zi):Sp:=λvs H Q _=>∃(p wl sl:Addr)(n:Nat)(m c:Int)(s0 s1:Tx),vs=[.ref p]/\BkD A H p wl sl n m c s0 s1/\Q (.int n) H
def A6(A:zi):Sp:=λvs H Q _=>∃(p wl sl:Addr)(n:Nat)(m c:Int)(s0 s1:Tx),vs=[.ref p]/\BkD A H p wl sl n m c s0 s1/\Q (.int m) H
def yG(A:zi):Sp:=λvs H Q _=>∃(p wl sl:Addr)(n:Nat)(m c:Int)(s0 s1:Tx),vs=[.ref p]/\BkD A H p wl sl n m c s0 s1/\Q (.int c) H
def Ap(A:zi):Sp:=λvs H Q _=>∃(p wl sl:Addr)(n:Nat)(m c:Int)(s0 s1:Tx)(k:Nat),vs=[.ref p,.int k]/\BkD A H p wl sl n m c s0 s1/\k<n/\Q (.int 0) H
def qX(A:zi):Sp:=λvs H Q _=>∃(p wl sl:Addr)(n:Nat)(m c:Int)(s0 s1:Tx)(k:Int),vs=[.ref p,.int k]/\BkD A H p wl sl n m c s0 s1/\((k=0/\Q (tv s0) H)\/(k=1/\Q (tv s1) H))
theorem NX:zy Zg Zg (zm qD):=fsc
theorem Eu(F:Fun K "stretches" "Disk.stretches" qD f fd)(T:Txt K mg A):zq P w K mg base CX0 true 1 f fd Zg (xr A):=by
 refine F.o NX λS Z outer s H vs Q E U h=>?_;obtain ⟨p,wl,sl,n,m,c,s0,s1,rfl,D,q⟩:=h;obtain ⟨dx,h1⟩:=D.ob;obtain ⟨cs,J,G,O⟩:=D.wr;refine {_,(W.h (zo (zB (ar fK rfl T.UQ PZ (zd (fD (ae T.mC T.L0 (clE (zb 0)))) ze))))),?_};erw [h1,J,Bj,Ow,G];exact q
theorem MC:zy Zg Zg (zm oO):=fsc
theorem Dd(F:Fun K "places" "Disk.places" oO f fd)(T:Txt K mg A):zq P w K mg base CX0 true 1 f fd Zg (A6 A):=by
 refine F.o MC λJ G outer s H vs Q E O h=>?_;obtain ⟨p,wl,sl,n,m,c,s0,s1,rfl,D,q⟩:=h;obtain ⟨dx,h1⟩:=D.ob;refine {_,(W.h (zo (zB (fD (ae T.mC T.UZ (clE (zb 0))))))),?_};erw [h1,HV];exact q
theorem NV:zy Zg Zg (zm qP):=fsc
theorem Hh(F:Fun K "signs" "Disk.signs" qP f fd)(T:Txt K mg A):zq P w K mg base CX0 true 1 f fd Zg (yG A):=by
 refine F.o NV λJ G outer s H vs Q E O h=>?_;obtain ⟨p,wl,sl,n,m,c,s0,s1,rfl,D,q⟩:=h;obtain ⟨dx,h1⟩:=D.ob;refine {_,(W.h (zo (zB (fD (ae T.mC T.L1 (clE (zb 0))))))),?_};erw [h1,v7];exact q
theorem EI:zy Wz Wz (zm oh):=fsc
theorem NS(F:Fun K "next_place" "Disk.next_place" oh f fd)(T:Txt K mg A):zq P w K mg base CX0 true 1 f fd Wz (Ap A):=by
 refine F.o EI λZ1 Ar outer s H vs Q E hr h=>?_;obtain ⟨p,wl,sl,n,m,c,s0,s1,k,rfl,D,G,q⟩:=h;obtain ⟨dx,h1⟩:=D.ob;obtain ⟨cs,Z,U,J⟩:=D.wr;rw [<- U] at G;have O:atI (cs.map V.ref) (k:Int)=some (.ref cs[k]):=gq (by rw [OT,KE G];rfl);have S:=J _ (P0 G);refine {_,(W.h (zo (zB (ar fK rfl T.UQ PZ (zd (aR bS (fD (ae T.mC T.L0 (clE (zb 0)))) (zb 1) (λ_ _=>rfl)) ze))))),?_};erw [h1,Z,Bj,O,S];exact q
theorem GP:zy Wq Wq (zm sf):=fsc
theorem BM(F:Fun K "side" "Disk.side" sf f fd)(T:Txt K mg A):zq P w K mg base CX0 true 1 f fd Wq (qX A):=by
 refine F.o GP λJ G outer s H vs Q E O h=>?_;obtain ⟨p,wl,sl,n,m,c,s0,s1,k,rfl,D,q⟩:=h;obtain ⟨dx,h1⟩:=D.ob;have hs:=D.sd;refine {_,(W.h (zo (zB (aR bS (fD (ae T.mC T.Da (clE (zb 0)))) (zb 1) (λ_ _=>rfl))))),?_};erw [h1,uJ,hs];rcases q with ⟨rfl,q⟩|⟨rfl,q⟩
 .exact {_,oq,q}
 .exact {_,lP,q}
def mi(A:zi):Sp:=λvs H Q _=>∃(p dx wl sl:Addr)(m c:Int),vs=[.ref p]/\H p=some (.ins A.tj dx (ak m wl sl c))/\Q .non H
def AI(A:zi):Sp:=λvs H Q _=>∃(p dx wl sl:Addr)(m c n:Int),vs=[.ref p,.int n]/\H p=some (.ins A.tj dx (ak m wl sl c))/\Q (.int n) (upd H p (.ins A.tj dx (ak m wl sl (c+n))))
def vj(A:zi):Sp:=λvs H Q _=>∃(p dx wl sl:Addr)(m c:Int)(z:Str),vs=[.ref p,.str z]/\H p=some (.ins A.tj dx (ak m wl sl c))/\0<z.length/\z.length<=100000/\Q (.str z) (upd H p (.ins A.tj dx (ak m wl sl (c+z.length))))
def qc(A:zi):Sp:=λvs H Q _=>∃(p wl sl:Addr)(n:Nat)(m c:Int)(s0 s1:Tx)(k:Int)(z:Str),vs=[.ref p,.int k,.str z]/\BkD A H p wl sl n m c s0 s1/\0<z.length/\z.length<=100000/\(k=0\/k=1) /\
 ∀H',(∀a o,a≠p->a≠sl->H a=some o->H' a=some o)->BkD A H' p wl sl n m (c+z.length) (if k=0 then some z else s0) (if k=0 then s1 else some z)->Q .non H'
theorem FA:zy Zg Zg (zm rT):=fsc
theorem CM(F:Fun K Wf "Disk.refuse_if_stopped" rT f fd)(T:Txt K mg A):zq P w K mg base CX0 true 1 f fd Zg (mi A):=by
 refine F.o FA λJ G outer s H vs Q E O h=>?_;obtain ⟨p,dx,wl,sl,m,c,rfl,h1,q⟩:=h;refine {_,(W.h (zo (af (dk (fD (ae T.mC T.yz (clE (zb 0)))))
   (zo cV)
   aa))),?_}
 erw [h1,Co];exact q
theorem qU:zy ["self",V9,"done"] ["self",V9] (zm rZ):=fsc
theorem NL(F:Fun K "spend" "Disk.spend" rZ f fd)(T:Txt K mg A):zq P w K mg base CX0 true 1 f fd ["self",V9] (AI A):=by
 refine F.o qU λJ G outer s H vs Q E O h=>?_;obtain ⟨p,dx,wl,sl,m,c,n,rfl,h1,q⟩:=h;refine {_,(W.h (zh (zC (i:=2) qU.nd rfl (OL rfl) (zb 1))
   (zh (af (tD (aF (clO qV) (clE (fD (ae T.mC T.M3 (clE (zb 0))))) (clE cy) (aH _)))
   (zh (zC (i:=2) qU.nd rfl (OL rfl) (ar (xm rfl) rfl T.bU boot_min (zd (zb 1) (zd (fD (ae T.mC T.M3 (clE (zb 0)))) ze))))
   (zo (rP T.mC T.M3 (zb 0) (zb 2) Ga)))
   aa)
   (zh (rP T.mC T.L1 (zb 0) (zb 2) yp)
   (zh (sfD (cg T.mC T.yz (clE (zb 0)) (clE (jh (oI0 qJ) (zb 2) (zb 1) (aH _)))))
   (zo (zB (zb 2)))))))),?_}
 have e:decide (n<n)=false:=by simp
 erw [h1,CH,v7,zA,iL,Bx,e,Lg];exact ⟨yE,yE,q⟩
theorem yn:zy ["self","text","done"] WK (zm nJ):=fsc
theorem NI(F:Fun K VR "Disk.first_signs" nJ f fd)(T:Txt K mg A)(O:GM P w K mg base true 1 A.tj "spend" ["self",V9] (AI A))(J:GM P w K mg base true 1 A.tj Wf Zg (mi A)):zq P w K mg base CX0 true 2 f fd WK (vj A):=by
 refine F.o yn λZ1 Ar outer s H vs Q E G h=>?_;obtain ⟨p,dx,wl,sl,m,c,z,rfl,h1,U,Z,q⟩:=h;have S:_<cLine:=Qt (bo G);refine {_,(W.h (zh (zC (i:=2) yn.nd rfl (OL rfl) (mD (aC (clE (zb 0)) T.mC O G (clP (zd (ar fK rfl T.UQ PZ (zd (zb 1) ze)) ze)))))
   (zh (af (tD (aF (clO (oE (dH S))) (clE (zb 2)) (clE zu) (aH _)))
   (zo (aJ (m0D (zY (clE (zb 0)) T.mC J G))))
   aa)
   (zo (zB (fW gE (zb 1) fR (fA (zb 2)))))))),?_}
 erw [h1,Dm];refine {bB 'l',p,dx,wl,sl,m,c,z.length,rfl,h1,?_};have e:decide ((z.length:Int)=0)=false:=by simp;lia
 erw [e];have es:Pw z none (some (z.length:Int))=z:=by rw [gw (by rw [zM];exact OA _),<- zM,OU (OA _),eB]
 rw [es];exact {bB 'l',q}
theorem LW:zy WD WD (zm oZ):=fsc
theorem Lk(F:Fun K "put_side" "Disk.put_side" oZ f fd)(T:Txt K mg A)(Zz:GM P w K mg base true 2 A.tj VR WK (vj A))(U:GM P w K mg base true 1 A.tj Wf Zg (mi A)):zq P w K mg base CX0 true 3 f fd WD (qc A):=by
 refine F.o LW λZ1 Ar outer s H vs Q E J h=>?_;obtain ⟨p,wl,sl,n,m,c,s0,s1,k,z,rfl,D,z0,z1,hk,q⟩:=h;obtain ⟨dx,h1⟩:=D.ob;have hs:=D.sd;have ps:sl≠p:=λz=>by rw [z,h1] at hs;cases hs
 refine {_,(W.h (zh (aJ (m0D (zY (clE (zb 0)) T.mC U J)))
   (zh (ie (mD (aC (clE (zb 0)) T.mC Zz J (clP (zd (zb 2) ze)))) (jN (fD (ae T.mC T.Da (clE (zb 0)))) (zb 1) lG))
   (zo (aJ (m0D (zY (clE (zb 0)) T.mC U J))))))),?_}
 erw [h1,xJ];refine {p,dx,wl,sl,m,c,rfl,h1,?_};erw [h1,IL];refine {p,dx,wl,sl,m,c,z,rfl,h1,z0,z1,?_};erw [zA,uJ];refine {_,by rw [zg ps];exact hs,?_};have Z:∀i:Nat,ixN 2 k=some i->([tv s0,tv s1]:List V).set i (.str z)=[tv (if k=0 then some z else s0),tv (if k=0 then s1 else some z)]->∃x,ixN [tv s0,tv s1].length k=some x/\∃G fs,upd (upd H p (.ins A.tj dx (ak m wl sl (c+z.length)))) sl (.lst ([tv s0,tv s1].set x (.str z))) p=some (.ins A.tj G fs)/\PF (Wf:Str) fs=none/\mi A [.ref p] (upd (upd H p (.ins A.tj dx (ak m wl sl (c+z.length)))) sl (.lst ([tv s0,tv s1].set x (.str z)))) (λx H1=>Q .non H1) E0:=λi h1 h2=>by
  have e:upd (upd H p (.ins A.tj dx (ak m wl sl (c+z.length)))) sl (.lst ([tv s0,tv s1].set i (.str z))) p=some (.ins A.tj dx (ak m wl sl (c+z.length))):=by rw [zg ps.symm,zA]
  refine {i,h1,dx,_,e,xJ,p,dx,wl,sl,m,_,rfl,e,q _ (λa o O S h=>by rw [zg S,zg O];exact h) (D.put (λa o O S h=>by rw [zg S,zg O];exact h) e (by rw [zA,h2]))}
 rcases hk with rfl|rfl
 .exact Z 0 rfl rfl
 .exact Z 1 rfl rfl
end
abbrev ou:Stmt:=top 37
abbrev g7:Stmt:=top 38
def zK(H H':Hp):Prop:=∀a o,(∀ps,o≠.tbl ps)->H a=some o->H' a=some o
theorem zK.of(s:zj H H'):zK H H':=λa o _ e=>s a o e
theorem zK.refl:zK H H:=λ_ _ _ e=>e
theorem zK.trans(x:zK H H1)(y:zK H1 H2):zK H H2:=λa o n e=>y a o n (x a o n e)
theorem zK.cF(x:gR H H' P)(h:H P=some (.tbl ps)):zK H H':=λa o n e=>x a o (λz=>by subst z;rw [h] at e;cases e;exact n _ rfl) e
theorem zK.lam(x:gR H H' P)(h:cu pos q H P):zK H H':=by
 rcases h with h|⟨_,_,_,_,h,_⟩
 .exact zK.cF x h
 .exact zK.cF x h
theorem zK.list(s:zK H H')(h:H a=some (.lst xs)):H' a=some (.lst xs):=s _ _ (λ_=>nofun) h
theorem zK.tup{H H':Hp}(s:zK H H'){a:Addr}{xs:List V}(h:H a=some (.tup xs)):H' a=some (.tup xs):=s _ _ (λ_=>nofun) h
def lpW:Pos:={135,29,135,50}
def lpM:Pos:={318,26,318,59}
def qW:Str:=(QV Wg (zm g7) 0 0 .none).qual++"<lambda>"
abbrev eI:Stmt:=top 57
def qM:Str:=(QV Wk (zm eI) 0 0 .none).qual++"<lambda>"
structure TB(A:zi)(H:Hp):Prop where
 w:cu lpW qW H A.L4
 l:cu lpM qM H A.vr
 ne:A.L4≠A.vr
theorem sV(h:cu pos q H P):∃ps,H P=some (.tbl ps):=by
 rcases h with h|⟨_,_,_,_,h,_⟩<;>exact {_,h}
theorem lV(h:cu pos q H P)(k:∀a o,H a=some o->(a=P\/∀ps,o≠.tbl ps)->H' a=some o):cu pos q H' P:=by
 rcases h with h|⟨c,oc,vs,t,h1,h2,h3⟩
 .exact .inl (k _ _ h (.inl rfl))
 .exact .inr {c,oc,vs,t,k _ _ h1 (.inl rfl),k _ _ h2 (.inr λps z=>by cases z),h3}
theorem TB.same(h:TB A H)(s:zj H H'):TB A H':={lV h.w λa o e _=>s a o e,lV h.l λa o e _=>s a o e,h.ne}
theorem BkD.tr{p wl sl:Addr}(D:BkD A H p wl sl n m c s0 s1)(s:zK H H'):BkD A H' p wl sl n m c s0 s1:=D.mv λa o h e=>s a o (λps z=>by subst z;rcases h with ⟨_,_,_,h⟩|⟨_,h⟩<;>cases h) e
section
variable {P:OE}{w:OW}{K:Frag}{mg:Str->Option Value}{base:Heap}{A:zi}
def tU(A:zi):Sp:=λvs H Q _=>∃(p wl sl:Addr)(n:Nat)(m c:Int)(s0 s1:Tx)(k:Nat),vs=[.ref p,.int k]/\BkD A H p wl sl n m c s0 s1/\k<n/\∀l H',zj H H'->H' l=some (.lst [])->Q (.ref l) H'
theorem oV:zy ["disk","stretch","found","place","row"] ["disk","stretch"] (zm ou):=fsc
theorem IR(F:Fun K "rows_in" "rows_in" ou f fd)(T:Txt K mg A)(U:GM P w K mg base true 1 A.tj "next_place" Wz (Ap A)):zq P w K mg base CX0 true 2 f fd ["disk","stretch"] (tU A):=by
 refine F.o oV λZ Ar outer s H vs Q E O h=>?_;obtain ⟨p,wl,sl,n,m,c,s0,s1,k,rfl,D,S,q⟩:=h;refine {_,(W.h (zh (zC (i:=2) oV.nd rfl (OL rfl) (bV ze))
   (zh (cF Q6.never (λ_=>rfl) (dB rfl T.z3 (zd (mD (aC (clE (zb 0)) T.mC U O (clP (zd (zb 1) ze)))) ze)) (zD (i:=3) oV.nd rfl (OL rfl))
   (zh cV
   (zo cV)))
   (zo (zB (zb 2)))))),?_}
 ac_rfl;refine {'d',λl H1 G _=>?_};have J:=D.same G.same;obtain ⟨dx,h1⟩:=J.ob;erw [h1,Fi];refine {p,wl,sl,n,m,c,s0,s1,k,rfl,J,S,?_};ac_rfl;refine {'d','d',bg.rng (λ_ σ H'=>(∃t1 t2,σ=[some (.ref p),some (.int k),some (.ref l),t1,t2])/\H'=H1) {{_,_,rfl},rfl} (λi σ H' hi=>absurd hi (Nat.not_lt_zero _)) ?_};rintro σ H' ⟨⟨t1,t2,rfl⟩,rfl⟩;ac_rfl;exact q l _ G.same G.at_
structure WrI(A:zi)(H:Hp)(p l:Addr)(i:Nat)(σ:L2.St)(H':Hp):Prop where
 ex:∃t1,σ=[some (V.ref p),some (.ref l),t1]
 same:zj H H'
 no:H l=none
 ls:H' l=some (.lst [])
def rX(A:zi):Sp:=λvs H Q _=>∃(p wl sl:Addr)(n:Nat)(m c:Int)(s0 s1:Tx),vs=[.ref p]/\BkD A H p wl sl n m c s0 s1/\TB A H/\∀l H',zK H H'->TB A H'->H' l=some (.lst [])->Q (.ref l) H'
theorem pI:zy ["disk","found","stretch"] WI (zm g7):=fsc
theorem GK(F:Fun K Wg Wg g7 f fd)(hc:fd.code = .ref c)(LB:fh mg base (.ref c) A.L4)(T:Txt K mg A)(Zq:GM P w K mg base true 1 A.tj "stretches" Zg (xr A))(Yz:GF P w K mg base true 2 "rows_in" ["disk","stretch"] (tU A)):zq P w K mg base CX0 true 3 f fd WI (rX A):=by
 refine F.c2 hc pI (λvs H Q E h=>?_) (λAr outer s H vs Q E S h=>?_)
 .obtain ⟨p,wl,sl,n,m,c,s0,s1,rfl,_⟩:=h;rfl
 .obtain ⟨p,wl,sl,n,m,c',s0,s1,rfl,D,tb,q⟩:=h;refine {_,(W.h (zh (zC (i:=1) pI.nd rfl (OL rfl) (bV ze))
   (zh (cF Q6.never (λ_=>rfl) (dB rfl T.z3 (zd (m0D (zY (clE (zb 0)) T.mC Zq S)) ze)) (zD (i:=2) pI.nd rfl (OL rfl))
   (zo (aJ (jz (zb 1) (caD (zL Yz S rfl (clP (zd (zb 0) (zd (zb 2) ze)))))))))
   (zo (zB (HF LB S rfl T.UR (zb 1) rfl rfl (λ_ _ _ _ _=>rfl) rfl rfl rfl rfl)))))),?_}
  ac_rfl;refine {'d',λl H1 O _=>?_};have D1:=D.same O.same;have ax:=D.n3;obtain ⟨dx,h1⟩:=D1.ob;erw [h1,DH];refine {p,wl,sl,n,m,c',s0,s1,rfl,D1,?_};ac_rfl;rw [Qk];refine {'l','l',bg.rng (WrI A H p l) {{_,rfl},O.same,O.no,O.at_} ?_ ?_}
  .rintro i σ H2 hi ⟨⟨t1,rfl⟩,J,Z,hl⟩;have ej:(0+(i:Int))=((i:Nat):Int):=by lia
   erw [hl,ej];refine {p,wl,sl,n,m,c',s0,s1,i,rfl,D.same J,hi,λl2 H3 s3 h3=>?_};have U:=s3 _ _ hl;erw [U,h3];refine {'d',{_,rfl},λc o e=>?_,Z,zA};rw [zg (zH e Z)];exact s3 _ _ (J _ _ e)
  .rintro σ H2 ⟨⟨t1,rfl⟩,J,Z,hl⟩;ac_rfl;have G:=tb.same J;refine {[],hl,G.w,'d',[],.nil,λD2 zs H3 L3 T3 f3 ai av e3 pz sz=>?_};have ez:zs=[]:=QJ.mp (by have:=pz.length_eq;simpa using this);subst ez;exact q D2 H3 ((zK.of J).trans (zK.lam L3 G.w)) {T3,lV G.l λa o e h=>L3 a o (λz=>by
    obtain ⟨ps,Yb⟩:=sV G.w;rcases h with h|h
    .exact G.ne (z.symm.trans h)
    .rw [z,Yb] at e;cases e;exact h _ rfl) e,G.ne} e3
end
abbrev nO:Stmt:=top 58
abbrev qj:Stmt:=top 59
abbrev MD:=(Tab×List (Str×Tab))×List T3×Int×Int
def cA(s:Tx):Option MD->Prop
 | none=>s=none\/∃z,s=some z/\ZOk z/\rdZ z=none
 | some M=>∃z,s=some z/\ZOk z/\rdZ z=some ((M.2.2.2,M.2.2.1),M.1,M.2.1)/\z7 M.1.1/\aO M.1.2/\jy M.2.1/\(M.2.1.map (·.1)).Perm (uniq (zW M.1.1 M.1.2))
def h7(A:zi)(H:Hp)(x:Addr)(M:MD):Prop:=∃F b k d,aY A H x F b k d M.1.1 M.1.2 M.2.1 M.2.2.1 (M.2.2.2+1)
def VUp(A:zi)(H:Hp)(v:V):Option MD->Prop
 | none=>v = .non
 | some M=>∃x,v = .ref x/\h7 A H x M
section
variable {A:zi}{H H':Hp}
def FK(A:zi)(H H':Hp):Prop:=∀a o,((∃dx b k,o = .ins A.ot dx (zQ b k))\/(∃dx f d n m,o = .ins A.State dx (bh f d n m))\/(∃kvs,o = .dK kvs)\/(∃ob kvs,o = .frz ob (.dK kvs))\/∃xs,o = .tup xs)->H a=some o->H' a=some o
theorem FK.ofT(s:zK H H'):FK A H H':=λa o h e=>s a o (λps z=>by subst z;rcases h with ⟨_,_,_,h⟩|⟨_,_,_,_,_,h⟩|⟨_,h⟩|⟨_,_,h⟩|⟨_,h⟩<;>cases h) e
theorem FK.t(s:FK A H H')(e:H a=some (.tup xs)):H' a=some (.tup xs):=s _ _ (.inr (.inr (.inr (.inr {_,rfl})))) e
theorem FK.d(s:FK A H H')(e:H a=some (.dK kvs)):H' a=some (.dK kvs):=s _ _ (.inr (.inr (.inl {_,rfl}))) e
theorem aQ.mv{q b k:Addr}{t:Tab}(h:aQ A H q b k t)(s:FK A H H'):aQ A H' q b k t:=by
 obtain ⟨⟨dx,e⟩,⟨⟨kvs,G,d⟩,nd⟩,kp⟩:=h;have F:∀{a kvs},Rd H a (.dK kvs)->Rd H' a (.dK kvs):=λ{a kvs} h=>h.elim (λe=>.inl (s.d e)) (λh=>h.elim λo e=>.inr {o,s _ _ (.inr (.inr (.inr (.inl {_,_,rfl})))) e});exact {{dx,s _ _ (.inl {_,_,_,rfl}) e},{{kvs,F G,d.imp λv a r=>r.elim λp h=>{p,h.1,s.t h.2}},nd},F kp}
theorem zJ.mv{p b k:Addr}{t:Tab}(h:zJ A H p b k t ks)(s:FK A H H'):zJ A H' p b k t ks:=by
 obtain ⟨dx,e⟩:=h.ob;obtain ⟨kk,O,d⟩:=h.kept;obtain ⟨kvs,F,J⟩:=h.ny.ex;refine {{dx,s _ _ (.inl {_,_,_,rfl}) e},{{kvs,s.d F,J.imp λv a r=>r.elim λp h=>{p,h.1,s.t h.2}},h.ny.nd},{kk,s.d O,d.imp λv a r=>?_},h.bc,h.ne};obtain ⟨q,G,k',e,r,n⟩:=r;exact {q,G,k',e,r.mv s,n}
theorem aY.mv{x F b k d:Addr}{t:Tab}(h:aY A H x F b k d t ks ts n m)(s:FK A H H'):aY A H' x F b k d t ks ts n m:=by
 obtain ⟨dx,e⟩:=h.ob;obtain ⟨kvs,G,p⟩:=h.bj;exact {{dx,s _ _ (.inr (.inl {_,_,_,_,_,rfl})) e},h.files.mv s,{kvs,s.d G,Paired.ti p λ_ _ r=>r.keep λ_ _ e=>s.t e},h.ok}
theorem aY.tr{x F b k d:Addr}{t:Tab}(h:aY A H x F b k d t ks ts n m)(s:zK H H'):aY A H' x F b k d t ks ts n m:=h.mv (.ofT s)
theorem h7.tr(h:h7 A H x M)(s:zK H H'):h7 A H' x M:=by
 obtain ⟨F,b,k,d,h⟩:=h;exact {F,b,k,d,h.tr s}
theorem VUp.tr{o:Option MD}(h:VUp A H v o)(s:zK H H'):VUp A H' v o:=by
 cases o with
 | none=>exact h
 | some M=>exact h.elim λx h=>{x,h.1,h.2.tr s}
end
section
variable {P:OE}{w:OW}{K:Frag}{mg:Str->Option Value}{base:Heap}{A:zi}
def nY(A:zi):Sp:=λvs H Q _=>∃(p wl sl:Addr)(n:Nat)(m c:Int)(s0 s1:Tx)(k:Int)(o:Option MD),vs=[.ref p,.int k]/\BkD A H p wl sl n m c s0 s1/\(k=0\/k=1)/\cA (if k=0 then s0 else s1) o/\∀v H',zj H H'->VUp A H' v o->Q v H'
theorem Od:zy Wo Wo (zm nO):=fsc
theorem Oc(F:Fun K "mark_at" "mark_at" nO f fd)(T:Txt K mg A)(ZK:GM P w K mg base true 1 A.tj "side" Wq (qX A))(YS:GX P w K mg base true 8 VT WQ (qN K A)):zq P w K mg base CX0 true 10 f fd Wo (nY A):=by
 refine F.o Od λZ1 Ar outer s H vs Q E O h=>?_;obtain ⟨p,wl,sl,n,m,c,s0,s1,k,o,rfl,D,hk,J,q⟩:=h;refine {_,(W.h (zo (Au rfl rfl {rfl,rfl} T.Hx rfl T.US (λGo Ex=>(zo (zB (cXD (dP pR YS O rfl (clP (zd (mD (aC (clE (zb 0)) T.mC ZK O (clP (zd (zb 1) ze)))) ze))))))) (λGo ea=>by
   have O:=O.mark (v:=some (.ref ea));exact (zo (zB cy)))))),?_}
 obtain ⟨dx,h1⟩:=D.ob;erw [h1,gZ];have exc:∀H1,zj H H1->(∀v H',zj H H'->VUp A H' v none->Q v H')->∃a,OF A.S2 = .ref a/\bG K a/\mroIn K a (.ref A.S2)=some true/\∀(ea:Addr)(oe:Obj),H1 ea=none->iR a oe->Q V.non (upd H1 ea (HO.frz oe (HO.own 0))):=λH1 s1 q=>{_,rfl,T.Hx,T.Vh,λea oe Z _=>q _ _ (λa o e=>by rw [zg (zH (s1 _ _ e) Z)];exact s1 _ _ e) rfl};have go:∀s,cA s o->qN K A [tv s] H (λv H1=>Q v H1) λC oa H1=>∃a,C = .ref a/\bG K a/\mroIn K a (.ref A.S2)=some true/\∀(ea:Addr)(oe:Obj),H1 ea=none->iR a oe->Q V.non (upd H1 ea (HO.frz oe (HO.own 0))):=λs J=>by
  cases o with
  | none =>
   rcases J with rfl|⟨z,rfl,G,S⟩
   .exact {_,rfl,.inr {_,.of .non,rfl,exc H (zj.refl _) q}}
   .obtain ⟨N,n1,U⟩:=G.c;exact {_,rfl,.inl {z,rfl,G.a,G.l,Pj (qy z) G.w,yL U 'l' G.w,λ_ _ _ _ _ e=>(by rw [S] at e;cases e),λ_ H1 s1=>exc H1 s1 q}}
  | some M =>
   obtain ⟨z,rfl,G,S,_,_,J,_⟩:=J;obtain ⟨N,n1,U⟩:=G.c;refine {_,rfl,.inl {z,rfl,G.a,G.l,Pj (qy z) G.w,yL U 'l' G.w,λm n u us ts e=>?_,λe=>(by rw [S] at e;cases e)}};rw [S] at e;injection e with e
   injection e with e1 e2
   injection e1 with e3 e4
   injection e2 with e5 e6
   subst e3 e4 e6;refine {J,λx fx b k d H' s' st=>q _ _ s' {x,rfl,fx,b,k,d,?_}};rw [e5];exact st
 refine {p,wl,sl,n,m,c,s0,s1,k,rfl,D,?_};rcases hk with rfl|rfl
 .exact .inl {rfl,go _ J}
 .exact .inr {rfl,go _ J}
def xD:Sp:=λvs H Q _=>∃(l:Addr)(n:Int),vs=[.ref l,.int n]/\H l=some (.lst [])/\∀r H',zj H H'->H' r=some (.lst [])->Q (.ref r) H'
theorem jg:zy ["whole","number","taken","row","stretch","place"] ["whole","number"] (zm qj):=fsc
theorem J2(F:Fun K "rows_from" "rows_from" qj f fd)(T:Txt K mg A):zq P w K mg base CX0 true 1 f fd ["whole","number"] xD:=by
 refine F.o jg λO U outer s H vs Q E S h=>?_;obtain ⟨l,n,rfl,hl,q⟩:=h;refine {_,(W.h (zh (zC (i:=2) jg.nd rfl (OL rfl) (bV ze))
   (zh (cF Q6.never (λ_=>rfl) (liD (bM (clE (zb 0)))) (iI (n:=3) (gsD (aA (zD (i:=3) jg.nd rfl (OL rfl)) (gsD (aA (zD (i:=4) jg.nd rfl (OL rfl)) (gsD (aA (zD (i:=5) jg.nd rfl (OL rfl)) d5)))))))
   (zo cV))
   (zo (zB (zb 2)))))),?_}
 ac_rfl;refine {'d',λr H1 G _=>?_};refine {{_,SqL.of (G.same _ _ hl)},bg.lst (xs:=[]) (λ_ σ H'=>(∃t1 t2 J,σ=[some (.ref l),some (.int n),some (.ref r),t1,t2,J])/\H'=H1) {{_,_,_,rfl},rfl} (λi σ H' _ I=>SqL.of (by rw [I.2];exact G.same _ _ hl)) (λi x σ H' hx=>(by cases hx)) ?_};rintro σ H' ⟨⟨t1,t2,J,rfl⟩,rfl⟩;ac_rfl;exact q r _ G.same G.at_
abbrev iq:Stmt:=top 60
abbrev mr:Stmt:=top 56
theorem My{P:OE}{w:OW}{K:Frag}{mg:Str->Option Value}{base:Heap}{st:Stmt}{k:Nat}(F:Fun K x qual st f fd)(J:fd.code = .ref c)(S:zy N ps (zm st))(len:∀vs H Q E,sp vs H Q E->vs.length=ps.length)(G:∀(A:OR)(outer:List Env)(s:Oq)(H:Hp)(vs:List V)(Q:VK)(E:XK),zG cm k (A.deeper (QV qual (zm st) s.heap.objs.size f (.ref c)))->sp vs H Q E ->
   ∃t,PSs (bH (CXW P w) cm P w K mg base N qual (zm st) f (.ref c) A outer s H E) (cU st) t/\t { nx:=λ_ H'=>Q .non H',rt:=Q } (start N vs) H):zq P w K mg base (CXW P w) cm (k+1) f fd ps sp:=by
 obtain ⟨oc,od,kV,W,pm,U,O,ct,Z,rfl,lk,hcd⟩:=F.ex;have e:O = .ref c:=J;subst e;exact kR lk hcd S len G
def dv:Option MD->Option MD->Option MD
 | none,o=>o
 | some a,none=>some a
 | some a,some b=>some (if b.2.2.2>a.2.2.2 then b else a)
structure MsI(A:zi)(H:Hp)(p:Addr)(os:List (Option MD))(i:Nat)(τ:L2.St)(ys:List V)(H':Hp):Prop where
 ex:∃t,τ=[t,some (.ref p)]
 ys:Paired (VUp A H') ys (os.take i)
 same:zj H H'
structure WhI(H:Hp)(vs:List V)(i:Nat)(τ:L2.St)(ys:List V)(H':Hp):Prop where
 ex:∃t,τ=[t]
 ys:ys=(vs.take i).filter (· != .non)
 same:H'=H
def qA(A:zi):Sp:=λvs H Q E=>∃(p wl sl:Addr)(n:Nat)(m c:Int)(s0 s1:Tx)(F o1:Option MD),vs=[.ref p]/\BkD A H p wl sl n m c s0 s1/\TB A H/\cA s0 F/\cA s1 o1 /\
 (∀M,dv F o1=some M->∀x H',zK H H'->TB A H'->h7 A H' x M->Q (.ref x) H')/\(dv F o1=none->∀H',zK H H'->TB A H'->E (.ref A.S2) none H')
theorem se:zy WH WI (zm eI):=fsc
theorem He:bb { kind:=.function,names:=[(Ou ".0",.local),(Ou "side",.local),(Ou "mark_at",.globalImplicit),(Ou "disk",.free)],isGenerator:=false,isCoroutine:=false,more:=[] } (zm eI).names WH ["side","disk"] [none,some 0]=true:=by decide +kernel
theorem Mx:(["side","disk"]:List Str).Nodup:=by decide +kernel
theorem CW:bb { kind:=.function,names:=[(Ou ".0",.local),(Ou "state",.local)],isGenerator:=false,isCoroutine:=false,more:=[] } (zm eI).names WH ["state"] [none]=true:=by decide +kernel
theorem IC:(["state"]:List Str).Nodup:=by decide +kernel
theorem GN(F:Fun K Wk Wk eI f fd)(hc:fd.code = .ref c)(LB:fh mg base (.ref c) A.vr)(T:Txt K mg A)(Yy:GF P w K mg base true 10 "mark_at" Wo (nY A))(Z7:GM P w K mg base true 1 A.State Wl Zg (iQ A)):zq P w K mg base (CXW P w) true 11 f fd WI (qA A):=by
 refine My F hc se (λvs H Q E h=>?_) (λAr outer s H vs Q E hr h=>?_)
 .obtain ⟨p,wl,sl,n,m,c,s0,s1,o0,o1,rfl,_⟩:=h;rfl
 .obtain ⟨p,wl,sl,n,m,c',s0,s1,o0,o1,rfl,D,tb,k0,k1,q,qe⟩:=h;have Th:=dw (cm:=true) (P:=P) (w:=w) (K:=K) (mg:=mg) (base:=base) (N:=WH) (qual:=Wk) (scope:=zm eI) (f:=f) (cd:=.ref c) (A:=Ar) (outer:=outer) (s:=s) (H:=H) (E:=E);refine {_,(W.h (zh (gg (i0:=1) se.nd rfl (OL rfl) (λ_=>rfl) (z6.of He) (N2 (bR (zd zu (zd zu ze)))) (λ_ _ _ _ _=>(zD (i:=0) Mx rfl (OL rfl))) (λ_ _ _ _ _=>cn) (λ_ _ _ _ _=>(caD (zL Yy hr rfl (clP (zd (zb 1) (zd (zb 0) ze)))))))
   (zh (gg (i0:=2) se.nd rfl (OL rfl) (λ_=>rfl) (z6.of CW) (liD (bM (clE (zb 1)))) (λ_ _ _ _ _=>(zD (i:=0) IC rfl (OL rfl))) (λ_ _ _ _ _=>(nG (tD (aF (clO qV) (clE (zb 0)) (clE cy) (aH _))))) (λ_ _ _ _ _=>(zb 0)))
   (zh (af (d6 (dk (zb 2)))
   (zo (dS rfl Th T.Hx rfl T.US (zd aL ze)))
   aa)
   (zo (zB (FQ LB rfl hr rfl T.br (zb 2) rfl rfl (λ_ _ _ _ _=>rfl) {rfl,rfl,rfl,'d',rfl,'d','d'} (λ_ _ _ _ _ _ _ hr=>(m0D (zY (clE (zb 0)) T.qb Z7 hr)))))))))),?_}
  ac_rfl;refine {'d',λtp H1 n1=>{{_,SqT.of n1.at_},aM.tup (xs:=[.int 0,.int 1]) (MsI A H1 p [o0,o1]) (λi τ ys H' I=>?_) (λi τ ys H' I=>SqT.of (I.same _ _ n1.at_)) {{_,rfl},.nil,zj.refl _} ?_ ?_}}
  .have:=aK I.ys;rw [Qf] at this;exact O9 (show ys.length<=2 by rw [this];exact Nat.min_le_right _ _) 'd'
  .intro N i v τ ys H' hv I hN;obtain ⟨t,rfl⟩:=I.ex;have D':=(D.same n1.same).same I.same;have go:∀(k:Int)(o:Option MD),(k=0\/k=1)->[o0,o1][i]?=some o->cA (if k=0 then s0 else s1) o->nY A [.ref p,.int k] H' (λy H6=>N [some (.int k),some (.ref p)] (ys++[y]) H6) E0:=λk o hk ho so=>{p,wl,sl,n,m,c',s0,s1,k,o,rfl,D',hk,so,λv H2 s2 vu=>hN _ _ _ {{_,rfl},by rw [Pi,ho];exact dm (Paired.ti I.ys λx y r=>r.tr (.of s2)) (.cons vu .nil),I.same.trans s2}};have hi:i=0\/i=1:=by
    have:=(OG.mp hv).1;simp only [Pr,Sx] at this;lia
   rcases hi with rfl|rfl
   .cases hv;ac_rfl;exact go 0 o0 (.inl rfl) rfl k0
   .cases hv;ac_rfl;exact go 1 o1 (.inr rfl) rfl k1
  .intro τ ys H2 I aI H3 n3;obtain ⟨v0,S,J,u0,u1⟩:∃v0 S,ys=[v0,S]/\VUp A H2 v0 o0/\VUp A H2 S o1:=by
    have z:=I.ys;cases z with
    | cons a z=>cases z with
     | cons b z=>cases z;exact {_,_,rfl,a,b}
   rw [J] at n3;have WX:zK H H3:=(zK.of n1.same).trans ((zK.of I.same).trans (.of n3.same));have ax:=((tb.same n1.same).same I.same).same n3.same;have w0:=u0.tr (.of n3.same);have w1:=u1.tr (.of n3.same);ac_rfl;refine {{_,SqL.of n3.at_},aM.lst (xs:=[v0,S]) (WhI H3 [v0,S]) (λi τ ys H' I=>?_) (λi τ ys H' I=>SqL.of (by rw [I.same];exact n3.at_)) {{_,rfl},rfl,rfl} ?_ ?_}
   .rw [I.ys];refine O9 (Pj (So _ _) (Qb _ _)) (show 2<sizeLine by decide)
   .intro N i v τ ys H' hv I hN;obtain ⟨t,rfl⟩:=I.ex;have et:=Pi (l:=[v0,S]) (i:=i);rw [hv] at et;have vv:v = .non\/∃x,v = .ref x:=by
     have:∀{u:V}{o:Option MD},VUp A H3 u o->u = .non\/∃x,u = .ref x:=λ{u o} h=>by
      cases o with
      | none=>exact .inl h
      | some M=>exact h.elim λx h=>.inr ⟨x,h.1⟩
     rcases OK.mp (Pc hv) with z|z
     .rw [z];exact this w0
     .rw [OS.mp z];exact this w1
    rcases vv with rfl|⟨x,rfl⟩
    .ac_rfl;refine hN _ _ _ {{_,rfl},?_,I.same};rw [et,RX,I.ys];exact (PY _).symm
    .ac_rfl;refine hN _ _ _ {{_,rfl},?_,I.same};rw [et,RX,I.ys];rfl
   .intro τ ys H4 I ai H5 n5;have e4:=I.same;subst e4;have J:=I.ys;rw [OU (OA _)] at J;have O:zK H4 H5:=.of n5.same;have G:=ax.same n5.same;have Zi:∀(as:List Addr)(Ms:List MD),Paired (h7 A H5) as Ms->0<as.length->ys=as.map V.ref->(∀M,Ms[bX (λi=>((Ms[i]?.map λM=>M.2.2.2+1).getD 0)) (as.length-1)]?=some M->dv o0 o1=some M)->fO A.vr lpM qM (kT A.State Wl (iQ A) E0 (h9 0) cw) (.ref ai) H5 Q:=λas Ms pr ap ea top=>by
     rw [xU];refine {as,λi=>((Ms[i]?.map λM=>M.2.2.2+1).getD 0),by rw [<- ea];exact n5.at_,ap,G.l,λH6 L6 T6=>{λi a ha=>?_,λa ha=>?_}}
     .have hi:=(OG.mp ha).1;rw [aK pr] at hi;obtain ⟨fx,b,k,d,st⟩:=(bY pr ha (KE hi)).tr (zK.lam L6 G.l);obtain ⟨dx,e⟩:=st.ob;erw [e,gY];exact {a,fx,b,k,d,_,_,_,_,_,rfl,st,by rw [KE hi];rfl,rfl}
     .have hi:_<Ms.length:=Nat.lt_of_lt_of_eq (OG.mp ha).1 (aK pr);have eM:=KE hi;refine q _ (top _ eM) a H6 (WX.trans (O.trans (zK.lam L6 G.l))) {lV G.w λa o e h=>L6 a o (λz=>?_) e,T6,G.ne} ((bY pr ha eM).tr (zK.lam L6 G.l));obtain ⟨ps,Yb⟩:=sV G.l;rcases h with h|h
      .exact G.ne (h.symm.trans z)
      .rw [z,Yb] at e;cases e;exact h _ rfl
    have x0:=w0.tr O;have x1:=w1.tr O;have z5:∀{b:Bool},b = !ys.isEmpty->fP K (.ref ai) H5 b:=λe=>.inl {ys,SqL.of n5.at_,e};cases o0 with
    | none =>
     cases (show v0 = .non from x0);cases o1 with
     | none =>
      cases (show S = .non from x1);exact {false,z5 (by rw [J];rfl),'d',qe rfl H5 (WX.trans O) G}
     | some U =>
      obtain ⟨a1,rfl,Z⟩:=x1;exact {true,z5 (by rw [J];rfl),Zi [a1] [U] (.cons Z .nil) (Nat.succ_pos _) J λM h=>h}
    | some M0 =>
     obtain ⟨a0,rfl,av⟩:=x0;cases o1 with
     | none =>
      cases (show S = .non from x1);exact {true,z5 (by rw [J];rfl),Zi [a0] [M0] (.cons av .nil) (Nat.succ_pos _) J λM h=>h}
     | some U =>
      obtain ⟨a1,rfl,Z⟩:=x1;refine {true,z5 (by rw [J];rfl),Zi [a0,a1] [M0,U] (.cons av (.cons Z .nil)) (Nat.succ_pos _) J λM h=>?_};have e:bX (λi=>(([M0,U][i]?.map λM=>M.2.2.2+1).getD 0)) ([a0,a1].length-1)=if U.2.2.2+1>M0.2.2.2+1 then 1 else 0:=rfl;rw [e] at h;show some (if U.2.2.2>M0.2.2.2 then U else M0)=some M;by_cases hc:U.2.2.2>M0.2.2.2
      .rw [if_pos 'l'] at h;rw [if_pos hc];exact h
      .rw [if_neg 'l'] at h;rw [if_neg hc];exact h
structure SbI(H:Hp)(D:Addr)(us:List T3)(i:Nat)(τ:L2.St)(ys:List V)(H':Hp):Prop where
 ex:∃t,τ=[t,some (.ref D)]
 ys:∃as:List Addr,ys=as.map V.ref/\Paired (dr H') as (us.take i)
 same:zj H H'
def yP(A:zi):Sp:=λvs H Q _=>∃(x O b k d l:Addr)(t:Tab)(ks:List (Str×Tab))(ts:List T3)(n m G:Int),vs=[.ref x,.ref l,.int G]/\aY A H x O b k d t ks ts n m/\H l=some (.lst [])/\(ts.map (·.1)).Perm (uniq (zW t ks))/\ks.length<=100 /\
 ∀y J S k' d' F H',zj H H'->aY A H' y J S k' d' t ks F n G->F.Perm ts->Q (.ref y) H'
theorem fN:zy X5 WG (zm iq):=fsc
theorem FB:bb { kind:=.function,names:=[(Ou ".0",.local),(Ou "birth",.local),(Ou "stretch",.local),(Ou "place",.local)],isGenerator:=false,isCoroutine:=false,more:=[] } (zm iq).names X5 XC [none,none,none]=true:=by decide +kernel
theorem oH:(XC:List Str).Nodup:=by decide +kernel
theorem K3:bb { kind:=.function,names:=[(Ou ".0",.local),(Ou "row",.local),(Ou "stretch",.local),(Ou "place",.local)],isGenerator:=false,isCoroutine:=false,more:=[] } (zm iq).names X5 ["row","stretch","place"] [none,none,none]=true:=by decide +kernel
theorem ni:(["row","stretch","place"]:List Str).Nodup:=by decide +kernel
theorem De:bb { kind:=.function,names:=[(Ou ".0",.local),(Ou "birth",.local),(Ou "spot_of",.free)],isGenerator:=false,isCoroutine:=false,more:=[] } (zm iq).names X5 [Wh,"spot_of"] [none,some 4]=true:=by decide +kernel
theorem Em:([Wh,"spot_of"]:List Str).Nodup:=by decide +kernel
theorem KD(F:Fun K VW VW iq f fd)(T:Txt K mg A)(ZU:GM P w K mg base true 5 A.State Wi Zg (kF A))(ZV:GM P w K mg base true 1 A.State V7 Zg (kX A))(Z6:GM P w K mg base true 1 A.State Wj Zg (jk A))(ZY:GM P w K mg base true 1 A.ot "living" Zg (mq A))(Zk:GC P w K mg base true 5 "State" A.State Ys (kh A)):zq P w K mg base CX0 true 7 f fd WG (yP A):=by
 refine F.o fN λZ1 Ar outer s H vs Q E hr h=>?_;obtain ⟨x,fx,b,k,d,l,t,ks,ts,n,m,mm,rfl,hS,hl,pm,kl,q⟩:=h;refine {_,(W.h (zh (zC (i:=3) fN.nd rfl (OL rfl) (m0D (zY (clE (zb 0)) T.qb ZU hr)))
   (zh (zC (i:=4) fN.nd rfl (Ry rfl) (u7 (λ_=>rfl) (z6.of FB) (liD (bM (clE (m0D (zY (clE (zb 0)) T.qb ZV hr))))) (λ_ _ _ _ _=>(pL (n:=3) (gsD (aA (zD (i:=0) oH rfl (OL rfl)) (gsD (aA (zD (i:=1) oH rfl (OL rfl)) (gsD (aA (zD (i:=2) oH rfl (OL rfl)) d5)))))))) (λ_ _ _ _ _=>cn) (λ_ _ _ _ _=>(zb 0)) (λ_ _ _ _ _=>(bR (zd (zb 1) (zd (zb 2) ze))))))
   (zh (Dt (i0:=5) fN.nd rfl (OL rfl) (λ_=>rfl) (z6.of K3) (liD (bM (clE (zb 1)))) (λ_ _ _ _ _=>(pL (n:=3) (gsD (aA (zD (i:=0) ni rfl (OL rfl)) (gsD (aA (zD (i:=1) ni rfl (OL rfl)) (gsD (aA (zD (i:=2) ni rfl (OL rfl)) d5)))))))) (λ_ _ _ _ _=>cn) (λ_ _ _ _ _=>(aR bS (zb 0) zu (λ_ _=>rfl))) (λ_ _ _ _ _=>(zb 0)))
   (zh (cF Q6.never (λ_=>rfl) (liD (bM (clE (zb 1)))) (iI (n:=3) (gsD (aA (zD (i:=6) fN.nd rfl (OL rfl)) (gsD (aA (zD (i:=7) fN.nd rfl (OL rfl)) (gsD (aA (zD (i:=8) fN.nd rfl (OL rfl)) d5)))))))
   (zh cV
   (zo cV)))
   (zh (gg (i0:=9) fN.nd rfl (OL rfl) (λ_=>rfl) (z6.of De) (liD (bM (clE (m0D (zY (clE (zb 3)) T.mu ZY hr))))) (λ_ _ _ _ _=>(zD (i:=0) Em rfl (OL rfl))) (λ_ _ _ _ _=>cn) (λ_ _ _ _ _=>(zI iC (bR (zd (zb 0) ze)) (aR (lC (bo hr)) (zb 1) (zb 0) (λ_ _=>rfl)))))
   (zo (zB (ja Zk hr rfl (zd (zb 3) (zd (zb 9) (zd (zI iC (m0D (zY (clE (zb 0)) T.qb Z6 hr)) (ar fK rfl T.UQ PZ (zd (zb 1) ze))) (zd (zb 2) ze))))))))))))),?_}
 obtain ⟨dx,e1⟩:=hS.ob;have ok:=hS.ok;erw [e1,jc];refine {x,fx,b,k,d,t,ks,ts,n,m,rfl,hS,λqf bf kf H1 s1 nq nb nk hF ek=>?_};have S1:=hS.same s1;have Xq:=s1 _ _ e1;erw [Xq,qZ];refine {x,fx,b,k,d,t,ks,ts,n,m,rfl,S1,λsl as us H2 s2 b8 Xv pr up so=>?_};ac_rfl;have ai:=aK pr;have b4:=up.length_eq;have few:=ok.few;have J:(us.map (·.1)).Nodup:=(up.map (·.1)).nodup_iff.mpr ok.nd;refine {{_,SqL.of Xv},eV.lst (xs:=as.map V.ref) (DcI H2 us) (λi τ ys H' I=>?_) (λi τ ys H' I=>SqL.of (I.same _ _ Xv)) {{_,_,_,rfl},{[],rfl,.nil},zj.refl _} ?_ ?_}
 .obtain ⟨kvs,e,pr⟩:=I.ys;have:=aK pr;have h2:=Qb i us;rw [e,uI];exact br 'l'
 .intro N i v τ ys H' hv I hN;obtain ⟨t1,t2,t3,rfl⟩:=I.ex;obtain ⟨kvs,e,pk⟩:=I.ys;rw [OT] at hv;obtain ⟨a,ha,rfl⟩:=O7.mp hv;have hi:i<us.length:=by rw [<- ai];exact (OG.mp ha).1
  have U:us[i]?=some us[i]:=KE hi;refine {a,_,rfl,SqT.of (I.same _ _ (bY pr ha U)),rfl,?_};ac_rfl;refine {'d',λa2 H3 n3=>hN _ _ _ {{_,_,_,rfl},{kvs++[(us[i].1,.ref a2)],?_,?_},I.same.trans n3.same}}
  .have bt:us[i].1∉kvs.map (·.1):=by
    rw [md pk];have nd:=J;rw [<- QI i us,Pe,QF hi,PP] at nd;exact λz=>(TU.mp nd).2.2 _ z _ (OB ..) rfl
   rw [e,uP];unfold k9;rw [if_neg bt]
  .rw [Pi,U];exact dm (Paired.ti pk λp t r=>r.keep λr xs e=>n3.same _ _ e) (.cons {rfl,a2,rfl,n3.at_} .nil)
 .intro τ ys H3 I D H4 n4;obtain ⟨kvs,e,pk⟩:=I.ys;rw [Ow,ai,OU (OA _)] at pk;rw [e] at n4;have a0:zj H2 H4:=I.same.trans n4.same;have Xi:zj H H4:=s1.trans (s2.trans a0);have bP:Paired (fc H4) kvs us:=Paired.ti pk λp t r=>r.keep λr xs e=>n4.same _ _ e;have O:=Xi _ _ hl;ac_rfl;refine {{_,SqL.of O},eV.lst (xs:=[]) (λ_ τ ys H'=>ys=[]/\H'=H4) (λi τ ys H' I=>by rw [I.1];decide) (λi τ ys H' I=>SqL.of (by rw [I.2];exact O)) {rfl,rfl} (λN i v τ ys H' hv=>(by cases hv)) ?_};rintro b2 b3 H5 ⟨rfl,rfl⟩ D5 H6 n6;have av:=n6.same _ _ O;ac_rfl;refine {{_,SqL.of av},bg.lst (xs:=[]) (λ_ σ H'=>(∃t1 t2 t3 t4,σ=[some (.ref x),some (.ref l),some (.int mm),some (.ref qf),some (.ref D),some (.ref D5),t1,t2,t3,t4])/\H'=H6) {{_,_,_,_,rfl},rfl} (λi σ H' _ I=>SqL.of (by rw [I.2];exact av)) (λi x σ H' hx=>(by cases hx)) ?_};rintro σ H' ⟨⟨t1,t2,t3,t4,rfl⟩,rfl⟩;have F6:=((hF.same s2).same a0).same n6.same;obtain ⟨b5,e6⟩:=F6.ob;have a5:=n6.same _ _ n4.at_;have bp:Paired (fc H') kvs us:=Paired.ti bP λp t r=>r.keep λr xs e=>n6.same _ _ e;erw [e6,qT];have b7:ts.length=(uniq (zW t ks)).length:=by rw [<- pm.length_eq,Ow]
  refine {qf,bf,kf,t,ks,rfl,F6,'l','l',λll ns H7 s7 nl el a3 ba=>?_};have a7:ns=us.map (·.1):=qt ba so (a3.nodup_iff.mpr dD) J λy=>by rw [a3.mem_iff,(up.map (·.1)).mem_iff,pm.mem_iff]
  have a8:=s7 _ _ a5;have S:Paired (fc H7) kvs us:=Paired.ti bp λp t r=>r.keep λr xs e=>s7 _ _ e;ac_rfl;rw [a7] at el;have ky:=md S;have b6:=aK S;refine {{_,SqL.of el},aM.lst (xs:=(us.map (·.1)).map V.int) (SbI H7 D us) (λi τ ys H' I=>?_) (λi τ ys H' I=>SqL.of (I.same _ _ el)) {{_,rfl},{[],rfl,.nil},zj.refl _} ?_ ?_}
  .obtain ⟨as,e,pr⟩:=I.ys;have:=aK pr;have h2:=Qb i us;rw [e,Ow];exact br 'l'
  .intro N i v τ ys H8 hv I hN;obtain ⟨t1,rfl⟩:=I.ex;obtain ⟨as,e,pr⟩:=I.ys;rw [OT,OT] at hv;have hi:i<us.length:=by
    rcases Nat.lt_or_ge i us.length with h|h
    .exact h
    .rw [Qs h] at hv;cases hv
   have U:=KE hi;rw [U] at hv;cases hv;have aI:i<kvs.length:=by lia
   obtain ⟨k1,a,k2,k3⟩:=bY S (KE aI) U;have b0:ay (ik kvs) (.inl us[i].1)=some (.ref a):=by
    refine oU (by rw [ky];exact J) ?_;rw [<- k1,<- k2];exact P0 aI
   ac_rfl;refine {'d',λp1 H9 n9=>{_,.inl (n9.same _ _ (I.same _ _ a8)),_,b0,?_}};ac_rfl;refine .inr {_,n9.at_,_,n9.same _ _ (I.same _ _ k3),by show 3<=sizeLine;decide,λp2 H10 ax bL=>hN _ _ _ {{_,rfl},{as++[p2],by rw [e,Pe];rfl,?_},I.same.trans (n9.same.trans ax)}};rw [Pi,U];exact dm (Paired.ti pr λa t r=>ax _ _ (n9.same _ _ r)) (.cons bL .nil)
  .intro τ ys H8 I sp H9 n9;obtain ⟨bx,e,a4⟩:=I.ys;rw [Ow,Ow,OU (OA _)] at a4;rw [e] at n9;have bq:zj H7 H9:=I.same.trans n9.same;have aT:zj H' H9:=s7.trans bq;have G:zj H H9:=Xi.trans (n6.same.trans aT);have S9:=hS.same G;obtain ⟨a6,e9⟩:=S9.ob;refine {a6,_,e9,ia,x,fx,b,k,d,t,ks,ts,n,m,rfl,S9,_,.inl (G _ _ hl),?_};ac_rfl;refine λy dy H10 Z=>{y,qf,bf,kf,sp,dy,n,mm,t,ks,bx,us,?_,Z.at_,(F6.same aT).same Z.same,.inl (Z.same _ _ n9.at_),Paired.ti a4 λr v e=>.inl (Z.same _ _ (n9.same _ _ e)),{J,'l'},λfy b' k' d' b1 a9 _ _ _ _ st _=>{rfl,?_}}
   .simp
   .exact q y fy b' k' d' us b1 (λc o e=>a9 _ _ (zH (G _ _ e) Z.no) (Z.same _ _ (G _ _ e))) st up
theorem o8(G:cA s0 F)(h1:cA s1 o1)(h:dv F o1=some M):z7 M.1.1/\aO M.1.2/\(M.2.1.map (·.1)).Perm (uniq (zW M.1.1 M.1.2)):=by
 have go:∀{s:Tx}{N:MD},cA s (some N)->z7 N.1.1/\aO N.1.2/\(N.2.1.map (·.1)).Perm (uniq (zW N.1.1 N.1.2)):=λ{s N} h=>by
  obtain ⟨_,_,_,_,gm,gk,_,pm⟩:=h;exact ⟨gm,gk,pm⟩
 cases F with
 | none =>
  cases o1 with
  | none=>cases h
  | some b=>cases h;exact go h1
 | some a =>
  cases o1 with
  | none=>cases h;exact go G
  | some b =>
   have h:(if b.2.2.2>a.2.2.2 then b else a)=M:=Pa.inj h;rw [<- h];split
   .exact go h1
   .exact go G
def xH(A:zi):Sp:=λvs H Q E=>∃(p wl sl:Addr)(n:Nat)(m c:Int)(s0 s1:Tx)(F o1:Option MD),vs=[.ref p]/\BkD A H p wl sl n m c s0 s1/\TB A H/\cA s0 F/\cA s1 o1 /\
 (∀M,dv F o1=some M->∀y G b k d ts H',zK H H'->TB A H'->aY A H' y G b k d M.1.1 M.1.2 ts M.2.2.1 (M.2.2.2+1)->ts.Perm M.2.1->Q (.ref y) H')/\(dv F o1=none->∀H',zK H H'->TB A H'->E (.ref A.S2) none H')
theorem mZ:zy ["disk","marked","taken"] WI (zm mr):=fsc
theorem C4(F:Fun K "risen" "risen" mr f fd)(T:Txt K mg A)(Zf:GX P w K mg base true 11 Wk WI (qA A))(Y1:GF P w K mg base true 3 Wg WI (rX A))(Z6:GM P w K mg base true 1 A.State Wj Zg (jk A))(Z7:GM P w K mg base true 1 A.State Wl Zg (iQ A))(YR:GF P w K mg base true 1 "rows_from" ["whole","number"] xD)(Ze:GF P w K mg base true 7 VW WG (yP A)):zq P w K mg base (CXW P w) true 12 f fd WI (xH A):=by
 refine F.oW mZ λZ1 Ar outer s H vs Q E G h=>?_;obtain ⟨p,wl,sl,n,m,c,s0,s1,o0,o1,rfl,D,tb,k0,k1,q,qe⟩:=h;have Th:=dw (cm:=true) (P:=P) (w:=w) (K:=K) (mg:=mg) (base:=base) (N:=["disk","marked","taken"]) (qual:="risen") (scope:=zm mr) (f:=f) (cd:=Z1) (A:=Ar) (outer:=outer) (s:=s) (H:=H) (E:=E);refine {_,(W.h (zh (zC (i:=1) mZ.nd rfl (OL rfl) (cXD (dP Th Zf G rfl (clP (zd (zb 0) ze)))))
   (zh (zC (i:=2) mZ.nd rfl (OL rfl) (caD (zL YR G rfl (clP (zd (caD (zL Y1 G rfl (clP (zd (zb 0) ze)))) (zd (m0D (zY (clE (zb 1)) T.qb Z6 G)) ze))))))
   (zo (zB (caD (zL Ze G rfl (clP (zd (zb 1) (zd (zb 2) (zd (m0D (zY (clE (zb 1)) T.qb Z7 G)) ze))))))))))),?_}
 ac_rfl;refine {p,wl,sl,n,m,c,s0,s1,o0,o1,rfl,D,tb,k0,k1,λM O x H1 s1' J st=>?_,λO H1 s1' J=>{_,rfl,qe O H1 s1' J}};obtain ⟨_,gk,pm⟩:=o8 k0 k1 O;ac_rfl;refine {p,wl,sl,n,m,c,s0,s1,rfl,D.tr s1',J,λl H2 s2 U hl=>?_};obtain ⟨fx,b,k,d,S⟩:=st.tr s2;obtain ⟨dx,e2⟩:=S.ob;erw [e2,ia];refine {x,fx,b,k,d,_,_,_,_,_,rfl,S,?_};ac_rfl;refine {l,_,rfl,hl,λr H3 s3 G=>?_};have S3:=S.same s3;obtain ⟨ax,e3⟩:=S3.ob;erw [e3,gY];refine {x,fx,b,k,d,_,_,_,_,_,rfl,S3,?_};ac_rfl;have kl:=gk.len;refine {x,fx,b,k,d,r,_,_,_,_,_,_,rfl,S3,G,pm,'l',λy fy b' k' d' ai H4 s4 Z av=>?_};exact q M O y fy b' k' d' ai H4 (s1'.trans (s2.trans ((zK.of s3).trans (.of s4)))) ((U.same s3).same s4) Z av
end
abbrev lZ:Stmt:=top 74
abbrev iV:Stmt:=top 75
def vD:List V->Hp->VK->Prop:=λxs H Q=>uR1 xs λp=>∃ys,H p=some (.tup ys)/\Q (.ref p) H
theorem NQ:zU X (.type "tuple") vD:=CB.weak λxs H Q h=>by
 obtain ⟨p,e,ys,h1,q⟩:=h;exact {p,ys,e,.inr {SqT.of h1,q}}
theorem B8{p:Addr}:vD [.ref p] H Q = ∃ys,H p=some (.tup ys)/\Q (.ref p) H:=fC
def kJ(N:Addr->Prop)(H:Hp)(t:Tab)(a:Addr)(n:Str):Prop:=∃r,N r/\H a=some (.tup [.str n,.ref r])/\H r=some (.lst ((lk t n).map V.int))
def ee(N:Addr->Prop)(H:Hp)(l:Addr)(t:Tab):Prop:=N l/\∃as,H l=some (.lst (as.map V.ref))/\Paired (kJ N H t) as (zt (names t))
def gv(N:Addr->Prop)(H:Hp)(ks:List (Str×Tab))(a:Addr)(n:Str):Prop:=∃r,H a=some (.tup [.str n,.ref r])/\ee N H r (kkT ks n)
structure fU(N:Addr->Prop)(H:Hp)(v:Addr)(t:Tab)(ks:List (Str×Tab))(us:List T3)(n m:Int):Prop where
 ex:∃(fl hl sl:Addr)(hs ss:List Addr),H v=some (.tup [.ref fl,.ref hl,.ref sl,.int n,.int m])/\ee N H fl t/\(N hl/\H hl=some (.lst (hs.map V.ref)))/\Paired (gv N H ks) hs (zt (names ks))/\(N sl/\H sl=some (.lst (ss.map V.ref)))/\Paired (dr H) ss us
section
variable {H H':Hp}{N N':Addr->Prop}
structure SLT(N N':Addr->Prop)(H H':Hp):Prop where
 l:∀{a xs},N a->H a=some (.lst xs)->H' a=some (.lst xs)
 t:∀{a xs},H a=some (.tup xs)->H' a=some (.tup xs)
 i:∀{a},N a->N' a
theorem SLT.of(s:zj H H')(i:∀{a},N a->N' a):SLT N N' H H':={λ_ e=>s _ _ e,λe=>s _ _ e,i}
theorem SLT.ofT(s:zK H H'):SLT N N H H':={λ_ e=>s.list e,λe=>s.tup e,id}
theorem kJ.mv{t:Tab}(h:kJ N H t a n)(s:SLT N N' H H'):kJ N' H' t a n:=h.elim λr h=>{r,s.i h.1,s.t h.2.1,s.l h.1 h.2.2}
theorem ee.mv{t:Tab}(h:ee N H l t)(s:SLT N N' H H'):ee N' H' l t:={s.i h.1,h.2.elim λas g=>{as,s.l h.1 g.1,Paired.ti g.2 λ_ _ r=>r.mv s}}
theorem gv.mv(h:gv N H ks a n)(s:SLT N N' H H'):gv N' H' ks a n:=h.elim λr h=>{r,s.t h.1,h.2.mv s}
theorem fU.mv{t:Tab}(h:fU N H v t ks us n m)(s:SLT N N' H H'):fU N' H' v t ks us n m:=by
 obtain ⟨fl,hl,sl,hs,O,e,f,G,p2,F,J⟩:=h.ex;exact {fl,hl,sl,hs,O,s.t e,f.mv s,{s.i G.1,s.l G.1 G.2},Paired.ti p2 λ_ _ r=>r.mv s,{s.i F.1,s.l F.1 F.2},Paired.ti J λ_ _ r=>s.t r}
end
section
variable {P:OE}{w:OW}{K:Frag}{mg:Str->Option Value}{base:Heap}{A:zi}
structure FtI(H:Hp)(p nl l:Addr)(t:Tab)(i:Nat)(σ:L2.St)(H':Hp):Prop where
 ex:∃t1,σ=[some (V.ref p),some (.ref l),t1]
 same:zj H H'
 hnl:H' nl=some (.lst ((zt (names t)).map V.str))
 no:H l=none
 ne:nl≠l
 ls:∃as,H' l=some (.lst (as.map V.ref))/\Paired (λa n=>∃r,(r≠l/\H r=none)/\H' a=some (.tup [.str n,.ref r])/\H' r=some (.lst ((lk t n).map V.int))) as ((zt (names t)).take i)
structure FtC(H:Hp)(p:Addr)(n:Str)(l:List Int)(i:Nat)(τ:L2.St)(ys:List V)(H':Hp):Prop where
 ex:∃t,τ=[t,some (V.ref p),some (.str n)]
 ys:ys=(l.take i).map V.int
 same:zj H H'
def uC(A:zi):Sp:=λvs H Q _=>∃(p b k:Addr)(t:Tab)(ks:List (Str×Tab)),vs=[.ref p]/\bK A H p b k t ks/\z7 t/\∀l H',zj H H'->ee (λx=>H x=none) H' l t->Q (.ref l) H'
theorem qr:zy Wr ["_law_files"] (zm lZ):=fsc
theorem K4:bb { kind:=.function,names:=[(Ou ".0",.local),(Ou "_law_place",.local),(Ou "_law_files",.free),(Ou "_law_name_here",.free)],isGenerator:=false,isCoroutine:=false,more:=[] } (zm lZ).names Wr Ws [none,some 0,some 2]=true:=by decide +kernel
theorem G3:(Ws:List Str).Nodup:=by decide +kernel
theorem CF(F:Fun K Wa Wa lZ f fd)(T:Txt K mg A)(ZX:GM P w K mg base true 1 A.ot VX Zg (mP A))(Z4:GM P w K mg base true 1 A.ot V9 XG (iK A))(ZW:GM P w K mg base true 4 A.ot Wh WS (kQ A)):zq P w K mg base CX0 true 5 f fd ["_law_files"] (uC A):=by
 refine F.o qr λZ1 Ar outer s H vs Q E hr h=>?_;obtain ⟨p,b,k,t,ks,rfl,hF,gm,q⟩:=h;refine {_,(W.h (zh (zC (i:=1) qr.nd rfl (OL rfl) (bV ze))
   (zh (cF Q6.never (λ_=>rfl) (liD (bM (clE (m0D (zY (clE (zb 0)) T.mu ZX hr))))) (zD (i:=2) qr.nd rfl (Ry rfl))
   (zo (aJ (gh (zb 1) (bR (zd (zb 2) (zd (fj (λ_=>rfl) (z6.of K4) (dB rfl T.z3 (zd (mD (aC (clE (zb 0)) T.mu Z4 hr (clP (zd (zb 2) ze)))) ze)) (λ_ _ _ _ _=>(zD (i:=0) G3 rfl (OL rfl))) (λ_ _ _ _ _=>cn) (λ_ _ _ _ _=>(mD (aC (clE (zb 1)) T.mu ZW hr (clP (zd (zb 2) (zd (zb 0) ze))))))) ze)))))))
   (zo (zB (zb 1)))))),?_}
 have gl:=gm.len;ac_rfl;refine {'d',λl H1 Z _=>?_};have F1:=hF.same Z.same;obtain ⟨dx,e1⟩:=F1.ob;erw [e1,rB];refine {p,b,k,t,ks,rfl,F1,'l',λnl H2 U=>?_};have O:nl≠l:=λz=>by have:=U.no;rw [z,Z.at_] at this;cases this
 ac_rfl;refine {{_,SqL.of U.at_},bg.lst (xs:=(zt (names t)).map V.str) (FtI H p nl l t) {{_,rfl},Z.same.trans U.same,U.at_,Z.no,O,[],U.same _ _ Z.at_,.nil} (λi σ H' _ I=>SqL.of I.hnl) ?_ ?_}
 .rintro i x σ H' hx ⟨⟨t1,rfl⟩,G,hnl,ln,O,as,has,pr⟩;rw [OT] at hx;obtain ⟨n,hn,rfl⟩:=O7.mp hx;obtain ⟨ll,hl,el,l1,l2,lx⟩:=gm.lk ((aB _).1.mem_iff.mp (Pc hn));have F':=hF.same G;obtain ⟨Xs,Xr⟩:=F'.ob;erw [has,Xr,gG];refine {p,b,k,t,ks,n,rfl,F',λH3 s3=>?_};ac_rfl;rw [el];refine {'l','l',aM.rng (FtC H3 p n ll) (λj τ ys H6 I=>?_) {{_,rfl},rfl,zj.refl _} ?_ ?_}
  .rw [I.ys,Ow,Qf];exact br 'l'
  .intro N j τ ys H6 hj I hN;obtain ⟨tt,rfl⟩:=I.ex;have F6:=hF.same (G.trans (s3.trans I.same));obtain ⟨aI,ax⟩:=F6.ob;have S:j<ll.length:=by lia
   erw [ax,jq];refine {p,b,k,t,ks,n,ll,_,rfl,F6,hl,'l','l',λH7 s7=>hN _ _ _ {{_,rfl},?_,I.same.trans s7}};have ej:(0+(j:Int)).toNat=j:=by lia
   rw [ej,OM,KE S,I.ys,Pi,KE S,Pe];rfl
  .intro τ ys H6 I D H7 J;have ey:=I.ys;rw [OU 'l'] at ey;rw [ey] at J;have av:zj H' H7:=s3.trans (I.same.trans J.same);ac_rfl;refine {'d',λtp H8 n8=>?_};have s8:zj H' H8:=av.trans n8.same;have ai:=s8 _ _ has;have la:=aK pr;have lt:=Qb i (zt (names t));have sl:(zt (names t)).length=t.length:=by rw [(aB _).1.length_eq];simp [names]
   have up:∀{c o},c≠l->H8 c=some o->upd H8 l (.lst (as.map V.ref++[.ref tp])) c=some o:=λn e=>by rw [zg n];exact e
   refine {_,ai,by rw [Ow];exact br 'l',{_,rfl},λc o e=>up (zH e ln) (s8 _ _ (G _ _ e)),up O (s8 _ _ hnl),ln,O,as++[tp],by rw [zA,Pe];rfl,?_};rw [Pi,hn];have Dl:D≠l:=λz=>by have:=J.no;rw [z,I.same _ _ (s3 _ _ has)] at this;cases this
   refine dm (Paired.ti pr λa m r=>?_) (.cons {D,{Dl,(G.trans (s3.trans I.same)).free J.no},up (λz=>?_) n8.at_,up Dl (by rw [el];exact n8.same _ _ J.at_)} .nil)
   .obtain ⟨r',g0,g1,g2⟩:=r;exact {r',g0,up (λz=>by rw [z,has] at g1;cases g1) (s8 _ _ g1),up g0.1 (s8 _ _ g2)}
   .have:=n8.no;rw [z,av _ _ has] at this;cases this
 .rintro σ H' ⟨⟨t1,rfl⟩,G,hnl,ln,O,as,has,pr⟩;rw [Ow,OU (OA _)] at pr;ac_rfl;exact q l H' G {ln,as,has,Paired.ti pr λa n r=>r.elim λr h=>⟨r,h.1.2,h.2⟩}
structure TdH(A:zi)(H0 H:Hp)(p:Addr)(ks:List (Str×Tab))(i:Nat)(τ:L2.St)(ys:List V)(H':Hp):Prop where
 ex:∃t,τ=[t,some (V.ref p)]
 ys:∃as:List Addr,ys=as.map V.ref/\Paired (gv (λx=>H0 x=none) H' ks) as ((zt (names ks)).take i)
 same:zj H H'
structure TdS(H:Hp)(us:List T3)(i:Nat)(τ:L2.St)(ys:List V)(H':Hp):Prop where
 ex:∃t,τ=[t]
 ys:∃as:List Addr,ys=as.map V.ref/\Paired (dr H') as (us.take i)
 same:zj H H'
def ox(A:zi):Sp:=λvs H Q _=>∃(x F b k d:Addr)(t:Tab)(ks:List (Str×Tab))(ts:List T3)(n m:Int),vs=[.ref x]/\aY A H x F b k d t ks ts n m/\z7 t/\aO ks /\
 ∀v us H',zj H H'->us.Perm ts->(us.map (·.1)).Pairwise (·<=·)->fU (λx=>H x=none) H' v t ks us n m->Q (.ref v) H'
theorem l7:zy Xk WC (zm iV):=fsc
theorem Mb:bb { kind:=.function,names:=[(Ou ".0",.local),(Ou "_law_name_here",.local),(Ou "_law_files_told",.globalImplicit),(Ou "_law_files",.free)],isGenerator:=false,isCoroutine:=false,more:=[] } (zm iV).names Xk ["_law_name_here","_law_files"] [none,some 1]=true:=by decide +kernel
theorem IH:(["_law_name_here","_law_files"]:List Str).Nodup:=by decide +kernel
theorem DA:bb { kind:=.function,names:=[(Ou ".0",.local),(Ou "_law_spot",.local),(Ou "tuple",.globalImplicit)],isGenerator:=false,isCoroutine:=false,more:=[] } (zm iV).names Xk ["_law_spot"] [none]=true:=by decide +kernel
theorem Ht:(["_law_spot"]:List Str).Nodup:=by decide +kernel
theorem KO(F:Fun K VV VV iV f fd)(T:Txt K mg A)(ZU:GM P w K mg base true 5 A.State Wi Zg (kF A))(ZV:GM P w K mg base true 1 A.State V7 Zg (kX A))(Z6:GM P w K mg base true 1 A.State Wj Zg (jk A))(Z7:GM P w K mg base true 1 A.State Wl Zg (iQ A))(ZA:GM P w K mg base true 1 A.ot "held" Zg (rn A))(ZM:GM P w K mg base true 4 A.ot "of_held" XH (m3 A))(ZG:GF P w K mg base true 5 Wa ["_law_files"] (uC A)):zq P w K mg base CX0 true 6 f fd WC (ox A):=by
 refine F.o l7 λZ1 Ar outer s H vs Q E J h=>?_;obtain ⟨x,fx,b,k,d,t,ks,ts,n,m,rfl,hS,gm,gk,q⟩:=h;refine {_,(W.h (zh (zC (i:=1) l7.nd rfl (Ry rfl) (m0D (zY (clE (zb 0)) T.qb ZU J)))
   (zh (gg (i0:=2) l7.nd rfl (OL rfl) (λ_=>rfl) (z6.of Mb) (liD (bM (clE (m0D (zY (clE (zb 1)) T.mu ZA J))))) (λ_ _ _ _ _=>(zD (i:=0) IH rfl (OL rfl))) (λ_ _ _ _ _=>cn) (λ_ _ _ _ _=>(bR (zd (zb 0) (zd (caD (zL ZG J rfl (clP (zd (mD (aC (clE (zb 1)) T.mu ZM J (clP (zd (zb 0) ze)))) ze)))) ze)))))
   (zh (gg (i0:=3) l7.nd rfl (OL rfl) (λ_=>rfl) (z6.of DA) (liD (bM (clE (m0D (zY (clE (zb 0)) T.qb ZV J))))) (λ_ _ _ _ _=>(zD (i:=0) Ht rfl (OL rfl))) (λ_ _ _ _ _=>cn) (λ_ _ _ _ _=>(cR NQ rfl T.bL boot_tuple (zd (zb 0) ze))))
   (zo (zB (bR (zd (caD (zL ZG J rfl (clP (zd (zb 1) ze)))) (zd (zb 2) (zd (zb 3) (zd (m0D (zY (clE (zb 0)) T.qb Z6 J)) (zd (m0D (zY (clE (zb 0)) T.qb Z7 J)) ze)))))))))))),?_}
 obtain ⟨dx,e1⟩:=hS.ob;have kl:=gk.len;have few:=hS.ok.few;erw [e1,jc];refine {x,fx,b,k,d,t,ks,ts,n,m,rfl,hS,λqf bf kf H1 s1 nq nb nk hF ek=>?_};obtain ⟨Xw,Xq⟩:=hF.ob;erw [Xq,xN];refine {qf,bf,kf,t,ks,rfl,hF.r,'l',λnl H2 O=>?_};have sl:(zt (names ks)).length=ks.length:=by rw [(aB _).1.length_eq];simp [names]
 refine {{_,SqL.of O.at_},aM.lst (xs:=(zt (names ks)).map V.str) (TdH A H H2 qf ks) (λi τ ys H' I=>?_) (λi τ ys H' I=>SqL.of (I.same _ _ O.at_)) {{_,rfl},{[],rfl,.nil},zj.refl _} ?_ ?_}
 .obtain ⟨as,e,pr⟩:=I.ys;have:=aK pr;have h2:=Qb i (zt (names ks));rw [e,Ow];exact br 'l'
 .intro N i v τ ys H' hv I hN;obtain ⟨t1,rfl⟩:=I.ex;obtain ⟨as,e,pr⟩:=I.ys;rw [OT] at hv;obtain ⟨z,hz,rfl⟩:=O7.mp hv;obtain ⟨u,hu,eu,gu⟩:=gk.lk ((aB _).1.mem_iff.mp (Pc hz));have F':=(hF.same O.same).same I.same;obtain ⟨Xs,Xr⟩:=F'.ob;erw [Xr,w9];refine {qf,bf,kf,t,ks,z,u,rfl,F'.r,hu,λy b' k' H3 s3 _ _ _ hB _=>{y,b',k',u,[],rfl,hB.files,gu,λr H4 s4 ft=>?_}};ac_rfl;refine {'d',λa H5 n5=>hN _ _ _ {{_,rfl},{as++[a],by rw [e,Pe];rfl,?_},I.same.trans (s3.trans (s4.trans n5.same))}};rw [Pi,hz];exact dm (Paired.ti pr λ_ _ r=>r.mv (.of (s3.trans (s4.trans n5.same)) id)) (.cons {r,n5.at_,by rw [eu];exact ft.mv (.of n5.same λh=>(s1.trans (O.same.trans (I.same.trans s3))).free h)} .nil)
 .intro τ ys H3 I3 hl H4 U;obtain ⟨hs,e,pr⟩:=I3.ys;rw [Ow,OU (OA _)] at pr;rw [e] at U;have Xi:zj H H4:=s1.trans (O.same.trans (I3.same.trans U.same));have S4:=hS.same Xi;obtain ⟨a0,e4⟩:=S4.ob;have ax:Paired (gv (λx=>H x=none) H4 ks) hs (zt (names ks)):=Paired.ti pr λ_ _ r=>r.mv (.of U.same id);erw [e4,qZ];refine {x,fx,b,k,d,t,ks,ts,n,m,rfl,S4,λa3 as us H5 s5 _ Xv ps up so=>?_};have ai:=aK ps;have aI:=up.length_eq;ac_rfl;refine {{_,SqL.of Xv},aM.lst (xs:=as.map V.ref) (TdS H5 us) (λi τ ys H' I=>?_) (λi τ ys H' I=>SqL.of (I.same _ _ Xv)) {{_,rfl},{[],rfl,.nil},zj.refl _} ?_ ?_}
  .obtain ⟨bs,e,pr⟩:=I.ys;have:=aK pr;have h2:=Qb i us;rw [e,Ow];exact br 'l'
  .intro N i v τ ys H' hv I hN;obtain ⟨t1,rfl⟩:=I.ex;obtain ⟨bs,e,pb⟩:=I.ys;rw [OT] at hv;obtain ⟨a,ha,rfl⟩:=O7.mp hv;have hi:i<us.length:=by rw [<- ai];exact (OG.mp ha).1
   have g1:=I.same _ _ (bY ps ha (KE hi));erw [B8,g1];refine hN _ _ _ {{_,rfl},{bs++[a],by rw [e,Pe];rfl,?_},I.same};rw [Pi,KE hi];exact dm pb (.cons g1 .nil)
  .intro τ ys H6 I av H7 Z;obtain ⟨ss,e,pb⟩:=I.ys;rw [Ow,ai,OU (OA _)] at pb;rw [e] at Z;have S:zj H4 H7:=s5.trans (I.same.trans Z.same);have F7:=hF.same (O.same.trans (I3.same.trans (U.same.trans S)));refine {qf,bf,kf,t,ks,rfl,F7.r,gm,λfl H8 s8 ft=>?_};have S8:=S4.same (S.trans s8);obtain ⟨aT,e8⟩:=S8.ob;erw [e8,ia,gY];refine {x,fx,b,k,d,t,ks,ts,n,m,rfl,S8,?_};erw [e8,gY];refine {x,fx,b,k,d,t,ks,ts,n,m,rfl,S8,?_};ac_rfl;refine {'d',λv H9 n9=>q v us H9 (Xi.trans (S.trans (s8.trans n9.same))) up so {fl,hl,av,hs,ss,n9.at_,ft.mv (.of n9.same λh=>(Xi.trans S).free h),?_}};have G:zj H7 H9:=s8.trans n9.same;exact {{(s1.trans (O.same.trans I3.same)).free U.no,G _ _ (S _ _ U.at_)},Paired.ti ax λ_ _ r=>r.mv (.of (S.trans G) id),{(Xi.trans (s5.trans I.same)).free Z.no,G _ _ Z.at_},Paired.ti pb λ_ _ r=>G _ _ (Z.same _ _ r)}
end
abbrev j9:Stmt:=top 76
theorem zJ.U9{p b k a:Addr}{t:Tab}(h:zJ A H p b k t ks)(s:But a H H')(F:Pot H a):zJ A H' p b k t ks:=let ⟨_,_,e,_⟩:=F.ex;h.bo s e .lst
theorem zJ.aV{p b k:Addr}{t:Tab}(h:zJ A H p b k t ks):(∃kvs,H b=some (.dK kvs))/\∃kvs,H k=some (.dK kvs):=by
 obtain ⟨kvs,e,_⟩:=h.ny.ex;obtain ⟨kk,F,_⟩:=h.kept;exact {{_,e},{_,F}}
theorem ku{t:Tab}(nd:(names t).Nodup):y∈zX t↔∃n,y∈lk t n:=by
 rw [eK];constructor
 .rintro ⟨p,G,F⟩;refine {p.1,?_};unfold lk;rw [iB nd (show (p.1,p.2)∈t from G)];exact F
 .rintro ⟨n,F⟩;unfold lk at F;cases e:look t n with
  | none=>rw [e] at F;cases F
  | some l=>rw [e] at F;exact {_,dR e,F}
def Liv(t:Tab)(ks:List (Str×Tab))(ts:List T3):Prop:=∀y,y∈zW t ks↔y∈ts.map (·.1)
section
variable {t:Tab}{ks:List (Str×Tab)}{ts:List T3}{z:Str}{x:Int}{u:T3}
theorem Liv.put(h:Liv t ks ts)(nt:(names t).Nodup)(G:(names (zF t z l)).Nodup)(hl:l=lk t z++[x])(hx:u.1=x):Liv (zF t z l) ks (ts++[u]):=λy=>by
 rw [ck,ku G,Pe,OY,<- h y,ck,ku nt];simp only [pW,PP,Uw,OS,hx,hl];constructor
 .rintro (⟨n,F⟩|F)
  .split at F
   .next e=>subst e;exact (OY.mp F).elim (λF=>.inl (.inl {_,F})) λF=>.inr (OS.mp F)
   .exact .inl (.inl ⟨n,F⟩)
  .exact .inl (.inr F)
 .rintro ((⟨n,F⟩|F)|rfl)
  .refine .inl {n,?_};split
   .next e=>subst e;exact O4 _ F
   .exact F
  .exact .inr F
  .exact .inl {z,by rw [if_pos rfl];simp}
theorem Liv.hold(h:Liv t [] ts)(n:Str):Liv t (zF [] n t) ts:=λy=>by
 rw [<- h y,ck,ck];constructor
 .rintro (F|⟨p,G,F⟩)
  .exact .inl F
  .rcases eR G with G|rfl
   .cases G
   .exact .inl F
 .rintro (F|⟨p,G,F⟩)
  .exact .inl F
  .cases G
theorem Liv.anew(h:Liv t ks ts)(nt:(names t).Nodup){o:Int}(G:(names (zF t z ([x]++l))).Nodup)(hl:lk t z=o::l)(hx:u.1=x):∀y,(y∈zW (zF t z ([x]++l)) ks->y∈(ts++[u]).map (·.1))/\(y∈(ts++[u]).map (·.1)->y≠o->y∈zW (zF t z ([x]++l)) ks):=λy=>by
 rw [ck,ku G,Pe,OY,<- h y,ck,ku nt];simp only [pW,PP,Uw,OS,hx];constructor
 .rintro (⟨n,F⟩|F)
  .split at F
   .next e=>subst e;exact (OY.mp F).elim (λF=>.inr (OS.mp F)) λF=>.inl (.inl {_,by rw [hl];exact Oy _ F})
   .exact .inl (.inl ⟨n,F⟩)
  .exact .inl (.inr F)
 .rintro ((⟨n,F⟩|F)|rfl) ne
  .refine .inl {n,?_};split
   .next e =>
    subst e;rw [hl] at F;rcases OK.mp F with F|F
    .exact absurd F ne
    .exact Ox _ F
   .exact F
  .exact .inr F
  .exact .inl {z,by rw [if_pos rfl];simp}
end
theorem Lw{ns:List Int}:inV (.int y) (ns.map V.int)=decide (y∈ns):=by
 unfold inV;rw [any_map]
 induction ns with
 | nil=>rfl
 | cons n ns F =>
  rw [Ug,F];have e:(((λx=>eqV x (.int y))∘V.int) n)=decide (y=n):=by
   show (n==y)=_;rw [Q7,beq_iff_eq,decide_eq_true_eq];exact eq_comm
  rw [e];simp [OK,Bool.decide_or]
section
variable {P:OE}{w:OW}{K:Frag}{mg:Str->Option Value}{base:Heap}{A:zi}
structure Mkg(A:zi)(H0 H:Hp)(a p b k sl:Addr)(B:Nat)(t:Tab)(ks:List (Str×Tab))(as:List Addr)(ts:List T3):Prop where
 but:But a H0 H
 U9:Pot H a
 fl:zJ A H p b k t ks
 a0:Bud t ks B
 few:ks.length<=1
 nk:∀q∈ks,(names q.2).Nodup
 hs:H sl=some (.lst (as.map V.ref))
 pr:Paired (dr H) as ts
 rg:hZ ts
 lv:Liv t ks ts
 fr:H0 b=none/\H0 k=none/\H0 sl=none/\sl≠a
theorem Mkg.bp{a p b k sl:Addr}{t:Tab}(h:Mkg A F H a p b k sl B t ks as ts)(s:But a H H')(G:Pot H' a):Mkg A F H' a p b k sl B t ks as ts:=by
 obtain ⟨x,y,ea,_⟩:=h.U9.ex;exact {h.but.trans s,G,h.fl.U9 s h.U9,h.a0,h.few,h.nk,s _ _ h.fr.2.2.2 h.hs,Paired.ti h.pr λr v e=>s _ _ (λz=>by have e:H r=_:=e;rw [z,ea] at e;cases e) e,h.rg,h.lv,h.fr}
theorem Mkg.same{a p b k sl:Addr}{t:Tab}(h:Mkg A F H a p b k sl B t ks as ts)(s:zj H H'):Mkg A F H' a p b k sl B t ks as ts:=h.bp (.of s) (h.U9.same s)
theorem Mkg.up{a p b k sl:Addr}{t:Tab}(h:Mkg A F H a p b k sl B t ks as ts)(l:B<=C):Mkg A F H a p b k sl C t ks as ts:={h.but,h.U9,h.fl,h.a0.mono l,h.few,h.nk,h.hs,h.pr,h.rg,h.lv,h.fr}
theorem Mkg.put{a p b k sl tp:Addr}{t t':Tab}(h:Mkg A J H a p b k sl B t ks as ts)(G:But b H H1)(F1:zJ A H1 p b k t' ks)(F:New H1 tp (.tup [.int u.1,.int u.2.1,.int u.2.2]) H2)(bd:Bud t' ks (B+1))(ru:(0<=u.2.1/\u.2.1<16)/\0<=u.2.2/\u.2.2<32):
  H2 sl=some (.lst (as.map V.ref))/\∀H3,H3=upd H2 sl (.lst (as.map V.ref++[.ref tp]))->(Liv t' ks (ts++[u])->Mkg A J H3 a p b k sl (B+1) t' ks (as++[tp]) (ts++[u]))/\But a J H3/\Pot H3 a/\zJ A H3 p b k t' ks/\H3 sl=some (.lst ((as++[tp]).map V.ref))/\Paired (dr H3) (as++[tp]) (ts++[u]):=by
 obtain ⟨⟨kvs,O⟩,_⟩:=h.fl.aV;obtain ⟨x,y,ea,er⟩:=h.U9.ex;have hs:=h.hs;have sb:sl≠b:=λz=>by rw [z,O] at hs;cases hs
 have S:H2 sl=some (.lst (as.map V.ref)):=F.same _ _ (G _ _ sb hs);refine {S,λH3 e=>?_};subst e;have bt:But a J (upd H2 sl (.lst (as.map V.ref++[.ref tp]))):=((h.but.fresh G h.fr.1).trans (.of F.same)).fresh But.upd h.fr.2.2.1;have up:∀{c xs},H2 c=some (.tup xs)->upd H2 sl (.lst (as.map V.ref++[.ref tp])) c=some (.tup xs):=λ{c xs} e=>by rw [zg (λz=>by rw [z,S] at e;cases e)];exact e
 have U:Pot (upd H2 sl (.lst (as.map V.ref++[.ref tp]))) a:={{x,y,by rw [zg h.fr.2.2.2.symm];exact F.same _ _ (G _ _ (λz=>by rw [z,O] at ea;cases ea) ea),er}};have F3:zJ A (upd H2 sl (.lst (as.map V.ref++[.ref tp]))) p b k t' ks:=(F1.same F.same).bo But.upd S .lst;have W:upd H2 sl (.lst (as.map V.ref++[.ref tp])) sl=some (.lst ((as++[tp]).map V.ref)):=by rw [zA,Pe];rfl
 have Z:Paired (dr (upd H2 sl (.lst (as.map V.ref++[.ref tp])))) (as++[tp]) (ts++[u]):=dm (Paired.ti h.pr λr v e=>up (F.same _ _ (G _ _ (λz=>by have e:H r=_:=e;rw [z,O] at e;cases e) e))) (.cons (up F.at_) .nil);exact {λlv=>{bt,U,F3,bd,h.few,h.nk,W,Z,λv hv=>(OY.mp hv).elim (h.rg v) λhv=>by rw [OS.mp hv];exact ru,lv,h.fr},bt,U,F3,W,Z}
structure FlI(H:Hp)(o:Int)(us:List T3)(i:Nat)(τ:L2.St)(ys:List V)(H':Hp):Prop where
 ex:∃t,τ=[t,some (.int o)]
 ys:∃cs:List Addr,ys=cs.map V.ref/\Paired (dr H) cs ((us.take i).filter λv=>decide (v.1≠o))
 same:H'=H
structure LsI(A:zi)(H:Hp)(a p b k sl:Addr)(pl nm mn fs wh:Int)(i:Nat)(σ:L2.St)(H':Hp):Prop where
 ex:∃t1 t2,σ=[some (V.ref a),some (.int pl),some (.int nm),some (.int mn),some (.int fs),some (.ref p),some (.ref sl),some (.int wh),t1,t2,none]
 mg:∃t ks as ts,Mkg A H H' a p b k sl i t ks as ts/\((i:Int)<=wh->ks=[])/\(ts.map (·.1)=(Pm i).map λ(j:Nat)=>fs+2*(j:Int))/\(0<i->∃n l,look t n=some l)
structure LsE(A:zi)(H:Hp)(a p b k:Addr)(pl nm mn fs wh:Int)(σ:L2.St)(H':Hp):Prop where
 ex:∃sl t1 t2 t3 t ks as ts,σ=[some (V.ref a),some (.int pl),some (.int nm),some (.int mn),some (.int fs),some (.ref p),some (.ref sl),some (.int wh),t1,t2,t3]/\Mkg A H H' a p b k sl 7 t ks as ts/\(ts.map (·.1)).Nodup
def vn(A:zi):Sp:=λvs H Q _=>∃(a:Addr)(pl nm:Int),vs=[.ref a,.int pl,.int nm]/\Pot H a/\6<=pl/\pl<=32/\0<=nm/\nm<10 ^ 18 /\
 ∀x F b k d t ks ts n H',But a H H'->Pot H' a->aY A H' x F b k d t ks ts n nm->z7 t->aO ks->eG ts nm n->(ts.map (·.1)).Perm (uniq (zW t ks))->ts.length<=7->Q (.ref x) H'
theorem dC:zy XF WM (zm j9):=fsc
theorem LK:bb { kind:=.function,names:=[(Ou ".0",.local),(Ou "_law_spot",.local),(Ou "_law_old",.free)],isGenerator:=false,isCoroutine:=false,more:=[] } (zm j9).names XF ["_law_spot","_law_old"] [none,some 10]=true:=by decide +kernel
theorem Ng:(["_law_spot","_law_old"]:List Str).Nodup:=by decide +kernel
theorem Kw(F:Fun K "_law_state" "_law_state" j9 f fd)(T:Txt K mg A)(Z8:GF P w K mg base true 1 Wb X2 iA)(YQ:GF P w K mg base true 2 "_law_name" Wx AQ)(Zm:GC P w K mg base true 1 "Files" A.ot Zg (j4 A))(Z4:GM P w K mg base true 1 A.ot V9 XG (iK A))(ZF:GM P w K mg base true 4 A.ot "put" WN (mW A))(Y0:GM P w K mg base true 5 A.ot "hold" XH (vy A))(ZX:GM P w K mg base true 1 A.ot VX Zg (mP A))(ZW:GM P w K mg base true 4 A.ot Wh WS (kQ A))(ZY:GM P w K mg base true 1 A.ot "living" Zg (mq A))(Zk:GC P w K mg base true 5 "State" A.State Ys (kh A)):zq P w K mg base CX0 true 7 f fd WM (vn A):=by
 refine F.o dC λZ1 Ar outer s H vs Q E G h=>?_;obtain ⟨a,pl,nm,rfl,hP,c6,c0,b9,bq,q⟩:=h;have hu:_<cLine:=Qt (bo G);refine {_,(W.h (zh (zC (i:=3) dC.nd rfl (OL rfl) (caD (zL Z8 G rfl (clP (zd (zb 0) (zd zu ze))))))
   (zh (zC (i:=4) dC.nd rfl (OL rfl) (caD (zL Z8 G rfl (clP (zd (zb 0) (zd (aR bS (bV (zd zu (zd (zI (oI qQ) zu zu) ze))) (caD (zL Z8 G rfl (clP (zd (zb 0) (zd zu ze))))) (λ_ _=>rfl)) ze))))))
   (zh (zC (i:=5) dC.nd rfl (OL rfl) (qu Zm G rfl))
   (zh (zC (i:=6) dC.nd rfl (OL rfl) (bV ze))
   (zh (zC (i:=7) dC.nd rfl (OL rfl) (caD (zL Z8 G rfl (clP (zd (zb 0) (zd zu ze))))))
   (zh (cF Q6.never (λ_=>rfl) (dB rfl T.z3 (zd (zb 3) ze)) (zD (i:=8) dC.nd rfl (OL rfl))
   (zh (zC (i:=9) dC.nd rfl (OL rfl) (caD (zL YQ G rfl (clP (zd (zb 0) ze)))))
   (zh (aJ (mD (aC (clE (zb 5)) T.mu ZF G (clP (zd (zb 9) (zd (mD (aC (clE (zb 5)) T.mu Z4 G (clP (zd (zb 9) ze)))) (zd (zI bw (zb 4) (zI dW zu (zb 8))) ze)))))))
   (zh (aJ (gh (zb 6) (bR (zd (zI bw (zb 4) (zI dW zu (zb 8))) (zd (zI (oI vX) (zb 8) (zb 1)) (zd (zI (oI iO) (zb 8) (zb 1)) ze))))))
   (zo (af (tD (aF (clO (oE (dH hu))) (clE (zb 8)) (clE (zb 7)) (aH _)))
   (zo (aJ (mD (aC (clE (zb 5)) T.mu Y0 G (clP (zd (zb 9) ze))))))
   aa))))))
   (zh (Kn (af (GB (vY (tD (aF (clO (oI0 Bf)) (clE (zb 3)) (clE zu) (aH _))) (vY (tD (aF (clO (oE (dH hu))) (clE (caD (zL Z8 G rfl (clP (zd (zb 0) (zd zu ze)))))) (clE zu) (aH _))) (HK (tD (aF (clO (oI0 qJ)) (clE (zb 7)) (clE (zI (oI0 iH) (zb 3) zu)) (aH _)))))))
   (zh (zC (i:=9) dC.nd rfl (OL rfl) (aR bS (m0D (zY (clE (zb 5)) T.mu ZX G)) zu (λ_ _=>rfl)))
   (zh (zC (i:=10) dC.nd rfl (Ry rfl) (mD (aC (clE (zb 5)) T.mu ZW G (clP (zd (zb 9) (zd zu ze))))))
   (zh (aJ (mD (aC (clE (zb 5)) T.mu ZF G (clP (zd (zb 9) (zd zu (zd (zI bw (zb 4) (zI dW zu (zb 3))) ze)))))))
   (zh (aJ (gh (zb 6) (bR (zd (zI bw (zb 4) (zI dW zu (zb 3))) (zd zu (zd (zI (oI0 iH) (zb 1) zu) ze))))))
   (zo (af (tD (aF (clO (Hy hu)) (clE (zb 10)) (clE (m0D (zY (clE (zb 5)) T.mu ZY G))) rfl))
   (zo (gg (i0:=6) dC.nd rfl (OL rfl) (λ_=>rfl) (z6.of LK) (liD (bM (clE (zb 6)))) (λ_ _ _ _ _=>(zD (i:=0) Ng rfl (OL rfl))) (λ_ _ _ _ _=>(nG (tD (aF (clO (oE (iP hu))) (clE (aR bS (zb 0) zu (λ_ _=>rfl))) (clE (zb 1)) (aH _))))) (λ_ _ _ _ _=>(zb 0))))
   aa))))))
   aa))
   (zo (zB (ja Zk G rfl (zd (zb 5) (zd (zb 6) (zd (zI bw (zI bw (zI bw (zb 4) (zI dW zu (zb 3))) zu) (caD (zL Z8 G rfl (clP (zd (zb 0) (zd zu ze)))))) (zd (zb 2) ze))))))))))))))),?_}
 ac_rfl;refine zzD hP 'd' 'd' λmn H1 b1 P1 c5 df=>?_;ac_rfl;refine {{'d','d','d'},'d',λl4 H2 n2 _=>zzD (P1.same n2.same) 'd' 'd' λr H3 b3 P3 r0 r1=>?_};have h4:=b3 _ _ (P1.ne n2.no) n2.at_;have cP:But a H H3:=(b1.trans (.of n2.same)).trans b3;have rr:∃X:Int,atI [V.int 4,V.int (10 ^ toNat 17)] r=some (.int X)/\0<X/\X<=10 ^ 17:=by
  have:r=0\/r=1:=by lia
  rcases this with rfl|rfl
  .exact {4,rfl,'d','d'}
  .exact {_,rfl,'d','d'}
 obtain ⟨X,eX,X0,X1⟩:=rr;show iG _ _ _ _;rw [kM];refine {_,.inl h4,_,eX,a,X,rfl,P3,X0,Rv X1 'd',λfs H4 b4 P4 dc dg=>?_};have a5:But a H H4:=cP.trans b4;refine λp dx H5 J=>{p,dx,rfl,J.at_,λb k H6 b6 nb nk eb ek bp ex=>{rfl,'d',λsl H7 n7 _=>?_}};have P5:=P4.same J.same;have pa:p≠a:=λz=>by obtain ⟨_,_,e,_⟩:=P4.ex;have:=J.no;rw [z,e] at this;cases this
 obtain ⟨x5,y5,e5,r5⟩:=P5.ex;have P7:Pot H7 a:={{x5,y5,n7.same _ _ (b6 _ _ pa.symm e5),r5}};have b5:zj H4 H7:=λc o e=>n7.same _ _ (b6 _ _ (zH e J.no) (J.same _ _ e));have bP:But a H H7:=a5.trans (.of b5);have fr:∀{c},H4 c=none->c≠a->H c=none:=λ{c} h n=>by
  cases e:H c with
  | none=>rfl
  | some o=>rw [a5 c o n e] at h;cases h
 have F7:zJ A H7 p b k [] []:={{dx,n7.same _ _ ex},{{[],n7.same _ _ eb,.nil},by simp [names]},{[],n7.same _ _ ek,.nil},by simp [names],bp};have f5:∀{c},H5 c=none->H4 c=none:=λ{c} h=>J.same.free h;have aI:H4 sl=none:=by
  cases e:H4 sl with
  | none=>rfl
  | some o=>have:=n7.no;rw [b6 _ _ (zH e J.no) (J.same _ _ e)] at this;cases this
 have ai:∀{c},H4 c=none->c≠a:=λ{c} h z=>by obtain ⟨_,_,e,_⟩:=P4.ex;rw [z,e] at h;cases h
 refine zzD P7 'd' 'd' λwh H8 b8 P8 c2 da=>{'l','l',?_};have M8:Mkg A H H8 a p b k sl 0 [] [] [] []:=Mkg.bp (H:=H7) {bP,P7,F7,{'z',λn=>by simp [lk,look],{[],'z',λy hy=>by simp [zW,zX] at hy},λn l e=>by simp [look] at e,'z',λp hp=>(by cases hp),'z'},'z','z',n7.at_,.nil,λt ht=>(by cases ht),λy=>by simp [zW,zX],fr (f5 nb) (ai (f5 nb)),fr (f5 nk) (ai (f5 nk)),fr aI (ai aI),ai aI} b8 P8;refine bg.rng (LsI A H a p b k sl pl nm mn fs wh) {{_,_,rfl},[],[],[],[],M8,λ_=>rfl,rfl,λh=>absurd h 'd'} ?_ ?_
 .rintro i σ H' hi ⟨⟨t1,t2,rfl⟩,t,ks,as,ts,M,kw,et,_⟩;have e0:(0+(i:Int))=(i:Int):=by lia
  erw [e0];refine {a,rfl,M.U9,λz H1 b1 P1 hz=>?_};have Z:=M.bp b1 P1;have hz:aN z=true:=by
   simp only [OK,PD,or_false] at hz;rcases hz with rfl|rfl|rfl|rfl<;>decide +kernel
  obtain ⟨Xw,e1⟩:=Z.fl.ob;refine {Xw,_,e1,rA,Xw,_,e1,gG,p,b,k,t,ks,z,rfl,Z.fl.r,λH2 s2=>?_};have M2:=Z.same s2;have row:=M.a0.row z;have few:=M.a0.few;have cm:fH 2 i:=.inl {'l','l'};refine {cm,p,b,k,t,ks,z,_,_,rfl,M2.fl,'l','l','l','l',λH3 b3 F3=>?_};rw [Qk] at F3;have bf:H3 sl=some (.lst (as.map V.ref)):=b3 _ _ (λz=>by obtain ⟨⟨kvs,eb⟩,_⟩:=M2.fl.aV;have:=M2.hs;rw [z,eb] at this;cases this) M2.hs;refine {{_,bf},cm,{'l','l'},'l','d',λtp H4 n4=>?_};have r1:0<=(i:Int) / pl/\(i:Int) / pl<16:={Int.ediv_nonneg 'l' 'l',Rv (Int.ediv_le_self _ 'l') 'l'};have r2:0<=(i:Int) % pl/\(i:Int) % pl<32:={UJ _ 'l',Int.lt_of_lt_of_le (Tw _ 'l') 'l'};obtain ⟨e4,g⟩:=M2.put (u:=(fs+2*i,(i:Int) / pl,(i:Int) % pl)) b3 F3 n4 (M.a0.put (OA _) hz 'l') ⟨r1,r2⟩;have la:=aK M.pr;have lt:ts.length=i:=by have:=congrArg Tj et;simpa using this
  refine {_,e4,by rw [Ow];exact br 'l',?_};have O:=(g _ rfl).1 (M2.lv.put M2.fl.ny.nd F3.ny.nd 'z' rfl);have aT:(ts++[((fs+2*i,(i:Int) / pl,(i:Int) % pl):T3)]).map (·.1)=(Pm (i+1)).map λ(j:Nat)=>fs+2*(j:Int):=by rw [Pe,et,List.range_succ,Pe];rfl
  refine bZ (λh=>?_) (λh=>?_)
  .have k0:ks=[]:=kw (by have:=of_decide_eq_true h;lia);subst k0;obtain ⟨bt,e5⟩:=O.fl.ob;obtain ⟨_,kk,ek⟩:=O.fl.aV;refine {bt,_,e5,Hj,p,b,k,_,_,z,rfl,O.fl,rfl,'z',λH6 b6 F6 _=>{{_,_,rfl},_,_,_,_,{O.but.fresh b6 O.fr.2.1,?_,F6,O.a0.sub λq hq=>?_,Pj iX (OA _),λq hq=>?_,b6 _ _ (λz=>?_) O.hs,Paired.ti O.pr λr v e=>b6 _ _ (λz=>?_) e,O.rg,O.lv.hold z,O.fr},λh'=>?_,aT,λ_=>{z,_,by rw [iu,if_pos rfl]}}}
   .obtain ⟨x,y,ea,er⟩:=O.U9.ex;exact {{x,y,b6 _ _ (λz=>by rw [z,ek] at ea;cases ea) ea,er}}
   .rcases eR hq with hq|rfl
    .cases hq
    .exact .inr {rfl,hz}
   .rcases eR hq with hq|rfl
    .cases hq
    .exact F3.ny.nd
   .rw [<- z,O.hs] at ek;cases ek
   .have e:upd H4 sl _ r=_:=e;rw [z,ek] at e;cases e
   .have:=of_decide_eq_true h;lia
  .exact {{_,_,rfl},_,_,_,_,O,λh'=>kw 'l',aT,λ_=>{z,_,by rw [iu,if_pos rfl]}}
 .rintro σ H' ⟨⟨t1,t2,rfl⟩,t,ks,as,ts,M,kw,et,ne⟩;have lt:ts.length=mn.toNat:=by have:=congrArg Tj et;simpa using this
  have a0:∀i:Nat,((Pm i).map λ(j:Nat)=>fs+2*(j:Int)).Nodup:=λi=>Uu.mpr (List.nodup_range.imp λh e=>h 'l');erw [Gr];refine {LsE A H a p b k pl nm mn fs wh,?_,?_}
  .have U:∀H1,Mkg A H H1 a p b k sl mn.toNat t ks as ts->LsE A H a p b k pl nm mn fs wh [some (V.ref a),some (.int pl),some (.int nm),some (.int mn),some (.int fs),some (.ref p),some (.ref sl),some (.int wh),t1,t2,none] H1:=λH1 Z=>{sl,t1,t2,none,t,ks,as,ts,rfl,Z.up 'l',by rw [et];exact a0 _};refine bZ (λh1=>?_) λ_=>U _ M;have h1:=of_decide_eq_true h1;refine zzD M.U9 'd' 'd' λr H1 b1 P1 r0 r1=>?_;have Z:=M.bp b1 P1;ac_rfl;refine bZ (λ_=>bZ (λh2=>?_) λ_=>U _ Z) λ_=>U _ Z;have h2:=of_decide_eq_true h2;have few:=M.a0.few;obtain ⟨Xw,e1⟩:=Z.fl.ob;refine {Xw,_,e1,rB,p,b,k,t,ks,rfl,Z.fl.r,'l',λnl H2 n2=>?_};have M2:=Z.same n2.same;obtain ⟨n',l',a9⟩:=ne 'l';have nz:0<(zt (names t)).length:=by
    rw [(aB _).1.length_eq];refine List.length_pos_of_mem (a:=n') (Qq λz=>?_);rw [c9.mpr z] at a9;cases a9
   have hz:=KE nz;have mz:(zt (names t))[0]∈names t:=(aB _).1.mem_iff.mp (P0 nz);generalize (zt (names t))[0]=z at hz mz;have ez:atI ((zt (names t)).map V.str) 0=some (.str z):=gq (j:=0) (by rw [OT,hz];rfl);show iG _ _ _ _;rw [kM];refine {_,.inl n2.at_,_,ez,?_};obtain ⟨l,hl⟩:∃l,look t z=some l:=by
    cases e:look t z with
    | none=>exact absurd mz (c9.mp e)
    | some l=>exact {l,rfl}
   have el:lk t z=l:=by unfold lk;rw [hl];rfl
   obtain ⟨o,l,rfl⟩:∃o l',l=o::l':=by
    cases l with
    | nil=>exact absurd rfl (M.a0.ne _ _ hl)
    | cons o l=>exact {o,l,rfl}
   have b0:aN z=true:=(M.a0.gt _ (dR hl)).1;have row:=M.a0.row z;obtain ⟨Xx,e2⟩:=M2.fl.ob;refine {Xx,_,e2,jq,p,b,k,t,ks,z,_,0,rfl,M2.fl.r,hl,'d','z',λH3 s3=>?_};have S:=M2.same s3;obtain ⟨cv,e3⟩:=S.fl.ob;have cm:fH 2 mn:=.inl {'l','l'};refine {cv,_,e3,rA,cm,p,b,k,t,ks,z,0,_,rfl,S.fl,'d','l','l','l',λH4 b4 F4=>?_};have bd:=M.a0.put (i:=0) (x:=fs+2*mn) (Pz _) b0 'l';have ex:(lk t z).take 0++[fs+2*mn]++(lk t z).drop (0+1)=[fs+2*mn]++l:=by rw [el];rfl
   rw [show toNat 0=0 from rfl,ex] at F4;rw [ex] at bd;have bL:H4 sl=some (.lst (as.map V.ref)):=b4 _ _ (λz=>by obtain ⟨⟨kvs,eb⟩,_⟩:=S.fl.aV;have:=S.hs;rw [z,eb] at this;cases this) S.hs;refine {{_,bL},cm,'d',λtp H5 n5=>?_};obtain ⟨e5,g⟩:=S.put (u:=(fs+2*mn,2,pl-1)) b4 F4 n5 bd {{by show (0:Int)<=2;decide,by show (2:Int)<16;decide},by show 0<=pl-1;lia,by show pl-1<32;lia};have la:=aK M.pr;refine {_,e5,by rw [Ow];exact br 'l',?_};obtain ⟨gm,g1,g2,g3,g4,g5⟩:=g _ rfl;obtain ⟨ct,e6⟩:=g3.ob;have lu:=bd.uniq;have kf:=M.few;refine {ct,_,e6,qT,p,b,k,_,_,rfl,g3,'l','l',λll ns H7 s7 _ cD cC _=>?_};have av:=S.lv.anew S.fl.ny.nd (u:=(fs+2*mn,2,pl-1)) F4.ny.nd el rfl;have bx:(ts++[((fs+2*mn,2,pl-1):T3)]).map (·.1)=(Pm (mn.toNat+1)).map λ(j:Nat)=>fs+2*(j:Int):=by
    rw [Pe,et,List.range_succ,Pe];show _++[fs+2*mn]=_++[fs+2*(mn.toNat:Int)];rw [show (mn.toNat:Int)=mn by lia]
   have ol:o∈ns↔o∈zW (zF t z ([fs+2*mn]++l)) ks:=by rw [cC.mem_iff,fb]
   erw [cD];have go:(o::l).getD (toNat 0) 0=o:=rfl;rw [go,Lw];have a4:((ts++[((fs+2*mn,2,pl-1):T3)]).map (·.1)).Nodup:=by rw [bx];exact a0 _
   have ax:=s7 _ _ g4;have a6:hZ (ts++[((fs+2*mn,2,pl-1):T3)]):=λv hv=>(OY.mp hv).elim (M.rg v) λhv=>by rw [OS.mp hv];exact {{by show (0:Int)<=2;decide,by show (2:Int)<16;decide},by show 0<=pl-1;lia,by show pl-1<32;lia}
   have b7:But a H H7:=g1.trans (.of s7);have a3:=bd.mono (show mn.toNat+1<=7 by lia);refine {rfl,kC,bZ (λh=>?_) λh=>?_}
   .have no:o∉ns:=by simpa using h
    generalize ba:ts++[((fs+2*mn,2,pl-1):T3)]=us at *
    generalize c3:as++[tp]=bs at *
    have lb:=aK g5;have l8:us.length<=8:=by rw [<- ba,Pb,PX];lia
    refine {{_,SqL.of ax},aM.lst (xs:=bs.map V.ref) (FlI H7 o us) (λi τ ys H' I=>?_) (λi τ ys H' I=>SqL.of (by rw [I.same];exact ax)) {{_,rfl},{[],rfl,.nil},rfl} ?_ ?_}
    .obtain ⟨cs,e,pc⟩:=I.ys;have:=aK pc;have h2:=So (λv:T3=>decide (v.1≠o)) (us.take i);have h3:=Qb i us;rw [e,Ow];exact br 'l'
    .intro N i v τ ys H8 hv I hN;obtain ⟨t5,rfl⟩:=I.ex;obtain ⟨cs,e,pc⟩:=I.ys;have e8:=I.same;subst e8;rw [OT] at hv;obtain ⟨c,hc,rfl⟩:=O7.mp hv;have hi:i<us.length:=by rw [<- lb];exact (OG.mp hc).1
     have XY:=KE hi;have gc:H8 c=some (.tup [.int us[i].1,.int us[i].2.1,.int us[i].2.2]):=s7 _ _ (bY g5 hc XY);erw [gc];refine {_,rfl,?_};ac_rfl;by_cases hd:us[i].1=o
     .rw [decide_eq_true hd];refine hN _ _ _ {{_,rfl},{cs,e,?_},rfl};rw [Pi,XY,RX];have:([us[i]].filter λv:T3=>decide (v.1≠o))=[]:=by simp [hd]
      show Paired _ cs (_++filter _ [us[i]]);rw [this,PY];exact pc
     .rw [decide_eq_false hd];refine hN _ _ _ {{_,rfl},{cs++[c],by rw [e,Pe];rfl,?_},rfl};rw [Pi,XY,RX];have:([us[i]].filter λv:T3=>decide (v.1≠o))=[us[i]]:=by simp [hd]
      show Paired _ _ (_++filter _ [us[i]]);rw [this];exact dm pc (.cons gc .nil)
    .intro τ ys H8 I a7 H9 n9;have e8:=I.same;subst e8;obtain ⟨cs,e,pc⟩:=I.ys;rw [Ow,lb,OU (OA _)] at pc;rw [e] at n9;obtain ⟨x7,y7,a8,c4⟩:=(g2.same s7).ex;refine {a7,_,_,_,_,_,cs,_,rfl,{b7.trans (.of n9.same),(g2.same s7).same n9.same,(g3.same s7).same n9.same,a3,M.few,M.nk,n9.at_,Paired.ti pc λ_ _ r=>n9.same _ _ r,λv hv=>a6 v (Ti.mp hv).1,λy=>?_,M.fr.1,M.fr.2.1,?_,λz=>?_},?_}
     .rw [Pk];constructor
      .intro hy;obtain ⟨v,hv,rfl⟩:=Pk.mp ((av y).1 hy);exact {v,Ti.mpr {hv,decide_eq_true λz=>no (ol.mpr (by rw [<- z];exact hy))},rfl}
      .rintro ⟨v,hv,rfl⟩;obtain ⟨h1,h2⟩:=Ti.mp hv;exact (av v.1).2 (Pk.mpr {v,h1,rfl}) (of_decide_eq_true h2)
     .cases eh:H a7 with
      | none=>rfl
      | some u=>have:=n9.no;rw [b7 _ _ (λz=>by rw [z,a8] at this;cases this) eh] at this;cases this
     .have:=n9.no;rw [z,a8] at this;cases this
     .exact a4.sublist (List.Sublist.map _ List.filter_sublist)
   .have cp:o∈ns:=by simpa using h
    refine {sl,_,_,_,_,_,_,_,rfl,{b7,g2.same s7,g3.same s7,a3,M.few,M.nk,ax,Paired.ti g5 λ_ _ r=>s7 _ _ r,a6,λy=>{(av y).1,λhy=>?_},M.fr},a4};by_cases hd:y=o
    .rw [hd];exact ol.mp cp
    .exact (av y).2 hy hd
  .rintro σ H1 ⟨sl,t1,t2,t3,t,ks,as,ts,rfl,M,nd⟩;ac_rfl;refine {.inl {'l','l'},a,3,rfl,M.U9,'d','d',λr H2 b2 P2 r0 r1=>?_};have M2:=M.bp b2 P2;ac_rfl;intro x dx H3 J;have S:=M2.same J.same;have pm:(ts.map (·.1)).Perm (uniq (zW t ks)):=(QA nd dD).mpr λy=>by rw [fb];exact (M.lv y).symm
   have lu:=M.a0.uniq;have ll:=pm.length_eq;rw [Ow] at ll;obtain ⟨gm,gk⟩:=M.a0.good 'd' M.fl.ny.nd M.fl.bc M.nk (by have:=M.few;lia);obtain ⟨x4,y4,e4,r4⟩:=S.U9.ex;have xa:x≠a:=λz=>by obtain ⟨_,_,e,_⟩:=M2.U9.ex;have:=J.no;rw [z,e] at this;cases this
   refine {x,p,b,k,sl,dx,_,nm,t,ks,as,ts,rfl,J.at_,S.fl,.inl S.hs,Paired.ti S.pr λ_ _ e=>.inl e,{nd,'l'},λfx b' k' d' H4 b4 _ _ _ _ st _=>{rfl,?_}};refine q x fx b' k' d' t ks ts _ H4 (λc o nc e=>?_) {{x4,y4,b4 _ _ xa.symm e4,r4}} st gm gk {λv hv=>M.a0.rng _ ((M.lv v.1).mpr (Pk.mpr {v,hv,rfl})),M.rg,'l',⟨b9,bq⟩,'l','l'} pm 'l';have e2:=M2.but c o nc e;exact b4 _ _ (zH e2 J.no) (J.same _ _ e2)
end
abbrev nK:Stmt:=top 77
theorem tP(h:j<=(sg x).length):Pw x (some (j:Int)) none=tx ((sg x).drop j):=by
 have e:=StrLaws.sliceText_from (x:=x) (i:=(j:Int)) {'l',by simpa [sg] using h};refine Eq.trans (show Pw x (some (j:Int)) none=StrLaws.sliceText x (some (j:Int)) none from rfl) (e.trans ?_);show tx _=tx _;congr 1;rw [Qk];refine OU ?_;rw [SJ];simp [sg] at h ⊢
theorem Fo(h:(x.length:Int)<=j):Pw x (some j) none=Pw x (some (x.length:Int)) none:=by
 have e:OO.Str.strSliceIndices (some j) none 1 x.length=OO.Str.strSliceIndices (some (x.length:Int)) none 1 x.length:=by
  have a : ¬ (j<0):=by lia
  have b : ¬ ((x.length:Int)<0):=by lia
  have c:min j (x.length:Int)=x.length:=by lia
  simp [OO.Str.strSliceIndices,a,b,c]
 show StrLaws.sliceText x _ none=StrLaws.sliceText x _ none;unfold StrLaws.sliceText;rw [e]
theorem El(h:0<=j):Pw x (some j) none=tx ((sg x).drop j.toNat):=by
 by_cases F:j<=(x.length:Int)
 .have:=tP (x:=x) (j:=j.toNat) (by rw [zM];lia);rw [show ((j.toNat:Nat):Int)=j by lia] at this;exact this
 .rw [Fo 'l',tP (x:=x) (j:=x.length) (by rw [zM];exact OA _),Sk (by rw [zM];exact OA _),Sk (by rw [zM];lia)]
structure One(z z':Str):Prop where
 a:asc z'=true
 l:z'.length<=z.length+1
 w:(wds z').length<=(wds z).length+1
 c:∃N:List Str,N.length<=2/\∀v∈wds z',v∈wds z\/v∈N
theorem vH(G:asc z=true)(S:asc x=true)(U:x.length<=1){k:Nat}(e:sg z'=(sg z).take i++sg x++(sg z).drop (i+k)):One z z':=by
 have J:(sg z).take i++((sg z).drop i).take k++(sg z).drop (i+k)=sg z:=by
  rw [O6,<- List.drop_drop,QI,QI]
 have hx:(sg x).length<=1:=by rw [zM];exact U
 have c1:(sg x).count 32<=(sg x).length:=List.count_le_length;refine {?_,?_,?_,?_}
 .rw [d8,Pg] at G S ⊢;intro c F;rw [e] at F;rcases OY.mp F with F|F
  .rcases OY.mp F with F|F
   .exact G c (Q4 F)
   .exact S c F
  .exact G c (RL F)
 .have h1:=congrArg Tj e;have h2:=congrArg Tj J;simp only [Pb,zM] at h1 h2;rw [zM] at hx;lia
 .have h1:=congrArg (List.count 32) e;have h2:=congrArg (List.count 32) J;rw [TY,TY] at h1 h2;rw [iy,iy];lia
 .obtain ⟨N,W,Z⟩:=Es (c:=32) ((sg z).take i) (sg x) (((sg z).drop i).take k) ((sg z).drop (i+k)) hx;refine {N.map tx,by rw [Ow];exact W,λv hv=>?_};rw [de] at hv;obtain ⟨y,O,rfl⟩:=Pk.mp hv;rw [e] at O;rcases Z y O with h|h
  .left;rw [J] at h;rw [de];exact Pk.mpr {y,h,rfl}
  .exact .inr (Pk.mpr {y,h,rfl})
section
variable {P:OE}{w:OW}{K:Frag}{mg:Str->Option Value}{base:Heap}{A:zi}
def Ab:Sp:=λvs H Q _=>∃(a:Addr)(z:Str),vs=[.ref a,.str z]/\Pot H a/\asc z=true/\0<z.length/\z.length<=100000/\∀z' p o q c H',sg z=p++o::q->sg z'=p++c::q->c≠o->c<128->o<128->One z z'->But a H H'->Pot H' a->Q (.str z') H'
theorem lU:zy ["_law_pot_here","_law_text","_law_at","_law_sign"] WE (zm nK):=fsc
theorem IY(F:Fun K "_law_other" "_law_other" nK f fd)(T:Txt K mg A)(Z8:GF P w K mg base true 1 Wb X2 iA):zq P w K mg base CX0 true 2 f fd WE Ab:=by
 refine F.o lU λZ1 Ar outer s H vs Q E O h=>?_;obtain ⟨a,z,rfl,hP,U,z0,hz,q⟩:=h;have hu:_<cLine:=Qt (bo O);refine {_,(W.h (zh (zC (i:=2) lU.nd rfl (OL rfl) (caD (zL Z8 O rfl (clP (zd (zb 0) (zd (ar fK rfl T.UQ PZ (zd (zb 1) ze)) ze))))))
   (zh (zC (i:=3) lU.nd rfl (OL rfl) (aR bS aL (caD (zL Z8 O rfl (clP (zd (zb 0) (zd zu ze))))) (λ_ _=>rfl)))
   (zh (af (tD (aF (clO (oE (dH hu))) (clE (aR bS (zb 1) (zb 2) (λ_ _=>rfl))) (clE (zb 3)) (aH _)))
   (zo (zC (i:=3) lU.nd rfl (OL rfl) aL))
   aa)
   (zo (zB (zI bw (zI bw (fW gE (zb 1) fR (fA (zb 2))) (zb 3)) (fW gE (zb 1) (fA (zI bw (zb 2) zu)) fR)))))))),?_}
 have J:z.length<=sizeLine:=bB (Pj hz 'd');erw [J];refine {a,_,rfl,hP,'l',Rv (show (z.length:Int)<=100000 by lia) 'd',λr H1 b1 S r0 r1=>?_};ac_rfl;refine zzD S 'd' 'd' λy H2 b2 Z y0 y1=>?_;ac_rfl;obtain ⟨c,ec,hc⟩:=qS (xs:=sg (" 0123456789;az":Str)) y0 (by rw [zM];exact y1);have hi:r.toNat<(sg z).length:=by rw [zM];lia
 have eo:atI z.cps.toList r=some (sg z)[r.toNat]:=by
  have:=gq (xs:=sg z) (j:=r.toNat) (KE hi);rw [show ((r.toNat:Nat):Int)=r by lia] at this;exact this
 have ct:c<126:=(by decide +kernel:∀c∈sg (" 0123456789;az":Str),c<126) c hc;have lo:(sg z)[r.toNat]<128:=by rw [d8,Pg] at U;exact of_decide_eq_true (U _ (P0 hi))
 have ez:sg z=(sg z).take r.toNat++(sg z)[r.toNat]::(sg z).drop (r.toNat+1):=by rw [<- QF hi,QI]
 generalize (sg z)[r.toNat]=o at eo lo ez;have e1:Pw z none (some r)=tx ((sg z).take r.toNat):=by
  have:=gw (x:=z) (j:=r.toNat) 'l';rw [show ((r.toNat:Nat):Int)=r by lia] at this;exact this
 have e2:Pw z (some (r+1)) none=tx ((sg z).drop (r.toNat+1)):=by
  rw [El 'l',show (r+1).toNat=r.toNat+1 by lia]
 have l1:((sg z).take r.toNat).length<=100000:=by rw [Qf];lia
 have l2:((sg z).drop (r.toNat+1)).length<=100000:=by rw [SJ,zM];lia
 refine {'d',c,ec,J,o,eo,?_};rw [e1,e2];have Zi:∀x:Nat,x≠o->x<128->(tx ((sg z).take r.toNat)).length+(c1 x).length<=sizeLine/\(tx ((sg z).take r.toNat)++c1 x).length+(tx ((sg z).drop (r.toNat+1))).length<=sizeLine/\Q (V.str (tx ((sg z).take r.toNat)++c1 x++tx ((sg z).drop (r.toNat+1)))) H2:=λx nx lx=>by
  have G:(c1 x).length=1:=rfl;have es:sg (tx ((sg z).take r.toNat)++c1 x++tx ((sg z).drop (r.toNat+1)))=(sg z).take r.toNat++sg (c1 x)++(sg z).drop (r.toNat+1):=by rw [bO,bO,ao,ao]
  refine {bB (by rw [hJ,G];lia),bB (by rw [QR,hJ,hJ,G];lia),q _ _ o _ x H2 ez (by rw [es];simp [sg,c1]) nx lx lo (vH (x:=c1 x) (i:=r.toNat) (k:=1) U ?_ (OA _) es) (b1.trans b2) Z};rw [d8];show [x].all _=true;simp [lx]
 refine bZ (λh=>?_) λh=>?_
 .have h:=of_decide_eq_true h;have ai:c=o:=by
   have:=congrArg sg h;simp [sg] at this;exact this.symm
  have:=Zi 126 'l' 'd';rw [show (c1 126)=("~":Str) by decide +kernel] at this;exact this
 .refine Zi c (λz=>h (decide_eq_true ?_)) 'l';rw [z]
abbrev qC:Stmt:=top 78
theorem C9{t:Tab}(gm:z7 t)(gk:aO ks)(gs:eG ts m n)(pm:(ts.map (·.1)).Perm (uniq (zW t ks)))(few:ts.length<=7):asc (bu m n t ks ts)=true/\2<=(bu m n t ks ts).length/\(bu m n t ks ts).length<=30000/\(wds (bu m n t ks ts)).length<=1405/\∃N:List Str,N.length<=45/\Cov N (bu m n t ks ts):=by
 obtain ⟨wd,wl⟩:=ip gm gk gs;obtain ⟨b1,Z⟩:=my wd;obtain ⟨J,m1⟩:=fG (tx (zE (zR m n t ks ts)));have ln:=Bc J 'l';have F:=g8 J 'l';have O:=Ob (W:=zR m n t ks ts) λv hv=>(wd v hv).no;have l2:(bu m n t ks ts).length=(zE (zR m n t ks ts)).length+(toString (bN (tx (zE (zR m n t ks ts)))):Str).length+1:=by
  unfold bu cN;rw [QR,QR,hJ,show (";":Str).length=1 by decide]
 have l3:1<=(zE (zR m n t ks ts)).length:=by
  unfold zR zE;rw [PP,RP,Pb,Pb,PX];lia
 refine {?_,'l','l',by unfold bu;rw [O,Pb,PX];lia,SM++(ts.map λv=>(toString v.1:Str))++[(toString m:Str),(toString n:Str)],by simp [SM];lia,λv hv e=>?_}
 .unfold bu cN;rw [d8,bO,bO,ao,all_append,all_append,Z,T7,O5];exact {Pg.mpr λc S=>decide_eq_true (by have:=F.dig c S;lia),f!""}
 .unfold bu at hv;rw [O] at hv;rcases OY.mp hv with hv|hv
  .have al:∀y,y∈zW t ks↔y∈ts.map (·.1):=λy=>by rw [pm.mem_iff,fb]
   refine FM (λv hv=>O4 _ (O4 _ hv)) gm gk gs (λy U=>?_) (λu G=>(al _).mpr (Pk.mpr {u,G,rfl})) 'z' 'z' 'l' v hv e;obtain ⟨u,G,rfl⟩:=Pk.mp ((al y).mp U);exact O4 _ (Ox _ (Pk.mpr {u,G,rfl}))
  .rw [OS.mp hv,Lu] at e;cases e
theorem One.cY(o:One z z')(h:z.length<=30000/\(wds z).length<=1405/\∃N:List Str,N.length<=45/\Cov N z):ZOk z':=by
 obtain ⟨h1,h2,N,J,F⟩:=h;obtain ⟨M,O,G⟩:=o.c;exact {o.a,by have:=o.l;lia,by have:=o.w;lia,N++M,by rw [Pb];lia,λv hv e=>(G v hv).elim (λk=>O4 _ (F v k e)) λk=>Ox _ k}
theorem BkD.U9{A:zi}{a p wl sl:Addr}(D:BkD A H p wl sl n m c s0 s1)(s:But a H H')(O:Pot H a):BkD A H' p wl sl n m c s0 s1:=by
 obtain ⟨x,y,ea,_⟩:=O.ex;obtain ⟨dx,e⟩:=D.ob;obtain ⟨cs,F,J,G⟩:=D.wr;have sd:=D.sd;have n3:=D.n3;refine {{dx,s _ _ (λz=>by rw [z,ea] at e;cases e) e},{cs,s _ _ (λz=>?_) F,J,λv hv=>s _ _ (λz=>by have:=G v hv;rw [z,ea] at this;cases this) (G v hv)},n3,s _ _ (λz=>?_) sd}
 .rw [z,ea] at F;cases cs with
  | nil=>cases F
  | cons u cs=>cases F
 .rw [z,ea] at sd;injection sd with sd
  injection sd with sd
  injection sd with sd _
  cases s0<;>cases sd
def uv:Option HO->Nat|some (.ins _ _ fs)=>fs.length|_=>0
def SdV(a sl:Addr)(H:Hp)(v:V)(k:Int):Option MD->Prop
 | none=>v = .non
 | some M=>∃tp td t ks,v = .ref tp/\H tp=some (.tup [.int M.2.2.2,.ref td])/\fU (λx=>x≠a/\x≠sl) H td t ks M.2.1 M.2.2.1 M.2.2.2/\M.1=(aw t (zt (names t)),bC ks (zt (names ks)))/\z7 t/\aO ks/\(M.2.1.map (·.1)).Pairwise (·<=·)/\M.2.2.2 % 2=k
def vS(A:zi):Sp:=λvs H Q _=>∃(a p wl sl:Addr)(n:Nat)(m c:Int)(s0 s1:Tx)(k:Int),vs=[.ref a,.ref p,.int k]/\Pot H a/\BkD A H p wl sl n m c s0 s1/\6<=m/\m<=32/\(k=0\/k=1)/\(if k=0 then s0 else s1)=none /\
 ∀v s' o c' H',(∀x o,x≠a->x≠p->x≠sl->H x=some o->H' x=some o)->Pot H' a->BkD A H' p wl sl n m c' (if k=0 then s' else s0) (if k=0 then s1 else s')->cA s' o->SdV a sl H' v k o->Q v H'
theorem i8:zy ["_law_pot_here","_law_disk","_law_side_here","_law_way","_law_number","_law_state_here","_law_text"] WO (zm qC):=fsc
theorem C5(F:Fun K VU VU qC f fd)(T:Txt K mg A)(Z8:GF P w K mg base true 1 Wb X2 iA)(Zb:GM P w K mg base true 1 A.tj "places" Zg (A6 A))(YZ:GF P w K mg base true 7 "_law_state" WM (vn A))(YO:GF P w K mg base true 7 "mark_text" ["state"] (wQ A))(ZH:GM P w K mg base true 3 A.tj "put_side" WD (qc A))(YY:GF P w K mg base true 2 "_law_other" WE Ab)(Zx:GF P w K mg base true 6 VV WC (ox A)):zq P w K mg base CX0 true 8 f fd WO (vS A):=by
 refine F.o i8 λZ1 Ar outer s H vs Q E G h=>?_;obtain ⟨a,p,wl,sl,n,m,c,s0,s1,k,rfl,hP,D,m0,m1,hk,old,q⟩:=h;have hu:_<cLine:=Qt (bo G);refine {_,(W.h (zh (zC (i:=3) i8.nd rfl (OL rfl) (caD (zL Z8 G rfl (clP (zd (zb 0) (zd zu ze))))))
   (zh (af (tD (aF (clO (oE (dH hu))) (clE (zb 3)) (clE zu) (aH _)))
   (zo (zB cy))
   aa)
   (zh (zC (i:=4) i8.nd rfl (OL rfl) (zI bw (zI dW zu (caD (zL Z8 G rfl (clP (zd (zb 0) (zd (aR bS (bV (zd zu (zd (zI (oI qQ) zu zu) ze))) (caD (zL Z8 G rfl (clP (zd (zb 0) (zd zu ze))))) (λ_ _=>rfl)) ze)))))) (zb 2)))
   (zh (zC (i:=5) i8.nd rfl (OL rfl) (caD (zL YZ G rfl (clP (zd (zb 0) (zd (m0D (zY (clE (zb 1)) T.mC Zb G)) (zd (zb 4) ze)))))))
   (zh (zC (i:=6) i8.nd rfl (OL rfl) (caD (zL YO G rfl (clP (zd (zb 5) ze)))))
   (zh (af (tD (aF (clO (oE (dH hu))) (clE (zb 3)) (clE zu) (aH _)))
   (zh (aJ (mD (aC (clE (zb 1)) T.mC ZH G (clP (zd (zb 2) (zd (fW gE (zb 6) fR (fA (zI bw zu (caD (zL Z8 G rfl (clP (zd (zb 0) (zd (zI (oI0 iH) (ar fK rfl T.UQ PZ (zd (zb 6) ze)) zu) ze)))))))) ze))))))
   (zo (zB cy)))
   aa)
   (zh (af (tD (aF (clO (oE (dH hu))) (clE (zb 3)) (clE zu) (aH _)))
   (zh (aJ (mD (aC (clE (zb 1)) T.mC ZH G (clP (zd (zb 2) (zd (caD (zL YY G rfl (clP (zd (zb 0) (zd (zb 6) ze))))) ze))))))
   (zo (zB cy)))
   aa)
   (zh (aJ (mD (aC (clE (zb 1)) T.mC ZH G (clP (zd (zb 2) (zd (zb 6) ze))))))
   (zo (zB (bR (zd (zb 4) (zd (caD (zL Zx G rfl (clP (zd (zb 5) ze)))) ze)))))))))))))),?_}
 ac_rfl;refine zzD hP 'd' 'd' λwy H1 b1 P1 bp bP=>?_;have D1:=D.U9 b1 hP;ac_rfl;refine bZ (λh0=>?_) λh0=>?_
 .refine q _ none none c H1 (λx o n1 _ _ e=>b1 _ _ n1 e) P1 ?_ (.inl rfl) rfl;rcases hk with rfl|rfl
  .rw [if_pos rfl] at old;rw [<- old];exact D1
  .rw [if_neg 'd'] at old;rw [<- old];exact D1
 refine {{'d','d','d'},'d',λl4 H2 J _=>zzD (P1.same J.same) 'd' 'd' λr H3 b3 P3 r0 r1=>?_};have h4:=b3 _ _ (P1.ne J.no) J.at_;have D3:=(D1.same J.same).U9 b3 (P1.same J.same);have bf:But a H H3:=(b1.trans (.of J.same)).trans b3;have rr:∃X:Int,atI [V.int 2,V.int (10 ^ toNat 16)] r=some (.int X)/\0<X/\X<=10 ^ 16:=by
  have:r=0\/r=1:=by lia
  rcases this with rfl|rfl
  .exact {2,rfl,'d','d'}
  .exact {_,rfl,'d','d'}
 obtain ⟨X,eX,X0,X1⟩:=rr;show iG _ _ _ _;rw [kM];refine {_,.inl h4,_,eX,a,X,rfl,P3,X0,Rv X1 'd',λy H4 b4 P4 y0 y1=>?_};have D4:=D3.U9 b4 P3;have a8:=bf.trans b4;obtain ⟨bt,e4⟩:=D4.ob;erw [e4,Ct];refine {.inl {'d','d'},p,wl,sl,n,m,c,s0,s1,rfl,D4,a,m,_,rfl,P4,m0,m1,'l','l',λx fx b kk d t ks ts nn H5 b5 P5 st gm gk gs pm few=>?_};refine {x,fx,b,kk,d,t,ks,ts,nn,_,rfl,st,gm,gk,gs,λus H6 s6 up so=>?_};have lu:=up.length_eq;have S:eG us (2*y+k) nn:={λv hv=>gs.b v (up.mem_iff.mp hv),λv hv=>gs.r v (up.mem_iff.mp hv),'l',gs.m,gs.n};have ax:(us.map (·.1)).Perm (uniq (zW t ks)):=(up.map _).trans pm;obtain ⟨za,z2,zl,zw,zc⟩:=C9 gm gk S ax 'l';have D6:=(D4.U9 b5 P4).same s6;have P6:=P5.same s6;have a0:But a H H6:=(a8.trans b5).trans (.of s6);have a6:=GA gm gk S ax so;have ai:∀{j:Nat},j<(sg (bu (2*y+k) nn t ks us)).length->rdZ (tx ((sg (bu (2*y+k) nn t ks us)).take j))=none:=λh=>Fd gm gk S h;have av:∀{p q:List Nat}{o c:Nat},sg (bu (2*y+k) nn t ks us)=p++o::q->c≠o->c<128->o<128->rdZ (tx (p++c::q))=none:=λh1 h2 h3 h4=>Bw gm gk S h1 h2 h3 h4;generalize bu (2*y+k) nn t ks us=z at za z2 zl zw zc a6 ai av;have ne:∀{H7:Hp},BkD A H7 p wl sl n m c s0 s1->Pot H7 a->a≠p/\a≠sl:=λ{H7} D7 P7=>by
  obtain ⟨x,y,ea,_⟩:=P7.ex;obtain ⟨dx,e⟩:=D7.ob;refine {λz=>(by rw [<- z,ea] at e;cases e),λz=>?_};have sd:=D7.sd;rw [<- z,ea] at sd;injection sd with sd
  injection sd with sd
  injection sd with sd _
  cases s0<;>cases sd
 have put:∀(z':Str)(H7:Hp)(R:VK),But a H H7->Pot H7 a->BkD A H7 p wl sl n m c s0 s1->0<z'.length->z'.length<=100000->(∀H8 c',(∀x o,x≠a->x≠p->x≠sl->H x=some o->H8 x=some o)->(∀x o,x≠p->x≠sl->H7 x=some o->H8 x=some o)->Pot H8 a->BkD A H8 p wl sl n m c' (if k=0 then some z' else s0) (if k=0 then s1 else some z')->R .non H8)->qc A [.ref p,.int k,.str z'] H7 R E0:=λz' H7 R b7 P7 D7 h1 h2 r=>by
  obtain ⟨n1,J⟩:=ne D7 P7;obtain ⟨x,y,ea,er⟩:=P7.ex;exact {p,wl,sl,n,m,c,s0,s1,k,z',rfl,D7,h1,h2,hk,λH8 Z D8=>r H8 _ (λx o n3 n4 n5 e=>Z x o n4 n5 (b7 x o n3 e)) Z {{x,y,Z _ _ n1 J ea,er}} D8}
 obtain ⟨bL,e6⟩:=D6.ob;have a4:z.length<=sizeLine:=bB (Pj zl 'd');erw [e6,By,a4];refine bZ (λh1=>?_) λh1=>bZ (λh2=>?_) λh2=>?_
 .refine {a,_,rfl,P6,'l',Rv (show (z.length:Int)-1<=100000 by lia) 'd',λU H7 b7 P7 bx bq=>?_};erw [a4];have e1:Pw z none (some (1+U))=tx ((sg z).take (1+U).toNat):=by
   have:=gw (x:=z) (j:=(1+U).toNat) (by rw [zM];lia);rw [show (((1+U).toNat:Nat):Int)=1+U by lia] at this;exact this
  have l1:(tx ((sg z).take (1+U).toNat)).length=(1+U).toNat:=by rw [hJ,Qf,zM];lia
  rw [e1];have on:One z (tx ((sg z).take (1+U).toNat)):=vH (x:="") (i:=(1+U).toNat) (k:=z.length) za (f!"") (Pz _) (by rw [ao,Sk (by rw [zM];lia),show sg ("":Str)=[] from rfl,PY,PY]);exact put _ H7 _ (a0.trans b7) P7 (D6.U9 b7 P6) 'l' 'l' λH8 c' Z _ P8 D8=>q _ _ none c' H8 Z P8 D8 (.inr {_,rfl,on.cY ⟨zl,zw,zc⟩,ai (by rw [zM];lia)}) rfl
 .refine {a,z,rfl,P6,za,'l','l',λz' p' o q' c0 H7 ez a5 nc lc lo on b7 P7=>?_};have lz:z'.length=z.length:=by rw [<- zM,<- zM,ez,a5];simp
  have e':z'=tx (p'++c0::q'):=by rw [<- a5,eB]
  exact put _ H7 _ (a0.trans b7) P7 (D6.U9 b7 P6) 'l' 'l' λH8 c' Z _ P8 D8=>q _ _ none c' H8 Z P8 D8 (.inr {_,rfl,on.cY ⟨zl,zw,zc⟩,by rw [e'];exact av ez nc lc lo}) rfl
 .refine put z H6 _ a0 P6 D6 'l' 'l' λH8 c' Z a7 P8 D8=>?_;have ba:=(st.same s6).mv (H':=H8) λu o h e=>a7 u o (λz=>by
   rw [z,e6] at e;rcases h with ⟨_,_,_,h⟩|⟨_,_,_,_,_,h⟩|⟨_,h⟩|⟨_,_,h⟩|⟨_,h⟩
   .subst h;exact absurd (congrArg uv e) (show ¬ (6=2) by decide)
   .subst h;exact absurd (congrArg uv e) (show ¬ (6=4) by decide)
   .subst h;cases e
   .subst h;cases e
   .subst h;cases e) (λz=>by
   rw [z,D6.sd] at e;rcases h with ⟨_,_,_,h⟩|⟨_,_,_,_,_,h⟩|⟨_,h⟩|⟨_,_,h⟩|⟨_,h⟩ <;> · subst h;cases e) e
  refine {x,fx,b,kk,d,t,ks,ts,nn,_,rfl,ba,gm,gk,λv aT H9 s9 a9 a3 td=>{'d',λtp H10 aI=>?_}};have eu:aT=us:=A5 st.ok.nd a9 a3 up so;subst eu;have O:zj H8 H10:=s9.trans aI.same;exact q _ (some z) (some ((aw t (zt (names t)),bC ks (zt (names ks))),aT,nn,2*y+k)) c' H10 (λx o n1 J n3 e=>O _ _ (Z x o n1 J n3 e)) (P8.same O) (D8.same O) {z,rfl,{za,'l','l',by obtain ⟨N,n1,J⟩:=zc;exact {N,'l',J}},a6,AW gm,Dy gk,{(up.map _).nodup_iff.mpr st.ok.nd,show aT.length<_ by lia},ax.trans ((QA dD dD).mpr λy=>by rw [fb,fb];exact (A2 gm gk y).symm)} {tp,v,t,ks,rfl,aI.at_,td.mv (.of aI.same λ{x} h=>{λz=>(by obtain ⟨_,_,ea,_⟩:=P8.ex;rw [z,ea] at h;cases h),λz=>(by rw [z,D8.sd] at h;cases h)}),rfl,gm,gk,a3,by show (2*y+k) % 2=k;lia}
abbrev oy:Stmt:=top 79
def yR(A:zi):Sp:=λvs H Q _=>∃(p wl sl:Addr)(n:Nat)(m c:Int)(s0 s1:Tx)(F o1:Option MD),vs=[.ref p]/\BkD A H p wl sl n m c s0 s1/\TB A H/\cA s0 F/\cA s1 o1 /\
 (∀M,dv F o1=some M->∀v us H',zK H H'->TB A H'->us.Perm M.2.1->(us.map (·.1)).Pairwise (·<=·)->fU (λ_=>True) H' v M.1.1 M.1.2 us M.2.2.1 (M.2.2.2+1)->Q (.ref v) H')/\(dv F o1=none->∀H',zK H H'->TB A H'->Q .non H')
theorem Di:zy ["_law_disk"] ["_law_disk"] (zm oy):=fsc
theorem Jc(F:Fun K "_law_risen" "_law_risen" oy f fd)(T:Txt K mg A)(X6:GX P w K mg base true 12 "risen" WI (xH A))(Zx:GF P w K mg base true 6 VV WC (ox A)):zq P w K mg base CX0 true 14 f fd ["_law_disk"] (yR A):=by
 refine F.o Di λZ1 Ar outer s H vs Q E O h=>?_;obtain ⟨p,wl,sl,n,m,c,s0,s1,Z,o1,rfl,D,tb,k0,k1,q,qe⟩:=h;refine {_,(W.h (zo (Au rfl rfl {rfl,rfl} T.Hx rfl T.US (λGo Ex=>(zo (zB (caD (zL Zx O rfl (clP (zd (cXD (dP pR X6 O rfl (clP (zd (zb 0) ze)))) ze))))))) (λGo ea=>by
   have O:=O.mark (v:=some (.ref ea));exact (zo (zB cy)))))),?_}
 ac_rfl;refine {p,wl,sl,n,m,c,s0,s1,Z,o1,rfl,D,tb,k0,k1,λM J y fy b k d ts H1 s1' G st pm=>?_,λJ H1 s1' G=>{_,rfl,T.Hx,T.Vh,λea oe U _=>?_}}
 .obtain ⟨gm,gk,_⟩:=o8 k0 k1 J;ac_rfl;exact {y,fy,b,k,d,_,_,ts,_,_,rfl,st,gm,gk,λv us H2 s2 up so td=>q M J v us H2 (s1'.trans (.of s2)) (G.same s2) (up.trans pm) so (td.mv {λ_ e=>e,λe=>e,λ_=>trivial})}
 .have S:zj H1 (upd H1 ea (HO.frz oe (HO.own 0))):=λa o e=>by rw [zg (zH e U)];exact e
  exact qe J _ (s1'.trans (.of S)) (G.same S)
end
abbrev je:Stmt:=top 80
theorem SqL.tr{K:Frag}(s:zK H H')(h:SqL K H a xs):SqL K H' a xs:=by
 rcases h with (h|⟨o,h⟩)|h
 .exact .inl (.inl (s.list h))
 .exact .inl (.inr {o,s _ _ (λ_=>nofun) h})
 .exact .inr h
theorem u6{k:Nat}(r:zG c k A):A.units+(5+1)<cLine:=by have:=r.un;lia
section
variable {H:Hp}
theorem gJ(f:zP x=true):∀n,EqD n H x x
 | 0=>{rfl,f}
 | _+1=>.inl {rfl,f}
theorem pS{α:Type}{R S:Addr->α->Prop}{as bs:List Addr}{G:List α}(W:H a=some (.lst (as.map V.ref)))(hb:H b=some (.lst (bs.map V.ref)))(p:Paired R as G)(q:Paired S bs G)(h:∀x y m,R x m->S y m->EqD n H (.ref x) (.ref y)):EqD (n+1) H (.ref a) (.ref b):=by
 have Z:=aK p;have l2:=aK q;refine .inr {a,b,_,_,rfl,rfl,.inl ⟨W,hb⟩,by rw [Ow,Ow];lia,λj x y hx U=>?_};rw [OT] at hx U;obtain ⟨x',F,rfl⟩:=O7.mp hx;obtain ⟨y',J,rfl⟩:=O7.mp U;have O:j<G.length:=by rw [<- Z];exact (OG.mp F).1
 exact h _ _ _ (bY p F (KE O)) (bY q J (KE O))
theorem wX{a b r s:Addr}(J:H a=some (.tup [.str z,.ref r]))(G:H b=some (.tup [.str z,.ref s]))(h:EqD n H (.ref r) (.ref s)):EqD (n+1) H (.ref a) (.ref b):=by
 refine .inr {a,b,_,_,rfl,rfl,.inr ⟨J,G⟩,rfl,λj x y hx F=>?_};rcases j with _|_|j
 .cases hx;cases F;exact gJ rfl _
 .cases hx;cases F;exact h
 .cases hx
theorem G5{l:List Int}(J:H a=some (.lst (l.map V.int)))(G:H b=some (.lst (l.map V.int))):EqD (n+1) H (.ref a) (.ref b):=by
 refine .inr {a,b,_,_,rfl,rfl,.inl ⟨J,G⟩,rfl,λj x y hx F=>?_};rw [hx] at F;cases F;rw [OT] at hx;obtain ⟨k,_,rfl⟩:=O7.mp hx;exact gJ rfl _
theorem ux{t:Tab}(h:ee N H l t)(h':ee N' H l' t):EqD (n+3) H (.ref l) (.ref l'):=by
 obtain ⟨_,as,e,p⟩:=h;obtain ⟨_,bs,O,p'⟩:=h';refine pS e O p p' λx y m ⟨r,_,S,J⟩ ⟨r',_,G,F⟩=>wX S G (G5 J F)
theorem uA(ns:List Str):zt (zt ns)=zt ns:=IP (aB ns).1
theorem mS(t:Tab)(zs:List Str):names (aw t zs)=zs:=by unfold aw names;rw [Qp];exact SU _
theorem A7(ks:List (Str×Tab))(zs:List Str):names (bC ks zs)=zs:=by unfold bC names;rw [Qp];exact SU _
theorem Nx{t:Tab}(nd:(names t).Nodup)(n:Str):lk (aw t (zt (names t))) n=lk t n:=by
 have F:(names (aw t (zt (names t)))).Nodup:=by rw [mS];exact (aB _).1.nodup_iff.mpr nd
 by_cases h:n∈names t
 .have:(n,lk t n)∈aw t (zt (names t)):=Pk.mpr {n,(aB _).1.mem_iff.mpr h,rfl};have e:=iB F this;show (look _ n).getD _=_;rw [e];rfl
 .have e:look (aw t (zt (names t))) n=none:=c9.mpr (by rw [mS];exact λz=>h (cX n z));show (look _ n).getD _=(look t n).getD _;rw [e,c9.mpr h]
theorem wx{t:Tab}(nd:(names t).Nodup)(h:ee N H l (aw t (zt (names t)))):ee N H l t:=by
 obtain ⟨G,as,e,p⟩:=h;rw [mS,uA] at p;exact {G,as,e,Paired.ti p λa n ⟨r,J,O,F⟩=>{r,J,O,by rw [<- Nx nd];exact F}}
theorem Nf(gk:aO ks)(h:n∈names ks):kkT (bC ks (zt (names ks))) n=aw (kkT ks n) (zt (names (kkT ks n))):=by
 have F:(names (bC ks (zt (names ks)))).Nodup:=by rw [A7];exact (aB _).1.nodup_iff.mpr gk.nd
 have:(n,aw (kkT ks n) (zt (names (kkT ks n))))∈bC ks (zt (names ks)):=Pk.mpr {n,(aB _).1.mem_iff.mpr h,rfl};show (look _ n).getD []=_;rw [iB F this];rfl
theorem Eb{α β:Type}{R S:α->β->Prop}{l:List α}{m:List β}(h:Paired R l m)(f:∀a b,b∈m->R a b->S a b):Paired S l m:=by
 induction h with
 | nil=>exact .nil
 | cons r _ G=>exact .cons (f _ _ (OB ..) r) (G λa b F=>f a b (Oy _ F))
theorem KN{α β F:Type}{R:α->β->Prop}{S:α->F->Prop}{f:β->F}{l:List α}{m:List β}(h:Paired R l m)(g:∀a b,R a b->S a (f b)):Paired S l (m.map f):=by
 induction h with
 | nil=>exact .nil
 | cons r _ G=>exact .cons (g _ _ r) G
theorem Cs{α β:Type}{l:List α}{m:List β}{j:Nat}{z:α×β}(h:(l.zip m)[j]?=some z):l[j]?=some z.1/\m[j]?=some z.2:=by
 rw [List.getElem?_zip_eq_some] at h;exact h
theorem IW{α β:Type}{l:List α}{m:List β}{j:Nat}{x:α}{y:β}(h:l[j]?=some x)(h':m[j]?=some y):(l.zip m)[j]?=some (x,y):=by
 rw [List.getElem?_zip_eq_some];exact ⟨h,h'⟩
theorem Hw{t:Tab}(gm:z7 t)(gk:aO ks)(h:fU N H v t ks us n m)(h':fU N' H v' (aw t (zt (names t))) (bC ks (zt (names ks))) us n m'):
  ∃fl hl sl F J G,H v=some (.tup [.ref fl,.ref hl,.ref sl,.int n,.int m])/\H v'=some (.tup [.ref F,.ref J,.ref G,.int n,.int m'])/\EqD 5 H (.ref F) (.ref fl)/\EqD 5 H (.ref J) (.ref hl)/\EqD 5 H (.ref G) (.ref sl):=by
 obtain ⟨fl,hl,sl,hs,ss,e,f,e2,p2,e3,p3⟩:=h.ex;obtain ⟨F,J,G,a3,a4,e',f',aI,W,ax,ai⟩:=h'.ex;refine {fl,hl,sl,F,J,G,e,e',ux (wx gm.nd f') f,?_,pS ax.2 e3.2 ai p3 λx y u r r'=>?_}
 .rw [A7,uA] at W;have a0:=Eb (S:=gv N' H ks) W λa n Z ⟨r,g1,O⟩=>{r,g1,by
   have Z:=cX n Z;rw [Nf gk Z] at O;obtain ⟨u,_,eu,gu⟩:=gk.lk Z;rw [eu] at O ⊢;exact wx gu.nd O}
  exact pS aI.2 e2.2 a0 p2 λx y n ⟨r,g1,O⟩ ⟨r',av,aT⟩=>wX g1 av (ux O aT)
 .refine .inr {x,y,_,_,rfl,rfl,.inr ⟨r,r'⟩,rfl,λj a b U hb=>?_};rw [U] at hb;cases hb;rcases j with _|_|_|j
  .cases U;exact gJ rfl _
  .cases U;exact gJ rfl _
  .cases U;exact gJ rfl _
  .cases U
end
theorem SdV.mv{a p wl sl:Addr}{k:Int}{o:Option MD}(P:Pot H a)(D:BkD A H p wl sl n m c s0 s1)(kp:∀x o,x≠a->x≠p->x≠sl->H x=some o->H' x=some o)(h:SdV a sl H v k o):SdV a sl H' v k o:=by
 cases o with
 | none=>exact h
 | some M =>
  obtain ⟨tp,td,t,ks,rfl,e,F,r⟩:=h;obtain ⟨_,_,ea,_⟩:=P.ex;obtain ⟨_,ep⟩:=D.ob;have tk:∀{x xs},H x=some (.tup xs)->H' x=some (.tup xs):=λ{x xs} e=>kp x _ (λz=>by rw [z,ea] at e;cases e) (λz=>by rw [z,ep] at e;cases e) (λz=>by rw [z,D.sd] at e;cases e) e;exact {tp,td,t,ks,rfl,tk e,F.mv {λG e=>kp _ _ G.1 (λz=>by rw [z,ep] at e;cases e) G.2 e,tk,id},r}
theorem SdV.tr{k:Int}{o:Option MD}(s:zK H H')(h:SdV a sl H v k o):SdV a sl H' v k o:=by
 cases o with
 | none=>exact h
 | some M =>
  obtain ⟨tp,td,t,ks,rfl,e,F,r⟩:=h;exact {tp,td,t,ks,rfl,s.tup e,F.mv (.ofT s),r}
section
variable {P:OE}{w:OW}{K:Frag}{mg:Str->Option Value}{base:Heap}{A:zi}
structure BF(A:zi)(H0:Hp)(sc:V)(i:Nat)(σ:L2.St)(H':Hp):Prop where
 ex:∃t1 t2 t3 t4 t5 t6 t7 t8 t9 t10 t11 t12,σ=[some sc,t1,t2,t3,t4,t5,t6,t7,t8,t9,t10,t11,t12]
 same:zK H0 H'
 tb:TB A H'
structure MkI(A:zi)(H:Hp)(a p wl sl:Addr)(n:Nat)(m:Int)(i:Nat)(τ:L2.St)(ys:List V)(H':Hp):Prop where
 ex:∃t,τ=[t,some (.ref a),some (.ref p)]
 kp:∀x o,x≠a->x≠p->x≠sl->H x=some o->H' x=some o
 U9:Pot H' a
 st:∃c s0 s1 o0 o1 v0 v1,BkD A H' p wl sl n m c s0 s1/\cA s0 o0/\cA s1 o1/\SdV a sl H' v0 0 o0/\SdV a sl H' v1 1 o1/\ys=[v0,v1].take i/\(i=0->s0=none/\o0=none)/\(i<=1->s1=none/\o1=none)
 le:i<=2
def kA(t1 t2:Addr)(K:Frag):Sp:=λvs H Q _=>∃(a:Addr)(ns:List Int),vs=[.ref a]/\SqL K H a (ns.map V.int)/\ns.length<=63/\H t1=some (.tbl #[])/\H t2=some (.tbl #[])/\t1≠t2/\∀H',Q (.bl true) H'
theorem cK:zy YK Wn (zm je):=fsc
theorem DT:bb { kind:=.function,names:=[(Ou ".0",.local),(Ou "_law_side_here",.local),(Ou "_law_side",.globalImplicit),(Ou "_law_pot_here",.free),(Ou "_law_disk",.free)],isGenerator:=false,isCoroutine:=false,more:=[] } (zm je).names YK Ww [none,some 2,some 3]=true:=by decide +kernel
theorem HY:(Ww:List Str).Nodup:=by decide +kernel
theorem Lm:bb { kind:=.function,names:=[(Ou ".0",.local),(Ou "_law_mark",.local)],isGenerator:=false,isCoroutine:=false,more:=[] } (zm je).names YK ["_law_mark"] [none]=true:=by decide +kernel
theorem Fp:(["_law_mark"]:List Str).Nodup:=by decide +kernel
theorem zzA{H:Hp}{p wl sl n m c s0 s1}{Q:VK}{E}(D:BkD A H p wl sl n m c s0 s1)(q:Q (.int c) H):∃dx fs,H p=some (.ins A.tj dx fs)/\List.lookup ("signs":Str) fs=none/\yG A [.ref p] H Q E:=let ⟨dx,e⟩:=D.ob;{dx,_,e,qR,p,wl,sl,n,m,c,s0,s1,rfl,D,q}
theorem zzB{H:Hp}{p wl sl n m c s0 s1}{k:Int}{Q:VK}{E}(D:BkD A H p wl sl n m c s0 s1)(q:(k=0/\Q (tv s0) H)\/(k=1/\Q (tv s1) H)):∃dx fs,H p=some (.ins A.tj dx fs)/\List.lookup ("side":Str) fs=none/\qX A [.ref p,.int k] H Q E:=let ⟨dx,e⟩:=D.ob;{dx,_,e,gZ,p,wl,sl,n,m,c,s0,s1,k,rfl,D,q}
theorem zzC{H:Hp}{p wl sl n m c s0 s1}{F o1:Option MD}{Q:VK}{E}(D:BkD A H p wl sl n m c s0 s1)(t:TB A H)(k0:cA s0 F)(k1:cA s1 o1)(q:∀M,dv F o1=some M->∀v us H',zK H H'->TB A H'->us.Perm M.2.1->(us.map (·.1)).Pairwise (·<=·)->fU (λ_=>True) H' v M.1.1 M.1.2 us M.2.2.1 (M.2.2.2+1)->Q (.ref v) H')(qe:dv F o1=none->∀H',zK H H'->TB A H'->Q .non H'):yR A [.ref p] H Q E:={p,wl,sl,n,m,c,s0,s1,F,o1,rfl,D,t,k0,k1,q,qe}
theorem BG(F:Fun K "law" "law" je f fd)(T:Txt K mg A)(YH:GF P w K mg base true 1 "_law_pot" Wv (vd K))(Z8:GF P w K mg base true 1 Wb X2 iA)(XN:GC P w K mg base true 3 "Disk" A.tj WU (uT A))(YN:GF P w K mg base true 8 VU WO (vS A))(Zj:GM P w K mg base true 1 A.tj "signs" Zg (yG A))(ZK:GM P w K mg base true 1 A.tj "side" Wq (qX A))(YX:GF P w K mg base true 14 "_law_risen" ["_law_disk"] (yR A)):zq P w K mg base CX0 true 15 f fd Wn (kA A.L4 A.vr K):=by
 refine F.o cK λZ1 Ar outer s H vs Q E Z h=>?_;obtain ⟨sc,ns,rfl,hS,hl,b8,c6,da,q⟩:=h;have hu:_<cLine:=Qt (bo Z);refine {_,(W.h (zh (cF Q6.never (λ_=>rfl) (dB rfl T.z3 (zd (ar (sX rfl) rfl T.br boot_max (zd zu (zd (ar (xm rfl) rfl T.bU boot_min (zd zu (zd (ar pO rfl T.UQ PZ (zd (zb 0) ze)) ze))) ze))) ze)) (zD (i:=1) cK.nd rfl (OL rfl))
   (zh (zC (i:=2) cK.nd rfl (Ry rfl) (caD (zL YH Z rfl (clP (zd (zb 0) (zd (zb 1) ze))))))
   (zh (zC (i:=3) cK.nd rfl (Ry rfl) (ja XN Z rfl (zd (zI bw zu (caD (zL Z8 Z rfl (clP (zd (zb 2) (zd zu ze)))))) (zd (zI bw zu (caD (zL Z8 Z rfl (clP (zd (zb 2) (zd zu ze)))))) ze))))
   (zh (gg (i0:=4) cK.nd rfl (OL rfl) (λ_=>rfl) (z6.of DT) (dB rfl T.z3 (zd zu ze)) (λ_ _ _ _ _=>(zD (i:=0) HY rfl (OL rfl))) (λ_ _ _ _ _=>cn) (λ_ _ _ _ _=>(caD (zL YN Z rfl (clP (zd (zb 1) (zd (zb 2) (zd (zb 0) ze))))))))
   (zh (zC (i:=5) cK.nd rfl (OL rfl) (ar B2 rfl T.UR SL (zd (fj (λ_=>rfl) (z6.of Lm) (liD (bM (clE (zb 4)))) (λ_ _ _ _ _=>(zD (i:=0) Fp rfl (OL rfl))) (λ_ _ _ _ _=>(nG (tD (aF (clO qV) (clE (zb 0)) (clE cy) (aH _))))) (λ_ _ _ _ _=>(zb 0))) ze)))
   (zh (zC (i:=6) cK.nd rfl (OL rfl) (bR (zd (m0D (zY (clE (zb 3)) T.mC Zj Z)) (zd (mD (aC (clE (zb 3)) T.mC ZK Z (clP (zd zu ze)))) (zd (mD (aC (clE (zb 3)) T.mC ZK Z (clP (zd zu ze)))) ze)))))
   (zh (zC (i:=7) cK.nd rfl (OL rfl) cy)
   (zh (af (tD (aF (clO (Dz hu)) (clE (zb 5)) (clE (bV ze)) (aH _)))
   (zh (ie (aR bS (aR bS (zb 5) (AJ yN zu) (λ_ _=>rfl)) zu (λ_ _=>rfl)) (iI (n:=5) (gsD (aA (zD (i:=8) cK.nd rfl (OL rfl)) (gsD (aA (zD (i:=9) cK.nd rfl (OL rfl)) (gsD (aA (zD (i:=10) cK.nd rfl (OL rfl)) (gsD (aA (zD (i:=11) cK.nd rfl (OL rfl)) (gsD (aA (zD (i:=12) cK.nd rfl (OL rfl)) d5))))))))))))
   (zo (zC (i:=7) cK.nd rfl (OL rfl) (bR (zd (zb 8) (zd (zb 9) (zd (zb 10) (zd (zb 11) (zd (zI bw (zb 12) zu) ze)))))))))
   aa)
   (zh (af (tD (aF (clO (Gc (n:=5) (u6 Z))) (clE (caD (zL YX Z rfl (clP (zd (zb 3) ze))))) (clE (zb 7)) (aH _)))
   (zo (zB jn))
   aa)
   (zo (af (tD (aF (clO (MG hu)) (clE (bR (zd (m0D (zY (clE (zb 3)) T.mC Zj Z)) (zd (mD (aC (clE (zb 3)) T.mC ZK Z (clP (zd zu ze)))) (zd (mD (aC (clE (zb 3)) T.mC ZK Z (clP (zd zu ze)))) ze))))) (clE (zb 6)) (aH _)))
   (zo (zB jn))
   aa)))))))))))
   (zo (zB jn)))),?_}
 have c3:TB A H:={.inl b8,.inl c6,da};ac_rfl;refine {_,.inl hS,?_};rw [Ow];have hN:∃N:Nat,(if (if (ns.length:Int)<6 then (ns.length:Int) else 6)>2 then if (ns.length:Int)<6 then (ns.length:Int) else 6 else 2)=(N:Int)/\N<=6:=by
  by_cases h1:(ns.length:Int)<6
  .rw [if_pos h1];split
   .exact {ns.length,rfl,'l'}
   .exact {2,rfl,'d'}
  .rw [if_neg h1];exact {6,rfl,'d'}
 obtain ⟨N,eN,d1⟩:=hN;rw [eN,Qk];refine {'l','l',bg.rng (BF A H (.ref sc)) {{_,_,_,_,_,_,_,_,_,_,_,_,rfl},zK.refl,c3} ?_ ?_}
 .rintro i σ H0 hi ⟨⟨t1,t2,t3,t4,t5,t6,t7,t8,t9,cP,ct,cD,rfl⟩,s0,b6⟩;have ej:(0+(i:Int))=((i:Nat):Int):=by lia
  erw [ej];refine {sc,ns,i,rfl,SqL.tr s0 hS,'l','l',λa H1 bx a0 P1=>?_};ac_rfl;refine zzD P1 'd' 'd' λr H2 b2 P2 r0 r1=>{a,27,rfl,P2,'d','d',λr' H3 b3 P3 dy dt=>?_};ac_rfl;refine λp dx H4 n4=>{p,dx,_,_,rfl,n4.at_,'l','l','l','l',λwl sl H5 b5 dT b1 D5=>{rfl,?_}};have p0:H0 p=none:=by
   cases e:H0 p with
   | none=>rfl
   | some o =>
    have:=b3 _ _ (zH e a0) (b2 _ _ (zH e a0) (bx _ _ e));rw [n4.no] at this;cases this
  have Xi:zj H0 H4:=λx o e=>n4.same _ _ (b3 _ _ (zH e a0) (b2 _ _ (zH e a0) (bx _ _ e)));have cp:zj H0 H5:=λx o e=>b5 _ _ (zH e p0) (Xi _ _ e);have dc:H0 sl=none:=by
   cases e:H0 sl with
   | none=>rfl
   | some o=>rw [Xi _ _ e] at b1;cases b1
  have P5:Pot H5 a:=by
   obtain ⟨x,y,ea,er⟩:=P3.ex;exact {{x,y,b5 _ _ (zH ea n4.no) (n4.same _ _ ea),er}}
  refine {'d','d',aM.rng (MkI A H5 a p wl sl _ (6+r')) (λi τ ys H' I=>?_) {{_,rfl},λx o _ _ _ e=>e,P5,{0,none,none,none,none,.non,.non,D5,.inl rfl,.inl rfl,rfl,rfl,rfl,λ_=>{rfl,rfl},λ_=>{rfl,rfl}},'d'} ?_ ?_}
  .obtain ⟨_,_,_,_,_,_,_,_,_,_,_,_,e,_⟩:=I.st;rw [e];exact O9 (Qb _ _) (show 2<sizeLine by decide)
  .intro N i τ ys H6 bP I hN;obtain ⟨t,rfl⟩:=I.ex;have I1:=I.kp;have P6:=I.U9;obtain ⟨c,s0,s1,o0,o1,v0,v1,D6,k0,k1,w0,w1,ey,z0,z1⟩:=I.st;have bP:i<2:=bP;have:i=0\/i=1:=by lia
   rcases this with rfl|rfl
   .obtain ⟨rfl,rfl⟩:=z0 rfl;obtain ⟨rfl,rfl⟩:=z1 'd';ac_rfl;refine {a,p,wl,sl,_,_,c,none,none,0,rfl,P6,D6,'l','l',.inl rfl,rfl,λv s' o c' H7 kp P7 D7 k w=>hN _ _ _ {{_,rfl},λx o n1 n2 n3 e=>kp x o n1 n2 n3 (I1 x o n1 n2 n3 e),P7,{c',s',none,o,none,v,.non,D7,k,.inl rfl,w,rfl,by rw [ey];rfl,nofun,λ_=>{rfl,rfl}},'d'}}
   .obtain ⟨rfl,rfl⟩:=z1 'd';ac_rfl;refine {a,p,wl,sl,_,_,c,s0,none,1,rfl,P6,D6,'l','l',.inr rfl,rfl,λv s' o c' H7 kp P7 D7 k w=>hN _ _ _ {{_,rfl},λx o n1 n2 n3 e=>kp x o n1 n2 n3 (I1 x o n1 n2 n3 e),P7,{c',s0,s',o0,o,v0,v,D7,k0,k,w0.mv P6 D6 kp,w,by rw [ey];rfl,nofun,λz=>absurd z 'd'},'d'}}
  .intro τ ys H6 I ml H7 n7;have P6:=I.U9;obtain ⟨c,U,s1,o0,o1,v0,v1,D6,k0,k1,w0,w1,ey,z0,z1⟩:=I.st;have c2:zj H0 H6:=λx o e=>I.kp x o (zH e a0) (zH e p0) (zH e dc) (cp x o e);have b0:=c2.trans n7.same;have D7:=D6.same n7.same;have w0:=w0.tr (.of n7.same);have w1:=w1.tr (.of n7.same);have df:=b6.same b0;have s7:zK H H7:=s0.trans (.of b0);rw [show ys=[v0,v1] from ey] at n7;ac_rfl;refine {{_,SqL.of n7.at_},aM.lst (xs:=[v0,v1]) (WhI H7 [v0,v1]) (λi τ ys H' I=>?_) (λi τ ys H' I=>SqL.of (by rw [I.same];exact n7.at_)) {{_,rfl},rfl,rfl} ?_ ?_}
   .rw [I.ys];refine O9 (Pj (So _ _) (Qb _ _)) (show 2<sizeLine by decide)
   .intro N i v τ ys H' hv I hN;obtain ⟨t,rfl⟩:=I.ex;have et:=Pi (l:=[v0,v1]) (i:=i);rw [hv] at et;have vv:v = .non\/∃x,v = .ref x:=by
     have:∀{u:V}{k:Int}{o:Option MD},SdV a sl H7 u k o->u = .non\/∃x,u = .ref x:=λ{u k o} h=>by
      cases o with
      | none=>exact .inl h
      | some M=>exact h.elim λx h=>h.elim λ_ h=>h.elim λ_ h=>h.elim λ_ h=>.inr ⟨x,h.1⟩
     rcases OK.mp (Pc hv) with z|z
     .rw [z];exact this w0
     .rw [OS.mp z];exact this w1
    rcases vv with rfl|⟨x,rfl⟩
    .ac_rfl;refine hN _ _ _ {{_,rfl},?_,I.same};rw [et,RX,I.ys];exact (PY _).symm
    .ac_rfl;refine hN _ _ _ {{_,rfl},?_,I.same};rw [et,RX,I.ys];rfl
   .intro τ ys H8 I fl H9 n9;have e8:=I.same;subst e8;have ey:=I.ys;rw [OU (OA _)] at ey;have D9:=D7.same n9.same;have w0:=w0.tr (.of n9.same);have w1:=w1.tr (.of n9.same);have c4:=df.same n9.same;have s9:zK H H9:=s7.trans (.of n9.same);rw [vk];obtain ⟨as,Ms,pr,nd,l2,ea,dp,pk⟩:∃(as:List Addr)(Ms:List MD),Paired (λx M=>SdV a sl H9 (.ref x) (M.2.2.2 % 2) (some M)) as Ms/\(Ms.map (·.2.2.2)).Nodup/\as.length<=2/\ys=as.map V.ref/\(as=[]->dv o0 o1=none)/\∀M∈Ms,(∀M'∈Ms,M'.2.2.2<=M.2.2.2)->dv o0 o1=some M:=by
     cases o0 with
     | none =>
      cases (show v0 = .non from w0);cases o1 with
      | none =>
       cases (show v1 = .non from w1);exact {[],[],.nil,.nil,'d',ey,λ_=>rfl,λM h=>by cases h}
      | some M1 =>
       obtain ⟨x1,td,t,ks,rfl,e,r1,r2,r3,r4,r5,r6⟩:=w1;exact {[x1],[M1],.cons {x1,td,t,ks,rfl,e,r1,r2,r3,r4,r5,rfl} .nil,'z',RA 1,ey,nofun,λM h _=>by rw [OS.mp h];rfl}
     | some M0 =>
      obtain ⟨x0,td,t,ks,rfl,e,r1,r2,r3,r4,r5,r6⟩:=w0;cases o1 with
      | none =>
       cases (show v1 = .non from w1);exact {[x0],[M0],.cons {x0,td,t,ks,rfl,e,r1,r2,r3,r4,r5,rfl} .nil,'z',RA 1,ey,nofun,λM h _=>by rw [OS.mp h];rfl}
      | some M1 =>
       obtain ⟨x1,aT,t',ks',rfl,e',q1,q2,q3,q4,q5,q6⟩:=w1;have ne:M0.2.2.2≠M1.2.2.2:=λz=>by rw [z,q6] at r6;cases r6
       refine {[x0,x1],[M0,M1],.cons {x0,td,t,ks,rfl,e,r1,r2,r3,r4,r5,rfl} (.cons {x1,aT,t',ks',rfl,e',q1,q2,q3,q4,q5,rfl} .nil),by simpa using ne,OA 2,ey,nofun,λM h mx=>?_};show some (if M1.2.2.2>M0.2.2.2 then M1 else M0)=some M;have m0:=mx M0 'z';have m1:=mx M1 'z';rcases OK.mp h with z|z
       .subst z;rw [if_neg 'l']
       .have z:=OS.mp z;subst z;rw [if_pos 'l']
    have lp:=aK pr;refine {as,Ms.map (·.2.2.2),by rw [<- ea];exact n9.at_,?_,nd,'l',λdg zs H10 ba up so=>?_}
    .exact KN pr λx M ⟨tp,td,_,_,ez,e,_⟩=>{td,by cases ez;exact e}
    have a6:=D9.same ba.same;obtain ⟨dx,bf⟩:=a6.ob;refine zzA a6 (zzB a6 (.inl {rfl,zzB a6 (.inr {rfl,'d',λbt eb bp=>{Pz _,λem H12 a5 _=>?_}})}));have a7:zj H9 H12:=ba.same.trans (bp.same.trans a5.same);have a4:=D9.same a7;have a8:=c4.same a7;have a9:zK H H12:=s9.trans (.of a7);have hb:=a5.same _ _ bp.at_;have hz:=a5.same _ _ (bp.same _ _ ba.at_);have flt:List.all [V.int c,tv U,tv s1] zP=true:=by cases U<;>cases s1<;>rfl
    have b4:eqL [V.int c,tv U,tv s1] [V.int c,tv U,tv s1]=true:=kZ flt λx hx b e=>by have:=Pg.mp flt x hx;rw [e] at this;cases this
    rw [uz];refine {_,_,hz,a5.at_,.inr rfl,?_};rcases RQ zs with rfl|⟨bL,z,ez⟩
    .have pn:dv o0 o1=none:=dp (SO (by have:=up.length_eq;rw [UH,Ow,<- lp] at this;simp at this;lia));ac_rfl;rw [if_neg 'd'];refine zzC a4 a8 k0 k1 (λM hM=>(by rw [pn] at hM;cases hM)) λ_ H13 ai aI=>?_;have J:=a4.tr ai;obtain ⟨dx,S⟩:=J.ob;have ax:=ai.tup hb;have av:=a9.trans ai;ac_rfl;refine zzA J (zzB J (.inl {rfl,zzB J (.inr {rfl,'d',λb2 cv G=>{_,_,.inr {G.at_,G.same _ _ ax},flt,flt,?_}})}));rw [b4];exact {{_,_,_,_,_,_,_,_,_,_,_,_,rfl},av.trans (.of G.same),aI.same G.same}
    .rw [Rm] at ez;subst ez;obtain ⟨j,hj⟩:=List.getElem?_of_mem (up.mem_iff.mp (Ox bL (OS.mpr rfl)));have c0:atI ((bL++[z]).map λz=>V.ref z.2) (-1)=some (.ref z.2):=by rw [Pe];exact GT _ _
     obtain ⟨e1,e2⟩:=Cs hj;rw [OT] at e1;obtain ⟨M,eM,cC⟩:=O7.mp e1;have hM:dv o0 o1=some M:=pk M (Pc eM) λM' a3=>by
      obtain ⟨j',bq⟩:=List.getElem?_of_mem a3;have b9:j'<as.length:=by rw [lp];exact (OG.mp bq).1
      have hm:(M'.2.2.2,as[j'])∈(Ms.map (·.2.2.2)).zip as:=Pc (IW (by rw [OT,bq];rfl) (KE b9));rw [cC];rcases OY.mp (up.mem_iff.mpr hm) with h|h
      .exact (List.pairwise_append.mp so).2.2 _ h _ (OS.mpr rfl)
      .exact Int.le_of_eq (congrArg Prod.fst (OS.mp h))
     obtain ⟨tp,td,t,ks,et,g1,g2,g3,gm,gk,g6,_⟩:=(bY pr e2 eM).tr (.of a7);cases et;obtain ⟨ec,d0,dV,d4,d7,ex,_⟩:=g2.ex;erw [hz,c0,g1];rw [if_pos (by rw [Ow,Pb,PX];rfl)];refine {_,lP,td,_,rfl,SqT.of ex,rfl,?_};ac_rfl;refine {'d',λdu Hd Ya=>zzC (a4.same Ya.same) (a8.same Ya.same) k0 k1 (λM' a3 v us H13 ai aI c5 b7 aT=>?_) λz=>(by rw [hM] at z;cases z)};rw [hM] at a3;cases a3;have O:zK H12 H13:=(zK.of Ya.same).trans ai;have J:=a4.tr O;obtain ⟨dx,S⟩:=J.ob;have ax:=O.tup hb;have av:=a9.trans O;obtain ⟨_,_,pm⟩:=o8 k0 k1 hM;have eu:us=M.2.1:=A5 (pm.nodup_iff.mpr dD) c5 b7 (QK.refl _) g6;rw [eu,g3] at aT;obtain ⟨fl,hl,d2,d3,dK,dg,e3,e4,q1,q2,q3⟩:=Hw gm gk (g2.mv (.ofT O)) aT;rw [O.tup ex] at e3;cases e3;rw [AK];refine {_,_,e4,ai.tup Ya.at_,rfl,λj x y hx hy=>?_,?_}
     .rcases j with _|_|_|_|_|j
      .cases hx;cases hy;exact q1
      .cases hx;cases hy;exact q2
      .cases hx;cases hy;exact q3
      .cases hx;cases hy;exact gJ rfl _
      .cases hx;cases hy;exact gJ rfl _
      .cases hx
     ac_rfl;refine zzA J (zzB J (.inl {rfl,zzB J (.inr {rfl,'d',λb2 cv G=>{_,_,.inr {G.at_,G.same _ _ ax},flt,flt,?_}})}));rw [b4];exact {{_,_,_,_,_,_,_,_,_,_,_,_,rfl},av.trans (.of G.same),aI.same G.same}
 .rintro σ H' ⟨⟨t1,t2,t3,t4,t5,t6,t7,t8,t9,cP,ct,cD,rfl⟩,_,_⟩;exact q H'
end
theorem all_mk{l:OpenLaw}{w:OW}{K:Frag}{h:Heap}{mg:Str->Option Value}{fa:Addr}{a5 bL b5 b0 b3 b6 bf bt b2 aT a3 ul W u8 U a6 aI v4 a7 ax v6:Addr}{hc h4 d4 hI:Option Addr}{c6 f3:Array (Option Value)}{eu d7 eo fI e5 hu gd hD l2 l3:Value}{er df e3 kk ek c0 kl gu dp hz:Tok}(X:K.In h)(G:h.Ns OH mg)(eD:mg "law"=some (.ref fa))
  (kc:Q8 K OH "CleanError"=some (some (.ref a5)))
  (fx:Q8 K OH "NoRow"=some (some (.ref bL)))
  (ht:Q8 K OH "NoDisk"=some (some (.ref b5)))
  (hY:Q8 K OH "Full"=some (some (.ref b0)))
  (hj:Q8 K OH "Stopped"=some (some (.ref b3)))
  (ct:Q8 K OH "NoFile"=some (some (.ref b6)))
  (ew:Q8 K OH "NoPlace"=some (some (.ref bf)))
  (fy:Q8 K OH "HeldAlready"=some (some (.ref bt)))
  (kb:Q8 K OH "NotHeld"=some (some (.ref b2)))
  (l1:Q8 K OH "NoMark"=some (some (.ref aT)))
  (kf:Q8 K OH "NoPart"=some (some (.ref a3)))
  (bp:Q8 K OH "Words"=some (some (.ref ul)))
  (ba:Q8 K OH "Files"=some (some (.ref W)))
  (bx:Q8 K OH "State"=some (some (.ref u8)))
  (a9:Q8 K OH "Disk"=some (some (.ref U)))
  (js:FnM K "is_whole" si)
  (ff:FnM K V5 qw)
  (hb:FnM K VZ mE)
  (hB:FnM K V4 nr)
  (e8:FnM K "is_name" qx)
  (cC:zV K ul Wm "Words.__init__" rm)
  (fL:zV K ul V6 "Words.take_word" mB)
  (hA:zV K ul Wc VY lg)
  (eC:zV K ul "take_name" "Words.take_name" mf)
  (dV:zV K ul VS "Words.is_at_end" nV)
  (ko:zV K ul "take_end" "Words.take_end" kE)
  (ed:zV K W Wm "Files.__init__" rq)
  (lp:zV K W VX "Files.names" oY)
  (eF:zV K W V9 "Files.many" nW)
  (lu:zV K W Wh "Files.birth" mV)
  (d1:zV K W "put" "Files.put" qI)
  (ec:zV K W "hold" "Files.hold" rY)
  (c2:zV K W "held" "Files.held" nE)
  (hy:zV K W "of_held" "Files.of_held" pC)
  (dg:zV K W "living" "Files.living" ju)
  (gi:zV K W "copied" "Files.copied" qh)
  (la:zV K W "bare" "Files.bare" oX)
  (ft:zV K W "keep" "Files.keep" qB)
  (lJ:zV K W V3 "Files.refuse_if_none" rF)
  (ut:zV K W V8 "Files.refuse_if_not_held" p9)
  (eH:FnM K "files_text" pQ)
  (hp:FnM K VQ jZ)
  (eb:FnM K V1 kH)
  (eZ:FnM K V0 kS)
  (fS:FnM K We j7)
  (fm:FnM K "sum_of" o3)
  (du:FnM K "summed" pH)
  (j0:FnM K "body_of" rR)
  (gr:zV K u8 Wm "State.__init__" jW)
  (g4:zV K u8 Wi "State.files" o6)
  (e9:zV K u8 V7 "State.spots" lK)
  (gI:zV K u8 Wj "State.next_number" qi)
  (cp:zV K u8 Wl "State.mark_number" nh)
  (fv:FnM K "mark_text" kB)
  (c3:FnM K VT lE)
  (e7:FnM K "state_of" i3)
  (dy:FnM K V2 lI)
  (hQ:zV K U Wm "Disk.__init__" kW)
  (ea:zV K U "stretches" "Disk.stretches" qD)
  (hM:zV K U "places" "Disk.places" oO)
  (lx:zV K U "next_place" "Disk.next_place" oh)
  (e2:zV K U "side" "Disk.side" sf)
  (kx:zV K U "signs" "Disk.signs" qP)
  (cD:zV K U "put_side" "Disk.put_side" oZ)
  (kn:zV K U Wf "Disk.refuse_if_stopped" rT)
  (hn:zV K U "spend" "Disk.spend" rZ)
  (gz:zV K U VR "Disk.first_signs" nJ)
  (hC:FnM K "rows_in" ou)
  (eJ:Q8 K OH Wg=some (some (.ref a6)))
  (hO:K.lookup a6=some {eu,hc,.func (fnOf Wg Wg (gH g7) (cU g7) (zm g7) .none d7 eo fI h4 (.ref aI) e5),c6})
  (j2:codeIn K (.ref aI) Wg=true)
  (l5:tabIn K Wg=some (aI,v4))
  (bq:UL K aI v4=true)
  (dc:K.lookup v4=none)
  (a8:Si K (.ref a6)=true)
  (cv:FnM K "mark_at" nO)
  (fF:Q8 K OH Wk=some (some (.ref a7)))
  (ka:K.lookup a7=some {hu,d4,.func (fnOf Wk Wk (gH eI) (cU eI) (zm eI) .none gd hD l2 hI (.ref ax) l3),f3})
  (hk:codeIn K (.ref ax) Wk=true)
  (l6:tabIn K Wk=some (ax,v6))
  (b4:UL K ax v6=true)
  (hL:K.lookup v6=none)
  (bP:Si K (.ref a7)=true)
  (gT:FnM K "rows_from" qj)
  (kz:FnM K VW iq)
  (eW:FnM K "risen" mr)
  (j3:FnM K "_law_pot" m7)
  (g0:FnM K Wb nX)
  (g5:FnM K "_law_name" qY)
  (dt:FnM K Wa lZ)
  (hS:FnM K VV iV)
  (ei:FnM K "_law_state" j9)
  (gC:FnM K "_law_other" nK)
  (dT:FnM K VU qC)
  (hN:FnM K "_law_risen" oy)
  (hP:FnM K "law" je)
  (hv:Q8 K OH "abs"=some none)
  (hl:Q8 K OH "all"=some none)
  (c5:Q8 K OH "bool"=some none)
  (d3:Q8 K OH "dict"=some none)
  (hg:Q8 K OH "divmod"=some none)
  (d0:Q8 K OH "enumerate"=some none)
  (el:Q8 K OH "int"=some none)
  (ih:Q8 K OH "isinstance"=some none)
  (k4:Q8 K OH "len"=some none)
  (k6:Q8 K OH "max"=some none)
  (ky:Q8 K OH "min"=some none)
  (da:Q8 K OH "ord"=some none)
  (gb:Q8 K OH "range"=some none)
  (ly:Q8 K OH "sorted"=some none)
  (d2:Q8 K OH "str"=some none)
  (eN:Q8 K OH "tuple"=some none)
  (eh:Q8 K OH "FIGURES"=some (some (.str "0123456789" er)))
  (ef:Q8 K OH "LETTERS"=some (some (.str "abcdefghijklmnopqrstuvwxyz" df)))
  (kd:Q8 K OH "MOST_FIGURES"=some (some (.int 18 e3)))
  (j1:Q8 K OH "MOST_LETTERS"=some (some (.int 6 kk)))
  (ej:Q8 K OH "MODULUS"=some (some (.int 65521 ek)))
  (eX:Q8 K OH "FIRST_WORD"=some (some (.str "mark" c0)))
  (eU:Q8 K OH "LEAST_STRETCHES"=some (some (.int 3 kl)))
  (b8:Q8 K OH "MOST_STRETCHES"=some (some (.int 16 gu)))
  (e6:Q8 K OH "LEAST_PLACES"=some (some (.int 2 dp)))
  (eT:Q8 K OH "MOST_PLACES"=some (some (.int 32 hz)))
  (hF:excIn K a5 [.type "ValueError",.type "Exception",.type "BaseException",.type "object"] "ValueError.__new__"=true)
  (j5:excIn K aT [.type "ValueError",.type "Exception",.type "BaseException",.type "object"] "ValueError.__new__"=true)
  (f5:excIn K a3 [.type "ValueError",.type "Exception",.type "BaseException",.type "object"] "ValueError.__new__"=true)
  (eg:mroIn K aT (.ref aT)=some true)
  (k8:mroIn K a3 (.ref a3)=some true)
  (iv:Tg K ul SB=true)
  (lb:S6 K ul=true)
  (c4:Uc K ul=true)
  (h3:findIn K (.ref ul) "__setattr__"=some (some (.builtin "object.__setattr__")))
  (f7:UO K ul=true)
  (hH:Si K (.ref ul)=true)
  (g6:findIn K (.ref ul) "taken"=some none)
  (cP:findIn K (.ref ul) "words"=some none)
  (hW:Tg K W SB=true)
  (et:S6 K W=true)
  (e4:Uc K W=true)
  (hq:findIn K (.ref W) "__setattr__"=some (some (.builtin "object.__setattr__")))
  (dK:UO K W=true)
  (ho:Si K (.ref W)=true)
  (kp:findIn K (.ref W) "births"=some none)
  (b7:findIn K (.ref W) "kept"=some none)
  (f6:Tg K u8 SB=true)
  (h5:S6 K u8=true)
  (b9:Uc K u8=true)
  (hE:findIn K (.ref u8) "__setattr__"=some (some (.builtin "object.__setattr__")))
  (e1:UO K u8=true)
  (hK:Si K (.ref u8)=true)
  (kv:findIn K (.ref u8) "next_mark"=some none)
  (ey:findIn K (.ref u8) "next_row"=some none)
  (hR:findIn K (.ref u8) "own_files"=some none)
  (ll:findIn K (.ref u8) "spot_of"=some none)
  (ez:Tg K U SB=true)
  (hs:S6 K U=true)
  (fw:Uc K U=true)
  (eM:findIn K (.ref U) "__setattr__"=some (some (.builtin "object.__setattr__")))
  (hr:UO K U=true)
  (lz:Si K (.ref U)=true)
  (hx:findIn K (.ref U) "at_sides"=some none)
  (ha:findIn K (.ref U) "counted"=some none)
  (kq:findIn K (.ref U) "has_stopped"=some none)
  (hh:findIn K (.ref U) "left"=some none)
  (lj:findIn K (.ref U) "width"=some none)
  (en:findIn K (.ref U) "written"=some none) :
  ∃fd:OJ,(∀(s:Oq)(v:Value),BindsTo s fd {[v],[]} [("_law_script",v)])/\(∀T,T∈[v4,v6]->K.lookup T=none/\∃c,UL K c T=true)/\∀base:Heap,K.In base->base.Ns OH mg->gN mg base->zq l.prog w K mg base CX0 true 15 fa fd Wn (kA v4 v6 K):=by
 obtain ⟨l4,a0,b1,a4⟩:=hP;have e:=eD.symm.trans (Q3 X G b1);cases e;have e0:∀(s:Oq)(v:Value),BindsTo s a0 {[v],[]} [("_law_script",v)]:=by obtain ⟨_,_,_,_,_,_,_,_,_,rfl,_⟩:=a4.ex;exact λs v=>.of_eq rfl
 have T:Txt K mg ⟨a5,bL,b5,b0,b3,b6,bf,bt,b2,aT,a3,ul,W,u8,U,v4,v6⟩:={Qy X G hv,Qy X G hl,Qy X G c5,Qy X G d3,Qy X G hg,Qy X G d0,Qy X G el,Qy X G ih,Qy X G k4,Qy X G k6,Qy X G ky,Qy X G da,Qy X G gb,Qy X G ly,Qy X G d2,Qy X G eN,{_,Q3 X G eh,{_,rfl}},{_,Q3 X G ef,{_,rfl}},{_,Q3 X G kd,{_,rfl}},{_,Q3 X G j1,{_,rfl}},{_,Q3 X G ej,{_,rfl}},{_,Q3 X G eX,{_,rfl}},{_,Q3 X G eU,{_,rfl}},{_,Q3 X G b8,{_,rfl}},{_,Q3 X G e6,{_,rfl}},{_,Q3 X G eT,{_,rfl}},Q3 X G kc,Q3 X G fx,Q3 X G ht,Q3 X G hY,Q3 X G hj,Q3 X G ct,Q3 X G ew,Q3 X G fy,Q3 X G kb,Q3 X G l1,Q3 X G kf,Q3 X G bp,Q3 X G ba,Q3 X G bx,Q3 X G a9,hF,j5,f5,eg,k8,⟨iv,lb,c4,h3⟩,g6,cP,⟨hW,et,e4,hq⟩,kp,b7,⟨f6,h5,b9,hE⟩,kv,ey,hR,ll,⟨ez,hs,fw,eM⟩,hx,ha,kq,hh,lj,en};have O:=yt (st:=g7) hO j2 a8;have av:=O.binds (ps:=WI) fun|_,_,_,_,_,_,[_],_=>rfl;have J:=yt (st:=eI) ka hk bP;have ai:=J.binds (ps:=WI) fun|_,_,_,_,_,_,[_],_=>rfl;refine {a0,e0,λT hT=>?_,λbase KB _ XA=>?_}
 .simp only [OK,PD,or_false] at hT;rcases hT with rfl|rfl
  .exact {dc,_,bq}
  .exact {hL,_,b4}
 have Z:fh mg base (.ref aI) v4:={{aI,rfl,codeHd_of_K KB bq},XA};have S:fh mg base (.ref ax) v6:={{ax,rfl,codeHd_of_K KB b4},XA};have YJ:=gf (w:=w) l.prog base true X G js (λ_ _ F=>E3 F T) λ_ _ _ _ _ _=>u1 λ_=>rfl;have ZO:=gf (w:=w) l.prog base true X G ff (λ_ _ F=>GI F T YJ) λ_ _ _ _ _ _=>u3 λ_ _ _=>rfl;have ZD:=gf (w:=w) l.prog base true X G hb (λ_ _ F=>N5 F T) λ_ _ _ _ _ _=>u3 λ_ _ _=>rfl;have YB:=gf (w:=w) l.prog base true X G e8 (λ_ _ F=>KU F T ZD) λ_ _ _ _ _ _=>u1 λ_=>rfl;have Zs:=gf (w:=w) l.prog base true X G hB (λ_ _ F=>LU F T ZD) λ_ _ _ _ _ _=>u1 λ_=>rfl;have Yl:=gf (w:=w) l.prog base true X G fm (λ_ _ F=>MZ F T) λ_ _ _ _ _ _=>u1 λ_=>rfl;have Y8:=gf (w:=w) l.prog base true X G du (λ_ _ F=>DS F T Yl) λ_ _ _ _ _ _=>u1 λ_=>rfl;have YA:=gf (w:=w) l.prog base true X G j0 (λ_ _ F=>Ml F T Y8) λ_ _ _ _ _ _=>u1 λ_=>rfl;have YH:=gf (w:=w) l.prog base true X G j3 (λ_ _ F=>M4 F T) λ_ _ _ _ _ _=>u2 λ_ _=>rfl;have Z8:=gf (w:=w) l.prog base true X G g0 (λ_ _ F=>Iy F T) λ_ _ _ _ _ _=>u2 λ_ _=>rfl;have YQ:=gf (w:=w) l.prog base true X G g5 (λ_ _ F=>GW F T Z8) λ_ _ _ _ _ _=>u1 λ_=>rfl;have Zm:=gc (w:=w) l.prog base true X G ba dK ho ed (λ_ _ F=>Jo F T) λ_ _ _ _ _ _=>u1 λ_=>rfl;have ZX:=gm (w:=w) l.prog base true lp (λ_ _ F=>Ej F T) λ_ _ _ _ _ _=>u1 λ_=>rfl;have Z4:=gm (w:=w) l.prog base true eF (λ_ _ F=>Li F T) λ_ _ _ _ _ _=>u2 λ_ _=>rfl;have ZI:=gm (w:=w) l.prog base true lJ (λ_ _ F=>Gn F T) λ_ _ _ _ _ _=>u2 λ_ _=>rfl;have ZN:=gm (w:=w) l.prog base true ut (λ_ _ F=>E5 F T) λ_ _ _ _ _ _=>u2 λ_ _=>rfl;have ZW:=gm (w:=w) l.prog base true lu (λ_ _ F=>C8 F T ZI Z4 ZO) λ_ _ _ _ _ _=>u3 λ_ _ _=>rfl;have ZF:=gm (w:=w) l.prog base true d1 (λ_ _ F=>E6 F T Z4 ZO) λ_ _ _ _ _ _=>u4 λ_ _ _ _=>rfl;have ZA:=gm (w:=w) l.prog base true c2 (λ_ _ F=>E4 F T) λ_ _ _ _ _ _=>u1 λ_=>rfl;have ZP:=gm (w:=w) l.prog base true la (λ_ _ F=>Ep F T Zm) λ_ _ _ _ _ _=>u1 λ_=>rfl;have ZC:=gm (w:=w) l.prog base true ft (λ_ _ F=>Ge F T ZP) λ_ _ _ _ _ _=>u3 λ_ _ _=>rfl;have Y0:=gm (w:=w) l.prog base true ec (λ_ _ F=>Kh F T ZC) λ_ _ _ _ _ _=>u2 λ_ _=>rfl;have ZM:=gm (w:=w) l.prog base true hy (λ_ _ F=>Gj F T ZN ZP) λ_ _ _ _ _ _=>u2 λ_ _=>rfl;have ZY:=gm (w:=w) l.prog base true dg (λ_ _ F=>Gg F T) λ_ _ _ _ _ _=>u1 λ_=>rfl;have ZJ:=gm (w:=w) l.prog base true gi (λ_ _ F=>Nm F T ZP) λ_ _ _ _ _ _=>u1 λ_=>rfl;have Zk:=gc (w:=w) l.prog base true X G bx e1 hK gr (λ_ _ F=>CI F T ZJ) λ_ _ _ _ _ _=>u5 λ_ _ _ _ _=>rfl;have ZU:=gm (w:=w) l.prog base true g4 (λ_ _ F=>EO F T ZJ) λ_ _ _ _ _ _=>u1 λ_=>rfl;have Z6:=gm (w:=w) l.prog base true gI (λ_ _ F=>IK F T) λ_ _ _ _ _ _=>u1 λ_=>rfl;have Z7:=gm (w:=w) l.prog base true cp (λ_ _ F=>MM F T) λ_ _ _ _ _ _=>u1 λ_=>rfl;have ZV:=gm (w:=w) l.prog base true e9 (λ_ _ F=>Jr F T) λ_ _ _ _ _ _=>u1 λ_=>rfl;have Zp:=gf (w:=w) l.prog base true X G hp (λ_ _ F=>Cy F T ZX Z4 ZW) λ_ _ _ _ _ _=>u1 λ_=>rfl;have Y5:=gf (w:=w) l.prog base true X G eH (λ_ _ F=>MA F T Zp ZA ZM) λ_ _ _ _ _ _=>u1 λ_=>rfl;have ZT:=gm (w:=w) l.prog base true dV (λ_ _ F=>Oa F T) λ_ _ _ _ _ _=>u1 λ_=>rfl;have Z3:=gmx (w:=w) l.prog base true fL (λ_ _ F=>Kv F T ZT) λ_ _ _ _ _ _=>u1 λ_=>rfl;have Z9:=gmx (w:=w) l.prog base true hA (λ_ _ F=>LD F T Z3 Zs) λ_ _ _ _ _ _=>u1 λ_=>rfl;have Zv:=gmx (w:=w) l.prog base true eC (λ_ _ F=>MN F T Z3 YB) λ_ _ _ _ _ _=>u1 λ_=>rfl;have Zr:=gmx (w:=w) l.prog base true ko (λ_ _ F=>BZ F T ZT) λ_ _ _ _ _ _=>u1 λ_=>rfl;have ZS:=gx (w:=w) l.prog base true X G fS (λ_ _ F=>Hb F T Zv) λ_ _ _ _ _ _=>u2 λ_ _=>rfl;have X7:=gc (w:=w) l.prog base true X G bp f7 hH cC (λ_ _ F=>CD F T) λ_ _ _ _ _ _=>u2 λ_ _=>rfl;have Zl:=gx (w:=w) l.prog base true X G eZ (λ_ _ F=>Nt F T Zm Z9 ZS ZF) λ_ _ _ _ _ _=>u1 λ_=>rfl;have Y4:=gx (w:=w) l.prog base true X G eb (λ_ _ F=>EZ F T Zl Z9 ZS ZC) λ_ _ _ _ _ _=>u1 λ_=>rfl;have YO:=gf (w:=w) l.prog base true X G fv (λ_ _ F=>LH F T ZV Z7 Z6 ZU Y5 Y8) λ_ _ _ _ _ _=>u1 λ_=>rfl;have Y3:=gx (w:=w) l.prog base true X G dy (λ_ _ F=>CY F T Z9) λ_ _ _ _ _ _=>u1 λ_=>rfl;have YI:=gx (w:=w) l.prog base true X G e7 (λ_ _ F=>CZ F T Z3 Z9 Y4 Y3 Zr ZY Zk) λ_ _ _ _ _ _=>u1 λ_=>rfl;have YS:=gx (w:=w) l.prog base true X G c3 (λ_ _ F=>MR F T YA X7 YI) λ_ _ _ _ _ _=>u1 λ_=>rfl;have XN:=gc (w:=w) l.prog base true X G a9 hr lz hQ (λ_ _ F=>NO F T ZO) λ_ _ _ _ _ _=>u3 λ_ _ _=>rfl;have Zq:=gm (w:=w) l.prog base true ea (λ_ _ F=>Eu F T) λ_ _ _ _ _ _=>u1 λ_=>rfl;have Zb:=gm (w:=w) l.prog base true hM (λ_ _ F=>Dd F T) λ_ _ _ _ _ _=>u1 λ_=>rfl;have Zj:=gm (w:=w) l.prog base true kx (λ_ _ F=>Hh F T) λ_ _ _ _ _ _=>u1 λ_=>rfl;have Zu:=gm (w:=w) l.prog base true lx (λ_ _ F=>NS F T) λ_ _ _ _ _ _=>u2 λ_ _=>rfl;have ZK:=gm (w:=w) l.prog base true e2 (λ_ _ F=>BM F T) λ_ _ _ _ _ _=>u2 λ_ _=>rfl;have Z5:=gm (w:=w) l.prog base true kn (λ_ _ F=>CM F T) λ_ _ _ _ _ _=>u1 λ_=>rfl;have Y2:=gm (w:=w) l.prog base true hn (λ_ _ F=>NL F T) λ_ _ _ _ _ _=>u2 λ_ _=>rfl;have Zz:=gm (w:=w) l.prog base true gz (λ_ _ F=>NI F T Y2 Z5) λ_ _ _ _ _ _=>u2 λ_ _=>rfl;have ZH:=gm (w:=w) l.prog base true cD (λ_ _ F=>Lk F T Zz Z5) λ_ _ _ _ _ _=>u3 λ_ _ _=>rfl;have Yz:=gf (w:=w) l.prog base true X G hC (λ_ _ F=>IR F T Zu) λ_ _ _ _ _ _=>u2 λ_ _=>rfl;have Y1:GF l.prog w K mg base true 3 Wg WI (rX _):={_,_,GK O rfl Z T Zq Yz,Q3 X G eJ,a8,av};have Yy:=gf (w:=w) l.prog base true X G cv (λ_ _ F=>Oc F T ZK YS) λ_ _ _ _ _ _=>u2 λ_ _=>rfl;have YR:=gf (w:=w) l.prog base true X G gT (λ_ _ F=>J2 F T) λ_ _ _ _ _ _=>u2 λ_ _=>rfl;have Zf:GX l.prog w K mg base true 11 Wk WI (qA _):={_,_,GN J rfl S T Yy Z7,Q3 X G fF,bP,ai};have Ze:=gf (w:=w) l.prog base true X G kz (λ_ _ F=>KD F T ZU ZV Z6 ZY Zk) λ_ _ _ _ _ _=>u3 λ_ _ _=>rfl;have X6:=gx (w:=w) l.prog base true X G eW (λ_ _ F=>C4 F T Zf Y1 Z6 Z7 YR Ze) λ_ _ _ _ _ _=>u1 λ_=>rfl;have ZG:=gf (w:=w) l.prog base true X G dt (λ_ _ F=>CF F T ZX Z4 ZW) λ_ _ _ _ _ _=>u1 λ_=>rfl;have Zx:=gf (w:=w) l.prog base true X G hS (λ_ _ F=>KO F T ZU ZV Z6 Z7 ZA ZM ZG) λ_ _ _ _ _ _=>u1 λ_=>rfl;have YZ:=gf (w:=w) l.prog base true X G ei (λ_ _ F=>Kw F T Z8 YQ Zm Z4 ZF Y0 ZX ZW ZY Zk) λ_ _ _ _ _ _=>u3 λ_ _ _=>rfl;have YY:=gf (w:=w) l.prog base true X G gC (λ_ _ F=>IY F T Z8) λ_ _ _ _ _ _=>u2 λ_ _=>rfl;have YN:=gf (w:=w) l.prog base true X G dT (λ_ _ F=>C5 F T Z8 Zb YZ YO ZH YY Zx) λ_ _ _ _ _ _=>u3 λ_ _ _=>rfl;have YX:=gf (w:=w) l.prog base true X G hN (λ_ _ F=>Jc F T X6 Zx) λ_ _ _ _ _ _=>u1 λ_=>rfl;exact BG a4 T YH Z8 XN YN Zj ZK YX
theorem walk{l:OpenLaw}{W:List Str}{d:DefRec}{K:Params->Frag}(v4 v6:Addr){ts:List Addr}(hn:l.most=some 63)(S:d.params.defaults=[])(hY:∀(w:OW)(h:Heap),U w h->(K w.params).In h/\∀T∈ts,h.get? T=some (tabObj #[]))(O:∀T,T∈ts->T∈[v4,v6])(G:∀T,T∈[v4,v6]->T∈ts)(hnd:([v4,v6]:List Addr).Nodup)(F:∀(w:OW)(mg:Str->Option Value)(fa:Addr)(h:Heap),(K w.params).In h->h.Ns OH mg->mg d.name=some (.ref fa) ->
   ∃fd:OJ,(∀(s:Oq)(u:Value),BindsTo s fd {[u],[]} [("_law_script",u)])/\(∀T,T∈[v4,v6]->(K w.params).lookup T=none/\∃c,UL (K w.params) c T=true)/\∀base:Heap,(K w.params).In base->base.Ns OH mg->gN mg base->zq l.prog w (K w.params) mg base CX0 true 15 fa fd Wn (kA v4 v6 (K w.params))):
  WalkO q W Z U l.row.toRowW d [] (λf vs=>PySem.call f vs) :=
 L2.walk_ofT (n:=63) (k:=15) (x:="_law_script") (CX:=λ_=>CX0) (sp:=λw=>kA v4 v6 (K w.params)) (ts:=ts) hn 'd' S {λ_=>rfl,'d','d',rfl} hY (λw mg fa h a b c=>let ⟨fd,g1,g2,g3⟩:=F w mg fa h a b c;{fd,g1,λT J=>g2 T (O T J),g3}) (λ_ H a ns hl J hS=>{a,ns,rfl,hS,hl,J _ (G _ 'z'),J _ (G _ 'z'),(by intro z;rw [z] at hnd;exact absurd hnd 'z'),λ_=>rfl}) λ_ _ _ _ _ z=>z
end K41
def PySem.W.Fast.ah:Nat:=0
def PySem.W.Fast.VL:Nat:=0
def PySem.W.Fast.Vm:Nat:=0
def PySem.W.Fast.Vp:Nat:=0
def PySem.W.Fast.Vt:Nat:=0
def PySem.W.Fast.aK:Nat:=0
def PySem.W.Fast.ao:Nat:=0
def PySem.W.Fast.ai:Nat:=0
def PySem.W.Fast.Vo:Nat:=0
def PySem.W.Fast.ax:Nat:=0
def PySem.W.Fast.Vi:Nat:=0
def PySem.W.Fast.Vy:Nat:=0
def PySem.W.Fast.Vj:Nat:=0
def PySem.W.Fast.ar:Nat:=0
def PySem.W.Fast.Vu:Nat:=0
def PySem.W.Fast.aC:Nat:=0
def PySem.W.Fast.af:Nat:=0
def PySem.W.Fast.VP:Nat:=0
def PySem.W.Fast.VH:Nat:=0
def PySem.W.Fast.aF:Nat:=0
def PySem.W.Fast.VE:Nat:=0
def PySem.W.Fast.Vx:Nat:=0
def PySem.W.Fast.az:Nat:=0
def PySem.W.Fast.aH:Nat:=0
def PySem.W.Fast.VI:Nat:=0
def PySem.W.Fast.aq:Nat:=0
def PySem.W.Fast.VG:Nat:=0
def PySem.W.Fast.au:Nat:=0
def PySem.W.Fast.Vn:Nat:=0
def PySem.W.Fast.aI:Nat:=0
def PySem.W.Fast.VO:Nat:=0
def PySem.W.Fast.Vk:Nat:=0
def PySem.W.Fast.ae:Nat:=0
def PySem.W.Fast.VA:Nat:=0
def PySem.W.Fast.VC:Nat:=0
def PySem.W.Fast.VF:Nat:=0
def PySem.W.Fast.Vq:Nat:=0
def PySem.W.Fast.Vz:Nat:=0
def PySem.W.Fast.aa:Nat:=0
def PySem.W.Fast.VJ:Nat:=0
def PySem.W.Fast.aB:Nat:=0
def PySem.W.Fast.Vs:Nat:=0
def PySem.W.Fast.aA:Nat:=0
def PySem.W.Fast.VM:Nat:=0
def PySem.W.Fast.aT:Nat:=0
def PySem.W.Fast.aj:Nat:=0
def PySem.W.Fast.ay:Nat:=0
def PySem.W.Fast.Vw:Nat:=0
def PySem.W.Fast.aD:Nat:=0
def PySem.W.Fast.aw:Nat:=0
def PySem.W.Fast.Vv:Nat:=0
def PySem.W.Fast.av:Nat:=0
def PySem.W.Fast.Vr:Nat:=0
def PySem.W.Fast.VN:Nat:=0
def PySem.W.Fast.VB:Nat:=0
def PySem.W.Fast.Vl:Nat:=0
def PySem.W.Fast.aJ:Nat:=0
def PySem.W.Fast.aR:Nat:=0
structure PySem.W.Fast:Prop where(tw6346368000294167464 tw8356368585870615086 tw16399879316902361016 tw15530594958618087845 tw14392510163586625241 tw374661065687330486 tw5470176580343407479 tw6189468974743662696 tw15622983398597400989 tw3342398165621072435 tw18144825031291216616 tw11854117314575579799 tw17104161486448643580 tw4820118570178156133 tw14052997457898772942 tw2005743375547928391 tw6547583123948524563 tw7485710136298481346 tw9090484789078949476 tw1693857291144116355 tw9686067531588047883 tw12572137213343225620 tw2464154401491361163 tw1510896736961229517 tw8677771145322521544 tw4822280881148136019 tw9276590979675647720 tw4243421558121692680 tw16361242471632988526 tw1221684754712438353 tw7609524895196449880 tw16861263381115618810 tw7297886898972775611 tw10956824472793676301 tw10294418872407452202 tw9421159609030870297 tw14761206721117577033 tw11536244753755623365 tw7316562643514104092 tw8525619842432609469 tw2086587472229349618 tw14526179448127570984 tw2245765137939609126 tw7937789642482755286 tw93559559736574317 tw6084948784971403754 tw2676693859596947917 tw13001061749690012601 tw1921526425562766652 tw3891241803473975273 tw13250402490731011318 tw3902221225906187031 tw14576999263836008836 tw7647279867551352605 tw10647572757814953240 tw16530746544492738325 tw97669992990794722 tw680335854788908152 tw16575663496747652130 tw4411811707334378132 tw18238091515996753216 tw17233701827180172882 tw7542114595741969167 tw14224289338931086354 tw454184039279542550 tw13682241342446823597 tw13173728388821807922 tw17769723039851511153 tw3312154519583052942 tw12821193026674347410 tw10035940434838605281 tw16566049287678533323 tw7554583443796143758 tw1669363441391068582 tw12317875378412609399 tw2703091684636639808 tw17865555337766318807 tw8666998042358866693 tw2076553541266273256 tw15746127618881015401 tw11182167354202893406 tw8905481501016680367 tw7251943558681774831 tw2939968714044049035 tw5264004241264129855 tw473431043279121425 tw6689437524690188111 tw15654888712915038706 tw8630967762109324086 tw11651102439311681528 tw3410367709695582876 tw6357856692198922648 tw11978090129667083799 tw11369560300934301122 tw13458311881674228388 tw401370849245493648 tw18158661105733884190 tw17007090951272786273 tw15782415800657124387 tw7544848779587352466 tw14288287921617278569 tw3728232320556303742 tw11813585809340819354 tw7185632703510210992 tw17374712407848061741 tw15183003939290635857 tw11458353379896934751 tw12716919836789533406 tw14171890089244395446 tw15664718561260460202 tw18054199987389975206 tw16970826327408262499 tw12814303814153865263 tw1147474096387741816 tw7451615406672380193 tw2532193557874638091 tw3962233750282334967 tw7040864327664952481 tw18327580522347743327 tw9917290401811264891 tw18042056183699262140 tw13640262547874011363 tw17079226301503702217 tw11117535780493730744 tw6854092837900820816 tw7795435008011469032 tw1626125889359759873 tw4803762958822706681 tw8838979684258131699 tw8787101893581635308 tw17346357565070493006 tw18075328897635630209 tw14717024878206368728 tw2807343449974434647 tw1106567515426535165 tw14404829461200773073 tw3137220241503137958 tw5194578298186723404 tw4840111646044455243 tw12368746231334860919 tw17748605142513160141 tw13261548610879146191 tw5522006245813928581 tw7642375741515451278 tw8672717324771653382 tw8663862238075800141 tw17490377850861622433 tw14440642764155561260 tw18278259656008352575 tw8244239956371330424 tw557005547226054910 tw9423163972861961510 tw4961158048010736698 tw11985738675812762779 tw5373800207520300155 tw925552123958977913 tw5258710646335296316 tw11930352715805284792 tw11532513648064249641 tw6463920250448782227 tw14805837710311292078 tw11477801540319367955 tw5296018715600049481 tw5733245251469557453 tw4420056186054821181 tw16125067055249638658 tw1233142573212064809 tw530900617090020810 tw6651429368913034761 tw8902777767177134604 tw9790275840130810284 tw9033347498337907606 tw17765541398053193501 tw5047864456212875099 tw2219604958467230042 tw12741218232824181929 tw13702068177217898472 tw5344894054200693362 tw3257131778416513759 tw15102197016578875824 tw4644520935021582518 tw11631154203050458731 tw1818359140780744239 tw6796374947970545926 tw5650322265353350981 tw6644312001262827608 tw16634564635455975566 tw9875821740906160539 tw14457333482006421193 tw9486893385498125097 tw10408744534141478647 tw12505324248918000536 tw13037812051102360147 tw8834727834324183096 tw3636792236360875966 tw328268628364380554 tw11406549688797802442 tw7869413601508717981 tw6047689831064917581 tw4952643094073572098 tw15547613993735331542 tw8637207214370954024 tw4683694871564841803 tw301344516279748011 tw1362653126145564464 tw1110378274119140137 tw11926397860885038527 tw8973827454330265345 tw6711730737374247373 tw17234165727655725553 tw7507637380831376068 tw10439800199062085453 tw8496748977227820941 tw14964473965128697323 tw5612849149000607486 tw6141770182138805479 tw6537585142099159666 tw3645708108428964389 tw4360442334338501168 tw4104502841420455742 tw18351521386512552926 tw8305152276206613642 tw4952746521207951831 tw16458044336744809940 tw1811542173209689219 tw17037584930134046359 tw6528745744656329789 tw4826295535062924927 tw16736462106177770209 tw12047590820163210275 tw14931403755007571990 tw5379150635054201261 tw4031125032676141668 tw16807342726379393443 tw1455783227457623372 tw8670503650203124605 tw16602323589418273360 tw5900328803502370309 tw18330099086671623821 tw15166410314149182539 tw15673906909533954885 tw15523878022600859909 tw2005805680289206272 tw12938105816405252375 tw4288657147278964363 tw1630738925571202285 tw11480220393449508507 tw15158541295248147375 tw13728885485765767512 tw1526566759888196615 tw11500099215331762253 tw3159241657212071650 tw2631977139636922155 tw8594542384333312717 tw12387885833177651374 tw11508103280226046966 tw13900800218074870589 tw6395323333704534177 tw9957150699856055300 tw5315140749590766501 tw4688358060596190308 tw18168079400005469787 tw12493996719713006301 tw16906894549660219389 tw302900567836996118 tw17460673820750912519 tw3596935688776184971 tw7460183437808678093 tw2269571101710234539 tw18174820947056937557 tw15166453272063848863 tw912460127174732727 tw6619409583333385001 tw7858153975768309611 tw4813840028671119268 tw12715787879214865524 tw17927938280025909741 tw12742172093137357534 tw10367298758772366414 tw9611105980256449949 tw10391106370147180973 tw871240834310159697 tw1968618401277096911 tw12079575811966640183 tw8151186718434124949 tw3790345788420495445 tw337886729266596211 tw15306255910824984680 tw12801337999341822402 tw11404413219731034502 tw5602826943303212264 tw2975193132836190549 tw12857376762634049425 tw3127598157339538147 tw12519759195838381811 tw8637207227800166507 tw8432459022681298448 tw2061322432487457123 tw1974104599020682261 tw16483751350147245409 tw16135137993916400769 tw15126432867382853733 tw16407099391357966329 tw11834194923470751118 tw6985581406928874278 tw2964362863073340948 tw17382544814266706830 tw13014384795254767824 tw11426492903324187347 tw10798714031144625352 tw621706682610883274 tw11592836715236071181 tw9362991652203520211 tw4864207033155779144 tw4913853542960895722 tw2689426790002304506 tw17559227290778695782 tw12208665863114270212 tw18413887287875700204 tw12370480704195089562 tw4976569407589012999 tw4565425753472365271 tw17923994486219923880 tw13448908218432445036 tw12168837425139810051 tw15861027326416589199 tw8562311022892053958 tw842649912976278029 tw8318580900954217368 tw10358479968377065171 tw16026457599055017281 tw2941219704978857996 tw974242812022589429 tw17618057527585371925 tw18343297124006581141 tw388934396777933457 tw18287295401681589912 tw8391863044706344870 tw13283913203747425437 tw12402431158284943969 tw6437173451045327347 tw6401020822010654433 tw9383922120559787554 tw12974958481189111800 tw10081670239745494288 tw810482666016534757 tw2322569993361408845 tw11750203554398724457 tw8601565608375435684 tw6813644680608963525 tw4170226979412343879 tw3084798975333400249 tw5601390043490730628 tw14437102059372022367 tw10472619510345231769 tw3820895907141471194 tw11593160536182862899 tw3997607113045636971 tw170447614586369091 tw1605513368384034649 tw12305526331970031668 tw4417858175068665167 tw17262985394187785242 tw1653807446172006707 tw14100556440522040266 tw8988315065816700376 tw18299917759663636517 tw887454878959146020 tw7892428128457647558 tw248026192271840136 tw15472990039661871126 tw13947600501972587107 tw1312188252330763697 tw11301886677088715662 tw34460164411067213 tw13118020060085169170 tw9791897843902863953 tw7858600912174357098 tw6159257421753675562 tw518132262780224454 tw4690211505956671550 tw3615909086420945237 tw14816695630376189488 tw4240136104811138241 tw17242439949256562384 tw278994963863973640 tw2551508714164199801 tw15705065987884512649 tw9262982564015091019 tw3975056819169136783 tw3702118133960923064 tw2083802846697904016 tw15558486254293867095 tw15079646595474654142 tw13817229179617822821 tw14261829667705070738 tw5224711040307564491 tw2438564332303736819 tw7183162797151814357 tw14327083759030411230 tw2611077271447238406 tw12393643784938707133 tw10037629607174285157 tw15728549039856533158 tw14050148253883279139 tw9972612610921380099 tw5843623188684989245 tw12105778774164904688 tw8497265841722767763 tw15312853277881068919 tw7476938522928705160 tw15113923989433814059 tw17016871213247985052 tw7563590637768077946 tw14292011977936494156 tw7893687197804390301 tw15463906031361895508 tw18420344000067872674 tw1293933826781972650 tw6735173369172471384 tw16384003894508049720 tw13946607951369952338 tw10290864599619401977 tw17334084050870039484 tw522912458818753534 tw313518116241114436 tw1192447982530475979 tw2434090301156667622 tw18030233255945506238 tw15155921118610802101 tw8725703871111363399 tw5757184551952294723 tw10050653647518471905 tw2631164219196143500 tw2064499402161424101 tw5539968550007234109 tw12634580163085994207 tw6220499450864835549 tw12350931224660209066 tw9886546683004409517 tw9853627782679308269 tw2470606679947018552 tw4800845113912087816 tw12662533437621435108 tw10400799881780576858 tw9053892670014237586 tw7787375739750807669 tw6494815986861663189 tw11281963945772379004 tw9742509741191587988 tw11936124700913469313 tw8962757065697393463 tw9692574361562804026 tw18349080119860082213 tw16798193884013020310 tw10378008768414092510 tw5931803500495448239 tw13227642657375738834 tw18295032672740587167 tw10333471030526496255 tw9230807882260243103 tw6623288729861495585 tw6958039890072088432 tw10792183640701455141 tw6223020522485441149 tw4360400832164324184 tw14487956648114684501 tw4565525660954830842 tw2902472573658791186 tw5611304256147733366 tw10794506548032244634 tw17184415026547001915 tw2548825050077762581 tw13779266053482514181 tw4624351994889506932 tw13452035032079841403 tw1599753073033187208 tw6880864880929779071 tw15631364737148684546 tw12890755881122618252 tw13544997602659452147 tw16706275246405056990 tw4476667814066447362 tw12805504149426303299 tw8017946937063740112 tw6610991863253379250 tw15244862192858304470 tw8447083968730565819 tw8681213186947134093 tw11135480614822767098 tw8327404147358120838 tw6742781718947038558 tw1863918362641325418 tw17917785518279815868 tw14667104287998801453 tw1054710143588785944 tw2240260370642530964 tw17541913520088920570 tw1558020030170551452 tw9753382149157565595 tw4384223969098068020 tw14818070603173434257 tw12219229016742052802 tw10591346698746934387 tw7647034800434013544 tw2505473482110152320 tw7804845485312385449 tw6416503944195706613 tw3510214763136543282 tw16065098479014427433 tw13324665533637466683 tw1014619333491950794 tw10591065256106205164 tw15832579343806279208 tw7580656064558821263 tw14703911096133230138 tw14352730396954418100 tw9521414319386985392 tw6949160792059567444 tw15404973802408176269 tw13447425226048951648 tw7158801107932591589 tw1756463176083785352 tw6595958158169310100 tw5967659745705398530 tw5635765422301677247 tw2293676254756221462 tw10326458915271703850 tw9316845862402805472 tw7930003053477067146 tw5483902345313673684 tw17397519950843546788 tw17175716168207707835 tw15171513669196724404 tw13923794561403422085 tw11485835379866437505 tw10840184773917700475 tw10638373280378758070 tw7509619504089763048 tw14160617142459524262 tw7657715563453003983 tw4475905733136695015 tw3219487003958105295 tw15365717709024121185 tw11112840854462159201 tw10052575436563395428 tw795937711065888270 tw3361569659531835827 tw16493399599368573952 tw15914677450597383388 tw14775868433049024633 tw13916234312116440909 tw7039018048058735908 tw6251371990094700980 tw5786178177281848394 tw4763331260606990358 tw2948900730569727715 tw2196419091066271455 tw18120503146707030541 tw1778822443419038731 tw1584592650511244207 tw13649396818060113939 tw11922035930470446140 tw4079883907370307060 tw11513639250753839778 tw653935439484337182 tw2013219496227449114 tw14435676325871039020 tw14094731879498070556 tw18161275903885827270 tw13588841940175727415 tw2261203006701087470 tw3429890119289261261 tw14849631694505597368 tw5152068230496809410 tw6524277878531999268 tw9330691567549466760 tw4195528571706113027 tw9906047523715392956 tw7523387124453901280 tw4997012824391084882 tw4351966293129131430 tw4212768539616615727 tw2758427840176430253 tw1875613676233645620 tw18403947644821810942 tw17641732812554524447 tw16690632522232529591 tw16620011439567100542 tw15896676351858219516 tw14588733836829877723 tw13229725747984056511 tw13196823224259435890 tw11748413020185013970 tw11517837340054004483 tw11235718747722033281 tw10902258807167224775 tw10375133053327430762 tw10140488404074589316 tw7692014192039919207 tw3786903364508226127 tw17583787814165266230 tw347879064584436364 tw9616159817897927794 tw9490877791363970363 tw7453392133539825802 tw7141430034970106853 tw58200805751855562 tw568717942882711048 tw5613210058542309287 tw4015156820479071652 tw3127295377877582037 tw2527828655451001268 tw16536842668107972091 tw1637260003175491757 tw14572996193904219730 tw13898519669000992839 tw13869211290816483556 tw13826041138014819890 tw12739154350373415194 tw18331366203445830190 tw9920530931058091867 tw9661271815222997073 tw8795647396030475568 tw7678055574131778196 tw719414301346584909 tw439289370701064840 tw3961058518839102870 tw3281923548402825864 tw2982168250058412951 tw2613708921153286646 tw17931730895785991287 tw16860303820647717458 tw14407412154748635140 tw1169458722638657921 tw10044942800362647597 tw9363509381851244088 tw7891255015530050125 tw9279868610003135801 tw8976433613821028096 tw7937230254013758203 tw7020053320055285829 tw3910278419381982645 tw2547314264624191114 tw17669471879694552869 tw15756731245084749144 tw10835471847968557889 tw9556770019067567870 tw9368687044635587836 tw8757032833860070503 tw7592198762424438735 tw7072744571280910684 tw6232345911667296336 tw6108159813002737864 tw5507607351323040767 tw5198178919393422587 tw4315387205513263583 tw2441637595493895989 tw14731935315579720189 tw14059903753093728630 tw13040126237406231066 tw10405100144515301099 tw9925978194237164264 tw9850055341388932597 tw9850045047043859376 tw9799562249663099334 tw9637320165442221368 tw9574858620743347625 tw9495747451385363531 tw9420629801074956990 tw9403081324447437375 tw9397707141420723026 tw9381494652849920813 tw9349319714238705837 tw9320838668899846695 tw9259786289327192313 tw9225383890514407336 tw9080381707044232480 tw8947552565106323067 tw880495886755667819 tw8783425292100958673 tw8758046611602789122 tw8747931960534177684 tw8597108137156164620 tw856359724977063221 tw8549093764244476171 tw8490678403666756056 tw8445385930531180578 tw8421812780799080588 tw8345957172258898694 tw8254600540237645771 tw8229530574574369913 tw8088814387784722858 tw7923261512982763153 tw7827047534223447693 tw7761099645023041343 tw7515494276930408623 tw7455624513395359051 tw7363224290735845408 tw7307113193395262:True)
open PySem PySem.W PyProof.Rows
set_option maxRecDepth 100000 in
set_option maxHeartbeats 0 in
theorem PySem.Challenge.cw_cleanrows_k41_the_mark_that_is_taken_holds : PySem.Challenge.rw_cleanrows_k41_the_mark_that_is_taken.Holds := by
 w_on;o_law;k_head;(case hw=>w_witness2)
 k_fill
 refine K41.walk 322 569 (l:=PySem.Challenge.rw_cleanrows_k41_the_mark_that_is_taken) rfl rfl (λw h Y=>{PySem.W.km_in_of Y,PySem.W.km_tabs_of Y}) 'd' 'd' 'd' ?F
 case F =>
  intro w mg fa h KX G hmg
  refine' K41.all_mk KX G hmg ..
  all_goals try refine' {_,_,?_,{{_,_,_,_,_,_,_,_,_,rfl,?_,?_},?_}}
  all_goals try refine' {_,_,?_,?_,{{_,_,_,_,_,_,_,_,_,rfl,?_,?_},?_}}
  all_goals first|k_is|kit_is|k_exc|rfl|decide +kernel|skip
