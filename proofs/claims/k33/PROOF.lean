import PyProof.Rows.All
import Wide.All
import OpenK.AllK
import Wide.FinOn
import Lean
import PyProof.EqAt
import PyProof.EqKinds
import PyProof.TupleCall
import KE.KUnpack
import PyProof.NeKinds
import PyProof.EnumFor
import PyProof.EnumStmt
import PyProof.EnumMake
import PyProof.Draws
import PyProof.StrWalks
import PyProof.Rows.FStr
import PyProof.Rows.CallKw2
import PyProof.StrBlockL
import KE.KIntText
import PyProof.ConsumeWalk
import PyProof.StrBlockG
import PyProof.CallStr
import PyProof.Rows.Range3
import PyProof.MeetsDict
import PyProof.DictList
import PyProof.StrLawsChain
import PyProof.StrLawsNeg
import KE.IntTextLaws
import KE.IntTextText
import PyProof.CallFns
import PyProof.CompUse
import PyProof.DictWalks
import KE.KDictSum
import PyProof.FString5
import KE.KLam
import KE.KSortKey
import KE.KNestM
import PyProof.Rows.RuleN_abs
import PyProof.WalkInts
import KE.KMinKey
import KE.KSortTup
import PyProof.DictCompW
import PyProof.SetRoads
import PyProof.SetNew
import KE.KEqDict
import PyProof.ListRange
import KE.KRevSl
import KE.LcSums
import KE.KDictOf
import PyProof.AttrMissSeq
import PyProof.AutoListH
import PySem.Challenge.RW_cleanrows_k33_marks_refused
open PySem renaming wpAny_bind->we,Shared->KE,wpAny_pure->NN,Program->NW,wpAny->N2,mainGlobals->N3,FuncData->N4,model->N5,Builtin->N9,World->Oc,Around->Of,Expr->Og,SetTable->Oj,starEach->Om,wpAny_holding->On,wpAny_mono->Ow,boot_len->OA,foldedSetIterable->OK,wpAny_newObj_type->OQ,compareOp->OV,wpAny_standAt->OX,wpAny_setField->O5,wpAny_field->O6,NameKind->O8,eval->Pa,Spec->Pe,sizeLine_eq->Ph,rawInt->Pj,wpAny_call_entry->Pk,attributeBase->Pm,intKind->Pn,mem_of_lookup->Po,assignEach->Pq,wpAny_truthy_bool->PH,intText?->PL,PassesOwn->PN,binaryOp->PQ,wpAny_Call_Name_kw->PR,cellsFrom->PU,backTo->P0,wpAny_setState_of->Qa,codeAny->Qb,letOwnedTupleGo->Qc,wpAny_Call_method_late->Qe,codeAny_mono->Qf,plainId_quiet->Qh,standAt->Qm,codeAny_builtin->Qs,holding->Qu,bootBuiltins->Qw,wpAny_callSpecial?_slot->QA,wpAny_askSetting->QC,pushCells->QF,sliceBounds->QJ,wpAny_rule->QK,tupleKind_room_in1->QL,call_meets->QM,pushCells_keeps->QR,strIterType->Q0,setField->Q1,keywordEach->Q6,wpAny_updateSeq->Rh,wpAny_passesOwn->Ri,wpAny_execs_nil->Rj,pickOrder->Rp,wpAny_typeOf->Rw,wpAny_pyIter_list->Rx,wpAny_loadPart_at->Ry,wpAny_dictEntries->Rz,pyNext->RB,call_meetsIn->RI,wpAny_isInstance->RN,typeIs_str->RO,noteFrame->RR,getMethod->RT,checkBuiltinCall->RV,valueAt->RX,behindInMarks->RY,raiseNew->R0,codeAny_call_builtin->Sb,callWith->Sd,wpAny_ite_split->Sf,wpAny_isSubtype_exc->Sk,wpAny_seqItems->Sn,firstArgMember->Sr,backToKw->Ss,IsPart->Sy,wpAny_throw->SD,wpAny_pyIter_strU->SE,wpAny_pyIter_enum->SF,wpAny_Call_ofName->SG,wpAny_Call_method->SH,slot_list_getitem->SI,assign->SQ,argsOk->SR,Comprehension->SV,tupleKind->SY,compTurn->S5,isTrue->Tb,getItem->Tf,Result->Tn,Within->To
open List renaming getElem?_eq_getElem->NL,length_map->NO,mem_cons_of_mem->NR,mem_cons->NT,getElem?_eq_some_iff->NU,mem_cons_self->NX,mem_append_right->NY,size_toArray->Oa,take_of_length_le->Ob,getElem?_map->Oe,not_mem_nil->Oh,mem_append_left->Oo,getD_eq_getElem?_getD->Oq,all_eq_true->Ot,length_append->Ov,mem_append->Ox,mem_map->OE,length_eq_zero_iff->OH,map_append->OI,length_cons->OJ,length_take->ON,mem_singleton->OO,append_assoc->OR,mem_of_getElem?->OS,take_add_one->OU,range->O0,length_singleton->O2,getElem_mem->O4,replicate->Pc,map_congr_left->Pd,pairwise_cons->Pf,map_cons->Pi,lookup->Pp,append_nil->Pr,contains_iff_mem->Pz,foldl_append->PD,map_map->PK,perm_ext_iff_of_nodup->PM,mem_of_mem_take->PP,getElem_of_mem->PX,cons_append->PZ,length_drop->Qi,replicate_succ->Qk,getElem?_eq_none_iff->Qq,drop_eq_getElem_cons->Qr,filter_cons->Qv,take_append_drop->QD,flatMap_append->QG,filter_cons_of_pos->QH,filter_cons_of_neg->QI,drop_of_length_le->QN,drop_eq_nil_of_le->QO,getElem?_eq_none->QW,nil_append->Q3,lookup_cons->Q4,length_nil->Q5,filterMap_cons->Q7,length_take_le'->Q9,length_eraseIdx_of_lt->Ra,getElem?_append_right->Rb,length_range->Re,length_filter_le->Rf,mem_of_mem_drop->Rk,dropLast_concat->Rm,nodup_cons->Rn,mem_filterMap->Ro,getElem?_cons_succ->Rv,length_pos_iff->RE,flatten_cons->RH,getElem?_set_self->RJ,eraseIdx_eq_take_drop_succ->RK,getElem?_toArray->RM,mem_range->RS,find?_cons->RU,exists_cons_of_length_pos->RW,getElem?_set_ne->Se,mem_filter->Sq,mem_flatMap->SJ,length->SN,take_zero->SZ,range'_succ->Ta,foldl_cons->Tg,count_append->Ti,all_append->Tj,of_mem_zip->Tp,forIn_cons->Tq,map_take->Ts,any_cons->Tu,all_cons->Tv
open PySem.Heap renaming get?_push_of_some->NP,get?_push_size->N7,lt_size->Os,get?_update_other->Oz,get?_update_self->OW,SameBut->PF,size_push->QE
open PySem.W renaming Frag->NQ,mg_none_of->Pw,kia_one->Py,findIn->PC,nsIn->Qo,mg_of->Qp,mroIn->Rg,kia_tup->RF,of_hideAll->RQ,keepIn->SO,plainGet->S0,hasDictIn->S4,instObj->Tc,hideAll->Td
open PySem.Str renaming ofString->NS,length_append->Pg,empty->Sm
open Nat renaming le_refl->NV,lt_of_lt_of_le->Oi,le_trans->Ol,lt_of_succ_lt->Oy,lt_of_le_of_lt->OB,lt_irrefl->OF,ne_of_lt->OM,zero_le->O9,le_succ_of_le->PV,lt_trans->Qy,lt_succ_of_lt->QU,lt_succ_self->RD,sub_self->RZ,ne_of_gt->R8,le_of_lt->Sa,min_eq_left->Sj,succ_le_succ->Sl,eq_zero_or_pos->Sw,add_sub_cancel->Sx,le_succ->SK,le_of_eq->S3,toDigits->Tr
open Or renaming inl->NZ,inr->Si
open PySem.Value renaming ref->N6,none->OL,bool->Qz,int->QV,str->Ru,isInt->SL
open Bool renaming false_ne_true->N8,and_eq_true->Od,eq_false_iff->Pu,eq_iff_iff->Qd,false_eq_true->Qj,not_eq_true'->RC,false_and->Sz,true_and->SW,or_false->SX,and_false->Tw
open Option renaming map_eq_some_iff->Ou,some->OG,isSome_iff_exists->RG,bind_some->S9
open Classical renaming byContradiction->OP
open PySem.Txt renaming slice->OT,split->Pb,join->Ql,rfind->QT
open Ne renaming symm->OY
open Array renaming getElem?_setIfInBounds_self_of_lt->OZ,getElem?_eq_getElem->O1,getElem?_toList->O3,length_toList->Pl,getElem?_eq_some_iff->Px,getD_eq_getD_getElem?->Qn,toArray_toList->RA,getElem?_setIfInBounds_ne->RL
open PyProof.Rows renaming slot_tuple_getitem->O7,boot_isinstance->Qt,strKind->Qx,IntsAre->QP,boot_str->QS,callWith_type1->QX,AllBare->QZ,envOfC->Q8,boot_sorted->Rq
open PySem.Obj renaming isFreed_of_fields->Pt,data_mapFields->PY,cls_mapFields->QY,mapFields->Rc,mapSeq->Tt
open Int renaming toNat_natCast->Qg,lt_of_le_of_lt->QQ
open PySem.F renaming slot_dict_values->RP,plainAttrs_list->Sg,plainAttrs_dict->Sh,slot_str_split->So,excBase_ValueError->Su,args_dict_values_1->Sv,slot_dict_delitem->SA,plain_extend_loop->SB,entry_dict_values->SC,type_dict_values->SS,slot_list_insert->SU,plain_list_iadd->S6,attr_ValueError->S7,args_dict_get_3->S8
open PySem.W (methodObj hideAll_get lookIn handedIn plainGet_of isFn plainOver takerIn makesIn emptyDict kitx_int kitx_str kitx_list kitx_dict kitx_own callWith_K methodCall_KW callWith_K0 fnOf codeIn excIn clsIn kitAny)
open List (length_set foldl map_nil take drop_zero any_map range' Perm map_drop map_id map_set)
open PySem.Heap (Ns UpToSlots ExtBut)
open Nat (not_lt)
open Array (getD)
open Option (getD_none isSome_some isSome_map)
open PySem.Value (float type builtin)
open PyProof.Rows (KeyOrd)
open PySem.F (slot_tuple_add entry_tuple_add args_tuple_add_2 entry_str_split args_str_split_2 slot_dict_get)
set_option bootstrap.genMatcherCode false
set_option compiler.extract_closed false
local macro_rules | `(f!$_)=>`(by decide +kernel)
local macro_rules | `({$x:term})=>`(⟨$x⟩) | `({$x:term,$xs:term,*})=>`(⟨$x,$xs,*⟩)
local macro_rules | `($c:char)=>match c.getChar with | 'l'=>`(by lia) | 'd'=>`(by decide) | 'z'=>`(by simp) | _=>Lean.Macro.throwUnsupported
set_option Elab.async false
set_option linter.all false
set_option autoImplicit true
set_option maxRecDepth 100000
namespace L2
open PySem PySem.Spec PyProof.Rows
abbrev Wo:PySem.Str:="_law_draw"
abbrev Wn:PySem.Str:="__init__"
abbrev Wm:PySem.Str:="_law_drawn"
abbrev Wl:PySem.Str:="files"
abbrev Wk:PySem.Str:="mark_number"
abbrev Wj:PySem.Str:="next_number"
abbrev Wi:PySem.Str:="take_later_name"
abbrev Wh:PySem.Str:="refuse_if_not_held"
abbrev Wg:PySem.Str:="birth"
abbrev Wf:PySem.Str:="take_number"
abbrev We:PySem.Str:="_law_read_files"
abbrev Wc:PySem.Str:="_law_taken"
abbrev Wb:PySem.Str:="refuse_if_none"
abbrev Wa:PySem.Str:="_law_number"
abbrev V9:PySem.Str:="_law_words_spoilt"
abbrev V8:PySem.Str:="_law_refused"
abbrev V7:PySem.Str:="_law_read_right"
abbrev V6:PySem.Str:="is_within"
abbrev V5:PySem.Str:="take_word"
abbrev V4:PySem.Str:="read_mark"
abbrev V3:PySem.Str:="_law_living"
abbrev V2:PySem.Str:="is_number_text"
abbrev V1:PySem.Str:="_law_read_held"
abbrev V0:PySem.Str:="spots"
abbrev VZ:PySem.Str:="is_made_of"
abbrev VY:PySem.Str:="take_spots"
abbrev VX:PySem.Str:="_law_one_sign"
abbrev VW:PySem.Str:="take_files"
abbrev VV:PySem.Str:="_law_is_whole"
abbrev VU:PySem.Str:="take_table"
abbrev VT:PySem.Str:="_law_resummed"
abbrev VS:PySem.Str:="Words.take_number"
abbrev VR:PySem.Str:="_law_name"
abbrev VQ:PySem.Str:="is_at_end"
abbrev VP:PySem.Str:="table_words"
abbrev VO:PySem.Str:="_law_spoilt"
abbrev Zj:List PySem.Str:=["self"]
abbrev Yw:List PySem.Str:=["_law_pot_here","_law_many"]
abbrev Yt:List PySem.Str:=["self","files","spots","next_number","mark_number"]
abbrev Ys:List PySem.Str:=["_law_pot_here","_law_some"]
abbrev Yp:List PySem.Str:=["_law_pot_here","_law_files_here","_law_plain"]
abbrev Ym:List PySem.Str:=["_law_pot_here","_law_text"]
abbrev X1:List PySem.Str:=["self","name"]
abbrev XS:List PySem.Str:=["_law_words"]
abbrev XR:List PySem.Str:=["_law_script","_law_k","_law_pot_here","_law_files_here","_law_plain","_law_kept","_law_spots_here","_law_numbers","_law_text","_law_turn","_law_some"]
abbrev XQ:List PySem.Str:=["self","file"]
abbrev XO:List PySem.Str:=["_law_script","_law_k"]
abbrev XM:List PySem.Str:=["_law_pot_here","_law_spots_here"]
abbrev Xt:List PySem.Str:=["_law_pot_here","_law_files_here","_law_plain","_law_kept"]
abbrev Xr:List PySem.Str:=["value","least","most"]
abbrev Xm:List PySem.Str:=["_law_text"]
abbrev Xc:List PySem.Str:=["text","signs","most"]
abbrev Xa:List PySem.Str:=["words","mark_number","next_number","files","spots"]
abbrev WQ:List PySem.Str:=["text"]
abbrev WO:List PySem.Str:=["_law_word"]
abbrev WN:List PySem.Str:=["_law_pot_here"]
abbrev WM:List PySem.Str:=["_law_words","_law_found","_law_last","_law_many","_law_k","_law_name_here","_law_count"]
abbrev WK:List PySem.Str:=["_law_text","_law_spots_here","_law_numbers"]
abbrev WJ:List PySem.Str:=["_law_text","_law_body","_law_words","_law_plain","_law_kept","_law_many","_law_numbers"]
abbrev WI:List PySem.Str:=["self","file","place","birth"]
abbrev WH:List PySem.Str:=["self","name","files"]
abbrev WG:List PySem.Str:=["_law_pot_here","_law_plain","_law_kept"]
abbrev WE:List PySem.Str:=["words"]
abbrev WD:List PySem.Str:=["birth","stretch","place"]
abbrev WB:List PySem.Str:=["_law_plain","_law_kept"]
abbrev WA:List PySem.Str:=["_law_pot_here","_law_text","_law_words","_law_turn","_law_body"]
abbrev Wz:List PySem.Str:=["self","file","place"]
abbrev Wy:List PySem.Str:=["self","file","many"]
abbrev Wx:List PySem.Str:=["_law_pot_here","_law_words"]
abbrev Ww:List PySem.Str:=["state","spots","words","birth","stretch","place"]
abbrev Wv:List PySem.Str:=["files"]
abbrev Wu:List PySem.Str:=["words","files","name","number","many","place"]
abbrev Wt:List PySem.Str:=["words","spots","number","birth","stretch"]
abbrev Ws:List PySem.Str:=["words","name"]
abbrev Wr:List PySem.Str:=["self","word"]
abbrev Wq:List PySem.Str:=["self","text"]
abbrev Wp:List PySem.Str:=["_law_script"]
structure W(p:Prop):Prop where
 h:p
abbrev Key:=Sum Int Str
def fL:Key->Value->Bool
 | .inl k,v=>SL k v
 | .inr x,v=>Value.isStrOf x v
def BC(w:Oc):Key->Int
 | .inl k=>hashInt k
 | .inr x=>hashStr w x
theorem dW:∀{k:Key}{v:Value},fL k v=true->(∃i t,k=Sum.inl i/\v=QV i t)\/(∃x t,k=Sum.inr x/\v=Ru x t)
 | .inl i,v,h=>by
  obtain ⟨t,e⟩:=Value.isInt_shape (k:=i) (v:=v) h;exact .inl {i,t,rfl,e}
 | .inr x,v,h=>by
  obtain ⟨t,e⟩:=Value.isStrOf_shape (x:=x) (v:=v) h;exact .inr {x,t,rfl,e}
theorem FK(i:Int)(t:Tok):fL (.inl i) (.int i t)=true:=by simp [fL,SL]
theorem MO(x:Str)(t:Tok):fL (.inr x) (.str x t)=true:=by simp [fL,Value.isStrOf]
theorem Cg(a b:Int):decide ((Sum.inl a:Key)=Sum.inl b)=(a==b):=by
 by_cases e:a=b
 .subst e;simp
 .have h : ¬ (Sum.inl a:Key)=Sum.inl b:=λq=>e (Sum.inl.inj q);rw [decide_eq_false h];exact (beq_eq_false_iff_ne.mpr e).symm
theorem JY(a b:Str):decide ((Sum.inr a:Key)=Sum.inr b)=decide (a=b):=by
 by_cases e:a=b
 .subst e;simp
 .have h : ¬ (Sum.inr a:Key)=Sum.inr b:=λq=>e (Sum.inr.inj q);rw [decide_eq_false h,decide_eq_false e]
theorem IC(a:Int)(b:Str):decide ((Sum.inl a:Key)=Sum.inr b)=false:=decide_eq_false (λq=>nomatch q)
theorem BQ(a:Str)(b:Int):decide ((Sum.inr a:Key)=Sum.inl b)=false:=decide_eq_false (λq=>nomatch q)
def aE(prog:NW)(w:Oc):PySem.KeyKind prog w Key where
 is:=fL
 hash:=BC w
 inj:=λv a b ha hb=>by
  rcases dW ha with ⟨i,t,rfl,rfl⟩|⟨x,t,rfl,rfl⟩
  .rcases dW hb with ⟨j,u,rfl,e⟩|⟨y,u,rfl,e⟩
   .injection e with e1 _;rw [e1]
   .exact nomatch e
  .rcases dW hb with ⟨j,u,rfl,e⟩|⟨y,u,rfl,e⟩
   .exact nomatch e
   .injection e with e1 _;rw [e1]
 byValue:=λk v h=>by
  rcases dW h with ⟨i,t,rfl,rfl⟩|⟨x,t,rfl,rfl⟩<;>rfl
 pyHash:=λhv h=>by
  rcases dW hv with ⟨i,t,rfl,rfl⟩|⟨x,t,rfl,rfl⟩
  .exact wpAny_pyHash_int h
  .exact wpAny_pyHash_str h
 eqBool:=λz hv h=>by
  rcases dW z with ⟨i,t,rfl,rfl⟩|⟨x,t,rfl,rfl⟩
  .rcases dW hv with ⟨j,u,rfl,rfl⟩|⟨y,u,rfl,rfl⟩
   .rw [Cg] at h;exact wpAny_eqBool_int h
   .rw [IC] at h;exact SeqAt.EqAt.int_str i t y u _ _ _ _ h
  .rcases dW hv with ⟨j,u,rfl,rfl⟩|⟨y,u,rfl,rfl⟩
   .rw [BQ] at h;exact SeqAt.EqAt.str_int x t j u _ _ _ _ h
   .rw [JY] at h;exact wpAny_eqBool_str h
 «strs»:=λk x t v h=>by
  rcases dW h with ⟨i,u,rfl,e⟩|⟨y,u,rfl,e⟩
  .exact nomatch e
  .injection e with e1 _
   subst e1;cases v<;>rfl
theorem L6(prog:NW)(w:Oc)(i:Int)(t:Tok):(aE prog w).is (.inl i) (.int i t)=true:=FK i t
theorem EL(prog:NW)(w:Oc)(x:Str)(t:Tok):(aE prog w).is (.inr x) (.str x t)=true:=MO x t
inductive V where
 | non|bl (b:Bool)|int (i:Int)|str (x:Str)|byt (b:Array UInt8)|flt (b:UInt64)|ref (a:Addr)|ty (n:String)
 deriving DecidableEq
def zm:V->Value->Prop
 | .non,u=>u=OL
 | .bl b,u=>u=Qz b
 | .int i,u=>∃t,u=QV i t
 | .str x,u=>∃t,u=Ru x t
 | .byt b,u=>∃t,u=Value.bytes b t
 | .flt b,u=>∃t,u=float b t
 | .ref a,u=>u=N6 a
 | .ty n,u=>u=type n
abbrev zq:List V->List Value->Prop:=Paired zm
theorem zq.length(r:zq xs us):xs.length=us.length:=Paired.length r
theorem zq.get:∀{xs:List V}{us:List Value}{i:Nat}{x:V},zq xs us->xs[i]?=some x->∃u,us[i]?=some u/\zm x u
 | _,_,_,_,.nil,e=>by simp at e
 | _,_,0,_,.cons r _,e=>by simp at e;subst e;exact {_,rfl,r}
 | _,_,i+1,x,.cons _ t,e=>by
  obtain ⟨u,h1,h2⟩:=zq.get (i:=i) (x:=x) t (by simpa using e);exact {u,by simpa using h1,h2}
theorem zq.set(r:zm x u):∀{xs:List V}{us:List Value}(i:Nat),zq xs us->zq (xs.set i x) (us.set i u)
 | _,_,_,.nil=>.nil
 | _,_,0,.cons _ t=>.cons r t
 | _,_,i+1,.cons q t=>.cons q (zq.set r i t)
theorem zq.append(h:zq xs us)(k:zq ys ws):zq (xs++ys) (us++ws):=by
 induction h with
 | nil=>exact k
 | cons r t z=>exact .cons r z
theorem zq.take:∀{xs:List V}{us:List Value}(n:Nat),zq xs us->zq (xs.take n) (us.take n)
 | _,_,0,_=>.nil
 | _,_,_+1,.nil=>.nil
 | _,_,n+1,.cons r t=>.cons r (zq.take n t)
theorem zq.drop:∀{xs:List V}{us:List Value}(n:Nat),zq xs us->zq (xs.drop n) (us.drop n)
 | _,_,0,r=>r
 | _,_,_+1,.nil=>.nil
 | _,_,n+1,.cons _ t=>zq.drop n t
theorem zq.none_of:∀{xs:List V}{us:List Value}{i:Nat},zq xs us->xs[i]?=none->us[i]?=none:=λ{xs us i} r e=>by
 have h1:=r.length;have h2:xs.length<=i:=Qq.mp e;exact Qq.mpr 'l'
def bF:Option V->Option Value->Prop
 | some v,some u=>zm v u
 | none,none=>True
 | _,_=>False
def KV{κ:Type}:List (κ×V)->List (κ×Value)->Prop:=Paired λ(p:κ×V)(q:κ×Value)=>p.1=q.1/\zm p.2 q.2
def kV:Key->V
 | .inl i=>.int i
 | .inr x=>.str x
inductive HO where
 | lst (xs:List V)
 | tup (xs:List V)
 | dK (kvs:List (Key×V))|dT (kvs:List (List Key×V))
 | set (S:Int->Bool) (n:Nat)
 | ins (C dx:Addr) (fs:List (Str×V))
 | own (x:Addr)
 | xd (fs:List (Str×V))
 | met (f x:Addr)
 | rng (lo hi:Int)
 | frz (o:Obj) (u:HO)
 | tbl (ps:Array Value)
 | ext (φ:Heap->Prop)
abbrev Hp:=Addr->Option HO
def upd(H:Hp)(a:Addr)(o:HO):Hp:=λb=>if b=a then some o else H b
theorem zt{a:Addr}{o:HO}:upd H a o a=some o:=by unfold upd;rw [if_pos rfl]
theorem zh{a b:Addr}{o:HO}(h:b≠a):upd H a o b=H b:=by unfold upd;rw [if_neg h]
theorem qG{a:Addr}{o u:HO}:upd (upd H a o) a u=upd H a u:=by
 funext b;unfold upd;split<;>rfl
theorem KJ{H:Hp}{a b:Addr}{o u:HO}(h:H a=some o)(h':H b=some u)(d:o≠u):a≠b:=by
 intro e;subst e;rw [h] at h';exact d (OG.inj h')
theorem zQ{H:Hp}{a b:Addr}{o:HO}(h:H a=some o)(h':H b=none):a≠b:=by
 intro e;subst e;rw [h] at h';cases h'
section
variable (P:NW) (w:Oc)
def z8(H:Hp)(h:Heap)(a:Addr):HO->Prop
 | .lst xs=>xs.length<=sizeLine/\∃(z:List Value)(n:Nat),zq xs z/\h.get? a=some { cls:=.type "list",data:=.seq z.toArray n }
 | .tup xs=>xs.length<=sizeLine/\∃z:List Value,zq xs z/\IsTup h a z.toArray
 | .dK kvs=>kvs.length<=sizeLine/\(a==sysModules)=false/\∃vs,KV kvs vs/\h.DictOf (aE P w) a vs
 | .dT kvs=>kvs.length<=sizeLine/\(a==sysModules)=false/\∃xs:List (List Key×Addr×Value),
   Paired (λ(p:List Key×V)(q:List Key×Addr×Value)=>p.1=q.1/\H q.2.1=some (.tup (p.1.map kV))/\zm p.2 q.2.2) kvs xs /\
   ∃o es ep,h.get? a=some o/\o.ExactDict/\o.data = .dict es ep/\es.toList=xs.map (entryOfKey (SY (aE P w)))/\(xs.map (·.1)).Nodup
 | .set S n=>h.SetOf (intKind P w) a S n
 | .ins C dx fs=>H dx=some (.own a)/\fs.length<=1000/\dx≠a/\h.get? a=some (Tc C dx) /\
   ∃mA,h.Ns1 dx mA/\(∀f,bF (fs.lookup f) (mA f))/\To mA (fs.map (·.1))
 | .own _=>∃o,h.get? a=some o
 | .xd fs=>∃mA,h.Ns1 a mA/\∀f,bF (fs.lookup f) (mA f)
 | .rng lo hi=>∃t u v,h.get? a=some { cls:=.type "range",data:=.fields #[.int lo t,.int hi u,.int 1 v] }
 | .frz o u=>h.get? a=some o/\z8 H h a u
 | .tbl ps=>h.get? a=some { cls:=.none,data:=.fields ps }
 | .met f x=>h.get? a=some (methodObj (.ref f) (.ref x))
 | .ext F=>F h/\(∃o,h.get? a=some o)/\∀h1 h2:Heap,F h1->(∀o,h1.get? a=some o->h2.get? a=some o)->F h2
def HOk(H:Hp)(h:Heap):Prop:=∀a o,H a=some o->z8 P w H h a o
end
section
variable {P:NW}{w:Oc}{H H':Hp}{h h':Heap}{a:Addr}{o:HO}
theorem z8.lt(x:z8 P w H h a o):a<h.objs.size:=by
 cases o with
 | lst xs=>obtain ⟨_,_,_,_,e⟩:=x;exact Os e
 | tup xs=>obtain ⟨_,_,_,p⟩:=x;exact p.lt
 | dK kvs=>obtain ⟨_,_,_,_,o,_,_,e,_⟩:=x;exact Os e
 | dT kvs=>obtain ⟨_,_,_,_,o,_,_,e,_⟩:=x;exact Os e
 | set S n=>obtain ⟨o,_,_,_,e,_⟩:=x;exact Os e
 | ins C dx fs=>obtain ⟨_,_,_,e,_⟩:=x;exact Os e
 | own y=>obtain ⟨_,e⟩:=x;exact Os e
 | xd fs=>obtain ⟨_,⟨_,_,_,e,_⟩,_⟩:=x;exact Os e
 | rng lo hi=>obtain ⟨_,_,_,e⟩:=x;exact Os e
 | frz ob u=>obtain ⟨e,_⟩:=x;exact Os e
 | tbl ps=>exact Os (show h.get? a=some _ from x)
 | met f y=>exact Os (show h.get? a=some _ from x)
 | ext z=>obtain ⟨_,⟨_,e⟩,_⟩:=x;exact Os e
theorem Paired.J7{α β:Type}{F G:α->β->Prop}{z:List α}{l₂:List β}(h:Paired F z l₂)(f:∀a b,F a b->G a b):Paired G z l₂:=by
 induction h with
 | nil=>exact .nil
 | cons r t J=>exact .cons (f _ _ r) J
theorem z8.Uc(x:z8 P w H h a o)(k:∀b u,(b=a\/H b=some (.own a))->h.get? b=some u->h'.get? b=some u)
  (ho:∀b,H b=some (.own a)->H' b=some (.own a)) (O:∀b xs,H b=some (.tup xs)->H' b=some (.tup xs)):z8 P w H' h' a o:=by
 induction o with
 | lst xs=>obtain ⟨z,G,n,r,e⟩:=x;exact {z,G,n,r,k _ _ (.inl rfl) e}
 | tup xs=>obtain ⟨z,G,r,ob,e,c⟩:=x;exact {z,G,r,ob,k _ _ (.inl rfl) e,c}
 | dK kvs=>obtain ⟨z,y,vs,r,ob,es,ep,e,c⟩:=x;exact {z,y,vs,r,ob,es,ep,k _ _ (.inl rfl) e,c}
 | dT kvs =>
  obtain ⟨z,y,xs,r,ob,es,ep,e,c⟩:=x;exact {z,y,xs,Paired.J7 r λp q z=>{z.1,O _ _ z.2.1,z.2.2},ob,es,ep,k _ _ (.inl rfl) e,c}
 | set S n=>obtain ⟨ob,es,ep,t,e,c⟩:=x;exact {ob,es,ep,t,k _ _ (.inl rfl) e,c}
 | ins C dx fs =>
  obtain ⟨d,z,ne,e,mA,⟨F,es,ep,U,c⟩,r⟩:=x;exact {ho _ d,z,ne,k _ _ (.inl rfl) e,mA,{F,es,ep,k _ _ (.inr d) U,c},r}
 | own y=>obtain ⟨ob,e⟩:=x;exact {ob,k _ _ (.inl rfl) e}
 | xd fs=>obtain ⟨mA,⟨F,es,ep,e,c⟩,r⟩:=x;exact {mA,{F,es,ep,k _ _ (.inl rfl) e,c},r}
 | rng lo hi=>obtain ⟨t,u,v,e⟩:=x;exact {t,u,v,k _ _ (.inl rfl) e}
 | frz ob u J=>obtain ⟨e,q⟩:=x;exact {k _ _ (.inl rfl) e,J q}
 | tbl ps =>
  have e:h.get? a=some { cls:=.none,data:=.fields ps }:=x;show h'.get? a=some { cls:=.none,data:=.fields ps };exact k a _ (.inl rfl) e
 | met f y =>
  have e:h.get? a=some (methodObj (.ref f) (.ref y)):=x;show h'.get? a=some (methodObj (.ref f) (.ref y));exact k a _ (.inl rfl) e
 | ext W=>obtain ⟨p,⟨o,e⟩,st⟩:=x;exact {st _ _ p λo q=>k _ _ (.inl rfl) q,{o,k _ _ (.inl rfl) e},st}
theorem HOk.lt(x:HOk P w H h)(e:H a=some o):a<h.objs.size:=(x a o e).lt
theorem HOk.fresh(x:HOk P w H h)(e:h.objs.size<=a):H a=none:=by
 cases q:H a with
 | none=>rfl
 | some u=>exact absurd (Oi (x.lt q) e) (OF _)
theorem HOk.kept(x:HOk P w H h)(k:∀b u,h.get? b=some u->h'.get? b=some u):HOk P w H h':=λa o e =>
 (x a o e).Uc (λb u _ q=>k b u q) (λ_ q=>q) λ_ _ q=>q
theorem HOk.laid(x:HOk P w H h)(k:∀b u,h.get? b=some u->h'.get? b=some u)(hp:h.objs.size<=a)(new:z8 P w (upd H a o) h' a o):HOk P w (upd H a o) h':=λb u e=>by
 have z:=x.fresh hp;by_cases hb:b=a
 .subst hb;rw [zt] at e;cases e;exact new
 .rw [zh hb] at e;exact (x b u e).Uc (λc v _ q=>k c v q) (λc q=>by rw [zh (zQ q z)];exact q) λc xs q=>by rw [zh (zQ q z)];exact q
end
def Rd(H:Hp)(a:Addr)(u:HO):Prop:=H a=some u\/∃o,H a=some (.frz o u)
theorem Rd.ok{a:Addr}(r:Rd H a u)(x:HOk P w H h):z8 P w H h a u:=by
 rcases r with r|⟨o,r⟩
 .exact x a u r
 .obtain ⟨_,q⟩:=x a _ r;exact q
def Mut:Option HO->Prop
 | some (.lst _)=>True
 | some (.dK _)=>True
 | some (.dT _)=>True
 | some (.set _ _)=>True
 | some (.ins _ _ _)=>True
 | some (.ext _)=>True
 | _=>False
section
variable {P:NW}{w:Oc}{H:Hp}{h h':Heap}{x e:Addr}{o':HO}
theorem HOk.write(ok:HOk P w H h)(O:Mut (H x))(he:e=x\/H e=some (.own x))(k:∀b u,b≠e->h.get? b=some u->h'.get? b=some u)(S:∃u,h'.get? e=some u)
  (new:z8 P w (upd H x o') h' x o'):HOk P w (upd H x o') h':=λb u q=>by
 have G:∀c y,H c=some (.own y)->c≠x:=λc y r z=>by subst z;rw [r] at O;exact O
 have J:∀c xs,H c=some (.tup xs)->c≠x:=λc xs r z=>by subst z;rw [r] at O;exact O
 by_cases hb:b=x
 .subst hb;rw [zt] at q;cases q;exact new
 .rw [zh hb] at q;by_cases F:b=e
  .have U:H b=some (.own x):=by
    rcases he with z|z
    .exact absurd (F.trans z) hb
    .rw [F];exact z
   rw [q] at U;cases U;obtain ⟨v,hv⟩:=S;exact {v,by rw [F];exact hv}
  .refine (ok b u q).Uc (λc v hc r=>k c v ?_ r) (λc r=>by rw [zh (G c b r)];exact r) λc xs r=>by rw [zh (J c xs r)];exact r
   rcases hc with rfl|hc
   .exact F
   .rintro rfl;rcases he with z|z
    .exact G c b hc z
    .rw [hc] at z;cases z;exact hb rfl
end
structure Un(fs ex:List Addr)(H H':Hp)(h h':Heap):Prop where
 keep:∀b o,h.get? b=some o->H b=none->b∉fs->b∉ex->h'.get? b=some o
 slot:∀b o,h.get? b=some o->H b=none->b∈fs->b∉ex->∃sl,h'.get? b=some { o with slots:=sl }
 free:∀b o,h.get? b=some o->H b=none->b∉ex->H' b=none
 there:∀b o,h.get? b=some o->b∉ex->∃o',h'.get? b=some o'
 tups:∀b xs,H b=some (.tup xs)->H' b=some (.tup xs)
 frzs:∀b o u,H b=some (.frz o u)->H' b=some (.frz o u)
 tbls:∀b ps,H b=some (.tbl ps)->∃more,H' b=some (.tbl (ps++more))
section
variable {fs fs' ex ex':List Addr}{H H1 H2:Hp}{h h1 h2 h':Heap}{a x e:Addr}{o:HO}
theorem Un.any(u:Un fs ex H H1 h h1){b:Addr}(q:h.get? b=some ob)(n:H b=none)(hx:b∉ex):∃sl,h1.get? b=some { ob with slots:=sl }:=by
 by_cases hb:b∈fs
 .exact u.slot b ob q n hb hx
 .exact {ob.slots,u.keep b ob q n hb hx}
theorem Un.kept(k:∀b u,h.get? b=some u->h'.get? b=some u):Un fs ex H H h h' :=
 {λb ob q _ _ _=>k b ob q,λb ob q _ _ _=>{ob.slots,k b ob q},λ_ _ _ n _=>n,λb ob q _=>{ob,k b ob q},λ_ _ q=>q,λ_ _ _ q=>q,λ_ ps q=>{#[],by rw [q];simp}}
theorem Un.refl:Un fs ex H H h h:=Un.kept λ_ _ q=>q
theorem Un.laid(k:∀b u,h.get? b=some u->h'.get? b=some u)(hp:h.objs.size<=a)(z:H a=none):Un fs ex H (upd H a o) h h' where
 keep:=λb u q _ _ _=>k b u q
 slot:=λb u q _ _ _=>{u.slots,k b u q}
 free:=λb u q n _=>by rw [zh (OM (Oi (Os q) hp))];exact n
 there:=λb u q _=>{u,k b u q}
 tups:=λb xs q=>by rw [zh (zQ q z)];exact q
 frzs:=λb u xs q=>by rw [zh (zQ q z)];exact q
 tbls:=λb ps q=>{#[],by rw [zh (zQ q z),q];simp}
theorem Un.write(G:Mut (H x))(he:e=x\/H e=some (.own x))(k:∀b u,b≠e->h.get? b=some u->h'.get? b=some u)(J:∃u,h'.get? e=some u):Un fs ex H (upd H x o) h h':=by
 have hx:∀b,H b=none->b≠x:=λb n z=>by subst z;rw [n] at G;exact G
 have hb:∀b,H b=none->b≠e:=λb n z=>by
  subst z;rcases he with r|r
  .exact hx b n r
  .rw [n] at r;cases r
 have hm:∀b u,H b=some u->¬ Mut (some u)->b≠x:=λb u q nm z=>by subst z;rw [q] at G;exact nm G
 refine {λb u q n _ _=>k b u (hb b n) q,λb u q n _ _=>{u.slots,k b u (hb b n) q},λb u q n _=>by rw [zh (hx b n)];exact n,λb u q _=>?_,
  λb xs q=>by rw [zh (hm b _ q λz=>z)];exact q,λb u xs q=>by rw [zh (hm b _ q λz=>z)];exact q,λb ps q=>{#[],by rw [zh (hm b _ q λz=>z),q];simp}}
 by_cases F:b=e
 .subst F;exact J
 .exact {u,k b u F q}
end
def trk(h:Heap)(H:Hp):List Addr:=(O0 h.objs.size).filter λa=>(H a).isSome
def fe(h:Heap)(H:Hp):Heap:=Td h (trk h H)
theorem JM(h:Heap)(H:Hp):(fe h H).objs.size=h.objs.size:=PySem.W.hideAll_size _ _
theorem Gx{b:Addr}{o:Obj}(e:h.get? b=some o)(n:H b=none):(fe h H).get? b=some o :=
 hideAll_get _ e λhm=>by
  have q:(H b).isSome=true:=(Sq.mp hm).2;rw [n] at q;simp at q
theorem Dn{b:Addr}{o:Obj}(e:(fe h H).get? b=some o):h.get? b=some o/\H b=none:=by
 have F:h.get? b=some o:=RQ (trk h H) e;refine {F,?_};cases q:H b with
 | none=>rfl
 | some x =>
  have hm:b∈trk h H:=Sq.mpr {RS.mpr (Os F),by simp [q]};have z:(fe h H).get? b=none:=PySem.W.hideAll_none (trk h H) hm;rw [z] at e;cases e
structure Mod(K:NQ)(mg:Str->Option Value)(base:Heap):Prop where
 bw:K.In base
 glob:base.Ns N3 mg
 blt:∃mb,base.Ns builtinsNs mb/\∀x:Str,x≠"__name__"->mb x=Qw x
 nolimit:base.NoLimit
inductive Chn(H:Hp):Nat->Addr->Prop
 | one {a:Addr}{o:Obj}{vs:Array Value}{C:Addr} (h:H a=some (.frz o (.own 0))) (d:o.data = .fields vs) (n:vs[2]?=some .none) (c:o.cls = .ref C):Chn H 0 a
 | more {k:Nat}{a b:Addr}{o:Obj}{vs:Array Value}{C:Addr} (h:H a=some (.frz o (.own 0))) (d:o.data = .fields vs) (n:vs[2]?=some (.ref b)) (c:o.cls = .ref C) (t:Chn H k b):Chn H (k+1) a
theorem Chn.same{k:Nat}{a:Addr}(x:Chn H k a)(f:∀b o,H b=some (.frz o (.own 0))->H' b=some (.frz o (.own 0))):Chn H' k a:=by
 induction x with
 | one h d n c=>exact .one (f _ _ h) d n c
 | more h d n c _ z=>exact .more (f _ _ h) d n c z
def f9(A:Of)(H:Hp):Prop:=A.handled=none\/∃(a:Addr)(k:Nat),A.handled=some (.ref a)/\Chn H k a
theorem f9.bp(x:f9 A H)(k:∀b o,H b=some (.frz o (.own 0))->H' b=some (.frz o (.own 0))):f9 A H':=by
 rcases x with x|⟨a,n,h1,h2⟩
 .exact .inl x
 .exact .inr {a,n,h1,h2.same k}
theorem f9.same(x:f9 A H)(k:∀b o u,H b=some (.frz o u)->H' b=some (.frz o u)):f9 A H':=x.bp λb o h=>k b o _ h
structure Cx where
 prog:NW
 w:Oc
 K:NQ
 mg:Str->Option Value
 base:Heap
 A:Of
 N:List Str
 s₀:KE
 H₀:Hp
 env:Env
 outer:List Env
 stack:List Env
 ex:List Addr
 fn:Str->Bool
 calm:Bool
 pn:List (Addr×Obj)
 xe:Value->KE->Prop
def frs(l:List Env):List Addr:=l.filterMap (·.frame)
abbrev Cx.fs(X:Cx):List Addr:=frs X.outer
def Vis(sc:Scope)(x:Str):Prop:=sc.names.lookup x=some .local\/sc.names.lookup x=some .cell\/sc.names.lookup x=some .free
def Loc(sc:Scope)(x:Str):Prop:=sc.names.lookup x=some .local\/sc.names.lookup x=some .cell
def w9(env:Env)(h:Heap)(m:Str->Option Value)(x:Str)(u:Value):Prop :=
 (env.kindOf x=some .local/\m x=some u)\/((env.kindOf x=some .cell\/env.kindOf x=some .free)/\∃c,env.cells.lookup x=some c/\h.IsCell c (some u))
structure Cx.Ok(X:Cx):Prop where
 mod:Mod X.K X.mg X.base
 kind:X.env.scope.kind = .function
 glob:X.env.globals=N3
 blt:X.env.builtins=builtinsNs
 above:X.s₀.heap.objs.size<=X.env.locals
 inj:∀x y c,X.env.cells.lookup x=some c->X.env.cells.lookup y=some c->x=y
 has:∀x,(X.env.kindOf x=some .cell\/X.env.kindOf x=some .free)->∃c,X.env.cells.lookup x=some c
 bI:∀x c,X.fn x=true->X.env.cells.lookup x=some c->X.s₀.heap.objs.size<=c
 hd:X.calm=true->X.A.handled=none
 frames:X.A.frames=some X.stack
 bL:X.stack=X.outer\/(X.stack=X.env::X.outer/\X.env.frame=some X.env.locals)
 b8:∀b∈X.ex,b≠X.env.locals/\∀x c,X.env.cells.lookup x=some c->c≠b
 bs:∀b o,X.base.get? b=some o->X.s₀.heap.get? b=some o/\X.H₀ b=none
 a0:X.base.objs.size<=X.s₀.heap.objs.size
 VB:∀b o,X.base.get? b=some o->b∉X.ex
 au:∀b∈X.ex,b∉X.fs
 Tz:X.s₀.heap.FunFrames X.base X.outer
 a9:∀b∈X.fs,X.H₀ b=none
structure Inv(X:Cx)(Go:List (Addr×Obj))(σ:List (Option V))(H:Hp)(s:KE):Prop where
 ok:X.Ok
 os:s.os=X.s₀.os
 bare:QZ s.gens
 base:Un X.fs X.ex X.H₀ H X.s₀.heap s.heap
 loc:∃m,s.heap.Ns X.env.locals m/\∀(i:Nat)(x:Str)(v:V),X.N[i]?=some x->σ[i]?=some (some v)->Vis X.env.scope x->∃u,zm v u/\w9 X.env s.heap m x u
 cell:∀x c,X.env.cells.lookup x=some c->∃v,s.heap.IsCell c v
 free:H X.env.locals=none
 vl:∀x c,X.env.cells.lookup x=some c->H c=none
 pin:∀p∈X.pn++Go,s.heap.get? p.1=some p.2/\H p.1=none/\p.1≠X.env.locals/\p.1∉X.fs/\∀v,p.2.data≠.cell v
 hok:HOk X.prog X.w H s.heap
 len:σ.length=X.N.length
 hdk:f9 X.A H
section
variable {X:Cx}{Go:List (Addr×Obj)}{σ:List (Option V)}{H H':Hp}{s:KE}{h':Heap}
theorem Cx.Ok.cc(ok:X.Ok){b:Addr}{o:Obj}(e:X.base.get? b=some o):b∉X.fs:=λhb=>by
 have:=(ok.Tz.mem hb).1;rw [e] at this;cases this
theorem Inv.bs(I:Inv X Go σ H s):∀b o,X.base.get? b=some o->s.heap.get? b=some o/\H b=none:=λb o e =>
 {I.base.keep b o (I.ok.bs b o e).1 (I.ok.bs b o e).2 (I.ok.cc e) (I.ok.VB b o e),I.base.free b o (I.ok.bs b o e).1 (I.ok.bs b o e).2 (I.ok.VB b o e)}
theorem Inv.bk(I:Inv X Go σ H s):∀b o,X.base.get? b=some o->s.heap.get? b=some o:=λb o e=>(I.bs b o e).1
theorem Inv.mod(I:Inv X Go σ H s):Mod X.K X.mg X.base:=I.ok.mod
theorem Inv.z9(I:Inv X Go σ H s):X.K.In s.heap:=I.ok.mod.bw.keeps I.bk
theorem Inv.lt(I:Inv X Go σ H s):X.env.locals<s.heap.objs.size:=let ⟨_,hn,_⟩:=I.loc;hn.lt
theorem Inv.sz(I:Inv X Go σ H s):X.s₀.heap.objs.size<=s.heap.objs.size:=Ol I.ok.above (Sa I.lt)
theorem Inv.bV(I:Inv X Go σ H s){a:Addr}(h:s.heap.objs.size<=a):a∉X.fs:=λhb=>by
 obtain ⟨_,o,ho,_⟩:=I.ok.Tz.mem hb;exact absurd (Oi (Os ho) (Ol I.sz h)) (OF _)
theorem Inv.cne(I:Inv X Go σ H s):∀x c,X.env.cells.lookup x=some c->c≠X.env.locals:=λx c e z=>by
 obtain ⟨v,o,ho,hd⟩:=I.cell x c e;obtain ⟨m,⟨o',es,ep,G,F,_⟩,_⟩:=I.loc;rw [z,G] at ho;cases ho;rw [F] at hd;cases hd
theorem Inv.Tz(I:Inv X Go σ H s):s.heap.FunFrames X.base X.outer:=by
 have all:∀(l:List Env),(∀b∈frs l,b∈X.fs)->X.s₀.heap.FunFrames X.base l->s.heap.FunFrames X.base l:=by
  intro l
  induction l with
  | nil=>intro _ _;trivial
  | cons env r G =>
   intro hs hl;obtain ⟨O,⟨L,o,hf,J,ho,hd⟩,hr⟩:=hl;have F:L∈X.fs:=hs L (by unfold frs;rw [Q7,hf];exact NX);obtain ⟨sl,e⟩:=I.base.slot L o ho (I.ok.a9 L F) F λz=>I.ok.au L z F;exact {O,{L,_,hf,J,e,hd},G (λb hb=>hs b (by unfold frs;rw [Q7,hf];exact NR _ hb)) hr}
 exact all X.outer (λ_ hb=>hb) I.ok.Tz
theorem Inv.stack(I:Inv X Go σ H s):s.heap.FunFrames X.base X.stack:=by
 rcases I.ok.bL with e|⟨e,hf⟩
 .rw [e];exact I.Tz
 .rw [e];obtain ⟨m,z,_⟩:=I.loc;refine .cons (by rw [I.ok.kind];decide) hf z ?_ I.Tz;exact Heap.get?_none_of_le (Ol I.ok.a0 I.ok.above)
theorem Inv.TK(I:Inv X Go σ H s):∀b∈frs X.stack,b∈X.env.locals::X.fs:=λb hb=>by
 rcases I.ok.bL with e|⟨e,hf⟩
 .rw [e] at hb;exact NR _ hb
 .rw [e] at hb;unfold frs at hb;rw [Q7,hf] at hb;exact hb
theorem Inv.UM(I:Inv X Go σ H s):∀b∈frs X.stack,H b=none:=λb hb=>by
 rcases NT.mp (I.TK b hb) with e|hb
 .rw [e];exact I.free
 .obtain ⟨_,o,ho,_⟩:=I.ok.Tz.mem hb;exact I.base.free b o ho (I.ok.a9 b hb) λz=>I.ok.au b z hb
theorem Inv.step{ch:List Addr}(I:Inv X Go σ H s)(S:∀b∈ch,(b∈X.ex\/X.s₀.heap.objs.size<=b)/\b≠X.env.locals/\(∀x c,X.env.cells.lookup x=some c->c≠b)/\∀p∈X.pn++Go,p.1≠b)(keep:∀b o,b≠X.env.locals->b∉X.fs->b∉ch->s.heap.get? b=some o->H b=none->h'.get? b=some o)(slot:∀b o,b≠X.env.locals->b∈X.fs->b∉ch->s.heap.get? b=some o->H b=none->∃sl,h'.get? b=some { o with slots:=sl })(free:∀b o,b∉ch->s.heap.get? b=some o->H b=none->H' b=none)(there:∀b o,b∉ch->s.heap.get? b=some o->∃o',h'.get? b=some o')(tups:∀b xs,H b=some (.tup xs)->H' b=some (.tup xs))(frzs:∀b o u,H b=some (.frz o u)->H' b=some (.frz o u))(tbls:∀b ps,H b=some (.tbl ps)->∃more,H' b=some (.tbl (ps++more)))(ns:∀m,s.heap.Ns X.env.locals m->h'.Ns X.env.locals m)(hok:HOk X.prog X.w H' h')(hg:QZ g'):
  Inv X Go σ H' { s with heap:=h',gens:=g',drawn:=d',toks:=t' }:=by
 have U:∀b o,X.s₀.heap.get? b=some o->b≠X.env.locals:=λb o e=>OM (Oi (Os e) I.ok.above);have J:∀b o,X.s₀.heap.get? b=some o->b∉X.ex->b∉ch:=λb o e hx hb=>by
  rcases (S b hb).1 with z|z
  .exact hx z
  .exact absurd (Oi (Os e) z) (OF _)
 have F:∀x c,X.env.cells.lookup x=some c->∀v,s.heap.IsCell c v->h'.IsCell c v:=λx c e v ⟨o,ho,hd⟩=>by
  have G:c∉ch:=λz=>(S c z).2.2.1 x c e rfl;by_cases hc:c∈X.fs
  .obtain ⟨sl,q⟩:=slot c o (I.cne x c e) hc G ho (I.vl x c e);exact {_,q,hd}
  .exact {o,keep c o (I.cne x c e) hc G ho (I.vl x c e),hd}
 refine {I.ok,I.os,hg,{λb o e n hb hx=>?_,λb o e n hb hx=>?_,λb o e n hx=>?_,λb o e hx=>?_,λb xs e=>tups b xs (I.base.tups b xs e),λb o xs e=>frzs b o xs (I.base.frzs b o xs e),λb ps e=>?_},?_,λx c e=>?_,?_,λx c e=>?_,λp hp=>?_,hok,I.len,I.hdk.same frzs}
 .exact keep b o (U b o e) hb (J b o e hx) (I.base.keep b o e n hb hx) (I.base.free b o e n hx)
 .obtain ⟨sl,O⟩:=I.base.slot b o e n hb hx;obtain ⟨Z,W⟩:=slot b _ (U b o e) hb (J b o e hx) O (I.base.free b o e n hx);exact ⟨Z,W⟩
 .obtain ⟨o',O⟩:=I.base.there b o e hx;exact free b o' (J b o e hx) O (I.base.free b o e n hx)
 .obtain ⟨o',O⟩:=I.base.there b o e hx;exact there b o' (J b o e hx) O
 .obtain ⟨m1,O⟩:=I.base.tbls b ps e;obtain ⟨m2,W⟩:=tbls b _ O;exact {m1++m2,by rw [W,Array.append_assoc]}
 .obtain ⟨m,hn,hl⟩:=I.loc;refine {m,ns m hn,λi x v O W e3=>?_};obtain ⟨u,r,l⟩:=hl i x v O W e3;refine {u,r,?_};rcases l with l|⟨k,c,e,z⟩
  .exact .inl l
  .exact .inr {k,c,e,F x c e _ z}
 .obtain ⟨v,z⟩:=I.cell x c e;exact {v,F x c e v z}
 .obtain ⟨m,⟨o,_,_,ho,_⟩,_⟩:=I.loc;exact free _ o (λz=>(S _ z).2.1 rfl) ho I.free
 .obtain ⟨v,o,ho,hd⟩:=I.cell x c e;exact free c o (λz=>(S c z).2.2.1 x c e rfl) ho (I.vl x c e)
 .obtain ⟨e,n,ne,nf,d⟩:=I.pin p hp;have G:p.1∉ch:=λz=>(S p.1 z).2.2.2 p hp rfl;exact {keep p.1 p.2 ne nf G e n,free p.1 p.2 G e n,ne,nf,d}
theorem Inv.un(I:Inv X Go σ H s)(u:Un X.fs [] H H' s.heap h')(hok:HOk X.prog X.w H' h'):Inv X Go σ H' { s with heap:=h',toks:=t' }:=by
 obtain ⟨m,⟨o,es,ep,ho,r⟩,_⟩:=id I.loc;obtain ⟨sl,O⟩:=u.any ho I.free 'z';exact I.step (g':=s.gens) (d':=s.drawn) (ch:=[]) (λ_ z=>nomatch z) (λb o _ hb _ e n=>u.keep b o e n hb 'z') (λb o _ hb _ e n=>u.slot b o e n hb 'z') (λb o _ e n=>u.free b o e n 'z') (λb o _ e=>u.there b o e 'z') u.tups u.frzs u.tbls (λS hm=>by
  obtain ⟨o',J,F,G,r'⟩:=hm;rw [ho] at G;cases G;exact {_,J,F,O,r'}) hok I.bare
theorem Inv.call(I:Inv X Go σ H s)(u:Un (frs X.stack) ch H H' s.heap h')(hok:HOk X.prog X.w H' h')(U:QZ g')(O:∀b∈ch,(b∈X.ex\/X.s₀.heap.objs.size<=b)/\b≠X.env.locals/\(∀x c,X.env.cells.lookup x=some c->c≠b)/\∀p∈X.pn++Go,p.1≠b):
  Inv X Go σ H' { s with heap:=h',gens:=g',drawn:=d',toks:=t' }:=by
 obtain ⟨m,⟨o,es,ep,ho,r⟩,_⟩:=id I.loc;obtain ⟨sl,G⟩:=u.any ho I.free λz=>(O _ z).2.1 rfl;exact I.step (ch:=ch) O (λb o G hb hc e n=>u.keep b o e n (λz=>(NT.mp (I.TK b z)).elim G hb) hc) (λb o _ _ hc e n=>u.any e n hc) (λb o hc e n=>u.free b o e n hc) (λb o hc e=>u.there b o e hc) u.tups u.frzs u.tbls (λW hm=>by
  obtain ⟨o',S,F,J,r'⟩:=hm;rw [ho] at J;cases J;exact {_,S,F,G,r'}) hok U
theorem Inv.turned(I:Inv X Go σ H s)(k:∀b o,b≠it->s.heap.get? b=some o->h'.get? b=some o)(J:H it=none)(G:it≠X.env.locals)(h1:it∈X.ex\/X.s₀.heap.objs.size<=it)(h2:∀x c,X.env.cells.lookup x=some c->c≠it)(h3:∀p∈X.pn++Go,p.1≠it):Inv X Go σ H { s with heap:=h',toks:=t' }:=by
 have F:∀b u,H b=some u->b≠it:=λb u e z=>by rw [z,J] at e;cases e
 refine I.step (g':=s.gens) (d':=s.drawn) (ch:=[it]) (λb hb=>?_) (λb o _ _ hc e _=>k b o (λz=>hc (by simp [z])) e) (λb o _ _ hc e _=>{o.slots,k b o (λz=>hc (by simp [z])) e}) (λ_ _ _ _ n=>n)
  (λb o hc e=>{o,k b o (λz=>hc (by simp [z])) e}) (λ_ _ e=>e) (λ_ _ _ e=>e) (λb ps e=>{#[],by rw [e];simp}) (λm hm=>?_) (λb u e=>?_) I.bare
 .have e:b=it:=by simpa using hb
  subst e;exact ⟨h1,G,h2,h3⟩
 .obtain ⟨o,es,ep,ho,r⟩:=hm;exact {o,es,ep,k _ o (OY G) ho,r}
 .refine (I.hok b u e).Uc (λc v hc q=>k c v ?_ q) (λ_ q=>q) λ_ _ q=>q;rcases hc with z|z
  .rw [z];exact F b u e
  .exact F c _ z
theorem Inv.tok(I:Inv X Go σ H s)(t:Nat):Inv X Go σ H { s with toks:=t }:=I.un (h':=s.heap) (t':=t) Un.refl I.hok
theorem Inv.kept(I:Inv X Go σ H s)(k:∀b u,s.heap.get? b=some u->h'.get? b=some u):Inv X Go σ H { s with heap:=h',toks:=t' }:=I.un (Un.kept k) (I.hok.kept k)
theorem Inv.laid{a:Addr}{o:HO}(I:Inv X Go σ H s)(k:∀b u,s.heap.get? b=some u->h'.get? b=some u)(hp:s.heap.objs.size<=a)(new:z8 X.prog X.w (upd H a o) h' a o):
  Inv X Go σ (upd H a o) { s with heap:=h',toks:=t' }:=I.un (Un.laid k hp (I.hok.fresh hp)) (I.hok.laid k hp new)
theorem Inv.write{o:HO}(I:Inv X Go σ H s)(F:Mut (H x))(he:e=x\/H e=some (.own x))(k:∀b u,b≠e->s.heap.get? b=some u->h'.get? b=some u)(z:∃u,h'.get? e=some u)(new:z8 X.prog X.w (upd H x o) h' x o):Inv X Go σ (upd H x o) { s with heap:=h',toks:=t' }:=I.un (Un.write F he k z) (I.hok.write F he k z new)
theorem Inv.ti(I:Inv X Go σ H s)(h:∀p∈pins',s.heap.get? p.1=some p.2/\H p.1=none/\p.1≠X.env.locals/\p.1∉X.fs/\∀v,p.2.data≠.cell v):Inv X pins' σ H s :=
 {I.ok,I.os,I.bare,I.base,I.loc,I.cell,I.free,I.vl,λp hp=>(Ox.mp hp).elim (λz=>I.pin p (Oo _ z)) (h p),I.hok,I.len,I.hdk}
theorem pf{N:List Str}(hN:N.Nodup){i j:Nat}(a:N[i]?=some x)(b:N[j]?=some x):i=j:=by
 obtain ⟨h1,F⟩:=NU.mp a;obtain ⟨h2,z⟩:=NU.mp b;exact (List.getElem_inj hN).mp (F.trans z.symm)
theorem Mr(I:Inv X Go σ H s)(hN:X.N.Nodup)(hi:X.N[i]?=some x)(hx:Loc X.env.scope x)(r:zm v u)(h:∀s',Inv X Go (σ.set i (some v)) H s'->(∃a,PF a s.heap s'.heap/\(a=X.env.locals\/X.env.cells.lookup x=some a))->Q () s')(hf:X.fn x=true\/X.env.scope.names.lookup x=some .local:=by first|exact .inl rfl|exact .inr rfl|assumption):N2 M A (storeName X.env x u) Q E s:=by
 obtain ⟨m,hn,hl⟩:=id I.loc;have av:(X.env.scope.kind == .class||(X.env.scope.kind == .module&&X.env.locals != X.env.globals))=false:=by rw [I.ok.kind];rfl
 have O:i<σ.length:=by rw [I.len];exact (NU.mp hi).1
 have cne:=I.cne;have XU:∀{a:Addr}{h':Heap},(∃o,s.heap.get? a=some o/\H a=none)->PF a s.heap h'->HOk X.prog X.w H h':=λ{a h'} ha hs b ob e=>by
  obtain ⟨_,_,G⟩:=ha;refine (I.hok b ob e).Uc (λc w' hc q=>(hs.2 c ?_).trans q) (λ_ q=>q) λ_ _ q=>q;rintro rfl;rcases hc with rfl|hc
  .rw [G] at e;cases e
  .rw [G] at hc;cases hc
 rcases hx with S|S
 .refine wpAny_storeName_local S hn (λh' aI hs=>?_) av;obtain ⟨oL,_,_,XT,_⟩:=id hn;refine h _ {I.ok,I.os,I.bare,{λb o e n hb hx=>?_,λb o e n hb hx=>?_,I.base.free,λb o e hx=>?_,I.base.tups,I.base.frzs,I.base.tbls},{_,aI,λj y v' F J e3=>?_},λy c e=>?_,I.free,I.vl,λp hp=>?_,XU ⟨oL,XT,I.free⟩ hs,by simpa using I.len,I.hdk} {_,hs,.inl rfl}
  .exact (hs.2 b (OM (Oi (Os e) I.ok.above))).trans (I.base.keep b o e n hb hx)
  .obtain ⟨sl,F⟩:=I.base.slot b o e n hb hx;exact {sl,(hs.2 b (OM (Oi (Os e) I.ok.above))).trans F}
  .obtain ⟨o',F⟩:=I.base.there b o e hx;exact {o',(hs.2 b (OM (Oi (Os e) I.ok.above))).trans F}
  .by_cases U:j=i
   .subst U;rw [hi] at F;cases F;rw [RJ O] at J;cases J;exact {u,r,.inl {S,'z'}}
   .rw [Se (OY U)] at J;obtain ⟨u',r',q⟩:=hl j y v' F J e3;refine {u',r',?_};rcases q with ⟨k,e⟩|⟨k,c,e,z⟩
    .refine .inl {k,?_};have:y≠x:=λe=>U (pf hN F (e ▸ hi));simp [this,e]
    .exact .inr {k,c,e,z.sameBut hs (cne y c e)}
  .obtain ⟨w',z⟩:=I.cell y c e;exact {w',z.sameBut hs (cne y c e)}
  .obtain ⟨e,n,ne,nf,d⟩:=I.pin p hp;exact {(hs.2 p.1 ne).trans e,n,ne,nf,d}
 .have W:X.fn x=true:=by
   rcases hf with z|z
   .exact z
   .rw [z] at S;cases S
  obtain ⟨c,hc⟩:=I.ok.has x (.inl S);obtain ⟨w',z⟩:=I.cell x c hc;refine wpAny_storeName_cell I.ok.kind S hc z (λh' Yq hs=>?_);obtain ⟨oc,ax,ak⟩:=id z;refine h { s with heap:=h' } {I.ok,I.os,I.bare,{λb o e n hb hx=>?_,λb o e n hb hx=>?_,I.base.free,λb o e hx=>?_,I.base.tups,I.base.frzs,I.base.tbls},{m,hn.sameBut hs (OY (cne x c hc)),λj y v' F J e3=>?_},λy c' e=>?_,I.free,I.vl,λp hp=>?_,XU {oc,ax,I.vl x c hc} hs,by simpa using I.len,I.hdk} {c,hs,.inr hc}
  .exact (hs.2 b (OM (Oi (Os e) (I.ok.bI x c W hc)))).trans (I.base.keep b o e n hb hx)
  .obtain ⟨sl,F⟩:=I.base.slot b o e n hb hx;exact {sl,(hs.2 b (OM (Oi (Os e) (I.ok.bI x c W hc)))).trans F}
  .obtain ⟨o',F⟩:=I.base.there b o e hx;exact {o',(hs.2 b (OM (Oi (Os e) (I.ok.bI x c W hc)))).trans F}
  .by_cases U:j=i
   .subst U;rw [hi] at F;cases F;rw [RJ O] at J;cases J;exact {u,r,.inr {.inl S,c,hc,Yq}}
   .rw [Se (OY U)] at J;obtain ⟨u',r',q⟩:=hl j y v' F J e3;refine {u',r',?_};rcases q with q|⟨k,c',e,z'⟩
    .exact .inl q
    .refine .inr {k,c',e,z'.sameBut hs ?_};rintro rfl;exact U (pf hN F (I.ok.inj _ _ _ e hc ▸ hi))
  .by_cases Z:c'=c
   .subst Z;exact {_,Yq}
   .obtain ⟨w2,z2⟩:=I.cell y c' e;exact {w2,z2.sameBut hs Z}
  .obtain ⟨e,n,ne,nf,d⟩:=I.pin p hp;refine {(hs.2 p.1 ?_).trans e,n,ne,nf,d};intro q;rw [q,ax] at e;have q':oc=p.2:=OG.inj e;exact d w' (by rw [<- q'];exact ak)
theorem kh(I:Inv X Go σ H s)(hN:X.N.Nodup)(hi:X.N[i]?=some x)(hx:Loc X.env.scope x)(r:zm v u)(h:∀s',Inv X Go (σ.set i (some v)) H s'->Q () s')(hf:X.fn x=true\/X.env.scope.names.lookup x=some .local:=by first|exact .inl rfl|exact .inr rfl|assumption):N2 M A (storeName X.env x u) Q E s :=
 Mr I hN hi hx r (λs' z _=>h s' z) hf
theorem Inv.VM(I:Inv X Go σ H s)(ho:s'.os=s.os)(u:Un (frs X.stack) ch H H' s.heap s'.heap)(hok:HOk X.prog X.w H' s'.heap)(F:QZ s'.gens)(z:∀b∈ch,(b∈X.ex\/X.s₀.heap.objs.size<=b)/\b≠X.env.locals/\(∀x c,X.env.cells.lookup x=some c->c≠b)/\∀p∈X.pn++Go,p.1≠b):Inv X Go σ H' s':=by
 obtain ⟨h',g',d',t',o'⟩:=s';have e:o'=s.os:=ho;subst e;exact I.call (g':=g') (t':=t') (d':=d') u hok F z
end
abbrev XK:=Value->Option Addr->Hp->Prop
abbrev St:=List (Option V)
abbrev VK:=V->Hp->Prop
abbrev TE:=St->Hp->VK->Prop
abbrev TT:=St->Hp->(Bool->Hp->Prop)->Prop
abbrev TA:=St->Hp->(List V->Hp->Prop)->Prop
structure bo where
 nx:St->Hp->Prop
 rt:VK
 bk:St->Hp->Prop:=λ_ _=>False
 ct:St->Hp->Prop:=λ_ _=>False
abbrev TS:=bo->St->Hp->Prop
def EP(X:Cx)(Go:List (Addr×Obj))(σ:St)(Q:VK)(u:Value)(s':KE):Prop:=∃v H',Inv X Go σ H' s'/\zm v u/\Q v H'
def TP(X:Cx)(Go:List (Addr×Obj))(σ:St)(Q:Bool->Hp->Prop)(b:Bool)(s':KE):Prop:=∃H',Inv X Go σ H' s'/\Q b H'
def AP(X:Cx)(Go:List (Addr×Obj))(σ:St)(Q:List V->Hp->Prop)(us:List Value)(s':KE):Prop:=∃vs H',Inv X Go σ H' s'/\zq vs us/\Q vs H'
def SP(X:Cx)(Go:List (Addr×Obj))(D:bo)(f:Flow)(s':KE):Prop :=
 match f with
 | .next=>∃z H',Inv X Go z H' s'/\D.nx z H'
 | .brk=>∃z H',Inv X Go z H' s'/\D.bk z H'
 | .cont=>∃z H',Inv X Go z H' s'/\D.ct z H'
 | .ret u=>∃v z H',Inv X Go z H' s'/\zm v u/\D.rt v H'
def PE(X:Cx)(e:Og)(t:TE):Prop :=
 ∀(Go:List (Addr×Obj))(s:KE)(σ:St)(H:Hp)(Q:VK),Inv X Go σ H s->t σ H Q->N2 (N5 X.prog X.w) X.A (Pa e X.env) (EP X Go σ Q) X.xe s
def PT(X:Cx)(e:Og)(t:TT):Prop :=
 ∀(Go:List (Addr×Obj))(s:KE)(σ:St)(H:Hp)(Q:Bool->Hp->Prop),Inv X Go σ H s->t σ H Q->N2 (N5 X.prog X.w) X.A (Tb e X.env (Pa e X.env)) (TP X Go σ Q) X.xe s
def PW(X:Cx)(e:Og)(t:TT):Prop :=
 ∀(z:Sem Value)(Go:List (Addr×Obj))(s:KE)(σ:St)(H:Hp)(Q:Bool->Hp->Prop),Inv X Go σ H s->t σ H Q->N2 (N5 X.prog X.w) X.A (Tb e X.env z) (TP X Go σ Q) X.xe s
theorem PW.pt{t:TT}(h:PW X e t):PT X e t:=h _
def PA(X:Cx)(es:List Og)(t:TA):Prop :=
 ∀(pos:Pos)(Go:List (Addr×Obj))(s:KE)(σ:St)(H:Hp)(Q:List V->Hp->Prop),Inv X Go σ H s->t σ H Q->N2 (N5 X.prog X.w) X.A (spliced (P0 pos (Om es X.env))) (AP X Go σ Q) X.xe s
def PS(X:Cx)(st:Stmt)(t:TS):Prop :=
 ∀(Go:List (Addr×Obj))(s:KE)(σ:St)(H:Hp)(D:bo),Inv X Go σ H s->t D σ H->N2 (N5 X.prog X.w) X.A (exec st X.env) (SP X Go D) X.xe s
def PSs(X:Cx)(st:List Stmt)(t:TS):Prop :=
 ∀(Go:List (Addr×Obj))(s:KE)(σ:St)(H:Hp)(D:bo),Inv X Go σ H s->t D σ H->N2 (N5 X.prog X.w) X.A (execs st X.env) (SP X Go D) X.xe s
theorem x2e{a b c:Prop}(f:a->b->c)(h:a/\b):c:=f h.1 h.2
theorem x3e{α:Sort _}{A B:α->Prop}{D:Prop}(f:∀x,A x->B x->D)(h:∃x,A x/\B x):D:=h.elim λx z=>f x z.1 z.2
theorem x4e{α β:Sort _}{A B:α->β->Prop}{D:Prop}(f:∀x y,A x y->B x y->D)(h:∃x y,A x y/\B x y):D:=h.elim λx=>x3e (f x)
theorem x5e{α β:Sort _}{A B C:α->β->Prop}{D:Prop}(f:∀x y,A x y->B x y->C x y->D)(h:∃x y,A x y/\B x y/\C x y):D:=h.elim λx=>x3e λy a=>x2e (f x y a)
theorem thn{α:Type}{t:Sem α}{Q z:α->KE->Prop}(h:N2 M A t Q E s)(F:∀a s,Q a s->z a s):N2 M A t z E s:=Ow h F λ_ _ x=>x
section
variable {X:Cx}
def d8(i:Nat):TE:=λσ H Q=>∃v,σ[i]?=some (some v)/\Q v H
def tC(v:V):TE:=λ_ H Q=>Q v H
theorem LL(hN:X.N[i]?=some x)(hv:Vis X.env.scope x)(hd:(x==("__debug__":Str))=false:=by decide)(hcd:(x==("__classdict__":Str))=false:=by decide):PE X (.Name x pos) (d8 i):=by
 intro Go s σ H Q I h;obtain ⟨v,e,h⟩:=h;obtain ⟨m,J,hl⟩:=I.loc;obtain ⟨u,r,l⟩:=hl i x v hN e hv;have F:EP X Go σ Q u s:=⟨v,H,I,r,h⟩;rcases l with ⟨z,hm⟩|⟨z,c,hc,G⟩
 .exact wpAny_Name (wpAny_loadName_local I.ok.kind z J hm F) hd
 .rcases z with z|z
  .exact wpAny_Name (wpAny_loadName_cell I.ok.kind z hc G F) hd
  .exact wpAny_Name (wpAny_loadName_free I.ok.kind z hc G F hcd) hd
theorem lL{i j pos}:PE X (.Constant (.int i) j pos) (tC (.int i)):=λ_ _ _ H _ I h=>wpAny_Constant_int {.int i,H,I.tok _,{_,rfl},h}
theorem dA{b j pos}:W (PE X (.Constant (.bool b) j pos) (tC (.bl b))):={λ_ _ _ H _ I h=>Constant_bool {.bl b,H,I,rfl,h}}
theorem aP{j pos}:W (PE X (.Constant .none j pos) (tC .non)):={λ_ _ _ H _ I h=>Constant_none {.non,H,I,rfl,h}}
theorem zx{x j pos}:W (PE X (.Constant (.str x) j pos) (tC (.str x))):={λ_ _ _ H _ I h=>Calls.Constant_str {.str x,H,I.tok _,{_,rfl},h}}
def Gl(X:Cx)(x:Str):Prop:=X.env.kindOf x=some .globalImplicit
theorem fu(I:Inv X Go σ H s)(z:Gl X x)(hm:X.mg x=some u)(h:Q u s)(hd:(x==("__debug__":Str))=false:=by decide):N2 (N5 X.prog X.w) X.A (Pa (.Name x pos) X.env) Q E s :=
 Calls.Name_function_global I.ok.kind z (Calls.loadGlobal_global (by rw [I.ok.glob];exact I.mod.glob.keeps I.bk) hm h) hd
theorem iP(I:Inv X Go σ H s)(z:Gl X x)(hm:X.mg x=none)(hv:Qw x=some u)(h:Q u s)(F:x≠"__name__":=by decide)(hd:(x==("__debug__":Str))=false:=by decide):N2 (N5 X.prog X.w) X.A (Pa (.Name x pos) X.env) Q E s:=by
 obtain ⟨G,h1,h2⟩:=I.mod.blt;exact Calls.Name_function_global I.ok.kind z (Calls.loadGlobal_builtin (by rw [I.ok.glob];exact I.mod.glob.keeps I.bk) hm (by rw [I.ok.blt];exact h1.keeps I.bk) ((h2 x F).trans hv) h) hd
theorem DH(z:Gl X x)(hm:X.mg x=some u)(r:zm v u)(hd:(x==("__debug__":Str))=false:=by decide):PE X (.Name x pos) (tC v) :=
 λ_ _ _ H _ I h=>fu I z hm ⟨v,H,I,r,h⟩ hd
theorem mf(F:Gl X x)(hm:X.mg x=none)(hv:Qw x=some u)(r:zm v u)(z:x≠"__name__":=by decide)(hd:(x==("__debug__":Str))=false:=by decide):W (PE X (.Name x pos) (tC v)):={λ_ _ _ H _ I h=>iP I F hm hv ⟨v,H,I,r,h⟩ z hd}
variable {a b:Og}{ta tb:TE}{pos:Pos}
variable {tA tB':TT}{YU:List Og}
def xb(t u:TT):TT:=λσ H Q=>t σ H λc H1=>if c=true then u σ H1 Q else Q false H1
def tOr(t u:TT):TT:=λσ H Q=>t σ H λc H1=>if c=true then Q true H1 else u σ H1 Q
def uU(t:TT):TT:=λσ H Q=>t σ H λc H1=>Q (!c) H1
theorem iI(ha:W (PT X a tA)):W (PW X (.BoolOp .And [a] pos) tA):=by
 refine {?_};have ha:=ha.h;intro z Go s σ H Q I h;refine isTrue_and (thn (ha Go s σ H Q I h) λc s1 e=>?_);cases c with
 | true=>exact isTrue_and_nil e
 | false=>exact e
theorem eK(ha:W (PT X a tA)):W (PW X (.BoolOp .Or [a] pos) tA):=by
 refine {?_};have ha:=ha.h;intro z Go s σ H Q I h;refine isTrue_or (thn (ha Go s σ H Q I h) λc s1 e=>?_);cases c with
 | false=>exact isTrue_or_nil e
 | true=>exact e
theorem fJ(ha:W (PT X a tA))(hb:W (PW X (.BoolOp .And (b::YU) pos) tB')):W (PW X (.BoolOp .And (a::b::YU) pos) (xb tA tB')):=by
 refine {?_};have ha:=ha.h;have hb:=hb.h;intro F Go s σ H Q I h;refine isTrue_and (thn (ha Go s σ H _ I h) λc s1=>x3e λH1 z q1=>?_);cases c with
 | true=>exact hb F Go s1 σ H1 Q z q1
 | false=>exact ⟨H1,z,q1⟩
theorem cG(ha:W (PT X a tA))(hb:W (PW X (.BoolOp .Or (b::YU) pos) tB')):W (PW X (.BoolOp .Or (a::b::YU) pos) (tOr tA tB')):=by
 refine {?_};have ha:=ha.h;have hb:=hb.h;intro F Go s σ H Q I h;refine isTrue_or (thn (ha Go s σ H _ I h) λc s1=>x3e λH1 z q1=>?_);cases c with
 | true=>exact ⟨H1,z,q1⟩
 | false=>exact hb F Go s1 σ H1 Q z q1
theorem cf(ha:W (PT X a tA)):W (PT X (.UnaryOp .Not a pos) (uU tA)):=by
 refine {?_};have ha:=ha.h;intro Go s σ H Q I h;exact isTrue_not (ha Go s σ H (λc H1=>Q (!c) H1) I h)
def nX(ta tb:TE):TE:=λσ H Q=>ta σ H λx H1=>∃c,x = .bl c/\if c=true then tb σ H1 Q else Q (.bl false) H1
def AD(ta tb:TE):TE:=λσ H Q=>ta σ H λx H1=>∃c,x = .bl c/\if c=true then Q (.bl true) H1 else tb σ H1 Q
def wx(ta:TE):TE:=λσ H Q=>ta σ H λx H1=>∃c,x = .bl c/\Q (.bl (!c)) H1
theorem iN{op}{t:TE}(h:W (PE X a t)):W (PE X (.BoolOp op [a] pos) t):=by refine {?_};have h:=h.h;exact λGo s σ H Q I hw=>BoolOp_one (h Go s σ H Q I hw)
theorem jQ(ha:W (PE X a ta))(hb:W (PE X (.BoolOp .And (b::YU) pos) tb)):W (PE X (.BoolOp .And (a::b::YU) pos) (nX ta tb)):=by
 refine {?_};have ha:=ha.h;have hb:=hb.h;intro Go s σ H Q I h;refine BoolOp_and (thn (ha Go s σ H _ I h) λv s1=>x5e λx H1 z r1 q1=>?_);obtain ⟨c,rfl,q1⟩:=q1;cases r1;refine PH ?_;cases c with
 | true=>exact hb Go s1 σ H1 Q z q1
 | false=>exact {.bl false,H1,z,rfl,q1}
theorem HU(ha:W (PE X a ta))(hb:W (PE X (.BoolOp .Or (b::YU) pos) tb)):W (PE X (.BoolOp .Or (a::b::YU) pos) (AD ta tb)):=by
 refine {?_};have ha:=ha.h;have hb:=hb.h;intro Go s σ H Q I h;refine BoolOp_or (thn (ha Go s σ H _ I h) λv s1=>x5e λx H1 z r1 q1=>?_);obtain ⟨c,rfl,q1⟩:=q1;cases r1;refine PH ?_;cases c with
 | false=>exact hb Go s1 σ H1 Q z q1
 | true=>exact {.bl true,H1,z,rfl,q1}
theorem Nx(ha:W (PE X a ta)):W (PE X (.UnaryOp .Not a pos) (wx ta)):=by
 refine {?_};have ha:=ha.h;intro Go s σ H Q I h;refine UnaryOp_ (thn (ha Go s σ H _ I h) λv s1=>x5e λx H1 z r1 q1=>?_);obtain ⟨c,rfl,q1⟩:=q1;cases r1;exact not_of (PH {.bl (!c),H1,z,rfl,q1})
def tIf(t:TT)(ta tb:TE):TE:=λσ H Q=>t σ H λc H1=>if c=true then ta σ H1 Q else tb σ H1 Q
theorem Mu(hc:W (PT X c tA))(ha:W (PE X a ta))(hb:W (PE X b tb)):W (PE X (.IfExp c a b pos) (tIf tA ta tb)):=by
 refine {?_};have hc:=hc.h;have ha:=ha.h;have hb:=hb.h;intro Go s σ H Q I h;refine wpAny_IfExp (thn (hc Go s σ H _ I h) λd s1=>x3e λH1 z q1=>?_);cases d with
 | true=>exact ha Go s1 σ H1 Q z q1
 | false=>exact hb Go s1 σ H1 Q z q1
end
def SqL(K:NQ)(H:Hp)(a:Addr)(xs:List V):Prop :=
 Rd H a (.lst xs) \/
  ∃(o:Obj)(z:Array Value)(n:Nat),K.lookup a=some o/\o.cls = .type "list"/\o.dict=none/\o.data = .seq z n/\z.size<=sizeLine/\zq xs z.toList
def SqT(K:NQ)(H:Hp)(a:Addr)(xs:List V):Prop :=
 Rd H a (.tup xs) \/
  ∃(o:Obj)(z:Array Value)(n:Nat),K.lookup a=some o/\o.cls = .type "tuple"/\o.data = .seq z n/\z.size<=sizeLine/\zq xs z.toList
def Ie:Value->Option V
 | .none=>some .non
 | .bool b=>some (.bl b)
 | .int i _=>some (.int i)
 | .str x _=>some (.str x)
 | .bytes b _=>some (.byt b)
 | .float b _=>some (.flt b)
 | .ref a=>some (.ref a)
 | .type n=>some (.ty n)
 | _=>none
theorem zm.abs(r:zm x u):Ie u=some x:=by
 cases x with
 | non=>cases r;rfl
 | bl _=>cases r;rfl
 | int _=>obtain ⟨t,rfl⟩:=r;rfl
 | str _=>obtain ⟨t,rfl⟩:=r;rfl
 | byt _=>obtain ⟨t,rfl⟩:=r;rfl
 | flt _=>obtain ⟨t,rfl⟩:=r;rfl
 | ref _=>cases r;rfl
 | ty _=>cases r;rfl
theorem zm.inj(r:zm x u)(q:zm y u):x=y:=OG.inj (r.abs.symm.trans q.abs)
theorem zq.inj(h:zq xs us):∀{ys:List V},zq ys us->xs=ys:=by
 induction h with
 | nil=>intro ys k;cases k;rfl
 | cons r t z =>
  intro ys k;cases k with
  | cons r' t'=>rw [r.inj r',z t']
section
variable {X:Cx}{Go:List (Addr×Obj)}{σ:St}{H:Hp}{s:KE}{a:Addr}{xs ys:List V}
theorem SqL.of{K:NQ}(h:H a=some (.lst xs)):SqL K H a xs:=.inl (.inl h)
theorem SqT.of{K:NQ}(h:H a=some (.tup xs)):SqT K H a xs:=.inl (.inl h)
theorem Inv.list(I:Inv X Go σ H s)(h:SqL X.K H a xs):∃F:List Value,zq xs F/\PlainL s.heap a F.toArray/\xs.length<=sizeLine:=by
 rcases h with h|⟨o,F,n,G,hc,hd,hs,hz,r⟩
 .obtain ⟨z,F,n,r,e⟩:=h.ok I.hok;exact {F,r,{_,n,e,rfl,rfl,rfl},z}
 .refine {F.toList,r,{o,n,I.z9 a o G,hc,hd,by simpa using hs},?_};have e:=r.length;simp only [Pl] at e;lia
theorem Inv.tuple(I:Inv X Go σ H s)(h:SqT X.K H a xs):∃F:List Value,zq xs F/\IsTup s.heap a F.toArray/\xs.length<=sizeLine:=by
 rcases h with h|⟨o,F,n,G,hc,hs,hz,r⟩
 .obtain ⟨z,F,r,p⟩:=h.ok I.hok;exact ⟨F,r,p,z⟩
 .refine {F.toList,r,{o,I.z9 a o G,hc,n,by simpa using hs},?_};have e:=r.length;simp only [Pl] at e;lia
theorem Inv.aO(I:Inv X Go σ H s)(h:SqL X.K H a xs)(h':SqL X.K H a ys):xs=ys:=by
 obtain ⟨F,r,⟨o,n,e,_,_,d⟩,_⟩:=I.list h;obtain ⟨its',r',⟨o',G,z,_,_,d'⟩,_⟩:=I.list h';rw [e] at z;cases z;rw [d] at d';injection d' with d1 _
 have:F=its':=by simpa using congrArg Array.toList d1
 subst this;exact r.inj r'
theorem Inv.ae(I:Inv X Go σ H s)(h:SqT X.K H a xs)(h':SqT X.K H a ys):xs=ys:=by
 obtain ⟨F,r,⟨o,e,_,n,d⟩,_⟩:=I.tuple h;obtain ⟨its',r',⟨o',z,_,G,d'⟩,_⟩:=I.tuple h';rw [e] at z;cases z;rw [d] at d';injection d' with d1 _
 have:F=its':=by simpa using congrArg Array.toList d1
 subst this;exact r.inj r'
end
abbrev Cx.Pv(X:Cx)(E:Value->KE->Prop):Cx:={ X with xe:=E }
abbrev Cx.bU(X:Cx):Cx:=X.Pv λ_ _=>False
theorem Cx.Ok.Pv{X:Cx}(ok:X.Ok)(E:Value->KE->Prop):(X.Pv E).Ok :=
 ⟨ok.mod,ok.kind,ok.glob,ok.blt,ok.above,ok.inj,ok.has,ok.bI,ok.hd,ok.frames,ok.bL,ok.b8,ok.bs,ok.a0,ok.VB,ok.au,ok.Tz,ok.a9⟩
theorem Cx.Ok.qf{X:Cx}(ok:(X.Pv E).Ok):X.Ok :=
 ⟨ok.mod,ok.kind,ok.glob,ok.blt,ok.above,ok.inj,ok.has,ok.bI,ok.hd,ok.frames,ok.bL,ok.b8,ok.bs,ok.a0,ok.VB,ok.au,ok.Tz,ok.a9⟩
section
variable {X:Cx}{Go:List (Addr×Obj)}{σ:St}{H:Hp}{s:KE}{E:Value->KE->Prop}
theorem Inv.Pv(I:Inv X Go σ H s)(E:Value->KE->Prop):Inv (X.Pv E) Go σ H s:={I.ok.Pv E,I.os,I.bare,I.base,I.loc,I.cell,I.free,I.vl,I.pin,I.hok,I.len,I.hdk}
theorem Inv.qf(I:Inv (X.Pv E) Go σ H s):Inv X Go σ H s:=⟨I.ok.qf,I.os,I.bare,I.base,I.loc,I.cell,I.free,I.vl,I.pin,I.hok,I.len,I.hdk⟩
theorem SP.qf(h:SP (X.Pv E) Go D f s'):SP X Go D f s':=by
 cases f with
 | next=>obtain ⟨z,H',I,q⟩:=h;exact ⟨z,H',I.qf,q⟩
 | brk=>obtain ⟨z,H',I,q⟩:=h;exact ⟨z,H',I.qf,q⟩
 | cont=>obtain ⟨z,H',I,q⟩:=h;exact ⟨z,H',I.qf,q⟩
 | ret u=>obtain ⟨v,z,H',I,r,q⟩:=h;exact ⟨v,z,H',I.qf,r,q⟩
theorem PSs.bU{st:List Stmt}{t:TS}(h:PSs X.bU st t):PSs X st t:=λGo s σ H D I hw =>
 Ow (h Go s σ H D (I.Pv _) hw) (λ_ _ q=>q.qf) λ_ _ z=>False.elim z
end
section
variable {X:Cx}{st:Stmt}{YU:List Stmt}{t u:TS}{e:Og}{te:TE}{pos:Pos}
def ox:TS:=λD σ H=>D.nx σ H
def sD(t u:TS):TS:=λD σ H=>t { D with nx:=u D } σ H
theorem wu:PSs X [] ox:=λ_ _ σ H _ I h=>Rj {σ,H,I,h}
theorem vO(h1:PS X st t)(h2:PSs X YU u):PSs X (st::YU) (sD t u):=by
 intro Go s σ H D I h;refine wpAny_execs_cons (thn (h1 Go s σ H { D with nx:=u D } I h) λf s1 q=>?_);cases f with
 | next =>
  obtain ⟨z,H',F,q⟩:=q;exact h2 Go s1 z H' D F q
 | ret v=>exact q
 | brk=>exact q
 | cont=>exact q
theorem sC(h1:PS X st t):PSs X [st] t:=by
 intro Go s σ H D I h;refine wpAny_execs_cons (thn (h1 Go s σ H D I h) λf s1 q=>?_);cases f with
 | next=>exact Rj q
 | ret v=>exact q
 | brk=>exact q
 | cont=>exact q
theorem Inv.quiet(I:Inv X Go σ H s):interactive X.env=false:=by simp [interactive,I.ok.kind]
def wb(te:TE):TS:=λD σ H=>te σ H λ_ H1=>D.nx σ H1
theorem ay(he:W (PE X e te))(hs:swapsWith e none pos.line X.env=pure false:=by rfl):W (PS X (.Expr e pos) (wb te)):=by
 refine {?_};have he:=he.h;intro Go s σ H D I h;exact wpAny_Expr_any (thn (he Go s σ H _ I h) λv s1=>x5e λx H1 z r1 q1=>{σ,H1,z,q1}) I.quiet hs
def rM(te:TE):TS:=λD σ H=>te σ H D.rt
theorem sq(he:PE X e te):PS X (.Return (some e) pos) (rM te):=by
 intro Go s σ H D I h;exact wpAny_Return_some (thn (he Go s σ H _ I h) λv s1=>x5e λx H1 z r1 q1=>{x,σ,H1,z,r1,q1})
def rS(c:TT)(t u:TS):TS:=λD σ H=>c σ H λb H1=>if b=true then t D σ H1 else u D σ H1
theorem ux{a b:List Stmt}(hc:PT X c tc)(ha:PSs X a t)(hb:PSs X b u):PS X (.If c a b pos) (rS tc t u):=by
 intro Go s σ H D I h;refine wpAny_If (thn (hc Go s σ H _ I h) λd s1=>x3e λH1 z q1=>?_);cases d with
 | true=>exact ha Go s1 σ H1 D z q1
 | false=>exact hb Go s1 σ H1 D z q1
end
abbrev TG:=V->St->Hp->(St->Hp->Prop)->Prop
abbrev TGs:=List V->St->Hp->(St->Hp->Prop)->Prop
def PG(X:Cx)(z:Og)(t:TG):Prop :=
 ∀(Go:List (Addr×Obj))(s:KE)(σ:St)(H:Hp)(v:V)(u:Value)(Q:St->Hp->Prop),Inv X Go σ H s->zm v u->t v σ H Q ->
  N2 (N5 X.prog X.w) X.A (SQ z X.env u) (λ_ s'=>∃F H',Inv X Go F H' s'/\Q F H') X.xe s
def PGs(X:Cx)(ts:List Og)(t:TGs):Prop :=
 ∀(Go:List (Addr×Obj))(s:KE)(σ:St)(H:Hp)(vs:List V)(us:List Value)(Q:St->Hp->Prop),Inv X Go σ H s->zq vs us->t vs σ H Q ->
  N2 (N5 X.prog X.w) X.A (assignInOrder ((Pq ts X.env).map (·.2)) us) (λ_ s'=>∃z H',Inv X Go z H' s'/\Q z H') X.xe s
abbrev sh:=V->V->V->Hp->(Hp->Prop)->Prop
def nQ(X:Cx)(t:sh):Prop :=
 ∀(Go:List (Addr×Obj))(s:KE)(σ:St)(H:Hp)(o i v:V)(F z u:Value)(Q:Hp->Prop),Inv X Go σ H s->zm o F->zm i z->zm v u->t o i v H Q ->
  N2 (N5 X.prog X.w) X.A (setItem F z u) (λ_ s'=>∃H',Inv X Go σ H' s'/\Q H') X.xe s
abbrev TIp:=V->V->Hp->VK->Prop
def PIp(X:Cx)(op:Operator)(t:TIp):Prop :=
 ∀(Go:List (Addr×Obj))(s:KE)(σ:St)(H:Hp)(x y:V)(v u:Value)(Q:VK),Inv X Go σ H s->zm x v->zm y u->t x y H Q ->
  N2 (N5 X.prog X.w) X.A (inplaceOp op v u) (EP X Go σ Q) X.xe s
section
variable {X:Cx}{pos:Pos}
def cU(i:Nat):TG:=λv σ H Q=>Q (σ.set i (some v)) H
theorem xV(hN:X.N.Nodup)(hi:X.N[i]?=some x)(hx:Loc X.env.scope x)(hf:X.fn x=true\/X.env.scope.names.lookup x=some .local:=by first|exact .inl rfl|exact .inr rfl|assumption):PG X (.Name x pos) (cU i):=by
 intro Go s σ H v u Q I r h;exact wpAny_assign_Name (kh I hN hi hx r (λs' z=>{_,H,z,h}) hf)
def nH:TGs:=λvs σ H Q=>vs=[]/\Q σ H
def iu(t:TG)(u:TGs):TGs:=λvs σ H Q=>∃v r,vs=v::r/\t v σ H λz H'=>u r z H' Q
theorem gj:W (PGs X [] nH):=by
 refine {?_};intro Go s σ H vs us Q I r h;obtain ⟨e,h⟩:=h;subst e;cases r;exact assignInOrder_nil {σ,H,I,h}
theorem bz{t:TG}(h1:W (PG X e t))(h2:W (PGs X es u))(hs:(Pq (e::es) X.env).map (·.2)=SQ e X.env::(Pq es X.env).map (·.2):=by rfl):W (PGs X (e::es) (iu t u)):=by
 refine {?_};have h1:=h1.h;have h2:=h2.h;intro Go s σ H vs us Q I r h;obtain ⟨v,O,G,h⟩:=h;subst G;cases r with
 | cons r F =>
  rw [hs];refine assignInOrder_cons (thn (h1 Go s σ H _ _ _ I r h) λ_ s1=>x4e λz H1 J q1=>?_);exact h2 Go s1 z H1 _ _ Q J F q1
def mW(K:NQ)(n:Nat)(t:TGs):TG:=λv σ H Q=>∃a xs,v = .ref a/\SqT K H a xs/\xs.length=n/\t xs σ H Q
def xW(to z:TE)(t:sh):TG:=λv σ H Q=>to σ H λo H1=>z σ H1 λi H2=>t o i v H2 λH3=>Q σ H3
theorem cN{o i:Og}{to G:TE}{t:sh}(ho:W (PE X o to))(hi:W (PE X i G))(hs:nQ X t)
  (ha:∀v,SQ (.Subscript o i pos) X.env v=(do
   let z<-Qu [v] (Pa o X.env)
   let F<-Qu [v,z] (Pa i X.env)
   Qm pos
   Qu [v,z,F] (setItem z F v)
   release [v,z,F] []):=by intro _;rfl):W (PG X (.Subscript o i pos) (xW to G t)):=by
 refine {?_};have ho:=ho.h;have hi:=hi.h;intro Go s σ H v u Q I r h;rw [ha];refine we (On (thn (ho Go s σ H _ I h) λz s1=>x5e λx H1 Z r1 q1=>?_));refine we (On (thn (hi Go s1 σ H1 _ Z q1) λF s2=>x5e λy H2 O r2 S=>?_));refine we (OX (we (On (thn (hs Go s2 σ H2 x y v z F u _ O r1 r2 r S) λ_ s3=>x3e λH3 U J=>?_))));exact wpAny_release {σ,H3,U,J}
def jx(te:TE)(g:TG):TS:=λD σ H=>te σ H λx H1=>g x σ H1 D.nx
theorem cO(he:W (PE X e te))(z:W (PG X tg g))(hs:swapsWithSole [tg] e pos.line X.env=pure false:=by rfl)(hw:swappedStores [tg] e X.env=pure none:=by rfl)(h1:(Pq [tg] X.env).map (·.2)=[SQ tg X.env]:=by rfl):W (PS X (.Assign [tg] e pos) (jx te g)):=by
 refine {?_};have he:=he.h;have z:=z.h;intro Go s σ H D I h;refine wpAny_Assign_stores (thn (he Go s σ H _ I h) λv s1=>x5e λx H1 F r1 q1=>?_) hs hw;rw [h1];exact thn (z Go s1 σ H1 x v _ F r1 q1) λ_ s2 q=>q
theorem zr(hN:X.N.Nodup)(hi:X.N[i]?=some x)(hx:Loc X.env.scope x)(he:W (PE X e te))(hs:swapsWith e (some (.Name x YS)) pos.line X.env=pure false:=by rfl)(hf:X.fn x=true\/X.env.scope.names.lookup x=some .local:=by first|exact .inl rfl|exact .inr rfl|assumption):W (PS X (.Assign [.Name x YS] e pos) (jx te (cU i))):=by
 refine {?_};have he:=he.h;intro Go s σ H D I h;refine wpAny_Assign_Name (thn (he Go s σ H _ I h) λv s1=>x5e λy H1 z r1 q1=>?_) hs;exact kh z hN hi hx r1 (λs2 F=>{_,H1,F,q1}) hf
def xH(i:Nat)(te:TE)(F:TIp):TS:=λD σ H=>∃x,σ[i]?=some (some x)/\te σ H λy H1=>F x y H1 λz H2=>D.nx (σ.set i (some z)) H2
theorem M7(hN:X.N.Nodup)(hi:X.N[i]?=some x)(hx:Loc X.env.scope x)(he:W (PE X e te))(ho:PIp X op O)(hf:X.fn x=true\/X.env.scope.names.lookup x=some .local:=by first|exact .inl rfl|exact .inr rfl|assumption):W (PS X (.AugAssign (.Name x YS) op e pos) (xH i te O)):=by
 refine {?_};have he:=he.h;intro Go s σ H D I h;obtain ⟨v,e1,h⟩:=h;obtain ⟨m,U,hl⟩:=I.loc;have J:Vis X.env.scope x:=by rcases hx with k|k;exact .inl k;exact .inr (.inl k)
 obtain ⟨u,r,l⟩:=hl i x v hi e1 J;refine wpAny_AugAssign_Name ?_;have go:N2 (N5 X.prog X.w) X.A (Pa e X.env) (λw G=>N2 (N5 X.prog X.w) X.A (inplaceOp op u w) (λr s₃=>N2 (N5 X.prog X.w) X.A (storeName X.env x r) (λ_=>SP X Go D .next) X.xe s₃) X.xe G) X.xe s:=by
  refine thn (he Go s σ H _ I h) λw s1=>x5e λy H1 I1 r1 q1=>?_;refine thn (ho Go s1 σ H1 v y u w _ I1 r r1 q1) λz s2=>x5e λzv H2 Z r2 q2=>?_;exact kh Z hN hi hx r2 (λs3 I3=>{_,H2,I3,q2}) hf
 rcases l with ⟨F,hm⟩|⟨F,c,hc,S⟩
 .exact wpAny_loadName_local I.ok.kind F U hm go
 .rcases F with F|F
  .exact wpAny_loadName_cell I.ok.kind F hc S go
  .rcases hx with k|k
   .have:X.env.scope.names.lookup x=some .free:=F;rw [k] at this;cases this
   .have:X.env.scope.names.lookup x=some .free:=F;rw [k] at this;cases this
def ipI(f:Int->Int->Int):TIp:=λx y H Q=>∃i j,x = .int i/\y = .int j/\Q (.int (f i j)) H
theorem Ip:PIp X .Add (ipI λi j=>i+j):=by
 intro Go s σ H x y v u Q I r1 r2 h;obtain ⟨i,j,F,z,q⟩:=h;subst F;subst z;obtain ⟨t,rfl⟩:=r1;obtain ⟨t',rfl⟩:=r2;exact iadd_int {.int _,H,I.tok _,{_,rfl},q}
end
structure It where
 go:Nat->Hp->Prop
 aG:Nat->Hp->V->Hp->Prop
 stop:Nat->Hp->Prop
def aJ(X:Cx)(Go:List (Addr×Obj))(H:Hp)(b:Addr):Prop :=
 H b=none/\b≠X.env.locals/\b∉X.fs/\(b∈X.ex\/X.s₀.heap.objs.size<=b)/\(∀x c,X.env.cells.lookup x=some c->c≠b)/\∀p∈X.pn++Go,p.1≠b
theorem Inv.UQ{b:Addr}(I:Inv X Go σ H s)(hb:s.heap.objs.size<=b)(F:H' b=none):aJ X Go H' b:=by
 refine {F,R8 (Oi I.lt hb),I.bV hb,.inr (Ol I.sz hb),λx c e z=>?_,λp hp z=>?_}
 .obtain ⟨v,q⟩:=I.cell x c e;exact absurd (Oi q.lt (by rw [z];exact hb)) (OF _)
 .exact absurd (Oi (Os (I.pin p hp).1) (by rw [z];exact hb)) (OF _)
structure fU(c:Bool)(P:NW)(w:Oc)(K:NQ)(tg:Og)(J:It)(fp:List Addr)(it:Addr)(tn:Nat->Heap->Prop):Prop where
 mem:it∈fp
 obj:∀i h,tn i h->∀b∈fp,∃o,h.get? b=some o/\∀v,o.data≠.cell v
 keep:∀i h h',tn i h->(∀b∈fp,∀o,h.get? b=some o->h'.get? b=some o)->tn i h'
 item:∀(X:Cx),X.prog=P->X.w=w->X.K=K->(c=true->X.calm=true)->∀(i:Nat)(Go:List (Addr×Obj))(s:KE)(σ:St)(H:Hp)(E:Value->KE->Prop),Inv X Go σ H s->(∀b∈fp,aJ X Go H b)->tn i s.heap->J.go i H ->
  N2 (N5 P w) X.A (RB (.ref it)) (λr s1=>∃u,r=some u /\
   N2 (N5 P w) X.A (Qc tg (.ref it) u) (λ_ s2=>∃x H',Inv X Go σ H' s2/\zm x u/\J.aG i H x H'/\tn (i+1) s2.heap/\∀b∈fp,H' b=none) E s1) E s
 done:∀(X:Cx),X.prog=P->X.w=w->X.K=K->(c=true->X.calm=true)->∀(i:Nat)(Go:List (Addr×Obj))(s:KE)(σ:St)(H:Hp)(E:Value->KE->Prop),Inv X Go σ H s->(∀b∈fp,aJ X Go H b)->tn i s.heap->J.stop i H ->
  N2 (N5 P w) X.A (RB (.ref it)) (λr s1=>r=none/\Inv X Go σ H s1) E s
 self:∀(A:Of)(i:Nat)(s:KE)(Q:Value->KE->Prop)(E:Value->KE->Prop),tn i s.heap->Q (.ref it) s->N2 (N5 P w) A (pyIter (.ref it)) Q E s
abbrev TI:=St->Hp->(It->Hp->Prop)->Prop
def PIE(c:Bool)(X:Cx)(Go:List (Addr×Obj))(σ:St)(tg:Og)(R:It->Hp->Prop)(z:Value)(s2:KE):Prop :=
 ∃(it:Addr)(fp:List Addr)(F:Nat->Heap->Prop)(J:It)(H':Hp),z = .ref it/\Inv X Go σ H' s2/\fU c X.prog X.w X.K tg J fp it F/\F 0 s2.heap/\(∀b∈fp,aJ X Go H' b)/\R J H'
def PIc(c:Bool)(X:Cx)(tg iter:Og)(wi:TI):Prop :=
 ∀(Go:List (Addr×Obj))(s:KE)(σ:St)(H:Hp)(R:It->Hp->Prop),Inv X Go σ H s->wi σ H R ->
  N2 (N5 X.prog X.w) X.A (Pa iter X.env) (λv s1=>N2 (N5 X.prog X.w) X.A (pyIter v) (PIE c X Go σ tg R) X.xe s1) X.xe s
abbrev PI:=PIc true
theorem jl{o:Obj}(ho:s.heap.get? it=some o)(hc:o.cls = .type n)(hd:o.data = .fields vs)(F:["enumerate","zip","dict_itemiterator","dict_reverseitemiterator","odict_iterator","itertools.zip_longest","itertools.pairwise"].contains n=false)(z:Q () s):N2 M A (Qc tg (.ref it) u) Q E s:=by
 unfold Qc;cases tg<;>first
  | exact NN z
  | (cases u<;>first
    | exact NN z
    | (refine we (wpAny_load ho ?_)
       rw [hc, hd];show N2 M A (if (["enumerate", "zip", "dict_itemiterator", "dict_reverseitemiterator", "odict_iterator", "itertools.zip_longest", "itertools.pairwise"].contains n && vs[0]? == some (Pj _)) = true then _ else _) Q E s;rw [if_neg (by intro h; rw [F, Sz] at h; cases h)];exact NN z))
def Itl(K:NQ)(a:Addr):It :=
 {λi H=>∃xs x,SqL K H a xs/\xs[i]?=some x,λi H x H'=>H'=H/\∀xs,SqL K H a xs->xs[i]?=some x,λi H=>∃xs,SqL K H a xs/\xs.length<=i}
def Itt(K:NQ)(a:Addr):It :=
 {λi H=>∃xs x,SqT K H a xs/\xs[i]?=some x,λi H x H'=>H'=H/\∀xs,SqT K H a xs->xs[i]?=some x,λi H=>∃xs,SqT K H a xs/\xs.length<=i}
def Itr(lo:Int)(n:Nat):It:={λi _=>i<n,λi H x H'=>H'=H/\x = .int (lo+i),λi _=>n<=i}
theorem yA{P:NW}{w:Oc}{K:NQ}{tg:Og}(a it:Addr):fU true P w K tg (Itl K a) [it] it (λi h=>h.IsListIter it a i) where
 mem:=by simp
 obj:=λi h st b hb=>by
  have e:b=it:=by simpa using hb
  subst e;obtain ⟨o,e,c,d⟩:=st;exact {o,e,λv z=>by rw [d] at z;cases z}
 keep:=λi h h' st k=>st.at λo e=>k it 'z' o e
 item:=by
  intro X S hw hK hc i Go s σ H E I hf st W;subst S hw hK;obtain ⟨xs,x,F,hx⟩:=W;obtain ⟨Z7,O,p,hz⟩:=I.list F;obtain ⟨u,hu,ru⟩:=O.get hx;obtain ⟨U,f1,f2,J,Z,G⟩:=hf it 'z';refine wpAny_pyNext_list_item st p.isList (x:=u) (by simpa using hu) λh' Yk sb=>?_;have I1:Inv X Go σ H { s with heap:=h' }:=I.turned (t':=s.toks) (λb o hb e=>(sb.2 b hb).trans e) U f1 J Z G;obtain ⟨o,e,c,d⟩:=id Yk;exact {u,rfl,jl (s:={ s with heap:=h' }) e c d 'd' {x,H,I1,ru,{rfl,λys hy=>by rw [I.aO hy F];exact hx},Yk,λb hb=>(hf b hb).1}}
 done:=by
  intro X S hw hK hc i Go s σ H E I hf st W;subst S hw hK;obtain ⟨xs,F,hx⟩:=W;obtain ⟨Z7,O,p,hz⟩:=I.list F;obtain ⟨U,f1,f2,J,Z,G⟩:=hf it 'z';have hl:=O.length;exact wpAny_pyNext_list_end (I.ok.hd (hc rfl)) st p.isList (by simp;lia) λh' eb=>{rfl,I.turned (t':=s.toks) (λb o hb e=>eb b o hb e) U f1 J Z G}
 self:=λ_ _ _ _ _ st h=>wpAny_pyIter_listiter st h
theorem vw{P:NW}{w:Oc}{K:NQ}{tg:Og}(a it:Addr):fU true P w K tg (Itt K a) [it] it (λi h=>h.IsTupleIter it a i) where
 mem:=by simp
 obj:=λi h st b hb=>by
  have e:b=it:=by simpa using hb
  subst e;obtain ⟨o,e,c,d⟩:=st;exact {o,e,λv z=>by rw [d] at z;cases z}
 keep:=λi h h' st k=>st.at λo e=>k it 'z' o e
 item:=by
  intro X S hw hK hc i Go s σ H E I hf st W;subst S hw hK;obtain ⟨xs,x,F,hx⟩:=W;obtain ⟨Z7,O,p,hz⟩:=I.tuple F;obtain ⟨u,hu,ru⟩:=O.get hx;obtain ⟨U,f1,f2,J,Z,G⟩:=hf it 'z';refine wpAny_pyNext_tuple_item st (show s.heap.IsTuple a Z7.toArray from p) (x:=u) (by simpa using hu) λh' Yk sb=>?_;have I1:Inv X Go σ H { s with heap:=h' }:=I.turned (t':=s.toks) (λb o hb e=>(sb.2 b hb).trans e) U f1 J Z G;obtain ⟨o,e,c,d⟩:=id Yk;exact {u,rfl,jl (s:={ s with heap:=h' }) e c d 'd' {x,H,I1,ru,{rfl,λys hy=>by rw [I.ae hy F];exact hx},Yk,λb hb=>(hf b hb).1}}
 done:=by
  intro X S hw hK hc i Go s σ H E I hf st W;subst S hw hK;obtain ⟨xs,F,hx⟩:=W;obtain ⟨Z7,O,p,hz⟩:=I.tuple F;obtain ⟨U,f1,f2,J,Z,G⟩:=hf it 'z';have hl:=O.length;exact wpAny_pyNext_tuple_end (I.ok.hd (hc rfl)) st (show s.heap.IsTuple a Z7.toArray from p) (by simp;lia) λh' eb=>{rfl,I.turned (t':=s.toks) (λb o hb e=>eb b o hb e) U f1 J Z G}
 self:=λ_ _ _ _ _ st h=>wpAny_pyIter_tupleiter st h
theorem Ee{P:NW}{w:Oc}{K:NQ}{tg:Og}(it:Addr)(lo:Int)(n:Nat):fU true P w K tg (Itr lo n) [it] it (λi h=>IsRangeIter h it (lo+(i:Nat)*1) ((n:Int)-(i:Nat)) 1) where
 mem:=by simp
 obj:=λi h st b hb=>by
  have e:b=it:=by simpa using hb
  subst e;exact {_,st,λv z=>by
   have z':Data.fields _=Data.cell v:=z;cases z'}
 keep:=λi h h' st k=>k it 'z' _ st
 item:=by
  intro X F hw U hc i Go s σ H E I hf st Z;subst F hw U;obtain ⟨J,O,f2,S,f4,G⟩:=hf it 'z';have W:=Walks.range (prog:=X.prog) (w:=X.w) (I.ok.hd (hc rfl)) it lo 1 n;refine W.item i s _ _ Z st λv h' tk hv Yk kk=>?_;obtain ⟨t,rfl⟩:=hv;have I1:Inv X Go σ H { s with heap:=h',toks:=tk }:=I.turned (λb o hb e=>kk b o (by simpa using hb) e) J O S f4 G;refine {_,rfl,jl (s:={ s with heap:=h',toks:=tk }) (n:="range_iterator") Yk rfl rfl 'd' {.int (lo+i),H,I1,{t,?_},{rfl,rfl},Yk,λb hb=>(hf b hb).1}};rw [Int.mul_one]
 done:=by
  intro X F hw U hc i Go s σ H E I hf st Z;subst F hw U;obtain ⟨J,O,f2,S,f4,G⟩:=hf it 'z';exact wpAny_pyNext_range_end (I.ok.hd (hc rfl)) st (by have:n<=i:=Z;lia) λh' eb=>{rfl,I.turned (t':=s.toks) (λb o hb e=>eb b o hb e) J O S f4 G}
 self:=λ_ _ _ _ _ st h=>wpAny_pyIter_rangeiter st h
section
variable {X:Cx}{tg:Og}
def qm(K:NQ)(tl:TE):TI:=λσ H R=>tl σ H λx H1=>∃a,x = .ref a/\(∃xs,SqL K H1 a xs)/\R (Itl K a) H1
def j4(K:NQ)(tl:TE):TI:=λσ H R=>tl σ H λx H1=>∃a,x = .ref a/\(∃xs,SqT K H1 a xs)/\R (Itt K a) H1
theorem cQ(hl:W (PE X l tl)):W (PI X tg l (qm X.K tl)):=by
 refine {?_};have hl:=hl.h;intro Go s σ H R I h;refine thn (hl Go s σ H _ I h) λv s1=>x5e λx H1 z r1 q1=>?_;obtain ⟨a,e,⟨xs,F⟩,q⟩:=q1;subst e;cases r1;obtain ⟨J,G,p,hz⟩:=z.list F;refine Rx p.isList ?_;refine {s1.heap.objs.size,[s1.heap.objs.size],_,_,H1,rfl,z.kept (t':=s1.toks) λb o e=>NP _ e,yA a _,{_,N7 _ rfl,rfl,rfl},λb hb=>?_,q};have e:b=s1.heap.objs.size:=by simpa using hb
 subst e;exact z.UQ (NV _) (z.hok.fresh (NV _))
theorem BE(hl:PE X l tl):PI X tg l (j4 X.K tl):=by
 intro Go s σ H R I h;refine thn (hl Go s σ H _ I h) λv s1=>x5e λx H1 z r1 q1=>?_;obtain ⟨a,e,⟨xs,F⟩,q⟩:=q1;subst e;cases r1;obtain ⟨G,J,p,hz⟩:=z.tuple F;refine wpAny_pyIter_tuple (show s1.heap.IsTuple a G.toArray from p) ?_;refine {s1.heap.objs.size,[s1.heap.objs.size],_,_,H1,rfl,z.kept (t':=s1.toks) λb o e=>NP _ e,vw a _,{_,N7 _ rfl,rfl,rfl},λb hb=>?_,q};have e:b=s1.heap.objs.size:=by simpa using hb
 subst e;exact z.UQ (NV _) (z.hok.fresh (NV _))
theorem JE{lo hi:Int}{t u v:Tok}(I:Inv X Go σ H s)(h1 : -(2 ^ 62)<=lo)(h2:lo<2 ^ 62)(h3 : -(2 ^ 62)<=hi)(h4:hi<2 ^ 62)(q:R (Itr lo (hi-lo).toNat) H):N2 (N5 X.prog X.w) X.A (pyIter (.ref s.heap.objs.size)) (PIE true X Go σ tg R) E { s with heap:=s.heap.push { cls:=.type "range",data:=.fields #[.int lo t,.int hi u,.int 1 v] },toks:=tk }:=by
 refine wpAny_pyIter_range (IsRange.new ..) (small_one h1 h2 h3 h4) ?_;have z:Inv X Go σ H { s with heap:=s.heap.push { cls:=.type "range",data:=.fields #[.int lo t,.int hi u,.int 1 v] },toks:=tk }:=I.kept λb o e=>NP _ e;refine {(s.heap.push { cls:=.type "range",data:=.fields #[.int lo t,.int hi u,.int 1 v] }).objs.size,[(s.heap.push { cls:=.type "range",data:=.fields #[.int lo t,.int hi u,.int 1 v] }).objs.size],_,_,H,rfl,
  z.kept (t':=tk) λb o e=>NP _ e,Ee _ lo (hi-lo).toNat,?_,λb hb=>?_,q}
 .have G:lo+((0:Nat):Int)*1=lo:=by simp
  have F:(((hi-lo).toNat:Nat):Int)-((0:Nat):Int)=N9.Range.rangeSize lo hi 1:=by rw [rangeSize_one];split<;>lia
  show IsRangeIter _ _ (lo+((0:Nat):Int)*1) ((((hi-lo).toNat:Nat):Int)-((0:Nat):Int)) 1;rw [G,F];exact N7 _ rfl
 .have e:b=(s.heap.push { cls:=.type "range",data:=.fields #[.int lo t,.int hi u,.int 1 v] }).objs.size:=by simpa using hb
  subst e;exact z.UQ (NV _) (z.hok.fresh (NV _))
def nO(ta:TA):TI:=λσ H R=>ta σ H λvs H1=>∃j:Int,vs=[.int j]/\-(2 ^ 62)<=j/\j<2 ^ 62/\R (Itr 0 j.toNat) H1
theorem K9{a:Og}{p pos:Pos}(G:Gl X "range")(hm:X.mg "range"=none)(ha:PA X [a] ta)(hs:Om [a] X.env=[(false,Pa a X.env)]:=by rfl):PI X tg (.Call (.Name "range" p) [a] [] pos) (nO ta):=by
 intro Go s σ H R I h;refine Call_ (iP I G hm boot_range (QX (thn (ha pos Go s σ H _ I h) λus s1=>x5e λvs H1 z r1 q1=>?_) hs rfl));obtain ⟨j,e,q1,J,q⟩:=q1;subst e;cases r1 with
 | cons r F =>
  cases F;obtain ⟨t,rfl⟩:=r;exact call_range_1 (JE z 'l' 'l' q1 J (by simpa using q))
def yJ(wi:TI)(g:TG)(tb:TS):TS:=λD σ H=>wi σ H λJ H1=>∃W:Nat->Nat->St->Hp->Prop,(∃m,W 0 m σ H1)/\∀i m σ H,W i m σ H ->
 (J.stop i H/\D.nx σ H)\/(J.go i H/\∃N:St->Hp->Prop,(∀z H',N z H'->∃G,G<m/\W (i+1) G z H')/\∀x H',J.aG i H x H'->g x σ H' λF H2=>tb { D with nx:=N,ct:=N,bk:=D.nx } F H2)
def gY(fp:List Addr)(h:Heap):List (Addr×Obj):=fp.filterMap λb=>(h.get? b).map λo=>(b,o)
theorem gA{b:Addr}{o:Obj}(hb:b∈fp)(e:h.get? b=some o):(b,o)∈gY fp h:=Ro.mpr {b,hb,by rw [e];rfl}
theorem nV{p:Addr×Obj}(hp:p∈gY fp h):p.1∈fp/\h.get? p.1=some p.2:=by
 obtain ⟨b,hb,e⟩:=Ro.mp hp;cases q:h.get? b with
 | none=>rw [q] at e;cases e
 | some o =>
  rw [q] at e;have z:(b,o)=p:=OG.inj e;subst z;exact ⟨hb,q⟩
theorem Inv.pinned(I:Inv X Go σ H s)(hf:∀b∈fp,aJ X Go H b)(ho:∀b∈fp,∃o,s.heap.get? b=some o/\∀v,o.data≠.cell v):Inv X (Go++gY fp s.heap) σ H s :=
 I.ti λp hp=>(Ox.mp hp).elim (λz=>I.pin p (NY _ z)) λz=>by
  obtain ⟨hb,e⟩:=nV z;obtain ⟨G,O,J,_⟩:=hf p.1 hb;obtain ⟨o,F,d⟩:=ho p.1 hb;rw [e] at F;cases F;exact ⟨e,G,O,J,d⟩
theorem Inv.ro(I:Inv X (Go++pl) σ H s):Inv X Go σ H s:=I.ti λp hp=>I.pin p (NY _ (Oo _ hp))
theorem bI(hp:PN (N5 X.prog X.w) X.A X.env X.xe)(hc:c=true->X.calm=true)(hi:W (PIc c X tg iter wi))(hg:W (PG X tg g))(hb:W (PSs X Zu tb))(hs:∀x,OK iter X.env x=pure x:=by intro _;rfl):W (PS X (.For tg iter Zu [] pos) (yJ wi g tb)):=by
 refine {?_};have hi:=hi.h;have hg:=hg.h;have hb:=hb.h;intro Go s σ H D I h;refine wpAny_For (thn (hi Go s σ H _ I h) λv s1 h1=>thn h1 λa4 s2 h2=>?_) hs;obtain ⟨it,fp,tn,J,H2,e,I2,T,aI,f2,W,⟨m0,w0⟩,Yf⟩:=h2;subst e;have G:∀{H':Hp},(∀b∈fp,H' b=none)->∀b∈fp,aJ X Go H' b:=λhn b hb=>{hn b hb,(f2 b hb).2};refine codeAny_forLoop_any (λn s'=>∃i S H',Inv X Go S H' s'/\tn i s'.heap/\(∀b∈fp,H' b=none)/\W i n S H') ?_ m0 {0,σ,H2,I2,aI,λb hb=>(f2 b hb).1,w0};rintro n s3 ⟨i,F,H3,I3,ak,av,w3⟩;rcases Yf i n F H3 w3 with ⟨stop,qn⟩|⟨go,N,hN,step⟩
 .refine Ri hp (thn (T.done X rfl rfl rfl hc i Go s3 F H3 X.xe I3 (G av) ak stop) λr s4=>x2e λhr I4=>?_);subst hr;exact Rj ⟨F,H3,I4,qn⟩
 .refine Ri hp (thn (T.item X rfl rfl rfl hc i Go s3 F H3 X.xe I3 (G av) ak go) λr s4=>x3e λu hr h4=>?_);subst hr;refine Ri hp (thn h4 λ_ s5=>x5e λx H5 I5 r5 YF=>?_);obtain ⟨y5,Z,ax⟩:=YF;have a3:=I5.pinned (G ax) (T.obj _ _ Z);refine Ri hp (thn (hg _ s5 F H5 x u _ a3 r5 (step x H5 y5)) λ_ s6=>x4e λa0 H6 I6 q6=>?_);refine Ri hp (thn (hb _ s6 a0 H6 _ I6 q6) λf s7 U=>?_);have again:∀{z:St}{H7:Hp},Inv X (Go++gY fp s5.heap) z H7 s7->N z H7->∃m,m<n/\∃i S H',Inv X Go S H' s7/\tn i s7.heap/\(∀b∈fp,H' b=none)/\W i m S H':=λ{z H7} O n7=>by
   obtain ⟨m',hm,w7⟩:=hN z H7 n7;refine {m',hm,i+1,z,H7,O.ro,T.keep _ _ _ Z λb hb o e=>(O.pin (b,o) (NY _ (NY _ (gA hb e)))).1,λb hb=>?_,w7};obtain ⟨o,e,d⟩:=T.obj _ _ Z b hb;exact (O.pin (b,o) (NY _ (NY _ (gA hb e)))).2.1
  cases f with
  | next=>obtain ⟨z,H7,O,n7⟩:=U;exact again O n7
  | cont=>obtain ⟨z,H7,O,n7⟩:=U;exact again O n7
  | brk=>obtain ⟨z,H7,O,U⟩:=U;exact ⟨z,H7,O.ro,U⟩
  | ret v=>obtain ⟨x7,z,H7,O,r7,U⟩:=U;exact ⟨x7,z,H7,O.ro,r7,U⟩
end
theorem LN{K:NQ}{a:Addr}{g:TG}{tb:TS}{D:bo}(z:Nat->St->Hp->Prop)(U:z 0 σ H)(hl:∀i σ H,i<=xs.length->z i σ H->SqL K H a xs)(hs:∀i x σ H,xs[i]?=some x->z i σ H->g x σ H λF H2=>tb { D with nx:=z (i+1),ct:=z (i+1),bk:=D.nx } F H2)(hd:∀σ H,z xs.length σ H->D.nx σ H):
  ∃W:Nat->Nat->St->Hp->Prop,(∃m,W 0 m σ H)/\∀i m σ H,W i m σ H ->
   ((Itl K a).stop i H/\D.nx σ H)\/((Itl K a).go i H/\∃N:St->Hp->Prop,(∀G H',N G H'->∃J,J<m/\W (i+1) J G H')/\∀x H',(Itl K a).aG i H x H'->g x σ H' λF H2=>tb { D with nx:=N,ct:=N,bk:=D.nx } F H2):=by
 refine {λi m σ H=>m=xs.length-i/\i<=xs.length/\z i σ H,{xs.length,'z',O9 _,U},?_};rintro i m σ H ⟨rfl,hi,p⟩;have q:=hl i σ H hi p;by_cases O:i<xs.length
 .refine .inr {{xs,xs[i],q,by simp [O]},z (i+1),λG H' S=>{xs.length-(i+1),'l',rfl,O,S},λx H' y=>?_};obtain ⟨e,y⟩:=y;subst e;exact hs i x σ _ (y xs q) p
 .have e:i=xs.length:=by lia
  subst e;exact .inl {{xs,q,NV _},hd σ H p}
theorem Lc{lo:Int}{g:TG}{tb:TS}{D:bo}(z:Nat->St->Hp->Prop)(U:z 0 σ H)(hs:∀i σ H,i<n->z i σ H->g (.int (lo+i)) σ H λF H2=>tb { D with nx:=z (i+1),ct:=z (i+1),bk:=D.nx } F H2)(hd:∀σ H,z n σ H->D.nx σ H):
  ∃W:Nat->Nat->St->Hp->Prop,(∃m,W 0 m σ H)/\∀i m σ H,W i m σ H ->
   ((Itr lo n).stop i H/\D.nx σ H)\/((Itr lo n).go i H/\∃N:St->Hp->Prop,(∀G H',N G H'->∃O,O<m/\W (i+1) O G H')/\∀x H',(Itr lo n).aG i H x H'->g x σ H' λF H2=>tb { D with nx:=N,ct:=N,bk:=D.nx } F H2):=by
 refine {λi m σ H=>m=n-i/\i<=n/\z i σ H,{n,'z',O9 _,U},?_};rintro i m σ H ⟨rfl,hi,p⟩;by_cases J:i<n
 .refine .inr {J,z (i+1),λG H' S=>{n-(i+1),'l',rfl,J,S},λx H' y=>?_};obtain ⟨e,y⟩:=y;subst e y;exact hs i σ _ J p
 .have e:i=n:=by lia
  subst e;exact .inl {NV _,hd σ H p}
abbrev R2:=V->V->Hp->VK->Prop
def OpR(X:Cx)(f:Value->Value->Sem Value)(r:R2):Prop :=
 ∀(Go:List (Addr×Obj))(s:KE)(σ:St)(H:Hp)(x y:V)(v u:Value)(Q:VK),Inv X Go σ H s->zm x v->zm y u->r x y H Q ->
  N2 (N5 X.prog X.w) X.A (f v u) (EP X Go σ Q) X.xe s
def UnR(X:Cx)(f:Value->Sem Value)(r:V->Hp->VK->Prop):Prop :=
 ∀(Go:List (Addr×Obj))(s:KE)(σ:St)(H:Hp)(x:V)(v:Value)(Q:VK),Inv X Go σ H s->zm x v->r x H Q ->
  N2 (N5 X.prog X.w) X.A (f v) (EP X Go σ Q) X.xe s
def zU(X:Cx)(f:Value)(r:List V->Hp->VK->Prop):Prop :=
 ∀(Go:List (Addr×Obj))(s:KE)(σ:St)(H:Hp)(xs:List V)(us:List Value)(Q:VK),Inv X Go σ H s->zq xs us->r xs H Q ->
  N2 (N5 X.prog X.w) X.A (call f us) (EP X Go σ Q) X.xe s
def Fz(X:Cx)(r:V->Hp->(Bool->Hp->Prop)->Prop):Prop :=
 ∀(Go:List (Addr×Obj))(s:KE)(σ:St)(H:Hp)(x:V)(v:Value)(Q:Bool->Hp->Prop),Inv X Go σ H s->zm x v->r x H Q ->
  N2 (N5 X.prog X.w) X.A (truthy v) (TP X Go σ Q) X.xe s
def tOp(r:R2)(ta tb:TE):TE:=λσ H Q=>ta σ H λx H1=>tb σ H1 λy H2=>r x y H2 Q
def tUn(r:V->Hp->VK->Prop)(ta:TE):TE:=λσ H Q=>ta σ H λx H1=>r x H1 Q
def rI(C:Int->Int->Prop)(g:Int->Int->V):R2:=λx y H Q=>∃i j,x = .int i/\y = .int j/\C i j/\Q (g i j) H
def rI0(g:Int->Int->V):R2:=λx y H Q=>∃i j,x = .int i/\y = .int j/\Q (g i j) H
def rU(g:Int->V):V->Hp->VK->Prop:=λx H Q=>∃i,x = .int i/\Q (g i) H
section
variable {X:Cx}{a b c:Og}{ta tb tc:TE}{pos:Pos}
theorem rW(ha:PE X a ta)(hb:PE X b tb){R:V->V->Hp->Prop}(I:Inv X Go σ H s)(h:ta σ H λx H1=>tb σ H1 λy H2=>R x y H2){f:Value->Value->Sem Value}(hf:∀v u s2 x y H2,Inv X Go σ H2 s2->zm x v->zm y u->R x y H2->N2 (N5 X.prog X.w) X.A (f v u) Q X.xe s2):
  N2 (N5 X.prog X.w) X.A (Pa a X.env) (λv s₁=>N2 (N5 X.prog X.w) X.A (Pa b X.env) (λu z=>N2 (N5 X.prog X.w) X.A (f v u) Q X.xe z) X.xe s₁) X.xe s:=by
 refine thn (ha Go s σ H _ I h) λv s1=>x5e λx H1 F r1 q1=>?_;refine thn (hb Go s1 σ H1 _ F q1) λu s2=>x5e λy H2 G r2 J=>?_;exact hf v u s2 x y H2 G r1 r2 J
theorem zD{r:R2}(ho:OpR X (PQ op) r)(ha:W (PE X a ta))(hb:W (PE X b tb)):W (PE X (.BinOp a op b pos) (tOp r ta tb)):=by
 refine {?_};have ha:=ha.h;have hb:=hb.h;intro Go s σ H Q I h;exact wpAny_BinOp (rW ha hb I h λv u s2 x y H2 F z G q=>ho Go s2 σ H2 x y v u Q F z G q)
theorem kY{r:V->Hp->VK->Prop}(ho:UnR X (unaryOp op) r)(ha:W (PE X a ta)):W (PE X (.UnaryOp op a pos) (tUn r ta)):=by
 refine {?_};have ha:=ha.h;intro Go s σ H Q I h;exact UnaryOp_ (thn (ha Go s σ H _ I h) λv s1=>x5e λx H1 z r1 q1=>ho Go s1 σ H1 x v Q z r1 q1)
theorem opI{g:Int->Int->Int}(rule:∀(i j:Int)(t u:Tok)(s:KE)(Q:Value->KE->Prop)(E:Value->KE->Prop),C i j->Q (.int (g i j) s.toks) { s with toks:=s.toks+1 }->N2 (N5 X.prog X.w) X.A (f (.int i t) (.int j u)) Q E s):
  OpR X f (rI C λi j=>.int (g i j)):=by
 intro Go s σ H x y v u Q I z F h;obtain ⟨i,j,rfl,rfl,hc,q⟩:=h;obtain ⟨t,rfl⟩:=z;obtain ⟨t',rfl⟩:=F;exact rule i j t t' s _ _ hc {.int (g i j),H,I.tok _,{_,rfl},q}
theorem tR{g:Int->Int->Int}(rule:∀(i j:Int)(t u:Tok)(s:KE)(Q:Value->KE->Prop)(E:Value->KE->Prop),Q (.int (g i j) s.toks) { s with toks:=s.toks+1 }->N2 (N5 X.prog X.w) X.A (f (.int i t) (.int j u)) Q E s):
  OpR X f (rI0 λi j=>.int (g i j)):=by
 intro Go s σ H x y v u Q I z F h;obtain ⟨i,j,rfl,rfl,q⟩:=h;obtain ⟨t,rfl⟩:=z;obtain ⟨t',rfl⟩:=F;exact rule i j t t' s _ _ {.int (g i j),H,I.tok _,{_,rfl},q}
theorem ou{g:Int->Int->Bool}(rule:∀(i j:Int)(t u:Tok)(s:KE)(Q:Value->KE->Prop)(E:Value->KE->Prop),Q (.bool (g i j)) s->N2 (N5 X.prog X.w) X.A (f (.int i t) (.int j u)) Q E s):
  OpR X f (rI0 λi j=>.bl (g i j)):=by
 intro Go s σ H x y v u Q I z F h;obtain ⟨i,j,rfl,rfl,q⟩:=h;obtain ⟨t,rfl⟩:=z;obtain ⟨t',rfl⟩:=F;exact rule i j t t' s _ _ {.bl (g i j),H,I,rfl,q}
def Ky(i j:Int):Prop:=0<j/\j<1073741824
def HV(i j:Int):Prop:=0<=j/\j<=1000000/\i.natAbs<2 ^ 64
def ie(i j:Int):Prop:=(-(2 ^ 64)<i/\i<2 ^ 64)\/(-(2 ^ 64)<j/\j<2 ^ 64)
theorem ie.ok(h:ie i j):IntMulOk i j:=by
 rcases h with ⟨h1,h2⟩|⟨h1,h2⟩
 .exact .of_left (intBits_le_64 h1 h2)
 .exact .of_right (intBits_le_64 h1 h2)
theorem Je:OpR X (PQ .Add) (rI0 λi j=>.int (i+j)):=tR λ_ _ _ _ _ _ _ q=>add_int q
theorem ju:OpR X (PQ .Sub) (rI0 λi j=>.int (i-j)):=tR λ_ _ _ _ _ _ _ q=>sub_int q
theorem FA:OpR X (PQ .Mult) (rI ie λi j=>.int (i*j)):=opI λ_ _ _ _ _ _ _ hc q=>mul_int q hc.ok
theorem oQ:OpR X (PQ .FloorDiv) (rI Ky λi j=>.int (i / j)):=opI λi j _ _ _ _ _ hc q=>by
 have h1:(0:Int)<j:=hc.1;have h2:j<1073741824:=hc.2;exact floordiv_int 'l' (by rw [Int.fdiv_eq_ediv_of_nonneg i 'l'];exact q) (.inl (PyProof.noPylong_small 'l'))
theorem fQ:OpR X (PQ .Mod) (rI (λ_ j=>0<j) λi j=>.int (i % j)):=opI λi j _ _ _ _ _ hc q=>by
 have h1:(0:Int)<j:=hc;exact mod_int' 'l' (by rw [Int.fmod_eq_emod_of_nonneg i 'l'];exact q)
theorem oR:OpR X (PQ .Pow) (rI HV λi j=>.int (i ^ j.toNat)):=opI λ_ _ _ _ _ _ _ hc q=>pow_int_small hc.1 hc.2.1 hc.2.2 q
theorem unI{g:Int->Int}(rule:∀(i:Int)(t:Tok)(s:KE)(Q:Value->KE->Prop)(E:Value->KE->Prop),Q (.int (g i) s.toks) { s with toks:=s.toks+1 }->N2 (N5 X.prog X.w) X.A (f (.int i t)) Q E s):
  UnR X f (rU λi=>.int (g i)):=by
 intro Go s σ H x v Q I z h;obtain ⟨i,rfl,q⟩:=h;obtain ⟨t,rfl⟩:=z;exact rule i t s _ _ {.int (g i),H,I.tok _,{_,rfl},q}
theorem mI:UnR X (unaryOp .USub) (rU λi=>.int (-i)):=unI λ_ _ _ _ _ q=>neg_int q
def gQ:V->V->Bool
 | .non,.non=>true | .non,.int _=>true | .int _,.non=>true | .non,.bl _=>true | .bl _,.non=>true | .non,.str _=>true | .str _,.non=>true
 | .int _,.int _=>true | .bl _,.bl _=>true | .str _,.str _=>true | .byt _,.byt _=>true
 | .int _,.str _=>true | .str _,.int _=>true | .bl _,.str _=>true | .str _,.bl _=>true
 | _,_=>false
def rEq:R2:=λx y H Q=>gQ x y=true/\Q (.bl (decide (x=y))) H
def rNe:R2:=λx y H Q=>gQ x y=true/\Q (.bl (!decide (x=y))) H
theorem tq:decide (V.int i=V.int j)=(i==j):=by
 rw [Qd];simp
theorem yO:decide (V.bl i=V.bl j)=(i==j):=by
 rw [Qd];simp
theorem Bk:decide (V.str i=V.str j)=(i==j):=by
 rw [Qd];simp
theorem AW:decide (V.byt i=V.byt j)=(i.toList==j.toList):=by
 rw [Qd];cases i;cases j;simp
theorem aj{k k':Bool}(I:Inv X Go σ H s)(q:Q (.bl k) H)(e:k=k'):EP X Go σ Q (.bool k') s:=by
 subst e;exact {.bl k,H,I,rfl,q}
theorem Fl:OpR X (OV .Eq) rEq:=by
 intro Go s σ H x y v u Q I F z h;obtain ⟨hs,q⟩:=h;cases x with
 | non =>
  cases F;cases y with
  | non=>cases z;exact PySem.EqNone.eq_none_none (aj I q 'z')
  | bl j=>cases z;exact PySem.EqNone.eq_none_bool (aj I q 'z')
  | int j=>obtain ⟨t',rfl⟩:=z;exact PySem.EqNone.eq_none_int (aj I q 'z')
  | str j=>obtain ⟨t',rfl⟩:=z;exact PySem.EqNone.eq_none_str (aj I q 'z')
  | _=>exact absurd (show false=true from hs) N8
 | bl i =>
  cases F;cases y with
  | non=>cases z;exact PySem.EqNone.eq_bool_none (aj I q 'z')
  | bl j=>cases z;exact eq_bool (aj I q yO)
  | str j=>obtain ⟨t',rfl⟩:=z;exact PySem.EqMixed.eq_bool_str (aj I q 'z')
  | _=>exact absurd (show false=true from hs) N8
 | int i =>
  obtain ⟨t,rfl⟩:=F;cases y with
  | non=>cases z;exact PySem.EqNone.eq_int_none (aj I q 'z')
  | int j=>obtain ⟨t',rfl⟩:=z;exact eq_int (aj I q tq)
  | str j=>obtain ⟨t',rfl⟩:=z;exact PySem.EqMixed.eq_int_str (aj I q 'z')
  | _=>exact absurd (show false=true from hs) N8
 | str i =>
  obtain ⟨t,rfl⟩:=F;cases y with
  | non=>cases z;exact PySem.EqNone.eq_str_none (aj I q 'z')
  | bl j=>cases z;exact PySem.EqMixed.eq_str_bool (aj I q 'z')
  | int j=>obtain ⟨t',rfl⟩:=z;exact PySem.EqMixed.eq_str_int (aj I q 'z')
  | str j=>obtain ⟨t',rfl⟩:=z;exact eq_str (aj I q Bk)
  | _=>exact absurd (show false=true from hs) N8
 | byt i =>
  obtain ⟨t,rfl⟩:=F;cases y with
  | byt j=>obtain ⟨t',rfl⟩:=z;exact PySem.W.eq_bytes (aj I q AW)
  | _=>exact absurd (show false=true from hs) N8
 | _=>cases y<;>exact absurd (show false=true from hs) N8
theorem E9:OpR X (OV .NotEq) rNe:=by
 intro Go s σ H x y v u Q I F z h;obtain ⟨hs,q⟩:=h;cases x with
 | non =>
  cases F;cases y with
  | non=>cases z;exact PySem.EqNone.ne_none_none (aj I q 'z')
  | bl j=>cases z;exact PySem.EqNone.ne_none_bool (aj I q 'z')
  | int j=>obtain ⟨t',rfl⟩:=z;exact PySem.EqNone.ne_none_int (aj I q 'z')
  | str j=>obtain ⟨t',rfl⟩:=z;exact PySem.EqNone.ne_none_str (aj I q 'z')
  | _=>exact absurd (show false=true from hs) N8
 | bl i =>
  cases F;cases y with
  | non=>cases z;exact PySem.EqNone.ne_bool_none (aj I q 'z')
  | bl j=>cases z;exact ne_bool (aj I q (congrArg not yO))
  | str j=>obtain ⟨t',rfl⟩:=z;exact PySem.EqMixed.ne_bool_str (aj I q 'z')
  | _=>exact absurd (show false=true from hs) N8
 | int i =>
  obtain ⟨t,rfl⟩:=F;cases y with
  | non=>cases z;exact PySem.EqNone.ne_int_none (aj I q 'z')
  | int j=>obtain ⟨t',rfl⟩:=z;exact ne_int (aj I q (congrArg not tq))
  | str j=>obtain ⟨t',rfl⟩:=z;exact PySem.EqMixed.ne_int_str (aj I q 'z')
  | _=>exact absurd (show false=true from hs) N8
 | str i =>
  obtain ⟨t,rfl⟩:=F;cases y with
  | non=>cases z;exact PySem.EqNone.ne_str_none (aj I q 'z')
  | bl j=>cases z;exact PySem.EqMixed.ne_str_bool (aj I q 'z')
  | int j=>obtain ⟨t',rfl⟩:=z;exact PySem.EqMixed.ne_str_int (aj I q 'z')
  | str j=>obtain ⟨t',rfl⟩:=z;exact ne_str (aj I q (congrArg not Bk))
  | _=>exact absurd (show false=true from hs) N8
 | byt i =>
  obtain ⟨t,rfl⟩:=F;cases y with
  | byt j=>obtain ⟨t',rfl⟩:=z;exact PySem.W.ne_bytes (aj I q (congrArg not AW))
  | _=>exact absurd (show false=true from hs) N8
 | _=>cases y<;>exact absurd (show false=true from hs) N8
theorem mL:OpR X (OV .Lt) (rI0 λi j=>.bl (decide (i<j))):=ou λ_ _ _ _ _ _ _ q=>lt_int q
theorem jm:OpR X (OV .LtE) (rI0 λi j=>.bl (decide (i<=j))):=ou λ_ _ _ _ _ _ _ q=>le_int q
theorem gB:OpR X (OV .Gt) (rI0 λi j=>.bl (decide (j<i))):=ou λ_ _ _ _ _ _ _ q=>gt_int q
theorem GL:OpR X (OV .In) (λx y H Q=>∃i j,x = .str i/\y = .str j/\Q (.bl (!(N9.Str.occurrences j i 0 j.length 1).isEmpty)) H):=by
 intro Go s σ H x y v u Q I z F h;obtain ⟨i,j,rfl,rfl,q⟩:=h;obtain ⟨t,rfl⟩:=z;obtain ⟨t',rfl⟩:=F;exact in_str (aj I q rfl)
theorem EZ:OpR X (OV .Is) (λx y H Q=>y = .non/\Q (.bl (decide (x = .non))) H):=by
 intro Go s σ H x y v u Q I z F h;obtain ⟨rfl,q⟩:=h;cases F;refine is_none_gen (aj I q ?_);cases x<;>first
  | (cases z;rfl)
  | (obtain ⟨t,rfl⟩:=z;rfl)
theorem OpR.or{r r':R2}(h:OpR X f r)(h':OpR X f r'):OpR X f (λx y H Q=>r x y H Q\/r' x y H Q):=by
 intro Go s σ H x y v u Q I z F q;rcases q with q|q
 .exact h Go s σ H x y v u Q I z F q
 .exact h' Go s σ H x y v u Q I z F q
theorem zE(b:Og)(h:op≠.In:=by decide)(h2:op≠.NotIn:=by decide):RY op b=false:=by
 have F:(op==CmpOp.In)=false:=by cases op<;>first|rfl|exact absurd rfl h
 have z:(op==CmpOp.NotIn)=false:=by cases op<;>first|rfl|exact absurd rfl h2
 cases b<;>simp [RY,F,z]
theorem fk{r:R2}(ho:OpR X (OV op) r)(ha:W (PE X a ta))(hb:W (PE X b tb))(hm:RY op b=false):W (PE X (.Compare a [op] [b] pos) (tOp r ta tb)):=by
 refine {?_};have ha:=ha.h;have hb:=hb.h;intro Go s σ H Q I h;exact wpAny_Compare1 (rW ha hb I h λv u s2 x y H2 F z G q=>ho Go s2 σ H2 x y v u Q F z G q) hm
def mO(t:TE):TT:=λσ H Q=>t σ H λx H'=>∃k,x = .bl k/\Q k H'
theorem ye{r:R2}(ho:OpR X (OV op) r)(ha:PE X a ta)(hb:PE X b tb)(hm:RY op b=false):PT X (.Compare a [op] [b] pos) (mO (tOp r ta tb)):=by
 intro Go s σ H Q I h;refine wpAny_isTrue_Compare1 (thn (ha Go s σ H _ I h) λv s1=>x5e λx H1 U r1 q1=>thn (hb Go s1 σ H1 _ U q1) λu s2=>x5e λy H2 J r2 O =>
  thn (ho Go s2 σ H2 x y v u _ J r1 r2 O) λc Z=>x5e λz H3 G S W=>?_) hm
 obtain ⟨k,e,F⟩:=W;subst e;cases S;exact PH ⟨H3,G,F⟩
def xm(r r':R2)(ta tb tc:TE):TE:=λσ H Q=>ta σ H λx H1=>tb σ H1 λy H2=>r x y H2 λz H3=>∃k,z = .bl k /\
 (if k=true then tc σ H3 λw' H4=>r' y w' H4 Q else Q (.bl false) H3)
theorem A9{r r':R2}(ho:OpR X (OV op) r)(Yv:OpR X (OV F) r')(ha:W (PE X a ta))(hb:W (PE X b tb))(hc:W (PE X c tc))(hm:lastMarks [op,F] [b,c]=false:=by with_unfolding_all rfl):W (PE X (.Compare a [op,F] [b,c] pos) (xm r r' ta tb tc)):=by
 refine {?_};have ha:=ha.h;have hb:=hb.h;have hc:=hc.h;intro Go s σ H Q I h;refine Compare_chain (thn (ha Go s σ H _ I h) λv s1=>x5e λx H1 I1 r1 q1=>chain_link (thn (hb Go s1 σ H1 _ I1 q1) λu s2=>x5e λy H2 Z r2 q2 =>
  thn (ho Go s2 σ H2 x y v u _ Z r1 r2 q2) λd O=>x5e λz H3 J r3 U=>?_)) hm
 obtain ⟨k,e,G⟩:=U;subst e;cases r3;refine PH ?_;cases k with
 | false=>exact ite_ff {.bl false,H3,J,rfl,G}
 | true=>exact ite_tt (chain_last (thn (hc Go O σ H3 _ J G) λw' s4=>x5e λz' H4 I4 S q4=>Yv Go s4 σ H4 y z' u w' Q I4 r2 S q4))
def gD(K:NQ)(x:V)(H:Hp)(k:Bool):Prop :=
 match x with
 | .non=>k=false
 | .bl b=>k=b
 | .int i=>k=(i != 0)
 | .str y=>y.length<=sizeLine/\k=((y.length:Int) != 0)
 | .byt y=>y.size<=sizeLine/\k=((y.size:Int) != 0)
 | .ref p=>(∃xs,SqL K H p xs/\k = !xs.isEmpty)\/(∃xs,SqT K H p xs/\k = !xs.isEmpty)\/∃kvs,H p=some (.dK kvs)/\k = !kvs.isEmpty
 | _=>False
theorem E1{κ:Type}{kvs:List (κ×V)}{vs:List (κ×Value)}(r:KV kvs vs):(!vs.isEmpty) = !kvs.isEmpty:=by
 cases r<;>rfl
theorem yF(r:zq xs z):(!z.toArray.isEmpty) = !xs.isEmpty:=by
 cases r<;>simp
theorem gG:(sizeLine:Nat)<2 ^ 63:=by rw [Ph];decide
theorem BZ:Fz X (λx H Q=>∃k,gD X.K x H k/\Q k H):=by
 intro Go s σ H x v Q I F h;obtain ⟨k,e,q⟩:=h;have hl:=gG;have hs:sizeLine=16777216:=Ph;cases x with
 | non =>
  cases F;have z:k=false:=e;subst z;exact truthy_none ⟨H,I,q⟩
 | bl b =>
  cases F;have z:k=b:=e;subst z;exact PH ⟨H,I,q⟩
 | int i =>
  obtain ⟨t,rfl⟩:=F;have z:k=(i != 0):=e;subst z;exact PySem.P.truthy_int ⟨H,I,q⟩
 | str y =>
  obtain ⟨t,rfl⟩:=F;obtain ⟨J,z⟩:y.length<=sizeLine/\k=((y.length:Int) != 0):=e;subst z;exact PySem.P.truthy_str 'l' {H,I.tok _,q}
 | byt y =>
  obtain ⟨t,rfl⟩:=F;obtain ⟨J,z⟩:y.size<=sizeLine/\k=((y.size:Int) != 0):=e;subst z;exact PySem.W.truthy_bytes 'l' {H,I.tok _,q}
 | ref p =>
  cases F;have z:(∃xs,SqL X.K H p xs/\k = !xs.isEmpty)\/(∃xs,SqT X.K H p xs/\k = !xs.isEmpty)\/∃kvs,H p=some (.dK kvs)/\k = !kvs.isEmpty:=e;rcases z with ⟨xs,hx,z⟩|⟨xs,hx,z⟩|⟨kvs,hx,z⟩
  .subst z;obtain ⟨S,r,pl,hz⟩:=I.list hx;have G:=r.length;exact wpAny_truthy_list pl.isList (by simp only [Oa];lia) {H,I.tok _,by rw [yF r];exact q}
  .subst z;obtain ⟨S,r,pl,hz⟩:=I.tuple hx;have G:=r.length;exact truthy_tuple pl (by simp only [Oa];lia) {H,I.tok _,by rw [yF r];exact q}
  .subst z;obtain ⟨hz,O,vs,r,m⟩:kvs.length<=sizeLine/\(p==sysModules)=false/\∃vs,KV kvs vs/\s.heap.DictOf (aE X.prog X.w) p vs:=I.hok p _ hx;have G:kvs.length=vs.length:=Paired.length r;exact wpAny_truthy_dict O m 'l' {H,I.tok _,by rw [E1 r];exact q}
 | _=>exact (show False from e).elim
theorem Cz(ha:PE X a ta)(he:∀z,Tb a X.env z=(do let v<-z;Qm a.pos;Qu [v] (truthy v))) :
  PT X a (λσ H Q=>ta σ H λx H'=>∃k,gD X.K x H' k/\Q k H'):=by
 intro Go s σ H Q I h;exact isTrue_plain (thn (ha Go s σ H _ I h) λv s1=>x5e λx H1 F r1 q1=>BZ Go s1 σ H1 x v Q F r1 q1) (he _)
theorem K5:OpR X (PQ .Add) (λx y H Q=>∃i j,x = .str i/\y = .str j/\i.length+j.length<=sizeLine/\Q (.str (i++j)) H):=by
 intro Go s σ H x y v u Q I z F h;obtain ⟨i,j,rfl,rfl,hz,q⟩:=h;obtain ⟨t,rfl⟩:=z;obtain ⟨t',rfl⟩:=F;exact add_str (λt' tk=>{.str (i++j),H,I.tok _,{_,rfl},q}) hz
theorem bM(r:zq [x] us):∃u,us=[u]/\zm x u:=by
 cases r with
 | cons r1 r2=>cases r2;exact {_,rfl,r1}
theorem qz(r:zq [x,y] us):∃u w',us=[u,w']/\zm x u/\zm y w':=by
 cases r with
 | cons r1 r2 =>
  cases r2 with
  | cons F z=>cases z;exact {_,_,rfl,r1,F}
theorem NF(hc:X.calm=true):zU X (.builtin "max") (λxs H Q=>∃i j,xs=[.int i,.int j]/\Q (.int (if j>i then j else i)) H):=by
 intro Go s σ H xs us Q I r h;obtain ⟨i,j,rfl,q⟩:=h;obtain ⟨u,w',rfl,⟨t,rfl⟩,⟨t',rfl⟩⟩:=qz r;refine max_two_ints (I.ok.hd hc) λh' tk k=>{_,H,I.kept k,?_,q};by_cases z:j>i
 .rw [if_pos z,if_pos z];exact {_,rfl}
 .rw [if_neg z,if_neg z];exact {_,rfl}
theorem DL(hc:X.calm=true):zU X (.builtin "min") (λxs H Q=>∃i j,xs=[.int i,.int j]/\Q (.int (if j<i then j else i)) H):=by
 intro Go s σ H xs us Q I r h;obtain ⟨i,j,rfl,q⟩:=h;obtain ⟨u,w',rfl,⟨t,rfl⟩,⟨t',rfl⟩⟩:=qz r;refine min_two_ints (I.ok.hd hc) λh' tk k=>{_,H,I.kept k,?_,q};by_cases z:j<i
 .rw [if_pos z,if_pos z];exact {_,rfl}
 .rw [if_neg z,if_neg z];exact {_,rfl}
theorem Dy:zU X (.type "int") (λxs H Q=>(∃i,xs=[.int i]/\Q (.int i) H)\/∃k,xs=[.bl k]/\Q (.int (if k then 1 else 0)) H):=by
 intro Go s σ H xs us Q I r h;rcases h with ⟨i,rfl,q⟩|⟨k,rfl,q⟩
 .obtain ⟨u,rfl,t,rfl⟩:=bM r;exact call_int_int {.int i,H,I,{_,rfl},q}
 .obtain ⟨u,rfl,r1⟩:=bM r;cases r1;exact call_int_bool {.int (if k then 1 else 0),H,I.tok _,{_,rfl},q}
theorem Di:zU X (.type "str") (λxs H Q=>∃i,xs=[.int i]/\i.natAbs.log2<1920/\Q (.str (toString i)) H):=by
 intro Go s σ H xs us Q I r h;obtain ⟨i,rfl,hz,q⟩:=h;obtain ⟨u,rfl,t,rfl⟩:=bM r;exact PySem.P.str_of_int hz {.str _,H,I.tok _,{_,rfl},q}
theorem Cn:zU X (.builtin "ord") (λxs H Q=>∃x,xs=[.str x]/\x.length=1/\Q (.int (x.cps.getD 0 0:Nat)) H):=by
 intro Go s σ H xs us Q I r h;obtain ⟨x,rfl,hz,q⟩:=h;obtain ⟨u,rfl,t,rfl⟩:=bM r;exact ord_of_one hz {.int _,H,I.tok _,{_,rfl},q}
end
structure g9(h:Heap)(x dx C:Addr)(mA:Str->Option Value):Prop where
 obj:h.get? x=some (Tc C dx)
 ns:h.Ns1 dx mA
 ne:dx≠x
theorem B0{h:Heap}(n:h.Ns1 dx mA):∃F,h.get? dx=some F/\∀name,lookIn name F=some (mA name):=by
 obtain ⟨o,es,ep,ho,hd,O,_,hm⟩:=n;refine {o,ho,λname=>?_};have e:=hm name;unfold nsFind findBy at e;rw [<- Array.find?_toList] at e;unfold lookIn;rw [hd];dsimp only;split
 .rename_i y q;rw [q] at e;exact congrArg some e
 .rename_i q;rw [q] at e;have a:es.toList.any (·.refKey)=false:=by
   rw [List.any_eq_false];intro y J;obtain ⟨z,t,S⟩:=O y (Array.mem_toList_iff.mp J);simp [DictEntry.refKey,S]
  have G : ¬ es.toList.any (·.refKey)=true:=by rw [a];exact N8
  rw [if_neg G];exact congrArg some e
theorem g9.look(I:g9 h x dx C mA):∃z,PySem.W.InstAt h x (Tc C dx) C (some z)/\∀name,lookIn name z=some (mA name) :=
 let ⟨z,ho,hl⟩:=B0 I.ns
 {z,{I.obj,rfl,rfl,ho},hl}
section
variable {prog:NW}{w:Oc}{A:Of}{E:Value->KE->Prop}{s:KE}{K:NQ}{x dx C f:Addr}{mA:Str->Option Value}{name:Str}{v:Value}
theorem Ii(X:K.In s.heap)(I:g9 s.heap x dx C mA)(G:S0 K C name=true)(O:S4 K C=true)(ha:PC K (.ref C) name=some none)(hv:mA name=some v)(F:handedIn v=true)(h:Q v { s with toks:=s.toks+1 }):
  N2 (N5 prog w) A (getAttr (.ref x) name z) Q E s:=by
 obtain ⟨S,J,hl⟩:=I.look;exact PySem.W.get_value X J (plainGet_of G).1 (PySem.W.findObj_own O ha rfl (by rw [hl,hv])) F h
theorem Gj(X:K.In s.heap)(I:g9 s.heap x dx C mA)(z:S0 K C name=true)(hf:PC K (.ref C) name=some (some (.ref f)))(F:isFn K (.ref f)=true)(hv:mA name=none)(h:Q (.ref f,[.ref x]) s):
  N2 (N5 prog w) A (RT (.ref x) name pl) Q E s:=by
 obtain ⟨G,J,hl⟩:=I.look;exact PySem.W.method_fn X J (plainGet_of z).1 (plainGet_of z).2 hf (beq_iff_eq.mp F) (by show (lookIn name G).map (·.isSome)=some false;rw [hl,hv];rfl) h
theorem FN(X:K.In s.heap)(I:g9 s.heap x dx C mA)(hs:PC K (.ref C) "__setattr__"=some (some (.builtin "object.__setattr__")))(hp:plainOver K C=true)(Z:takerIn K C name=some none)(hh:S4 K C=true)(hw:To mA ns)(hsz:ns.length<=sizeLine)(h:∀h',g9 h' x dx C (λy=>if y=name then some v else mA y)->PF dx s.heap h'->Q () { s with heap:=h',toks:=s.toks+2 }):
  N2 (N5 prog w) A (setAttr (.ref x) name v) Q E s:=by
 obtain ⟨od,J,hl⟩:=I.look;refine PySem.W.set_plain X J hs (PySem.W.osa_open (s:={ s with toks:=s.toks+1 }) (r:=none) X J hp Z λb=>?_);obtain ⟨cd,hc,U⟩:=PySem.W.any_some hh;have hx:s.heap.get? x=some {.ref C,some dx,.plain,#[]}:=I.obj;refine we (NN (we (we (wpAny_loadPart hx (we (PySem.W.Looks.here (s:={ s with toks:=s.toks+1 }) (PySem.W.looks_clsIn X hc) ?_))))));rw [U];refine NN (a:=some dx) (we (NN (we ?_)));refine wpAny_nsSet1 (s:={ s with toks:=s.toks+1 }) I.ns λh' z F=>?_;obtain ⟨oD,av,ak,S,G,O⟩:=z.count (To.cons name v hw);refine we (wpAny_lookBehind S (by rw [G];exact pastItsLine_dict (Ol O (by rw [OJ];lia))) ?_);exact NN (h _ {(F.2 _ (OY I.ne)).trans I.obj,z,I.ne} F)
theorem ES(X:K.In s.heap)(hm:makesIn K C=true)(hi:PC K (.ref C) Wn=some (some (.ref f)))(hf:PySem.W.typeIn K (.ref f)=some (.type "function"))(h:Qb (N5 prog w) (A.under (.builtin "type.__call__" {.ref C::vs,kw})) (.call (.ref f) {.ref (s.heap.objs.size+1)::vs,kw}) (PySem.W.InitBack (s.heap.objs.size+1) R)
   { s with heap:=(s.heap.push emptyDict).push (Tc C s.heap.objs.size) }):
  Qb (N5 prog w) A (.call (.ref C) ⟨vs,kw⟩) R s:=by
 obtain ⟨z,g,d,t,os⟩:=s;exact PySem.W.make_core (PySem.W.makes_of X hm) (PySem.W.looks_findIn X hi) (λself=>PySem.W.bind_fn X self hf) (.inl rfl) h
end
def z6(f:Str)(v:V):List (Str×V)->List (Str×V)
 | []=>[(f,v)]
 | (g,x)::r=>if g=f then (g,v)::r else (g,x)::z6 f v r
theorem xp(f g:Str)(v:V):∀fs:List (Str×V),(z6 f v fs).lookup g=if g=f then some v else fs.lookup g
 | []=>by
  show Pp g [(f,v)]=_;by_cases h:g=f
  .have hb:(g==f)=true:=beq_iff_eq.mpr h;simp only [Pp,hb,if_pos h]
  .have hb:(g==f)=false:=beq_eq_false_iff_ne.mpr h;simp only [Pp,hb,if_neg h]
 | (k,x)::r=>by
  have F:=xp f g v r;rw [show z6 f v ((k,x)::r)=(if k=f then (k,v)::r else (k,x)::z6 f v r) from rfl];by_cases z:k=f
  .rw [if_pos z];by_cases h:g=k
   .have hb:(g==k)=true:=beq_iff_eq.mpr h;simp only [Pp,hb,if_pos (h.trans z)]
   .have hb:(g==k)=false:=beq_eq_false_iff_ne.mpr h;simp only [Pp,hb,if_neg (λe:g=f=>h (e.trans z.symm))]
  .rw [if_neg z];by_cases h:g=k
   .have hb:(g==k)=true:=beq_iff_eq.mpr h;simp only [Pp,hb,if_neg (λe:g=f=>z (h.symm.trans e))]
   .have hb:(g==k)=false:=beq_eq_false_iff_ne.mpr h;simp only [Pp,hb];exact F
theorem oz(f:Str)(v:V):∀fs:List (Str×V),f∈(z6 f v fs).map (·.1)/\∀g,g∈fs.map (·.1)->g∈(z6 f v fs).map (·.1)
 | []=>{by simp [z6],λg h=>by simp at h}
 | (k,x)::r=>by
  obtain ⟨i1,i2⟩:=oz f v r;rw [show z6 f v ((k,x)::r)=(if k=f then (k,v)::r else (k,x)::z6 f v r) from rfl];by_cases z:k=f
  .rw [if_pos z];subst z;exact {'z',λg h=>by simpa using h}
  .rw [if_neg z];refine {?_,λg h=>?_}
   .rw [Pi];exact NR _ i1
   .rw [Pi] at h ⊢;rcases NT.mp h with e|e
    .exact NT.mpr (.inl e)
    .exact NR _ (i2 g e)
theorem sR(f:Str)(v:V):∀fs:List (Str×V),(z6 f v fs).length<=fs.length+1
 | []=>by simp [z6]
 | (k,x)::r=>by
  have F:=sR f v r;rw [show z6 f v ((k,x)::r)=(if k=f then (k,v)::r else (k,x)::z6 f v r) from rfl];by_cases z:k=f
  .rw [if_pos z,OJ,OJ];lia
  .rw [if_neg z,OJ,OJ];lia
theorem bF.some_of{o:Option Value}(r:bF (some v) o):∃u,o=some u/\zm v u:=by
 cases o with
 | none=>exact (show False from r).elim
 | some u=>exact {u,rfl,r}
theorem bF.none_of{o:Option Value}(r:bF none o):o=none:=by
 cases o with
 | none=>rfl
 | some u=>exact (show False from r).elim
theorem Jf(r:zm v u):handedIn u=true:=by
 cases v with
 | non=>cases (show u=OL from r);rfl
 | bl b=>cases (show u=Qz b from r);rfl
 | int i=>obtain ⟨t,e⟩:=(show ∃t,u=QV i t from r);cases e;rfl
 | str x=>obtain ⟨t,e⟩:=(show ∃t,u=Ru x t from r);cases e;rfl
 | byt b=>obtain ⟨t,e⟩:=(show ∃t,u=Value.bytes b t from r);cases e;rfl
 | flt b=>obtain ⟨t,e⟩:=(show ∃t,u=float b t from r);cases e;rfl
 | ref a=>cases (show u=N6 a from r);rfl
 | ty n=>cases (show u=type n from r);rfl
section
variable {P:NW}{w:Oc}{H H':Hp}{h h':Heap}{a C dx:Addr}{fs fs':List (Str×V)}
theorem jG(hok:HOk P w H h)(e:H a=some (.ins C dx fs)):∃mA,g9 h a dx C mA/\(∀f,bF (fs.lookup f) (mA f))/\To mA (fs.map (·.1))/\fs.length<=1000/\H dx=some (.own a):=by
 obtain ⟨d,z,ne,ob,mA,n,r,q⟩:=(show z8 P w H h a (.ins C dx fs) from hok a _ e);exact {mA,⟨ob,n,ne⟩,r,q,z,d}
end
structure Cls(K:NQ)(C:Addr):Prop where
 pg:S0 K C Sm=true
 hd:S4 K C=true
 po:plainOver K C=true
 sa:PC K (.ref C) "__setattr__"=some (some (.builtin "object.__setattr__"))
theorem Cls.get{K:NQ}(c:Cls K C)(f:Str):S0 K C f=true:=c.pg
def cz(K:NQ)(C:Addr)(f:Str):Prop:=PC K (.ref C) f=some none
theorem cz.bO{K:NQ}(n:cz K C f):takerIn K C f=some none:=by
 unfold takerIn;rw [show PC K (.ref C) f=some none from n];rfl
structure iF(K:NQ)(C:Addr)(m:Str)(f:Addr):Prop where
 at_:PC K (.ref C) m=some (some (.ref f))
 fn:isFn K (.ref f)=true
 kp:SO K (.ref f)=true
section
variable {X:Cx}{Go:List (Addr×Obj)}{σ:St}{H:Hp}{s:KE}{a C dx:Addr}{fs:List (Str×V)}{f:Str}{v:V}{A:Of}{E:Value->KE->Prop}
theorem uV{b:Bool}(I:Inv X Go σ H s)(e:H a=some (.ins C dx fs))(c:Cls X.K C)(n:cz X.K C f)(l:fs.lookup f=some v)(h:∀u s',Inv X Go σ H s'->zm v u->Q u s'):N2 (N5 X.prog X.w) A (getAttr (.ref a) f b) Q E s:=by
 obtain ⟨mA,O,r,_,_,_⟩:=jG I.hok e;obtain ⟨u,F,z⟩:=bF.some_of (v:=v) (o:=mA f) (by rw [<- l];exact r f);exact Ii I.z9 O (c.get f) c.hd n F (Jf z) (h u _ (I.tok _) z)
theorem qr(I:Inv X Go σ H s)(e:H a=some (.ins C dx fs))(c:Cls X.K C)(k:iF X.K C m g)(l:fs.lookup m=none)(h:Q (.ref g,[.ref a]) s):N2 (N5 X.prog X.w) A (RT (.ref a) m pl) Q E s:=by
 obtain ⟨mA,O,r,_,_,_⟩:=jG I.hok e;have z:mA m=none:=bF.none_of (by rw [<- l];exact r m);exact Gj I.z9 O (c.get m) k.at_ k.fn z h
theorem Bv(I:Inv X Go σ H s)(e:H a=some (.ins C dx fs))(c:Cls X.K C)(n:cz X.K C f)(hl:fs.length<1000)(S:zm y u)(h:∀s',Inv X Go σ (upd H a (.ins C dx (z6 f y fs))) s'->Q () s'):N2 (N5 X.prog X.w) A (setAttr (.ref a) f u) Q E s:=by
 obtain ⟨mA,O,r,wi,_,ho⟩:=jG I.hok e;have hz:(fs.map (·.1)).length<=sizeLine:=by rw [NO,Ph];lia
 refine FN I.z9 O c.sa c.po n.bO c.hd wi hz λh' F J=>h _ ?_;have hd:∃o,h'.get? dx=some o:=let ⟨o,_,_,e',_⟩:=F.ns;⟨o,e'⟩;refine I.write (x:=a) (e:=dx) (by rw [e];exact True.intro) (.inr ho) (λb q hb z=>(J.2 b hb).trans z) hd ?_;refine {by rw [zh O.ne];exact ho,?_,O.ne,F.obj,_,F.ns,λg=>?_,λg G=>?_}
 .have:=sR f y fs;lia
 .show bF ((z6 f y fs).lookup g) (if g=f then some u else mA g);rw [xp];by_cases q:g=f
  .rw [if_pos q,if_pos q];exact S
  .rw [if_neg q,if_neg q];exact r g
 .by_cases q:g=f
  .rw [q];exact (oz f y fs).1
  .refine (oz f y fs).2 g (wi g λz=>G ?_);show (if g=f then some u else mA g)=none;rw [if_neg q];exact z
theorem Inv.made(I:Inv X Go σ H s):Inv X Go σ (upd (upd H s.heap.objs.size (.own (s.heap.objs.size+1))) (s.heap.objs.size+1) (.ins C s.heap.objs.size []))
  { s with heap:=(s.heap.push emptyDict).push (Tc C s.heap.objs.size) }:=by
 have z:(s.heap.push emptyDict).get? s.heap.objs.size=some emptyDict:=N7 s.heap rfl;have O:((s.heap.push emptyDict).push (Tc C s.heap.objs.size)).get? (s.heap.objs.size+1)=some (Tc C s.heap.objs.size):=by
  have:=N7 (s.heap.push emptyDict) (o:=Tc C s.heap.objs.size) rfl;rwa [QE] at this
 have G:(s.heap.push emptyDict).Ns s.heap.objs.size (λ_=>none):={emptyDict,#[],_,z,rfl,(λe he=>absurd he 'z'),λ_=>rfl};have J:=I.laid (a:=s.heap.objs.size) (o:=.own (s.heap.objs.size+1)) (h':=s.heap.push emptyDict) (t':=s.toks) (λb u q=>NP _ q) (NV _) {_,z};refine J.laid (a:=s.heap.objs.size+1) (o:=.ins C s.heap.objs.size []) (t':=s.toks) (λb u q=>NP _ q) (S3 (QE _ _)) ?_;have ne:s.heap.objs.size≠s.heap.objs.size+1:=OM (RD _);refine {by rw [zh ne,zt],O9 _,ne,O,λ_=>none,(Heap.Ns1.of_empty G).at λo q=>NP _ q,λ_=>True.intro,λy F=>absurd rfl F}
theorem LK{f:Str}{s:KE}(hb:Pm e f env (Pa e env)=Pa e env)(h:N2 (N5 prog w) A (Pa e env) (λo s₁=>N2 (N5 prog w) A (getAttr o f true) Q E s₁) E s):N2 (N5 prog w) A (Pa (.Attribute e f pos) env) Q E s :=
 Attribute_any_ h (by rw [arm_eval_Attribute,hb])
end
def va(X:Cx)(op:Operator)(rd:V->V->Hp->VK->Prop):Prop :=
 ∀(Go:List (Addr×Obj))(s:KE)(σ:St)(H:Hp)(x y:V)(u v:Value)(Q:VK),Inv X Go σ H s->zm x u->zm y v->rd x y H Q->N2 (N5 X.prog X.w) X.A (inplaceOp op u v) (EP X Go σ Q) X.xe s
section
variable {X:Cx}{o e ZA:Og}{f:Str}{pos YS Xk:Pos}{ta tv:TE}
def qT:V->V->Hp->VK->Prop:=λx y H Q=>∃i j,x = .int i/\y = .int j/\Q (.int (i+j)) H
theorem DI:va X .Add qT:=by
 rintro Go s σ H x y u v Q I z F ⟨i,j,rfl,rfl,q⟩;obtain ⟨t,rfl⟩:=(show ∃t,u=QV i t from z);obtain ⟨t',rfl⟩:=(show ∃t',v=QV j t' from F);exact PyProof.Rows.iadd_int {.int (i+j),H,I.tok _,{_,rfl},q}
end
section
variable {X:Cx}{Go:List (Addr×Obj)}{σ:St}{H:Hp}{s:KE}{A:Of}{E:Value->KE->Prop}{Q:Value->KE->Prop}{c:Value}{b:Bool}
inductive c9(K:NQ)(H:Hp):V->Value->Prop where
 | non:c9 K H .non (.type "NoneType")
 | bl (x:Bool):c9 K H (.bl x) (.type "bool")
 | int (i:Int):c9 K H (.int i) (.type "int")
 | str (x:Str):c9 K H (.str x) (.type "str")
 | flt (x:UInt64):c9 K H (.flt x) (.type "float")
 | lst {a:Addr}{xs:List V} (e:H a=some (.lst xs)):c9 K H (.ref a) (.type "list")
 | frz {a:Addr}{o:Obj}{xs:List V} (e:H a=some (.frz o (.lst xs))):c9 K H (.ref a) (.type "list")
 | tup {a:Addr}{xs:List V} (e:H a=some (.tup xs)):c9 K H (.ref a) (.type "tuple")
 | dK {a:Addr}{kvs:List (Key×V)} (e:H a=some (.dK kvs)):c9 K H (.ref a) (.type "dict")
 | dT {a:Addr}{kvs:List (List Key×V)} (e:H a=some (.dT kvs)):c9 K H (.ref a) (.type "dict")
 | ins {a C dx:Addr}{fs:List (Str×V)} (e:H a=some (.ins C dx fs)) (cl:Cls K C) (ha:PC K (.ref C) "__class__"=some (some (.builtin "object.__class__")))
   (hn:PySem.W.specialIn K (.builtin "object.__class__") "__get__"=some (some (.builtin "getset_descriptor.__get__"))) (htk:PySem.W.takesIn K (.builtin "object.__class__")=some true)
   (hm:Rg K C (.type "object")=some true):c9 K H (.ref a) (.ref C)
theorem CU{u t:Value}(I:Inv X Go σ H s)(F:zm x u)(ty:c9 X.K H x t)(e:PySem.W.kitOne X.K t c=some b)(h:∀tk,Q (.bool b) { s with toks:=tk }):
  N2 (N5 X.prog X.w) A (call (.builtin "isinstance") [u,c]) Q E s:=by
 cases ty with
 | non=>cases (show u=OL from F);exact Py PySem.W.kitx_none I.z9 True.intro e (λz=>nomatch z) h
 | bl y=>cases (show u=Qz y from F);exact Py PySem.W.kitx_bool I.z9 True.intro e (λz=>nomatch z) h
 | int i=>obtain ⟨t,q⟩:=(show ∃t,u=QV i t from F);cases q;exact Py kitx_int I.z9 True.intro e (λz=>nomatch z) h
 | str y=>obtain ⟨t,q⟩:=(show ∃t,u=Ru y t from F);cases q;exact Py kitx_str I.z9 True.intro e (λz=>nomatch z) h
 | flt y=>obtain ⟨t,q⟩:=(show ∃t,u=float y t from F);cases q;exact Py PySem.W.kitx_float I.z9 True.intro e (λz=>nomatch z) h
 | @lst a xs ea =>
  cases (show u=N6 a from F);obtain ⟨_,_,n,_,h1⟩:=(show z8 X.prog X.w H s.heap a (.lst xs) from I.hok a _ ea);exact Py kitx_list I.z9 {_,h1,rfl} e (λz=>nomatch z) h
 | @frz a ob xs ea =>
  cases (show u=N6 a from F);obtain ⟨_,_,_,n,_,h1⟩:=(show z8 X.prog X.w H s.heap a (.frz ob (.lst xs)) from I.hok a _ ea);exact Py kitx_list I.z9 {_,h1,rfl} e (λz=>nomatch z) h
 | @tup a xs ea =>
  cases (show u=N6 a from F);obtain ⟨_,_,_,p⟩:=(show z8 X.prog X.w H s.heap a (.tup xs) from I.hok a _ ea);obtain ⟨o,h1,h2,_⟩:=p;exact Py PySem.W.kitx_tuple I.z9 ⟨o,h1,h2⟩ e (λz=>nomatch z) h
 | @dK a kvs ea =>
  cases (show u=N6 a from F);obtain ⟨_,_,vs,_,p⟩:=(show z8 X.prog X.w H s.heap a (.dK kvs) from I.hok a _ ea);obtain ⟨o,es,ep,h1,h2,_⟩:=p;exact Py kitx_dict I.z9 ⟨o,h1,h2.1⟩ e (λz=>nomatch z) h
 | @dT a kvs ea =>
  cases (show u=N6 a from F);obtain ⟨_,_,xs,_,o,es,ep,h1,h2,_⟩:=(show z8 X.prog X.w H s.heap a (.dT kvs) from I.hok a _ ea);exact Py kitx_dict I.z9 ⟨o,h1,h2.1⟩ e (λz=>nomatch z) h
 | @ins a C dx fs ea cl ha S G hm =>
  cases (show u=N6 a from F);obtain ⟨mA,O,_⟩:=jG I.hok ea;obtain ⟨U,J,_⟩:=O.look;exact Py (kitx_own (cl.get _) cl.hd ha S G hm) I.z9 J e (λz=>nomatch z) h
end
structure zX(c:Bool)(k:Nat)(A:Of):Prop where
 hd:c=true->A.handled=none
 dp:A.depth+3*k+5<recursionLimit
 un:A.units+16*k+200<cLine
 gd:A.guards=some []
theorem zX.mono{j k:Nat}(r:zX c k A)(h:j<=k):zX c j A:={r.hd,by have:=r.dp;lia,by have:=r.un;lia,r.gd}
theorem zX.deeper{k:Nat}(r:zX c (k+1) A)(env:Env):zX c k (A.deeper env) :=
 {r.hd,by have:=r.dp;show A.depth+1+3*k+5<_;lia,by have:=r.un;show A.units+3+16*k+200<_;lia,by first|exact r.gd|simpa [Of.deeper,Of.under,Code.isGuard] using r.gd}
theorem EA{A:Of}:(A.under (.builtin "type.__call__" {.ref C::us,kw})).depth=A.depth+1:=by
 first|rfl|simp [Of.under,Code.weight,Code.isCreation,Code.isGuard,Code.isCaller,Code.frames,Code.isFrame,guardIds]
theorem Gu{A:Of}:(A.under (.builtin "type.__call__" {.ref C::us,kw})).units=A.units+1:=by
 first|rfl|simp [Of.under,Code.cUnits,Code.frames,Code.isFrame]
theorem zX.make{k:Nat}(r:zX c (k+1) A)(C:Addr)(us:List Value)(kw:List (Str×Value)):zX c k (A.under (.builtin "type.__call__" {.ref C::us,kw})) :=
 {r.hd,by have:=r.dp;rw [EA];lia,by have:=r.un;rw [Gu];lia,by first|exact r.gd|simpa [Of.under,Code.isGuard,guardIds] using r.gd}
theorem zX.depth{k:Nat}(r:zX c k A):A.depth<recursionLimit:=by have:=r.dp;lia
theorem zX.units{k:Nat}(r:zX c k A):A.units+64<cLine:=by have:=r.un;lia
def cK:TA:=λ_ H Q=>Q [] H
def eJ(ta:TE)(z:TA):TA:=λσ H Q=>ta σ H λx H1=>z σ H1 λxs H2=>Q (x::xs) H2
section
variable {X:Cx}{e:Og}{es:List Og}{te:TE}{t:TA}{pos:Pos}
theorem fK:PA X [] cK:=λ_ _ _ _ H Q I h=>Calls.spliced_nil {[],H,I,.nil,h}
theorem fB(ha:PE X e te)(hr:PA X es t)(hs:Om (e::es) X.env=(false,Pa e X.env)::Om es X.env:=by rfl):PA X (e::es) (eJ te t):=by
 intro pos Go s σ H Q I h;rw [hs];show N2 _ _ (spliced ((false,Pa e X.env)::P0 pos (Om es X.env))) _ _ s;refine Calls.spliced_cons (thn (ha Go s σ H _ I h) λu s1=>x5e λx H1 z r1 q1=>?_);exact thn (hr pos Go s1 σ H1 _ z q1) λus s2=>x5e λxs H2 F r2 G=>{x::xs,H2,F,.cons r1 r2,G}
def KA(t:TA):TE:=λσ H Q=>t σ H λxs H1=>xs.length<=sizeLine/\∀p,H1 p=none->Q (.ref p) (upd H1 p (.tup xs))
theorem Li{x1}(h:PA X es t):PE X (.Tuple es x1 pos) (KA t):=by
 intro Go s σ H Q I G;refine wpAny_Tuple_spliced (thn (h pos Go s σ H _ I G) λus s1=>x5e λxs H1 F r=>x2e λz q=>{by rw [<- r.length];exact z,?_});have hf:H1 s1.heap.objs.size=none:=F.hok.fresh (NV _);refine {.ref s1.heap.objs.size,upd H1 s1.heap.objs.size (.tup xs),F.laid (t':=s1.toks) (λb u e=>NP _ e) (NV _) ?_,rfl,q _ hf};exact {z,us,r,{_,N7 _ rfl,rfl,_,rfl}}
end
abbrev Sp:=List V->Hp->VK->XK->Prop
abbrev CXT:=List Env->Hp->KE->XK->Value->KE->Prop
structure gN(P:NW)(w:Oc)(K:NQ)(mg:Str->Option Value)(base:Heap)(A:Of)(outer:List Env)(s:KE)(H:Hp):Prop where
 frames:A.frames=some outer
 hdk:f9 A H
 mod:Mod K mg base
 bs:∀b o,base.get? b=some o->s.heap.get? b=some o/\H b=none
 a0:base.objs.size<=s.heap.objs.size
 Tz:s.heap.FunFrames base outer
 a9:∀b∈frs outer,H b=none
 hok:HOk P w H s.heap
 bare:QZ s.gens
def CE(outer:List Env)(P:NW)(w:Oc)(H:Hp)(s:KE)(Q:VK)(u:Value)(s':KE):Prop :=
 ∃v H',s'.os=s.os/\QZ s'.gens/\Un (frs outer) [] H H' s.heap s'.heap/\HOk P w H' s'.heap/\zm v u/\Q v H'
def CR(CX:CXT)(outer:List Env)(P:NW)(w:Oc)(H:Hp)(s:KE)(Q:VK)(E:XK)(r:Tn)(s':KE):Prop :=
 match r with
 | .ok (.ret u)=>CE outer P w H s Q u s'
 | .ok _=>False
 | .error e=>CX outer H s E e s'
structure zp(P:NW)(w:Oc)(K:NQ)(mg:Str->Option Value)(base:Heap)(CX:CXT)(c:Bool)(k:Nat)(f:Addr)(fd:N4)(ps:List Str)(sp:Sp):Prop where
 len:∀vs H Q E,sp vs H Q E->vs.length=ps.length
 run:∀(A:Of)(outer:List Env)(s:KE)(H:Hp)(args:Args)(us:List Value)(vs:List V)(Q:VK)(E:XK),zX c k A->gN P w K mg base A outer s H->BindsTo s fd args (ps.zip us)->zq vs us->sp vs H Q E ->
  Qb (N5 P w) A (.call (.ref f) args) (CR CX outer P w H s Q E) s
theorem gN.make{K:NQ}(e:gN P w K mg base A outer s H)(C:Addr)(us:List Value)(kw:List (Str×Value)):
  gN P w K mg base (A.under (.builtin "type.__call__" {.ref C::us,kw})) outer s H:={by first|exact e.frames|(simpa [Of.under,Code.envs,Code.isFrame,pushEnvs] using e.frames),e.hdk,e.mod,e.bs,e.a0,e.Tz,e.a9,e.hok,e.bare}
section
variable {X:Cx}{Go:List (Addr×Obj)}{σ:St}{H:Hp}{s s':KE}
theorem Inv.bH(I:Inv X Go σ H s):gN X.prog X.w X.K X.mg X.base X.A X.stack s H :=
 {I.ok.frames,I.hdk,I.ok.mod,I.bs,Ol I.ok.a0 I.sz,I.stack,I.UM,I.hok,I.bare}
theorem Inv.after(I:Inv X Go σ H s)(h:CE X.stack X.prog X.w H s Q u s'):EP X Go σ Q u s':=by
 obtain ⟨v,H',os,bare,un,hok,r,q⟩:=h;obtain ⟨G,g,d,t,F⟩:=s';obtain rfl:F=s.os:=os;exact {v,H',I.call (h':=G) (g':=g) (d':=d) (t':=t) (ch:=[]) un hok bare (λb z=>absurd z 'z'),r,q}
end
def mz(sp:Sp)(Za:List V)(E:XK)(t:TA):TE:=λσ H Q=>t σ H λvs H1=>sp (vs++Za) H1 Q E
def fY(C:Addr)(m:Str)(sp:Sp)(Za:List V)(E:XK)(ta:TE)(t:TA):TE:=λσ H Q=>ta σ H λx H1=>∃a dx fs,x = .ref a/\H1 a=some (.ins C dx fs)/\fs.lookup m=none /\
 t σ H1 λvs H2=>sp (x::(vs++Za)) H2 Q E
def wo(C:Addr)(sp:Sp)(Za:List V)(E:XK)(t:TA):TE:=λσ H Q=>t σ H λvs H1=>∀x dx,H1 x=none->H1 dx=none->dx≠x ->
 sp (.ref x::(vs++Za)) (upd (upd H1 dx (.own x)) x (.ins C dx [])) (λv H2=>v = .non/\Q (.ref x) H2) E
def bQ(K:NQ)(fd:N4)(ps:List Str)(ds:List Value):Prop :=
 ∀(s:KE)(us:List Value),K.In s.heap->(us++ds).length=ps.length->BindsTo s fd {us,[]} (ps.zip (us++ds))
theorem bQ.all{K:NQ}(h:∀us:List Value,us.length=ps.length->bindArgs fd {us,[]}=pure (ps.zip us)):bQ K fd ps []:=λs us _ hl=>by
 rw [Pr] at hl ⊢;exact .of_eq (h us hl)
def fE(CX:CXT)(X:Cx)(E:XK):Prop:=∀(Go:List (Addr×Obj))(σ:St)(H:Hp)(s:KE)(e:Value)(s':KE),Inv X Go σ H s->CX X.stack H s E e s'->X.xe e s'
section
variable {X:Cx}{CX:CXT}{cm:Bool}{k:Nat}{f C:Addr}{fd:N4}{ps:List Str}{sp:Sp}{Za:List V}{ds:List Value}{E:XK}{x m:Str}{p pos Z3:Pos}{e o:Og}{es:List Og}{ta:TE}{t:TA}
theorem oy(F:zp X.prog X.w X.K X.mg X.base CX cm k f fd ps sp)(hr:zX cm k X.A)(hb:bQ X.K fd ps ds)(hd:zq Za ds)(hx:fE CX X E)(I:Inv X Go σ H s)(r:zq vs us)(h:sp (vs++Za) H Q E):N2 (N5 X.prog X.w) X.A (call (.ref f) us) (EP X Go σ Q) X.xe s:=by
 have r2:zq (vs++Za) (us++ds):=r.append hd;have hl:(us++ds).length=ps.length:=by rw [<- r2.length];exact F.len _ _ _ _ h
 refine wpAny_call (Qf (F.run X.A X.stack s H {us,[]} (us++ds) (vs++Za) Q E hr I.bH (hb s us I.z9 hl) r2 h) λr s' z=>?_);cases r with
 | error e=>exact hx Go σ H s e s' I z
 | ok fl =>
  cases fl with
  | ret u=>exact I.after z
  | next=>exact False.elim z
  | brk=>exact False.elim z
  | cont=>exact False.elim z
theorem GT(F:zp X.prog X.w X.K X.mg X.base CX cm k f fd ps sp)(hr:zX cm k X.A)(S:Gl X x)(hm:X.mg x=some (.ref f))(G:SO X.K (.ref f)=true)(hb:bQ X.K fd ps ds)(hd:zq Za ds)(hx:fE CX X E)
  (ha:PA X (e::es) t) (J:(x==("__debug__":Str))=false:=by decide) (he:Om (e::es) X.env=(false,Pa e X.env)::Om es X.env:=by rfl) (O:(P0 pos (Om es X.env)).any (·.1)=false:=by rfl) :
  PE X (.Call (.Name x p) (e::es) [] pos) (mz sp Za E t):=by
 intro Go s σ H Q I h;refine PR (fu I S hm ?_ J);refine callWith_K (h₀:=X.base) I.ok.mod.bw G (thn (ha pos Go s σ H _ I h) λus s1=>x5e λvs H1 z r q=>{z.z9,?_}) he O;exact oy F hr hb hd hx z r q
theorem Hm(he:PE X o ta)(c:Cls X.K C)(hm:iF X.K C m f)(F:zp X.prog X.w X.K X.mg X.base CX cm k f fd ps sp)(hr:zX cm k X.A)(hb:bQ X.K fd ps ds)(hd:zq Za ds)(hx:fE CX X E)(ha:PA X (e::es) t)(hst:Om (e::es) X.env=(false,Pa e X.env)::Om es X.env:=by rfl)(Z:(P0 pos (Om es X.env)).any (·.1)=false:=by rfl)(U:Pa (.Call (.Attribute o m Z3) (e::es) [] pos) X.env=(do
   let G<-Pa o X.env
   Qm Z3.atName
   let (f,first)<-Qu [G] (RT G m pl)
   Sd pos f first (P0 pos (Om (e::es) X.env)) (Ss pos (Q6 [] X.env))):=by rfl):
  PE X (.Call (.Attribute o m Z3) (e::es) [] pos) (fY C m sp Za E ta t):=by
 intro Go s σ H Q I h;refine methodCall_KW (pl:=pl) (thn (he Go s σ H _ I h) λu s1=>x5e λx H1 O S z=>?_) U;obtain ⟨a,dx,fs,ex,ea,l,q⟩:=z;subst ex;obtain rfl:u=N6 a:=S;refine qr O ea c hm l ?_;refine callWith_K (first:=[.ref a]) (h₀:=X.base) I.ok.mod.bw hm.kp (thn (ha pos Go s1 σ H1 _ O q) λus s2=>x5e λvs H2 J r W=>{J.z9,?_}) hst Z;exact oy (us:=.ref a::us) (vs:=.ref a::vs) F hr hb hd hx J (.cons rfl r) W
theorem G1(he:PE X o ta)(c:Cls X.K C)(hm:iF X.K C m f)(F:zp X.prog X.w X.K X.mg X.base CX cm k f fd ps sp)(hr:zX cm k X.A)(hb:bQ X.K fd ps ds)(hd:zq Za ds)(hx:fE CX X E)(S:Pa (.Call (.Attribute o m Z3) [] [] pos) X.env=(do
   let J<-Pa o X.env
   Qm Z3.atName
   let (f,first)<-Qu [J] (RT J m pl)
   Sd pos f first (P0 pos (Om [] X.env)) (Ss pos (Q6 [] X.env))):=by rfl):
  PE X (.Call (.Attribute o m Z3) [] [] pos) (fY C m sp Za E ta cK):=by
 intro Go s σ H Q I h;refine methodCall_KW (pl:=pl) (thn (he Go s σ H _ I h) λu s1=>x5e λx H1 G O z=>?_) S;obtain ⟨a,dx,fs,ex,ea,l,q⟩:=z;subst ex;obtain rfl:u=N6 a:=O;refine qr G ea c hm l ?_;exact callWith_K0 (first:=[.ref a]) G.z9 hm.kp (oy (us:=[.ref a]) (vs:=[.ref a]) F hr hb hd hx G (.cons rfl .nil) q)
structure Mk(K:NQ)(C f:Addr):Prop where
 makes:makesIn K C=true
 init:PC K (.ref C) Wn=some (some (.ref f))
 fn:isFn K (.ref f)=true
 kp:SO K (.ref C)=true
theorem xU(M:Mk X.K C f)(F:zp X.prog X.w X.K X.mg X.base CX cm k f fd ps sp)(hr:zX cm (k+1) X.A)(hb:bQ X.K fd ps ds)(hd:zq Za ds)(hx:fE CX X E)(I:Inv X Go σ H s)(r:zq vs us)(h:∀x dx,H x=none->H dx=none->dx≠x->sp (.ref x::(vs++Za)) (upd (upd H dx (.own x)) x (.ins C dx [])) (λv H2=>v = .non/\Q (.ref x) H2) E):
  N2 (N5 X.prog X.w) X.A (call (.ref C) us) (EP X Go σ Q) X.xe s:=by
 have J:=h (s.heap.objs.size+1) s.heap.objs.size (I.hok.fresh (SK _)) (I.hok.fresh (NV _)) (OM (RD _));have G:=Inv.made (C:=C) I;have r2:zq (V.ref (s.heap.objs.size+1)::(vs++Za)) (N6 (s.heap.objs.size+1)::(us++ds)):=.cons rfl (r.append hd);have hl:(N6 (s.heap.objs.size+1)::us++ds).length=ps.length:=by
  have e:=r2.length;rw [F.len _ _ _ _ J] at e;exact e.symm
 refine wpAny_call (ES (f:=f) I.z9 M.makes M.init (beq_iff_eq.mp M.fn) (Qf (F.run _ X.stack _ _ {N6 (s.heap.objs.size+1)::us,[]} (N6 (s.heap.objs.size+1)::(us++ds)) _ _ E (hr.make C us [])
  (G.bH.make C us []) (hb _ (N6 (s.heap.objs.size+1)::us) G.z9 hl) r2 J) λr s' z=>?_))
 cases r with
 | error e=>exact hx Go σ _ _ e s' G z
 | ok fl =>
  cases fl with
  | ret u =>
   obtain ⟨v,H',S,W,O,U⟩:=G.after z;subst O;exact {W,{V.ref (s.heap.objs.size+1),H',S,rfl,U}}
  | next=>exact False.elim z
  | brk=>exact False.elim z
  | cont=>exact False.elim z
theorem JV(M:Mk X.K C f)(F:zp X.prog X.w X.K X.mg X.base CX cm k f fd ps sp)(hr:zX cm (k+1) X.A)(J:Gl X x)(hm:X.mg x=some (.ref C))(hb:bQ X.K fd ps ds)(hd:zq Za ds)(hx:fE CX X E)
  (ha:PA X (e::es) t) (O:(x==("__debug__":Str))=false:=by decide) (he:Om (e::es) X.env=(false,Pa e X.env)::Om es X.env:=by rfl) (G:(P0 pos (Om es X.env)).any (·.1)=false:=by rfl) :
  PE X (.Call (.Name x p) (e::es) [] pos) (wo C sp Za E t):=by
 intro Go s σ H Q I h;refine PR (fu I J hm ?_ O);refine callWith_K (h₀:=X.base) I.ok.mod.bw M.kp (thn (ha pos Go s σ H _ I h) λus s1=>x5e λvs H1 z r q=>{z.z9,?_}) he G;exact xU M F hr hb hd hx z r q
theorem NC(M:Mk X.K C f)(F:zp X.prog X.w X.K X.mg X.base CX cm k f fd ps sp)(hr:zX cm (k+1) X.A)(z:Gl X x)(hm:X.mg x=some (.ref C))(hb:bQ X.K fd ps ds)(hd:zq Za ds)(hx:fE CX X E)
  (G:(x==("__debug__":Str))=false:=by decide):PE X (.Call (.Name x p) [] [] pos) (wo C sp Za E cK):=by
 intro Go s σ H Q I h;refine PR (fu I z hm ?_ G);exact callWith_K0 I.z9 M.kp (xU (us:=[]) M F hr hb hd hx I .nil h)
end
structure zy(N P:List Str)(sc:Scope):Prop where
 kind:sc.kind = .function
 co:sc.isCoroutine=false
 gen:sc.isGenerator=false
 nd:N.Nodup
 pre:N.take P.length=P
 par:∀x∈P,sc.names.lookup x=some .local\/sc.names.lookup x=some .cell
 bz:∀y∈sc.names,y.2≠.free
theorem yP{kindOf:Str->Option O8}:∀{binds:List (Str×Value)}{m:Str->Option Value},(∀v,(x,v)∉binds)->bindL kindOf binds m x=m x
 | [],_,_=>rfl
 | (n,v)::r,m,h=>by
  unfold bindL;rw [yP λw hw=>h w (NR _ hw)];split
  .have:x≠n:=by rintro rfl;exact h v NX
   simp [this]
  .rfl
theorem A8{kindOf:Str->Option O8}:∀{binds:List (Str×Value)}{m:Str->Option Value},(∀v,(x,v)∉binds)->bindC kindOf binds m x=m x
 | [],_,_=>rfl
 | (n,v)::r,m,h=>by
  unfold bindC;rw [A8 λw hw=>h w (NR _ hw)];split
  .rfl
  .have:x≠n:=by rintro rfl;exact h v NX
   simp [this]
theorem wU{kindOf:Str->Option O8}:∀{P:List Str}{vs:List Value}{i:Nat}{m:Str->Option Value},P.Nodup->P[i]?=some x->vs[i]?=some v->kindOf x=some .local ->
  bindL kindOf (P.zip vs) m x=some v
 | [],_,_,_,_,h,_,_=>by simp at h
 | _::_,[],_,_,_,_,h,_=>by simp at h
 | p::P,w::vs,0,m,nd,h1,h2,z=>by
  simp at h1 h2;subst h1;subst h2;show bindL kindOf ((p,w)::P.zip vs) m p=_;unfold bindL;rw [yP λv hv=>(Rn.mp nd).1 (Tp hv).1,if_pos z];simp
 | p::P,w::vs,i+1,m,nd,h1,h2,z=>by
  show bindL kindOf ((p,w)::P.zip vs) m x=_;unfold bindL;exact wU (i:=i) (Rn.mp nd).2 (by simpa using h1) (by simpa using h2) z
theorem w5{kindOf:Str->Option O8}:∀{P:List Str}{vs:List Value}{i:Nat}{m:Str->Option Value},P.Nodup->P[i]?=some x->vs[i]?=some v->kindOf x≠some .local ->
  bindC kindOf (P.zip vs) m x=some v
 | [],_,_,_,_,h,_,_=>by simp at h
 | _::_,[],_,_,_,_,h,_=>by simp at h
 | p::P,w::vs,0,m,nd,h1,h2,z=>by
  simp at h1 h2;subst h1;subst h2;show bindC kindOf ((p,w)::P.zip vs) m p=_;unfold bindC;rw [A8 λv hv=>(Rn.mp nd).1 (Tp hv).1,if_neg z];simp
 | p::P,w::vs,i+1,m,nd,h1,h2,z=>by
  show bindC kindOf ((p,w)::P.zip vs) m x=_;unfold bindC;exact w5 (i:=i) (Rn.mp nd).2 (by simpa using h1) (by simpa using h2) z
def start(N:List Str)(vs:List V):St:=vs.map some++Pc (N.length-vs.length) none
def c8(CX:CXT)(cm:Bool)(P:NW)(w:Oc)(K:NQ)(mg:Str->Option Value)(base:Heap)(N:List Str)(qual:Str)(scope:Scope)(f:Addr)(cd:Value)(A:Of)(outer:List Env)(s:KE)(H:Hp)(E:XK):Cx where
 prog:=P
 w:=w
 K:=K
 mg:=mg
 base:=base
 A:=A.deeper (Q8 qual scope s.heap.objs.size f cd)
 N:=N
 s₀:=s
 H₀:=H
 env:=Q8 qual scope s.heap.objs.size f cd
 outer:=outer
 stack:=Q8 qual scope s.heap.objs.size f cd::outer
 ex:=[]
 calm:=cm
 fn:=λ_=>true
 pn:=[]
 xe:=λe s'=>N2 (N5 P w) (A.deeper (Q8 qual scope s.heap.objs.size f cd)) (leaving (Q8 qual scope s.heap.objs.size f cd) e) (λ_ z=>CX outer H s E e z) (λF z=>CX outer H s E F z) s'
theorem wL{sc:Scope}(h:sc.names.lookup x=some .cell):∃c,(PU n sc.names []).lookup x=some c:=by
 have q:=PySem.W.cellsFrom_some sc.names n [] (.inl h);exact RG.mp q
theorem KN{K:NQ}(S:zy N ps scope)(hd:cm=true->A.handled=none)(F:gN P w K mg base A outer s H)(hl:vs.length=ps.length)(r:zq vs us)(x:InCallC s s.heap.objs.size (bindL (Q8 qual scope s.heap.objs.size f cd).kindOf (ps.zip us) λ_=>none) (PU (s.heap.objs.size+1) scope.names []) (bindC (Q8 qual scope s.heap.objs.size f cd).kindOf (ps.zip us) λ_=>none) s1):
  Inv (c8 CX cm P w K mg base N qual scope f cd A outer s H E) [] (start N vs) H s1:=by
 have Yu:ps.length<=N.length:=by have:=congrArg SN S.pre;rw [ON] at this;lia
 obtain ⟨h1,tk,rfl,U⟩:=x.done;have J:∀b:Addr,b∉(c8 CX cm P w K mg base N qual scope f cd A outer s H E).ex:=λb z=>absurd (show b∈([]:List Addr) from z) 'z';refine {{F.mod,S.kind,rfl,rfl,NV _,λy z c h1 h2=>?_,λy G=>?_,λy c _ h=>?_,hd,Of.frames_deeper F.frames,.inr {rfl,rfl},λb z=>absurd z (J b),F.bs,F.a0,λb _ _=>J b,λb z=>absurd z (J b),F.Tz,F.a9},
  rfl,F.bare,Un.kept U,{_,x.toInCall.ns,λi y v h1 h2 h3=>?_},λy c h=>{_,x.cell y c h},F.hok.fresh (NV _),λy c h=>?_,λp hp=>absurd (show p∈([]:List (Addr×Obj)) from hp) 'z',F.hok.kept U,?_,F.hdk}
 .exact name_of_addr x.apart (Po h1) (Po h2)
 .have G:scope.names.lookup y=some .cell\/scope.names.lookup y=some .free:=G;rcases G with G|G
  .exact wL G
  .exact absurd rfl (S.bz _ (Po G))
 .exact Sa (x.above y c (Po h))
 .have hi:i<vs.length:=by
   unfold start at h2;by_cases hi:i<vs.length
   .exact hi
   .rw [Rb (by simpa using hi)] at h2;rw [List.getElem?_replicate] at h2;split at h2<;>cases h2
  have ha:vs[i]?=some v:=by
   unfold start at h2;rw [List.getElem?_append_left (by simpa using hi),Oe] at h2;cases e:vs[i]? with
   | none=>rw [e] at h2;cases h2
   | some a=>rw [e] at h2;cases h2;rfl
  obtain ⟨u,W,Z⟩:=r.get ha;have hp:ps[i]?=some y:=by
   rw [<- S.pre,List.getElem?_take_of_lt 'l'];exact h1
  have O:ps.Nodup:=by rw [<- S.pre];exact S.nd.sublist (List.take_sublist _ _)
  refine {u,Z,?_};rcases S.par y (OS hp) with k|k
  .exact .inl {k,wU O hp W k}
  .obtain ⟨c,e⟩:=wL (n:=s.heap.objs.size+1) k;refine .inr {.inl k,c,e,?_};have q:=x.cell y c e;rw [w5 O hp W (by show scope.names.lookup y≠_;rw [k];decide)] at q;exact q
 .exact F.hok.fresh (Sa (x.above y c (Po h)))
 .unfold start;show _=N.length;rw [Ov,NO,List.length_replicate];lia
theorem sT{K:NQ}{k:Nat}{dV kV Yb pm G ct oc:Value}(lk:K.lookup f=some {oc,od,.func (fnOf name qual Xj Zu scope dV kV Yb pm an G ct),Z})(hcd:codeIn K G qual=true)(S:zy N ps scope)(len:∀vs H Q E,sp vs H Q E->vs.length=ps.length)(Ya:∀(A:Of)(outer:List Env)(s:KE)(H:Hp)(vs:List V)(Q:VK)(E:XK),zX cm k (A.deeper (Q8 qual scope s.heap.objs.size f G))->sp vs H Q E ->
   ∃t,PSs (c8 CX cm P w K mg base N qual scope f G A outer s H E) Zu t/\t { nx:=λ_ H'=>Q .non H',rt:=Q } (start N vs) H):
  zp P w K mg base CX cm (k+1) f (fnOf name qual Xj Zu scope dV kV Yb pm an G ct) ps sp:=by
 refine {len,λA outer s H args us vs Q E hr O hb r U=>?_};have hl:=len _ _ _ _ U;have KX:K.In s.heap:=O.mod.bw.keeps λb o e=>(O.bs b o e).1;have ak:s.heap.NoLimit:=O.mod.nolimit.keeps λb o e=>(O.bs b o e).1;have F:∀y∈ps.zip us,scope.names.lookup y.1=some .local\/(scope.names.lookup y.1=some .cell/\((PU (s.heap.objs.size+1) scope.names []).lookup y.1).isSome=true):=λ⟨n,v⟩ hy=>by
  rcases S.par n (Tp hy).1 with q|q
  .exact .inl q
  .exact .inr {q,PySem.W.cellsFrom_some _ _ _ (.inl q)}
 refine codeAny_call_function hr.depth (KX _ _ lk) rfl S.co S.gen rfl (PySem.W.codeRec_of KX hcd) (hb _ _ _ _ ?_);refine wpAny_newFunctionEnv_cells S.kind F λenv he s1 x=>?_;subst he;refine {ak.keeps x.toInCall.keep,codeAny_func ?_};obtain ⟨t,ht,hq⟩:=Ya A outer s H vs Q E (hr.deeper _) U;have I:Inv (c8 CX cm P w K mg base N qual scope f G A outer s H E) [] (start N vs) H s1:=KN S hr.hd O hl r x;refine Ow (ht [] s1 (start N vs) H _ I hq) (λfl s' hs=>?_) λe s' hs=>hs;have Zn:∀{z:St}{H':Hp}{v:V}{u:Value},Inv (c8 CX cm P w K mg base N qual scope f G A outer s H E) [] z H' s'->zm v u->Q v H'->CE outer P w H s Q u s' :=
  λ{z H' v u} J rv q=>⟨v,H',J.os,J.bare,J.base,J.hok,rv,q⟩
 cases fl with
 | ret u =>
  obtain ⟨v,z,H',J,rv,q⟩:=hs;exact Zn J rv q
 | next =>
  obtain ⟨z,H',J,q⟩:=hs;exact Zn (v:=V.non) (u:=OL) J rfl q
 | brk =>
  obtain ⟨_,_,_,q⟩:=hs;exact False.elim q
 | cont =>
  obtain ⟨_,_,_,q⟩:=hs;exact False.elim q
section
variable {X:Cx}{x:Str}{p pos:Pos}{e:Og}{es:List Og}{t:TA}{id T:String}{r:List V->Hp->VK->Prop}
def tCB(r:List V->Hp->VK->Prop)(t:TA):TE:=λσ H Q=>t σ H λvs H1=>r vs H1 Q
theorem xO(hc:zU X (.builtin id) r)(J:Gl X x)(hm:X.mg x=none)(hv:Qw x=some (.builtin id))(ha:PA X (e::es) t)(z:x≠"__name__":=by decide)(F:(x==("__debug__":Str))=false:=by decide)
  (he:Om (e::es) X.env=(false,Pa e X.env)::Om es X.env:=by rfl) (G:(P0 pos (Om es X.env)).any (·.1)=false:=by rfl):PE X (.Call (.Name x p) (e::es) [] pos) (tCB r t):=by
 intro Go s σ H Q I h;refine PR (iP I J hm hv ?_ z F);exact PyProof.Rows.callWith_builtin1 (thn (ha pos Go s σ H _ I h) λus s1=>x5e λvs H1 O r1 q1=>hc Go s1 σ H1 vs us Q O r1 q1) he G
theorem Mm(hc:zU X (.type T) r)(J:Gl X x)(hm:X.mg x=none)(hv:Qw x=some (.type T))(ha:PA X (e::es) t)(z:x≠"__name__":=by decide)(F:(x==("__debug__":Str))=false:=by decide)
  (he:Om (e::es) X.env=(false,Pa e X.env)::Om es X.env:=by rfl) (G:(P0 pos (Om es X.env)).any (·.1)=false:=by rfl):PE X (.Call (.Name x p) (e::es) [] pos) (tCB r t):=by
 intro Go s σ H Q I h;refine PR (iP I J hm hv ?_ z F);exact QX (thn (ha pos Go s σ H _ I h) λus s1=>x5e λvs H1 O r1 q1=>hc Go s1 σ H1 vs us Q O r1 q1) he G
end
end L2
namespace HT
open PySem PyProof.Rows
section
variable {prog:NW}{w:Oc}{A:Of}{E:Value->KE->Prop}{s:KE}
theorem cat_tup{t b:Addr}(W:IsTup s.heap t vs.toArray)(hb:IsTup s.heap b ws.toArray)(hv:vs≠[])(h1:ws=[]->Q (.ref t) s)(h2:ws≠[]->Q (.ref s.heap.objs.size) { s with heap:=s.heap.push { cls:=.type "tuple",data:=.seq (vs++ws).toArray } })(hsz:vs.length+ws.length<=sizeLine):N2 (N5 prog w) A (PQ .Add (.ref t) (.ref b)) Q E s:=by
 obtain ⟨⟨cls,dd,data,sl⟩,ho,hc,n,hd⟩:=id W;obtain ⟨⟨J,U,data2,G⟩,z,S,O,F⟩:=id hb;simp only at hc hd S F;subst hc hd S F;have e:vs.toArray++ws.toArray=(vs++ws).toArray:=by simp
 by_cases hw:ws=[]
 .exact concat_meets {_,ho,rfl} {_,z,rfl} noFill_tuple_add seq_tuple_add slot_tuple_add entry_tuple_add (args_tuple_add_2 _ _)
   (tuple_addW1 t b vs.toArray ws.toArray n O dd U sl G (by simpa using hv) (by simp [hw])) {ho,z,h1 hw}
 .refine concat_meets {_,ho,rfl} {_,z,rfl} noFill_tuple_add seq_tuple_add slot_tuple_add entry_tuple_add (args_tuple_add_2 _ _)
   (tuple_addW2 t b vs.toArray ws.toArray n O dd U sl G (by simpa using hv) (by simpa using hw) (by rw [Oa,Oa];exact hsz)) {ho,z,?_}
  rw [e];exact h2 hw
def sIx(n d:Nat):Option Int->Nat
 | none=>d
 | some v=>if v<0 then (v+(n:Int)).toNat else min v.toNat n
theorem Dp(n d:Nat)(hd:d<=n)(o:Option Int):sIx n d o<=n:=by
 cases o with
 | none=>exact hd
 | some v =>
  show (if v<0 then (v+(n:Int)).toNat else min v.toNat n)<=n;by_cases hv:v<0
  .rw [if_pos hv];lia
  .rw [if_neg hv];exact Nat.min_le_right _ _
theorem A7(v:Int)(n d:Nat):(if v<0 then max (v+(n:Int)) 0 else min v (n:Int))=((sIx n d (some v):Nat):Int):=by
 show (if v<0 then max (v+(n:Int)) 0 else min v (n:Int))=(((if v<0 then (v+(n:Int)).toNat else min v.toNat n):Nat):Int);by_cases hv:v<0
 .simp only [if_pos hv];lia
 .simp only [if_neg hv];lia
theorem GU(lo hi:Option Int)(n:Nat):N9.Slice.sliceAdjust lo hi 1 (n:Int)=(((sIx n 0 lo:Nat):Int),((sIx n n hi:Nat):Int)):=by
 have h1 : ¬ ((1:Int)<0):=by lia
 unfold N9.Slice.sliceAdjust;simp only [h1,if_false];refine Prod.ext ?_ ?_
 .cases lo with
  | none=>rfl
  | some v=>exact A7 v n 0
 .cases hi with
  | none=>rfl
  | some v=>exact A7 v n n
theorem L5(i j:Nat):N9.Slice.slicePlaces (i:Int) (j:Int) 1=j-i:=by
 unfold N9.Slice.slicePlaces;have h1:(1:Int)>0:=by lia
 simp only [h1,if_true,Int.ediv_one];split<;>lia
theorem xc{o:Option Int}(p:Sy v o)(h:Q o s):N2 (N5 prog w) A (N9.Slice.slicePartIndex v) Q E s:=by
 cases p with
 | none=>exact slicePart_none h
 | int i t=>exact slicePart_int h
theorem wO{sl:Addr}{J G:Value}{lo hi:Option Int}{n:Nat}{Q:Int×Int×Nat->KE->Prop}(hs:s.heap.IsSliceOf sl J G .none)(pl:Sy J lo)(S:Sy G hi)
  (h:Q (((sIx n 0 lo:Nat):Int),1,sIx n n hi-sIx n 0 lo) s):N2 (N5 prog w) A (N9.Slice.sliceApplied (.ref sl) (pure (n:Int))) Q E s:=by
 obtain ⟨os,F,O,z⟩:=id hs;unfold N9.Slice.sliceApplied N9.Slice.sliceFields;refine we (we (O6 F z (x:=J) rfl (we (O6 F z (x:=G) rfl (we (O6 F z (x:=.none) rfl (NN ?_)))))));refine we (slicePart_none ?_);show N2 _ _ (if ((1:Int)==0)=true then _ else _) _ _ s;rw [if_neg 'd'];refine we (xc pl (we (xc S (we (NN ?_)))));show N2 _ _ (match N9.Slice.sliceAdjust lo hi 1 (n:Int) with|(lo,hi)=>pure (lo,(1:Int),N9.Slice.slicePlaces lo hi 1)) _ _ s;rw [GU lo hi n];show N2 _ _ (pure (((sIx n 0 lo:Nat):Int),(1:Int),N9.Slice.slicePlaces ((sIx n 0 lo:Nat):Int) ((sIx n n hi:Nat):Int) 1)) _ _ s;rw [L5];exact NN h
theorem LO(xs:Array Value)(i k:Nat):((O0 k).filterMap λ(m:Nat)=>xs[((i:Int)+(m:Int)*1).toNat]?).toArray=((xs.toList.drop i).take k).toArray:=by
 have e:(λ(m:Nat)=>xs[((i:Int)+(m:Int)*1).toNat]?)=λm=>xs[i+m]?:=by
  funext m;have:((i:Int)+(m:Int)*1).toNat=i+m:=by lia
  rw [this]
 rw [e];have:=pick_run xs i k;rw [List.filterMap_map] at this;have z:((λx=>xs[x]?)∘λx=>i+x)=λm=>xs[i+m]?:=rfl;rw [z] at this;rw [this]
theorem getItem_tuple_cut{t sl:Addr}{W:Value}{lo hi:Option Int}(z:IsTup s.heap t items)(hs:s.heap.IsSliceOf sl W U .none)(pl:Sy W lo)(pu:Sy U hi)(hw : ¬ (sIx items.size 0 lo=0/\sIx items.size items.size hi=items.size))(h:Q (.ref s.heap.objs.size) { s with heap:=s.heap.push { cls:=.type "tuple",data:=.seq ((items.toList.drop (sIx items.size 0 lo)).take (sIx items.size items.size hi-sIx items.size 0 lo)).toArray } })(hsz:items.size<=sizeLine):N2 (N5 prog w) A (Tf (.ref t) (.ref sl)) Q E s:=by
 have F:sizeOk (.seq ((items.toList.drop (sIx items.size 0 lo)).take (sIx items.size items.size hi-sIx items.size 0 lo)).toArray):=by
  show ((items.toList.drop (sIx items.size 0 lo)).take (sIx items.size items.size hi-sIx items.size 0 lo)).toArray.size<=sizeLine;rw [Oa,ON,Qi,Pl];lia
 have hj:sIx items.size items.size hi<=items.size:=Dp _ _ (NV _) hi;obtain ⟨os,O,J,Z⟩:=id hs;have S:s.TypeIs (.ref sl) "slice":=⟨os,O,J⟩;unfold Tf
 try with_reducible refine On ?_
 first|refine we (NN ?_)|skip
 refine we (wpAny_sequenceKey z.typeIs 'd' ?_);refine we (QA (name:=NS "__getitem__") z.typeIs O7
  (Pk O7 z.typeIs entry_tuple_getitem ?_ (args_tuple_getitem _ _)))
 show N2 _ _ (N9.Tuple.tupleItemsOf (.ref t)>>=_) _ _ s;refine we (tupleItemsOf_ z ?_);refine we (Rw S ?_);rw [if_pos 'd'];refine we (wO hs pl pu ?_);have G : ¬ ((((sIx items.size 0 lo:Nat):Int)==0&&(1:Int)==1&&(sIx items.size items.size hi-sIx items.size 0 lo)==items.size)=true):=by
  intro q;rw [Od,Od] at q;have q1:((sIx items.size 0 lo:Nat):Int)=0:=eq_of_beq q.1.1;have q2:sIx items.size items.size hi-sIx items.size 0 lo=items.size:=eq_of_beq q.2;exact hw {'l','l'}
 show N2 _ _ (if (((sIx items.size 0 lo:Nat):Int)==0&&(1:Int)==1&&(sIx items.size items.size hi-sIx items.size 0 lo)==items.size)=true then _ else _) _ _ s;rw [if_neg G,LO]
 first
  | exact we (m:=N9.Tuple.tupleExact _) (OQ (NN {_,rfl,NN h}) F)
  | exact we (m:=N9.Tuple.tupleExact _) (OQ (we (NN (NN {_,rfl,NN h}))) F)
  | exact we (we (m:=N9.Tuple.tupleExact _) (OQ (NN (NN {_,rfl,NN h})) F))
  | exact we (we (m:=N9.Tuple.tupleExact _) (OQ (NN {_,rfl,NN h}) F))
end
end HT
namespace L2
open PySem PySem.Spec PyProof.Rows
abbrev TO:=St->Hp->(Option Int->Hp->Prop)->Prop
def PO(X:Cx)(e:Option Og)(t:TO):Prop :=
 ∀(Go:List (Addr×Obj))(s:KE)(σ:St)(H:Hp)(Q:Option Int->Hp->Prop),Inv X Go σ H s->t σ H Q ->
  N2 (N5 X.prog X.w) X.A (evalPart e X.env) (λu s'=>∃o H',Inv X Go σ H' s'/\Sy u o/\Q o H') X.xe s
def uA:TO:=λ_ H Q=>Q none H
def sQ(t:TE):TO:=λσ H Q=>t σ H λx H1=>∃i,x = .int i/\Q (some i) H1
section
variable {X:Cx}{e:Og}{te:TE}{lo hi:Option Og}{tl th:TO}{pos p2:Pos}
theorem ck:W (PO X none uA):=by
 refine {?_};intro Go s σ H Q I h;rw [evalPart_none];exact NN {none,H,I,.none,h}
theorem cn(h:W (PE X e te)):W (PO X (some e) (sQ te)):=by
 refine {?_};have h:=h.h;intro Go s σ H Q I hw;rw [evalPart_some];refine thn (h Go s σ H _ I hw) λu s1=>x5e λx H1 z r1 q1=>?_;obtain ⟨i,rfl,q⟩:=q1;obtain ⟨t,rfl⟩:=r1;exact {some i,H1,z,.int i t,q}
def SlR(X:Cx)(r:V->Option Int->Option Int->Hp->VK->Prop):Prop :=
 ∀(Go:List (Addr×Obj))(s:KE)(σ:St)(H:Hp)(x:V)(v F z:Value)(lo hi:Option Int)(sl:Addr)(Q:VK),Inv X Go σ H s->zm x v->s.heap.IsSliceOf sl F z .none->Sy F lo->Sy z hi->r x lo hi H Q ->
  ∃T id,typeLookup (.type T) "__getitem__"=pure (some (.builtin id))/\s.TypeIs v T/\N2 (N5 X.prog X.w) X.A (Tf v (.ref sl)) (EP X Go σ Q) X.xe s
theorem SlR.or{r r':V->Option Int->Option Int->Hp->VK->Prop}(h:SlR X r)(h':SlR X r'):SlR X (λx lo hi H Q=>r x lo hi H Q\/r' x lo hi H Q):=by
 intro Go s σ H x v G z lo hi sl Q I F hs pl J q;rcases q with q|q
 .exact h Go s σ H x v G z lo hi sl Q I F hs pl J q
 .exact h' Go s σ H x v G z lo hi sl Q I F hs pl J q
def tSl(r:V->Option Int->Option Int->Hp->VK->Prop)(te:TE)(tl th:TO):TE:=λσ H Q=>te σ H λx H1=>tl σ H1 λl H2=>th σ H2 λu H3=>r x l u H3 Q
theorem cq{r:V->Option Int->Option Int->Hp->VK->Prop}(hr:SlR X r)(he:W (PE X e te))(hl:W (PO X lo tl))(J:W (PO X hi th)):W (PE X (.Subscript e (.Slice lo hi none p2) pos) (tSl r te tl th)):=by
 refine {?_};have he:=he.h;have hl:=hl.h;have J:=J.h;intro Go s σ H Q I h;refine Subscript_ (thn (he Go s σ H _ I h) λv s1=>x5e λx H1 I1 r1 q1=>?_);refine wpAny_Slice (thn (hl Go s1 σ H1 _ I1 q1) λG s2=>x5e λl H2 U pl Z=>thn (J Go s2 σ H2 _ U Z) λF z=>x5e λu H3 I3 pu S=>?_);rw [evalPart_none];refine NN ?_;have I4:Inv X Go σ H3 { z with heap:=z.heap.push { cls:=.type "slice",data:=.fields #[G,F,.none] } }:=I3.kept (t':=z.toks) λb ob q=>NP _ q;obtain ⟨T,id,hT,O,hg⟩:=hr Go { z with heap:=z.heap.push { cls:=.type "slice",data:=.fields #[G,F,.none] } } σ H3 x v G F l u z.heap.objs.size Q I4 r1 (Heap.IsSliceOf.new ..) pl pu S;show N2 (N5 X.prog X.w) X.A (subscriptTail e (.Slice lo hi none p2) v (.ref z.heap.objs.size)) (EP X Go σ Q) X.xe { z with heap:=z.heap.push { cls:=.type "slice",data:=.fields #[G,F,.none] } };exact tail_any (ops:=[.ref z.heap.objs.size,v]) O hT hg (by with_unfolding_all rfl)
def aW(xs:List V)(lo hi:Option Int):List V:=(xs.drop (HT.sIx xs.length 0 lo)).take (HT.sIx xs.length xs.length hi-HT.sIx xs.length 0 lo)
theorem ua(xs:List V)(lo hi:Option Int):(aW xs lo hi).length<=xs.length:=by
 unfold aW;rw [ON,Qi];lia
def Ce(K:NQ):V->Option Int->Option Int->Hp->VK->Prop:=λx lo hi H Q=>∃a xs,x = .ref a/\SqT K H a xs /\
 ¬ (HT.sIx xs.length 0 lo=0/\HT.sIx xs.length xs.length hi=xs.length)/\∀p,H p=none->Q (.ref p) (upd H p (.tup (aW xs lo hi)))
theorem Ed:SlR X (Ce X.K):=by
 intro Go s σ H x v U S lo hi sl Q I G hs pl O h;obtain ⟨a,xs,rfl,hx,hw,q⟩:=h;cases G;obtain ⟨J,r,F,hz⟩:=I.tuple hx;have z:J.toArray.size=xs.length:=by rw [Oa];exact r.length.symm
 refine {"tuple",_,O7.lookup,F.typeIs,?_};refine HT.getItem_tuple_cut F hs pl O (by rw [z];exact hw) ?_ (by rw [z];exact hz);rw [z];refine {.ref s.heap.objs.size,_,I.laid (t':=s.toks) (o:=.tup (aW xs lo hi)) (λb ob q=>NP _ q) (NV _) ?_,rfl,q _ (I.hok.fresh (NV _))};exact {Ol (ua xs lo hi) hz,_,(r.drop (HT.sIx xs.length 0 lo)).take (HT.sIx xs.length xs.length hi-HT.sIx xs.length 0 lo),IsTup.new _ _}
def Ji(K:NQ):R2:=λx y H Q=>∃a b xs ys,x = .ref a/\y = .ref b/\SqT K H a xs/\SqT K H b ys/\xs≠[]/\xs.length+ys.length<=sizeLine /\
 (ys=[]->Q (.ref a) H)/\(ys≠[]->∀p,H p=none->Q (.ref p) (upd H p (.tup (xs++ys))))
theorem zq.T5(r:zq xs us):us=[]↔xs=[]:=by
 cases r with
 | nil=>simp
 | cons _ _=>simp
theorem Fv:OpR X (PQ .Add) (Ji X.K):=by
 intro Go s σ H x y v u Q I F O h;obtain ⟨a,b,xs,ys,rfl,rfl,ha,hb,hx,hz,q1,J⟩:=h;cases F;cases O;obtain ⟨U,r1,G,_⟩:=I.tuple ha;obtain ⟨S,r2,p2,_⟩:=I.tuple hb;refine HT.cat_tup G p2 (λz=>hx (r1.T5.mp z)) (λz=>{.ref a,H,I,rfl,q1 (r2.T5.mp z)}) (λz=>?_) (by rw [<- r1.length,<- r2.length];exact hz);refine {.ref s.heap.objs.size,_,I.laid (t':=s.toks) (o:=.tup (xs++ys)) (λb ob q=>NP _ q) (NV _) ?_,rfl,J (λw=>z (r2.T5.mpr w)) _ (I.hok.fresh (NV _))};exact {by rw [Ov];exact hz,_,r1.append r2,IsTup.new _ _}
end
def ixN(n:Nat)(i:Int):Option Nat:=if 0<=i then (if i<n then some i.toNat else none) else if -(n:Int)<=i then some (i+n).toNat else none
def atI{α:Type}(xs:List α)(i:Int):Option α:=(ixN xs.length i).bind λj=>xs[j]?
theorem u7(h:ixN n i=some j):seqIndex? i n=some j/\j<n/\-(n:Int)<=i/\i<n:=by
 unfold ixN at h;by_cases z:0<=i
 .rw [if_pos z] at h;by_cases h1:i<n
  .rw [if_pos h1] at h;have e:i.toNat=j:=OG.inj h;exact {by rw [seqIndex_of z h1,e],'l','l',h1}
  .rw [if_neg h1] at h;cases h
 .rw [if_neg z] at h;by_cases h1 : -(n:Int)<=i
  .rw [if_pos h1] at h;have e:(i+n).toNat=j:=OG.inj h;exact {by rw [seqIndex_neg 'l' h1,e],'l',h1,'l'}
  .rw [if_neg h1] at h;cases h
theorem nW{α:Type}{xs:List α}{v:α}(h:atI xs i=some v):∃j,seqIndex? i xs.length=some j/\xs[j]?=some v/\j<xs.length/\-(xs.length:Int)<=i/\i<xs.length:=by
 unfold atI at h;cases e:ixN xs.length i with
 | none=>rw [e] at h;cases h
 | some j =>
  rw [e] at h;obtain ⟨h1,h2,h3,h4⟩:=u7 e;exact ⟨j,h1,h,h2,h3,h4⟩
theorem fT{α:Type}{xs:List α}{j:Nat}{v:α}(h:xs[j]?=some v):atI xs (j:Int)=some v:=by
 have z:j<xs.length:=(NU.mp h).1;have e:ixN xs.length (j:Int)=some j:=by
  unfold ixN;rw [if_pos 'l',if_pos 'l'];simp
 unfold atI;rw [e];exact h
def Ay(b:Og):Prop:=∀o i,subscripted b false o i=operate [o,i] (Tf o i)
def IxR(X:Cx)(r:R2):Prop :=
 ∀(ZA z:Og)(Go:List (Addr×Obj))(s:KE)(σ:St)(H:Hp)(x y:V)(v u:Value)(Q:VK),Inv X Go σ H s->zm x v->zm y u->r x y H Q ->
  subscripted z false v u=operate [v,u] (Tf v u)->N2 (N5 X.prog X.w) X.A (subscriptTail ZA z v u) (EP X Go σ Q) X.xe s
def MtR(X:Cx)(id:String)(r:V->List V->Hp->VK->Prop):Prop :=
 ∀(Go:List (Addr×Obj))(s:KE)(σ:St)(H:Hp)(x:V)(xs:List V)(v:Value)(us:List Value)(Q:VK),Inv X Go σ H s->zm x v->zq xs us->r x xs H Q ->
  N2 (N5 X.prog X.w) X.A (call (.builtin id) (v::us)) (EP X Go σ Q) X.xe s
section
variable {X:Cx}{a b:Og}{ta tb:TE}{pos:Pos}
theorem IxR.or{r r':R2}(h:IxR X r)(h':IxR X r'):IxR X (λx y H Q=>r x y H Q\/r' x y H Q):=by
 intro ZA F Go s σ H x y v u Q I z G q hs;rcases q with q|q
 .exact h ZA F Go s σ H x y v u Q I z G q hs
 .exact h' ZA F Go s σ H x y v u Q I z G q hs
theorem vn{r:R2}(hr:IxR X r)(ha:PE X a ta)(hb:PE X b tb)(hs:Ay b):PE X (.Subscript a b pos) (tOp r ta tb):=by
 intro Go s σ H Q I h;exact Subscript_ (rW ha hb I h λv u s2 x y H2 F z G q=>hr a b Go s2 σ H2 x y v u Q F z G q (hs _ _))
def AA(K:NQ):R2:=λx y H Q=>∃p xs i v,x = .ref p/\y = .int i/\SqL K H p xs/\atI xs i=some v/\Q v H
def Bt(K:NQ):R2:=λx y H Q=>∃p xs i v,x = .ref p/\y = .int i/\SqT K H p xs/\atI xs i=some v/\Q v H
def AY:R2:=λx y H Q=>∃z i c,x = .str z/\y = .int i/\z.length<=sizeLine/\atI z.cps.toList i=some c/\Q (.str {#[c]}) H
theorem Bg:IxR X (AA X.K):=by
 intro ZA YV Go s σ H x y v u Q I S Z h hs;obtain ⟨p,xs,i,z,rfl,rfl,hq,he,q⟩:=h;cases S;obtain ⟨t,rfl⟩:=Z;obtain ⟨Z7,r,pl,hz⟩:=I.list hq;obtain ⟨j,h1,h2,h3,h4,U⟩:=nW he;obtain ⟨w,G,W⟩:=r.get h2;have hl:=r.length;have hn:=gG;have O:EP X Go σ Q w s:=⟨z,H,I,W,q⟩;by_cases J:0<=i
 .have F:i.toNat=j:=by
   rw [seqIndex_of J U] at h1;exact OG.inj h1
  exact item_listR pl.isList J 'l' (by rw [F];simpa using G) O hs
 .have F:(i+(Z7.toArray.size:Int)).toNat=j:=by
   rw [seqIndex_neg 'l' h4] at h1;rw [Oa,<- hl];exact OG.inj h1
  exact subscriptTail_builtinR (x:=w) pl.isList.typeIs SI.lookup
   (wpAny_getItem_list_neg (Q:=λr s'=>r=w/\EP X Go σ Q r s') pl.isList 'l' (by rw [Oa]<;>lia) 'l' (by rw [F];simpa using G) {rfl,O}) hs
theorem Ko:IxR X (Bt X.K):=by
 intro ZA W Go s σ H x y v u Q I F J h hs;obtain ⟨p,xs,i,z,rfl,rfl,O,he,q⟩:=h;cases F;obtain ⟨t,rfl⟩:=J;obtain ⟨Z7,r,pl,hz⟩:=I.tuple O;obtain ⟨j,h1,h2,h3,h4,Z⟩:=nW he;obtain ⟨w,S,G⟩:=r.get h2;have hl:=r.length;have hn:=gG;have U:EP X Go σ Q w s:=⟨z,H,I,G,q⟩;exact subscriptTail_builtinR (x:=w) pl.typeIs slot_tuple_getitem.lookup
  (getItem_tuple (j:=j) (Q:=λr s'=>r=w/\EP X Go σ Q r s') pl 'l' 'l' (by rw [Oa,<- hl];exact h1) (by simpa using S) {rfl,U}) hs
theorem Fc:IxR X AY:=by
 intro ZA U Go s σ H x y v u Q I F J h hs;obtain ⟨z,i,c,rfl,rfl,hz,he,q⟩:=h;obtain ⟨t,rfl⟩:=F;obtain ⟨t',rfl⟩:=J;obtain ⟨j,h1,h2,h3,h4,G⟩:=nW he;have hl:z.cps.toList.length=z.length:=by simp [Str.length]
 rw [hl] at h1 h4 G;have W:=gG;exact tail_any (RO s z t) slot_str_getitem.lookup (getItem_str (c:=c) (by
  have O:decide (i < -(2 ^ 63:Int))=false:=decide_eq_false 'l';have S:decide (i ≥ 2 ^ 63)=false:=decide_eq_false 'l';rw [O,S,SX]) (by rw [h1];simpa using h2) {.str {#[c]},H,I.tok _,{_,rfl},q}) hs
def rIx(K:NQ):R2:=λx y H Q=>AA K x y H Q\/Bt K x y H Q\/AY x y H Q
theorem GQ:IxR X (rIx X.K):=Bg.or (Ko.or Fc)
theorem Jb(z:List Value)(n j:Nat)(u:Value):Tt (·.setIfInBounds j u) { cls:=.type "list",data:=.seq z.toArray n }={ cls:=.type "list",data:=.seq (z.set j u).toArray n }:=by
 simp [Tt]
theorem Inv.lst{Go:List (Addr×Obj)}{σ:St}{H:Hp}{s:KE}{p:Addr}{xs:List V}(I:Inv X Go σ H s)(h:H p=some (.lst xs)) :
  ∃(F:List Value)(n:Nat),zq xs F/\s.heap.get? p=some { cls:=.type "list",data:=.seq F.toArray n }/\xs.length<=sizeLine:=by
 obtain ⟨z,F,n,r,e⟩:=I.hok p _ h;exact ⟨F,n,r,e,z⟩
theorem Inv.bF{p:Addr}{F its':List Value}(I:Inv X Go σ H s)(h:H p=some (.lst xs))(ho:s.heap.get? p=some { cls:=.type "list",data:=.seq F.toArray n })(hf:f { cls:=.type "list",data:=.seq F.toArray n }={ cls:=.type "list",data:=.seq its'.toArray z })(r:zq ys its')(hz:ys.length<=sizeLine)(t:Nat):
  Inv X Go σ (upd H p (.lst ys)) { s with heap:=s.heap.update p f,toks:=t }:=by
 have e:(s.heap.update p f).get? p=some { cls:=.type "list",data:=.seq its'.toArray z }:=by
  rw [OW f ho (by rw [hf]<;>rfl),hf]
 refine I.write (x:=p) (e:=p) (by rw [h];trivial) (.inl rfl) (λb u hb q=>(Oz _ _ (OY hb)).trans q) {_,e} ?_;exact ⟨hz,its',z,r,e⟩
def pX:V->V->V->Hp->(Hp->Prop)->Prop:=λo i v H Q=>∃p xs k j,o = .ref p/\i = .int k/\H p=some (.lst xs)/\ixN xs.length k=some j/\Q (upd H p (.lst (xs.set j v)))
theorem iJ:nQ X pX:=by
 intro Go s σ H o i v ov iv u Q I O S Z h;obtain ⟨p,xs,k,j,rfl,rfl,hp,U,q⟩:=h;cases O;obtain ⟨t,rfl⟩:=S;obtain ⟨G,n,r,ho,hz⟩:=I.lst hp;obtain ⟨h1,h2,h3,h4⟩:=u7 U;have hl:=r.length;have hn:=gG;have F:Inv X Go σ (upd H p (.lst (xs.set j v))) { s with heap:=s.heap.update p (Tt (·.setIfInBounds j u)) } :=
  I.bF hp ho (Jb G n j u) (r.set Z j) (by rw [length_set];exact hz) s.toks
 by_cases J:0<=k
 .have z:k.toNat=j:=by
   rw [seqIndex_of J h4] at h1;exact OG.inj h1
  exact PySem.W.ki_setAt ho J 'l' (by rw [Oa,<- hl];exact h4) (by rw [z];exact {_,F,q})
 .have z:(k+(G.toArray.size:Int)).toNat=j:=by
   rw [seqIndex_neg 'l' h3] at h1;rw [Oa,<- hl];exact OG.inj h1
  exact PySem.W.ki_setBack ho 'l' (by rw [Oa,<- hl];exact h3) 'l' (by rw [z];exact {_,F,q})
theorem C5(lo hi:Option Int)(n:Nat):(QJ lo hi none n).1=((HT.sIx n 0 lo:Nat):Int)/\(QJ lo hi none n).2.1=((HT.sIx n n hi:Nat):Int)/\(QJ lo hi none n).2.2=1:=by
 refine {?_,?_,rfl}
 .cases lo with
  | none=>simp [QJ,HT.sIx]
  | some i =>
   simp only [QJ,HT.sIx,getD_none,show (1:Int)>0 by decide,if_true];by_cases h:i<0
   .simp only [h,if_true]<;>lia
   .simp only [h,if_false]<;>lia
 .cases hi with
  | none=>simp [QJ,HT.sIx]
  | some i =>
   simp only [QJ,HT.sIx,getD_none,show (1:Int)>0 by decide,if_true];by_cases h:i<0
   .simp only [h,if_true]<;>lia
   .simp only [h,if_false]<;>lia
theorem DX(z:List Value)(lo hi:Option Int):slicePick z.toArray lo hi none=((z.drop (HT.sIx z.length 0 lo)).take (HT.sIx z.length z.length hi-HT.sIx z.length 0 lo)).toArray:=by
 obtain ⟨h1,h2,h3⟩:=C5 lo hi z.toArray.size;unfold slicePick;rw [h1,h2,h3];simp only [sliceRange_one,pick_run,Oa]<;>rfl
def KU(K:NQ):V->Option Int->Option Int->Hp->VK->Prop:=λx lo hi H Q=>∃a xs,x = .ref a/\SqL K H a xs/\∀p,H p=none->Q (.ref p) (upd H p (.lst (aW xs lo hi)))
theorem Eg:SlR X (KU X.K):=by
 intro Go s σ H x v S O lo hi sl Q I F hs pl J h;obtain ⟨a,xs,rfl,hx,q⟩:=h;cases F;obtain ⟨U,r,z,hz⟩:=I.list hx;have G:=r.length;refine {"list",_,SI.lookup,z.isList.typeIs,?_};refine wpAny_getItem_list_slice z.isList hs pl J .none 'z' ?_ (by rw [Oa]<;>lia);rw [DX,<- G];refine {.ref s.heap.objs.size,_,I.laid (t':=s.toks) (o:=.lst (aW xs lo hi)) (λb ob q=>NP _ q) (NV _) ?_,rfl,q _ (I.hok.fresh (NV _))};exact {Ol (ua xs lo hi) hz,_,0,(r.drop (HT.sIx xs.length 0 lo)).take (HT.sIx xs.length xs.length hi-HT.sIx xs.length 0 lo),N7 _ rfl}
def ae:V->Bool
 | .non=>true
 | .bl _=>true
 | .int _=>true
 | .str _=>true
 | _=>false
def eqV:V->V->Bool
 | .non,.non=>true
 | .bl a,.bl b=>a==b
 | .bl a,.int b=>(if a then 1 else 0)==b
 | .int a,.bl b=>a==(if b then 1 else 0)
 | .int a,.int b=>a==b
 | .str a,.str b=>a==b
 | _,_=>false
theorem rp(G:zm y u)(z:zm x v)(J:ae y=true)(F:ae x=true):SeqAt.EqAt A s u v (eqV y x):=by
 cases y with
 | non =>
  cases G;cases x with
  | non=>cases z;exact SeqAt.EqAt.same _
  | bl b=>cases z;exact SeqAt.EqAt.none_bool b
  | int b=>obtain ⟨t,rfl⟩:=z;exact SeqAt.EqAt.none_int b t
  | str b=>obtain ⟨t,rfl⟩:=z;exact SeqAt.EqAt.none_str b t
  | _=>exact absurd (show false=true from F) N8
 | bl a =>
  cases G;cases x with
  | non=>cases z;exact SeqAt.EqAt.bool_none a
  | bl b=>cases z;exact SeqAt.EqAt.bool_bool a b
  | int b=>obtain ⟨t,rfl⟩:=z;exact SeqAt.EqAt.bool_int a b t
  | str b=>obtain ⟨t,rfl⟩:=z;exact SeqAt.EqAt.bool_str a b t
  | _=>exact absurd (show false=true from F) N8
 | int a =>
  obtain ⟨t',rfl⟩:=G;cases x with
  | non=>cases z;exact SeqAt.EqAt.int_none a t'
  | bl b=>cases z;exact SeqAt.EqAt.int_bool a t' b
  | int b=>obtain ⟨t,rfl⟩:=z;exact SeqAt.EqAt.int_int a t' b t
  | str b=>obtain ⟨t,rfl⟩:=z;exact SeqAt.EqAt.int_str a t' b t
  | _=>exact absurd (show false=true from F) N8
 | str a =>
  obtain ⟨t',rfl⟩:=G;cases x with
  | non=>cases z;exact SeqAt.EqAt.str_none a t'
  | bl b=>cases z;exact SeqAt.EqAt.str_bool a t' b
  | int b=>obtain ⟨t,rfl⟩:=z;exact SeqAt.EqAt.str_int a t' b t
  | str b=>obtain ⟨t,rfl⟩:=z;exact SeqAt.EqAt.str_str a t' b t
  | _=>exact absurd (show false=true from F) N8
 | _=>exact absurd (show false=true from J) N8
def eqU(x:V)(u:Value):Bool:=match u with
 | .none=>eqV .non x
 | .bool b=>eqV (.bl b) x
 | .int i _=>eqV (.int i) x
 | .str z _=>eqV (.str z) x
 | _=>false
theorem tV(r:zm y u)(f:ae y=true):eqU x u=eqV y x:=by
 cases y with
 | non=>cases r;rfl
 | bl b=>cases r;rfl
 | int i=>obtain ⟨t,rfl⟩:=r;rfl
 | str z=>obtain ⟨t,rfl⟩:=r;rfl
 | _=>exact absurd (show false=true from f) N8
theorem lZ(h:zq xs us)(f:xs.all ae=true):us.any (eqU x)=xs.any λy=>eqV y x:=by
 induction h with
 | nil=>rfl
 | cons r t z =>
  rw [Tv,Od] at f;rw [Tu,Tu,tV r f.1,z f.2]
theorem jT(G:zm x v)(F:ae x=true):∀{xs:List V}{us:List Value},zq xs us->xs.all ae=true->∀u∈us,SeqAt.EqAt A s u v (eqU x u)
 | _,_,.nil,_=>λu z=>by cases z
 | y::xs,u::us,.cons r t,f=>λJ z=>by
  rw [Tv,Od] at f;rcases NT.mp z with rfl|z
  .rw [tV r f.1];exact rp r G f.1 F
  .exact jT G F t f.2 J z
def inV(x:V)(xs:List V):Bool:=xs.any λy=>eqV y x
def rIn(K:NQ)(neg:Bool):R2:=λx y H Q=>∃p xs,y = .ref p/\(SqL K H p xs\/SqT K H p xs)/\ae x=true/\xs.all ae=true/\Q (.bl (if neg then !inV x xs else inV x xs)) H
theorem Ho:OpR X (OV .In) (rIn X.K false):=by
 intro Go s σ H x y v u Q I G O h;obtain ⟨p,xs,rfl,z,J,fs,q⟩:=h;cases O;rcases z with z|z
 .obtain ⟨F,r,pl,hz⟩:=I.list z;refine SeqAt.in_listAt (eqU x) pl.isList (λw hw=>jT G J r fs w (by simpa using hw)) {.bl _,H,I,rfl,?_};rw [show F.toArray.any (eqU x)=F.any (eqU x) by simp,lZ r fs];exact q
 .obtain ⟨F,r,pl,hz⟩:=I.tuple z;refine SeqAt.in_tupleAt (eqU x) pl (λw hw=>jT G J r fs w (by simpa using hw)) {.bl _,H,I,rfl,?_};rw [show F.toArray.any (eqU x)=F.any (eqU x) by simp,lZ r fs];exact q
theorem Kz:OpR X (OV .NotIn) (rIn X.K true):=by
 intro Go s σ H x y v u Q I G O h;obtain ⟨p,xs,rfl,z,J,fs,q⟩:=h;cases O;rcases z with z|z
 .obtain ⟨F,r,pl,hz⟩:=I.list z;refine SeqAt.notIn_listAt (eqU x) pl.isList (λw hw=>jT G J r fs w (by simpa using hw)) {.bl _,H,I,rfl,?_};rw [show F.toArray.any (eqU x)=F.any (eqU x) by simp,lZ r fs];exact q
 .obtain ⟨F,r,pl,hz⟩:=I.tuple z;refine SeqAt.notIn_tupleAt (eqU x) pl (λw hw=>jT G J r fs w (by simpa using hw)) {.bl _,H,I,rfl,?_};rw [show F.toArray.any (eqU x)=F.any (eqU x) by simp,lZ r fs];exact q
theorem Hq:OpR X (OV .NotIn) (λx y H Q=>∃i j,x = .str i/\y = .str j/\Q (.bl (!(!(N9.Str.occurrences j i 0 j.length 1).isEmpty))) H):=by
 intro Go s σ H x y v u Q I z F h;obtain ⟨i,j,rfl,rfl,q⟩:=h;obtain ⟨t,rfl⟩:=z;obtain ⟨t',rfl⟩:=F;exact notIn_str {.bl _,H,I,rfl,q}
theorem nR:zU X (.builtin "len") (λxs H Q=>∃p ys,xs=[.ref p]/\(SqL X.K H p ys\/SqT X.K H p ys)/\Q (.int ys.length) H):=by
 intro Go s σ H xs us Q I r h;obtain ⟨p,ys,rfl,z,q⟩:=h;obtain ⟨u,rfl,G⟩:=bM r;cases G;have O:=gG;rcases z with z|z
 .obtain ⟨J,r',pl,hz⟩:=I.list z;have F:=r'.length;exact Calls.call_len_list pl.isList (by simp only [Oa]<;>lia) {.int ys.length,H,I.tok _,{s.toks+1,by rw [Oa,F]},q}
 .obtain ⟨J,r',pl,hz⟩:=I.tuple z;have F:=r'.length;exact len_tuple pl (by simp only [Oa]<;>lia) {.int ys.length,H,I.tok _,{s.toks+1,by rw [Oa,F]},q}
theorem G9:zU X (.builtin "len") (λxs H Q=>∃z,xs=[.str z]/\z.length<=sizeLine/\Q (.int z.length) H):=by
 intro Go s σ H xs us Q I r h;obtain ⟨z,rfl,hz,q⟩:=h;obtain ⟨u,rfl,t,rfl⟩:=bM r;have F:=gG;exact len_str 'l' {.int z.length,H,I.tok _,{_,rfl},q}
theorem zU.or{r r':List V->Hp->VK->Prop}(h:zU X f r)(h':zU X f r'):zU X f (λxs H Q=>r xs H Q\/r' xs H Q):=by
 intro Go s σ H xs us Q I z q;rcases q with q|q
 .exact h Go s σ H xs us Q I z q
 .exact h' Go s σ H xs us Q I z q
theorem Lz:zU X (.type "list") (λxs H Q=>∃p ys,xs=[.ref p]/\(SqL X.K H p ys\/SqT X.K H p ys)/\∀l,H l=none->Q (.ref l) (upd H l (.lst ys))):=by
 intro Go s σ H xs us Q I r h;obtain ⟨p,ys,rfl,G,q⟩:=h;obtain ⟨u,rfl,O⟩:=bM r;cases O;have J:∀(z:List Value),zq ys z->ys.length<=sizeLine->∀(h':Heap)(F:Nat),(∀b o',s.heap.get? b=some o'->h'.get? b=some o') ->
   h'.get? s.heap.objs.size=some { cls:=.type "list",dict:=none,data:=.seq z.toArray F,slots:=#[] }->EP X Go σ Q (.ref s.heap.objs.size) { s with heap:=h' }:=λz r' hz h' F kp e =>
  {.ref s.heap.objs.size,_,I.laid (t':=s.toks) kp (NV _) (show z8 X.prog X.w _ h' _ (.lst ys) from ⟨hz,z,F,r',e⟩),rfl,q _ (I.hok.fresh (NV _))}
 rcases G with G|G
 .obtain ⟨z,r',pl,hz⟩:=I.list G;have S:=r'.length;obtain ⟨o,ho,hc,n,hd⟩:=pl.isList;exact call_list_seq p (.inl rfl) ho hc hd (λh' F kp e=>J z r' hz h' F kp e) (by simp only [Oa]<;>lia)
 .obtain ⟨z,r',pl,hz⟩:=I.tuple G;have S:=r'.length;obtain ⟨o,ho,hc,n,hd⟩:=pl;exact call_list_seq p (.inr rfl) ho hc hd (λh' F kp e=>J z r' hz h' F kp e) (by simp only [Oa]<;>lia)
def tyV(K:NQ)(T:String)(x:V)(H:Hp):Prop:=match x with
 | .str _=>T="str"
 | .int _=>T="int"
 | .ref p=>(T="list"/\∃xs,SqL K H p xs)\/(T="tuple"/\∃o,K.lookup p=some o/\o.cls = .type "tuple"/\o.dict=none) \/
   (T="dict"/\((∃kvs,H p=some (.dK kvs))\/∃kvs,H p=some (.dT kvs)))\/(T="set"/\∃S n,H p=some (.set S n))
 | _=>False
theorem iq(I:Inv X Go σ H s)(r:zm x v)(ty:tyV X.K T x H):
  s.TypeIs v T/\∀a,v = .ref a->∃ob,s.heap.get? a=some ob/\ob.dict=none:=by
 cases x with
 | str z =>
  obtain ⟨t,rfl⟩:=r;cases (show T="str" from ty);exact {RO s z t,λ_ e=>nomatch e}
 | int i =>
  obtain ⟨t,rfl⟩:=r;cases (show T="int" from ty);exact {typeIs_int s i t,λ_ e=>nomatch e}
 | ref p =>
  cases r;rcases ty with ⟨rfl,xs,J⟩|⟨rfl,o,F,hc,hd⟩|⟨rfl,F⟩|⟨rfl,S,n,F⟩
  .obtain ⟨O,_,pl,_⟩:=I.list J;refine {pl.isList.typeIs,λa e=>?_};cases e;obtain ⟨o,n,e,c,hd,_⟩:=pl;exact ⟨o,e,hd⟩
  .refine {{o,I.z9 p o F,hc},λa e=>?_};cases e;exact {o,I.z9 _ o F,hd}
  .have z:∃o,s.heap.get? p=some o/\o.ExactDict:=by
    rcases F with ⟨kvs,F⟩|⟨kvs,F⟩
    .obtain ⟨_,_,_,_,o,_,_,e,ex,_⟩:=I.hok p _ F;exact ⟨o,e,ex⟩
    .obtain ⟨_,_,_,_,o,_,_,e,ex,_⟩:=I.hok p _ F;exact ⟨o,e,ex⟩
   obtain ⟨o,e,ex⟩:=z;refine {⟨o,e,ex.1⟩,λa G=>?_};cases G;exact ⟨o,e,ex.2.1⟩
  .obtain ⟨o,_,_,_,e,ex,_⟩:=I.hok p _ F;refine {⟨o,e,ex.1⟩,λa G=>?_};cases G;exact ⟨o,e,ex.2.1⟩
 | _=>exact False.elim ty
variable {o e:Og}{es:List Og}{to:TE}{t:TA}{name:Str}{Z3 cpos:Pos}{T id:String}{r:V->List V->Hp->VK->Prop}
end
def MtM(X:Cx)(id:String)(r:V->List V->Hp->VK->Prop):Prop :=
 ∀(Go:List (Addr×Obj))(s:KE)(σ:St)(H:Hp)(x:V)(xs:List V)(v:Value)(us:List Value)(Q:VK),Inv X Go σ H s->zm x v->zq xs us->r x xs H Q ->
  N2 (N5 X.prog X.w) X.A (call (.builtin id) (v::us)) (EP X Go σ Q) X.xe s
theorem Et{α β:Type}{F:α->β->Prop}{x:α}{xs:List α}{us:List β}(h:Paired F (x::xs) us):∃u ws,us=u::ws/\F x u/\Paired F xs ws:=by
 cases h with
 | cons r t=>exact {_,_,rfl,r,t}
theorem K0{α β:Type}{F:α->β->Prop}{us:List β}(h:Paired F [] us):us=[]:=by cases h;rfl
theorem zq.one(h:zq [x] us):∃u,us=[u]/\zm x u:=by
 obtain ⟨u,ws,rfl,r,t⟩:=Et h;cases K0 t;exact {_,rfl,r}
def cP(k:V->Prop):List V->Prop
 | [y]=>k y
 | _=>False
theorem cP.ex{k:V->Prop}(h:cP k vs):∃y,vs=[y]/\k y:=by
 cases vs with
 | nil=>exact h.elim
 | cons y t =>
  cases t with
  | nil=>exact {y,rfl,h}
  | cons _ _=>exact h.elim
theorem zq.eraseIdx:∀{xs:List V}{us:List Value}(i:Nat),zq xs us->zq (xs.eraseIdx i) (us.eraseIdx i)
 | _,_,_,.nil=>.nil
 | _,_,0,.cons _ t=>t
 | _,_,i+1,.cons r t=>.cons r (zq.eraseIdx i t)
theorem zq.rep(h:zq xs us):∀k:Nat,zq (Pc k xs).flatten (Pc k us).flatten
 | 0=>.nil
 | k+1=>by
  rw [Qk,Qk,RH,RH];exact zq.append h (zq.rep h k)
theorem ve{α:Type}:∀(l:List α)(i:Nat),(l.eraseIdx i).length<=l.length
 | [],_=>NV _
 | _::_,0=>SK _
 | _::r,i+1=>Sl (ve r i)
theorem xr(z:List Value):∀(k:Nat)(ZZ:List Value),
  foldl (λF J=>F++J) ZZ.toArray (Pc k z.toArray)=(ZZ++(Pc k z).flatten).toArray
 | 0,ZZ=>by simp
 | k+1,ZZ=>by
  have e:ZZ.toArray++z.toArray=(ZZ++z).toArray:=by simp
  have G:(ZZ++z)++(Pc k z).flatten=ZZ++(Pc (k+1) z).flatten:=by
   rw [Qk,RH,OR]
  rw [<- G,<- xr z k (ZZ++z),<- e,Qk,Tg]
section
variable {X:Cx}{Go:List (Addr×Obj)}{σ:St}{H:Hp}{s:KE}{l b:Addr}{xs ys zs:List V}
theorem Inv.a8{z its':List Value}(I:Inv X Go σ H s)(G:H l=some (.lst xs))(e:s.heap.get? l=some { cls:=.type "list",data:=.seq z.toArray n })(hf:f z.toArray=its'.toArray)(hv:zq ys its')(hz:ys.length<=sizeLine):
  Inv X Go σ (upd H l (.lst ys)) { s with heap:=s.heap.update l (Tt f),toks:=t' }:=by
 have q:=PySem.IsL.update e f;rw [hf] at q;refine I.write (x:=l) (e:=l) (by rw [G];exact trivial) (.inl rfl) (λJ u hb F=>(Oz s.heap (Tt f) (OY hb)).trans F) {_,q} ?_;exact {hz,its',_,hv,q}
theorem Inv.b4(I:Inv X Go σ H s)(hv:zq ys z)(hz:ys.length<=sizeLine):
  Inv X Go σ (upd H s.heap.objs.size (.lst ys)) { s with heap:=s.heap.push { cls:=.type "list",data:=.seq z.toArray },toks:=t' } :=
 I.laid (λ_ _ q=>NP _ q) (NV _) {hz,z,0,hv,N7 _ rfl}
theorem Inv.fresh(I:Inv X Go σ H s):H s.heap.objs.size=none:=I.hok.fresh (NV _)
theorem Inv.UP(I:Inv X Go σ H s)(G:H l=some (.lst xs)):xs.length<=sizeLine/\∃(F:List Value)(n:Nat),zq xs F/\xs.length=F.length/\s.heap.get? l=some { cls:=.type "list",data:=.seq F.toArray n }:=by
 obtain ⟨z,F,n,r,e⟩:=I.hok l _ G;exact ⟨z,F,n,r,r.length,e⟩
theorem xv(h:n<=sizeLine):N9.List.listTooLong n=false:=by
 unfold N9.List.listTooLong;exact decide_eq_false 'l'
end
section
variable {X:Cx}
def Er:V->List V->Hp->VK->Prop:=λx vs H Q=>∃l xs y,x = .ref l/\vs=[y]/\H l=some (.lst xs)/\xs.length<sizeLine/\Q .non (upd H l (.lst (xs++[y])))
theorem JN:MtM X "list.append" Er:=by
 intro Go s σ H x vs v us Q I O U h;obtain ⟨l,xs,y,rfl,rfl,J,hz,q⟩:=h;cases O;obtain ⟨u,rfl,S⟩:=U.one;obtain ⟨z,G,n,r,hl,e⟩:=I.UP J;refine QM F.slot_list_append {_,e,rfl} F.entry_list_append (F.args_list_append_2 _ _) (PySem.list_append l G.toArray n u (by rw [Oa];lia)) {e,?_};refine {.non,_,I.a8 (its':=G++[u]) J e 'z' (r.append (.cons S .nil)) ?_,rfl,q};rw [Ov,O2];lia
def JD:V->List V->Hp->VK->Prop:=λx vs H Q=>∃l b xs zs,x = .ref l/\vs=[.ref b]/\H l=some (.lst xs)/\H b=some (.lst zs)/\xs.length+zs.length<=sizeLine/\Q .non (upd H l (.lst (xs++zs)))
theorem B4:MtM X "list.extend" JD:=by
 intro Go s σ H x vs v us Q I S rv h;obtain ⟨l,b,xs,zs,rfl,rfl,O,W,hz,q⟩:=h;cases S;obtain ⟨u,rfl,ru⟩:=rv.one;cases ru;obtain ⟨z,G,n,r,hl,e⟩:=I.UP O;obtain ⟨z2,J,U,r2,Z,e2⟩:=I.UP W;have hsz:G.toArray.size+J.toArray.size<=sizeLine:=by rw [Oa,Oa];lia
 have Xh : ¬ (!G.toArray.isEmpty&&N9.List.listTooLong (G.toArray.size+J.toArray.size))=true:=by
  rw [xv hsz,Tw];exact N8
 refine QM F.slot_list_extend {_,e,rfl} F.entry_list_extend (F.args_list_extend_2 _ _)
  (AutoSeq1.list_extend_list_list_0 l G.toArray n b J.toArray U Xh (by rw [Oa];lia) 'l') {e,e2,?_}
 refine {.non,_,I.a8 (its':=G++J) O e 'z' (r.append r2) ?_,rfl,q};rw [Ov];lia
def Ct:V->List V->Hp->VK->Prop:=λx vs H Q=>∃l xs i k y,x = .ref l/\vs=[.int i]/\H l=some (.lst xs)/\-(2 ^ 63)<=i/\i<2 ^ 63/\seqIndex? i xs.length=some k/\xs[k]?=some y/\Q y (upd H l (.lst (xs.eraseIdx k)))
theorem Cj:MtM X "list.pop" Ct:=by
 intro Go s σ H x vs v us Q I O rv h;obtain ⟨l,xs,i,k,y,rfl,rfl,J,h1,h2,U,S,q⟩:=h;cases O;obtain ⟨u,rfl,Z⟩:=rv.one;obtain ⟨t,rfl⟩:=Z;obtain ⟨z,G,n,r,hl,e⟩:=I.UP J;obtain ⟨w,hw,W⟩:=r.get S;refine QM F.slot_list_pop {_,e,rfl} F.entry_list_pop (F.args_list_pop_2 _ _)
  (MeetsSeq.list_pop_at l G.toArray n i t k w (fitsIndex_both h1 h2) (by rw [Oa,<- hl];exact U) (by rw [<- O3];exact hw) (by rw [Oa];lia)) {e,?_}
 refine {y,_,I.a8 (its':=G.eraseIdx k) J e ?_ (r.eraseIdx k) ?_,W,q}
 .show G.toArray.eraseIdxIfInBounds k=(G.eraseIdx k).toArray;rw [List.eraseIdxIfInBounds_toArray]
 .have:=ve xs k;lia
def KL:R2:=λx y H Q=>∃l b xs zs,x = .ref l/\y = .ref b/\H l=some (.lst xs)/\H b=some (.lst zs)/\xs.length+zs.length<=sizeLine/\∀p,H p=none->Q (.ref p) (upd H p (.lst (xs++zs)))
theorem JK:OpR X (PQ .Add) KL:=by
 intro Go s σ H x y v u Q I J U h;obtain ⟨l,b,xs,zs,rfl,rfl,Z,O,hz,q⟩:=h;cases J;cases U;obtain ⟨z,G,n,r,hl,e⟩:=I.UP Z;obtain ⟨z2,F,n2,r2,S,W⟩:=I.UP O;refine PySem.P.add_list e W ?_ (by rw [Oa,Oa];lia);have ea:G.toArray++F.toArray=(G++F).toArray:=by simp
 rw [ea];exact {.ref _,_,I.b4 (t':=s.toks) (r.append r2) (by rw [Ov];lia),rfl,q _ I.fresh}
def CG:R2:=λx y H Q=>∃l k xs,x = .ref l/\y = .int k/\H l=some (.lst xs)/\-(2 ^ 63)<=k/\k<2 ^ 63/\xs.length*k.toNat<=sizeLine /\
 ∀p,H p=none->Q (.ref p) (upd H p (.lst (Pc k.toNat xs).flatten))
theorem Ir{α:Type}(xs:List α)(k:Nat):(Pc k xs).flatten.length=k*xs.length:=by
 induction k with
 | zero=>simp
 | succ k z=>rw [Qk,RH,Ov,z,Nat.succ_mul,Nat.add_comm]
theorem Ke:OpR X (PQ .Mult) CG:=by
 intro Go s σ H x y v u Q I rx ry h;obtain ⟨l,k,xs,rfl,rfl,hH,h1,h2,hz,q⟩:=h;cases rx;obtain ⟨t,rfl⟩:=ry;obtain ⟨z,G,n,r,hl,e⟩:=I.UP hH;have ZS:G.toArray.size*k.toNat<=sizeLine:=by rw [Oa,<- hl];exact hz
 have S : ¬ G.toArray.size*k.toNat>(2 ^ 63-1) / 8:=by
  have:(sizeLine:Nat)<=(2 ^ 63-1) / 8:=by decide
  lia
 have J : ¬ (!N9.List.listFitsIndex k)=true:=by
  rw [fitsIndex_both h1 h2];exact N8
 have Xh : ¬ N9.List.listTooLong (G.toArray.size*k.toNat)=true:=by
  rw [xv ZS];exact N8
 have O:foldl (λW Z=>W++Z) #[] (Pc (if G.toArray.isEmpty=true then 0 else k.toNat) G.toArray)=(Pc k.toNat G).flatten.toArray:=by
  have f0:∀m:Nat,foldl (λW Z=>W++Z) #[] (Pc m G.toArray)=(Pc m G).flatten.toArray:=λm=>by
   have:=xr G m [];rw [Q3] at this;exact this
  rw [f0];cases G with
  | nil=>simp
  | cons a r'=>rw [if_neg 'z']
 refine wpAny_binaryOp_repeat_ref (T:="list") (U:="int") 'd' {_,e,rfl} (λs'=>typeIs_int s' k t) noFill_list_mul F.fills_int_mul F.slot_int_rmul repeat_list F.slot_int_index.lookup
  (QM F.slot_int_rmul (typeIs_int s k t) F.entry_int_rmul (F.args_int_rmul_2 _ _) (int___rmul___int_list k t l G.toArray n)
   {e,rfl,{_,e,rfl},QM F.slot_list_mul {_,e,rfl} F.entry_list_mul (F.args_list_mul_2 _ _) (AutoListH.list___mul___list_int_3 l G.toArray n k t J S Xh) {e,?_}})
 rw [O];exact {.ref _,_,I.b4 (t':=s.toks) (r.rep k.toNat) (by rw [Ir,Nat.mul_comm];exact hz),rfl,q _ I.fresh}
end
end L2
namespace Att
open PySem PySem.W PySem.Calls PyProof.Rows
theorem C8:∀(ns:List Int)(vs:List Value),WellAll P h vs (ns.map WData.int)->QP vs ns:=by
 intro ns
 induction ns with
 | nil =>
  intro vs w;rw [map_nil] at w;cases w;exact .nil
 | cons n ns z =>
  intro vs w;rw [Pi] at w;cases w with
  | cons a b =>
   cases a;exact .cons _ _ (z _ b)
theorem LH{l:OpenLaw}(U:l.most=some n){vals:List Value}(z:l.row.toRowW.claim.pre args=true)(hwl:WellAll P h vals args):
  ∃a vs ns,vals=[N6 a]/\args=[WData.list (ns.map WData.int)]/\h.get? a=some { cls:=.type "list",data:=.seq vs.toArray }/\QP vs ns/\ns.length<=n:=by
 have J:WShape.hasAll [] args [.list .int]=true:=(pre_splitW z).1;have hc:l.pre.holds [] { args:=args }=true:=(pre_splitW z).2;obtain ⟨d,r,rfl,h1,h2⟩:=hasAllW_cons J;obtain rfl:=hasAllW_nil h2;obtain ⟨xs,rfl,h3⟩:=hasW_list h1;obtain ⟨ns,rfl⟩:=items_int h3;have S:ns.length<=n:=by
  unfold OpenLaw.pre at hc;have h4:(WTm.not (.lt (.lit (.int (n:Int))) (.len (.arg 0)))).holds [] { args:=[.list (ns.map .int)] }=true:=by
   have h4:=(holds_andW hc).1;rw [U] at h4;exact h4
  have G:=condW_of h4 (w_not (w_lt w_lit (w_len_list (w_arg rfl))));rw [NO] at G;refine Nat.le_of_not_lt λq=>?_;have Z:(n:Int)<((ns.length:Nat):Int):=by lia
  first
   | (rw [decide_eq_true Z] at G;exact absurd G 'd')
   | (simp at G;lia)
 cases hwl with
 | cons O W =>
  cases W;cases O with
  | list ho F=>exact {_,_,ns,rfl,rfl,ho,C8 ns _ F,S}
theorem MZ(l:OpenLaw)(args:List WData):l.row.toRowW.claim.post args (.bool true) args=true :=
 postW_of (r:=l.row.toRowW) (X:=(true==true))
  (show WShape.has [] (.bool true) .bool=true by first|rfl|decide|simp [WShape.has,WShape.arms,WShape.armsAll])
  (show (WTm.eq .res (.lit (.bool true))).value [] { args:=args,res:=some (.bool true),after:=args }=some (.bool (true==true)) from w_eq_bool (w_res rfl) w_lit) rfl
theorem attach_call{l:OpenLaw}{d:DefRec}(hn:l.most=some n)(Z:d.params.defaults=[])(call:∀(w:Oc)(s₀ s₁:KE)(mg U:Str->Option Value)(F:Addr)(o:Obj)(S cd O:Value)(a:Addr)(vs:List Value)(ns:List Int),
   Ground q Yj [] XP w s₀ mg U s₁.heap->YP w s₁.heap ->
   s₁.heap.get? F=some o->o.data = .func (docDef d.name d.params d.body d.scope S cd O)->s₁.heap.CodeRec cd d.name->mg d.name=some (.ref F) ->
   s₁.heap.get? a=some { cls:=.type "list",data:=.seq vs.toArray }->QP vs ns->ns.length<=n->s₁.gens = #[] ->
   Qb (N5 l.prog w) callerA (.call (.ref F) {[.ref a],[]}) (λr s'=>r = .ok (.ret (.bool true))/\OldK s₁.heap s'.heap/\s'.os=s₁.os/\QZ s'.gens) s₁):
  WalkO q Yj XP YP l.row.toRowW d [] (λf vs=>PySem.call f vs):=by
 intro w s₀ s₁ mg U G Y F o S cd O dV kV ho hd hcd hD W hg args vals as z ak ax hwl av;obtain rfl:dV = .none:=Dflts.none hD Z;obtain rfl:kV = .none:=Dflts.noKw hD;obtain ⟨a,vs,ns,rfl,rfl,J,Xg,ZS⟩:=LH hn z hwl;refine enter_call (Qf (call w s₀ s₁ mg U F o S cd O a vs ns G Y ho (fd_plain hd) hcd W J Xg ZS hg) λr s' hq=>?_);obtain ⟨rfl,h2,h3,h4⟩:=hq;exact {.inl {.bool true,.bool true,[],rfl,λ_=>rfl,.bool true,MZ l _,λ_=>{List.Pairwise.nil,λ_ hm=>(nomatch hm)}},h2,h3,h4}
end Att
namespace L2
open PySem PySem.Spec PyProof.Rows
theorem oO(h:QP vs ns):zq (ns.map V.int) vs:=by
 induction h with
 | nil=>exact .nil
 | cons n t h z=>exact .cons {t,rfl} z
def nJ(H:Hp):Prop:=∀b,H b=none\/∃o xs,H b=some (.frz o (.lst xs))
theorem CL{K:NQ}{k:Nat}{fa a:Addr}(KX:K.In s₁.heap)(ak:s₁.heap.Ns N3 mg)(hb:s₁.heap.Ns builtinsNs mb)(ax:∀x:Str,x≠"__name__"->mb x=Qw x)(av:s₁.heap.NoLimit)(hg:s₁.gens = #[])(ha:s₁.heap.get? a=some { cls:=.type "list",data:=.seq vs.toArray })(hi:QP vs ns)(hl:ns.length<=sizeLine)(hr:zX true k callerA)(F:∀base:Heap,K.In base->base.Ns N3 mg->zp P w K mg base CX true k fa fd [x] sp)(S:∀(s:KE)(u:Value),BindsTo s fd {[u],[]} [(x,u)])(a0:∀H:Hp,nJ H->SqL K H a (ns.map V.int)->sp [.ref a] H (λv _=>v = .bl true) λ_ _ _=>False)(a3:∀H e s',CX [] H s₁ (λ_ _ _=>False) e s'->False):
  Qb (N5 P w) callerA (.call (.ref fa) {[.ref a],[]}) (λr s'=>r = .ok (.ret (.bool true))/\OldK s₁.heap s'.heap/\s'.os=s₁.os/\QZ s'.gens) s₁:=by
 have rv:=oO hi;have U:=hi.length;have O:∀H:Hp,nJ H->SqL K H a (ns.map V.int)->HOk P w H s₁.heap->(∀b,H b≠none->b=a)->(H a≠none->K.lookup a=none) ->
   Qb (N5 P w) callerA (.call (.ref fa) {[.ref a],[]}) (λr s'=>r = .ok (.ret (.bool true))/\OldK s₁.heap s'.heap/\s'.os=s₁.os/\QZ s'.gens) s₁:=by
  intro H hO hS hok hA hK;have G:∀{b:Addr}{o:Obj},s₁.heap.get? b=some o->H b=none->(fe s₁.heap H).get? b=some o:=λe n=>Gx e n;have aI:∀{b:Addr}{o:Obj}{es:Array DictEntry}{ep:Nat},s₁.heap.get? b=some o->o.data = .dict es ep->H b=none:=λ{b o es ep} e d=>by
   cases q:H b with
   | none=>rfl
   | some u =>
    have e':b=a:=hA b (by rw [q];simp);subst e';rw [ha] at e;cases e;have d':Data.seq vs.toArray _=Data.dict es ep:=d;cases d'
  have J:∀{b:Addr}{m:Str->Option Value},s₁.heap.Ns b m->(fe s₁.heap H).Ns b m:=λ{b m} ⟨o,es,ep,e,d,r⟩=>{o,es,ep,G e (aI e d),d,r};have W:K.In (fe s₁.heap H):=λb o e=>G (KX b o e) (by
   cases q:H b with
   | none=>rfl
   | some u =>
    have e':b=a:=hA b (by rw [q];simp);subst e';rw [hK (by rw [q];simp)] at e;cases e)
  have hM:Mod K mg (fe s₁.heap H):={W,J ak,{mb,J hb,ax},let ⟨mc,h1,h2⟩:=av;{mc,J h1,h2}};have e0:gN P w K mg (fe s₁.heap H) callerA [] s₁ H:={rfl,.inl rfl,hM,λb o e=>Dn e,S3 (JM _ _),trivial,λb hb=>absurd (show b∈([]:List Addr) from hb) 'z',hok,.of_eq hg};refine Qf ((F _ W (J ak)).run callerA [] s₁ H {[.ref a],[]} [.ref a] [.ref a] _ _ hr e0 (S s₁ (.ref a)) (.cons rfl .nil) (a0 H hO hS)) λr s' h=>?_;cases r with
  | error e=>exact (a3 H e s' h).elim
  | ok fl =>
   cases fl with
   | next=>exact False.elim h
   | brk=>exact False.elim h
   | cont=>exact False.elim h
   | ret u =>
    obtain ⟨v,H',os,bare,un,Z,r',q⟩:=h;have q':v = .bl true:=q;subst q';obtain rfl:u=Qz true:=r';refine {rfl,OldK.of_keep λb o e=>?_,os,bare};cases q:H b with
    | none=>exact un.keep b o e q (by intro z;exact absurd (show b∈([]:List Addr) from z) 'z') 'z'
    | some u =>
     rcases hO b with z|⟨ob,xs,z⟩
     .rw [q] at z;cases z
     .have z2:=un.frzs b ob _ z;obtain ⟨e1,_⟩:=hok b _ z;obtain ⟨e2,_⟩:=Z b _ z2;rw [e] at e1;cases e1;exact e2
 cases hk:K.lookup a with
 | some o =>
  have e:=KX a o hk;rw [ha] at e;cases e;refine O (λ_=>none) (λ_=>.inl rfl) (.inr {_,vs.toArray,_,hk,rfl,rfl,rfl,by rw [Oa,U];exact hl,by simpa using rv}) (λb u z=>by have z':(none:Option HO)=some u:=z;cases z') (λb z=>absurd rfl z) λz=>absurd rfl z
 | none =>
  refine O (λb=>if b=a then some (.frz { cls:=.type "list",data:=.seq vs.toArray } (.lst (ns.map V.int))) else none) (λb=>?_) (.inl (.inr {{ cls:=.type "list",data:=.seq vs.toArray },if_pos rfl})) (λb u z=>?_) (λb z=>?_) λ_=>hk
  .by_cases hb:b=a
   .exact .inr {_,_,if_pos hb}
   .exact .inl (if_neg hb)
  .by_cases hb:b=a
   .have z':=(if_pos hb).symm.trans z;cases z';subst hb;exact {ha,by rw [NO];exact hl,vs,_,rv,ha}
   .have z':=(if_neg hb).symm.trans z;cases z'
  .by_cases hb:b=a
   .exact hb
   .exact absurd (if_neg hb) z
theorem walk_of{l:PySem.W.OpenLaw}{n k:Nat}{d:DefRec}{K:Params->NQ}{CX:Oc->CXT}{sp:Oc->Sp}(hn:l.most=some n)(O:n<=sizeLine)(Z:d.params.defaults=[])(hr:zX true k callerA)(hY:∀(w:Oc)(h:Heap),YP w h->(K w.params).In h)(F:∀(w:Oc)(mg:Str->Option Value)(J:Addr)(h:Heap),(K w.params).In h->h.Ns N3 mg->mg d.name=some (.ref J) ->
   ∃fd:N4,(∀(s:KE)(u:Value),BindsTo s fd {[u],[]} [(x,u)]) /\
    ∀base:Heap,(K w.params).In base->base.Ns N3 mg->zp l.prog w (K w.params) mg base (CX w) true k J fd [x] (sp w))(S:∀(w:Oc)(H:Hp)(a:Addr)(ns:List Int),ns.length<=n->nJ H->SqL (K w.params) H a (ns.map V.int)->sp w [.ref a] H (λv _=>v = .bl true) λ_ _ _=>False)(ak:∀(w:Oc)(H:Hp)(s:KE)(e:Value)(s':KE),CX w [] H s (λ_ _ _=>False) e s'->False):
  PySem.W.WalkO q Yj XP YP l.row.toRowW d [] (λf vs=>PySem.call f vs):=by
 refine Att.attach_call hn Z λw s₀ s₁ mg mb J o pm cd Yb a vs ns G Y ho hd hcd U z Xg ZS hg=>?_;have KX:=hY w _ Y;obtain ⟨fd,hb,hF⟩:=F w mg J _ KX G.T.g U;exact CL KX G.T.g G.T.b G.T.builtins G.T.nolimit hg z Xg (Ol ZS O) hr hF hb (λH hO hS=>S w H a ns ZS hO hS) λH e s'=>ak w H s₁ e s'
def aC(s:Stmt)(j:Nat):Stmt:=match s with
 | .ClassDef _ _ _ z _ _ _ _ _ _ _=>z.getD j (.Pass {0,0,0,0})
 | _=>.Pass {0,0,0,0}
def qC(s:Stmt):Arguments:=match s with
 | .FunctionDef _ a _ _ _ _ _ _ _ _=>a
 | _=>{ posonlyargs:=[],args:=[],vararg:=none,kwonlyargs:=[],kw_defaults:=[],kwarg:=none,defaults:=[] }
def gH(s:Stmt):List Stmt:=match s with
 | .FunctionDef _ _ b _ _ _ _ _ _ _=>b
 | _=>[]
def zl(s:Stmt):Scope:=match s with
 | .FunctionDef _ _ _ _ _ _ sc _ _ _=>sc
 | _=>{ kind:=.function,names:=[],isGenerator:=false,isCoroutine:=false }
abbrev CX0:CXT:=λ_ _ _ _ _ _=>False
abbrev E0:XK:=λ_ _ _=>False
theorem i3:fE CX0 X E0:=λ_ _ _ _ _ _ _ h=>h.elim
structure Fun(K:NQ)(x qual:Str)(st:Stmt)(f:Addr)(fd:N4):Prop where
 ex:∃(oc:Value)(od:Option Addr)(kV Yb pm:Value)(an:Option Addr)(ZW ct:Value)(osl:Array (Option Value)),
  fd=fnOf x qual (qC st) (gH st) (zl st) .none kV Yb pm an ZW ct/\K.lookup f=some {oc,od,.func fd,osl}/\codeIn K ZW qual=true
 kp:SO K (.ref f)=true
section
variable {P:NW}{w:Oc}{K:NQ}{mg:Str->Option Value}{base:Heap}
theorem Fun.ok{st:Stmt}{k:Nat}(F:Fun K x qual st f fd)(S:zy N ps (zl st))(len:∀vs H Q E,sp vs H Q E->vs.length=ps.length)(J:∀(z:Value)(A:Of)(outer:List Env)(s:KE)(H:Hp)(vs:List V)(Q:VK)(E:XK),zX cm k (A.deeper (Q8 qual (zl st) s.heap.objs.size f z))->sp vs H Q E ->
   ∃t,PSs (c8 CX0 cm P w K mg base N qual (zl st) f z A outer s H E).bU (gH st) t/\t { nx:=λ_ H'=>Q .non H',rt:=Q } (start N vs) H):zp P w K mg base CX0 cm (k+1) f fd ps sp:=by
 obtain ⟨oc,U,kV,Yb,Z,W,z,ct,O,rfl,lk,hcd⟩:=F.ex;refine sT lk hcd S len λA outer s H vs Q E hr G=>?_;obtain ⟨t,h,q⟩:=J z A outer s H vs Q E hr G;exact ⟨t,h.bU,q⟩
theorem Fun.binds{st:Stmt}(F:Fun K x qual st f fd)(h:∀(kV O G:Value)(z:Option Addr)(J ct:Value)(us:List Value),us.length=ps.length->bindArgs (fnOf x qual (qC st) (gH st) (zl st) .none kV O G z J ct) {us,[]}=pure (ps.zip us)):bQ K fd ps []:=by
 obtain ⟨W,U,kV,O,G,z,J,ct,S,rfl,lk,hcd⟩:=F.ex;exact .all (h kV O G z J ct)
end
theorem zV{k:Nat}(hr:zX c k A):A.units+1<cLine:=OB (Nat.add_le_add_left (by decide:1<=64) _) hr.units
section
variable {X:Cx}
theorem pv(i:Nat)(hN:X.N[i]?=some x:=by rfl)(hv:Vis X.env.scope x:=by first|exact NZ rfl|exact Si (NZ rfl)|exact Si (Si rfl))(hd:(x==("__debug__":Str))=false:=by decide)(hcd:(x==("__classdict__":Str))=false:=by decide):PE X (.Name x pos) (d8 i):=LL hN hv hd hcd
end
theorem jH{A B:Prop}(h:B):if false=true then A else B:=by
 rw [if_neg N8];exact h
theorem pY{A B:Prop}(h:A):if true=true then A else B:=by
 rw [if_pos rfl];exact h
theorem aF{c A B:Prop} [Decidable c] (h1:c->A) (h2 : ¬ c->B):if c then A else B:=by
 by_cases h:c
 .rw [if_pos h];exact h1 h
 .rw [if_neg h];exact h2 h
def zj(H H':Hp):Prop:=∀b o,H b=some o->H' b=some o
theorem zj.refl(H:Hp):zj H H:=λ_ _ h=>h
theorem zj.trans(a:zj H H1)(b:zj H1 H2):zj H H2:=λc o h=>b c o (a c o h)
theorem zj.free(e:zj H H')(h:H' l=Option.none):H l=Option.none:=by
 cases q:H l with
 | none=>rfl
 | some o =>
  rw [e l o q] at h;cases h
end L2
set_option maxHeartbeats 4000000
namespace L2
open PySem PySem.Spec PyProof.Rows
def cu(z:List (Str×Addr)):List (Str×O8)->List (Str×Addr)->List (Str×Addr)
 | [],cs=>cs
 | (n,k)::r,cs=>cu z r (if k == .free then (match z.lookup n with|some c=>(n,c)::cs|none=>cs) else cs)
theorem Ad(h:∀y∈scope.names,y.2 = .free->∃c,env.cells.lookup y.1=some c):closureFor scope env=pure (cu env.cells scope.names []):=by
 simp only [closureFor];have all:∀(l:List (Str×O8))(cs:List (Str×Addr)),(∀y∈l,y.2 = .free->∃c,env.cells.lookup y.1=some c) ->
   (forIn l cs λ(x:Str×O8)(r:List (Str×Addr))=>match x with|(name,kind)=>if (kind==O8.free)=true then do let a<-cellOf env name;pure (ForInStep.yield ((name,a)::r)) else pure (ForInStep.yield r):Sem (List (Str×Addr)))=pure (cu env.cells l cs):=by
  intro l
  induction l with
  | nil=>intro cs _;rfl
  | cons y r G =>
   intro cs F;obtain ⟨n,k⟩:=y;rw [Tq];by_cases J:k = .free
   .subst J;obtain ⟨c,hc⟩:=F (n,.free) NX rfl;have O:env.cells.lookup n=some c:=hc;simp only [cellOf,O,cu,beq_self_eq_true,if_true];exact G _ λz hz=>F z (NR _ hz)
   .have hb:(k==O8.free)=false:=by simpa using J
    simp only [cu,hb,Qj,if_false];exact G _ λz hz=>F z (NR _ hz)
 have e:=all scope.names [] h;show (do let cs<-forIn scope.names [] _;pure cs)=_
 first
  | (rw [bind_pure];exact e)
  | exact e
  | (simpa using e)
theorem tX:∀{l:List (Str×O8)}{cs:List (Str×Addr)}{x:Str}{c:Addr},(cu z l cs).lookup x=some c->cs.lookup x=some c\/(z.lookup x=some c/\(x,O8.free)∈l)
 | [],_,_,_,h=>.inl h
 | (n,k)::r,cs,x,c,h=>by
  unfold cu at h;rcases tX h with h|⟨h1,h2⟩
  .by_cases F:k = .free
   .subst F;simp only [beq_self_eq_true,if_true] at h;cases e:z.lookup n with
    | none=>rw [e] at h;exact .inl h
    | some G =>
     rw [e] at h;simp only [Q4] at h;by_cases hx:x=n
     .subst hx;simp only [beq_self_eq_true] at h;cases h;exact .inr ⟨e,NX⟩
     .have hb:(x==n)=false:=by simpa using hx
      rw [hb] at h;exact .inl h
   .have hb:(k==O8.free)=false:=by simpa using F
    rw [hb] at h;exact .inl h
  .exact .inr {h1,NR _ h2}
theorem vo:∀{l:List (Str×O8)}{cs:List (Str×Addr)}{x:Str},(cs.lookup x).isSome=true->((cu z l cs).lookup x).isSome=true
 | [],_,_,h=>h
 | (n,k)::r,cs,x,h=>by
  unfold cu;refine vo ?_;split
  .split
   .simp only [Q4];split
    .rfl
    .exact h
   .exact h
  .exact h
theorem xT:∀{l:List (Str×O8)}{cs:List (Str×Addr)}{x:Str}{c:Addr},(x,O8.free)∈l->z.lookup x=some c->((cu z l cs).lookup x).isSome=true
 | (n,k)::r,cs,x,c,hm,hc=>by
  unfold cu;rcases NT.mp hm with e|hm
  .cases e;refine vo ?_;simp only [beq_self_eq_true,if_true,hc,Q4];rfl
  .exact xT hm hc
theorem kL:∀(names:List (Str×O8))(n:Nat)(ZZ:List (Str×Addr)),PU n names ZZ=PU n names []++ZZ
 | [],_,_=>rfl
 | (x,k)::r,n,ZZ=>by
  unfold PU;split
  .rw [kL r (n+1) ((x,n)::ZZ),kL r (n+1) [(x,n)],OR];rfl
  .exact kL r n ZZ
theorem oh:∀{names:List (Str×O8)}{n:Nat}{ZZ:List (Str×Addr)},(x,c)∈PU n names ZZ->(x,c)∈ZZ\/(x,O8.cell)∈names
 | [],_,_,h=>.inl h
 | (y,k)::r,n,ZZ,h=>by
  unfold PU at h;split at h
  .next hk =>
   rcases oh h with h|h
   .rcases NT.mp h with e|h
    .cases e;rw [eq_of_beq hk];exact .inr NX
    .exact .inl h
   .exact .inr (NR _ h)
  .rcases oh h with h|h
   .exact .inl h
   .exact .inr (NR _ h)
theorem mi:∀{names:List (Str×O8)}{n:Nat}{ZZ:List (Str×Addr)},(ZZ.lookup x).isSome=true->((PU n names ZZ).lookup x).isSome=true
 | [],_,_,h=>h
 | (y,k)::r,n,ZZ,h=>by
  unfold PU;split
  .refine mi ?_;rw [Q4];cases x==y with
   | true=>rfl
   | false=>exact h
  .exact mi h
theorem pU:∀{names:List (Str×O8)}{n:Nat}{ZZ:List (Str×Addr)},(x,O8.cell)∈names->((PU n names ZZ).lookup x).isSome=true
 | (y,k)::r,n,ZZ,h=>by
  unfold PU;rcases NT.mp h with e|h
  .cases e;rw [if_pos 'd'];exact mi (by rw [Q4,beq_self_eq_true];rfl)
  .split
   .exact pU h
   .exact pU h
def fX(z:List (Str×Addr))(sc:Scope)(C:Addr):List (Str×Addr):=PU (C+1) sc.names (cu z sc.names [])
structure jY(ZO:List (Str×Addr))(sc:Scope)(C:Addr)(h:Heap):Prop where
 aI:∀x c,(fX ZO sc C).lookup x=some c->(C<c/\h.IsCell c none/\(x,O8.cell)∈sc.names)\/(ZO.lookup x=some c/\(x,O8.free)∈sc.names)
 inj:∀x y c,(fX ZO sc C).lookup x=some c->(fX ZO sc C).lookup y=some c->C<c->x=y\/(ZO.lookup x=some c\/ZO.lookup y=some c)
theorem wQ:∀{a b:List (Str×Addr)},(a++b).lookup x=(a.lookup x).or (b.lookup x)
 | [],b=>rfl
 | (y,c)::r,b=>by
  rw [PZ,Q4,Q4];cases x==y with
  | true=>rfl
  | false=>exact wQ
theorem jY.mk'(F:h.objs.size=C+1):jY z sc C (QF h sc.names):=by
 have ok:=cellsFrom_ok sc.names h (C+1) [] {λ_ _ hm=>(nomatch hm),List.Pairwise.nil} (S3 F.symm);rw [F] at ok;have sp:∀x c,(fX z sc C).lookup x=some c->(x,c)∈PU (C+1) sc.names []\/(z.lookup x=some c/\(x,O8.free)∈sc.names):=λx c h=>by
  unfold fX at h;rw [kL,wQ] at h;cases e:(PU (C+1) sc.names []).lookup x with
  | some d=>rw [e] at h;cases h;exact .inl (Po e)
  | none =>
   rw [e] at h;rcases tX (show (cu z sc.names []).lookup x=some c from h) with h|h
   .cases h
   .exact .inr h
 refine {λx c h=>?_,λx y c h1 h2 _=>?_}
 .rcases sp x c h with h|h
  .refine .inl {(ok.empty x c h).2,(ok.empty x c h).1,?_};rcases oh h with h|h
   .cases h
   .exact h
  .exact .inr h
 .rcases sp x c h1 with a|a
  .rcases sp y c h2 with b|b
   .exact .inl (PySem.name_of_addr ok.apart a b)
   .exact .inr (.inr b.1)
  .exact .inr (.inl a.1)
theorem vZ{code:Value}(O:Q (newEnv scope s.heap.objs.size J (PU (s.heap.objs.size+1) scope.names G) qual z code (some outer) builtinsNs) { s with heap:=QF (s.heap.push { cls:=.type "dict",data:=.dict #[] }) scope.names }):
  N2 M A (newFunctionEnv scope J G [] qual z code (some outer)) Q E s:=by
 simp only [newFunctionEnv,isSome_some,if_true];refine we (wpAny_alloc ?_);refine we (wpAny_layCells _ (λname kind S=>by cases F:kind==O8.cell<;>simp [F]) _ _ _ _ ?_);rw [show ({ s with heap:=s.heap.push { cls:=.type "dict",data:=.dict #[] } }:KE).heap.objs.size=s.heap.objs.size+1 from QE ..];exact we (NN (NN O))
def bO(sc:Scope)(names:List (Str×O8))(N N':List Str)(ix:List (Option Nat)):Bool :=
 sc.kind == .function&&sc.names.all (λy=>(y.2 != .cell||sc.names.lookup y.1==some .cell)&&(y.2 != .local||sc.names.lookup y.1==some .local)&&(y.2 != .free||(names.lookup y.1==some .cell&&sc.names.lookup y.1==some .free)) ) &&
 ix.length==N'.length&&(O0 ix.length).all (λi=>match ix.getD i none with
  | none=>true
  | some j=>(match N'[i]?,N[j]? with|some x,some y=>x==y&&sc.names.lookup x==some .free|_,_=>false))
def cL(ix:List (Option Nat))(σ:St):St:=ix.map λo=>o.bind λj=>(σ[j]?).join
structure aA(X:Cx)(sc:Scope)(N':List Str)(ix:List (Option Nat)):Prop where
 kind:sc.kind = .function
 cell:∀y∈sc.names,y.2 = .cell->sc.names.lookup y.1=some .cell
 names:∀y∈sc.names,y.2 = .local->sc.names.lookup y.1=some .local
 free:∀y∈sc.names,y.2 = .free->X.env.kindOf y.1=some .cell/\sc.names.lookup y.1=some .free
 len:ix.length=N'.length
 at_:∀(i j:Nat),ix[i]?=some (some j)->∃x,N'[i]?=some x/\X.N[j]?=some x/\sc.names.lookup x=some .free
theorem aA.of(h:bO sc X.env.scope.names X.N N' ix=true):aA X sc N' ix:=by
 unfold bO at h;simp only [Od,Ot] at h;obtain ⟨⟨⟨h1,h2⟩,h3⟩,h4⟩:=h;refine {by simpa using h1,λy z F=>?_,λy z F=>?_,λy z F=>?_,by simpa using h3,λi j e=>?_}
 .have q:=(h2 y z).1.1;rw [F] at q;simpa using q
 .have q:=(h2 y z).1.2;rw [F] at q;simpa using q
 .have q:=(h2 y z).2;rw [F] at q;simp only [bne_self_eq_false,Bool.false_or,Od,beq_iff_eq] at q;exact q
 .have hi:i<ix.length:=(NU.mp e).1;have:=h4 i (RS.mpr hi);have O:ix.getD i none=some j:=by rw [Oq,e];rfl
  rw [O] at this;dsimp only at this;cases G:N'[i]? with
  | none=>rw [G] at this;simp at this
  | some x =>
   cases J:X.N[j]? with
   | none=>rw [G,J] at this;simp at this
   | some y =>
    rw [G,J] at this;simp only [Od,beq_iff_eq] at this;exact {x,rfl,by rw [this.1],this.2}
def zC(X:Cx)(sc:Scope)(N':List Str)(Go:List (Addr×Obj))(C:Addr)(fp:List Addr)(s:KE)(H:Hp):Cx :=
 { X with N:=N',s₀:=s,H₀:=H,env:=compEnvC sc (fX X.env.cells sc C) C X.env,outer:=X.stack,stack:=X.stack,ex:=fp,fn:=λx=>sc.names.lookup x==some .cell,pn:=X.pn++Go,xe:=λ_ _=>False }
theorem HOk.add{o:HO}(x:HOk P w H h)(z:H D=none)(new:z8 P w (upd H D o) h D o):HOk P w (upd H D o) h:=λb u e=>by
 by_cases hb:b=D
 .subst hb;rw [zt] at e;cases e;exact new
 .rw [zh hb] at e;exact (x b u e).Uc (λ_ _ _ q=>q) (λc q=>by rw [zh (zQ q z)];exact q) λc xs q=>by rw [zh (zQ q z)];exact q
theorem HOk.but(x:HOk P w H h)(F:H C=none)(k:∀b u,b≠C->h.get? b=some u->h'.get? b=some u):HOk P w H h':=λb u e =>
 (x b u e).Uc (λc v hc q=>k c v (by
  rcases hc with z|z
  .rw [z];exact zQ e F
  .exact zQ z F) q) (λ_ q=>q) λ_ _ q=>q
theorem ER(J:env.scope.kind = .function)(hf:∀y∈sc.names,y.2 = .free->env.kindOf y.1=some .cell):
  ∀x,(relabel sc env).names.lookup x=(sc.names.lookup x).map λk=>if k == .free then .cell else k:=by
 intro x;have em:(relabel sc env).names=sc.names.map λy=>(y.1,if y.2 == .free then O8.cell else y.2):=by
  show sc.names.map _=_;refine Pd λy G=>?_;obtain ⟨n,k⟩:=y;by_cases z:k = .free
  .subst z;have e:env.kindOf n=some .cell:=hf (n,.free) G rfl;simp [J,e]
  .have hb:(k==O8.free)=false:=by simpa using z
   simp [hb]
 rw [em];generalize sc.names=l
 induction l with
 | nil=>rfl
 | cons y r F =>
  obtain ⟨n,k⟩:=y;simp only [Pi,Q4];cases x==n with
  | true=>rfl
  | false=>exact F
section
variable {X:Cx}{sc:Scope}{N':List Str}{ix:List (Option Nat)}
theorem Gn{i:Nat}(h:(cL ix σ)[i]?=some (some v)):∃j,ix[i]?=some (some j)/\σ[j]?=some (some v):=by
 unfold cL at h;rw [Oe] at h;cases e:ix[i]? with
 | none=>rw [e] at h;cases h
 | some o =>
  rw [e] at h;have h':(o.bind λj=>(σ[j]?).join)=some v:=OG.inj h;cases o with
  | none=>cases h'
  | some j =>
   have F:(σ[j]?).join=some v:=h';cases G:σ[j]? with
   | none=>rw [G] at F;cases F
   | some z =>
    rw [G] at F;have:z=some v:=F;exact {j,rfl,by rw [G,this]}
theorem wy(I:Inv X Go σ H s)(L:aA X sc N' ix)(f:∀b∈fp,aJ X Go H b)(fl:∀b∈fp,b<s.heap.objs.size)(O:s.heap.objs.size<=C)(ak:h₁.Ns C m)(old:∀b o,s.heap.get? b=some o->h₁.get? b=some o)(own:jY X.env.cells sc C h₁):
  Inv (zC X sc N' Go C fp s H) [] (cL ix σ) H { s with heap:=h₁,toks:=tk }:=by
 have lt:∀{x c},X.env.cells.lookup x=some c->¬ C<c:=λ{x c} h=>by
  obtain ⟨_,q⟩:=I.cell x c h;have:=q.lt;lia
 have rl:=ER (sc:=sc) (env:=X.env) I.ok.kind λy hy G=>(L.free y hy G).1;have J:∀x,sc.names.lookup x=some .free->∃c,(fX X.env.cells sc C).lookup x=some c/\X.env.cells.lookup x=some c:=λx hx=>by
  have hm:(x,O8.free)∈sc.names:=Po hx;obtain ⟨c,hc⟩:=I.ok.has x (.inl (L.free _ hm rfl).1);obtain ⟨c',U⟩:=RG.mp (mi (names:=sc.names) (n:=C+1) (xT (cs:=[]) hm hc));rcases own.aI x c' U with a|a
  .have:=L.cell _ a.2.2 rfl;rw [hx] at this;cases this
  .exact ⟨c',U,a.1⟩
 refine {{I.ok.mod,L.kind,I.ok.glob,I.ok.blt,O,λx y c h1 h2=>?_,λx hx=>?_,λx c h h'=>?_,I.ok.hd,I.ok.frames,.inl rfl,λb hb=>{OM (Oi (fl b hb) O),λx c h=>?_},
   I.bs,Ol I.ok.a0 I.sz,λb o e hb=>?_,λb hb z=>?_,I.stack,I.UM},rfl,I.bare,Un.kept old,{m,ak,λi x v e1 e2 e3=>?_},λx c h=>?_,I.hok.fresh O,λx c h=>?_,λp hp=>?_,I.hok.kept old,?_,I.hdk}
 .rcases own.aI x c h1 with a|a<;>rcases own.aI y c h2 with b|b
  .rcases own.inj x y c h1 h2 a.1 with e|e|e
   .exact e
   .exact absurd a.1 (lt e)
   .exact absurd a.1 (lt e)
  .exact absurd a.1 (lt b.1)
  .exact absurd b.1 (lt a.1)
  .exact I.ok.inj x y c a.1 b.1
 .have F:(relabel sc X.env).names.lookup x=some .cell\/(relabel sc X.env).names.lookup x=some .free:=hx;rw [rl x] at F;cases e:sc.names.lookup x with
  | none=>rw [e] at F;simp at F
  | some k =>
   have G:k = .free\/k = .cell:=by
    cases k with
    | free=>exact .inl rfl
    | cell=>exact .inr rfl
    | _=>rw [e] at F;revert F;decide
   rcases G with G|G
   .subst G;obtain ⟨c,h1,_⟩:=J x e;exact ⟨c,h1⟩
   .subst G;exact RG.mp (pU (Po e))
 .rcases own.aI x c h' with a|a
  .exact Ol O (Sa a.1)
  .have:=(L.free _ a.2 rfl).2;have h:(sc.names.lookup x==some .cell)=true:=h;rw [this] at h;exact absurd h 'd'
 .rcases own.aI x c h with a|a
  .have:=fl b hb;have:=a.1;exact λz=>by subst z;lia
  .exact (f b hb).2.2.2.2.1 x c a.1
 .rcases (f b hb).2.2.2.1 with z|z
  .exact I.ok.VB b o e z
  .exact absurd (Oi (Os (I.ok.bs b o e).1) z) (OF _)
 .rcases NT.mp (I.TK b z) with e|e
  .exact (f b hb).2.1 e
  .exact (f b hb).2.2.1 e
 .obtain ⟨j,hj,hv⟩:=Gn e2;obtain ⟨y,n1,n2,Z⟩:=L.at_ i j hj;have W:x=y:=OG.inj ((show N'[i]?=some x from e1).symm.trans n1);subst W;obtain ⟨c,c1,c2⟩:=J x Z;have kf:=(L.free _ (Po Z) rfl).1;obtain ⟨m0,av,hl⟩:=I.loc;obtain ⟨u,r,l⟩:=hl j x v n2 hv (.inr (.inl kf));refine {u,r,.inr {.inl ?_,c,c1,?_}}
  .show (relabel sc X.env).names.lookup x=some .cell;rw [rl x,Z];rfl
  .rcases l with ⟨G,_⟩|⟨_,c',U,z⟩
   .have S:X.env.kindOf x=some .cell:=kf;rw [G] at S;cases S
   .rw [c2] at U;cases U;obtain ⟨oc,ho,hd⟩:=z;exact {oc,old _ _ ho,hd}
 .rcases own.aI x c h with a|a
  .exact {_,a.2.1}
  .obtain ⟨v,oc,ho,hd⟩:=I.cell x c a.1;exact {v,oc,old _ _ ho,hd}
 .rcases own.aI x c h with a|a
  .exact I.hok.fresh (Ol O (Sa a.1))
  .exact I.vl x c a.1
 .have XB:p∈X.pn++Go:=by
   have:p∈(X.pn++Go)++[]:=hp;simpa using this
  obtain ⟨a,b,c,d,e⟩:=I.pin p XB;exact {old _ _ a,b,OM (Oi (Os a) O),λz=>(NT.mp (I.TK p.1 z)).elim c d,e}
 .show (cL ix σ).length=N'.length;unfold cL;rw [NO,L.len]
end
def PTs(X:Cx)(z:List Og)(t:TT):Prop :=
 ∀(Go:List (Addr×Obj))(s:KE)(σ:St)(H:Hp)(Q:Bool->Hp->Prop),Inv X Go σ H s->t σ H Q ->
  N2 (N5 X.prog X.w) X.A (forIn z true λc r=>if r=true then do let ok<-Tb c X.env (Pa c X.env);pure (ForInStep.yield ok) else pure (ForInStep.yield r)) (TP X Go σ Q) X.xe s
def mr:TT:=λ_ H Q=>Q true H
theorem di:W (PTs X [] mr):={λ_ _ _ H _ I h=>wpAny_tests_nil ⟨H,I,h⟩}
theorem Aq{t:TT}(h:W (PT X c t)):W (PTs X [c] t):=by refine {?_};have h:=h.h;exact λGo s σ H Q I q=>wpAny_tests_one (h Go s σ H Q I q)
theorem KR{e tg iter : Og}{Y8 : List Og}(hct : (∀ B : Of, B.under (.compLoop e 0 it ZZ env) = B) ∧ (N5 prog w).den (.compLoop e 0 it ZZ env) = Sem.onRaise (do
      Qm iter.pos
      match ← RB it with
      | none => pure (.done .next)
      | some v =>
        Qc tg it v
        SQ tg env v
        let mut ok := true
        for c in Y8 do
          if ok then ok ← Tb c env (Pa c env)
        if ok then
          em
        again (.compLoop e 0 it ZZ env)) (fun x => do RR x env; theTreesLotGoes x))(I:Nat->KE->Prop)(Yf:∀n s,I n s->N2 (N5 prog w) A (RB it) (λr s₁=>match r with
   | none=>R (.ok .next) s₁
   | some v=>N2 (N5 prog w) A (Qc tg it v) (λ_ F=>N2 (N5 prog w) A (SQ tg env v) (λ_ J =>
     N2 (N5 prog w) A (forIn Y8 true λc r=>if r=true then do let ok<-Tb c env (Pa c env);pure (ForInStep.yield ok) else pure (ForInStep.yield r)) (λok s₃ =>
      if ok=true then N2 (N5 prog w) A em (λ_ O=>∃m,m<n/\I m O) (λ_ _=>False) s₃
      else ∃m,m<n/\I m s₃) (λ_ _=>False) J) (λ_ _=>False) F) (λ_ _=>False) s₁) (λ_ _=>False) s)(n:Nat)(h:I n s):Qb (N5 prog w) A (.compLoop e 0 it ZZ env) R s:=by
 refine codeAny_loop rfl I (λn s Z=>?_) n h;rw [hct.1,hct.2];refine wpAny_noted (Ow (E:=λ_ _=>False) ?_ (λ_ _ q=>q) λ_ _ z=>z.elim);refine we (OX (we (Ow (Yf n s Z) (λr s₁ h₁=>?_) λ_ _ h'=>h')));cases r with
 | none=>exact NN h₁
 | some v =>
  refine we (Ow h₁ (λ_ F S=>?_) λ_ _ h'=>h');refine we (Ow S (λ_ J U=>we (Ow U (λok s₃ G=>?_) λ_ _ h'=>h')) λ_ _ h'=>h');cases ok with
  | false=>exact NN {rfl,G}
  | true=>exact we (Ow G (λ_ O W=>NN {rfl,W}) λ_ _ h'=>h')
def tLC(ix:List (Option Nat))(wi:TI)(g:TG)(tt:TT)(te:TE):TE:=λσ H Q=>wi σ H λJ H1=>∃W:Nat->Nat->St->List V->Hp->Prop,(∃m,W 0 m (cL ix σ) [] H1)/\∀i m G ys H2,W i m G ys H2->ys.length<sizeLine /\
 ((J.stop i H2 ∧ ∀ D, H2 D = none → D ≠ sysModules → Q (.ref D) (upd H2 D (.lst ys))) ∨
  (J.go i H2 ∧ ∀ x H3, J.aG i H2 x H3 → g x G H3 fun z H4 => tt z H4 fun ok H5 => if ok = true then te z H5 fun y H6 => ∃ F, F < m ∧ W (i + 1) F z (ys ++ [y]) H6 else ∃ F, F < m ∧ W (i + 1) F z ys H5))
theorem wX{α:Type}{Q:VK}{em:Addr->Env->Sem Unit}(len:α->Nat)(ho:α->HO)(a0:α)(At:α->Obj->Prop)(tm:(α->Hp->Prop)->α->St->Hp->Prop)(dp:clausesOf e=[{tg,iter,Y8,0}])(hsz:sizeOk dt)(da:∀it D env,(∀B:Of,B.under (.compLoop e 0 it (.ref D) env)=B)/\(N5 X.prog X.w).den (.compLoop e 0 it (.ref D) env)=Sem.onRaise (do
   Qm iter.pos
   match<-RB it with
   | none=>pure (.done .next)
   | some v =>
    Qc tg it v
    SQ tg env v
    let mut ok:=true
    for c in Y8 do
     if ok then ok<-Tb c env (Pa c env)
    if ok then
     em D env
    again (.compLoop e 0 it (.ref D) env)) (λx=>do RR x env;theTreesLotGoes x))(hst:∀{A:Of}{R:Tn->KE->Prop}{s:KE}{it ZZ:Value}{env:Env},Qb (N5 X.prog X.w) A (.compLoop e 0 it ZZ env) R s->N2 (N5 X.prog X.w) A (pyIter it) (λct s'=>Qb (N5 X.prog X.w) A (.compLoop e 0 ct ZZ env) R s') (notedBy (N5 X.prog X.w) A env λx s'=>R (.error x) s') s->Qb (N5 X.prog X.w) A (.compStart e 0 it ZZ env) R s)(h0:At a0 { cls:=.type T,dict:=none,data:=dt })(Yy:({ cls:=.type T,dict:=none,data:=dt }:Obj).isFreed=false)(ba:∀{ys o},At ys o->∀v,o.data≠.cell v)(b7:∀{ys o H' h D},At ys o->len ys<sizeLine->D≠sysModules->h.get? D=some o->z8 X.prog X.w H' h D (ho ys))(c6:∀Go C fp s H pins' s8 G H8 ys ob D (K:α->Hp->Prop),Inv (zC X sc N' Go C fp s H) pins' G H8 s8->tm K ys G H8->At ys ob->len ys<sizeLine->(D,ob)∈pins' ->
   N2 (N5 X.prog X.w) X.A (em D (zC X sc N' Go C fp s H).env) (λ_ s'=>∃s9 bb H9 ax h' tk,s'={ s9 with heap:=h',toks:=tk }/\K bb H9/\Inv (zC X sc N' Go C fp s H) pins' G H9 s9/\At bb ax/\h'.get? D=some ax/\PF D s9.heap h') (λ_ _=>False) s8)(hc:c=true->X.calm=true)(L:aA X sc N' ix)(hi:PIc c X tg iter wi)(hg:∀Go C fp s H,PG (zC X sc N' Go C fp s H) tg g)(ht:∀Go C fp s H,PTs (zC X sc N' Go C fp s H) Y8 tt)(hs:∀x,OK iter X.env x=pure x)(I:Inv X Go σ H s)(h:wi σ H λJ H1=>∃W:Nat->Nat->St->α->Hp->Prop,(∃m,W 0 m (cL ix σ) a0 H1)/\∀i m G ys H2,W i m G ys H2->len ys<sizeLine /\
   ((J.stop i H2 ∧ ∀ D, H2 D = none → D ≠ sysModules → Q (.ref D) (upd H2 D (ho ys))) ∨
    (J.go i H2 ∧ ∀ x H3, J.aG i H2 x H3 → g x G H3 fun a3 H4 => tt a3 H4 fun ok H5 => if ok = true then tm (fun zs H6 => ∃ m', m' < m ∧ W (i + 1) m' a3 zs H6) ys a3 H5 else ∃ m', m' < m ∧ W (i + 1) m' a3 ys H5)))(kk:∀(C D:Addr)(oC:Obj)(H':Hp)(s5:KE)(m5:Str->Option Value),Inv X (Go++[(C,oC)]) σ H' s5->(∀{hp:Heap},hp.get? C=some oC->hp.Ns C m5)->(∀{b8:St}{a6:Hp}{s':KE}{h':Heap},Inv X Go b8 a6 s'->a6 C=none->PF C s'.heap h'->Inv X Go b8 a6 { s' with heap:=h' })->Q (.ref D) H'->compPost (N5 X.prog X.w) X.A X.xe use R (.ref D) C (.ok .next) s5):
  N2 (N5 X.prog X.w) X.A (comprehension e sc X.env (firstIterPos [{tg,iter,Y8,0}] pos) (newObj (.type T) dt none) (firstAsync [{tg,iter,Y8,0}]) (firstIter [{tg,iter,Y8,0}] X.env) use) R X.xe s:=by
 have Xf:closureFor sc X.env=pure (cu X.env.cells sc.names []):=Ad λy hy hk=>I.ok.has y.1 (.inl (L.free y hy hk).1);refine wpAny_comprehension_free (use:=use) dp hs Xf L.kind L.names (thn (hi Go s σ H _ I h) λv s1 h1=>thn h1 λdV s2 h2=>?_);obtain ⟨it,fp,tn,J,H2,e,O,T',b5,f2,W,⟨m0,w0⟩,Yf⟩:=h2;subst e;refine OQ (vZ ?_) hsz;dsimp only;generalize a8:s2.heap.push { cls:=.type T,dict:=none,data:=dt }=G2;have hC:G2.objs.size=s2.heap.objs.size+1:=by rw [<- a8,QE]
 have bu:s2.heap.objs.size≠G2.objs.size:=by rw [hC];exact OM (RD _)
 have Yo:s2.heap.objs.size<=G2.objs.size:=by rw [hC];exact SK _
 have below:∀b,b<s2.heap.objs.size->b≠G2.objs.size/\b≠s2.heap.objs.size:=λb hb=>{by rw [hC];exact OM (QU hb),OM hb};have old:∀b o,s2.heap.get? b=some o->(QF (G2.push { cls:=.type "dict",data:=.dict #[] }) sc.names).get? b=some o:=λb o e=>QR _ _ _ _ (NP _ (a8 ▸ NP _ e));have Xe:(QF (G2.push { cls:=.type "dict",data:=.dict #[] }) sc.names).Ns G2.objs.size λ_=>none:=(Ns.new G2 (.type "dict")).keeps (QR _ _);have own:jY X.env.cells sc G2.objs.size (QF (G2.push { cls:=.type "dict",data:=.dict #[] }) sc.names):=.mk' (QE ..);have Zt:(QF (G2.push { cls:=.type "dict",data:=.dict #[] }) sc.names).get? s2.heap.objs.size=some { cls:=.type T,dict:=none,data:=dt }:=QR _ _ _ _ (NP _ (a8 ▸ N7 _ Yy));generalize QF (G2.push { cls:=.type "dict",data:=.dict #[] }) sc.names=h₁ at old Xe own Zt ⊢;have fl:∀b∈fp,b<s2.heap.objs.size:=λb hb=>by
  obtain ⟨o,e,_⟩:=T'.obj 0 _ b5 b hb;exact Os e
 have Yn:s2.heap.objs.size∉fp:=λz=>OF _ (fl _ z);generalize S:s2.heap.objs.size=D at *
 generalize dT:G2.objs.size=C at *
 have bx:tn 0 h₁:=T'.keep _ _ _ b5 λb _ o e=>old b o e;have I3:Inv (zC X sc N' Go C fp s2 H2) [] (cL ix σ) H2 { s2 with heap:=h₁ }:=wy (tk:=s2.toks) O L f2 (λb hb=>by rw [S];exact fl b hb) (by rw [S];exact Yo) Xe old own;have D0:H2 D=none:=O.hok.fresh (S3 S);have fD:∀{H':Hp},H' D=none->aJ (zC X sc N' Go C fp s2 H2) [] H' D:=λ{H'} hn=>by
  refine {hn,bu,λz=>?_,.inr (S3 S),λx c hx z=>?_,λp hp z=>?_}
  .obtain ⟨_,o,ho,_⟩:=O.stack.mem (show D∈frs X.stack from z);exact absurd (Os ho) (by rw [S];exact OF _)
  .rcases own.aI x c hx with a|a
   .have:=a.1;rw [z] at this;exact absurd this (not_lt.mpr Yo)
   .obtain ⟨v,q⟩:=O.cell x c a.1;have:=q.lt;rw [z,S] at this;exact OF _ this
  .have XB:p∈X.pn++Go:=by
    have:p∈(X.pn++Go)++[]:=hp;simpa using this
   have:=Os (O.pin p XB).1;rw [z,S] at this;exact OF _ this
 have fF:∀{H':Hp},(∀b∈fp,H' b=none)->∀b∈fp,aJ (zC X sc N' Go C fp s2 H2) [] H' b:=λ{H'} hn b hb=>by
  obtain ⟨_,Z,g2,g3,g4,g5⟩:=f2 b hb;refine {hn b hb,(below b (fl b hb)).1,λz=>?_,.inl hb,λx c hx=>?_,λp hp=>g5 p ?_}
  .rcases NT.mp (O.TK b z) with e|e
   .exact Z e
   .exact g2 e
  .rcases own.aI x c hx with a|a
   .have:=a.1;have:=fl b hb;exact λz=>by subst z;lia
   .exact g4 x c a.1
  .have:p∈(X.pn++Go)++[]:=hp;simpa using this
 have a5:∀s₃:KE,s₃={ s2 with heap:=h₁ } ->
   Qb (N5 X.prog X.w) X.A (.compLoop e 0 (.ref it) (.ref D) (compEnvC sc (fX X.env.cells sc C) C X.env))
    (compPost (N5 X.prog X.w) X.A X.xe use R (.ref D) C) s₃:=by
  rintro s₃ rfl;refine KR (da _ _ _) (λn s'=>∃i G ys H',Inv (zC X sc N' Go C fp s2 H2) [] G H' s'/\tn i s'.heap/\(∀b∈fp,H' b=none)/\H' D=none/\(∃ob,At ys ob/\s'.heap.get? D=some ob)/\W i n G ys H')
   ?_ m0 {0,_,a0,H2,I3,bx,λb hb=>(f2 b hb).1,D0,{_,h0,Zt},w0}
  rintro n s4 ⟨i,G,ys,H4,I4,bp,bt,F,⟨ob,av,dg⟩,w4⟩;obtain ⟨ZS,step⟩:=Yf i n G ys H4 w4;rcases step with ⟨stop,Zn⟩|⟨go,step⟩
  .refine thn (T'.done (zC X sc N' Go C fp s2 H2) rfl rfl rfl hc i [(D,ob)] s4 G H4 (λ_ _=>False) (I4.ti λp hp=>?_) (λb hb=>?_) bp stop) λr s5=>x2e λhr I5=>?_
   .have e:p=(D,ob):=by simpa using hp
    subst e;obtain ⟨g0,Z,g2,_⟩:=fD F;exact {dg,g0,Z,g2,ba av}
   .obtain ⟨g0,Z,g2,g3,g4,g5⟩:=fF bt b hb;refine {g0,Z,g2,g3,g4,λp hp=>?_};rcases Ox.mp hp with z|z
    .exact g5 p (Oo _ z)
    .have e:p=(D,ob):=by simpa using z
     subst e;exact λq=>Yn (by have q':D=b:=q;rw [q'];exact hb)
   .subst hr;have c3:=(I5.pin (D,_) (NY _ (OO.mpr rfl))).1;obtain ⟨m5,c2,_⟩:=id I5.loc;have ZI:∀b o,s2.heap.get? b=some o->b≠C/\b≠D:=λb o e=>by
     have:=Os e;rw [S] at this;exact below b this
    have cp:D≠sysModules:=by have h:N3<s2.heap.objs.size:=(O.mod.glob.keeps O.bk).lt;rw [S] at h;exact R8 (Qy 'd' h)
    have U:=I5.base;have IX:Inv X Go σ (upd H4 D (ho ys)) s5:=by
     refine O.VM (s':=s5) (ch:=fp) I5.os {λb o e n hb hx=>U.keep b o e n hb hx,λb o e n hb hx=>U.slot b o e n hb hx,λb o e n hx=>?_,λb o e hx=>U.there b o e hx,λb xs e=>?_,λb o u e=>?_,λb ps e=>?_} ?_ I5.bare (λb hb=>?_)
     .rw [zh (ZI b o e).2];exact U.free b o e n hx
     .have q:=U.tups b xs e;rw [zh (zQ q F)];exact q
     .have q:=U.frzs b o u e;rw [zh (zQ q F)];exact q
     .obtain ⟨more,q⟩:=U.tbls b ps e;exact {more,by rw [zh (zQ q F)];exact q}
     .exact I5.hok.add F (b7 av ZS cp c3)
     .obtain ⟨_,Z,g2,g3,g4,g5⟩:=f2 b hb;exact ⟨g3,Z,g4,g5⟩
    obtain ⟨oC,c5,du,gC,rC⟩:=id c2;have a7:∀v,oC.data≠.cell v:=λv z=>by rw [rC.1] at z;cases z
    have bq:C≠D:=OY bu;have HC:upd H4 D (ho ys) C=none:=by rw [zh bq];exact I5.free
    have a4:C≠X.env.locals:=λz=>by
     have:=O.lt;rw [<- z,S] at this;exact absurd (Oi this Yo) (OF _)
    have cD:C∉X.fs:=O.bV (by rw [S];exact Yo);have c4:=IX.ti (pins':=Go++[(C,oC)]) λp hp=>by
     rcases Ox.mp hp with z|z
     .exact IX.pin p (NY _ z)
     .rw [OO.mp z];exact ⟨gC,HC,a4,cD,a7⟩
    refine kk C D oC _ s5 m5 c4 (λe=>⟨oC,c5,du,e,rC⟩) (λ{dK H6 s6 h'} I7 cv Xd=>I7.turned (t':=s6.toks) (it:=C) (λb o hb e=>(Xd.2 b hb).trans e) cv a4 (.inr (Ol O.sz (by rw [S];exact Yo))) (λx c hx z=>?_) (λp hp z=>?_)) (Zn D F cp)
    .obtain ⟨v,q⟩:=O.cell x c hx;have:=q.lt;rw [z,S] at this;exact absurd (Oi this Yo) (OF _)
    .have:=Os (O.pin p hp).1;rw [z,S] at this;exact absurd (Oi this Yo) (OF _)
  .refine thn (T'.item (zC X sc N' Go C fp s2 H2) rfl rfl rfl hc i [(D,ob)] s4 G H4 (λ_ _=>False) (I4.ti λp hp=>?_) (λb hb=>?_) bp go) λr s5=>x3e λu hr h5=>?_
   .have e:p=(D,ob):=by simpa using hp
    subst e;obtain ⟨g0,Z,g2,_⟩:=fD F;exact {dg,g0,Z,g2,ba av}
   .obtain ⟨g0,Z,g2,g3,g4,g5⟩:=fF bt b hb;refine {g0,Z,g2,g3,g4,λp hp=>?_};rcases Ox.mp hp with z|z
    .exact g5 p (Oo _ z)
    .have e:p=(D,ob):=by simpa using z
     subst e;exact λq=>Yn (by have q':D=b:=q;rw [q'];exact hb)
   .subst hr;refine thn h5 λ_ s6=>x5e λx H6 I6 r6 YF=>?_;obtain ⟨y6,a9,df⟩:=YF;obtain ⟨aI,dk,_⟩:=I6.pin (D,_) (NY _ (OO.mpr rfl));have b0:H6 D=none:=dk;have b6:∀b∈D::fp,aJ (zC X sc N' Go C fp s2 H2) [] H6 b:=λb hb=>by
     rcases NT.mp hb with z|z
     .subst z;exact fD b0
     .exact fF df b z
    have b9:∀b∈D::fp,∃o,s6.heap.get? b=some o/\∀v,o.data≠.cell v:=λb hb=>by
     rcases NT.mp hb with z|z
     .subst z;exact {_,aI,ba av}
     .exact T'.obj _ _ a9 b z
    have cC:=(I6.ro (Go:=[])).pinned b6 b9;refine thn (hg Go C fp s2 H2 _ s6 G H6 x u _ cC r6 (step x H6 y6)) λ_ s7=>x4e λak H7 I7 q7=>?_;refine thn (ht Go C fp s2 H2 _ s7 ak H7 _ I7 q7) λok s8=>x3e λH8 I8 q8=>?_;have back:∀{s9:KE}{H9:Hp},Inv (zC X sc N' Go C fp s2 H2) ([]++gY (D::fp) s6.heap) ak H9 s9->s9.heap.get? D=some ob/\H9 D=none/\tn (i+1) s9.heap/\∀b∈fp,H9 b=none:=λ{s9 H9} I9=>by
     have pin:∀b o,b∈D::fp->s6.heap.get? b=some o->s9.heap.get? b=some o/\H9 b=none:=λb o hb e=>by
      have q:=I9.pin (b,o) (NY _ (NY _ (gA hb e)));exact ⟨q.1,q.2.1⟩
     refine {(pin D _ NX aI).1,(pin D _ NX aI).2,T'.keep _ _ _ a9 λb hb o e=>(pin b o (NR _ hb) e).1,λb hb=>?_};obtain ⟨o,e,_⟩:=T'.obj _ _ a9 b hb;exact (pin b o (NR _ hb) e).2
    cases ok with
    | false =>
     obtain ⟨b1,b2,b3,b4⟩:=back I8;simp only [Qj,if_false] at q8 ⊢;obtain ⟨m',hm,w'⟩:=q8;exact {m',hm,i+1,ak,ys,H8,I8.ro,b3,b4,b2,⟨ob,av,b1⟩,w'}
    | true =>
     simp only [if_true] at q8 ⊢;refine thn (c6 Go C fp s2 H2 _ s8 ak H8 ys ob D _ I8 q8 av ZS (NY _ (gA NX aI))) λ_ s'=>?_;rintro ⟨s9,zs,H9,ax,d0,tk,rfl,⟨m',hm,w'⟩,I9,dc,de,sb⟩;obtain ⟨b1,b2,b3,b4⟩:=back I9;obtain ⟨_,Z,_,g3,g4,g5⟩:=fD b2;exact {m',hm,i+1,ak,zs,H9,(I9.ro (Go:=[])).turned (t':=tk) (λb o hb e=>(sb.2 b hb).trans e) b2 Z g3 g4 g5,T'.keep _ _ _ b3 λb hb o e=>(sb.2 b λq=>Yn (by rw [<- q];exact hb)).trans e,b4,b2,⟨ax,dc,de⟩,w'}
 exact hst (a5 _ rfl) (T'.self _ 0 _ _ _ bx (a5 _ rfl))
theorem vm(hc:c=true->X.calm=true)(L:aA X sc N' ix)(hi:PIc c X tg iter wi)(hg:∀Go C fp s H,PG (zC X sc N' Go C fp s H) tg g)(ht:∀Go C fp s H,PTs (zC X sc N' Go C fp s H) J tt)(he:∀Go C fp s H,PE (zC X sc N' Go C fp s H) Y7 te)(hs:∀x,OK iter X.env x=pure x)(I:Inv X Go σ H s)(h:tLC ix wi g tt te σ H Q)(kk:∀(C D:Addr)(oC:Obj)(H':Hp)(s5:KE)(m5:Str->Option Value),Inv X (Go++[(C,oC)]) σ H' s5->(∀{hp:Heap},hp.get? C=some oC->hp.Ns C m5)->(∀{O:St}{G:Hp}{s':KE}{h':Heap},Inv X Go O G s'->G C=none->PF C s'.heap h'->Inv X Go O G { s' with heap:=h' })->Q (.ref D) H'->compPost (N5 X.prog X.w) X.A X.xe use R (.ref D) C (.ok .next) s5):
  N2 (N5 X.prog X.w) X.A (comprehension (.ListComp Y7 [{tg,iter,J,0}] sc pos) sc X.env (firstIterPos [{tg,iter,J,0}] pos) (newList []) (firstAsync [{tg,iter,J,0}]) (firstIter [{tg,iter,J,0}] X.env) use) R X.xe s:=by
 refine wX (e:=.ListComp Y7 [{tg,iter,J,0}] sc pos) (em:=λD env=>do let _<-call (.builtin "list.append") [.ref D,<- Pa Y7 env]) (T:="list") (dt:=.seq ([]:List Value).toArray) SN HO.lst [] (λys o=>∃F k,zq ys F/\o={ cls:=.type "list",data:=.seq F.toArray k }) (λK ys W H=>te W H λy H'=>K (ys++[y]) H') rfl (by size_fits) (λ_ _ _=>{λ_=>rfl,rfl}) codeAny_compStart_list {[],0,.nil,rfl} rfl ?_ ?_ ?_ hc L hi hg ht hs I h kk
 .rintro ys o ⟨F,k,_,rfl⟩ v z;cases z
 .rintro ys o H' h D ⟨F,k,U,rfl⟩ hl _ e;exact {Sa hl,F,k,U,e}
 .rintro Go C fp s H pins' s8 W H8 ys ob D K I8 q8 ⟨F,k,U,rfl⟩ hl hD;refine we (thn (he Go C fp s H _ s8 W H8 _ I8 q8) λy s9=>x5e λyv H9 I9 r9 w'=>?_);have el:F.toArray.size<=sizeLine:=by
   have:=U.length;simp only [Oa];lia
  refine we (append_at (hsz:=el) (I9.pin _ (NY _ hD)).1 λZ sb S=>NN {s9,_,H9,_,Z,s9.toks,rfl,w',I9,{F++[y],k+1,U.append (.cons r9 .nil),rfl},?_,sb});rw [S];simp
theorem cY(hc:c=true->X.calm=true)(L:aA X sc N' ix)(hi:W (PIc c X tg iter wi))(U:∀Go C fp s H,W (PG (zC X sc N' Go C fp s H) tg g))(S:∀Go C fp s H,W (PTs (zC X sc N' Go C fp s H) Y8 tt))(he:∀Go C fp s H,W (PE (zC X sc N' Go C fp s H) Y7 te))(hs:∀x,OK iter X.env x=pure x:=by intro _;rfl):W (PE X (.ListComp Y7 [{tg,iter,Y8,0}] sc pos) (tLC ix wi g tt te)):=by
 refine {?_};have hi:=hi.h;have U:=λJ z G F O=>(U J z G F O).h;have S:=λJ z G F O=>(S J z G F O).h;have he:=λJ z G F O=>(he J z G F O).h;intro Go s σ H Q I h;rw [eval_ListComp];refine vm (use:=none) hc L hi U S he hs I h λC D oC H' s5 m5 Z ns tu q=>?_;obtain ⟨p6,ak,_⟩:=Z.pin (C,oC) (NY _ (NY _ (OO.mpr rfl)));exact {m5,ns p6,λh' Xd=>{.ref D,H',tu (Z.ti λp hp=>Z.pin p (NY _ (Oo _ hp))) ak Xd,rfl,q}}
def Ctx(H:Hp)(vs:Array Value):Prop:=∃z,vs[2]?=some z/\(z = .none\/∃b k,z = .ref b/\Chn H k b)
structure br(Hc:Hp)(B:Heap)(l:List Env)(e:Addr)(cls fl:Value)(h:Heap):Prop where
 stays:B.StaysIn h
 new:B.get? e=none
 frames:h.FunFrames B l
 obj:∃oe vs,h.get? e=some oe/\oe.cls=cls/\oe.dict=none/\oe.data = .fields vs/\2<vs.size/\Ctx Hc vs /\
  (vs[1]?=some .none\/∃T oT ts,vs[1]?=some (.ref T)/\B.get? T=none/\T≠e/\h.get? T=some oT/\oT.data = .fields ts/\ts[3]?=some fl)
section
variable {M:Model}{A:Of}{E:Value->KE->Prop}{s:KE}{Hc:Hp}{B:Heap}{env:Env}{outer l:List Env}{L e:Addr}{cls fl:Value}
theorem tG(o:Obj)(f:Array Value->Array Value):(o.mapFields f).dict=o.dict:=by
 obtain ⟨c,d,dt,sl⟩:=o;cases dt<;>rfl
theorem Ag(Yy:A.frames=some (env::outer))(hf:env.frame=some L)(st:B.StaysIn s.heap)(S:B.get? e=none)(hl:s.heap.FunFrames B (env::outer))(he:s.heap.get? e=some oe)(hc:oe.cls=cls)(YC:oe.dict=none)(hd:oe.data = .fields vs)(hz:2<vs.size)(h2:Ctx Hc vs)(k:∀h',br Hc B (env::outer) e cls (Pj L) h'->s.heap.UpToSlots h'->Q () { s with heap:=h' }):
  N2 M A (do let a<-frameOf env;let pl<-entryPlaceOf L F;let b<-EntryCells.newEntry head a .none (Pj L) .none pl;Q1 (.ref e) 1 b) Q E s:=by
 have G:e∉(env::outer).filterMap (·.frame):=λz=>by
  obtain ⟨_,o,ho,nf⟩:=hl.mem z;rw [he] at ho;cases ho;exact nf vs hd
 refine we (wpAny_frameOf_fun Yy hl hf λg only=>?_);obtain ⟨_,same,slots⟩:=only;refine we (wpAny_entryPlaceOf λpl Yu=>?_);have XA:∀(tb:Obj)(ts:Array Value),tb.data = .fields ts->ts[3]?=some (Pj L)->N2 M A (Q1 (.ref e) 1 (.ref g.objs.size)) Q E { s with heap:=g.push tb }:=by
  intro tb ts td Z;have U:g.get? e=some oe:=(same e G).trans he;have W:(g.push tb).get? e=some oe:=NP _ U;have hT:(g.push tb).get? g.objs.size=some tb:=N7 _ (by rw [Pt td]);have O:g.objs.size≠e:=R8 (Os U);have fresh:B.get? g.objs.size=none:=by
   cases q:B.get? g.objs.size with
   | none=>rfl
   | some o =>
    obtain ⟨sl,z⟩:=slots _ o (st _ o q);exact absurd (Os z) (OF _)
  have up:∀b o,b≠e->g.get? b=some o->((g.push tb).update e (Rc (·.setIfInBounds 1 (.ref g.objs.size)))).get? b=some o:=λb o hb q =>
   (Oz _ _ (OY hb)).trans (NP _ q)
  have J:∀b o,s.heap.get? b=some o->(∀ws,o.data≠.fields ws)->b≠e:=λb o q nf z=>by
   rw [z,he] at q;cases q;exact nf vs hd
  have dd:=PY hd (·.setIfInBounds 1 (N6 g.objs.size));refine O5 W hd 'l' (k _ {λb o q=>?_,S,?_,?_} λb o q nf=>?_)
  .refine up b o (λz=>by rw [z,S] at q;cases q) ((same b λz=>?_).trans (st b o q));rw [(hl.mem z).1] at q;cases q
  .refine hl.of_keeps λb o q nf=>?_;obtain ⟨sl,z⟩:=slots b o q;exact {_,up b _ (J b o q nf) z,rfl}
  .refine {_,_,OW _ W (Pt dd),(QY _ _).trans hc,(tG _ _).trans YC,dd,by simpa using hz,(by obtain ⟨cv,q1,q2⟩:=h2;exact {cv,by rw [RL 'd'];exact q1,q2}),.inr {g.objs.size,tb,ts,?_,fresh,O,?_,td,Z}}
   .rw [OZ 'l']
   .rw [Oz _ _ (OY O)];exact hT
  .obtain ⟨sl,z⟩:=slots b o q;exact {sl,up b _ (J b o q nf) z}
 unfold EntryCells.newEntry newFields;refine we (OQ ?_ (Yu.sizeOk5 _ _ _ _ _));exact XA _ _ rfl 'z'
theorem qO(Yy:A.frames=some (env::outer))(hf:env.frame=some L)(x:br Hc B (env::outer) e cls fl s.heap)(k:∀h',br Hc B (env::outer) e cls (Pj L) h'->s.heap.UpToSlots h'->Q () { s with heap:=h' }):N2 M A (RR (.ref e) env) Q E s:=by
 obtain ⟨st,O,hl,oe,vs,he,hc,S,hd,hz,h2,h1⟩:=x;unfold RR;simp only [hf];rcases h1 with h1|⟨T,oT,ts,h1,W,U,G,dT,J⟩
 .refine we (O6 he hd h1 ?_);rw [if_neg (show ¬ ((OL != OL)=true) by decide)];exact Ag Yy hf st O hl he hc S hd hz h2 k
 .refine we (O6 he hd h1 ?_);rw [if_pos (show (N6 T != OL)=true by simp)];refine we (O6 G dT J ?_);by_cases F:fl=Pj L
  .subst F;rw [if_pos (show (Pj L==Pj L)=true by simp)];exact NN (k s.heap {st,O,hl,oe,vs,he,hc,S,hd,hz,h2,.inr ⟨T,oT,ts,h1,W,U,G,dT,J⟩} (UpToSlots.refl _))
  .rw [if_neg (show ¬ ((fl==Pj L)=true) by simpa using F)];refine we (O5 G dT (Px.mp J).1 ?_);have oth:∀b,b≠T->(s.heap.update T (Rc (·.setIfInBounds 3 OL))).get? b=s.heap.get? b:=λb hb=>Oz _ _ (OY hb);have Z:∀b o,s.heap.get? b=some o->(∀ws,o.data≠.fields ws)->b≠T:=λb o q nf z=>by
    rw [z,G] at q;cases q;exact nf ts dT
   refine Ag (B:=B) (cls:=cls) Yy hf (λb o q=>?_) O (hl.of_keeps λb o q nf=>{o,(oth b (Z b o q nf)).trans q,rfl}) ((oth e (OY U)).trans he) hc S hd hz h2 λh' y up=>k h' y λb o q nf=>up b o ((oth b (Z b o q nf)).trans q) nf;exact (oth b λz=>by rw [z,W] at q;cases q).trans (st b o q)
theorem jN(x:br Hc B l e cls fl s.heap)(k:∀h',br Hc B l e cls .none h'->s.heap.UpToSlots h'->Q () { s with heap:=h' }):N2 M A (setFlight (.ref e) none) Q E s:=by
 obtain ⟨st,S,hl,oe,vs,he,hc,W,hd,hz,h2,h1⟩:=x;unfold setFlight;rcases h1 with h1|⟨T,oT,ts,h1,O,J,G,dT,Z⟩
 .refine we (O6 he hd h1 ?_);rw [if_neg (show ¬ ((OL != OL)=true) by decide)];exact NN (k s.heap {st,S,hl,oe,vs,he,hc,W,hd,hz,h2,.inl h1} (UpToSlots.refl _))
 .refine we (O6 he hd h1 ?_);rw [if_pos (show (N6 T != OL)=true by simp)];have F:3<ts.size:=(Px.mp Z).1;have dd:=PY dT (·.setIfInBounds 3 OL);have oth:∀b,b≠T->(s.heap.update T (Rc (·.setIfInBounds 3 OL))).get? b=s.heap.get? b:=λb hb=>Oz _ _ (OY hb);have U:∀b o,s.heap.get? b=some o->(∀ws,o.data≠.fields ws)->b≠T:=λb o q nf z=>by
   rw [z,G] at q;cases q;exact nf ts dT
  refine O5 G dT F (k _ {λb o q=>(oth b λz=>by rw [z,O] at q;cases q).trans (st b o q),S,hl.of_keeps λb o q nf=>{o,(oth b (U b o q nf)).trans q,rfl},oe,vs,(oth e (OY J)).trans he,hc,W,hd,hz,h2,
   .inr {T,_,_,h1,O,J,OW _ G (Pt dd),dd,?_}} λb o q nf=>{o.slots,(oth b (U b o q nf)).trans q})
  rw [OZ F]
theorem Kq(F:A.frames=some (env::outer))(hf:env.frame=some L)(x:br Hc B (env::outer) e cls fl s.heap)(k:∀h',br Hc B outer e cls .none h'->s.heap.UpToSlots h'->Q () { s with heap:=h' }):N2 M A (leaving env (.ref e)) Q E s:=by
 unfold leaving;refine we (qO F hf x λh1 y u1=>jN (s:={ s with heap:=h1 }) y λh2 z u2=>?_);obtain ⟨a,b,⟨_,_,c⟩,d⟩:=z;exact k h2 ⟨a,b,c,d⟩ (u1.trans u2)
end
def CXW(P:NW)(w:Oc):CXT:=λouter H s E e s'=>∃(ea C:Addr)(B:Heap)(H':Hp)(z:KE),e = .ref ea/\br H' B outer ea (.ref C) .none s'.heap/\Un (frs outer) [] H H' s.heap z.heap/\HOk P w H' z.heap /\
 z.os=s.os/\QZ z.gens/\s'.os=s.os/\QZ s'.gens/\(∀b o,z.heap.get? b=some o->b∉frs outer->B.get? b=some o)/\z.heap.UpToSlots s'.heap/\E (.ref C) none H'
def aQ(X:Cx)(Ex:Addr->St->Hp->Prop):Prop:=∀(Go:List (Addr×Obj))(σ:St)(H:Hp)(z:KE)(ea C:Addr)(B:Heap)(fl:Value)(s':KE),Inv X Go σ H z->br H B X.stack ea (.ref C) fl s'.heap->s'.os=z.os->QZ s'.gens ->
 (∀b o,z.heap.get? b=some o->b∉frs X.stack->B.get? b=some o)->z.heap.UpToSlots s'.heap->Ex C σ H->X.xe (.ref ea) s'
theorem Kk:aQ X (λ_ _ _=>False):=λ_ _ _ _ _ _ _ _ _ _ _ _ _ _ _ h=>h.elim
theorem eQ{K:NQ}:
  aQ (c8 (CXW P w) cm P w K mg base N qual scope f cd A outer s H E) (λC _ H'=>E (.ref C) none H'):=by
 intro Go σ H' F ea C B fl s' I x os bare O up q;have J:A.frames=some outer:=by
  have:=I.ok.frames;cases h:A.frames with
  | none =>
   have z:(A.deeper (Q8 qual scope s.heap.objs.size f cd)).frames=none:=by
    first|(show (A.frames.map _)=none;rw [h];rfl)|simp [Of.deeper,Of.under,h]
   rw [show (c8 (CXW P w) cm P w K mg base N qual scope f cd A outer s H E).A=A.deeper (Q8 qual scope s.heap.objs.size f cd) from rfl,z] at this;cases this
  | some l =>
   have z:=Of.frames_deeper (env:=Q8 qual scope s.heap.objs.size f cd) h;rw [show (c8 (CXW P w) cm P w K mg base N qual scope f cd A outer s H E).A=A.deeper (Q8 qual scope s.heap.objs.size f cd) from rfl,z] at this;have:=OG.inj this;exact congrArg some (List.cons.inj this).2
 show N2 (N5 P w) (A.deeper (Q8 qual scope s.heap.objs.size f cd)) (leaving (Q8 qual scope s.heap.objs.size f cd) (.ref ea)) _ _ s';refine Kq (L:=s.heap.objs.size) (Of.frames_deeper J) rfl x λh' y u=>?_;have G:∀b o,b≠s.heap.objs.size->F.heap.get? b=some o->(Td F.heap [s.heap.objs.size]).get? b=some o:=λb o hb e=>hideAll_get _ e (by simpa using hb);have U:=I.base;have lt:∀b o,s.heap.get? b=some o->b≠s.heap.objs.size:=λb o e=>OM (Os e);have nl:∀b:Addr,b∉(c8 (CXW P w) cm P w K mg base N qual scope f cd A outer s H E).ex:=λb z=>absurd (show b∈([]:List Addr) from z) 'z';refine {ea,C,B,H',{ F with heap:=Td F.heap [s.heap.objs.size] },rfl,y,{λb o e n hb _=>G b o (lt b o e) (U.keep b o e n hb (nl b)),λb o e n hb _=>?_,λb o e n _=>U.free b o e n (nl b),λb o e _=>?_,U.tups,U.frzs,U.tbls},
  I.hok.but (C:=s.heap.objs.size) I.free G,I.os,I.bare,os.trans I.os,bare,λb o e hb=>?_,λb o e nf=>?_,q}
 .obtain ⟨sl,z⟩:=U.slot b o e n hb (nl b);exact {sl,G b _ (lt b o e) z}
 .obtain ⟨o',z⟩:=U.there b o e (nl b);exact {o',G b _ (lt b o e) z}
 .have S:=RQ _ e;refine O b o S λz=>?_;have z':b∈s.heap.objs.size::frs outer:=z;rcases NT.mp z' with r|r
  .rw [r] at e;have Z:(Td F.heap [s.heap.objs.size]).get? s.heap.objs.size=none:=PySem.W.hideAll_none _ 'z';exact absurd (Z.symm.trans e) 'z'
  .exact hb r
 .exact (up.trans u) b o (RQ _ e) nf
def XE(Ex:Addr->St->Hp->Prop)(σ:St):XK:=λc _ H'=>∃C,c = .ref C/\Ex C σ H'
def lQ(sp:Sp)(Za:List V)(Ex:Addr->St->Hp->Prop)(t:TA):TE:=λσ H Q=>t σ H λvs H1=>sp (vs++Za) H1 Q (XE Ex σ)
def jO(C:Addr)(m:Str)(sp:Sp)(Za:List V)(Ex:Addr->St->Hp->Prop)(ta:TE)(t:TA):TE:=λσ H Q=>ta σ H λx H1=>∃a dx fs,x = .ref a/\H1 a=some (.ins C dx fs)/\fs.lookup m=none /\
 t σ H1 λvs H2=>sp (x::(vs++Za)) H2 Q (XE Ex σ)
section
variable {X:Cx}{cm:Bool}{k:Nat}{f C:Addr}{fd:N4}{ps:List Str}{sp:Sp}{Za:List V}{ds:List Value}{Ex:Addr->St->Hp->Prop}{x m:Str}{p pos Z3:Pos}{e o:Og}{es:List Og}{ta:TE}{t:TA}
theorem aQ.of(T:aQ X Ex)(I:Inv X Go σ H s)(h:CXW X.prog X.w X.stack H s (XE Ex σ) v s'):X.xe v s':=by
 obtain ⟨ea,C,B,H',J,rfl,y,un,hok,os,bare,G,F,O,up,U,S,q⟩:=h;cases S;exact T Go σ H' J ea C B .none s' (I.VM os un hok bare λb z=>absurd z 'z') y (G.trans os.symm) F O up q
theorem yT(T:aQ X Ex)(F:zp X.prog X.w X.K X.mg X.base (CXW X.prog X.w) cm k f fd ps sp)(hr:zX cm k X.A)(hb:bQ X.K fd ps ds)(hd:zq Za ds)(I:Inv X Go σ H s)(r:zq vs us)(h:sp (vs++Za) H Q (XE Ex σ)):N2 (N5 X.prog X.w) X.A (call (.ref f) us) (EP X Go σ Q) X.xe s:=by
 have r2:zq (vs++Za) (us++ds):=r.append hd;have hl:(us++ds).length=ps.length:=by rw [<- r2.length];exact F.len _ _ _ _ h
 refine wpAny_call (Qf (F.run X.A X.stack s H {us,[]} (us++ds) (vs++Za) Q (XE Ex σ) hr I.bH (hb s us I.z9 hl) r2 h) λr s' z=>?_);cases r with
 | error v=>exact T.of I z
 | ok fl =>
  cases fl with
  | ret u=>exact I.after z
  | next=>exact False.elim z
  | brk=>exact False.elim z
  | cont=>exact False.elim z
theorem MD(T:aQ X Ex)(F:zp X.prog X.w X.K X.mg X.base (CXW X.prog X.w) cm k f fd ps sp)(hr:zX cm k X.A)(S:Gl X x)(hm:X.mg x=some (.ref f))(G:SO X.K (.ref f)=true)(hb:bQ X.K fd ps ds)(hd:zq Za ds)
  (ha:PA X (e::es) t) (J:(x==("__debug__":Str))=false:=by decide) (he:Om (e::es) X.env=(false,Pa e X.env)::Om es X.env:=by rfl) (O:(P0 pos (Om es X.env)).any (·.1)=false:=by rfl) :
  PE X (.Call (.Name x p) (e::es) [] pos) (lQ sp Za Ex t):=by
 intro Go s σ H Q I h;refine PR (fu I S hm ?_ J);refine callWith_K (h₀:=X.base) I.ok.mod.bw G (thn (ha pos Go s σ H _ I h) λus s1=>x5e λvs H1 z r q=>{z.z9,?_}) he O;exact yT T F hr hb hd z r q
theorem BM(he:PE X o ta)(c:Cls X.K C)(hm:iF X.K C m f)(T:aQ X Ex)(F:zp X.prog X.w X.K X.mg X.base (CXW X.prog X.w) cm k f fd ps sp)(hr:zX cm k X.A)(hb:bQ X.K fd ps ds)(hd:zq Za ds)(O:Pa (.Call (.Attribute o m Z3) [] [] pos) X.env=(do
   let G<-Pa o X.env
   Qm Z3.atName
   let (f,first)<-Qu [G] (RT G m pl)
   Sd pos f first (P0 pos (Om [] X.env)) (Ss pos (Q6 [] X.env))):=by rfl):
  PE X (.Call (.Attribute o m Z3) [] [] pos) (jO C m sp Za Ex ta cK):=by
 intro Go s σ H Q I h;refine methodCall_KW (pl:=pl) (thn (he Go s σ H _ I h) λu s1=>x5e λx H1 z J S=>?_) O;obtain ⟨a,dx,fs,ex,ea,l,q⟩:=S;subst ex;obtain rfl:u=N6 a:=J;refine qr z ea c hm l ?_;exact callWith_K0 (first:=[.ref a]) z.z9 hm.kp (yT (us:=[.ref a]) (vs:=[.ref a]) T F hr hb hd z (.cons rfl .nil) q)
end
theorem Fun.cv{K:NQ}{st:Stmt}{k:Nat}(F:Fun K x qual st f fd)(S:zy N ps (zl st))(len:∀vs H Q E,sp vs H Q E->vs.length=ps.length)(J:∀(z:Value)(A:Of)(outer:List Env)(s:KE)(H:Hp)(vs:List V)(Q:VK)(E:XK),zX cm k (A.deeper (Q8 qual (zl st) s.heap.objs.size f z))->sp vs H Q E ->
   ∃t,PSs (c8 (CXW P w) cm P w K mg base N qual (zl st) f z A outer s H E) (gH st) t/\t { nx:=λ_ H'=>Q .non H',rt:=Q } (start N vs) H):zp P w K mg base (CXW P w) cm (k+1) f fd ps sp:=by
 obtain ⟨oc,U,kV,Yb,Z,W,z,ct,O,rfl,lk,hcd⟩:=F.ex;exact sT lk hcd S len λA outer s H vs Q E hr G=>J z A outer s H vs Q E hr G
def bmV:List Value:=[.type "ValueError",.type "Exception",.type "BaseException",.type "object"]
def bW(K:NQ)(C:Addr):Prop:=excIn K C bmV "ValueError.__new__"=true
structure nM(h:Heap)(C:Addr)(mro:List Value):Prop where
 ex:∃bm N nm q bs hdct sn sub ab col dd k0 k1 k2 k3 k5 mN,mro = .ref C::bm/\h.get? C=some (excClassObj nm q C N bs bm hdct sn sub ab col dd k0 k1 k2 k3 k5 "ValueError.__new__")/\h.Ns N mN/\mN Wn=none/\OwnTail h bmV bm
theorem bW.obj{K:NQ}(x:bW K C)(X:K.In h):∃cd,clsIn K C=some cd/\nM h C cd.mro:=by
 unfold bW excIn at x;split at x
 .rename_i dd cd sl look;have hc:clsIn K C=some cd:=by
   unfold clsIn;rw [look]
  refine {cd,hc,?_};split at x
  .rename_i C' bm k0 k1 k2 k3 n k5 em es;simp only [Od,beq_iff_eq,RC] at x;obtain ⟨⟨⟨⟨⟨c1,c2⟩,J⟩,c4⟩,F⟩,G⟩:=x;subst c1 c2;obtain ⟨Z,a2,a3,a4,a5,O,S,U,a9,z,ak⟩:=cd;dsimp only at em J F G ⊢;subst em J;obtain ⟨sl⟩:=sl;dsimp only at es;subst es;exact {bm,a4,Z,a5,a2,O,S,U,a9,z,dd,k0,k1,k2,k3,k5,_,rfl,X _ _ look,.of_isNs (PySem.W.isNs_of_in X F),PySem.W.nsMap_none_of_in X F G,PySem.W.tail_of_in X c4}
  .cases x
 .cases x
def jX(C:Addr)(Ex:Addr->St->Hp->Prop)(t:TA):TS:=λ_ σ H=>t σ H λvs H1=>vs.length<=sizeLine/\Ex C σ H1
theorem LM{t:TA}(hc:X.calm=true)(T:aQ X Ex)(O:bW X.K C)(hg:Gl X x)(hm:X.mg x=some (.ref C))(ha:PA X (e::es) t)(Zf:(x==("__debug__":Str))=false:=by decide)(hst:Om (e::es) X.env=(false,Pa e X.env)::Om es X.env:=by rfl)(Yu:(P0 cpos (Om es X.env)).any (·.1)=false:=by rfl):
  PS X (.Raise (some (.Call (.Name x np) (e::es) [] cpos)) none pos) (jX C Ex t):=by
 intro Go s σ H D I h;obtain ⟨cd,_,⟨bm,N,nm,q,bs,hdct,sn,sub,ab,col,dd,k0,k1,k2,k3,k5,mN,em,hC,hN,J,U⟩⟩:=O.obj I.ok.mod.bw;refine wpAny_Raise_call_subT (C:=C) (nm:=nm) (q:=q) (N:=N) (bs:=bs) (bm:=bm) (hdct:=hdct) (sn:=sn) (sub:=sub) (ab:=ab) (col:=col) (dd:=dd) (k0:=k0) (k1:=k1) (k2:=k2) (k3:=k3) (k5:=k5) (mN:=mN) Su (U.hasType 'd') (I.ok.hd hc)
  (by rw [hst];show (false||(P0 cpos (Om es X.env)).any (·.1))=false;rw [Yu];rfl) J (fu I hg hm {rfl,?_} Zf)
 have Z:=ha cpos Go s σ H _ I h;rw [hst] at Z ⊢;refine Calls.evalArgs_plain (thn Z λus s2=>x5e λvs H2 F r2=>x2e λhz q2=>{rfl,by rw [<- r2.length];exact hz,F.bk _ _ hC,hN.keeps F.bk,U.keeps F.bk,λh' ea G=>?_});obtain ⟨tt,he,ak,_⟩:=G.there;have S:∀env∈X.stack,∀a,env.frame=some a->a∈frs X.stack:=λenv hm a ha=>Ro.mpr ⟨env,hm,ha⟩;refine T Go σ H2 s2 ea C (Td s2.heap (frs X.stack)) .none { s2 with heap:=h' } F {λb o e=>G.keeps b o (RQ _ e),?_,?_,?_} rfl F.bare (λb o e hb=>hideAll_get _ e hb) (λb o e _=>{o.slots,G.keeps b o e}) q2
 .cases z:(Td s2.heap (frs X.stack)).get? ea with
  | none=>rfl
  | some o =>
   have:=RQ _ z;rw [G.new] at this;cases this
 .exact (PySem.W.funFrames_hide F.stack S).of_keeps λb o e _=>{o,G.keeps b o e,rfl}
 .exact {_,_,he,rfl,rfl,rfl,'z',{_,rfl,.inl rfl},.inl rfl}
section
variable {M:Model}{A:Of}{E:Value->KE->Prop}
theorem wC{d:Drawn}{t:Nat}{os:OsState}{O mD:List Value}(OC:nM h C O)(OD:nM h D mD)(he:h.get? e=some oe)(z:oe.cls = .ref C)(X2:O.contains (.ref D)=true)(hq:Q true ⟨h,g,d,t,os⟩):N2 M A (excMatches (.ref e) (.ref D)) Q E ⟨h,g,d,t,os⟩:=by
 obtain ⟨bm,N,nm,q,bs,hdct,sn,sub,ab,col,dd,k0,k1,k2,k3,k5,mN,rfl,hC,_,_,TC⟩:=OC;obtain ⟨G,N',av,q',Z,F,W,U,ak,J,X4,j0,j1,j2,j3,j5,ax,rfl,S,_,_,TD⟩:=OD;have b1:(N6 D::G).contains (.type "BaseException")=true:=by
  rw [List.contains_cons,TD.hasType (X:="BaseException") (b:=true) 'd',Bool.or_true]
 have b2:=tc_notTuple;unfold excMatches
 repeat (first|(with_reducible refine Ry he ?_;rw [z])|with_reducible refine Ry S ?_|(with_reducible refine Sk S ?_;rw [b1])|(with_reducible refine Sk hC ?_;rw [X2])|wp_step)
 exact hq
end
theorem z8.ex{a:Addr}{o:HO}(x:z8 P w H h a o):∃ob,h.get? a=some ob:=by
 cases o with
 | lst xs=>obtain ⟨_,_,_,_,e⟩:=x;exact {_,e}
 | tup xs=>obtain ⟨_,_,_,o,e,_⟩:=x;exact {_,e}
 | dK kvs=>obtain ⟨_,_,_,_,o,_,_,e,_⟩:=x;exact {_,e}
 | dT kvs=>obtain ⟨_,_,_,_,o,_,_,e,_⟩:=x;exact {_,e}
 | set S n=>obtain ⟨o,_,_,_,e,_⟩:=x;exact {_,e}
 | ins C dx fs=>obtain ⟨_,_,_,e,_⟩:=x;exact {_,e}
 | own y=>exact x
 | xd fs=>obtain ⟨_,⟨_,_,_,e,_⟩,_⟩:=x;exact {_,e}
 | rng lo hi=>obtain ⟨_,_,_,e⟩:=x;exact {_,e}
 | frz ob u=>exact {_,x.1}
 | tbl ps=>exact {_,x}
 | met f y=>exact {_,x}
 | ext z=>exact x.2.1
abbrev cxP(X:Cx)(Go:List (Addr×Obj)):Cx:={ X with pn:=X.pn++Go }
theorem Cx.Ok.p(ok:X.Ok)(Go:List (Addr×Obj)):(cxP X Go).Ok :=
 ⟨ok.mod,ok.kind,ok.glob,ok.blt,ok.above,ok.inj,ok.has,ok.bI,ok.hd,ok.frames,ok.bL,ok.b8,ok.bs,ok.a0,ok.VB,ok.au,ok.Tz,ok.a9⟩
theorem Inv.p(I:Inv X Go σ H s):Inv (cxP X Go) [] σ H s :=
 {I.ok.p Go,I.os,I.bare,I.base,I.loc,I.cell,I.free,I.vl,λp hp=>I.pin p (by have h:p∈(X.pn++Go)++[]:=hp;simpa using h),I.hok,I.len,I.hdk}
theorem Inv.bh(ok:X.Ok)(I:Inv (cxP X Go) [] σ H s):Inv X Go σ H s :=
 {ok,I.os,I.bare,I.base,I.loc,I.cell,I.free,I.vl,λp hp=>I.pin p (by show p∈(X.pn++Go)++[];simpa using hp),I.hok,I.len,I.hdk}
abbrev lA(X:Cx)(Go:List (Addr×Obj))(Ex:Addr->St->Hp->Prop):Cx:=(cxP X Go).Pv λe s'=>∃(ea C:Addr)(B:Heap)(H':Hp)(fl:Value)(σ:St)(z:KE),e = .ref ea/\Inv (cxP X Go) [] σ H' z/\br H' B X.stack ea (.ref C) fl s'.heap /\
 s'.os=z.os/\QZ s'.gens/\(∀b o,z.heap.get? b=some o->b∉frs X.stack->B.get? b=some o)/\z.heap.UpToSlots s'.heap/\Ex C σ H'
theorem wW:aQ (lA X Go Ex) Ex:=λps σ H F ea C B fl s' I y os bare z up q =>
 {ea,C,B,H,fl,σ,F,rfl,(I.qf.ti λp hp=>(nomatch hp)),y,os,bare,z,up,q}
abbrev fP(X:Cx)(Go:List (Addr×Obj))(ea:Addr):Cx:={ X with pn:=X.pn++Go,A:=X.A.mark (some (.ref ea)),calm:=false,xe:=λ_ _=>False }
def ji(C:Addr)(o:Obj):Prop:=o.cls = .ref C/\o.dict=none/\∃vs,o.data = .fields vs
theorem lg(Yh:X.ex=[])(I:Inv (cxP X Go) [] σ H J)(y:br H B X.stack ea (.ref C) fl s'.heap)(os:s'.os=J.os)(bare:QZ s'.gens)(hB:∀b o,J.heap.get? b=some o->b∉frs X.stack->B.get? b=some o)(up:J.heap.UpToSlots s'.heap):
  H ea=none/\∃oe,ji C oe/\s'.heap.get? ea=some oe/\Inv (fP X Go ea) [] σ (upd H ea (.frz oe (.own 0))) s':=by
 obtain ⟨st,hn,hl,oe,vs,he,hc,YC,hd,hz,h2,h1⟩:=y;have Z:ea∉frs X.stack:=λz=>by
  obtain ⟨_,o,ho,nf⟩:=hl.mem z;rw [he] at ho;cases ho;exact nf vs hd
 have new:J.heap.get? ea=none:=by
  cases q:J.heap.get? ea with
  | none=>rfl
  | some o =>
   have:=hB _ o q Z;rw [hn] at this;cases this
 have O:H ea=none:=by
  cases q:H ea with
  | none=>rfl
  | some u =>
   obtain ⟨ob,z⟩:=(I.hok ea u q).ex;rw [new] at z;cases z
 have keep:∀b o,J.heap.get? b=some o->b∉frs X.stack->s'.heap.get? b=some o:=λb o e hb=>st b o (hB b o e hb);have slot:∀b o,J.heap.get? b=some o->b∈frs X.stack->∃sl,s'.heap.get? b=some { o with slots:=sl }:=λb o e hb=>by
  obtain ⟨_,o',S,nf⟩:=I.stack.mem (show b∈(cxP X Go).stack.filterMap (·.frame) from hb);rw [e] at S;cases S;exact up b o e nf
 have F:Inv (cxP X Go) [] σ H s':=I.VM (ch:=[]) os {λb o e _ hb _=>keep b o e hb,λb o e _ hb _=>slot b o e hb,λ_ _ _ n _=>n,λb o e _=>?_,λ_ _ e=>e,λ_ _ _ e=>e,λb ps e=>{#[],by rw [e];simp}}
  (λb u e=>(I.hok b u e).Uc (λc v hc q=>keep c v q λz=>?_) (λ_ q=>q) λ_ _ q=>q) bare λb z=>absurd z 'z'
 .have W:ea≠X.env.locals:=λz=>by
   obtain ⟨m,⟨o,es,ep,ho,G,_⟩,_⟩:=F.loc;have S:s'.heap.get? ea=some o:=by rw [z];exact ho
   rw [he] at S;cases S;rw [hd] at G;cases G
  refine {O,oe,⟨hc,YC,vs,hd⟩,he,{{F.ok.mod,F.ok.kind,F.ok.glob,F.ok.blt,F.ok.above,F.ok.inj,F.ok.has,F.ok.bI,λz=>(nomatch z),F.ok.frames,F.ok.bL,F.ok.b8,F.ok.bs,F.ok.a0,F.ok.VB,F.ok.au,F.ok.Tz,F.ok.a9},F.os,F.bare,
   {F.base.keep,F.base.slot,λb o e n hx=>?_,F.base.there,λb xs e=>?_,λb o u e=>?_,λb ps e=>?_},F.loc,F.cell,?_,λx c e=>?_,λp hp=>?_,F.hok.add O ⟨he,oe,he⟩,F.len,.inr ?_}}
  .obtain ⟨o',z⟩:=I.base.there b o e hx;rw [zh (λw=>by rw [w,new] at z;cases z)];exact F.base.free b o e n hx
  .have z:=F.base.tups b xs e;rw [zh (zQ z O)];exact z
  .have z:=F.base.frzs b o u e;rw [zh (zQ z O)];exact z
  .obtain ⟨more,z⟩:=F.base.tbls b ps e;exact {more,by rw [zh (zQ z O)];exact z}
  .rw [zh (OY W)];exact F.free
  .have nc:c≠ea:=λw=>by
    obtain ⟨v,o,ho,G⟩:=F.cell x c e;rw [w,he] at ho;cases ho;rw [hd] at G;cases G
   rw [zh nc];exact F.vl x c e
  .obtain ⟨a,b,c,d,f⟩:=F.pin p hp;refine {a,?_,c,d,f};rw [zh λw=>?_]
   .exact b
   .have:=(I.pin p hp).1;rw [w,new] at this;cases this
  .obtain ⟨cv,q1,rfl|⟨b,k,rfl,ch⟩⟩:=h2
   .exact {ea,0,rfl,.one zt hd q1 hc}
   .exact {ea,k+1,rfl,.more zt hd q1 hc (ch.same λc o e=>by rw [zh (zQ e O)];exact e)}
 .by_cases hb:b∈frs X.stack
  .obtain ⟨sl,z⟩:=slot b o e hb;exact {_,z}
  .exact {o,keep b o e hb}
 .have U:H c=none:=I.UM c z;rcases hc with w|w
  .rw [w] at U;rw [U] at e;cases e
  .rw [U] at w;cases w
theorem Inv.a4(I:Inv X Go σ H s)(hN:X.N.Nodup)(hi:X.N[i]?=some n)(hm:s.heap.Ns X.env.locals m/\∀(i:Nat)(x:Str)(v:V),X.N[i]?=some x->σ[i]?=some (some v)->Vis X.env.scope x->∃u,zm v u/\w9 X.env s.heap m x u)(S:h'.Ns X.env.locals (λx=>if x=n then v else m x))(hs:PF X.env.locals s.heap h'):Inv X Go (σ.set i none) H { s with heap:=h',toks:=tk }:=by
 obtain ⟨oL,_,_,XT,_⟩:=id hm.1;have G:i<σ.length:=by rw [I.len];exact (NU.mp hi).1
 have F:∀b o,X.s₀.heap.get? b=some o->b≠X.env.locals:=λb o e=>OM (Oi (Os e) I.ok.above);refine {I.ok,I.os,I.bare,{λb o e n hb hx=>(hs.2 b (F b o e)).trans (I.base.keep b o e n hb hx),λb o e n hb hx=>?_,I.base.free,λb o e hx=>?_,I.base.tups,I.base.frzs,I.base.tbls},{_,S,λj y w U J Z=>?_},λy c e=>?_,I.free,I.vl,λp hp=>?_,
  I.hok.but I.free λb u hb e=>(hs.2 b hb).trans e,by simpa using I.len,I.hdk}
 .obtain ⟨sl,z⟩:=I.base.slot b o e n hb hx;exact {sl,(hs.2 b (F b o e)).trans z}
 .obtain ⟨o',z⟩:=I.base.there b o e hx;exact {o',(hs.2 b (F b o e)).trans z}
 .by_cases O:j=i
  .subst O;rw [RJ G] at J;cases J
  .rw [Se (OY O)] at J;obtain ⟨u,r,l⟩:=hm.2 j y w U J Z;refine {u,r,?_};have W:y≠n:=λq=>O (pf hN U (q ▸ hi));rcases l with ⟨k1,k2⟩|⟨k1,c,e,z⟩
   .exact .inl {k1,by simp [W,k2]}
   .exact .inr {k1,c,e,z.sameBut hs (I.cne y c e)}
 .obtain ⟨w,z⟩:=I.cell y c e;exact {w,z.sameBut hs (I.cne y c e)}
 .obtain ⟨a,b,c,d,f⟩:=I.pin p hp;exact {(hs.2 p.1 c).trans a,b,c,d,f}
theorem Inv.a3(ok:X.Ok)(z:X.A.handled=none)(I:Inv (fP X Go ea) [] σ H s):Inv X Go σ H s :=
 {ok,I.os,I.bare,I.base,I.loc,I.cell,I.free,I.vl,λp hp=>I.pin p (by show p∈(X.pn++Go)++[];simpa using hp),I.hok,I.len,.inl z}
def Bf(K:NQ)(i:Nat)(D:Addr)(tb:(Addr->St->Hp->Prop)->TS)(ts:TS):TS:=λZ σ H =>
 tb (λC F H'=>bW K C/\Rg K C (.ref D)=some true/\∀ea oe,H' ea=none->ji C oe ->
  ts { nx:=λz H2=>Z.nx (z.set i none) H2,rt:=Z.rt,bk:=λz H2=>Z.bk (z.set i none) H2,ct:=λz H2=>Z.ct (z.set i none) H2 } (F.set i (some (.ref ea))) (upd H' ea (.frz oe (.own 0)))) Z σ H
theorem GB(hc:X.calm=true)(Yh:X.ex=[])(YE:X.stack=X.env::X.outer/\X.env.frame=some X.env.locals)(hN:X.N.Nodup)(hi:X.N[i]?=some n)(U:X.env.scope.names.lookup n=some .local)(OD:bW X.K D)(hg:Gl X x)(hm:X.mg x=some (.ref D))(hb:∀Go Ex,W (PSs (lA X Go Ex) Zu (tb Ex)))(hs:∀Go ea,W (PSs (fP X Go ea) (S::Yz) ts))(Zf:(x==("__debug__":Str))=false:=by decide):W (PS X (.Try Zu [.ExceptHandler (some (.Name x np)) (some n) (S::Yz) Xz] [] [] pos) (Bf X.K i D tb ts)):=by
 refine {?_};have hb:=λz0 z1=>(hb z0 z1).h;have hs:=λz0 z1=>(hs z0 z1).h;intro Go s σ H Z I h;have hh:X.A.handled=none:=I.ok.hd hc;have hp:(X.env.scope.kind == .class||(X.env.scope.kind == .module&&X.env.locals != X.env.globals))=false:=by rw [I.ok.kind];rfl
 refine wpAny_Try_except (Ow (hb Go _ [] s σ H Z (I.p.Pv _) h) (λf s1 q=>?_) λe s1 q=>?_)
 .cases f with
  | next =>
   obtain ⟨F,H',J,q⟩:=q;exact Rj {F,H',Inv.bh I.ok J.qf,q}
  | brk=>obtain ⟨F,H',J,q⟩:=q;exact {F,H',Inv.bh I.ok J.qf,q}
  | cont=>obtain ⟨F,H',J,q⟩:=q;exact {F,H',Inv.bh I.ok J.qf,q}
  | ret u=>obtain ⟨v,F,H',J,r,q⟩:=q;exact {v,F,H',Inv.bh I.ok J.qf,r,q}
 .obtain ⟨ea,C,B,H',fl,F,sI,rfl,J,y,os,bare,hB,up,OC,sub,ax⟩:=q;have fr:X.A.frames=some (X.env::X.outer):=by rw [I.ok.frames,YE.1]
  rw [YE.1] at y;refine qO fr YE.2 y λh2 y2 u2=>jN (s:={ s1 with heap:=h2 }) y2 λh3 y3 u3=>?_;have a6:br H' B X.stack ea (.ref C) .none h3:=by rw [YE.1];exact y3
  have av:=(up.trans u2).trans u3;obtain ⟨_,a8,c3,g3,J3⟩:=lg (s':={ s1 with heap:=h3 }) Yh J a6 os bare hB av;obtain ⟨a4,cC,eC⟩:=OC.obj J3.z9;obtain ⟨a7,cD,eD⟩:=OD.obj J3.z9;have X2:a4.mro.contains (.ref D)=true:=by
   unfold Rg at sub;rw [cC] at sub;simp only [S9] at sub;split at sub
   .cases sub
   .exact OG.inj sub
  refine wpAny_handleBy_cons (codeAny_handlers_test (fu (X:=fP X Go ea) J3 hg hm ?_ Zf)) (by intro q;cases q);refine wC (h:=h3) (g:=s1.gens) (d:=s1.drawn) (t:=s1.toks) (os:=s1.os) eC eD g3 c3.1 X2 ?_;refine codeAny_handlers_suite_as ?_;refine jN (s:={ s1 with heap:=h3 }) y3 λh4 y4 u4=>?_;have a3:br H' B X.stack ea (.ref C) .none h4:=by rw [YE.1];exact y4
  obtain ⟨a0,aI,c4,g4,J4⟩:=lg (s':={ s1 with heap:=h4 }) Yh J a3 os bare hB (av.trans u4);refine kh (X:=fP X Go ea) (i:=i) (v:=.ref ea) J4 hN hi (.inl U) rfl (λs5 J5=>?_) (.inr U);refine Ow (hs Go ea [] s5 _ _ _ J5 (ax ea aI a0 c4)) (λf s6 q6=>?_) λ_ _ z=>z.elim;have go:∀{G:St}{H7:Hp},Inv (fP X Go ea) [] G H7 s6->(∀s7,Inv X Go (G.set i none) H7 s7->SP X Go Z f s7) ->
    N2 (N5 X.prog X.w) X.A (do bindName X.env n .none;unbindBehindTheSuite X.env n Xz) (λ_ s7=>SP X Go Z f s7) X.xe s6:=λ{G H7} O k=>by
   have J8:=Inv.a3 I.ok hh O;obtain ⟨m,ak,hl⟩:=id J8.loc;exact wpAny_nameGoes_keeps U ak hp λh' v a5 Xd=>k _ (J8.a4 hN hi ⟨ak,hl⟩ a5 Xd)
  cases f with
  | next=>obtain ⟨G,H7,O,q7⟩:=q6;exact go O λs7 I7=>{_,_,I7,q7}
  | brk=>obtain ⟨G,H7,O,q7⟩:=q6;exact go O λs7 I7=>{_,_,I7,q7}
  | cont=>obtain ⟨G,H7,O,q7⟩:=q6;exact go O λs7 I7=>{_,_,I7,q7}
  | ret u=>obtain ⟨v,G,H7,O,r7,q7⟩:=q6;exact go O λs7 I7=>{v,_,_,I7,r7,q7}
end L2
namespace L2
open PySem PySem.Spec PyProof.Rows PySem.W
section
variable {prog:NW}{w:Oc}{A:Of}{E:Value->KE->Prop}{K:Frag}{h:Heap}{g:Array GenState}{d:Drawn}{t:Nat}{os:OsState}{e C:Addr}{oe:Obj}
theorem Mv(X:K.In h)(I:InstAt h e oe C none)(G:findIn K (.ref C) "__class__"=some (some (.builtin "object.__class__")))(hm:mroIn K C (.type "object")=some true)(J:Q (.done (.ret (.ref C))) ⟨h,g,d,t,os⟩):N2 (N5 prog w) A (N9.«object.__getattribute__» {[.ref e,.str "__class__" tk],[]}) Q E ⟨h,g,d,t,os⟩:=by
 have O:=I.type (M:=N5 prog w);have z:=looks_findIn (M:=N5 prog w) X G;have W:=F.typeOf_object_class;have S:=F.slot_gs_get.lookup;have U:=F.slot_gs_set.lookup
 repeat (any_goals (first|assumption|with_reducible refine O.at ?_|with_reducible refine z.at ?_|wp_step))
 exact class_get (s:=⟨h,g,d,t,os⟩) X I hm (NN J)
theorem Jx(X:K.In h)(I:InstAt h e oe C none)(hb:mroIn K C (.type "BaseException")=some true)(J:Q () ⟨h,g,d,t,os⟩):
  N2 (N5 prog w) A (RV "BaseException.__getattribute__" {[.ref e,z],[]}) Q E ⟨h,g,d,t,os⟩:=by
 have O:=I.type (M:=N5 prog w);have S:=looks_mroIn (M:=N5 prog w) X hb;have c1:builtinKind "BaseException.__getattribute__"=some .slot:=by decide +kernel
 have G:splitId "BaseException.__getattribute__"=some ("BaseException","__getattribute__"):=by decide +kernel
 have U:=F.args_bexc_ga (.ref e) z;simp only [RV,c1,G];refine we ?_;unfold isInstance
 repeat (first|with_reducible refine O.at ?_|with_reducible refine S.at ?_|wp_step)
 exact J
theorem GV(X:K.In h)(I:InstAt h e oe C none)(J:findIn K (.ref C) "__getattribute__"=some (some (.builtin "BaseException.__getattribute__")))(G:findIn K (.ref C) "__getattr__"=some none)(O:findIn K (.ref C) "__class__"=some (some (.builtin "object.__class__")))(hm:mroIn K C (.type "object")=some true)(hb:mroIn K C (.type "BaseException")=some true)(hq:Q (some (.ref C)) {h,g,d,t+1,os}):
  N2 (N5 prog w) A (getAttr? (.ref e) "__class__") Q E ⟨h,g,d,t,os⟩:=by
 have U:=I.type (M:=N5 prog w);have z:=looks_findIn (M:=N5 prog w) X J;have L2:=looks_findIn (M:=N5 prog w) X G;have f4:=S7.ga.bind (.ref e);have S:(builtin "BaseException.__getattribute__" == builtin "object.__getattribute__")=false:=by decide +kernel
 have Z:(onTheHeap (N6 C)&&builtin "BaseException.__getattribute__" == builtin "object.__getattribute__")=false:=by rw [S];rfl
 have W:(false&&onTheHeap (builtin "BaseException.__getattribute__"))=false:=rfl;unfold getAttr? getAttrBy?;refine we (wpAny_mkText (we (wpAny_attempt ?_)))
 repeat (any_goals (first|assumption|with_reducible refine U.at ?_|with_reducible refine z.at ?_|with_reducible refine L2.at ?_|wp_step))
 refine Sb S7.ga.plain F.entry_bexc_ga (Jx X I hb (Mv X I O hm ?_))
 repeat (any_goals (first|assumption|wp_step))
structure qB(K:Frag)(C:Addr):Prop where
 err:bW K C
 ga:findIn K (.ref C) "__getattribute__"=some (some (.builtin "BaseException.__getattribute__"))
 gr:findIn K (.ref C) "__getattr__"=some none
 cl:findIn K (.ref C) "__class__"=some (some (.builtin "object.__class__"))
 ob:mroIn K C (.type "object")=some true
 ba:mroIn K C (.type "BaseException")=some true
theorem yp(O:qB K C):KitX K (.ref e) (.ref C) (λh=>InstAt h e oe C none) where
 ty:=λ_ _ _ I=>I.type
 it:=λM h X I=>by
  obtain ⟨cd,_,⟨bm,N,nm,q,bs,hdct,sn,sub,ab,col,dd,k0,k1,k2,k3,k5,mN,_,F,_⟩⟩:=O.err.obj X;intro U W E' s' k J;unfold isType loadHead;exact we (wpAny_loadPart (k _ _ F) (NN J))
 ne:=λh tp dd Z7 n sl X G=>by
  obtain ⟨cd,_,⟨bm,N,nm,q,bs,hdct,sn,sub,ab,col,Z,k0,k1,k2,k3,k5,mN,_,F,_⟩⟩:=O.err.obj X;refine Pu.mpr λz=>?_;have S:C=tp:=N6.inj (beq_iff_eq.mp z);subst S;have wd:=congrArg Obj.data (OG.inj (F.symm.trans G));cases wd
 ca:=λ{prog w A E Q s} X I k=>by
  obtain ⟨h,g,d,t,os⟩:=s;exact GV X I O.ga O.gr O.cl O.ob O.ba k
end
def o6:V->Option Value
 | .ref a=>some (.ref a)
 | .ty n=>some (.type n)
 | _=>none
inductive TyX(K:Frag)(H:Hp):V->Value->Prop where
 | of {x:V}{t:Value} (h:c9 K H x t):TyX K H x t
 | exc {a C:Addr}{o:Obj} (e:H a=some (.frz o (.own 0))) (ho:ji C o) (O:qB K C):TyX K H (.ref a) (.ref C)
def jI(K:Frag):List V->Hp->VK->Prop:=λxs H Q=>∃x c t u b,xs=[x,c]/\o6 c=some u/\TyX K H x t/\kitOne K t u=some b/\Q (.bl b) H
theorem jR:zU X (.builtin "isinstance") (jI X.K):=by
 intro Go s σ H xs us Q I r h;obtain ⟨x,c,t,u,b,rfl,hc,ty,G,q⟩:=h;cases r with
 | cons r1 F =>
  cases F with
  | cons r2 F =>
   cases F;rename_i W v2;have Z:v2=u:=by
    cases c with
    | ref a=>cases hc;exact r2
    | ty n=>cases hc;exact r2
    | _=>cases hc
   subst Z;cases ty with
   | of ty=>exact CU I r1 ty G λtk=>{.bl b,H,I.tok tk,rfl,q}
   | exc e ho O =>
    rename_i a C o;obtain rfl:W=N6 a:=r1;obtain ⟨z,_⟩:=I.hok a _ e;obtain ⟨c1,S,vs,U⟩:=ho;have J:InstAt s.heap a o C none:={z,c1,by unfold notCls;rw [U],by rw [S];trivial};exact kia_one (yp O) I.z9 J G (λw=>nomatch w) λtk=>{.bl b,H,I.tok tk,rfl,q}
end L2
namespace L2
open PySem PySem.Spec PyProof.Rows
inductive bE(h:Heap):Nat->Addr->Prop
 | one {a:Addr}{o:Obj}{vs:Array Value}{C:Addr} (g:h.get? a=some o) (d:o.data = .fields vs) (n:vs[2]?=some .none) (c:o.cls = .ref C):bE h 0 a
 | more {k:Nat}{a b:Addr}{o:Obj}{vs:Array Value}{C:Addr} (g:h.get? a=some o) (d:o.data = .fields vs) (n:vs[2]?=some (.ref b)) (c:o.cls = .ref C) (t:bE h k b):bE h (k+1) a
theorem bE.keeps{k:Nat}{a:Addr}(x:bE h k a)(f:∀b o,(∃C,o.cls = .ref C)->h.get? b=some o->h'.get? b=some o):bE h' k a:=by
 induction x with
 | one g d n c=>exact .one (f _ _ {_,c} g) d n c
 | more g d n c _ z=>exact .more (f _ _ {_,c} g) d n c z
theorem bE.uniq{k:Nat}{a:Addr}(x:bE h k a):∀{m:Nat},bE h m a->k=m:=by
 induction x with
 | one g d n c =>
  intro m y;cases y with
  | one=>rfl
  | more g' d' z _ _ =>
   rw [g] at g';cases g';rw [d] at d';cases d';rw [n] at z;cases z
 | more g d n c t F =>
  intro m y;cases y with
  | one g' d' z _ =>
   rw [g] at g';cases g';rw [d] at d';cases d';rw [n] at z;cases z
  | more g' d' z _ t' =>
   rw [g] at g';cases g';rw [d] at d';cases d';rw [n] at z;cases z;rw [F t']
theorem bE.cls{k:Nat}{a:Addr}(x:bE h k a):∃o C,h.get? a=some o/\o.cls = .ref C:=by
 cases x with
 | one g d n c=>exact {_,_,g,c}
 | more g d n c _=>exact {_,_,g,c}
def Hnd(A:Of)(h:Heap):Prop:=A.handled=none\/∃(a:Addr)(k:Nat),A.handled=some (.ref a)/\bE h k a
theorem Chn.heap{k:Nat}{a:Addr}(x:Chn H k a)(ok:HOk P w H h):bE h k a:=by
 induction x with
 | one g d n c=>exact .one (ok _ _ g).1 d n c
 | more g d n c _ z=>exact .more (ok _ _ g).1 d n c z
theorem Inv.ck(I:Inv X Go σ H s):Hnd X.A s.heap:=by
 rcases I.hdk with h|⟨a,k,h1,h2⟩
 .exact .inl h
 .exact .inr {a,k,h1,h2.heap I.hok}
theorem Hnd.keeps(x:Hnd A h)(k:∀b o,(∃C,o.cls = .ref C)->h.get? b=some o->h'.get? b=some o):Hnd A h':=by
 rcases x with x|⟨a,n,h1,h2⟩
 .exact .inl x
 .exact .inr {a,n,h1,h2.keeps k}
theorem uC:entryFor table "proto.unchain"=some N9.«proto.unchain»:=entryFor_of_tree (by kernel_rfl)
section
variable {prog:NW}{w:Oc}{A:Of}{E:Value->KE->Prop}{s:KE}
theorem wK(kp:∀b o,(∃C,o.cls = .ref C)->G.get? b=some o->s.heap.get? b=some o)(ne:∀n b,bE G n b->b≠e){k:Nat}:∀{o slow:Addr}{m:Nat}{F:Bool}{R:Tn->KE->Prop},bE G k o->bE G m slow->k<=m->R (.ok (.ret .none)) s ->
  Qb (N5 prog w) A (.builtin "proto.unchain" {[.ref e,.ref o,.ref slow,.bool F],[]}) R s:=by
 induction k with
 | zero =>
  intro o slow m F R x y _ q;cases x with
  | one g d n c =>
   refine Qs uC ?_;refine we (m:=field (.ref o) 2) (O6 (kp _ _ {_,c} g) d n ?_);rw [if_pos (show (OL==OL)=true by rfl)];exact NN q
 | succ k J =>
  intro o slow m F R x y le q;cases x with
  | more g d n c t =>
   rename_i b _ _ _;have O:b≠e:=ne _ _ t;have bs:b≠slow:=λz=>by subst z;have:=t.uniq y;lia
   refine Qs uC ?_;refine we (m:=field (.ref o) 2) (O6 (kp _ _ {_,c} g) d n ?_);rw [if_neg (show ¬ ((N6 b==OL)=true) by simp)];rw [if_neg (show ¬ ((N6 b==N6 e)=true) by simpa using O),if_neg (show ¬ ((N6 b==N6 slow)=true) by simpa using bs)];cases F with
   | false=>exact we (NN (NN {Qh (f!"") _,J t y 'l' q}))
   | true =>
    cases y with
    | one=>lia
    | more g' d' S U t'=>exact we (m:=field (.ref slow) 2) (O6 (kp _ _ {_,U} g') d' S (NN {Qh (f!"") _,J t t' 'l' q}))
theorem Gy{α:Type}{Q:α->KE->Prop}(F:Hnd A s.heap)(he:s.heap.get? e=some oe)(hd:oe.data = .fields ws)(hz:2<ws.size)(hc:∀C,oe.cls≠.ref C)(k:∀h',PF e s.heap h'->(∃o,h'.get? e=some o/\o.cls=oe.cls)->E (.ref e) { s with heap:=h' }):N2 (N5 prog w) A (R0 (.ref e):Sem α) Q E s:=by
 unfold R0;refine we (wpAny_handled ?_);rcases F with F|⟨a,n,h1,h2⟩
 .rw [F];exact we (NN (SD (k s.heap (PF.refl _ _) {oe,he,rfl})))
 .rw [h1];have ne:∀n b,bE s.heap n b->b≠e:=λn b x z=>by
   obtain ⟨o,C,g,c⟩:=x.cls;rw [z,he] at g;cases g;exact hc C c
  dsimp only;rw [if_pos (show (N6 a != N6 e)=true by simpa using ne _ _ h2)];refine we (On (wpAny_runValue (wK (λ_ _ _ q=>q) ne h2 h2 (NV _) ?_)));refine we ?_;show N2 _ _ (Q1 (.ref e) 2 (.ref a)) _ _ _;have dd:=PY hd (·.setIfInBounds 2 (N6 a));exact O5 he hd hz (SD (k _ (PF.update ..) {_,OW _ he (Pt dd),QY _ _}))
theorem El{α:Type}{Q:α->KE->Prop}(O:Hnd A s.heap)(k:∀h' e,(∀b o,s.heap.get? b=some o->h'.get? b=some o)->(∃o,h'.get? e=some o/\o.cls = .type "StopIteration")->E (.ref e) { s with heap:=h' }) :
  N2 (N5 prog w) A (newExc (.type "StopIteration") []>>=λe=>(R0 e:Sem α)) Q E s:=by
 refine we ?_;simp only [newExc,newTuple];refine we (OQ (we (m:=Sr _ _) (wpAny_of_eq (a:=OL) (by first|rfl|(simp only [Sr];rfl)) (OQ ?_ (by size_fits)))) (by size_fits));have old:∀(G F:Obj) b o,s.heap.get? b=some o->((s.heap.push G).push F).get? b=some o:=λG F b o q=>NP _ (NP _ q);refine Gy (O.keeps λb o _ q=>old _ _ b o q) (N7 _ rfl) rfl (by simp;lia) (λC z=>by cases z) λh' J=>x3e λo g c=>k h' _ (λb o q=>?_) ⟨o,g,c⟩;refine (J.2 b (λz=>?_)).trans (old _ _ b o q);have:=Os q;rw [z,QE] at this;exact absurd (Oy this) (OF _)
theorem BN{it t:Addr}(hh:Hnd A s.heap)(J:s.heap.IsTupleIter it t i)(U:s.heap.IsTuple t items)(hx:items[i]?=none)(k:∀h',ExtBut it s.heap h'->Q none { s with heap:=h' }):N2 (N5 prog w) A (RB (.ref it)) Q E s:=by
 obtain ⟨o,ho,hc,hd⟩:=id J;obtain ⟨ol,O,_,nl,G⟩:=U;unfold RB;refine we (wpAny_attempt (QA (name:=NS "__next__") J.typeIs F.slot_tuple_iterator_next (Pk F.slot_tuple_iterator_next J.typeIs F.entry_tuple_iterator_next ?_ (F.args_tuple_iterator_next_1 _))));refine we (m:=field (.ref it) 0) (O6 ho hd (x:=.ref t) rfl ?_);rw [if_neg (show ¬ ((N6 t==OL)=true) by simp)];refine we (m:=field (.ref it) 1) (O6 ho hd (x:=.int i 0) rfl (we (m:=seqItems? (.ref t)) (Sn O G ?_)));simp only [Qg,hx];refine we (QK (we (O5 ho hd 'z' ?_)));refine El (hh.keeps λb q W e=>(Oz _ _ λz=>?_).trans e) λh' e up=>x3e λo' g' Z =>
  we (RN (T:="StopIteration") (b:=true) ⟨o',g',Z⟩ isSubtype_stop (NN (k h' λb q hb z=>up b q ((Oz _ _ (OY hb)).trans z))))
 obtain ⟨C,S⟩:=W;rw [<- z,ho] at e;cases e;rw [hc] at S;cases S
theorem FI{x1}{t:Addr}(hh:Hnd A s.heap)(G:IsTup s.heap t items)(W:(Pq O env).length=items.size)(F:(Pq O env).findIdx? (·.1)=none)(h:∀h',ExtBut s.heap.objs.size s.heap h'->N2 (N5 prog w) A (assignInOrder ((Pq O env).map (·.2)) items.toList) Q E { s with heap:=h' }):N2 (N5 prog w) A (SQ (.Tuple O x1 pos) env (.ref t)) Q E s:=by
 have lt:t≠s.heap.objs.size:=by obtain ⟨o,ho,_⟩:=G;exact OM (Os ho)
 have all:take items.size (List.drop 0 items.toList)=items.toList:=by rw [drop_zero];exact Ob 'z'
 have J:N2 (N5 prog w) A (unpackItems (.ref t) items.size none) (λvs s'=>∃h',vs=items.toList/\s'={ s with heap:=h' }/\ExtBut s.heap.objs.size s.heap h') E s:=by
  unfold unpackItems;refine we ?_;unfold notIterableAtAll;refine we (wpAny_specialOf G.typeIs slot_tuple_iter.lookup (NN ?_));simp only [Qj,if_false];refine we (On (iter_tuple G (we (On (draw_tuple lt items.size 0 _ _ {_,N7 _ rfl,rfl,rfl} (G.push _) 'l' λh1 S s1=>?_)))));rw [all,if_neg 'z'];have t1:IsTup h1 t items:=(G.push _).extBut s1.extBut lt;have up1:∀b o,b≠s.heap.objs.size->s.heap.get? b=some o->h1.get? b=some o:=λb o hb e=>s1.extBut b o hb (NP _ e);refine we (On (BN (s:={ s with heap:=h1 }) (hh.keeps λb o _ e=>up1 b o (OM (Os e)) e) S t1 'z' λh2 U=>?_));simp only [Option.isSome_none,Qj,if_false];exact NN {h2,rfl,rfl,λb o hb e=>U b o hb (up1 b o hb e)}
 rw [assign_Tuple];refine we (OX ?_);unfold unpack;rw [F,W];refine we (On (Ow J (λvs s'=>x3e λh' Z=>x2e λU x=>?_) λ_ _ z=>z));subst Z U;exact h h' x
end
theorem wg{k:Nat}{t:TGs}(h:PGs X es t)(hl:(Pq es X.env).length=n:=by rfl)(hst:(Pq es X.env).findIdx? (·.1)=none:=by rfl):PG X (.Tuple es k pos) (mW X.K n t):=by
 intro Go s σ H v u Q I r q;obtain ⟨a,xs,rfl,hx,G,q⟩:=q;obtain rfl:u=N6 a:=r;obtain ⟨J,z,F,hz⟩:=I.tuple hx;refine FI I.ck F (by rw [hl,<- G,z.length];simp) hst λh' ex=>?_;have O:Inv X Go σ H { s with heap:=h' }:=I.kept (t':=s.toks) λb o e=>ex b o (OM (Os e)) e;have:=h Go { s with heap:=h' } σ H xs J Q O z q;simpa using this
def eqL(xs ys:List V):Bool:=xs.length==ys.length&&(O0 xs.length).all λi=>eqV (xs.getD i .non) (ys.getD i .non)
theorem qh:∀{xs:List V},xs.all ae=true->(∀x∈xs,∀b,x≠.byt b)->eqL xs xs=true:=by
 intro xs h _;unfold eqL;rw [beq_self_eq_true,SW,Ot];intro i hi;have z:=RS.mp hi;have hm:xs[i]∈xs:=O4 z;have:=Ot.mp h _ hm;rw [Oq,NL z,Option.getD_some];cases e:xs[i] with
 | non=>rfl
 | bl b=>simp [eqV]
 | int j=>simp [eqV]
 | str x=>simp [eqV]
 | _=>rw [e] at this;cases this
section
variable {X:Cx}
def uc(K:NQ)(neg:Bool):R2:=λx y H Q=>∃a b xs ys,x = .ref a/\y = .ref b/\SqL K H a xs/\SqL K H b ys/\xs.all ae=true/\ys.all ae=true/\Q (.bl (if neg then !eqL xs ys else eqL xs ys)) H
theorem vU{a b:Addr}(I:Inv X Go σ H s)(ha:SqL X.K H a xs)(hb:SqL X.K H b ys)(fx:xs.all ae=true)(fy:ys.all ae=true):
  ∃is F:List Value,s.heap.IsList a is.toArray/\s.heap.IsList b F.toArray/\xs.length=is.length/\ys.length=F.length/\∀(A:Of)(j:Nat)(h1:j<is.toArray.size)(h2:j<F.toArray.size),SeqAt.EqAt A s is.toArray[j] F.toArray[j] (eqV (xs.getD j .non) (ys.getD j .non)):=by
 obtain ⟨is,r1,Z,_⟩:=I.list ha;obtain ⟨F,r2,p2,_⟩:=I.list hb;refine {is,F,Z.isList,p2.isList,r1.length,r2.length,λA j h1 h2=>?_};have l1:=r1.length;have l2:=r2.length;simp only [Oa] at h1 h2;have J:xs[j]?=some (xs.getD j .non):=by rw [Oq,NL 'l'];rfl
 have O:ys[j]?=some (ys.getD j .non):=by rw [Oq,NL 'l'];rfl
 obtain ⟨u,S,q1⟩:=r1.get J;obtain ⟨v,G,q2⟩:=r2.get O;rw [NL h1] at S;rw [NL h2] at G;have W:=Ot.mp fx _ (OS J);have U:=Ot.mp fy _ (OS O);have z:=rp (A:=A) (s:=s) q1 q2 W U;have w1:is.toArray[j]=u:=by simpa using OG.inj S
 have w2:F.toArray[j]=v:=by simpa using OG.inj G
 rw [w1,w2];exact z
theorem xj(G:X.A.units<cLine):OpR X (OV .Eq) (uc X.K false):=by
 intro Go s σ H x y v u Q I S W h;obtain ⟨a,b,xs,ys,rfl,rfl,ha,hb,fx,Z,q⟩:=h;cases S;cases W;obtain ⟨is,U,F,p2,z,O,eq⟩:=vU I ha hb fx Z;by_cases hz:is.toArray.size=U.toArray.size
 .refine SeqAt.eq_listAt F p2 hz G (λj h1 h2=>eq _ j h1 h2) {.bl _,H,I,rfl,?_};have e:eqL xs ys=(O0 is.toArray.size).all λj=>eqV (xs.getD j .non) (ys.getD j .non):=by
   unfold eqL;simp only [Oa] at hz ⊢;rw [z,O,hz];simp
  rw [<- e];exact q
 .refine SeqAt.eq_list_lengthsAt F p2 (by simpa using hz) G {.bl false,H,I,rfl,?_};have e:eqL xs ys=false:=by
   unfold eqL;have:(xs.length==ys.length)=false:=by simp only [Oa] at hz;rw [z,O];simpa using hz
   rw [this,Sz]
  have J:Q (.bl (eqL xs ys)) H:=q;rw [e] at J;exact J
theorem yV(J:X.A.units<cLine):OpR X (OV .NotEq) (uc X.K true):=by
 intro Go s σ H x y v u Q I S W h;obtain ⟨a,b,xs,ys,rfl,rfl,ha,hb,fx,Z,q⟩:=h;cases S;cases W;obtain ⟨is,U,G,p2,F,O,eq⟩:=vU I ha hb fx Z;have z:Q (.bl (!eqL xs ys)) H:=q;by_cases hz:is.toArray.size=U.toArray.size
 .refine SeqAt.RcNeAt.lists G p2 hz J (λj h1 h2=>eq _ j h1 h2) _ _ _ _ {.bl _,H,I,rfl,?_};have e:eqL xs ys=(O0 is.toArray.size).all λj=>eqV (xs.getD j .non) (ys.getD j .non):=by
   unfold eqL;simp only [Oa] at hz ⊢;rw [F,O,hz];simp
  rw [<- e];exact z
 .refine SeqAt.RcNeAt.lists_lengths G p2 (by simpa using hz) J _ _ _ _ {.bl true,H,I,rfl,?_};have e:eqL xs ys=false:=by
   unfold eqL;have:(xs.length==ys.length)=false:=by simp only [Oa] at hz;rw [F,O];simpa using hz
   rw [this,Sz]
  rw [e] at z;exact z
theorem Inv.big(I:Inv X Go σ H s):sysModules<s.heap.objs.size:=by
 have h:N3<s.heap.objs.size:=(I.mod.glob.keeps I.bk).lt;exact Qy 'd' h
def MR:TE:=λ_ H Q=>∀p,H p=none->Q (.ref p) (upd H p (.dK []))
theorem D9:PE X (.Dict [] [] pos) MR:=λGo s σ H Q I h =>
 wpAny_Dict_empty {.ref s.heap.objs.size,_,I.laid (a:=s.heap.objs.size) (o:=.dK []) (t':=s.toks) (λ_ _ q=>NP _ q) (NV _) {O9 _,beq_eq_false_iff_ne.mpr (OY (OM I.big)),[],.nil,Heap.DictOf.new s.heap},rfl,h _ (I.hok.fresh (NV _))}
def Ff(K:NQ)(n:Nat)(t:TGs):TG:=λv σ H Q=>∃a xs,v = .ref a/\SqL K H a xs/\xs.length=n/\t xs σ H Q
theorem DS{k:Nat}{t:TGs}(hc:X.calm=true)(h:PGs X es t)(hl:(Pq es X.env).length=n:=by rfl)(hst:(Pq es X.env).findIdx? (·.1)=none:=by rfl):PG X (.Tuple es k pos) (Ff X.K n t):=by
 intro Go s σ H v u Q I r q;obtain ⟨a,xs,rfl,hx,G,q⟩:=q;obtain rfl:u=N6 a:=r;obtain ⟨F,z,hp,hz⟩:=I.list hx;rw [assign_Tuple];refine we (OX ?_);unfold unpack;have hs:n=F.toArray.size:=by rw [<- G,z.length];simp
 rw [hl,hst,hs];refine we (On (PySem.W.kun_itemsOf (I.ok.hd hc) hp.isList λh' ex=>?_));have J:Inv X Go σ H { s with heap:=h' }:=I.kept (t':=s.toks) λb o e=>ex b o (OM (Os e)) e;have:=h Go { s with heap:=h' } σ H xs F Q J z q;simpa using this
theorem zX.mark{k:Nat}(r:zX c k A):zX false k (A.mark v):={λh=>(nomatch h),r.dp,r.un,r.gd}
def aB:Og->Bool
 | .Starred _ _=>false
 | _=>true
theorem dM(h:aB e=true):Om (e::es) env=(false,Pa e env)::Om es env:=by
 cases e<;>first|rfl|(exact absurd (show false=true from h) N8)
def dP(es:List Og):Bool:=es.all aB
theorem xA:∀{es:List Og}(h:dP es=true),(Om es env).any (·.1)=false
 | [],_=>rfl
 | e::es,h=>by
  unfold dP at h;rw [Tv,Od] at h;rw [dM h.1,Tu,xA h.2];rfl
theorem fO(h:dP es=true):(P0 pos (Om es env)).any (·.1)=false:=by
 have q:=xA (env:=env) h;unfold P0;rw [any_map];exact q
theorem fM(h:aB e=true):Om [e] env=[(false,Pa e env)]:=(dM h).trans rfl
theorem jF{t:TA}(ha:PE X e te)(hr:PA X es t)(hp:aB e=true:=by rfl):PA X (e::es) (eJ te t):=fB ha hr (dM hp)
theorem zT{id:String}{r:List V->Hp->VK->Prop}{t:TA}{p pos:Pos}(hc:zU X (.builtin id) r)(F:Gl X x)(hm:X.mg x=none)(hv:Qw x=some (.builtin id))(ha:W (PA X (e::es) t))(hp:aB e=true:=by rfl)(G:dP es=true:=by rfl)(z:x≠"__name__":=by decide)(J:(x==("__debug__":Str))=false:=by decide):W (PE X (.Call (.Name x p) (e::es) [] pos) (tCB r t)):=by refine {?_};have ha:=ha.h;exact xO hc F hm hv ha z J (dM hp) (fO G)
theorem bc{r:List V->Hp->VK->Prop}{t:TA}{p pos:Pos}(hc:zU X (.type T) r)(F:Gl X x)(hm:X.mg x=none)(hv:Qw x=some (.type T))(ha:W (PA X (e::es) t))(hp:aB e=true:=by rfl)(G:dP es=true:=by rfl)(z:x≠"__name__":=by decide)(J:(x==("__debug__":Str))=false:=by decide):W (PE X (.Call (.Name x p) (e::es) [] pos) (tCB r t)):=by refine {?_};have ha:=ha.h;exact Mm hc F hm hv ha z J (dM hp) (fO G)
theorem dm{tg a:Og}{p pos:Pos}(z:Gl X "range")(hm:X.mg "range"=none)(ha:W (PA X [a] ta))(hp:aB a=true:=by rfl):W (PIc true X tg (.Call (.Name "range" p) [a] [] pos) (nO ta)):=by refine {?_};have ha:=ha.h;exact K9 z hm ha (fM hp)
theorem fb{t:TA}(hc:X.calm=true)(T:aQ X Ex)(O:bW X.K C)(F:Gl X x)(hm:X.mg x=some (.ref C))(ha:W (PA X (e::es) t))(hp:aB e=true:=by rfl)(G:dP es=true:=by rfl)(J:(x==("__debug__":Str))=false:=by decide):W (PS X (.Raise (some (.Call (.Name x z) (e::es) [] cpos)) none pos) (jX C Ex t)):=by refine {?_};have ha:=ha.h;exact LM hc T O F hm ha J (dM hp) (fO G)
structure New(H:Hp)(p:Addr)(o:HO)(H':Hp):Prop where
 no:H p=none
 at_:H' p=some o
 same:zj H H'
theorem New.mk'{p:Addr}{o:HO}(h:H p=none):New H p o (upd H p o):={h,zt,λb u e=>by rw [zh (zQ e h)];exact e}
def Bo(t:TA):TE:=λσ H Q=>t σ H λxs H1=>xs.length<=sizeLine/\∀p H2,New H1 p (.lst xs) H2->p≠sysModules->Q (.ref p) H2
theorem ar{t:TA}(h:W (PA X es t)):W (PE X (.List es pos) (Bo t)):=by
 refine {?_};have h:=h.h;intro Go s σ H Q I G;refine wpAny_List_spliced (thn (h pos Go s σ H _ I G) λus s1=>x5e λxs H1 F r=>x2e λz q=>{by rw [<- r.length];exact z,?_});have hf:H1 s1.heap.objs.size=none:=F.hok.fresh (NV _);refine {.ref s1.heap.objs.size,upd H1 s1.heap.objs.size (.lst xs),F.laid (t':=s1.toks) (λb u e=>NP _ e) (NV _) ?_,rfl,q _ _ (.mk' hf) (R8 F.big)};exact {z,us,0,r,N7 _ rfl}
def ql(t:TA):TE:=λσ H Q=>t σ H λxs H1=>xs.length<=sizeLine/\∀p H2,New H1 p (.tup xs) H2->Q (.ref p) H2
theorem sY{t:TA}(hw:∀xs H,R xs H->R' xs H)(h:PA X es t)(pos:Pos)(Go:List (Addr×Obj))(s:KE)(σ:St)(H:Hp)(I:Inv X Go σ H s)(q:t σ H R):
  N2 (N5 X.prog X.w) X.A (spliced (P0 pos (Om es X.env))) (AP X Go σ R') X.xe s :=
 thn (h pos Go s σ H R I q) λ_ _=>x5e λvs H' a b c=>{vs,H',a,b,hw _ _ c}
theorem dv{t:TA}{x1}(h:W (PA X es t)):W (PE X (.Tuple es x1 pos) (ql t)):=by
 refine {?_};have h:=h.h;have h':PA X es (λσ H Q=>∃R:List V->Hp->Prop,t σ H R/\∀xs H,R xs H->Q xs H):=λpos Go s σ H Q I=>x3e λR q hw=>sY hw h pos Go s σ H I q;intro Go s σ H Q I F;exact Li h' Go s σ H Q I {_,F,λxs H1=>x2e λz q=>{z,λp hp=>q p _ (.mk' hp)}}
def vR:TE:=λ_ H Q=>∀p H2,New H p (.dK []) H2->Q (.ref p) H2
theorem eG:W (PE X (.Dict [] [] pos) vR):={λGo s σ H Q I h=>D9 Go s σ H Q I λp hp=>h p _ (.mk' hp)}
end
def uR(v:V)(q:Addr->Prop):Prop:=∃a,v = .ref a/\q a
def u9(to te:TE):TE:=λσ H Q=>to σ H λx H1=>uR x λl=>(∃xs,H1 l=some (.lst xs))/\te σ H1 λy H2=>∃xs,H2 l=some (.lst xs)/\xs.length<sizeLine/\Q .non (upd H2 l (.lst (xs++[y])))
section
variable {X:Cx}
theorem OpR.weak{r r':R2}(h:OpR X f r)(hw:∀x y H Q,r' x y H Q->r x y H Q):OpR X f r' :=
 λGo s σ H x y v u Q I z F q=>h Go s σ H x y v u Q I z F (hw x y H Q q)
theorem zU.weak{r r':List V->Hp->VK->Prop}(h:zU X f r)(hw:∀xs H Q,r' xs H Q->r xs H Q):zU X f r' :=
 λGo s σ H xs us Q I z q=>h Go s σ H xs us Q I z (hw xs H Q q)
theorem IxR.weak{r r':R2}(h:IxR X r)(hw:∀x y H Q,r' x y H Q->r x y H Q):IxR X r' :=
 λZA F Go s σ H x y v u Q I z G q hs=>h ZA F Go s σ H x y v u Q I z G (hw x y H Q q) hs
def dX:R2:=λx y H Q=>(∃i j,x = .int i/\y = .int j/\Q (.int (i+j)) H)\/(∃i j,x = .str i/\y = .str j/\i.length+j.length<=sizeLine/\Q (.str (i++j)) H) \/
 (∃l b xs zs,x = .ref l/\y = .ref b/\H l=some (.lst xs)/\H b=some (.lst zs)/\xs.length+zs.length<=sizeLine/\∀p H2,New H p (.lst (xs++zs)) H2->Q (.ref p) H2)
theorem cx:OpR X (PQ .Add) dX:=Je.or (K5.or (JK.weak λx y H Q h=>by
 obtain ⟨l,b,xs,zs,F,z,h1,h2,h3,h4⟩:=h;exact {l,b,xs,zs,F,z,h1,h2,h3,λp hp=>h4 p _ (.mk' hp)}))
def gh:R2:=λx y H Q=>(∃i j,x = .int i/\y = .int j/\ie i j/\Q (.int (i*j)) H) \/
 (∃l k xs,x = .ref l/\y = .int k/\H l=some (.lst xs)/\-(2 ^ 63)<=k/\k<2 ^ 63/\xs.length*k.toNat<=sizeLine/\∀p H2,New H p (.lst (Pc k.toNat xs).flatten) H2->Q (.ref p) H2)
theorem LJ:OpR X (PQ .Mult) gh:=FA.or (Ke.weak λx y H Q h=>by
 obtain ⟨l,k,xs,F,z,h1,h2,h3,G,h4⟩:=h;exact {l,k,xs,F,z,h1,h2,h3,G,λp hp=>h4 p _ (.mk' hp)})
def uIx:R2:=λx y H Q=>(∃p xs i v,x = .ref p/\y = .int i/\H p=some (.lst xs)/\atI xs i=some v/\Q v H) \/
 (∃p xs i v,x = .ref p/\y = .int i/\H p=some (.tup xs)/\atI xs i=some v/\Q v H)\/(∃z i c,x = .str z/\y = .int i/\z.length<=sizeLine/\atI z.cps.toList i=some c/\Q (.str {#[c]}) H)
theorem dz:IxR X uIx:=GQ.weak λx y H Q h=>by
 rcases h with ⟨p,xs,i,v,F,z,h,r⟩|⟨p,xs,i,v,F,z,h,r⟩|h
 .exact .inl {p,xs,i,v,F,z,SqL.of h,r}
 .exact .inr (.inl {p,xs,i,v,F,z,SqT.of h,r})
 .exact .inr (.inr h)
def m7:List V->Hp->VK->Prop:=λxs H Q=>(∃p ys,xs=[.ref p]/\H p=some (.lst ys)/\Q (.int ys.length) H)\/(∃p ys,xs=[.ref p]/\H p=some (.tup ys)/\Q (.int ys.length) H) \/
 (∃z,xs=[.str z]/\z.length<=sizeLine/\Q (.int z.length) H)
theorem fh:zU X (.builtin "len") m7:=(nR.or G9).weak λxs H Q h=>by
 rcases h with ⟨p,ys,e,h,q⟩|⟨p,ys,e,h,q⟩|h
 .exact .inl {p,ys,e,.inl (SqL.of h),q}
 .exact .inl {p,ys,e,.inr (SqT.of h),q}
 .exact .inr h
def uEq(neg:Bool):R2:=λx y H Q=>(gQ x y=true/\Q (.bl (if neg then !decide (x=y) else decide (x=y))) H) \/
 (∃a b xs ys,x = .ref a/\y = .ref b/\H a=some (.lst xs)/\H b=some (.lst ys)/\xs.all ae=true/\ys.all ae=true/\Q (.bl (if neg then !eqL xs ys else eqL xs ys)) H)
theorem bS(z:X.A.units<cLine):OpR X (OV .Eq) (uEq false):=(Fl.or (xj z)).weak λx y H Q h=>by
 rcases h with h|⟨a,b,xs,ys,G,F,h1,h2,r⟩
 .exact .inl {h.1,by simpa using h.2}
 .exact .inr {a,b,xs,ys,G,F,SqL.of h1,SqL.of h2,r}
theorem g7(z:X.A.units<cLine):OpR X (OV .NotEq) (uEq true):=(E9.or (yV z)).weak λx y H Q h=>by
 rcases h with h|⟨a,b,xs,ys,G,F,h1,h2,r⟩
 .exact .inl {h.1,by simpa using h.2}
 .exact .inr {a,b,xs,ys,G,F,SqL.of h1,SqL.of h2,r}
def kH(K:NQ)(ta:TE):TT:=λσ H Q=>ta σ H λx H'=>∃k,gD K x H' k/\Q k H'
theorem xx{a:Og}(ha:PE X a ta)(he:∀z,Tb a X.env z=(do let v<-z;Qm a.pos;Qu [v] (truthy v)):=by intro _;rfl):PT X a (kH X.K ta):=Cz ha he
def kA(C:Addr)(ta:TE)(f:Str):TE:=λσ H Q=>ta σ H λx H1=>∃a dx fs v,x = .ref a/\H1 a=some (.ins C dx fs)/\fs.lookup f=some v/\Q v H1
theorem aw(c:Cls X.K C)(n:cz X.K C f)(he:W (PE X e ta))(hb:Pm e f X.env (Pa e X.env)=Pa e X.env:=by rfl):W (PE X (.Attribute e f pos) (kA C ta f)):=by
 refine {?_};have he:=he.h;intro Go s σ H Q I h;refine LK hb (thn (he Go s σ H _ I h) λu s1=>x5e λx H1 O z J=>?_);obtain ⟨a,dx,fs,v,ex,ea,l,q⟩:=J;subst ex;obtain rfl:u=N6 a:=z;exact uV O ea c n l λS s2 F G=>⟨v,H1,F,G,q⟩
def mT(C:Addr)(ta tv:TE)(f:Str):TS:=λD σ H=>tv σ H λy H1=>ta σ H1 λx H2=>∃a dx fs,x = .ref a/\H2 a=some (.ins C dx fs)/\fs.length<1000/\D.nx σ (upd H2 a (.ins C dx (z6 f y fs)))
theorem eh{o ZA:Og}(c:Cls X.K C)(n:cz X.K C f)(ha:W (PE X o ta))(hv:W (PE X ZA tv))(hs:swapsWith ZA (some (.Attribute o f YS)) pos.line X.env=pure false:=by rfl):W (PS X (.Assign [.Attribute o f YS] ZA pos) (mT C ta tv f)):=by
 refine {?_};have ha:=ha.h;have hv:=hv.h;intro Go s σ H D I h;refine plainObj_wpAny_Assign_Attribute (thn (hv Go s σ H _ I h) λu s1=>x5e λy H1 U O q=>thn (ha Go s1 σ H1 _ U q) λF s2=>x5e λx H2 G z Z=>?_) hs;obtain ⟨a,dx,fs,ex,ea,l,J⟩:=Z;subst ex;obtain rfl:F=N6 a:=z;exact Bv G ea c n l O λs3 S=>{σ,_,S,J}
structure GF(P:NW)(w:Oc)(K:NQ)(mg:Str->Option Value)(base:Heap)(cm:Bool)(k:Nat)(x:Str)(ps:List Str)(sp:Sp):Prop where
 ex:∃(f:Addr)(fd:N4),zp P w K mg base CX0 cm k f fd ps sp/\mg x=some (.ref f)/\SO K (.ref f)=true/\bQ K fd ps []
structure GX(P:NW)(w:Oc)(K:NQ)(mg:Str->Option Value)(base:Heap)(cm:Bool)(k:Nat)(x:Str)(ps:List Str)(sp:Sp):Prop where
 ex:∃(f:Addr)(fd:N4),zp P w K mg base (CXW P w) cm k f fd ps sp/\mg x=some (.ref f)/\SO K (.ref f)=true/\bQ K fd ps []
structure GM(P:NW)(w:Oc)(K:NQ)(mg:Str->Option Value)(base:Heap)(cm:Bool)(k:Nat)(C:Addr)(m:Str)(ps:List Str)(sp:Sp):Prop where
 ex:∃(f:Addr)(fd:N4),zp P w K mg base CX0 cm k f fd ps sp/\iF K C m f/\bQ K fd ps []
structure GMX(P:NW)(w:Oc)(K:NQ)(mg:Str->Option Value)(base:Heap)(cm:Bool)(k:Nat)(C:Addr)(m:Str)(ps:List Str)(sp:Sp):Prop where
 ex:∃(f:Addr)(fd:N4),zp P w K mg base (CXW P w) cm k f fd ps sp/\iF K C m f/\bQ K fd ps []
structure GC(P:NW)(w:Oc)(K:NQ)(mg:Str->Option Value)(base:Heap)(cm:Bool)(k:Nat)(x:Str)(C:Addr)(ps:List Str)(sp:Sp):Prop where
 ex:∃(f:Addr)(fd:N4),zp P w K mg base CX0 cm k f fd ps sp/\mg x=some (.ref C)/\Mk K C f/\bQ K fd ps []
variable {cm:Bool}{k j:Nat}{x m:Str}{C:Addr}{ps:List Str}{sp:Sp}{e o:Og}{es:List Og}{t:TA}{ta:TE}{p pos Z3:Pos}{Ex:Addr->St->Hp->Prop}
theorem zu(G:GF X.prog X.w X.K X.mg X.base cm j x ps sp)(hr:zX cm k X.A)(U:Gl X x)(ha:W (PA X (e::es) t))(O:j<=k:=by decide)(S:(x==("__debug__":Str))=false:=by decide)(hp:aB e=true:=by rfl)(z:dP es=true:=by rfl):W (PE X (.Call (.Name x p) (e::es) [] pos) (mz sp [] E0 t)):=by
 refine {?_};have ha:=ha.h;obtain ⟨f,fd,F,hm,J,hb⟩:=G.ex;exact GT F (hr.mono O) U hm J hb .nil i3 ha S (dM hp) (fO z)
theorem fg(T:aQ X Ex)(G:GX X.prog X.w X.K X.mg X.base cm j x ps sp)(hr:zX cm k X.A)(U:Gl X x)(ha:W (PA X (e::es) t))(O:j<=k:=by decide)(S:(x==("__debug__":Str))=false:=by decide)(hp:aB e=true:=by rfl)(z:dP es=true:=by rfl):W (PE X (.Call (.Name x p) (e::es) [] pos) (lQ sp [] Ex t)):=by
 refine {?_};have ha:=ha.h;obtain ⟨f,fd,F,hm,J,hb⟩:=G.ex;exact MD T F (hr.mono O) U hm J hb .nil ha S (dM hp) (fO z)
theorem bT(he:W (PE X o ta))(c:Cls X.K C)(G:GM X.prog X.w X.K X.mg X.base cm j C m ps sp)(hr:zX cm k X.A)(ha:W (PA X (e::es) t))(S:j<=k:=by decide)(hp:aB e=true:=by rfl)(O:dP es=true:=by rfl)(J:Pa (.Call (.Attribute o m Z3) (e::es) [] pos) X.env=(do
   let z<-Pa o X.env
   Qm Z3.atName
   let (f,first)<-Qu [z] (RT z m pl)
   Sd pos f first (P0 pos (Om (e::es) X.env)) (Ss pos (Q6 [] X.env))):=by rfl):W (PE X (.Call (.Attribute o m Z3) (e::es) [] pos) (fY C m sp [] E0 ta t)):=by
 refine {?_};have he:=he.h;have ha:=ha.h;obtain ⟨f,fd,F,hm,hb⟩:=G.ex;exact Hm he c hm F (hr.mono S) hb .nil i3 ha (dM hp) (fO O) J
theorem cc(he:W (PE X o ta))(c:Cls X.K C)(G:GM X.prog X.w X.K X.mg X.base cm j C m ps sp)(hr:zX cm k X.A)(O:j<=k:=by decide)(J:Pa (.Call (.Attribute o m Z3) [] [] pos) X.env=(do
   let z<-Pa o X.env
   Qm Z3.atName
   let (f,first)<-Qu [z] (RT z m pl)
   Sd pos f first (P0 pos (Om [] X.env)) (Ss pos (Q6 [] X.env))):=by rfl):W (PE X (.Call (.Attribute o m Z3) [] [] pos) (fY C m sp [] E0 ta cK)):=by
 refine {?_};have he:=he.h;obtain ⟨f,fd,F,hm,hb⟩:=G.ex;exact G1 he c hm F (hr.mono O) hb .nil i3 J
theorem cB(he:W (PE X o ta))(c:Cls X.K C)(T:aQ X Ex)(G:GMX X.prog X.w X.K X.mg X.base cm j C m ps sp)(hr:zX cm k X.A)(O:j<=k:=by decide)(J:Pa (.Call (.Attribute o m Z3) [] [] pos) X.env=(do
   let z<-Pa o X.env
   Qm Z3.atName
   let (f,first)<-Qu [z] (RT z m pl)
   Sd pos f first (P0 pos (Om [] X.env)) (Ss pos (Q6 [] X.env))):=by rfl):W (PE X (.Call (.Attribute o m Z3) [] [] pos) (jO C m sp [] Ex ta cK)):=by
 refine {?_};have he:=he.h;obtain ⟨f,fd,F,hm,hb⟩:=G.ex;exact BM he c hm T F (hr.mono O) hb .nil J
structure oY(H:Hp)(C x dx:Addr)(H':Hp):Prop where
 no:H x=none
 nod:H dx=none
 ne:dx≠x
 at_:H' x=some (.ins C dx [])
 own:H' dx=some (.own x)
 same:zj H H'
theorem oY.mk'{C x dx:Addr}(h:H x=none)(hd:H dx=none)(ne:dx≠x):oY H C x dx (upd (upd H dx (.own x)) x (.ins C dx [])) :=
 {h,hd,ne,zt,by rw [zh ne,zt],λb u e=>by rw [zh (zQ e h),zh (zQ e hd)];exact e}
def mU(C:Addr)(sp:Sp)(t:TA):TE:=λσ H Q=>t σ H λvs H1=>∀x dx H2,oY H1 C x dx H2->sp (.ref x::vs) H2 (λv H3=>v = .non/\Q (.ref x) H3) E0
theorem PA.any{es:List Og}{t:TA}(h:PA X es t):PA X es (λσ H Q=>∃R:List V->Hp->Prop,t σ H R/\∀xs H,R xs H->Q xs H):=λpos Go s σ H Q I=>x3e λR q hw=>sY hw h pos Go s σ H I q
theorem rP(G:GC X.prog X.w X.K X.mg X.base cm j x C ps sp)(hr:zX cm k X.A)(J:Gl X x)(ha:W (PA X (e::es) t))(S:j+1<=k:=by decide)(z:(x==("__debug__":Str))=false:=by decide)(hp:aB e=true:=by rfl)(O:dP es=true:=by rfl):W (PE X (.Call (.Name x p) (e::es) [] pos) (mU C sp t)):=by
 refine {?_};have ha:=ha.h;obtain ⟨f,fd,F,hm,M,hb⟩:=G.ex;intro Go s σ H Q I h;exact JV M F (hr.mono S) J hm hb .nil i3 ha.any z (dM hp) (fO O) Go s σ H Q I {_,h,λvs H1 q x dx hx hd ne=>by rw [Pr];exact q x dx _ (.mk' hx hd ne)}
theorem aO{pos:Pos}(z:Gl X x)(hm:∃u,X.mg x=some u/\zm v u)(hd:(x==("__debug__":Str))=false:=by decide):W (PE X (.Name x pos) (tC v)):=by
 refine {?_};obtain ⟨u,hm,r⟩:=hm;exact DH z hm r hd
theorem jE{o e:Og}{to te:TE}{Z3 cpos:Pos}(ho:W (PE X o to))(he:W (PE X e te))
  (Z:Pm o "append" X.env (Pa o X.env)=Pa o X.env:=by rfl)
  (Zw:(Z3.endLine==cpos.line)=true:=by rfl) (hp:aB e=true:=by rfl):W (PE X (.Call (.Attribute o "append" Z3) [e] [] cpos) (u9 to te)):=by
 refine {?_};have ho:=ho.h;have he:=he.h;intro Go s σ H Q I h;have hs:Om [e] X.env=[(false,Pa e X.env)]:=fM hp;refine Qe Z (by rw [hs];rfl) Zw rfl (thn (ho Go s σ H _ I h) λv s1=>x5e λx H1 S r1 Xl=>?_);obtain ⟨l,ex,⟨xs,hx⟩,q1⟩:=Xl;subst ex;obtain ⟨h1,h2⟩:=iq (T:="list") S r1 (.inl {rfl,xs,SqL.of hx});refine {"list","list.append",Sg,PySem.F.slot_list_append,PySem.F.type_list_append,h1,h2,?_};rw [hs];refine Calls.callWith_builtin rfl (Calls.evalArgs_plain ?_);have U:=fB he fK (hs:=hs) cpos Go s1 σ H1 (λys H2=>cP (λy=>∃xs,H2 l=some (.lst xs)/\xs.length<sizeLine/\Q .non (upd H2 l (.lst (xs++[y])))) ys) S q1;rw [hs] at U;refine thn U λus s2=>x5e λvs H2 I2 r2 G=>?_;obtain ⟨y,rfl,O,J,z,G⟩:=cP.ex G;exact JN Go s2 σ H2 (.ref l) [y] v us Q I2 r1 r2 {l,O,y,rfl,rfl,J,z,G}
end
section
variable {X:Cx}
def fq:List V->Hp->VK->Prop:=λxs H Q=>(∃i,xs=[.int i]/\Q (.int i) H)\/∃k,xs=[.bl k]/\Q (.int (if k then 1 else 0)) H
theorem Mo:zU X (.type "int") fq:=Dy
def ib:List V->Hp->VK->Prop:=λxs H Q=>∃i,xs=[.int i]/\i.natAbs.log2<1920/\Q (.str (toString i)) H
theorem JG:zU X (.type "str") ib:=Di
theorem Fk:fq [.int i] H Q=Q (.int i) H:=by simp [fq]
theorem Ja{k:Bool}:fq [.bl k] H Q=Q (.int (if k then 1 else 0)) H:=by simp [fq]
theorem BV:ib [.int i] H Q=(i.natAbs.log2<1920/\Q (.str (toString i)) H):=by simp [ib]
def pP:List V->Hp->VK->Prop:=λxs H Q=>∃i j,xs=[.int i,.int j]/\Q (.int (if j>i then j else i)) H
def wA:List V->Hp->VK->Prop:=λxs H Q=>∃i j,xs=[.int i,.int j]/\Q (.int (if j<i then j else i)) H
theorem FR(hc:X.calm=true):zU X (.builtin "max") pP:=NF hc
theorem Jl(hc:X.calm=true):zU X (.builtin "min") wA:=DL hc
theorem rO:pP [.int i,.int j] H Q=Q (.int (if j>i then j else i)) H:=by
 apply propext;constructor
 .rintro ⟨a,b,e,q⟩;cases e;exact q
 .exact λq=>{i,j,rfl,q}
theorem B3:wA [.int i,.int j] H Q=Q (.int (if j<i then j else i)) H:=by
 apply propext;constructor
 .rintro ⟨a,b,e,q⟩;cases e;exact q
 .exact λq=>{i,j,rfl,q}
end
section
variable {Y:Cx}{sc:Scope}{N':List Str}{Go:List (Addr×Obj)}{D:Addr}{fp:List Addr}{s:KE}{H:Hp}
theorem Bi{k:Nat}{t:TGs}(h:PGs (zC Y sc N' Go D fp s H) es t)(hl:(Pq es (zC Y sc N' Go D fp s H).env).length=n:=by rfl)(hst:(Pq es (zC Y sc N' Go D fp s H).env).findIdx? (·.1)=none:=by rfl):PG (zC Y sc N' Go D fp s H) (.Tuple es k pos) (mW Y.K n t):=wg h hl hst
end
theorem FJ{t:TG}{r:List V}:iu t u (v::r) σ H Q=t v σ H λz H'=>u r z H' Q:=by
 apply propext;constructor
 .rintro ⟨v,r,e,h⟩;cases e;exact h
 .exact λh=>{v,r,rfl,h}
theorem Ia:nH [] σ H Q=Q σ H:=by
 apply propext;constructor
 .exact λh=>h.2
 .exact λh=>{rfl,h}
section
variable {H:Hp}{Q:VK}{i j:Int}{x y:Str}{a b:Addr}{K:NQ}{g:Int->Int->V}{C:Int->Int->Prop}{k c:Bool}{QB:Bool->Hp->Prop}
theorem AU:dX (.int i) (.int j) H Q=Q (.int (i+j)) H:=by simp [dX]
theorem yb:dX (.str x) (.str y) H Q=(x.length+y.length<=sizeLine/\Q (.str (x++y)) H):=by simp [dX]
theorem j7:dX (.ref a) (.ref b) H Q = ∃xs zs,H a=some (.lst xs)/\H b=some (.lst zs)/\xs.length+zs.length<=sizeLine/\∀p H2,New H p (.lst (xs++zs)) H2->Q (.ref p) H2:=by simp [dX]
theorem Ab:gh (.int i) (.int j) H Q=(ie i j/\Q (.int (i*j)) H):=by simp [gh]
theorem GA:gh (.ref a) (.int i) H Q = ∃xs,H a=some (.lst xs)/\-(2 ^ 63)<=i/\i<2 ^ 63/\xs.length*i.toNat<=sizeLine/\∀p H2,New H p (.lst (Pc i.toNat xs).flatten) H2->Q (.ref p) H2:=by simp [gh]
theorem kF:uIx (.ref a) (.int i) H Q = ∃xs,(H a=some (.lst xs)\/H a=some (.tup xs))/\∃v,atI xs i=some v/\Q v H:=by
 apply propext;constructor
 .rintro (⟨p,xs,i,v,G,F,h,r⟩|⟨p,xs,i,v,G,F,h,r⟩|⟨z,i,c,e,_⟩)
  .cases G;cases F;exact {xs,.inl h,v,r}
  .cases G;cases F;exact {xs,.inr h,v,r}
  .cases e
 .rintro ⟨xs,h|h,v,r⟩
  .exact .inl {_,xs,_,v,rfl,rfl,h,r}
  .exact .inr (.inl {_,xs,_,v,rfl,rfl,h,r})
theorem pN:uIx (.str x) (.int i) H Q=(x.length<=sizeLine/\∃c,atI x.cps.toList i=some c/\Q (.str {#[c]}) H):=by simp [uIx]
theorem qU:m7 [.ref a] H Q = ∃ys,(H a=some (.lst ys)\/H a=some (.tup ys))/\Q (.int ys.length) H:=by
 apply propext;constructor
 .rintro (⟨p,xs,F,h,r⟩|⟨p,xs,F,h,r⟩|⟨z,e,_⟩)
  .cases F;exact {xs,.inl h,r}
  .cases F;exact {xs,.inr h,r}
  .cases e
 .rintro ⟨xs,h|h,r⟩
  .exact .inl {_,xs,rfl,h,r}
  .exact .inr (.inl {_,xs,rfl,h,r})
theorem AX:m7 [.str x] H Q=(x.length<=sizeLine/\Q (.int x.length) H):=by simp [m7]
theorem Jw:rI C g (.int i) (.int j) H Q=(C i j/\Q (g i j) H):=by simp [rI]
theorem HB:rI0 g (.int i) (.int j) H Q=Q (g i j) H:=by simp [rI0]
theorem MC{g:Int->V}:rU g (.int i) H Q=Q (g i) H:=by simp [rU]
theorem Bb:uEq c (.int i) (.int j) H Q=Q (.bl (if c then !decide (i=j) else decide (i=j))) H:=by simp [uEq,gQ]
theorem Au:uEq c (.str x) (.str y) H Q=Q (.bl (if c then !decide (x=y) else decide (x=y))) H:=by simp [uEq,gQ]
theorem vy:uEq c (.bl k) (.bl k') H Q=Q (.bl (if c then !decide (k=k') else decide (k=k'))) H:=by simp [uEq,gQ]
theorem xC:uEq c (.ref a) (.ref b) H Q = ∃xs ys,H a=some (.lst xs)/\H b=some (.lst ys)/\xs.all ae=true/\ys.all ae=true/\Q (.bl (if c then !eqL xs ys else eqL xs ys)) H:=by simp [uEq,gQ]
def gE(K:NQ)(v:V)(H:Hp)(Q:Bool->Hp->Prop):Prop:=∃k,gD K v H k/\Q k H
theorem Ku:gE K (.bl k) H QB=QB k H:=by simp [gE,gD]
theorem BD:gE K .non H QB=QB false H:=by simp [gE,gD]
theorem M9:gE K (.int i) H QB=QB (i != 0) H:=by simp [gE,gD]
theorem B8:kH K ta σ H QB=ta σ H λx H'=>gE K x H' QB:=rfl
def uB(v:V)(q:Bool->Prop):Prop:=∃c,v = .bl c/\q c
theorem Do:uB (.bl k) q=q k:=by simp [uB]
theorem Hh{t:TE}:mO t σ H QB=t σ H λx H1=>uB x λc=>QB c H1:=rfl
theorem CI{t u:TE}:nX t u σ H Q=t σ H λx H1=>uB x λc=>if c=true then u σ H1 Q else Q (.bl false) H1:=rfl
theorem LR{t u:TE}:AD t u σ H Q=t σ H λx H1=>uB x λc=>if c=true then Q (.bl true) H1 else u σ H1 Q:=rfl
theorem GI{t:TE}:wx t σ H Q=t σ H λx H1=>uB x λc=>Q (.bl (!c)) H1:=rfl
theorem Iq{r r':R2}:xm r r' ta tb tc σ H Q=ta σ H λx H1=>tb σ H1 λy H2=>r x y H2 λz H3=>uB z λk=>if k=true then tc σ H3 λw' H4=>r' y w' H4 Q else Q (.bl false) H3:=rfl
theorem Cf:uR (.ref a) q=q a:=by simp [uR]
theorem Eo{C:Addr}:kA C ta f σ H Q=ta σ H λx H1=>uR x λa=>∃dx fs v,H1 a=some (.ins C dx fs)/\fs.lookup f=some v/\Q v H1:=by
 unfold kA uR;congr;funext x H1;apply propext;constructor
 .rintro ⟨a,dx,fs,v,h1,h2,h3,h4⟩;exact ⟨a,h1,dx,fs,v,h2,h3,h4⟩
 .rintro ⟨a,h1,dx,fs,v,h2,h3,h4⟩;exact ⟨a,dx,fs,v,h1,h2,h3,h4⟩
theorem Hw{C:Addr}:mT C ta tv f D σ H=tv σ H λy H1=>ta σ H1 λx H2=>uR x λa=>∃dx fs,H2 a=some (.ins C dx fs)/\fs.length<1000/\D.nx σ (upd H2 a (.ins C dx (z6 f y fs))):=by
 unfold mT uR;congr;funext x H1;congr;funext x2 H2;apply propext;constructor
 .rintro ⟨a,dx,fs,h1,h2,h3,h4⟩;exact ⟨a,h1,dx,fs,h2,h3,h4⟩
 .rintro ⟨a,h1,dx,fs,h2,h3,h4⟩;exact ⟨a,dx,fs,h1,h2,h3,h4⟩
theorem Kd{C:Addr}{t:TA}:fY C m sp Za E ta t σ H Q=ta σ H λx H1=>uR x λa=>∃dx fs,H1 a=some (.ins C dx fs)/\fs.lookup m=none/\t σ H1 λvs H2=>sp (.ref a::(vs++Za)) H2 Q E:=by
 unfold fY uR;congr;funext x H1;apply propext;constructor
 .rintro ⟨a,dx,fs,rfl,h2,h3,h4⟩;exact {a,rfl,dx,fs,h2,h3,h4}
 .rintro ⟨a,rfl,dx,fs,h2,h3,h4⟩;exact {a,dx,fs,rfl,h2,h3,h4}
theorem LX{C:Addr}{t:TA}:jO C m sp Za Ex ta t σ H Q=ta σ H λx H1=>uR x λa=>∃dx fs,H1 a=some (.ins C dx fs)/\fs.lookup m=none/\t σ H1 λvs H2=>sp (.ref a::(vs++Za)) H2 Q (XE Ex σ):=by
 unfold jO uR;congr;funext x H1;apply propext;constructor
 .rintro ⟨a,dx,fs,rfl,h2,h3,h4⟩;exact {a,rfl,dx,fs,h2,h3,h4}
 .rintro ⟨a,rfl,dx,fs,h2,h3,h4⟩;exact {a,dx,fs,rfl,h2,h3,h4}
end
section
variable {K:NQ}{g:TG}{tb:TS}{D:bo}{σ:St}{H:Hp}{ta:TA}{tl:TE}{wi:TI}{R:It->Hp->Prop}{j:Int}{tt:TT}{te:TE}{ix:List (Option Nat)}{Q:VK}
def az(J:It)(g:TG)(tb:TS)(D:bo)(σ:St)(H:Hp):Prop:=∃W:Nat->Nat->St->Hp->Prop,(∃m,W 0 m σ H)/\∀i m σ H,W i m σ H ->
 (J.stop i H/\D.nx σ H)\/(J.go i H/\∃N:St->Hp->Prop,(∀z H',N z H'->∃G,G<m/\W (i+1) G z H')/\∀x H',J.aG i H x H'->g x σ H' λF H2=>tb { D with nx:=N,ct:=N,bk:=D.nx } F H2)
theorem EK:yJ wi g tb D σ H=wi σ H λJ H1=>az J g tb D σ H1:=rfl
def uI1(vs:List V)(q:Int->Prop):Prop:=∃j,vs=[.int j]/\q j
theorem Ki:uI1 [.int j] q=q j:=by simp [uI1]
theorem ML:nO ta σ H R=ta σ H λvs H1=>uI1 vs λj=>-(2 ^ 62)<=j/\j<2 ^ 62/\R (Itr 0 j.toNat) H1:=rfl
theorem Hd:qm K tl σ H R=tl σ H λx H1=>uR x λa=>(∃xs,SqL K H1 a xs)/\R (Itl K a) H1:=rfl
theorem JF:j4 K tl σ H R=tl σ H λx H1=>uR x λa=>(∃xs,SqT K H1 a xs)/\R (Itt K a) H1:=rfl
def aK(J:It)(g:TG)(tt:TT)(te:TE)(G:St)(H:Hp)(Q:VK):Prop:=∃W:Nat->Nat->St->List V->Hp->Prop,(∃m,W 0 m G [] H)/\∀i m G ys H2,W i m G ys H2->ys.length<sizeLine /\
 ((J.stop i H2 ∧ ∀ D, H2 D = none → D ≠ sysModules → Q (.ref D) (upd H2 D (.lst ys))) ∨
  (J.go i H2 ∧ ∀ x H3, J.aG i H2 x H3 → g x G H3 fun z H4 => tt z H4 fun ok H5 => if ok = true then te z H5 fun y H6 => ∃ F, F < m ∧ W (i + 1) F z (ys ++ [y]) H6 else ∃ F, F < m ∧ W (i + 1) F z ys H5))
theorem KZ:tLC ix wi g tt te σ H Q=wi σ H λJ H1=>aK J g tt te (cL ix σ) H1 Q:=rfl
theorem az.rng{lo:Int}(z:Nat->St->Hp->Prop)(G:z 0 σ H)(hs:∀i σ H,i<n->z i σ H->g (.int (lo+i)) σ H λF H2=>tb { D with nx:=z (i+1),ct:=z (i+1),bk:=D.nx } F H2)(hd:∀σ H,z n σ H->D.nx σ H):az (Itr lo n) g tb D σ H:=Lc z G hs hd
theorem az.lst{a:Addr}{xs:List V}(z:Nat->St->Hp->Prop)(G:z 0 σ H)(hl:∀i σ H,i<=xs.length->z i σ H->SqL K H a xs)
  (hs:∀i x σ H,xs[i]?=some x->z i σ H->g x σ H λF H2=>tb { D with nx:=z (i+1),ct:=z (i+1),bk:=D.nx } F H2) (hd:∀σ H,z xs.length σ H->D.nx σ H):az (Itl K a) g tb D σ H:=LN z G hl hs hd
def gg(N:St->List V->Hp->Prop)(ys:List V)(z:St)(te:TE)(ok:Bool)(H5:Hp):Prop:=if ok=true then te z H5 λy H6=>N z (ys++[y]) H6 else N z ys H5
theorem LS:gg N ys z te true H=te z H λy H6=>N z (ys++[y]) H6:=rfl
theorem Gp:gg N ys z te false H=N z ys H:=rfl
theorem aK.rng{lo:Int}(G:Nat->St->List V->Hp->Prop)(hz:∀i z ys H,G i z ys H->ys.length<sizeLine)(U:G 0 z [] H)(hs:∀(N:St->List V->Hp->Prop) i z ys H,i<n->G i z ys H->(∀z ys H,G (i+1) z ys H->N z ys H)->g (.int (lo+i)) z H λF H4=>tt F H4 λok H5=>gg N ys F te ok H5)(hd:∀z ys H,G n z ys H->∀D H',New H D (.lst ys) H'->Q (.ref D) H'):aK (Itr lo n) g tt te z H Q:=by
 refine {λi m z ys H=>m=n-i/\i<=n/\G i z ys H,{n,'z',O9 _,U},?_};rintro i m z ys H2 ⟨rfl,hi,p⟩;refine {hz i z ys H2 p,?_};by_cases J:i<n
 .refine .inr {J,λx H' y=>?_};obtain ⟨e,y⟩:=y;subst e y;exact hs (λF ys H=>∃O,O<n-i/\O=n-(i+1)/\i+1<=n/\G (i+1) F ys H) i z ys _ J p λF zs H q=>{n-(i+1),'l',rfl,J,q}
 .have e:i=n:=by lia
  subst e;exact .inl {NV _,λD S _=>hd z ys H2 p D _ (.mk' S)}
end
section
variable {X:Cx}
def lO:V->Option Int->Option Int->Hp->VK->Prop:=λx lo hi H Q=>∃z,x = .str z/\z.length<=sizeLine/\Q (.str (Txt.slice z lo hi)) H
theorem C7{h:Heap}{lo hi:Option Int}(hs:h.IsSliceOf sl F z .none)(pl:Sy F lo)(G:Sy z hi):∃l u:Option (Int×Tok),h.IsSlice sl l u none/\l.map (·.1)=lo/\u.map (·.1)=hi:=by
 obtain ⟨o,h1,h2,h3⟩:=hs;cases pl with
 | none =>
  cases G with
  | none=>exact {none,none,⟨o,h1,h2,h3⟩,rfl,rfl}
  | int j t=>exact {none,some (j,t),⟨o,h1,h2,h3⟩,rfl,rfl}
 | int i t' =>
  cases G with
  | none=>exact {some (i,t'),none,⟨o,h1,h2,h3⟩,rfl,rfl}
  | int j t=>exact {some (i,t'),some (j,t),⟨o,h1,h2,h3⟩,rfl,rfl}
theorem CA:SlR X lO:=by
 intro Go s σ H x v Z W lo hi sl Q I G hs pl U h;obtain ⟨z,rfl,hz,q⟩:=h;obtain ⟨t,rfl⟩:=G;obtain ⟨l,u,J,O,S⟩:=C7 hs pl U;subst O S;exact {"str",_,F.slot_str_getitem.lookup,RO _ _ _,wpAny_getItem_str_slice (l:=l) (u:=u) (st:=none) J rfl
  (post_val_or_str {Ol (Txt.slice_le z _ _) hz,λt' k=>{.str _,H,I.tok k,{_,rfl},q}})}
def uSl:V->Option Int->Option Int->Hp->VK->Prop:=λx lo hi H Q=>(∃a xs,x = .ref a/\H a=some (.lst xs)/\∀p H2,New H p (.lst (aW xs lo hi)) H2->Q (.ref p) H2)\/lO x lo hi H Q
theorem SlR.weak{r r':V->Option Int->Option Int->Hp->VK->Prop}(h:SlR X r)(hw:∀x l u H Q,r' x l u H Q->r x l u H Q):SlR X r' :=
 λGo s σ H x v G z lo hi sl Q I F hs pl J q=>h Go s σ H x v G z lo hi sl Q I F hs pl J (hw _ _ _ _ _ q)
theorem cV:SlR X uSl:=((Eg (X:=X)).or CA).weak λx l u H Q h=>by
 rcases h with ⟨a,xs,e,h,q⟩|h
 .exact .inl {a,xs,e,SqL.of h,λp hp=>q p _ (.mk' hp)}
 .exact .inr h
def qY(v:V)(q:Int->Prop):Prop:=∃i,v = .int i/\q i
theorem En:qY (.int i) q=q i:=by simp [qY]
theorem JA{t:TE}:sQ t σ H Q=t σ H λx H1=>qY x λi=>Q (some i) H1:=rfl
theorem wJ{lo hi:Option Int}:uSl (.str z) lo hi H Q=(z.length<=sizeLine/\Q (.str (Txt.slice z lo hi)) H):=by simp [uSl,lO]
theorem vp{a:Addr}{lo hi:Option Int}:uSl (.ref a) lo hi H Q = ∃xs,H a=some (.lst xs)/\∀p H2,New H p (.lst (aW xs lo hi)) H2->Q (.ref p) H2:=by simp [uSl,lO]
theorem Nn:∀{us:List Value},zq (ys.map V.str) us->StrsAre us ys:=by
 induction ys with
 | nil=>intro us r;rw [map_nil] at r;cases r;exact .nil
 | cons n ns z =>
  intro us r;rw [Pi] at r;cases r with
  | cons r1 r2 =>
   obtain ⟨t,e⟩:=r1;subst e;exact .cons n t (z r2)
def ki:V->List V->Hp->VK->Prop:=λx vs H Q=>∃z p ys,x = .str z/\vs=[.ref p]/\H p=some (.lst (ys.map V.str))/\(ys.map (·.length)).sum+ys.length*z.length<=16777216/\Q (.str (Txt.join z ys)) H
theorem IJ:MtR X "str.join" ki:=by
 intro Go s σ H x xs v us Q I F O h;obtain ⟨z,p,ys,rfl,rfl,hp,hz,q⟩:=h;obtain ⟨t,rfl⟩:=F;cases O with
 | cons r1 J =>
  cases J;cases (show _=N6 p from r1);obtain ⟨S,r,G,_⟩:=I.list (SqL.of (K:=X.K) hp);exact join_list G.isList (by simpa using Nn r) hz λt' k=>{.str _,H,I.tok k,{_,rfl},q}
def iw(z:Str)(n:Nat):Str:={((Pc n z.cps.toList).flatten).toArray}
theorem xh{α:Type}(l:List α):∀(n:Nat)(ZZ:List α),foldl (λz F:Array α=>z++F) ZZ.toArray (Pc n l.toArray)=(ZZ++(Pc n l).flatten).toArray
 | 0,ZZ=>by simp
 | n+1,ZZ=>by
  rw [Qk,Tg,List.append_toArray,xh l n (ZZ++l)];simp [Qk]
theorem G0(z:Str)(n:Nat):({(Pc n z.cps).foldl (·++·) #[]}:Str)=iw z n:=by
 have h:=xh z.cps.toList n [];unfold iw;congr 1
theorem je{α:Type}(l:List α):∀n:Nat,((Pc n l).flatten).length=l.length*n
 | 0=>by simp
 | n+1=>by rw [Qk,RH,Ov,je l n,Nat.mul_succ];lia
theorem Lx(z:Str)(n:Nat):(iw z n).length=z.length*n:=by
 show (((Pc n z.cps.toList).flatten).toArray).size=_;rw [Oa,je];rfl
def jt:R2:=λx y H Q=>∃z n,x = .str z/\y = .int n/\1<n/\n<2 ^ 31/\z.length≠0/\z.length*n.toNat<=sizeLine/\Q (.str (iw z n.toNat)) H
theorem BL:OpR X (PQ .Mult) jt:=by
 intro Go s σ H x y v u Q I G J h;obtain ⟨z,n,rfl,rfl,h1,h2,h3,h4,q⟩:=h;obtain ⟨t,rfl⟩:=G;obtain ⟨t',rfl⟩:=J;have hs:sizeLine=16777216:=Ph;have hc:(n==1||z.length==0)=false:=by
  rw [Bool.or_eq_false_iff];exact {beq_eq_false_iff_ne.mpr 'l',beq_eq_false_iff_ne.mpr h3}
 have hz:z.length<=16777216:=by
  have:z.length*1<=z.length*n.toNat:=Nat.mul_le_mul_left _ 'l';lia
 refine PySem.P.mul_str ?_ ?_ ?_ ?_
 .rw [decide_eq_false (show ¬ n < -(2 ^ 63:Int) by lia),decide_eq_false (show ¬ n ≥ 2 ^ 63 by lia)];rfl
 .intro _ _ F;have:(16777216:Int)<=(2 ^ 63-1) / n:=Int.le_ediv_of_mul_le 'l' 'l';lia
 .intro _ _;exact decide_eq_false 'l'
 .rw [if_neg (show ¬ n<1 by lia),if_neg (by rw [hc];exact N8),G0];exact {by rw [Lx];lia,{.str _,H,I.tok _,{_,rfl},q}}
theorem Aa{p:Addr}{k:Int}:pX (.ref p) (.int k) v H Q = ∃xs j,H p=some (.lst xs)/\ixN xs.length k=some j/\Q (upd H p (.lst (xs.set j v))):=by
 apply propext;constructor
 .rintro ⟨G,xs,k',j,F,z,h⟩;cases F;cases z;exact ⟨xs,j,h⟩
 .rintro ⟨xs,j,h⟩;exact {p,xs,k,j,rfl,rfl,h}
def xn:List V->Hp->VK->Prop:=λxs H Q=>∃p ys,xs=[.ref p]/\(H p=some (.lst ys)\/H p=some (.tup ys))/\∀l H2,New H l (.lst ys) H2->Q (.ref l) H2
theorem HI:zU X (.type "list") xn:=Lz.weak λxs H Q h=>by
 obtain ⟨p,ys,e,h1,q⟩:=h;exact {p,ys,e,h1.elim (λh=>.inl (SqL.of h)) (λh=>.inr (SqT.of h)),λl hl=>q l _ (.mk' hl)}
theorem KQ{a:Addr}:xn [.ref a] H Q = ∃ys,(H a=some (.lst ys)\/H a=some (.tup ys))/\∀l H2,New H l (.lst ys) H2->Q (.ref l) H2:=by
 apply propext;constructor
 .rintro ⟨p,ys,e,h⟩;cases e;exact ⟨ys,h⟩
 .rintro ⟨ys,h⟩;exact {a,ys,rfl,h}
theorem rm{p:Addr}:ki (.str z) [.ref p] H Q = ∃ys:List Str,H p=some (.lst (ys.map V.str))/\(ys.map (·.length)).sum+ys.length*z.length<=16777216/\Q (.str (Txt.join z ys)) H:=by
 apply propext;constructor
 .rintro ⟨z',J,ys,G,F,h⟩;cases G;cases F;exact ⟨ys,h⟩
 .rintro ⟨ys,h⟩;exact {z,p,ys,rfl,rfl,h}
end
section
variable {K:NQ}{g:TG}{tb:TS}{D:bo}{σ:St}{H:Hp}{ta:TA}{R:It->Hp->Prop}
def uR1(vs:List V)(q:Addr->Prop):Prop:=∃a,vs=[.ref a]/\q a
theorem fj{a:Addr}:uR1 [.ref a] q=q a:=by
 apply propext;constructor
 .rintro ⟨c,e,h⟩;cases e;exact h
 .exact λh=>{a,rfl,h}
end
section
variable {X:Cx}
def uv(C:Addr)(ta tv:TE)(rd:V->V->Hp->VK->Prop)(f:Str):TS:=λD σ H=>ta σ H λx H1=>uR x λa=>∃dx fs v,H1 a=some (.ins C dx fs)/\fs.lookup f=some v /\
 tv σ H1 λy H2=>rd v y H2 λz H3=>∃F fs',H3 a=some (.ins C F fs')/\fs'.length<1000/\D.nx σ (upd H3 a (.ins C F (z6 f z fs')))
theorem Kw{o ZA:Og}(c:Cls X.K C)(n:cz X.K C f)(ha:W (PE X o ta))(hv:W (PE X ZA tv))(F:va X op rd):W (PS X (.AugAssign (.Attribute o f Xk) op ZA pos) (uv C ta tv rd f)):=by
 refine {?_};have ha:=ha.h;have hv:=hv.h;intro Go s σ H D I h;refine wpAny_AugAssign_AttributeAny (thn (ha Go s σ H _ I h) λov s1=>x5e λx H1 I1 rx U=>?_);obtain ⟨a,ex,dx,fs,v,ea,l,q⟩:=U;subst ex;obtain rfl:ov=N6 a:=rx;refine uV I1 ea c n l λu s2 J O=>thn (hv Go s2 σ H1 _ J q) λS s3=>x5e λy H2 I3 ry q3=>thn (F Go s3 σ H2 v y u S _ I3 O ry q3) λw4 s4=>x5e λz H3 I4 rz Yd=>?_;obtain ⟨XN,fs',G,l',Z⟩:=Yd;exact Bv I4 G c n l' rz λs5 I5=>{σ,_,I5,Z}
theorem KO:qT (.int i) (.int j) H Q=Q (.int (i+j)) H:=by simp [qT]
def eE(neg:Bool):R2:=λx y H Q=>y = .non/\Q (.bl (if neg then !decide (x = .non) else decide (x = .non))) H
theorem eS:OpR X (OV .Is) (eE false):=EZ.weak λx y H Q h=>{h.1,by simpa using h.2}
theorem Hr:eE c .non .non H Q=Q (.bl (if c then false else true)) H:=by simp [eE]
theorem ID:eE c (.int i) .non H Q=Q (.bl (if c then true else false)) H:=by simp [eE]
def gO:R2:=λx y H Q=>gh x y H Q\/jt x y H Q
theorem hJ:OpR X (PQ .Mult) gO:=LJ.or BL
theorem IF:gO (.int i) (.int j) H Q=(ie i j/\Q (.int (i*j)) H):=by simp [gO,Ab,jt]
theorem Cc{a:Addr}:gO (.ref a) (.int i) H Q=gh (.ref a) (.int i) H Q:=by simp [gO,jt]
theorem Ha:gO (.str z) (.int i) H Q=(1<i/\i<2 ^ 31/\z.length≠0/\z.length*i.toNat<=sizeLine/\Q (.str (iw z i.toNat)) H):=by
 simp [gO,gh,jt]
def uS(v:V)(q:Str->Prop):Prop:=∃z,v = .str z/\q z
theorem rH:uS (.str z) q=q z:=by simp [uS]
def tP(to te:TE):TE:=λσ H Q=>to σ H λx H1=>uS x λz=>te σ H1 λy H2=>ki (.str z) [y] H2 Q
theorem rF{o e:Og}{to te:TE}(ho:W (PE X o to))(he:W (PE X e te))(S:Pm o "join" X.env (Pa o X.env)=Pa o X.env:=by rfl)(Zw:(Z3.endLine==cpos.line)=true:=by rfl)(hp:aB e=true:=by rfl):W (PE X (.Call (.Attribute o "join" Z3) [e] [] cpos) (tP to te)):=by
 refine {?_};have ho:=ho.h;have he:=he.h;intro Go s σ H Q I h;have hs:Om [e] X.env=[(false,Pa e X.env)]:=fM hp;refine Qe S (by rw [hs];rfl) Zw rfl (thn (ho Go s σ H _ I h) λv s1=>x5e λx H1 O r1 U=>?_);obtain ⟨z,ex,q1⟩:=U;subst ex;obtain ⟨h1,h2⟩:=iq (T:="str") O r1 rfl;refine {"str","str.join",PySem.F.plainAttrs_str,PySem.F.slot_str_join,PySem.F.type_str_join,h1,h2,?_};rw [hs];refine Calls.callWith_builtin rfl (Calls.evalArgs_plain ?_);have J:=fB he fK (hs:=hs) cpos Go s1 σ H1 (λys H2=>cP (λy=>ki (.str z) [y] H2 Q) ys) O q1;rw [hs] at J;refine thn J λus s2=>x5e λvs H2 Z r2 G=>?_;obtain ⟨y,rfl,G⟩:=cP.ex G;exact IJ Go s2 σ H2 (.str z) [y] v us Q Z r1 r2 G
end
section
variable {K:NQ}{g:TG}{tb:TS}{D:bo}{σ:St}{H:Hp}{ta:TA}{tl:TE}{wi:TI}{R:It->Hp->Prop}{j:Int}{tt:TT}{te:TE}{ix:List (Option Nat)}{Q:VK}
theorem aK.lst{a:Addr}{xs:List V}{z:St}(G:Nat->St->List V->Hp->Prop)(hz:∀i z ys H,G i z ys H->ys.length<sizeLine)(ha:∀i z ys H,G i z ys H->SqL K H a xs)(U:G 0 z [] H)
  (hs:∀(N:St->List V->Hp->Prop) i x z ys H,xs[i]?=some x->G i z ys H->(∀z ys H,G (i+1) z ys H->N z ys H)->g x z H λF H4=>tt F H4 λok H5=>gg N ys F te ok H5) (hd:∀z ys H,G xs.length z ys H->∀D H',New H D (.lst ys) H'->Q (.ref D) H'):aK (Itl K a) g tt te z H Q:=by
 refine {λi m z ys H=>m=xs.length-i/\i<=xs.length/\G i z ys H,{xs.length,'z',O9 _,U},?_};rintro i m z ys H2 ⟨rfl,hi,p⟩;refine {hz i z ys H2 p,?_};have q:=ha i z ys H2 p;by_cases O:i<xs.length
 .refine .inr {{xs,xs[i],q,by simp [O]},λx H' y=>?_};obtain ⟨e,y⟩:=y;subst e;exact hs (λF ys H=>∃J,J<xs.length-i/\J=xs.length-(i+1)/\i+1<=xs.length/\G (i+1) F ys H) i x z ys _ (y xs q) p λF zs H q=>{xs.length-(i+1),'l',rfl,O,q}
 .have e:i=xs.length:=by lia
  subst e;exact .inl {{xs,q,NV _},λD S _=>hd z ys H2 p D _ (.mk' S)}
end
section
variable {X:Cx}
theorem zW  : W (PSs X [] ox):=⟨wu ⟩
theorem zg{st:Stmt}{YU:List Stmt}{t:TS}(h1:W (PS X st t))(h2:W (PSs X YU u)):W (PSs X (st::YU) (sD t u)):={vO (h1:=h1.h) (h2:=h2.h)}
theorem zi{st:Stmt}{t:TS}(h1:W (PS X st t)):W (PSs X [st] t):={sC (h1:=h1.h)}
theorem zw(he:W (PE X e te)):W (PS X (.Return (some e) pos) (rM te)):={sq (he:=he.h)}
theorem zL{t:TS}{a b:List Stmt}(hc:W (PT X c tc))(ha:W (PSs X a t))(hb:W (PSs X b u)):W (PS X (.If c a b pos) (rS tc t u)):={ux (hc:=hc.h) (ha:=ha.h) (hb:=hb.h)}
theorem zd  : W (PA X [] cK):=⟨fK ⟩
theorem za{t:TA}(ha:W (PE X e te))(hr:W (PA X es t))(hp:aB e=true:=by rfl):W (PA X (e::es) (eJ te t)):={jF (ha:=ha.h) (hr:=hr.h) (hp:=hp)}
theorem zF{a:Og}{b:Og}{r:R2}(ho:OpR X (OV op) r)(ha:W (PE X a ta))(hb:W (PE X b tb))(hm:RY op b=false):W (PT X (.Compare a [op] [b] pos) (mO (tOp r ta tb))):={ye (ho:=ho) (ha:=ha.h) (hb:=hb.h) (hm:=hm)}
theorem cE{a:Og}(ha:W (PE X a ta))(he:∀z,Tb a X.env z=(do let v<-z;Qm a.pos;Qu [v] (truthy v)):=by intro _;rfl):W (PT X a (kH X.K ta)):={xx (ha:=ha.h) (he:=he)}
theorem ze(i:Nat)(hN:X.N[i]?=some x:=by rfl)(hv:Vis X.env.scope x:=by first|exact NZ rfl|exact Si (NZ rfl)|exact Si (Si rfl))(hd:(x==("__debug__":Str))=false:=by decide)(hcd:(x==("__classdict__":Str))=false:=by decide):W (PE X (.Name x pos) (d8 i)):={pv (i:=i) (hN:=hN) (hv:=hv) (hd:=hd) (hcd:=hcd)}
theorem zo{i j pos}:W (PE X (.Constant (.int i) j pos) (tC (.int i))):=⟨lL ⟩
theorem aN{a:Og}{b:Og}{r:R2}(hr:IxR X r)(ha:W (PE X a ta))(hb:W (PE X b tb))(hs:Ay b):W (PE X (.Subscript a b pos) (tOp r ta tb)):={vn (hr:=hr) (ha:=ha.h) (hb:=hb.h) (hs:=hs)}
theorem zO(hN:X.N.Nodup)(hi:X.N[i]?=some x)(hx:Loc X.env.scope x)(hf:X.fn x=true\/X.env.scope.names.lookup x=some .local:=by first|exact .inl rfl|exact .inr rfl|assumption):W (PG X (.Name x pos) (cU i)):={xV (hN:=hN) (hi:=hi) (hx:=hx) (hf:=hf)}
theorem iZ{X:Cx}{k:Nat}{t:TGs}(h:W (PGs X es t))(hl:(Pq es X.env).length=n:=by rfl)(hst:(Pq es X.env).findIdx? (·.1)=none:=by rfl):W (PG X (.Tuple es k pos) (mW X.K n t)):={wg (h:=h.h) (hl:=hl) (hst:=hst)}
theorem uP{k:Nat}{t:TGs}(h:W (PGs (zC Y sc N' Go D fp s H) es t))(hl:(Pq es (zC Y sc N' Go D fp s H).env).length=n:=by rfl)(hst:(Pq es (zC Y sc N' Go D fp s H).env).findIdx? (·.1)=none:=by rfl):W (PG (zC Y sc N' Go D fp s H) (.Tuple es k pos) (mW Y.K n t)):={Bi (h:=h.h) (hl:=hl) (hst:=hst)}
theorem cg{t:TT}(h:W (PW X e t)):W (PT X e t):={PW.pt h.h}
end
def asc(z:Str):Bool:=z.cps.all (· < 128)
def Its(z:Str):It:={λi _=>i<z.cps.size,λi H x H'=>H'=H/\∃c,z.cps[i]?=some c/\x = .str {#[c]},λi _=>z.cps.size<=i}
theorem Hv{P:NW}{w:Oc}{K:NQ}{tg:Og}(z:Str)(it:Addr):fU true P w K tg (Its z) [it] it (λi h=>∃t,h.IsStrIter it "str_ascii_iterator" z t i) where
 mem:=by simp
 obj:=λi h st b hb=>by
  have e:b=it:=by simpa using hb
  subst e;obtain ⟨t,o,e,c,d⟩:=st;exact {o,e,λv z=>by rw [d] at z;cases z}
 keep:=λi h h' st k=>by
  obtain ⟨t,o,e,r⟩:=st;exact {t,o,k it 'z' o e,r}
 item:=by
  intro X F hw U hc i Go s σ H E I hf st W;subst F hw U;obtain ⟨t,st⟩:=st;obtain ⟨J,O,f2,S,Z,G⟩:=hf it 'z';have hi:i<z.cps.size:=W;refine wpAny_pyNext_ascii_item st (c:=z.cps[i]) (by simp [hi]) λh' Yk sb=>?_;have I1:Inv X Go σ H { s with heap:=h',toks:=s.toks+1 }:=I.turned (λb o hb e=>(sb.2 b hb).trans e) J O S Z G;obtain ⟨o,e,c,d⟩:=id Yk;exact {_,rfl,jl (s:={ s with heap:=h',toks:=s.toks+1 }) e c d 'd' {.str {#[z.cps[i]]},H,I1,{_,rfl},{rfl,_,by simp [hi],rfl},⟨t,Yk⟩,λb hb=>(hf b hb).1}}
 done:=by
  intro X F hw U hc i Go s σ H E I hf st W;subst F hw U;obtain ⟨t,st⟩:=st;obtain ⟨J,O,f2,S,Z,G⟩:=hf it 'z';have hi:z.cps.size<=i:=W;exact wpAny_pyNext_ascii_end (I.ok.hd (hc rfl)) st (by simp [hi]) λh' eb=>{rfl,I.turned (t':=s.toks) (λb o hb e=>eb b o hb e) J O S Z G}
 self:=λ_ _ _ _ _ st h=>by
  obtain ⟨t,st⟩:=st;exact wpAny_pyIter_striter_ascii st h
section
variable {X:Cx}{tg:Og}
def uj(tl:TE):TI:=λσ H R=>tl σ H λx H1=>uS x λz=>asc z=true/\R (Its z) H1
theorem Ng:uj tl σ H R=tl σ H λx H1=>uS x λz=>asc z=true/\R (Its z) H1:=rfl
theorem sO(hl:W (PE X l tl)):W (PIc true X tg l (uj tl)):=by
 refine {?_};have hl:=hl.h;intro Go s σ H R I h;refine thn (hl Go s σ H _ I h) λv s1=>x5e λx H1 F r1 q1=>?_;obtain ⟨z,e,ha,q⟩:=q1;subst e;obtain ⟨t,rfl⟩:=r1;refine wpAny_pyIter_ascii ha ?_;refine {s1.heap.objs.size,[s1.heap.objs.size],_,_,H1,rfl,F.kept (t':=s1.toks) λb o e=>NP _ e,Hv z _,{t,_,N7 _ rfl,rfl,rfl},λb hb=>?_,q};have e:b=s1.heap.objs.size:=by simpa using hb
 subst e;exact F.UQ (NV _) (F.hok.fresh (NV _))
end
theorem Draws.later{prog:NW}{w:Oc}{A:Of}{it:Addr}{fp:List Addr}{n k:Nat}{P:Nat->Value->Prop}{St:Nat->Heap->Prop}(D:Draws prog w A it fp n P St) :
  Draws prog w A it fp (n+k) (λi v=>P (i-k) v) (λi h=>k<=i/\St (i-k) h) where
 live:=λ_ _ st=>D.live _ _ st.2
 frame:=λ_ _ _ st z=>{st.1,D.frame _ _ _ st.2 z}
 item:=λi s Q E hi st O=>D.item (i-k) s Q E (by have:=st.1;lia) st.2 λx h' tk p F J=>O x h' tk p {by have:=st.1;lia,by
  have e:i+1-k=i-k+1:=by have:=st.1;lia
  rw [e];exact F} J
 done:=λs Q E st G=>D.done s Q E (by
  have e:n+k-k=n:=by lia
  have:=st.2;rwa [e] at this) G
def gX(z:Str)(k:Nat):It :=
 {λi _=>i<z.cps.size,λi H v H'=>∃T c,H T=none/\v = .ref T/\z.cps[i]?=some c/\H'=upd H T (.tup [.int ((i:Nat)+k:Nat),.str {#[c]}]),λi _=>i=z.cps.size}
structure He(e it:Addr)(z:Str)(k i:Nat)(h:Heap):Prop where
 en:∃old,IsEnum h e it ((i+k:Nat):Int) old
 a:∃t,h.IsStrIter it "str_ascii_iterator" z t i
theorem uH{P:NW}{w:Oc}{K:NQ}{Yl:List Og}{kk:Nat}{tp:Pos}{z:Str}{k:Nat}{e it:Addr}(X7:e≠it) :
  fU true P w K (.Tuple Yl kk tp) (gX z k) [e,it] e (He e it z k) where
 mem:=by simp
 obj:=λi h st b hb=>by
  obtain ⟨⟨old,G⟩,⟨t,o4,F,_,d4⟩⟩:=st;simp only [NT,Oh,or_false] at hb;rcases hb with rfl|rfl
  .exact {_,G,λv q=>nomatch q}
  .exact {_,F,λv q=>by rw [d4] at q;cases q}
 keep:=λi h h' st k=>by
  obtain ⟨⟨old,G⟩,⟨t,o,F,r⟩⟩:=st;exact {{old,k _ 'z' _ G},t,o,k _ 'z' o F,r}
 item:=by
  intro X hP hw hK hc i Go s σ H E I hf st hg;subst hP hw hK;obtain ⟨⟨old,G⟩,⟨t,F⟩⟩:=st;have hi:i<z.cps.size:=hg;have Xb:=I.ok.hd (hc rfl);have D:=Draws.later (k:=k) (Draws.strAscii (prog:=X.prog) (w:=X.w) (A:=X.A.in1) Xb it z t);refine wpAny_pyNext_enum_itemD D G (i:=i+k) {'l',by rw [Sx];exact F} 'l' X7 (by simpa using X7) λx h' tk px b1 S b3 b4 b5=>?_;obtain ⟨c,u,U,rfl⟩:=px;rw [Sx] at U;refine {_,rfl,wpAny_letOwnedTupleGo_enum (s:={ s with heap:=h',toks:=tk+1 }) b1 λh2 c1 c2=>?_};have Z:e<s.heap.objs.size:=Os G;have nz:s.heap.objs.size≠e:=R8 Z;have all:∀c o,c≠e->c≠it->s.heap.get? c=some o->h2.get? c=some o:=λc o n1 n2 q=>c2.extBut c o n1 (b5 c o n1 n2 q);have tT:h2.get? s.heap.objs.size=some { cls:=.type "tuple",data:=.seq #[.int ((i+k:Nat):Int) tk,.str {#[c]} u] }:=c2.extBut _ _ nz b3;have Yy:H s.heap.objs.size=none:=I.hok.fresh (NV _);have W:HOk X.prog X.w H h2:=λb u O=>by
   refine (I.hok b u O).Uc (λc v hc q=>?_) (λ_ q=>q) λ_ _ q=>q;have J:∀d∈[e,it],c≠d:=λd hd w=>by
    have fd:=(hf d hd).1;rcases hc with k|k
    .rw [k] at w;rw [w,fd] at O;cases O
    .rw [w,fd] at k;cases k
   exact all c v (J e 'z') (J it 'z') q
  have ak:∀b o,s.heap.get? b=some o->b≠s.heap.objs.size:=λb o e=>OM (Os e);have I2:Inv X Go σ (upd H s.heap.objs.size (.tup [.int ((i+k:Nat):Int),.str {#[c]}])) { s with heap:=h2,toks:=tk+1 }:=by
   refine I.step (g':=s.gens) (d':=s.drawn) (t':=tk+1) (ch:=[e,it]) (λb hb=>?_) (λb o _ _ hb q _=>?_) (λb o _ _ hb q _=>?_) (λb o _ q n=>?_) (λb o hb q=>?_) (λb ps q=>?_) (λb o u q=>?_) (λb ps q=>?_) (λm hm=>?_) (W.add Yy ?_) I.bare
   .obtain ⟨f0,f1,f2,f3,f4,f5⟩:=hf b hb;exact ⟨f3,f1,f4,f5⟩
   .simp only [NT,Oh,or_false,not_or] at hb;exact all b o hb.1 hb.2 q
   .simp only [NT,Oh,or_false,not_or] at hb;exact {o.slots,all b o hb.1 hb.2 q}
   .rw [zh (ak b o q)];exact n
   .simp only [NT,Oh,or_false,not_or] at hb;exact {o,all b o hb.1 hb.2 q}
   .rw [zh (zQ q Yy)];exact q
   .rw [zh (zQ q Yy)];exact q
   .exact {#[],by rw [zh (zQ q Yy),q];simp}
   .obtain ⟨o,es,ep,ho,r⟩:=hm;exact {o,es,ep,all _ o (OY (hf e 'z').2.1) (OY (hf it 'z').2.1) ho,r}
   .exact {by show 2<=sizeLine;decide,[.int ((i+k:Nat):Int) tk,.str {#[c]} u],.cons {_,rfl} (.cons {_,rfl} .nil),{_,tT,rfl,_,rfl}}
  refine {.ref s.heap.objs.size,_,I2,rfl,{_,c,Yy,rfl,U,rfl},?_,λb hb=>?_}
  .obtain ⟨_,S⟩:=S;have e1:i+k+1-k=i+1:=by lia
   rw [e1] at S;obtain ⟨o,S,r⟩:=S;have e3:((i+1+k:Nat):Int)=((i+k:Nat):Int)+1:=by lia
   refine {?_,t,o,c2.extBut _ _ (OY X7) S,r};rw [e3];exact {_,c1}
  .have ne:b≠s.heap.objs.size:=λq=>by
    have:b<s.heap.objs.size:=by
     simp only [NT,Oh,or_false] at hb;obtain ⟨o4,F,_⟩:=F;rcases hb with rfl|rfl
     .exact Z
     .exact Os F
    exact absurd (q ▸ this) (OF _)
   rw [zh ne];exact (hf b hb).1
 done:=by
  intro X hP hw hK hc i Go s σ H E I hf st hg;subst hP hw hK;obtain ⟨⟨old,G⟩,⟨t,F⟩⟩:=st;have hi:i=z.cps.size:=hg;have Xb:=I.ok.hd (hc rfl);have D:=Draws.strAscii (prog:=X.prog) (w:=X.w) (A:=X.A.in1) Xb it z t;rw [hi] at F;refine wpAny_pyNext_enum_endD D G F λh' up=>{rfl,?_};refine I.step (g':=s.gens) (d':=s.drawn) (t':=s.toks) (ch:=[it]) (λb hb=>?_) (λb o _ _ hb q _=>?_) (λb o _ _ hb q _=>?_) (λ_ _ _ _ n=>n) (λb o hb q=>?_) (λ_ _ q=>q) (λ_ _ _ q=>q) (λb ps q=>{#[],by rw [q];simp}) (λm hm=>?_) (λb u O=>?_) I.bare
  .have av:b∈[e,it]:=by simp only [NT,Oh,or_false] at hb ⊢;exact .inr hb
   obtain ⟨f0,f1,f2,f3,f4,f5⟩:=hf b av;exact ⟨f3,f1,f4,f5⟩
  .simp only [NT,Oh,or_false] at hb;exact up b o hb q
  .simp only [NT,Oh,or_false] at hb;exact {o.slots,up b o hb q}
  .simp only [NT,Oh,or_false] at hb;exact {o,up b o hb q}
  .obtain ⟨o,es,ep,ho,r⟩:=hm;exact {o,es,ep,up _ o (OY (hf it 'z').2.1) ho,r}
  .refine (I.hok b u O).Uc (λc v hc q=>?_) (λ_ q=>q) λ_ _ q=>q;have J:c≠it:=λw=>by
    have fd:=(hf it 'z').1;rcases hc with k|k
    .rw [k] at w;rw [w,fd] at O;cases O
    .rw [w,fd] at k;cases k
   exact up c v J q
 self:=λ_ _ _ _ _ st h=>by
  obtain ⟨old,G⟩:=st.en;exact SF G h
section
variable {prog:NW}{w:Oc}{A:Of}{E:Value->KE->Prop}{s:KE}
theorem DM(a b:Value):checkTypeCall "enumerate" {[a],[(NS "start",b)]}=pure ():=by kernel_rfl
theorem Hu(a b:Value):RV "enumerate.__new__" {[.type "enumerate",a],[(NS "start",b)]}=pure ():=by kernel_rfl
theorem BS(o a b:Value):SR "object.__init__" {[o,a],[(NS "start",b)]}:=by
 unfold SR;kernel_rfl
theorem LP (x : Str) (t u : Tok) : Meets (N9.«enumerate.__new__» {[.type "enumerate", .str x t], [(NS "start", .int 1 u)]}) (fun _ R s =>
      R (.ok (.ret (.ref (s.heap.push { cls := .type (Q0 x), data := .fields #[.str x t, .int 0 0] }).objs.size)))
        { s with heap := (s.heap.push { cls := .type (Q0 x), data := .fields #[.str x t, .int 0 0] }).push { cls := .type "enumerate", data := .fields #[.none, .bool false, .ref s.heap.objs.size, Pj 1, .none, .none] } }) :=
 .of_wp λprog w A R s h=>by
  obtain ⟨hp,g,d,tk,os⟩:=s;have z:=sub_enumerate
  wp_walk
  refine wpAny_stack_any λst=>NN ?_;split
  .rename_i c _ _ _ _ _;cases (c==type "enumerate")
   .wp_walk using SE
    exact {_,rfl,h}
   .wp_walk using SE
    exact {_,rfl,h}
  .wp_walk using SE
   exact {_,rfl,h}
theorem L7{self a:Value}(hl:typeLookup (.type T) Wn=pure (some (.builtin "object.__init__")))(hm:Bind.madeBy (.type T)=pure (some newId))(F:(some newId != some "object.__new__")=true):Meets (N9.«object.__init__» {[self,a],kws}) (λ_ R s=>s.TypeIs self T/\R (.ok (.ret .none)) s):=by
 refine Meets.of_wp λprog w A R s=>x2e λG z=>?_
 repeat (any_goals (first|assumption|wp_step))
 exact {_,rfl,z}
theorem JC{a:Value}(z:TypeCalled T newId "object.__init__")(X7:(some newId != some "object.__new__")=true)(ax:checkTypeCall T {[a],kws}=pure ())(U:RV newId {[.type T,a],kws}=pure ())(hok:∀obj,SR "object.__init__" {[obj,a],kws})(G:entryFor table newId=some Bn)(g:Meets (Bn {[.type T,a],kws}) S)(h:S A.in1 (wants (λobj s₁=>s₁.TypeIs obj T/\Q obj s₁) E) s):N2 (N5 prog w) A (call (.type T) [a] kws) Q E s:=by
 obtain ⟨c,tl,Z⟩:=z.mro;have W:=z.made;have X2:=z.sub;refine wpAny_call (A:=A) (codeAny_of_tree (A:=A) ?_);show N2 (N5 prog w) _ (callAny (.type T) _) _ _ _;refine NN {Code.quiet_builtin _ (f!""),Qs (A:=A) F.entry_type_call ?_};rw [Of.under_plain (weight_type_call_type T [a] kws) (units_type_call_type T [a] kws)];have k1:=z.notType;have k2:=z.canCreate
 repeat (any_goals (first|assumption|wp_step))
 refine Qf (Sb z.plain G (wpAny_of_eq U (g prog w A.in1 _ s h))) λr s1 hr=>?_;cases r with
 | error e=>exact hr
 | ok fl =>
  cases fl with
  | ret obj =>
   have ak:=z.init.lookup;have av:=z.init.bind obj;have hT:=hr.1
   repeat (any_goals (first|assumption|wp_step))
   refine Qf (Sb z.init.plain F.entry_object_init (z.init.check _ _ _ _ _ _ _ _ hr.1 (hok obj) (L7 z.init.lookup z.made X7 prog w A.in1 (wants (λr s2=>r = .none/\Q obj s2) E) s1 {hr.1,rfl,hr.2}))) λr2 s2 J=>?_;cases r2 with
   | error e=>exact J
   | ok O =>
    cases O with
    | ret r =>
     obtain ⟨rfl,hq⟩:=J
     repeat (any_goals (first|assumption|wp_step))
    | _=>exact J.elim
  | _=>exact hr.elim
theorem Ma{t u:Tok}(h:∀h',IsEnum h' (s.heap.objs.size+1) s.heap.objs.size 1 .none->h'.IsStrIter s.heap.objs.size (Q0 x) x t 0->h'.objs.size=s.heap.objs.size+2->(∀b o,s.heap.get? b=some o->h'.get? b=some o)->Q (.ref (s.heap.objs.size+1)) { s with heap:=h' }):
  N2 (N5 prog w) A (call (.type "enumerate") [.str x t] [(NS "start",.int 1 u)]) Q E s:=by
 refine JC F.called_enumerate 'd' (DM _ _) (Hu _ _) (λobj=>BS obj _ _) F.entry_enumerate_new (LP x t u) ?_;have hz:(s.heap.push { cls:=.type (Q0 x),data:=.fields #[.str x t,.int 0 0] }).objs.size=s.heap.objs.size+1:=QE ..;show _/\_;rw [hz];have he:IsEnum ((s.heap.push { cls:=.type (Q0 x),data:=.fields #[.str x t,.int 0 0] }).push { cls:=.type "enumerate",data:=.fields #[.none,.bool false,.ref s.heap.objs.size,Pj 1,.none,.none] }) (s.heap.objs.size+1) s.heap.objs.size 1 .none:=by
  have q:=N7 (s.heap.push { cls:=.type (Q0 x),data:=.fields #[.str x t,.int 0 0] }) (o:={ cls:=.type "enumerate",data:=.fields #[.none,.bool false,.ref s.heap.objs.size,Pj 1,.none,.none] }) rfl;rw [hz] at q;exact q
 exact {{_,he,rfl},h _ he {_,NP _ (N7 _ rfl),rfl,rfl} (by rw [QE,hz]) λb o y=>NP _ (NP _ y)}
theorem JX(G:args.any (·.1)=false)(F:z.any (·.1.isNone)=false)(h:N2 M A (evalArgs (.type T) true args z) (λa s1=>N2 M A (call (.type T) a.pos a.kw) Q E s1) E s):N2 M A (Sd pos (.type T) [] args z) Q E s:=by
 unfold Sd;refine we (On (Ow h (λa s1 h1=>we (OX ?_)) λ_ _ x=>x));simp only [G,F,SX];exact we (NN (we (Ow h1 (λr s2 hr=>we (On (wpAny_point (NN hr)))) λ_ _ x=>x)))
end
section
variable {X:Cx}
def nj(k:Nat)(ta:TE):TI:=λσ H R=>ta σ H λx H1=>uS x λz=>asc z=true/\R (gX z k) H1
theorem Km{k:Nat}:nj k ta σ H R=ta σ H λx H1=>uS x λz=>asc z=true/\R (gX z k) H1:=rfl
theorem uF(h:asc z=true):Q0 z="str_ascii_iterator":=by
 unfold Q0;rw [show z.cps.all (· < 128)=true from h];rfl
theorem CJ{tp p pos:Pos}{a:Og}(hg:Gl X "enumerate")(hm:X.mg "enumerate"=none)(ha:W (PE X a ta))(hp:aB a=true:=by rfl):W (PIc true X (.Tuple Yl kk tp) (.Call (.Name "enumerate" p) [a] [] pos) (nj 0 ta)):=by
 refine {?_};have ha:=ha.h;intro Go s σ H R I h;have hs:Om [a] X.env=[(false,Pa a X.env)]:=fM hp;have U:=fB ha fK (hs:=hs) pos Go s σ H (λys H2=>cP (λy=>uS y λz=>asc z=true/\R (gX z 0) H2) ys) I h;refine Call_ (iP I hg hm boot_enumerate (QX (thn U λus s1=>x5e λvs H1 F r1 q1=>?_) hs rfl));obtain ⟨y,rfl,z,S,hz,q⟩:=cP.ex q1;subst S;cases r1 with
 | cons r Z =>
  cases Z;obtain ⟨t,rfl⟩:=r;refine call_enumerate_str λh' G J a6 O=>SF (s:={ s1 with heap:=h' }) G ?_;rw [uF hz] at J;refine {_,_,_,_,H1,rfl,F.kept (t':=s1.toks) O,uH (Nat.succ_ne_self _),{{_,G},t,J},λb hb=>?_,q};have le:s1.heap.objs.size<=b:=by
   simp only [NT,Oh,or_false] at hb;rcases hb with rfl|rfl<;>lia
  exact F.UQ le (F.hok.fresh le)
theorem HM{tp p pos kp cp:Pos}{a:Og}(hg:Gl X "enumerate")(hm:X.mg "enumerate"=none)(ha:W (PE X a ta))(hp:aB a=true:=by rfl):W (PIc true X (.Tuple Yl kk tp) (.Call (.Name "enumerate" p) [a] [{some (NS "start"),.Constant (.int 1) j cp,kp}] pos) (nj 1 ta)):=by
 refine {?_};have ha:=ha.h;intro Go s σ H R I h;have hs:Om [a] X.env=[(false,Pa a X.env)]:=fM hp;have S:=fB ha fK (hs:=hs) pos Go s σ H (λys H2=>cP (λy=>uS y λz=>asc z=true/\R (gX z 1) H2) ys) I h;refine PR (iP I hg hm boot_enumerate (JX (by rw [hs];rfl) rfl ?_));rw [hs] at S ⊢;refine evalArgs_kwB rfl (thn S λus s1=>x5e λvs H1 I1 r1 q1=>kws_cons (thn (lL Go s1 σ H1 (λv H=>v = .int 1/\H=H1) I1 {rfl,rfl}) λw2 s2=>x5e λy2 H2 F r2 YF=>kws_nil ?_));obtain ⟨J,G⟩:=YF;subst J G;obtain ⟨t2,rfl⟩:=r2;obtain ⟨y,rfl,z,ey,hz,q⟩:=cP.ex q1;subst ey;cases r1 with
 | cons r rr =>
  cases rr;obtain ⟨t,rfl⟩:=r;refine Ma (s:=s2) λh' O U a6 Z=>SF (s:={ s2 with heap:=h' }) O ?_;rw [uF hz] at U;refine {_,_,_,_,H2,rfl,F.kept (t':=s2.toks) Z,uH (Nat.succ_ne_self _),{{_,O},t,U},λb hb=>?_,q};have le:s2.heap.objs.size<=b:=by
   simp only [NT,Oh,or_false] at hb;rcases hb with rfl|rfl
   .exact SK _
   .exact NV _
  exact F.UQ le (F.hok.fresh le)
end
section
variable {K:NQ}{g:TG}{tb:TS}{D:bo}{σ:St}{H:Hp}{tt:TT}{te:TE}{Q:VK}
theorem az.aP{k:Nat}(F:Nat->St->Hp->Prop)(U:F 0 σ H)(hs:∀i c p σ H,z.cps[i]?=some c->F i σ H->H p=none->g (.ref p) σ (upd H p (.tup [.int ((i+k:Nat):Int),.str {#[c]}])) λG H2=>tb { D with nx:=F (i+1),ct:=F (i+1),bk:=D.nx } G H2)(hd:∀σ H,F z.cps.size σ H->D.nx σ H):az (gX z k) g tb D σ H:=by
 refine {λi m σ H=>m=z.cps.size-i/\i<=z.cps.size/\F i σ H,{z.cps.size,'z',O9 _,U},?_};rintro i m σ H ⟨rfl,hi,p⟩;by_cases J:i<z.cps.size
 .refine .inr {J,F (i+1),λW H' O=>{z.cps.size-(i+1),'l',rfl,J,O},λx H' y=>?_};obtain ⟨T,c,S,rfl,hc,rfl⟩:=y;exact hs i c T σ _ hc p S
 .have e:i=z.cps.size:=by lia
  subst e;exact .inl {rfl,hd σ H p}
theorem aK.str(J:Nat->St->List V->Hp->Prop)(hz:∀i F ys H,J i F ys H->ys.length<sizeLine)(W:J 0 F [] H)(hs:∀(N:St->List V->Hp->Prop) i c F ys H,z.cps[i]?=some c->J i F ys H->(∀F ys H,J (i+1) F ys H->N F ys H)->g (.str {#[c]}) F H λG H4=>tt G H4 λok H5=>gg N ys G te ok H5)(hd:∀F ys H,J z.cps.size F ys H->∀D H',New H D (.lst ys) H'->Q (.ref D) H'):aK (Its z) g tt te F H Q:=by
 refine {λi m F ys H=>m=z.cps.size-i/\i<=z.cps.size/\J i F ys H,{z.cps.size,'z',O9 _,W},?_};rintro i m F ys H2 ⟨rfl,hi,p⟩;refine {hz i F ys H2 p,?_};by_cases S:i<z.cps.size
 .refine .inr {S,λx H' y=>?_};obtain ⟨e,c,hc,rfl⟩:=y;subst e;exact hs (λG ys H=>∃O,O<z.cps.size-i/\O=z.cps.size-(i+1)/\i+1<=z.cps.size/\J (i+1) G ys H) i c F ys _ hc p λG zs H q=>{z.cps.size-(i+1),'l',rfl,S,q}
 .have e:i=z.cps.size:=by lia
  subst e;exact .inl {NV _,λD U _=>hd F ys H2 p D _ (.mk' U)}
end
section
variable {X:Cx}
def xf:List V->Hp->VK->Prop:=λxs H Q=>uR1 xs λp=>∃bs:List Bool,H p=some (.lst (bs.map V.bl))/\Q (.bl (bs.all id)) H
theorem Bz{bs:List Bool}:∀{us:List Value},zq (bs.map V.bl) us->us=bs.map Qz:=by
 induction bs with
 | nil=>intro us r;rw [map_nil] at r;cases r;rfl
 | cons b bs z =>
  intro us r;rw [Pi] at r;cases r with
  | cons r1 r2=>rw [show _=Qz b from r1,z r2];rfl
theorem v8(hc:X.calm=true):zU X (.builtin "all") xf:=by
 intro Go s σ H xs us Q I r h;obtain ⟨p,rfl,bs,hp,q⟩:=h;cases r with
 | cons r1 G =>
  cases G;cases (show _=N6 p from r1);obtain ⟨U,O,pl,_⟩:=I.list (SqL.of (K:=X.K) hp);have e:=Bz O;subst e;have F:p≠s.heap.objs.size:=by obtain ⟨o,e,_⟩:=pl.isList;exact OM (Os e)
  refine call_all_walk (Rx pl.isList ?_);have hl:∀k:Nat,k=bs.length->(O0 k).all (λi=>bs.getD i true)=bs.all id:=by
   intro k e;subst e;rw [Qd,Ot,Ot];constructor
   .intro h x hx;obtain ⟨i,hi,rfl⟩:=PX hx;have:=h i (RS.mpr hi);rw [Oq,NL hi] at this;exact this
   .intro h i hi;have hi:=RS.mp hi;rw [Oq,NL hi];exact h _ (O4 hi)
  refine {s.heap.objs.size,_,_,_,_,_,λi=>bs.getD i true,rfl,Walks.list (prog:=X.prog) (w:=X.w) (A:=X.A.in1) (show X.A.in1.handled=none from I.ok.hd hc) s.heap.objs.size p F (bs.map Qz).toArray,{{_,N7 _ rfl,rfl,rfl},pl.isList.push _},?_,λh' tk kp=>?_}
  .intro i v s2 J W hv z;have hv:(bs.map Qz)[i]?=some v:=by simpa using hv
   rw [Oe] at hv;cases e:bs[i]? with
   | none=>rw [e] at hv;cases hv
   | some b =>
    rw [e] at hv;cases hv;have S:bs.getD i true=b:=by rw [Oq,e];rfl
    have z:J (bs.getD i true) s2:=z;rw [S] at z;exact NN z
  .refine {.bl _,H,I.kept (t':=tk) λb o e=>kp b o ?_ (NP _ e),rfl,?_}
   .simpa using OM (Os e)
   .rw [hl _ 'z'];exact q
theorem Ld{p:Addr}:xf [.ref p] H Q = ∃bs:List Bool,H p=some (.lst (bs.map V.bl))/\Q (.bl (bs.all id)) H:=fj
def uIn:R2:=λx y H Q=>(∃i j,x = .str i/\y = .str j/\Q (.bl (!(N9.Str.occurrences j i 0 j.length 1).isEmpty)) H)\/∃p xs,y = .ref p/\(H p=some (.lst xs)\/H p=some (.tup xs))/\ae x=true/\xs.all ae=true/\Q (.bl (inV x xs)) H
theorem uJ(G:X.A.units<cLine):OpR X (OV .In) uIn:=(GL.or Ho).weak λx y H Q h=>by
 rcases h with h|⟨p,xs,e,h,z,F,q⟩
 .exact .inl h
 .exact .inr {p,xs,e,h.elim (λh=>.inl (SqL.of h)) (λh=>.inr (SqT.of h)),z,F,by simpa using q}
theorem Jr:uIn (.str x) (.str y) H Q=Q (.bl (!(N9.Str.occurrences y x 0 y.length 1).isEmpty)) H:=by simp [uIn]
theorem An{p:Addr}:uIn x (.ref p) H Q = ∃xs,(H p=some (.lst xs)\/H p=some (.tup xs))/\ae x=true/\xs.all ae=true/\Q (.bl (inV x xs)) H:=by simp [uIn]
def uM1(to te:TE)(r:Str->V->Hp->VK->Prop):TE:=λσ H Q=>to σ H λx H1=>uS x λz=>te σ H1 λy H2=>r z y H2 Q
theorem Bw{to te:TE}{r:Str->V->Hp->VK->Prop}:uM1 to te r σ H Q=to σ H λx H1=>uS x λz=>te σ H1 λy H2=>r z y H2 Q:=rfl
theorem vQ{o e:Og}{to te:TE}{id:String}{r:Str->V->Hp->VK->Prop}(J:Slot "str" m id)(O:typeOf (.builtin id)=pure (.type "method_descriptor"))(hr:∀(Go:List (Addr×Obj))(s:KE)(σ:St)(H:Hp)(z:Str)(y:V)(t:Tok)(v:Value)(Q:VK),Inv X Go σ H s->zm y v->r z y H Q->N2 (N5 X.prog X.w) X.A (call (.builtin id) [.str z t,v]) (λu s1=>∃x H',Inv X Go σ H' s1/\zm x u/\Q x H') X.xe s)(ho:PE X o to)(he:PE X e te)(W:Pm o m X.env (Pa o X.env)=Pa o X.env:=by rfl)(Zw:(Z3.endLine==cpos.line)=true:=by rfl)(hp:aB e=true:=by rfl):
  PE X (.Call (.Attribute o m Z3) [e] [] cpos) (uM1 to te r):=by
 intro Go s σ H Q I h;have hs:Om [e] X.env=[(false,Pa e X.env)]:=fM hp;refine Qe W (by rw [hs];rfl) Zw rfl (thn (ho Go s σ H _ I h) λv s1=>x5e λx H1 U r1 YF=>?_);obtain ⟨z,ex,q1⟩:=YF;subst ex;obtain ⟨h1,h2⟩:=iq (T:="str") U r1 rfl;refine {"str",id,PySem.F.plainAttrs_str,J,O,h1,h2,?_};rw [hs];refine Calls.callWith_builtin rfl (Calls.evalArgs_plain ?_);have S:=fB he fK (hs:=hs) cpos Go s1 σ H1 (λys H2=>cP (λy=>r z y H2 Q) ys) U q1;rw [hs] at S;refine thn S λus s2=>x5e λvs H2 Z r2 G=>?_;obtain ⟨t,rfl⟩:=r1;obtain ⟨y,rfl,G⟩:=cP.ex G;obtain ⟨_,rfl,ry⟩:=zq.one r2;exact hr Go s2 σ H2 z y t _ Q Z ry G
def Al:Str->V->Hp->VK->Prop:=λz y H Q=>uS y λq=>Q (.int (QT z q)) H
theorem x9{o e:Og}{to te:TE}(ho:W (PE X o to))(he:W (PE X e te))(O:Pm o "rfind" X.env (Pa o X.env)=Pa o X.env:=by rfl)(J:(Z3.endLine==cpos.line)=true:=by rfl)(hp:aB e=true:=by rfl):W (PE X (.Call (.Attribute o "rfind" Z3) [e] [] cpos) (uM1 to te Al)):=by
 refine {?_};have ho:=ho.h;have he:=he.h;exact
  vQ PySem.F.slot_str_rfind PySem.F.type_str_rfind (λGo s σ H z y t v Q I G q=>by
   obtain ⟨w,rfl,q⟩:=q;obtain ⟨u,rfl⟩:=G;exact QM PySem.F.slot_str_rfind (RO _ _ _) PySem.F.entry_str_rfind (PySem.F.args_str_rfind_2 _ _) (gives_str_rfind z w t u).meets {.int _,H,I.tok _,{_,rfl},q}) ho he O J hp
theorem Lp:Al z (.str q) H Q=Q (.int (QT z q)) H:=rH
theorem vC:∀(k:Nat)(ys:List Str),zq (ys.map V.str) (strsFrom k ys)
 | _,[]=>.nil
 | k,y::ys=>.cons {k,rfl} (vC (k+1) ys)
def sX:Str->V->Hp->VK->Prop:=λz y H Q=>uS y λq=>(q.length==0)=false/\z.length<sizeLine/\(Pb z q).length<=sizeLine/\∀p H2,New H p (.lst ((Pb z q).map V.str)) H2->Q (.ref p) H2
theorem sN{o e:Og}{to te:TE}(ho:W (PE X o to))(he:W (PE X e te))(S:Pm o "split" X.env (Pa o X.env)=Pa o X.env:=by rfl)(Z:(Z3.endLine==cpos.line)=true:=by rfl)(hp:aB e=true:=by rfl):W (PE X (.Call (.Attribute o "split" Z3) [e] [] cpos) (uM1 to te sX)):=by
 refine {?_};have ho:=ho.h;have he:=he.h;exact
  vQ So PySem.F.type_str_split (λGo s σ H z y t v Q I U q=>by
   obtain ⟨w,rfl,hw,hz,J,q⟩:=q;obtain ⟨u,rfl⟩:=U;have G:∀(ys:List Str)(us:List Value)(k:Nat),ys=Pb z w->zq (ys.map V.str) us->∃x H',Inv X Go σ H' { s with heap:=s.heap.push { cls:=.type "list",data:=.seq us.toArray },toks:=k }/\zm x (.ref s.heap.objs.size)/\Q x H':=λys us k e O=>by
    subst e;have hl:=O.length;rw [NO] at hl;exact {.ref s.heap.objs.size,_,I.laid (t':=k) (o:=.lst _) (λb ob q=>NP _ q) (NV _) {by rw [NO];exact J,us,0,O,N7 _ rfl},rfl,q _ _ (.mk' (I.hok.fresh (NV _)))}
   cases h1:(decide (z.length<w.length)||decide (N9.Str.strKind z<N9.Str.strKind w))
   .cases hf:(N9.Str.occurrences z w 0 z.length (z.length+1)).isEmpty
    .have es:Pb z w=N9.Str.partsBetween z (N9.Str.occurrences z w 0 z.length (z.length+1)) w.length:=(if_neg (ne_true_of_eq_false h1)).trans (if_neg (ne_true_of_eq_false hf));rw [es] at J;exact QM So (RO _ _ _) entry_str_split (args_str_split_2 _ _) (meets_str_split_sep z w t u h1 hw hf (Sa hz) J) (G _ _ _ es.symm (vC _ _))
    .exact QM So (RO _ _ _) entry_str_split (args_str_split_2 _ _) (meets_str_split_not_found z w t u h1 hw hf) (G [z] [.str z t] s.toks ((if_neg (ne_true_of_eq_false h1)).trans (if_pos hf)).symm (.cons {t,rfl} .nil))
   .exact QM So (RO _ _ _) entry_str_split (args_str_split_2 _ _) (meets_str_split_cannot_occur z w t u h1) (G [z] [.str z t] s.toks (if_pos h1).symm (.cons {t,rfl} .nil))) ho he S Z hp
theorem HG:sX z (.str q) H Q=((q.length==0)=false/\z.length<sizeLine/\(Pb z q).length<=sizeLine/\∀p H2,New H p (.lst ((Pb z q).map V.str)) H2->Q (.ref p) H2):=rH
def xM(te:TE):TE:=λσ H Q=>te σ H λx H1=>(∃z,x = .str z/\z.length<=sizeLine/\Q (.str z) H1)\/∃i,x = .int i/\i.natAbs.log2<1920/\Q (.str (toString i)) H1
def iS:V->Hp->VK->Prop:=λx H1 Q=>(∃z,x = .str z/\z.length<=sizeLine/\Q (.str z) H1)\/∃i,x = .int i/\i.natAbs.log2<1920/\Q (.str (toString i)) H1
theorem Dh:xM te σ H Q=te σ H λx H1=>iS x H1 Q:=rfl
theorem Cu:iS (.str z) H Q=(z.length<=sizeLine/\Q (.str z) H):=by simp [iS]
theorem GH:iS (.int i) H Q=(i.natAbs.log2<1920/\Q (.str (toString i)) H):=by simp [iS]
theorem yu(he:W (PE X e te)):W (PE X (.FormattedValue e (-1) none pos) (xM te)):=by
 refine {?_};have he:=he.h;intro Go s σ H Q I h;refine FormattedValue_plain (thn (he Go s σ H _ I h) λv s1=>x5e λx H1 F r1 q1=>?_);rcases q1 with ⟨z,rfl,hz,q⟩|⟨i,rfl,hi,q⟩
 .obtain ⟨t,rfl⟩:=r1;exact formatField_str (λt' tk=>{.str z,H1,F.tok _,{_,rfl},q}) hz
 .obtain ⟨t,rfl⟩:=r1;exact formatField_int_small hi {.str _,H1,F.tok _,{_,rfl},q}
abbrev TJ:=Str->TE
def PJ(X:Cx)(es:List Og)(z:TJ):Prop:=∀(out:Str)(Go:List (Addr×Obj))(s:KE)(σ:St)(H:Hp)(Q:VK),Inv X Go σ H s->z out σ H Q ->
 N2 (N5 X.prog X.w) X.A (joinParts out (evalEach es X.env)) (λu s1=>∃x H',Inv X Go σ H' s1/\zm x u/\Q x H') X.xe s
def yd:TJ:=λout _ H Q=>out.length<=sizeLine/\Q (.str out) H
def wj(te:TE)(z:TJ):TJ:=λout σ H Q=>te σ H λx H1=>uS x λy=>(out++y).length<=sizeLine/\z (out++y) σ H1 Q
theorem Lw:W (PJ X [] yd):={λout Go s σ H Q I h=>joinParts_nil {.str out,H,I.tok _,{_,rfl},h.2} h.1}
theorem qu(he:W (PE X e te))(z:W (PJ X es F)):W (PJ X (e::es) (wj te F)):=by
 refine {?_};have he:=he.h;have z:=z.h;exact λout Go s σ H Q I h=>by
  refine joinParts_cons (thn (he Go s σ H _ I h) λv s1=>x5e λx H1 J r1 q1=>?_);obtain ⟨y,rfl,G,q⟩:=q1;obtain ⟨t,rfl⟩:=r1;exact {G,z _ Go s1 σ H1 Q J q}
def uX(z:TJ):TE:=z Sm
theorem Fp:uX z=z Sm:=rfl
theorem CD(h:W (PJ X (e::F::es) z)):W (PE X (.JoinedStr (e::F::es) pos) (uX z)):=by refine {?_};have h:=h.h;exact λGo s σ H Q I q=>JoinedStr_many (h Sm Go s σ H Q I q)
def gq:List V->Hp->VK->Prop:=λxs H Q=>fq xs H Q\/∃z n,xs=[.str z]/\z.length<=640/\PL z=some n/\Q (.int n) H
theorem y9:zU X (.type "int") gq:=by
 intro Go s σ H xs us Q I r h;rcases h with h|⟨z,n,rfl,hl,G,q⟩
 .exact Mo Go s σ H xs us Q I r h
 .cases r with
  | cons r1 F =>
   cases F;obtain ⟨t,rfl⟩:=r1;exact PySem.W.KIN.call_text G hl {.int n,H,I.tok _,{_,rfl},q}
theorem ND:gq [.int i] H Q=Q (.int i) H:=by simp [gq,fq]
theorem Ll{k:Bool}:gq [.bl k] H Q=Q (.int (if k then 1 else 0)) H:=by simp [gq,fq]
theorem GY:gq [.str z] H Q = ∃n,z.length<=640/\PL z=some n/\Q (.int n) H:=by simp [gq,fq]
def jq:List V->Hp->VK->Prop:=λxs H Q=>ib xs H Q\/∃z,xs=[.str z]/\Q (.str z) H
theorem dI:zU X (.type "str") jq:=by
 intro Go s σ H xs us Q I r h;rcases h with h|⟨z,rfl,q⟩
 .exact JG Go s σ H xs us Q I r h
 .cases r with
  | cons r1 F =>
   cases F;obtain ⟨t,rfl⟩:=r1;exact PySem.P.str_of_str {.str z,H,I,{_,rfl},q}
theorem Ju:jq [.int i] H Q=(i.natAbs.log2<1920/\Q (.str (toString i)) H):=by simp [jq,ib]
theorem Ec:jq [.str z] H Q=Q (.str z) H:=by simp [jq,ib]
def qK:List V->Hp->VK->Prop:=λxs H Q=>∃x,xs=[.str x]/\x.length=1/\Q (.int (x.cps.getD 0 0:Nat)) H
theorem ya:zU X (.builtin "ord") qK:=Cn
theorem Le:qK [.str x] H Q=(x.length=1/\Q (.int (x.cps.getD 0 0:Nat)) H):=by simp [qK]
end
def tx(l:List Nat):Str:=⟨l.toArray⟩
def sg(z:Str):List Nat:=z.cps.toList
theorem aL(l:List Nat):sg (tx l)=l:=by simp [sg,tx]
theorem gM(z:Str):tx (sg z)=z:=by cases z;simp [sg,tx]
theorem fW{a b:Str}(h:sg a=sg b):a=b:=by rw [<- gM a,h,gM]
theorem bj(a b:Str):sg (a++b)=sg a++sg b:=by simp [sg,Str.cps_append]
theorem zJ(z:Str):(sg z).length=z.length:=by simp [sg,Str.length]
theorem fN(l:List Nat):(tx l).length=l.length:=by simp [tx,Str.length]
def c1(c:Nat):Str:={#[c]}
theorem jZ:StrLaws.At x (c1 c) x.length i↔(sg x)[i]?=some c:=by
 unfold StrLaws.At;rw [StrLaws.subAt_eq];show i+1<=x.length/\((((sg x).drop i).take 1)==[c])=true↔_;rw [<- zJ x];constructor
 .rintro ⟨h1,h2⟩;have h2:=eq_of_beq h2;rw [NL 'l'];have h3:((sg x).drop i).take 1=[(sg x)[i]''l']:=by
   rw [Qr 'l'];rfl
  rw [h3] at h2;injection h2 with h2 _
  rw [h2]
 .intro h;obtain ⟨h1,h2⟩:=NU.mp h;refine {'l',?_};rw [Qr h1,h2];simp
theorem xa(y:Str)(c:Nat):(!(N9.Str.occurrences y {#[c]} 0 y.length 1).isEmpty)=(sg y).contains c:=by
 rcases StrLaws.occ_head y (c1 c) 1 (NV _) with ⟨h,z⟩|⟨i,r,h,ha,_⟩
 .rw [show N9.Str.occurrences y {#[c]} 0 y.length 1=[] from h];symm;show (sg y).contains c=false;rw [Pu];intro hc;obtain ⟨i,hi,e⟩:=PX (Pz.mp hc);exact z i (jZ.mpr (by rw [NL hi,e]))
 .rw [show N9.Str.occurrences y {#[c]} 0 y.length 1=i::r from h];symm;exact Pz.mpr (OS (jZ.mp ha))
def z5(c:Nat):List Nat->List (List Nat)
 | []=>[[]]
 | x::t=>if x=c then []::z5 c t else match z5 c t with
  | []=>[[x]]
  | h::r=>(x::h)::r
def g6(p:List Nat):List (List Nat)->List (List Nat)
 | []=>[p]
 | h::r=>(p++h)::r
theorem dJ(c:Nat):∀l,∃h r,z5 c l=h::r
 | []=>{_,_,rfl}
 | x::t=>by
  unfold z5;split
  .exact {_,_,rfl}
  .obtain ⟨h,r,e⟩:=dJ c t;rw [e];exact {_,_,rfl}
theorem eA(c x:Nat)(t:List Nat)(h:x≠c):z5 c (x::t)=g6 [x] (z5 c t):=by
 obtain ⟨a,r,e⟩:=dJ c t;show (if x=c then _ else _)=_;rw [if_neg h,e];rfl
theorem II(p q:List Nat)(l:List (List Nat)):g6 p (g6 q l)=g6 (p++q) l:=by
 cases l<;>simp [g6]
theorem pL(s:Str)(c hi z:Nat):∀(l:List Nat)(st:Array Nat×Nat),(∀i∈l,st.2<=i)->l.Pairwise (· < ·)->st.1.size+l.length<=z ->
  (forIn l st (StrLaws.occBody s (c1 c) hi z)).run.fst.toList=st.1.toList++l.filter λi=>decide (i+1<=hi)&&N9.Str.subAt s (c1 c) i
 | [],st,_,_,_=>by simp
 | a::l,st,h1,h2,h3=>by
  rw [Tq];unfold StrLaws.occBody;have ha:=h1 a (NX ..);rw [Pf] at h2;simp only [OJ] at h3;split
  .rename_i hc;have G:=pL s c hi z l (st.1.push a,a+(c1 c).length) (λi hi=>by have:=h2.1 i hi;show a+1<=i;lia) h2.2 (by simp;lia);have F:(decide (a+1<=hi)&&N9.Str.subAt s (c1 c) a)=true:=by rw [Od];exact {decide_eq_true hc.1.2,hc.2}
   rw [Qv,F,if_pos rfl];refine Eq.trans G ?_;simp
  .rename_i hc;have G:=pL s c hi z l st (λi hi=>h1 i (NR _ hi)) h2.2 'l';have F:(decide (a+1<=hi)&&N9.Str.subAt s (c1 c) a)=false:=by
    rw [Pu];intro h;rw [Od] at h;exact hc {{{'l',ha},of_decide_eq_true h.1},h.2}
   rw [Qv,F,if_neg 'z'];exact G
theorem vS(x:Str)(c:Nat):N9.Str.occurrences x (c1 c) 0 x.length (x.length+1)=(range' 0 (x.length+1)).filter λi=>(sg x)[i]? == some c:=by
 rw [StrLaws.occ_eq];rw [pL x c x.length (x.length+1) _ _ (λ_ _=>O9 _) (List.pairwise_lt_range' (s:=0) (n:=x.length+1-0)) 'z'];simp only [Q3,Nat.sub_zero];refine List.filter_congr λi _=>?_;rw [Qd];have:=jZ (x:=x) (c:=c) (i:=i);unfold StrLaws.At at this;rw [Od,decide_eq_true_eq,beq_iff_eq];exact this
theorem rq(x:Str)(c:Nat):∀(k a i:Nat),i+k=x.length->a<=i->StrLaws.partsFrom x 1 a ((range' i (k+1)).filter λi=>(sg x)[i]? == some c)=(g6 (((sg x).drop a).take (i-a)) (z5 c ((sg x).drop i))).map tx
 | 0,a,i,h,ha=>by
  have hl:=zJ x;have S:(sg x)[i]?=none:=QW 'l';have W:(sg x).drop i=[]:=QO 'l';have J:(range' i (0+1)).filter (λi=>(sg x)[i]? == some c)=[]:=by
   show List.filter _ [i]=[];rw [Qv,S];rfl
  rw [W,J];show [N9.Str.strSub x a x.length]=[tx _];refine congrArg (·::[]) (fW ?_);rw [aL];show (N9.Str.strSub x a x.length).cps.toList=_;rw [StrLaws.strSub_toList,show x.length=i by lia];simp [z5,sg]
 | k+1,a,i,h,ha=>by
  have hl:=zJ x;have hi:i<(sg x).length:=by lia
  have z:(sg x)[i]?=some ((sg x)[i]):=NL hi;have O:(sg x).drop i=(sg x)[i]::(sg x).drop (i+1):=Qr hi;rw [Ta,Qv,z,O];by_cases hc:(sg x)[i]=c
  .rw [if_pos (by simp [hc])];have F:=rq x c k (i+1) (i+1) 'l' (NV _);show N9.Str.strSub x a i::StrLaws.partsFrom x 1 (i+1) _=_;rw [F];have G:z5 c ((sg x)[i]::(sg x).drop (i+1))=[]::z5 c ((sg x).drop (i+1)):=by
    show (if _=c then _ else _)=_;rw [if_pos hc]
   rw [G];obtain ⟨p,r,e⟩:=dJ c ((sg x).drop (i+1));rw [e];simp only [RZ,SZ,g6,Q3,Pr,Pi];refine congrArg (·::_) (fW ?_);rw [aL];exact StrLaws.strSub_toList x a i
  .rw [if_neg (by simp [hc])];rw [rq x c k a (i+1) 'l' 'l',eA c _ _ hc,II];have U:((sg x).drop a).take (i+1-a)=((sg x).drop a).take (i-a)++[(sg x)[i]]:=by
    rw [show i+1-a=(i-a)+1 by lia,OU];congr 1;rw [List.getElem?_drop,show a+(i-a)=i by lia,z];rfl
   rw [U]
theorem Be:∀{l:List Nat},c∉l->z5 c l=[l]
 | [],_=>rfl
 | x::t,h=>by
  rw [NT,not_or] at h;rw [eA c x t (OY h.1),Be h.2];rfl
theorem lY(x:Str)(hc:c<128):Pb x (c1 c)=(z5 c (sg x)).map tx:=by
 have J:N9.Str.strKind (c1 c)=1:=by
  unfold N9.Str.strKind;rw [if_pos];show (#[c]:Array Nat).all (· < 256)=true;simp;lia
 have z : ¬ N9.Str.strKind x<N9.Str.strKind (c1 c):=by
  rw [J];unfold N9.Str.strKind;split<;>(try split)<;>lia
 have F:c∉sg x->[x]=(z5 c (sg x)).map tx:=λh=>by rw [Be h];show [x]=[tx (sg x)];rw [gM]
 unfold Pb;split
 .rename_i h;rw [decide_eq_false z,SX,decide_eq_true_eq] at h;have h:x.length<1:=h;rw [<- zJ] at h;refine F ?_;have G:sg x=[]:=List.eq_nil_of_length_eq_zero 'l';rw [G];exact Oh
 .split
  .rename_i h;refine F λhm=>?_;obtain ⟨i,hi,e⟩:=PX hm;rw [vS] at h;have:i∈(range' 0 (x.length+1)).filter λi=>(sg x)[i]? == some c:=by
    rw [Sq];refine {?_,by rw [NL hi,e];simp};rw [List.mem_range'_1];rw [zJ] at hi;lia
   rw [List.isEmpty_iff.mp h] at this;exact absurd this Oh
  .rw [StrLaws.partsBetween_eq,vS];show StrLaws.partsFrom x 1 0 _=_;rw [rq x c x.length 0 0 'l' (NV _)];simp only [RZ,SZ,drop_zero];obtain ⟨h,r,e⟩:=dJ c (sg x);rw [e];rfl
theorem rk(x:Str)(c hi:Nat):∀(l:List Nat)(st:Option Nat),(forIn l st (λi r=>if (decide (i+(c1 c).length<=hi)&&N9.Str.subAt x (c1 c) i)=true then (pure (ForInStep.yield (some i)):Id _) else pure (ForInStep.yield r))).run =
  l.foldl (λZZ i=>if (decide (i+1<=hi)&&N9.Str.subAt x (c1 c) i)=true then some i else ZZ) st
 | [],st=>rfl
 | a::l,st=>by
  rw [Tq,Tg];show _=l.foldl _ (if (decide (a+(c1 c).length<=hi)&&N9.Str.subAt x (c1 c) a)=true then some a else st);split
  .exact rk x c hi l _
  .exact rk x c hi l _
theorem yk(x:Str)(c:Nat):N9.Str.lastOccurrence x (c1 c) 0 x.length=(range' 0 (x.length+1)).foldl (λZZ i=>if (sg x)[i]?=some c then some i else ZZ) none:=by
 have e:N9.Str.lastOccurrence x (c1 c) 0 x.length=(forIn (range' 0 (x.length+1)) none (λi r=>if (decide (i+(c1 c).length<=x.length)&&N9.Str.subAt x (c1 c) i)=true then (pure (ForInStep.yield (some i)):Id _) else pure (ForInStep.yield r))).run:=by
  unfold N9.Str.lastOccurrence;simp
 rw [e,rk];congr 1;funext ZZ i;have:=jZ (x:=x) (c:=c) (i:=i);unfold StrLaws.At at this;by_cases h:(sg x)[i]?=some c
 .rw [if_pos h,if_pos];rw [Od,decide_eq_true_eq];exact this.mpr h
 .rw [if_neg h,if_neg];intro q;rw [Od,decide_eq_true_eq] at q;exact h (this.mp q)
theorem sj{p:Nat->Prop} [DecidablePred p]:∀(l:List Nat)(a:Option Nat),(∀i∈l,¬ p i)->l.foldl (λZZ i=>if p i then some i else ZZ) a=a
 | [],_,_=>rfl
 | x::l,a,h=>by
  rw [Tg,if_neg (h x (NX ..))];exact sj l a λi hi=>h i (NR _ hi)
theorem Hn{a b:List Nat}(h:sg x=a++c::b)(hb:c∉b):QT x (c1 c)=a.length:=by
 have hl:x.length=a.length+(b.length+1):=by rw [<- zJ,h];simp
 have e:N9.Str.lastOccurrence x (c1 c) 0 x.length=some a.length:=by
  rw [yk,show x.length+1=a.length+((b.length+1)+1) by lia,<- List.range'_append_1,PD,Ta,Tg];rw [if_pos (by rw [h];simp),Nat.zero_add];refine sj (p:=λi=>(sg x)[i]?=some c) _ _ λi hi=>?_;rw [List.mem_range'_1] at hi;intro q;rw [h,Rb 'l'] at q;obtain ⟨j,z⟩:∃j,i-a.length=j+1:={i-a.length-1,'l'};rw [z,Rv] at q;exact hb (OS q)
 show (match N9.Str.lastOccurrence x (c1 c) 0 x.length with|some i=>(i:Int)|none=>-1)=_;rw [e]
theorem kU(h:c∉sg x):QT x (c1 c) = -1:=by
 have e:N9.Str.lastOccurrence x (c1 c) 0 x.length=none:=by
  rw [yk];exact sj (p:=λi=>(sg x)[i]?=some c) _ _ λi _ q=>h (OS q)
 show (match N9.Str.lastOccurrence x (c1 c) 0 x.length with|some i=>(i:Int)|none=>-1)=_;rw [e]
theorem gv(h:j<=(sg x).length):OT x none (some (j:Int))=tx ((sg x).take j):=by
 have e:=StrLaws.sliceText_to (x:=x) (j:=(j:Int)) {'l',by simpa [sg] using h};refine Eq.trans (show OT x none (some (j:Int))=StrLaws.sliceText x none (some (j:Int)) from rfl) (e.trans ?_);show tx _=tx _;simp [sg]
theorem ng(h:0<(sg x).length):OT x none (some (-1))=tx ((sg x).dropLast):=by
 rw [zJ] at h;have e:=StrLaws.sliceText_to_neg (x:=x) (j:=-1) 'l' 'l';refine Eq.trans (show OT x none (some (-1))=StrLaws.sliceText x none (some (-1)) from rfl) (e.trans ?_);show tx _=tx _;rw [List.dropLast_eq_take,zJ,drop_zero,show (-1+(x.length:Int)-0).toNat=x.length-1 by lia];rfl
theorem iT(m:Nat):sg (toString ((m:Nat):Int):Str)=(Tr 10 m).map Char.toNat:=PySem.W.KIN.signs_num m
section
variable {X:Cx}{tg:Og}
def oF(K:NQ)(tl:TE):TI:=λσ H R=>tl σ H λx H1=>uR x λa=>(∃xs,SqL K H1 a xs/\R (Itl K a) H1)\/∃xs,SqT K H1 a xs/\R (Itt K a) H1
theorem EO{K:NQ}:oF K tl σ H R=tl σ H λx H1=>uR x λa=>(∃xs,SqL K H1 a xs/\R (Itl K a) H1)\/∃xs,SqT K H1 a xs/\R (Itt K a) H1:=rfl
theorem HE(hl:PE X l tl):PIc true X tg l (oF X.K tl):=by
 intro Go s σ H R I h;refine thn (hl Go s σ H _ I h) λv s1=>x5e λx H1 z r1 q1=>?_;obtain ⟨a,e,q1⟩:=q1;subst e;cases r1;rcases q1 with ⟨xs,F,q⟩|⟨xs,F,q⟩
 .obtain ⟨G,J,p,hz⟩:=z.list F;refine Rx p.isList {s1.heap.objs.size,[s1.heap.objs.size],_,_,H1,rfl,z.kept (t':=s1.toks) λb o e=>NP _ e,yA a _,{_,N7 _ rfl,rfl,rfl},λb hb=>?_,q};have e:b=s1.heap.objs.size:=by simpa using hb
  subst e;exact z.UQ (NV _) (z.hok.fresh (NV _))
 .obtain ⟨G,J,p,hz⟩:=z.tuple F;refine wpAny_pyIter_tuple (show s1.heap.IsTuple a G.toArray from p) {s1.heap.objs.size,[s1.heap.objs.size],_,_,H1,rfl,z.kept (t':=s1.toks) λb o e=>NP _ e,vw a _,{_,N7 _ rfl,rfl,rfl},λb hb=>?_,q};have e:b=s1.heap.objs.size:=by simpa using hb
  subst e;exact z.UQ (NV _) (z.hok.fresh (NV _))
theorem NJ(hl:W (PE X l tl)):W (PIc true X tg l (oF X.K tl)):={HE hl.h}
end
section
variable {K:NQ}{g:TG}{tt:TT}{te:TE}{H:Hp}{Q:VK}{R:It->Hp->Prop}
theorem FF{a:Addr}{H:Hp}{Q:VK}:eE c (.ref a) .non H Q=Q (.bl (if c then true else false)) H:=by simp [eE]
theorem HJ{a:Str}{H:Hp}{Q:VK}:eE c (.str a) .non H Q=Q (.bl (if c then true else false)) H:=by simp [eE]
theorem dS(z:Str):asc z=(sg z).all (· < 128):=by simp [asc,sg]
end
def AC(h:Heap)(e:Addr):Prop:=∃oe vs T,h.get? e=some oe/\oe.data = .fields vs/\vs[1]?=some (N6 T)
section
variable {M:Model}{A:Of}{E:Value->KE->Prop}{s:KE}{Hc:Hp}{B:Heap}{env:Env}{outer l:List Env}{L e:Addr}{cls fl:Value}
theorem wV(Yy:A.frames=some (env::outer))(hf:env.frame=some L)(st:B.StaysIn s.heap)(U:B.get? e=none)(hl:s.heap.FunFrames B (env::outer))(he:s.heap.get? e=some oe)(hc:oe.cls=cls)(YC:oe.dict=none)(hd:oe.data = .fields vs)(hz:2<vs.size)(h2:Ctx Hc vs)(k:∀h',br Hc B (env::outer) e cls (Pj L) h'->AC h' e->s.heap.UpToSlots h'->Q () { s with heap:=h' }):
  N2 M A (do let a<-frameOf env;let pl<-entryPlaceOf L F;let b<-EntryCells.newEntry head a .none (Pj L) .none pl;Q1 (.ref e) 1 b) Q E s:=by
 have G:e∉(env::outer).filterMap (·.frame):=λz=>by
  obtain ⟨_,o,ho,nf⟩:=hl.mem z;rw [he] at ho;cases ho;exact nf vs hd
 refine we (wpAny_frameOf_fun Yy hl hf λg only=>?_);obtain ⟨_,same,slots⟩:=only;refine we (wpAny_entryPlaceOf λpl Yu=>?_);have XA:∀(tb:Obj)(ts:Array Value),tb.data = .fields ts->ts[3]?=some (Pj L)->N2 M A (Q1 (.ref e) 1 (.ref g.objs.size)) Q E { s with heap:=g.push tb }:=by
  intro tb ts td Z;have W:g.get? e=some oe:=(same e G).trans he;have J:(g.push tb).get? e=some oe:=NP _ W;have hT:(g.push tb).get? g.objs.size=some tb:=N7 _ (by rw [Pt td]);have S:g.objs.size≠e:=R8 (Os W);have fresh:B.get? g.objs.size=none:=by
   cases q:B.get? g.objs.size with
   | none=>rfl
   | some o =>
    obtain ⟨sl,z⟩:=slots _ o (st _ o q);exact absurd (Os z) (OF _)
  have up:∀b o,b≠e->g.get? b=some o->((g.push tb).update e (Rc (·.setIfInBounds 1 (.ref g.objs.size)))).get? b=some o:=λb o hb q =>
   (Oz _ _ (OY hb)).trans (NP _ q)
  have O:∀b o,s.heap.get? b=some o->(∀ws,o.data≠.fields ws)->b≠e:=λb o q nf z=>by
   rw [z,he] at q;cases q;exact nf vs hd
  have dd:=PY hd (·.setIfInBounds 1 (N6 g.objs.size));refine O5 J hd 'l' (k _ {λb o q=>?_,U,?_,?_} {_,_,g.objs.size,OW _ J (Pt dd),dd,by rw [OZ 'l']} λb o q nf=>?_)
  .refine up b o (λz=>by rw [z,U] at q;cases q) ((same b λz=>?_).trans (st b o q));rw [(hl.mem z).1] at q;cases q
  .refine hl.of_keeps λb o q nf=>?_;obtain ⟨sl,z⟩:=slots b o q;exact {_,up b _ (O b o q nf) z,rfl}
  .refine {_,_,OW _ J (Pt dd),(QY _ _).trans hc,(tG _ _).trans YC,dd,by simpa using hz,(by obtain ⟨cv,q1,q2⟩:=h2;exact {cv,by rw [RL 'd'];exact q1,q2}),.inr {g.objs.size,tb,ts,?_,fresh,S,?_,td,Z}}
   .rw [OZ 'l']
   .rw [Oz _ _ (OY S)];exact hT
  .obtain ⟨sl,z⟩:=slots b o q;exact {sl,up b _ (O b o q nf) z}
 unfold EntryCells.newEntry newFields;refine we (OQ ?_ (Yu.sizeOk5 _ _ _ _ _));exact XA _ _ rfl 'z'
theorem yq(Yy:A.frames=some (env::outer))(hf:env.frame=some L)(x:br Hc B (env::outer) e cls fl s.heap)(k:∀h',br Hc B (env::outer) e cls (Pj L) h'->AC h' e->s.heap.UpToSlots h'->Q () { s with heap:=h' }):N2 M A (RR (.ref e) env) Q E s:=by
 obtain ⟨st,O,hl,oe,vs,he,hc,S,hd,hz,h2,h1⟩:=x;unfold RR;simp only [hf];rcases h1 with h1|⟨T,oT,ts,h1,W,U,G,dT,J⟩
 .refine we (O6 he hd h1 ?_);rw [if_neg (show ¬ ((OL != OL)=true) by decide)];exact wV Yy hf st O hl he hc S hd hz h2 k
 .refine we (O6 he hd h1 ?_);rw [if_pos (show (N6 T != OL)=true by simp)];refine we (O6 G dT J ?_);by_cases F:fl=Pj L
  .subst F;rw [if_pos (show (Pj L==Pj L)=true by simp)];exact NN (k s.heap {st,O,hl,oe,vs,he,hc,S,hd,hz,h2,.inr ⟨T,oT,ts,h1,W,U,G,dT,J⟩} ⟨oe,vs,T,he,hd,h1⟩ (UpToSlots.refl _))
  .rw [if_neg (show ¬ ((fl==Pj L)=true) by simpa using F)];refine we (O5 G dT (Px.mp J).1 ?_);have oth:∀b,b≠T->(s.heap.update T (Rc (·.setIfInBounds 3 OL))).get? b=s.heap.get? b:=λb hb=>Oz _ _ (OY hb);have Z:∀b o,s.heap.get? b=some o->(∀ws,o.data≠.fields ws)->b≠T:=λb o q nf z=>by
    rw [z,G] at q;cases q;exact nf ts dT
   refine wV (B:=B) (cls:=cls) Yy hf (λb o q=>?_) O (hl.of_keeps λb o q nf=>{o,(oth b (Z b o q nf)).trans q,rfl}) ((oth e (OY U)).trans he) hc S hd hz h2 λh' y ht up=>k h' y ht λb o q nf=>up b o ((oth b (Z b o q nf)).trans q) nf;exact (oth b λz=>by rw [z,W] at q;cases q).trans (st b o q)
theorem vk(x:br Hc B l e cls fl s.heap)(k:∀h',br Hc B l e cls (Pj L) h'->s.heap.UpToSlots h'->Q () { s with heap:=h' }):N2 M A (setFlight (.ref e) (some L)) Q E s:=by
 obtain ⟨st,S,hl,oe,vs,he,hc,W,hd,hz,h2,h1⟩:=x;unfold setFlight;rcases h1 with h1|⟨T,oT,ts,h1,O,J,G,dT,Z⟩
 .refine we (O6 he hd h1 ?_);rw [if_neg (show ¬ ((OL != OL)=true) by decide)];exact NN (k s.heap {st,S,hl,oe,vs,he,hc,W,hd,hz,h2,.inl h1} (UpToSlots.refl _))
 .refine we (O6 he hd h1 ?_);rw [if_pos (show (N6 T != OL)=true by simp)];have F:3<ts.size:=(Px.mp Z).1;have dd:=PY dT (·.setIfInBounds 3 (Pj L));have oth:∀b,b≠T->(s.heap.update T (Rc (·.setIfInBounds 3 (Pj L)))).get? b=s.heap.get? b:=λb hb=>Oz _ _ (OY hb);have U:∀b o,s.heap.get? b=some o->(∀ws,o.data≠.fields ws)->b≠T:=λb o q nf z=>by
   rw [z,G] at q;cases q;exact nf ts dT
  refine O5 G dT F (k _ {λb o q=>(oth b λz=>by rw [z,O] at q;cases q).trans (st b o q),S,hl.of_keeps λb o q nf=>{o,(oth b (U b o q nf)).trans q,rfl},oe,vs,(oth e (OY J)).trans he,hc,W,hd,hz,h2,
   .inr {T,_,_,h1,O,J,OW _ G (Pt dd),dd,?_}} λb o q nf=>{o.slots,(oth b (U b o q nf)).trans q})
  rw [OZ F]
end
def jB(X:Cx)(Ex:Addr->St->Hp->Prop):Value->KE->Prop:=λe s'=>∃(ea C:Addr)(B:Heap)(H':Hp)(fl:Value)(σ:St)(z:KE)(Go:List (Addr×Obj)),e = .ref ea/\Inv X Go σ H' z/\br H' B X.stack ea (.ref C) fl s'.heap /\
 s'.os=z.os/\QZ s'.gens/\(∀b o,z.heap.get? b=some o->b∉frs X.stack->B.get? b=some o)/\z.heap.UpToSlots s'.heap/\Ex C σ H'
abbrev cxF(X:Cx)(Ex:Addr->St->Hp->Prop):Cx:=X.Pv (jB X Ex)
theorem dr:aQ (cxF X Ex) Ex:=λps σ H F ea C B fl s' I y os bare z up q =>
 {ea,C,B,H,fl,σ,F,ps,rfl,I.qf,y,os,bare,z,up,q}
theorem mn(hst:X.stack=X.env::X.outer)(Yy:X.Ok->X.A.frames=some (X.env::X.outer))(z:X.env.frame=some L):PN (N5 X.prog X.w) X.A X.env (jB X Ex):=by
 rintro e s' ⟨ea,C,B,H',fl,σ,G,Go,rfl,I,y,os,bare,O,up,q⟩;have W:=Yy I.ok;rw [hst] at y;refine yq W z y λh1 S J u1=>?_;obtain ⟨oe,vs,T,g1,U,Z⟩:=J;refine we (O6 g1 U Z ?_);rw [if_neg (show ¬ ((N6 T==OL)=true) by simp)];rw [z];refine vk (s:={ s' with heap:=h1 }) S λh2 F u2=>?_;rw [<- hst] at F;exact {ea,C,B,H',_,σ,G,Go,rfl,I,F,os,bare,O,(up.trans u1).trans u2,q}
theorem PS.thr{st:Stmt}{t:TS}(T:aQ X Ex)(h:PS (cxF X Ex) st t):PS X st t:=λGo s σ H D I hw =>
 Ow (h Go s σ H D (I.Pv _) hw) (λ_ _ q=>q.qf) <| by
  rintro e s' ⟨ea,C,B,H',fl,z,J,ps,he,G,y,os,bare,F,up,q⟩;subst he;exact T ps z H' J ea C B fl s' G y os bare F up q
theorem mB{st:Stmt}{t:TS}(T:aQ X Ex)(h:W (PS (cxF X Ex) st t)):W (PS X st t):={PS.thr T h.h}
section
variable {X:Cx}
theorem vd{K:NQ}(h:X.K=K):zU X (.builtin "isinstance") (jI K):=by subst h;exact jR
end
theorem JJ(W:X.N.Nodup)(ak:X.N[i0]?=some z)(O:Loc X.env.scope z)(hc:c=true->X.calm=true)(L:aA X sc N' ix)(hi:PIc c X tg iter wi)(hg:∀Go C fp s H,PG (zC X sc N' Go C fp s H) tg g)(ht:∀Go C fp s H,PTs (zC X sc N' Go C fp s H) F tt)(he:∀Go C fp s H,PE (zC X sc N' Go C fp s H) Y7 te)(hs:∀x,OK iter X.env x=pure x:=by intro _;rfl)(S:swapsWith (.ListComp Y7 [{tg,iter,F,0}] sc pos) (some (.Name z YS)) Xy.line X.env=pure true:=by rfl)(U:X.fn z=true\/X.env.scope.names.lookup z=some .local:=by first|exact .inl rfl|exact .inr rfl|assumption):
  PS X (.Assign [.Name z YS] (.ListComp Y7 [{tg,iter,F,0}] sc pos) Xy) (jx (tLC ix wi g tt te) (cU i0)):=by
 intro Go s σ H Z I h;rw [exec_Assign_Name_used z YS _ Xy S];refine we (OX (we ?_));rw [arm_evalThenUse_ListComp];show N2 (N5 X.prog X.w) X.A (comprehension (.ListComp Y7 [{tg,iter,F,0}] sc pos) sc X.env (firstIterPos [{tg,iter,F,0}] pos) (newList []) (firstAsync [{tg,iter,F,0}]) (firstIter [{tg,iter,F,0}] X.env) (some (SQ (.Name z YS) X.env))>>=λ_=>pure ()) _ _ _;refine we (vm hc L hi hg ht he hs I h λC D oC H' s5 m5 IX ns tu q=>?_);refine thn (xV W ak O U (Go++[(C,oC)]) s5 σ H' (.ref D) (.ref D) Z.nx IX rfl q) λ_ s6=>x4e λJ H6 G q6=>?_;obtain ⟨p6,av,_⟩:=G.pin (C,oC) (NY _ (NY _ (OO.mpr rfl)));exact {m5,ns p6,λh' Xd=>NN (NN {J,H6,tu (G.ti λp hp=>G.pin p (NY _ (Oo _ hp))) av Xd,q6})}
theorem Jm(S:X.N.Nodup)(U:X.N[i0]?=some z)(G:Loc X.env.scope z)(hc:c=true->X.calm=true)(L:aA X sc N' ix)(hi:W (PIc c X tg iter wi))(hg:∀Go C fp s H,W (PG (zC X sc N' Go C fp s H) tg g))(ht:∀Go C fp s H,W (PTs (zC X sc N' Go C fp s H) F tt))(he:∀Go C fp s H,W (PE (zC X sc N' Go C fp s H) Y7 te))(hs:∀x,OK iter X.env x=pure x:=by intro _;rfl)(J:swapsWith (.ListComp Y7 [{tg,iter,F,0}] sc pos) (some (.Name z YS)) Z.line X.env=pure true:=by rfl)(O:X.fn z=true\/X.env.scope.names.lookup z=some .local:=by first|exact .inl rfl|exact .inr rfl|assumption):
  W (PS X (.Assign [.Name z YS] (.ListComp Y7 [{tg,iter,F,0}] sc pos) Z) (jx (tLC ix wi g tt te) (cU i0))) :=
 {JJ S U G hc L hi.h (λa b c d e=>(hg a b c d e).h) (λa b c d e=>(ht a b c d e).h) (λa b c d e=>(he a b c d e).h) hs J O}
section
variable {κ:Type} [DecidableEq κ]
def af(kvs:List (κ×V))(k:κ):Option V:=(kvs.find? λz=>decide (z.1=k)).map (·.2)
def aM(kvs:List (κ×V))(k:κ)(v:V):List (κ×V) :=
 if (kvs.any λz=>decide (z.1=k))=true then kvs.map (λz=>if z.1=k then (z.1,v) else z) else kvs++[(k,v)]
def bV(kvs:List (κ×V))(k:κ):List (κ×V):=kvs.filter λz=>decide (z.1≠k)
theorem jM{p:κ×V}{r:List (κ×V)}{k:κ}(e:p.1=k):af (p::r) k=some p.2:=by simp [af,RU,e]
theorem jj{p:κ×V}{r:List (κ×V)}{k:κ}(e : ¬ p.1=k):af (p::r) k=af r k:=by simp [af,RU,e]
theorem rD(k:κ):∀kvs:List (κ×V),(kvs.any λz=>decide (z.1=k))=(af kvs k).isSome
 | []=>rfl
 | p::r=>by
  rw [Tu];by_cases e:p.1=k
  .simp only [jM e,decide_eq_true e,Bool.true_or,isSome_some]
  .rw [jj e,decide_eq_false e,Bool.false_or];exact rD k r
theorem vi(kvs:List (κ×V))(k:κ)(v:V):(aM kvs k v).length<=kvs.length+1:=by
 unfold aM;split
 .rw [NO];lia
 .rw [Ov,OJ,Q5];lia
theorem bF.vx{o:Option V}(r:bF o u):o.isSome=u.isSome:=by
 cases o with
 | none=>cases u with
  | none=>rfl
  | some _=>exact (show False from r).elim
 | some _=>cases u with
  | none=>exact (show False from r).elim
  | some _=>rfl
theorem bF.getD{o:Option V}{d:V}(r:bF o u)(rd:zm d d'):zm (o.getD d) (u.getD d'):=by
 cases o with
 | none=>cases u with
  | none=>exact rd
  | some _=>exact (show False from r).elim
 | some _=>cases u with
  | none=>exact (show False from r).elim
  | some _=>exact r
theorem KV.val(r:KV kvs vs)(k:κ):bF (af kvs k) (RX vs k):=by
 unfold KV at r
 induction r with
 | nil=>exact True.intro
 | @cons p q ps G h t J =>
  obtain ⟨h1,h2⟩:=h;by_cases e:p.1=k
  .have F:q.1=k:=h1.symm.trans e;have b:RX (q::G) k=some q.2:=by simp [RX,RU,F]
   rw [jM e,b];exact h2
  .have F : ¬ q.1=k:=λz=>e (h1.trans z);have b:RX (q::G) k=RX G k:=by simp [RX,RU,F]
   rw [jj e,b];exact J
theorem KV.any(r:KV kvs vs)(k:κ):(kvs.any λz=>decide (z.1=k))=vs.any λz=>decide (z.1=k):=by
 unfold KV at r
 induction r with
 | nil=>rfl
 | cons h t F=>rw [Tu,Tu,F,h.1]
theorem KV.bx(r:KV kvs vs)(k:κ)(J:zm y u):
  KV (kvs.map λF=>if F.1=k then (F.1,y) else F) (vs.map λF=>if F.1=k then (F.1,u) else F):=by
 unfold KV at r ⊢
 induction r with
 | nil=>exact .nil
 | @cons p q ps O h t G =>
  rw [Pi,Pi];refine .cons ?_ G;obtain ⟨h1,h2⟩:=h;by_cases e:p.1=k
  .rw [if_pos e,if_pos (h1.symm.trans e)];exact ⟨h1,J⟩
  .rw [if_neg e,if_neg (λz=>e (h1.trans z))];exact ⟨h1,h2⟩
theorem KV.put(r:KV kvs vs)(k:κ)(z:zm y u):KV (aM kvs k y) (stored vs k u):=by
 unfold aM stored;rw [r.any k];by_cases e:(vs.any λF=>decide (F.1=k))=true
 .rw [if_pos e,if_pos e];exact r.bx k z
 .rw [if_neg e,if_neg e];exact Paired.snoc r {rfl,z}
theorem KV.drop(r:KV kvs vs)(k:κ):KV (bV kvs k) (without vs k):=by
 unfold KV at r ⊢;unfold bV without
 induction r with
 | nil=>exact .nil
 | @cons p q ps J h t F =>
  obtain ⟨h1,h2⟩:=h;rw [Qv,Qv];by_cases e:p.1=k
  .have a : ¬ decide (p.1≠k)=true:=by simp [e]
   have b : ¬ decide (q.1≠k)=true:=by simp [h1.symm.trans e]
   rw [if_neg a,if_neg b];exact F
  .have G : ¬ q.1=k:=λz=>e (h1.trans z);have a:decide (p.1≠k)=true:=by simp [e]
   have b:decide (q.1≠k)=true:=by simp [G]
   rw [if_pos a,if_pos b];exact .cons ⟨h1,h2⟩ F
theorem KV.length{kvs:List (κ×V)}{vs:List (κ×Value)}(r:KV kvs vs):kvs.length=vs.length:=Paired.length r
theorem Af(kvs:List (κ×V))(k:κ):(bV kvs k).length<=kvs.length:=Rf _ _
end
theorem eY{k:Key}(r:zm (kV k) u):(aE P w).is k u=true:=by
 cases k with
 | inl i=>obtain ⟨t,e⟩:=(show ∃t,u=QV i t from r);subst e;exact L6 P w i t
 | inr x=>obtain ⟨t,e⟩:=(show ∃t,u=Ru x t from r);subst e;exact EL P w x t
theorem ue:∀{ks:List Key}{us:List Value},zq (ks.map kV) us->ItemsAre (aE P w) ks us
 | [],_,r=>by rw [map_nil] at r;cases r;exact .nil
 | k::ks,_,r=>by
  rw [Pi] at r;cases r with
  | cons h t=>exact .cons (eY h) (ue t)
abbrev KT(H:Hp):List (List Key×V)->List (List Key×Addr×Value)->Prop:=Paired λp q=>p.1=q.1/\H q.2.1=some (.tup (p.1.map kV))/\zm p.2 q.2.2
theorem KT.val(r:KT H kvs xs)(k:List Key):bF (af kvs k) ((atKey xs k).map (·.2)):=by
 induction r with
 | nil=>exact True.intro
 | @cons p q ps G h t J =>
  obtain ⟨h1,_,h2⟩:=h;by_cases e:p.1=k
  .have F:q.1=k:=h1.symm.trans e;have b:atKey (q::G) k=some q.2:=by simp [atKey,RU,F]
   rw [jM e,b];exact h2
  .have F : ¬ q.1=k:=λz=>e (h1.trans z);have b:atKey (q::G) k=atKey G k:=by simp [atKey,RU,F]
   rw [jj e,b];exact J
theorem KT.bx(r:KT H kvs xs)(k:List Key)(J:zm y u):
  KT H (kvs.map λF=>if F.1=k then (F.1,y) else F) (xs.map (putAt k u)):=by
 induction r with
 | nil=>exact .nil
 | @cons p q ps O h t G =>
  rw [Pi,Pi];refine .cons ?_ G;obtain ⟨h1,h2,h3⟩:=h;unfold putAt;by_cases e:p.1=k
  .rw [if_pos e,if_pos (h1.symm.trans e)];exact ⟨h1,h2,J⟩
  .rw [if_neg e,if_neg (λz=>e (h1.trans z))];exact ⟨h1,h2,h3⟩
theorem KT.put(r:KT H kvs xs)(k:List Key){b:Addr}(hb:H b=some (.tup (k.map kV)))(z:zm y u):
  KT H (aM kvs k y) (storedH xs k b u):=by
 have e:(kvs.any λF=>decide (F.1=k))=(atKey xs k).isSome:=by
  rw [rD,(r.val k).vx,isSome_map]
 unfold aM storedH;rw [e];by_cases q:(atKey xs k).isSome=true
 .rw [if_pos q,if_pos q];exact r.bx k z
 .rw [if_neg q,if_neg q];exact Paired.snoc r {rfl,hb,z}
theorem KT.keeps(r:KT H kvs xs)(F:∀b ys,H b=some (.tup ys)->H' b=some (.tup ys)):KT H' kvs xs :=
 Paired.J7 r λ_ _ z=>{z.1,F _ _ z.2.1,z.2.2}
section
variable {P:NW}{w:Oc}{H:Hp}{h:Heap}{a:Addr}
theorem Ao(ok:HOk P w H h)(e:Rd H a u):z8 P w H h a u:=e.ok ok
theorem bZ(ok:HOk P w H h)(e:Rd H a (.dK kvs)):kvs.length<=sizeLine/\(a==sysModules)=false/\∃vs,KV kvs vs/\h.DictOf (aE P w) a vs :=
 show z8 P w H h a (.dK kvs) from Ao ok e
theorem kg(ok:HOk P w H h)(e:H a=some (.dK kvs)):kvs.length<=sizeLine/\(a==sysModules)=false/\∃vs,KV kvs vs/\h.DictOf (aE P w) a vs:=bZ ok (.inl e)
theorem iK(ok:HOk P w H h)(e:H a=some (.tup (ks.map kV))):(SY (aE P w)).is h ks a:=by
 obtain ⟨_,z,r,o,h1,h2,n,h3⟩:=(show z8 P w H h a (.tup (ks.map kV)) from ok a _ e);exact {o,z.toArray,n,h1,h2,h3,by simpa using ue r}
theorem gJ(ok:HOk P w H h)(e:Rd H a (.dT kvs)):kvs.length<=sizeLine/\(a==sysModules)=false /\
  ∃xs,KT H kvs xs/\h.DictOfH (SY (aE P w)) a xs:=by
 obtain ⟨z,y,xs,r,o,es,ep,h1,h2,h3,h4,J⟩:=(show z8 P w H h a (.dT kvs) from Ao ok e);refine {z,y,xs,r,o,es,ep,h1,h2,h3,h4,λx hx=>?_,J};have all:∀{l:List (List Key×V)}{m:List (List Key×Addr×Value)},KT H l m->∀x∈m,(SY (aE P w)).is h x.1 x.2.1:=by
  intro l m q
  induction q with
  | nil=>intro x hx;exact nomatch hx
  | @cons p q ps O F t G =>
   intro x hx;rcases NT.mp hx with e|hx
   .subst e;exact iK ok (by rw [<- F.1];exact F.2.1)
   .exact G x hx
 exact all r x hx
theorem Jz(ok:HOk P w H h)(e:H a=some (.dT kvs)):kvs.length<=sizeLine/\(a==sysModules)=false /\
  ∃xs,KT H kvs xs/\h.DictOfH (SY (aE P w)) a xs:=gJ ok (.inl e)
end
def eB(H:Hp)(a:Addr)(y:V)(r:Option V):Prop :=
 (∃kvs k,Rd H a (.dK kvs)/\y=kV k/\r=af kvs k)\/∃kvs k b,Rd H a (.dT kvs)/\y = .ref b/\H b=some (.tup (k.map kV))/\r=af kvs k
def jc(H:Hp)(a:Addr)(y v:V)(H':Hp):Prop :=
 (∃kvs k,H a=some (.dK kvs)/\y=kV k/\kvs.length<sizeLine/\H'=upd H a (.dK (aM kvs k v))) \/
 ∃kvs k b,H a=some (.dT kvs)/\y = .ref b/\H b=some (.tup (k.map kV))/\kvs.length<sizeLine/\H'=upd H a (.dT (aM kvs k v))
theorem eB.k{a:Addr}{k:Key}(e:H a=some (.dK kvs)):eB H a (kV k) (af kvs k):=.inl {kvs,k,.inl e,rfl,rfl}
theorem eB.t{a b:Addr}{k:List Key}(e:H a=some (.dT kvs))(z:H b=some (.tup (k.map kV))):eB H a (.ref b) (af kvs k):=.inr {kvs,k,b,.inl e,rfl,z,rfl}
theorem jc.k{a:Addr}{k:Key}(e:H a=some (.dK kvs))(hl:kvs.length<sizeLine):jc H a (kV k) v (upd H a (.dK (aM kvs k v))):=.inl {kvs,k,e,rfl,hl,rfl}
theorem jc.t{a b:Addr}{k:List Key}(e:H a=some (.dT kvs))(z:H b=some (.tup (k.map kV)))(hl:kvs.length<sizeLine):
  jc H a (.ref b) v (upd H a (.dT (aM kvs k v))):=.inr {kvs,k,b,e,rfl,z,hl,rfl}
section
variable {X:Cx}{Go:List (Addr×Obj)}{σ:St}{H:Hp}{s:KE}{a:Addr}{y v:V}{u r:Value}{o:Option V}{A:Of}{E:Value->KE->Prop}
theorem HH(U:A.units+1<cLine)(I:Inv X Go σ H s)(g:eB H a y (some v))(S:zm y u)(h:∀w' s',Inv X Go σ H s'->zm v w'->Q w' s'):
  N2 (N5 X.prog X.w) A (Tf (.ref a) u) Q E s:=by
 rcases g with ⟨kvs,k,e,G,l⟩|⟨kvs,k,b,e,G,W,l⟩
 .subst G;obtain ⟨z,hd,vs,O,dd⟩:=bZ I.hok e;obtain ⟨w',hw,J⟩:=bF.some_of (v:=v) (o:=RX vs k) (by rw [l];exact O.val k);exact wpAny_getItem_of (eY S) dd.mapOf hw (h w' _ (I.tok _) J)
 .subst G;cases (show u=N6 b from S);obtain ⟨z,hd,xs,O,dd⟩:=gJ I.hok e;obtain ⟨w',hw,J⟩:=bF.some_of (v:=v) (o:=(atKey xs k).map (·.2)) (by rw [l];exact O.val k);obtain ⟨p,hp,F⟩:=Ou.mp hw;refine wpAny_getItem_heap (QL U) (iK I.hok W) dd hp ?_;rw [F];exact h w' _ (I.tok _) J
theorem Kp(O:A.units+1<cLine)(I:Inv X Go σ H s)(g:eB H a y o)(J:zm y u)(h:∀s',Inv X Go σ H s'->Q (.bool o.isSome) s'):
  N2 (N5 X.prog X.w) A (OV .In u (.ref a)) Q E s:=by
 rcases g with ⟨kvs,k,e,F,l⟩|⟨kvs,k,b,e,F,S,l⟩
 .subst F;obtain ⟨z,hd,vs,G,dd⟩:=bZ I.hok e;refine wpAny_in_of (eY J) hd dd.mapOf ?_;rw [<- (G.val k).vx,<- l];exact h _ (I.tok _)
 .subst F;cases (show u=N6 b from J);obtain ⟨z,hd,xs,G,dd⟩:=gJ I.hok e;refine wpAny_in_heap (QL O) (iK I.hok S) hd dd ?_;have q:=(G.val k).vx;rw [isSome_map] at q;rw [<- q,<- l];exact h _ (I.tok _)
theorem FQ(O:A.units+1<cLine)(I:Inv X Go σ H s)(g:eB H a y o)(J:zm y u)(h:∀s',Inv X Go σ H s'->Q (.bool (!o.isSome)) s'):
  N2 (N5 X.prog X.w) A (OV .NotIn u (.ref a)) Q E s:=by
 rcases g with ⟨kvs,k,e,F,l⟩|⟨kvs,k,b,e,F,S,l⟩
 .subst F;obtain ⟨z,hd,vs,G,dd⟩:=bZ I.hok e;refine wpAny_notIn_of (eY J) hd dd.mapOf ?_;rw [<- (G.val k).vx,<- l];exact h _ (I.tok _)
 .subst F;cases (show u=N6 b from J);obtain ⟨z,hd,xs,G,dd⟩:=gJ I.hok e;refine wpAny_notIn_heap (QL O) (iK I.hok S) hd dd ?_;have q:=(G.val k).vx;rw [isSome_map] at q;rw [<- q,<- l];exact h _ (I.tok _)
theorem mX(I:Inv X Go σ H s)(F:Mut (H a))(hs:PF a s.heap h')(he:∃q,h'.get? a=some q)(new:z8 X.prog X.w (upd H a ob) h' a ob):
  Inv X Go σ (upd H a ob) { s with heap:=h',toks:=t' } :=
 I.write (x:=a) (e:=a) F (.inl rfl) (λb q hb z=>(hs.2 b hb).trans z) he new
theorem mx(z:kvs.length<=sizeLine)(hd:(a==sysModules)=false)(F:KV kvs vs)(dd:h'.DictOf (aE P w) a vs):
  z8 P w H' h' a (.dK kvs):=⟨z,hd,vs,F,dd⟩
theorem Cp(hu:A.units+1<cLine)(I:Inv X Go σ H s)(g:jc H a y v H')(U:zm y u)(Z:zm v r)(h:∀s',Inv X Go σ H' s'->Q () s'):
  N2 (N5 X.prog X.w) A (setItem (.ref a) u r) Q E s:=by
 rcases g with ⟨kvs,k,e,O,l,S⟩|⟨kvs,k,b,e,O,W,l,S⟩
 .subst O S;obtain ⟨z,hd,vs,F,dd⟩:=kg I.hok e;have hz:vs.length<=sizeLine:=by rw [<- F.length];exact z
  have hl:(aM kvs k v).length<=sizeLine:=by have:=vi kvs k v;lia
  refine wpAny_setItem_pairs (hsz:=hz) (eY U) dd λh' G hs=>h _ ?_;have he:∃q,h'.get? a=some q:=let ⟨q,_,_,J,_⟩:=G;⟨q,J⟩;exact mX I (by rw [e];exact True.intro) hs he (mx hl hd (F.put k Z) G)
 .subst O S;cases (show u=N6 b from U);obtain ⟨z,hd,xs,F,dd⟩:=Jz I.hok e;have hz:xs.length<=sizeLine:=by rw [<- Paired.length F];exact z
  have hl:(aM kvs k v).length<=sizeLine:=by have:=vi kvs k v;lia
  refine wpAny_setItem_heap (hsz:=hz) (QL hu) (iK I.hok W) dd λh' G hs=>h _ ?_;obtain ⟨q,es,ep,J,h2,h3,h4,_,h5⟩:=G;refine mX I (by rw [e];exact True.intro) hs ⟨q,J⟩ {hl,hd,_,(F.put k W Z).keeps λc ys ec=>?_,q,es,ep,J,h2,h3,h4,h5};rw [zh (KJ ec e (λz=>nomatch z))];exact ec
end
section
variable {X:Cx}{Go:List (Addr×Obj)}{σ:St}{H:Hp}{s:KE}{a:Addr}{kvs:List (Key×V)}{k:Key}{u:Value}{A:Of}{E:Value->KE->Prop}
theorem HS(I:Inv X Go σ H s)(e:H a=some (.dK kvs))(O:zm (kV k) u)(l:(af kvs k).isSome=true)(h:∀s',Inv X Go σ (upd H a (.dK (bV kvs k))) s'->Q () s'):
  N2 (N5 X.prog X.w) A (delItem (.ref a) u) Q E s:=by
 obtain ⟨z,hd,vs,G,dd⟩:=kg I.hok e;refine wpAny_delItem_slot dd.typeIs 'd' SA
  (RI SA dd.typeIs PySem.F.entry_dict_delitem (PySem.F.args_dict_delitem_2 _ _) (meets_dict_delitem_pairs (aE X.prog X.w) a (eY O)) {vs,dd,by rw [<- G.length];exact z,by rw [<- (G.val k).vx];exact l,λh' J hs=>h _ ?_})
 have he:∃q,h'.get? a=some q:=let ⟨q,_,_,hq,_⟩:=J;⟨q,hq⟩;exact mX I (by rw [e];exact True.intro) hs he (mx (Ol (Af kvs k) z) hd (G.drop k) J)
theorem B6{more:List Value}(I:Inv X Go σ H s)(e:H a=some (.dK kvs))(J:zm (kV k) u)(l:af kvs k=some v)(hm:more=[]\/∃x,more=[x])(h:∀w' s',Inv X Go σ (upd H a (.dK (bV kvs k))) s'->zm v w'->Q w' s'):N2 (N5 X.prog X.w) A (call (.builtin "dict.pop") (.ref a::u::more)) Q E s:=by
 obtain ⟨z,hd,vs,G,dd⟩:=kg I.hok e;obtain ⟨w',hw,S⟩:=bF.some_of (v:=v) (o:=RX vs k) (by rw [<- l];exact G.val k);have hp:(keyPart u).isSome=true:=by
  cases k with
  | inl i=>obtain ⟨t,q⟩:=(show ∃t,u=QV i t from J);subst q;rfl
  | inr x=>obtain ⟨t,q⟩:=(show ∃t,u=Ru x t from J);subst q;rfl
 have ha:SR "dict.pop" {.ref a::u::more,[]}:=by
  rcases hm with q|⟨x,q⟩
  .subst q;exact PySem.F.args_dict_pop_2 _ _
  .subst q;exact PySem.F.args_dict_pop_3 _ _ _
 refine RI PySem.F.slot_dict_pop dd.typeIs PySem.F.entry_dict_pop ha (meets_dict_pop_there (aE X.prog X.w) a (eY J) more hm hp)
  {vs,w',dd,by rw [<- G.length];exact z,hw,λh' O hs=>h w' _ ?_ S}
 have he:∃q,h'.get? a=some q:=let ⟨q,_,_,hq,_⟩:=O;⟨q,hq⟩;exact mX I (by rw [e];exact True.intro) hs he (mx (Ol (Af kvs k) z) hd (G.drop k) O)
theorem HQ(I:Inv X Go σ H s)(e:Rd H a (.dK kvs))(h:∀t s',Inv X Go σ H s'->Q (.int kvs.length t) s'):N2 (N5 X.prog X.w) A (call (.builtin "len") [.ref a]) Q E s:=by
 obtain ⟨z,hd,vs,F,dd⟩:=bZ I.hok e;refine call_len_dict hd dd (by rw [<- F.length];rw [Ph] at z;lia) ?_;rw [<- F.length];exact h _ _ (I.tok _)
end
theorem sV{a:Addr}{o:Option V}(I:Inv X Go σ H s)(g:eB H a y o):s.TypeIs (.ref a) "dict":=by
 rcases g with ⟨kvs,k,e,_,_⟩|⟨kvs,k,b,e,_,_,_⟩
 .obtain ⟨_,_,vs,_,dd⟩:=bZ I.hok e;exact dd.typeIs
 .obtain ⟨_,_,xs,_,dd⟩:=gJ I.hok e;exact dd.typeIs
structure M1(X:Cx)(o:Og)(m:Str)(Z3:Pos)(e:Og)(cpos:Pos):Prop where
 base:Pm o m X.env (Pa o X.env)=Pa o X.env
 few:((P0 cpos (Om [e] X.env)).all (λx=>!x.1)&&(Ss cpos (Q6 [] X.env)).all (λx=>x.1.isSome)
  && decide (([e]:List Og).length+([]:List Keyword).length+(if ([]:List Keyword).isEmpty then 0 else 1)<30))=true
 line:(Z3.endLine==cpos.line)=true
 trees:P0 cpos (Om [e] X.env)=[(false,Pa e X.env)]
structure M2(X:Cx)(o:Og)(m:Str)(Z3:Pos)(e f:Og)(cpos:Pos):Prop where
 base:Pm o m X.env (Pa o X.env)=Pa o X.env
 few:((P0 cpos (Om [e,f] X.env)).all (λx=>!x.1)&&(Ss cpos (Q6 [] X.env)).all (λx=>x.1.isSome)
  && decide (([e,f]:List Og).length+([]:List Keyword).length+(if ([]:List Keyword).isEmpty then 0 else 1)<30))=true
 line:(Z3.endLine==cpos.line)=true
 trees:P0 cpos (Om [e,f] X.env)=[(false,Pa e X.env),(false,Pa f X.env)]
def IsD(H:Hp)(a:Addr):Prop:=(∃kvs,Rd H a (.dK kvs))\/∃kvs,Rd H a (.dT kvs)
theorem lN{a:Addr}(I:Inv X Go σ H s)(d:IsD H a):
  s.TypeIs (.ref a) "dict"/\(∀b,N6 a = .ref b->∃ob,s.heap.get? b=some ob/\ob.dict=none)/\(a==sysModules)=false:=by
 rcases d with ⟨kvs,e⟩|⟨kvs,e⟩
 .obtain ⟨_,hd,vs,_,dd⟩:=bZ I.hok e;refine {dd.typeIs,λb q=>?_,hd};cases q;obtain ⟨ob,_,_,h1,h2,_⟩:=dd;exact ⟨ob,h1,h2.2.1⟩
 .obtain ⟨_,hd,xs,_,dd⟩:=gJ I.hok e;refine {dd.typeIs,λb q=>?_,hd};cases q;obtain ⟨ob,_,_,h1,h2,_⟩:=dd;exact ⟨ob,h1,h2.2.1⟩
section
variable {X:Cx}{Go:List (Addr×Obj)}{σ:St}{H:Hp}{s:KE}{a:Addr}{y d:V}{u r:Value}{o:Option V}{A:Of}{E:Value->KE->Prop}
theorem Jj(S:A.units+1<cLine)(I:Inv X Go σ H s)(g:eB H a y o)(O:zm y u)(rd:zm d r)(h:∀w' s',Inv X Go σ H s'->zm (o.getD d) w'->Q w' s'):
  N2 (N5 X.prog X.w) A (call (.builtin "dict.get") [.ref a,u,r]) Q E s:=by
 rcases g with ⟨kvs,k,e,G,l⟩|⟨kvs,k,b,e,G,U,l⟩
 .subst G;obtain ⟨z,hd,vs,J,dd⟩:=bZ I.hok e;refine RI slot_dict_get dd.typeIs PySem.F.entry_dict_get (S8 _ _ _) (meets_dict_get_default (aE X.prog X.w) a (eY O) hd r) {_,dd.mapOf,h _ _ (I.tok _) ?_};rw [l];exact (J.val k).getD rd
 .subst G;cases (show u=N6 b from O);obtain ⟨z,hd,xs,J,dd⟩:=gJ I.hok e;refine RI slot_dict_get dd.typeIs PySem.F.entry_dict_get (S8 _ _ _) (meetsH_dict_get_default (SY (aE X.prog X.w)) a b hd r) {QL S,k,xs,iK I.hok U,dd,h _ _ (I.tok _) ?_};rw [l];exact (J.val k).getD rd
end
section
variable {X:Cx}{Go:List (Addr×Obj)}{σ:St}{H:Hp}{s:KE}{a:Addr}{kvs:List (Key×V)}{A:Of}{E:Value->KE->Prop}
theorem JR(I:Inv X Go σ H s)(e:Rd H a (.dK kvs))(h:∀p s',H p=none->Inv X Go σ (upd H p (.dK kvs)) s'->Q (.ref p) s'):N2 (N5 X.prog X.w) A (call (.type "dict") [.ref a]) Q E s:=by
 obtain ⟨z,hd,vs,G,dd⟩:=bZ I.hok e;refine kt_call_dict hd dd (by rw [<- G.length];exact z) λh' J hs=>?_;refine h _ _ (I.hok.fresh (NV _)) (I.laid (a:=s.heap.objs.size) (o:=.dK kvs) (t':=s.toks) (λb q F=>?_) (NV _) (mx z (beq_eq_false_iff_ne.mpr (OY (OM I.big))) G J));exact (hs.2 b (OM (Os F))).trans (NP _ F)
end
section
variable {κ:Type} [DecidableEq κ]
theorem Kr{p:κ×V}{r:List (κ×V)}{k:κ}(e:p.1=k):bV (p::r) k=bV r k:=by
 unfold bV;rw [Qv,if_neg (by simp [e])]
theorem CS{p:κ×V}{r:List (κ×V)}{k:κ}(e : ¬ p.1=k):bV (p::r) k=p::bV r k:=by
 unfold bV;rw [Qv,if_pos (by simp [e])]
end
section
variable {X:Cx}{Go:List (Addr×Obj)}{σ:St}{H:Hp}{s:KE}{a:Addr}{o:Obj}{kvs:List (Key×V)}
theorem Inv.swap(I:Inv X Go σ H s)(e:H a=some F)(h1:∀x,F≠.own x)(h2:∀xs,F≠.tup xs)(h3:∀ob,F≠.frz ob (.own 0))(h4:∀ps,F≠.tbl ps)(S:∀ob u,X.H₀ a≠some (.frz ob u))(new:∀H',z8 X.prog X.w H' s.heap a J):Inv X Go σ (upd H a J) s:=by
 have ne:∀b,H b=none->b≠a:=λb n z=>by subst z;rw [e] at n;cases n
 have G:∀b,H b=none->upd H a J b=none:=λb n=>by rw [zh (ne b n)];exact n
 refine {I.ok,I.os,I.bare,{I.base.keep,I.base.slot,λb ob q n hx=>G b (I.base.free b ob q n hx),I.base.there,λb xs q=>?_,λb ob u q=>?_,λb ps q=>?_},I.loc,I.cell,G _ I.free,λx c q=>G c (I.vl x c q),λp hp=>?_,λb u q=>?_,I.len,?_}
 .have z:=I.base.tups b xs q;rw [zh (λy=>by subst y;rw [e] at z;cases z;exact h2 _ rfl)];exact z
 .by_cases hb:b=a
  .subst hb;exact absurd q (S ob u)
  .rw [zh hb];exact I.base.frzs b ob u q
 .obtain ⟨more,z⟩:=I.base.tbls b ps q;exact {more,by rw [zh (λy=>by subst y;rw [e] at z;cases z;exact h4 _ rfl)];exact z}
 .obtain ⟨U,p2,W⟩:=I.pin p hp;exact {U,G _ p2,W}
 .by_cases hb:b=a
  .subst hb;rw [zt] at q;cases q;exact new _
  .rw [zh hb] at q;exact (I.hok b u q).Uc (λc z _ y=>y) (λc z=>by rw [zh (λy=>by subst y;rw [e] at z;cases z;exact h1 _ rfl)];exact z) (λc xs z=>by rw [zh (λy=>by subst y;rw [e] at z;cases z;exact h2 _ rfl)];exact z)
 .exact I.hdk.bp λb ob O=>by rw [zh (λy=>by subst y;rw [e] at O;cases O;exact h3 _ rfl)];exact O
theorem Inv.freeze(I:Inv X Go σ H s)(e:H a=some (.dK kvs)):(∀ob u,X.H₀ a≠some (.frz ob u))/\∃o,Inv X Go σ (upd H a (.frz o (.dK kvs))) s:=by
 have F:∀ob u,X.H₀ a≠some (.frz ob u):=λob u q=>by
  have z:=I.base.frzs a ob u q;rw [e] at z;cases z
 refine {F,?_};obtain ⟨z,hd,vs,G,dd⟩:=kg I.hok e;obtain ⟨o,es,ep,ho,r⟩:=id dd;exact {o,I.swap e (λ_ q=>nomatch q) (λ_ q=>nomatch q) (λ_ q=>nomatch q) (λ_ q=>nomatch q) F λH'=>⟨ho,z,hd,vs,G,dd⟩}
theorem Inv.Ub(I:Inv X Go σ H s)(e:H a=some (.frz o (.dK kvs)))(F:∀ob u,X.H₀ a≠some (.frz ob u)):Inv X Go σ (upd H a (.dK kvs)) s:=by
 obtain ⟨ho,z⟩:=I.hok a _ e;exact I.swap e (λ_ q=>nomatch q) (λ_ q=>nomatch q) (λ_ q=>by injection q with _ q;cases q) (λ_ q=>nomatch q) F λH'=>z
end
def gn(a:Addr)(kvs:List (Key×V))(H:Hp)(R:Hp->Prop):Prop:=∃o,H a=some (.frz o (.dK kvs))/\R (upd H a (.dK kvs))
def bo.Ub(D:bo)(a:Addr)(kvs:List (Key×V)):bo:={λσ H=>gn a kvs H (D.nx σ),λv H=>gn a kvs H (D.rt v),λσ H=>gn a kvs H (D.bk σ),λσ H=>gn a kvs H (D.ct σ)}
def tFz(t:TS):TS:=λD σ H=>∃a kvs,H a=some (.dK kvs)/\∀o,t (D.Ub a kvs) σ (upd H a (.frz o (.dK kvs)))
def yB(t:TE):TE:=λσ H Q=>∃a kvs,H a=some (.dK kvs)/\∀o,t σ (upd H a (.frz o (.dK kvs))) λv H'=>gn a kvs H' (Q v)
theorem FY{st:Stmt}{t:TS}(h:W (PS X st t)):W (PS X st (tFz t)):=by
 refine {?_};have h:=h.h;rintro Go s σ H D I ⟨a,kvs,e,q⟩;obtain ⟨O,o,S⟩:=I.freeze e;refine thn (h Go s σ _ _ S (q o)) λf s' z=>?_;cases f with
 | next=>obtain ⟨F,H',G,o',J,d⟩:=z;exact {F,_,G.Ub J O,d}
 | brk=>obtain ⟨F,H',G,o',J,d⟩:=z;exact {F,_,G.Ub J O,d}
 | cont=>obtain ⟨F,H',G,o',J,d⟩:=z;exact {F,_,G.Ub J O,d}
 | ret u=>obtain ⟨v,F,H',G,r,o',J,d⟩:=z;exact {v,F,_,G.Ub J O,r,d}
theorem LB{t:TE}(h:W (PE X e t)):W (PE X e (yB t)):=by
 refine {?_};have h:=h.h;rintro Go s σ H Q I ⟨a,kvs,e,q⟩;obtain ⟨O,o,F⟩:=I.freeze e;refine thn (h Go s σ _ _ F (q o)) λu s' z=>?_;obtain ⟨v,H',J,r,o',G,d⟩:=z;exact {v,_,J.Ub G O,r,d}
theorem KV.at(r:KV kvs vs):∀{i:Nat}{p:Key×V},kvs[i]?=some p->∃u,vs[i]?=some (p.1,u)/\zm p.2 u:=by
 induction r with
 | nil=>intro i p h;simp at h
 | @cons x y l m r t z =>
  intro i p h;cases i with
  | zero =>
   have e:x=p:=by simpa using h
   subst e;exact {y.2,by rw [r.1];rfl,r.2}
  | succ i=>exact z (by simpa using h)
def Itw(a:Addr)(o:Obj)(kvs:List (Key×V)):It:={λi H=>H a=some (.frz o (.dK kvs))/\i<kvs.length,λi H x H'=>H'=H/\∃p,kvs[i]?=some p/\x=p.2,λi H=>H a=some (.frz o (.dK kvs))/\kvs.length<=i}
theorem oJ{a:Addr}{o:Obj}(I:Inv X Go σ H s)(e:H a=some (.frz o (.dK kvs)))(hd:o.data = .dict es ep):
  (a==sysModules)=false/\∃vs,KV kvs vs/\s.heap.DictAt (aE X.prog X.w) a vs ep/\vs.length=kvs.length:=by
 obtain ⟨ho,z,hm,vs,G,o',S,O,J,hc,F,r⟩:=I.hok a _ e;rw [ho] at J;cases J;rw [hd] at F;cases F;exact {hm,vs,G,⟨o,es,ho,hc,hd,r⟩,G.length.symm}
theorem CK{a:Addr}{o:Obj}(I:Inv X Go σ H s)(e:H a=some (.frz o (.dK kvs))):∃es ep,o.data = .dict es ep:=by
 obtain ⟨ho,z,hm,vs,S,o',O,J,G,hc,F,r⟩:=I.hok a _ e;rw [ho] at G;cases G;exact {_,_,F}
theorem Fj{P:NW}{w:Oc}{K:NQ}{tg:Og}(a it:Addr){o:Obj}{kvs:List (Key×V)}{es:Array DictEntry}{ep:Nat}(hd:o.data = .dict es ep):fU true P w K tg (Itw a o kvs) [it] it (λi h=>h.IsValIter it a i kvs.length ep) where
 mem:=by simp
 obj:=λi h st b hb=>by
  have e:b=it:=by simpa using hb
  subst e;obtain ⟨o,e,c,d⟩:=st;exact {o,e,λv z=>by rw [d] at z;cases z}
 keep:=λi h h' st k=>st.at λo e=>k it 'z' o e
 item:=by
  intro X F hw W hc i Go s σ H E I hf st hg;subst F hw W;obtain ⟨Z,hi⟩:=hg;obtain ⟨hm,vs,ZC,dd,hl⟩:=oJ I Z hd;obtain ⟨p,hp⟩:∃p,kvs[i]?=some p:={kvs[i],by simp [hi]};obtain ⟨u,hu,ru⟩:=ZC.at hp;obtain ⟨O,S,f2,U,f4,J⟩:=hf it 'z';rw [<- hl] at st;refine wpAny_pyNext_values_item st dd hu λh' G sb=>?_;rw [hl] at G;have I1:Inv X Go σ H { s with heap:=h' }:=I.turned (t':=s.toks) (λb o hb e=>(sb.2 b hb).trans e) O S U f4 J;obtain ⟨o,e,c,d⟩:=id G;exact {u,rfl,jl (s:={ s with heap:=h' }) e c d 'd' {p.2,H,I1,ru,{rfl,p,hp,rfl},G,λb hb=>(hf b hb).1}}
 done:=by
  intro X F hw W hc i Go s σ H E I hf st hg;subst F hw W;obtain ⟨Z,hi⟩:=hg;obtain ⟨hm,vs,ZC,dd,hl⟩:=oJ I Z hd;obtain ⟨O,S,f2,U,f4,J⟩:=hf it 'z';rw [<- hl] at st;exact wpAny_pyNext_values_end (I.ok.hd (hc rfl)) st dd (QW 'l') λh' eb=>{rfl,I.turned (t':=s.toks) (λb o hb e=>eb b o hb e) O S U f4 J}
 self:=λ_ _ _ _ _ st h=>wpAny_pyIter_valiter st h
section
variable {X:Cx}{tg:Og}
def qX(tl:TE):TI:=λσ H R=>tl σ H λx H1=>∃a o kvs,x = .ref a/\H1 a=some (.frz o (.dK kvs))/\R (Itw a o kvs) H1
theorem rZ(ho:W (PE X l tl))(J:Pm l "values" X.env (Pa l X.env)=Pa l X.env:=by rfl)(S:(Z3.endLine==cpos.line)=true:=by rfl):W (PI X tg (.Call (.Attribute l "values" Z3) [] [] cpos) (qX tl)):=by
 refine {?_};have ho:=ho.h;intro Go s σ H R I h;refine wpAny_Call_method0_late J S (thn (ho Go s σ H _ I h) λv s1=>x5e λx H1 z r1 O=>?_);obtain ⟨a,o,kvs,ex,G,q⟩:=O;subst ex;cases r1;obtain ⟨es,ep,hd⟩:=CK z G;obtain ⟨hm,vs,U,dd,hl⟩:=oJ z G hd;obtain ⟨t1,t2,_⟩:=lN z (.inl {kvs,.inr ⟨o,G⟩});refine {"dict","dict.values",Sh,RP,SS,t1,t2,Calls.callWith_builtin rfl (PySem.evalArgs_none ?_)};refine RI RP dd.dictOf.typeIs SC (Sv _) (meets_dict_values (aE X.prog X.w) a hm) {⟨vs,dd.dictOf⟩,?_};have hv:(s1.heap.push { cls:=.type "dict_values",data:=.fields #[.ref a] }).IsValuesView s1.heap.objs.size a:={_,N7 _ rfl,rfl,rfl};refine wpAny_pyIter_values (s:={ s1 with heap:=s1.heap.push { cls:=.type "dict_values",data:=.fields #[.ref a] } }) hv (dd.push _) ?_;rw [hl];have F:Inv X Go σ H1 { s1 with heap:=s1.heap.push { cls:=.type "dict_values",data:=.fields #[.ref a] } }:=z.kept (t':=s1.toks) λb o e=>NP _ e;refine {_,[_],_,_,H1,rfl,F.kept (t':=s1.toks) λb o e=>NP _ e,Fj a _ hd,{_,N7 _ rfl,rfl,rfl},λb hb=>?_,q};have e:=OO.mp hb;subst e;exact F.UQ (NV _) (F.hok.fresh (NV _))
end
def uK(y:V)(q:Key->Prop):Prop:=∃k,y=kV k/\q k
theorem M5:uK (.str z) q=q (.inr z):=by
 apply propext;constructor
 .rintro ⟨k,e,h⟩;cases k with
  | inl i=>cases e
  | inr x=>cases e;exact h
 .exact λh=>{.inr z,rfl,h}
theorem Hz:uK (.int i) q=q (.inl i):=by
 apply propext;constructor
 .rintro ⟨k,e,h⟩;cases k with
  | inl i=>cases e;exact h
  | inr x=>cases e
 .exact λh=>{.inl i,rfl,h}
section
variable {X:Cx}
def pq:R2:=λx y H Q=>∃a k kvs v,x = .ref a/\y=kV k/\Rd H a (.dK kvs)/\af kvs k=some v/\Q v H
theorem iD(Z:X.A.units+1<cLine):IxR X pq:=by
 intro ZA O Go s σ H x y v u Q I J W h hs;obtain ⟨a,k,kvs,z,rfl,rfl,hq,he,q⟩:=h;obtain rfl:v=N6 a:=J;have g:eB H a (kV k) (some z):=.inl {kvs,k,hq,rfl,he.symm};unfold subscriptTail;refine we ?_;rw [getitemInPython_of_ne (sV I g).not_modules];refine we (wpAny_specialOf (sV I g) PySem.F.slot_dict_getitem.lookup ?_);have G:N2 (N5 X.prog X.w) X.A (subscripted O false (.ref a) u) (λr s₃=>N2 (N5 X.prog X.w) X.A (letTemporaryGo ZA (.ref a) r>>=λ_=>pure r) (EP X Go σ Q) X.xe s₃) X.xe s:=by
  rw [hs];exact wpAny_operating (HH Z I g W λw' s3 S U=>we (wpAny_letTemporaryGo (NN ⟨z,H,S,U,q⟩)))
 first
  | exact NN (we G)
  | exact we (NN (we G))
  | exact we G
def kN(c:Bool):R2:=λy x H Q=>∃a k kvs,x = .ref a/\y=kV k/\Rd H a (.dK kvs)/\Q (.bl (if c then !(af kvs k).isSome else (af kvs k).isSome)) H
theorem Nj(J:X.A.units+1<cLine):OpR X (OV .In) (kN false):=by
 intro Go s σ H x y v u Q I z G h;obtain ⟨a,k,kvs,rfl,rfl,O,q⟩:=h;obtain rfl:u=N6 a:=G;exact Kp J I (.inl {kvs,k,O,rfl,rfl}) z λS F=>{.bl (af kvs k).isSome,H,F,rfl,q}
theorem ow(J:X.A.units+1<cLine):OpR X (OV .NotIn) (kN true):=by
 intro Go s σ H x y v u Q I z G h;obtain ⟨a,k,kvs,rfl,rfl,O,q⟩:=h;obtain rfl:u=N6 a:=G;exact FQ J I (.inl {kvs,k,O,rfl,rfl}) z λS F=>{.bl (!(af kvs k).isSome),H,F,rfl,q}
theorem Nq{p:Addr}:kN c (.str x) (.ref p) H Q = ∃kvs,Rd H p (.dK kvs)/\Q (.bl (if c then !(af kvs (.inr x)).isSome else (af kvs (.inr x)).isSome)) H:=by
 apply propext;constructor
 .rintro ⟨a,k,kvs,F,z,h,q⟩;cases F;cases k with
  | inl i=>cases z
  | inr x=>cases z;exact ⟨kvs,h,q⟩
 .rintro ⟨kvs,h,q⟩;exact {p,.inr x,kvs,rfl,rfl,h,q}
def kJ:V->V->V->Hp->(Hp->Prop)->Prop:=λo i v H Q=>pX o i v H Q\/∃a k kvs,o = .ref a/\i=kV k/\H a=some (.dK kvs)/\kvs.length<sizeLine/\Q (upd H a (.dK (aM kvs k v)))
theorem fc(S:X.A.units+1<cLine):nQ X kJ:=by
 intro Go s σ H o i v F U u Q I z G J h;rcases h with h|⟨a,k,kvs,rfl,rfl,e,l,q⟩
 .exact iJ Go s σ H o i v F U u Q I z G J h
 .obtain rfl:F=N6 a:=z;exact Cp S I (.inl {kvs,k,e,rfl,l,rfl}) G J λs' O=>{_,O,q}
theorem Ds{a:Addr}:kJ (.ref a) (.str z) v H Q = ∃kvs,H a=some (.dK kvs)/\kvs.length<sizeLine/\Q (upd H a (.dK (aM kvs (.inr z) v))):=by
 apply propext;constructor
 .rintro (⟨_,_,_,_,_,e,_⟩|⟨J,k,kvs,G,F,h,l,q⟩)
  .cases e
  .cases G;cases k with
   | inl i=>cases F
   | inr x=>cases F;exact ⟨kvs,h,l,q⟩
 .rintro ⟨kvs,h,l,q⟩;exact .inr {a,.inr z,kvs,rfl,rfl,h,l,q}
theorem HF{a:Addr}:kJ (.ref a) (.int i) v H Q=((∃xs j,H a=some (.lst xs)/\ixN xs.length i=some j/\Q (upd H a (.lst (xs.set j v))))\/∃kvs,H a=some (.dK kvs)/\kvs.length<sizeLine/\Q (upd H a (.dK (aM kvs (.inl i) v)))):=by
 apply propext;unfold kJ;rw [Aa];constructor
 .rintro (h|⟨G,k,kvs,F,z,h,l,q⟩)
  .exact .inl h
  .cases F;cases k with
   | inl i=>cases z;exact .inr ⟨kvs,h,l,q⟩
   | inr x=>cases z
 .rintro (h|⟨kvs,h,l,q⟩)
  .exact .inl h
  .exact .inr {a,.inl i,kvs,rfl,rfl,h,l,q}
def tM(td ty:TE):TS:=λD σ H=>td σ H λx H1=>ty σ H1 λy H2=>uR x λa=>uK y λk=>∃kvs,H2 a=some (.dK kvs)/\(af kvs k).isSome=true/\D.nx σ (upd H2 a (.dK (bV kvs k)))
theorem sZ{o i:Og}(ho:W (PE X o td))(hi:W (PE X i ty)):W (PS X (.Delete [.Subscript o i Xk] pos) (tM td ty)):=by
 refine {?_};have ho:=ho.h;have hi:=hi.h;intro Go s σ H D I h;refine wpAny_Delete (wpAny_deleteEach_cons (wpAny_delete_Subscript (thn (ho Go s σ H _ I h) λu s1=>x5e λx H1 Z z q1=>thn (hi Go s1 σ H1 _ Z q1) λiv s2=>x5e λy H2 G O U=>?_)));obtain ⟨a,ex,k,F,kvs,e,l,J⟩:=U;subst ex F;obtain rfl:u=N6 a:=z;exact HS G e O l λs3 S=>wpAny_deleteEach_nil {σ,_,S,J}
theorem DW:tM td ty D σ H=td σ H λx H1=>ty σ H1 λy H2=>uR x λa=>uK y λk=>∃kvs,H2 a=some (.dK kvs)/\(af kvs k).isSome=true/\D.nx σ (upd H2 a (.dK (bV kvs k))):=rfl
def wF(td ty tx:TE):TE:=λσ H Q=>td σ H λx H1=>uR x λa=>(∃kvs,Rd H1 a (.dK kvs))/\ty σ H1 λy H2=>tx σ H2 λz H3=>uK y λk=>∃kvs,Rd H3 a (.dK kvs)/\Q ((af kvs k).getD z) H3
theorem Ey{td ty tx:TE}:wF td ty tx σ H Q=td σ H λx H1=>uR x λa=>(∃kvs,Rd H1 a (.dK kvs))/\ty σ H1 λy H2=>tx σ H2 λz H3=>uK y λk=>∃kvs,Rd H3 a (.dK kvs)/\Q ((af kvs k).getD z) H3:=rfl
theorem qF{o e f:Og}{td ty tx:TE}(hu:X.A.units+1<cLine)(ho:W (PE X o td))(he:W (PE X e ty))(hf:W (PE X f tx))(m:M2 X o "get" Z3 e f cpos:=by exact {rfl,rfl,rfl,rfl}):W (PE X (.Call (.Attribute o "get" Z3) [e,f] [] cpos) (wF td ty tx)):=by
 refine {?_};have ho:=ho.h;have he:=he.h;have hf:=hf.h;intro Go s σ H Q I h;refine SH m.base m.few m.line Sh slot_dict_get PySem.F.type_dict_get (thn (ho Go s σ H _ I h) λu s1=>x5e λx H1 G J Yd=>?_);obtain ⟨a,ex,d,q1⟩:=Yd;subst ex;obtain rfl:u=N6 a:=J;obtain ⟨t1,t2,_⟩:=lN G (.inl d);refine {t1,t2,?_};rw [m.trees];refine Calls.callWith_builtin rfl (Calls.evalArgs_plain (Calls.spliced_cons (thn (he Go s1 σ H1 _ G q1) λiv s2=>x5e λy H2 I2 ry q2 =>
  Calls.spliced_cons (thn (hf Go s2 σ H2 _ I2 q2) λfv s3=>x5e λz H3 I3 O U=>Calls.spliced_nil ?_))))
 obtain ⟨k,S,kvs,g,Z⟩:=U;subst S;exact Jj hu I3 (.inl {kvs,k,g,rfl,rfl}) ry O λw' s4 I4 X8=>{_,H3,I4,X8,Z}
def uf(td ty:TE):TE:=λσ H Q=>td σ H λx H1=>uR x λa=>(∃kvs,Rd H1 a (.dK kvs))/\ty σ H1 λy H2=>uK y λk=>∃kvs,H2 a=some (.dK kvs)/\∃v,af kvs k=some v/\Q v (upd H2 a (.dK (bV kvs k)))
theorem Cw:uf td ty σ H Q=td σ H λx H1=>uR x λa=>(∃kvs,Rd H1 a (.dK kvs))/\ty σ H1 λy H2=>uK y λk=>∃kvs,H2 a=some (.dK kvs)/\∃v,af kvs k=some v/\Q v (upd H2 a (.dK (bV kvs k))):=rfl
theorem yg{o e:Og}(ho:W (PE X o td))(he:W (PE X e ty))(m:M1 X o "pop" Z3 e cpos:=by exact {rfl,rfl,rfl,rfl}):W (PE X (.Call (.Attribute o "pop" Z3) [e] [] cpos) (uf td ty)):=by
 refine {?_};have ho:=ho.h;have he:=he.h;intro Go s σ H Q I h;refine SH m.base m.few m.line Sh PySem.F.slot_dict_pop PySem.F.type_dict_pop (thn (ho Go s σ H _ I h) λu s1=>x5e λx H1 J O z=>?_);obtain ⟨a,ex,d,q1⟩:=z;subst ex;obtain rfl:u=N6 a:=O;obtain ⟨t1,t2,_⟩:=lN J (.inl d);refine {t1,t2,?_};rw [m.trees];refine Calls.callWith_builtin rfl (Calls.evalArgs_plain (Calls.spliced_cons (thn (he Go s1 σ H1 _ J q1) λiv s2=>x5e λy H2 U ry G=>Calls.spliced_nil ?_)));obtain ⟨k,S,kvs,ea,v,l,Z⟩:=G;subst S;exact B6 U ea ry l (.inl rfl) λw' s3 I3 X8=>{v,_,I3,X8,Z}
end
end L2
namespace L2
open PySem PySem.Spec PyProof.Rows PySem.W PySem.Calls
def leS(a b:Str):Prop:=ltCps b.cps.toList a.cps.toList=false
theorem uL{a b:Str}(h1:leS a b)(h2:leS b a):a=b:=by
 unfold leS at h1 h2;rw [ltCps_eq] at h1 h2;exact fW (Qx.total a.cps.toList b.cps.toList h2 h1)
theorem Ac:∀{l:List Str},sortedS l=true->l.Pairwise leS:=by
 have U:∀(r:List Str)(x:Str),risingS x r=true->(x::r).Pairwise leS:=by
  intro r
  induction r with
  | nil=>intro x _;simp
  | cons y r S =>
   intro x h;have h':(!ltCps y.cps.toList x.cps.toList&&risingS y r)=true:=h;rw [Od,RC] at h';have F:=S y h'.2;refine Pf.mpr {λz hz=>?_,F};rcases NT.mp hz with rfl|hz
   .exact h'.1
   .have G:=(Pf.mp F).1 z hz;unfold leS at G ⊢;have J:=h'.1;rw [ltCps_eq] at G J ⊢;exact KeyOrd.kle_trans (O:=Qx.toKeyOrd) J G
 intro l h;cases l with
 | nil=>exact .nil
 | cons x r=>exact U r x h
theorem AM:∀{l m:List Str},l.Perm m->l.Pairwise leS->m.Pairwise leS->l=m
 | [],m,p,_,_=>(Perm.nil_eq p)
 | x::l,[],p,_,_=>absurd p.length_eq 'z'
 | x::l,y::m,p,hl,hm=>by
  have e:x=y:=by
   have h1:x∈y::m:=p.mem_iff.mp (NX ..);have h2:y∈x::l:=p.mem_iff.mpr (NX ..);rcases NT.mp h1 with e|h1
   .exact e
   .rcases NT.mp h2 with e|h2
    .exact e.symm
    .exact uL ((Pf.mp hl).1 y h2) ((Pf.mp hm).1 x h1)
  subst e;rw [AM ((List.perm_cons x).mp p) (Pf.mp hl).2 (Pf.mp hm).2]
open Classical in
noncomputable def zP(ks:List Str):List Str:=if h:∃z:List Str,z.Perm ks/\sortedS z=true then h.choose else ks
theorem wG(p:z.Perm ks)(h:sortedS z=true):z=zP ks:=by
 have ex:∃z:List Str,z.Perm ks/\sortedS z=true:=⟨z,p,h⟩;unfold zP;rw [dif_pos ex];exact AM (p.trans ex.choose_spec.1.symm) (Ac h) (Ac ex.choose_spec.2)
section
variable {X:Cx}
def x6:List V->Hp->VK->Prop:=λxs H Q=>uR1 xs λa=>∃kvs,Rd H a (.dK kvs)/\∀p H2,New H p (.dK kvs) H2->Q (.ref p) H2
theorem FV{a:Addr}:x6 [.ref a] H Q = ∃kvs,Rd H a (.dK kvs)/\∀p H2,New H p (.dK kvs) H2->Q (.ref p) H2:=fj
theorem rL:zU X (.type "dict") x6:=by
 intro Go s σ H xs us Q I r h;obtain ⟨a,rfl,kvs,ha,q⟩:=h;obtain ⟨u,rfl,z⟩:=bM r;cases z;exact JR I ha λp s' G F=>{.ref p,_,F,rfl,q _ _ (.mk' G)}
def sk(kvs:List (Str×V)):List (Key×V):=kvs.map λp=>(.inr p.1,p.2)
def uT:List V->Hp->VK->Prop:=λxs H Q=>uR1 xs λa=>∃kvs:List (Str×V),Rd H a (.dK (sk kvs))/\kvs.length<64/\∀p H2,New H p (.lst ((zP (kvs.map (·.1))).map V.str)) H2->Q (.ref p) H2
theorem JL{a:Addr}:uT [.ref a] H Q = ∃kvs:List (Str×V),Rd H a (.dK (sk kvs))/\kvs.length<64/\∀p H2,New H p (.lst ((zP (kvs.map (·.1))).map V.str)) H2->Q (.ref p) H2:=fj
theorem vc:∀{vs:List Value}{z:List Str},vs.length=z.length->(∀(j:Nat)(v:Value),vs[j]?=some v->∃t,v=Ru (z.getD j "") t)->StrsAre vs z
 | [],[],_,_=>.nil
 | [],_::_,h,_=>absurd h 'z'
 | _::_,[],h,_=>absurd h 'z'
 | v::vs,x::z,h,f=>by
  obtain ⟨t,e⟩:=f 0 v rfl;have G:v=Ru x t:=e;rw [G];exact .cons x t (vc (by simpa using h) λj u F=>f (j+1) u F)
theorem tZ:∀{vs:List Value}{z:List Str},StrsAre vs z->zq (z.map V.str) vs
 | _,_,.nil=>.nil
 | _,_,.cons x t h=>.cons {t,rfl} (tZ h)
theorem kG(hc:X.calm=true):zU X (.builtin "sorted") uT:=by
 intro Go s σ H xs us Q I r h;obtain ⟨a,rfl,kvs,hq,Xs,q⟩:=h;obtain ⟨u,rfl,ru⟩:=bM r;cases ru;obtain ⟨z,hd,vs,ZC,dd⟩:=bZ I.hok hq;obtain ⟨ep,S⟩:=dd.dictAt;have ZS:vs.length=kvs.length:=by rw [<- ZC.length];simp [sk]
 refine call_function_entry kind_sorted plain_sorted entry_sorted (args_sorted1 _) ?_;unfold N9.«sorted»
 refine we (m:=checkCount "sorted" 1 1 _) (NN ?_);refine we (kdu_collect (A:=X.A.in1) (kdl_dict (knd:=aE X.prog X.w) (kvs:=vs) (ep:=ep) hd) (I.ok.hd hc) S (by rw [ZS,Ph];lia) λh' tk ZZ W Zt=>?_);have hl:ZZ.toList.length=kvs.length:=by rw [Pl,<- ZS];exact Zt.1
 have J:StrsAre ZZ.toList (kvs.map (·.1)):=vc (by rw [hl,NO]) λj v hv=>by
  obtain ⟨k,x,hx,W⟩:=Zt.2 j v (by rw [<- O3];exact hv);have hj:j<vs.length:=(NU.mp hx).1;have F:j<kvs.length:=by lia
  have G:(sk kvs)[j]?=some (.inr kvs[j].1,kvs[j].2):=by simp [sk,F]
  obtain ⟨u',Xx,_⟩:=ZC.at G;rw [hx] at Xx;cases Xx;rcases dW (show fL (Sum.inr kvs[j].1) v=true from W) with ⟨i,t,O,G⟩|⟨y,t,O,G⟩
  .cases O
  .cases O;exact {t,by rw [G,Oq,Oe,NL F];rfl}
 have I1:Inv X Go σ H { s with heap:=h',toks:=tk }:=I.kept W;refine we (wpAny_newList ?_ (by rw [hl,Ph];lia));have U:(h'.push (seqObj "list" ZZ.toList.toArray 0)).get? h'.objs.size=some (seqObj "list" ZZ.toList.toArray 0):=N7 _ rfl;refine we (On (Pk slot_list_sort {_,U,rfl} entry_list_sort (list_sort_treeK strKind_oneLt U J.keysOf (λak av YU e=>keyKind_strs (by rw [<- e];exact J)) (by rw [hl];exact Xs) λYk a1 a2=>{_,rfl,?_}) (args_list_sort _)));obtain ⟨ax,b1,b2,b3⟩:=sorted_out_str J a1 a2;have e3:=wG b2 b3;subst e3;obtain ⟨c,Z⟩:=sortedHeap_at (vs:=ZZ.toList) (out:=(arrOf Yk).map (·.2)) U;refine NN {_,rfl,.ref h'.objs.size,upd H h'.objs.size (.lst ((zP (kvs.map (·.1))).map V.str)),I1.laid (a:=h'.objs.size) (t':=tk) (λb o e=>?_) (NV _) {?_,((arrOf Yk).map (·.2)).toList,c,tZ b1,by rw [RA];exact Z},rfl,q _ _ (.mk' (I1.hok.fresh (NV _)))}
 .have hb:b<h'.objs.size:=Os e;rw [sortedHeap_old (OM hb) (by rw [size_push'];exact QU hb)];exact NP _ e
 .have:=b2.length_eq;rw [NO,this,NO,Ph];lia
def yr(to:TE):TE:=λσ H Q=>to σ H λx H1=>uR x λa=>∃kvs,Rd H1 a (.dK kvs)/\∀v H2,New H1 v (.ext λh=>h.IsValuesView v a) H2->Q (.ref v) H2
theorem Iu{to:TE}:yr to σ H Q=to σ H λx H1=>uR x λa=>∃kvs,Rd H1 a (.dK kvs)/\∀v H2,New H1 v (.ext λh=>h.IsValuesView v a) H2->Q (.ref v) H2:=rfl
theorem NA(ho:W (PE X l tl))(J:Pm l "values" X.env (Pa l X.env)=Pa l X.env:=by rfl)(S:(Z3.endLine==cpos.line)=true:=by rfl):W (PE X (.Call (.Attribute l "values" Z3) [] [] cpos) (yr tl)):=by
 refine {?_};have ho:=ho.h;intro Go s σ H Q I h;refine wpAny_Call_method0_late J S (thn (ho Go s σ H _ I h) λv s1=>x5e λx H1 F r1 O=>?_);obtain ⟨a,ex,kvs,G,q⟩:=O;subst ex;cases r1;obtain ⟨z,hm,vs,U,dd⟩:=bZ F.hok G;obtain ⟨t1,t2,_⟩:=lN F (.inl ⟨kvs,G⟩);refine {"dict","dict.values",Sh,RP,SS,t1,t2,Calls.callWith_builtin rfl (PySem.evalArgs_none ?_)};refine RI RP dd.typeIs SC (Sv _) (meets_dict_values (aE X.prog X.w) a hm) {⟨vs,dd⟩,?_};have hv:(s1.heap.push { cls:=.type "dict_values",data:=.fields #[.ref a] }).IsValuesView s1.heap.objs.size a:={_,N7 _ rfl,rfl,rfl};exact {.ref s1.heap.objs.size,_,F.laid (t':=s1.toks) (o:=.ext λh=>h.IsValuesView s1.heap.objs.size a) (λb o e=>NP _ e) (NV _) {hv,{_,N7 _ rfl},λh1 h2 ⟨o,e,r⟩ k=>{o,k o e,r}},rfl,q _ _ (.mk' (F.hok.fresh (NV _)))}
def tK:List V->Hp->VK->Prop:=λxs H Q=>uR1 xs λv=>∃a kvs,H v=some (.ext λh=>h.IsValuesView v a)/\Rd H a (.dK kvs)/\∀p H2,New H p (.lst (kvs.map (·.2))) H2->Q (.ref p) H2
theorem BY:tK [.ref v] H Q = ∃a kvs,H v=some (.ext λh=>h.IsValuesView v a)/\Rd H a (.dK kvs)/\∀p H2,New H p (.lst (kvs.map (·.2))) H2->Q (.ref p) H2:=fj
theorem oP:∀{xs:List V}{us:List Value},xs.length=us.length->(∀(j:Nat)(u:Value),us[j]?=some u->∃x,xs[j]?=some x/\zm x u)->zq xs us
 | [],[],_,_=>.nil
 | [],_::_,h,_=>absurd h 'z'
 | _::_,[],h,_=>absurd h 'z'
 | x::xs,u::us,h,f=>by
  obtain ⟨y,e,r⟩:=f 0 u rfl;cases e;exact .cons r (oP (by simpa using h) λj w hw=>f (j+1) w hw)
theorem K1(hc:X.calm=true):zU X (.type "list") tK:=by
 intro Go s σ H xs us Q I r h;obtain ⟨v,rfl,a,kvs,hv,hq,q⟩:=h;obtain ⟨u,rfl,ru⟩:=bM r;cases ru;obtain ⟨z,hd,vs,Z,dd⟩:=bZ I.hok hq;obtain ⟨ep,G⟩:=dd.dictAt;obtain ⟨J,_,_⟩:=I.hok v _ hv;have ZS:=Z.length;refine kdl_call (kdl_values (knd:=aE X.prog X.w) (kvs:=vs) (ep:=ep)) (I.ok.hd hc) ⟨J,G⟩ (by rw [<- ZS];exact z) λh' tk O c' U YD W=>?_;have I1:Inv X Go σ H { s with heap:=h',toks:=tk }:=I.kept U;refine {.ref s.heap.objs.size,upd H s.heap.objs.size (.lst (kvs.map (·.2))),I.laid (a:=s.heap.objs.size) (t':=tk) U (NV _) {by rw [NO];exact z,O.toList,c',oP ?_ λj u hu=>?_,by rw [RA];exact YD},rfl,q _ _ (.mk' (I.hok.fresh (NV _)))}
 .have h3:=W.1;have h4:O.toList.length=O.size:=Pl ..;rw [NO];lia
 .obtain ⟨k,hx⟩:=W.2 j u (by rw [<- O3];exact hu);have hj:j<vs.length:=(NU.mp hx).1;have F:j<kvs.length:=by lia
  obtain ⟨u',S,r'⟩:=Z.at (NL F);rw [hx] at S;cases S;exact {_,by rw [Oe,NL F];rfl,r'}
end
end L2
namespace HT
open PySem PySem.Spec PyProof.Rows PySem.Calls
section
variable {prog:NW}{w:Oc}{A:Of}{E:Value->KE->Prop}{s:KE}
theorem getItem_tuple_whole{t sl:Addr}{W:Value}{lo hi:Option Int}(z:IsTup s.heap t items)(hs:s.heap.IsSliceOf sl W S .none)(pl:Sy W lo)(pu:Sy S hi)(h0:sIx items.size 0 lo=0)(h1:sIx items.size items.size hi=items.size)(h:Q (.ref t) s):N2 (N5 prog w) A (Tf (.ref t) (.ref sl)) Q E s:=by
 obtain ⟨os,J,G,Z⟩:=id hs;have O:s.TypeIs (.ref sl) "slice":=⟨os,J,G⟩;unfold Tf
 try with_reducible refine On ?_
 first|refine we (NN ?_)|skip
 refine we (wpAny_sequenceKey z.typeIs 'd' ?_);refine we (QA (name:=NS "__getitem__") z.typeIs O7
  (Pk O7 z.typeIs entry_tuple_getitem ?_ (args_tuple_getitem _ _)))
 show N2 _ _ (N9.Tuple.tupleItemsOf (.ref t)>>=_) _ _ s;refine we (tupleItemsOf_ z ?_);refine we (Rw O ?_);rw [if_pos 'd'];refine we (wO hs pl pu ?_);have F:(((sIx items.size 0 lo:Nat):Int)==0&&(1:Int)==1&&(sIx items.size items.size hi-sIx items.size 0 lo)==items.size)=true:=by
  rw [h0,h1];simp
 show N2 _ _ (if (((sIx items.size 0 lo:Nat):Int)==0&&(1:Int)==1&&(sIx items.size items.size hi-sIx items.size 0 lo)==items.size)=true then _ else _) _ _ s;rw [if_pos F];have Yh:∀{R:Bool->KE->Prop}{U:Of}{E':Value->KE->Prop},R true s->N2 (N5 prog w) U (N9.Tuple.tupleIsExact (.ref t)) R E' s:=λ{R U E'} hr=>by
  unfold N9.Tuple.tupleIsExact
  first
   | exact we (Rw z.typeIs (NN hr))
   | exact wpAny_map (Rw z.typeIs hr)
 refine we (Yh ?_)
 first
  | exact we (QK (we (NN (NN ⟨_,rfl,NN h⟩))))
  | exact we (QK (NN ⟨_,rfl,NN h⟩))
  | exact we (QK (we (NN ⟨_,rfl,NN h⟩)))
end
end HT
namespace L2
open PySem PySem.Spec PyProof.Rows PySem.W PySem.Calls
section
variable {X:Cx}
def jW:V->Option Int->Option Int->Hp->VK->Prop:=λx lo hi H Q=>uSl x lo hi H Q\/∃a xs,x = .ref a/\H a=some (.tup xs)/\∀p H2,zj H H2->H2 p=some (.tup (aW xs lo hi))->Q (.ref p) H2
theorem oZ:SlR X jW:=by
 intro Go s σ H x v S G lo hi sl Q I z hs pl F h;rcases h with h|⟨a,xs,rfl,hx,q⟩
 .exact cV Go s σ H x v S G lo hi sl Q I z hs pl F h
 .by_cases hw:HT.sIx xs.length 0 lo=0/\HT.sIx xs.length xs.length hi=xs.length
  .cases z;obtain ⟨U,r,O,hz⟩:=I.tuple (SqT.of hx);have J:U.toArray.size=xs.length:=by rw [Oa];exact r.length.symm
   refine {"tuple",_,O7.lookup,O.typeIs,?_};refine HT.getItem_tuple_whole O hs pl F (by rw [J];exact hw.1) (by rw [J];exact hw.2) {.ref a,H,I,rfl,q a H (zj.refl _) ?_};rw [hx];unfold aW;rw [hw.1,hw.2];simp
  .exact Ed Go s σ H _ v S G lo hi sl Q I z hs pl F {a,xs,rfl,SqT.of hx,hw,λp hp=>q p _ (New.mk' (o:=.tup (aW xs lo hi)) hp).same zt}
theorem HL{lo hi:Option Int}:jW (.str z) lo hi H Q=(z.length<=sizeLine/\Q (.str (Txt.slice z lo hi)) H):=by simp [jW,wJ]
theorem HN{a:Addr}{lo hi:Option Int}:jW (.ref a) lo hi H Q=((∃xs,H a=some (.lst xs)/\∀p H2,New H p (.lst (aW xs lo hi)) H2->Q (.ref p) H2)\/∃xs,H a=some (.tup xs)/\∀p H2,zj H H2->H2 p=some (.tup (aW xs lo hi))->Q (.ref p) H2):=by
 unfold jW;rw [vp];apply propext;constructor
 .rintro (h|⟨z,xs,e,h⟩)
  .exact .inl h
  .cases e;exact .inr ⟨xs,h⟩
 .rintro (h|⟨xs,h⟩)
  .exact .inl h
  .exact .inr {a,xs,rfl,h}
def jL:R2:=λx y H Q=>∃a b xs ys,x = .ref a/\y = .ref b/\H a=some (.tup xs)/\H b=some (.tup ys)/\xs.length+ys.length<=sizeLine/\∀p H2,zj H H2->H2 p=some (.tup (xs++ys))->Q (.ref p) H2
theorem KP:OpR X (PQ .Add) jL:=by
 intro Go s σ H x y v u Q I J U h;obtain ⟨a,b,xs,ys,rfl,rfl,ha,hb,hz,q⟩:=h;by_cases hx:xs=[]
 .cases J;cases U;obtain ⟨W,r1,p1,_⟩:=I.tuple (SqT.of ha);obtain ⟨Z,r2,p2,_⟩:=I.tuple (SqT.of hb);obtain ⟨⟨cls,dd,data,sl⟩,ho,hc,n,hd⟩:=id p1;obtain ⟨⟨O,X9,data2,G⟩,F,S,n2,z⟩:=id p2;simp only at hc hd S z;subst hc hd S z;have hi:W=[]:=r1.T5.mpr hx;exact concat_meets {_,ho,rfl} {_,F,rfl} noFill_tuple_add seq_tuple_add slot_tuple_add entry_tuple_add (args_tuple_add_2 _ _)
   (tuple_addW0 a b W.toArray Z.toArray n n2 dd X9 sl G (by simp [hi])) {ho,F,{.ref b,H,I,rfl,q b H (zj.refl _) (by rw [hb,hx];rfl)}}
 .exact Fv Go s σ H _ _ v u Q I J U {a,b,xs,ys,rfl,rfl,SqT.of ha,SqT.of hb,hx,hz,λe=>q a H (zj.refl _) (by rw [ha,e,Pr]),λ_ p hp=>q p _ (New.mk' (o:=.tup (xs++ys)) hp).same zt}
def hG:R2:=λx y H Q=>dX x y H Q\/jL x y H Q
theorem kE:OpR X (PQ .Add) hG:=cx.or KP
theorem Fd:hG (.int i) (.int j) H Q=Q (.int (i+j)) H:=by simp [hG,jL,dX]
theorem Kg:hG (.str i) (.str j) H Q=(i.length+j.length<=sizeLine/\Q (.str (i++j)) H):=by simp [hG,jL,dX]
theorem Du{a b:Addr}:hG (.ref a) (.ref b) H Q=((∃xs zs,H a=some (.lst xs)/\H b=some (.lst zs)/\xs.length+zs.length<=sizeLine/\∀p H2,New H p (.lst (xs++zs)) H2->Q (.ref p) H2) \/
  ∃xs ys,H a=some (.tup xs)/\H b=some (.tup ys)/\xs.length+ys.length<=sizeLine/\∀p H2,zj H H2->H2 p=some (.tup (xs++ys))->Q (.ref p) H2):=by
 unfold hG;rw [j7];apply propext;constructor
 .rintro (h|⟨G,J,xs,ys,F,z,h⟩)
  .exact .inl h
  .cases F;cases z;exact .inr ⟨xs,ys,h⟩
 .rintro (h|⟨xs,ys,h⟩)
  .exact .inl h
  .exact .inr {a,b,xs,ys,rfl,rfl,h}
def yR:List V->Hp->VK->Prop:=λxs H Q=>∃i j,xs=[.int i,.int j]/\(0<j/\j<2 ^ 64)/\∀p H2,New H p (.tup [.int (i / j),.int (i % j)]) H2->Q (.ref p) H2
theorem B5:yR [.int i,.int j] H Q=((0<j/\j<2 ^ 64)/\∀p H2,New H p (.tup [.int (i / j),.int (i % j)]) H2->Q (.ref p) H2):=by
 apply propext;constructor
 .rintro ⟨z,F,e,h⟩;cases e;exact h
 .exact λh=>{i,j,rfl,h}
theorem MU:zU X (.builtin "divmod") yR:=by
 intro Go s σ H xs us Q I r h;obtain ⟨i,j,rfl,⟨h1,h2⟩,q⟩:=h;obtain ⟨u,w',rfl,⟨t,rfl⟩,⟨t',rfl⟩⟩:=qz r;have z:j.natAbs.log2<9000:=by
  have:j.natAbs.log2<64:=(Nat.log2_lt 'l').mpr 'l';lia
 refine divmod_int 'l' ?_ (.inl (PyProof.noPylong_of_log2 z));rw [Int.fdiv_eq_ediv_of_nonneg i 'l',Int.fmod_eq_emod_of_nonneg i 'l'];have F:H s.heap.objs.size=none:=I.hok.fresh (NV _);refine {.ref s.heap.objs.size,_,?_,rfl,q _ _ (.mk' F)};refine I.laid (λb o e=>NP _ e) (NV _) {by simp only [OJ,Q5];rw [Ph];decide,[.int (i / j) s.toks,.int (i % j) (s.toks+1)],.cons {_,rfl} (.cons {_,rfl} .nil),?_};exact {_,N7 s.heap rfl,rfl,0,rfl}
def i7:R2:=λx y H Q=>rI0 (λi j=>.bl (decide (i<=j))) x y H Q\/∃i j,x = .str i/\y = .str j/\Q (.bl (!decide (j.cps.toList<i.cps.toList))) H
theorem qE:OpR X (OV .LtE) i7:=jm.or (by
 intro Go s σ H x y v u Q I z F h;obtain ⟨i,j,rfl,rfl,q⟩:=h;obtain ⟨t,rfl⟩:=z;obtain ⟨t',rfl⟩:=F;exact PySem.P.le_str (aj I q rfl))
theorem HA:i7 (.int i) (.int j) H Q=Q (.bl (decide (i<=j))) H:=by simp [i7,rI0]
theorem EF:i7 (.str i) (.str j) H Q=Q (.bl (!decide (j.cps.toList<i.cps.toList))) H:=by simp [i7,rI0]
def Ak:TS:=λ_ _ _=>False
theorem ig{st:Stmt}:W (PS X st Ak):={λ_ _ _ _ _ _ h=>h.elim}
def xE(to te:TE):TE:=λσ H Q=>to σ H λx H1=>uR x λl=>(∃xs,H1 l=some (.lst xs))/\te σ H1 λy H2=>uR y λb=>∃xs zs,H2 l=some (.lst xs)/\H2 b=some (.lst zs)/\xs.length+zs.length<=sizeLine/\Q .non (upd H2 l (.lst (xs++zs)))
theorem EE{to te:TE}:xE to te σ H Q=to σ H λx H1=>uR x λl=>(∃xs,H1 l=some (.lst xs))/\te σ H1 λy H2=>uR y λb=>∃xs zs,H2 l=some (.lst xs)/\H2 b=some (.lst zs)/\xs.length+zs.length<=sizeLine/\Q .non (upd H2 l (.lst (xs++zs))):=rfl
theorem kZ{o e:Og}{to te:TE}(ho:W (PE X o to))(he:W (PE X e te))(J:Pm o "extend" X.env (Pa o X.env)=Pa o X.env:=by rfl)(Zw:(Z3.endLine==cpos.line)=true:=by rfl)(hp:aB e=true:=by rfl):W (PE X (.Call (.Attribute o "extend" Z3) [e] [] cpos) (xE to te)):=by
 refine {?_};have ho:=ho.h;have he:=he.h;intro Go s σ H Q I h;have hs:Om [e] X.env=[(false,Pa e X.env)]:=fM hp;refine Qe J (by rw [hs];rfl) Zw rfl (thn (ho Go s σ H _ I h) λv s1=>x5e λx H1 G r1 U=>?_);obtain ⟨l,ex,⟨xs,hx⟩,q1⟩:=U;subst ex;obtain ⟨h1,h2⟩:=iq (T:="list") G r1 (.inl {rfl,xs,SqL.of hx});refine {"list","list.extend",Sg,PySem.F.slot_list_extend,PySem.F.type_list_extend,h1,h2,?_};rw [hs];refine Calls.callWith_builtin rfl (Calls.evalArgs_plain ?_);refine Calls.spliced_cons (thn (he Go s1 σ H1 _ G q1) λu s2=>x5e λy H2 S r2 Z=>Calls.spliced_nil ?_);obtain ⟨b,O,z,zs,hl,hb,hz,q⟩:=Z;subst O;exact B4 Go s2 σ H2 (.ref l) [.ref b] v [u] Q S r1 (.cons r2 .nil) {l,b,z,zs,rfl,rfl,hl,hb,hz,q}
end
section
variable {K:NQ}{g:TG}{tb:TS}{D:bo}{σ:St}{H:Hp}{tl:TE}{R:It->Hp->Prop}{tt:TT}{te:TE}{Q:VK}{a:Addr}{o:Obj}{kvs:List (Key×V)}
theorem E3:qX tl σ H R=tl σ H λx H1=>uR x λa=>∃o kvs,H1 a=some (.frz o (.dK kvs))/\R (Itw a o kvs) H1:=by
 unfold qX uR;congr;funext x H1;apply propext;constructor
 .rintro ⟨a,o,kvs,e,h⟩;exact ⟨a,e,o,kvs,h⟩
 .rintro ⟨a,e,o,kvs,h⟩;exact ⟨a,o,kvs,e,h⟩
theorem az.cq(F:Nat->St->Hp->Prop)(S:F 0 σ H)(hl:∀i σ H,i<=kvs.length->F i σ H->H a=some (.frz o (.dK kvs)))
  (hs:∀i p σ H,kvs[i]?=some p->F i σ H->g p.2 σ H λG H2=>tb { D with nx:=F (i+1),ct:=F (i+1),bk:=D.nx } G H2) (hd:∀σ H,F kvs.length σ H->D.nx σ H):az (Itw a o kvs) g tb D σ H:=by
 refine {λi m σ H=>m=kvs.length-i/\i<=kvs.length/\F i σ H,{kvs.length,'z',O9 _,S},?_};rintro i m σ H ⟨rfl,hi,p⟩;have q:=hl i σ H hi p;by_cases J:i<kvs.length
 .refine .inr {⟨q,J⟩,F (i+1),λU H' O=>{kvs.length-(i+1),'l',rfl,J,O},λx H' y=>?_};obtain ⟨e,z,hz,ex⟩:=y;subst e ex;exact hs i z σ _ hz p
 .have e:i=kvs.length:=by lia
  subst e;exact .inl {{q,NV _},hd σ H p}
theorem FO{t:TS}:tFz t D σ H = ∃a kvs,H a=some (.dK kvs)/\∀o,t (D.Ub a kvs) σ (upd H a (.frz o (.dK kvs))):=rfl
theorem Nf{t:TE}:yB t σ H Q = ∃a kvs,H a=some (.dK kvs)/\∀o,t σ (upd H a (.frz o (.dK kvs))) λv H'=>gn a kvs H' (Q v):=rfl
end
end L2
namespace L2
open PySem PySem.Spec PyProof.Rows
section
variable {α β:Type}
def look(t:List (Str×α))(n:Str):Option α:=(t.find? λp=>decide (p.1=n)).map (·.2)
def zA(t:List (Str×α))(n:Str)(a:α):List (Str×α):=if (look t n).isSome then t.map λp=>if p.1=n then (p.1,a) else p else t++[(n,a)]
def zM(t:List (Str×α))(n:Str):List (Str×α):=t.filter λp=>!decide (p.1=n)
def names(t:List (Str×α)):List Str:=t.map (·.1)
theorem Bc:look ([]:List (Str×α)) n=none:=rfl
theorem cF{p:Str×α}{t:List (Str×α)}:look (p::t) n=if p.1=n then some p.2 else look t n:=by
 unfold look;by_cases h:p.1=n
 .rw [List.find?_cons_of_pos (by simpa using h),if_pos h];rfl
 .rw [List.find?_cons_of_neg (by simpa using h),if_neg h]
theorem dq{t:List (Str×α)}{a:α}(h:look t n=some a):(n,a)∈t:=by
 induction t with
 | nil=>cases h
 | cons p t z =>
  rw [cF] at h;by_cases e:p.1=n
  .rw [if_pos e] at h;cases h;subst e;exact NX ..
  .rw [if_neg e] at h;exact NR _ (z h)
theorem cM{t:List (Str×α)}:look t n=none↔n∉names t:=by
 induction t with
 | nil=>simp [look,names]
 | cons p t z =>
  rw [cF];by_cases e:p.1=n
  .rw [if_pos e];simp [names,e]
  .rw [if_neg e,z];simp [names];exact λ_=>λh=>e h.symm
theorem gF{t:List (Str×α)}(nd:(names t).Nodup){a:α}(h:(n,a)∈t):look t n=some a:=by
 induction t with
 | nil=>cases h
 | cons p t F =>
  rw [cF];have z:p.1∉names t/\(names t).Nodup:=Rn.mp nd;rcases NT.mp h with e|h
  .rw [<- e,if_pos rfl]
  .have:p.1≠n:=λe=>z.1 (by rw [e];exact List.mem_map_of_mem (f:=(·.1)) h);rw [if_neg this];exact F z.2 h
theorem qJ{t:List (Str×α)}{a:α}:names (zA t n a)=if (look t n).isSome then names t else names t++[n]:=by
 unfold zA names;by_cases h:(look t n).isSome
 .rw [if_pos h,if_pos h,PK];refine Pd λp _=>?_;show (if p.1=n then (p.1,a) else p).1=p.1;split<;>rfl
 .rw [if_neg h,if_neg h,OI];rfl
theorem fC{t:List (Str×α)}{a:α}(nd:(names t).Nodup):(names (zA t n a)).Nodup:=by
 rw [qJ];by_cases h:(look t n).isSome
 .rw [if_pos h];exact nd
 .rw [if_neg h];have:look t n=none:=by simpa using h
  rw [cM] at this;rw [List.nodup_append];refine {nd,'z',λx hx y z e=>?_};have:y=n:=by simpa using z
  subst this;subst e;contradiction
theorem jz{t:List (Str×α)}(nd:(names t).Nodup):(names (zM t n)).Nodup:=by
 unfold names zM;exact nd.sublist (List.Sublist.map _ List.filter_sublist)
theorem EC{t:List (Str×α)}{a:α}:look (t.map λp=>if p.1=n then (p.1,a) else p) m=if m=n then (if (look t n).isSome then some a else none) else look t m:=by
 induction t with
 | nil=>by_cases h:m=n<;>simp [look,h]
 | cons p t F =>
  rw [Pi,cF,F,cF,cF];by_cases e:p.1=n
  .rw [if_pos e,if_pos e];show (if p.1=m then some a else _)=_;by_cases h:m=n
   .rw [if_pos (by rw [e,h]),if_pos h];rfl
   .rw [if_neg (λz=>h (by rw [<- z,e])),if_neg h,if_neg h,if_neg (λz=>h (by rw [<- z,e]))]
  .rw [if_neg e,if_neg e];by_cases h:m=n
   .rw [if_pos h,if_pos h,if_neg (λz=>e (by rw [z,h]))]
   .rw [if_neg h,if_neg h]
theorem Fq{t u:List (Str×α)}:look (t++u) m=(look t m).or (look u m):=by
 induction t with
 | nil=>simp [Bc]
 | cons p t z =>
  rw [PZ,cF,cF,z];by_cases h:p.1=m
  .rw [if_pos h,if_pos h];rfl
  .rw [if_neg h,if_neg h]
theorem dD{t:List (Str×α)}{a:α}:look (zA t n a) m=if m=n then some a else look t m:=by
 unfold zA;by_cases h:(look t n).isSome
 .rw [if_pos h,EC,if_pos h]
 .rw [if_neg h,Fq,cF];have F:look t n=none:=by simpa using h
  by_cases e:m=n
  .rw [if_pos e,e,F,if_pos rfl];rfl
  .rw [if_neg e,if_neg (λz=>e z.symm),Bc,Option.or_none]
theorem gU{t:List (Str×α)}:look (zM t n) m=if m=n then none else look t m:=by
 induction t with
 | nil=>by_cases h:m=n<;>simp [look,zM,h]
 | cons p t F =>
  by_cases e:p.1=n
  .have:zM (p::t) n=zM t n:=by unfold zM;rw [QI (by simpa using e)]
   rw [this,F,cF];by_cases h:m=n
   .rw [if_pos h,if_pos h]
   .rw [if_neg h,if_neg h,if_neg (λz=>h (by rw [<- z,e]))]
  .have:zM (p::t) n=p::zM t n:=by unfold zM;rw [QH (by simpa using e)]
   rw [this,cF,cF,F];by_cases h:m=n
   .rw [if_pos h,if_pos h,if_neg (λz=>e (by rw [z,h]))]
   .rw [if_neg h,if_neg h]
def bg(t u:List (Str×α)):Prop:=∀n,look t n=look u n
theorem bg.put{t u:List (Str×α)}(h:bg t u)(n:Str)(a:α):bg (zA t n a) (zA u n a):=λm=>by rw [dD,dD,h m]
theorem bg.drop{t u:List (Str×α)}(h:bg t u)(n:Str):bg (zM t n) (zM u n):=λm=>by rw [gU,gU,h m]
theorem bg.names{t u:List (Str×α)}(h:bg t u)(G:(names t).Nodup)(J:(L2.names u).Nodup):(L2.names t).Perm (L2.names u):=by
 refine (PM G J).mpr λn=>?_;have h1:=h n;constructor
 .intro F;refine OP λz=>?_;rw [cM.mpr z] at h1;exact cM.mp h1 F
 .intro F;refine OP λz=>?_;rw [cM.mpr z] at h1;exact cM.mp h1.symm F
def Dct(R:V->α->Prop):List (Str×V)->List (Str×α)->Prop:=Paired λp q=>p.1=q.1/\R p.2 q.2
theorem Dct.names{t:List (Str×α)}(h:Dct R kvs t):kvs.map (·.1)=L2.names t:=by
 induction h with
 | nil=>rfl
 | @cons p q l m r _ z=>show p.1::l.map (·.1)=q.1::m.map (·.1);rw [r.1,z];rfl
theorem Dct.length{t:List (Str×α)}(h:Dct R kvs t):kvs.length=t.length:=Paired.length h
theorem Dct.imp{t:List (Str×α)}(h:Dct R kvs t)(f:∀v a,R v a->S v a):Dct S kvs t:=Paired.J7 h λp q z=>{z.1,f _ _ z.2}
theorem Dct.look{t:List (Str×α)}(h:Dct R kvs t)(n:Str):(∃v a,L2.look kvs n=some v/\L2.look t n=some a/\R v a)\/(L2.look kvs n=none/\L2.look t n=none):=by
 induction h with
 | nil=>exact .inr {rfl,rfl}
 | cons r _ z =>
  rw [cF,cF,<- r.1];split
  .exact .inl {_,_,rfl,rfl,r.2}
  .exact z
theorem Dct.put{t:List (Str×α)}(h:Dct R kvs t)(n:Str){a:α}(r:R v a):Dct R (zA kvs n v) (zA t n a):=by
 have hs:(L2.look kvs n).isSome=(L2.look t n).isSome:=by
  rcases h.look n with ⟨v,a,G,F,_⟩|⟨G,F⟩<;>rw [G,F]<;>rfl
 have hm:Dct R (kvs.map λp=>if p.1=n then (p.1,v) else p) (t.map λp=>if p.1=n then (p.1,a) else p):=by
  clear hs
  induction h with
  | nil=>exact .nil
  | @cons p q _ _ r' _ z =>
   refine .cons ?_ z;show (if p.1=n then (p.1,v) else p).1=(if q.1=n then (q.1,a) else q).1/\R (if p.1=n then (p.1,v) else p).2 (if q.1=n then (q.1,a) else q).2;by_cases e:p.1=n
   .rw [if_pos e,if_pos (by rw [<- r'.1];exact e)];exact ⟨r'.1,r⟩
   .rw [if_neg e,if_neg (by rw [<- r'.1];exact e)];exact r'
 have ha:Dct R (kvs++[(n,v)]) (t++[(n,a)]):=by
  clear hs hm
  induction h with
  | nil=>exact .cons {rfl,r} .nil
  | cons r' _ z=>exact .cons r' z
 unfold zA;rw [hs];split
 .exact hm
 .exact ha
theorem Dct.drop{t:List (Str×α)}(h:Dct R kvs t)(n:Str):Dct R (zM kvs n) (zM t n):=by
 induction h with
 | nil=>exact .nil
 | @cons p q _ _ r _ z =>
  unfold zM at z ⊢;by_cases e:p.1=n
  .rw [QI (by simpa using e),QI (by rw [<- r.1];simpa using e)];exact z
  .rw [QH (by simpa using e),QH (by rw [<- r.1];simpa using e)];exact .cons r z
theorem Dct.at{t:List (Str×α)}(h:Dct R kvs t):∀{i:Nat}{p:Str×V},kvs[i]?=some p->∃a,t[i]?=some (p.1,a)/\R p.2 a:=by
 induction h with
 | nil=>intro i p e;simp at e
 | @cons x y _ _ r _ z =>
  intro i p e;cases i with
  | zero =>
   have F:x=p:=by simpa using e
   subst F;exact {y.2,by rw [r.1];rfl,r.2}
  | succ i=>exact z (by simpa using e)
end
theorem bH:af (sk kvs) (.inr n)=look kvs n:=by
 induction kvs with
 | nil=>rfl
 | cons p t F =>
  rw [cF];by_cases e:p.1=n
  .rw [if_pos e];exact jM (show (Sum.inr p.1:Key)=Sum.inr n by rw [e])
  .rw [if_neg e,<- F];exact jj (λz=>e (by injection z))
theorem d6:aM (sk kvs) (.inr n) v=sk (zA kvs n v):=by
 unfold aM zA;have hs:((sk kvs).any λz=>decide (z.1 = .inr n))=(look kvs n).isSome:=by rw [rD,bH]
 rw [hs];split
 .unfold sk;rw [PK,PK];refine Pd λp _=>?_;by_cases e:p.1=n
  .simp [e]
  .simp [e]
 .simp [sk]
theorem mY:bV (sk kvs) (.inr n)=sk (zM kvs n):=by
 induction kvs with
 | nil=>rfl
 | cons p t F =>
  by_cases e:p.1=n
  .have:zM (p::t) n=zM t n:=by unfold zM;rw [QI (by simpa using e)]
   rw [this,<- F];exact Kr (show (Sum.inr p.1:Key)=Sum.inr n by rw [e])
  .have:zM (p::t) n=p::zM t n:=by unfold zM;rw [QH (by simpa using e)]
   rw [this];show bV ((Sum.inr p.1,p.2)::sk t) (Sum.inr n)=(Sum.inr p.1,p.2)::sk (zM t n);rw [<- F];exact CS (λz=>e (by injection z))
theorem E6{a:Addr}:pq (.ref a) (.str z) H Q = ∃kvs,Rd H a (.dK kvs)/\∃v,af kvs (.inr z)=some v/\Q v H:=by
 apply propext;constructor
 .rintro ⟨J,k,kvs,v,G,F,h1,h2,q⟩;cases G;cases k with
  | inl i=>cases F
  | inr x=>cases F;exact ⟨kvs,h1,v,h2,q⟩
 .rintro ⟨kvs,h1,v,h2,q⟩;exact {a,.inr z,kvs,v,rfl,rfl,h1,h2,q}
theorem G7{a b:Addr}:jL (.ref a) (.ref b) H Q = ∃xs ys,H a=some (.tup xs)/\H b=some (.tup ys)/\xs.length+ys.length<=sizeLine/\∀p H2,zj H H2->H2 p=some (.tup (xs++ys))->Q (.ref p) H2:=by
 apply propext;constructor
 .rintro ⟨G,J,xs,ys,F,z,h⟩;cases F;cases z;exact ⟨xs,ys,h⟩
 .rintro ⟨xs,ys,h⟩;exact {a,b,xs,ys,rfl,rfl,h}
def AN:List V->Hp->VK->Prop:=λxs H Q=>uR1 xs λa=>∃kvs,Rd H a (.dK kvs)/\Q (.int kvs.length) H
theorem BG{a:Addr}:AN [.ref a] H Q = ∃kvs,Rd H a (.dK kvs)/\Q (.int kvs.length) H:=fj
theorem Gv:zU X (.builtin "len") AN:=by
 intro Go s σ H xs us Q I r h;obtain ⟨a,rfl,kvs,ha,q⟩:=h;obtain ⟨u,rfl,z⟩:=bM r;cases z;exact HQ I ha λt s' F=>{.int kvs.length,H,F,{t,rfl},q}
theorem Hj{k j:Nat}{p pos:Pos}(G:GC X.prog X.w X.K X.mg X.base cm j x C ps sp)(hr:zX cm k X.A)(z:Gl X x)(J:j+1<=k:=by decide)(O:(x==("__debug__":Str))=false:=by decide):
  PE X (.Call (.Name x p) [] [] pos) (mU C sp cK):=by
 obtain ⟨f,fd,F,hm,M,hb⟩:=G.ex;intro Go s σ H Q I h;exact NC M F (hr.mono J) z hm hb .nil i3 O Go s σ H Q I (λy dx hx hd ne=>h y dx _ (.mk' hx hd ne))
theorem o9{k j:Nat}{p pos:Pos}(G:GC X.prog X.w X.K X.mg X.base cm j x C ps sp)(hr:zX cm k X.A)(z:Gl X x)(F:j+1<=k:=by decide)(J:(x==("__debug__":Str))=false:=by decide):
  W (PE X (.Call (.Name x p) [] [] pos) (mU C sp cK)):={Hj G hr z F J}
def nE:R2:=λx y H Q=>∃p xs,y = .ref p/\(H p=some (.lst xs)\/H p=some (.tup xs))/\ae x=true/\xs.all ae=true/\Q (.bl (!inV x xs)) H
theorem K2(G:X.A.units<cLine):OpR X (OV .NotIn) nE:=Kz.weak λx y H Q h=>by
 obtain ⟨p,xs,e,h,z,F,q⟩:=h;exact {p,xs,e,h.elim (λh=>.inl (SqL.of h)) (λh=>.inr (SqT.of h)),z,F,by simpa using q}
theorem v9{p:Addr}:nE x (.ref p) H Q = ∃xs,(H p=some (.lst xs)\/H p=some (.tup xs))/\ae x=true/\xs.all ae=true/\Q (.bl (!inV x xs)) H:=by simp [nE]
theorem cH:(sk kvs).length=kvs.length:=by simp [sk]
theorem eX{α β:Type}{R:α->β->Prop}:∀{l:List α}{m:List β},Paired R l m->∀{i:Nat}{a:α}{b:β},l[i]?=some a->m[i]?=some b->R a b
 | _,_,.nil,i,a,b,h,_=>by simp at h
 | _,_,.cons r t,0,a,b,h,h'=>by
  simp at h h';subst h h';exact r
 | _,_,.cons r t,i+1,a,b,h,h'=>eX t (by simpa using h) (by simpa using h')
theorem cZ{α β:Type}{R:α->β->Prop}{l:List α}{m:List β}(h:Paired R l m):l.length=m.length:=Paired.length h
section
variable {X:Cx}
def qH(K:NQ)(D:Addr)(tb:(Addr->St->Hp->Prop)->TS)(ts:TS):TS:=λZ σ H =>
 tb (λC z H'=>bW K C/\Rg K C (.ref D)=some true/\∀ea oe,H' ea=none->ji C oe->ts Z z (upd H' ea (.frz oe (.own 0)))) Z σ H
theorem Jo{K:NQ}:qH K D tb ts Z σ H=tb (λC z H'=>bW K C/\Rg K C (.ref D)=some true/\∀ea oe,H' ea=none->ji C oe->ts Z z (upd H' ea (.frz oe (.own 0)))) Z σ H:=rfl
def pj(neg:Bool):R2:=λx y H Q=>∃a b xs ys,x = .ref a/\y = .ref b/\H a=some (.lst xs)/\H b=some (.lst ys)/\(xs.length=0\/ys.length=0)/\Q (.bl (if neg then !decide (xs.length=ys.length) else decide (xs.length=ys.length))) H
theorem oU(z:X.A.units<cLine):OpR X (OV .Eq) (pj false):=by
 intro Go s σ H x y v u Q I G O h;obtain ⟨a,b,xs,ys,rfl,rfl,ha,hb,W,q⟩:=h;cases G;cases O;by_cases hz:xs.length=ys.length
 .have h1:xs=[]:=OH.mp 'l';have h2:ys=[]:=OH.mp 'l';subst h1 h2;exact xj z Go s σ H (.ref a) (.ref b) (.ref a) (.ref b) Q I rfl rfl {a,b,[],[],rfl,rfl,SqL.of ha,SqL.of hb,rfl,rfl,q}
 .obtain ⟨is,r1,J,_⟩:=I.list (SqL.of (K:=X.K) ha);obtain ⟨U,r2,p2,_⟩:=I.list (SqL.of (K:=X.K) hb);have S:=r1.length;have Z:=r2.length;refine SeqAt.eq_list_lengthsAt J.isList p2.isList (by simp;lia) z {.bl false,H,I,rfl,?_};have F:Q (.bl (decide (xs.length=ys.length))) H:=q;rw [decide_eq_false hz] at F;exact F
theorem lE(z:X.A.units<cLine):OpR X (OV .NotEq) (pj true):=by
 intro Go s σ H x y v u Q I G O h;obtain ⟨a,b,xs,ys,rfl,rfl,ha,hb,W,q⟩:=h;cases G;cases O;by_cases hz:xs.length=ys.length
 .have h1:xs=[]:=OH.mp 'l';have h2:ys=[]:=OH.mp 'l';subst h1 h2;exact yV z Go s σ H (.ref a) (.ref b) (.ref a) (.ref b) Q I rfl rfl {a,b,[],[],rfl,rfl,SqL.of ha,SqL.of hb,rfl,rfl,q}
 .obtain ⟨is,r1,J,_⟩:=I.list (SqL.of (K:=X.K) ha);obtain ⟨U,r2,p2,_⟩:=I.list (SqL.of (K:=X.K) hb);have S:=r1.length;have Z:=r2.length;refine SeqAt.RcNeAt.lists_lengths J.isList p2.isList (by simp;lia) z _ _ _ _ {.bl true,H,I,rfl,?_};have F:Q (.bl (!decide (xs.length=ys.length))) H:=q;rw [decide_eq_false hz] at F;exact F
theorem DZ{a b:Addr}:pj neg (.ref a) (.ref b) H Q = ∃xs ys,H a=some (.lst xs)/\H b=some (.lst ys)/\(xs.length=0\/ys.length=0)/\Q (.bl (if neg then !decide (xs.length=ys.length) else decide (xs.length=ys.length))) H:=by
 apply propext;constructor
 .rintro ⟨G,J,xs,ys,F,z,h⟩;cases F;cases z;exact ⟨xs,ys,h⟩
 .rintro ⟨xs,ys,h⟩;exact {a,b,xs,ys,rfl,rfl,h}
def qM:List V->Hp->VK->Prop:=λxs H Q=>∃i,xs=[.int i]/\Q (.int (if i<0 then -i else i)) H
theorem Mg:qM [.int i] H Q=Q (.int (if i<0 then -i else i)) H:=by simp [qM]
theorem Hg:zU X (.builtin "abs") qM:=by
 intro Go s σ H xs us Q I r h;obtain ⟨i,rfl,q⟩:=h;obtain ⟨u,rfl,t,rfl⟩:=bM r;exact call_abs_int λu tk=>{.int _,H,I.tok tk,{_,rfl},q}
def uM(K:NQ):List V->Hp->VK->Prop:=λxs H Q=>jI K xs H Q\/∃x tp cs us t b,xs=[x,.ref tp]/\H tp=some (.tup cs)/\cs.map o6=us.map some/\TyX K H x t/\kitAny K t us=some b/\Q (.bl b) H
theorem yc:∀{cs:List V}{us z:List Value},cs.map o6=us.map some->zq cs z->z=us
 | [],[],_,_,.nil=>rfl
 | [],_::_,_,h,_=>by cases h
 | c::cs,[],_,h,_=>by cases h
 | c::cs,u::us,_,h,.cons r F=>by
  rw [Pi,Pi] at h;injection h with h1 h2
  rw [yc h2 F];congr 1;cases c with
  | ref a=>cases h1;exact r
  | ty n=>cases h1;exact r
  | _=>cases h1
theorem MH:zU X (.builtin "isinstance") (uM X.K):=by
 intro Go s σ H xs us Q I r h;rcases h with h|⟨x,tp,cs,ws,t,b,rfl,S,Z,ty,G,q⟩
 .exact jR Go s σ H xs us Q I r h
 .cases r with
  | cons r1 U =>
   cases U with
   | cons r2 U =>
    cases U;cases r2;rename_i F;obtain ⟨_,Z7,rv,o,e,hc,n,hd⟩:=I.hok tp _ S;have W0:=yc Z rv;subst W0;obtain ⟨ax,aI,av,a0⟩:=o;cases hc;cases hd;cases ty with
    | of ty =>
     cases ty with
     | non=>cases (show F=OL from r1);exact RF PySem.W.kitx_none I.z9 True.intro e G (λz=>nomatch z) λtk=>{.bl b,H,I.tok tk,rfl,q}
     | bl y=>cases (show F=Qz y from r1);exact RF PySem.W.kitx_bool I.z9 True.intro e G (λz=>nomatch z) λtk=>{.bl b,H,I.tok tk,rfl,q}
     | int i=>obtain ⟨t,z⟩:=(show ∃t,F=QV i t from r1);cases z;exact RF kitx_int I.z9 True.intro e G (λz=>nomatch z) λtk=>{.bl b,H,I.tok tk,rfl,q}
     | str y=>obtain ⟨t,z⟩:=(show ∃t,F=Ru y t from r1);cases z;exact RF kitx_str I.z9 True.intro e G (λz=>nomatch z) λtk=>{.bl b,H,I.tok tk,rfl,q}
     | flt y=>obtain ⟨t,z⟩:=(show ∃t,F=float y t from r1);cases z;exact RF PySem.W.kitx_float I.z9 True.intro e G (λz=>nomatch z) λtk=>{.bl b,H,I.tok tk,rfl,q}
     | @lst a xs ea =>
      cases (show F=N6 a from r1);obtain ⟨_,_,n',_,h1⟩:=(show z8 X.prog X.w H s.heap a (.lst xs) from I.hok a _ ea);exact RF kitx_list I.z9 {_,h1,rfl} e G (λz=>nomatch z) λtk=>{.bl b,H,I.tok tk,rfl,q}
     | @frz a ob xs ea =>
      cases (show F=N6 a from r1);obtain ⟨_,_,_,n',_,h1⟩:=(show z8 X.prog X.w H s.heap a (.frz ob (.lst xs)) from I.hok a _ ea);exact RF kitx_list I.z9 {_,h1,rfl} e G (λz=>nomatch z) λtk=>{.bl b,H,I.tok tk,rfl,q}
     | @tup a xs ea =>
      cases (show F=N6 a from r1);obtain ⟨_,_,_,p⟩:=(show z8 X.prog X.w H s.heap a (.tup xs) from I.hok a _ ea);obtain ⟨o,h1,h2,_⟩:=p;exact RF PySem.W.kitx_tuple I.z9 ⟨o,h1,h2⟩ e G (λz=>nomatch z) λtk=>{.bl b,H,I.tok tk,rfl,q}
     | @dK a kvs ea =>
      cases (show F=N6 a from r1);obtain ⟨_,_,vs,_,p⟩:=(show z8 X.prog X.w H s.heap a (.dK kvs) from I.hok a _ ea);obtain ⟨o,es,ep,h1,h2,_⟩:=p;exact RF kitx_dict I.z9 ⟨o,h1,h2.1⟩ e G (λz=>nomatch z) λtk=>{.bl b,H,I.tok tk,rfl,q}
     | @dT a kvs ea =>
      cases (show F=N6 a from r1);obtain ⟨_,_,xs,_,o,es,ep,h1,h2,_⟩:=(show z8 X.prog X.w H s.heap a (.dT kvs) from I.hok a _ ea);exact RF kitx_dict I.z9 ⟨o,h1,h2.1⟩ e G (λz=>nomatch z) λtk=>{.bl b,H,I.tok tk,rfl,q}
     | @ins a C dx fs ea cl ha hn ak hm =>
      cases (show F=N6 a from r1);obtain ⟨mA,O,_⟩:=jG I.hok ea;obtain ⟨od,J,_⟩:=O.look;exact RF (kitx_own (cl.get _) cl.hd ha hn ak hm) I.z9 J e G (λz=>nomatch z) λtk=>{.bl b,H,I.tok tk,rfl,q}
    | exc e0 ho O =>
     rename_i a C o;obtain rfl:F=N6 a:=r1;obtain ⟨z,_⟩:=I.hok a _ e0;obtain ⟨c1,c2,vs,c3⟩:=ho;have J:PySem.W.InstAt s.heap a o C none:={z,c1,by unfold PySem.W.notCls;rw [c3],by rw [c2];trivial};exact RF (yp O) I.z9 J e G (λw=>nomatch w) λtk=>{.bl b,H,I.tok tk,rfl,q}
end
theorem yI{K:NQ}(h:X.K=K):zU X (.builtin "isinstance") (uM K):=by subst h;exact MH
theorem GN{p:Addr}:kN c (.int i) (.ref p) H Q = ∃kvs,Rd H p (.dK kvs)/\Q (.bl (if c then !(af kvs (.inl i)).isSome else (af kvs (.inl i)).isSome)) H:=by
 apply propext;constructor
 .rintro ⟨a,k,kvs,F,z,h,q⟩;cases F;cases k with
  | inl i=>cases z;exact ⟨kvs,h,q⟩
  | inr x=>cases z
 .rintro ⟨kvs,h,q⟩;exact {p,.inl i,kvs,rfl,rfl,h,q}
theorem kO{K:NQ}(F:X.K=K){a:Og}(ha:W (PE X a ta))(he:∀z,Tb a X.env z=(do let v<-z;Qm a.pos;Qu [v] (truthy v)):=by intro _;rfl):W (PT X a (kH K ta)):=by subst F;exact {xx ha.h he}
def dN(f:Nat->Int):Nat->Option Int
 | 0=>none
 | j+1=>some (match dN f j with|none=>f j|some m=>if f j>m then f j else m)
def me:Option Int->Array Value->Prop|none,Z7=>Z7 = #[]|some m,Z7=>∃t,Z7 = #[.int m t,.int m t]
def oX(d:Value):Option Int->Value->Prop|none,v=>v=d|some m,v=>∃t,v = .int m t
section
variable {prog:NW}{w:Oc}{A:Of}{E:Value->KE->Prop}{s:KE}
theorem Il{St:Nat->Heap->Prop}{d:Value}(W:Walks prog w A.in1 I fp wr n P St)(f:Nat->Int)(hv:∀i v,P i v->∃t,v = .int (f i) t)(S:Addr)(av:S∉fp)(a4:0<n\/kw=[(NS "default",d)]):
  ∀(k j:Nat)(s:KE)(c:Nat)(Z7:Array Value),n-j=k->j<=n->St j s.heap->me (dN f j) Z7 ->
  s.heap.get? S=some { cls:=.type "list",dict:=none,data:=.seq Z7 c,slots:=#[] } ->
  (∀v h' tk,oX d (dN f n) v->(∀b o,b∉wr->b≠S->s.heap.get? b=some o->h'.get? b=some o)->R (.ok (.ret v)) { s with heap:=h',toks:=tk }) ->
  Qb (N5 prog w) A (.builtin "max.loop" {[.ref I,.none,.ref S],kw}) R s:=by
 have a0:S∉wr:=λh=>av (W.sub _ h);have X6:(toString "max"++toString ".loop":String)="max.loop":=by decide
 intro k
 induction k with
 | zero =>
  intro j s c Z7 hk hj hst hC hS hR;have aI:j=n:=by lia
  refine Qs F.entry_max_loop ?_;rw [Of.under_plainId F.plain_max_loop _];show N2 _ A.in1 (seqItems? (.ref S)>>=_) _ _ s;refine we (Sn hS rfl ?_);show N2 _ A.in1 (tryCatch (RB (.ref I)) _>>=_) _ _ s;refine we (wpAny_tryCatch (W.done s _ _ (aI ▸ hst) λh' tk Yi=>?_));have YD:=Yi S _ a0 hS;rw [aI] at hC;cases hb:dN f n with
  | none =>
   rw [hb] at hC hR;cases (show Z7 = #[] from hC);have h0 : ¬ 0<n:=λz=>by
    cases n with
    | zero=>lia
    | succ m=>cases hb
   rcases a4 with z|rfl
   .exact absurd z h0
   show N2 _ A.in1 (rule _>>=_) _ _ _;exact we (QK (NN (hR d _ tk rfl λb o G _ e=>Yi b o G e)))
  | some m =>
   rw [hb] at hC hR;obtain ⟨t,rfl⟩:=hC;show N2 _ A.in1 (updateSeq S (λ_=>#[])>>=_) _ _ _;refine we (Rh YD rfl (we (wpAny_letGo (NN ?_))));exact hR _ _ tk {t,rfl} λb o G Xq e=>(Oz _ _ (OY Xq)).trans (Yi b o G e)
 | succ k ih =>
  intro j s c Z7 hk hj hst hC hS hR;have ZI:j<n:=by lia
  refine Qs F.entry_max_loop ?_;rw [Of.under_plainId F.plain_max_loop _];show N2 _ A.in1 (seqItems? (.ref S)>>=_) _ _ s;refine we (Sn hS rfl ?_);show N2 _ A.in1 (tryCatch (RB (.ref I)) _>>=_) _ _ s;refine we (wpAny_tryCatch (W.item j s _ _ ZI hst λv h' tk hP ak Yi=>?_));have YD:=Yi S _ a0 hS;obtain ⟨t,rfl⟩:=hv j v hP;have J:∀{b o}{g:Array Value->Array Value},b≠S->h'.get? b=some o->(h'.update S (Tt g)).get? b=some o:=λn e=>(Oz _ _ (OY n)).trans e;have ax:∀{g:Array Value->Array Value},St (j+1) (h'.update S (Tt g)):=λ{g}=>W.frame _ _ _ ak λb hb o e=>J (λz=>av (z ▸ hb)) e;cases hb:dN f j with
  | none =>
   rw [hb] at hC;cases (show Z7 = #[] from hC);show N2 _ A.in1 (updateSeq S (λ_=>#[.int (f j) t,.int (f j) t])>>=_) _ _ _;refine we (Rh YD rfl ?_);rw [X6];refine NN {Qh F.plain_max_loop _,ih (j+1) _ _ _ 'l' ZI ax ?_ (OW _ YD rfl) λv' h2 Z U O=>?_}
   .show me (some _) _;rw [hb];exact {t,rfl}
   .exact hR v' h2 Z U λb o G Xq e=>O b o G Xq (J Xq (Yi b o G e))
  | some m =>
   rw [hb] at hC;obtain ⟨u,rfl⟩:=hC;show N2 _ A.in1 (tryCatch (Qu [.int (f j) t,.int (f j) t] (richCompare .Gt (.int (f j) t) (.int m u)>>=_)) _>>=_) _ _ _;obtain ⟨bt,WZ,a3⟩:∃bt:Nat->Nat->Bool,bt 0 1=decide (f j>m)/\CmpOf prog w A.in1 .Gt (λi v=>(i=0/\v = .int (f j) t)\/(i=1/\v = .int m u)) bt:={_,rfl,CmpOf.ints_gt (λi=>if i=0 then f j else m) λi v h=>by rcases h with ⟨rfl,rfl⟩|⟨rfl,rfl⟩<;>exact {_,rfl}};refine we (wpAny_tryCatch (On (we (a3 0 1 _ _ _ _ _ (.inl {rfl,rfl}) (.inr {rfl,rfl}) ?_))));refine we (On (PH ?_));refine we (wpAny_letGo (NN ?_));by_cases hg:f j>m
   .rw [WZ,decide_eq_true hg];simp only [if_true];refine we (Rh YD rfl (we (wpAny_letGo ?_)));rw [X6];refine NN {Qh F.plain_max_loop _,ih (j+1) _ _ _ 'l' ZI ax ?_ (OW _ YD rfl) λv' h2 Z U O=>?_}
    .show me (some _) _;rw [hb];simp only [if_pos hg];exact {t,rfl}
    .exact hR v' h2 Z U λb o G Xq e=>O b o G Xq (J Xq (Yi b o G e))
   .rw [WZ,decide_eq_false hg];simp only [Qj,if_false];refine we (wpAny_letGo ?_);rw [X6];refine NN {Qh F.plain_max_loop _,ih (j+1) _ _ _ 'l' ZI ak ?_ YD λv' h2 Z U O=>?_}
    .show me (some _) _;rw [hb];simp only [if_neg hg];exact {u,rfl}
    .exact hR v' h2 Z U λb o G Xq e=>O b o G Xq (Yi b o G e)
theorem Lv(a d:Value):SR "max" {[a],[(NS "default",d)]}:=by unfold SR;kernel_rfl
theorem J0{d:Value}(hh:A.handled=none)(hl:s.heap.IsList l J)(hv:∀(i:Nat) v,J[i]?=some v->∃t,v = .int (f i) t)(G:(0<J.size/\kw=[])\/kw=[(NS "default",d)])(h:∀v h' tk,oX d (dN f J.size) v->(∀b o,s.heap.get? b=some o->h'.get? b=some o)->Q v { s with heap:=h',toks:=tk }):
  N2 (N5 prog w) A (call (.builtin "max") [.ref l] kw) Q E s:=by
 have X6:(toString "max"++toString ".loop":String)="max.loop":=by decide
 have ZI:l<s.heap.objs.size:=by obtain ⟨_,e,_⟩:=hl;exact Os e
 have Z:SR "max" {[.ref l],kw}:=by
  rcases G with ⟨_,rfl⟩|rfl
  .exact F.args_max1 _
  .exact Lv _ _
 refine PyProof.Rows.kmk_tree F.kind_max F.plain_max F.entry_max Z ?_;obtain ⟨O,W,hdk⟩:∃O:Option Value,N9.Builtins.bindParams "max" ["key","default"] 0 ⟨[],kw⟩=pure [none,O]/\(O.toList.map λd=>((NS "default":Str),d))=kw:=by
  rcases G with ⟨_,rfl⟩|rfl
  .exact {none,rfl,rfl}
  .exact {some d,rfl,rfl}
 show N2 _ A.in1 (N9.Builtins.bindParams "max" ["key","default"] 0 {[],kw}>>=_) _ _ s;refine we (wpAny_of_eq W ?_);refine we (NN ?_);refine we (Rx hl ?_);refine we (OQ ?_);rw [X6];have S:(s.heap.push { cls:=.type "list_iterator",data:=.fields #[.ref l,.int 0 0] }).objs.size=s.heap.objs.size+1:=size_push' ..;have U:l≠s.heap.objs.size:=OM ZI;refine NN {Qh F.plain_max_loop _,?_};show Qb _ A (.builtin "max.loop" {[_,.none,_],O.toList.map λd=>((NS "default":Str),d)}) _ _;rw [hdk];refine Il (Walks.list (A:=A.in1) hh _ l U J) f hv _ (λhm=>?_) (G.imp (·.1) id) _ 0 _ _ #[] rfl (O9 _) {{_,NP _ (N7 _ rfl),rfl,rfl},(hl.push _).push _} rfl (N7 _ rfl) λv h' tk hr hk=>?_
 .rcases NT.mp hm with e|hm
  .rw [S] at e;exact absurd e (R8 (RD _))
  .rcases NT.mp hm with e|hm
   .rw [S] at e;exact absurd (e ▸ QU ZI) (OF _)
   .cases hm
 .refine h v h' tk hr λb o e=>hk b o (λhm=>?_) (λz=>?_) (NP _ (NP _ e))
  .rcases NT.mp hm with e1|hm
   .exact absurd (e1 ▸ Os e) (OF _)
   .cases hm
  .have:=Os e;rw [z,S] at this;exact absurd this (not_lt.mpr (SK _))
end
section
variable {X:Cx}
def oi:Option Int->V|none=>.non|some m=>.int m
def nU:List V->Hp->VK->Prop:=λxs H Q=>pP xs H Q\/∃(l:Addr)(ks:List Int),xs=[.ref l]/\H l=some (.lst (ks.map V.int))/\0<ks.length/\Q (oi (dN (λi=>ks.getD i 0) ks.length)) H
theorem DV{ks:List Int}(r:zq (ks.map V.int) z):∀(i:Nat) v,z.toArray[i]?=some v->∃t,v = .int (ks.getD i 0) t:=by
 intro i v h;rw [<- O3] at h
 replace h:z[i]?=some v:=h
 induction ks generalizing z i with
 | nil=>cases r;simp at h
 | cons k ks F =>
  cases r with
  | cons r G =>
   cases i with
   | zero=>obtain ⟨t,rfl⟩:=r;simp at h;subst h;exact {t,rfl}
   | succ i=>exact F G i (by simpa using h)
theorem CH{o:Option Int}(h:oX .none o v):zm (oi o) v:=by
 cases o with
 | none=>cases (show v = .none from h);rfl
 | some m=>obtain ⟨t,rfl⟩:=h;exact {_,rfl}
theorem pe(hc:X.calm=true):zU X (.builtin "max") nU:=by
 intro Go s σ H xs us Q I r h;rcases h with h|⟨l,ks,rfl,hl,O,q⟩
 .exact FR hc Go s σ H xs us Q I r h
 .obtain ⟨u,rfl,J⟩:=bM r;cases J;obtain ⟨S,F,p,hz⟩:=I.list (SqL.of (K:=X.K) hl);have z:=F.length;rw [NO] at z;refine J0 (d:=.none) (f:=λi=>ks.getD i 0) (I.ok.hd hc) p.isList (DV F) (.inl {by rw [Oa];lia,rfl}) λv h' tk hr G=>{_,H,I.kept G,CH hr,?_};rw [Oa,<- z];exact q
theorem Jy:nU [.int i,.int j] H Q=Q (.int (if j>i then j else i)) H:=by
 apply propext;constructor
 .rintro (h|⟨l,ks,e,_⟩)
  .rw [rO] at h;exact h
  .cases e
 .exact λq=>.inl (by rw [rO];exact q)
theorem wH:nU [.ref l] H Q = ∃ks:List Int,H l=some (.lst (ks.map V.int))/\0<ks.length/\Q (oi (dN (λi=>ks.getD i 0) ks.length)) H:=by
 apply propext;constructor
 .rintro (⟨i,j,e,_⟩|⟨l',ks,e,h⟩)
  .cases e
  .cases e;exact ⟨ks,h⟩
 .rintro ⟨ks,h⟩;exact .inr {l,ks,rfl,h}
def pI(to te:TE):TE:=λσ H Q=>to σ H λx H1=>uR x λl=>(∃xs,H1 l=some (.lst xs))/\te σ H1 λy H2=>∃(xs:List V)(k:Nat)(v:V),y = .int k/\H2 l=some (.lst xs)/\xs[k]?=some v/\Q v (upd H2 l (.lst (xs.eraseIdx k)))
theorem Ck{to te:TE}:pI to te σ H Q=to σ H λx H1=>uR x λl=>(∃xs,H1 l=some (.lst xs))/\te σ H1 λy H2=>∃(xs:List V)(k:Nat)(v:V),y = .int k/\H2 l=some (.lst xs)/\xs[k]?=some v/\Q v (upd H2 l (.lst (xs.eraseIdx k))):=rfl
theorem ET{o e:Og}{to te:TE}(ho:PE X o to)(he:PE X e te)(ZN:Pm o "pop" X.env (Pa o X.env)=Pa o X.env:=by rfl)(Zw:(Z3.endLine==cpos.line)=true:=by rfl)(hp:aB e=true:=by rfl):PE X (.Call (.Attribute o "pop" Z3) [e] [] cpos) (pI to te):=by
 intro Go s σ H Q I h;have hs:Om [e] X.env=[(false,Pa e X.env)]:=fM hp;refine Qe ZN (by rw [hs];rfl) Zw rfl (thn (ho Go s σ H _ I h) λv s1=>x5e λx H1 S r1 YF=>?_);obtain ⟨l,ex,⟨xs,hx⟩,q1⟩:=YF;subst ex;obtain ⟨h1,h2⟩:=iq (T:="list") S r1 (.inl {rfl,xs,SqL.of hx});refine {"list","list.pop",Sg,PySem.F.slot_list_pop,PySem.F.type_list_pop,h1,h2,?_};rw [hs];refine Calls.callWith_builtin rfl (Calls.evalArgs_plain ?_);have W:=fB he fK (hs:=hs) cpos Go s1 σ H1 (λys H2=>cP (λy=>∃(xs:List V)(k:Nat)(v:V),y = .int k/\H2 l=some (.lst xs)/\xs[k]?=some v/\Q v (upd H2 l (.lst (xs.eraseIdx k)))) ys) S q1;rw [hs] at W;refine thn W λus s2=>x5e λvs H2 Z r2 J=>?_;obtain ⟨_,rfl,G,k,y,rfl,z,U,J⟩:=cP.ex J;obtain ⟨hz,_⟩:=Z.UP z;have ZI:k<G.length:=(NU.mp U).1;have O:k<sizeLine:=Oi ZI hz;rw [Ph] at O;exact Cj Go s2 σ H2 (.ref l) [.int k] v us Q Z r1 r2 {l,G,k,k,y,rfl,rfl,z,'l','l',by simp [seqIndex?];lia,U,J}
theorem i9{o e:Og}{to te:TE}(ho:W (PE X o to))(he:W (PE X e te))(F:Pm o "pop" X.env (Pa o X.env)=Pa o X.env:=by rfl)(z:(Z3.endLine==cpos.line)=true:=by rfl)(hp:aB e=true:=by rfl):W (PE X (.Call (.Attribute o "pop" Z3) [e] [] cpos) (pI to te)):={ET ho.h he.h F z hp}
end
end L2
namespace L2
open PySem PySem.Spec PyProof.Rows PySem.W
end L2
namespace L2
open PySem PySem.Spec PyProof.Rows
def tDC(ix:List (Option Nat))(wi:TI)(g:TG)(tt:TT)(tk tv:TE):TE:=λσ H Q=>wi σ H λJ H1=>∃W:Nat->Nat->St->List (Key×V)->Hp->Prop,(∃m,W 0 m (cL ix σ) [] H1)/\∀i m O ys H2,W i m O ys H2->ys.length<sizeLine /\
 ((J.stop i H2 ∧ ∀ D, H2 D = none → D ≠ sysModules → Q (.ref D) (upd H2 D (.dK ys))) ∨
  (J.go i H2 ∧ ∀ x H3, J.aG i H2 x H3 → g x O H3 fun F H4 => tt F H4 fun ok H5 => if ok = true then tk F H5 fun y H6 => tv F H6 fun z H7 => uK y fun k => ∃ G, G < m ∧ W (i + 1) G F (aM ys k z) H7 else ∃ G, G < m ∧ W (i + 1) G F ys H5))
theorem Gi(hc:c=true->X.calm=true)(L:aA X sc N' ix)(hi:PIc c X tg iter wi)(hg:∀Go C fp s H,PG (zC X sc N' Go C fp s H) tg g)(ht:∀Go C fp s H,PTs (zC X sc N' Go C fp s H) Y8 tt)(hk:∀Go C fp s H,PE (zC X sc N' Go C fp s H) S tk)(hv:∀Go C fp s H,PE (zC X sc N' Go C fp s H) F tv)(hs:∀x,OK iter X.env x=pure x:=by intro _;rfl):PE X (.DictComp S F [{tg,iter,Y8,0}] sc pos) (tDC ix wi g tt tk tv):=by
 intro Go s σ H Q I h;rw [arm_eval_DictComp];refine wX (e:=.DictComp S F [{tg,iter,Y8,0}] sc pos) (use:=none) (em:=λD env=>do
  let kv<-Pa S env
  let vv<-Qu [kv] (Pa F env)
  Qm { S.pos with endLine:=F.pos.endLine,endCol:=F.pos.endCol }
  Qu [kv,vv] (dictSet D kv vv)) (T:="dict") (dt:=.dict #[]) SN HO.dK [] (λys o=>∃vs es ep,KV ys vs/\o.ExactDict/\o.data = .dict es ep/\KeysOf (aE X.prog X.w) es/\Pairs (aE X.prog X.w) es.toList vs/\(vs.map (·.1)).Nodup) (λK ys O H=>tk O H λy H6=>tv O H6 λz H7=>uK y λk=>K (aM ys k z) H7) rfl (by size_fits) (λ_ _ _=>{λ_=>rfl,rfl}) codeAny_compStart_dict ?_ rfl ?_ ?_ ?_ hc L hi hg ht hs I h λC D oC H' s5 m5 IX ns tu q=>?_
 .obtain ⟨o,es,ep,e,r⟩:=Heap.DictOf.new (knd:=aE X.prog X.w) s.heap;rw [N7 _ rfl] at e;cases e;exact {[],es,ep,.nil,r}
 .rintro ys o ⟨vs,es,ep,_,_,d,_⟩ v z;rw [d] at z;cases z
 .rintro ys o H' h D ⟨vs,es,ep,W,dx,r⟩ hl n e;exact {Sa hl,by simpa using n,vs,W,o,es,ep,e,dx,r}
 .rintro Go C fp s H pins' s8 O H8 ys ob D K I8 q8 ⟨vs,es,ep,W,r⟩ hl hD;refine we (thn (hk Go C fp s H _ s8 O H8 _ I8 q8) λy s9=>x5e λyv H9 I9 r9 q9=>we (On (thn (hv Go C fp s H _ s9 O H9 _ I9 q9) λz U=>x5e λzv av J ak Yd=>?_)));obtain ⟨kk,ek,w'⟩:=Yd;subst ek;have lv:vs.length<sizeLine:=by rw [<- W.length];exact hl
  refine we (OX (On (wpAny_dictSet_pairs (hsz:=Sa lv) (eY r9) {ob,es,ep,(J.pin _ (NY _ hD)).1,r} λZ G sb=>?_)));obtain ⟨o2,ax,aI,e2,r2⟩:=G;exact {U,_,av,o2,Z,U.toks+1,rfl,w',J,{_,ax,aI,W.put kk ak,r2},e2,sb}
 .obtain ⟨p6,a0,_⟩:=IX.pin (C,oC) (NY _ (NY _ (OO.mpr rfl)));exact {m5,ns p6,λh' Xd=>{.ref D,H',tu (IX.ti λp hp=>IX.pin p (NY _ (Oo _ hp))) a0 Xd,rfl,q}}
end L2
namespace L2
open PySem PySem.Spec PyProof.Rows PySem.W PySem.Calls
section
variable {X:Cx}
def ik(kvs:List (Int×V)):List (Key×V):=kvs.map λp=>(.inl p.1,p.2)
def tH:List V->Hp->VK->Prop:=λxs H Q=>uR1 xs λa=>∃kvs:List (Int×V),Rd H a (.dK (ik kvs))/\kvs.length<64/\∀p (ns:List Int) H2,New H p (.lst (ns.map V.int)) H2->ns.Perm (kvs.map (·.1))->ns.Pairwise (·<=·)->Q (.ref p) H2
theorem Gb{a:Addr}:tH [.ref a] H Q = ∃kvs:List (Int×V),Rd H a (.dK (ik kvs))/\kvs.length<64/\∀p (ns:List Int) H2,New H p (.lst (ns.map V.int)) H2->ns.Perm (kvs.map (·.1))->ns.Pairwise (·<=·)->Q (.ref p) H2:=fj
theorem AS:∀{vs:List Value}{ns:List Int},vs.length=ns.length->(∀(j:Nat)(v:Value),vs[j]?=some v->∃t,v=QV (ns.getD j 0) t)->QP vs ns
 | [],[],_,_=>.nil
 | [],_::_,h,_=>absurd h 'z'
 | _::_,[],h,_=>absurd h 'z'
 | v::vs,x::ns,h,f=>by
  obtain ⟨t,e⟩:=f 0 v rfl;have F:v=QV x t:=e;rw [F];exact .cons x t (AS (by simpa using h) λj u z=>f (j+1) u z)
theorem xk(hc:X.calm=true):zU X (.builtin "sorted") tH:=by
 intro Go s σ H xs us Q I r h;obtain ⟨a,rfl,kvs,hq,Xs,q⟩:=h;obtain ⟨u,rfl,ru⟩:=bM r;cases ru;obtain ⟨z,hd,vs,ZC,dd⟩:=bZ I.hok hq;obtain ⟨ep,O⟩:=dd.dictAt;have ZS:vs.length=kvs.length:=by rw [<- ZC.length];simp [ik]
 refine call_function_entry kind_sorted plain_sorted entry_sorted (args_sorted1 _) ?_;unfold N9.«sorted»
 refine we (m:=checkCount "sorted" 1 1 _) (NN (we (kdu_collect (A:=X.A.in1) (kdl_dict (knd:=aE X.prog X.w) (kvs:=vs) (ep:=ep) hd) (I.ok.hd hc) O (by rw [ZS,Ph];lia) λh' tk ZZ U Zt=>?_)));have hl:ZZ.toList.length=kvs.length:=by rw [Pl,<- ZS];exact Zt.1
 have hS:QP ZZ.toList (kvs.map (·.1)):=AS (by rw [hl,NO]) λj v hv=>by
  obtain ⟨k,x,hx,U⟩:=Zt.2 j v (by rw [<- O3];exact hv);have hj:j<vs.length:=(NU.mp hx).1;have F:j<kvs.length:=by lia
  have G:(ik kvs)[j]?=some (.inl kvs[j].1,kvs[j].2):=by simp [ik,F]
  obtain ⟨u',Xx,_⟩:=ZC.at G;rw [hx] at Xx;cases Xx;rcases dW (show fL (Sum.inl kvs[j].1) v=true from U) with ⟨i,t,J,G⟩|⟨y,t,J,G⟩
  .cases J;exact {t,by rw [G,Oq,Oe,NL F];rfl}
  .cases J
 have I1:Inv X Go σ H { s with heap:=h',toks:=tk }:=I.kept U;refine we (wpAny_newList ?_ (by rw [hl,Ph];lia));have S:(h'.push (seqObj "list" ZZ.toList.toArray 0)).get? h'.objs.size=some (seqObj "list" ZZ.toList.toArray 0):=N7 _ rfl;refine we (On (Pk slot_list_sort {_,S,rfl} entry_list_sort (list_sort_tree S hS (by rw [hl];exact Xs) λout Yx b1 Z b3=>{_,rfl,?_}) (args_list_sort _)));obtain ⟨c,W⟩:=sortedHeap_at (vs:=ZZ.toList) (out:=out) S;refine NN {_,rfl,.ref h'.objs.size,upd H h'.objs.size (.lst (Yx.map V.int)),I1.laid (a:=h'.objs.size) (t':=tk) (λb o e=>?_) (NV _) {?_,out.toList,c,oO b1,by rw [RA];exact W},rfl,q _ Yx _ (.mk' (I1.hok.fresh (NV _))) Z b3}
 .have hb:b<h'.objs.size:=Os e;rw [sortedHeap_old (OM hb) (by rw [size_push'];exact QU hb)];exact NP _ e
 .have:=Z.length_eq;rw [NO,this,NO,Ph];lia
end
theorem Hs(hc:c=true->X.calm=true)(L:aA X sc N' ix)(hi:W (PIc c X tg iter wi))(S:∀Go C fp s H,W (PG (zC X sc N' Go C fp s H) tg g))(O:∀Go C fp s H,W (PTs (zC X sc N' Go C fp s H) z tt))(J:∀Go C fp s H,W (PE (zC X sc N' Go C fp s H) G tk))(hv:∀Go C fp s H,W (PE (zC X sc N' Go C fp s H) F tv))(hs:∀x,OK iter X.env x=pure x:=by intro _;rfl):W (PE X (.DictComp G F [{tg,iter,z,0}] sc pos) (tDC ix wi g tt tk tv)):={Gi hc L hi.h (λa b c d e=>(S a b c d e).h) (λa b c d e=>(O a b c d e).h) (λa b c d e=>(J a b c d e).h) (λa b c d e=>(hv a b c d e).h) hs}
theorem JU{a:Addr}:pq (.ref a) (.int i) H Q = ∃kvs,Rd H a (.dK kvs)/\∃v,af kvs (.inl i)=some v/\Q v H:=by
 apply propext;constructor
 .rintro ⟨G,k,kvs,v,F,z,h1,h2,q⟩;cases F;cases k with
  | inl j=>cases z;exact ⟨kvs,h1,v,h2,q⟩
  | inr x=>cases z
 .rintro ⟨kvs,h1,v,h2,q⟩;exact {a,.inl i,kvs,v,rfl,rfl,h1,h2,q}
section
variable {K:NQ}{g:TG}{tt:TT}{te tk tv:TE}{σ:St}{H:Hp}{wi:TI}{ix:List (Option Nat)}{Q:VK}
def g8(J:It)(g:TG)(tt:TT)(tk tv:TE)(O:St)(H:Hp)(Q:VK):Prop:=∃W:Nat->Nat->St->List (Key×V)->Hp->Prop,(∃m,W 0 m O [] H)/\∀i m O ys H2,W i m O ys H2->ys.length<sizeLine /\
 ((J.stop i H2 ∧ ∀ D, H2 D = none → D ≠ sysModules → Q (.ref D) (upd H2 D (.dK ys))) ∨
  (J.go i H2 ∧ ∀ x H3, J.aG i H2 x H3 → g x O H3 fun F H4 => tt F H4 fun ok H5 => if ok = true then tk F H5 fun y H6 => tv F H6 fun z H7 => uK y fun k => ∃ G, G < m ∧ W (i + 1) G F (aM ys k z) H7 else ∃ G, G < m ∧ W (i + 1) G F ys H5))
theorem L8:tDC ix wi g tt tk tv σ H Q=wi σ H λJ H1=>g8 J g tt tk tv (cL ix σ) H1 Q:=rfl
def i4(N:St->List (Key×V)->Hp->Prop)(ys:List (Key×V))(F:St)(tk tv:TE)(ok:Bool)(H5:Hp):Prop:=if ok=true then tk F H5 λy H6=>tv F H6 λz H7=>uK y λk=>N F (aM ys k z) H7 else N F ys H5
theorem Mz:i4 N ys F tk tv true H=tk F H λy H6=>tv F H6 λz H7=>uK y λk=>N F (aM ys k z) H7:=rfl
theorem KG:i4 N ys z tk tv false H=N z ys H:=rfl
theorem g8.lst{a:Addr}{xs:List V}{z:St}(G:Nat->St->List (Key×V)->Hp->Prop)(hz:∀i z ys H,G i z ys H->ys.length<sizeLine)(ha:∀i z ys H,G i z ys H->SqL K H a xs)(U:G 0 z [] H)
  (hs:∀(N:St->List (Key×V)->Hp->Prop) i x z ys H,xs[i]?=some x->G i z ys H->(∀z ys H,G (i+1) z ys H->N z ys H)->g x z H λF H4=>tt F H4 λok H5=>i4 N ys F tk tv ok H5) (hd:∀z ys H,G xs.length z ys H->∀D H',New H D (.dK ys) H'->Q (.ref D) H'):g8 (Itl K a) g tt tk tv z H Q:=by
 refine {λi m z ys H=>m=xs.length-i/\i<=xs.length/\G i z ys H,{xs.length,'z',O9 _,U},?_};rintro i m z ys H2 ⟨rfl,hi,p⟩;refine {hz i z ys H2 p,?_};have q:=ha i z ys H2 p;by_cases O:i<xs.length
 .refine .inr {{xs,xs[i],q,by simp [O]},λx H' y=>?_};obtain ⟨e,y⟩:=y;subst e;exact hs (λF ys H=>∃J,J<xs.length-i/\J=xs.length-(i+1)/\i+1<=xs.length/\G (i+1) F ys H) i x z ys _ (y xs q) p λF zs H q=>{xs.length-(i+1),'l',rfl,O,q}
 .have e:i=xs.length:=by lia
  subst e;exact .inl {{xs,q,NV _},λD S _=>hd z ys H2 p D _ (.mk' S)}
end
end L2
namespace L2
open PySem PySem.Spec PyProof.Rows
def Ris(xs:Array Nat):Prop:=∀i j,i<j->j<xs.size->xs.getD i 0<xs.getD j 0
theorem DB{xs:Array Nat}{i a b:Nat}(h:i<xs.size):xs.getD i a=xs.getD i b:=by simp [getD,h]
structure AI(xs:Array Nat)(j b:Nat):Prop where
 le:b<=xs.size
 lo:∀i,i<b->xs.getD i 0<j
 hi:∀i,b<=i->i<xs.size->j<=xs.getD i 0
theorem qA(r:Ris xs):∀(f lo hi:Nat),lo<=hi->hi<=xs.size->hi<=lo+f->(∀i,i<lo->xs.getD i 0<j)->(∀i,hi<=i->i<xs.size->j<=xs.getD i 0)->AI xs j (Oj.below.go xs j f lo hi)
 | 0,lo,hi,h1,h2,h3,a,b=>by
  have e:lo=hi:=by lia
  subst e;exact ⟨h2,a,b⟩
 | f+1,lo,hi,h1,h2,h3,a,b=>by
  unfold Oj.below.go;split
  .rename_i h;have hm:(lo+hi) / 2<xs.size:=by lia
   dsimp only;rw [DB (a:=j) (b:=0) hm];by_cases c:xs.getD ((lo+hi) / 2) 0<j
   .rw [if_pos c];refine qA r f ((lo+hi) / 2+1) hi 'l' h2 'l' (λi F=>?_) b;by_cases e:i=(lo+hi) / 2
    .subst e;exact c
    .have z:i<(lo+hi) / 2:=by lia
     exact Qy (r i ((lo+hi) / 2) z hm) c
   .rw [if_neg c];refine qA r f lo ((lo+hi) / 2) 'l' 'l' 'l' a λi F hs=>?_;by_cases e:i=(lo+hi) / 2
    .subst e;lia
    .have z:(lo+hi) / 2<i:=by lia
     have:=r ((lo+hi) / 2) i z hs;lia
  .have e:lo=hi:=by lia
   subst e;exact ⟨h2,a,b⟩
theorem qV(r:Ris xs)(j:Nat):AI xs j (Oj.below xs j):=qA r _ _ _ (O9 _) (NV _) 'l' (λi h=>by lia) λi h1 h2=>by lia
theorem y7{p x i:Nat}(hp:p<=xs.size):(Oj.insertAt xs p x).getD i 0=if i<p then xs.getD i 0 else if i=p then x else xs.getD (i-1) 0:=by
 have hl:(xs.toList.take p).length=p:=by rw [ON,Pl];lia
 rw [Qn,<- O3,Oj.toList_insertAt];by_cases h:i<p
 .rw [if_pos h,List.getElem?_append_left 'l',List.getElem?_take_of_lt h,O3,Qn]
 .rw [if_neg h,Rb 'l',hl];by_cases e:i=p
  .rw [if_pos e,e,RZ];rfl
  .rw [if_neg e,show i-p=(i-1-p)+1 by lia,Rv,List.getElem?_drop,O3,Qn];congr 2;lia
theorem LG{p x:Nat}:(Oj.insertAt xs p x).size=xs.size+1:=by
 have:=(Oj.insertAt_perm xs p x).length_eq;simpa using this
theorem GK(r:Ris xs)(hn : ¬ xs[Oj.below xs j]?=some j):Ris (Oj.insertAt xs (Oj.below xs j) j):=by
 have B:=qV r j;generalize Oj.below xs j=p at B hn;have G:=B.le;intro a b J hb;rw [LG] at hb;rw [y7 G,y7 G];have F:∀i,p<=i->i<xs.size->j<xs.getD i 0:=λi h1 h2=>by
  have h3:=B.hi i h1 h2;by_cases e:i=p
  .subst e;rcases Nat.lt_or_eq_of_le h3 with z|z
   .exact z
   .exact absurd (by rw [O1 h2]; have : xs.getD i 0 = xs[i] := by simp [getD, h2]
                     rw [z, this]) hn
  .have:=r p i 'l' h2;have:=B.hi p (NV _) 'l';lia
 by_cases h1:b<p
 .rw [if_pos h1,if_pos 'l'];exact r a b J 'l'
 .rw [if_neg h1];by_cases h2:b=p
  .rw [if_pos h2,if_pos 'l'];exact B.lo a 'l'
  .rw [if_neg h2];by_cases h3:a<p
   .rw [if_pos h3];exact Qy (B.lo a h3) (F (b-1) 'l' 'l')
   .rw [if_neg h3];by_cases h4:a=p
    .rw [if_pos h4];exact F (b-1) 'l' 'l'
    .rw [if_neg h4];exact r (a-1) (b-1) 'l' 'l'
structure cX(bt:Bool)(t:Oj):Prop where
 led:t.led = !bt
 cn:t.dummies = #[]
 b7:Ris t.place
theorem xP:Oj.has #[] j=false:=by simp [Oj.has]
theorem Fx(n:Nat):Ris (Array.range n):=λi j h G=>by
 have F:j<n:=by simpa using G
 have z:i<n:=by lia
 simp [getD,z,F,h]
theorem lG{t:Oj}(h:cX bt t)(n:Nat):cX bt (t.standIn n):={h.led,rfl,Fx n}
theorem Mt{t:Oj}(h:cX bt t)(n:Nat):cX bt (t.orStandIn n):=by
 unfold Oj.orStandIn;split
 .exact h
 .exact lG h n
theorem D1{t:Oj}(h:t.dummies = #[])(j:Nat):(t.slot j = .empty/\¬ t.place[Oj.below t.place j]?=some j)\/∃i,t.slot j = .live i:=by
 unfold Oj.slot;dsimp only;split
 .exact .inr {_,rfl}
 .rename_i hc;rw [h,xP];exact .inl {rfl,by simpa using hc}
theorem x8{t:Oj}(hd:t.dummies = #[]):∀(f:Nat)(p:Oj.Probe)(j:Nat)(d:Option Nat),p.dummy=none->Oj.probe.go t g h f p=some (.empty j d)->d=none/\¬ t.place[Oj.below t.place j]?=some j
 | 0,p,j,d,_,e=>by cases e
 | f+1,p,j,d,hp,e=>by
  have z:∀q:Oj.Probe,(t.advance q).dummy=q.dummy:=λq=>by
   unfold Oj.advance;split
   .rfl
   .rfl
  unfold Oj.probe.go at e;rcases D1 hd p.j with ⟨h1,h2⟩|⟨i,h1⟩
  .rw [h1] at e;cases e;exact ⟨hp,h2⟩
  .rw [h1] at e;dsimp only at e;split at e
   .cases e
   .exact x8 hd f _ j d (by rw [z];exact hp) e
theorem CM{t:Oj}(h:cX bt t)(es:Array (Int×Value))(G:Int)(x:Value):cX bt (layNew t es G x).2.1:=by
 unfold layNew;split
 .rename_i slot wd e;refine Mt ?_ _;unfold Oj.freeSlot at e;split at e
  .rename_i j d z;obtain ⟨rfl,F⟩:=x8 h.cn _ _ _ _ rfl z;cases e;refine {h.led,?_,GK h.b7 F};show (if Oj.has t.dummies j=true then _ else t.dummies) = #[];rw [h.cn,xP];rfl
  .cases e
 .exact lG h _
theorem G4{t:Oj}(h:cX bt t)(es:Array (Int×Value))(n:Nat):cX bt (relayAll t es n).2.1:=by
 unfold relayAll;split
 .rename_i t' J e;dsimp only;split
  .unfold Oj.relaid Oj.laid at e;obtain ⟨owner,_,e⟩:=Option.bind_eq_some_iff.mp e;cases e;refine {h.led,rfl,λi j z F=>?_};have S:(((O0 (Oj.sizeAbove n-1+1)).filterMap λj=>(owner.getD j none).map (j,·)).map (·.1)).Pairwise (· < ·):=by
    rw [List.pairwise_map];refine List.Pairwise.filterMap _ (λa U G b hb W O=>?_) List.pairwise_lt_range;obtain ⟨_,_,rfl⟩:=Ou.mp hb;obtain ⟨_,_,rfl⟩:=Ou.mp O;exact G
   rw [Oa] at F;have:=List.pairwise_iff_getElem.mp S i j 'l' F z;rw [Qn,Qn,RM,RM,NL F,NL (Qy z F)];exact this
  .exact lG h _
 .exact lG h _
def btW(w:Oc):Bool:=w.params.followText "set-order"
def eV(e:Int×Value):Int:=numOf e.2
structure ag(prog:NW)(w:Oc)(h:Heap)(a:Addr)(ns:List Int):Prop where
 ex:∃o es ep t,h.get? a=some o/\o.ExactSet/\o.data = .set es ep t/\ElemsOf (Pn prog w) es.toList/\t.fits es.size=true/\cX (btW w) t/\(es.toList.map eV).Perm ns
 few:ns.length<4000
section
variable {prog:NW}{w:Oc}{A:Of}{E:Value->KE->Prop}{s:KE}
theorem ag.size{h:Heap}{a:Addr}{ns:List Int}{es:Array (Int×Value)}(p:(es.toList.map eV).Perm ns):es.size=ns.length:=by
 have:=p.length_eq;rw [NO,Pl] at this;exact this
theorem ag.at{a:Addr}(x:ag prog w h a ns)(k:∀o,h.get? a=some o->h'.get? a=some o):ag prog w h' a ns :=
 let ⟨o,es,ep,t,ho,r⟩:=x.ex;{{o,es,ep,t,k o ho,r},x.few}
theorem nB(h:(Pn prog w).is n v=true):∃t,v = .int n t:=by
 cases v with
 | int m t =>
  have e:(m==n)=true:=by simpa [Pn,SL] using h
  have e:m=n:=by simpa using e
  exact {t,by rw [e]}
 | _=>exact absurd h (by simp [Pn,SL])
theorem DT(n:Int)(t:Tok):(Pn prog w).is n (.int n t)=true:=by simp [Pn,SL]
theorem Iy(h:∀o,ag prog w (s.heap.push o) s.heap.objs.size []->(∀v,o.data≠.cell v)->Q (.ref s.heap.objs.size) { s with heap:=s.heap.push o }):
  N2 (N5 prog w) A (newSet (.type "set")) Q E s:=by
 unfold newSet setsByText;refine we (we (QC (NN ?_)));dsimp only;simp only [newObj];refine we (wpAny_alloc (NN (h _ {{_,#[],0,_,N7 _ rfl,{rfl,rfl,rfl},rfl,λe he=>by simp at he,by rfl,{rfl,rfl,λi j _ F=>by simp [Oj.fresh] at F},Perm.refl _},'d'} λv z=>by cases z)))
theorem vK{h:Heap}{a:Addr}{o:Obj}{t:Oj}(ho:h.get? a=some o)(hd:o.data = .set es ep t)(z:Array (Int×Value))(t':Oj):
  (h.update a (Obj.putSet z t')).get? a=some { o with data:=.set z (ep+1) t' }:=by
 have:=OW (Obj.putSet z t') ho (by rw [putSet_of z t' hd];rfl);rw [putSet_of z t' hd] at this;exact this
theorem JZ{a:Addr}(hS:ag prog w s.heap a ns)(hr:ns.length<3000)(h:∀h' b,PF a s.heap h'->ag prog w h' a (if n∈ns then ns else ns++[n])->Q b { s with heap:=h',toks:=s.toks+1 }):
  N2 (N5 prog w) A (setAdd a (.int n tk)) Q E s:=by
 obtain ⟨o,es,ep,t,ho,Yh,hd,G,hf,gt,pm⟩:=hS.ex;have hsz:=ag.size (h:=s.heap) (a:=a) pm;have hb:es.size<scanBound:=by rw [hsz];exact Qy hr 'd'
 have Yc:=DT (prog:=prog) (w:=w) n tk;unfold setAdd;refine On (we ((Pn prog w).pyHash Yc ?_));have Zn:∀h',PF a s.heap h'->ag prog w h' a (if n∈ns then ns else ns++[n])->∀b:Bool,Q b { s with heap:=h',toks:=s.toks+1 }:=λh' Z YD b=>h h' b Z YD;unfold setAddHashed setAddHashedIn;refine On (we (Qa (s:={ s with toks:=s.toks+1 }) ho hd hf ?_));dsimp only;rw [byScan_of (x:=.int n tk) rfl hb G];simp only [↓reduceIte];unfold setAddByScan;refine we (we (QK (we (wpAny_setScan_of (s:={ s with toks:=s.toks+1 }) Yc ho hd hf G ?_))));cases ax:List.findIdx? (λe=>(Pn prog w).is n e.2) es.toList with
 | some j =>
  dsimp only;obtain ⟨hj,a3,_⟩:=List.findIdx?_eq_some_iff_getElem.mp ax;have U:n∈ns:=by
   refine pm.mem_iff.mp (OE.mpr {_,O4 hj,?_});obtain ⟨t',e⟩:=nB a3;show numOf (es.toList[j]).2=n;rw [e];rfl
  refine NN (NN ?_);have:=Zn s.heap (PF.refl a s.heap) (by rw [if_pos U];exact hS) false;exact this
 | none =>
  dsimp only;have a4:n∉ns:=λU=>by
   obtain ⟨e,he,ev⟩:=OE.mp (pm.mem_iff.mpr U);obtain ⟨⟨k,hk,_⟩,_⟩:=G e he;obtain ⟨t',e2⟩:=nB hk;have:k=n:=by rw [<- ev];show k=numOf e.2;rw [e2];rfl
   subst this;have:=List.findIdx?_eq_none_iff.mp ax e he;rw [hk] at this;cases this
  rw [if_neg a4] at Zn;have X5:=layNew_perm t es ((Pn prog w).hash n) (.int n tk);have XJ:=layNew_fits t es ((Pn prog w).hash n) (.int n tk);have XI:=CM gt es ((Pn prog w).hash n) (.int n tk);generalize hL:layNew t es ((Pn prog w).hash n) (.int n tk)=L at X5 XJ XI ⊢;obtain ⟨z,t1,WY,a5⟩:=L;dsimp only at X5 XJ XI ⊢;rw [Array.toList_push] at X5;have ak:ElemsOf (Pn prog w) z.toList:=(G.push Yc rfl).perm X5;have av:(z.toList.map eV).Perm (ns++[n]):=by
   have:=X5.map eV;rw [OI] at this;exact this.trans (pm.append (Perm.refl _))
  have aI:z.size=ns.length+1:=by have:=ag.size (h:=s.heap) (a:=a) av;simpa using this
  have mk:∀{h':Heap}{F:Array (Int×Value)}{t2:Oj}{e:Nat},h'.get? a=some { o with data:=.set F e t2 }->F.toList.Perm z.toList->t2.fits F.size=true->cX (btW w) t2->ag prog w h' a (ns++[n]):=λ{h' F t2 e} Yv p f g=>{{_,F,e,t2,Yv,Yh,rfl,ak.perm p,f,g,(p.map eV).trans av},by rw [Ov,O2];lia};have big:z.size<=sizeLine:=fits_of_scanBound (by rw [aI];exact OB (Nat.succ_le_of_lt hr) 'd');have W:∀(b:Bool){s₁:KE}{Q':Unit->KE->Prop},Q' () s₁->N2 (N5 prog w) A (match b with|true=>rule "set.scan.the-table-gave-way" | false=>pure ()) Q' E s₁:=λb s₁ Q' hq=>by cases b<;>first|exact NN hq|exact QK hq
  refine we (W _ ?_);have tail:∀(t2:Oj),t2.fits z.size=true->cX (btW w) t2->N2 (N5 prog w) A (do
    storeSet a z t2
    if (!WY&&t2.tooFull)=true then do
      (match (relayAll t2 z (Oj.grown z.size)).2.2 with|true=>rule "set.scan.the-table-gave-way" | false=>pure ())
      storeSet a (relayAll t2 z (Oj.grown z.size)).1 (relayAll t2 z (Oj.grown z.size)).2.1
      pure (some true)
     else pure (some true)) (λr s'=>r=some true/\∃h',PF a s.heap h'/\ag prog w h' a (ns++[n])/\s'={ s with heap:=h',toks:=s.toks+1 }) E { s with toks:=s.toks+1 }:=λt2 f2 g2=>by
   refine we (wpAny_storeSet_of (s:={ s with toks:=s.toks+1 }) ho hd ?_ big);have O:=vK ho hd z t2;have J:=PF.update s.heap a (Obj.putSet z t2);split
   .have hp:=relayAll_perm t2 z (Oj.grown z.size);have Yy:=relayAll_fits t2 z (Oj.grown z.size);have S:=G4 g2 z (Oj.grown z.size);generalize a6:relayAll t2 z (Oj.grown z.size)=Rl at hp Yy S ⊢;obtain ⟨F,t3,a0⟩:=Rl;dsimp only at hp Yy S ⊢;have hsz:F.size=z.size:=by rw [<- Pl,hp.length_eq,Pl]
    refine we (W _ ?_);refine we (wpAny_storeSet_of O rfl ?_ (by rw [hsz];exact big));exact NN {rfl,_,J.trans (PF.update _ a _),mk (vK O rfl F t3) hp Yy S,rfl}
   .exact NN {rfl,_,J,mk O (Perm.refl _) f2 g2,rfl}
  split
  .refine we ?_;rw [hashByValue_scannable 8 rfl];refine NN ?_
   try simp only [↓reduceIte]
   refine Ow (tail t1 XJ XI) ?_ (λ_ _ q=>q);rintro r s' ⟨rfl,h',Z,YD,rfl⟩;dsimp only;exact NN (Zn h' Z YD true)
  .refine we (NN ?_)
   try simp only [↓reduceIte]
   refine Ow (tail t1 XJ XI) ?_ (λ_ _ q=>q);rintro r s' ⟨rfl,h',Z,YD,rfl⟩;dsimp only;exact NN (Zn h' Z YD true)
theorem add_int{a:Addr}(z:ag prog w s.heap a ns)(hr:ns.length<3000)(h:∀h',PF a s.heap h'->ag prog w h' a (if n∈ns then ns else ns++[n])->Q .none { s with heap:=h',toks:=s.toks+1 }):
  N2 (N5 prog w) A (call (.builtin "set.add") [.ref a,.int n tk]) Q E s:=by
 obtain ⟨o,es,ep,t,ho,O,hd,_⟩:=z.ex;have typ:s.TypeIs (.ref a) "set":=⟨o,ho,O.1⟩;refine Pk F.slot_set_add typ F.entry_set_add ?_ (F.args_set_add_2 _ _);unfold N9.«set.add» N9.Frozenset.oneOther
 simp only [List.isEmpty_nil,bind_assoc];unfold N9.Frozenset.addrOf;refine we (NN (we (NN (we (JZ z hr λh' b J G=>NN {_,rfl,h h' J G})))))
end
def inB(e:Og)(d:Nat)(iter:Og)(ZZ:Value)(env:Env):Sem Unit:=do
 let x<-Pa iter env
 Qm iter.pos
 let x<-OK iter env x
 let _<-runOwn (.compStart e d (<- Qu [x] (pyIter x)) ZZ env) env
def emB(Y7:Og)(ZZ:Value)(env:Env):Sem Unit:=do
 let v<-Pa Y7 env
 Qm Y7.pos
 let _<-call (.builtin "set.add") [ZZ,v]
def eP(e:Og)(d:Nat)(tg iter:Og)(z:Sem Unit)(it ZZ:Value)(env:Env):Sem Fin:=do
 Qm iter.pos
 match<-RB it with
 | none=>pure (.done .next)
 | some v =>
  Qc tg it v
  SQ tg env v
  z
  again (.compLoop e d it ZZ env)
section
variable {Y7 t0 i0 t1 i1 t2 i2:Og}{sc:Scope}{pos:Pos}{it ZZ:Value}{env:Env}
theorem Mq(he:e = .SetComp Y7 [{t0,i0,[],0},{t1,i1,[],0},{t2,i2,[],0}] sc pos):S5 e 0 it ZZ env=eP e 0 t0 i0 (inB e 1 i1 ZZ env) it ZZ env:=by
 subst he;unfold eP inB;simp only [bind_assoc];rfl
theorem LW(he:e = .SetComp Y7 [{t0,i0,[],0},{t1,i1,[],0},{t2,i2,[],0}] sc pos):S5 e 1 it ZZ env=eP e 1 t1 i1 (inB e 2 i2 ZZ env) it ZZ env:=by
 subst he;unfold eP inB;simp only [bind_assoc];rfl
theorem MA(he:e = .SetComp Y7 [{t0,i0,[],0},{t1,i1,[],0},{t2,i2,[],0}] sc pos):S5 e 2 it ZZ env=eP e 2 t2 i2 (emB Y7 ZZ env) it ZZ env:=by
 subst he;unfold eP emB;rfl
theorem tU(he:e = .SetComp Y7 G sc pos){d:Nat}(hd:(clausesOf e)[d]?=some {tg,iter,[],0})(F:Qb (N5 prog w) A (.compLoop e d it ZZ env) R s)(h:N2 (N5 prog w) A (pyIter it) (λz s'=>Qb (N5 prog w) A (.compLoop e d z ZZ env) R s') (notedBy (N5 prog w) A env λx s'=>R (.error x) s') s):
  Qb (N5 prog w) A (.compStart e d it ZZ env) R s:=by
 subst he;refine codeAny_of_tree ?_;show N2 _ A ((compStart _ d it ZZ env).onRaise (λx=>do RR x env;Qm theWindowsPlace)) _ _ s;refine wpAny_notedAt ?_;unfold compStart;rw [hd];show N2 _ A (ask>>=_) _ _ s;refine we (QC (wpAny_ite ?_));split
 .first
   | exact we (NN (NN (And.intro rfl F)))
   | exact NN (And.intro rfl F)
 .first
   | exact we (QK (we (OX (we (Ow h (λz s' h'=>NN (And.intro rfl h')) λ_ _ x=>x)))))
   | (refine we (QK ?_);show N2 _ _ (Qm iter.pos>>=_) _ _ s;exact we (OX (we (Ow h (λz s' h'=>NN (And.intro rfl h')) λ_ _ x=>x))))
theorem FP(he:e = .SetComp Y7 gs sc pos){d:Nat}(W:S5 e d it ZZ env=eP e d tg iter U it ZZ env)(I:Nat->KE->Prop)(Yf:∀n s,I n s->N2 (N5 prog w) A (RB it) (λr s₁=>match r with
   | none=>R (.ok .next) s₁
   | some v=>N2 (N5 prog w) A (Qc tg it v) (λ_ F=>N2 (N5 prog w) A (SQ tg env v) (λ_ G =>
     N2 (N5 prog w) A U (λ_ s₃=>∃m,m<n/\I m s₃) (λ_ _=>False) G) (λ_ _=>False) F) (λ_ _=>False) s₁) (λ_ _=>False) s)(n:Nat)(h:I n s):Qb (N5 prog w) A (.compLoop e d it ZZ env) R s:=by
 subst he;refine codeAny_loop rfl I (λn s Z=>?_) n h;show N2 _ A ((S5 _ d it ZZ env).onRaise (λx=>do RR x env;theTreesLotGoes x)) _ _ s;refine wpAny_noted (Ow (E:=λ_ _=>False) ?_ (λ_ _ q=>q) λ_ _ z=>z.elim);rw [W];unfold eP;refine we (OX (we (Ow (Yf n s Z) (λr s₁ h₁=>?_) λ_ _ h'=>h')));cases r with
 | none=>exact NN h₁
 | some v =>
  refine we (Ow h₁ (λ_ F J=>?_) λ_ _ h'=>h');exact we (Ow J (λ_ G S=>we (Ow S (λok s₃ O=>NN {rfl,O}) λ_ _ h'=>h')) λ_ _ h'=>h')
end
abbrev TB:=St->List Int->Hp->(St->List Int->Hp->Prop)->Prop
def zN(ns:List Int)(n:Int):List Int:=if n∈ns then ns else ns++[n]
def BP(X:Cx)(D:Addr)(Go:List (Addr×Obj))(Q:St->List Int->Hp->Prop)(s':KE):Prop :=
 ∃σ ns H,Inv X Go σ H s'/\H D=none/\ag X.prog X.w s'.heap D ns/\Q σ ns H
def PB(X:Cx)(D:Addr)(m:Sem Unit)(tb:TB):Prop :=
 ∀(Go:List (Addr×Obj))(s:KE)(σ:St)(H:Hp)(ns:List Int)(Q:St->List Int->Hp->Prop),Inv X Go σ H s->aJ X Go H D->ag X.prog X.w s.heap D ns->tb σ ns H Q ->
  N2 (N5 X.prog X.w) X.A m (λ_ s'=>BP X D Go Q s') (λ_ _=>False) s
theorem aJ.to{b:Addr}(f:aJ X Go H b)(h:H' b=none):aJ X Go H' b:=⟨h,f.2⟩
theorem aJ.more{b:Addr}(f:aJ X Go H b)(h:∀p∈pl,p.1≠b):aJ X (Go++pl) H b :=
 {f.1,f.2.1,f.2.2.1,f.2.2.2.1,f.2.2.2.2.1,λp hp=>by
  rcases Ox.mp hp with z|z
  .exact f.2.2.2.2.2 p (Oo _ z)
  .rcases Ox.mp z with z|z
   .exact f.2.2.2.2.2 p (NY _ z)
   .exact h p z}
theorem ag.obj(x:ag P w h D ns):∃o,h.get? D=some o/\∀v,o.data≠.cell v:=by
 obtain ⟨o,es,ep,t,ho,_,hd,_⟩:=x.ex;exact {o,ho,λv z=>by rw [hd] at z;cases z}
section
variable {X:Cx}{D:Addr}
theorem Inv.holds{o:Obj}(I:Inv X Go σ H s)(f:aJ X Go H D)(ho:s.heap.get? D=some o)(F:∀v,o.data≠.cell v):Inv X (Go++[(D,o)]) σ H s :=
 I.ti λp hp=>(Ox.mp hp).elim (λz=>I.pin p (NY _ z)) λz=>by
  have e:p=(D,o):=by simpa using z
  subst e;exact ⟨ho,f.1,f.2.1,f.2.2.1,F⟩
theorem Inv.held{o:Obj}(I:Inv X (Go++[(D,o)]) σ H s):s.heap.get? D=some o/\H D=none :=
 let q:=I.pin (D,o) (NY _ (NY _ (OO.mpr rfl)));⟨q.1,q.2.1⟩
def gp(te:TE):TB:=λσ ns H Q=>te σ H λv H1=>∃n,v = .int n/\ns.length<3000/\Q σ (zN ns n) H1
theorem HP(hx:X.xe=λ_ _=>False)(he:PE X Y7 te):PB X D (emB Y7 (.ref D) X.env) (gp te):=by
 intro Go s σ H ns Q I f J h;obtain ⟨o,ho,S⟩:=J.obj;unfold emB;have:=he (Go++[(D,o)]) s σ H _ (I.holds f ho S) h;rw [hx] at this;refine we (thn this λv s1=>x5e λx H1 O r1 YF=>?_);obtain ⟨n,e,hl,q⟩:=YF;subst e;obtain ⟨tk,rfl⟩:=r1;obtain ⟨G,z⟩:=O.held;have F:ag X.prog X.w s1.heap D ns:=J.at λo' e=>by rw [ho] at e;cases e;exact G
 refine we (OX (we (add_int F hl λh' U Z=>NN ?_)));obtain ⟨_,g1,_,W,g4,g5⟩:=f.to z;exact {σ,_,H1,(O.ro (Go:=Go)).turned (t':=s1.toks+1) (λb o hb e=>(U.2 b hb).trans e) z g1 W g4 g5,z,Z,q}
def mS(W:Nat->Nat->St->List Int->Hp->Prop)(J:It)(g:TG)(tb:TB)(Fin:St->List Int->Hp->Prop):Prop :=
 ∀i m O ns H2,W i m O ns H2->(J.stop i H2/\Fin O ns H2)\/(J.go i H2/\∀x H3,J.aG i H2 x H3->g x O H3 λF H4=>tb F ns H4 λG z H5=>∃S,S<m/\W (i+1) S G z H5)
def gI(wi:TI)(g:TG)(tb:TB):TB:=λσ ns H Q=>wi σ H λJ H1=>∃W:Nat->Nat->St->List Int->Hp->Prop,(∃m,W 0 m σ ns H1)/\mS W J g tb Q
theorem tS{d:Nat}{W:Nat->Nat->St->List Int->Hp->Prop}{Fin:St->List Int->Hp->Prop}(he:e = .SetComp Y7 gs sc pos)(ht:S5 e d (.ref it) (.ref D) X.env=eP e d tg iter Zu (.ref it) (.ref D) X.env)(hx:X.xe=λ_ _=>False)(hc:c=true->X.calm=true)(hg:PG X tg g)(hb:PB X D Zu tb)(T:fU c X.prog X.w X.K tg J fp it tn)(Yn:D∉fp)(step:mS W J g tb Fin)(I:Inv X Go σ H s)(st:tn 0 s.heap)(ff:∀b∈fp,aJ X Go H b)(fD:aJ X Go H D)(hS:ag X.prog X.w s.heap D ns)(w0:W 0 m σ ns H):
  Qb (N5 X.prog X.w) X.A (.compLoop e d (.ref it) (.ref D) X.env) (λr s'=>r = .ok .next/\∃a0 Yx H',Inv X Go a0 H' s'/\(∀b∈fp,H' b=none)/\H' D=none/\ag X.prog X.w s'.heap D Yx/\Fin a0 Yx H') s:=by
 refine FP he ht (λn s'=>∃i G ys H',Inv X Go G H' s'/\tn i s'.heap/\(∀b∈fp,H' b=none)/\H' D=none/\ag X.prog X.w s'.heap D ys/\W i n G ys H') ?_ m {0,σ,ns,H,I,st,λb hb=>(ff b hb).1,fD.1,hS,w0};rintro n s4 ⟨i,G,ys,H4,I4,aI,a7,av,Z,w4⟩;obtain ⟨ob,dg,a8⟩:=Z.obj;have ak:=I4.holds (fD.to av) dg a8;have a6:∀b∈fp,aJ X (Go++[(D,ob)]) H4 b:=λb hb=>((ff b hb).to (a7 b hb)).more λp hp=>by
  have e:p=(D,ob):=by simpa using hp
  subst e;exact λq=>Yn (by have q':D=b:=q;rw [q'];exact hb)
 rcases step i n G ys H4 w4 with ⟨stop,Zn⟩|⟨go,step⟩
 .refine thn (T.done X rfl rfl rfl hc i (Go++[(D,ob)]) s4 G H4 (λ_ _=>False) ak a6 aI stop) λr s5=>x2e λhr I5=>?_;subst hr;exact {rfl,G,ys,H4,I5.ro,a7,av,Z.at λo' e=>by rw [dg] at e;cases e;exact I5.held.1,Zn}
 .refine thn (T.item X rfl rfl rfl hc i (Go++[(D,ob)]) s4 G H4 (λ_ _=>False) ak a6 aI go) λr s5=>x3e λu hr h5=>?_;subst hr;refine thn h5 λ_ s6=>x5e λx H6 I6 r6 Yd=>?_;obtain ⟨y6,S,b1⟩:=Yd;obtain ⟨U,bb⟩:=I6.held;have ax:∀b∈D::fp,aJ X Go H6 b:=λb hb=>by
   rcases NT.mp hb with z|z
   .subst z;exact fD.to bb
   .exact (ff b z).to (b1 b z)
  have a4:∀b∈D::fp,∃o,s6.heap.get? b=some o/\∀v,o.data≠.cell v:=λb hb=>by
   rcases NT.mp hb with z|z
   .subst z;exact {_,U,a8}
   .exact T.obj _ _ S b z
  have a9:=(I6.ro (Go:=Go)).pinned ax a4;have a5:=hg _ s6 G H6 x u _ a9 r6 (step x H6 y6);rw [hx] at a5;refine thn a5 λ_ s7=>x4e λa3 H7 I7 q7=>?_;have F:∀b o,b∈D::fp->s6.heap.get? b=some o->s7.heap.get? b=some o/\H7 b=none:=λb o hb e=>by
   have q:=I7.pin (b,o) (NY _ (NY _ (gA hb e)));exact ⟨q.1,q.2.1⟩
  have bq:Inv X (Go++gY fp s6.heap) a3 H7 s7:=I7.ti λp hp=>I7.pin p (NY _ ((Ox.mp hp).elim (λz=>Oo _ z) λz=>NY _ (by
   obtain ⟨z1,z2⟩:=nV z;exact gA (NR _ z1) z2)))
  have bt:aJ X (Go++gY fp s6.heap) H7 D:=(fD.to (F D _ NX U).2).more λp hp z=>Yn (by rw [<- z];exact (nV hp).1);have ba:ag X.prog X.w s7.heap D ys:=Z.at λo' e=>by rw [dg] at e;cases e;exact (F D _ NX U).1
  refine thn (hb _ s7 a3 H7 ys _ bq bt ba q7) λ_ s8 Xl=>?_;obtain ⟨bu,bp,H8,I8,bx,b0,m',hm,w'⟩:=Xl;have O:∀b o,b∈fp->s6.heap.get? b=some o->s8.heap.get? b=some o/\H8 b=none:=λb o hb e=>by
   have q:=I8.pin (b,o) (NY _ (NY _ (gA hb e)));exact ⟨q.1,q.2.1⟩
  refine {m',hm,i+1,bu,bp,H8,I8.ro,T.keep _ _ _ S λb hb o e=>(O b o hb e).1,λb hb=>?_,bx,b0,w'};obtain ⟨o,e,_⟩:=T.obj _ _ S b hb;exact (O b o hb e).2
theorem pb_loop{d:Nat}(he:e = .SetComp Y7 gs sc pos)(hd:(clausesOf e)[d]?=some {tg,iter,[],0})(ht:∀it,S5 e d (.ref it) (.ref D) X.env=eP e d tg iter Zu (.ref it) (.ref D) X.env)(hx:X.xe=λ_ _=>False)(hm:X.A.mark none=X.A)(hc:c=true->X.calm=true)(hi:PIc c X tg iter wi)(hg:PG X tg g)(hb:PB X D Zu tb)(hs:∀x,OK iter X.env x=pure x):PB X D (inB e d iter (.ref D) X.env) (gI wi g tb):=by
 intro Go s σ H ns Q I f hS h;obtain ⟨o,ho,hn⟩:=hS.obj;unfold inB;have G:=hi (Go++[(D,o)]) s σ H _ (I.holds f ho hn) h;rw [hx] at G;refine we (thn G λv s1 h1=>we (OX ?_));rw [hs];refine we (NN (we (On (thn h1 λav s2 h2=>?_))));obtain ⟨it,fp,tn,J,H2,e',I2,T,F,f2,W,⟨m0,w0⟩,step⟩:=h2;subst e';obtain ⟨S,Z⟩:=I2.held;have Yn:D∉fp:=λz=>(f2 D z).2.2.2.2.2 (D,o) (NY _ (NY _ (OO.mpr rfl))) rfl;have ak:ag X.prog X.w s2.heap D ns:=hS.at λo' e=>by rw [ho] at e;cases e;exact S
 have ff:∀b∈fp,aJ X Go H2 b:=λb hb=>by
  obtain ⟨g0,g1,g2,g3,g4,g5⟩:=f2 b hb;exact {g0,g1,g2,g3,g4,λp hp=>g5 p ((Ox.mp hp).elim (Oo _) λz=>NY _ (Oo _ z))}
 have L:=tS he (ht it) hx hc hg hb T Yn step (I2.ro (Go:=Go)) F ff (f.to Z) ak w0;refine we (wpAny_runOwn ?_);rw [hm];have L':=Qf L (R':=λr s'=>match r with | .ok f=>N2 (N5 X.prog X.w) X.A (pure ()) (λ_ s'=>BP X D Go Q s') (λ_ _=>False) s' | .error e=>cameBackBy (N5 X.prog X.w) X.A X.env (λ_ _=>False) e s') λr s' O=>by
  obtain ⟨hr,U,Yx,H',a,b,c,d,q⟩:=O;subst hr;exact NN ⟨U,Yx,H',a,c,d,q⟩
 exact tU he hd L' (T.self _ 0 _ _ _ F L')
def ke(tb:TB):TB:=λσ ns H Q=>tb σ ns H Q\/∃a kvs,H a=some (.dK kvs)/\∀o,tb σ ns (upd H a (.frz o (.dK kvs))) λz F H'=>gn a kvs H' (Q z F)
theorem MX(h:PB X D m tb):PB X D m (ke tb):=by
 intro Go s σ H ns Q I f S G;rcases G with G|⟨a,kvs,e,q⟩
 .exact h Go s σ H ns Q I f S G
 obtain ⟨Z,o,I'⟩:=I.freeze e;have U:D≠a:=λz=>by have:=f.1;rw [z,e] at this;cases this
 refine thn (h Go s σ _ ns _ I' (f.to (by rw [zh U];exact f.1)) S (q o)) λ_ s1 O=>?_;obtain ⟨F,J,H1,I1,d1,W,o1,e1,q1⟩:=O;exact {F,J,_,I1.Ub e1 Z,by rw [zh U];exact d1,W,q1}
end
def gK(P:NW)(w:Oc)(D:Addr)(ns:List Int):HO:=.ext λh=>ag P w h D ns
theorem KS(x:ag P w h D ns):z8 P w H h D (gK P w D ns) :=
 {x,let ⟨o,e,_⟩:=x.obj;⟨o,e⟩,λh1 h2 z k=>z.at k}
theorem M6(x:HOk P w H h)(e:H D=some (gK P w D ns)):ag P w h D ns:=(x D _ e).1
def tSC(P:NW)(w:Oc)(ix:List (Option Nat))(wi:TI)(g:TG)(tb:TB):TE:=λσ H Q=>wi σ H λJ H1=>∃W:Nat->Nat->St->List Int->Hp->Prop,(∃m,W 0 m (cL ix σ) [] H1) /\
 mS W J g tb λ_ ns H2=>∀D,H2 D=none->D≠sysModules->Q (.ref D) (upd H2 D (gK P w D ns))
theorem Fm{c c1 c2:Bool}(hc:c=true->X.calm=true)(bb:c1=true->X.calm=true)(Xi:c2=true->X.calm=true)(L:aA X sc N' ix)(hi:PIc c X t0 i0 wi)(hg:∀Go C fp s H,PG (zC X sc N' Go C fp s H) t0 g)(a7:∀Go C fp s H,PIc c1 (zC X sc N' Go C fp s H) t1 i1 w1)(ba:∀Go C fp s H,PG (zC X sc N' Go C fp s H) t1 g1)(a9:∀Go C fp s H,PIc c2 (zC X sc N' Go C fp s H) t2 i2 w2)(a8:∀Go C fp s H,PG (zC X sc N' Go C fp s H) t2 g2)(he:∀Go C fp s H,PE (zC X sc N' Go C fp s H) Y7 te)(hs:∀x,OK i0 X.env x=pure x:=by intro _;rfl)(a5:∀env x,OK i1 env x=pure x:=by intro _ _;rfl)(a6:∀env x,OK i2 env x=pure x:=by intro _ _;rfl):
  PE X (.SetComp Y7 [{t0,i0,[],0},{t1,i1,[],0},{t2,i2,[],0}] sc pos) (tSC X.prog X.w ix wi g (ke (gI w1 g1 (gI w2 g2 (gp te))))):=by
 intro Go s σ H Q I h;rw [arm_eval_SetComp];have Xf:closureFor sc X.env=pure (cu X.env.cells sc.names []):=Ad λy hy hk=>I.ok.has y.1 (.inl (L.free y hy hk).1);refine wpAny_comprehension_free (use:=none) rfl hs Xf L.kind L.names (thn (hi Go s σ H _ I h) λv s1 h1=>thn h1 λbx s2 h2=>?_);obtain ⟨it,fp,tn,J,H2,e,Z,T,ax,f2,W,⟨m0,w0⟩,Yf⟩:=h2;subst e;refine Iy λon ak bt=>vZ ?_;dsimp only;generalize av:s2.heap.push on=F at ak ⊢;have hC:F.objs.size=s2.heap.objs.size+1:=by rw [<- av,QE]
 have a0:s2.heap.objs.size≠F.objs.size:=by rw [hC];exact OM (RD _)
 have Yo:s2.heap.objs.size<=F.objs.size:=by rw [hC];exact SK _
 have below:∀b,b<s2.heap.objs.size->b≠F.objs.size/\b≠s2.heap.objs.size:=λb hb=>{by rw [hC];exact OM (QU hb),OM hb};have old:∀b o,s2.heap.get? b=some o->(QF (F.push { cls:=.type "dict",data:=.dict #[] }) sc.names).get? b=some o:=λb o e=>QR _ _ _ _ (NP _ (av ▸ NP _ e));have Xe:(QF (F.push { cls:=.type "dict",data:=.dict #[] }) sc.names).Ns F.objs.size λ_=>none:=(Ns.new F (.type "dict")).keeps (QR _ _);have own:jY X.env.cells sc F.objs.size (QF (F.push { cls:=.type "dict",data:=.dict #[] }) sc.names):=.mk' (QE ..);have Zt:ag X.prog X.w (QF (F.push { cls:=.type "dict",data:=.dict #[] }) sc.names) s2.heap.objs.size []:=ak.at λo e=>QR _ _ _ _ (NP _ e);generalize QF (F.push { cls:=.type "dict",data:=.dict #[] }) sc.names=h₁ at old Xe own Zt ⊢;have fl:∀b∈fp,b<s2.heap.objs.size:=λb hb=>by
  obtain ⟨o,e,_⟩:=T.obj 0 _ ax b hb;exact Os e
 have Yn:s2.heap.objs.size∉fp:=λz=>OF _ (fl _ z);generalize hD:s2.heap.objs.size=D at *
 generalize b1:F.objs.size=C at *
 have aI:tn 0 h₁:=T.keep _ _ _ ax λb _ o e=>old b o e;have I3:Inv (zC X sc N' Go C fp s2 H2) [] (cL ix σ) H2 { s2 with heap:=h₁ }:=wy (tk:=s2.toks) Z L f2 (λb hb=>by rw [hD];exact fl b hb) (by rw [hD];exact Yo) Xe old own;have D0:H2 D=none:=Z.hok.fresh (S3 hD);have fD:aJ (zC X sc N' Go C fp s2 H2) [] H2 D:=by
  refine {D0,a0,λz=>?_,.inr (S3 hD),λx c hx z=>?_,λp hp z=>?_}
  .obtain ⟨_,o,ho,_⟩:=Z.stack.mem (show D∈frs X.stack from z);exact absurd (Os ho) (by rw [hD];exact OF _)
  .rcases own.aI x c hx with a|a
   .have:=a.1;rw [z] at this;exact absurd this (not_lt.mpr Yo)
   .obtain ⟨v,q⟩:=Z.cell x c a.1;have:=q.lt;rw [z,hD] at this;exact OF _ this
  .have XB:p∈X.pn++Go:=by
    have:p∈(X.pn++Go)++[]:=hp;simpa using this
   have:=Os (Z.pin p XB).1;rw [z,hD] at this;exact OF _ this
 have fF:∀b∈fp,aJ (zC X sc N' Go C fp s2 H2) [] H2 b:=λb hb=>by
  obtain ⟨g0,g1,g2,g3,g4,g5⟩:=f2 b hb;refine {g0,(below b (fl b hb)).1,λz=>?_,.inl hb,λx c hx=>?_,λp hp=>g5 p ?_}
  .rcases NT.mp (Z.TK b z) with e|e
   .exact g1 e
   .exact g2 e
  .rcases own.aI x c hx with a|a
   .have:=a.1;have:=fl b hb;exact λz=>by subst z;lia
   .exact g4 x c a.1
  .have:p∈(X.pn++Go)++[]:=hp;simpa using this
 generalize S:Og.SetComp Y7 [{t0,i0,[],0},{t1,i1,[],0},{t2,i2,[],0}] sc pos=E;have hb:=MX <| pb_loop (X:=zC X sc N' Go C fp s2 H2) (D:=D) (c:=c1) S.symm (d:=1) (by rw [<- S];rfl) (λ_=>LW S.symm) rfl rfl bb (a7 Go C fp s2 H2) (ba Go C fp s2 H2) (pb_loop (c:=c2) S.symm (d:=2) (by rw [<- S];rfl) (λ_=>MA S.symm) rfl rfl Xi (a9 Go C fp s2 H2) (a8 Go C fp s2 H2) (HP rfl (he Go C fp s2 H2)) (a6 _)) (a5 _);have a3:=tS (X:=zC X sc N' Go C fp s2 H2) S.symm (Mq S.symm) rfl hc (hg Go C fp s2 H2) hb T Yn Yf I3 aI fF fD Zt w0;have G:=Qf a3 (R':=compPost (N5 X.prog X.w) X.A X.xe none (EP X Go σ Q) (.ref D) C) λr s5 YF=>by
  obtain ⟨hr,b0,ns,H5,I5,bu,O,bp,Zn⟩:=YF;subst hr;obtain ⟨m5,a4,_⟩:=id I5.loc;refine {m5,a4,λh' Xd=>?_};have kb:∀b u,b≠C->s5.heap.get? b=some u->h'.get? b=some u:=λb u hb e=>(Xd.2 b hb).trans e;have ZI:∀b o,s2.heap.get? b=some o->b≠C/\b≠D:=λb o e=>by
   have:=Os e;rw [hD] at this;exact below b this
  have bq:D≠sysModules:=by have h:N3<s2.heap.objs.size:=(Z.mod.glob.keeps Z.bk).lt;rw [hD] at h;exact R8 (Qy 'd' h)
  have U:=I5.base;refine {.ref D,upd H5 D (gK X.prog X.w D ns),Z.VM (s':={ s5 with heap:=h' }) (ch:=fp) I5.os {λb o e n hb hx=>kb b o (ZI b o e).1 (U.keep b o e n hb hx),λb o e n hb hx=>?_,λb o e n hx=>?_,λb o e hx=>?_,λb xs e=>?_,λb o u e=>?_,λb ps e=>?_} ?_ I5.bare (λb hb=>?_),rfl,Zn D O bq}
  .obtain ⟨sl,q⟩:=U.slot b o e n hb hx;exact {sl,kb b _ (ZI b o e).1 q}
  .rw [zh (ZI b o e).2];exact U.free b o e n hx
  .obtain ⟨o',q⟩:=U.there b o e hx;exact {o',kb b _ (ZI b o e).1 q}
  .have q:=U.tups b xs e;rw [zh (zQ q O)];exact q
  .have q:=U.frzs b o u e;rw [zh (zQ q O)];exact q
  .obtain ⟨more,q⟩:=U.tbls b ps e;exact {more,by rw [zh (zQ q O)];exact q}
  .exact (I5.hok.but I5.free kb).add O (KS (bp.at λo e=>kb D o a0 e))
  .obtain ⟨_,g1,g2,g3,g4,g5⟩:=f2 b hb;exact ⟨g3,g1,g4,g5⟩
 exact tU S.symm (by rw [<- S];rfl) G (T.self _ 0 _ _ _ aI G)
theorem yN:Manifest.owners.lookup (String.ofList ['r','o','t','a','r','e','t','i','_','t','e','s'].reverse)=some Manifest.sig_set_iterator:=by kernel_rfl
theorem jd:Slot "set_iterator" "__next__" "set_iterator.__next__" :=
 .of (owner:="set_iterator") (n:="__next__") (by rw [typeLookup_type,builtinLookup_eq_fast];kernel_rfl) (f!"") (f!"") (f!"")
  (by first|exact .inl (f!"")|exact .inr (f!"")) (by rw [isSubtype_type];kernel_rfl)
theorem ME:entryFor table "set_iterator.__next__"=some N9.«set_iterator.__next__»:=entryFor_of_tree (by kernel_rfl)
theorem Ep(a:Value):SR "set_iterator.__next__" {[a],[]}:=by
 unfold SR;rw [signature?_of (id:="set_iterator.__next__") (n:=['_','_','t','x','e','n','_','_']) (o:=['r','o','t','a','r','e','t','i','_','t','e','s']) (by kernel_rfl) yN];kernel_rfl
theorem Bp:Slot "set_iterator" "__iter__" "set_iterator.__iter__" :=
 .of (owner:="set_iterator") (n:="__iter__") (by rw [typeLookup_type,builtinLookup_eq_fast];kernel_rfl) (f!"") (f!"") (f!"")
  (by first|exact .inl (f!"")|exact .inr (f!"")) (by rw [isSubtype_type];kernel_rfl)
theorem Ci:entryFor table "set_iterator.__iter__"=some N9.«dict_keyiterator.__iter__»:=entryFor_alias (id':="dict_keyiterator.__iter__") (by kernel_rfl) rfl (f!"") (by kernel_rfl)
theorem Mb(a:Value):SR "set_iterator.__iter__" {[a],[]}:=by
 unfold SR;rw [signature?_of (id:="set_iterator.__iter__") (n:=['_','_','r','e','t','i','_','_']) (o:=['r','o','t','a','r','e','t','i','_','t','e','s']) (by kernel_rfl) yN];kernel_rfl
theorem Em:entryFor table "set.__iter__"=some N9.«frozenset.__iter__»:=entryFor_alias (id':="frozenset.__iter__") (by kernel_rfl) rfl (f!"") (by kernel_rfl)
section
variable {prog:NW}{w:Oc}{A:Of}{E:Value->KE->Prop}{s:KE}
theorem Kb(F:n≠0)(h:∀i d,i<n->Q i { s with drawn:=d }):N2 (N5 prog w) A (choose z n) Q E s:=by
 intro Γ p G;unfold choose;rw [Sem.wp_choose];exact {F,h _ _ (Nat.mod_lt _ (Nat.pos_of_ne_zero F))}
theorem qg{α:Type}:∀{xs:List α}{i:Nat}(h:i<xs.length),(xs[i]::xs.eraseIdx i).Perm xs
 | x::xs,0,h=>Perm.refl _
 | x::xs,i+1,h=>by
  have:=qg (xs:=xs) (i:=i) (by simpa using h);exact (Perm.swap _ _ _).trans (this.cons x)
theorem uy{α:Type}:∀(n:Nat)(xs:List α)(s:KE)(Q:List α->KE->Prop),xs.length=n->(∀l d,l.Perm xs->Q l { s with drawn:=d })->N2 (N5 prog w) A (drawOrder n xs) Q E s
 | 0,xs,s,Q,hl,h=>by
  have:xs=[]:=OH.mp hl;subst this;exact NN (h [] s.drawn (Perm.refl _))
 | n+1,[],s,Q,hl,h=>by cases hl
 | n+1,x::xs,s,Q,hl,h=>by
  unfold drawOrder;refine we (Kb 'z' λi d hi=>?_);rw [NL hi];dsimp only;have le:((x::xs).eraseIdx i).length=n:=by rw [Ra hi];simpa using hl
  refine we (uy n _ _ _ le λl d' p=>NN ?_);exact h _ _ ((p.cons _).trans (qg hi))
def itO(a:Addr)(n ep:Nat)(first:Value)(i:Nat):Obj:={ cls:=.type "set_iterator",data:=.fields #[first,.int i 0,.ref a,.int n 0,.int ep 0] }
structure SIt(h:Heap)(I a:Addr)(n ep:Nat)(first:Value)(i:Nat):Prop where
 ex:∃o,h.get? I=some o/\o.cls = .type "set_iterator"/\o.data = .fields #[first,.int i 0,.ref a,.int n 0,.int ep 0]
theorem SIt.at{I a:Addr}(x:SIt h I a n ep first i)(k:∀o,h.get? I=some o->h'.get? I=some o):SIt h' I a n ep first i:=let ⟨o,ho,r⟩:=x.ex;{{o,k o ho,r}}
theorem SIt.typ{I a:Addr}(x:SIt s.heap I a n ep first i):s.TypeIs (.ref I) "set_iterator":=let ⟨o,ho,hc,_⟩:=x.ex;⟨o,ho,hc⟩
section
variable {a:Addr}{o:Obj}{es:Array (Int×Value)}{ep:Nat}{t:Oj}
theorem Dz(ho:s.heap.get? a=some o)(U:o.ExactSet)(hd:o.data = .set es ep t)(hf:t.fits es.size=true)(hz:es.size<=sizeLine)(h1:(btW w=true\/t.plain=true\/es.size<=1)->Q (.ref s.heap.objs.size) { s with heap:=s.heap.push (itO a es.size ep (.int 0 0) 0) })(h2:∀(ps:List Nat) d,btW w=false->ps.Perm (O0 es.size)->Q (.ref (s.heap.objs.size+1)) { s with heap:=(s.heap.push { cls:=.type "tuple",data:=.seq (ps.map λ(i:Nat)=>Pj i).toArray }).push (itO a es.size ep (.ref s.heap.objs.size) 0),drawn:=d }):
  N2 (N5 prog w) A (pyIter (.ref a)) Q E s:=by
 have G:s.TypeIs (.ref a) "set":=⟨o,ho,U.1⟩;refine wpAny_pyIter_slot G F.slot_set_iter (Pk F.slot_set_iter G Em ?_ (F.args_set_iter_1 _));unfold N9.«frozenset.__iter__» N9.Frozenset.slot0 slotArgs
 simp only [List.isEmpty_nil,Bool.not_true,Qj,↓reduceIte,bind_assoc,Q5,bne_self_eq_false];unfold N9.Frozenset.addrOf N9.Frozenset.sizeOf;refine we (NN ?_)
 try dsimp only
 refine we (NN ?_);refine we (we (wpAny_setEntries_of ho hd hf (NN ?_)));unfold setDrawn;refine we (we (Qa ho hd hf ?_));dsimp only;unfold setsByText;refine we (we (QC (NN (NN ?_))));show N2 _ _ (if (!btW w&&(!t.plain&&decide (es.size>1)))=true then _ else _) _ _ _;by_cases c:(!btW w&&(!t.plain&&decide (es.size>1)))=true
 .rw [if_pos c];simp only [Od,RC,decide_eq_true_eq] at c;refine we (uy es.size _ s _ Re λps d z=>we (wpAny_newTuple ?_ (by rw [NO,z.length_eq,Re];exact hz)));have J:((s.heap.push { cls:=.type "tuple",data:=.seq (ps.map λ(i:Nat)=>Pj i).toArray }).get? a)=some o:=NP _ ho;unfold setEpoch;refine we (we (Qa J hd hf (NN ?_)));refine we (OQ (NN {_,rfl,"set_iterator",_,{_,N7 _ rfl,rfl},jd.lookup,?_}));have:=h2 ps d c.1 z;rw [<- QE] at this;exact this
 .rw [if_neg c];have O:btW w=true\/t.plain=true\/es.size<=1:=by
   cases S:btW w
   .cases W:t.plain
    .rw [S,W] at c;right;right;simpa using c
    .right;left;rfl
   .left;rfl
  refine we (NN ?_);unfold setEpoch;refine we (we (Qa ho hd hf (NN ?_)));exact we (OQ (NN {_,rfl,"set_iterator",_,{_,N7 _ rfl,rfl},jd.lookup,h1 O}))
def cA(w:Oc)(a:Addr)(es:Array (Int×Value))(ep:Nat):Array (Int×Value):=if btW w=true then Rp (w.params.setOrder a ep) es else es
def Fst(w:Oc)(t:Oj)(n i:Nat)(first:Value):Prop:=∃k:Nat,first = .int k 0/\(btW w=false->Oj.below t.place k=i)
theorem Lu{k i:Nat}(ho:s.heap.get? a=some o)(hd:o.data = .set es ep t)(hf:t.fits es.size=true)(g:cX (btW w) t)(c:btW w=true\/t.plain=true\/es.size<=1)(hb:btW w=false->Oj.below t.place k=i)(h1:∀e k',(cA w a es ep)[i]?=some e->(btW w=false->Oj.below t.place k'=i+1)->Q (some (e.2,k')) s)(h2:(cA w a es ep)[i]?=none->Q none s):
  N2 (N5 prog w) A (setNext a k i ep) Q E s:=by
 unfold setNext;refine we (Qa ho hd hf ?_);dsimp only;unfold setsByText;refine we (we (QC (NN ?_)));show N2 _ _ (if btW w=true then _ else _) _ _ _;have Z:t.place.size=es.size:=by
  unfold Oj.fits at hf;simp only [Od,beq_iff_eq] at hf;exact hf.1
 cases F:btW w
 .rw [if_neg N8];have O:t.plain=true\/es.size<=1:=c.resolve_left (by rw [F];exact N8);show N2 _ _ (if (!t.plain&&decide (es.size>1))=true then _ else _) _ _ _;rw [if_neg (show ¬ ((!t.plain&&decide (es.size>1))=true) from by
   simp only [Od,RC,decide_eq_true_eq,not_and];intro h3;rcases O with h4|h4
   .rw [h3] at h4;cases h4
   .lia)]
  have G:t.led=true:=by rw [g.led,F];rfl
  have J:cA w a es ep=es:=by unfold cA;rw [if_neg (by rw [F];exact N8)]
  rw [J] at h1 h2;refine we ?_;show N2 _ _ (if (!t.led && !es.isEmpty)=true then _ else _) _ _ _;rw [if_neg (show ¬ ((!t.led && !es.isEmpty)=true) from by rw [G];simp)];refine NN (NN ?_);rw [hb F];cases e:es[i]? with
  | none=>exact h2 e
  | some x =>
   have hi:i<es.size:=(Px.mp e).1;have S:t.place[i]?=some t.place[i]:=O1 'l';rw [S];refine h1 x _ e λ_=>?_;have B:=qV g.b7 (t.place[i]+1);have W:t.place.getD i 0=t.place[i]:=by simp [getD,show i<t.place.size by lia]
   have lo:i<Oj.below t.place (t.place[i]+1):=by
    rcases Nat.lt_or_ge i (Oj.below t.place (t.place[i]+1)) with z|z
    .exact z
    .have:=B.hi i z 'l';lia
   rcases Nat.lt_or_ge (i+1) (Oj.below t.place (t.place[i]+1)) with z|z
   .have U:=B.lo (i+1) z;have l2:=g.b7 i (i+1) 'l' (by have:=B.le;lia);lia
   .lia
 .rw [if_pos rfl];rw [if_neg 'z'];unfold setWalk;refine we (we (Qa ho hd hf ?_));dsimp only;unfold setsByText;refine we (we (QC (NN ?_)));show N2 _ _ (if btW w=true then _ else _) _ _ _;rw [if_pos F];refine we (QC (NN (NN ?_)));have J:cA w a es ep=Rp (w.params.setOrder a ep) es:=by unfold cA;rw [if_pos F]
  rw [J] at h1 h2;show Q (((Rp (w.params.setOrder a ep) es)[i]?).map λe=>(e.2,k)) s;cases e:(Rp (w.params.setOrder a ep) es)[i]? with
  | none=>exact h2 e
  | some x=>exact h1 x k e λz=>by rw [F] at z;cases z
end
end
section
variable {prog:NW}{w:Oc}{A:Of}{E:Value->KE->Prop}{s:KE}
variable {a I:Addr}{o:Obj}{es:Array (Int×Value)}{ep:Nat}{t:Oj}{i:Nat}
theorem SIt.bT{n k':Nat}(x:SIt s.heap I a n ep first i):∀h':Heap,h'=s.heap.update I (Rc (·.setIfInBounds 0 (Pj k')))->SIt h' I a n ep (.int k' 0) i/\PF I s.heap h':=λh' e=>by
 subst e;obtain ⟨o,ho,hc,hd⟩:=x.ex;exact {{{_,OW _ ho (Pt (PY hd _)),(QY ..).trans hc,by rw [PY hd];simp [Pj]}},PF.update ..}
theorem SIt.bS(x:SIt s.heap I a n ep first i):∀h':Heap,h'=s.heap.update I (Rc (·.setIfInBounds 1 (Pj ((i:Int)+1))))->SIt h' I a n ep first (i+1)/\PF I s.heap h':=λh' e=>by
 subst e;obtain ⟨o,ho,hc,hd⟩:=x.ex;exact {{{_,OW _ ho (Pt (PY hd _)),(QY ..).trans hc,by rw [PY hd];simp [Pj]}},PF.update ..}
theorem AK(G:SIt s.heap I a es.size ep first i)(ho:s.heap.get? a=some o)(hd:o.data = .set es ep t)(hf:t.fits es.size=true)(h:N2 (N5 prog w) A.in1 (match first with
   | .int slot _=>do
    match<-setNext a slot.toNat i ep with
    | some (x,next) =>
     Q1 (.ref I) 0 (Pj next)
     Q1 (.ref I) 1 (Pj ((i:Int)+1))
     ret x
    | none=>Q1 (.ref I) 2 .none;R0 (<- newExc (.type "StopIteration") [])
   | _=>do
    let some places<-seqItems? first|unsupported "internal:set_iterator"
    match places[i]? with
    | some (.int z _) =>
     let x<-setNextDrawn a z.toNat ep
     Q1 (.ref I) 1 (Pj ((i:Int)+1))
     ret x
    | some _=>unsupported "internal:set_iterator"
    | none=>Q1 (.ref I) 0 (Pj 0);Q1 (.ref I) 2 .none;R0 (<- newExc (.type "StopIteration") []))
   (λJ s'=>∃v,J = .done (.ret v)/\Q (some v) s') (λe s'=>N2 (N5 prog w) A (do if<-isInstance e (.type "StopIteration") then pure none else throw e) Q E s') s):
  N2 (N5 prog w) A (RB (.ref I)) Q E s:=by
 obtain ⟨oi,F,O,S⟩:=G.ex;unfold RB;refine we (wpAny_attempt (QA (name:=NS "__next__") G.typ jd (Pk jd G.typ ME ?_ (Ep _))));unfold N9.«set_iterator.__next__»
 refine we (NN ?_);refine we (wpAny_fieldsOf F S ?_);dsimp only;refine we (wpAny_setEntries_of ho hd hf ?_);rw [if_neg 'z'];simp only [Qg];refine Ow h ?_ ?_
 .rintro J s' ⟨v,rfl,q⟩;exact {_,rfl,NN q}
 .intro e s' q;exact q
theorem vh(J:A.handled=none)(F:ExtBut I s.heap h1)(z:∀h',ExtBut I s.heap h'->Q none { s with heap:=h' }):
  N2 (N5 prog w) A.in1 (do R0 (<- newExc (.type "StopIteration") []):Sem Fin) (λG s'=>∃v,G = .done (.ret v)/\Q (some v) s') (λe s'=>N2 (N5 prog w) A (do if<-isInstance e (.type "StopIteration") then pure none else throw e) Q E s') { s with heap:=h1 }:=by
 refine we ?_;simp only [newExc,newTuple];refine we (OQ ?_ (by size_fits));refine we (m:=Sr _ _) (wpAny_of_eq (a:=OL) (by first|rfl|(simp only [Sr];rfl)) ?_);refine OQ ?_ (by size_fits);simp only [R0];refine we (wpAny_handled ?_);rw [show A.in1.handled=none from J];refine we (NN (SD ?_));refine we (RN (T:="StopIteration") (b:=true) {_,N7 _ rfl,rfl} isSubtype_stop ?_);exact NN (z _ ((F.push _).push _))
theorem xw{k:Nat}(hh:A.handled=none)(F:SIt s.heap I a es.size ep (.int k 0) i)(ho:s.heap.get? a=some o)(hd:o.data = .set es ep t)(hf:t.fits es.size=true)(g:cX (btW w) t)(c:btW w=true\/t.plain=true\/es.size<=1)(hb:btW w=false->Oj.below t.place k=i)(h1:∀e k' h',(cA w a es ep)[i]?=some e->(btW w=false->Oj.below t.place k'=i+1)->SIt h' I a es.size ep (.int k' 0) (i+1)->PF I s.heap h'->Q (some e.2) { s with heap:=h' })(h2:(cA w a es ep)[i]?=none->∀h',ExtBut I s.heap h'->Q none { s with heap:=h' }):N2 (N5 prog w) A (RB (.ref I)) Q E s:=by
 refine AK F ho hd hf ?_;dsimp only;refine we (Lu ho hd hf g c (by simpa using hb) (λe k' he Yi=>?_) λhe=>?_)
 .dsimp only;obtain ⟨oi,z,J,U⟩:=F.ex;refine we (O5 z U 'z' ?_);obtain ⟨Z,W⟩:=F.bT (k':=k') _ rfl;obtain ⟨oj,G,ak,O⟩:=Z.ex;refine we (O5 G O 'z' ?_);obtain ⟨x2,S⟩:=SIt.bS (s:={ s with heap:=s.heap.update I (Rc (·.setIfInBounds 0 (Pj k'))) }) Z _ rfl;exact NN {_,rfl,h1 e k' _ he Yi x2 (W.trans S)}
 .dsimp only;obtain ⟨oi,z,J,U⟩:=F.ex;refine we (O5 z U 'z' ?_);exact vh hh (PF.update ..).extBut (h2 he)
theorem xt{W:Obj}{ps:List Nat}(hh:A.handled=none)(F:SIt s.heap I a es.size ep (.ref T) i)(ho:s.heap.get? a=some o)(hd:o.data = .set es ep t)(hf:t.fits es.size=true)(hT:s.heap.get? T=some W)(G:W.data = .seq (ps.map λ(i:Nat)=>Pj i).toArray c)(pm:ps.Perm (O0 es.size))(h1:∀p e h',ps[i]?=some p->es[p]?=some e->SIt h' I a es.size ep (.ref T) (i+1)->PF I s.heap h'->Q (some e.2) { s with heap:=h' })(h2:ps[i]?=none->∀h',ExtBut I s.heap h'->Q none { s with heap:=h' }):N2 (N5 prog w) A (RB (.ref I)) Q E s:=by
 refine AK F ho hd hf ?_;dsimp only;refine we (Sn hT G ?_);dsimp only;obtain ⟨oi,z,ak,Z⟩:=F.ex;rw [RM,Oe];cases e:ps[i]? with
 | none =>
  dsimp only [Option.map_none];refine we (O5 z Z 'z' ?_);obtain ⟨x1,U⟩:=F.bT (k':=0) _ rfl;obtain ⟨oj,S,av,O⟩:=x1.ex;refine we (O5 S O 'z' ?_);exact vh (s:=s) (I:=I) hh (U.trans (PF.update ..)).extBut (h2 e)
 | some p =>
  have hp:p<es.size:=by
   have:=pm.mem_iff.mp (OS e);simpa using this
  have he:es[p]?=some es[p]:=O1 hp;dsimp only [Option.map_some,Pj];unfold setNextDrawn;refine we (we (Qa ho hd hf ?_));dsimp only;rw [if_neg 'z',Qg,he];refine NN ?_;refine we (O5 z Z 'z' ?_);obtain ⟨x2,J⟩:=F.bS _ rfl;exact NN {_,rfl,h1 p es[p] _ e he x2 J}
theorem wZ(z:SIt s.heap I a n ep first i)(h:Q (.ref I) s):N2 (N5 prog w) A (pyIter (.ref I)) Q E s:=by
 refine wpAny_pyIter_slot z.typ Bp (Pk Bp z.typ Ci ?_ (Mb _));show N2 _ _ (ret (.ref I)) _ _ s;exact NN {_,rfl,"set_iterator",_,z.typ,jd.lookup,h}
end
theorem wa{α:Type}(nx:Nat->Nat):∀(f k:Nat)(left:List α)(out:Array α),left.length=f->(Rp.go nx f k left out).toList.Perm (out.toList++left)
 | 0,k,left,out,h=>by
  have:left=[]:=OH.mp h;subst this;unfold Rp.go;simp
 | f+1,k,left,out,h=>by
  have hp:0<left.length:=by lia
  have hi:nx k % left.length<left.length:=Nat.mod_lt _ hp;unfold Rp.go;rw [NL hi];dsimp only;refine (wa nx f (k+1) _ _ (by rw [Ra hi,h];rfl)).trans ?_;rw [Array.toList_push,OR];exact Perm.append_left _ (qg hi)
theorem MP{α:Type}(nx:Nat->Nat)(xs:Array α):(Rp nx xs).toList.Perm xs.toList:=by
 have:=wa nx xs.size 0 xs.toList #[] 'z';unfold Rp;simpa using this
theorem IL{a:Addr}:(cA w a es ep).toList.Perm es.toList:=by
 unfold cA;split
 .exact MP _ _
 .exact Perm.refl _
theorem rX:∀{l:List (Int×Value)},ElemsOf (Pn prog w) l->QP (l.map (·.2)) (l.map eV)
 | [],_=>.nil
 | e::l,h=>by
  obtain ⟨⟨k,F,_⟩,_⟩:=h e NX;obtain ⟨t,z⟩:=nB F;have:=rX (l:=l) λx hx=>h x (NR _ hx);show QP (e.2::_) (numOf e.2::_);rw [z];exact .cons _ _ this
structure IW(prog:NW)(w:Oc)(A:Of)(h0 h:Heap)(a I:Addr)(ns:List Int):Prop where
 new:h0.objs.size<=I
 old:∀b o,h0.get? b=some o->h.get? b=some o
 ex:∃(L:List Value)(ms:List Int)(fp:List Addr)(St:Nat->Heap->Prop),QP L ms/\ms.Perm ns/\(∀b∈fp,b=a\/h0.objs.size<=b)/\Walks prog w A I fp [I] L.length (λi v=>L[i]?=some v) St/\St 0 h
section
variable {prog:NW}{w:Oc}{A:Of}{E:Value->KE->Prop}{s:KE}
theorem Nu{a:Addr}(hh:A.handled=none)(hS:ag prog w s.heap a ns)(h:∀I h' d,IW prog w A s.heap h' a I ns->Q (.ref I) { s with heap:=h',drawn:=d }):N2 (N5 prog w) A (pyIter (.ref a)) Q E s:=by
 obtain ⟨o,es,ep,t,ho,Yh,hd,av,hf,gt,pm⟩:=hS.ex;have hsz:=ag.size (h:=s.heap) (a:=a) pm;have hz:es.size<=sizeLine:=by rw [hsz,Ph];have:=hS.few;lia
 have S:=Os ho;refine Dz ho Yh hd hf hz (λc=>?_) λps d WZ pp=>?_
 .have op:=IL (w:=w) (a:=a) (es:=es) (ep:=ep);have U:=av.perm op;have J:(cA w a es ep).toList.length=es.size:=by rw [op.length_eq,Pl]
  have F:∀i,(cA w a es ep)[i]?=(cA w a es ep).toList[i]?:=λi=>(O3).symm;have:=h s.heap.objs.size (s.heap.push (itO a es.size ep (.int 0 0) 0)) s.drawn {NV _,λb o e=>NP _ e,(cA w a es ep).toList.map (·.2),(cA w a es ep).toList.map eV,[s.heap.objs.size,a],λi h=>(∃k:Nat,SIt h s.heap.objs.size a es.size ep (.int k 0) i/\(btW w=false->Oj.below t.place k=i))/\h.get? a=some o,rX U,(op.map eV).trans pm,λb hb=>?_,?_,?_}
  .exact this
  .simp only [NT,Oh,or_false] at hb;rcases hb with rfl|rfl
   .exact .inr (NV _)
   .exact .inl rfl
  .have aI:a≠s.heap.objs.size:=OM S;refine {λb hb=>?_,λi h h' st Z=>?_,λi s' Q E hi st G=>?_,λs' Q E st G=>?_,λi s' Q E st G=>?_}
   .simp at hb;simp [hb]
   .obtain ⟨⟨k,x,hb⟩,ha⟩:=st;exact {{k,x.at λo e=>Z _ 'z' o e,hb},Z a 'z' o ha}
   .obtain ⟨⟨k,x,hb⟩,ha⟩:=st;rw [NO,J] at hi;refine xw hh x ha hd hf gt c hb (λe k' h' he Yi x' O=>?_) λhe=>?_
    .refine G _ h' s'.toks ?_ {⟨k',x',Yi⟩,O.extBut a _ aI ha} λb o hb e=>O.extBut b o (λz=>hb (by simp [z])) e;rw [Oe,<- F,he];rfl
    .rw [F] at he;exact absurd (Qq.mp he) 'l'
   .obtain ⟨⟨k,x,hb⟩,ha⟩:=st;rw [NO,J] at x hb;refine xw hh x ha hd hf gt c hb (λe k' h' he Yi x' O=>?_) λhe h' eb=>?_
    .rw [F] at he;exact absurd (NU.mp he).1 'l'
    .exact G h' s'.toks λb o hb e=>eb b o (λz=>hb (by simp [z])) e
   .obtain ⟨⟨k,x,hb⟩,ha⟩:=st;exact wZ x G
  .exact {{0,{{_,N7 _ rfl,rfl,rfl}},λ_=>by
    have B:=qV gt.b7 0;rcases Sw (Oj.below t.place 0) with z|z
    .exact z
    .exact absurd (B.lo 0 z) (Nat.not_lt_zero _)},NP _ ho}
 .have ax:s.heap.objs.size=s.heap.objs.size:=rfl
  let f:Nat->Int×Value:=λp=>es.getD p (0,.none)
  have ak:∀p,p<es.size->es[p]?=some (f p):=λp hp=>by rw [O1 hp];simp [f,getD,hp]
  have op:(ps.map f).Perm es.toList:=by
   have e:(O0 es.size).map f=es.toList:=by
    apply List.ext_getElem?;intro i;rw [Oe,show es.toList[i]?=es[i]? from O3];by_cases hi:i<es.size
    .rw [List.getElem?_range hi,ak i hi];rfl
    .rw [Array.getElem?_eq_none 'l',QW (by simpa using hi)];rfl
   rw [<- e];exact pp.map f
  have U:=av.perm op;have J:ps.length=es.size:=by rw [pp.length_eq,Re]
  have:=h (s.heap.objs.size+1) ((s.heap.push { cls:=.type "tuple",data:=.seq (ps.map λ(i:Nat)=>Pj i).toArray }).push (itO a es.size ep (.ref s.heap.objs.size) 0)) d {SK _,λb o e=>NP _ (NP _ e),(ps.map f).map (·.2),(ps.map f).map eV,[s.heap.objs.size+1,a,s.heap.objs.size],λi h=>SIt h (s.heap.objs.size+1) a es.size ep (.ref s.heap.objs.size) i/\h.get? a=some o/\h.get? s.heap.objs.size=some { cls:=.type "tuple",data:=.seq (ps.map λ(i:Nat)=>Pj i).toArray },rX U,(op.map eV).trans pm,λb hb=>?_,?_,?_}
  .exact this
  .simp only [NT,Oh,or_false] at hb;rcases hb with rfl|rfl|rfl
   .exact .inr (SK _)
   .exact .inl rfl
   .exact .inr (NV _)
  .have aI:a≠s.heap.objs.size+1:=OM (QU S);have tI:s.heap.objs.size≠s.heap.objs.size+1:=OM (RD _);refine {λb hb=>?_,λi h h' st Z=>?_,λi s' Q E hi st G=>?_,λs' Q E st G=>?_,λi s' Q E st G=>?_}
   .simp at hb;simp [hb]
   .obtain ⟨x,ha,W⟩:=st;exact {x.at λo e=>Z _ 'z' o e,Z a 'z' o ha,Z _ 'z' _ W}
   .obtain ⟨x,ha,W⟩:=st;rw [NO,NO] at hi;refine xt hh x ha hd hf W rfl pp (λp e h' hp he x' O=>?_) λhe=>?_
    .refine G _ h' s'.toks ?_ {x',O.extBut a _ aI ha,O.extBut _ _ tI W} λb o hb e=>O.extBut b o (λz=>hb (by simp [z])) e;have Yu:p<es.size:=(Px.mp he).1;rw [ak p Yu] at he;cases he;rw [Oe,Oe,hp];rfl
    .exact absurd (Qq.mp he) 'l'
   .obtain ⟨x,ha,W⟩:=st;rw [NO,NO] at x;refine xt hh x ha hd hf W rfl pp (λp e h' hp he x' O=>?_) λhe h' eb=>?_
    .exact absurd (NU.mp hp).1 'l'
    .exact G h' s'.toks λb o hb e=>eb b o (λz=>hb (by simp [z])) e
   .exact wZ st.1 G
  .refine {{{itO a es.size ep (.ref s.heap.objs.size) 0,?_,rfl,rfl}},NP _ (NP _ ho),NP _ (N7 _ rfl)};have:=N7 (s.heap.push { cls:=.type "tuple",data:=.seq (ps.map λ(i:Nat)=>Pj i).toArray }) (o:=itO a es.size ep (.ref s.heap.objs.size) 0) rfl;rw [QE] at this;exact this
theorem MY{a:Addr}(G:s.TypeIs (.ref a) "set")(h:Q false s):N2 (N5 prog w) A (N9.List.listLengthHint (.ref a)) Q E s:=by
 unfold N9.List.listLengthHint;refine we (wpAny_specialOf G PySem.F.slot_set_len.lookup ?_);generalize O:("set.__len__":String)=J
 wp_delta
 rw [show splitId J=some ("set","__len__") from by subst O;decide +kernel];subst O;refine we (RN (T:="set") (b:=true) G (by rw [isSubtype_type];kernel_rfl) ?_);refine Sf (λz=>absurd z 'd') (λ_=>?_);refine Sf (λ_=>?_) (λz=>absurd (f!"") z);refine we (Rw G ?_);exact NN h
theorem ag.typ{a:Addr}(x:ag prog w s.heap a ns):s.TypeIs (.ref a) "set":=let ⟨o,_,_,_,ho,Yh,_⟩:=x.ex;⟨o,ho,Yh.1⟩
theorem D7(h:ItemsOf (λi v=>L[i]?=some v) ZZ L.length):ZZ.toList=L:=by
 apply List.ext_getElem?;intro i;by_cases hi:i<L.length
 .have hs:i<ZZ.size:=by rw [h.1];exact hi
  have e:ZZ[i]?=some ZZ[i]:=O1 hs;rw [O3,e,h.2 i _ e]
 .rw [O3,Array.getElem?_eq_none (by rw [h.1];lia),QW 'l']
theorem Nm{a S:Addr}(hh:A.handled=none)(hS:ag prog w s.heap a ns)(ax:S≠a)(res:Value)(U:Nat)(hl:s.heap.get? S=some { cls:=.type "list",data:=.seq #[] U })(hR:∀h' tk d YT c' ms,(∀b o,b≠S->s.heap.get? b=some o->h'.get? b=some o)->h'.get? S=some { cls:=.type "list",dict:=none,data:=.seq YT c',slots:=#[] }->QP YT.toList ms->ms.Perm ns->R (.ok (.ret res)) { s with heap:=h',toks:=tk,drawn:=d }):
  N2 (N5 prog w) A.in1 (N9.List.listExtendWith (.ref S) (.ref a) res)
   (λZn s'=>match Zn with | .done f=>R (.ok f) s' | .again c'=>c'.quiet=true/\Qb (N5 prog w) A c' R s') (λe s'=>R (.error e) s') s:=by
 unfold N9.List.listExtendWith;refine we (Rw (T:="set") hS.typ ?_);have h1:N9.List.listSameRef (.ref S) (.ref a)=false:=by simp [N9.List.listSameRef,ax]
 have n1:(type "set" == type "list")=false:=by decide
 have n2:(type "set" == type "tuple")=false:=by decide
 simp only [h1,n1,n2,SX,Qj,if_false];refine we (Nu hh hS λI h2 d sw=>?_);obtain ⟨L,ms,fp,St,hL,hp,aI,W,st⟩:=sw.ex;have ZS:L.length<=sizeLine:=by
  have e1:L.length=ms.length:=by
   clear W st hp
   induction hL with
   | nil=>rfl
   | cons _ _ _ ih=>simp [ih]
  rw [e1,hp.length_eq,Ph];have:=hS.few;lia
 have Z:=Os hl;have av:S∉fp:=λz=>by
  rcases aI S z with q|q
  .exact ax q
  .exact OF _ (Oi Z q)
 have a0:S≠I:=OM (Oi Z sw.new);have XA:∀(h:Heap)(G tk:Nat),St 0 h->(∀b o,b≠S->s.heap.get? b=some o->h.get? b=some o) ->
   h.get? S=some { cls:=.type "list",data:=.seq #[] G }->Qb (N5 prog w) A (.builtin "list.extend.loop" {[.ref S,.ref I,res],[]}) R { s with heap:=h,toks:=tk,drawn:=d }:=by
  intro h G tk hst hk F;refine codeAny_extend_loopS W.toS ZS S av res L.length 0 _ #[] G rfl (O9 _) hst F (ItemsOf.nil _) λs' YT c' hm YD Zt=>?_;rw [Moved.eq_with hm];refine hR s'.heap s'.toks d YT c' ms (λb o hb e=>hm.heap b o (λJ=>?_) (hk b o hb e)) YD (by rw [D7 Zt];exact hL) hp;rcases NT.mp J with e'|J
  .exact hb e'
  .have e3:=OO.mp J;exact absurd (Os e) (by rw [e3];exact not_lt.mpr sw.new)
 have F:=sw.old _ _ hl;refine we (On (MY (ag.typ (s:={ s with heap:=h2,drawn:=d }) (hS.at λo e=>sw.old _ _ e)) ?_));refine Sf (λ_=>?_) (λ_=>NN {Qh SB _,XA _ U _ st (λb o _ e=>sw.old _ _ e) F});refine we (QK ?_);refine we ?_;show N2 _ _ (updateSeq S (·.push .none)>>=λ_=>updateSeq S (·.pop)) _ _ _;refine we (Rh F rfl ?_);have O:=OW (Tt (·.push OL)) F rfl;refine Rh (hz:=by seq_fits) O rfl ?_;have ak:=OW (Tt (·.pop)) O rfl;refine NN {Qh SB _,XA _ _ _ ?_ (λb o hb e=>?_) ak}
 .refine W.frame 0 _ _ st λb hb o e=>?_;have Xq:b≠S:=λh=>av (h ▸ hb);exact (Oz _ _ (OY Xq)).trans ((Oz _ _ (OY Xq)).trans e)
 .exact (Oz _ _ (OY hb)).trans ((Oz _ _ (OY hb)).trans (sw.old _ _ e))
theorem CO{a:Addr}(hh:A.handled=none)(hS:ag prog w s.heap a ns)(h:∀(h':Heap)(tk:Nat) d (ZZ:List Value) z,(∀b o,s.heap.get? b=some o->h'.get? b=some o)->QP ZZ z->z.Perm ns->R ZZ { s with heap:=h',toks:=tk,drawn:=d }):
  N2 (N5 prog w) A (collect (.ref a)) R E s:=by
 have ZI:a<s.heap.objs.size:=let ⟨o,e,_⟩:=hS.obj;Os e;unfold collect;refine we (wpAny_runValue (Qs entry_proto_collect' ?_));rw [Of.under_plainId PySem.F.plain_proto_collect _];show N2 _ A.in1 (newList []>>=λl=>again (.builtin "list.__iadd__" {[l,.ref a],[]})) _ _ s;refine we (OQ ?_);refine NN {Qh S6 _,Qs entry_list_iadd' ?_};rw [Of.under_plainId S6 _];have G:(s.heap.push { cls:=.type "list",data:=.seq ([]:List Value).toArray }).get? s.heap.objs.size=some { cls:=.type "list",data:=.seq #[] }:=N7 _ rfl;show N2 _ A.in1 (N9.List.listExtendWith (.ref s.heap.objs.size) (.ref a) (.ref s.heap.objs.size)) _ _ _;have XA:=Nm (A:=A) (s:={ s with heap:=s.heap.push { cls:=.type "list",data:=.seq ([]:List Value).toArray } })
  (R:=λ(q:Tn)(s':KE)=>∃(h':Heap)(tk:Nat)(d:Drawn)(J:Array Value)(W:Nat)(z:List Int),q = .ok (.ret (.ref s.heap.objs.size))/\s'={ s with heap:=h',toks:=tk,drawn:=d } /\
   (∀b o,s.heap.get? b=some o->h'.get? b=some o)/\h'.get? s.heap.objs.size=some { cls:=.type "list",dict:=none,data:=.seq J W,slots:=#[] }/\QP J.toList z/\z.Perm ns)
  hh (hS.at λo e=>NP _ e) (R8 ZI) (.ref s.heap.objs.size) 0 G
  (λh' tk d J W z O U S hp=>{h',tk,d,J,W,z,rfl,rfl,λb o e=>O b o (OM (Os e)) (NP _ e),U,S,hp})
 refine Ow XA (λZn s' x=>?_) λe s' x=>?_
 .cases Zn with
  | done f =>
   obtain ⟨h',tk,d,J,W,z,e,rfl,O,U,S,hp⟩:=x;cases e;show N2 _ A (load s.heap.objs.size>>=_) _ _ _;refine we (wpAny_load U ?_);exact NN (h h' tk d _ z O S hp)
  | again Z =>
   refine {x.1,Qf x.2 λq ak y=>?_};obtain ⟨h',tk,d,J,W,z,rfl,rfl,O,U,S,hp⟩:=y;show N2 _ A (load s.heap.objs.size>>=_) _ _ _;refine we (wpAny_load U ?_);exact NN (h h' tk d _ z O S hp)
 .obtain ⟨_,_,_,_,_,_,e',_⟩:=x;cases e'
end
end L2
namespace L2
open PySem PySem.Spec PyProof.Rows PySem.W PySem.Calls
def vI(P:NW)(w:Oc):List V->Hp->VK->Prop:=λxs H Q=>uR1 xs λa=>∃z:List Int,H a=some (gK P w a z)/\z.length<64/\∀p (ns:List Int) H2,New H p (.lst (ns.map V.int)) H2->ns.Perm z->ns.Pairwise (·<=·)->Q (.ref p) H2
theorem FB{a:Addr}:vI P w [.ref a] H Q = ∃z:List Int,H a=some (gK P w a z)/\z.length<64/\∀p (ns:List Int) H2,New H p (.lst (ns.map V.int)) H2->ns.Perm z->ns.Pairwise (·<=·)->Q (.ref p) H2:=fj
theorem Lo(h:QP vs ns):vs.length=ns.length:=by
 induction h with
 | nil=>rfl
 | cons _ _ _ z=>simp [z]
theorem Inv.drew{d:Drawn}(I:Inv X Go σ H s):Inv X Go σ H { s with drawn:=d }:=⟨I.ok,I.os,I.bare,I.base,I.loc,I.cell,I.free,I.vl,I.pin,I.hok,I.len,I.hdk⟩
section
variable {X:Cx}
theorem G3(hc:X.calm=true):zU X (.builtin "sorted") (vI X.prog X.w):=by
 intro Go s σ H xs us Q I r h;obtain ⟨a,rfl,ms,hq,Xs,q⟩:=h;obtain ⟨u,rfl,ru⟩:=bM r;cases ru;have hS:=M6 I.hok hq;refine call_function_entry kind_sorted plain_sorted entry_sorted (args_sorted1 _) ?_;unfold N9.«sorted»
 refine we (m:=checkCount "sorted" 1 1 _) (NN (we (CO (A:=X.A.in1) (I.ok.hd hc) hS λh' tk d ZZ ns Z J F=>?_)));have hl:ZZ.length=ms.length:=by rw [Lo J,F.length_eq]
 have U:Inv X Go σ H { s with heap:=h',toks:=tk,drawn:=d }:=(I.kept (t':=tk) Z).drew;refine we (wpAny_newList ?_ (by rw [hl,Ph];lia));have z:(h'.push (seqObj "list" ZZ.toArray 0)).get? h'.objs.size=some (seqObj "list" ZZ.toArray 0):=N7 _ rfl;refine we (On (Pk slot_list_sort {_,z,rfl} entry_list_sort (list_sort_tree z J (by rw [hl];exact Xs) λout S W O b3=>{_,rfl,?_}) (args_list_sort _)));obtain ⟨c,G⟩:=sortedHeap_at (vs:=ZZ) (out:=out) z;refine NN {_,rfl,.ref h'.objs.size,upd H h'.objs.size (.lst (S.map V.int)),U.laid (a:=h'.objs.size) (t':=tk) (λb o e=>?_) (NV _) {?_,out.toList,c,oO W,by rw [RA];exact G},rfl,q _ S _ (.mk' (U.hok.fresh (NV _))) (O.trans F) b3}
 .have hb:b<h'.objs.size:=Os e;rw [sortedHeap_old (OM hb) (by rw [size_push'];exact QU hb)];exact NP _ e
 .have:=O.length_eq;rw [NO,this,F.length_eq,Ph];lia
end
theorem IY{c c1 c2:Bool}(hc:c=true->X.calm=true)(z:c1=true->X.calm=true)(Xi:c2=true->X.calm=true)(L:aA X sc N' ix)(hi:W (PIc c X t0 i0 wi))(hg:∀Go C fp s H,W (PG (zC X sc N' Go C fp s H) t0 g))(S:∀Go C fp s H,W (PIc c1 (zC X sc N' Go C fp s H) t1 i1 Z))(G:∀Go C fp s H,W (PG (zC X sc N' Go C fp s H) t1 g1))(O:∀Go C fp s H,W (PIc c2 (zC X sc N' Go C fp s H) t2 i2 w2))(U:∀Go C fp s H,W (PG (zC X sc N' Go C fp s H) t2 g2))(he:∀Go C fp s H,W (PE (zC X sc N' Go C fp s H) Y7 te))(hs:∀x,OK i0 X.env x=pure x:=by intro _;rfl)(F:∀env x,OK i1 env x=pure x:=by intro _ _;rfl)(J:∀env x,OK i2 env x=pure x:=by intro _ _;rfl):
  W (PE X (.SetComp Y7 [{t0,i0,[],0},{t1,i1,[],0},{t2,i2,[],0}] sc pos) (tSC X.prog X.w ix wi g (ke (gI Z g1 (gI w2 g2 (gp te)))))) :=
 {Fm hc z Xi L hi.h (λa b c d e=>(hg a b c d e).h) (λa b c d e=>(S a b c d e).h) (λa b c d e=>(G a b c d e).h) (λa b c d e=>(O a b c d e).h) (λa b c d e=>(U a b c d e).h) (λa b c d e=>(he a b c d e).h) hs F J}
section
variable {prog:NW}{w:Oc}{A:Of}{E:Value->KE->Prop}{s:KE}
def uniq(ns:List Int):List Int:=ns.foldl zN []
end
theorem o5:∀{ns:List Int}{z:List Value},zq (ns.map V.int) z->QP z ns
 | [],_,h=>by cases h;exact .nil
 | n::ns,_,h=>by
  cases h with
  | cons r F =>
   obtain ⟨t,rfl⟩:=r;exact .cons n t (o5 F)
theorem Ml{n k:Int}:k∈zN z n↔k∈z\/k=n:=by
 unfold zN;split
 .rename_i h;constructor
  .exact .inl
  .rintro (h'|rfl)
   .exact h'
   .exact h
 .simp
theorem NG(h:F.Nodup):(zN F n).Nodup:=by
 unfold zN;split
 .exact h
 .rename_i G;rw [List.nodup_append];refine {h,'z',λa ha b hb=>?_};have e:b=n:=by simpa using hb
  subst e;exact λz=>G (z ▸ ha)
theorem yl{k:Int}:∀{ns z:List Int},k∈ns.foldl zN z↔k∈z\/k∈ns
 | [],z=>by simp
 | n::ns,z=>by
  show k∈ns.foldl zN (zN z n)↔_;rw [yl,Ml,NT,or_assoc]
theorem wm:∀{ns z:List Int},z.Nodup->(ns.foldl zN z).Nodup
 | [],z,h=>h
 | n::ns,z,h=>wm (ns:=ns) (NG h)
theorem fA{k:Int}:k∈uniq ns↔k∈ns:=by
 unfold uniq;rw [yl];simp
theorem dH:(uniq ns).Nodup:=wm List.nodup_nil
theorem nr{xs ys:List Int}(hx:xs.Pairwise (·<=·))(z:ys.Pairwise (·<=·))(nx:xs.Nodup)(F:ys.Nodup)(h:∀k,k∈xs↔k∈ys):xs=ys:=by
 have p:xs.Perm ys:=(PM nx F).mpr h;exact p.eq_of_pairwise (λa b _ _ h1 h2=>Int.le_antisymm h1 h2) hx z
end L2
namespace L2
open PySem PySem.Spec PyProof.Rows
def uN(v:V)(k:Int->Prop):Prop:=match v with | .int n=>k n|_=>False
theorem Gq{k:Int->Prop}:uN (.int n) k=k n:=rfl
def dw(J:It)(g:TG)(tb:TB)(σ:St)(ns:List Int)(H:Hp)(Q:St->List Int->Hp->Prop):Prop:=∃W:Nat->Nat->St->List Int->Hp->Prop,(∃m,W 0 m σ ns H)/\mS W J g tb Q
section
variable {P:NW}{w:Oc}{K:NQ}{ix:List (Option Nat)}{wi:TI}{g:TG}{tb:TB}{te:TE}{σ:St}{ns:List Int}{H:Hp}{Q:St->List Int->Hp->Prop}{R:VK}
theorem DJ:tSC P w ix wi g tb σ H R=wi σ H λJ H1=>dw J g tb (cL ix σ) [] H1 λ_ ns H2=>∀D,H2 D=none->D≠sysModules->R (.ref D) (upd H2 D (gK P w D ns)):=rfl
theorem MF:gI wi g tb σ ns H Q=wi σ H λJ H1=>dw J g tb σ ns H1 Q:=rfl
theorem MT:ke tb σ ns H Q=(tb σ ns H Q\/∃a kvs,H a=some (.dK kvs)/\∀o,tb σ ns (upd H a (.frz o (.dK kvs))) λz F H'=>gn a kvs H' (Q z F)):=rfl
theorem NK:gp te σ ns H Q=te σ H λv H1=>uN v λn=>ns.length<3000/\Q σ (zN ns n) H1:=by
 unfold gp;congr 1;funext v H1;apply propext;constructor
 .rintro ⟨n,rfl,h⟩;exact h
 .intro h;cases v with
  | int n=>exact {n,rfl,h}
  | _=>exact h.elim
theorem dw.lst{a:Addr}{xs:List V}(G:Nat->St->List Int->Hp->Prop)(ha:∀i z ns H,G i z ns H->SqL K H a xs)(S:G 0 σ ns H)
  (hs:∀(N:St->List Int->Hp->Prop) i x z ns H,xs[i]?=some x->G i z ns H->(∀z ns H,G (i+1) z ns H->N z ns H)->g x z H λF H4=>tb F ns H4 N) (hd:∀z ns H,G xs.length z ns H->Q z ns H):dw (Itl K a) g tb σ ns H Q:=by
 refine {λi m z ns H=>m=xs.length-i/\i<=xs.length/\G i z ns H,{xs.length,'z',O9 _,S},?_};rintro i m z ys H2 ⟨rfl,hi,p⟩;have q:=ha i z ys H2 p;by_cases O:i<xs.length
 .refine .inr {{xs,xs[i],q,by simp [O]},λx H' y=>?_};obtain ⟨e,y⟩:=y;subst e;exact hs (λF ys H=>∃J,J<xs.length-i/\J=xs.length-(i+1)/\i+1<=xs.length/\G (i+1) F ys H) i x z ys _ (y xs q) p λF zs H q=>{xs.length-(i+1),'l',rfl,O,q}
 .have e:i=xs.length:=by lia
  subst e;exact .inl {{xs,q,NV _},hd z ys H2 p}
theorem dw.tup{a:Addr}{xs:List V}(G:Nat->St->List Int->Hp->Prop)(ha:∀i z ns H,G i z ns H->SqT K H a xs)(S:G 0 σ ns H)
  (hs:∀(N:St->List Int->Hp->Prop) i x z ns H,xs[i]?=some x->G i z ns H->(∀z ns H,G (i+1) z ns H->N z ns H)->g x z H λF H4=>tb F ns H4 N) (hd:∀z ns H,G xs.length z ns H->Q z ns H):dw (Itt K a) g tb σ ns H Q:=by
 refine {λi m z ns H=>m=xs.length-i/\i<=xs.length/\G i z ns H,{xs.length,'z',O9 _,S},?_};rintro i m z ys H2 ⟨rfl,hi,p⟩;have q:=ha i z ys H2 p;by_cases O:i<xs.length
 .refine .inr {{xs,xs[i],q,by simp [O]},λx H' y=>?_};obtain ⟨e,y⟩:=y;subst e;exact hs (λF ys H=>∃J,J<xs.length-i/\J=xs.length-(i+1)/\i+1<=xs.length/\G (i+1) F ys H) i x z ys _ (y xs q) p λF zs H q=>{xs.length-(i+1),'l',rfl,O,q}
 .have e:i=xs.length:=by lia
  subst e;exact .inl {{xs,q,NV _},hd z ys H2 p}
theorem dw.vals{a:Addr}{o:Obj}(J:Nat->St->List Int->Hp->Prop)(ha:∀i F ns H,J i F ns H->H a=some (.frz o (.dK kvs)))(U:J 0 σ ns H)(hs:∀(N:St->List Int->Hp->Prop) i p F ns H,kvs[i]?=some p->J i F ns H->(∀F ns H,J (i+1) F ns H->N F ns H)->g p.2 F H λG H4=>tb G ns H4 N)(hd:∀F ns H,J kvs.length F ns H->Q F ns H):dw (Itw a o kvs) g tb σ ns H Q:=by
 refine {λi m F ns H=>m=kvs.length-i/\i<=kvs.length/\J i F ns H,{kvs.length,'z',O9 _,U},?_};rintro i m F ys H2 ⟨rfl,hi,p⟩;have q:=ha i F ys H2 p;by_cases S:i<kvs.length
 .refine .inr {⟨q,S⟩,λx H' y=>?_};obtain ⟨e,z,hz,ex⟩:=y;subst e ex;exact hs (λG ys H=>∃O,O<kvs.length-i/\O=kvs.length-(i+1)/\i+1<=kvs.length/\J (i+1) G ys H) i z F ys _ hz p λG zs H q=>{kvs.length-(i+1),'l',rfl,S,q}
 .have e:i=kvs.length:=by lia
  subst e;exact .inl {{q,NV _},hd F ys H2 p}
theorem aK.vals{a:Addr}{o:Obj}(J:Nat->St->List V->Hp->Prop)(hz:∀i F ys H,J i F ys H->ys.length<sizeLine)(ha:∀i F ys H,J i F ys H->H a=some (.frz o (.dK kvs)))(W:J 0 F [] H)(hs:∀(N:St->List V->Hp->Prop) i p F ys H,kvs[i]?=some p->J i F ys H->(∀F ys H,J (i+1) F ys H->N F ys H)->g p.2 F H λG H4=>tt G H4 λok H5=>gg N ys G te ok H5)(hd:∀F ys H,J kvs.length F ys H->∀D H',New H D (.lst ys) H'->R (.ref D) H'):aK (Itw a o kvs) g tt te F H R:=by
 refine {λi m F ys H=>m=kvs.length-i/\i<=kvs.length/\J i F ys H,{kvs.length,'z',O9 _,W},?_};rintro i m F ys H2 ⟨rfl,hi,p⟩;refine {hz i F ys H2 p,?_};have q:=ha i F ys H2 p;by_cases S:i<kvs.length
 .refine .inr {⟨q,S⟩,λx H' y=>?_};obtain ⟨e,z,hz,ex⟩:=y;subst e ex;exact hs (λG ys H=>∃O,O<kvs.length-i/\O=kvs.length-(i+1)/\i+1<=kvs.length/\J (i+1) G ys H) i z F ys _ hz p λG zs H q=>{kvs.length-(i+1),'l',rfl,S,q}
 .have e:i=kvs.length:=by lia
  subst e;exact .inl {{q,NV _},λD U _=>hd F ys H2 p D _ (.mk' U)}
theorem La{H:Hp}(hl:W (PE (zC X sc N' Go C fp s H) l tl)):W (PIc true (zC X sc N' Go C fp s H) tg l (j4 X.K tl)):={BE (hl:=hl.h)}
end
section
variable {Y:Cx}{sc:Scope}{N':List Str}{Go:List (Addr×Obj)}{D:Addr}{fp:List Addr}{s:KE}{H:Hp}
def gSq(K:NQ)(n:Nat)(t:TGs):TG:=λv σ H Q=>∃a xs,v = .ref a/\(SqT K H a xs\/SqL K H a xs)/\xs.length=n/\t xs σ H Q
theorem LD{k:Nat}{t:TGs}(hc:Y.calm=true)(h:W (PGs (zC Y sc N' Go D fp s H) es t))(hl:(Pq es (zC Y sc N' Go D fp s H).env).length=n:=by rfl)(hst:(Pq es (zC Y sc N' Go D fp s H).env).findIdx? (·.1)=none:=by rfl):W (PG (zC Y sc N' Go D fp s H) (.Tuple es k pos) (gSq Y.K n t)):={λpins' s' σ H' v u Q I r q=>by
 obtain ⟨a,xs,rfl,h1|h1,z,q⟩:=q
 .exact Bi h.h hl hst pins' s' σ H' _ u Q I r {a,xs,rfl,h1,z,q}
 .exact DS (X:=zC Y sc N' Go D fp s H) hc h.h hl hst pins' s' σ H' _ u Q I r {a,xs,rfl,h1,z,q}}
end
section
variable {K:NQ}{g:TG}{tt:TT}{tk tv:TE}{H:Hp}{Q:VK}
theorem g8.tup{a:Addr}{xs:List V}{z:St}(G:Nat->St->List (Key×V)->Hp->Prop)(hz:∀i z ys H,G i z ys H->ys.length<sizeLine)(ha:∀i z ys H,G i z ys H->SqT K H a xs)(U:G 0 z [] H)
  (hs:∀(N:St->List (Key×V)->Hp->Prop) i x z ys H,xs[i]?=some x->G i z ys H->(∀z ys H,G (i+1) z ys H->N z ys H)->g x z H λF H4=>tt F H4 λok H5=>i4 N ys F tk tv ok H5) (hd:∀z ys H,G xs.length z ys H->∀D H',New H D (.dK ys) H'->Q (.ref D) H'):g8 (Itt K a) g tt tk tv z H Q:=by
 refine {λi m z ys H=>m=xs.length-i/\i<=xs.length/\G i z ys H,{xs.length,'z',O9 _,U},?_};rintro i m z ys H2 ⟨rfl,hi,p⟩;refine {hz i z ys H2 p,?_};have q:=ha i z ys H2 p;by_cases O:i<xs.length
 .refine .inr {{xs,xs[i],q,by simp [O]},λx H' y=>?_};obtain ⟨e,y⟩:=y;subst e;exact hs (λF ys H=>∃J,J<xs.length-i/\J=xs.length-(i+1)/\i+1<=xs.length/\G (i+1) F ys H) i x z ys _ (y xs q) p λF zs H q=>{xs.length-(i+1),'l',rfl,O,q}
 .have e:i=xs.length:=by lia
  subst e;exact .inl {{xs,q,NV _},λD S _=>hd z ys H2 p D _ (.mk' S)}
end
section
variable {X:Cx}
def vq:R2:=λx y H Q=>∃a b kvs,x = .ref a/\y = .ref b/\Rd H a (.dK kvs)/\H b=some (.dK [])/\Q (.bl (!decide (kvs=[]))) H
theorem De{a b:Addr}:vq (.ref a) (.ref b) H Q = ∃kvs,Rd H a (.dK kvs)/\H b=some (.dK [])/\Q (.bl (!decide (kvs=[]))) H:=by
 apply propext;constructor
 .rintro ⟨G,J,kvs,F,z,h⟩;cases F;cases z;exact ⟨kvs,h⟩
 .rintro ⟨kvs,h⟩;exact {a,b,kvs,rfl,rfl,h}
theorem AO(Z:X.A.units<cLine):OpR X (OV .NotEq) vq:=by
 intro Go s σ H x y v u Q I S U h;obtain ⟨a,b,kvs,rfl,rfl,ha,hb,q⟩:=h;cases S;cases U;obtain ⟨z,hd,vs,ZC,dd⟩:=bZ I.hok ha;obtain ⟨z2,G,J,F,X9⟩:=bZ I.hok (.inl hb);have O:=ZC.length;have l2:=F.length;have e2:J=[]:=OH.mp (by rw [<- l2];rfl);subst e2;refine PySem.W.keq_ne (r:=true) hd G dd X9 Z (λhl=>?_) {.bl (!decide (kvs=[])),H,I,?_,q}
 .have e1:vs=[]:=OH.mp hl;subst e1;exact .nil
 .show Qz _=Qz _;congr 1;rw [Bool.and_true];congr 1;by_cases e:kvs=[]
  .subst e;rw [<- O];rfl
  .rw [decide_eq_false e];have : ¬ vs.length=0:=λh=>e (OH.mp (by rw [O];exact h));simpa using this
def yQ:List V->Hp->VK->Prop:=λxs H Q=>∃j:Int,xs=[.int j]/\∀p H2,New H p (.rng 0 j) H2->Q (.ref p) H2
theorem Co:yQ [.int j] H Q = ∀p H2,New H p (.rng 0 j) H2->Q (.ref p) H2:=by
 apply propext;constructor
 .rintro ⟨z,e,h⟩;cases e;exact h
 .exact λh=>{j,rfl,h}
theorem Cd:zU X (.type "range") yQ:=by
 intro Go s σ H xs us Q I r h;obtain ⟨j,rfl,q⟩:=h;obtain ⟨u,rfl,z⟩:=bM r;obtain ⟨t,rfl⟩:=z;refine call_range_1 ?_;exact {.ref s.heap.objs.size,upd H s.heap.objs.size (.rng 0 j),I.laid (a:=s.heap.objs.size) (t':=s.toks+1+1) (λb o e=>NP _ e) (NV _) {_,_,_,N7 _ rfl},rfl,q _ _ (.mk' (I.hok.fresh (NV _)))}
def vW:List V->Hp->VK->Prop:=λxs H Q=>uR1 xs λr=>∃n:Nat,H r=some (.rng 0 n)/\n<=1000000/\∀p H2,New H p (.lst ((O0 n).map λ(i:Nat)=>V.int i)) H2->Q (.ref p) H2
theorem GR{r:Addr}:vW [.ref r] H Q = ∃n:Nat,H r=some (.rng 0 n)/\n<=1000000/\∀p H2,New H p (.lst ((O0 n).map λ(i:Nat)=>V.int i)) H2->Q (.ref p) H2:=fj
theorem Ej(hc:X.calm=true):zU X (.type "list") vW:=by
 intro Go s σ H xs us Q I r h;obtain ⟨a,rfl,n,ha,F,q⟩:=h;obtain ⟨u,rfl,W⟩:=bM r;cases W;obtain ⟨t,u,v,e⟩:=I.hok a _ ha;refine call_list_range (n:=n) (I.ok.hd hc) e ?_ ?_ (Ol F 'd') λh' tk J Z O U z=>?_
 .exact small_one 'l' 'l' 'l' 'l'
 .rw [rangeSize_one];split<;>lia
 have hl:J.toList.length=n:=by rw [Pl];exact z.1
 refine {.ref s.heap.objs.size,upd H s.heap.objs.size (.lst ((O0 n).map λ(i:Nat)=>V.int i)),I.laid (a:=s.heap.objs.size) (t':=tk) O (NV _) {by rw [NO,Re];exact Ol F 'd',J.toList,Z,oP ?_ λj u G=>?_,by rw [RA];exact U},rfl,q _ _ (.mk' (I.hok.fresh (NV _)))}
 .rw [NO,Re,hl]
 .obtain ⟨t',rfl⟩:=z.2 j u (by rw [<- O3];exact G);have S:j<n:=by rw [<- hl];exact (NU.mp G).1
  refine {V.int j,by rw [Oe,List.getElem?_range S];rfl,t',?_};congr 1;lia
def EqR(H:Hp)(x y:V)(b:Bool):Prop:=∃p q zs ws,x = .ref p/\y = .ref q/\H p=some (.tup zs)/\H q=some (.tup ws)/\zs.all ae=true/\ws.all ae=true/\b=eqL zs ws
theorem EqR.at{b:Bool}(I:Inv X Go σ H s)(h:EqR H x y b)(rx:zm x u)(ry:zm y v)(hu:A.units<cLine):SeqAt.EqAt A s u v b:=by
 obtain ⟨p,q,xs,ys,rfl,rfl,ha,hb,J,fy,rfl⟩:=h;cases rx;cases ry;by_cases G:p=q
 .subst G;rw [ha] at hb;cases hb;rw [qh J λx hx b e=>by have:=Ot.mp J x hx;rw [e] at this;cases this];exact SeqAt.EqAt.same _
 obtain ⟨is,r1,p1,_⟩:=I.tuple (SqT.of (K:=X.K) ha);obtain ⟨F,r2,p2,_⟩:=I.tuple (SqT.of (K:=X.K) hb);have l1:=r1.length;have l2:=r2.length;have z:=SeqAt.RcAt.tuples (A:=A) (e:=λj=>eqV (xs.getD j .non) (ys.getD j .non)) p1 p2 hu λj h1 h2=>by
  simp only [Oa] at h1 h2;have S:xs[j]?=some (xs.getD j .non):=by rw [Oq,NL 'l'];rfl
  have U:ys[j]?=some (ys.getD j .non):=by rw [Oq,NL 'l'];rfl
  obtain ⟨u,W,q1⟩:=r1.get S;obtain ⟨v,O,q2⟩:=r2.get U;rw [NL h1] at W;rw [NL h2] at O;have Z:is.toArray[j]=u:=by simpa using OG.inj W
  have w2:F.toArray[j]=v:=by simpa using OG.inj O
  rw [Z,w2];exact rp q1 q2 (Ot.mp J _ (OS S)) (Ot.mp fy _ (OS U))
 have e:eqL xs ys=((O0 (min is.toArray.size F.toArray.size)).all (λj=>eqV (xs.getD j .non) (ys.getD j .non))&&is.toArray.size==F.toArray.size):=by
  unfold eqL;simp only [Oa];rw [l1,l2];by_cases hz:is.length=F.length
  .rw [hz];simp
  .have z:(is.length==F.length)=false:=by simpa using hz
   rw [z,Sz,Tw]
 rw [e];exact .of_refs G z
def yU(neg:Bool):R2:=λx y H Q=>∃a b xs ys,x = .ref a/\y = .ref b/\H a=some (.lst xs)/\H b=some (.lst ys)/\((xs.length≠ys.length/\Q (.bl neg) H)\/(xs.length=ys.length/\∃e:Nat->Bool,(∀j p q,xs[j]?=some p->ys[j]?=some q->EqR H p q (e j))/\Q (.bl (if neg then !(O0 xs.length).all e else (O0 xs.length).all e)) H))
theorem Mi{a b:Addr}:yU neg (.ref a) (.ref b) H Q = ∃xs ys,H a=some (.lst xs)/\H b=some (.lst ys)/\((xs.length≠ys.length/\Q (.bl neg) H)\/(xs.length=ys.length/\∃e:Nat->Bool,(∀j p q,xs[j]?=some p->ys[j]?=some q->EqR H p q (e j))/\Q (.bl (if neg then !(O0 xs.length).all e else (O0 xs.length).all e)) H)):=by
 apply propext;constructor
 .rintro ⟨G,J,xs,ys,F,z,h⟩;cases F;cases z;exact ⟨xs,ys,h⟩
 .rintro ⟨xs,ys,h⟩;exact {a,b,xs,ys,rfl,rfl,h}
theorem LU{e:Nat->Bool}(I:Inv X Go σ H s)(r1:zq xs is)(r2:zq ys z)(U:A.units<cLine)(h:∀j p q,xs[j]?=some p->ys[j]?=some q->EqR H p q (e j))(j:Nat)(h1:j<is.toArray.size)(h2:j<z.toArray.size):SeqAt.EqAt A s is.toArray[j] z.toArray[j] (e j):=by
 have l1:=r1.length;have l2:=r2.length;simp only [Oa] at h1 h2;have G:xs[j]?=some (xs[j]''l'):=NL _;have J:ys[j]?=some (ys[j]''l'):=NL _;obtain ⟨u,O,q1⟩:=r1.get G;obtain ⟨v,F,S⟩:=r2.get J;rw [NL h1] at O;rw [NL h2] at F;have Z:is.toArray[j]=u:=by simpa using OG.inj O
 have W:z.toArray[j]=v:=by simpa using OG.inj F
 rw [Z,W];exact (h j _ _ G J).at I q1 S U
theorem BA(z:X.A.units+1<cLine):OpR X (OV .Eq) (yU false):=by
 intro Go s σ H x y v u Q I G O h;obtain ⟨a,b,xs,ys,rfl,rfl,ha,hb,h⟩:=h;cases G;cases O;obtain ⟨is,r1,F,_⟩:=I.list (SqL.of (K:=X.K) ha);obtain ⟨S,r2,p2,_⟩:=I.list (SqL.of (K:=X.K) hb);have J:=r1.length;have U:=r2.length;rcases h with ⟨ne,q⟩|⟨hl,e,he,q⟩
 .exact SeqAt.eq_list_lengthsAt F.isList p2.isList (by simp;lia) (Oy z) {.bl false,H,I,rfl,q}
 .refine SeqAt.eq_listAt (e:=e) F.isList p2.isList (by simp;lia) (Oy z) (λj h1 h2=>LU I r1 r2 (OB (by first|exact NV _|exact SK _|simp [Of.in1]) z) he j h1 h2) {.bl _,H,I,rfl,?_};simp only [Oa];rw [<- J];exact q
end
theorem DY{α β:Type}{f:α->β}{a:α}{l:List α}:(a::l).map f=f a::l.map f:=rfl
theorem DR{α β:Type}{f:α->β}:([]:List α).map f=[]:=rfl
theorem KD:(!true)=false:=rfl
theorem Lb:(!false)=true:=rfl
theorem fsc(a:sc.kind = .function:=by rfl)(b:sc.isCoroutine=false:=by rfl)(c:sc.isGenerator=false:=by rfl)(d:N.Nodup:=by decide +kernel)(e:N.take P.length=P:=by rfl)(f:∀x∈P,sc.names.lookup x=some .local\/sc.names.lookup x=some .cell:=by decide +kernel)(g:∀y∈sc.names,y.2≠.free:=by decide +kernel):zy N P sc:=⟨a,b,c,d,e,f,g⟩
abbrev FnM(K:NQ)(x:Str)(st:Stmt):Prop:=∃f fd,Qo K N3 x=some (some (.ref f))/\Fun K x x st f fd
abbrev au(K:NQ)(C:Addr)(m q:Str)(st:Stmt):Prop:=∃f fd,PC K (.ref C) m=some (some (.ref f))/\isFn K (.ref f)=true/\Fun K m q st f fd
theorem u1{α:Type}{p:List α->Prop}(h:∀a,p [a]):∀us,us.length=1->p us
 | [a],_=>h a
theorem u2{α:Type}{p:List α->Prop}(h:∀a b,p [a,b]):∀us,us.length=2->p us
 | [a,b],_=>h a b
theorem u3{α:Type}{p:List α->Prop}(h:∀a b c,p [a,b,c]):∀us,us.length=3->p us
 | [a,b,c],_=>h a b c
theorem u4{α:Type}{p:List α->Prop}(h:∀a b c d,p [a,b,c,d]):∀us,us.length=4->p us
 | [a,b,c,d],_=>h a b c d
theorem u5{α:Type}{p:List α->Prop}(h:∀a b c d e,p [a,b,c,d,e]):∀us,us.length=5->p us
 | [a,b,c,d,e],_=>h a b c d e
section
variable {w:Oc}{K:NQ}{mg:Str->Option Value}{h:Heap}{k:Nat}{x q:Str}{C:Addr}{ps:List Str}{sp:Sp}{st:Stmt} (P:NW) (base:Heap) (cm:Bool)
abbrev BdA(x q:Str)(st:Stmt)(ps:List Str):Prop:=∀(kV J F:Value)(z:Option Addr)(G ct:Value)(us:List Value),us.length=ps.length->bindArgs (fnOf x q (qC st) (gH st) (zl st) .none kV J F z G ct) {us,[]}=pure (ps.zip us)
theorem gf(X:K.In h)(G:h.Ns N3 mg)(m:FnM K x st)(o:∀f fd,Fun K x x st f fd->zp P w K mg base CX0 cm k f fd ps sp)(b:BdA x x st ps):GF P w K mg base cm k x ps sp:=let ⟨f,fd,a,F⟩:=m;{f,fd,o f fd F,Qp X G a,F.kp,F.binds b}
theorem gx(X:K.In h)(G:h.Ns N3 mg)(m:FnM K x st)(o:∀f fd,Fun K x x st f fd->zp P w K mg base (CXW P w) cm k f fd ps sp)(b:BdA x x st ps):GX P w K mg base cm k x ps sp:=let ⟨f,fd,a,F⟩:=m;{f,fd,o f fd F,Qp X G a,F.kp,F.binds b}
theorem gm(m:au K C x q st)(o:∀f fd,Fun K x q st f fd->zp P w K mg base CX0 cm k f fd ps sp)(b:BdA x q st ps):GM P w K mg base cm k C x ps sp:=let ⟨f,fd,a,i,F⟩:=m;{f,fd,o f fd F,⟨a,i,F.kp⟩,F.binds b}
theorem gmx(m:au K C x q st)(o:∀f fd,Fun K x q st f fd->zp P w K mg base (CXW P w) cm k f fd ps sp)(b:BdA x q st ps):GMX P w K mg base cm k C x ps sp:=let ⟨f,fd,a,i,F⟩:=m;{f,fd,o f fd F,⟨a,i,F.kp⟩,F.binds b}
theorem gc(X:K.In h)(G:h.Ns N3 mg)(c:Qo K N3 x=some (some (.ref C)))(mk:makesIn K C=true)(z:SO K (.ref C)=true)(m:au K C Wn q st)(o:∀f fd,Fun K Wn q st f fd->zp P w K mg base CX0 cm k f fd ps sp)(b:BdA Wn q st ps):GC P w K mg base cm k x C ps sp:=let ⟨f,fd,a,i,F⟩:=m;{f,fd,o f fd F,Qp X G c,⟨mk,a,i,z⟩,F.binds b}
end
def gw(i:Nat):TE:=λσ H Q=>match σ[i]? with|some (some v)=>Q v H|_=>False
def rID(C:Int->Int->Prop)(g:Int->Int->V):R2:=λx y H Q=>match x,y with | .int i,.int j=>C i j/\Q (g i j) H|_,_=>False
def vf(g:Int->Int->V):R2:=λx y H Q=>match x,y with | .int i,.int j=>Q (g i j) H|_,_=>False
section
variable {X:Cx}{f:Value->Value->Sem Value}{C:Int->Int->Prop}{g:Int->Int->V}
theorem pvD(i:Nat)(hN:X.N[i]?=some x:=by rfl)(hv:Vis X.env.scope x:=by first|exact NZ rfl|exact Si (NZ rfl)|exact Si (Si rfl))(hd:(x==("__debug__":Str))=false:=by decide)(hcd:(x==("__classdict__":Str))=false:=by decide):PE X (.Name x pos) (gw i):=λGo s σ H Q I h=>pv i hN hv hd hcd Go s σ H Q I (by
 unfold gw at h;split at h
 .exact {_,by assumption,h}
 .exact h.elim)
theorem zb(i:Nat)(hN:X.N[i]?=some x:=by rfl)(hv:Vis X.env.scope x:=by first|exact NZ rfl|exact Si (NZ rfl)|exact Si (Si rfl))(hd:(x==("__debug__":Str))=false:=by decide)(hcd:(x==("__classdict__":Str))=false:=by decide):W (PE X (.Name x pos) (gw i)):={pvD i hN hv hd hcd}
theorem oI(h:OpR X f (rI C g)):OpR X f (rID C g):=h.weak λx y H Q q=>by
 cases x<;>cases y<;>first|exact q.elim|exact {_,_,rfl,rfl,q}
theorem oI0(h:OpR X f (rI0 g)):OpR X f (vf g):=h.weak λx y H Q q=>by
 cases x<;>cases y<;>first|exact q.elim|exact {_,_,rfl,rfl,q}
end
section
variable {i j:Int}{H:Hp}{Q:VK}{C:Int->Int->Prop}{g:Int->Int->V}
theorem Md:rID C g (.int i) (.int j) H Q=(C i j/\Q (g i j) H):=rfl
theorem BW:vf g (.int i) (.int j) H Q=Q (g i j) H:=rfl
end
abbrev clT(t:TE):TE:=λσ H Q=>∃R:VK,t σ H R/\∀v H,R v H->Q v H
abbrev clR(r:R2):R2:=λx y H Q=>∃R:VK,r x y H R/\∀v H,R v H->Q v H
abbrev clA(t:TA):TA:=λσ H Q=>∃R:List V->Hp->Prop,t σ H R/\∀v H,R v H->Q v H
def bD(v:V)(q:Bool->Prop):Prop:=match v with | .bl c=>q c|_=>False
def aD(v:V)(q:Addr->Prop):Prop:=match v with | .ref a=>q a|_=>False
theorem B9:bD (.bl c) q=q c:=rfl
theorem JO{a:Addr}:aD (.ref a) q=q a:=rfl
theorem bD.ex(h:bD v q):∃c,v = .bl c/\q c:=by
 cases v<;>first|exact {_,rfl,h}|exact h.elim
theorem aD.ex(h:aD v q):∃a,v = .ref a/\q a:=by
 cases v<;>first|exact {_,rfl,h}|exact h.elim
def rK(t:TE):TT:=λσ H Q=>t σ H λx H1=>bD x λc=>Q c H1
def x5(ta tb:TE):TE:=λσ H Q=>ta σ H λx H1=>bD x λc=>if c=true then tb σ H1 Q else Q (.bl false) H1
def si(C:Addr)(m:Str)(sp:Sp)(E:XK)(ta:TE)(t:TA):TE:=λσ H Q=>ta σ H λx H1=>aD x λa=>∃dx fs,H1 a=some (.ins C dx fs)/\fs.lookup m=none/\t σ H1 λvs H2=>sp (.ref a::vs) H2 Q E
def vJ(C:Addr)(m:Str)(sp:Sp)(Ex:Addr->St->Hp->Prop)(ta:TE)(t:TA):TE:=λσ H Q=>ta σ H λx H1=>aD x λa=>∃dx fs,H1 a=some (.ins C dx fs)/\fs.lookup m=none/\t σ H1 λvs H2=>sp (.ref a::vs) H2 Q (XE Ex σ)
def tW(sp:Sp)(E:XK)(t:TA):TE:=λσ H Q=>t σ H λvs H1=>sp vs H1 Q E
def xN(sp:Sp)(Ex:Addr->St->Hp->Prop)(t:TA):TE:=λσ H Q=>t σ H λvs H1=>sp vs H1 Q (XE Ex σ)
def yo(C:Addr)(ta:TE)(f:Str):TE:=λσ H Q=>ta σ H λx H1=>aD x λa=>∃dx fs v,H1 a=some (.ins C dx fs)/\fs.lookup f=some v/\Q v H1
def yh(C:Addr)(ta tv:TE)(f:Str):TS:=λD σ H=>tv σ H λy H1=>ta σ H1 λx H2=>aD x λa=>∃dx fs,H2 a=some (.ins C dx fs)/\fs.length<1000/\D.nx σ (upd H2 a (.ins C dx (z6 f y fs)))
def xZ(K:NQ)(tl:TE):TI:=λσ H R=>tl σ H λx H1=>aD x λa=>(∃xs,SqL K H1 a xs)/\R (Itl K a) H1
def xI(t:TG)(u:TGs):TGs:=λvs σ H Q=>match vs with|v::r=>t v σ H λz H'=>u r z H' Q|[]=>False
theorem Ek{t:TG}{r:List V}:xI t u (v::r) σ H Q=t v σ H λz H'=>u r z H' Q:=rfl
def sE:R2:=λx y H Q=>match x,y with
 | .ref a,.int i=>∃xs,(H a=some (.lst xs)\/H a=some (.tup xs))/\∃v,atI xs i=some v/\Q v H
 | .str x,.int i=>x.length<=sizeLine/\∃c,atI x.cps.toList i=some c/\Q (.str {#[c]}) H
 | _,_=>False
def nK:List V->Hp->VK->Prop:=λxs H Q=>match xs with
 | [.ref a]=>∃ys,(H a=some (.lst ys)\/H a=some (.tup ys))/\Q (.int ys.length) H
 | [.str x]=>x.length<=sizeLine/\Q (.int x.length) H
 | _=>False
def hZ(c:Bool):R2:=λx y H Q=>match x,y with
 | .int i,.int j=>Q (.bl (if c then !decide (i=j) else decide (i=j))) H
 | .str i,.str j=>Q (.bl (if c then !decide (i=j) else decide (i=j))) H
 | .bl i,.bl j=>Q (.bl (if c then !decide (i=j) else decide (i=j))) H
 | .ref a,.ref b=>∃xs ys,H a=some (.lst xs)/\H b=some (.lst ys)/\xs.all ae=true/\ys.all ae=true/\Q (.bl (if c then !eqL xs ys else eqL xs ys)) H
 | _,_=>False
def ij:R2:=λx y H Q=>match x,y with
 | .int i,.int j=>Q (.int (i+j)) H
 | .str x,.str y=>x.length+y.length<=sizeLine/\Q (.str (x++y)) H
 | .ref a,.ref b=>∃xs zs,H a=some (.lst xs)/\H b=some (.lst zs)/\xs.length+zs.length<=sizeLine/\∀p H2,New H p (.lst (xs++zs)) H2->Q (.ref p) H2
 | _,_=>False
section
variable {H:Hp}{Q:VK}{i j:Int}{x y:Str}{a b:Addr}{k k' c:Bool}
theorem By:sE (.ref a) (.int i) H Q = ∃xs,(H a=some (.lst xs)\/H a=some (.tup xs))/\∃v,atI xs i=some v/\Q v H:=rfl
theorem Gc:sE (.str x) (.int i) H Q=(x.length<=sizeLine/\∃c,atI x.cps.toList i=some c/\Q (.str {#[c]}) H):=rfl
theorem LI:nK [.ref a] H Q = ∃ys,(H a=some (.lst ys)\/H a=some (.tup ys))/\Q (.int ys.length) H:=rfl
theorem DN:nK [.str x] H Q=(x.length<=sizeLine/\Q (.int x.length) H):=rfl
theorem G5:hZ c (.int i) (.int j) H Q=Q (.bl (if c then !decide (i=j) else decide (i=j))) H:=rfl
theorem Dt:hZ c (.str x) (.str y) H Q=Q (.bl (if c then !decide (x=y) else decide (x=y))) H:=rfl
theorem MG:hZ c (.bl k) (.bl k') H Q=Q (.bl (if c then !decide (k=k') else decide (k=k'))) H:=rfl
theorem uZ:hZ c (.ref a) (.ref b) H Q = ∃xs ys,H a=some (.lst xs)/\H b=some (.lst ys)/\xs.all ae=true/\ys.all ae=true/\Q (.bl (if c then !eqL xs ys else eqL xs ys)) H:=rfl
theorem FM:ij (.int i) (.int j) H Q=Q (.int (i+j)) H:=rfl
theorem Ga:ij (.str x) (.str y) H Q=(x.length+y.length<=sizeLine/\Q (.str (x++y)) H):=rfl
theorem Dv:ij (.ref a) (.ref b) H Q = ∃xs zs,H a=some (.lst xs)/\H b=some (.lst zs)/\xs.length+zs.length<=sizeLine/\∀p H2,New H p (.lst (xs++zs)) H2->Q (.ref p) H2:=rfl
end
section
variable {X:Cx}{e:Og}{es:List Og}{st:Stmt}{t ta tb tv:TE}{tA:TA}{r:R2}{f:Value->Value->Sem Value}{C:Addr}{m:Str}{sp:Sp}{E:XK}{Ex:Addr->St->Hp->Prop}{c:Bool}
theorem clE(h:W (PE X e t)):W (PE X e (clT t)):={λGo s σ H Q I=>x3e λR q hw=>thn (h.h Go s σ H R I q) λ_ _=>x5e λv H' a b c=>{v,H',a,b,hw _ _ c}}
theorem clO(h:OpR X f r):OpR X f (clR r):=λGo s σ H x y v u Q I z F=>x3e λR q hw=>thn (h Go s σ H x y v u R I z F q) λ_ _=>x5e λv H' a b c=>{v,H',a,b,hw _ _ c}
theorem clP(h:W (PA X es tA)):W (PA X es (clA tA)):=⟨h.h.any⟩
theorem peD(h:W (PE X e t))(w:∀σ H Q,t' σ H Q->t σ H Q):W (PE X e t'):={λGo s σ H Q I q=>h.h Go s σ H Q I (w σ H Q q)}
theorem tD(h:W (PT X e (mO (tOp (clR r) (clT ta) (clT tb))))):W (PT X e (rK (tOp r ta tb))):={λGo s σ H Q I q=>h.h Go s σ H Q I {_,q,λx H1 q1=>{_,q1,λy H2 G=>{_,G,λz H3 F=>F.ex}}}}
theorem anD(h:W (PE X e (nX (clT ta) tb))):W (PE X e (x5 ta tb)):=peD h λσ H Q q=>{_,q,λx H1 q1=>q1.ex}
theorem mD(h:W (PE X e (fY C m sp [] E (clT ta) (clA tA)))):W (PE X e (si C m sp E ta tA)):=peD h λσ H Q q=>{_,q,λx H1 q1=>by
 obtain ⟨a,rfl,dx,fs,h1,h2,F⟩:=q1.ex;exact {a,dx,fs,rfl,h1,h2,_,F,λvs H2 z=>by dsimp only;rw [Pr];exact z}}
theorem m0D(h:W (PE X e (fY C m sp [] E (clT ta) cK))):W (PE X e (si C m sp E ta cK)):=peD h λσ H Q q=>{_,q,λx H1 q1=>by
 obtain ⟨a,rfl,dx,fs,h1,h2,z⟩:=q1.ex;exact {a,dx,fs,rfl,h1,h2,z}}
theorem cw(h:W (PE X e (jO C m sp [] Ex (clT ta) cK))):W (PE X e (vJ C m sp Ex ta cK)):=peD h λσ H Q q=>{_,q,λx H1 q1=>by
 obtain ⟨a,rfl,dx,fs,h1,h2,z⟩:=q1.ex;exact {a,dx,fs,rfl,h1,h2,z}}
theorem caD(h:W (PE X e (mz sp [] E (clA tA)))):W (PE X e (tW sp E tA)):=peD h λσ H Q q=>{_,q,λvs H2 z=>by dsimp only;rw [Pr];exact z}
theorem cXD(h:W (PE X e (lQ sp [] Ex (clA tA)))):W (PE X e (xN sp Ex tA)):=peD h λσ H Q q=>{_,q,λvs H2 z=>by dsimp only;rw [Pr];exact z}
theorem fD(h:W (PE X e (kA C (clT ta) m))):W (PE X e (yo C ta m)):=peD h λσ H Q q=>{_,q,λx H1 q1=>by
 obtain ⟨a,rfl,dx,fs,v,z⟩:=q1.ex;exact {a,dx,fs,v,rfl,z}}
theorem sfD(h:W (PS X st (mT C (clT ta) (clT tv) m))):W (PS X st (yh C ta tv m)):={λGo s σ H D I q=>h.h Go s σ H D I {_,q,λy H1 q1=>{_,q1,λx H2 F=>by
 obtain ⟨a,rfl,dx,fs,z⟩:=F.ex;exact {a,dx,fs,rfl,z}}}}
theorem liD(h:W (PIc c X tg e (qm X.K (clT ta)))):W (PIc c X tg e (xZ X.K ta)):={λGo s σ H R I q=>h.h Go s σ H R I {_,q,λx H1 q1=>q1.ex}}
theorem gsD(h:W (PGs X ts (iu g u))):W (PGs X ts (xI g u)):={λGo s σ H vs us Q I z q=>h.h Go s σ H vs us Q I z (by cases vs with|nil=>exact q.elim|cons v r=>exact {v,r,rfl,q})}
theorem hU:IxR X sE:=dz.weak λx y H Q h=>by
 cases x<;>cases y<;>first|exact h.elim|skip
 .rename_i a i;exact (pN (x:=a) (i:=i)).mpr h
 .rename_i a i;exact (kF (a:=a) (i:=i)).mpr h
theorem dG:zU X (.builtin "len") nK:=fh.weak λxs H Q h=>by
 match xs,h with
 | [.ref a],h=>exact (qU (a:=a)).mpr h
 | [.str x],h=>exact (AX (x:=x)).mpr h
theorem oE{f:Value->Value->Sem Value}(h:OpR X f (uEq c)):OpR X f (hZ c):=h.weak λx y H Q h=>by
 cases x<;>cases y<;>first|exact h.elim|exact Bb.mpr h|exact Au.mpr h|exact vy.mpr h|exact xC.mpr h
theorem bh:OpR X (PQ .Add) ij:=cx.weak λx y H Q h=>by
 cases x<;>cases y<;>first|exact h.elim|exact AU.mpr h|exact yb.mpr h|exact j7.mpr h
end
end L2
namespace HT
open PySem PyProof.Rows
end HT
namespace L2
open PySem PySem.Spec PyProof.Rows
section
variable {P:NW}{w:Oc}{K:NQ}{mg:Str->Option Value}{base:Heap}{x qual:Str}{st:Stmt}{f:Addr}{fd:N4}{N ps:List Str}{cm:Bool}{k:Nat}{sp:Sp}
theorem Fun.o(F:Fun K x qual st f fd)(S:zy N ps (zl st))
  (hb:∀(z:Value)(A:Of)(outer:List Env)(s:KE)(H:Hp)(vs:List V)(Q:VK)(E:XK),zX cm k (A.deeper (Q8 qual (zl st) s.heap.objs.size f z))->sp vs H Q E ->
   ∃t,PSs (c8 CX0 cm P w K mg base N qual (zl st) f z A outer s H E).bU (gH st) t/\t { nx:=λ_ H'=>Q .non H',rt:=Q } (start N vs) H)
  (len:∀vs H Q E,sp vs H Q E->vs.length=ps.length:=by intro _ _ _ _ h;repeat (first|(obtain ⟨rfl,_⟩:=h;rfl)|(obtain ⟨_,h⟩:=h))):zp P w K mg base CX0 cm (k+1) f fd ps sp:=F.ok S len hb
theorem Fun.oW(F:Fun K x qual st f fd)(S:zy N ps (zl st))
  (hb:∀(z:Value)(A:Of)(outer:List Env)(s:KE)(H:Hp)(vs:List V)(Q:VK)(E:XK),zX cm k (A.deeper (Q8 qual (zl st) s.heap.objs.size f z))->sp vs H Q E ->
   ∃t,PSs (c8 (CXW P w) cm P w K mg base N qual (zl st) f z A outer s H E) (gH st) t/\t { nx:=λ_ H'=>Q .non H',rt:=Q } (start N vs) H)
  (len:∀vs H Q E,sp vs H Q E->vs.length=ps.length:=by intro _ _ _ _ h;repeat (first|(obtain ⟨rfl,_⟩:=h;rfl)|(obtain ⟨_,h⟩:=h))):zp P w K mg base (CXW P w) cm (k+1) f fd ps sp:=F.cv S len hb
end
section
variable {X:Cx}
def rh:List V->Hp->VK->Prop:=λxs H Q=>∃(l:Addr)(ks:List Int),xs=[.ref l]/\H l=some (.lst (ks.map V.int))/\Q (.int ks.sum) H
theorem CB:rh [.ref l] H Q = ∃ks:List Int,H l=some (.lst (ks.map V.int))/\Q (.int ks.sum) H:=by
 unfold rh;apply propext;constructor
 .rintro ⟨l',ks,e,h⟩;injection e with e _
  injection e with e
  subst e;exact ⟨ks,h⟩
 .rintro ⟨ks,h⟩;exact {l,ks,rfl,h}
theorem v5:∀{ks:List Int}{z:List Value},zq (ks.map V.int) z->QP z ks
 | [],z,r=>by cases r;exact .nil
 | k::ks,z,r=>by
  cases r with
  | cons r F=>obtain ⟨t,rfl⟩:=r;exact .cons _ _ (v5 F)
theorem Kj(hc:X.calm=true):zU X (.builtin "sum") rh:=by
 intro Go s σ H xs us Q I r h;obtain ⟨l,ks,rfl,hl,q⟩:=h;obtain ⟨u,rfl,F⟩:=bM r;cases F;obtain ⟨G,O,p,hz⟩:=I.list (SqL.of (K:=X.K) hl);have hi:=v5 O;obtain ⟨xs,hx⟩:=hi.allInts.items;refine sum_intListG (xs:=xs) (I.ok.hd hc) (hx ▸ p.isList) λh' tk t' z=>{.int ks.sum,H,I.kept z,{t',?_},q};have J:ks=xs.toList.map (·.1):=by
  rw [<- nums_intItems,<- hx];exact (show numsOf G.toArray.toList=ks from hi.numsOf).symm
 have S:preSum (numAt xs) xs.size=ks.sum:=by
  rw [preSum_eq,Ob 'z',J]
 rw [S]
end
section
variable {K:NQ}{g:TG}{tt:TT}{te:TE}{H:Hp}{Q:VK}
theorem aK.aP{k:Nat}(J:Nat->St->List V->Hp->Prop)(hz:∀i F ys H,J i F ys H->ys.length<sizeLine)(Z:J 0 F [] H)(hs:∀(N:St->List V->Hp->Prop) i c p F ys H,z.cps[i]?=some c->J i F ys H->H p=none->(∀F ys H,J (i+1) F ys H->N F ys H)->g (.ref p) F (upd H p (.tup [.int ((i+k:Nat):Int),.str {#[c]}])) λG H4=>tt G H4 λok H5=>gg N ys G te ok H5)(hd:∀F ys H,J z.cps.size F ys H->∀D H',New H D (.lst ys) H'->Q (.ref D) H'):aK (gX z k) g tt te F H Q:=by
 refine {λi m F ys H=>m=z.cps.size-i/\i<=z.cps.size/\J i F ys H,{z.cps.size,'z',O9 _,Z},?_};rintro i m F ys H2 ⟨rfl,hi,p⟩;refine {hz i F ys H2 p,?_};by_cases S:i<z.cps.size
 .refine .inr {S,λx H' y=>?_};obtain ⟨T,c,W,rfl,hc,rfl⟩:=y;exact hs (λG ys H=>∃O,O<z.cps.size-i/\O=z.cps.size-(i+1)/\i+1<=z.cps.size/\J (i+1) G ys H) i c T F ys _ hc p W λG zs H q=>{z.cps.size-(i+1),'l',rfl,S,q}
 .have e:i=z.cps.size:=by lia
  subst e;exact .inl {rfl,λD U _=>hd F ys H2 p D _ (.mk' U)}
end
section
variable {prog:NW}{w:Oc}{A:Of}{E:Value->KE->Prop}{s:KE}{env:Env}
variable {nm q:Str}{C N:Addr}{bs bm bmB:List Value}{hdct:Bool}{sn:List Str}{sub:List Value}{ab:Bool}{col:Option Bool}{dd:Option Addr}{k0 k1 k2 k3 k5:Option Value}{B newId initId:String}
def qL(A:Of)(z:Heap)(e:Addr)(h h':Heap):Prop:=h'=h\/∃a n,A.handled=some (.ref a)/\bE z n a/\h'=h.update e (Rc (·.setIfInBounds 2 (.ref a)))
theorem EJ{α:Type}{Q:α->KE->Prop}(G:Hnd A F)(kp:∀b o,(∃C,o.cls = .ref C)->F.get? b=some o->s.heap.get? b=some o)(J:F.get? e=none)(he:s.heap.get? e=some oe)(hd:oe.data = .fields ws)(hz:2<ws.size)(k:∀h',qL A F e s.heap h'->E (.ref e) { s with heap:=h' }):N2 (N5 prog w) A (R0 (.ref e):Sem α) Q E s:=by
 unfold R0;refine we (wpAny_handled ?_);rcases G with G|⟨a,n,h1,h2⟩
 .rw [G];exact we (NN (SD (k s.heap (.inl rfl))))
 .rw [h1];have ne:∀n b,bE F n b->b≠e:=λn b x z=>by
   obtain ⟨o,C,g,c⟩:=x.cls;rw [z,J] at g;cases g
  dsimp only;rw [if_pos (show (N6 a != N6 e)=true by simpa using ne _ _ h2)];refine we (On (wpAny_runValue (wK kp ne h2 h2 (NV _) ?_)));refine we ?_;show N2 _ _ (Q1 (.ref e) 2 (.ref a)) _ _ _;exact O5 he hd hz (SD (k _ (.inr {a,n,h1,h2,rfl})))
theorem nP(J:bm.contains (.type "BaseException")=true)(h:N2 (N5 prog w) A x (λv s₁=>∃e t z,v = .ref e/\Hnd A z/\(∀b o,(∃C,o.cls = .ref C)->z.get? b=some o->s₁.heap.get? b=some o)/\z.get? e=none/\s₁.heap.get? C=some (excClassObj nm q C N bs bm hdct sn sub ab col dd k0 k1 k2 k3 k5 newId) /\
   s₁.heap.get? e=some { cls:=.ref C,data:=.fields #[.ref t,.none,.none,.none,.bool false,.none] }/\∀h',qL A z e s₁.heap h'->E (.ref e) { s₁ with heap:=h' }) E s):
  N2 (N5 prog w) A (raiseStmt env (some x) none) Q E s:=by
 have F:(N6 C::bm).contains (.type "BaseException")=true:=by rw [List.contains_cons,J,Bool.or_true]
 unfold raiseStmt;refine we (Ow h (λv s₁ h₁=>?_) λ_ _ x=>x);obtain ⟨e,t,z,rfl,U,kp,O,G,he,S⟩:=h₁;obtain ⟨hp,g,d,tk,os⟩:=s₁
 repeat (first|with_reducible refine Ry he ?_|with_reducible refine Ry G ?_|(with_reducible refine Sk G ?_;rw [F])|wp_step)
 exact EJ U kp O he rfl 'z' S
theorem EN(F:ExcBaseFacts B newId initId bmB)(Z:bm.contains (.type "BaseException")=true)(X0:(P0 cpos (Om args env)).any (·.1)=false)(U:mN Wn=none)(h:N2 (N5 prog w) A (Pa (.Name x np) env) (λf s₁=>f = .ref C/\N2 (N5 prog w) A (evalArgs (.ref C) true (P0 cpos (Om args env)) [])
   (λa G=>a.kw=[]/\a.pos.length<=sizeLine/\Hnd A G.heap/\G.heap.get? C=some (excClassObj nm q C N bs bm hdct sn sub ab col dd k0 k1 k2 k3 k5 newId)/\G.heap.Ns N mN/\OwnTail G.heap bmB bm /\
    ∀h' e,Heap.MadeExcOf G.heap h' e (.ref C) a.pos->∀S,qL A G.heap e h' S->E (.ref e) { G with heap:=S }) E s₁) E s):
  N2 (N5 prog w) A (exec (.Raise (some (.Call (.Name x np) args [] cpos)) none pos) env) Q E s:=by
 rw [arm_exec_Raise]
 first
  | refine we (OX (nP (C:=C) (nm:=nm) (q:=q) (N:=N) (bs:=bs) (bm:=bm) (hdct:=hdct) (sn:=sn) (sub:=sub) (ab:=ab) (col:=col) (dd:=dd) (k0:=k0) (k1:=k1) (k2:=k2) (k3:=k3) (k5:=k5) (newId:=newId) Z (we (Ow (SG (Ow h (λf s₁ h₁=>?_) λ_ _ x=>x)) (λv s₃ J=>we (OX (NN J))) λ_ _ x=>x))))
  | (simp only [evalOpt,Option.map];refine we (OX (nP (C:=C) (nm:=nm) (q:=q) (N:=N) (bs:=bs) (bm:=bm) (hdct:=hdct) (sn:=sn) (sub:=sub) (ab:=ab) (col:=col) (dd:=dd) (k0:=k0) (k1:=k1) (k2:=k2) (k3:=k3) (k5:=k5) (newId:=newId) Z (we (Ow (SG (Ow h (λf s₁ h₁=>?_) λ_ _ x=>x)) (λv s₃ J=>we (OX (NN J))) λ_ _ x=>x)))))
  | (refine we (OX (nP (C:=C) (nm:=nm) (q:=q) (N:=N) (bs:=bs) (bm:=bm) (hdct:=hdct) (sn:=sn) (sub:=sub) (ab:=ab) (col:=col) (dd:=dd) (k0:=k0) (k1:=k1) (k2:=k2) (k3:=k3) (k5:=k5) (newId:=newId) Z ?_));refine we (Ow (SG (Ow h (λf s₁ h₁=>?_) λ_ _ x=>x)) (λv s₃ J=>we (OX (NN J))) λ_ _ x=>x))
 obtain ⟨rfl,h₁⟩:=h₁;unfold Sd;refine we (On (Ow h₁ (λa G O=>we (OX ?_)) λ_ _ x=>x));obtain ⟨Z3,ak⟩:=a;obtain ⟨W,ZS,hh,hC,hn,T,O⟩:=O;obtain rfl:ak=[]:=W;obtain ⟨hp,g,d,tk,os⟩:=G;simp only [X0];refine we (wpAny_keeperOf_exc hC ?_);refine we (wpAny_call_exc_subT (hrest:=ZS) F T hC hn U λh' e hm=>we (On (wpAny_point (NN ?_))));obtain ⟨t,ht,_,_⟩:=hm.there;exact {e,t,hp,rfl,hh,λb o _ z=>hm.keeps _ _ z,hm.new,hm.keeps _ _ hC,ht,O h' e hm}
end
theorem Gm{t:TA}(T:aQ X Ex)(O:bW X.K C)(hg:Gl X x)(hm:X.mg x=some (.ref C))(ha:PA X (e::es) t)(Zf:(x==("__debug__":Str))=false:=by decide)(hst:Om (e::es) X.env=(false,Pa e X.env)::Om es X.env:=by rfl)(Yu:(P0 cpos (Om es X.env)).any (·.1)=false:=by rfl):
  PS X (.Raise (some (.Call (.Name x np) (e::es) [] cpos)) none pos) (jX C Ex t):=by
 intro Go s σ H D I h;obtain ⟨cd,_,⟨bm,N,nm,q,bs,hdct,sn,sub,ab,col,dd,k0,k1,k2,k3,k5,mN,em,hC,hN,S,Z⟩⟩:=O.obj I.ok.mod.bw;refine EN (C:=C) (nm:=nm) (q:=q) (N:=N) (bs:=bs) (bm:=bm) (hdct:=hdct) (sn:=sn) (sub:=sub) (ab:=ab) (col:=col) (dd:=dd) (k0:=k0) (k1:=k1) (k2:=k2) (k3:=k3) (k5:=k5) (mN:=mN) Su (Z.hasType 'd')
  (by rw [hst];show (false||(P0 cpos (Om es X.env)).any (·.1))=false;rw [Yu];rfl) S (fu I hg hm {rfl,?_} Zf)
 have hA:=ha cpos Go s σ H _ I h;rw [hst] at hA ⊢;refine Calls.evalArgs_plain (thn hA λus s2=>x5e λvs H2 F r2=>x2e λhz q2=>{rfl,by rw [<- r2.length];exact hz,F.ck,F.bk _ _ hC,hN.keeps F.bk,Z.keeps F.bk,λh' ea J G hu=>?_});obtain ⟨tt,he,ak,_⟩:=J.there;have U:∀env∈X.stack,∀a,env.frame=some a->a∈frs X.stack:=λenv hm a ha=>Ro.mpr ⟨env,hm,ha⟩;have kp:∀b o,s2.heap.get? b=some o->G.get? b=some o:=λb o z=>by
  rcases hu with rfl|⟨a,n,_,_,rfl⟩
  .exact J.keeps b o z
  .rw [Oz _ _ (λy=>by rw [<- y,J.new] at z;cases z)];exact J.keeps b o z
 refine T Go σ H2 s2 ea C (Td s2.heap (frs X.stack)) .none { s2 with heap:=G } F {λb o e=>kp b o (RQ _ e),?_,?_,?_} rfl F.bare (λb o e hb=>hideAll_get _ e hb) (λb o e _=>{o.slots,kp b o e}) q2
 .cases z:(Td s2.heap (frs X.stack)).get? ea with
  | none=>rfl
  | some o =>
   have:=RQ _ z;rw [J.new] at this;cases this
 .exact (PySem.W.funFrames_hide F.stack U).of_keeps λb o e _=>{o,kp b o e,rfl}
 .rcases hu with rfl|⟨a,n,h1,_,rfl⟩
  .exact {_,_,he,rfl,rfl,rfl,'z',{_,rfl,.inl rfl},.inl rfl}
  .obtain ⟨k,ch⟩:∃k,Chn H2 k a:=by
    rcases F.hdk with z|⟨a',k,z,ch⟩
    .rw [z] at h1;cases h1
    .rw [h1] at z;cases z;exact ⟨k,ch⟩
   exact {_,_,OW _ he rfl,rfl,rfl,rfl,'z',{_,rfl,.inr {a,k,rfl,ch}},.inl rfl}
abbrev iA(X:Cx)(Go:List (Addr×Obj))(ea:Addr)(Ex:Addr->St->Hp->Prop):Cx:={ fP X Go ea with xe:=jB X Ex }
theorem Inv.L0(ok:X.Ok)(z:X.A.handled=none)(I:Inv (iA X Go ea Ex) ps σ H s):Inv X (Go++ps) σ H s :=
 {ok,I.os,I.bare,I.base,I.loc,I.cell,I.free,I.vl,λp hp=>I.pin p (by show p∈(X.pn++Go)++ps;rw [OR];exact hp),I.hok,I.len,.inl z}
theorem FD(ok:X.Ok)(J:X.A.handled=none):aQ (iA X Go ea Ex) Ex :=
 λps σ H G z C B fl s' I y os bare F up q=>{z,C,B,H,fl,σ,G,Go++ps,rfl,I.L0 ok J,y,os,bare,F,up,q}
theorem Cv(T:aQ X Ex)(hst:X.stack=X.env::X.outer/\X.env.frame=some X.env.locals)(h:jB X Ex e s'):notedBy (N5 X.prog X.w) (X.A.mark hd) X.env (cameBackBy (N5 X.prog X.w) X.A X.env X.xe) e s':=by
 obtain ⟨ea,C,B,H',fl,σ,F,Go,rfl,I,y,os,bare,J,up,q⟩:=h;have W:X.A.frames=some (X.env::X.outer):=by rw [I.ok.frames,hst.1]
 rw [hst.1] at y;refine yq (A:=X.A.mark hd) W hst.2 y λh1 O G u1=>?_;obtain ⟨oe,vs,U,g1,S,Z⟩:=G;refine we (O6 g1 S Z ?_);rw [if_neg (show ¬ ((N6 U==OL)=true) by simp)];rw [hst.2];refine vk (s:={ s' with heap:=h1 }) O λh2 z u2=>?_;rw [<- hst.1] at z;exact T Go σ H' F ea C B _ { s' with heap:=h2 } I z os bare J ((up.trans u1).trans u2) q
theorem FX(hc:X.calm=true)(Yh:X.ex=[])(W:X.stack=X.env::X.outer/\X.env.frame=some X.env.locals)(OD:bW X.K D)(hg:Gl X x)(hm:X.mg x=some (.ref D))(hb:∀Go Ex,PSs (lA X Go Ex) Zu (tb Ex))(T:aQ X Ex)(hs:∀Go ea,aQ (iA X Go ea Ex) Ex->PSs (iA X Go ea Ex) (G::Yz) ts)(Zf:(x==("__debug__":Str))=false:=by decide):
  PS X (.Try Zu [.ExceptHandler (some (.Name x np)) none (G::Yz) Xz] [] [] pos) (qH X.K D tb ts):=by
 intro Go s σ H Z I h;have hh:X.A.handled=none:=I.ok.hd hc;refine wpAny_Try_except (Ow (hb Go _ [] s σ H Z (I.p.Pv _) h) (λf s1 q=>?_) λe s1 q=>?_)
 .cases f with
  | next =>
   obtain ⟨F,H',J,q⟩:=q;exact Rj {F,H',Inv.bh I.ok J.qf,q}
  | brk=>obtain ⟨F,H',J,q⟩:=q;exact {F,H',Inv.bh I.ok J.qf,q}
  | cont=>obtain ⟨F,H',J,q⟩:=q;exact {F,H',Inv.bh I.ok J.qf,q}
  | ret u=>obtain ⟨v,F,H',J,r,q⟩:=q;exact {v,F,H',Inv.bh I.ok J.qf,r,q}
 .obtain ⟨ea,C,B,H',fl,F,sI,rfl,J,y,os,bare,hB,up,OC,sub,av⟩:=q;have fr:X.A.frames=some (X.env::X.outer):=by rw [I.ok.frames,W.1]
  rw [W.1] at y;refine qO fr W.2 y λh2 y2 u2=>jN (s:={ s1 with heap:=h2 }) y2 λh3 y3 u3=>?_;have a4:br H' B X.stack ea (.ref C) .none h3:=by rw [W.1];exact y3
  have ak:=(up.trans u2).trans u3;obtain ⟨_,a6,c3,g3,J3⟩:=lg (s':={ s1 with heap:=h3 }) Yh J a4 os bare hB ak;obtain ⟨a3,cC,eC⟩:=OC.obj J3.z9;obtain ⟨a5,cD,eD⟩:=OD.obj J3.z9;have X2:a3.mro.contains (.ref D)=true:=by
   unfold Rg at sub;rw [cC] at sub;simp only [S9] at sub;split at sub
   .cases sub
   .exact OG.inj sub
  refine wpAny_handleBy_cons (codeAny_handlers_test (fu (X:=fP X Go ea) J3 hg hm ?_ Zf)) (by intro q;cases q);refine wC (h:=h3) (g:=s1.gens) (d:=s1.drawn) (t:=s1.toks) (os:=s1.os) eC eD g3 c3.1 X2 ?_;refine codeAny_handlers_suite ?_;refine jN (s:={ s1 with heap:=h3 }) y3 λh4 y4 u4=>?_;have a0:br H' B X.stack ea (.ref C) .none h4:=by rw [W.1];exact y4
  obtain ⟨aI,ax,c4,g4,J4⟩:=lg (s':={ s1 with heap:=h4 }) Yh J a0 os bare hB (ak.trans u4);refine Ow (hs Go ea (FD I.ok hh) [] _ _ _ _ (J4.Pv (jB X Ex)) (av ea ax aI c4)) (λf s6 q6=>?_) λ_ _ z=>Cv T W z;cases f with
  | next=>obtain ⟨S,H7,O,U⟩:=q6;exact {_,_,(by simpa using O.L0 I.ok hh),U}
  | brk=>obtain ⟨S,H7,O,U⟩:=q6;exact {_,_,(by simpa using O.L0 I.ok hh),U}
  | cont=>obtain ⟨S,H7,O,U⟩:=q6;exact {_,_,(by simpa using O.L0 I.ok hh),U}
  | ret u=>obtain ⟨v,S,H7,O,r7,U⟩:=q6;exact {v,_,_,(by simpa using O.L0 I.ok hh),r7,U}
section
variable {X:Cx}
theorem GO{t:TA}(T:aQ X Ex)(O:bW X.K C)(F:Gl X x)(hm:X.mg x=some (.ref C))(ha:W (PA X (e::es) t))(hp:aB e=true:=by rfl)(G:dP es=true:=by rfl)(J:(x==("__debug__":Str))=false:=by decide):
  W (PS X (.Raise (some (.Call (.Name x z) (e::es) [] cpos)) none pos) (jX C Ex t)):={Gm T O F hm ha.h J (dM hp) (fO G)}
theorem CN(hc:X.calm=true)(Yh:X.ex=[])(O:X.stack=X.env::X.outer/\X.env.frame=some X.env.locals)(Z:bW X.K D)(hg:Gl X x)(hm:X.mg x=some (.ref D))(hb:∀Go Ex,W (PSs (lA X Go Ex) G (tb Ex)))(T:aQ X Ex)(hs:∀Go ea,aQ (iA X Go ea Ex) Ex->W (PSs (iA X Go ea Ex) (z::F) ts))(S:(x==("__debug__":Str))=false:=by decide):
  W (PS X (.Try G [.ExceptHandler (some (.Name x U)) none (z::F) J] [] [] pos) (qH X.K D tb ts)):={FX hc Yh O Z hg hm (λGo Ex=>(hb Go Ex).h) T (λGo ea t=>(hs Go ea t).h) S}
end
end L2
namespace L2
open PySem PySem.Spec PyProof.Rows PySem.W PySem.Calls
theorem pZ{t:TA}(h1:W (PE X F t1))(h2:W (PE X J t2))(h3:W (PE X G O))(h4:W (PE X z S))(hr:W (PA X es t))(Z:aB F=true:=by rfl)(p2:aB J=true:=by rfl)(p3:aB G=true:=by rfl)(U:aB z=true:=by rfl):W (PA X (F::J::G::z::es) (eJ t1 (eJ t2 (eJ O (eJ S t))))):={jF h1.h (jF h2.h (jF h3.h (jF h4.h hr.h U) p3) p2) Z}
def EqP(P:NW)(w:Oc)(A:Of)(s:KE)(u v:Value):Prop:=∀(E:Value->KE->Prop)(Q:Bool->KE->Prop),Q true s->N2 (N5 P w) A (eqBool u v) Q E s
section
variable {prog:NW}{w:Oc}{A:Of}{E:Value->KE->Prop}{s:KE}{K:Type} [DecidableEq K] {knd:KeyKind prog w K}
theorem DE{a b:Addr}{W:List (K×Value)}(ha:(a==sysModules)=false)(hb:(b==sysModules)=false)(da:s.heap.DictOf knd a z)(db:s.heap.DictOf knd b W)(hl:z.length=W.length)(W0:∀(i:Nat) k v,z[i]?=some (k,v)->∃y,RX W k=some y/\EqP prog w A s v y)(h:Q true s):N2 (N5 prog w) A (N9.Dict.samePairs nm a b) Q E s:=by
 obtain ⟨oa,es,ep,F,_,G,av,S,_⟩:=da;obtain ⟨ob,fs,eq,J,_,Zf,ak,U,_⟩:=db;have la:es.size=z.length:=by rw [<- S.length,Pl]
 have lb:fs.size=W.length:=by rw [<- U.length,Pl]
 unfold N9.Dict.samePairs N9.Dict.showsAll;rw [if_neg (by rw [ha];exact N8),if_neg (by rw [hb];exact N8)];refine we (NN (we (NN (we (Rz F G ?_)))));dsimp only;refine we (Rz J Zf ?_);rw [if_neg (by rw [la,lb,hl];simp)];refine we (wpAny_dictEpoch F G (we ?_));rw [Std.Legacy.Range.forIn_eq_forIn_range'];simp only [Std.Legacy.Range.size,Nat.sub_zero,Sx,Nat.div_one];refine wpAny_forIn_list _ (λYU q s'=>s'=s/\q=(none,())/\∃i,YU=range' i (es.size-i)) _ ?_ ?_ _ _ {rfl,rfl,0,'z'}
 .rintro x YU q s' ⟨rfl,rfl,i,hr⟩;have lt:i<es.size:=OP λc=>by rw [Nat.sub_eq_zero_of_le 'l'] at hr;cases hr
  rw [show es.size-i=(es.size-(i+1))+1 by lia,Ta] at hr;obtain ⟨rfl,rfl⟩:=List.cons.inj hr;refine we (Rz F G ?_);rw [O1 lt];have lk:x<z.length:=by lia
  have ek:z[x]?=some (z[x].1,z[x].2):=NL lk;obtain ⟨Yc,O⟩:=S.get? (i:=x) (e:=es[x]) (by rw [O3];exact O1 lt) ek;obtain ⟨k',Yi,hh⟩:=av es[x] (Array.getElem_mem lt);rw [knd.inj _ _ _ Yi Yc] at hh;obtain ⟨y,hy,he⟩:=W0 x _ _ ek;show N2 _ _ (Qu [es[x].key,es[x].val] _>>=_) _ _ _;rw [hh];refine we (On (we (wpAny_dictFind_of Yc J Zf ak ?_)));have Z:=(U.find z[x].1).trans hy;cases hj:fs.findIdx? λe=>knd.is z[x].1 e.key with
  | none =>
   have:fs.toList.find? (λe=>knd.is z[x].1 e.key)=none:=by
    rw [List.find?_eq_none];intro e hm;have:=Array.findIdx?_eq_none_iff.mp hj e (Array.mem_toList_iff.mp hm);simp [this]
   rw [this] at Z;cases Z
  | some j =>
   obtain ⟨lj,t1,t2⟩:=Array.findIdx?_eq_some_iff_getElem.mp hj;have ey:fs[j].val=y:=by
    have:fs.toList.find? (λe=>knd.is z[x].1 e.key)=some fs[j]:=by
     rw [List.find?_eq_some_iff_getElem];exact {t1,j,by simpa using lj,'z',λm hm=>by have:=t2 m hm;simpa using this}
    rw [this] at Z;exact OG.inj Z
   refine we (Rz J Zf ?_);rw [O1 lj];rw [<- ey,<- O] at he;refine On (he _ _ ?_);rw [if_neg 'd'];refine we (wpAny_dictEpoch F G ?_);rw [if_neg 'z'];exact NN {rfl,rfl,x+1,rfl}
 .rintro q s' ⟨rfl,rfl,i,hr⟩;exact NN h
theorem Kv{a b:Addr}(ha:(a==sysModules)=false)(hb:(b==sysModules)=false)(G:s.heap.DictOf knd a O)(S:s.heap.DictOf knd b J)(W:A.units<cLine)(hl:O.length=J.length)(U:∀(i:Nat) k v,O[i]?=some (k,v)->∃y,RX J k=some y/\EqP prog w A.in1 s v y):EqP prog w A s (.ref a) (.ref b):=λE Q q=>by
 by_cases e:a=b
 .subst e;exact SeqAt.EqAt.same _ prog w E Q q
 unfold eqBool;refine On (Sf (λz=>absurd (by have:=eq_of_beq z;injection this) e) λ_=>we ?_);refine wpAny_richCompare_same_room (op:=.Eq) G.typeIs S.typeIs PySem.F.slot_dict_eq (Pk PySem.F.slot_dict_eq G.typeIs PySem.F.entry_dict_eq ?_ (PySem.F.args_dict_eq_2 _ _)) W;show N2 _ _ (N9.Dict.dictSlotArgs "__eq__" {[.ref a,.ref b],[]}>>=_) _ _ s;unfold N9.Dict.dictSlotArgs;refine we (we (wpAny_notOrdered_dict G.typeIs ?_));show N2 _ _ (pure (N6 a,N6 b)) _ _ s;refine NN (we (RN (T:="dict") S.typeIs PySem.F.sub_dict_dict ?_));simp only [Bool.not_true,Qj,if_false];refine we (NN (we (NN (we (DE ha hb G S hl U (NN {_,rfl,(λx=>nomatch x),?_}))))));exact PH q
end
def EqT(H:Hp)(d d':Addr):Prop:=∃kvs z,H d=some (.dK (sk kvs))/\H d'=some (.dK (sk z))/\kvs.length=z.length/\∀(i:Nat) n v,kvs[i]?=some (n,v)->∃F,look z n=some F/\∃(a b:Addr)(l:List Int),v = .ref a/\F = .ref b/\H a=some (.lst (l.map V.int))/\H b=some (.lst (l.map V.int))
def uq(H:Hp)(d d':Addr):Prop:=∃kvs z,H d=some (.dK (sk kvs))/\H d'=some (.dK (sk z))/\kvs.length=z.length/\∀(i:Nat) n v,kvs[i]?=some (n,v)->∃F,look z n=some F/\∃a b,v = .ref a/\F = .ref b/\EqT H a b
section
variable {X:Cx}{Go:List (Addr×Obj)}{σ:St}{H:Hp}{s:KE}{A:Of}
theorem AJ(I:Inv X Go σ H s){R:V->V->Prop}{d d':Addr}(e1:H d=some (.dK (sk kvs)))(e2:H d'=some (.dK (sk U)))(hl:kvs.length=U.length)(hu:A.units<cLine)(h:∀(i:Nat) n v,kvs[i]?=some (n,v)->∃G,look U n=some G/\R v G)(hR:∀v G u O,R v G->zm v u->zm G O->EqP X.prog X.w A.in1 s u O):EqP X.prog X.w A s (.ref d) (.ref d'):=by
 obtain ⟨z,hd,vs,Z,dd⟩:=bZ I.hok (.inl e1);obtain ⟨z2,S,ak,F,X9⟩:=bZ I.hok (.inl e2);refine Kv hd S dd X9 hu ?_ λi k u hi=>?_
 .rw [<- Z.length,<- F.length];unfold sk;rw [NO,NO];exact hl
 .have li:i<kvs.length:=by
   have:=(NU.mp hi).1;rw [<- Z.length] at this;unfold sk at this;rwa [NO] at this
  have ek:kvs[i]?=some (kvs[i].1,kvs[i].2):=NL li;have es:(sk kvs)[i]?=some (.inr kvs[i].1,kvs[i].2):=by unfold sk;rw [Oe,ek];rfl
  obtain ⟨O,J,ru⟩:=Z.at es;rw [hi] at J;injection J with J
  injection J with e3 e4
  subst e3 e4;obtain ⟨G,W,r⟩:=h i _ _ ek;have hv:=F.val (.inr kvs[i].1);rw [bH,W] at hv;cases hy:RX ak (.inr kvs[i].1) with
  | none=>rw [hy] at hv;exact hv.elim
  | some y=>rw [hy] at hv;exact {y,rfl,hR _ _ _ _ r ru hv}
theorem EqT.at(I:Inv X Go σ H s){d d':Addr}(h:EqT H d d')(S:A.in1.units+64<cLine)(F:A.units<cLine):EqP X.prog X.w A s (.ref d) (.ref d'):=by
 obtain ⟨kvs,Y6,Z,e2,hl,h⟩:=h;refine AJ I (R:=λv J=>∃(a b:Addr)(l:List Int),v = .ref a/\J = .ref b/\H a=some (.lst (l.map V.int))/\H b=some (.lst (l.map V.int))) Z e2 hl F h ?_;rintro v J u u' ⟨a,b,l,rfl,rfl,ha,hb⟩ U G;cases U;cases G;obtain ⟨is,r1,O,_⟩:=I.list (SqL.of (K:=X.K) ha);obtain ⟨js,r2,p2,_⟩:=I.list (SqL.of (K:=X.K) hb);have z:=PySem.W.keq_ints (A:=A) O.isList (o5 r1) p2.isList (o5 r2) S;rw [decide_eq_true rfl] at z;exact λE Q q=>z X.prog X.w E Q q
theorem uq.at(I:Inv X Go σ H s){d d':Addr}(h:uq H d d')(O:A.in1.in1.units+64<cLine)(G:A.in1.units<cLine)(z:A.units<cLine):EqP X.prog X.w A s (.ref d) (.ref d'):=by
 obtain ⟨kvs,Z,U,W,hl,h⟩:=h;refine AJ I (R:=λv J=>∃a b,v = .ref a/\J = .ref b/\EqT H a b) U W hl z h ?_;rintro v J u u' ⟨a,b,rfl,rfl,t⟩ S F;cases S;cases F;exact t.at I O G
end
end L2
namespace L2
open PySem PySem.Spec PyProof.Rows
def thr(n:Nat):List Nat:=(O0 ((n+2) / 3)).map (3 * ·)
def bK{α:Type}(xs:List α):List α:=(thr xs.length).filterMap (xs[·]?)
theorem qi(r:zq xs us):∀L:List Nat,zq (L.filterMap (xs[·]?)) (L.filterMap (us[·]?))
 | []=>.nil
 | k::L=>by
  cases e:xs[k]? with
  | none=>rw [List.filterMap_cons_none e,List.filterMap_cons_none (r.none_of e)];exact qi r L
  | some x =>
   obtain ⟨u,z,F⟩:=r.get e;rw [List.filterMap_cons_some e,List.filterMap_cons_some z];exact .cons F (qi r L)
theorem Cy(n:Nat):sliceRange 0 (n:Int) 3=thr n:=by
 unfold sliceRange thr;have h3:(3:Int)>0:=by decide
 by_cases h:(0:Int)<n
 .simp only [h3,if_true,h];have e:(((n:Int)-0+3-1) / 3).toNat=(n+2) / 3:=by lia
  rw [e];exact Pd λk _=>by lia
 .have e:n=0:=by lia
  subst e;rfl
theorem DQ(us:List Value):slicePick us.toArray none none (some 3)=(bK us).toArray:=by
 have hb:QJ none none (some 3) us.toArray.size=(0,(us.length:Int),3):=by
  first
  | rfl
  | simp [QJ]
 unfold slicePick;rw [hb];show ((sliceRange 0 (us.length:Int) 3).filterMap (us.toArray[·]?)).toArray=_;rw [Cy];unfold bK;congr 1;exact congrArg (List.filterMap · _) (funext λk=>by simp)
theorem Ka{α:Type}(xs:List α):(bK xs).length<=xs.length:=by
 unfold bK;refine Ol (List.length_filterMap_le _ _) ?_;unfold thr;rw [NO,Re];lia
def rJ(te:TE):TE:=λσ H Q=>te σ H λx H1=>uR x λa=>∃xs,H1 a=some (.lst xs)/\∀p H2,New H1 p (.lst (bK xs)) H2->Q (.ref p) H2
theorem Nc(he:PE X e te):PE X (.Subscript e (.Slice none none (some (.Constant (.int 3) j Z)) p2) pos) (rJ te):=by
 intro Go s σ H Q I h;refine Subscript_ (thn (he Go s σ H _ I h) λv s1=>x5e λx H1 U r1 YF=>?_);obtain ⟨a,ex,xs,hx,q1⟩:=YF;subst ex;cases r1;refine wpAny_Slice ?_;rw [evalPart_none];refine NN (NN ?_);rw [evalPart_some];refine thn (lL (X:=X) Go s1 σ H1 (λv H=>v = .int 3/\H=H1) U {rfl,rfl}) λvs z=>x5e λy H3 I3 ry Yd=>?_;obtain ⟨W,eH⟩:=Yd;subst W eH;obtain ⟨t,rfl⟩:=ry;have F:Inv X Go σ H3 { z with heap:=z.heap.push { cls:=.type "slice",data:=.fields #[.none,.none,.int 3 t] } }:=I3.kept (t':=z.toks) λb ob q=>NP _ q;obtain ⟨O,r,J,hz⟩:=F.list (SqL.of (K:=X.K) hx);refine tail_any (ops:=[.ref a,.ref z.heap.objs.size]) J.isList.typeIs SI.lookup ?_ (by with_unfolding_all rfl);refine wpAny_getItem_list_slice J.isList (Heap.IsSliceOf.new ..) .none .none (.int 3 t) 'z' ?_ (by rw [Oa,<- r.length];exact hz);generalize hp:(z.heap.push { cls:=.type "slice",data:=.fields #[.none,.none,.int 3 t] })=G at F J ⊢;rw [DQ];have S:bK O=(thr xs.length).filterMap (O[·]?):=by unfold bK;rw [r.length]
 refine {.ref G.objs.size,_,F.laid (t':=z.toks) (o:=.lst (bK xs)) (λb ob q=>NP _ q) (NV _) {Ol (Ka xs) hz,bK O,0,by rw [S];exact qi r _,N7 _ rfl},rfl,q1 _ _ (.mk' (F.hok.fresh (NV _)))}
theorem KF(he:W (PE X e te)):W (PE X (.Subscript e (.Slice none none (some (.Constant (.int 3) j z)) p2) pos) (rJ te)):={Nc he.h}
def sM(to te z:TE):TE:=λσ H Q=>to σ H λx H1=>uR x λl=>(∃xs,H1 l=some (.lst xs))/\te σ H1 λy H2=>z σ H2 λv H3=>∃(xs:List V)(k:Nat),y = .int k/\H3 l=some (.lst xs)/\k<=xs.length/\xs.length<sizeLine/\Q .non (upd H3 l (.lst (xs.take k++[v]++xs.drop k)))
theorem IT{to te z:TE}:sM to te z σ H Q=to σ H λx H1=>uR x λl=>(∃xs,H1 l=some (.lst xs))/\te σ H1 λy H2=>z σ H2 λv H3=>∃(xs:List V)(k:Nat),y = .int k/\H3 l=some (.lst xs)/\k<=xs.length/\xs.length<sizeLine/\Q .non (upd H3 l (.lst (xs.take k++[v]++xs.drop k))):=rfl
theorem Ew{o e f:Og}{to te W:TE}(ho:PE X o to)(he:PE X e te)(hf:PE X f W)(m:M2 X o "insert" Z3 e f cpos:=by exact {rfl,rfl,rfl,rfl}):PE X (.Call (.Attribute o "insert" Z3) [e,f] [] cpos) (sM to te W):=by
 intro Go s σ H Q I h;refine SH m.base m.few m.line Sg SU PySem.F.type_list_insert (thn (ho Go s σ H _ I h) λu s1=>x5e λx H1 Z rx YF=>?_);obtain ⟨l,ex,⟨U,hx⟩,q1⟩:=YF;subst ex;obtain rfl:u=N6 l:=rx;obtain ⟨t1,t2⟩:=iq (T:="list") Z (show zm (.ref l) (N6 l) from rfl) (.inl {rfl,U,SqL.of hx});refine {t1,t2,?_};rw [m.trees];refine Calls.callWith_builtin rfl (Calls.evalArgs_plain (Calls.spliced_cons (thn (he Go s1 σ H1 _ Z q1) λiv s2=>x5e λy H2 I2 ry q2 =>
  Calls.spliced_cons (thn (hf Go s2 σ H2 _ I2 q2) λfv s3=>x5e λz H3 I3 rz Xl=>Calls.spliced_nil ?_))))
 obtain ⟨xs,k,ey,hH,hk,O,q3⟩:=Xl;obtain ⟨k',Yi⟩:∃k':Int,k'=(k:Int):={_,rfl};rw [<- Yi] at ey;subst ey;obtain ⟨t,rfl⟩:=ry;obtain ⟨hz,J,n,r,hl,e⟩:=I3.UP hH;have S:=O;rw [Ph] at S;have G : ¬ (!N9.List.listFitsIndex k')=true:=by
  rw [fitsIndex_both 'l' 'l'];exact N8
 have hsz:J.toArray.size<=sizeLine:=by rw [Oa,<- hl];exact hz
 have M:=AutoListH.list_insert_list_int_val_1 l J.toArray n k' t fv G hsz;refine QM SU {_,e,rfl} PySem.F.entry_list_insert (PySem.F.args_list_insert_3 _ _ _) M {e,?_};refine {.non,_,I3.a8 (its':=J.take k++[fv]++J.drop k) hH e ?_ (((r.take k).append (.cons rz .nil)).append (r.drop k)) ?_,rfl,q3}
 .have hn : ¬ (k'<0):=by lia
  have ht:k'.toNat=k:=by lia
  have hm:min k J.length=k:=Sj 'l';simp only [hn,if_false,ht,Oa,hm];simp;exact Ob (by rw [Qi];exact NV _)
 .rw [Ov,Ov,ON,Qi,O2];lia
theorem EW{o e f:Og}{to te z:TE}(ho:W (PE X o to))(he:W (PE X e te))(hf:W (PE X f z))(m:M2 X o "insert" Z3 e f cpos:=by exact {rfl,rfl,rfl,rfl}):W (PE X (.Call (.Attribute o "insert" Z3) [e,f] [] cpos) (sM to te z)):={Ew ho.h he.h hf.h m}
end L2
namespace K33
open PySem PySem.Spec PyProof.Rows L2
open PySem.W (Frag OpenLaw WalkO findIn kitOne mroIn)
local macro_rules | `(tactic| erw [$ls,*])=>do
 let l<-("d8 tC xb tOr uU tIf ox sD wb rM rS cU Ia FJ jx xH ipI tOp tUn cK eJ ql Bo vR mz mU lQ tCB jX AU yb j7 Ab GA kF pN qU AX Jw HB MC Bb Au vy xC Fk Ja BV rO B3 Ku BD M9 B8 Do Hh CI LR GI Iq Cf Eo Hw Kd LX u9 EK Ki ML Hd JF KZ LS Gp cL S9 Option.bind_none Option.join_some mr and_assoc exists_and_left exists_and_right exists_eq_left' exists_eq_left exists_eq exists_eq' exists_eq_right exists_eq_right' and_true true_and and_false false_and or_false false_or exists_false exists_const OG.injEq V.int.injEq V.str.injEq V.ref.injEq V.bl.injEq V.ty.injEq HO.lst.injEq HO.tup.injEq HO.ins.injEq List.cons.injEq reduceCtorEq reduceIte Qj List.getElem?_cons_zero Rv List.set_cons_zero List.set_cons_succ Q3 PZ Pr OJ Q5 L2.start DY DR Pc Nat.reduceSub Nat.reduceAdd KD Lb uv KO Hr ID IF Cc Ha wJ vp tSl uA JA En Aa xW KQ tP rH rm fj Ng Km Jr An Bw Lp HG Dh Cu GH yd wj Fp ND Ll GY Ju Ec Le Ld EO FF HJ E6 Nq BG Ds HF DW M5 Hz Ey Cw FV JL Iu BY HL HN Fd Kg Du G7 B5 HA EF EE E3 FO Nf Ak v9 Jo DZ Mg GN Jy wH Ck Gb JU L8 Mz KG FB DJ MF MT NK Gq De Co GR Mi gw Md BW rK x5 si vJ tW xN yo yh xZ B9 JO Ek By Gc LI DN G5 Dt MG uZ FM Ga Dv CB rJ IT".splitOn " ").toArray.mapM fun s=>`(Lean.Parser.Tactic.simpLemma|$(Lean.mkIdent s.toName):ident)
 let k<-ls.getElems.mapM fun s=>match s with
  | `(Lean.Parser.Tactic.rwRule|$t:term)=>`(Lean.Parser.Tactic.simpLemma|$t:term)
  | _=>Lean.Macro.throwUnsupported
 let l:=l++k
 `(tactic| try simp only [$l,*])
local macro_rules | `(tactic| ac_rfl)=>`(tactic| erw [])
def top(i:Nat):Stmt:=PySem.Challenge.pw_cleanrows_k33_marks_refused.main.body.getD i (.Pass {0,0,0,0})
structure zk where
 Te:Addr
 VN:Addr
 UT:Addr
 Full:Addr
 T6:Addr
 US:Addr
 T8:Addr
 E2:Addr
 T7:Addr
 Ua:Addr
 ny:Addr
 UR:Addr
 bc:Addr
 L4:Addr
 TH:Addr
 UU:Addr
 T9:Addr
 NoPart:Addr
 Words:Addr
 nv:Addr
 State:Addr
structure Txt(K:Frag)(mg:Str->Option Value)(A:zk):Prop where
 UN:mg "ValueError"=none
 b0:mg "abs"=none
 bu:mg "all"=none
 bD:mg "bool"=none
 VD:mg "dict"=none
 aM:mg "divmod"=none
 TX:mg "enumerate"=none
 aL:mg "int"=none
 qs:mg "isinstance"=none
 sL:mg "len"=none
 VC:mg "list"=none
 aK:mg "max"=none
 bZ:mg "min"=none
 bq:mg "ord"=none
 ri:mg "range"=none
 zf:mg "sorted"=none
 Hx:mg "str"=none
 bY:mg "sum"=none
 aE:∃u,mg "FIGURES"=some u/\zm (.str "0123456789") u
 aD:∃u,mg "LETTERS"=some u/\zm (.str "abcdefghijklmnopqrstuvwxyz") u
 Uh:∃u,mg "MOST_FIGURES"=some u/\zm (.int 18) u
 Ug:∃u,mg "MOST_LETTERS"=some u/\zm (.int 6) u
 aC:∃u,mg "MODULUS"=some u/\zm (.int 65521) u
 TF:∃u,mg "FIRST_WORD"=some u/\zm (.str "mark") u
 Ui:mg "CleanError"=some (.ref A.Te)
 aN:mg "NoRow"=some (.ref A.VN)
 ak:mg "NoDisk"=some (.ref A.UT)
 a7:mg "Full"=some (.ref A.Full)
 VF:mg "Stopped"=some (.ref A.T6)
 aj:mg "NoFile"=some (.ref A.US)
 VH:mg "NoPlace"=some (.ref A.T8)
 Ud:mg "HeldAlready"=some (.ref A.E2)
 VG:mg "NotHeld"=some (.ref A.T7)
 VJ:mg "NoFiles"=some (.ref A.Ua)
 TL:mg "NoMark"=some (.ref A.ny)
 ah:mg "NoRoom"=some (.ref A.UR)
 a6:mg "Gone"=some (.ref A.bc)
 UO:mg "NotClosed"=some (.ref A.L4)
 Vy:mg "NotBlank"=some (.ref A.TH)
 ar:mg "NoDeed"=some (.ref A.UU)
 VI:mg "NoHouse"=some (.ref A.T9)
 sU:mg "NoPart"=some (.ref A.NoPart)
 b1:mg "Words"=some (.ref A.Words)
 b3:mg "Files"=some (.ref A.nv)
 b2:mg "State"=some (.ref A.State)
 Ul:bW K A.Te
 TV:bW K A.ny
 q0:bW K A.NoPart
 bM:mroIn K A.ny (.ref A.ny)=some true
 af:mroIn K A.NoPart (.ref A.NoPart)=some true
 L3:qB K A.ny
 VE:mroIn K A.ny (.ref A.Te)=some true
 Q2:kitOne K (.ref A.ny) (.type "ValueError")=some true
 Ue:kitOne K (.ref A.ny) (.ref A.VN)=some false
 T2:kitOne K (.ref A.ny) (.ref A.UT)=some false
 Uk:kitOne K (.ref A.ny) (.ref A.Full)=some false
 TM:kitOne K (.ref A.ny) (.ref A.T6)=some false
 T1:kitOne K (.ref A.ny) (.ref A.US)=some false
 TQ:kitOne K (.ref A.ny) (.ref A.T8)=some false
 L1:kitOne K (.ref A.ny) (.ref A.E2)=some false
 TN:kitOne K (.ref A.ny) (.ref A.T7)=some false
 TU:kitOne K (.ref A.ny) (.ref A.Ua)=some false
 TZ:kitOne K (.ref A.ny) (.ref A.ny)=some true
 TY:kitOne K (.ref A.ny) (.ref A.UR)=some false
 Uj:kitOne K (.ref A.ny) (.ref A.bc)=some false
 S2:kitOne K (.ref A.ny) (.ref A.L4)=some false
 Tx:kitOne K (.ref A.ny) (.ref A.TH)=some false
 T4:kitOne K (.ref A.ny) (.ref A.UU)=some false
 TR:kitOne K (.ref A.ny) (.ref A.T9)=some false
 aF:kitOne K (.ref A.ny) (.ref A.NoPart)=some false
 m9:Cls K A.Words
 tj:cz K A.Words "taken"
 wh:cz K A.Words "words"
 mm:Cls K A.nv
 mC:cz K A.nv "births"
 nT:cz K A.nv "kept"
 ot:Cls K A.State
 yz:cz K A.State "next_mark"
 Da:cz K A.State "next_row"
 xy:cz K A.State "own_files"
 vr:cz K A.State "spot_of"
theorem Txt.bb{K:Frag}(T:Txt K mg A):∃u,mg "NoRow"=some u/\zm (.ref A.VN) u:={_,T.aN,rfl}
theorem Txt.aW{K:Frag}(T:Txt K mg A):∃u,mg "NoDisk"=some u/\zm (.ref A.UT) u:={_,T.ak,rfl}
theorem Txt.bK{K:Frag}(T:Txt K mg A):∃u,mg "Full"=some u/\zm (.ref A.Full) u:={_,T.a7,rfl}
theorem Txt.aw{K:Frag}(T:Txt K mg A):∃u,mg "Stopped"=some u/\zm (.ref A.T6) u:={_,T.VF,rfl}
theorem Txt.aT{K:Frag}(T:Txt K mg A):∃u,mg "NoFile"=some u/\zm (.ref A.US) u:={_,T.aj,rfl}
theorem Txt.ay{K:Frag}(T:Txt K mg A):∃u,mg "NoPlace"=some u/\zm (.ref A.T8) u:={_,T.VH,rfl}
theorem Txt.Um{K:Frag}(T:Txt K mg A):∃u,mg "HeldAlready"=some u/\zm (.ref A.E2) u:={_,T.Ud,rfl}
theorem Txt.ax{K:Frag}(T:Txt K mg A):∃u,mg "NotHeld"=some u/\zm (.ref A.T7) u:={_,T.VG,rfl}
theorem Txt.aB{K:Frag}(T:Txt K mg A):∃u,mg "NoFiles"=some u/\zm (.ref A.Ua) u:={_,T.VJ,rfl}
theorem Txt.aS{K:Frag}(T:Txt K mg A):∃u,mg "NoMark"=some u/\zm (.ref A.ny) u:={_,T.TL,rfl}
theorem Txt.aQ{K:Frag}(T:Txt K mg A):∃u,mg "NoRoom"=some u/\zm (.ref A.UR) u:={_,T.ah,rfl}
theorem Txt.bJ{K:Frag}(T:Txt K mg A):∃u,mg "Gone"=some u/\zm (.ref A.bc) u:={_,T.a6,rfl}
theorem Txt.Vz{K:Frag}(T:Txt K mg A):∃u,mg "NotClosed"=some u/\zm (.ref A.L4) u:={_,T.UO,rfl}
theorem Txt.VL{K:Frag}(T:Txt K mg A):∃u,mg "NotBlank"=some u/\zm (.ref A.TH) u:={_,T.Vy,rfl}
theorem Txt.aZ{K:Frag}(T:Txt K mg A):∃u,mg "NoDeed"=some u/\zm (.ref A.UU) u:={_,T.ar,rfl}
theorem Txt.az{K:Frag}(T:Txt K mg A):∃u,mg "NoHouse"=some u/\zm (.ref A.T9) u:={_,T.VI,rfl}
theorem BK:(("births":Str) == "kept")=false:=by decide +kernel
theorem B7:(("kept":Str) == "births")=false:=by decide +kernel
theorem Am:(("births":Str)="kept")=False:=by simpa using BK
theorem DA:(("next_mark":Str) == "next_row")=false:=by decide +kernel
theorem Ht:(("next_mark":Str) == "own_files")=false:=by decide +kernel
theorem Ge:(("next_mark":Str) == "spot_of")=false:=by decide +kernel
theorem Fn:(("next_row":Str) == "next_mark")=false:=by decide +kernel
theorem Mw:(("next_row":Str) == "own_files")=false:=by decide +kernel
theorem Ni:(("next_row":Str) == "spot_of")=false:=by decide +kernel
theorem Fh:(("own_files":Str) == "next_mark")=false:=by decide +kernel
theorem DO:(("own_files":Str) == "next_row")=false:=by decide +kernel
theorem HK:(("own_files":Str) == "spot_of")=false:=by decide +kernel
theorem IR:(("spot_of":Str) == "next_mark")=false:=by decide +kernel
theorem Jd:(("spot_of":Str) == "next_row")=false:=by decide +kernel
theorem JT:(("spot_of":Str) == "own_files")=false:=by decide +kernel
theorem C9:((Wl:Str) == "next_mark")=false:=by decide +kernel
theorem Lf:((Wl:Str) == "next_row")=false:=by decide +kernel
theorem DC:((Wl:Str) == "own_files")=false:=by decide +kernel
theorem IU:((Wl:Str) == "spot_of")=false:=by decide +kernel
theorem BI:((V0:Str) == "next_mark")=false:=by decide +kernel
theorem CP:((V0:Str) == "next_row")=false:=by decide +kernel
theorem BR:((V0:Str) == "own_files")=false:=by decide +kernel
theorem Ei:((V0:Str) == "spot_of")=false:=by decide +kernel
theorem LA:((Wj:Str) == "next_mark")=false:=by decide +kernel
theorem IZ:((Wj:Str) == "next_row")=false:=by decide +kernel
theorem Iv:((Wj:Str) == "own_files")=false:=by decide +kernel
theorem Gw:((Wj:Str) == "spot_of")=false:=by decide +kernel
theorem Ls:((Wk:Str) == "next_mark")=false:=by decide +kernel
theorem E5:((Wk:Str) == "next_row")=false:=by decide +kernel
theorem M8:((Wk:Str) == "own_files")=false:=by decide +kernel
theorem Eh:((Wk:Str) == "spot_of")=false:=by decide +kernel
theorem LY:(("next_row":Str)="next_mark")=False:=by simpa using Fn
theorem CV:(("own_files":Str)="next_mark")=False:=by simpa using Fh
theorem vA:(("own_files":Str)="next_row")=False:=by simpa using DO
theorem pT:(("own_files":Str)="spot_of")=False:=by simpa using HK
theorem Jq:(("spot_of":Str)="next_mark")=False:=by simpa using IR
theorem wI:(("spot_of":Str)="next_row")=False:=by simpa using Jd
theorem ah(h:n<=1000000):n<=sizeLine:=Ol h 'd'
abbrev sx:Stmt:=top 24
abbrev nF:Stmt:=top 25
inductive Thg(H:Hp):V->Prop
 | non:Thg H .non
 | bl (b:Bool):Thg H (.bl b)
 | int (i:Int):Thg H (.int i)
 | str (x:Str):Thg H (.str x)
 | lst {a:Addr}{xs:List V}:H a=some (.lst xs)->Thg H (.ref a)
 | tup {a:Addr}{xs:List V}:H a=some (.tup xs)->Thg H (.ref a)
 | dic {a:Addr}{kvs:List (Key×V)}:H a=some (.dK kvs)->Thg H (.ref a)
def GS:V->Bool | .int _=>true|_=>false
def mq(v:V)(a b:Int):Bool:=match v with | .int i=>decide (a<=i)&&decide (i<=b)|_=>false
def xg:Sp:=λvs H Q _=>∃v,vs=[v]/\Thg H v/\Q (.bl (GS v)) H
def lJ:Sp:=λvs H Q _=>∃v a b,vs=[v,.int a,.int b]/\Thg H v/\Q (.bl (mq v a b)) H
section
variable {P:NW}{w:Oc}{K:Frag}{mg:Str->Option Value}{base:Heap}{A:zk}
theorem Jh{X:Cx}(t:Thg H v)(q:Q (.bl (match v with | .int _=>true | .bl _=>true|_=>false)) H):jI X.K [v,.ty "int"] H Q:=by
 cases t with
 | non=>exact {_,_,_,_,_,rfl,rfl,.of .non,rfl,q}
 | bl b=>exact {_,_,_,_,_,rfl,rfl,.of (.bl b),rfl,q}
 | int i=>exact {_,_,_,_,_,rfl,rfl,.of (.int i),rfl,q}
 | str x=>exact {_,_,_,_,_,rfl,rfl,.of (.str x),rfl,q}
 | lst h=>exact {_,_,_,_,_,rfl,rfl,.of (.lst h),rfl,q}
 | tup h=>exact {_,_,_,_,_,rfl,rfl,.of (.tup h),rfl,q}
 | dic h=>exact {_,_,_,_,_,rfl,rfl,.of (.dK h),rfl,q}
theorem Ba{X:Cx}(t:Thg H v)(q:Q (.bl (match v with | .bl _=>true|_=>false)) H):jI X.K [v,.ty "bool"] H Q:=by
 cases t with
 | non=>exact {_,_,_,_,_,rfl,rfl,.of .non,rfl,q}
 | bl b=>exact {_,_,_,_,_,rfl,rfl,.of (.bl b),rfl,q}
 | int i=>exact {_,_,_,_,_,rfl,rfl,.of (.int i),rfl,q}
 | str x=>exact {_,_,_,_,_,rfl,rfl,.of (.str x),rfl,q}
 | lst h=>exact {_,_,_,_,_,rfl,rfl,.of (.lst h),rfl,q}
 | tup h=>exact {_,_,_,_,_,rfl,rfl,.of (.tup h),rfl,q}
 | dic h=>exact {_,_,_,_,_,rfl,rfl,.of (.dK h),rfl,q}
theorem EM:zy ["value"] ["value"] (zl sx):=fsc
theorem DK(F:Fun K "is_whole" "is_whole" sx f fd)(T:Txt K mg A):zp P w K mg base CX0 cm 1 f fd ["value"] xg:=by
 refine F.o EM λG z outer s H vs Q E hr h=>?_;obtain ⟨v,rfl,th,q⟩:=h;refine {_,(W.h (zi (zw (jQ (zT jR rfl T.qs Qt (za (ze 0) (za (mf rfl T.aL boot_int (v:=.ty "int") rfl) zd))) (iN (Nx (zT jR rfl T.qs Qt (za (ze 0) (za (mf rfl T.bD boot_bool (v:=.ty "bool") rfl) zd))))))))),?_};ac_rfl;refine Jh th ?_;cases th with
 | int i=>exact {true,rfl,pY (Ba (.int i) {false,rfl,q})}
 | bl i=>exact {true,rfl,pY (Ba (.bl i) {true,rfl,q})}
 | _=>exact {false,rfl,jH q}
theorem MM:zy Xr Xr (zl nF):=fsc
theorem KH(F:Fun K V6 V6 nF f fd)(T:Txt K mg A)(z:GF P w K mg base cm 1 "is_whole" ["value"] xg):zp P w K mg base CX0 cm 2 f fd Xr lJ:=by
 refine F.o MM λJ G outer s H vs Q E hr h=>?_;obtain ⟨v,a,b,rfl,th,q⟩:=h;refine {_,(W.h (zi (zw (jQ (zu z hr rfl (za (ze 0) zd)) (iN (A9 jm jm (ze 1) (ze 0) (ze 2))))))),?_};ac_rfl;refine {_,rfl,th,?_};cases th with
 | int i =>
  refine {true,rfl,pY ?_};ac_rfl;refine aF (λh=>?_) (λh=>?_)
  .have e:mq (.int i) a b=decide (i<=b):=by show (decide (a<=i)&&_)=_;rw [h];rfl
   rw [<- e];exact q
  .have e:mq (.int i) a b=false:=by show (decide (a<=i)&&_)=_;rw [Pu.mpr h];rfl
   rw [<- e];exact q
 | _=>exact {false,rfl,jH q}
abbrev su:Stmt:=top 53
abbrev oo:Stmt:=top 54
abbrev pG:Stmt:=top 55
abbrev qR:Stmt:=top 56
def But(b:Addr)(H H':Hp):Prop:=∀a o,a≠b->H a=some o->H' a=some o
theorem But.of{b:Addr}(s:zj H H'):But b H H':=λa o _ e=>s a o e
theorem But.trans{b:Addr}(x:But b H H1)(y:But b H1 H2):But b H H2:=λa o n e=>y a o n (x a o n e)
theorem p8{α:Type}{xs:List α}{i:Int}(G:0<=i)(h1:i<xs.length):∃v,atI xs i=some v/\v∈xs:=by
 have F:i.toNat<xs.length:=by omega
 have z:atI xs ((i.toNat:Nat):Int)=some xs[i.toNat]:=fT (NL F);rw [show ((i.toNat:Nat):Int)=i by omega] at z;exact {_,z,O4 F}
def atD(ns:List Int)(k:Int):Int:=if k<ns.length then ns.getD k.toNat 0 else 0
def uG(K:Frag):Sp:=λvs H Q _=>∃(a:Addr)(ns:List Int)(k:Int),vs=[.ref a,.int k]/\SqL K H a (ns.map V.int)/\0<=k/\Q (.int (atD ns k)) H
theorem Mx:zy XO XO (zl su):=fsc
theorem Hi(F:Fun K "_law_cell" "_law_cell" su f fd)(T:Txt K mg A):zp P w K mg base CX0 true 1 f fd XO (uG K):=by
 refine F.o Mx λW U outer s H vs Q E hr h=>?_;obtain ⟨a,ns,k,rfl,G,S,q⟩:=h;refine {_,vO (ux (ye mL (pv 1) (xO nR rfl T.sL OA (fB (pv 0) fK)) (zE _))
  (sC (sq (vn Bg (pv 0) (pv 1) (λ_ _=>rfl)))) wu) (sC (sq lL)),?_}
 ac_rfl;refine {_,.inl G,?_};rw [NO];refine aF (λh=>?_) (λh=>?_)
 .have h':k<(ns.length:Int):=of_decide_eq_true h;have J:k.toNat<ns.length:=by omega
  have e:atD ns k=ns[k.toNat]:=by unfold atD;rw [if_pos h',Oq,NL J];rfl
  refine {a,ns.map V.int,k,.int (ns[k.toNat]),rfl,rfl,G,?_,by rw [<- e];exact q};have z:atI (ns.map V.int) ((k.toNat:Nat):Int)=some (.int (ns[k.toNat])):=fT (by rw [Oe,NL J];rfl);have O:((k.toNat:Nat):Int)=k:=by omega
  rw [O] at z;exact z
 .have h' : ¬ k<(ns.length:Int):=λz=>h (decide_eq_true z);have e:atD ns k=0:=by unfold atD;rw [if_neg h']
  rw [<- e];exact q
theorem mK{a b:V}:atI [a,b] 0=some a:=rfl
theorem ml{a b:V}:atI [a,b] 1=some b:=rfl
theorem Nl:ixN 2 0=some 0:=rfl
theorem LV:ixN 2 1=some 1:=rfl
structure Pot(H:Hp)(a:Addr):Prop where
 ex:∃x y:Int,H a=some (.lst [.int x,.int y])/\0<=x/\0<=y/\y<2147483647
theorem Pot.same{a:Addr}(h:Pot H a)(s:zj H H'):Pot H' a:=let ⟨x,y,e,r⟩:=h.ex;{{x,y,s _ _ e,r}}
theorem Pot.ne{a l:Addr}(h:Pot H a)(n:H l=none):l≠a:=λz=>by
 obtain ⟨x,y,e,_⟩:=h.ex;rw [z,e] at n;cases n
def yC(K:Frag):Sp:=λvs H Q _=>∃(a:Addr)(ns:List Int)(k:Int),vs=[.ref a,.int k]/\SqL K H a (ns.map V.int)/\0<=k/\∀l H',zj H H'->H l=none->Pot H' l->Q (.ref l) H'
theorem vL:zy ["_law_script","_law_k","_law_cell_here"] XO (zl oo):=fsc
theorem JH(F:Fun K "_law_pot" "_law_pot" oo f fd)(T:Txt K mg A)(O:GF P w K mg base true 1 "_law_cell" XO (uG K)):zp P w K mg base CX0 true 2 f fd XO (yC K):=by
 refine F.o vL λU S outer s H vs Q E hr h=>?_;obtain ⟨a,ns,k,rfl,J,G,q⟩:=h;refine {_,(W.h (zg (zr (i:=2) vL.nd rfl (NZ rfl) (zu O hr rfl (za (ze 0) (za (ze 1) zd))))
   (zi (zw (ar (za (zT (pe rfl) rfl T.aK boot_max (za zo (za (zD ju (ze 2) (zD oR zo zo)) zd))) (za (zD fQ (zD cx (zD fQ (zT Hg rfl T.b0 PyProof.Rows.boot_abs (za (ze 2) zd)) zo) (zD hJ zo (zD cx (ze 1) zo))) zo) zd))))))),?_}
 ac_rfl;refine {a,ns,k,rfl,J,G,?_};ac_rfl;refine {{'d','d','d'},'d',.inl {'d','d'},'d','d',λl H1 z _=>q l H1 z.same z.no {{_,_,z.at_,?_,?_,?_}}}
 .split<;>omega
 .omega
 .omega
def cT:Sp:=λvs H Q _=>∃(a:Addr)(m:Int),vs=[.ref a,.int m]/\Pot H a/\0<m/\m<2 ^ 64/\∀(r:Int) H',But a H H'->Pot H' a->0<=r->r<m->Q (.int r) H'
theorem xJ:zy ["_law_pot_here","_law_many","_law_digit"] Yw (zl pG):=fsc
theorem Ms(F:Fun K Wo Wo pG f fd)(T:Txt K mg A):zp P w K mg base CX0 true 1 f fd Yw cT:=by
 refine F.o xJ λZW Ar outer s H vs Q E hr h=>?_;obtain ⟨a,m,rfl,⟨x,y,e,S,y0,U⟩,z,Z,q⟩:=h;refine {_,(W.h (zg (zL (zF gB (aN dz (ze 0) zo (λ_ _=>rfl)) zo (zE _))
   (zg (cO (zT MU rfl T.aM boot_divmod (za (aN dz (ze 0) zo (λ_ _=>rfl)) (za (ze 1) zd))) (iZ (n:=2) (bz (cN (ze 0) zo iJ) (bz (zO (i:=2) xJ.nd rfl (NZ rfl)) gj))))
   (zi (zw (ze 2))))
   zW)
   (zg (cO (zD fQ (zD cx (zD hJ (aN dz (ze 0) zo (λ_ _=>rfl)) zo) zo) zo) (cN (ze 0) zo iJ))
   (zi (zw (zD fQ (zD oQ (zD fQ (zD hJ (aN dz (ze 0) zo (λ_ _=>rfl)) (aN dz (ze 0) zo (λ_ _=>rfl))) zo) zo) (ze 1))))))),?_}
 erw [e,mK,ml];refine aF (λh=>?_) (λh=>?_)
 .refine {z,Z,λp H2 G=>{p,_,rfl,SqT.of G.at_,rfl,?_}};have e2:=G.same _ _ e;erw [e2,Nl,mK];refine q _ _ (λc o O J=>by rw [zh O];exact G.same _ _ J) {{_,_,zt,Int.ediv_nonneg S (by omega),y0,U}} (Int.emod_nonneg _ (by omega)) (Int.emod_lt_of_pos _ z)
 .erw [LV,zt,ml];refine {.inr {'d','d'},'d',.inl {by omega,by omega},'d',{'d','d'},z,q _ _ (λc o O J=>by rw [zh O];exact J) {{_,_,zt,S,by omega,by omega}} (Int.emod_nonneg _ (by omega)) (Int.emod_lt_of_pos _ z)}
def fH:Sp:=λvs H Q _=>∃(a:Addr),Pot H a/\((∃(l:Addr)(xs:List V),vs=[.ref a,.ref l]/\l≠a/\(H l=some (.lst xs)\/H l=some (.tup xs))/\0<xs.length/\xs.length<=1000/\∀v H',v∈xs->But a H H'->Pot H' a->Q v H') \/
 ∃z:Str,vs=[.ref a,.str z]/\0<z.length/\z.length<=1000/\∀c H',c∈sg z->But a H H'->Pot H' a->Q (.str (c1 c)) H')
theorem IP:zy Ys Ys (zl qR):=fsc
theorem CQ(F:Fun K Wm Wm qR f fd)(T:Txt K mg A)(Z:GF P w K mg base true 1 Wo Yw cT):zp P w K mg base CX0 true 2 f fd Ys fH:=by
 refine F.ok IP (λvs H Q E h=>?_) (λZW Ar outer s H vs Q E hr h=>?_)
 .obtain ⟨a,_,⟨l,xs,rfl,_⟩|⟨z,rfl,_⟩⟩:=h<;>rfl
 .refine {_,(W.h (zi (zw (aN dz (ze 1) (zu Z hr rfl (za (ze 0) (za (zT fh rfl T.sL OA (za (ze 1) zd)) zd))) (λ_ _=>rfl))))),?_};obtain ⟨a,O,⟨l,xs,rfl,ne,hl,x0,x1,q⟩|⟨z,rfl,z0,z1,q⟩⟩:=h
  .ac_rfl;refine {xs,hl,a,_,rfl,O,by omega,QQ (show (xs.length:Int)<=1000 by omega) 'd',λr H' bt G J r1=>?_};obtain ⟨v,S,hv⟩:=p8 (xs:=xs) J r1;rw [kF];exact {xs,hl.imp (bt _ _ ne) (bt _ _ ne),v,S,q v H' hv bt G}
  .ac_rfl;refine {ah (by omega),a,_,rfl,O,by omega,QQ (show (z.length:Int)<=1000 by omega) 'd',λr H' bt G J r1=>?_};obtain ⟨c,U,hc⟩:=p8 (xs:=sg z) J (by rw [zJ];exact r1);rw [pN];exact {ah (by omega),c,U,q c H' hc bt G}
def aG(z y:Str)(m:Int):Bool:=decide (1<=(z.length:Int))&&decide ((z.length:Int)<=m)&&(sg z).all λc=>(sg y).contains c
def FIG:Str:="0123456789"
def LET:Str:="abcdefghijklmnopqrstuvwxyz"
def zH(z:Str):Bool:=aG z FIG 18&&(decide (z="0") || !decide (tx ((sg z).take 1)="0"))
def ao(z:Str):Bool:=aG z LET 6
def oG:Sp:=λvs H Q _=>∃z y m,vs=[.str z,.str y,.int m]/\asc z=true/\z.length<=100000/\∀H',zj H H'->Q (.bl (aG z y m)) H'
def kM(p:Str->Bool):Sp:=λvs H Q _=>∃z,vs=[.str z]/\asc z=true/\z.length<=100000/\∀H',zj H H'->Q (.bl (p z)) H'
theorem aS(h:n<=1000000):n<sizeLine:=OB h 'd'
abbrev mF:Stmt:=top 26
abbrev sP:Stmt:=top 27
abbrev p0:Stmt:=top 28
structure GZ(H:Hp)(z y:Str)(i:Nat)(τ:L2.St)(ys:List V)(H':Hp):Prop where
 ex:∃t,τ=[t,some (V.str y)]
 ys:ys=(((sg z).take i).map λc=>(sg y).contains c).map V.bl
 same:H'=H
theorem NB:zy Xc Xc (zl mF):=fsc
theorem BO:bO { kind:=.function,names:=[(NS ".0",.local),(NS "sign",.local),(NS "signs",.free)],isGenerator:=false,isCoroutine:=false,more:=[] } (zl mF).names Xc ["sign","signs"] [none,some 1]=true:=by decide +kernel
theorem Df:(["sign","signs"]:List Str).Nodup:=by decide +kernel
theorem MJ(F:Fun K VZ VZ mF f fd)(T:Txt K mg A):zp P w K mg base CX0 true 1 f fd Xc oG:=by
 refine F.o NB λZ U outer s H vs Q E hr h=>?_;obtain ⟨z,y,m,rfl,ha,hz,q⟩:=h;have S:_<cLine:=Oy (zV hr);refine {_,(W.h (zi (zw (jQ (A9 jm jm zo (zT fh rfl T.sL OA (za (ze 0) zd)) (ze 2)) (iN (zT (v8 rfl) rfl T.bu boot_all (za (cY (λ_=>rfl) (aA.of BO) (sO (ze 0)) (λ_ _ _ _ _=>(zO (i:=0) Df rfl (NZ rfl))) (λ_ _ _ _ _=>di) (λ_ _ _ _ _=>(fk (uJ S) (ze 0) (ze 1) rfl))) zd))))))),?_};erw [ah (Ol hz 'd')];refine aF (λh1=>aF (λh2=>?_) λh2=>?_) λh1=>?_
 .refine {ha,aK.str (GZ H z y) (λi J ys H' I=>?_) {{_,rfl},'z',rfl} ?_ ?_}
  .rw [I.ys,NO,NO,ON];exact aS (by rw [zJ];omega)
  .intro N i c J ys H' hc I hN;obtain ⟨t,rfl⟩:=I.ex;ac_rfl;rw [xa];have O:(sg z)[i]?=some c:=by simpa [sg] using hc
   exact hN _ _ _ {{_,rfl},by rw [I.ys,OU,O];simp,I.same}
  .intro J ys H' I p H2 G;ac_rfl;refine {_,by rw [G.at_,I.ys],?_};have hs:zj H H2:=by have:=G.same;rw [I.same] at this;exact this
   have e:aG z y m=(((sg z).take z.cps.size).map λc=>(sg y).contains c).all id:=by
    unfold aG;rw [h1,h2,Ob (by rw [zJ];exact NV _),List.all_map];rfl
   rw [<- e];exact q H2 hs
 .have e:aG z y m=false:=by unfold aG;rw [Pu.mpr h2];simp
  rw [<- e];exact q H (zj.refl _)
 .have e:aG z y m=false:=by unfold aG;rw [Pu.mpr h1];simp
  rw [<- e];exact q H (zj.refl _)
theorem Fw:zy WQ WQ (zl p0):=fsc
theorem Na(F:Fun K "is_name" "is_name" p0 f fd)(T:Txt K mg A)(G:GF P w K mg base true 1 VZ Xc oG):zp P w K mg base CX0 true 2 f fd WQ (kM ao):=by
 refine F.o Fw λO J outer s H vs Q E hr h=>?_;obtain ⟨z,rfl,ha,hz,q⟩:=h;refine {_,(W.h (zi (zw (zu G hr rfl (za (ze 0) (za (aO rfl T.aD) (za (aO rfl T.Ug) zd))))))),?_};ac_rfl;exact {z,_,_,rfl,ha,hz,q}
theorem Fu:zy WQ WQ (zl sP):=fsc
theorem LZ(F:Fun K V2 V2 sP f fd)(T:Txt K mg A)(J:GF P w K mg base true 1 VZ Xc oG):zp P w K mg base CX0 true 2 f fd WQ (kM zH):=by
 refine F.o Fu λU S outer s H vs Q E hr h=>?_;obtain ⟨z,rfl,ha,hz,q⟩:=h;have G:_<cLine:=Oy (zV hr);refine {_,(W.h (zg (zL (cf (cE (zu J hr rfl (za (ze 0) (za (aO rfl T.aE) (za (aO rfl T.Uh) zd))))))
   (zi (zw dA))
   zW)
   (zi (zw (HU (fk (bS G) (ze 0) zx (zE _)) (iN (fk (g7 G) (aN dz (ze 0) zo (λ_ _=>rfl)) zx (zE _)))))))),?_}
 ac_rfl;refine {z,_,_,rfl,ha,hz,λH1 s1=>?_};erw [ah (Ol hz 'd')];refine aF (λh1=>?_) λh1=>?_
 .have e:zH z=false:=by
   unfold zH FIG;rw [show aG z "0123456789" 18=false by simpa using h1];rfl
  rw [<- e];exact q H1 s1
 .have h1:aG z "0123456789" 18=true:=by simpa using h1
  refine aF (λh2=>?_) λh2=>?_
  .have e:zH z=true:=by
    unfold zH FIG;rw [h1,h2];rfl
   rw [<- e];exact q H1 s1
  .have hl:0<(sg z).length:=by
    rw [zJ];unfold aG at h1;rw [Od,Od,decide_eq_true_eq] at h1;omega
   have O:(sg z).take 1=[(sg z)[0]]:=by
    generalize sg z=l at hl;cases l with
    | nil=>cases hl
    | cons x l=>rfl
   refine {(sg z)[0],fT (xs:=sg z) (j:=0) (NL hl),?_};have e:zH z = !decide (({ cps:=#[(sg z)[0]] }:Str)="0"):=by
    unfold zH FIG;rw [h1,Pu.mpr h2,O];rfl
   rw [<- e];exact q H1 s1
abbrev qN:Stmt:=top 41
abbrev oM:Stmt:=top 42
abbrev rR:Stmt:=top 43
def cR:Nat->List Nat->Nat
 | _,[]=>0
 | k,c::l=>c*k+cR (k+1) l
def cj(z:Str):Int:=((cR 1 (sg z) % 65521:Nat):Int)
def bC(z:Str):Str:=z++(toString (cj z):Str)++";"
def zK(z:Str):Str:=OT z none (some (QT z (c1 32)+1))
def dR(z:Str):Option Str:=if z=bC (zK z) then some (zK z) else none
def jg:Sp:=λvs H Q _=>∃z,vs=[.str z]/\asc z=true/\z.length<=100000/\∀H',zj H H'->Q (.int (cj z)) H'
def ph:Sp:=λvs H Q _=>∃z,vs=[.str z]/\asc z=true/\z.length<=100000/\∀H',zj H H'->Q (.str (bC z)) H'
def uQ(o:Option Str):V:=match o with|some b=>.str b|none=>.non
def vj(K:Frag):Sp:=λvs H Q _=>∃(v:V),vs=[v]/\((∃z,v = .str z/\asc z=true/\z.length<=100000/\∀H',zj H H'->Q (uQ (dR z)) H')\/(∃t,TyX K H v t/\kitOne K t (.type "str")=some false/\Q .non H))
theorem oq:∀(k:Nat)(a b:List Nat),cR k (a++b)=cR k a+cR (k+a.length) b
 | k,[],b=>by simp [cR]
 | k,c::a,b=>by
  show c*k+cR (k+1) (a++b)=c*k+cR (k+1) a+_;rw [oq (k+1) a b,OJ,show k+1+a.length=k+(a.length+1) by lia];lia
structure Cb(H:Hp)(z:Str)(i:Nat)(σ:L2.St)(H':Hp):Prop where
 ex:∃a b,σ=[some (V.str z),some (.int (cR 1 ((sg z).take i):Nat)),a,b]
 same:zj H H'
theorem jS:zy ["text","total","place","sign"] WQ (zl qN):=fsc
theorem HY(F:Fun K "sum_of" "sum_of" qN f fd)(T:Txt K mg A):zp P w K mg base CX0 true 1 f fd WQ jg:=by
 refine F.o jS λS J outer s H vs Q E hr h=>?_;obtain ⟨z,rfl,ha,hz,q⟩:=h;refine {_,(W.h (zg (zr (i:=1) jS.nd rfl (NZ rfl) zo)
   (zg (bI PN.never (λ_=>rfl) (HM rfl T.TX (zb 0)) (iZ (n:=2) (gsD (bz (zO (i:=2) jS.nd rfl (NZ rfl)) (gsD (bz (zO (i:=3) jS.nd rfl (NZ rfl)) gj)))))
   (zi (M7 (i:=1) jS.nd rfl (NZ rfl) (zD hJ (zT ya rfl T.bq boot_ord (za (zb 3) zd)) (zb 2)) Ip)))
   (zi (zw (zD (oI fQ) (zb 1) (aO rfl T.aC))))))),?_}
 ac_rfl;refine {ha,az.aP (Cb H z) {{_,_,rfl},zj.refl _} ?_ ?_}
 .rintro i c p σ H' hc ⟨⟨a,b,rfl⟩,sm⟩ hp;have G:(sg z)[i]?=some c:=by simpa [sg] using hc
  ac_rfl;refine {p,_,rfl,SqT.of zt,rfl,?_};ac_rfl;refine {rfl,.inl {by simp;lia,?_},{{some (.int ((i+1:Nat):Int)),some (.str {#[c]}),?_},?_}}
  .have O:c<128:=by
    have h3:=OS G;rw [dS] at ha;simpa using Ot.mp ha c h3
   simp;lia
  .rw [OU,G,oq];have hi:i<(sg z).length:=(NU.mp G).1;rw [ON,Sj 'l'];simp [cR];rw [Int.add_comm 1 (i:Int)]
  .exact sm.trans λb o e=>by rw [zh (zQ e hp)];exact e
 .rintro σ H' ⟨⟨a,b,rfl⟩,sm⟩;ac_rfl;refine {'d',?_};have e:cj z=((cR 1 ((sg z).take z.cps.size):Nat):Int) % 65521:=by
   unfold cj;rw [Ob (by rw [zJ];exact NV _)];lia
  rw [<- e];exact q H' sm
theorem Ah:(" ":Str)=c1 32:=by decide +kernel
theorem dj(h:n<2 ^ 64):n.log2<1920:=by
 by_cases z:n=0
 .subst z;decide
 .exact Qy ((Nat.log2_lt z).mpr h) 'd'
theorem fR(z:Str):0<=cj z/\cj z<65521:=by unfold cj;lia
theorem lH{i:Int}(z:0<=i)(h1:i<10 ^ 18):(toString i:Str).length<=19:=by
 have e:=int_text_length_le10 (a:=i) (k:=18) 'd' 'l';show (NS (toString i)).length<=19;rw [PySem.ofString_length];exact e
theorem Fg:zy ["body"] ["body"] (zl oM):=fsc
theorem Fy(F:Fun K "summed" "summed" oM f fd)(T:Txt K mg A)(O:GF P w K mg base true 1 "sum_of" WQ jg):zp P w K mg base CX0 true 2 f fd ["body"] ph:=by
 refine F.o Fg λZ S outer s H vs Q E hr h=>?_;obtain ⟨z,rfl,ha,hz,q⟩:=h;refine {_,(W.h (zi (zw (CD (qu (yu (zb 0)) (qu (yu (caD (zu O hr rfl (clP (za (zb 0) zd))))) (qu zx Lw))))))),?_};ac_rfl;have hs:=fR z;have U:=lH hs.1 'l';refine {ah 'l',by rw [Str.empty_append];exact ah 'l',z,rfl,ha,hz,λH' s1=>?_};ac_rfl;rw [Str.empty_append];have J:(z++(toString (cj z):Str)).length<=1000000:=by rw [Pg];lia
 have G:(z++(toString (cj z):Str)++";").length<=1000000:=by
  rw [Pg,Pg];have:(";":Str).length=1:=by decide
  lia
 exact {dj 'l',ah J,ah G,ah G,q H' s1}
theorem m8(l:List Nat):asc (tx l)=l.all (· < 128):=by rw [dS,aL]
theorem kI(h:asc z=true)(hl:∀c∈l,c∈sg z):asc (tx l)=true:=by
 rw [m8,Ot];rw [dS,Ot] at h;exact λc hc=>h c (hl c hc)
theorem iE(c:Nat):∀l:List Nat,c∈l->∃a b,l=a++c::b/\c∉b
 | [],h=>by cases h
 | x::l,h=>by
  by_cases hm:c∈l
  .obtain ⟨a,b,e,hb⟩:=iE c l hm;exact {x::a,b,by rw [e];rfl,hb}
  .rcases NT.mp h with e|e
   .exact {[],l,by rw [e];rfl,hm}
   .exact absurd e hm
theorem i6{a b:List Nat}(h:sg z=a++32::b)(hb:32∉b):zK z=tx (a++[32]):=by
 unfold zK;rw [Hn h hb];have e:((a.length:Int)+1)=((a.length+1:Nat):Int):=by lia
 rw [e,gv (by rw [h];simp),h];congr 1;rw [show a++32::b=(a++[32])++b by simp,List.take_left' 'z']
theorem IE(h:32∉sg z):zK z=tx []:=by
 unfold zK;rw [kU h];exact gv (j:=0) (O9 _)
theorem nA(h:asc z=true):asc (zK z)=true/\(zK z).length<=z.length:=by
 refine {?_,PySem.Txt.slice_le _ _ _};by_cases hm:32∈sg z
 .obtain ⟨a,b,e,hb⟩:=iE 32 _ hm;rw [i6 e hb];refine kI h λc hc=>?_;rw [e,show a++32::b=(a++[32])++b by simp];exact Oo _ hc
 .rw [IE hm,m8];rfl
theorem uo:zy ["text","body"] WQ (zl rR):=fsc
theorem LF(F:Fun K "body_of" "body_of" rR f fd)(T:Txt K mg A)(S:GF P w K mg base true 2 "summed" ["body"] ph):zp P w K mg base CX0 true 3 f fd WQ (vj K):=by
 refine F.o uo λZW Ar outer s H vs Q E hr h=>?_;have U:_<cLine:=Oy (zV hr);refine {_,(W.h (zg (zL (cf (cE (zT jR rfl T.qs Qt (za (zb 0) (za (mf rfl T.Hx QS (v:=.ty "str") rfl) zd)))))
   (zi (zw aP))
   zW)
   (zg (zr (i:=1) uo.nd rfl (NZ rfl) (cq cV (zb 0) ck (cn (zD bh (x9 (zb 0) zx) zo))))
   (zi (zw (Mu (tD (zF (clO (oE (bS U))) (clE (zb 0)) (clE (caD (zu S hr rfl (clP (za (zb 1) zd))))) (zE _))) (zb 1) aP)))))),?_}
 obtain ⟨v,rfl,⟨z,rfl,ha,hz,q⟩|⟨t,O,hf,Z⟩⟩:=h
 rotate_left
 .ac_rfl;refine {_,_,_,_,_,rfl,rfl,O,hf,?_};ac_rfl;exact Z
 ac_rfl;refine {_,_,_,_,_,rfl,rfl,.of (.str z),rfl,?_};erw [ah (Ol hz 'd'),Ah];obtain ⟨J,b2⟩:=nA ha;refine {zK z,rfl,J,'l',λH' s1=>?_};ac_rfl;have G:=q H' s1;refine aF (λh=>?_) λh=>?_
 .have e:dR z=some (zK z):=if_pos (of_decide_eq_true h);rw [e] at G;exact G
 .have e:dR z=none:=if_neg λx=>h (decide_eq_true x);rw [e] at G;exact G
theorem GG:∀ys:List Str,sg (Ql "" ys)=(ys.map sg).flatten:=by
 intro ys;have e:Ql "" ys=Str.join "" ys:=StrLaws.glued_eq_join "" ys;rw [e]
 induction ys with
 | nil=>rfl
 | cons y ys z =>
  cases ys with
  | nil=>show sg y=_;simp
  | cons x ys =>
   have z:=z (StrLaws.glued_eq_join "" _);show sg (y++""++Str.join "" (x::ys))=_;rw [bj,bj,z];have:sg ("":Str)=[]:=by decide
   rw [this];simp
end
abbrev rQ:Stmt:=aC (top 32) 0
abbrev o7:Stmt:=aC (top 32) 1
abbrev rT:Stmt:=aC (top 32) 2
abbrev qw:Stmt:=aC (top 32) 14
abbrev qQ:Stmt:=aC (top 32) 15
abbrev Tab:=List (Str×List Int)
def bG(H:Hp)(v:V)(l:List Int):Prop:=∃p,v = .ref p/\H p=some (.tup (l.map V.int))
def zS(b k:Addr):List (Str×V):=[("births",.ref b),("kept",.ref k)]
structure cS(H:Hp)(b:Addr)(t:Tab):Prop where
 ex:∃kvs,H b=some (.dK (sk kvs))/\Dct (bG H) kvs t
 nd:(names t).Nodup
structure dF(H:Hp)(b:Addr)(t:Tab):Prop where
 ex:∃kvs,Rd H b (.dK (sk kvs))/\Dct (bG H) kvs t
 nd:(names t).Nodup
theorem cS.r{b:Addr}{t:Tab}(h:cS H b t):dF H b t:=let ⟨kvs,e,d⟩:=h.ex;{{kvs,.inl e,d},h.nd}
structure aU(A:zk)(H:Hp)(q b k:Addr)(t:Tab):Prop where
 ob:∃dx,H q=some (.ins A.nv dx (zS b k))
 mu:dF H b t
 kept:Rd H k (.dK (sk []))
def dh(A:zk)(H:Hp)(b k:Addr)(v:V)(t:Tab):Prop:=∃q z k',v = .ref q/\aU A H q z k' t/\z≠b/\z≠k/\k'≠b/\k'≠k
structure zB(A:zk)(H:Hp)(p b k:Addr)(t:Tab)(ks:List (Str×Tab)):Prop where
 ob:∃dx,H p=some (.ins A.nv dx (zS b k))
 mu:cS H b t
 kept:∃kk,H k=some (.dK (sk kk))/\Dct (dh A H b k) kk ks
 Vv:(names ks).Nodup
 ne:b≠k
structure bX(A:zk)(H:Hp)(p b k:Addr)(t:Tab)(ks:List (Str×Tab)):Prop where
 ob:∃dx,H p=some (.ins A.nv dx (zS b k))
 mu:dF H b t
 kept:∃kk,Rd H k (.dK (sk kk))/\Dct (dh A H b k) kk ks
 Vv:(names ks).Nodup
theorem zB.r{p b k:Addr}{t:Tab}(h:zB A H p b k t ks):bX A H p b k t ks:=let ⟨kk,e,d⟩:=h.kept;{h.ob,h.mu.r,{kk,.inl e,d},h.Vv}
structure FS(H H':Hp):Prop where
 oth:∀a o,(∀kvs,o≠.dK kvs)->(∀ob kvs,o≠.frz ob (.dK kvs))->H a=some o->H' a=some o
 dic:∀a kvs,Rd H a (.dK kvs)->Rd H' a (.dK kvs)
theorem FS.of(s:zj H H'):FS H H':={λa o _ _ e=>s a o e,λa kvs r=>r.elim (λe=>.inl (s _ _ e)) (λ⟨o,e⟩=>.inr {o,s _ _ e})}
theorem FS.trans(x:FS H H1)(y:FS H1 H2):FS H H2:={λa o n m e=>y.oth a o n m (x.oth a o n m e),λa kvs r=>y.dic a kvs (x.dic a kvs r)}
theorem Rd.same{a:Addr}(h:Rd H a u)(s:zj H H'):Rd H' a u:=h.elim (λe=>.inl (s _ _ e)) (λ⟨o,e⟩=>.inr {o,s _ _ e})
theorem But.upd{b:Addr}{H:Hp}{o:HO}:But b H (upd H b o):=λa u n e=>by rw [zh n];exact e
theorem bG.but{b:Addr}(h:bG H v l)(s:But b H H')(hb:∀xs,H b≠some (.tup xs)):bG H' v l:=by
 obtain ⟨p,e,hp⟩:=h;exact {p,e,s p _ (λz=>by subst z;exact hb _ hp) hp}
theorem bG.same(h:bG H v l)(s:zj H H'):bG H' v l:=let ⟨p,e,hp⟩:=h;{p,e,s p _ hp}
theorem cS.but{b:Addr}{t:Tab}(h:cS H b t)(s:But x H H')(hx:∀xs,H x≠some (.tup xs))(n:b≠x):cS H' b t:=by
 obtain ⟨kvs,e,d⟩:=h.ex;exact {{kvs,s _ _ n e,d.imp λv a r=>r.but s hx},h.nd}
theorem cS.same{b:Addr}{t:Tab}(h:cS H b t)(s:zj H H'):cS H' b t:=by
 obtain ⟨kvs,e,d⟩:=h.ex;exact {{kvs,s _ _ e,d.imp λv a r=>r.same s},h.nd}
theorem dF.but{b:Addr}{t:Tab}(h:dF H b t)(s:But x H H')(hx:∀xs,H x≠some (.tup xs))(n:b≠x):dF H' b t:=by
 obtain ⟨kvs,e,d⟩:=h.ex;exact {{kvs,e.elim (λe=>.inl (s _ _ n e)) (λ⟨o,e⟩=>.inr {o,s _ _ n e}),d.imp λv a r=>r.but s hx},h.nd}
theorem bG.fs(h:bG H v l)(s:FS H H'):bG H' v l:=let ⟨p,e,hp⟩:=h;{p,e,s.oth p _ (λ_=>nofun) (λ_ _=>nofun) hp}
theorem dF.fs{b:Addr}{t:Tab}(h:dF H b t)(s:FS H H'):dF H' b t:=by
 obtain ⟨kvs,e,d⟩:=h.ex;exact {{kvs,s.dic _ _ e,d.imp λv a r=>r.fs s},h.nd}
theorem aU.but{q b k:Addr}{t:Tab}(h:aU A H q b k t)(s:But x H H')(hx:H x=some (.dK kvs))(G:b≠x)(F:k≠x):aU A H' q b k t:=by
 obtain ⟨dx,e⟩:=h.ob;exact {{dx,s _ _ (λz=>by subst z;rw [e] at hx;cases hx) e},h.mu.but s (λxs z=>by rw [z] at hx;cases hx) G,h.kept.elim (λe=>.inl (s _ _ F e)) (λ⟨o,e⟩=>.inr {o,s _ _ F e})}
theorem aU.fs{q b k:Addr}{t:Tab}(h:aU A H q b k t)(s:FS H H'):aU A H' q b k t:=let ⟨dx,e⟩:=h.ob;{{dx,s.oth _ _ (λ_=>nofun) (λ_ _=>nofun) e},h.mu.fs s,s.dic _ _ h.kept}
theorem aU.same{q b k:Addr}{t:Tab}(h:aU A H q b k t)(s:zj H H'):aU A H' q b k t:=h.fs (.of s)
theorem dh.fs{b k:Addr}{t:Tab}(h:dh A H b k v t)(s:FS H H'):dh A H' b k v t:=let ⟨q,b',k',e,r,n⟩:=h;{q,b',k',e,r.fs s,n}
theorem bX.fs{p b k:Addr}{t:Tab}(h:bX A H p b k t ks)(s:FS H H'):bX A H' p b k t ks:=by
 obtain ⟨dx,e⟩:=h.ob;obtain ⟨kk,z,d⟩:=h.kept;exact {{dx,s.oth _ _ (λ_=>nofun) (λ_ _=>nofun) e},h.mu.fs s,{kk,s.dic _ _ z,d.imp λv a r=>r.fs s},h.Vv}
theorem bX.same{p b k:Addr}{t:Tab}(h:bX A H p b k t ks)(s:zj H H'):bX A H' p b k t ks:=h.fs (.of s)
theorem zB.fs{p b k d:Addr}{t:Tab}(h:zB A H p b k t ks)(s:FS H H')(bt:But d H H')(F:b≠d)(z:k≠d):zB A H' p b k t ks:=by
 obtain ⟨dx,e⟩:=h.ob;obtain ⟨kk,J,d⟩:=h.kept;obtain ⟨kvs,G,O⟩:=h.mu.ex;exact {{dx,s.oth _ _ (λ_=>nofun) (λ_ _=>nofun) e},{{kvs,bt _ _ F G,O.imp λv a r=>r.fs s},h.mu.nd},{kk,bt _ _ z J,d.imp λv a r=>r.fs s},h.Vv,h.ne}
theorem dh.same{b k:Addr}{t:Tab}(h:dh A H b k v t)(s:zj H H'):dh A H' b k v t:=let ⟨q,b',k',e,r,n⟩:=h;{q,b',k',e,r.same s,n}
theorem zB.same{p b k:Addr}{t:Tab}(h:zB A H p b k t ks)(s:zj H H'):zB A H' p b k t ks:=by
 obtain ⟨dx,e⟩:=h.ob;obtain ⟨kk,z,d⟩:=h.kept;exact {{dx,s _ _ e},h.mu.same s,{kk,s _ _ z,d.imp λv a r=>r.same s},h.Vv,h.ne}
theorem zB.setB{p b k:Addr}{t t':Tab}(h:zB A H p b k t ks)(s:But b H H')(e:H' b=some (.dK (sk F)))(d':Dct (bG H') F t')(nd:(names t').Nodup):zB A H' p b k t' ks:=by
 obtain ⟨dx,S⟩:=h.ob;obtain ⟨kk,Z,d⟩:=h.kept;obtain ⟨kvs,G,_⟩:=h.mu.ex;exact {{dx,s _ _ (λz=>by subst z;rw [S] at G;cases G) S},{⟨F,e,d'⟩,nd},{kk,s _ _ (OY h.ne) Z,d.imp λv a ⟨q,b',k',U,r,J,W,O,n4⟩=>{q,b',k',U,r.but s G J O,J,W,O,n4}},h.Vv,h.ne}
theorem zB.bP{p b k:Addr}{t:Tab}(h:zB A H p b k t ks)(s:But k H H')(e:H' k=some (.dK (sk F)))(d':Dct (dh A H' b k) F ks')(nd:(names ks').Nodup):zB A H' p b k t ks':=by
 obtain ⟨dx,J⟩:=h.ob;obtain ⟨kk,G,d⟩:=h.kept;exact {{dx,s _ _ (λz=>by subst z;rw [J] at G;cases G) J},h.mu.but s (λxs z=>by rw [z] at G;cases G) h.ne,⟨F,e,d'⟩,nd,h.ne}
theorem dh.but{b k:Addr}{t:Tab}(h:dh A H b k v t)(s:But k H H')(hx:H k=some (.dK kvs)):dh A H' b k v t:=let ⟨q,b',k',ev,r,n1,n2,n3,n4⟩:=h;{q,b',k',ev,r.but s hx n2 n4,n1,n2,n3,n4}
section
variable {P:NW}{w:Oc}{K:Frag}{mg:Str->Option Value}{base:Heap}{A:zk}{b k:Addr}
theorem bY:(zS b k).lookup ("births":Str)=some (.ref b):=by simp only [zS,Pp,beq_self_eq_true]
theorem dY:(zS b k).lookup ("kept":Str)=some (.ref k):=by simp only [zS,Pp,beq_self_eq_true,B7]
theorem Lm:(zS b k).lookup ("names":Str)=none:=by kernel_rfl
theorem gS:(zS b k).lookup ("many":Str)=none:=by kernel_rfl
theorem pK:(zS b k).lookup (Wg:Str)=none:=by kernel_rfl
theorem yS:(zS b k).lookup ("put":Str)=none:=by kernel_rfl
theorem KM:(zS b k).lookup ("cut":Str)=none:=by kernel_rfl
theorem AG:(zS b k).lookup ("hold":Str)=none:=by kernel_rfl
theorem Nd:(zS b k).lookup ("free":Str)=none:=by kernel_rfl
theorem Jp:(zS b k).lookup ("held":Str)=none:=by kernel_rfl
theorem Kn:(zS b k).lookup ("of_held":Str)=none:=by kernel_rfl
theorem Gg:(zS b k).lookup ("living":Str)=none:=by kernel_rfl
theorem xG:(zS b k).lookup ("copied":Str)=none:=by kernel_rfl
theorem p9:(zS b k).lookup ("bare":Str)=none:=by kernel_rfl
theorem A1:(zS b k).lookup ("keep":Str)=none:=by kernel_rfl
theorem lR:(zS b k).lookup (Wb:Str)=none:=by kernel_rfl
theorem mR:(zS b k).lookup (Wh:Str)=none:=by kernel_rfl
def mH(A:zk):Sp:=λvs H Q _=>∃(p dx:Addr),vs=[.ref p]/\H p=some (.ins A.nv dx [])/\∀b k H',But p H H'->H b=none->H k=none->H' b=some (.dK (sk []))->H' k=some (.dK (sk []))->b≠k->H' p=some (.ins A.nv dx (zS b k))->Q .non H'
theorem IA:zy Zj Zj (zl rQ):=fsc
theorem Kt(F:Fun K Wn "Files.__init__" rQ f fd)(T:Txt K mg A):zp P w K mg base CX0 true 1 f fd Zj (mH A):=by
 refine F.o IA λZW Z outer s H vs Q E hr h=>?_;obtain ⟨p,dx,rfl,hp,q⟩:=h;refine {_,(W.h (zg (eh T.mm T.mC (ze 0) eG)
   (zi (eh T.mm T.nT (ze 0) eG)))),?_}
 ac_rfl;refine λb H1 J=>{dx,[],J.same _ _ hp,'d',λk H2 G=>{dx,_,G.same _ _ zt,by show 1<1000;decide,?_}};have O:b≠p:=λz=>by have:=J.no;rw [z,hp] at this;cases this
 have kp:k≠p:=λz=>by have:=G.no;rw [z,zt] at this;cases this
 have k1:H1 k=none:=by have:=G.no;rw [zh kp] at this;exact this
 have U:z6 ("kept":Str) (V.ref k) (z6 ("births":Str) (V.ref b) [])=zS b k:=by simp only [z6,zS,Am,if_false]
 have S:H2 b=some (.dK []):=G.same _ _ (by rw [zh O];exact J.at_);rw [U];refine q b k _ (λa o n e=>?_) J.no (J.same.free k1) (by rw [zh O];exact S) (by rw [zh kp];exact G.at_) (λz=>?_) zt
 .rw [zh n];exact G.same _ _ (by rw [zh n];exact J.same _ _ e)
 .have:=G.no;rw [<- z,zh O,J.at_] at this;cases this
def tQ(A:zk):Sp:=λvs H Q _=>∃(p b k:Addr)(t:Tab)(ks:List (Str×Tab)),vs=[.ref p]/\bX A H p b k t ks/\t.length<64/\∀l H',New H l (.lst ((zP (names t)).map V.str)) H'->Q (.ref l) H'
theorem Ny:zy Zj Zj (zl o7):=fsc
theorem CY(F:Fun K "names" "Files.names" o7 f fd)(T:Txt K mg A):zp P w K mg base CX0 true 1 f fd Zj (tQ A):=by
 refine F.o Ny λS O outer s H vs Q E hr h=>?_;obtain ⟨p,b,k,t,ks,rfl,z,hl,q⟩:=h;refine {_,(W.h (zi (zw (zT (kG rfl) rfl T.zf Rq (za (aw T.mm T.mC (ze 0)) zd))))),?_};obtain ⟨dx,G⟩:=z.ob;obtain ⟨kvs,J,d⟩:=z.mu.ex;erw [G,bY];refine {kvs,J,by rw [d.length];exact hl,?_};rw [d.names];exact q
def lk(t:Tab)(n:Str):List Int:=(look t n).getD []
def ja(A:zk):Sp:=λvs H Q _=>∃(p b k:Addr)(t:Tab)(ks:List (Str×Tab))(n:Str),vs=[.ref p,.str n]/\bX A H p b k t ks/\∀H',zj H H'->Q (.int (lk t n).length) H'
theorem cS.get{t:Tab}(d:Dct (bG H) kvs t)(n:Str){p:Addr}(s:zj H H')(hp:H' p=some (.tup [])):∃a,(look kvs n).getD (.ref p) = .ref a/\H' a=some (.tup ((lk t n).map V.int)):=by
 rcases d.look n with ⟨v,l,F,z,a,G,ha⟩|⟨F,z⟩
 .exact {a,by rw [F,G];rfl,by unfold lk;rw [z];exact s _ _ ha}
 .exact {p,by rw [F];rfl,by unfold lk;rw [z];exact hp}
theorem FT:zy XQ XQ (zl rT):=fsc
theorem J9(F:Fun K "many" "Files.many" rT f fd)(T:Txt K mg A):zp P w K mg base CX0 true 1 f fd XQ (ja A):=by
 refine F.o FT λZ S outer s H vs Q E hr h=>?_;obtain ⟨p,b,k,t,ks,n,rfl,G,q⟩:=h;refine {_,(W.h (zi (zw (zT fh rfl T.sL OA (za (qF (zV hr) (aw T.mm T.mC (ze 0)) (ze 1) (dv zd)) zd))))),?_};obtain ⟨dx,O⟩:=G.ob;obtain ⟨kvs,J,d⟩:=G.mu.ex;erw [O,bY];refine {{_,J},O9 _,λU H2 z=>{_,Rd.same J z.same,?_}};obtain ⟨a,ea,ha⟩:=cS.get d n z.same z.at_;rw [bH,ea,qU];exact {_,.inr ha,by rw [NO];exact q H2 z.same}
theorem Dct.tf{α:Type}{R:V->α->Prop}{t:List (Str×α)}(d:Dct R kvs t)(n:Str):(look kvs n).isSome=(look t n).isSome:=by
 rcases d.look n with ⟨v,l,F,z,_⟩|⟨F,z⟩<;>rw [F,z]<;>rfl
def pB(A:zk):Sp:=λvs H Q _=>∃(p b k:Addr)(t:Tab)(ks:List (Str×Tab))(n:Str),vs=[.ref p,.str n]/\bX A H p b k t ks/\(look t n).isSome=true/\Q .non H
theorem Jg:zy XQ XQ (zl qw):=fsc
theorem FE(F:Fun K Wb "Files.refuse_if_none" qw f fd)(T:Txt K mg A):zp P w K mg base CX0 true 1 f fd XQ (pB A):=by
 refine F.o Jg λU S outer s H vs Q E hr h=>?_;obtain ⟨p,b,k,t,ks,n,rfl,z,G,q⟩:=h;refine {_,(W.h (zi (zL (zF (ow (zV hr)) (ze 1) (aw T.mm T.mC (ze 0)) rfl)
   (zi ig)
   zW))),?_}
 obtain ⟨dx,J⟩:=z.ob;obtain ⟨kvs,O,d⟩:=z.mu.ex;erw [J,bY];refine {_,O,?_};rw [bH,Dct.tf d n,G];exact jH q
def rV(A:zk):Sp:=λvs H Q _=>∃(p b k:Addr)(t:Tab)(ks:List (Str×Tab))(n:Str),vs=[.ref p,.str n]/\bX A H p b k t ks/\(look ks n).isSome=true/\Q .non H
theorem Gz:zy X1 X1 (zl qQ):=fsc
theorem Ef(F:Fun K Wh "Files.refuse_if_not_held" qQ f fd)(T:Txt K mg A):zp P w K mg base CX0 true 1 f fd X1 (rV A):=by
 refine F.o Gz λU S outer s H vs Q E hr h=>?_;obtain ⟨p,b,k,t,ks,n,rfl,z,G,q⟩:=h;refine {_,(W.h (zi (zL (zF (ow (zV hr)) (ze 1) (aw T.mm T.nT (ze 0)) rfl)
   (zi ig)
   zW))),?_}
 obtain ⟨dx,J⟩:=z.ob;obtain ⟨kk,O,d⟩:=z.kept;erw [J,dY];refine {_,O,?_};rw [bH,Dct.tf d n,G];exact jH q
abbrev qq:Stmt:=aC (top 32) 3
abbrev pH:Stmt:=aC (top 32) 4
abbrev nG:Stmt:=aC (top 32) 5
theorem om{i a b:Int}(h1:a<=i)(h2:i<=b):mq (.int i) a b=true:=by
 show (decide (a<=i)&&decide (i<=b))=true;rw [decide_eq_true h1,decide_eq_true h2];rfl
theorem k8(G:0<=i)(h1:i<=xs.length):aW xs none (some i)=xs.take i.toNat:=by
 have F:HT.sIx xs.length 0 none=0:=rfl;have z:HT.sIx xs.length xs.length (some i)=i.toNat:=by
  unfold HT.sIx;simp only;split<;>omega
 unfold aW;rw [F,z];simp
theorem AE{i:Int}(G:0<=i)(h1:i<=xs.length+1):aW xs (some i) none=xs.drop i.toNat:=by
 have F:HT.sIx xs.length xs.length none=xs.length:=rfl;have z:HT.sIx xs.length 0 (some i)=min i.toNat xs.length:=by
  unfold HT.sIx;simp only;split<;>omega
 unfold aW;rw [F,z];by_cases h:i.toNat<=xs.length
 .rw [Sj h,Ob (by rw [Qi];omega)]
 .rw [Nat.min_eq_right (by omega),QO (NV _),QO (by omega)];simp
def uu(A:zk):Sp:=λvs H Q _=>∃(p b k:Addr)(t:Tab)(ks:List (Str×Tab))(n:Str)(l:List Int)(i:Int),vs=[.ref p,.str n,.int i]/\bX A H p b k t ks/\look t n=some l/\0<=i/\i<l.length/\∀H',zj H H'->Q (.int (l.getD i.toNat 0)) H'
theorem EV:zy Wz Wz (zl qq):=fsc
theorem Gf(F:Fun K Wg "Files.birth" qq f fd)(T:Txt K mg A)(Z2:GM P w K mg base true 1 A.nv Wb XQ (pB A))(Z0:GM P w K mg base true 1 A.nv "many" XQ (ja A))(ZQ:GF P w K mg base true 2 V6 Xr lJ):zp P w K mg base CX0 true 4 f fd Wz (uu A):=by
 refine F.o EV λZW Ar outer s H vs Q E hr h=>?_;obtain ⟨p,b,k,t,ks,n,l,i,rfl,O,J,i0,i1,q⟩:=h;refine {_,(W.h (zg (ay (bT (ze 0) T.mm Z2 hr (za (ze 1) zd)))
   (zg (zL (cf (cE (zu ZQ hr rfl (za (ze 2) (za zo (za (zD ju (bT (ze 0) T.mm Z0 hr (za (ze 1) zd)) zo) zd))))))
   (zi ig)
   zW)
   (zi (zw (aN dz (aN (iD (zV hr)) (aw T.mm T.mC (ze 0)) (ze 1) (λ_ _=>rfl)) (ze 2) (λ_ _=>rfl))))))),?_}
 obtain ⟨dx,U⟩:=O.ob;erw [U,bY,lR,gS];refine {p,b,k,t,ks,n,rfl,O,by rw [J];rfl,?_};erw [U,bY,lR,gS];refine {p,b,k,t,ks,n,rfl,O,λH1 s1=>?_};have S:=O.same s1;obtain ⟨XN,WX⟩:=S.ob;obtain ⟨kvs,e2,d⟩:=S.mu.ex;have Z:lk t n=l:=by unfold lk;rw [J];rfl
 ac_rfl;refine {_,_,_,rfl,.int i,?_};rw [om i0 (by rw [Z];omega)];erw [WX,bY];refine {_,e2,?_};rcases d.look n with ⟨v,l',d1,G,a,ev,ha⟩|⟨_,G⟩
 .rw [J] at G;cases G;subst ev;refine {.ref a,by rw [bH];exact d1,?_};rw [kF];have hi:i.toNat<l.length:=by omega
  refine {_,.inr ha,.int (l.getD i.toNat 0),?_,q H1 s1};have z:atI (l.map V.int) ((i.toNat:Nat):Int)=some (.int (l[i.toNat])):=fT (by rw [Oe,NL hi];rfl);rw [show ((i.toNat:Nat):Int)=i by omega] at z;rw [z,Oq,NL hi];rfl
 .rw [J] at G;cases G
def pS(A:zk):Sp:=λvs H Q _=>∃(p b k:Addr)(t:Tab)(ks:List (Str×Tab))(n:Str)(i x:Int),vs=[.ref p,.str n,.int i,.int x]/\zB A H p b k t ks/\0<=i/\i<=(lk t n).length/\(lk t n).length<=4000/\t.length<=4000 /\
 ∀H',But b H H'->zB A H' p b k (zA t n ((lk t n).take i.toNat++[x]++(lk t n).drop (i.toNat+1))) ks->Q .non H'
theorem vP:zy ["self","file","place",Wg,"births"] WI (zl pH):=fsc
theorem K8(F:Fun K "put" "Files.put" pH f fd)(T:Txt K mg A)(Z0:GM P w K mg base true 1 A.nv "many" XQ (ja A))(ZQ:GF P w K mg base true 2 V6 Xr lJ):zp P w K mg base CX0 true 4 f fd WI (pS A):=by
 refine F.o vP λZW Ar outer s H vs Q E hr h=>?_;obtain ⟨p,b,k,t,ks,n,i,x,rfl,S,i0,i1,l1,t1,q⟩:=h;refine {_,(W.h (zg (zL (cf (cE (zu ZQ hr rfl (za (ze 2) (za zo (za (bT (ze 0) T.mm Z0 hr (za (ze 1) zd)) zd))))))
   (zi ig)
   zW)
   (zg (zr (i:=4) vP.nd rfl (NZ rfl) (qF (zV hr) (aw T.mm T.mC (ze 0)) (ze 1) (dv zd)))
   (zi (cO (zD kE (zD kE (cq oZ (ze 4) ck (cn (ze 2))) (dv (za (ze 3) zd))) (cq oZ (ze 4) (cn (zD kE (ze 2) zo)) ck)) (cN (aw T.mm T.mC (ze 0)) (ze 1) (fc (zV hr)))))))),?_}
 obtain ⟨dx,e1⟩:=S.ob;erw [e1,bY,gS];refine {p,b,k,t,ks,n,rfl,S.r,λH1 s1=>?_};have F1:=S.same s1;obtain ⟨XN,WX⟩:=F1.ob;obtain ⟨kvs,O,d⟩:=F1.mu.ex;ac_rfl;refine {_,_,_,rfl,.int i,?_};rw [om i0 i1];erw [WX,bY];refine {{_,.inl O},O9 _,λp1 H2 J=>{_,.inl (J.same _ _ O),?_}};obtain ⟨a,ea,ha⟩:=cS.get d n J.same J.at_;rw [bH,ea];erw [ha];intro p2 H3 s3 e3;refine {'d',λp3 H4 U=>?_};rw [k8 i0 (by rw [NO];exact i1)] at e3;have big:∀n:Nat,n<=100000->n<=sizeLine:=λn h=>Ol h 'd';refine .inr {_,U.same _ _ e3,_,U.at_,big _ (by simp;omega),λp4 H5 s5 e5=>?_};have Z:=s5 _ _ (U.same _ _ (s3 _ _ ha));refine .inr {_,Z,λp6 H6 s6 e6=>?_};rw [AE (by omega) (by rw [NO];omega)] at e6;refine .inr {_,s6 _ _ e5,_,e6,big _ (by simp;omega),λp7 H7 s7 e7=>?_};have G:zj H1 H7:=((((J.same.trans s3).trans U.same).trans s5).trans s6).trans s7;have F7:=F1.same G;obtain ⟨av,ak⟩:=F7.ob;erw [ak,bY];refine {_,G _ _ O,by rw [cH,d.length];exact OB t1 'd',?_};rw [d6];have bt:∀xs,H7 b≠some (.tup xs):=λxs z=>by rw [G _ _ O] at z;cases z
 have et:(i+1).toNat=i.toNat+1:=by omega
 have d7:Dct (bG H7) kvs t:=d.imp λv a r=>r.same G;have r7:bG H7 (.ref p7) ((lk t n).take i.toNat++[x]++(lk t n).drop (i.toNat+1)):={p7,rfl,by rw [e7,et];simp [Ts,map_drop]};refine q _ (λc o nc e=>by rw [zh nc];exact G _ _ (s1 _ _ e)) (F7.setB But.upd zt ((d7.put n r7).imp λv a r=>r.but But.upd bt) (fC S.mu.nd))
def dy(t:Tab)(n:Str)(m:Int):Tab:=if m=0 then zM t n else zA t n ((lk t n).take m.toNat)
def yi(A:zk):Sp:=λvs H Q _=>∃(p b k:Addr)(t:Tab)(ks:List (Str×Tab))(n:Str)(l:List Int)(m:Int),vs=[.ref p,.str n,.int m]/\zB A H p b k t ks/\look t n=some l/\0<=m/\m<=l.length/\t.length<=1000/\∀H',But b H H'->zB A H' p b k (dy t n m) ks->Q .non H'
theorem IK:zy Wy Wy (zl nG):=fsc
theorem JP(F:Fun K "cut" "Files.cut" nG f fd)(T:Txt K mg A)(Z2:GM P w K mg base true 1 A.nv Wb XQ (pB A))(Z0:GM P w K mg base true 1 A.nv "many" XQ (ja A))(ZQ:GF P w K mg base true 2 V6 Xr lJ):zp P w K mg base CX0 true 4 f fd Wy (yi A):=by
 refine F.o IK λZW Ar outer s H vs Q E hr h=>?_;obtain ⟨p,b,k,t,ks,n,l,m,rfl,J,U,m0,m1,t1,q⟩:=h;have hu:_<cLine:=Oy (zV hr);refine {_,(W.h (zg (ay (bT (ze 0) T.mm Z2 hr (za (ze 1) zd)))
   (zg (zL (cf (cE (zu ZQ hr rfl (za (ze 2) (za zo (za (bT (ze 0) T.mm Z0 hr (za (ze 1) zd)) zd))))))
   (zi ig)
   zW)
   (zi (zL (zF (bS hu) (ze 2) zo (zE _))
   (zi (sZ (aw T.mm T.mC (ze 0)) (ze 1)))
   (zi (cO (cq oZ (aN (iD (zV hr)) (aw T.mm T.mC (ze 0)) (ze 1) (λ_ _=>rfl)) ck (cn (ze 2))) (cN (aw T.mm T.mC (ze 0)) (ze 1) (fc (zV hr)))))))))),?_}
 obtain ⟨dx,e1⟩:=J.ob;erw [e1,bY,lR,gS];refine {p,b,k,t,ks,n,rfl,J.r,by rw [U];rfl,?_};erw [e1,bY,lR,gS];refine {p,b,k,t,ks,n,rfl,J.r,λH1 s1=>?_};have S:=J.same s1;obtain ⟨XN,WX⟩:=S.ob;obtain ⟨kvs,O,d⟩:=S.mu.ex;have el:lk t n=l:=by unfold lk;rw [U];rfl
 ac_rfl;refine {_,_,_,rfl,.int m,?_};rw [om m0 (by rw [el];omega)];erw [WX,bY];have bt:∀xs,H1 b≠some (.tup xs):=λxs z=>by rw [O] at z;cases z
 obtain ⟨v,l',Z,G,a,ev,ha⟩:∃v l',look kvs n=some v/\look t n=some l'/\bG H1 v l':=by
  rcases d.look n with ⟨v,l',Z,G,r⟩|⟨_,G⟩
  .exact ⟨v,l',Z,G,r⟩
  .rw [U] at G;cases G
 rw [U] at G;cases G;subst ev;refine aF (λh=>?_) (λh=>?_)
 .have hm:m=0:=of_decide_eq_true h;refine {_,O,by rw [bH,Z];rfl,?_};rw [mY];have ec:dy t n m=zM t n:=if_pos hm;refine q _ (λc o nc e=>by rw [zh nc];exact s1 _ _ e) ?_;rw [ec];exact S.setB But.upd zt ((d.drop n).imp λv a r=>r.but But.upd bt) (jz J.mu.nd)
 .have hm : ¬ m=0:=λz=>h (decide_eq_true z);refine {_,.inl O,.ref a,by rw [bH];exact Z,?_};erw [ha];intro p2 H2 s2 ep;rw [k8 m0 (by rw [NO];exact m1)] at ep;have F2:=S.same s2;obtain ⟨X3,ak⟩:=F2.ob;erw [ak,bY];refine {_,s2 _ _ O,by rw [cH,d.length];exact OB t1 'd',?_};rw [d6];have av:∀xs,H2 b≠some (.tup xs):=λxs z=>by rw [s2 _ _ O] at z;cases z
  have G:Dct (bG H2) kvs t:=d.imp λv a r=>r.same s2;have r2:bG H2 (.ref p2) ((lk t n).take m.toNat):={p2,rfl,by rw [ep,el,Ts]};have ec:dy t n m=zA t n ((lk t n).take m.toNat):=if_neg hm;refine q _ (λc o nc e=>by rw [zh nc];exact s2 _ _ (s1 _ _ e)) ?_;rw [ec];exact F2.setB But.upd zt ((G.put n r2).imp λv a r=>r.but But.upd av) (fC J.mu.nd)
abbrev nS:Stmt:=aC (top 32) 6
abbrev qc:Stmt:=aC (top 32) 7
abbrev og:Stmt:=aC (top 32) 8
abbrev qZ:Stmt:=aC (top 32) 9
abbrev rN:Stmt:=aC (top 32) 12
abbrev qd:Stmt:=aC (top 32) 13
def AH(A:zk):Sp:=λvs H Q _=>∃(p b k:Addr)(t:Tab)(ks:List (Str×Tab)),vs=[.ref p]/\bX A H p b k t ks/\ks.length<64/\∀l H',New H l (.lst ((zP (names ks)).map V.str)) H'->Q (.ref l) H'
theorem Iw:zy Zj Zj (zl og):=fsc
theorem BJ(F:Fun K "held" "Files.held" og f fd)(T:Txt K mg A):zp P w K mg base CX0 true 1 f fd Zj (AH A):=by
 refine F.o Iw λS O outer s H vs Q E hr h=>?_;obtain ⟨p,b,k,t,ks,rfl,z,hl,q⟩:=h;refine {_,(W.h (zi (zw (zT (kG rfl) rfl T.zf Rq (za (aw T.mm T.nT (ze 0)) zd))))),?_};obtain ⟨dx,G⟩:=z.ob;obtain ⟨kk,J,d⟩:=z.kept;erw [G,dY];refine {kk,J,by rw [d.length];exact hl,?_};rw [d.names];exact q
structure Has(A:zk)(H:Hp)(p:Addr)(t:Tab):Prop where
 ob:∃b k dx,H p=some (.ins A.nv dx (zS b k))/\dF H b t
theorem zB.has{p:Addr}{t:Tab}(h:zB A H p b k t ks):Has A H p t:=let ⟨dx,e⟩:=h.ob;⟨b,k,dx,e,h.mu.r⟩
theorem aU.has{p:Addr}{t:Tab}(h:aU A H p b k t):Has A H p t:=let ⟨dx,e⟩:=h.ob;⟨b,k,dx,e,h.mu⟩
def kB(A:zk):Sp:=λvs H Q _=>∃(p:Addr)(t:Tab),vs=[.ref p]/\Has A H p t/\∀q z k' H',zj H H'->H z=none->H k'=none->H q=none->aU A H' q z k' t->cS H' z t->Q (.ref q) H'
theorem yL:zy ["self","other"] Zj (zl rN):=fsc
theorem MW(F:Fun K "bare" "Files.bare" rN f fd)(T:Txt K mg A)(Zi:GC P w K mg base true 1 "Files" A.nv Zj (mH A)):zp P w K mg base CX0 true 3 f fd Zj (kB A):=by
 refine F.o yL λZW Ar outer s H vs Q E hr h=>?_;obtain ⟨p,t,rfl,⟨b,k,dx,e1,hB⟩,q⟩:=h;refine {_,(W.h (zg (zr (i:=1) yL.nd rfl (NZ rfl) (o9 Zi hr rfl))
   (zg (eh T.mm T.mC (ze 1) (bc rL rfl T.VD boot_dict (za (aw T.mm T.mC (ze 0)) zd)))
   (zi (zw (ze 1)))))),?_}
 obtain ⟨kvs,e2,d⟩:=hB.ex;erw [e1,bY];refine λx U H2 S=>{x,U,rfl,S.at_,λb1 k1 H3 s3 nb nk eb ek ax ex=>{rfl,?_}};have px:∀c o,H c=some o->c≠x:=λc o e z=>by have:=S.no;rw [<- z,e] at this;cases this
 have Z:∀c o,H c=some o->H3 c=some o:=λc o e=>s3 c o (px c o e) (S.same c o e);have ak:=Z _ _ e1;erw [ak,bY];refine {_,Rd.same e2 Z,λJ H4 G=>{U,_,G.same _ _ ex,by show 2<1000;decide,?_}};have eF:z6 ("births":Str) (V.ref J) (zS b1 k1)=zS J k1:=by simp only [z6,zS,if_true]
 rw [eF];have O:J≠x:=λz=>by have:=G.no;rw [z,ex] at this;cases this
 have av:k1≠x:=λz=>by rw [z,ex] at ek;cases ek
 have sF:zj H (upd H4 x (.ins A.nv U (zS J k1))):=λc o e=>by rw [zh (px c o e)];exact G.same _ _ (Z c o e)
 have fr:∀c,H3 c=none->H c=none:=λc e=>by
  cases h:H c with
  | none=>rfl
  | some o=>rw [Z c o h] at e;cases e
 have k0:H k1=none:=S.same.free nk;refine q x J k1 _ sF (fr J G.no) k0 S.no {⟨U,zt⟩,{{kvs,.inl (by rw [zh O];exact G.at_),d.imp λv a r=>r.same sF},hB.nd},.inl (by rw [zh av];exact G.same _ _ ek)} {{kvs,by rw [zh O];exact G.at_,d.imp λv a r=>r.same sF},hB.nd}
theorem fi{α:Type}{t:List (Str×α)}{a:α}{p:Str×α}(h:p∈zA t n a):p∈t\/p=(n,a):=by
 unfold zA at h;split at h
 .obtain ⟨q,z,e⟩:=OE.mp h;by_cases c:q.1=n
  .rw [if_pos c] at e;right;rw [<- e,c]
  .rw [if_neg c] at e;left;rw [<- e];exact z
 .rcases Ox.mp h with h|h
  .exact .inl h
  .exact .inr (by simpa using h)
def aq(A:zk)(H:Hp)(k c:Addr):Prop:=∀kvs,H k=some (.dK kvs)->∀pv∈kvs,∀q z k' dx,pv.2 = .ref q->H q=some (.ins A.nv dx (zS z k'))->z≠c/\k'≠c
theorem ll{b k z k':Addr}(h:zS b k=zS z k'):b=z/\k=k':=by
 unfold zS at h;injection h with h1 h2
 injection h1 with _ h1
 injection h2 with h2 _
 injection h2 with _ h2
 injection h1 with h1
 injection h2 with h2
 exact ⟨h1,h2⟩
def qp(A:zk):Sp:=λvs H Q _=>∃(p b k:Addr)(t:Tab)(ks:List (Str×Tab))(n:Str)(q:Addr)(u:Tab),vs=[.ref p,.str n,.ref q]/\zB A H p b k t ks/\Has A H q u/\ks.length<=4000/\∀H',But k H H'->zB A H' p b k t (zA ks n u)->(∀c,H c≠none->aq A H k c->aq A H' k c)->Q .non H'
theorem Fs:zy WH WH (zl qd):=fsc
theorem BU(F:Fun K "keep" "Files.keep" qd f fd)(T:Txt K mg A)(ZR:GM P w K mg base true 3 A.nv "bare" Zj (kB A)):zp P w K mg base CX0 true 4 f fd WH (qp A):=by
 refine F.o Fs λZW Ar outer s H vs Q E hr h=>?_;obtain ⟨p,b,k,t,ks,n,qa,u,rfl,Z,hQ,kl,q⟩:=h;refine {_,(W.h (zi (cO (cc (ze 2) T.mm ZR hr) (cN (aw T.mm T.nT (ze 0)) (ze 1) (fc (zV hr)))))),?_};obtain ⟨dx,e1⟩:=Z.ob;obtain ⟨bq,kq,bb,a5,_⟩:=hQ.ob;erw [a5,p9];refine {qa,u,rfl,hQ,λx b' k' H1 s1 nb nk nx hB _=>?_};have F1:=Z.same s1;obtain ⟨a8,XH⟩:=F1.ob;obtain ⟨kk,e2,d⟩:=F1.kept;obtain ⟨bp,eb,_⟩:=Z.mu.ex;obtain ⟨ba,ek,_⟩:=Z.kept;erw [XH,dY];refine {_,e2,by rw [cH,d.length];exact OB kl 'd',?_};rw [d6];have ne:∀c o,H c=some o->∀e,H e=none->e≠c:=λc o h e he z=>by rw [z,h] at he;cases he
 have r:dh A H1 b k (.ref x) u:={x,b',k',rfl,hB,ne _ _ eb _ nb,ne _ _ ek _ nb,ne _ _ eb _ nk,ne _ _ ek _ nk};refine q _ (λc o nc e=>by rw [zh nc];exact s1 _ _ e) (F1.bP But.upd zt ((d.put n r).imp λv a r=>r.but But.upd e2) (fC Z.Vv)) λc hc av kvs hk pv XZ q1 b1 k1 a8 U J=>?_;rw [zt] at hk;cases hk;have qk:q1≠k:=λz=>by rw [z,zt] at J;cases J
 rw [zh qk] at J;unfold sk at XZ;obtain ⟨a4,ak,rfl⟩:=OE.mp XZ;have U:a4.2 = .ref q1:=U;rcases fi ak with h|rfl
 .obtain ⟨S,a3,a6⟩:=Z.kept;have:=s1 _ _ a3;rw [e2] at this;have a9:S.map (·.2)=kk.map (·.2):=by
   have h2:sk S=sk kk:=by injection this with this;injection this with this;exact this.symm
   have h3:=congrArg (List.map (·.2)) h2;unfold sk at h3;rw [PK,PK] at h3;exact h3
  have hm:a4.2∈S.map (·.2):=by rw [a9];exact OE.mpr {_,h,rfl}
  obtain ⟨pw,a0,ax⟩:=OE.mp hm;obtain ⟨j,hj,ej⟩:=PX a0;obtain ⟨a2,_,q2,b2,k2,aI,a7,_⟩:=Dct.at a6 (NL hj);rw [ej,ax,U] at aI;cases aI;obtain ⟨X3,O⟩:=a7.ob;have G:=s1 _ _ O;rw [J] at G;injection G with G
  injection G with _ _ G
  obtain ⟨r1,r2⟩:=ll G;subst r1 r2;exact av _ a3 _ (by unfold sk;exact OE.mpr {pw,a0,rfl}) q1 b1 k1 X3 (show pw.2=_ by rw [ax,U]) O
 .have U:V.ref x = .ref q1:=U;cases U;obtain ⟨X3,O⟩:=hB.ob;rw [J] at O;injection O with O
  injection O with _ _ O
  obtain ⟨r1,r2⟩:=ll O;subst r1 r2;exact {λz=>hc (by rw [<- z];exact nb),λz=>hc (by rw [<- z];exact nk)}
def uk(A:zk):Sp:=λvs H Q _=>∃(p b k:Addr)(t:Tab)(ks:List (Str×Tab))(n:Str),vs=[.ref p,.str n]/\zB A H p b k t ks/\look ks n=none/\ks.length<=4000/\∀H',But k H H'->zB A H' p b k t (zA ks n t)->(∀c,H c≠none->aq A H k c->aq A H' k c)->Q .non H'
theorem Js:zy X1 X1 (zl nS):=fsc
theorem Jc(F:Fun K "hold" "Files.hold" nS f fd)(T:Txt K mg A)(S:GM P w K mg base true 4 A.nv "keep" WH (qp A)):zp P w K mg base CX0 true 5 f fd X1 (uk A):=by
 refine F.o Js λZW Z outer s H vs Q E hr h=>?_;obtain ⟨p,b,k,t,ks,n,rfl,z,G,O,q⟩:=h;refine {_,(W.h (zg (zL (zF (Nj (zV hr)) (ze 1) (aw T.mm T.nT (ze 0)) rfl)
   (zi ig)
   zW)
   (zi (ay (bT (ze 0) T.mm S hr (za (ze 1) (za (ze 0) zd))))))),?_}
 obtain ⟨dx,J⟩:=z.ob;obtain ⟨kk,U,d⟩:=z.kept;erw [J,dY,A1];refine {_,.inl U,?_};rw [bH,Dct.tf d n,G];exact jH {p,b,k,t,ks,n,p,t,rfl,z,z.has,O,q}
def AR(A:zk):Sp:=λvs H Q _=>∃(p b k:Addr)(t:Tab)(ks:List (Str×Tab))(n:Str),vs=[.ref p,.str n]/\zB A H p b k t ks/\(look ks n).isSome=true/\∀H',But k H H'->zB A H' p b k t (zM ks n)->(∀c,aq A H k c->aq A H' k c)->Q .non H'
theorem Ez:zy X1 X1 (zl qc):=fsc
theorem FZ(F:Fun K "free" "Files.free" qc f fd)(T:Txt K mg A)(Z5:GM P w K mg base true 1 A.nv Wh X1 (rV A)):zp P w K mg base CX0 true 3 f fd X1 (AR A):=by
 refine F.o Ez λZW Ar outer s H vs Q E hr h=>?_;obtain ⟨p,b,k,t,ks,n,rfl,O,hn,q⟩:=h;refine {_,(W.h (zg (ay (bT (ze 0) T.mm Z5 hr (za (ze 1) zd)))
   (zi (sZ (aw T.mm T.nT (ze 0)) (ze 1))))),?_}
 obtain ⟨dx,e1⟩:=O.ob;obtain ⟨kk,Z,d⟩:=O.kept;erw [e1,dY,mR];refine {p,b,k,t,ks,n,rfl,O.r,hn,?_};erw [e1,dY,mR];refine {_,Z,by rw [bH,Dct.tf d n];exact hn,?_};rw [mY];refine q _ But.upd (O.bP But.upd zt ((d.drop n).imp λv a r=>r.but But.upd Z) (jz O.Vv)) λc av kvs hk pv XZ q1 b1 k1 U ev G=>?_;rw [zt] at hk;cases hk;have qk:q1≠k:=λz=>by rw [z,zt] at G;cases G
 rw [zh qk] at G;refine av _ Z pv ?_ q1 b1 k1 U ev G;unfold sk zM at XZ;obtain ⟨S,J,rfl⟩:=OE.mp XZ;unfold sk;exact OE.mpr {S,(Sq.mp J).1,rfl}
def yw(A:zk):Sp:=λvs H Q _=>∃(p b k:Addr)(t:Tab)(ks:List (Str×Tab))(n:Str)(u:Tab),vs=[.ref p,.str n]/\bX A H p b k t ks/\look ks n=some u/\∀q z k' H',zj H H'->H z=none->H k'=none->H q=none->aU A H' q z k' u->cS H' z u->Q (.ref q) H'
theorem JB:zy X1 X1 (zl qZ):=fsc
theorem Ig(F:Fun K "of_held" "Files.of_held" qZ f fd)(T:Txt K mg A)(Z5:GM P w K mg base true 1 A.nv Wh X1 (rV A))(ZR:GM P w K mg base true 3 A.nv "bare" Zj (kB A)):zp P w K mg base CX0 true 4 f fd X1 (yw A):=by
 refine F.o JB λZW Ar outer s H vs Q E hr h=>?_;obtain ⟨p,b,k,t,ks,n,u,rfl,J,G,q⟩:=h;refine {_,(W.h (zg (ay (bT (ze 0) T.mm Z5 hr (za (ze 1) zd)))
   (zi (zw (cc (aN (iD (zV hr)) (aw T.mm T.nT (ze 0)) (ze 1) (λ_ _=>rfl)) T.mm ZR hr))))),?_}
 obtain ⟨dx,Z⟩:=J.ob;obtain ⟨kk,e2,d⟩:=J.kept;erw [Z,dY,mR];refine {p,b,k,t,ks,n,rfl,J,by rw [G];rfl,?_};erw [Z,dY,mR];refine {_,e2,?_};rcases d.look n with ⟨v,u',d1,z,x,b',k',ev,U,_⟩|⟨_,z⟩
 .rw [G] at z;cases z;subst ev;obtain ⟨S,O⟩:=U.ob;refine {.ref x,by rw [bH];exact d1,x,rfl,S,_,O,p9,x,u,rfl,U.has,q}
 .rw [G] at z;cases z
theorem Nb(a b:Str):leS a b\/leS b a:=by
 unfold leS;rw [ltCps_eq,ltCps_eq];by_cases h:Qx.blt b.cps.toList a.cps.toList=true
 .exact .inr (KeyOrd.klt_asymm (O:=Qx.toKeyOrd) h)
 .exact .inl (by simpa using h)
theorem CC{a b c:Str}(h1:leS a b)(h2:leS b c):leS a c:=by
 unfold leS at *
 rw [ltCps_eq] at *
 exact KeyOrd.kle_trans (O:=Qx.toKeyOrd) h1 h2
theorem um(x:Str):∀l:List Str,l.Pairwise leS->∃m:List Str,m.Perm (x::l)/\m.Pairwise leS
 | [],_=>{[x],Perm.refl _,'z'}
 | y::l,h=>by
  rcases Nb x y with hx|hx
  .refine {x::y::l,Perm.refl _,Pf.mpr {λz hz=>?_,h}};rcases NT.mp hz with rfl|hz
   .exact hx
   .exact CC hx ((Pf.mp h).1 z hz)
  .obtain ⟨m,p,hm⟩:=um x l (Pf.mp h).2;refine {y::m,(Perm.cons y p).trans (Perm.swap x y l),Pf.mpr {λz hz=>?_,hm}};rcases NT.mp (p.mem_iff.mp hz) with rfl|hz
   .exact hx
   .exact (Pf.mp h).1 z hz
theorem y8:∀ks:List Str,∃z:List Str,z.Perm ks/\z.Pairwise leS
 | []=>{[],Perm.refl _,.nil}
 | x::ks=>by
  obtain ⟨z,p,h⟩:=y8 ks;obtain ⟨m,p2,h2⟩:=um x z h;exact {m,p2.trans (Perm.cons x p),h2}
theorem bU(ks:List Str):(zP ks).Perm ks/\(zP ks).Pairwise leS:=by
 obtain ⟨z,p,h⟩:=y8 ks;have e:=wG p (sortedS_of_pairwise z h);rw [<- e];exact ⟨p,h⟩
theorem yt{α:Type}{t u:List (Str×α)}(h:bg t u)(F:(names t).Nodup)(z:(names u).Nodup):t.length=u.length:=by
 have:=(h.names F z).length_eq;simpa [names] using this
theorem aU.files{t:Tab}(h:aU A H q b k t):bX A H q b k t []:={h.ob,h.mu,{[],h.kept,.nil},by simp [names]}
end
abbrev i8:Stmt:=aC (top 32) 10
theorem FS.freeze{d:Addr}{o:Obj}(e:H d=some (.dK kvs)):FS H (upd H d (.frz o (.dK kvs))):=by
 refine {λa u n m h=>?_,λa xs r=>?_}
 .rw [zh (λz=>by subst z;rw [e] at h;cases h;exact n _ rfl)];exact h
 .by_cases z:a=d
  .subst z;rcases r with r|⟨o',r⟩
   .rw [e] at r;cases r;exact .inr ⟨o,zt⟩
   .rw [e] at r;cases r
  .unfold Rd;rw [zh z];exact r
theorem FS.Ub{d:Addr}{o:Obj}(e:H d=some (.frz o (.dK kvs))):FS H (upd H d (.dK kvs)):=by
 refine {λa u n m h=>?_,λa xs r=>?_}
 .rw [zh (λz=>by subst z;rw [e] at h;cases h;exact m _ _ rfl)];exact h
 .by_cases z:a=d
  .subst z;rcases r with r|⟨o',r⟩
   .rw [e] at r;cases r
   .rw [e] at r;cases r;exact .inl zt
  .unfold Rd;rw [zh z];exact r
theorem jJ{α β:Type}{R:α->β->Prop}{z J:List α}{F G:List β}(h1:Paired R z F)(h2:Paired R J G):Paired R (z++J) (F++G):=by
 induction h1 with
 | nil=>exact h2
 | cons r _ O=>exact .cons r O
def zI(t:Tab):List Int:=t.flatMap (·.2)
def aa(t:Tab)(ks:List (Str×Tab)):List Int:=zI t++ks.flatMap λp=>zI p.2
section
variable {P:NW}{w:Oc}{K:Frag}{mg:Str->Option Value}{base:Heap}{A:zk}
def qj(H:Hp)(v:V)(t:Tab):Prop:=∃b,v = .ref b/\dF H b t
theorem FL:ns.length<=(zN ns n).length:=by
 unfold zN;split
 .exact NV _
 .simp
theorem iB:∀{l ns:List Int},ns.length<=(l.foldl zN ns).length
 | [],ns=>NV _
 | n::l,ns=>Ol (FL (n:=n)) (iB (l:=l) (ns:=zN ns n))
theorem vB{l ns:List Int}:((l.take i).foldl zN ns).length<=(l.foldl zN ns).length:=by
 have h:=iB (l:=l.drop i) (ns:=(l.take i).foldl zN ns);rw [<- PD,QD] at h;exact h
theorem uE{l ns:List Int}(h:l[i]?=some n):(l.take (i+1)).foldl zN ns=zN ((l.take i).foldl zN ns) n:=by
 rw [OU,h,PD];rfl
theorem BF{a:Addr}{l:List Int}(h:F a=some (.tup (l.map V.int)))(few:(l.foldl zN ns).length<3000)(hN:∀z',N [x,y,z'] (l.foldl zN ns) F):
  dw (Itt K a) (cU 2) (gp (d8 2)) [x,y,z] ns F N:=by
 refine dw.tup (xs:=l.map V.int) (λi G J H'=>H'=F/\(∃z',G=[x,y,z'])/\J=(l.take i).foldl zN ns) (λi G ns H ⟨e,_⟩=>e ▸ .inl (.inl h)) {rfl,{z,rfl},rfl} ?_ ?_
 .rintro N' i v G J H' hv ⟨rfl,⟨z',rfl⟩,rfl⟩ O;rw [Oe] at hv;obtain ⟨n,S,rfl⟩:=Ou.mp hv;ac_rfl;exact {OB vB few,O _ _ _ {rfl,{_,rfl},(uE S).symm}}
 .rintro G J H' ⟨rfl,⟨z',rfl⟩,rfl⟩;rw [NO,Ob (NV _)];exact hN z'
theorem oV{u:Tab}{p:Str×List Int}(h:u[i]?=some p):zI (u.take (i+1))=zI (u.take i)++p.2:=by
 unfold zI;rw [OU,h,QG];simp
theorem u6:∃r,zI u=zI (u.take i)++r:={zI (u.drop i),by unfold zI;rw [<- QG,QD]}
theorem AL{d:Addr}{o:Obj}(h:G d=some (.frz o (.dK (sk kvs))))(W:Dct (bG G) kvs u)(few:((zI u).foldl zN ns).length<3000)(hN:∀F z',N [x,F,z'] ((zI u).foldl zN ns) G):
  dw (Itw d o (sk kvs)) (cU 1) (gI (j4 K (d8 1)) (cU 2) (gp (d8 2))) [x,y,z] ns G N:=by
 have hl:=W.length;refine dw.vals (λi J O H'=>H'=G/\(∃F z',J=[x,F,z'])/\O=(zI (u.take i)).foldl zN ns) (λi J ns H ⟨e,_⟩=>e ▸ h) {rfl,{y,z,rfl},rfl} ?_ ?_
 .rintro N' i p J O H' hp ⟨rfl,⟨F,z',rfl⟩,rfl⟩ S;obtain ⟨pv,Z,rfl⟩:∃pv,kvs[i]?=some pv/\p=(.inr pv.1,pv.2):=by
   unfold sk at hp;rw [Oe] at hp;obtain ⟨pv,e1,e2⟩:=Ou.mp hp;exact ⟨pv,e1,e2.symm⟩
  obtain ⟨l,U,a,ea,ha⟩:=Dct.at W Z;erw [ea];have fw:(l.foldl zN ((zI (u.take i)).foldl zN ns)).length<3000:=by
   have hs:=oV U;rw [<- PD,<- hs];obtain ⟨r,e⟩:=u6 (u:=u) (i:=i+1);rw [e,PD] at few;exact OB iB few
  refine {{_,.inl (.inl ha)},BF ha fw λz2=>S _ _ _ {rfl,{_,_,rfl},?_}};have hs:=oV U;rw [<- PD,<- hs]
 .rintro J O H' ⟨rfl,⟨F,z',rfl⟩,rfl⟩;have e:(sk kvs).length=u.length:=by rw [<- hl];simp [sk]
  rw [e,Ob (NV _)];exact hN F z'
structure LvI(Hf:Hp)(k:Addr)(o:Obj)(kk:List (Str×V))(ks:List (Str×Tab))(i:Nat)(τ:L2.St)(ys:List V)(H':Hp):Prop where
 ex:∃t1,τ=[t1]
 ys:Paired (qj Hf) ys ((ks.take i).map (·.2))
 same:zj Hf H'
structure OuI(H4:Hp)(us:List Tab)(i:Nat)(τ:L2.St)(ns:List Int)(H':Hp):Prop where
 ex:∃x y z,τ=[x,y,z]
 ns:ns=((us.take i).flatMap zI).foldl zN []
 same:zj H4 H'
def vg(A:zk):Sp:=λvs H Q _=>∃(p b k:Addr)(t:Tab)(ks:List (Str×Tab)),vs=[.ref p]/\zB A H p b k t ks/\(uniq (aa t ks)).length<64/\ks.length<=4000 /\
 ∀l (ns:List Int) H',zj H H'->H l=none->H' l=some (.lst (ns.map V.int))->ns.Perm (uniq (aa t ks))->ns.Pairwise (·<=·)->Q (.ref l) H'
theorem yx:zy ["self","tables"] Zj (zl i8):=fsc
theorem CZ:bO { kind:=.function,names:=[(NS ".0",.local),(NS "files",.local)],isGenerator:=false,isCoroutine:=false,more:=[] } (zl i8).names ["self","tables"] Wv [none]=true:=by decide +kernel
theorem Gr:(Wv:List Str).Nodup:=by decide +kernel
theorem MK:bO { kind:=.function,names:=[(NS ".0",.local),(NS "table",.local),(NS "births",.local),(NS "birth",.local)],isGenerator:=false,isCoroutine:=false,more:=[] } (zl i8).names ["self","tables"] ["table","births",Wg] [none,none,none]=true:=by decide +kernel
theorem qx:(["table","births",Wg]:List Str).Nodup:=by decide +kernel
theorem Jn(F:Fun K "living" "Files.living" i8 f fd)(T:Txt K mg A):zp P w K mg base CX0 true 1 f fd Zj (vg A):=by
 refine F.o yx λZW Ar outer s H vs Q E hr h=>?_;obtain ⟨p,b,k,t,ks,rfl,hF,Xs,hk,q⟩:=h;refine {_,(W.h (zg (zr (i:=1) yx.nd rfl (NZ rfl) (zD cx (ar (za (aw T.mm T.mC (ze 0)) zd)) (LB (cY (λ_=>rfl) (aA.of CZ) (rZ (aw T.mm T.nT (ze 0))) (λ_ _ _ _ _=>(zO (i:=0) Gr rfl (NZ rfl))) (λ_ _ _ _ _=>di) (λ_ _ _ _ _=>(aw T.mm T.mC (ze 0)))))))
   (zi (zw (zT (G3 rfl) rfl T.zf Rq (za (IY (λ_=>rfl) (λ_=>rfl) (λ_=>rfl) (aA.of MK) (cQ (ze 1)) (λ_ _ _ _ _=>(zO (i:=0) qx rfl (NZ rfl))) (λ_ _ _ _ _=>(rZ (ze 0))) (λ_ _ _ _ _=>(zO (i:=1) qx rfl (NZ rfl))) (λ_ _ _ _ _=>(La (ze 1))) (λ_ _ _ _ _=>(zO (i:=2) qx rfl (NZ rfl))) (λ_ _ _ _ _=>(ze 2))) zd)))))),?_}
 obtain ⟨dx,S⟩:=hF.ob;obtain ⟨kk,Z,d⟩:=hF.kept;erw [S,bY,dY];refine {'d',λlb H1 G bq=>{k,sk kk,G.same _ _ Z,λo=>?_}};have pk:p≠k:=λz=>by rw [z,Z] at S;cases S
 have hf:upd H1 k (.frz o (.dK (sk kk))) p=some (.ins A.nv dx (zS b k)):=by rw [zh pk];exact G.same _ _ S
 have fs:FS H (upd H1 k (.frz o (.dK (sk kk)))):=(FS.of G.same).trans (.freeze (G.same _ _ Z));erw [hf,dY];refine {o,sk kk,zt,aK.vals (LvI (upd H1 k (.frz o (.dK (sk kk)))) k o kk ks) (λi U ys H' I=>?_) (λi U ys H' I=>I.same _ _ zt) {{_,rfl},by rw [SZ];exact .nil,zj.refl _} ?_ ?_}
 .have:=I.ys.length;have h2:=Q9 i ks;rw [NO] at this;exact OB (show ys.length<=4000 by omega) 'd'
 .intro N i pv U ys H' hp I hN;obtain ⟨t1,rfl⟩:=I.ex;obtain ⟨qv,a4,rfl⟩:∃qv,kk[i]?=some qv/\pv=(.inr qv.1,qv.2):=by
   unfold sk at hp;rw [Oe] at hp;obtain ⟨pv,S,Z⟩:=Ou.mp hp;exact ⟨pv,S,Z.symm⟩
  obtain ⟨u,hu,q1,b1,k1,a3,hB,bp,ba,_⟩:=Dct.at d a4;have ak:=hB.fs fs;obtain ⟨bb,XH⟩:=ak.ob;have a0:=I.same _ _ XH;erw [a3,a0,bY];refine hN _ _ _ {{_,rfl},?_,I.same};rw [OU,hu,OI];exact jJ I.ys (.cons {b1,rfl,ak.mu} .nil)
 .intro U ys H' I D H2 n2;have hz:H2 k=some (.frz o (.dK (sk kk))):=n2.same _ _ (I.same _ _ zt);refine {o,hz,?_};have a8:=G.same _ _ Z;have s3:zj H1 (upd H2 k (.dK (sk kk))):=λc u J=>by
   by_cases z:c=k
   .subst z;rw [a8] at J;cases J;exact zt
   .rw [zh z];exact n2.same _ _ (I.same _ _ (by rw [zh z];exact J))
  have Dk:D≠k:=λz=>by have:=n2.no;rw [z,I.same _ _ zt] at this;cases this
  have hD:upd H2 k (.dK (sk kk)) D=some (.lst ys):=by rw [zh Dk];exact n2.at_
  have ax:=s3 _ _ G.at_;have a7:FS (upd H1 k (.frz o (.dK (sk kk)))) (upd H2 k (.dK (sk kk))):=((FS.of I.same).trans (FS.of n2.same)).trans (.Ub hz);have py:Paired (qj (upd H2 k (.dK (sk kk)))) ys (ks.map (·.2)):=by
   have:=I.ys;rw [show (sk kk).length=ks.length by rw [<- d.length];simp [sk],Ob (NV _)] at this;exact Paired.J7 this λv t ⟨b,e,hb⟩=>{b,e,hb.fs a7}
  have av:dF (upd H2 k (.dK (sk kk))) b t:=hF.mu.r.fs ((FS.of G.same).trans (.of s3));generalize upd H2 k (.dK (sk kk))=H3 at s3 hD ax py av;ac_rfl;have ly:=py.length;rw [NO] at ly;refine {[.ref b],ax,ys,hD,by rw [O2];exact Ol (show 1+ys.length<=4001 by omega) 'd',λtl H4 n4=>{{_,.inl (.inl n4.at_)},?_}};have XY:Paired (qj H4) ([.ref b]++ys) (t::ks.map (·.2)):=.cons {b,rfl,av.fs (.of n4.same)} (Paired.J7 py λv t ⟨b,e,hb⟩=>{b,e,hb.fs (.of n4.same)});have eU:(t::ks.map (·.2)).flatMap zI=aa t ks:=by
   unfold aa;rw [List.flatMap_cons,List.flatMap_map]
  have O:=XY.length;generalize a9:t::ks.map (·.2)=us at XY eU O;refine dw.lst (xs:=[.ref b]++ys) (OuI H4 us) (λi U ns H' I=>.inl (.inl (I.same _ _ n4.at_))) {{_,_,_,rfl},rfl,zj.refl _} ?_ ?_
  .intro N i v U ns H' hv I hN;obtain ⟨x,y,z,rfl⟩:=I.ex;have hi:i<us.length:=by rw [<- O];exact (NU.mp hv).1
   have hu:us[i]?=some us[i]:=NL hi;obtain ⟨bi,rfl,hb⟩:=eX XY hv hu;have a5:=hb.fs (.of I.same);obtain ⟨kvs,aI,dc⟩:=a5.ex;have es:(zI us[i]).foldl zN ns=((us.take (i+1)).flatMap zI).foldl zN []:=by
    rw [I.ns,<- PD,OU,hu,QG];simp
   have few:((zI us[i]).foldl zN ns).length<3000:=by
    rw [es];have h1:=iB (l:=(us.drop (i+1)).flatMap zI) (ns:=((us.take (i+1)).flatMap zI).foldl zN []);rw [<- PD,<- QG,QD,eU] at h1;exact OB h1 (Qy Xs 'd')
   ac_rfl;rcases aI with e|⟨o',e⟩
   .refine .inr {bi,sk kvs,e,λo'=>{o',sk kvs,zt,AL zt (dc.imp λv l ⟨a,ea,ha⟩=>{a,ea,by rw [zh (λz=>by rw [z,e] at ha;cases ha)];exact ha}) few λy' z'=>{o',zt,hN _ _ _ {{_,_,_,rfl},es,λc u J=>?_}}}};by_cases zc:c=bi
    .subst zc;have:=I.same _ _ J;rw [e] at this;cases this;exact zt
    .rw [zh zc,zh zc];exact I.same _ _ J
   .exact .inl {o',sk kvs,e,AL e dc few λy' z'=>hN _ _ _ {{_,_,_,rfl},es,I.same}}
  .intro U ns H' I D' a6 _;have en:ns=uniq (aa t ks):=by
    rw [I.ns,O,Ob (NV _),eU];rfl
   subst en;refine {_,zt,Xs,λl Yx H5 n5 pm so=>?_};have sA:∀{o:HO},zj H (upd H' D' o):=λ{o} c u J=>by
    have h1:=I.same _ _ (n4.same _ _ (s3 _ _ (G.same _ _ J)));rw [zh (λz=>by rw [z,a6] at h1;cases h1)];exact h1
   exact q l Yx H5 (sA.trans n5.same) (sA.free n5.no) n5.at_ pm so
end
abbrev nZ:Stmt:=aC (top 32) 11
abbrev km:Stmt:=aC (top 45) 0
abbrev rj:Stmt:=aC (top 45) 1
abbrev kT:Stmt:=aC (top 45) 2
abbrev nC:Stmt:=aC (top 45) 4
abbrev rE:Stmt:=aC (top 45) 5
def iy{α:Type}(l:List (Int×α))(n:Int)(a:α):List (Int×α):=if n∈l.map (·.1) then l.map (λp=>if p.1=n then (p.1,a) else p) else l++[(n,a)]
theorem v7:((ik kvs).any λz=>decide (z.1=(.inl n:Key)))=true↔n∈kvs.map (·.1):=by
 unfold ik;rw [any_map,List.any_eq_true];constructor
 .rintro ⟨p,hp,h⟩;have h:(Sum.inl p.1:Key) = .inl n:=of_decide_eq_true h;cases h;exact OE.mpr {p,hp,rfl}
 .intro h;obtain ⟨p,hp,rfl⟩:=OE.mp h;exact {p,hp,'z'}
theorem Ai:aM (ik kvs) (.inl n) v=ik (iy kvs n v):=by
 unfold aM iy;by_cases h:n∈kvs.map (·.1)
 .rw [if_pos (v7.mpr h),if_pos h];unfold ik;rw [PK,PK];refine Pd λp _=>?_;show (if (Sum.inl p.1:Key) = .inl n then _ else _)=_;by_cases e:p.1=n
  .rw [if_pos (by rw [e])];show _=(Sum.inl (if p.1=n then (p.1,v) else p).1,(if p.1=n then (p.1,v) else p).2);rw [if_pos e]
  .rw [if_neg (λz=>e (by cases z;rfl))];show _=(Sum.inl (if p.1=n then (p.1,v) else p).1,(if p.1=n then (p.1,v) else p).2);rw [if_neg e]
 .rw [if_neg (λz=>h (v7.mp z)),if_neg h];unfold ik;rw [OI];rfl
theorem Bs:∀{kvs:List (Int×V)},(kvs.map (·.1)).Nodup->(n,v)∈kvs->af (ik kvs) (.inl n)=some v
 | [],_,h=>by cases h
 | p::kvs,nd,h=>by
  have F:=Rn.mp nd;show af ((Sum.inl p.1,p.2)::ik kvs) (.inl n)=_;rcases NT.mp h with e|h
  .rw [<- e];exact jM rfl
  .have ne : ¬ (Sum.inl p.1:Key) = .inl n:=λz=>by
    cases z;exact F.1 (OE.mpr {_,h,rfl})
   rw [jj ne];exact Bs F.2 h
theorem vD:(ik kvs).length=kvs.length:=by simp [ik]
structure NoPart(u:HO):Prop where
 d:∀kvs,u≠.dK kvs
 f:∀o kvs,u≠.frz o (.dK kvs)
 t:∀xs,u≠.tup xs
 i:∀C dx b k,u≠.ins C dx (zS b k)
theorem NoPart.lst{xs:List V}:NoPart (.lst xs):={λ_ z=>HO.noConfusion z,λ_ _ z=>HO.noConfusion z,λ_ z=>HO.noConfusion z,λ_ _ _ _ z=>HO.noConfusion z}
theorem Cs{b k:Addr}:([]:List (Str×V))≠zS b k:=λz=>by have:=congrArg SN z;exact absurd this (by show ¬ 0=2;decide)
theorem NoPart.cg:NoPart (.ins C dx []):={λ_ z=>(HO.noConfusion z),λ_ _ z=>(HO.noConfusion z),λ_ z=>(HO.noConfusion z),λ_ _ _ _ z=>Cs (by injection z)}
theorem aU.a5{x q b k:Addr}{t:Tab}(h:aU A H q b k t)(s:But x H H')(hx:H x=some u)(F:NoPart u):aU A H' q b k t:=by
 have ne:∀{c:Addr}{o:HO},H c=some o->o≠u->H' c=some o:=λ{c o} e n=>s _ _ (λz=>n (by rw [z,hx] at e;exact (OG.inj e).symm)) e;have rd:∀{c:Addr}{kvs:List (Key×V)},Rd H c (.dK kvs)->Rd H' c (.dK kvs):=λ{c kvs} r=>r.elim (λe=>.inl (ne e λz=>F.d _ z.symm)) λ⟨o,e⟩=>.inr {o,ne e λz=>F.f _ _ z.symm};obtain ⟨dx,e⟩:=h.ob;obtain ⟨kvs,G,d⟩:=h.mu.ex;exact {{dx,ne e λz=>F.i _ _ _ _ z.symm},{{kvs,rd G,d.imp λv l ⟨a,ea,ha⟩=>{a,ea,ne ha λz=>F.t _ z.symm}},h.mu.nd},rd h.kept}
theorem zB.a5{x p b k:Addr}{t:Tab}(h:zB A H p b k t ks)(s:But x H H')(hx:H x=some u)(F:NoPart u):zB A H' p b k t ks:=by
 have ne:∀{c:Addr}{o:HO},H c=some o->o≠u->H' c=some o:=λ{c o} e n=>s _ _ (λz=>n (by rw [z,hx] at e;exact (OG.inj e).symm)) e;obtain ⟨dx,e⟩:=h.ob;obtain ⟨kvs,O,d⟩:=h.mu.ex;obtain ⟨kk,S,G⟩:=h.kept;exact {{dx,ne e λz=>F.i _ _ _ _ z.symm},{{kvs,ne O λz=>F.d _ z.symm,d.imp λv l ⟨a,ea,ha⟩=>{a,ea,ne ha λz=>F.t _ z.symm}},h.mu.nd},{kk,ne S λz=>F.d _ z.symm,G.imp λv u ⟨q,U,k',J,r,n⟩=>{q,U,k',J,r.a5 s hx F,n}},h.Vv,h.ne}
abbrev T3:=Int×Int×Int
def ir(H:Hp)(p:Int×V)(t:T3):Prop:=p.1=t.1/\∃a,p.2 = .ref a/\H a=some (.tup [.int t.2.1,.int t.2.2])
def c0(H:Hp)(a:Addr)(t:T3):Prop:=H a=some (.tup [.int t.1,.int t.2.1,.int t.2.2])
def T3S(H:Hp)(a:Addr)(t:T3):Prop:=H a=some (.tup [.int t.1,.int t.2.1,.int t.2.2])\/H a=some (.lst [.int t.1,.int t.2.1,.int t.2.2])
structure ia(ts:List T3):Prop where
 nd:(ts.map (·.1)).Nodup
 few:ts.length<40
def bf(f d:Addr)(n m:Int):List (Str×V):=[("own_files",.ref f),("spot_of",.ref d),("next_row",.int n),("next_mark",.int m)]
structure dU(A:zk)(H:Hp)(x fx b k d:Addr)(t:Tab)(ks:List (Str×Tab))(ts:List T3)(n m:Int):Prop where
 ob:∃dx,H x=some (.ins A.State dx (bf fx d n m))
 files:zB A H fx b k t ks
 bj:∃kvs,H d=some (.dK (ik kvs))/\Paired (ir H) kvs ts
 ok:ia ts
theorem ir.keep{p:Int×V}{t:T3}(h:ir H p t)(k:∀r xs,H r=some (.tup xs)->H' r=some (.tup xs)):ir H' p t:=let ⟨e,a,e2,e3⟩:=h;{e,a,e2,k _ _ e3}
theorem dU.same{x z b k d:Addr}{t:Tab}(h:dU A H x z b k d t ks ts n m)(s:zj H H'):dU A H' x z b k d t ks ts n m :=
 let ⟨dx,e⟩:=h.ob;let ⟨kvs,e2,p⟩:=h.bj;{{dx,s _ _ e},h.files.same s,{kvs,s _ _ e2,Paired.J7 p λ_ _ r=>r.keep λ_ _ e=>s _ _ e},h.ok}
theorem vY(h:Paired (ir H) kvs ts):kvs.map (·.1)=ts.map (·.1):=by
 induction h with
 | nil=>rfl
 | cons r _ z=>rw [Pi,Pi,z,r.1]
section
variable {P:NW}{w:Oc}{K:Frag}{mg:Str->Option Value}{base:Heap}{A:zk}{b k f d:Addr}{n m:Int}
theorem DG:(bf f d n m).lookup ("own_files":Str)=some (.ref f):=by simp only [bf,Pp,beq_self_eq_true]
theorem uz:(bf f d n m).lookup ("spot_of":Str)=some (.ref d):=by simp only [bf,Pp,beq_self_eq_true,JT]
theorem E7:(bf f d n m).lookup ("next_row":Str)=some (.int n):=by simp only [bf,Pp,beq_self_eq_true,Mw,Ni]
theorem Nw:(bf f d n m).lookup ("next_mark":Str)=some (.int m):=by simp only [bf,Pp,beq_self_eq_true,Ht,Ge,DA]
theorem tE:(bf f d n m).lookup (V0:Str)=none:=by simp only [bf,Pp,BR,Ei,CP,BI]
theorem pD:(bf f d n m).lookup (Wl:Str)=none:=by simp only [bf,Pp,DC,IU,Lf,C9]
theorem jv:(bf f d n m).lookup (Wj:Str)=none:=by simp only [bf,Pp,Iv,Gw,IZ,LA]
theorem jC:(bf f d n m).lookup (Wk:Str)=none:=by simp only [bf,Pp,M8,Eh,E5,Ls]
def qD(A:zk):Sp:=λvs H Q _=>∃(p b k:Addr)(t:Tab)(ks:List (Str×Tab)),vs=[.ref p]/\zB A H p b k t ks /\
 ∀q z k' H',zj H H'->H q=none->H z=none->H k'=none->zB A H' q z k' t ks->H' k'=H k->Q (.ref q) H'
theorem u0:zy ["self","other"] Zj (zl nZ):=fsc
theorem Gs{f:Addr}(F:Fun K "copied" "Files.copied" nZ f fd)(T:Txt K mg A)(ZR:GM P w K mg base true 3 A.nv "bare" Zj (kB A)):zp P w K mg base CX0 true 4 f fd Zj (qD A):=by
 refine F.o u0 λZW Ar outer s H vs Q E hr h=>?_;obtain ⟨p,b,k,t,ks,rfl,hF,q⟩:=h;refine {_,(W.h (zg (zr (i:=1) u0.nd rfl (NZ rfl) (cc (ze 0) T.mm ZR hr))
   (zg (eh T.mm T.nT (ze 1) (bc rL rfl T.VD boot_dict (za (aw T.mm T.nT (ze 0)) zd)))
   (zi (zw (ze 1)))))),?_}
 obtain ⟨dx,e1⟩:=hF.ob;erw [e1,p9];refine {p,t,rfl,hF.has,λx Z k' H1 s1 nb nk nx hB ax=>?_};obtain ⟨U,G⟩:=hB.ob;have F1:=hF.same s1;obtain ⟨XN,WX⟩:=F1.ob;obtain ⟨aI,av,d0⟩:=hF.kept;have e2:=s1 _ _ av;erw [WX,dY];refine {_,.inl e2,λkd H2 J=>{U,_,J.same _ _ G,by show 2<1000;decide,?_}};have eF:z6 ("kept":Str) (V.ref kd) (zS Z k')=zS Z kd:=by simp only [z6,zS,Am,if_false,if_true]
 rw [eF];have px:∀c o,H c=some o->c≠x:=λc o e=>zQ e nx;have sA:zj H (upd H2 x (.ins A.nv U (zS Z kd))):=λa o e=>by rw [zh (px a o e)];exact J.same _ _ (s1 _ _ e)
 have ak:kd≠x:=λz=>by have:=J.no;rw [z,G] at this;cases this
 have bx:Z≠x:=λz=>by obtain ⟨kvs,er,_⟩:=hB.mu.ex;rw [z] at er;rcases er with e|⟨o,e⟩ <;> · rw [G] at e;cases e
 have O:H kd=none:=s1.free J.no;obtain ⟨kvs,eb,dd⟩:=ax.ex;have a3:Z≠kd:=λz=>by have:=J.no;rw [<- z,eb] at this;cases this
 refine q x Z kd _ sA nx nb O {⟨U,zt⟩,{{kvs,by rw [zh bx];exact J.same _ _ eb,dd.imp λv l ⟨a,ea,ha⟩=>{a,ea,by rw [zh (λz=>by rw [z,G] at ha;cases ha)];exact J.same _ _ ha}},hB.mu.nd},{aI,by rw [zh ak];exact J.at_,d0.imp λv u r=>?_},hF.Vv,a3} (by rw [zh ak,J.at_,av]);obtain ⟨q1,b1,k1,ev,S,_⟩:=r;have hh:=S.same sA;obtain ⟨a4,a0,_⟩:=S.mu.ex;have live:∀{c:Addr}{u:HO},Rd H c u->∃o,H c=some o:=λh=>h.elim (λe=>{_,e}) λ⟨o,e⟩=>{_,e};obtain ⟨o1,l1⟩:=live a0;obtain ⟨o2,l2⟩:=live S.kept;exact {q1,b1,k1,ev,hh,zQ l1 nb,zQ l1 O,zQ l2 nb,zQ l2 O}
structure DcI(H:Hp)(ts:List T3)(i:Nat)(τ:L2.St)(ys:List (Key×V))(H':Hp):Prop where
 ex:∃t1 t2 t3,τ=[t1,t2,t3]
 ys:∃kvs,ys=ik kvs/\Paired (ir H') kvs (ts.take i)
 same:zj H H'
def rA(A:zk):Sp:=λvs H Q _=>∃(x p b k sl dx:Addr)(n m:Int)(t:Tab)(ks:List (Str×Tab))(as:List Addr)(ts:List T3),vs=[.ref x,.ref p,.ref sl,.int n,.int m]/\H x=some (.ins A.State dx [])/\zB A H p b k t ks/\(H sl=some (.lst (as.map V.ref))\/H sl=some (.tup (as.map V.ref)))/\Paired (T3S H) as ts/\ia ts /\
 ∀z F k' d H',But x H H'->H z=none->H F=none->H k'=none->H d=none->dU A H' x z F k' d t ks ts n m->H' k'=H k->Q .non H'
theorem Nz:zy Yt Yt (zl km):=fsc
theorem Hl:bO { kind:=.function,names:=[(NS ".0",.local),(NS "birth",.local),(NS "stretch",.local),(NS "place",.local)],isGenerator:=false,isCoroutine:=false,more:=[] } (zl km).names Yt WD [none,none,none]=true:=by decide +kernel
theorem nY:(WD:List Str).Nodup:=by decide +kernel
theorem Ks{f:Addr}(F:Fun K Wn "State.__init__" km f fd)(T:Txt K mg A)(ZP:GM P w K mg base true 4 A.nv "copied" Zj (qD A)):zp P w K mg base CX0 true 5 f fd Yt (rA A):=by
 refine F.o Nz λZW Ar outer s H vs Q E hr h=>?_;obtain ⟨x,p,b,k,sl,dx,n,m,t,ks,as,ts,rfl,hx,hF,hs,hp,ok,q⟩:=h;refine {_,(W.h (zg (eh T.ot T.xy (ze 0) (cc (ze 1) T.mm ZP hr))
   (zg (eh T.ot T.vr (ze 0) (Hs (λ_=>rfl) (aA.of Hl) (NJ (ze 2)) (λ_ _ _ _ _=>(LD rfl (n:=3) (bz (zO (i:=0) nY rfl (NZ rfl)) (bz (zO (i:=1) nY rfl (NZ rfl)) (bz (zO (i:=2) nY rfl (NZ rfl)) gj))))) (λ_ _ _ _ _=>di) (λ_ _ _ _ _=>(ze 0)) (λ_ _ _ _ _=>(dv (za (ze 1) (za (ze 2) zd))))))
   (zg (eh T.ot T.Da (ze 0) (ze 3))
   (zi (eh T.ot T.yz (ze 0) (ze 4))))))),?_}
 obtain ⟨a7,e1⟩:=hF.ob;erw [e1,xG];refine {p,b,k,t,ks,rfl,hF,λO b1 k1 H1 s1 nq nb nk Z a5=>{dx,[],s1 _ _ hx,'d',?_}};have G:∀{o:HO}{r:Addr}{u:HO},(∀C dx fs,u≠.ins C dx fs)->H1 r=some u->upd H1 x o r=some u:=λ{o r u} hu e=>by rw [zh (λz=>by rw [z,s1 _ _ hx] at e;exact hu _ _ _ (OG.inj e).symm)];exact e
 have ZS:=cZ hp;have hz:∀i J ys H',DcI (upd H1 x (.ins A.State dx (z6 "own_files" (V.ref O) []))) ts i J ys H'->ys.length<sizeLine:=λi J ys H' I=>by
  obtain ⟨kvs,e,pr⟩:=I.ys;have:=cZ pr;have h2:=Q9 i ts;have:=ok.few;rw [e,vD];exact aS (by omega)
 have step:∀(N:L2.St->List (Key×V)->Hp->Prop) i v J ys H',(as.map V.ref)[i]?=some v->DcI (upd H1 x (.ins A.State dx (z6 "own_files" (V.ref O) []))) ts i J ys H'->(∀J ys H,DcI (upd H1 x (.ins A.State dx (z6 "own_files" (V.ref O) []))) ts (i+1) J ys H->N J ys H) ->
   gSq K 3 (iu (cU 0) (iu (cU 1) (iu (cU 2) nH))) v J H' λak H4=>mr ak H4 λok H5=>i4 N ys ak (d8 0) (ql (eJ (d8 1) (eJ (d8 2) cK))) ok H5:=by
  intro N i v J ys H' hv I hN;obtain ⟨t1,t2,t3,rfl⟩:=I.ex;obtain ⟨kvs,e,pr⟩:=I.ys;rw [Oe] at hv;obtain ⟨a,ha,rfl⟩:=Ou.mp hv;have hi:i<ts.length:=by rw [<- ZS];exact (NU.mp ha).1
  have S:ts[i]?=some ts[i]:=NL hi;have ht:SqT K H' a [.int ts[i].1,.int ts[i].2.1,.int ts[i].2.2]\/SqL K H' a [.int ts[i].1,.int ts[i].2.1,.int ts[i].2.2]:=by
   rcases eX hp ha S with h|h
   .exact .inl (.inl (.inl (I.same _ _ (G (λ_ _ _=>nofun) (s1 _ _ h)))))
   .exact .inr (.inl (.inl (I.same _ _ (G (λ_ _ _=>nofun) (s1 _ _ h)))))
  refine {a,_,rfl,ht,rfl,?_};ac_rfl;refine {'d',λa2 H2 n2=>hN _ _ _ {{_,_,_,rfl},{kvs++[(ts[i].1,.ref a2)],?_,?_},I.same.trans n2.same}}
  .have a4:ts[i].1∉kvs.map (·.1):=by
    rw [vY pr];intro z;obtain ⟨u,hu,eu⟩:=OE.mp z;obtain ⟨j,hj,ej⟩:=PX hu;have a8:j<i:=by rw [ON] at hj;omega
    rw [List.getElem_take] at ej;have a3:j<(ts.map (·.1)).length:=by rw [NO];omega
    have:=(List.getElem?_inj a3 ok.nd).mp (show (ts.map (·.1))[j]?=(ts.map (·.1))[i]? by rw [Oe,Oe,S,NL (show j<ts.length by omega),ej];show some u.1=some ts[i].1;rw [eu]);omega
   rw [e,Ai];unfold iy;rw [if_neg a4]
  .rw [OU,S];exact jJ (Paired.J7 pr λp t r=>r.keep λr xs e=>n2.same _ _ e) (.cons {rfl,a2,rfl,n2.at_} .nil)
 rcases hs with hs|hs
 all_goals first
  | refine .inl ⟨⟨_,.inl (.inl (G (λ_ _ _=>nofun) (s1 _ _ hs)))⟩,g8.lst (xs:=as.map V.ref) (DcI _ ts) hz (λi J ys H' I=>.inl (.inl (I.same _ _ (G (λ_ _ _=>nofun) (s1 _ _ hs))))) ⟨⟨_,_,_,rfl⟩,⟨[],rfl,.nil⟩,zj.refl _⟩ step ?_⟩
  | refine .inr ⟨⟨_,.inl (.inl (G (λ_ _ _=>nofun) (s1 _ _ hs)))⟩,g8.tup (xs:=as.map V.ref) (DcI _ ts) hz (λi J ys H' I=>.inl (.inl (I.same _ _ (G (λ_ _ _=>nofun) (s1 _ _ hs))))) ⟨⟨_,_,_,rfl⟩,⟨[],rfl,.nil⟩,zj.refl _⟩ step ?_⟩
 all_goals
  intro J ys H3 I D H4 U;obtain ⟨kvs,e,pr⟩:=I.ys;rw [NO,ZS,Ob (NV _)] at pr;rw [e] at U;have x4:=U.same _ _ (I.same _ _ zt);refine {dx,_,x4,by show 1<1000;decide,dx,_,zt,by simp only [z6,pT,if_false];show 2<1000;decide,dx,_,zt,by simp only [z6,pT,vA,wI,if_false];show 3<1000;decide,?_};rw [qG,qG];have eF:z6 ("next_mark":Str) (V.int m) (z6 "next_row" (V.int n) (z6 "spot_of" (V.ref D) (z6 "own_files" (V.ref O) [])))=bf O D n m:=by
   simp only [z6,bf,pT,vA,wI,CV,Jq,LY,if_false]
  rw [eF];have Dx:D≠x:=λz=>by have:=U.no;rw [z,I.same _ _ zt] at this;cases this
  have bt:But x H1 (upd H4 x (.ins A.State dx (bf O D n m))):=λc u nc e=>by
   rw [zh nc];exact U.same _ _ (I.same _ _ (by rw [zh nc];exact e))
  have aI:=Z.a5 bt (s1 _ _ hx) .cg;have a0:∀{r:Addr}{xs:List V},H3 r=some (.tup xs)->upd H4 x (.ins A.State dx (bf O D n m)) r=some (.tup xs):=λ{r xs} e=>by
   rw [zh (λz=>by rw [z,I.same _ _ zt] at e;cases e)];exact U.same _ _ e
  have a6:k1≠x:=λz=>by rw [z,hx] at nk;cases nk
  have D0:H D=none:=by
   cases eD:H D with
   | none=>rfl
   | some u =>
    have:=I.same D u (by rw [zh Dx];exact s1 _ _ eD);rw [U.no] at this;cases this
  refine q O b1 k1 D _ (λa o na ea=>bt _ _ na (s1 _ _ ea)) nq nb nk D0 {⟨dx,zt⟩,aI,{kvs,by rw [zh Dx];exact U.at_,Paired.J7 pr λp t r=>r.keep λr xs e=>a0 e},ok} ?_;obtain ⟨kk,ax,_⟩:=Z.kept;have av:=bt _ _ a6 ax;rw [av,<- ax,a5]
end
def eR(ts:List T3)(n:Int):T3:=(ts.find? λt=>decide (t.1=n)).getD (0,0,0)
theorem kQ(nd:(ts.map (·.1)).Nodup){t:T3}(h:t∈ts):eR ts t.1=t:=by
 unfold eR
 induction ts with
 | nil=>cases h
 | cons u ts F =>
  obtain ⟨G,J⟩:=Rn.mp nd;rw [RU];rcases NT.mp h with rfl|h
  .rw [decide_eq_true rfl];rfl
  .have ne : ¬ u.1=t.1:=λz=>G (by show u.1∈_;rw [z];exact OE.mpr {t,h,rfl});rw [decide_eq_false ne];exact F J h
theorem G8{ts:List T3}(nd:(ts.map (·.1)).Nodup):(ts.map (·.1)).map (eR ts)=ts:=by
 rw [PK];have:∀us:List T3,(∀u∈us,u∈ts)->us.map (eR ts∘(·.1))=us:=λus h=>by
  induction us with
  | nil=>rfl
  | cons u us z=>rw [Pi,z λv hv=>h v (NR _ hv)];show eR ts u.1::us=_;rw [kQ nd (h u (NX ..))]
 exact this ts λ_ h=>h
section
variable {P:NW}{w:Oc}{K:Frag}{mg:Str->Option Value}{base:Heap}{A:zk}
def vM(A:zk):Sp:=λvs H Q _=>∃(x F b k d:Addr)(t:Tab)(ks:List (Str×Tab))(ts:List T3)(n m:Int),vs=[.ref x]/\dU A H x F b k d t ks ts n m /\
 ∀q z k' H',zj H H'->H q=none->H z=none->H k'=none->zB A H' q z k' t ks->H' k'=H k->Q (.ref q) H'
theorem D8:zy Zj Zj (zl rj):=fsc
theorem DF(F:Fun K Wl "State.files" rj f fd)(T:Txt K mg A)(G:GM P w K mg base true 4 A.nv "copied" Zj (qD A)):zp P w K mg base CX0 true 5 f fd Zj (vM A):=by
 refine F.o D8 λZW U outer s H vs Q E hr h=>?_;obtain ⟨x,O,b,k,d,t,ks,ts,n,m,rfl,z,q⟩:=h;refine {_,(W.h (zi (zw (cc (aw T.ot T.xy (ze 0)) T.mm G hr)))),?_};obtain ⟨dx,J⟩:=z.ob;obtain ⟨Z,S⟩:=z.files.ob;erw [J,S,DG,xG];exact {O,b,k,t,ks,rfl,z.files,q}
def pW(A:zk):Sp:=λvs H Q _=>∃(x z b k d:Addr)(t:Tab)(ks:List (Str×Tab))(ts:List T3)(n m:Int),vs=[.ref x]/\dU A H x z b k d t ks ts n m/\Q (.int n) H
theorem Iz:zy Zj Zj (zl nC):=fsc
theorem Ij(F:Fun K Wj "State.next_number" nC f fd)(T:Txt K mg A):zp P w K mg base CX0 true 1 f fd Zj (pW A):=by
 refine F.o Iz λO J outer s H vs Q E hr h=>?_;obtain ⟨x,S,b,k,d,t,ks,ts,n,m,rfl,z,q⟩:=h;refine {_,(W.h (zi (zw (aw T.ot T.Da (ze 0))))),?_};obtain ⟨dx,G⟩:=z.ob;erw [G,E7];exact q
def pQ(A:zk):Sp:=λvs H Q _=>∃(x z b k d:Addr)(t:Tab)(ks:List (Str×Tab))(ts:List T3)(n m:Int),vs=[.ref x]/\dU A H x z b k d t ks ts n m/\Q (.int m) H
theorem Mj:zy Zj Zj (zl rE):=fsc
theorem JS(F:Fun K Wk "State.mark_number" rE f fd)(T:Txt K mg A):zp P w K mg base CX0 true 1 f fd Zj (pQ A):=by
 refine F.o Mj λO J outer s H vs Q E hr h=>?_;obtain ⟨x,S,b,k,d,t,ks,ts,n,m,rfl,z,q⟩:=h;refine {_,(W.h (zi (zw (aw T.ot T.yz (ze 0))))),?_};obtain ⟨dx,G⟩:=z.ob;erw [G,Nw];exact q
def oS(A:zk):Sp:=λvs H Q _=>∃(x F b k d:Addr)(t:Tab)(ks:List (Str×Tab))(ts:List T3)(n m:Int),vs=[.ref x]/\dU A H x F b k d t ks ts n m /\
 ∀l as z H',zj H H'->H l=none->H' l=some (.lst (as.map V.ref))->Paired (c0 H') as z->z.Perm ts->(z.map (·.1)).Pairwise (·<=·)->Q (.ref l) H'
structure SpI(H:Hp)(x:Addr)(ts:List T3)(ns:List Int)(i:Nat)(τ:L2.St)(ys:List V)(H':Hp):Prop where
 ex:∃t1,τ=[t1,some (.ref x)]
 ys:∃as:List Addr,ys=as.map V.ref/\Paired (c0 H') as ((ns.take i).map (eR ts))
 same:zj H H'
theorem Dq:zy Zj Zj (zl kT):=fsc
theorem Nt:bO { kind:=.function,names:=[(NS ".0",.local),(NS "birth",.local),(NS "self",.free)],isGenerator:=false,isCoroutine:=false,more:=[] } (zl kT).names Zj [Wg,"self"] [none,some 0]=true:=by decide +kernel
theorem Lj:([Wg,"self"]:List Str).Nodup:=by decide +kernel
theorem Nh(F:Fun K V0 "State.spots" kT f fd)(T:Txt K mg A):zp P w K mg base CX0 true 1 f fd Zj (oS A):=by
 refine F.o Dq λZW Ar outer s H vs Q E hr h=>?_;obtain ⟨x,fx,b,k,d,t,ks,ts,n,m,rfl,hS,q⟩:=h;refine {_,(W.h (zi (zw (cY (λ_=>rfl) (aA.of Nt) (cQ (zT (xk rfl) rfl T.zf Rq (za (aw T.ot T.vr (ze 0)) zd))) (λ_ _ _ _ _=>(zO (i:=0) Lj rfl (NZ rfl))) (λ_ _ _ _ _=>di) (λ_ _ _ _ _=>(zD kE (dv (za (ze 0) zd)) (aN (iD (zV hr)) (aw T.ot T.vr (ze 1)) (ze 0) (λ_ _=>rfl)))))))),?_};obtain ⟨dx,e1⟩:=hS.ob;obtain ⟨kvs,e2,e3⟩:=hS.bj;have ok:=hS.ok;have lk:=cZ e3;have ky:=vY e3;erw [e1,uz];refine {kvs,.inl e2,by rw [lk];have:=ok.few;omega,λp ns H1 G U so=>?_};rw [ky] at U;have a0:ns.length=ts.length:=by rw [U.length_eq,NO]
 refine {{_,SqL.of G.at_},aK.lst (xs:=ns.map V.int) (SpI H1 x ts ns) (λi τ ys H' I=>?_) (λi τ ys H' I=>SqL.of (I.same _ _ G.at_)) {{_,rfl},{[],rfl,.nil},zj.refl _} ?_ ?_}
 .obtain ⟨as,e,pr⟩:=I.ys;have:=cZ pr;rw [NO] at this;have h2:=Q9 i ns;have:=ok.few;rw [e,NO];exact aS (by omega)
 .intro N i v τ ys H' hv I hN;obtain ⟨t1,rfl⟩:=I.ex;obtain ⟨as,e,pr⟩:=I.ys;rw [Oe] at hv;obtain ⟨nb,Z,rfl⟩:=Ou.mp hv;have WX:=I.same _ _ (G.same _ _ e1);have ak:=I.same _ _ (G.same _ _ e2);obtain ⟨t,ht,et⟩:=OE.mp (U.mem_iff.mp (OS Z));obtain ⟨j,hj,ej⟩:=PX ht;have J:j<kvs.length:=by rw [lk];exact hj
  obtain ⟨s1,a,s2,s3⟩:=eX e3 (NL J) (NL hj);rw [ej] at s1 s3;have aI:af (ik kvs) (.inl nb)=some (.ref a):=by
   refine Bs (by rw [ky];exact ok.nd) ?_;rw [<- et,<- s1,<- s2];exact O4 J
  ac_rfl;refine {'d',λp1 H2 z=>?_};have av:=z.same _ _ WX;erw [av,uz];refine {_,.inl (z.same _ _ ak),_,aI,?_};ac_rfl;refine .inr {_,z.at_,_,z.same _ _ (I.same _ _ (G.same _ _ s3)),by show 3<=sizeLine;decide,λp2 H3 S ax=>hN _ _ _ {{_,rfl},{as++[p2],by rw [e,OI];rfl,?_},I.same.trans (z.same.trans S)}};rw [OU,Z,OI];refine jJ (Paired.J7 pr λa t r=>S _ _ (z.same _ _ r)) (.cons ?_ .nil);show H3 p2=_;rw [ax,<- et,kQ ok.nd ht];rfl
 .intro τ ys H' I D H2 z;obtain ⟨as,e,pr⟩:=I.ys;rw [NO,Ob (NV _)] at pr;rw [e] at z;have O:=U.map (eR ts);rw [G8 ok.nd] at O;refine q D as _ H2 ((G.same.trans I.same).trans z.same) ((G.same.trans I.same).free z.no) z.at_ (Paired.J7 pr λa t r=>z.same _ _ r) O ?_;rw [PK,show ns.map ((λx=>x.1)∘eR ts)=ns from ?_]
  .exact so
  .refine (Pd λn hn=>?_).trans (map_id ns);obtain ⟨t,ht,rfl⟩:=OE.mp (U.mem_iff.mp hn);show (eR ts t.1).1=t.1;rw [kQ ok.nd ht]
end
abbrev j6:Stmt:=top 35
abbrev qS:Stmt:=top 34
theorem gP{α:Type}{t:List (Str×α)}{a:α}:(zA t n a).length<=t.length+1:=by
 unfold zA;split<;>simp
structure aV(t:Tab):Prop where
 nd:(names t).Nodup
 len:t.length<=16
 nm:∀n∈names t,ao n=true
 ls:∀p∈t,1<=p.2.length/\p.2.length<=16/\∀x∈p.2,0<=x/\x<10 ^ 18
structure cW(ks:List (Str×Tab)):Prop where
 nd:(names ks).Nodup
 len:ks.length<=3
 nm:∀n∈names ks,ao n=true
 gm:∀p∈ks,aV p.2
def cb(t:Tab)(zs:List Str):List Str:=zs.flatMap λn=>n::(toString ((lk t n).length:Int):Str)::(lk t n).map λx=>(toString x:Str)
noncomputable def bR(t:Tab):List Str:=(toString (t.length:Int):Str)::cb t (zP (names t))
theorem yH{t:Tab}{zs:List Str}(h:zs[i]?=some n):cb t (zs.take (i+1))=cb t (zs.take i)++[n,(toString ((lk t n).length:Int):Str)]++(lk t n).map λx=>(toString x:Str):=by
 unfold cb;rw [OU,h];simp
section
variable {P:NW}{w:Oc}{K:Frag}{mg:Str->Option Value}{base:Heap}{A:zk}{b k:Addr}
theorem aV.lk{t:Tab}(h:aV t)(z:n∈names t):∃l,look t n=some l/\K33.lk t n=l/\1<=l.length/\l.length<=16/\∀x∈l,0<=x/\x<10 ^ 18:=by
 cases e:look t n with
 | none=>exact absurd z (cM.mp e)
 | some l=>exact {l,rfl,by unfold K33.lk;rw [e];rfl,h.ls _ (dq e)}
structure IG(H:Hp)(p nl wl:Addr)(t:Tab)(i:Nat)(σ:L2.St)(H':Hp):Prop where
 ex:∃t1 t2,σ=[some (V.ref p),some (.ref nl),some (.ref wl),t1,t2]
 same:zj H H'
 hnl:H' nl=some (.lst ((zP (names t)).map V.str))
 hwl:H' wl=some (.lst (((toString (t.length:Int):Str)::cb t ((zP (names t)).take i)).map V.str))
 no:H wl=none
 ne:nl≠wl
 sz:(cb t ((zP (names t)).take i)).length<=18*i
 le:i<=16
structure TWc(H:Hp)(p:Addr)(n:Str)(l:List Int)(i:Nat)(τ:L2.St)(ys:List V)(H':Hp):Prop where
 ex:∃t,τ=[t,some (V.ref p),some (.str n)]
 ys:ys=((l.take i).map λx=>(toString x:Str)).map V.str
 same:zj H H'
 le:i<=16
def xu(A:zk):Sp:=λvs H Q _=>∃(p b k:Addr)(t:Tab)(ks:List (Str×Tab)),vs=[.ref p]/\bX A H p b k t ks/\aV t/\∀l H',zj H H'->H l=none->H' l=some (.lst ((bR t).map V.str))->Q (.ref l) H'
theorem jU:zy [Wl,"names","words","name","many"] Wv (zl j6):=fsc
theorem Ly:bO { kind:=.function,names:=[(NS ".0",.local),(NS "place",.local),(NS "str",.globalImplicit),(NS "files",.free),(NS "name",.free)],isGenerator:=false,isCoroutine:=false,more:=[] } (zl j6).names [Wl,"names","words","name","many"] ["place",Wl,"name"] [none,some 0,some 3]=true:=by decide +kernel
theorem BB:(["place",Wl,"name"]:List Str).Nodup:=by decide +kernel
theorem HX(F:Fun K VP VP j6 f fd)(T:Txt K mg A)(Ze:GM P w K mg base true 1 A.nv "names" Zj (tQ A))(Z0:GM P w K mg base true 1 A.nv "many" XQ (ja A))(Zd:GM P w K mg base true 4 A.nv Wg Wz (uu A)):zp P w K mg base CX0 true 5 f fd Wv (xu A):=by
 refine F.o jU λZW Ar outer s H vs Q E hr h=>?_;obtain ⟨p,b,k,t,ks,rfl,hF,gm,q⟩:=h;refine {_,(W.h (zg (zr (i:=1) jU.nd rfl (NZ rfl) (cc (ze 0) T.mm Ze hr))
   (zg (zr (i:=2) jU.nd rfl (NZ rfl) (ar (za (bc dI rfl T.Hx QS (za (zT fh rfl T.sL OA (za (ze 1) zd)) zd)) zd)))
   (zg (bI PN.never (λ_=>rfl) (cQ (ze 1)) (zO (i:=3) jU.nd rfl (Si rfl))
   (zg (zr (i:=4) jU.nd rfl (NZ rfl) (bT (ze 0) T.mm Z0 hr (za (ze 3) zd)))
   (zg (ay (kZ (ze 2) (ar (za (ze 3) (za (bc dI rfl T.Hx QS (za (ze 4) zd)) zd)))))
   (zi (ay (kZ (ze 2) (cY (λ_=>rfl) (aA.of Ly) (dm rfl T.ri (za (ze 4) zd)) (λ_ _ _ _ _=>(zO (i:=0) BB rfl (NZ rfl))) (λ_ _ _ _ _=>di) (λ_ _ _ _ _=>(bc dI rfl T.Hx QS (za (bT (ze 1) T.mm Zd hr (za (ze 2) (za (ze 0) zd))) zd))))))))))
   (zi (zw (ze 2))))))),?_}
 obtain ⟨dx,e1⟩:=hF.ob;have gl:=gm.len;erw [e1,Lm,gS,pK];refine {p,b,k,t,ks,rfl,hF,by omega,λnl H1 U=>?_};erw [U.at_];have sl:(zP (names t)).length=t.length:=by rw [(bU _).1.length_eq];simp [names]
 rw [NO,sl];refine {dj (by omega),'d',λwl H2 S _=>{{_,SqL.of (S.same _ _ U.at_)},?_}};have G:H wl=none:=U.same.free S.no;have O:nl≠wl:=λz=>by have:=S.no;rw [<- z,U.at_] at this;cases this
 refine az.lst (xs:=(zP (names t)).map V.str) (IG H p nl wl t) {{_,_,rfl},U.same.trans S.same,S.same _ _ U.at_,by rw [S.at_];rfl,G,O,by simp [cb],by omega} (λi σ H' _ I=>SqL.of I.hnl) ?_ ?_
 .rintro i x σ H' hx ⟨⟨t1,t2,rfl⟩,sm,hnl,hwl,G,O,sz,le⟩;rw [Oe] at hx;obtain ⟨n,hn,rfl⟩:=Ou.mp hx;obtain ⟨l,hl,el,l1,l2,lx⟩:=gm.lk ((bU _).1.mem_iff.mp (OS hn));have F':=hF.same sm;obtain ⟨XN,WX⟩:=F'.ob;erw [WX,gS,pK];refine {p,b,k,t,ks,n,rfl,F',λH3 s3=>?_};have F3:=F'.same s3;obtain ⟨a5,a3⟩:=F3.ob;have ak:=s3 _ _ hwl;erw [ak];have hi:i<(zP (names t)).length:=(NU.mp hn).1;rw [el];refine {dj (by omega),'d',λp1 H4 n4 _=>{_,n4.same _ _ ak,_,n4.at_,ah (by simp;omega),{_,zt},by omega,by omega,?_}};have ax:zj H H4:=(sm.trans s3).trans n4.same;have s5:∀o,zj H (upd H4 wl o):=λo c u ec=>by rw [zh (zQ ec G)];exact ax c u ec
  refine aK.rng (TWc _ p n l) (λj τ ys H6 I=>?_) {{_,rfl},'z',zj.refl _,by omega} ?_ ?_
  .rw [I.ys,NO,NO,ON];exact aS (by have:=I.le;omega)
  .intro N j τ ys H6 hj I hN;obtain ⟨tt,rfl⟩:=I.ex;have F6:=hF.same ((s5 _).trans I.same);obtain ⟨a4,av⟩:=F6.ob;have J:j<l.length:=by omega
   erw [av,pK];refine {p,b,k,t,ks,n,l,_,rfl,F6,hl,by omega,by omega,λH7 s7=>?_};have ej:(0+(j:Int)).toNat=j:=by omega
   have eg:l.getD j 0=l[j]:=by rw [Oq,NL J];rfl
   have hx:=lx l[j] (O4 J);rw [ej,eg];ac_rfl;refine {dj (by omega),hN _ _ _ {{_,rfl},?_,I.same.trans s7,by omega}};rw [I.ys,OU,NL J,OI,OI];rfl
  .intro τ ys H6 I D H7 Z;have aI:=Z.same _ _ (I.same _ _ zt);have a0:H7 nl=some (.lst ((zP (names t)).map V.str)):=Z.same _ _ (I.same _ _ (by rw [zh O];exact n4.same _ _ (s3 _ _ hnl)));have Dw:D≠wl:=λz=>by have:=Z.no;rw [z,I.same _ _ zt] at this;cases this
   erw [aI,Z.at_];have ly:ys.length<=16:=by rw [I.ys,NO,NO,ON];omega
   refine {ah (by simp;omega),{_,_,rfl},λc u ec=>?_,by rw [zh O];exact a0,?_,G,O,?_,by omega}
   .rw [zh (zQ ec G)];exact Z.same _ _ (I.same _ _ (s5 _ _ _ ec))
   .rw [zt,yH hn,I.ys,el];have:l.take ((l.length:Nat):Int).toNat=l:=Ob (by omega);rw [this];simp
   .rw [yH hn,el];simp;omega
 .rintro σ H' ⟨⟨t1,t2,rfl⟩,sm,hnl,hwl,G,O,sz,le⟩;ac_rfl;refine q wl H' sm G ?_;rw [hwl,NO,Ob (NV _)];rfl
theorem AF(m:Nat)(h:0<m):∃c r,(Tr 10 m).map Char.toNat=c::r/\49<=c:=by
 induction m using Nat.strongRecOn with
 | _ m z =>
  by_cases h1:m<10
  .rw [Nat.toDigits_of_lt_base h1];refine {_,[],rfl,?_};have:∀d:Nat,d<10->0<d->49<=(Nat.digitChar d).toNat:=by decide
   exact this m h1 h
  .have hm:m % 10<10:=Nat.mod_lt m 'd';have t:Tr 10 (m / 10)++Tr 10 (m % 10)=Tr 10 (10*(m / 10)+m % 10):=Nat.toDigits_append_toDigits 'd' (by omega) hm;rw [Nat.div_add_mod] at t;obtain ⟨c,r,e,hc⟩:=z (m / 10) (by omega) (by omega);rw [<- t,OI,e];exact {c,_,rfl,hc}
structure FC(i:Int):Prop where
 dig:∀c∈sg (toString i:Str),48<=c/\c<=57
 one:1<=(sg (toString i:Str)).length
 most:(sg (toString i:Str)).length<=18
 back:PL (toString i:Str)=some i
 head:(toString i:Str)="0"\/∃c r,sg (toString i:Str)=c::r/\49<=c
theorem iL(J:0<=i)(h1:i<10 ^ 18):FC i:=by
 obtain ⟨m,rfl⟩:=Int.eq_ofNat_of_zero_le J;have hd:∀c∈sg (toString ((m:Nat):Int):Str),48<=c/\c<=57:=by
  intro c hc;rw [iT] at hc;obtain ⟨ch,G,e⟩:=OE.mp hc;have r:=Nat.isDigit_of_mem_toDigits 'd' 'd' G;rw [<- e];exact PyProof.Rows.digit_range r
 have F:1<=(sg (toString ((m:Nat):Int):Str)).length:=by
  rcases Sw m with h|h
  .rw [h,iT];decide
  .obtain ⟨c,r,e,_⟩:=AF m h;rw [iT,e];simp
 have hl:(sg (toString ((m:Nat):Int):Str)).length<=18:=by
  have e:(Nat.repr m).length<=18:=(Nat.length_repr_le_iff 'd').mpr (by omega);rw [zJ];show (NS (toString ((m:Nat):Int))).length<=18;rw [PySem.ofString_length];exact e
 refine {hd,F,hl,?_,?_}
 .have e:=intText_digits (x:=(toString ((m:Nat):Int):Str)) hd (λz=>by rw [show sg (toString ((m:Nat):Int):Str)=[] from z] at F;cases F) (by rw [<- zJ];omega);have O:(toString ((m:Nat):Int):Str).cps.toList=(Tr 10 m).map Char.toNat:=iT m;rw [O,PySem.W.KIN.val_back] at e;exact e
 .rcases Sw m with h|h
  .left;rw [h];rfl
  .obtain ⟨c,r,e,hc⟩:=AF m h;exact .inr {c,r,by rw [iT,e],hc}
theorem Lg(h:∀c∈sg z,c∈sg y)(h1:1<=z.length)(h2:(z.length:Int)<=m):aG z y m=true:=by
 unfold aG;rw [decide_eq_true (show (1:Int)<=z.length by omega),decide_eq_true h2];rw [SW,SW,Ot];exact λc hc=>Pz.mpr (h c hc)
theorem il{i:Int}(h:0<=i/\i<10 ^ 18):zH (toString i:Str)=true:=by
 have F:=iL h.1 h.2;unfold zH;rw [Od];constructor
 .refine Lg (λc hc=>?_) (by rw [<- zJ];exact F.one) (by rw [<- zJ];have:=F.most;omega);have hf:sg FIG=[48,49,50,51,52,53,54,55,56,57]:=by decide
  rw [hf];have:=F.dig c hc;simp;omega
 .rcases F.head with h|⟨c,r,e,hc⟩
  .rw [decide_eq_true h];rfl
  .rw [e];have : ¬ tx (take 1 (c::r))=("0":Str):=λx=>by
    have:=congrArg sg x;rw [aL] at this;have z:sg ("0":Str)=[48]:=by decide
    rw [z] at this;injection this with h1 _
    omega
   rw [decide_eq_false this];simp
structure Wd(z:Str):Prop where
 a:asc z=true
 most:z.length<=20
 no:32∉sg z
theorem d9{i:Int}(z:0<=i)(h1:i<10 ^ 18):Wd (toString i:Str):=by
 have F:=iL z h1;refine {?_,by rw [<- zJ];have:=F.most;omega,λh=>by have:=F.dig 32 h;omega};rw [dS,Ot];exact λc hc=>decide_eq_true (by have:=F.dig c hc;omega)
theorem nL(h:ao z=true):Wd z:=by
 unfold ao aG at h;rw [Od,Od,decide_eq_true_eq,decide_eq_true_eq,Ot] at h;have hl:∀c∈sg LET,c<128/\c≠32:=by decide +kernel
 refine {?_,by omega,λhz=>(hl 32 (Pz.mp (h.2 32 hz))).2 rfl};rw [dS,Ot];exact λc hc=>decide_eq_true (hl c (Pz.mp (h.2 c hc))).1
theorem xQ{t:Tab}(gm:aV t):∀{zs:List Str},(∀n∈zs,n∈names t)->(∀z∈cb t zs,Wd z)/\(cb t zs).length<=18*zs.length
 | [],_=>by simp [cb]
 | n::zs,h=>by
  obtain ⟨i1,i2⟩:=xQ gm (zs:=zs) λm hm=>h m (NR _ hm);obtain ⟨l,hl,G,O,J,F⟩:=gm.lk (h n (NX ..));have e:cb t (n::zs)=(n::(toString ((lk t n).length:Int):Str)::(lk t n).map λx=>(toString x:Str))++cb t zs:=by simp [cb]
  rw [e,G];refine {λz hz=>?_,by simp;omega};rcases Ox.mp hz with hz|hz
  .rcases NT.mp hz with rfl|hz
   .exact nL (gm.nm _ (h _ (NX ..)))
   .rcases NT.mp hz with rfl|hz
    .exact d9 (by omega) (by omega)
    .obtain ⟨x,hx,rfl⟩:=OE.mp hz;exact d9 (F x hx).1 (F x hx).2
  .exact i1 z hz
theorem kj{t:Tab}(gm:aV t):(∀z∈bR t,Wd z)/\(bR t).length<=289:=by
 have hl:=gm.len;obtain ⟨i1,i2⟩:=xQ gm (zs:=zP (names t)) λn F=>(bU _).1.mem_iff.mp F;have sl:(zP (names t)).length=t.length:=by rw [(bU _).1.length_eq];simp [names]
 unfold bR;refine {λz hz=>?_,by simp;omega};rcases NT.mp hz with rfl|hz
 .exact d9 (by omega) (by omega)
 .exact i1 z hz
def kkT(ks:List (Str×Tab))(n:Str):Tab:=(look ks n).getD []
noncomputable def aR(ks:List (Str×Tab))(zs:List Str):List Str:=zs.flatMap λn=>n::bR (kkT ks n)
noncomputable def cI(t:Tab)(ks:List (Str×Tab)):List Str:=bR t++(toString (ks.length:Int):Str)::aR ks (zP (names ks))
noncomputable def dB(t:Tab)(ks:List (Str×Tab)):Str:=Ql " " (cI t ks)
theorem xF{zs:List Str}(h:zs[i]?=some n):aR ks (zs.take (i+1))=aR ks (zs.take i)++[n]++bR (kkT ks n):=by
 unfold aR;rw [OU,h];simp
theorem cW.lk(h:cW ks)(z:n∈names ks):∃u,look ks n=some u/\kkT ks n=u/\aV u:=by
 cases e:look ks n with
 | none=>exact absurd z (cM.mp e)
 | some u=>exact {u,rfl,by unfold kkT;rw [e];rfl,h.gm _ (dq e)}
theorem vV(gk:cW ks):∀{zs:List Str},(∀n∈zs,n∈names ks)->(∀z∈aR ks zs,Wd z)/\(aR ks zs).length<=290*zs.length
 | [],_=>by simp [aR]
 | n::zs,h=>by
  obtain ⟨i1,i2⟩:=vV gk (zs:=zs) λm hm=>h m (NR _ hm);obtain ⟨u,O,G,F⟩:=gk.lk (h n (NX ..));obtain ⟨J,S⟩:=kj F;have e:aR ks (n::zs)=(n::bR (kkT ks n))++aR ks zs:=by simp [aR]
  rw [e,G];refine {λz hz=>?_,by simp;omega};rcases Ox.mp hz with hz|hz
  .rcases NT.mp hz with rfl|hz
   .exact nL (gk.nm _ (h _ (NX ..)))
   .exact J z hz
  .exact i1 z hz
theorem qW{t:Tab}(gm:aV t)(gk:cW ks):(∀z∈cI t ks,Wd z)/\(cI t ks).length<=1200:=by
 obtain ⟨F,J⟩:=kj gm;have O:=gk.len;obtain ⟨i1,i2⟩:=vV gk (zs:=zP (names ks)) λn G=>(bU _).1.mem_iff.mp G;have sl:(zP (names ks)).length=ks.length:=by rw [(bU _).1.length_eq];simp [names]
 unfold cI;refine {λz hz=>?_,by simp;omega};rcases Ox.mp hz with hz|hz
 .exact F z hz
 .rcases NT.mp hz with rfl|hz
  .exact d9 (by omega) (by omega)
  .exact i1 z hz
theorem EH{zs:List Str}(h:∀z∈zs,Wd z)(hl:zs.length<=2000):(zs.map (·.length)).sum+zs.length*(" ":Str).length<=16777216:=by
 have:∀l:List Str,(∀z∈l,Wd z)->(l.map (·.length)).sum<=20*l.length:=by
  intro l
  induction l with
  | nil=>simp
  | cons z l F =>
   intro h;have h1:=(h z (NX ..)).most;have h2:=F λy G=>h y (NR _ G);rw [Pi,List.sum_cons,OJ];omega
 have:=this zs h;rw [show (" ":Str).length=1 by decide];omega
structure E4(H:Hp)(p nl wl:Addr)(t:Tab)(ks:List (Str×Tab))(i:Nat)(σ:L2.St)(H':Hp):Prop where
 ex:∃t1,σ=[some (V.ref p),some (.ref wl),some (.ref nl),t1]
 same:zj H H'
 hnl:H' nl=some (.lst ((zP (names ks)).map V.str))
 hwl:H' wl=some (.lst ((bR t++(toString (ks.length:Int):Str)::aR ks ((zP (names ks)).take i)).map V.str))
 no:H wl=none
 ne:nl≠wl
 sz:(aR ks ((zP (names ks)).take i)).length<=290*i
 le:i<=3
def tJ(A:zk):Sp:=λvs H Q _=>∃(p b k:Addr)(t:Tab)(ks:List (Str×Tab)),vs=[.ref p]/\bX A H p b k t ks/\aV t/\cW ks/\∀H',zj H H'->Q (.str (dB t ks)) H'
theorem mh:zy [Wl,"words","held","name"] Wv (zl qS):=fsc
theorem Ft(F:Fun K "files_text" "files_text" qS f fd)(T:Txt K mg A)(Zo:GF P w K mg base true 5 VP Wv (xu A))(Y5:GM P w K mg base true 1 A.nv "held" Zj (AH A))(Zm:GM P w K mg base true 4 A.nv "of_held" X1 (yw A)):zp P w K mg base CX0 true 6 f fd Wv (tJ A):=by
 refine F.o mh λZW Ar outer s H vs Q E hr h=>?_;obtain ⟨p,b,k,t,ks,rfl,hF,gm,gk,q⟩:=h;refine {_,(W.h (zg (zr (i:=1) mh.nd rfl (NZ rfl) (zu Zo hr rfl (za (ze 0) zd)))
   (zg (zr (i:=2) mh.nd rfl (NZ rfl) (cc (ze 0) T.mm Y5 hr))
   (zg (ay (jE (ze 1) (bc dI rfl T.Hx QS (za (zT fh rfl T.sL OA (za (ze 2) zd)) zd))))
   (zg (bI PN.never (λ_=>rfl) (cQ (ze 2)) (zO (i:=3) mh.nd rfl (NZ rfl))
   (zg (ay (jE (ze 1) (ze 3)))
   (zi (ay (kZ (ze 1) (zu Zo hr rfl (za (bT (ze 0) T.mm Zm hr (za (ze 3) zd)) zd)))))))
   (zi (zw (rF zx (ze 1))))))))),?_}
 ac_rfl;refine {p,b,k,t,ks,rfl,hF,gm,λwl H1 s1 O ew=>?_};have F1:=hF.same s1;obtain ⟨dx,e1⟩:=F1.ob;have kl:=gk.len;erw [e1,Jp];refine {p,b,k,t,ks,rfl,F1,by omega,λnl H2 J=>?_};have Z:=J.same _ _ ew;erw [Z,J.at_];have sl:(zP (names ks)).length=ks.length:=by rw [(bU _).1.length_eq];simp [names]
 have aI:=(kj gm).2;have G:nl≠wl:=λz=>by have:=J.no;rw [z,ew] at this;cases this
 simp only [NO,sl];have S:∀H' o,zj H H'->zj H (upd H' wl o):=λH' o h c u ec=>by rw [zh (zQ ec O)];exact h c u ec
 refine {dj (by omega),aS (by omega),{_,SqL.of (by rw [zh G];exact J.at_)},az.lst (xs:=(zP (names ks)).map V.str) (E4 H p nl wl t ks) {{_,rfl},S _ _ (s1.trans J.same),by rw [zh G];exact J.at_,by rw [zt];simp [aR],O,G,by simp [aR],by omega} (λi σ H' _ I=>SqL.of I.hnl) ?_ ?_}
 .rintro i x σ H' hx ⟨⟨t1,rfl⟩,sm,hnl,hwl,O,G,sz,le⟩;rw [Oe] at hx;obtain ⟨n,U,rfl⟩:=Ou.mp hx;have hi:i<(zP (names ks)).length:=(NU.mp U).1;obtain ⟨u,hu,eu,gu⟩:=gk.lk ((bU _).1.mem_iff.mp (OS U));have uw:=(kj gu).2;erw [hwl];refine {aS (by simp;omega),{_,zt},?_};have F4:=hF.same (S H' (.lst (List.map V.str (bR t++(toString (ks.length:Int):Str)::aR ks (take i (zP (names ks))))++[V.str n])) sm);obtain ⟨av,e4⟩:=F4.ob;refine {av,_,e4,Kn,p,b,k,t,ks,n,u,rfl,F4,hu,λx b' k' H5 s5 nb nk nx hB _=>{x,b',k',u,[],rfl,hB.files,gu,λl6 H6 s6 n6 e6=>?_}};have ax:=s6 _ _ (s5 _ _ (zt (H:=H')));have ak:zj H H6:=((S H' _ sm).trans s5).trans s6;erw [ax,e6];refine {ah (by simp;omega),{_,rfl},S _ _ ak,?_,?_,O,G,?_,by omega}
  .rw [zh G];exact s6 _ _ (s5 _ _ (by rw [zh G];exact hnl))
  .rw [zt,xF U,eu];simp
  .rw [xF U,eu];simp;omega
 .rintro σ H' ⟨⟨t1,rfl⟩,sm,hnl,hwl,O,G,sz,le⟩;ac_rfl;rw [NO,Ob (NV _)] at hwl;obtain ⟨w1,w2⟩:=qW gm gk;exact {cI t ks,hwl,EH w1 (by omega),q H' sm}
end
abbrev pd:Stmt:=aC (top 30) 5
abbrev my:Stmt:=aC (top 30) 1
abbrev kP:Stmt:=aC (top 30) 2
abbrev lW:Stmt:=aC (top 30) 3
abbrev kK:Stmt:=aC (top 30) 6
abbrev mE:Stmt:=top 38
def c7(wl:Addr)(i:Int):List (Str×V):=[("words",.ref wl),("taken",.int i)]
structure zY(A:zk)(H:Hp)(p:Addr)(ws:List Str):Prop where
 ex:∃(dx wl:Addr)(pre:List Str),H p=some (.ins A.Words dx (c7 wl pre.length))/\H wl=some (.lst ((pre++ws).map V.str))/\(pre++ws).length<=4000/\pre++ws≠[]
 wd:∀z∈ws,asc z=true/\z.length<=100000
theorem zY.same{p:Addr}(h:zY A H p ws)(s:zj H H'):zY A H' p ws:=let ⟨dx,wl,pre,e1,e2,r⟩:=h.ex;{{dx,wl,pre,s _ _ e1,s _ _ e2,r},h.wd}
theorem zY.but{p b:Addr}(h:zY A H p ws)(s:But b H H')(hb:∃kvs,H b=some (.dK kvs)):zY A H' p ws:=by
 obtain ⟨dx,wl,pre,G,F,r⟩:=h.ex;obtain ⟨kvs,hb⟩:=hb;exact {{dx,wl,pre,s _ _ (λz=>by subst z;rw [G] at hb;cases hb) G,s _ _ (λz=>by subst z;rw [F] at hb;cases hb) F,r},h.wd}
def zG:List Str->Option (Int×List Str)
 | []=>none
 | z::ws=>if zH z=true then some ((PL z).getD 0,ws) else none
def iR:List Str->Option (Str×List Str)
 | []=>none
 | z::ws=>if ao z=true then some (z,ws) else none
def bw(y:Str)(ws:List Str):Option (Str×List Str):=match iR ws with
 | none=>none
 | some (z,r)=>if y.cps.toList<z.cps.toList then some (z,r) else none
theorem Bd:∀(l:List Nat)(a:Nat),(∀c∈l,48<=c/\c<=57)->l.foldl (λZZ c=>ZZ*10+(c-48)) a<(a+1)*10 ^ l.length
 | [],a,_=>by simp
 | c::l,a,h=>by
  have:=h c (NX ..);have b:=Bd l (a*10+(c-48)) (λz hz=>h z (NR _ hz));refine Oi b ?_;rw [OJ,Nat.pow_succ,Nat.mul_comm (10 ^ l.length) 10,<- Nat.mul_assoc];exact Nat.mul_le_mul_right _ (by omega)
theorem qo(h:zH z=true):z.length<=640/\∃i,PL z=some i/\0<=i/\i<10 ^ 18:=by
 unfold zH aG at h;rw [Od,Od,Od,decide_eq_true_eq,decide_eq_true_eq] at h;obtain ⟨⟨⟨h1,h2⟩,h3⟩,_⟩:=h;have hl:z.length<=18:=by lia
 have hd:∀c∈sg z,48<=c/\c<=57:=by
  intro c hc;have:=Ot.mp h3 c hc;have hf:sg FIG=[48,49,50,51,52,53,54,55,56,57]:=by decide
  rw [hf] at this;have:=Pz.mp this;simp only [NT,Oh,or_false] at this;omega
 have e:=intText_digits (x:=z) hd (λe=>by have:z.length=0:=(by rw [<- zJ];rw [show sg z=[] from e];rfl);lia) 'l';refine {'l',_,e,by omega,?_};have b:=Bd _ 0 hd;have hz:(sg z).length<=18:=by rw [zJ];exact hl
 have:=Oi b (Nat.mul_le_mul_left _ (Nat.pow_le_pow_right 'd' hz))
 exact_mod_cast this
section
variable {P:NW}{w:Oc}{K:Frag}{mg:Str->Option Value}{base:Heap}{A:zk}{wl:Addr}{i:Int}
theorem w8:(c7 wl i).lookup ("words":Str)=some (.ref wl):=by kernel_rfl
theorem rB:(c7 wl i).lookup ("taken":Str)=some (.int i):=by kernel_rfl
theorem rY:(c7 wl i).lookup (V5:Str)=none:=by kernel_rfl
theorem eO:(c7 wl i).lookup (Wf:Str)=none:=by kernel_rfl
theorem Dc:(c7 wl i).lookup ("take_name":Str)=none:=by kernel_rfl
theorem Bl:(c7 wl i).lookup (VQ:Str)=none:=by kernel_rfl
theorem Ln:(c7 wl i).lookup ("take_end":Str)=none:=by kernel_rfl
def se(A:zk):Sp:=λvs H Q _=>∃(p:Addr)(ws:List Str),vs=[.ref p]/\zY A H p ws/\Q (.bl (decide (ws=[]))) H
theorem Cm:zy Zj Zj (zl pd):=fsc
theorem Cq(F:Fun K VQ "Words.is_at_end" pd f fd)(T:Txt K mg A):zp P w K mg base CX0 true 1 f fd Zj (se A):=by
 refine F.o Cm λZ U outer s H vs Q E hr h=>?_;obtain ⟨p,ws,rfl,J,q⟩:=h;have G:_<cLine:=Oy (zV hr);refine {_,(W.h (zi (zw (fk (oE (bS G)) (fD (aw T.m9 T.tj (clE (zb 0)))) (zT dG rfl T.sL OA (za (fD (aw T.m9 T.wh (clE (zb 0)))) zd)) (zE _))))),?_};obtain ⟨dx,wl,pre,O,S,r⟩:=J.ex;erw [O,S,w8,rB];have e:decide ((pre.length:Int)=((List.map V.str (pre++ws)).length:Nat))=decide (ws=[]):=by
  rw [NO,Ov];cases ws with
  | nil=>simp
  | cons z ws=>simp;omega
 rw [e];exact q
def kD(A:zk):Sp:=λvs H Q E=>∃(p:Addr)(ws:List Str),vs=[.ref p]/\zY A H p ws/\(∀z r,ws=z::r->∀H',But p H H'->zY A H' p r->Q (.str z) H')/\(ws=[]->E (.ref A.NoPart) none H)
theorem Ih:zy Zj Zj (zl my):=fsc
theorem Mf(F:Fun K V5 "Words.take_word" my f fd)(T:Txt K mg A)(Z:GM P w K mg base true 1 A.Words VQ Zj (se A)):zp P w K mg base (CXW P w) true 2 f fd Zj (kD A):=by
 refine F.oW Ih λZW Ar outer s H vs Q E hr h=>?_;obtain ⟨p,ws,rfl,J,q,qe⟩:=h;have Th:=eQ (cm:=true) (P:=P) (w:=w) (K:=K) (mg:=mg) (base:=base) (N:=Zj) (qual:="Words.take_word") (scope:=zl my) (f:=f) (cd:=ZW) (A:=Ar) (outer:=outer) (s:=s) (H:=H) (E:=E);refine {_,(W.h (zg (zL (cE (m0D (cc (clE (zb 0)) T.m9 Z hr)))
   (zi (fb rfl Th T.q0 rfl T.sU (za zx zd)))
   zW)
   (zg (Kw T.m9 T.tj (zb 0) zo DI)
   (zi (zw (aN hU (fD (aw T.m9 T.wh (clE (zb 0)))) (zD (oI0 ju) (fD (aw T.m9 T.tj (clE (zb 0)))) zo) (λ_ _=>rfl))))))),?_}
 obtain ⟨dx,wl,pre,O,G,r⟩:=J.ex;erw [O,Bl];refine {p,ws,rfl,J,?_};have S:wl≠p:=λy=>by rw [y,O] at G;cases G
 cases ws with
 | nil =>
  erw [decide_true];exact {'d',qe rfl}
 | cons z ws =>
  erw [O,rB,List.cons_ne_nil,decide_false];have eF:z6 ("taken":Str) (V.int ((pre.length:Int)+1)) (c7 wl pre.length)=c7 wl ((pre.length:Int)+1):=by kernel_rfl
  try rw [eF]
  refine {by show 2<1000;decide,dx,_,zt,_,w8,dx,_,zt,_,rB,?_};ac_rfl;have ei:(pre.length:Int)+1-1=((pre.length:Nat):Int):=by omega
  refine {_,.inl (by rw [zh S];exact G),.str z,by rw [ei];exact fT 'z',q z ws rfl _ But.upd {{dx,wl,pre++[z],?_,?_,?_},λy U=>J.wd y (NR _ U)}}
  .rw [zt];simp
  .rw [zh S,G];simp
  .simpa using r
def jr(A:zk):Sp:=λvs H Q E=>∃(p:Addr)(ws:List Str),vs=[.ref p]/\zY A H p ws/\(∀i r,zG ws=some (i,r)->0<=i->i<10 ^ 18->∀H',But p H H'->zY A H' p r->Q (.int i) H')/\(zG ws=none->∀H',But p H H'->E (.ref A.NoPart) none H')
theorem yE:zy Wr Zj (zl kP):=fsc
theorem Kh(F:Fun K Wf VS kP f fd)(T:Txt K mg A)(Z4:GMX P w K mg base true 2 A.Words V5 Zj (kD A))(Zs:GF P w K mg base true 2 V2 WQ (kM zH)):zp P w K mg base (CXW P w) true 3 f fd Zj (jr A):=by
 refine F.oW yE λZW Ar outer s H vs Q E hr h=>?_;obtain ⟨p,ws,rfl,S,q,qe⟩:=h;have Th:=eQ (cm:=true) (P:=P) (w:=w) (K:=K) (mg:=mg) (base:=base) (N:=Wr) (qual:=VS) (scope:=zl kP) (f:=f) (cd:=ZW) (A:=Ar) (outer:=outer) (s:=s) (H:=H) (E:=E);refine {_,(W.h (zg (zr (i:=1) yE.nd rfl (NZ rfl) (cw (cB (clE (zb 0)) T.m9 Th Z4 hr)))
   (zg (zL (cf (cE (caD (zu Zs hr rfl (clP (za (zb 1) zd))))))
   (zi (fb rfl Th T.q0 rfl T.sU (za zx zd)))
   zW)
   (zi (zw (bc y9 rfl T.aL boot_int (za (zb 1) zd))))))),?_}
 obtain ⟨dx,wl,pre,e1,e2,hl⟩:=S.ex;erw [e1,rY];refine {p,ws,rfl,S,λz r G H1 U O=>?_,λG=>?_}
 .subst G;have wd:=S.wd z (NX ..);ac_rfl;refine {z,rfl,wd.1,wd.2,λH2 s2=>?_};ac_rfl;by_cases hz:zH z=true
  .obtain ⟨J,i,Z,i0,i1⟩:=qo hz;rw [hz];ac_rfl;exact {J,i,Z,q i r ((if_pos hz).trans (by rw [Z];rfl)) i0 i1 H2 (U.trans (But.of s2)) (O.same s2)}
  .rw [Pu.mpr hz];ac_rfl;exact {'d',qe (if_neg hz) H2 (U.trans (But.of s2))}
 .subst G;ac_rfl;exact {_,rfl,qe rfl H (But.of (zj.refl _))}
def yD(A:zk):Sp:=λvs H Q E=>∃(p:Addr)(ws:List Str),vs=[.ref p]/\zY A H p ws/\(∀z r,iR ws=some (z,r)->∀H',But p H H'->zY A H' p r->Q (.str z) H')/\(iR ws=none->∀H',But p H H'->E (.ref A.NoPart) none H')
theorem yG:zy Wr Zj (zl lW):=fsc
theorem Dj(F:Fun K "take_name" "Words.take_name" lW f fd)(T:Txt K mg A)(Z4:GMX P w K mg base true 2 A.Words V5 Zj (kD A))(YB:GF P w K mg base true 2 "is_name" WQ (kM ao)):zp P w K mg base (CXW P w) true 3 f fd Zj (yD A):=by
 refine F.oW yG λZW Ar outer s H vs Q E hr h=>?_;obtain ⟨p,ws,rfl,O,q,Z⟩:=h;have U:=eQ (cm:=true) (P:=P) (w:=w) (K:=K) (mg:=mg) (base:=base) (N:=Wr) (qual:="Words.take_name") (scope:=zl lW) (f:=f) (cd:=ZW) (A:=Ar) (outer:=outer) (s:=s) (H:=H) (E:=E);refine {_,(W.h (zg (zr (i:=1) yG.nd rfl (NZ rfl) (cw (cB (clE (zb 0)) T.m9 U Z4 hr)))
   (zg (zL (cf (cE (caD (zu YB hr rfl (clP (za (zb 1) zd))))))
   (zi (fb rfl U T.q0 rfl T.sU (za zx zd)))
   zW)
   (zi (zw (zb 1)))))),?_}
 obtain ⟨dx,wl,pre,e1,e2,hl⟩:=O.ex;erw [e1,rY];refine {p,ws,rfl,O,λz r G H1 S J=>?_,λG=>?_}
 .subst G;have wd:=O.wd z (NX ..);ac_rfl;refine {z,rfl,wd.1,wd.2,λH2 s2=>?_};ac_rfl;by_cases hz:ao z=true
  .rw [hz];ac_rfl;exact q z r (if_pos hz) H2 (S.trans (But.of s2)) (J.same s2)
  .rw [Pu.mpr hz];ac_rfl;exact {'d',Z (if_neg hz) H2 (S.trans (But.of s2))}
 .subst G;ac_rfl;exact {_,rfl,Z rfl H (But.of (zj.refl _))}
def Av(A:zk):Sp:=λvs H Q E=>∃(p:Addr)(ws:List Str),vs=[.ref p]/\zY A H p ws/\(ws=[]->Q .non H)/\(ws≠[]->E (.ref A.NoPart) none H)
theorem HD:zy Zj Zj (zl kK):=fsc
theorem Nk(F:Fun K "take_end" "Words.take_end" kK f fd)(T:Txt K mg A)(G:GM P w K mg base true 1 A.Words VQ Zj (se A)):zp P w K mg base (CXW P w) true 2 f fd Zj (Av A):=by
 refine F.oW HD λU J outer s H vs Q E hr h=>?_;obtain ⟨p,ws,rfl,z,q,Z⟩:=h;have O:=eQ (cm:=true) (P:=P) (w:=w) (K:=K) (mg:=mg) (base:=base) (N:=Zj) (qual:="Words.take_end") (scope:=zl kK) (f:=f) (cd:=U) (A:=J) (outer:=outer) (s:=s) (H:=H) (E:=E);refine {_,(W.h (zi (zL (cf (cE (m0D (cc (clE (zb 0)) T.m9 G hr))))
   (zi (fb rfl O T.q0 rfl T.sU (za zx zd)))
   zW))),?_}
 obtain ⟨dx,wl,pre,S,e2,r⟩:=z.ex;erw [S,Bl];refine {p,ws,rfl,z,?_};by_cases hz:ws=[]
 .rw [decide_eq_true hz];ac_rfl;exact q hz
 .rw [decide_eq_false hz];ac_rfl;exact {'d',Z hz}
def rf(A:zk):Sp:=λvs H Q E=>∃(p:Addr)(y:Str)(ws:List Str),vs=[.ref p,.str y]/\zY A H p ws/\(∀z r,bw y ws=some (z,r)->∀H',But p H H'->zY A H' p r->Q (.str z) H')/\(bw y ws=none->∀H',But p H H'->E (.ref A.NoPart) none H')
theorem AB:zy ["words","name","later"] Ws (zl mE):=fsc
theorem Jt(F:Fun K Wi Wi mE f fd)(T:Txt K mg A)(Zv:GMX P w K mg base true 3 A.Words "take_name" Zj (yD A)):zp P w K mg base (CXW P w) true 4 f fd Ws (rf A):=by
 refine F.oW AB λZW Ar outer s H vs Q E hr h=>?_;obtain ⟨p,y,ws,rfl,U,q,Z⟩:=h;have S:=eQ (cm:=true) (P:=P) (w:=w) (K:=K) (mg:=mg) (base:=base) (N:=["words","name","later"]) (qual:=Wi) (scope:=zl mE) (f:=f) (cd:=ZW) (A:=Ar) (outer:=outer) (s:=s) (H:=H) (E:=E);refine {_,(W.h (zg (zr (i:=2) AB.nd rfl (NZ rfl) (cw (cB (clE (zb 0)) T.m9 S Zv hr)))
   (zg (zL (tD (zF (clO qE) (clE (zb 2)) (clE (zb 1)) (zE _)))
   (zi (fb rfl S T.q0 rfl T.sU (za zx zd)))
   zW)
   (zi (zw (zb 2)))))),?_}
 obtain ⟨dx,wl,pre,e1,e2,hl⟩:=U.ex;erw [e1,Dc];refine {p,ws,rfl,U,λz r G H1 J O=>?_,λG H1 J=>?_}
 .ac_rfl;by_cases lt:y.cps.toList<z.cps.toList
  .rw [decide_eq_true lt];ac_rfl;exact q z r (by unfold bw;rw [G];exact if_pos lt) H1 J O
  .rw [decide_eq_false lt];ac_rfl;exact {'d',Z (by unfold bw;rw [G];exact if_neg lt) H1 J}
 .ac_rfl;exact {_,rfl,Z (by unfold bw;rw [G]) H1 J}
end
abbrev qb:Stmt:=aC (top 30) 0
theorem kS:∀{l:List Nat}{v:List Nat},v∈z5 c l->v.length<=l.length/\∀x∈v,x∈l
 | [],v,h=>by
  have:=OO.mp h;subst this;exact {NV _,λ_ h=>h}
 | y::l,v,h=>by
  by_cases e:y=c
  .have es:z5 c (y::l)=[]::z5 c l:=if_pos e;rw [es] at h;rcases NT.mp h with rfl|h
   .exact {O9 _,λ_ h=>nomatch h}
   .have:=kS h;exact {PV this.1,λx hx=>NR _ (this.2 x hx)}
  .rw [eA c y l e] at h;obtain ⟨a,r,F⟩:=dJ c l;rw [F] at h;rcases NT.mp h with rfl|h
   .have:=kS (v:=a) (by rw [F];exact NX ..);exact {Sl this.1,λx hx=>(NT.mp hx).elim (λz=>z ▸ NX ..) λz=>NR _ (this.2 x z)}
   .have:=kS (v:=v) (by rw [F];exact NR _ h);exact {PV this.1,λx hx=>NR _ (this.2 x hx)}
def wds(z:Str):List Str:=Pb z " "
theorem bL(z:Str):wds z=(z5 32 (sg z)).map tx:=(congrArg (Pb z) (show (" ":Str)=c1 32 from by decide)).trans (lY z 'd')
theorem lD(h:v∈wds z):v.length<=z.length/\∀x∈sg v,x∈sg z:=by
 rw [bL] at h;obtain ⟨l,hl,rfl⟩:=OE.mp h;have:=kS hl;rw [<- zJ,<- zJ,aL];exact this
theorem Kx(z:Str):wds z≠[]:=by
 rw [bL];obtain ⟨a,r,e⟩:=dJ 32 (sg z);rw [e];simp
section
variable {P:NW}{w:Oc}{K:Frag}{mg:Str->Option Value}{base:Heap}{A:zk}
def uW(A:zk):Sp:=λvs H Q _=>∃(p dx:Addr)(z:Str),vs=[.ref p,.str z]/\H p=some (.ins A.Words dx [])/\asc z=true/\z.length<=100000/\(wds z).length<=4000/\∀H',But p H H'->zY A H' p (wds z)->Q .non H'
theorem LQ:zy Wq Wq (zl qb):=fsc
theorem BH(F:Fun K Wn "Words.__init__" qb f fd)(T:Txt K mg A):zp P w K mg base CX0 true 1 f fd Wq (uW A):=by
 refine F.o LQ λU S outer s H vs Q E hr h=>?_;obtain ⟨p,dx,z,rfl,hp,ha,hz,hl,q⟩:=h;refine {_,(W.h (zg (sfD (eh T.m9 T.wh (clE (zb 0)) (clE (sN (zb 1) zx))))
   (zi (sfD (eh T.m9 T.tj (clE (zb 0)) (clE zo)))))),?_}
 ac_rfl;refine {'d',aS (by omega),ah (by show (wds z).length<=_;omega),λl H2 G=>{dx,[],G.same _ _ hp,'d',dx,_,zt,by show 1<1000;decide,?_}};have O:z6 ("taken":Str) (V.int 0) (z6 ("words":Str) (V.ref l) [])=c7 l 0:=by kernel_rfl
 rw [O];have J:l≠p:=λz=>by have:=G.no;rw [z,hp] at this;cases this
 exact q _ (λa o n e=>by rw [zh n,zh n];exact G.same _ _ e) {{dx,l,[],by rw [zt];rfl,by rw [zh J,zh J];exact G.at_,hl,Kx z},λv hv=>{kI ha (lD hv).2,Ol (lD hv).1 hz}}
abbrev mZ:Stmt:=top 37
def aY:Nat->List Int->List Str->Option (List Int×List Str)
 | 0,l,ws=>some (l,ws)
 | n+1,l,ws=>(zG ws).bind λa=>aY n (l++[a.1]) a.2
def ai:Nat->Tab->Str->List Str->Option (Tab×List Str)
 | 0,t,_,ws=>some (t,ws)
 | n+1,t,y,ws=>(bw y ws).bind λa=>(zG a.2).bind λb=>if b.1=0 then none else (aY b.1.toNat [] b.2).bind λc=>ai n (zA t a.1 c.1) a.1 c.2
def rdT(ws:List Str):Option (Tab×List Str):=(zG ws).bind λa=>ai a.1.toNat [] "" a.2
theorem aZ{ws r:List Str}(h:zG ws=some (i,r)):ws.length=r.length+1:=by
 cases ws with
 | nil=>cases h
 | cons z ws =>
  have h:(if zH z=true then some ((PL z).getD 0,ws) else none)=some (i,r):=h;split at h
  .injection h with h;injection h with _ h;rw [h];rfl
  .cases h
theorem iG{ws r:List Str}(h:bw y ws=some (z,r)):ws.length=r.length+1/\y.cps.toList<z.cps.toList:=by
 unfold bw at h;cases ws with
 | nil=>cases h
 | cons v ws =>
  have e:iR (v::ws)=if ao v=true then some (v,ws) else none:=rfl;rw [e] at h;split at h
  .cases h
  .rename_i a b c;split at h
   .injection h with h;injection h with h1 h2
    split at c
    .injection c with c;injection c with c1 c2
     subst h1 h2;exact {by rw [<- c2];rfl,by assumption}
    .cases c
   .cases h
theorem ED{α:Type}{t:List (Str×α)}{a b:α}:zA (zA t n a) n b=zA t n b:=by
 have hs:(look (zA t n a) n).isSome=true:=by rw [dD,if_pos rfl];rfl
 have e:zA (zA t n a) n b=(zA t n a).map λp=>if p.1=n then (p.1,b) else p:=if_pos hs;rw [e];by_cases h:(look t n).isSome
 .have G:zA t n a=t.map λp=>if p.1=n then (p.1,a) else p:=if_pos h;have F:zA t n b=t.map λp=>if p.1=n then (p.1,b) else p:=if_pos h;rw [G,F,PK];refine Pd λp _=>?_;show (if (if p.1=n then (p.1,a) else p).1=n then ((if p.1=n then (p.1,a) else p).1,b) else (if p.1=n then (p.1,a) else p))=_;by_cases hp:p.1=n
  .simp only [if_pos hp]
  .simp only [if_neg hp]
 .have G:zA t n a=t++[(n,a)]:=if_neg h;have F:zA t n b=t++[(n,b)]:=if_neg h;rw [G,F,OI];have J:(t.map λp=>if p.1=n then (p.1,b) else p)=t:=by
   refine (Pd λp hp=>?_).trans (map_id t);have:p.1≠n:=λz=>by
    have:=cM.mp (Option.not_isSome_iff_eq_none.mp h);exact this (by rw [<- z];exact OE.mpr {p,hp,rfl})
   exact if_neg this
  rw [J];exact congrArg (t++·) (by show [if n=n then (n,b) else (n,a)]=_;rw [if_pos rfl])
theorem G6{b k wl:Addr}:zS b k≠c7 wl i:=by
 intro h;have h1:(zS b k).map (·.1)=(c7 wl i).map (·.1):=by rw [h]
 have h2:("births":Str)=("words":Str):=by injection h1
 exact absurd h2 'd'
theorem But.fresh{p b:Addr}(x:But p H H1)(y:But b H1 H2)(n:H b=none):But p H H2:=λa o F e=>y a o (λz=>by rw [<- z,e] at n;cases n) (x a o F e)
def dQ{α:Type}(u:List (Str×α))(y:Str):Prop:=∀m∈names u,¬ y.cps.toList<m.cps.toList
theorem dQ.new{α:Type}{u:List (Str×α)}(h:dQ u y)(l:y.cps.toList<n.cps.toList):look u n=none:=cM.mpr λz=>h n z l
theorem dQ.put{α:Type}{u:List (Str×α)}{a:α}(h:dQ u y)(l:y.cps.toList<n.cps.toList):dQ (zA u n a) n:=λm hm z=>by
 rw [qJ,h.new l] at hm;rcases Ox.mp hm with hm|hm
 .exact h m hm (List.lt_trans l z)
 .rw [OO.mp hm] at z;exact List.lt_irrefl _ z
theorem zY.ne{p q b k dx:Addr}(h:zY A H p ws)(e:H q=some (.ins A.nv dx (zS b k))):q≠p:=λz=>by
 obtain ⟨G,wl,pre,F,_⟩:=h.ex;rw [z,F] at e;injection e with e
 injection e with _ _ e
 exact G6 e.symm
theorem zY.bC{p q:Addr}(h:zY A H p ws)(e:H q=some (.dK kvs)):q≠p:=λz=>by
 obtain ⟨G,wl,pre,F,_⟩:=h.ex;rw [z,F] at e;cases e
theorem zY.nf{p q:Addr}{o:Obj}(h:zY A H p ws)(e:H q=some (.frz o (.dK kvs))):q≠p:=λz=>by
 obtain ⟨G,wl,pre,F,_⟩:=h.ex;rw [z,F] at e;cases e
theorem zY.nt{p:Addr}(h:zY A H p ws)(xs:List V):H p≠some (.tup xs):=λz=>by
 obtain ⟨G,wl,pre,F,_⟩:=h.ex;rw [F] at z;cases z
theorem aU.Uo{p q b k:Addr}{t:Tab}(h:aU A H q b k t)(s:But p H H')(hp:zY A H p ws):aU A H' q b k t:=by
 obtain ⟨dx,e⟩:=h.ob;have hd:∀a kvs,Rd H a (.dK kvs)->Rd H' a (.dK kvs):=λa kvs r=>r.elim (λe=>.inl (s _ _ (hp.bC e) e)) (λ⟨o,e⟩=>.inr {o,s _ _ (hp.nf e) e});obtain ⟨kvs,z,d⟩:=h.mu.ex;exact {{dx,s _ _ (hp.ne e) e},{{kvs,hd _ _ z,d.imp λv a r=>r.but s hp.nt},h.mu.nd},hd _ _ h.kept}
theorem zB.Uo{p q b k:Addr}{t:Tab}(h:zB A H q b k t ks)(s:But p H H')(hp:zY A H p ws):zB A H' q b k t ks:=by
 obtain ⟨dx,e⟩:=h.ob;obtain ⟨kvs,F,d⟩:=h.mu.ex;obtain ⟨kk,z,O⟩:=h.kept;exact {{dx,s _ _ (hp.ne e) e},{{kvs,s _ _ (hp.bC F) F,d.imp λv a r=>r.but s hp.nt},h.mu.nd},{kk,s _ _ (hp.bC z) z,O.imp λv a ⟨q,J,k',G,r,n⟩=>{q,J,k',G,r.Uo s hp,n}},h.Vv,h.ne}
structure MN(A:zk)(H:Hp)(p q b k:Addr)(N:Nat)(R:Option (Tab×List Str))(m:Nat)(i:Nat)(σ:L2.St)(H':Hp):Prop where
 ex:∃y ws u t1 t2 t3,σ=[some (V.ref p),some (.ref q),some (.str y),t1,t2,t3]/\zY A H' p ws/\zB A H' q b k u []/\ai (N-i) u y ws=R/\u.length+ws.length<=m/\dQ u y
 but:But p H H'
structure C2(A:zk)(H:Hp)(p q b k:Addr)(M:Int)(n:Str)(u:Tab)(R:Option (List Int×List Str))(m:Nat)(j:Nat)(σ:L2.St)(H':Hp):Prop where
 ex:∃l ws u' t1 t3,σ=[some (V.ref p),some (.ref q),some (.str n),t1,some (.int M),t3]/\zY A H' p ws/\zB A H' q b k u' []/\aY (M.toNat-j) l ws=R/\l.length=j/\j+ws.length<=m/\lk u' n=l/\(∀l',zA u' n l'=zA u n l')/\(0<j->u'=zA u n l)/\u'.length<=u.length+1
 but:But p H H'
def vT(A:zk):Sp:=λvs H Q E=>∃(p:Addr)(ws:List Str),vs=[.ref p]/\zY A H p ws/\ws.length<=3003/\(∀u r,rdT ws=some (u,r)->∀q b k H',But p H H'->H q=none->H b=none->H k=none->zB A H' q b k u []->zY A H' p r->Q (.ref q) H')/\(rdT ws=none->∀H',But p H H'->E (.ref A.NoPart) none H')
theorem gZ:zy Wu WE (zl mZ):=fsc
theorem Gh(F:Fun K VU VU mZ f fd)(T:Txt K mg A)(Zi:GC P w K mg base true 1 "Files" A.nv Zj (mH A))(Z8:GMX P w K mg base true 3 A.Words Wf Zj (jr A))(ZU:GX P w K mg base true 4 Wi Ws (rf A))(Zz:GM P w K mg base true 4 A.nv "put" WI (pS A)):zp P w K mg base (CXW P w) true 5 f fd WE (vT A):=by
 refine F.oW gZ λZW Ar outer s H vs Q E hr h=>?_;obtain ⟨p,ws,rfl,hW,hl,q,qe⟩:=h;have hu:_<cLine:=Oy (zV hr);have Th:=eQ (cm:=true) (P:=P) (w:=w) (K:=K) (mg:=mg) (base:=base) (N:=Wu) (qual:=VU) (scope:=zl mZ) (f:=f) (cd:=ZW) (A:=Ar) (outer:=outer) (s:=s) (H:=H) (E:=E);refine {_,(W.h (zg (zr (i:=1) gZ.nd rfl (NZ rfl) (o9 Zi hr rfl))
   (zg (zr (i:=2) gZ.nd rfl (NZ rfl) zx)
   (zg (mB Th (bI (mn rfl (λok=>ok.frames) rfl) (λ_=>rfl) (dm rfl T.ri (za (cw (cB (clE (zb 0)) T.m9 dr Z8 hr)) zd)) (zO (i:=3) gZ.nd rfl (NZ rfl))
   (zg (zr (i:=2) gZ.nd rfl (NZ rfl) (cXD (fg dr ZU hr rfl (clP (za (zb 0) (za (zb 2) zd))))))
   (zg (zr (i:=4) gZ.nd rfl (NZ rfl) (cw (cB (clE (zb 0)) T.m9 dr Z8 hr)))
   (zg (zL (tD (zF (clO (oE (bS hu))) (clE (zb 4)) (clE zo) (zE _)))
   (zi (fb rfl dr T.q0 rfl T.sU (za zx zd)))
   zW)
   (zi (mB dr (bI (mn rfl (λok=>ok.frames) rfl) (λ_=>rfl) (dm rfl T.ri (za (zb 4) zd)) (zO (i:=5) gZ.nd rfl (NZ rfl))
   (zi (ay (mD (bT (clE (zb 1)) T.mm Zz hr (clP (za (zb 2) (za (zb 5) (za (cw (cB (clE (zb 0)) T.m9 dr Z8 hr)) zd))))))))))))))))
   (zi (zw (zb 1))))))),?_}
 ac_rfl;refine λx X3 H2 nI=>{x,X3,rfl,nI.at_,λb1 k1 H3 s3 nb nk eb ek bq ex=>{rfl,?_}};have px:∀c o,H c=some o->c≠x:=λc o e z=>by have:=nI.no;rw [<- z,e] at this;cases this
 have WW:zj H H3:=λc o e=>s3 c o (px c o e) (nI.same c o e);have b0:H b1=none:=nI.same.free nb;have k0:H k1=none:=nI.same.free nk;have F3:zB A H3 x b1 k1 [] []:={⟨X3,ex⟩,{{[],eb,.nil},by simp [names]},{[],ek,.nil},by simp [names],bq};have W3:=hW.same WW;obtain ⟨dx,wl,pre,e1,e2,r⟩:=W3.ex;erw [e1,eO];refine {p,ws,rfl,W3,λN r1 eN N0 N1 H4 b4 ba=>?_,λeN H4 b4=>?_}
 rotate_left
 .ac_rfl;exact {_,rfl,qe (by unfold rdT;rw [eN];rfl) H4 ((But.of WW).trans b4)}
 have F4:=F3.Uo b4 W3;have eT:rdT ws=ai N.toNat [] "" r1:=by unfold rdT;rw [eN];rfl
 rw [eT] at qe;have l1:=aZ eN;ac_rfl;have bb:But p H H4:=(But.of WW).trans b4;refine {by omega,by omega,az.rng (MN A H p x b1 k1 N.toNat (ai N.toNat [] "" r1) 3002) {{_,r1,[],_,_,_,rfl,ba,F4,rfl,by simp;omega,λm hm=>nomatch hm},bb} ?_ ?_}
 .rintro i σ H' hi ⟨⟨y,WV,u,t1,t2,t3,rfl,J,U,Z,hm,hy⟩,bt⟩;obtain ⟨c,hc⟩:∃c,N.toNat-i=c+1:={N.toNat-i-1,by omega};rw [hc] at Z;ac_rfl;refine {p,y,WV,rfl,J,λn r2 e5 H5 b5 ak=>?_,λe5 H5 b5=>?_}
  rotate_left
  .ac_rfl;exact {_,rfl,qe (by rw [<- Z];unfold ai;rw [e5];rfl) H5 (bt.trans b5)}
  have F5:=U.Uo b5 J;obtain ⟨l5,aI⟩:=iG e5;obtain ⟨b2,b3,bu,a7,_⟩:=ak.ex;erw [a7,eO];refine {p,r2,rfl,ak,λM r3 e6 M0 M1 H6 b6 a3=>?_,λe6 H6 b6=>?_}
  rotate_left
  .ac_rfl;exact {_,rfl,qe (by rw [<- Z];unfold ai;rw [e5];show (zG r2).bind _=_;rw [e6];rfl) H6 ((bt.trans b5).trans b6)}
  have F6:=F5.Uo b6 ak;have l6:=aZ e6;have G:(if M=0 then none else (aY M.toNat [] r3).bind λc'=>ai c (zA u n c'.1) n c'.2)=ai N.toNat [] "" r1:=by
   rw [<- Z];conv=>rhs;unfold ai
   rw [e5];show _=(zG r2).bind _;rw [e6];rfl
  by_cases hM:M=0
  .subst hM;rw [if_pos rfl] at G;erw [decide_true];exact {'d',qe G.symm H6 ((bt.trans b5).trans b6)}
  rw [if_neg hM] at G;erw [decide_eq_false hM];have nu:look u n=none:=hy.new aI;refine {by omega,by omega,az.rng (C2 A H p x b1 k1 M n u (aY M.toNat [] r3) r3.length) {{[],r3,u,_,_,rfl,a3,F6,rfl,rfl,by omega,by unfold lk;rw [nu];rfl,λ_=>rfl,λz=>absurd z (by omega),by omega},(bt.trans b5).trans b6} ?_ ?_}
  .rintro j σ H' hj ⟨⟨l,av,u',t1,t3,rfl,J,U,hN,ax,a4,S,O,a0,a9⟩,bt⟩;obtain ⟨ct,bp⟩:=U.ob;obtain ⟨b7,cv,bx,a8,_⟩:=J.ex;obtain ⟨d,hd⟩:∃d,M.toNat-j=d+1:={M.toNat-j-1,by omega};rw [hd] at hN;erw [bp,a8,yS,eO];refine {p,av,rfl,J,λv r5 e8 v0 v1 H8 b8 a6=>?_,λe8 H8 b8=>?_}
   rotate_left
   .ac_rfl;exact {_,rfl,qe (by rw [<- G,<- hN];unfold aY;rw [e8];rfl) H8 (bt.trans b8)}
   have F8:=U.Uo b8 J;have l8:=aZ e8;have ej:(0+(j:Int)).toNat=j:=by omega
   ac_rfl;refine {x,b1,k1,u',[],n,_,v,rfl,F8,by omega,?_,?_,?_,λH9 b9 F9=>?_}
   .rw [S];omega
   .rw [S];omega
   .omega
   .rw [ej,S,QO (by omega),Ob (by omega),Pr] at F9;obtain ⟨cp,a5,_⟩:=F8.mu.ex;refine {{l++[v],r5,_,_,_,rfl,a6.but b9 {_,a5},F9,?_,by simp [ax],by omega,?_,λl'=>?_,λ_=>?_,?_},(bt.trans b8).fresh b9 b0}
    .rw [<- hN];conv=>rhs;unfold aY
     rw [e8,show M.toNat-(j+1)=d from by omega];rfl
    .unfold lk;rw [dD,if_pos rfl];rfl
    .rw [ED,O]
    .exact O _
    .rw [O];exact gP
  .rintro σ H' ⟨⟨l,av,u',t1,t3,rfl,J,U,hN,ax,a4,S,O,a0,a9⟩,bt⟩;have h3:=a0 (by omega);subst h3;rw [RZ] at hN;rw [<- hN] at G;refine {{n,av,_,_,_,_,rfl,J,U,?_,?_,hy.put aI},bt}
   .rw [show N.toNat-(i+1)=c from by omega];exact G
   .have:=gP (t:=u) (n:=n) (a:=l);omega
 .rintro σ H' ⟨⟨y,WV,u,t1,t2,t3,rfl,J,U,Z,hm,hy⟩,bt⟩;rw [RZ] at Z;ac_rfl;exact q u WV (eT.trans Z.symm) x b1 k1 H' bt nI.no b0 k0 U J
abbrev lP:Stmt:=top 36
def rdK:Nat->List (Str×Tab)->Str->List Str->Option (List (Str×Tab)×List Str)
 | 0,ks,_,ws=>some (ks,ws)
 | n+1,ks,y,ws=>(bw y ws).bind λa=>(rdT a.2).bind λc=>rdK n (zA ks a.1 c.1) a.1 c.2
def rdF(ws:List Str):Option ((Tab×List (Str×Tab))×List Str):=(rdT ws).bind λa=>(zG a.2).bind λb=>(rdK b.1.toNat [] "" b.2).map λc=>((a.1,c.1),c.2)
theorem bind_some{α β:Type}{x:Option α}{f:α->Option β}{b:β}(h:x.bind f=some b):∃a,x=some a/\f a=some b:=by
 cases x with
 | none=>cases h
 | some a=>exact {a,rfl,h}
theorem oN:∀{n:Nat}{l l':List Int}{ws r:List Str},aY n l ws=some (l',r)->r.length<=ws.length
 | 0,_,_,_,_,h=>by injection h with h;injection h with _ h;rw [h];exact NV _
 | n+1,l,l',ws,r,h=>by
  obtain ⟨⟨i,r1⟩,e,h⟩:=bind_some h;have:=aZ e;have h:aY n (l++[i]) r1=some (l',r):=h;have:=oN h;omega
theorem ud:∀{n:Nat}{t u:Tab}{y:Str}{ws r:List Str},ai n t y ws=some (u,r)->r.length<=ws.length
 | 0,_,_,_,_,_,h=>by injection h with h;injection h with _ h;rw [h];exact NV _
 | n+1,t,u,y,ws,r,h=>by
  obtain ⟨⟨z,r1⟩,e,h⟩:=bind_some h;obtain ⟨⟨i,r2⟩,G,h⟩:=bind_some h;have h:(if i=0 then none else (aY i.toNat [] r2).bind λc=>ai n (zA t z c.1) z c.2)=some (u,r):=h;split at h
  .cases h
  .obtain ⟨⟨l,J⟩,F,h⟩:=bind_some h;have:=iG e;have:=aZ G;have:=oN F;have:=ud h;simp only at *
   omega
theorem iC{ws r:List Str}(h:rdT ws=some (u,r)):r.length+1<=ws.length:=by
 obtain ⟨⟨i,r1⟩,e,h⟩:=bind_some h;have:=aZ e;have:=ud h;simp only at *
 omega
structure Fo(A:zk)(H:Hp)(p q b k:Addr)(t:Tab)(N:Nat)(R:Option (List (Str×Tab)×List Str))(i:Nat)(σ:L2.St)(H':Hp):Prop where
 ex:∃y ws us t1,σ=[some (V.ref p),some (.ref q),some (.str y),t1]/\zY A H' p ws/\zB A H' q b k t us/\rdK (N-i) us y ws=R/\us.length+ws.length<=3001
 but:But p H H'
def ym(A:zk):Sp:=λvs H Q E=>∃(p:Addr)(ws:List Str),vs=[.ref p]/\zY A H p ws/\ws.length<=3003/\(∀u us r,rdF ws=some ((u,us),r)->∀q b k H',But p H H'->H q=none->H b=none->H k=none->zB A H' q b k u us->zY A H' p r->Q (.ref q) H')/\(rdF ws=none->∀H',But p H H'->E (.ref A.NoPart) none H')
theorem iV:zy ["words",Wl,"name","number"] WE (zl lP):=fsc
theorem KI(F:Fun K VW VW lP f fd)(T:Txt K mg A)(Zh:GX P w K mg base true 5 VU WE (vT A))(Z8:GMX P w K mg base true 3 A.Words Wf Zj (jr A))(ZU:GX P w K mg base true 4 Wi Ws (rf A))(ZF:GM P w K mg base true 4 A.nv "keep" WH (qp A)):zp P w K mg base (CXW P w) true 6 f fd WE (ym A):=by
 refine F.oW iV λZW Ar outer s H vs Q E hr h=>?_;obtain ⟨p,ws,rfl,hW,hl,q,Z⟩:=h;have Th:=eQ (cm:=true) (P:=P) (w:=w) (K:=K) (mg:=mg) (base:=base) (N:=["words",Wl,"name","number"]) (qual:=VW) (scope:=zl lP) (f:=f) (cd:=ZW) (A:=Ar) (outer:=outer) (s:=s) (H:=H) (E:=E);refine {_,(W.h (zg (zr (i:=1) iV.nd rfl (NZ rfl) (cXD (fg Th Zh hr rfl (clP (za (zb 0) zd)))))
   (zg (zr (i:=2) iV.nd rfl (NZ rfl) zx)
   (zg (mB Th (bI (mn rfl (λok=>ok.frames) rfl) (λ_=>rfl) (dm rfl T.ri (za (cw (cB (clE (zb 0)) T.m9 dr Z8 hr)) zd)) (zO (i:=3) iV.nd rfl (NZ rfl))
   (zg (zr (i:=2) iV.nd rfl (NZ rfl) (cXD (fg dr ZU hr rfl (clP (za (zb 0) (za (zb 2) zd))))))
   (zi (ay (mD (bT (clE (zb 1)) T.mm ZF hr (clP (za (zb 2) (za (cXD (fg dr Zh hr rfl (clP (za (zb 0) zd)))) zd))))))))))
   (zi (zw (zb 1))))))),?_}
 ac_rfl;refine {p,ws,rfl,hW,hl,λu r1 G x b1 k1 H3 O x0 b0 k0 F3 W3=>?_,λG H3 b3=>?_}
 rotate_left
 .ac_rfl;exact {_,rfl,Z (by unfold rdF;rw [G];rfl) H3 b3}
 have l1:=iC G;obtain ⟨dx,wl,pre,e1,e2,r⟩:=W3.ex;erw [e1,eO];refine {p,r1,rfl,W3,λN r2 eN N0 N1 H4 b4 ax=>?_,λeN H4 b4=>?_}
 rotate_left
 .ac_rfl;exact {_,rfl,Z (by unfold rdF;rw [G];show (zG r1).bind _=_;rw [eN];rfl) H4 (O.trans b4)}
 have F4:=F3.Uo b4 W3;have l2:=aZ eN;have eF:rdF ws=(rdK N.toNat [] "" r2).map λc=>((u,c.1),c.2):=by unfold rdF;rw [G];show (zG r1).bind _=_;rw [eN];rfl
 rw [eF] at Z;ac_rfl;refine {by omega,by omega,az.rng (Fo A H p x b1 k1 u N.toNat (rdK N.toNat [] "" r2)) {{_,r2,[],_,rfl,ax,F4,rfl,by simp;omega},O.trans b4} ?_ ?_}
 .rintro i σ H' hi ⟨⟨y,WV,us,t1,rfl,Yg,hF,z,hm⟩,bt⟩;obtain ⟨c,hc⟩:∃c,N.toNat-i=c+1:={N.toNat-i-1,by omega};rw [hc] at z;ac_rfl;refine {p,y,WV,rfl,Yg,λn r3 e5 H5 S U=>?_,λe5 H5 S=>?_}
  rotate_left
  .ac_rfl;exact {_,rfl,Z (by rw [<- z];unfold rdK;rw [e5];rfl) H5 (bt.trans S)}
  have F5:=hF.Uo S Yg;obtain ⟨l5,a4⟩:=iG e5;obtain ⟨a3,a0⟩:=F5.ob;erw [a0,A1];refine {p,r3,rfl,U,by omega,λv r4 e6 q6 b6 k6 H6 J _ _ _ F6 av=>?_,λe6 H6 b6=>?_}
  rotate_left
  .ac_rfl;exact {_,rfl,Z (by rw [<- z];unfold rdK;rw [e5];show ((rdT r3).bind _).map _=_;rw [e6];rfl) H6 ((bt.trans S).trans b6)}
  have ak:=F5.Uo J U;have l6:=iC e6;obtain ⟨a5,aI,_⟩:=ak.kept;ac_rfl;refine {x,b1,k1,u,us,n,q6,v,rfl,ak,F6.has,by omega,λH7 b7 F7 _=>{{n,r4,_,_,rfl,av.but b7 {_,aI},F7,?_,?_},((bt.trans S).trans J).fresh b7 k0}}
  .rw [<- z];conv=>rhs;unfold rdK
   rw [e5,show N.toNat-(i+1)=c from by omega];show _=(rdT r3).bind _;rw [e6];rfl
  .have:=gP (t:=us) (n:=n) (a:=v);omega
 .rintro σ H' ⟨⟨y,WV,us,t1,rfl,Yg,hF,z,hm⟩,bt⟩;rw [RZ] at z;ac_rfl;exact q u us WV (by rw [eF,<- z];rfl) x b1 k1 H' bt x0 b0 k0 hF Yg
abbrev sG:Stmt:=top 57
abbrev pz:Stmt:=top 58
def MdP(H:Hp)(a:Addr)(v:V)(l:List Int):Prop:=∃p,v = .ref p/\H p=some (.lst (l.map V.int))/\p≠a
structure aH(H:Hp)(a d:Addr)(u:Tab):Prop where
 ex:∃kvs,H d=some (.dK (sk kvs))/\Dct (MdP H a) kvs u
 nd:(names u).Nodup
def dC(a b d:Addr)(H H':Hp):Prop:=∀c o,c≠a->c≠b->c≠d->H c=some o->H' c=some o
theorem dC.a{a b d:Addr}(s:But a H H'):dC a b d H H':=λc o n _ _ e=>s c o n e
theorem dC.b{a b d:Addr}(s:But b H H'):dC a b d H H':=λc o _ n _ e=>s c o n e
theorem dC.d{a b d:Addr}(s:But d H H'):dC a b d H H':=λc o _ _ n e=>s c o n e
theorem aH.same{a d:Addr}(h:aH H a d u)(s:zj H H'):aH H' a d u:=let ⟨kvs,e,r⟩:=h.ex;{{kvs,s _ _ e,r.imp λv l ⟨p,e,hp,n⟩=>{p,e,s _ _ hp,n}},h.nd}
theorem aH.dic{a d c:Addr}(h:aH H a d u)(s:But c H H')(hc:H c=some (.dK F))(n:d≠c):aH H' a d u :=
 let ⟨kvs,e,r⟩:=h.ex;{{kvs,s _ _ n e,r.imp λv l ⟨p,G,hp,n⟩=>{p,G,s _ _ (λz=>by rw [z,hc] at hp;cases hp) hp,n}},h.nd}
theorem aH.vu{a d:Addr}(h:aH H a d u)(s:But a H H')(G:Pot H a):aH H' a d u :=
 let ⟨kvs,e,r⟩:=h.ex;let ⟨_,_,ea,_⟩:=G.ex;{{kvs,s _ _ (λz=>by rw [z,ea] at e;cases e) e,r.imp λv l ⟨p,F,hp,n⟩=>{p,F,s _ _ n hp,n}},h.nd}
theorem zB.vu{p b k a:Addr}{t:Tab}(h:zB A H p b k t ks)(s:But a H H')(z:Pot H a):zB A H' p b k t ks:=let ⟨_,_,e,_⟩:=z.ex;h.a5 s e .lst
theorem Pot.dic{a c:Addr}(F:Pot H a)(s:But c H H')(e:H c=some (.dK kvs)):Pot H' a:=let ⟨x,y,ea,r⟩:=F.ex;{{x,y,s _ _ (λz=>by rw [z,e] at ea;cases ea) ea,r}}
theorem aq.keep{p b k c:Addr}{t:Tab}(h:zB A H p b k t ks)(av:aq A H k c)(s1:∀kv,H k=some (.dK kv)->H' k=some (.dK kv))(s2:∀{q C dx:Addr}{fs:List (Str×V)},H q=some (.ins C dx fs)->H' q=some (.ins C dx fs)):aq A H' k c:=by
 obtain ⟨kk,e2,d2⟩:=h.kept;intro Y6 hk pv U q b' k' XN J F;have h2:=s1 _ e2;rw [h2] at hk;cases hk;unfold sk at U;obtain ⟨Z,W,rfl⟩:=OE.mp U;have hq:∃z O k0,H q=some (.ins A.nv z (zS O k0)):=by
  obtain ⟨j,hj,ej⟩:=PX W;obtain ⟨a2,_,q2,b2,k2,G,S,_⟩:=Dct.at d2 (NL hj);have J:Z.2 = .ref q:=J;rw [ej,J] at G;cases G;obtain ⟨X3,Xw⟩:=S.ob;exact {_,_,_,Xw}
 obtain ⟨z,O,k0,e0⟩:=hq;have e3:=s2 e0;rw [e3] at F;injection F with F
 injection F with _ _ F
 obtain ⟨r1,r2⟩:=ll F;subst r1 r2;exact av _ e2 _ (by unfold sk;exact OE.mpr {Z,W,rfl}) q O k0 z J e0
theorem aq.same{p b k c:Addr}{t:Tab}(h:zB A H p b k t ks)(av:aq A H k c)(s:zj H H'):aq A H' k c:=av.keep h (λ_ e=>s _ _ e) λe=>s _ _ e
theorem aq.vu{p b k c a:Addr}{t:Tab}(h:zB A H p b k t ks)(av:aq A H k c)(s:But a H H')(F:Pot H a):aq A H' k c :=
 let ⟨_,_,ea,_⟩:=F.ex;av.keep h (λ_ e=>s _ _ (λz=>by rw [z,ea] at e;cases e) e) λe=>s _ _ (λz=>by rw [z,ea] at e;cases e) e
theorem aq.dic{p b k c x:Addr}{t:Tab}(h:zB A H p b k t ks)(av:aq A H k c)(s:But x H H')(hx:H x=some (.dK F))(n:k≠x):aq A H' k c :=
 av.keep h (λ_ e=>s _ _ n e) λe=>s _ _ (λz=>by rw [z,hx] at e;cases e) e
theorem aH.get{a:Addr}(d:Dct (MdP H a) kvs u)(n:Str){p:Addr}(s:zj H H')(hp:H' p=some (.lst []))(O:p≠a):∃r,(look kvs n).getD (.ref p) = .ref r/\H' r=some (.lst ((lk u n).map V.int))/\r≠a:=by
 unfold lk;rcases d.look n with ⟨v,l,z,F,r,G,hr,J⟩|⟨z,F⟩
 .rw [z,F];exact {r,G,s _ _ hr,J}
 .rw [z,F];exact {p,rfl,hp,O}
theorem zB.dic{p b k c:Addr}{t:Tab}(h:zB A H p b k t ks)(av:aq A H k c)(s:But c H H')(hc:H c=some (.dK kv))(n1:b≠c)(n2:k≠c):zB A H' p b k t ks/\aq A H' k c:=by
 obtain ⟨dx,e⟩:=h.ob;obtain ⟨kvs,e1,d⟩:=h.mu.ex;obtain ⟨kk,U,d2⟩:=h.kept;have ni:∀{q C dx:Addr}{fs:List (Str×V)},H q=some (.ins C dx fs)->H' q=some (.ins C dx fs):=λ{q C dx fs} e=>s _ _ (λz=>by rw [z,hc] at e;cases e) e;refine {{{dx,ni e},h.mu.but s (λxs z=>by rw [hc] at z;cases z) n1,{kk,s _ _ n2 U,?_},h.Vv,h.ne},?_}
 .have mem:∀p∈kk,∀q J k' dx,p.2 = .ref q->H q=some (.ins A.nv dx (zS J k'))->J≠c/\k'≠c:=λp hp q J k' dx G F=>av _ U (.inr p.1,p.2) (by unfold sk;exact OE.mpr {p,hp,rfl}) q J k' dx G F;clear U av h
  induction d2 with
  | nil=>exact .nil
  | cons z _ ih =>
   refine .cons {z.1,?_} (ih λp hp=>mem p (NR _ hp));obtain ⟨q,J,k',G,hB,nn⟩:=z.2;obtain ⟨Z,F⟩:=hB.ob;obtain ⟨m1,m2⟩:=mem _ NX q J k' Z G F;exact {q,J,k',G,hB.but s hc m1 m2,nn}
 .intro Y6 hk pv XZ q J k' XN G F;have h2:=s _ _ n2 U;rw [h2] at hk;cases hk;unfold sk at XZ;obtain ⟨p',XB,rfl⟩:=OE.mp XZ;have hq:∃O W k0,H q=some (.ins A.nv O (zS W k0)):=by
   obtain ⟨j,hj,ej⟩:=PX XB;obtain ⟨a2,_,q2,b2,k2,S,ak,_⟩:=Dct.at d2 (NL hj);have G:p'.2 = .ref q:=G;rw [ej,G] at S;cases S;obtain ⟨X3,Xw⟩:=ak.ob;exact {_,_,_,Xw}
  obtain ⟨O,W,k0,e0⟩:=hq;have e3:=ni e0;rw [e3] at F;injection F with F
  injection F with _ _ F
  obtain ⟨r1,r2⟩:=ll F;subst r1 r2;exact av _ U _ (by unfold sk;exact OE.mpr {p',XB,rfl}) q W k0 O G e0
def yW:Sp:=λvs H Q _=>∃(a:Addr),vs=[.ref a]/\Pot H a/\∀(r:Int) H',But a H H'->Pot H' a->0<=r->r<10 ^ 17->Q (.int r) H'
theorem MI:zy WN WN (zl sG):=fsc
theorem L9(F:Fun K "_law_birth" "_law_birth" sG f fd)(T:Txt K mg A)(O:GF P w K mg base true 1 Wo Yw cT):zp P w K mg base CX0 true 2 f fd WN yW:=by
 refine F.o MI λZW Ar outer s H vs Q E hr h=>?_;obtain ⟨a,rfl,hP,q⟩:=h;refine {_,(W.h (zi (zw (aN dz (ar (za (zu O hr rfl (za (ze 0) (za zo zd))) (za (zu O hr rfl (za (ze 0) (za (zD oR zo zo) zd))) zd))) (zD oQ (zu O hr rfl (za (ze 0) (za zo zd))) zo) (λ_ _=>rfl))))),?_};ac_rfl;refine {a,12,rfl,hP,'d','d',λr1 H1 b1 P1 U av=>{{'d','d','d'},a,_,rfl,P1,'d','d',λr2 H2 b2 P2 J S=>{'d',λp H3 G _=>{a,4,rfl,P2.same G.same,'d','d',λZ H4 b4 P4 ak ax=>?_}}}};have pa:p≠a:=P2.ne G.no;have hp:=b4 _ _ pa G.at_;have bb:But a H H4:=((b1.trans b2).trans (.of G.same)).trans b4;ac_rfl;refine {{'d','d'},_,.inl hp,?_};have z:r2<10 ^ 17:=S;by_cases h3:Z<3
 .have e:Z / 3=0:=by omega
  rw [e];exact {_,mK,q r1 H4 bb P4 U (by omega)}
 .have e:Z / 3=1:=by omega
  rw [e];exact {_,ml,q r2 H4 bb P4 J z}
def GdT(t:Tab):Prop:=∀p∈t,ao p.1=true/\∀x∈p.2,0<=x/\x<10 ^ 17
structure Bud(t:Tab)(ks:List (Str×Tab))(B:Nat):Prop where
 few:t.length<=B
 row:∀n,(lk t n).length<=B
 live:∃L:List Int,L.length<=B/\∀y∈aa t ks,y∈L
 ne:∀n l,look t n=some l->l≠[]
 old:∀p∈ks,p.2.length<=B/\∀m,(lk p.2 m).length<=B
 gt:GdT t
 gk:∀p∈ks,ao p.1=true/\GdT p.2/\∀n l,look p.2 n=some l->l≠[]
theorem xX{t:Tab}:lk (zA t n l) m=if m=n then l else lk t m:=by
 unfold lk;rw [dD];split<;>rfl
theorem cJ{t:Tab}:y∈zI t↔∃p∈t,y∈p.2:=by unfold zI;exact SJ
theorem Eb{t:Tab}(h:y∈zI (zA t z ((lk t z).take i++[x]++(lk t z).drop (i+1)))):y∈zI t\/y=x:=by
 obtain ⟨p,hp,F⟩:=cJ.mp h;have inl:y∈lk t z->y∈zI t:=λhl=>by
  unfold lk at hl;cases e:look t z with
  | none=>rw [e] at hl;cases hl
  | some l=>rw [e] at hl;exact cJ.mpr {_,dq e,hl}
 rcases fi hp with hp|rfl
 .exact .inl (cJ.mpr ⟨p,hp,F⟩)
 .rcases Ox.mp F with F|F
  .rcases Ox.mp F with F|F
   .exact .inl (inl (PP F))
   .exact .inr (by simpa using F)
  .exact .inl (inl (Rk F))
theorem Bud.put{t:Tab}(h:Bud t ks B)(hi:i<=(lk t z).length)(hz:ao z=true)(hx:0<=x/\x<10 ^ 17):Bud (zA t z ((lk t z).take i++[x]++(lk t z).drop (i+1))) ks (B+1):=by
 refine {Ol gP (Sl h.few),λn=>?_,?_,λn l e=>?_,λp hp=>{PV (h.old p hp).1,λm=>PV ((h.old p hp).2 m)},λp hp=>?_,h.gk}
 .rw [xX];split
  .have:=h.row z;simp only [Ov,ON,Qi,O2];omega
  .exact PV (h.row n)
 .obtain ⟨L,G,hm⟩:=h.live;refine {L++[x],by rw [Ov,O2];omega,λy F=>?_};unfold aa at F hm;rcases Ox.mp F with F|F
  .rcases Eb F with F|rfl
   .exact Oo _ (hm y (Oo _ F))
   .exact NY _ 'z'
  .exact Oo _ (hm y (NY _ F))
 .rw [dD] at e;split at e
  .cases e;simp
  .exact h.ne n l e
 .rcases fi hp with hp|rfl
  .exact h.gt p hp
  .refine {hz,λy F=>?_};have inl:y∈lk t z->0<=y/\y<10 ^ 17:=λhl=>by
    unfold lk at hl;cases e:look t z with
    | none=>rw [e] at hl;cases hl
    | some l=>rw [e] at hl;exact (h.gt _ (dq e)).2 y hl
   rcases Ox.mp F with F|F
   .rcases Ox.mp F with F|F
    .exact inl (PP F)
    .rw [OO] at F;rw [F];exact hx
   .exact inl (Rk F)
theorem HR(h:v∈[V.str "a",.str "b",.str "ab",.str "mark",.str "zzzzzz",.str "put"]):∃z:Str,v = .str z/\ao z=true:=by
 simp only [NT,Oh,or_false] at h;rcases h with rfl|rfl|rfl|rfl|rfl|rfl<;>exact {_,rfl,f!""}
def qP(A:zk):Sp:=λvs H Q _=>∃(a p d b k:Addr)(t u:Tab)(ks:List (Str×Tab))(B:Nat),vs=[.ref a,.ref p,.ref d]/\Pot H a/\zB A H p b k t ks/\aH H a d u/\bg t u/\d≠b/\d≠k/\aq A H k d/\Bud t ks B/\B<=100 /\
 ∀(t' z:Tab) H',dC a b d H H'->Pot H' a->zB A H' p b k t' ks->aH H' a d z->bg t' z->aq A H' k d->Bud t' ks (B+1)->Q .non H'
theorem jK:zy ["_law_pot_here","_law_files_here","_law_plain","_law_name_here","_law_births","_law_place","_law_birth_here"] Yp (zl pz):=fsc
theorem EU(F:Fun K "_law_put" "_law_put" pz f fd)(T:Txt K mg A)(Z6:GF P w K mg base true 2 Wm Ys fH)(Z9:GF P w K mg base true 1 Wo Yw cT)(Y4:GF P w K mg base true 2 "_law_birth" WN yW)(Zz:GM P w K mg base true 4 A.nv "put" WI (pS A)):zp P w K mg base CX0 true 5 f fd Yp (qP A):=by
 refine F.o jK λZW Ar outer s H vs Q E hr h=>?_;obtain ⟨a,p,d,b,k,t,u,ks,B,rfl,hP,hF,hD,al,db,dk,av,bud,hB,q⟩:=h;refine {_,(W.h (zg (zr (i:=3) jK.nd rfl (NZ rfl) (zu Z6 hr rfl (za (ze 0) (za (ar (za zx (za zx (za zx (za zx (za zx (za zx zd))))))) zd))))
   (zg (zr (i:=4) jK.nd rfl (NZ rfl) (qF (zV hr) (ze 2) (ze 3) (ar zd)))
   (zg (zr (i:=5) jK.nd rfl (NZ rfl) (zu Z9 hr rfl (za (ze 0) (za (zD cx (zT fh rfl T.sL OA (za (ze 4) zd)) zo) zd))))
   (zg (zr (i:=6) jK.nd rfl (NZ rfl) (zu Y4 hr rfl (za (ze 0) zd)))
   (zg (ay (bT (ze 1) T.mm Zz hr (za (ze 3) (za (ze 5) (za (ze 6) zd)))))
   (zi (cO (zD cx (zD cx (cq cV (ze 4) ck (cn (ze 5))) (ar (za (ze 6) zd))) (cq cV (ze 4) (cn (zD cx (ze 5) zo)) ck)) (cN (ze 2) (ze 3) (fc (zV hr))))))))))),?_}
 ac_rfl;refine {'d',λln H1 U _=>{a,hP.same U.same,.inl {ln,_,rfl,hP.ne U.no,.inl U.at_,'z','z',λv H2 hv b2 P2=>?_}}};obtain ⟨z,rfl,zn⟩:=HR hv;have P1:=hP.same U.same;have F1:=hF.same U.same;have F2:=F1.vu b2 P1;have D2:=(hD.same U.same).vu b2 P1;have A2:=(av.same hF U.same).vu F1 b2 P1;obtain ⟨kvs,aI,dd⟩:=D2.ex;ac_rfl;refine {{_,.inl aI},O9 _,λl3 H3 J _=>{_,.inl (J.same _ _ aI),?_}};obtain ⟨r,er,a3,ra⟩:=aH.get dd z J.same J.at_ (P2.ne J.no);rw [bH,er];have lz:(lk u z).length=(lk t z).length:=by unfold lk;rw [al z]
 have lB:=bud.row z;ac_rfl;refine {_,.inl a3,?_};rw [NO];have P3:=P2.same J.same;refine {a,_,rfl,P3,by omega,by omega,λi H4 b4 P4 i0 i1=>{a,rfl,P4,λx H5 b5 P5 x0 x1=>?_}};have F5:=((F2.same J.same).vu b4 P3).vu b5 P4;have D5:=((D2.same J.same).vu b4 P3).vu b5 P4;have A5:=((A2.same F2 J.same).vu (F2.same J.same) b4 P3).vu ((F2.same J.same).vu b4 P3) b5 P4;have ak:=b5 _ _ ra (b4 _ _ ra a3);obtain ⟨a8,e5⟩:=F5.ob;erw [e5,yS];refine {p,b,k,t,ks,z,i,x,rfl,F5,i0,by omega,by omega,by have:=bud.few;omega,λH6 b6 F6=>?_};ac_rfl;obtain ⟨ba,O,_⟩:=F5.mu.ex;have rb:r≠b:=λz=>by rw [z,O] at ak;cases ak
 have a0:=b6 _ _ rb ak;have D6:=D5.dic b6 O db;have A6:=A5.dic F5 b6 O hF.ne.symm;have P6:=P5.dic b6 O;have a6:=yt al hF.mu.nd hD.nd;have tB:=bud.few;have c1:aW ((lk u z).map V.int) none (some i)=((lk u z).take i.toNat).map V.int:=by rw [k8 i0 (by rw [NO];omega),Ts]
 have c2:aW ((lk u z).map V.int) (some (i+1)) none=((lk u z).drop (i.toNat+1)).map V.int:=by rw [AE (by omega) (by rw [NO];omega),show (i+1).toNat=i.toNat+1 by omega,map_drop]
 refine {_,a0,λl7 H7 n7=>{'d',λl8 H8 n8 _=>{_,n8.same _ _ n7.at_,_,n8.at_,?_,λl9 H9 n9=>{_,n9.same _ _ (n8.same _ _ (n7.same _ _ a0)),λa9 a4 S=>{_,S.same _ _ n9.at_,_,S.at_,?_,λax H11 Z=>?_}}}}}
 .rw [c1,NO,ON];exact Ol (show _<=1000 by simp only [O2];omega) 'd'
 .rw [c1,c2,Ov,NO,NO,ON,Qi];exact Ol (show _<=1000 by simp only [O2];omega) 'd'
 have G:zj H6 H11:=(((n7.same.trans n8.same).trans n9.same).trans S.same).trans Z.same;have a5:=D6.same G;obtain ⟨kv,eD,X4⟩:=a5.ex;refine {_,eD,by rw [cH,X4.length,<- a6];exact OB (show t.length<=1000 by omega) 'd',?_};rw [d6];have a7:Pot a4 a:=P6.same (((n7.same.trans n8.same).trans n9.same).trans S.same);have la:ax≠a:=a7.ne Z.no;have XH:H11 ax=some (.lst (((lk u z).take i.toNat++[x]++(lk u z).drop (i.toNat+1)).map V.int)):=by
  rw [Z.at_,c1,c2,OI,OI];rfl
 obtain ⟨F',A'⟩:=(F6.same G).dic (A6.same F6 G) But.upd eD db.symm dk.symm;have lu:lk u z=lk t z:=by unfold lk;rw [al z]
 rw [lu] at XH;refine q _ _ _ (λc o m1 m2 m3 e=>?_) ((P6.same G).dic But.upd eD) F' {{_,zt,(X4.put z {ax,rfl,XH,la}).imp λv l ⟨p,ev,hp,n⟩=>{p,ev,by rw [zh (λzz=>by rw [zz,eD] at hp;cases hp)];exact hp,n}},fC hD.nd} (al.put z _) A' (bud.put (by omega) zn ⟨x0,x1⟩);rw [zh m3];exact G _ _ (b6 _ _ m2 (b5 _ _ m1 (b4 _ _ m1 (J.same _ _ (b2 _ _ m1 (U.same _ _ e))))))
abbrev pC:Stmt:=top 59
theorem sW{t:Tab}{p:Str×List Int}(h:p∈zM t n):p∈t:=by unfold zM at h;exact (Sq.mp h).1
theorem NH{t:Tab}{l a:List Int}(h:look t n=some l):(zA t n a).length=t.length:=by
 have e:names (zA t n a)=names t:=by rw [qJ,h];rfl
 have:=congrArg SN e;unfold names at this;rw [NO,NO] at this;exact this
theorem Bud.cut{t:Tab}{m:Int}(h:Bud t ks B)(hl:look t z=some l)(m0:0<=m)(Z:m<=l.length):Bud (dy t z m) ks B:=by
 have J:lk t z=l:=by unfold lk;rw [hl];rfl
 have sub:∀y∈zI (dy t z m),y∈zI t:=λy F=>by
  obtain ⟨p,hp,G⟩:=cJ.mp F;unfold dy at hp;split at hp
  .exact cJ.mpr {p,sW hp,G}
  .rcases fi hp with hp|rfl
   .exact cJ.mpr ⟨p,hp,G⟩
   .rw [J] at G;exact cJ.mpr {_,dq hl,PP G}
 obtain ⟨L,U,hm⟩:=h.live;refine {?_,λn=>?_,{L,U,λy F=>?_},λn l' e=>?_,h.old,λp hp=>?_,h.gk}
 .unfold dy;split
  .unfold zM;exact Ol (Rf ..) h.few
  .rw [NH hl];exact h.few
 .unfold dy;split
  .unfold lk;rw [gU];split
   .exact O9 _
   .exact h.row n
  .rw [xX];split
   .rw [ON];exact Ol (Nat.min_le_right _ _) (h.row z)
   .exact h.row n
 .unfold aa at F hm;rcases Ox.mp F with F|F
  .exact hm y (Oo _ (sub y F))
  .exact hm y (NY _ F)
 .unfold dy at e;split at e
  .rw [gU] at e;split at e
   .cases e
   .exact h.ne n l' e
  .rename_i O;rw [dD] at e;split at e
   .cases e;rw [J];intro S;have:=congrArg SN S;rw [ON,Q5] at this;have W:=RE.mpr (h.ne z l hl);omega
   .exact h.ne n l' e
 .unfold dy at hp;split at hp
  .exact h.gt p (sW hp)
  .rcases fi hp with hp|rfl
   .exact h.gt p hp
   .rw [J];have g:=h.gt _ (dq hl);exact {g.1,λy F=>g.2 y (PP F)}
def oH(A:zk):Sp:=λvs H Q _=>∃(a p d b k:Addr)(t u:Tab)(ks:List (Str×Tab))(B:Nat),vs=[.ref a,.ref p,.ref d]/\Pot H a/\zB A H p b k t ks/\aH H a d u/\bg t u/\d≠b/\d≠k/\aq A H k d/\Bud t ks B/\B<=40/\u≠[] /\
 ∀(t' z:Tab) H',dC a b d H H'->Pot H' a->zB A H' p b k t' ks->aH H' a d z->bg t' z->aq A H' k d->Bud t' ks B->Q .non H'
theorem lF:zy ["_law_pot_here","_law_files_here","_law_plain","_law_name_here","_law_many","_law_births"] Yp (zl pC):=fsc
theorem E8(F:Fun K "_law_cut" "_law_cut" pC f fd)(T:Txt K mg A)(Z6:GF P w K mg base true 2 Wm Ys fH)(Z9:GF P w K mg base true 1 Wo Yw cT)(YQ:GM P w K mg base true 4 A.nv "cut" Wy (yi A)):zp P w K mg base CX0 true 5 f fd Yp (oH A):=by
 refine F.o lF λZW Ar outer s H vs Q E hr h=>?_;obtain ⟨a,p,d,b,k,t,u,ks,B,rfl,hP,hF,hD,al,db,dk,av,bud,hB,a6,q⟩:=h;have hu:_<cLine:=Oy (zV hr);refine {_,(W.h (zg (zr (i:=3) lF.nd rfl (NZ rfl) (zu Z6 hr rfl (za (ze 0) (za (zT (kG rfl) rfl T.zf Rq (za (ze 2) zd)) zd))))
   (zg (zr (i:=4) lF.nd rfl (NZ rfl) (zu Z9 hr rfl (za (ze 0) (za (zD cx (zT fh rfl T.sL OA (za (aN (iD (zV hr)) (ze 2) (ze 3) (λ_ _=>rfl)) zd)) zo) zd))))
   (zg (ay (bT (ze 1) T.mm YQ hr (za (ze 3) (za (ze 4) zd))))
   (zg (zr (i:=5) lF.nd rfl (NZ rfl) (cq cV (yg (ze 2) (ze 3)) ck (cn (ze 4))))
   (zi (zL (zF (lE hu) (ze 5) (ar zd) (zE _))
   (zi (cO (ze 5) (cN (ze 2) (ze 3) (fc (zV hr)))))
   zW))))))),?_}
 ac_rfl;obtain ⟨kvs,eD,dd⟩:=hD.ex;have bu:=yt al hF.mu.nd hD.nd;have tB:=bud.few;have bx:=dd.length;have a9:0<u.length:=RE.mpr a6;have sl:(zP (kvs.map (·.1))).length=kvs.length:=by rw [(bU _).1.length_eq,NO]
 refine {kvs,.inl eD,by omega,λln H1 U=>{a,hP.same U.same,.inl {ln,_,rfl,hP.ne U.no,.inl U.at_,by rw [NO,sl];omega,by rw [NO,sl];omega,λv H2 hv b2 P2=>?_}}};obtain ⟨z,hz,rfl⟩:=OE.mp hv;have aI:z∈names u:=by rw [<- dd.names];exact (bU _).1.mem_iff.mp hz
 have P1:=hP.same U.same;have F1:=hF.same U.same;have F2:=F1.vu b2 P1;have D2:=(hD.same U.same).vu b2 P1;have A2:=(av.same hF U.same).vu F1 b2 P1;obtain ⟨WU,a0,X9⟩:=D2.ex;rcases X9.look z with ⟨v,l,e1,e2,r,rfl,a7,ra⟩|⟨_,e2⟩
 case inr=>exact absurd aI (cM.mp e2)
 have lB:l.length<=B:=by have:=bud.row z;unfold lk at this;rw [al z,e2] at this;exact this
 ac_rfl;refine {_,.inl a0,_,by rw [bH];exact e1,?_};ac_rfl;refine {_,.inl a7,?_};rw [NO];refine {a,_,rfl,P2,by omega,by omega,λm H3 b3 P3 m0 m1=>?_};have F3:=F2.vu b3 P2;have D3:=D2.vu b3 P2;have A3:=A2.vu F2 b3 P2;obtain ⟨bb,e3⟩:=F3.ob;erw [e3,KM];refine {p,b,k,t,ks,z,l,m,rfl,F3,by rw [al z];exact e2,m0,by omega,by omega,λH4 b4 F4=>?_};obtain ⟨bp,S,_⟩:=F3.mu.ex;have D4:=D3.dic b4 S db;have A4:=A3.dic F3 b4 S hF.ne.symm;have P4:=P3.dic b4 S;obtain ⟨XG,G,XX⟩:=D4.ex;rcases XX.look z with ⟨v4,l4,a5,O,r4,rfl,ak,ba⟩|⟨_,O⟩
 case inr=>rw [e2] at O;cases O
 rw [e2] at O;cases O;have a3:r4≠d:=λzz=>by rw [zz,G] at ak;cases ak
 ac_rfl;refine {{_,.inl G},_,G,_,by rw [bH];exact a5,?_};rw [mY];have ax:upd H4 d (.dK (sk (zM XG z))) r4=some (.lst (l.map V.int)):=by rw [zh a3];exact ak
 ac_rfl;refine {_,ax,λl5 H5 n5=>{'d',λl6 H6 n6 _=>?_}};have c1:aW (l.map V.int) none (some m)=(l.take m.toNat).map V.int:=by rw [k8 m0 (by rw [NO];omega),Ts]
 rw [c1] at n5;have h5:=n6.same _ _ n5.at_;ac_rfl;have s6:zj (upd H4 d (.dK (sk (zM XG z)))) H6:=n5.same.trans n6.same;have J:=s6 _ _ zt;obtain ⟨F0,A0⟩:=F4.dic (A3.dic F3 b4 S hF.ne.symm) But.upd G db.symm dk.symm (H':=upd H4 d (.dK (sk (zM XG z))));have F6:=F0.same s6;have A6:=A0.same F0 s6;have P6:=(P4.dic (But.upd (o:=.dK (sk (zM XG z)))) G).same s6;have Z:Dct (MdP H6 a) (zM XG z) (zM u z):=(XX.drop z).imp λv l ⟨p,ev,hp,n⟩=>{p,ev,s6 _ _ (by rw [zh (λzz=>by rw [zz,G] at hp;cases hp)];exact hp),n};have a8:l5≠a:=(P4.dic (But.upd (o:=.dK (sk (zM XG z)))) G).ne n5.no;have bt:dC a b d H H6:=λc o m1 m2 m3 e=>s6 _ _ (by rw [zh m3];exact b4 _ _ m2 (b3 _ _ m1 (b2 _ _ m1 (U.same _ _ e))));have ZI:look t z=some l:=by rw [al z];exact e2
 have hb:=bud.cut ZI m0 (show m<=l.length by omega);have bq:=RE.mpr (bud.ne z l ZI);refine {_,h5,_,n6.at_,.inr rfl,?_};by_cases hm:m=0
 .subst hm;rw [if_neg 'z'];exact q _ (zM u z) H6 bt P6 F6 {{_,J,Z},jz hD.nd} (by unfold dy;rw [if_pos rfl];exact al.drop z) A6 hb
 .rw [if_pos (by simp only [NO,ON,Q5,RC,decide_eq_false_iff_not];omega)];refine {_,J,by rw [cH,Z.length];unfold zM;exact OB (Ol (Rf ..) (show u.length<=1000 by omega)) 'd',?_};rw [d6];obtain ⟨F',A'⟩:=F6.dic A6 But.upd J db.symm dk.symm (H':=upd H6 d (.dK (sk (zA (zM XG z) z (.ref l5)))));refine q _ (zA (zM u z) z (l.take m.toNat)) _ (λc o m1 m2 m3 e=>by rw [zh m3];exact bt _ _ m1 m2 m3 e) (P6.dic But.upd J) F' {{_,zt,(Z.put z {l5,rfl,h5,a8}).imp λv l ⟨p,ev,hp,n⟩=>{p,ev,by rw [zh (λzz=>by rw [zz,J] at hp;cases hp)];exact hp,n}},fC (jz hD.nd)} (λn=>?_) A' hb;unfold dy;rw [if_neg hm,dD,dD,gU];have a4:lk t z=l:=by unfold lk;rw [ZI];rfl
  rw [a4];by_cases hn:n=z
  .rw [if_pos hn,if_pos hn]
  .rw [if_neg hn,if_neg hn,if_neg hn,al n]
end
abbrev o3:Stmt:=top 60
def KAl(ks ku:List (Str×Tab)):Prop:=∀n,(∃v w,look ks n=some v/\look ku n=some w/\bg v w/\(names v).Nodup)\/(look ks n=none/\look ku n=none)
def KvR(H:Hp)(a:Addr)(X:List Addr)(v:V)(u:Tab):Prop:=∃e,v = .ref e/\e∉X/\aH H a e u
structure fm(H:Hp)(a:Addr)(X:List Addr)(kd:Addr)(ku:List (Str×Tab)):Prop where
 ex:∃kvs,H kd=some (.dK (sk kvs))/\Dct (KvR H a X) kvs ku
 nd:(names ku).Nodup
def bB(X:List Addr)(H H':Hp):Prop:=∀c o,c∉X->H c=some o->H' c=some o
theorem bB.of(s:zj H H'):bB X H H':=λc o _ e=>s c o e
theorem bB.trans(x:bB X H H1)(y:bB X H1 H2):bB X H H2:=λc o n e=>y c o n (x c o n e)
structure Rnd(A:zk)(H:Hp)(a p d kd b k:Addr)(t u:Tab)(ks ku:List (Str×Tab))(B:Nat):Prop where
 vu:Pot H a
 files:zB A H p b k t ks
 plain:aH H a d u
 kept:fm H a [b,k,d,kd] kd ku
 al:bg t u
 kal:KAl ks ku
 av:aq A H k d
 b6:aq A H k kd
 bud:Bud t ks B
 few:ks.length<=3
 ap:d≠b/\d≠k/\kd≠b/\kd≠k/\d≠kd
section
variable {P:NW}{w:Oc}{K:Frag}{mg:Str->Option Value}{base:Heap}{A:zk}
theorem Pot.bC{a c:Addr}(F:Pot H a)(e:H c=some (.dK kvs)):c≠a:=λz=>by obtain ⟨x,y,ea,_⟩:=F.ex;rw [z,ea] at e;cases e
theorem aH.tr{a e:Addr}(h:aH H a e u)(s:bB (a::X) H H')(G:∀x∈X,∃kvs,H x=some (.dK kvs))(ne:e∉X)(ea:e≠a):aH H' a e u:=by
 obtain ⟨kvs,F,d⟩:=h.ex;refine {{kvs,s _ _ (by simp only [NT,not_or];exact ⟨ea,ne⟩) F,d.imp λv l ⟨p,J,hp,n⟩=>{p,J,s _ _ ?_ hp,n}},h.nd};simp only [NT,not_or];refine {n,λz=>?_};obtain ⟨O,ex⟩:=G p z;rw [hp] at ex;cases ex
theorem KvR.tr{a:Addr}(h:KvR H a Y v u)(s:bB (a::X) H H')(J:Pot H a)(O:∀x∈X,∃kvs,H x=some (.dK kvs))(sub:∀x∈X,x∈Y):KvR H' a Y v u:=by
 obtain ⟨e,F,ne,pl⟩:=h;obtain ⟨kvs,G,_⟩:=pl.ex;exact {e,F,ne,pl.tr s O (λz=>ne (sub e z)) (J.bC G)}
theorem zB.Up{p b k:Addr}{t:Tab}(h:zB A H p b k t ks):(∃kvs,H b=some (.dK kvs))/\∃kvs,H k=some (.dK kvs):={let ⟨_,e,_⟩:=h.mu.ex;{_,e},let ⟨_,e,_⟩:=h.kept;{_,e}}
theorem fm.tr{a kd:Addr}(h:fm H a Y kd ku)(s:bB (a::X) H H')(z:Pot H a)(G:∀x∈X,∃kvs,H x=some (.dK kvs))(sub:∀x∈X,x∈Y)(F:kd∉X):fm H' a Y kd ku :=
 let ⟨kvs,e,d⟩:=h.ex;{{kvs,s _ _ (by simp only [NT,not_or];exact {z.bC e,F}) e,d.imp λv u r=>r.tr s z G sub},h.nd}
theorem Rnd.same{a p d kd b k:Addr}{t u:Tab}(R:Rnd A H a p d kd b k t u ks ku B)(s:zj H H'):Rnd A H' a p d kd b k t u ks ku B :=
 {R.vu.same s,R.files.same s,R.plain.same s,R.kept.tr (X:=[]) (.of s) R.vu (λ_ h=>by cases h) (λ_ h=>by cases h) (λh=>by cases h),R.al,R.kal,R.av.same R.files s,R.b6.same R.files s,R.bud,R.few,R.ap}
theorem Rnd.VA{a p d kd b k:Addr}{t u:Tab}(R:Rnd A H a p d kd b k t u ks ku B)(s:But a H H')(F:Pot H' a):Rnd A H' a p d kd b k t u ks ku B :=
 {F,R.files.vu s R.vu,R.plain.vu s R.vu,R.kept.tr (X:=[]) (λc o n e=>s c o (λz=>n (by simp [z])) e) R.vu (λ_ h=>by cases h) (λ_ h=>by cases h) (λh=>by cases h),R.al,R.kal,R.av.vu R.files s R.vu,R.b6.vu R.files s R.vu,R.bud,R.few,R.ap}
theorem Bud.up{t:Tab}(h:Bud t ks B):Bud t ks (B+1) :=
 let ⟨L,hL,hm⟩:=h.live;{PV h.few,λn=>PV (h.row n),{L,PV hL,hm},h.ne,λp hp=>{PV (h.old p hp).1,λm=>PV ((h.old p hp).2 m)},h.gt,h.gk}
theorem Rnd.done{a p d kd b k:Addr}{t u t' F:Tab}(R:Rnd A H a p d kd b k t u ks ku B)(s:dC a b d H H')(P':Pot H' a)(W:zB A H' p b k t' ks)(O:aH H' a d F)(al:bg t' F)(av:aq A H' k d)(bud:Bud t' ks B'):Rnd A H' a p d kd b k t' F ks ku B':=by
 obtain ⟨⟨kb,J⟩,kk,ek⟩:=R.files.Up;obtain ⟨kv,G,_⟩:=R.plain.ex;obtain ⟨a1,a2,Z,a4,a5⟩:=R.ap;have U:bB (a::[b,d]) H H':=λc o n e=>by
  simp only [NT,Oh,or_false,not_or] at n;exact s c o n.1 n.2.1 n.2.2 e
 have S:∀x∈[b,d],∃kvs,H x=some (.dK kvs):=λx hx=>by
  simp only [NT,Oh,or_false] at hx;rcases hx with rfl|rfl
  .exact {_,J}
  .exact {_,G}
 refine {P',W,O,R.kept.tr U R.vu S (λx hx=>?_) ?_,al,R.kal,av,R.b6.keep R.files (λkv e=>s _ _ (R.vu.bC e) R.files.ne.symm a2.symm e) (λ{q C dx fs} e=>s _ _ (λz=>?_) (λz=>?_) (λz=>?_) e),bud,R.few,R.ap}
 .simp only [NT,Oh,or_false] at hx;rcases hx with rfl|rfl<;>simp
 .simp only [NT,Oh,or_false,not_or];exact ⟨Z,a5.symm⟩
 .obtain ⟨x,y,ea,_⟩:=R.vu.ex;rw [z,ea] at e;cases e
 .rw [z,J] at e;cases e
 .rw [z,G] at e;cases e
theorem KAl.drop(h:KAl ks ku)(z:Str):KAl (zM ks z) (zM ku z):=λn=>by
 rw [gU,gU];by_cases e:n=z
 .rw [if_pos e,if_pos e];exact .inr {rfl,rfl}
 .rw [if_neg e,if_neg e];exact h n
theorem KAl.put{t u:Tab}(h:KAl ks ku)(z:Str)(al:bg t u)(nd:(names t).Nodup):KAl (zA ks z t) (zA ku z u):=λn=>by
 rw [dD,dD];by_cases e:n=z
 .rw [if_pos e,if_pos e];exact .inl {t,u,rfl,rfl,al,nd}
 .rw [if_neg e,if_neg e];exact h n
theorem KAl.len(h:KAl ks ku)(J:(names ks).Nodup)(O:(names ku).Nodup):ks.length=ku.length:=by
 have p:(names ks).Perm (names ku):=(PM J O).mpr λn=>by
  rcases h n with ⟨v,w,G,F,_⟩|⟨G,F⟩
  .exact {λ_=>OP λz=>(by rw [cM.mpr z] at F;cases F),λ_=>OP λz=>(by rw [cM.mpr z] at G;cases G)}
  .exact {λz=>absurd z (cM.mp G),λz=>absurd z (cM.mp F)}
 have:=p.length_eq;unfold names at this;rw [NO,NO] at this;exact this
theorem dE{t:Tab}:y∈aa t ks↔y∈zI t\/∃p∈ks,y∈zI p.2:=by
 unfold aa;rw [Ox,SJ]
theorem Bud.sub{t:Tab}(h:Bud t ks B)(s:∀p∈ks',p∈ks\/(p.2=t/\ao p.1=true)):Bud t ks' B:=by
 obtain ⟨L,F,hm⟩:=h.live;refine {h.few,h.row,{L,F,λy z=>?_},h.ne,λp hp=>(s p hp).elim (h.old p) λe=>by rw [e.1];exact ⟨h.few,h.row⟩,h.gt,λp hp=>(s p hp).elim (h.gk p) λe=>by rw [e.1];exact ⟨e.2,h.gt,h.ne⟩};rcases dE.mp z with z|⟨p,hp,z⟩
 .exact hm y (dE.mpr (.inl z))
 .rcases s p hp with hp|e
  .exact hm y (dE.mpr (.inr ⟨p,hp,z⟩))
  .rw [e.1] at z;exact hm y (dE.mpr (.inl z))
theorem Rnd.free{a p d kd b k:Addr}{t u:Tab}(R:Rnd A H a p d kd b k t u ks ku B)(J:But k H H5)(Z:zB A H5 p b k t (zM ks z))(WT:∀c,aq A H k c->aq A H5 k c)(U:H kd=some (.dK (sk G)))(dd:Dct (KvR H a [b,k,d,kd]) G ku):
  H5 kd=some (.dK (sk G))/\Rnd A (upd H5 kd (.dK (sk (zM G z)))) a p d kd b k t u (zM ks z) (zM ku z) (B+1):=by
 obtain ⟨_,kk,O⟩:=R.files.Up;obtain ⟨a1,a2,a3,S,a5⟩:=R.ap;have F:=J _ _ S U;have W:=R.vu.dic J O;obtain ⟨F6,K6⟩:=Z.dic (WT kd R.b6) But.upd F a3.symm S.symm (H':=upd H5 kd (.dK (sk (zM G z))));have D5:=R.plain.dic J O a2;refine {F,W.dic But.upd F,F6,D5.dic But.upd F a5,{{_,zt,(dd.drop z).imp λv w r=>?_},jz R.kept.nd},R.al,R.kal.drop z,(WT d R.av).dic Z But.upd F S.symm,K6,(R.bud.sub λp hp=>.inl ?_).up,?_,R.ap}
 .have r5:KvR H5 a [b,k,d,kd] v w:=r.tr (X:=[k]) (λc o n e=>J c o (λz=>n (by simp [z])) e) R.vu (λx hx=>by simp only [NT,Oh,or_false] at hx;subst hx;exact {_,O}) (λx hx=>by simp only [NT,Oh,or_false] at hx;subst hx;simp);exact r5.tr (X:=[kd]) (λc o n e=>by rw [zh (λz=>n (by simp [z]))];exact e) W (λx hx=>by simp only [NT,Oh,or_false] at hx;subst hx;exact {_,F}) (λx hx=>by simp only [NT,Oh,or_false] at hx;subst hx;simp)
 .unfold zM at hp;exact (Sq.mp hp).1
 .unfold zM;exact Ol (Rf ..) R.few
theorem Rnd.hold{a p d kd b k pn:Addr}{t u:Tab}(R:Rnd A H a p d kd b k t u ks ku B)(O:But k H H5)(F5:zB A H5 p b k t (zA ks z t))(WT:∀c,H c≠none->aq A H k c->aq A H5 k c)(S:H kd=some (.dK (sk U)))(dd:Dct (KvR H a [b,k,d,kd]) U ku)(ed:H d=some (.dK (sk G)))(du:Dct (MdP H a) G u)(F:New H5 pn (.dK (sk G)) H6)(few:ku.length<3)(zn:ao z=true):
  H6 kd=some (.dK (sk U))/\Rnd A (upd H6 kd (.dK (sk (zA U z (.ref pn))))) a p d kd b k t u (zA ks z t) (zA ku z u) (B+1):=by
 obtain ⟨_,kk,Z⟩:=R.files.Up;obtain ⟨a1,a2,a3,a4,a5⟩:=R.ap;have e5:=O _ _ a4 S;have J:=F.same _ _ e5;have P5:=R.vu.dic O Z;have P6:=P5.same F.same;have F6:=F5.same F.same;have k5:=(WT kd (by rw [S];exact nofun) R.b6).same F5 F.same;have d5:=(WT d (by rw [ed];exact nofun) R.av).same F5 F.same;obtain ⟨F7,K7⟩:=F6.dic k5 But.upd J a3.symm a4.symm (H':=upd H6 kd (.dK (sk (zA U z (.ref pn)))));have D6:=(R.plain.dic O Z a2).same F.same;have W:∀{c:Addr}{o:HO},H5 c=some o->pn≠c:=λ{c o} e z=>by have:=F.no;rw [z,e] at this;cases this
 obtain ⟨⟨a7,aI⟩,a6,ak⟩:=F5.Up;have ax:=O _ _ a2 ed;have a0:aH H6 a pn u:={{G,F.at_,du.imp λv l ⟨q,ev,hq,n⟩=>{q,ev,F.same _ _ (O _ _ (λz=>by rw [z,Z] at hq;cases hq) hq),n}},R.plain.nd};have rn:KvR H6 a [b,k,d,kd] (.ref pn) u:={pn,rfl,by simp only [NT,Oh,or_false,not_or];exact {W aI,W ak,W ax,W e5},a0};have old:∀v w,KvR H a [b,k,d,kd] v w->KvR H6 a [b,k,d,kd] v w:=λv w r=>by
  have r5:KvR H5 a [b,k,d,kd] v w:=r.tr (X:=[k]) (λc o n e=>O c o (λz=>n (by simp [z])) e) R.vu (λx hx=>by simp only [NT,Oh,or_false] at hx;subst hx;exact {_,Z}) (λx hx=>by simp only [NT,Oh,or_false] at hx;subst hx;simp);exact r5.tr (X:=[]) (.of F.same) P5 (λ_ h=>by cases h) (λ_ h=>by cases h)
 have hl:=R.kal.len R.files.Vv R.kept.nd;refine {J,P6.dic But.upd J,F7,D6.dic But.upd J a5,{{_,zt,((dd.imp old).put z rn).imp λv w r=>?_},fC R.kept.nd},R.al,R.kal.put z R.al R.files.mu.nd,d5.dic F6 But.upd J a4.symm,K7,(R.bud.sub λp hp=>?_).up,?_,R.ap}
 .exact r.tr (X:=[kd]) (λc o n e=>by rw [zh (λz=>n (by simp [z]))];exact e) P6 (λx hx=>by simp only [NT,Oh,or_false] at hx;subst hx;exact {_,J}) (λx hx=>by simp only [NT,Oh,or_false] at hx;subst hx;simp)
 .rcases fi hp with hp|rfl
  .exact .inl hp
  .exact .inr {rfl,zn}
 .exact Ol gP (by omega)
theorem yj(h:v∈[V.str "a",.str "held",.str "b",.str "zzzzzz",.str "ba"]):∃z:Str,v = .str z/\ao z=true:=by
 simp only [NT,Oh,or_false] at h;rcases h with rfl|rfl|rfl|rfl|rfl<;>exact {_,rfl,f!""}
def ug(A:zk):Sp:=λvs H Q _=>∃(a p d kd b k:Addr)(t u:Tab)(ks ku:List (Str×Tab))(B:Nat),vs=[.ref a,.ref p,.ref d,.ref kd]/\Rnd A H a p d kd b k t u ks ku B/\B<=30 /\
 ∀t' F ks' z H',bB [a,b,k,d,kd] H H'->Rnd A H' a p d kd b k t' F ks' z (B+1)->Q .non H'
theorem kC:zy ["_law_pot_here","_law_files_here","_law_plain","_law_kept","_law_way","_law_name_here"] Xt (zl o3):=fsc
theorem JI(F:Fun K "_law_deed" "_law_deed" o3 f fd)(T:Txt K mg A)(Z9:GF P w K mg base true 1 Wo Yw cT)(Z6:GF P w K mg base true 2 Wm Ys fH)(Y3:GM P w K mg base true 3 A.nv "free" X1 (AR A))(Y2:GM P w K mg base true 5 A.nv "hold" X1 (uk A))(YJ:GF P w K mg base true 5 "_law_cut" Yp (oH A))(YI:GF P w K mg base true 5 "_law_put" Yp (qP A)):zp P w K mg base CX0 true 7 f fd Xt (ug A):=by
 refine F.o kC λZW Ar outer s H vs Q E hr h=>?_;obtain ⟨a,p,d,kd,b,k,t,u,ks,ku,B,rfl,R,hB,q⟩:=h;have hu:_<cLine:=Oy (zV hr);refine {_,(W.h (zg (zr (i:=4) kC.nd rfl (NZ rfl) (zu Z9 hr rfl (za (ze 0) (za zo zd))))
   (zi (zL (cg (fJ (zF (bS hu) (ze 4) zo (zE _)) (iI (zF (AO hu) (ze 3) eG (zE _)))))
   (zg (zr (i:=5) kC.nd rfl (NZ rfl) (zu Z6 hr rfl (za (ze 0) (za (zT (kG rfl) rfl T.zf Rq (za (ze 3) zd)) zd))))
   (zg (ay (bT (ze 1) T.mm Y3 hr (za (ze 5) zd)))
   (zi (ay (yg (ze 3) (ze 5))))))
   (zi (zL (cg (fJ (zF gB (ze 4) zo (zE _)) (iI (zF mL (zT Gv rfl T.sL OA (za (ze 3) zd)) zo (zE _)))))
   (zg (zr (i:=5) kC.nd rfl (NZ rfl) (zu Z6 hr rfl (za (ze 0) (za (ar (za zx (za zx (za zx (za zx (za zx zd)))))) zd))))
   (zi (zL (zF (ow (zV hr)) (ze 5) (ze 3) rfl)
   (zg (ay (bT (ze 1) T.mm Y2 hr (za (ze 5) zd)))
   (zi (cO (bc rL rfl T.VD boot_dict (za (ze 2) zd)) (cN (ze 3) (ze 5) (fc (zV hr))))))
   zW)))
   (zi (zL (cg (fJ (zF (bS hu) (ze 4) zo (zE _)) (iI (zF (AO hu) (ze 2) eG (zE _)))))
   (zi (ay (zu YJ hr rfl (za (ze 0) (za (ze 1) (za (ze 2) zd))))))
   (zi (ay (zu YI hr rfl (za (ze 0) (za (ze 1) (za (ze 2) zd)))))))))))))),?_}
 ac_rfl;refine {a,10,rfl,R.vu,'d','d',λa5 H1 b1 P1 w0 w1=>?_};have R1:=R.VA b1 P1;have M1:bB [a,b,k,d,kd] H H1:=λc o n e=>b1 c o (λz=>n (by simp [z])) e;have aI:∀{H2 H3:Hp},dC a b d H2 H3->bB [a,b,k,d,kd] H2 H3:=λ{H2 H3} s c o n e=>by
  simp only [NT,Oh,or_false,not_or] at n;exact s c o n.1 n.2.1 n.2.2.2.1 e
 have XF:∀(H2:Hp)(E':XK),Rnd A H2 a p d kd b k t u ks ku B->bB [a,b,k,d,kd] H H2->qP A [V.ref a,V.ref p,V.ref d] H2 (λ_ H3=>Q V.non H3) E':=λH2 E' R2 M2 =>
  {a,p,d,b,k,t,u,ks,B,rfl,R2.vu,R2.files,R2.plain,R2.al,R2.ap.1,R2.ap.2.1,R2.av,R2.bud,by omega,λt' u' H3 s3 P3 F3 D3 a0 A3 Z=>q t' u' ks ku H3 (M2.trans (aI s3)) (R2.done s3 P3 F3 D3 a0 A3 Z)}
 have a6:∀(H2:Hp)(E':XK),u≠[]->Rnd A H2 a p d kd b k t u ks ku B->bB [a,b,k,d,kd] H H2->oH A [V.ref a,V.ref p,V.ref d] H2 (λ_ H3=>Q V.non H3) E':=λH2 E' bq R2 M2 =>
  {a,p,d,b,k,t,u,ks,B,rfl,R2.vu,R2.files,R2.plain,R2.al,R2.ap.1,R2.ap.2.1,R2.av,R2.bud,by omega,bq,λt' u' H3 s3 P3 F3 D3 a0 A3 Z=>q t' u' ks ku H3 (M2.trans (aI s3)) (R2.done s3 P3 F3 D3 a0 A3 Z.up)}
 ac_rfl;obtain ⟨kv,b0,dd⟩:=R1.kept.ex;by_cases h9:a5=9
 .rw [if_pos (by simp [h9])];refine λe0 H2 n2=>{_,.inl (n2.same _ _ b0),n2.at_,?_};have R2:=R1.same n2.same;have M2:=M1.trans (.of n2.same);by_cases hk:kv=[]
  .rw [if_neg (by simp [hk,sk]),if_pos (by simp;omega)];obtain ⟨WU,WS,X9⟩:=R2.kept.ex;refine {_,.inl WS,?_};by_cases a7:WU.length<3
   .rw [if_pos (by rw [cH];simp;omega)];refine {'d',λln H3 J _=>{a,R2.vu.same J.same,.inl {ln,_,rfl,R2.vu.ne J.no,.inl J.at_,'z','z',λv H4 hv b4 P4=>?_}}};obtain ⟨z,rfl,zn⟩:=yj hv;have G:=(R2.same J.same).VA b4 P4;have M4:bB [a,b,k,d,kd] H H4:=(M2.trans (.of J.same)).trans λc o n e=>b4 c o (λz=>n (by simp [z])) e;obtain ⟨XG,XW,O⟩:=G.kept.ex;obtain ⟨ba,ak,a4⟩:=G.plain.ex;have l4:ku.length<3:=by rw [<- X9.length];exact a7
    ac_rfl;refine {_,.inl XW,?_};rw [bH];rcases G.kal z with ⟨v1,w1,e1,U,_⟩|⟨e1,U⟩
    .rw [show (look XG z).isSome=true by rw [Dct.tf O z,U];rfl];exact q t u ks ku H4 M4 { G with bud:=G.bud.up }
    .rw [show (look XG z).isSome=false by rw [Dct.tf O z,U];rfl];obtain ⟨a8,ax⟩:=G.files.ob;erw [ax,AG];refine {p,b,k,t,ks,z,rfl,G.files,e1,by have:=G.few;omega,λH5 b5 F5 WT=>?_};obtain ⟨_,b2,bp⟩:=G.files.Up;refine {_,.inl (b5 _ _ G.ap.2.1 ak),λpn H6 n6=>?_};obtain ⟨e6,R7⟩:=G.hold b5 F5 WT XW O ak a4 n6 l4 zn;ac_rfl;refine {_,e6,by rw [cH,O.length];exact Oi l4 'd',?_};rw [d6];refine q _ _ _ _ _ (λc o n e=>?_) R7;have S:=n;simp only [NT,Oh,or_false,not_or] at S;rw [zh S.2.2.2.2];exact n6.same _ _ (b5 _ _ S.2.2.1 (M4 _ _ n e))
   .rw [if_neg (by rw [cH];simp;omega),if_neg (by simp;omega)];exact XF _ _ R2 M2
  .rw [if_pos (by simp [hk,sk])];obtain ⟨WU,WS,X9⟩:=R2.kept.ex;have hl:=R2.kal.len R2.files.Vv R2.kept.nd;have hf:=R2.few;have bu:=X9.length;have sl:(zP (WU.map (·.1))).length=WU.length:=by rw [(bU _).1.length_eq,NO]
   have kpos:0<WU.length:=by rw [bu,<- dd.length];exact RE.mpr hk
   refine {WU,.inl WS,by omega,λln H3 J=>{a,R2.vu.same J.same,.inl {ln,_,rfl,R2.vu.ne J.no,.inl J.at_,by rw [NO,sl];exact kpos,by rw [NO,sl];omega,λv H4 hv b4 P4=>?_}}};obtain ⟨z,hz,rfl⟩:=OE.mp hv;have bb:z∈names ku:=by rw [<- X9.names];exact (bU _).1.mem_iff.mp hz
   have G:=(R2.same J.same).VA b4 P4;have M4:bB [a,b,k,d,kd] H H4:=(M2.trans (.of J.same)).trans λc o n e=>b4 c o (λz=>n (by simp [z])) e;obtain ⟨XG,XW,O⟩:=G.kept.ex;rcases G.kal z with ⟨v1,w1,e1,U,_⟩|⟨_,U⟩
   case inr=>exact absurd bb (cM.mp U)
   obtain ⟨a8,ax⟩:=G.files.ob;erw [ax,Nd];refine {p,b,k,t,ks,z,rfl,G.files,by rw [e1];rfl,λH5 b5 F5 WT=>?_};obtain ⟨e5,R7⟩:=G.free b5 F5 WT XW O;ac_rfl;refine {{_,.inl e5},_,e5,?_,?_}
   .rw [bH];exact RG.mp (by rw [Dct.tf O z,U];rfl)
   .rw [mY];refine q _ _ _ _ _ (λc o n e=>?_) R7;have S:=n;simp only [NT,Oh,or_false,not_or] at S;rw [zh S.2.2.2.2];exact b5 _ _ S.2.2.1 (M4 _ _ n e)
 .rw [if_neg (by simp [h9])];by_cases h6:6<a5
  .rw [if_pos (by simpa using h6)];obtain ⟨WU,WS,X9⟩:=R1.kept.ex;refine {_,.inl WS,?_};by_cases a7:WU.length<3
   .rw [if_pos (by rw [cH];simp;omega)];refine {'d',λln H3 J _=>{a,R1.vu.same J.same,.inl {ln,_,rfl,R1.vu.ne J.no,.inl J.at_,'z','z',λv H4 hv b4 P4=>?_}}};obtain ⟨z,rfl,zn⟩:=yj hv;have G:=(R1.same J.same).VA b4 P4;have M4:bB [a,b,k,d,kd] H H4:=(M1.trans (.of J.same)).trans λc o n e=>b4 c o (λz=>n (by simp [z])) e;obtain ⟨XG,XW,O⟩:=G.kept.ex;obtain ⟨ba,ak,a4⟩:=G.plain.ex;have l4:ku.length<3:=by rw [<- X9.length];exact a7
    ac_rfl;refine {_,.inl XW,?_};rw [bH];rcases G.kal z with ⟨v1,w1,e1,U,_⟩|⟨e1,U⟩
    .rw [show (look XG z).isSome=true by rw [Dct.tf O z,U];rfl];exact q t u ks ku H4 M4 { G with bud:=G.bud.up }
    .rw [show (look XG z).isSome=false by rw [Dct.tf O z,U];rfl];obtain ⟨a8,ax⟩:=G.files.ob;erw [ax,AG];refine {p,b,k,t,ks,z,rfl,G.files,e1,by have:=G.few;omega,λH5 b5 F5 WT=>?_};obtain ⟨_,b2,bp⟩:=G.files.Up;refine {_,.inl (b5 _ _ G.ap.2.1 ak),λpn H6 n6=>?_};obtain ⟨e6,R7⟩:=G.hold b5 F5 WT XW O ak a4 n6 l4 zn;ac_rfl;refine {_,e6,by rw [cH,O.length];exact Oi l4 'd',?_};rw [d6];refine q _ _ _ _ _ (λc o n e=>?_) R7;have S:=n;simp only [NT,Oh,or_false,not_or] at S;rw [zh S.2.2.2.2];exact n6.same _ _ (b5 _ _ S.2.2.1 (M4 _ _ n e))
   .rw [if_neg (by rw [cH];simp;omega),if_neg (by simp;omega)];exact XF _ _ R1 M1
  .rw [if_neg (by simpa using h6)];by_cases w6:a5=6
   .rw [if_pos (by simp [w6])];obtain ⟨a9,bt,bx⟩:=R1.plain.ex;refine λe0 H3 J=>{_,.inl (J.same _ _ bt),J.at_,?_};have R3:=R1.same J.same;have M3:=M1.trans (.of J.same);by_cases a3:a9=[]
    .rw [if_neg (by simp [a3,sk])];exact XF _ _ R3 M3
    .rw [if_pos (by simp [a3,sk])];refine a6 _ _ (λz=>a3 (OH.mp ?_)) R3 M3;rw [bx.length,z];rfl
   .rw [if_neg (by simp [w6])];exact XF _ _ R1 M1
abbrev oA:Stmt:=top 61
structure FdI(A:zk)(H2:Hp)(a p d kd b k:Addr)(i:Nat)(σ:L2.St)(H':Hp):Prop where
 ex:∃t1,σ=[some (.ref a),some (.ref p),some (.ref d),some (.ref kd),t1]
 rnd:∃t u ks ku,Rnd A H' a p d kd b k t u ks ku i
 but:bB [a,b,k,d,kd] H2 H'
def wB(A:zk):Sp:=λvs H Q _=>∃(a:Addr),vs=[.ref a]/\Pot H a /\
 ∀tp p d kd b k t u ks ku (B:Nat) H',But a H H'->H' tp=some (.tup [.ref p,.ref d,.ref kd])->Rnd A H' a p d kd b k t u ks ku B->B<=16->H p=none->H b=none->H k=none->H d=none->H kd=none->Q (.ref tp) H'
theorem jD:zy ["_law_pot_here","_law_files_here","_law_plain","_law_kept","_law_turn"] WN (zl oA):=fsc
theorem Me(F:Fun K "_law_files" "_law_files" oA f fd)(T:Txt K mg A)(Zi:GC P w K mg base true 1 "Files" A.nv Zj (mH A))(Z9:GF P w K mg base true 1 Wo Yw cT)(YO:GF P w K mg base true 7 "_law_deed" Xt (ug A)):zp P w K mg base CX0 true 9 f fd WN (wB A):=by
 refine F.o jD λZW Ar outer s H vs Q E hr h=>?_;obtain ⟨a,rfl,hP,q⟩:=h;refine {_,(W.h (zg (zr (i:=1) jD.nd rfl (NZ rfl) (o9 Zi hr rfl))
   (zg (zr (i:=2) jD.nd rfl (NZ rfl) eG)
   (zg (zr (i:=3) jD.nd rfl (NZ rfl) eG)
   (zg (bI PN.never (λ_=>rfl) (dm rfl T.ri (za (zu Z9 hr rfl (za (ze 0) (za zo zd))) zd)) (zO (i:=4) jD.nd rfl (NZ rfl))
   (zi (ay (zu YO hr rfl (za (ze 0) (za (ze 1) (za (ze 2) (za (ze 3) zd))))))))
   (zi (zw (dv (za (ze 1) (za (ze 2) (za (ze 3) zd))))))))))),?_}
 ac_rfl;refine λp ak H1 U=>{p,ak,rfl,U.at_,λb k H2 s2 nb nk eb ek av ex=>{rfl,λd H3 J kd H4 n4=>?_}};have G:zj H H2:=λc o e=>s2 _ _ (zQ e U.no) (U.same _ _ e);have s4:zj H2 H4:=J.same.trans n4.same;have P4:Pot H4 a:=(hP.same G).same s4;have Z:∀{c:Addr}{o:HO},H2 c=some o->d≠c:=λ{c o} e z=>by have:=J.no;rw [z,e] at this;cases this
 have O:∀{c:Addr}{o:HO},H3 c=some o->kd≠c:=λ{c o} e z=>by have:=n4.no;rw [z,e] at this;cases this
 have F4:zB A H4 p b k [] []:=zB.same {⟨ak,ex⟩,{{[],eb,.nil},by simp [names]},{[],ek,.nil},by simp [names],av} s4;have S:∀c,aq A H4 k c:=λc kvs hk pv XZ=>by
  rw [s4 _ _ ek] at hk;cases hk;cases XZ
 have R4:Rnd A H4 a p d kd b k [] [] [] [] 0:={P4,F4,{{[],n4.same _ _ J.at_,.nil},by simp [names]},{{[],n4.at_,.nil},by simp [names]},λ_=>rfl,λ_=>.inr {rfl,rfl},S d,S kd,{NV _,λn=>by simp [lk,look],{[],NV _,λy hy=>by simp [aa,zI] at hy},λn l e=>by simp [look] at e,(λp hp=>by cases hp),(λp hp=>by cases hp),(λp hp=>by cases hp)},'z',{Z eb,Z ek,O (J.same _ _ eb),O (J.same _ _ ek),(O J.at_).symm}};refine {a,16,rfl,P4,'d','d',λj H5 b5 P5 j0 j1=>?_};have R5:=R4.VA b5 P5;ac_rfl;refine {by omega,by omega,az.rng (FdI A H4 a p d kd b k) {{_,rfl},{_,_,_,_,R5},λc o n e=>b5 c o (λz=>n (by simp [z])) e} ?_ ?_}
 .rintro i σ H6 hi ⟨⟨t1,rfl⟩,⟨t,u,ks,ku,R6⟩,bt⟩;ac_rfl;exact {a,p,d,kd,b,k,t,u,ks,ku,i,rfl,R6,by omega,λt' u' ks' ax H7 b7 R7=>{{_,rfl},{_,_,_,_,R7},bt.trans b7}}
 .rintro σ H6 ⟨⟨t1,rfl⟩,⟨t,u,ks,ku,R6⟩,bt⟩;ac_rfl;refine {'d',λtp H7 n7=>?_};refine q tp p d kd b k t u ks ku _ H7 (λc o nc e=>n7.same _ _ (bt _ _ ?_ (s4 _ _ (G _ _ e)))) n7.at_ (R6.same n7.same) (by omega) U.no (U.same.free nb) (U.same.free nk) (G.free J.no) (G.free (J.same.free n4.no));simp only [NT,Oh,or_false,not_or];have h2:=G _ _ e;exact {nc,λz=>(by rw [z,U.same.free nb] at e;cases e),λz=>(by rw [z,U.same.free nk] at e;cases e),(Z h2).symm,(O (J.same _ _ h2)).symm}
abbrev qy:Stmt:=top 62
theorem Fb{α:Type}{l:List (Int×α)}{a:α}:(iy l n a).map (·.1)=if n∈l.map (·.1) then l.map (·.1) else l.map (·.1)++[n]:=by
 unfold iy;split
 .rw [PK];refine Pd λp _=>?_;show (if p.1=n then (p.1,a) else p).1=p.1;split<;>rfl
 .rw [OI];rfl
theorem GJ{kvs:List (Int×V)}{n:Int}{v:V}:(iy kvs n v).map (·.1)=zN (kvs.map (·.1)) n:=by rw [Fb];rfl
def PlR(H:Hp)(a fo:Addr)(v:V)(u:Tab):Prop:=∃e,v = .ref e/\aH H a e u/\e≠fo
structure Fnd(H':Hp)(fo:Addr)(ks:List Int):Prop where
 ex:∃kvs,H' fo=some (.dK (ik kvs))/\kvs.map (·.1)=ks
structure LoI(d kd fo:Addr)(H5:Hp)(us:List Tab)(i:Nat)(σ:L2.St)(H':Hp):Prop where
 ex:∃t3 t4 t5,σ=[some (.ref d),some (.ref kd),some (.ref fo),t3,t4,t5]
 fnd:Fnd H' fo (((us.take i).flatMap zI).foldl zN [])
 but:But fo H5 H'
structure MiI(d kd fo e:Addr)(Hf:Hp)(ns:List Int)(u:Tab)(i:Nat)(σ:L2.St)(H':Hp):Prop where
 ex:∃t4 t5,σ=[some (.ref d),some (.ref kd),some (.ref fo),some (.ref e),t4,t5]
 fnd:Fnd H' fo ((zI (u.take i)).foldl zN ns)
 but:But fo Hf H'
structure InI(d kd fo e r:Addr)(Hf:Hp)(ns l:List Int)(i:Nat)(σ:L2.St)(H':Hp):Prop where
 ex:∃t5,σ=[some (.ref d),some (.ref kd),some (.ref fo),some (.ref e),some (.ref r),t5]
 fnd:Fnd H' fo ((l.take i).foldl zN ns)
 but:But fo Hf H'
def sy:Sp:=λvs H Q _=>∃(a d kd:Addr)(X:List Addr)(u:Tab)(ku:List (Str×Tab)),vs=[.ref d,.ref kd]/\aH H a d u/\fm H a X kd ku/\(uniq (aa u ku)).length<64/\ku.length<=4000 /\
 ∀l (ns:List Int) H',zj H H'->H l=none->H' l=some (.lst (ns.map V.int))->ns.Perm (uniq (aa u ku))->ns.Pairwise (·<=·)->Q (.ref l) H'
theorem jb:zy ["_law_plain","_law_kept","_law_found","_law_files_here","_law_births","_law_birth_here"] WB (zl qy):=fsc
theorem NI(F:Fun K V3 V3 qy f fd)(T:Txt K mg A):zp P w K mg base CX0 true 1 f fd WB sy:=by
 refine F.o jb λZW Ar outer s H vs Q E hr h=>?_;obtain ⟨a,d,kd,X,u,ku,rfl,hD,hK,Xs,hk,q⟩:=h;have hu:_<cLine:=Oy (zV hr);refine {_,(W.h (zg (zr (i:=2) jb.nd rfl (NZ rfl) eG)
   (zg (bI PN.never (λ_=>rfl) (cQ (zD cx (ar (za (ze 0) zd)) (bc (K1 rfl) rfl T.VC boot_list (za (NA (ze 1)) zd)))) (zO (i:=3) jb.nd rfl (NZ rfl))
   (zi (FY (bI PN.never (λ_=>rfl) (rZ (ze 3)) (zO (i:=4) jb.nd rfl (NZ rfl))
   (zi (bI PN.never (λ_=>rfl) (cQ (ze 4)) (zO (i:=5) jb.nd rfl (NZ rfl))
   (zi (cO dA (cN (ze 2) (ze 5) (fc (zV hr)))))))))))
   (zi (zw (zT (xk rfl) rfl T.zf Rq (za (ze 2) zd))))))),?_}
 ac_rfl;obtain ⟨kv,a5,dk⟩:=hK.ex;obtain ⟨cp,ed,_⟩:=hD.ex;refine λfo H1 n1=>{'d',λl2 H2 n2 _=>{{_,.inl (n2.same _ _ (n1.same _ _ a5))},λv H3 n3=>{_,n3.at_,_,.inl (n3.same _ _ (n2.same _ _ (n1.same _ _ a5))),λl4 H4 n4=>{_,n4.same _ _ (n3.same _ _ n2.at_),_,n4.at_,?_,λl5 H5 n5=>{{_,SqL.of n5.at_},?_}}}}}
 .rw [NO,cH,dk.length,O2];exact Ol (show 1+ku.length<=4001 by omega) 'd'
 have b0:zj H1 H5:=((n2.same.trans n3.same).trans n4.same).trans n5.same;have aI:zj H H5:=n1.same.trans b0;have ba:=b0 _ _ n1.at_;have a3:∀{c:Addr}{o:HO},H c=some o->c≠fo:=λ{c o} e=>zQ e n1.no;have bb:l5≠fo:=λz=>by have:=n5.no;rw [z,n4.same _ _ (n3.same _ _ (n2.same _ _ n1.at_))] at this;cases this
 have a6:[V.ref d]++(sk kv).map (·.2)=V.ref d::kv.map (·.2):=by unfold sk;rw [PK];rfl
 have XY:Paired (PlR H5 a fo) ([V.ref d]++(sk kv).map (·.2)) (u::ku.map (·.2)):=by
  rw [a6];refine .cons {d,rfl,hD.same aI,a3 ed} ?_;clear n4 n5 a6;have hh:=dk;clear hK a5 dk Xs hk q
  induction hh with
  | nil=>exact .nil
  | cons z _ ih =>
   refine .cons ?_ ih;obtain ⟨e,ev,_,pl⟩:=z.2;obtain ⟨G,ee,_⟩:=pl.ex;exact {e,ev,pl.same aI,a3 ee}
 have eU:(u::ku.map (·.2)).flatMap zI=aa u ku:=by
  unfold aa;rw [List.flatMap_cons,List.flatMap_map]
 have ax:=XY.length;generalize u::ku.map (·.2)=us at XY eU ax;have a4:∀i,(((us.take i).flatMap zI).foldl zN []).length<64:=λi=>by
  have h1:=iB (l:=(us.drop i).flatMap zI) (ns:=((us.take i).flatMap zI).foldl zN []);rw [<- PD,<- QG,QD,eU] at h1;exact OB h1 Xs
 refine az.lst (xs:=[V.ref d]++(sk kv).map (·.2)) (LoI d kd fo H5 us) {{_,_,_,rfl},{{[],ba,rfl}},λ_ _ _ e=>e} (λi σ H' _ I=>SqL.of (I.but _ _ bb n5.at_)) ?_ ?_
 .rintro i x σ H6 hx ⟨⟨t3,t4,t5,rfl⟩,fnd,bt⟩;have hi:i<us.length:=by rw [<- ax];exact (NU.mp hx).1
  have bq:us[i]?=some us[i]:=NL hi;obtain ⟨e,rfl,pl,Z⟩:=eX XY hx bq;have b5:=pl.dic bt ba Z;obtain ⟨G,ee,de⟩:=b5.ex;have es:(zI us[i]).foldl zN (((us.take i).flatMap zI).foldl zN [])=((us.take (i+1)).flatMap zI).foldl zN []:=by
   rw [<- PD,OU,bq,QG];simp
  ac_rfl;refine {e,_,ee,λo=>?_};ac_rfl;have a7:fo≠e:=Z.symm;have b6:Fnd (upd H6 e (.frz o (.dK (sk G)))) fo (((us.take i).flatMap zI).foldl zN []):=let ⟨kvs,ek,J⟩:=fnd.ex;{{kvs,by rw [zh a7];exact ek,J}};have U:∃kvs,H6 fo=some (.dK kvs):=let ⟨kvs,ek,_⟩:=fnd.ex;{_,ek};obtain ⟨ct,U⟩:=U;refine {o,sk G,zt,az.cq (MiI d kd fo e (upd H6 e (.frz o (.dK (sk G)))) (((us.take i).flatMap zI).foldl zN []) us[i]) {{_,_,rfl},b6,λ_ _ _ e=>e} (λj σ H' _ I=>I.but _ _ Z zt) ?_ ?_}
  .rintro j pv σ H7 hp ⟨⟨b1,b7,rfl⟩,O,S⟩;obtain ⟨qv,b9,rfl⟩:∃qv,G[j]?=some qv/\pv=(.inr qv.1,qv.2):=by
    unfold sk at hp;rw [Oe] at hp;obtain ⟨pv,e1,e2⟩:=Ou.mp hp;exact ⟨pv,e1,e2.symm⟩
   obtain ⟨l,b8,r,ev,hr,ra⟩:=Dct.at de b9;have re:r≠e:=λz=>by rw [z,ee] at hr;cases hr
   have bp:r≠fo:=λz=>by rw [z,U] at hr;cases hr
   have bu:upd H6 e (.frz o (.dK (sk G))) r=some (.lst (l.map V.int)):=by rw [zh re];exact hr
   have b4:=S _ _ bp bu;have a9:=oV b8;erw [ev];refine {{_,SqL.of b4},az.lst (xs:=l.map V.int) (InI d kd fo e r (upd H6 e (.frz o (.dK (sk G)))) ((zI (us[i].take j)).foldl zN (((us.take i).flatMap zI).foldl zN [])) l) {{_,rfl},O,S} (λm σ H' _ I=>SqL.of (I.but _ _ bp bu)) ?_ ?_}
   .rintro m x σ H8 hx ⟨⟨bx,rfl⟩,⟨a8,b2,ak⟩,a0⟩;rw [Oe] at hx;obtain ⟨n,hn,rfl⟩:=Ou.mp hx;have b3:a8.length<64:=by
     rw [<- NO (f:=(·.1)),ak];refine OB vB ?_;rw [<- PD,<- a9];obtain ⟨rr,er⟩:=u6 (u:=us[i]) (i:=j+1);have h1:∀bs:List Int,((zI (us[i].take (j+1))).foldl zN bs).length<=((zI us[i]).foldl zN bs).length:=λbs=>by
      rw [er,PD];exact iB
     have h2:=h1 (((us.take i).flatMap zI).foldl zN []);rw [es] at h2;exact OB h2 (a4 (i+1))
    ac_rfl;refine .inr {_,b2,by rw [vD];exact Oi b3 'd',?_};rw [Ai];exact {{_,rfl},{{_,zt,by rw [GJ,ak,uE hn]}},a0.trans But.upd}
   .rintro σ H8 ⟨⟨bx,rfl⟩,av,a0⟩;rw [NO,Ob (NV _),<- PD,<- a9] at av;exact {{_,_,rfl},av,a0}
  .rintro σ H7 ⟨⟨b1,b7,rfl⟩,O,S⟩;rw [show (sk G).length=us[i].length by rw [cH,de.length],Ob (NV _),es] at O;refine {o,S _ _ Z zt,{{_,_,_,rfl},let ⟨kvs,ek,J⟩:=O.ex;{{kvs,by rw [zh a7];exact ek,J}},λc u' nc ec=>?_}};by_cases z:c=e
   .subst z;have h6:=bt _ _ nc ec;rw [ee] at h6;cases h6;exact zt
   .rw [zh z];exact S _ _ nc (by rw [zh z];exact bt _ _ nc ec)
 .rintro σ H6 ⟨⟨t3,t4,t5,rfl⟩,⟨kvs,ek,J⟩,bt⟩;rw [ax,Ob (NV _),eU] at J;ac_rfl;refine {kvs,.inl ek,by rw [<- NO (f:=(·.1)),J];exact Xs,λl ns H7 n7 pm so=>?_};have s6:zj H H6:=λc o e=>bt _ _ (a3 e) (aI _ _ e);rw [J] at pm;exact q l ns H7 (s6.trans n7.same) (s6.free n7.no) n7.at_ pm so
abbrev qt:Stmt:=top 63
theorem xq{α β:Type}{f:α->β}:∀{l:List α}{k:Nat},(l.map f).eraseIdx k=(l.eraseIdx k).map f
 | [],_=>rfl
 | _::_,0=>rfl
 | x::l,k+1=>by
  show f x::(l.map f).eraseIdx k=f x::(l.eraseIdx k).map f;rw [xq]
def jf(ts:List T3):Prop:=∀t∈ts,(0<=t.2.1/\t.2.1<16)/\0<=t.2.2/\t.2.2<32
structure SpL(H5:Hp)(a d kd lf fo:Addr)(ns:List Int)(i:Nat)(σ:L2.St)(H':Hp):Prop where
 ex:∃t5 t6,σ=[some (.ref a),some (.ref d),some (.ref kd),some (.ref lf),some (.ref fo),t5,t6]
 left:∃ls:List Int,H' lf=some (.lst (ls.map V.int))/\ls.length=512-i/\∀y∈ls,0<=y/\y<512
 found:∃as ts,H' fo=some (.lst (as.map V.ref))/\Paired (c0 H') as ts/\ts.map (·.1)=ns.take i/\jf ts
 but:dC a lf fo H5 H'
 vu:Pot H' a
def xY:Sp:=λvs H Q _=>∃(a d kd:Addr)(X:List Addr)(u:Tab)(ku:List (Str×Tab)),vs=[.ref a,.ref d,.ref kd]/\Pot H a/\aH H a d u/\fm H a X kd ku/\(uniq (aa u ku)).length<40/\ku.length<=4000 /\
 ∀l as (ts:List T3) H',But a H H'->Pot H' a->H l=none->H' l=some (.lst (as.map V.ref))->Paired (c0 H') as ts->(ts.map (·.1)).Perm (uniq (aa u ku))->(ts.map (·.1)).Pairwise (·<=·)->jf ts->Q (.ref l) H'
theorem iY:zy ["_law_pot_here","_law_plain","_law_kept","_law_left","_law_found","_law_birth_here","_law_code"] WG (zl qt):=fsc
theorem Jv(F:Fun K "_law_spots" "_law_spots" qt f fd)(T:Txt K mg A)(ZM:GF P w K mg base true 1 V3 WB sy)(Z9:GF P w K mg base true 1 Wo Yw cT):zp P w K mg base CX0 true 2 f fd WG xY:=by
 refine F.o iY λZW Ar outer s H vs Q E hr h=>?_;obtain ⟨a,d,kd,X,u,ku,rfl,hP,hD,hK,a7,hk,q⟩:=h;refine {_,(W.h (zg (zr (i:=3) iY.nd rfl (NZ rfl) (bc (Ej rfl) rfl T.VC boot_list (za (bc Cd rfl T.ri boot_range (za zo zd)) zd)))
   (zg (zr (i:=4) iY.nd rfl (NZ rfl) (ar zd))
   (zg (bI PN.never (λ_=>rfl) (cQ (zu ZM hr rfl (za (ze 1) (za (ze 2) zd)))) (zO (i:=5) iY.nd rfl (NZ rfl))
   (zg (zr (i:=6) iY.nd rfl (NZ rfl) (i9 (ze 3) (zu Z9 hr rfl (za (ze 0) (za (zT fh rfl T.sL OA (za (ze 3) zd)) zd)))))
   (zi (ay (jE (ze 4) (dv (za (ze 5) (za (zD fQ (ze 6) zo) (za (zD oQ (ze 6) zo) zd)))))))))
   (zi (zw (ze 4))))))),?_}
 ac_rfl;refine λpr H1 Z=>{512,Z.at_,'d',λlf H2 O=>{'d',λfo H3 J _=>?_}};have s3:zj H H3:=(Z.same.trans O.same).trans J.same;have P3:=hP.same s3;have K3:fm H3 a X kd ku:=hK.tr (X:=[]) (.of s3) hP (λ_ h=>by cases h) (λ_ h=>by cases h) (λh=>by cases h);refine {a,d,kd,X,u,ku,rfl,hD.same s3,K3,by omega,hk,λl ns H4 s4 nl el pm so=>?_};have P4:=P3.same s4;have ax:lf≠a:=(hP.same Z.same).ne O.no;have ak:fo≠a:=(hP.same (Z.same.trans O.same)).ne J.no;have G:lf≠fo:=λz=>by have:=J.no;rw [<- z,O.at_] at this;cases this
 have la:l≠a:=P3.ne nl;have a9:l≠lf:=λz=>by rw [z,J.same _ _ O.at_] at nl;cases nl
 have ba:l≠fo:=λz=>by rw [z,J.at_] at nl;cases nl
 have a8:=s4 _ _ (J.same _ _ O.at_);have bb:=s4 _ _ J.at_;have bu:ns.length<40:=by rw [pm.length_eq];exact a7
 ac_rfl;refine {{_,SqL.of el},az.lst (xs:=ns.map V.int) (SpL H4 a d kd lf fo ns) {{_,_,rfl},{(O0 512).map λ(i:Nat)=>(i:Int),by rw [a8,PK];rfl,by rw [NO,Re],λy hy=>by obtain ⟨j,hj,rfl⟩:=OE.mp hy;have:=RS.mp hj;omega},{[],[],bb,.nil,rfl,(λt h=>by cases h)},λ_ _ _ _ _ e=>e,P4} (λi σ H' _ I=>SqL.of (I.but _ _ la a9 ba el)) ?_ ?_}
 .rintro i x σ H5 hx ⟨⟨t5,t6,rfl⟩,⟨ls,e1,e2,a0⟩,⟨as,ts,e3,e4,e5,rg⟩,bt,P5⟩;rw [Oe] at hx;obtain ⟨bi,av,rfl⟩:=Ou.mp hx;have hi:i<ns.length:=(NU.mp av).1;ac_rfl;refine {{_,e1},_,.inl e1,a,_,rfl,P5,by rw [NO];omega,by rw [NO];omega,λy H6 b6 P6 y0 y1=>?_};rw [NO] at y1;have U:y.toNat<ls.length:=by omega
  have a6:=b6 _ _ ax e1;have aI:=b6 _ _ ak e3;refine {ls.map V.int,y.toNat,by rw [Int.toNat_of_nonneg y0],a6,.int ls[y.toNat],by rw [Oe,NL U];rfl,{_,by rw [zh G.symm];exact aI},?_};ac_rfl;refine {'d',{'d','d'},'d',λtp H7 n7=>?_};have f7:H7 fo=some (.lst (as.map V.ref)):=n7.same _ _ (by rw [zh G.symm];exact aI);have bq:=cZ e4;have bp:ts.length=i:=by have:=congrArg SN e5;rw [NO,ON] at this;omega
  refine {_,f7,by rw [NO];exact aS (by omega),{_,_,rfl},{ls.eraseIdx y.toNat,?_,?_,λy' a3=>a0 y' (List.mem_of_mem_eraseIdx a3)},{as++[tp],ts++[(bi,ls[y.toNat] % 16,ls[y.toNat] / 16)],?_,?_,?_,?_},λc o m1 m2 m3 e=>?_,?_}
  .rw [zh G,<- xq];exact n7.same _ _ zt
  .rw [Ra U];omega
  .rw [zt,OI];rfl
  .have S:∀{r:Addr}{xs:List V},H7 r=some (.tup xs)->upd H7 fo (.lst (as.map V.ref++[V.ref tp])) r=some (.tup xs):=λ{r xs} e=>by
    rw [zh (λz=>by rw [z,f7] at e;cases e)];exact e
   refine jJ (Paired.J7 e4 λr tt e=>S (n7.same _ _ ?_)) (.cons (S n7.at_) .nil);have e:H5 r=_:=e;have a5:r≠a:=λz=>by obtain ⟨x,y,ea,_⟩:=P5.ex;rw [z,ea] at e;cases e
   rw [zh (λz=>by rw [z,e1] at e;cases e)];exact b6 _ _ a5 e
  .rw [OI,e5,OU,av];rfl
  .intro t' a4;rcases Ox.mp a4 with h|h
   .exact rg t' h
   .rw [OO] at h;subst h;have:=a0 ls[y.toNat] (O4 U);show (0<=ls[y.toNat] % 16/\ls[y.toNat] % 16<16)/\0<=ls[y.toNat] / 16/\ls[y.toNat] / 16<32;omega
  .rw [zh m3];exact n7.same _ _ (by rw [zh m2];exact b6 _ _ m1 (bt _ _ m1 m2 m3 e))
  .obtain ⟨x,y',ea,r⟩:=P6.ex;exact {{x,y',by rw [zh ak.symm];exact n7.same _ _ (by rw [zh ax.symm];exact ea),r}}
 .rintro σ H5 ⟨⟨t5,t6,rfl⟩,_,⟨as,ts,e3,e4,e5,rg⟩,bt,P5⟩;rw [NO,Ob (NV _)] at e5;ac_rfl;refine q fo as ts H5 (λc o nc e=>?_) P5 ((Z.same.trans O.same).free J.no) e3 e4 (by rw [e5];exact pm) (by rw [e5];exact so) rg;have h3:=(Z.same.trans O.same) _ _ e;exact bt _ _ nc (λz=>by have h1:=Z.same _ _ e;rw [z,O.no] at h1;cases h1) (λz=>by rw [z,J.no] at h3;cases h3) (s4 _ _ (J.same _ _ h3))
abbrev mG:Stmt:=top 64
theorem tF(f:Nat->Int):∀n,0<n->∃i,i<n/\dN f n=some (f i)
 | 1,_=>{0,'d',rfl}
 | n+2,_=>by
  obtain ⟨i,hi,e⟩:=tF f (n+1) (by omega);have z:dN f (n+2)=some (match dN f (n+1) with|none=>f (n+1)|some m=>if f (n+1)>m then f (n+1) else m):=rfl;rw [z,e];show ∃j,j<n+2/\some (if f (n+1)>f i then f (n+1) else f i)=some (f j);split
  .exact {n+1,by omega,rfl}
  .exact {i,by omega,rfl}
structure AbI(H:Hp)(ts:List T3)(i:Nat)(τ:L2.St)(ys:List V)(H':Hp):Prop where
 ex:∃t1,τ=[t1]
 ys:ys=(ts.take i).map λt=>V.int (t.1+1)
 same:zj H H'
def uY:Sp:=λvs H Q _=>∃(a sl:Addr)(as:List Addr)(ts:List T3),vs=[.ref a,.ref sl]/\Pot H a/\H sl=some (.lst (as.map V.ref))/\Paired (c0 H) as ts/\ts.length<40/\(∀t∈ts,0<=t.1/\t.1<10 ^ 17) /\
 ∀(z:Int) H',But a H H'->Pot H' a->0<=z->z<10 ^ 18->Q (.int z) H'
theorem Eu:zy XM XM (zl mG):=fsc
theorem Cr:bO { kind:=.function,names:=[(NS ".0",.local),(NS "_law_spot",.local)],isGenerator:=false,isCoroutine:=false,more:=[] } (zl mG).names XM ["_law_spot"] [none]=true:=by decide +kernel
theorem IS:(["_law_spot"]:List Str).Nodup:=by decide +kernel
theorem Dg(F:Fun K "_law_above" "_law_above" mG f fd)(T:Txt K mg A)(Z9:GF P w K mg base true 1 Wo Yw cT):zp P w K mg base CX0 true 2 f fd XM uY:=by
 refine F.o Eu λZW Ar outer s H vs Q E hr h=>?_;obtain ⟨a,sl,as,ts,rfl,hP,hs,hp,a5,a0,q⟩:=h;refine {_,(W.h (zi (zw (zD cx (zT (pe rfl) rfl T.aK boot_max (za (zD cx (ar (za zo zd)) (cY (λ_=>rfl) (aA.of Cr) (cQ (ze 1)) (λ_ _ _ _ _=>(zO (i:=0) IS rfl (NZ rfl))) (λ_ _ _ _ _=>di) (λ_ _ _ _ _=>(zD cx (aN dz (ze 0) zo (λ_ _=>rfl)) zo)))) zd)) (aN dz (ar (za zo (za (zu Z9 hr rfl (za (ze 0) (za (zD oR zo zo) zd))) zd))) (zu Z9 hr rfl (za (ze 0) (za zo zd))) (λ_ _=>rfl)))))),?_};ac_rfl;have ZS:=cZ hp;refine {'d',λlz H1 S _=>{{_,SqL.of (S.same _ _ hs)},aK.lst (xs:=as.map V.ref) (AbI H1 ts) (λi τ ys H' I=>?_) (λi τ ys H' I=>SqL.of (I.same _ _ (S.same _ _ hs))) {{_,rfl},rfl,zj.refl _} ?_ ?_}}
 .rw [I.ys,NO];exact aS (by have:=Q9 i ts;omega)
 .intro N i x τ ys H' hx I hN;obtain ⟨t1,rfl⟩:=I.ex;rw [Oe] at hx;obtain ⟨b,hb,rfl⟩:=Ou.mp hx;have hi:i<ts.length:=by rw [<- ZS];exact (NU.mp hb).1
  have z:ts[i]?=some ts[i]:=NL hi;have g1:=I.same _ _ (S.same _ _ (eX hp hb z));have i0:atI [V.int ts[i].1,V.int ts[i].2.1,V.int ts[i].2.2] 0=some (V.int ts[i].1):=rfl;erw [g1,i0];refine hN _ _ _ {{_,rfl},?_,I.same};rw [OU,z,I.ys,OI];rfl
 .intro τ ys H' I D3 H3 U;have G:=I.ys;rw [NO,ZS,Ob (NV _)] at G;rw [G] at U;rw [j7];refine {_,_,U.same _ _ (I.same _ _ S.at_),U.at_,ah (by simp;omega),λp4 H4 n4=>?_};rw [wH];refine {0::ts.map λt=>t.1+1,by rw [n4.at_,Pi,PK];rfl,'z',?_};obtain ⟨i,hi,eb⟩:=tF (λi=>(0::ts.map λt=>t.1+1).getD i 0) (0::ts.map λt=>t.1+1).length 'z';rw [eb];have O:zj H H4:=S.same.trans (I.same.trans (U.same.trans n4.same));have P4:=hP.same O;refine {{'d','d','d'},a,_,rfl,P4,'d','d',λr1 H5 b5 P5 a4 aI=>{'d',λp6 H6 Z _=>{a,2,rfl,P5.same Z.same,'d','d',λr2 H7 b7 P7 ak a3=>?_}}};have ax:p6≠a:=P5.ne Z.no;have e7:=b7 _ _ ax Z.at_;have bb:But a H H7:=(((But.of O).trans b5).trans (.of Z.same)).trans b7;obtain ⟨v,ev,hv⟩:=p8 (xs:=[V.int 0,.int r1]) ak (by simpa using a3);obtain ⟨J,rfl,m0,m1⟩:∃J:Int,v = .int J/\0<=J/\J<10 ^ 17:=by
   simp only [NT,Oh,or_false] at hv;rcases hv with rfl|rfl
   .exact {_,rfl,'d','d'}
   .exact {_,rfl,a4,aI}
  have hb:0<=(0::ts.map λt=>t.1+1).getD i 0/\(0::ts.map λt=>t.1+1).getD i 0<=10 ^ 17:=by
   rw [Oq,NL hi];show 0<=(0::ts.map λt=>t.1+1)[i]/\_;have hm:=O4 hi;generalize (0::ts.map λt=>t.1+1)[i]=y at hm;rcases NT.mp hm with h|h
   .subst h;exact {'d','d'}
   .obtain ⟨t',av,rfl⟩:=OE.mp h;have:=a0 t' av;show 0<=t'.1+1/\t'.1+1<=10 ^ 17;omega
  erw [e7];refine {_,ev,?_};show dX (V.int ((0::ts.map λt=>t.1+1).getD i 0)) (V.int J) H7 Q;ac_rfl;exact q _ H7 bb P7 (by omega) (by omega)
end
theorem hV(c:Nat)(t:List Nat):z5 c (c::t)=[]::z5 c t:=if_pos rfl
theorem Bm:∀l:List Nat,(z5 c l).length=l.count c+1/\((z5 c l).map SN).sum+l.count c=l.length
 | []=>{rfl,rfl}
 | x::l=>by
  have z:=Bm (c:=c) l;by_cases e:x=c
  .subst e;rw [hV,List.count_cons_self];simp only [OJ,Pi,List.sum_cons,Q5];omega
  .obtain ⟨a,r,F⟩:=dJ c l;rw [eA c x l e,List.count_cons_of_ne e];rw [F] at z ⊢;show ((x::a)::r).length=_/\(List.map SN ((x::a)::r)).sum+_=_;simp only [OJ,Pi,List.sum_cons] at z ⊢;omega
theorem kW:∀{l v:List Nat},v∈z5 c l->c∉v
 | [],v,h=>by rw [OO.mp h];simp
 | x::l,v,h=>by
  by_cases e:x=c
  .subst e;rw [hV] at h;rcases NT.mp h with rfl|h
   .simp
   .exact kW h
  .obtain ⟨a,r,F⟩:=dJ c l;rw [eA c x l e,F] at h;rcases NT.mp h with rfl|h
   .intro z;rcases NT.mp z with z|z
    .exact e z.symm
    .exact kW (v:=a) (by rw [F];exact NX ..) z
   .exact kW (v:=v) (by rw [F];exact NR _ h)
def Fst(c:Nat)(l:List Nat):List Nat:=(z5 c l).headD []
def Tls(c:Nat)(l:List Nat):List (List Nat):=(z5 c l).tail
section
variable {c:Nat}
theorem eI(l:List Nat):z5 c l=Fst c l::Tls c l:=by
 unfold Fst Tls;obtain ⟨a,r,z⟩:=dJ c l;rw [z];rfl
theorem iz(l:List Nat):Tls c (c::l)=z5 c l:=by unfold Tls;rw [hV];rfl
theorem lq(l:List Nat):Fst c (c::l)=[]:=by unfold Fst;rw [hV];rfl
theorem lK(e:x≠c)(l:List Nat):Tls c (x::l)=Tls c l:=by
 unfold Tls;obtain ⟨a,r,z⟩:=dJ c l;rw [eA c x l e,z];rfl
theorem uO(e:x≠c)(l:List Nat):Fst c (x::l)=x::Fst c l:=by
 unfold Fst;obtain ⟨a,r,z⟩:=dJ c l;rw [eA c x l e,z];rfl
theorem KY(x l:List Nat):∀v∈Tls c l,v∈Tls c (x++l):=by
 induction x with
 | nil=>exact λv h=>h
 | cons y x z =>
  intro v hv;rw [PZ];by_cases e:y=c
  .subst e;rw [iz,eI];exact NR _ (z v hv)
  .rw [lK e];exact z v hv
theorem Bx(a x d b:List Nat)(hx:x.length<=1):∃N:List (List Nat),N.length<=2/\∀v∈z5 c (a++x++b),v∈z5 c (a++d++b)\/v∈N:=by
 have F:∃N:List (List Nat),N.length<=1/\∀v∈Tls c (x++b),v∈Tls c (d++b)\/v∈N:=by
  have h:=KY (c:=c) d b
  match x,hx with
  | [],_=>exact {[],O9 _,λv hv=>.inl (h v hv)}
  | [y],_ =>
   by_cases e:y=c
   .subst e;refine {[Fst y b],NV _,λv hv=>?_};have hv:v∈Tls y (y::b):=hv;rw [iz,eI] at hv;rcases NT.mp hv with rfl|hv
    .exact .inr (OO.mpr rfl)
    .exact .inl (h v hv)
   .refine {[],O9 _,λv hv=>?_};have hv:v∈Tls c (y::b):=hv;rw [lK e] at hv;exact .inl (h v hv)
 have h1:∃N:List (List Nat),(∀v∈Tls c (a++(x++b)),v∈Tls c (a++(d++b))\/v∈N)/\(N.length<=1\/(N.length<=2/\Fst c (a++(x++b))=Fst c (a++(d++b)))):=by
  induction a with
  | nil=>obtain ⟨N,h2,h3⟩:=F;exact {N,h3,.inl h2}
  | cons y a z =>
   obtain ⟨N,h2,h3⟩:=z;rw [PZ,PZ];by_cases e:y=c
   .subst e;rcases h3 with h3|⟨h3,h4⟩
    .refine {Fst y (a++(x++b))::N,λv hv=>?_,.inr {Sl h3,by rw [lq,lq]}};rw [iz,eI] at hv;rw [iz,eI (a++(d++b))];rcases NT.mp hv with rfl|hv
     .exact .inr (NX ..)
     .exact (h2 v hv).imp (NR _) (NR _)
    .refine {N,λv hv=>?_,.inr {h3,by rw [lq,lq]}};rw [iz,eI] at hv;rw [iz,eI (a++(d++b))];rcases NT.mp hv with rfl|hv
     .exact .inl (by rw [h4];exact NX ..)
     .exact (h2 v hv).imp (NR _) id
   .rw [lK e,lK e,uO e,uO e];exact {N,h2,h3.imp id λ⟨h,e⟩=>{h,by rw [e]}}
 obtain ⟨N,h2,h3⟩:=h1;rw [OR,OR,eI,eI (a++(d++b))];rcases h3 with h3|⟨h3,h4⟩
 .refine {Fst c (a++(x++b))::N,Sl h3,λv hv=>?_};rcases NT.mp hv with rfl|hv
  .exact .inr (NX ..)
  .exact (h2 v hv).imp (NR _) (NR _)
 .refine {N,h3,λv hv=>?_};rcases NT.mp hv with rfl|hv
  .exact .inl (by rw [h4];exact NX ..)
  .exact (h2 v hv).imp (NR _) id
theorem gR(r:List Nat):∀a:List Nat,z5 c (a++c::r)=z5 c a++z5 c r
 | []=>by rw [Q3,hV];rfl
 | y::a=>by
  rw [PZ];by_cases e:y=c
  .rw [e,hV,hV,gR r a];rfl
  .obtain ⟨h,t,z⟩:=dJ c a;rw [eA c y _ e,eA c y _ e,gR r a,z];rfl
theorem wk{a:List Nat}(h:c∉a)(b:List Nat):z5 c (a++b)=(a++Fst c b)::Tls c b:=by
 induction a with
 | nil=>exact eI b
 | cons y a z =>
  rw [NT,not_or] at h;rw [PZ,eA c y _ (OY h.1),z h.2];rfl
theorem EI(a b:List Nat):∃n:List Nat,∀v∈z5 c (a++b),v∈z5 c a\/v∈z5 c b\/v=n:=by
 have F:∀{z:List Nat},c∉z->∀v∈z5 c (z++b),v∈z5 c b\/v=z++Fst c b:=λ{z} h v hv=>by
  rw [wk h] at hv;rcases NT.mp hv with rfl|hv
  .exact .inr rfl
  .exact .inl (by rw [eI];exact NR _ hv)
 by_cases h:c∈a
 .obtain ⟨G,z,rfl,h1⟩:=iE c a h;refine {z++Fst c b,λv hv=>?_};rw [OR,PZ,gR] at hv;rw [gR];rcases Ox.mp hv with hv|hv
  .exact .inl (Oo _ hv)
  .exact .inr (F h1 v hv)
 .exact {a++Fst c b,λv hv=>.inr (F h v hv)}
end
theorem e9(z:Str):(wds z).length=(sg z).count 32+1:=by rw [bL,NO];exact (Bm _).1
theorem Mn(ha:asc z=true)(h:v∈wds z):asc v=true/\32∉sg v:=by
 refine {(by have:=kI ha (lD h).2;rwa [gM] at this),?_};rw [bL] at h;obtain ⟨l,hl,rfl⟩:=OE.mp h;rw [aL];exact kW hl
theorem xR:∀(v:Str)(ws:List Str),sg (Ql " " (v::ws))=sg v++((ws.map sg).map (32::·)).flatten:=by
 intro v ws;have e:Ql " " (v::ws)=Str.join " " (v::ws):=StrLaws.glued_eq_join " " (v::ws);rw [e]
 induction ws generalizing v with
 | nil=>show sg v=_;simp
 | cons x ws z =>
  have z:=z x (StrLaws.glued_eq_join " " _);show sg (v++" "++Str.join " " (x::ws))=_;rw [bj,bj,z];have:sg (" ":Str)=[32]:=by decide
  rw [this];simp
abbrev mw:Stmt:=top 48
theorem je:∀ws:List Str,(∀z∈ws,Wd z)->(((ws.map sg).map (32::·)).flatten).length<=21*ws.length
 | [],_=>by simp
 | z::ws,h=>by
  have h1:=(h z (NX ..)).most;have h2:=je ws λy F=>h y (NR _ F);rw [Pi,Pi,RH,Ov,OJ,OJ,zJ];omega
theorem Gk(h:∀z∈v::ws,Wd z):(Ql " " (v::ws)).length<=21*(ws.length+1):=by
 have h1:=(h v (NX ..)).most;have h2:=je ws λy F=>h y (NR _ F);rw [<- zJ,xR,Ov,zJ];omega
theorem Lq(t:Tab)(ks:List (Str×Tab)):∃v ws,cI t ks=v::ws:={_,_,by unfold cI bR;rw [PZ]}
def zR(ws:List Str):List Nat:=(ws.map λz=>sg z++[32]).flatten
def aT(ts:List T3):List Str:=ts.flatMap λt=>[(toString t.1:Str),(toString t.2.1:Str),(toString t.2.2:Str)]
noncomputable def bJ(m n:Int)(t:Tab)(ks:List (Str×Tab))(ts:List T3):List Str:="mark"::(toString m:Str)::(toString n:Str)::(cI t ks++(toString (ts.length:Int):Str)::aT ts)
noncomputable def fG(m n:Int)(t:Tab)(ks:List (Str×Tab))(ts:List T3):Str:=bC (tx (zR (bJ m n t ks ts)))
structure gz(ts:List T3)(m n:Int):Prop where
 b:∀t∈ts,0<=t.1/\t.1<10 ^ 17
 r:jf ts
 few:ts.length<40
 m:0<=m/\m<10 ^ 18
 n:0<=n/\n<10 ^ 18
theorem mM(a b:List Str):zR (a++b)=zR a++zR b:=by unfold zR;rw [OI,List.flatten_append]
theorem AQ(v:Str)(ws:List Str):sg (Ql " " (v::ws))++[32]=zR (v::ws):=by
 rw [xR];have:∀ws:List Str,((ws.map sg).map (32::·)).flatten++[32]=32::zR ws:=by
  intro ws
  induction ws with
  | nil=>rfl
  | cons z ws F =>
   show (32::sg z++((ws.map sg).map (32::·)).flatten)++[32]=32::((sg z++[32])++zR ws);rw [OR,F];simp
 rw [OR,this];show _=(sg v++[32])++zR ws;simp
theorem lC:∀{ws:List Str},(∀z∈ws,Wd z)->(zR ws).length<=21*ws.length/\(zR ws).all (· < 128)=true
 | [],_=>{by simp [zR],rfl}
 | z::ws,h=>by
  obtain ⟨h1,h2⟩:=lC (ws:=ws) λu F=>h u (NR _ F);have hz:=h z (NX ..);have e:zR (z::ws)=sg z++[32]++zR ws:=by simp [zR]
  have G:=hz.most;have p2:=hz.a;rw [e];rw [<- zJ] at G;rw [dS] at p2;refine {by simp;omega,?_};rw [Tj,Tj,p2,h2];rfl
theorem jk:∀{ts:List T3},(∀t∈ts,0<=t.1/\t.1<10 ^ 17)->jf ts->(∀z∈aT ts,Wd z)/\(aT ts).length=3*ts.length
 | [],_,_=>by simp [aT]
 | t::ts,h,r=>by
  obtain ⟨i1,i2⟩:=jk (ts:=ts) (λu F=>h u (NR _ F)) (λu F=>r u (NR _ F));have h1:=h t (NX ..);have h2:=r t (NX ..);have e:aT (t::ts)=[(toString t.1:Str),(toString t.2.1:Str),(toString t.2.2:Str)]++aT ts:=by simp [aT]
  rw [e];refine {λz hz=>?_,by simp;omega};rcases Ox.mp hz with hz|hz
  .simp only [NT,Oh,or_false] at hz;rcases hz with rfl|rfl|rfl
   .exact d9 h1.1 (by omega)
   .exact d9 h2.1.1 (by omega)
   .exact d9 h2.2.1 (by omega)
  .exact i1 z hz
theorem lX{t:Tab}(gm:aV t)(gk:cW ks)(F:gz ts m n):(∀z∈bJ m n t ks ts,Wd z)/\(bJ m n t ks ts).length<=1400:=by
 obtain ⟨G,J⟩:=qW gm gk;obtain ⟨s1,s2⟩:=jk F.b F.r;have few:=F.few;refine {λz hz=>?_,by unfold bJ;simp;omega};unfold bJ at hz;rcases NT.mp hz with rfl|hz
 .exact nL (f!"")
 rcases NT.mp hz with rfl|hz
 .exact d9 F.m.1 F.m.2
 rcases NT.mp hz with rfl|hz
 .exact d9 F.n.1 F.n.2
 rcases Ox.mp hz with hz|hz
 .exact G z hz
 rcases NT.mp hz with rfl|hz
 .exact d9 (by omega) (by omega)
 .exact s1 z hz
theorem Nv{ts:List T3}{t:T3}(h:ts[i]?=some t):aT (ts.take (i+1))=aT (ts.take i)++[(toString t.1:Str),(toString t.2.1:Str),(toString t.2.2:Str)]:=by
 unfold aT;rw [OU,h,QG];simp
def eW(m n:Int)(z:Str)(l:Int)(ts:List T3):List Str:=[("mark":Str),(toString m:Str),(toString n:Str),z,(toString l:Str)]++aT ts
theorem JW{t:Tab}(gm:aV t)(gk:cW ks)(F:gz ts m n):((eW m n (dB t ks) ts.length ts).length<=200/\∀z∈eW m n (dB t ks) ts.length ts,z.length<=100000)/\zR (eW m n (dB t ks) ts.length ts)=zR (bJ m n t ks ts):=by
 obtain ⟨J,O⟩:=qW gm gk;obtain ⟨s1,s2⟩:=jk F.b F.r;obtain ⟨S,_⟩:=lX gm gk F;obtain ⟨v,ws,ea⟩:=Lq t ks;have few:=F.few;refine {{by unfold eW;simp;omega,λz hz=>?_},?_}
 .by_cases G:z=dB t ks
  .rw [G];unfold dB;rw [ea] at J O ⊢;have:=Gk J;simp only [OJ] at O;omega
  .have:z∈bJ m n t ks ts:=by
    unfold eW at hz;unfold bJ;simp only [PZ,Q3,NT,Ox] at hz ⊢;rcases hz with h|h|h|h|h|h<;>simp_all
   have:=(S z this).most;omega
 .have U:bJ m n t ks ts=[("mark":Str),(toString m:Str),(toString n:Str)]++(cI t ks++([(toString (ts.length:Int):Str)]++aT ts)):=rfl;have W:eW m n (dB t ks) ts.length ts=[("mark":Str),(toString m:Str),(toString n:Str)]++([dB t ks]++([(toString (ts.length:Int):Str)]++aT ts)):=rfl;rw [U,W,mM,mM _ (cI t ks++_),mM [dB t ks],mM (cI t ks)];congr 2;unfold dB;rw [ea];refine Eq.trans ?_ (AQ v ws);simp [zR]
section
variable {P:NW}{w:Oc}{K:Frag}{mg:Str->Option Value}{base:Heap}{A:zk}
structure MtI(H:Hp)(x sl wl:Addr)(pm:List T3->List Str)(us:List T3)(i:Nat)(σ:L2.St)(H':Hp):Prop where
 ex:∃t1 t2 t3,σ=[some (V.ref x),some (.ref sl),some (.ref wl),t1,t2,t3]
 hw:H' wl=some (.lst ((pm (us.take i)).map V.str))
 same:∀c o,c≠wl->H c=some o->H' c=some o
structure MtC(H:Hp)(ws:List Str)(i:Nat)(τ:L2.St)(ys:List V)(H':Hp):Prop where
 ex:∃t,τ=[t]
 ys:ys=((ws.take i).map λz:Str=>z++(" ":Str)).map V.str
 same:zj H H'
theorem x3(l:List Str):((l.map λz:Str=>z++(" ":Str)).map (·.length)).sum=(zR l).length:=by
 unfold zR;rw [List.length_flatten,PK,PK];congr 1;refine Pd λv _=>?_;show (v++(" ":Str)).length=(sg v++[32]).length;rw [Pg,Ov,zJ];rfl
theorem uh(l:List Str):Ql "" (l.map λz:Str=>z++(" ":Str))=tx (zR l):=by
 refine fW ?_;rw [GG,aL,PK];unfold zR;congr 1;refine Pd λv _=>?_;show sg (v++(" ":Str))=_;rw [bj];rfl
theorem Bu(hl:∀z∈ws,z.length<=100000):∀(N:L2.St->List V->Hp->Prop)(i:Nat)(v:V)(F:L2.St)(ys:List V)(H':Hp),(ws.map V.str)[i]?=some v->MtC H5 ws i F ys H'->(∀F ys H,MtC H5 ws (i+1) F ys H->N F ys H)->cU 0 v F H' λG H4=>mr G H4 λok H5=>gg N ys G (tOp ij (gw 0) (tC (V.str " "))) ok H5:=by
 intro N i v F ys H' hv I hN;obtain ⟨t1,rfl⟩:=I.ex;rw [Oe] at hv;obtain ⟨z,hz,rfl⟩:=Ou.mp hv;have hl:=hl z (OS hz);ac_rfl;refine {?_,hN _ _ _ {{_,rfl},?_,I.same}}
 .rw [show (" ":Str).length=1 by decide];exact ah (by omega)
 .rw [I.ys,OU,hz];simp
def vF(A:zk):Sp:=λvs H Q _=>∃(x z b k d:Addr)(t:Tab)(ks:List (Str×Tab))(ts:List T3)(n m:Int),vs=[.ref x]/\dU A H x z b k d t ks ts n m/\aV t/\cW ks/\gz ts m n /\
 ∀us H',zj H H'->us.Perm ts->(us.map (·.1)).Pairwise (·<=·)->Q (.str (fG m n t ks us)) H'
theorem ic:zy Ww ["state"] (zl mw):=fsc
theorem Ik:bO { kind:=.function,names:=[(NS ".0",.local),(NS "word",.local)],isGenerator:=false,isCoroutine:=false,more:=[] } (zl mw).names Ww ["word"] [none]=true:=by decide +kernel
theorem FG:(["word"]:List Str).Nodup:=by decide +kernel
theorem GP(F:Fun K "mark_text" "mark_text" mw f fd)(T:Txt K mg A)(ZL:GM P w K mg base true 1 A.State V0 Zj (oS A))(ZY:GM P w K mg base true 1 A.State Wk Zj (pQ A))(ZX:GM P w K mg base true 1 A.State Wj Zj (pW A))(Zc:GM P w K mg base true 5 A.State Wl Zj (vM A))(Y1:GF P w K mg base true 6 "files_text" Wv (tJ A))(Y9:GF P w K mg base true 2 "summed" ["body"] ph):zp P w K mg base CX0 true 7 f fd ["state"] (vF A):=by
 refine F.o ic λZW Ar outer s H vs Q E hr h=>?_;obtain ⟨x,fx,b,k,d,t,ks,ts,n,m,rfl,hS,gm,gk,J,q⟩:=h;refine {_,(W.h (zg (zr (i:=1) ic.nd rfl (NZ rfl) (m0D (cc (clE (zb 0)) T.ot ZL hr)))
   (zg (zr (i:=2) ic.nd rfl (NZ rfl) (ar (za (aO rfl T.TF) (za (bc dI rfl T.Hx QS (za (m0D (cc (clE (zb 0)) T.ot ZY hr)) zd)) (za (bc dI rfl T.Hx QS (za (m0D (cc (clE (zb 0)) T.ot ZX hr)) zd)) (za (caD (zu Y1 hr rfl (clP (za (m0D (cc (clE (zb 0)) T.ot Zc hr)) zd)))) zd))))))
   (zg (ay (jE (zb 2) (bc dI rfl T.Hx QS (za (zT dG rfl T.sL OA (za (zb 1) zd)) zd))))
   (zg (bI PN.never (λ_=>rfl) (liD (cQ (clE (zb 1)))) (iZ (n:=3) (gsD (bz (zO (i:=3) ic.nd rfl (NZ rfl)) (gsD (bz (zO (i:=4) ic.nd rfl (NZ rfl)) (gsD (bz (zO (i:=5) ic.nd rfl (NZ rfl)) gj)))))))
   (zi (ay (kZ (zb 2) (ar (za (bc dI rfl T.Hx QS (za (zb 3) zd)) (za (bc dI rfl T.Hx QS (za (zb 4) zd)) (za (bc dI rfl T.Hx QS (za (zb 5) zd)) zd))))))))
   (zi (zw (caD (zu Y9 hr rfl (clP (za (rF zx (cY (λ_=>rfl) (aA.of Ik) (liD (cQ (clE (zb 2)))) (λ_ _ _ _ _=>(zO (i:=0) FG rfl (NZ rfl))) (λ_ _ _ _ _=>di) (λ_ _ _ _ _=>(zD bh (zb 0) zx)))) zd))))))))))),?_}
 obtain ⟨dx,e1⟩:=hS.ob;erw [e1,tE];refine {x,fx,b,k,d,t,ks,ts,n,m,rfl,hS,λsl as us H1 s1 a5 Xp pr O so=>?_};have S1:=hS.same s1;obtain ⟨a6,XH⟩:=S1.ob;erw [XH,jC,jv,pD];refine {x,fx,b,k,d,t,ks,ts,n,m,rfl,S1,?_};have hm:=J.m;have hn:=J.n;erw [XH,jC,jv,pD];refine {dj (by omega),x,fx,b,k,d,t,ks,ts,n,m,rfl,S1,?_};erw [XH,jC,jv,pD];refine {dj (by omega),x,fx,b,k,d,t,ks,ts,n,m,rfl,S1,λq' b' k' H2 s2 nq nb nk F2 _=>{q',b',k',t,ks,rfl,F2.r,gm,gk,λH3 s3=>?_}};have G:=s3 _ _ (s2 _ _ Xp);have a4:=O.length_eq;have av:=cZ pr;have few:=J.few;refine {'d',λwl H4 S _=>{{_,S.at_},_,.inl (S.same _ _ G),?_}};rw [NO,av];have Z:H1 wl=none:=(s2.trans s3).free S.no;have aI:sl≠wl:=zQ Xp Z;have a0:∀{H':Hp},(∀c o,c≠wl->H4 c=some o->H' c=some o)->Paired (c0 H') as us:=λ{H'} k'=>Paired.J7 pr λr u e=>k' _ _ (zQ e Z) (S.same _ _ (s3 _ _ (s2 _ _ e)));have a3:∀{H':Hp},(∀c o,c≠wl->H4 c=some o->H' c=some o)->H' sl=some (.lst (as.map V.ref)):=λ{H'} k'=>k' _ _ aI (S.same _ _ G);refine {dj (by omega),_,S.at_,aS 'z',{_,SqL.of (by rw [zh aI];exact S.same _ _ G)},az.lst (xs:=as.map V.ref) (MtI H4 x sl wl (eW m n (dB t ks) us.length) us) {{_,_,_,rfl},by rw [zt];rfl,λc o nc e=>by rw [zh nc];exact e} (λi σ H' _ I=>SqL.of (a3 I.same)) ?_ ?_}
 .rintro i v σ H5 hv ⟨⟨t1,t2,t3,rfl⟩,hw,k5⟩;rw [Oe] at hv;obtain ⟨r,ax,rfl⟩:=Ou.mp hv;have hi:i<us.length:=by rw [<- av];exact (NU.mp ax).1
  have ak:us[i]?=some us[i]:=NL hi;have g1:=eX (a0 k5) ax ak;have ub:=J.b us[i] (O.mem_iff.mp (O4 hi));have ur:=J.r us[i] (O.mem_iff.mp (O4 hi));generalize us[i]=u at ak g1 ub ur;refine {r,_,rfl,SqT.of g1,rfl,?_};erw [hw];refine {dj (by omega),dj (by omega),dj (by omega),'d',λp H6 n6 _=>{_,n6.same _ _ hw,_,n6.at_,ah ?_,{_,_,_,rfl},?_,λc o nc e=>by rw [zh nc];exact n6.same _ _ (k5 _ _ nc e)}}
  .have h1:=(jk (ts:=us.take i) (λt U=>J.b t (O.mem_iff.mp (PP U))) (λt U=>J.r t (O.mem_iff.mp (PP U)))).2;rw [ON] at h1;rw [NO];unfold eW;simp;omega
  .rw [zt];unfold eW;rw [Nv ak];simp
 .rintro σ H5 ⟨⟨t1,t2,t3,rfl⟩,hw,k5⟩;rw [NO,av,Ob (NV _)] at hw;erw [hw];have gu:gz us m n:={λt U=>J.b t (O.mem_iff.mp U),λt U=>J.r t (O.mem_iff.mp U),by omega,J.m,J.n};obtain ⟨p1,p2⟩:=JW gm gk gu;obtain ⟨m1,m2⟩:=lX gm gk gu;obtain ⟨b1,b2⟩:=lC m1;generalize eW m n (dB t ks) us.length us=ws at hw p1 p2;refine {{_,SqL.of hw},aK.lst (xs:=ws.map V.str) (MtC H5 ws) (λi τ ys H' I=>?_) (λi τ ys H' I=>SqL.of (I.same _ _ hw)) {{_,rfl},'z',zj.refl _} (Bu p1.2) ?_}
  .rw [I.ys,NO,NO,ON];exact aS (by omega)
  .intro τ ys H6 I D H7 n7;rw [rm];have ey:=I.ys;rw [NO,Ob (NV _)] at ey;refine {ws.map λz:Str=>z++(" ":Str),by rw [n7.at_,ey],?_,tx (zR (bJ m n t ks us)),?_,by rw [m8];exact b2,by rw [fN];omega,λH8 s8=>?_}
   .rw [x3,p2,show ("":Str).length=0 by decide];omega
   .rw [uh,p2]
   .have s7:∀c o,c≠wl->H4 c=some o->H8 c=some o:=λc o nc e=>s8 _ _ (n7.same _ _ (I.same _ _ (k5 _ _ nc e)));exact q us H8 (λc o e=>s7 _ _ (zQ (s1 _ _ e) Z) (S.same _ _ (s3 _ _ (s2 _ _ (s1 _ _ e))))) O so
end
abbrev lU:Stmt:=top 51
abbrev jV:Stmt:=top 50
abbrev lS:Stmt:=top 49
theorem IM(hl:∃a,l=a++[32]):zK (bC (tx l))=tx l:=by
 obtain ⟨a,rfl⟩:=hl;have F:=iL (fR (tx (a++[32]))).1 (by have:=(fR (tx (a++[32]))).2;lia);have e:sg (bC (tx (a++[32])))=a++32::(sg (toString (cj (tx (a++[32]))):Str)++[59]):=by
  unfold bC;rw [bj,bj,aL];simp;decide +kernel
 refine i6 e λh=>?_;rcases Ox.mp h with h|h
 .have:=F.dig 32 h;lia
 .simp at h
def aX:Nat->List T3->List Str->Option (List T3×List Str)
 | 0,ts,ws=>some (ts,ws)
 | n+1,ts,ws=>(zG ws).bind λa=>(zG a.2).bind λb=>(zG b.2).bind λc=>aX n (ts++[(a.1,b.1,c.1)]) c.2
def bP(ws:List Str):Option (List T3×List Str):=(zG ws).bind λa=>aX a.1.toNat [] a.2
theorem AZ:∀{n:Nat}{ts us:List T3}{ws r:List Str},aX n ts ws=some (us,r)->us.length=ts.length+n/\r.length+3*n<=ws.length
 | 0,ts,us,ws,r,h=>by injection h with h;injection h with h1 h2;rw [h1,h2];exact {rfl,NV _}
 | n+1,ts,us,ws,r,h=>by
  obtain ⟨⟨a,r1⟩,G,g⟩:=bind_some h;obtain ⟨⟨b,r2⟩,S,g⟩:=bind_some g;obtain ⟨⟨c,J⟩,O,g⟩:=bind_some g;have z:=aZ G;have U:=aZ S;have F:=aZ O;have g:aX n (ts++[(a,b,c)]) J=some (us,r):=g;obtain ⟨W,Z⟩:=AZ g;rw [Ov,O2] at W;simp only at z U F;omega
section
variable {P:NW}{w:Oc}{K:Frag}{mg:Str->Option Value}{base:Heap}{A:zk}
theorem zY.tr{p sl:Addr}{as:List Addr}(h:zY A H p ws)(s:But sl H H')(hs:H sl=some (.lst (as.map V.ref))):zY A H' p ws:=by
 obtain ⟨dx,wl,pre,G,F,r1,r2⟩:=h.ex;refine {{dx,wl,pre,s _ _ (λz=>by subst z;rw [G] at hs;cases hs) G,s _ _ (λz=>?_) F,r1,r2},h.wd};subst z;rw [F] at hs;cases e:pre++ws with
 | nil=>exact r2 e
 | cons y ys =>
  rw [e] at hs;cases as with
  | nil=>cases hs
  | cons a as=>cases hs
structure TsI(A:zk)(H:Hp)(p sl:Addr)(N:Nat)(R:Option (List T3×List Str))(i:Nat)(σ:L2.St)(H':Hp):Prop where
 ex:∃ws ts as t1 t2 t3,σ=[some (V.ref p),some (.ref sl),t1,t2,t3]/\zY A H' p ws/\H' sl=some (.lst (as.map V.ref))/\Paired (c0 H') as ts/\aX (N-i) ts ws=R/\ts.length+ws.length<=3003
 but:But p H H'
def yZ(A:zk):Sp:=λvs H Q E=>∃(p:Addr)(ws:List Str),vs=[.ref p]/\zY A H p ws/\ws.length<=3003/\(∀ts r,bP ws=some (ts,r)->∀l as H',But p H H'->H l=none->H' l=some (.lst (as.map V.ref))->Paired (c0 H') as ts->zY A H' p r->Q (.ref l) H')/\(bP ws=none->∀H',But p H H'->E (.ref A.NoPart) none H')
theorem jP:zy Wt WE (zl lU):=fsc
theorem Gd(F:Fun K VY VY lU f fd)(T:Txt K mg A)(Z8:GMX P w K mg base true 3 A.Words Wf Zj (jr A)):zp P w K mg base (CXW P w) true 4 f fd WE (yZ A):=by
 refine F.oW jP λZW Ar outer s H vs Q E hr h=>?_;obtain ⟨p,ws,rfl,hW,hl,q,qe⟩:=h;have Th:=eQ (cm:=true) (P:=P) (w:=w) (K:=K) (mg:=mg) (base:=base) (N:=Wt) (qual:=VY) (scope:=zl lU) (f:=f) (cd:=ZW) (A:=Ar) (outer:=outer) (s:=s) (H:=H) (E:=E);refine {_,(W.h (zg (zr (i:=1) jP.nd rfl (NZ rfl) (ar zd))
   (zg (mB Th (bI (mn rfl (λok=>ok.frames) rfl) (λ_=>rfl) (dm rfl T.ri (za (cw (cB (clE (zb 0)) T.m9 dr Z8 hr)) zd)) (zO (i:=2) jP.nd rfl (NZ rfl))
   (zg (zr (i:=3) jP.nd rfl (NZ rfl) (cw (cB (clE (zb 0)) T.m9 dr Z8 hr)))
   (zg (zr (i:=4) jP.nd rfl (NZ rfl) (cw (cB (clE (zb 0)) T.m9 dr Z8 hr)))
   (zi (ay (jE (zb 1) (dv (za (zb 3) (za (zb 4) (za (cw (cB (clE (zb 0)) T.m9 dr Z8 hr)) zd)))))))))))
   (zi (zw (zb 1)))))),?_}
 ac_rfl;refine {'d',λsl H1 n1 _=>?_};have W1:=hW.same n1.same;obtain ⟨dx,wl,pre,e1,_⟩:=W1.ex;erw [e1,eO];refine {p,ws,rfl,W1,λN r1 eN N0 N1 H2 b2 W2=>?_,λeN H2 b2=>?_}
 rotate_left
 .ac_rfl;exact {_,rfl,qe (by unfold bP;rw [eN];rfl) H2 ((But.of n1.same).trans b2)}
 have Z:sl≠p:=λz=>by have:=n1.at_;rw [z,e1] at this;cases this
 have Xp:H2 sl=some (.lst (([]:List Addr).map V.ref)):=b2 _ _ Z n1.at_;have l1:=aZ eN;have eF:bP ws=aX N.toNat [] r1:=by unfold bP;rw [eN];rfl
 rw [eF] at q qe;ac_rfl;refine {by omega,by omega,az.rng (TsI A H p sl N.toNat (aX N.toNat [] r1)) {{r1,[],[],_,_,_,rfl,W2,Xp,.nil,rfl,by simp;omega},(But.of n1.same).trans b2} ?_ ?_}
 .rintro i σ H' hi ⟨⟨WV,ts,as,t1,t2,t3,rfl,Yg,has,pr,S,hm⟩,bt⟩;obtain ⟨c,hc⟩:∃c,N.toNat-i=c+1:={N.toNat-i-1,by omega};rw [hc] at S;obtain ⟨a6,a0,ax,e3,_⟩:=Yg.ex;erw [e3,eO];refine {p,WV,rfl,Yg,λx r2 ex x0 x1 H3 b3 W3=>?_,λex H3 b3=>?_}
  rotate_left
  .ac_rfl;exact {_,rfl,qe (by rw [<- S];unfold aX;rw [ex];rfl) H3 (bt.trans b3)}
  obtain ⟨a3,a5,ak,e4,_⟩:=W3.ex;erw [e4,eO];refine {p,r2,rfl,W3,λy r3 ey y0 y1 H4 b4 W4=>?_,λey H4 b4=>?_}
  rotate_left
  .ac_rfl;exact {_,rfl,qe (by rw [<- S];unfold aX;rw [ex];show (zG r2).bind _=_;rw [ey];rfl) H4 ((bt.trans b3).trans b4)}
  obtain ⟨aI,a4,av,e5,_⟩:=W4.ex;have J:But p H' H4:=b3.trans b4;have O:=J _ _ Z has;erw [e5,eO,O];refine {p,r3,rfl,W4,λz r4 ez z0 z1 H5 b5 W5=>{'d',λtp H6 n6=>?_},λez H5 b5=>?_}
  rotate_left
  .ac_rfl;exact {_,rfl,qe (by rw [<- S];unfold aX;rw [ex];show (zG r2).bind _=_;rw [ey];show (zG r3).bind _=_;rw [ez];rfl) H5 ((bt.trans J).trans b5)}
  have l2:=aZ ex;have l3:=aZ ey;have l4:=aZ ez;have G:=n6.same _ _ (b5 _ _ Z O);have la:=cZ pr;have U:∀{r:Addr}{xs:List V}{o:HO},H6 r=some (.tup xs)->upd H6 sl o r=some (.tup xs):=λ{r xs o} e=>by
   rw [zh (λz=>by rw [z,G] at e;cases e)];exact e
  refine {_,G,by rw [NO];exact aS (by omega),{{r4,ts++[(x,y,z)],as++[tp],_,_,_,rfl,(W5.same n6.same).tr But.upd G,by rw [zt,OI];rfl,jJ (Paired.J7 pr λr v e=>U (n6.same _ _ (b5 _ _ ?_ (J _ _ ?_ e)))) (.cons (U n6.at_) .nil),?_,by rw [Ov,O2];omega},λc o nc e=>?_}}
  .exact λz=>by have e:H' r=_:=e;rw [z,e3] at e;cases e
  .exact λz=>by have e:H' r=_:=e;rw [z,e3] at e;cases e
  .rw [<- S];conv=>rhs;unfold aX
   rw [ex,show N.toNat-(i+1)=c from by omega];show _=(zG r2).bind _;rw [ey];show _=(zG r3).bind _;rw [ez];rfl
  .rw [zh (λz=>by rw [z,n1.no] at e;cases e)];exact n6.same _ _ (b5 _ _ nc (J _ _ nc (bt _ _ nc e)))
 .rintro σ H' ⟨⟨WV,ts,as,t1,t2,t3,rfl,Yg,has,pr,S,hm⟩,bt⟩;rw [RZ] at S;ac_rfl;exact q ts WV (by rw [<- S];rfl) sl as H' bt n1.no has pr Yg
theorem iW{zs:List Int}:(zs.map V.int).all ae=true:=by simp [ae]
theorem AV(zs:List Int):eqL (zs.map V.int) (zs.map V.int)=true:=qh iW λx hx b e=>by
 obtain ⟨y,_,rfl⟩:=OE.mp hx;cases e
theorem wt(zs ys:List Int):eqL (zs.map V.int) (ys.map V.int)=decide (zs=ys):=by
 by_cases h:zs=ys
 .subst h;rw [AV,decide_eq_true rfl]
 .rw [decide_eq_false h,Pu];intro e;unfold eqL at e;rw [Od,beq_iff_eq,NO,NO,Ot] at e;refine h (List.ext_getElem e.1 λi h1 h2=>?_);have:=e.2 i (RS.mpr h1);rw [Oq,Oq,Oe,Oe,NL h1,NL h2] at this;simpa [eqV] using this
theorem fI{ws r:List Str}(h:zG ws=some (i,r)):∃z,ws=z::r:=by
 cases ws with
 | nil=>cases h
 | cons z ws =>
  have h:(if zH z=true then some ((PL z).getD 0,ws) else none)=some (i,r):=h;split at h
  .injection h with h;injection h with _ h;exact {z,by rw [h]}
  .cases h
theorem wM:∀{n:Nat}{ks us:List (Str×Tab)}{y:Str}{ws r:List Str},rdK n ks y ws=some (us,r)->r.length<=ws.length
 | 0,_,_,_,_,_,h=>by injection h with h;injection h with _ h;rw [h];exact NV _
 | n+1,ks,us,y,ws,r,h=>by
  obtain ⟨⟨z,r1⟩,e,g⟩:=bind_some h;obtain ⟨⟨t,r2⟩,F,g⟩:=bind_some g;have G:=iG e;have J:=iC F;have g:rdK n (zA ks z t) z r2=some (us,r):=g;have O:=wM g;simp only at G J;omega
theorem I0{ws r:List Str}(h:rdF ws=some (c,r)):r.length<=ws.length:=by
 unfold rdF at h;obtain ⟨⟨t,r1⟩,G,g⟩:=bind_some h;obtain ⟨⟨i,r2⟩,O,g⟩:=bind_some g;obtain ⟨⟨ks,U⟩,J,g⟩:=Ou.mp g;injection g with g1 g2
 have z:=iC G;have S:=aZ O;have F:=wM J;simp only at z S F g2;rw [<- g2];omega
theorem CW{ws r:List Str}(h:bP ws=some (ts,r)):3*ts.length<=ws.length:=by
 unfold bP at h;obtain ⟨⟨a,r1⟩,z,g⟩:=bind_some h;have F:=aZ z;have g:aX a.toNat [] r1=some (ts,r):=g;obtain ⟨G,J⟩:=AZ g;simp only [Q5] at F G;omega
structure SoI(H:Hp)(ts:List T3)(i:Nat)(τ:L2.St)(ys:List V)(H':Hp):Prop where
 ex:∃t1 t2 t3,τ=[t1,t2,t3]
 ys:ys=((ts.take i).map (·.1)).map V.int
 same:zj H H'
def ip(c:Tab×List (Str×Tab))(ts:List T3):Prop:=(ts.map (·.1)).Perm (uniq (aa c.1 c.2))/\(ts.map (·.1)).Pairwise (·<=·)
open Classical in
noncomputable def dn(c:Tab×List (Str×Tab))(ts:List T3):Bool:=decide (ip c ts)
theorem i5:dn c ts=true↔ip c ts:=by classical exact decide_eq_true_iff
noncomputable def bN:List Str->Option ((Int×Int)×(Tab×List (Str×Tab))×List T3)
 | []=>none
 | z::ws=>if z="mark" then (zG ws).bind λa=>(zG a.2).bind λb=>(rdF b.2).bind λc=>(bP c.2).bind λd=>if d.2=[]/\dn c.1 d.1=true then some ((a.1,b.1),c.1,d.1) else none else none
structure Dm(A:zk)(H:Hp)(p:Addr)(ws:List Str)(Q:VK)(E:XK):Prop where
 w:ws.length<=3003
 lv:∀YL u us r,(∀v∈YL,v∈ws)->rdF YL=some ((u,us),r)->(uniq (aa u us)).length<64/\us.length<=4000
 q:∀m n u us ts,bN ws=some ((m,n),(u,us),ts)->ia ts/\∀x fx b k d H',But p H H'->dU A H' x fx b k d u us ts n (m+1)->Q (.ref x) H'
 e:bN ws=none->∀H',But p H H'->E (.ref A.NoPart) none H'
def xD(A:zk):Sp:=λvs H Q E=>∃(p:Addr)(ws:List Str),vs=[.ref p]/\zY A H p ws/\Dm A H p ws Q E
theorem jh:zy Xa WE (zl jV):=fsc
theorem Nr:bO { kind:=.function,names:=[(NS ".0",.local),(NS "birth",.local),(NS "stretch",.local),(NS "place",.local)],isGenerator:=false,isCoroutine:=false,more:=[] } (zl jV).names Xa WD [none,none,none]=true:=by decide +kernel
theorem sr:(WD:List Str).Nodup:=by decide +kernel
theorem C4(F:Fun K "state_of" "state_of" jV f fd)(T:Txt K mg A)(Z4:GMX P w K mg base true 2 A.Words V5 Zj (kD A))(Z8:GMX P w K mg base true 3 A.Words Wf Zj (jr A))(Y0:GX P w K mg base true 6 VW WE (ym A))(YZ:GX P w K mg base true 4 VY WE (yZ A))(Zr:GMX P w K mg base true 2 A.Words "take_end" Zj (Av A))(Zg:GM P w K mg base true 1 A.nv "living" Zj (vg A))(YM:GC P w K mg base true 5 "State" A.State Yt (rA A)):zp P w K mg base (CXW P w) true 7 f fd WE (xD A):=by
 refine F.oW jh λZW Ar outer s H vs Q E hr h=>?_;obtain ⟨p,ws,rfl,hW,h⟩:=h;have hu:_<cLine:=Oy (zV hr);have O:=eQ (cm:=true) (P:=P) (w:=w) (K:=K) (mg:=mg) (base:=base) (N:=Xa) (qual:="state_of") (scope:=zl jV) (f:=f) (cd:=ZW) (A:=Ar) (outer:=outer) (s:=s) (H:=H) (E:=E);refine {_,(W.h (zg (zL (tD (zF (clO (oE (g7 hu))) (clE (cw (cB (clE (zb 0)) T.m9 O Z4 hr))) (clE (aO rfl T.TF)) (zE _)))
   (zi (fb rfl O T.q0 rfl T.sU (za zx zd)))
   zW)
   (zg (zr (i:=1) jh.nd rfl (NZ rfl) (cw (cB (clE (zb 0)) T.m9 O Z8 hr)))
   (zg (zr (i:=2) jh.nd rfl (NZ rfl) (cw (cB (clE (zb 0)) T.m9 O Z8 hr)))
   (zg (zr (i:=3) jh.nd rfl (NZ rfl) (cXD (fg O Y0 hr rfl (clP (za (zb 0) zd)))))
   (zg (zr (i:=4) jh.nd rfl (NZ rfl) (cXD (fg O YZ hr rfl (clP (za (zb 0) zd)))))
   (zg (ay (cw (cB (clE (zb 0)) T.m9 O Zr hr)))
   (zg (zL (tD (zF (clO (oE (g7 hu))) (clE (cY (λ_=>rfl) (aA.of Nr) (liD (cQ (clE (zb 4)))) (λ_ _ _ _ _=>(uP (n:=3) (gsD (bz (zO (i:=0) sr rfl (NZ rfl)) (gsD (bz (zO (i:=1) sr rfl (NZ rfl)) (gsD (bz (zO (i:=2) sr rfl (NZ rfl)) gj)))))))) (λ_ _ _ _ _=>di) (λ_ _ _ _ _=>(zb 0)))) (clE (m0D (cc (clE (zb 3)) T.mm Zg hr))) (zE _)))
   (zi (fb rfl O T.q0 rfl T.sU (za zx zd)))
   zW)
   (zi (zw (rP YM hr rfl (za (zb 3) (za (zb 4) (za (zb 2) (za (zD bh (zb 1) zo) zd))))))))))))))),?_}
 obtain ⟨dx,wl,pre,e1,_⟩:=hW.ex;erw [e1,rY];refine {p,ws,rfl,hW,λz r0 ez H1 U W1=>?_,λe0=>?_}
 rotate_left
 .subst e0;exact {_,rfl,h.e rfl H (.of (zj.refl _))}
 subst ez;have hl:=h.w;rw [OJ] at hl;ac_rfl;by_cases hz:z="mark"
 rotate_left
 .rw [decide_eq_false hz];ac_rfl;exact {'d',h.e (if_neg hz) H1 U}
 rw [decide_eq_true hz];have G:bN (z::r0)=(zG r0).bind λa=>(zG a.2).bind λb=>(rdF b.2).bind λc=>(bP c.2).bind λd=>if d.2=[]/\dn c.1 d.1=true then some ((a.1,b.1),c.1,d.1) else none:=if_pos hz;obtain ⟨b0,bt,ba,XH,_⟩:=W1.ex;erw [XH,eO];refine {p,r0,rfl,W1,λm r1 em m0 m1 H2 Z W2=>?_,λem H2 Z=>?_}
 rotate_left
 .ac_rfl;exact {_,rfl,h.e (by rw [G,em];rfl) H2 (U.trans Z)}
 obtain ⟨y1,rfl⟩:=fI em;rw [em] at G;obtain ⟨X3,b7,bp,a6,_⟩:=W2.ex;erw [a6,eO];refine {p,r1,rfl,W2,λn r2 en n0 n1 H3 b3 W3=>?_,λen H3 b3=>?_}
 rotate_left
 .ac_rfl;exact {_,rfl,h.e (by rw [G];show (zG r1).bind _=_;rw [en];rfl) H3 ((U.trans Z).trans b3)}
 obtain ⟨y2,rfl⟩:=fI en;rw [OJ,OJ] at hl;have G:bN (z::y1::y2::r2)=(rdF r2).bind λc=>(bP c.2).bind λd=>if d.2=[]/\dn c.1 d.1=true then some ((m,n),c.1,d.1) else none:=by rw [G];show (zG (y2::r2)).bind _=_;rw [en];rfl
 ac_rfl;refine {p,r2,rfl,W3,by omega,λu us r3 eu q4 a0 k4 H4 b4 _ _ _ F4 W4=>?_,λeu H4 b4=>?_}
 rotate_left
 .ac_rfl;exact {_,rfl,h.e (by rw [G,eu];rfl) H4 (((U.trans Z).trans b3).trans b4)}
 have lv:=h.lv r2 u us r3 (λv hv=>NR _ (NR _ (NR _ hv))) eu;rw [eu] at G;have l3:r3.length<=r2.length:=I0 eu;ac_rfl;refine {p,r3,rfl,W4,by omega,λts r4 es sl as H5 b5 bu Xp pr W5=>?_,λes H5 b5=>?_}
 rotate_left
 .ac_rfl;exact {_,rfl,h.e (by rw [G];show (bP r3).bind _=_;rw [es];rfl) H5 ((((U.trans Z).trans b3).trans b4).trans b5)}
 have S:=(((U.trans Z).trans b3).trans b4).trans b5;have G:bN (z::y1::y2::r2)=if r4=[]/\dn (u,us) ts=true then some ((m,n),(u,us),ts) else none:=by rw [G];show (bP r3).bind _=_;rw [es];rfl
 have F5:=F4.Uo b5 W4;obtain ⟨bq,bx,bb,a5,_⟩:=W5.ex;erw [a5,Ln];refine {p,r4,rfl,W5,λer=>?_,λer=>?_}
 rotate_left
 .ac_rfl;exact {_,rfl,h.e (by rw [G];exact if_neg λc=>er c.1) H5 S}
 ac_rfl;have aI:=cZ pr;have b6:ts.length<=3003:=by have:=CW es;omega
 refine {{_,SqL.of Xp},aK.lst (xs:=as.map V.ref) (SoI H5 ts) (λi τ ys H' I=>by rw [I.ys,NO,NO,ON];exact aS (by omega)) (λi τ ys H' I=>SqL.of (I.same _ _ Xp)) {{_,_,_,rfl},rfl,zj.refl _} ?_ ?_}
 .intro N i v τ ys H' hv I hN;obtain ⟨t1,t2,t3,rfl⟩:=I.ex;rw [Oe] at hv;obtain ⟨r,ax,rfl⟩:=Ou.mp hv;have hi:i<ts.length:=by rw [<- aI];exact (NU.mp ax).1
  have ak:ts[i]?=some ts[i]:=NL hi;have g1:=I.same _ _ (eX pr ax ak);refine {r,_,rfl,SqT.of g1,rfl,?_};ac_rfl;refine hN _ _ _ {{_,_,_,rfl},?_,I.same};rw [I.ys,OU,ak,OI,OI];rfl
 .intro τ ys H6 I D H7 n7;have ey:=I.ys;rw [NO,aI,Ob (NV _)] at ey;rw [ey] at n7;have J:zj H5 H7:=I.same.trans n7.same;have F7:=F5.same J;obtain ⟨b8,a9⟩:=F7.ob;erw [a9,Gg];refine {q4,a0,k4,u,us,rfl,F7,lv.1,lv.2,λl ns H8 s8 nl el pm so=>?_};have a7:=s8 _ _ n7.at_;erw [a7,el];refine {iW,iW,?_};rw [wt];by_cases hn:ts.map (·.1)=ns
  rotate_left
  .rw [if_pos (by rw [decide_eq_false hn];rfl)];refine {'d',h.e ?_ H8 (S.trans (.of (J.trans s8)))};rw [G];refine if_neg λc=>hn ?_;have c:ip (u,us) ts:=i5.mp c.2;exact nr c.2 so (c.1.nodup_iff.mpr dH) (pm.nodup_iff.mpr dH) λy=>by rw [c.1.mem_iff,pm.mem_iff]
  rw [if_neg (by rw [decide_eq_true hn];decide)];have ok:dn (u,us) ts=true:=by
   refine i5.mpr ?_;unfold ip;rw [hn];exact ⟨pm,so⟩
  obtain ⟨a8,q2⟩:=h.q m n u us ts (by rw [G];exact if_pos ⟨er,ok⟩);intro x dx H9 nI;have F8:=F7.same s8;have av:zj H5 H9:=(J.trans s8).trans nI.same;refine {x,q4,a0,k4,sl,dx,n,m+1,u,us,as,ts,rfl,nI.at_,F8.same nI.same,.inl (av _ _ Xp),Paired.J7 pr λr v e=>.inl (av _ _ e),a8,λfx b' k' d' a4 a3 _ _ _ _ st _=>{rfl,?_}};refine q2 x fx b' k' d' a4 (λc o nc e=>?_) st;have e8:=s8 _ _ (J _ _ (S _ _ nc e));exact a3 _ _ (zQ e8 nI.no) (nI.same _ _ e8)
end
theorem But.gone{p:Addr}(x:But p H H')(n:H p=none):zj H H':=λa o e=>x a o (λz=>by rw [<- z,e] at n;cases n) e
def z7(b:Str):Str:=OT b none (some (-1))
theorem uI{b:Str}(h:asc b=true):asc (z7 b)=true/\(z7 b).length<=b.length:=by
 unfold z7;by_cases z:0<(sg b).length
 .rw [ng z];refine {kI h λc hc=>List.dropLast_subset _ hc,?_};rw [fN,List.length_dropLast,zJ];omega
 .have e:b="":=fW (OH.mp (by omega));subst e;decide +kernel
noncomputable def rdZ(z:Str):Option ((Int×Int)×(Tab×List (Str×Tab))×List T3):=(dR z).bind λb=>bN (wds (z7 b))
section
variable {P:NW}{w:Oc}{K:Frag}{mg:Str->Option Value}{base:Heap}{A:zk}
structure MB(A:zk)(H:Hp)(z:Str)(Q:VK)(E:XK):Prop where
 a:asc z=true
 l:z.length<=100000
 w:(wds (z7 (zK z))).length<=3003
 lv:∀YL u us r,(∀v∈YL,v∈wds (z7 (zK z)))->rdF YL=some ((u,us),r)->(uniq (aa u us)).length<64/\us.length<=4000
 q:∀m n u us ts,rdZ z=some ((m,n),(u,us),ts)->ia ts/\∀x fx b k d H',zj H H'->dU A H' x fx b k d u us ts n (m+1)->Q (.ref x) H'
 e:rdZ z=none->∀H',zj H H'->E (.ref A.ny) none H'
def lM(K:Frag)(A:zk):Sp:=λvs H Q E=>∃(v:V),vs=[v]/\((∃z,v = .str z/\MB A H z Q E)\/(∃t,TyX K H v t/\kitOne K t (.type "str")=some false/\E (.ref A.ny) none H))
theorem Bh:zy ["text","body"] WQ (zl lS):=fsc
theorem DD(F:Fun K V4 V4 lS f fd)(T:Txt K mg A)(YA:GF P w K mg base true 3 "body_of" WQ (vj K))(Ye:GC P w K mg base true 1 "Words" A.Words Wq (uW A))(YH:GX P w K mg base true 7 "state_of" WE (xD A)):zp P w K mg base (CXW P w) true 8 f fd WQ (lM K A):=by
 refine F.oW Bh λZW Ar outer s H vs Q E hr h=>?_;obtain ⟨v,rfl,h⟩:=h;have U:=eQ (cm:=true) (P:=P) (w:=w) (K:=K) (mg:=mg) (base:=base) (N:=["text","body"]) (qual:=V4) (scope:=zl lS) (f:=f) (cd:=ZW) (A:=Ar) (outer:=outer) (s:=s) (H:=H) (E:=E);refine {_,(W.h (zg (zr (i:=1) Bh.nd rfl (NZ rfl) (caD (zu YA hr rfl (clP (za (zb 0) zd)))))
   (zg (zL (tD (zF (clO eS) (clE (zb 1)) (clE aP) (zE _)))
   (zi (fb rfl U T.TV rfl T.TL (za zx zd)))
   zW)
   (zi (CN rfl rfl {rfl,rfl} T.q0 rfl T.sU (λGo Ex=>(zi (zw (cXD (fg wW YH hr rfl (clP (za (rP Ye hr rfl (za (cq cV (zb 1) ck (cn (kY mI zo))) zd)) zd))))))) U (λGo ea J=>by
   have hr:=hr.mark (v:=some (.ref ea));exact (zi (GO J T.TV rfl T.TL (za zx zd))))))))),?_}
 ac_rfl;rcases h with ⟨z,rfl,h⟩|⟨t,ht,hf,qe⟩
 rotate_left
 .refine {_,rfl,.inr {t,ht,hf,?_}};ac_rfl;exact {'d',qe}
 refine {_,rfl,.inl {z,rfl,h.a,h.l,λH1 s1=>?_}};cases hb:dR z with
 | none =>
  show eE false V.non V.non H1 _;ac_rfl;exact {'d',h.e (by unfold rdZ;rw [hb];rfl) H1 s1}
 | some b =>
  have Z:b=zK z:=by
   unfold dR at hb;split at hb
   .exact (OG.inj hb).symm
   .cases hb
  have eZ:rdZ z=bN (wds (z7 b)):=by unfold rdZ;rw [hb];rfl
  obtain ⟨a1,a2⟩:=nA h.a;rw [<- Z] at a1 a2;obtain ⟨c1,c2⟩:=uI a1;have hl:=h.l;have hw:=h.w;have hv:=h.lv;rw [<- Z] at hw hv;have es:OT b none (some (-1))=z7 b:=rfl;have eo:uQ (some b) = .str b:=rfl;rw [eo];erw [es];refine {ah (by omega),λx dx H2 G=>{x,dx,z7 b,rfl,G.at_,c1,by omega,by omega,λH3 b3 O=>{rfl,x,_,rfl,O,hw,hv,λm n u us ts e=>?_,λe H4 S=>?_}}}
  .obtain ⟨so,q⟩:=h.q m n u us ts (by rw [eZ];exact e);exact {so,λy fx b k d H4 S st=>q y fx b k d H4 (s1.trans ((((But.of G.same).trans b3).trans S).gone G.no)) st}
  .have s4:zj H1 H4:=(((But.of G.same).trans b3).trans S).gone G.no;exact {_,rfl,T.q0,T.af,λea oe na xo=>{'d',h.e (by rw [eZ];exact e) _ (λc o e=>by have e4:=s4 _ _ (s1 _ _ e);rw [zh (zQ e4 na)];exact e4)}}
abbrev mV:Stmt:=top 66
abbrev r8:Stmt:=top 67
abbrev mQ:Stmt:=top 68
def oB:L2.R2:=λx y H Q=>∃i j,x = .str i/\y = .str j/\Q (.bl (!(sg j).contains (sg i)[0]!)) H/\(sg i).length=1
theorem wR:L2.OpR X (PySem.compareOp .NotIn) oB:=Hq.weak λx y H Q h=>by
 obtain ⟨i,j,G,F,q,l⟩:=h;refine {i,j,G,F,?_};obtain ⟨c,hc⟩:=List.length_eq_one_iff.mp l;have z:i={#[c]}:=fW hc;rw [hc] at q;rw [z,xa];exact q
theorem IQ:oB (.str {#[c]}) (.str y) H Q=Q (.bl (!(sg y).contains c)) H:=by
 refine propext {λ⟨i,j,F,z,q,l⟩=>?_,λq=>{_,_,rfl,rfl,q,rfl}};injection F with F;injection z with z
 subst F z;exact q
structure KC(H:Hp)(z:Str)(y:List Nat)(i:Nat)(τ:L2.St)(ys:List V)(H':Hp):Prop where
 ex:∃t,τ=[t]
 ys:ys=(((sg z).take i).filter λc=>!y.contains c).map λc=>V.str {#[c]}
 same:H'=H
theorem Ca{l y:List Nat}:((l.filter λc=>!y.contains c).map λc=>V.str {#[c]}).length=0↔l.all (λc=>y.contains c)=true:=by
 rw [NO,OH,List.filter_eq_nil_iff,Ot];refine forall_congr' λc=>forall_congr' λ_=>?_;cases y.contains c<;>simp
theorem lV{l y:List Nat}:decide (((l.filter λc=>!y.contains c).map λc=>V.str {#[c]}).length=([]:List V).length)=l.all (λc=>y.contains c):=Qd.mpr (decide_eq_true_iff.trans Ca)
theorem Br(hz:z.length<=100000)(h:∀D H',New H D (.lst (((sg z).filter λc=>!(sg y).contains c).map λc=>V.str {#[c]})) H'->Q (.ref D) H'):aK (Its z) (cU 0) (rK (tOp oB (gw 0) (tC (V.str y)))) (gw 0) [none] H Q:=by
 refine aK.str (KC H z (sg y)) (λi O ys H' I=>?_) {{_,rfl},'z',rfl} ?_ ?_
 .rw [I.ys,NO];refine aS (Ol (Rf _ _) ?_);rw [ON,zJ];omega
 .intro N i c O ys H' hc I hN;obtain ⟨t,rfl⟩:=I.ex;erw [IQ];have S:(sg z)[i]?=some c:=by simpa [sg] using hc
  have G:(sg z).take (i+1)=(sg z).take i++[c]:=by rw [OU,S];rfl
  cases F:(sg y).contains c with
  | true =>
   show N _ ys H';exact hN _ _ _ {{_,rfl},by rw [I.ys,G,List.filter_append];simp only [Qv,List.filter_nil,F];simp,I.same}
  | false =>
   show N _ (ys++[_]) H';exact hN _ _ _ {{_,rfl},by rw [I.ys,G,List.filter_append];simp only [Qv,List.filter_nil,F];simp,I.same}
 .intro O ys H' I p H2 J;rw [I.ys,I.same,Ob (by rw [zJ];exact NV _)] at J;exact h p H2 J
def zZ(z:Str):Int:=(PL z).getD 0
theorem jy(h:PL z=some i):zZ z=i:=by unfold zZ;rw [h];rfl
theorem fS(z:Str)(ws:List Str):zG (z::ws)=if zH z=true then some (zZ z,ws) else none:=rfl
theorem kR:∀(n:Nat)(l:List Int)(ws:List Str),aY n l ws=if n<=ws.length/\(ws.take n).all zH=true then some (l++(ws.take n).map zZ,ws.drop n) else none
 | 0,l,ws=>by
  rw [if_pos {O9 _,'z'}];simp [aY]
 | n+1,l,[]=>by
  rw [if_neg (λh=>by have:=h.1;simp at this)];rfl
 | n+1,l,z::ws=>by
  have e:aY (n+1) l (z::ws)=(zG (z::ws)).bind λa=>aY n (l++[a.1]) a.2:=rfl;rw [e,fS];by_cases hz:zH z=true
  .rw [if_pos hz];show aY n (l++[zZ z]) ws=_;rw [kR n];simp [hz]
  .rw [if_neg hz,if_neg (λh=>hz (by have:=h.2;simp at this;exact this.1))];rfl
theorem Bq:∀(l:List Nat)(a:Nat),a<=l.foldl (λZZ c=>ZZ*10+(c-48)) a
 | [],_=>NV _
 | c::l,a=>Ol (by omega) (Bq l (a*10+(c-48)))
theorem pA(h:zH z=true):(zZ z=0)↔z="0":=by
 refine {λe=>OP λhz=>?_,λe=>by subst e;decide +kernel};unfold zH aG at h;rw [Od,Od,Od,decide_eq_true_eq,decide_eq_true_eq,decide_eq_false hz,Bool.false_or] at h;obtain ⟨⟨⟨h1,h2⟩,h3⟩,h4⟩:=h;have hd:∀c∈sg z,48<=c/\c<=57:=by
  intro c hc;have:=Ot.mp h3 c hc;have hf:sg FIG=[48,49,50,51,52,53,54,55,56,57]:=by decide
  rw [hf] at this;have:=Pz.mp this;simp only [NT,Oh,or_false] at this;omega
 obtain ⟨c,cs,F⟩:∃c cs,sg z=c::cs:=RW (by rw [zJ];omega);have J:=jy (intText_digits (x:=z) hd (λe=>by rw [show sg z=[] from e] at F;cases F) 'l');have hc:c≠48:=λx=>by
  rw [F,x] at h4;have h4:(!decide (tx [48]="0"))=true:=h4;exact absurd h4 'd'
 have b:=hd c (by rw [F];exact NX ..);rw [J] at e;have G:(sg z).foldl (λZZ c=>ZZ*10+(c-48)) 0=0:=by exact_mod_cast e
 rw [F] at G;have:=Bq cs (0*10+(c-48));have G:cs.foldl (λZZ c=>ZZ*10+(c-48)) (0*10+(c-48))=0:=G;omega
theorem lh(y z:Str)(ws:List Str):bw y (z::ws)=if ao z=true/\y.cps.toList<z.cps.toList then some (z,ws) else none:=by
 have e:iR (z::ws)=if ao z=true then some (z,ws) else none:=rfl;unfold bw;rw [e];by_cases hz:ao z=true
 .by_cases F:y.cps.toList<z.cps.toList
  .rw [if_pos hz,if_pos ⟨hz,F⟩];exact if_pos F
  .rw [if_pos hz,if_neg λh=>F h.2];exact if_neg F
 .rw [if_neg hz,if_neg λh=>hz h.1]
def bA(z:Str):V:=if zH z=true then .int (zZ z) else .non
def iU:List Str->V|[]=>.non|z::_=>bA z
def pO:Sp:=λvs H Q _=>∃z,vs=[.str z]/\asc z=true/\z.length<=100000/\∀H',zj H H'->Q (bA z) H'
theorem FU:zy WO WO (zl mV):=fsc
theorem Ic:bO { kind:=.function,names:=[(NS ".0",.local),(NS "_law_sign",.local)],isGenerator:=false,isCoroutine:=false,more:=[] } (zl mV).names WO ["_law_sign"] [none]=true:=by decide +kernel
theorem GD:(["_law_sign"]:List Str).Nodup:=by decide +kernel
theorem EX(F:Fun K Wa Wa mV f fd)(T:Txt K mg A):zp P w K mg base CX0 true 1 f fd WO pO:=by
 refine F.o FU λZW Ar outer s H vs Q E hr h=>?_;obtain ⟨z,rfl,ha,hz,q⟩:=h;have O:_<cLine:=Oy (zV hr);refine {_,(W.h (zg (zL (cg (cG (tD (zF (clO (oE (bS O))) (clE (zb 0)) (clE zx) (zE _))) (cG (tD (zF (clO (oI0 gB)) (clE (zT dG rfl T.sL OA (za (zb 0) zd))) (clE zo) (zE _))) (eK (tD (zF (clO (lE O)) (clE (cY (λ_=>rfl) (aA.of Ic) (sO (zb 0)) (λ_ _ _ _ _=>(zO (i:=0) GD rfl (NZ rfl))) (λ_ _ _ _ _=>(Aq (tD (zF (clO wR) (clE (zb 0)) (clE zx) rfl)))) (λ_ _ _ _ _=>(zb 0)))) (clE (ar zd)) (zE _)))))))
   (zi (zw aP))
   zW)
   (zg (zL (cg (fJ (tD (zF (clO (oE (bS O))) (clE (aN hU (zb 0) zo (λ_ _=>rfl))) (clE zx) (zE _))) (iI (tD (zF (clO (oE (g7 O))) (clE (zb 0)) (clE zx) (zE _))))))
   (zi (zw aP))
   zW)
   (zi (zw (bc y9 rfl T.aL boot_int (za (zb 0) zd))))))),?_}
 erw [ah (Ol hz 'd')];have no:zH z=false->∀H',zj H H'->Q .non H':=λe H' s=>by
  have:=q H' s;unfold bA at this;rw [e] at this;exact this
 have G:zH z=true->∀H',zj H H'->z.length<=640/\∃x,PL z=some x/\Q (.int x) H':=λe H' s=>by
  obtain ⟨g1,i,g2,_⟩:=qo e;refine {g1,i,g2,?_};have:=q H' s;unfold bA at this;rw [if_pos e,jy g2] at this;exact this
 refine aF (λh1=>?_) λh1=>aF (λh2=>?_) λh2=>{ha,Br (y:=FIG) hz λD H1 Z=>{'d',λp H2 S _=>?_}}
 .refine no ?_ H (zj.refl _);have:z="":=of_decide_eq_true h1;rw [this];decide
 .refine no ?_ H (zj.refl _);have:=of_decide_eq_true h2;unfold zH aG;rw [decide_eq_false (show ¬ (z.length:Int)<=18 by omega),Tw];rfl
 .have s2:zj H H2:=Z.same.trans S.same;refine {_,_,_,_,rfl,rfl,S.same _ _ Z.at_,S.at_,.inr rfl,?_};have hl:1<=z.length:=by
   refine OP λc=>h1 (decide_eq_true ?_);exact fW (OH.mp (by rw [zJ];omega))
  have U:(z.length:Int)<=18:=by
   refine OP λc=>h2 (decide_eq_true (by omega))
  have em:aG z FIG 18=(sg z).all λc=>(sg FIG).contains c:=by
   unfold aG;rw [decide_eq_true (show 1<=(z.length:Int) by omega),decide_eq_true U];rfl
  by_cases hb:((sg z).all λc=>(sg FIG).contains c)=true
  .rw [if_pos rfl,lV,hb];ac_rfl;have J:zH z=(decide (z="0") || !decide (tx ((sg z).take 1)="0")):=by unfold zH;rw [em,hb];rfl
   obtain ⟨c,cs,ec⟩:∃c cs,sg z=c::cs:=RW (by rw [zJ];exact hl);rw [ec] at J;refine {c,?_,aF (λh3=>aF (λh4=>?_) λh4=>?_) λh3=>?_}
   .show atI (sg z) 0=_;rw [ec];exact fT (j:=0) rfl
   .refine no ?_ H2 s2;have h3:decide (tx (take 1 (c::cs))="0")=true:=h3;have h4:decide (z="0")=false:=by simpa using h4
    rw [J,h3,h4];rfl
   .refine G ?_ H2 s2;have h4:decide (z="0")=true:=by simpa using h4
    rw [J,h4];rfl
   .refine G ?_ H2 s2;have h3:decide (tx (take 1 (c::cs))="0")=false:=Pu.mpr h3;rw [J,h3];simp
  .rw [if_pos rfl,lV,Pu.mpr hb];ac_rfl;exact no (by unfold zH;rw [em,Pu.mpr hb];rfl) H2 s2
structure WL(H:Hp)(l:Addr)(ws:List Str):Prop where
 at_:H l=some (.lst (ws.map V.str))
 wd:∀z∈ws,asc z=true/\z.length<=100000
 few:ws.length<=3003
theorem WL.same(h:WL H l ws)(s:zj H H'):WL H' l ws:={s _ _ h.at_,h.wd,h.few}
theorem WL.tail(h:WL H l (z::ws)):WL (upd H l (.lst (ws.map V.str))) l ws:={zt,λy F=>h.wd y (NR _ F),Nat.le_of_succ_le h.few}
def mJ:Sp:=λvs H Q _=>∃(l:Addr)(ws:List Str),vs=[.ref l]/\WL H l ws/\∀H',But l H H'->WL H' l ws.tail->Q (iU ws) H'
theorem CT:zy XS XS (zl r8):=fsc
theorem Mp(F:Fun K Wc Wc r8 f fd)(T:Txt K mg A)(S:GF P w K mg base true 1 Wa WO pO):zp P w K mg base CX0 true 2 f fd XS mJ:=by
 refine F.o CT λZW Ar outer s H vs Q E hr h=>?_;obtain ⟨l,ws,rfl,J,q⟩:=h;have U:_<cLine:=Oy (zV hr);refine {_,(W.h (zg (zL (tD (zF (clO (oU U)) (clE (zb 0)) (clE (ar zd)) (zE _)))
   (zi (zw aP))
   zW)
   (zi (zw (caD (zu S hr rfl (clP (za (i9 (zb 0) zo) zd)))))))),?_}
 have hl:=J.at_;ac_rfl;refine {'d',λp H2 G _=>{_,G.same _ _ hl,_,G.at_,.inr rfl,?_}};rw [NO];cases ws with
 | nil=>rw [if_pos 'z'];exact q H2 (.of G.same) (J.same G.same)
 | cons z ws =>
  rw [if_neg 'z'];obtain ⟨g1,Z⟩:=J.wd z (NX ..);exact {{_,G.same _ _ hl},_,0,rfl,G.same _ _ hl,_,rfl,z,rfl,g1,Z,λH3 O=>q H3 (λc o nc e=>O _ _ (by rw [zh nc];exact G.same _ _ e)) ((WL.tail (J.same G.same)).same O)}
def nmO:List Str->Str|[]=>"" | z::_=>if ao z=true then z else ""
def nh:Sp:=λvs H Q _=>∃(l:Addr)(ws:List Str),vs=[.ref l]/\WL H l ws/\∀H',But l H H'->WL H' l ws.tail->Q (.str (nmO ws)) H'
theorem xK:zy ["_law_words","_law_name_here"] XS (zl mQ):=fsc
theorem Ea:bO { kind:=.function,names:=[(NS ".0",.local),(NS "_law_sign",.local)],isGenerator:=false,isCoroutine:=false,more:=[] } (zl mQ).names ["_law_words","_law_name_here"] ["_law_sign"] [none]=true:=by decide +kernel
theorem Lk:(["_law_sign"]:List Str).Nodup:=by decide +kernel
theorem IH(F:Fun K VR VR mQ f fd)(T:Txt K mg A):zp P w K mg base CX0 true 1 f fd XS nh:=by
 refine F.o xK λZW Ar outer s H vs Q E hr h=>?_;obtain ⟨l,ws,rfl,O,q⟩:=h;have hu:_<cLine:=Oy (zV hr);refine {_,(W.h (zg (zL (tD (zF (clO (oU hu)) (clE (zb 0)) (clE (ar zd)) (zE _)))
   (zi (zw zx))
   zW)
   (zg (zr (i:=1) xK.nd rfl (NZ rfl) (i9 (zb 0) zo))
   (zg (zL (cg (cG (tD (zF (clO (oI0 gB)) (clE (zT dG rfl T.sL OA (za (zb 1) zd))) (clE zo) (zE _))) (eK (tD (zF (clO (lE hu)) (clE (cY (λ_=>rfl) (aA.of Ea) (sO (zb 1)) (λ_ _ _ _ _=>(zO (i:=0) Lk rfl (NZ rfl))) (λ_ _ _ _ _=>(Aq (tD (zF (clO wR) (clE (zb 0)) (clE zx) rfl)))) (λ_ _ _ _ _=>(zb 0)))) (clE (ar zd)) (zE _))))))
   (zi (zw zx))
   zW)
   (zi (zw (zb 1))))))),?_}
 have hl:=O.at_;ac_rfl;refine {'d',λp H2 G _=>{_,G.same _ _ hl,_,G.at_,.inr rfl,?_}};rw [NO];cases ws with
 | nil=>rw [if_pos 'z'];exact q H2 (.of G.same) (O.same G.same)
 | cons z ws =>
  rw [if_neg 'z'];obtain ⟨g1,g2⟩:=O.wd z (NX ..);have W3:=WL.tail (O.same G.same);have b3:But l H (upd H2 l (.lst (ws.map V.str))):=λc o U e=>by rw [zh U];exact G.same _ _ e
  refine {{_,G.same _ _ hl},_,0,rfl,G.same _ _ hl,_,rfl,?_};erw [ah (Ol g2 'd')];have Z:∀(y:Str)(H4:Hp),zj (upd H2 l (.lst (ws.map V.str))) H4->nmO (z::ws)=y->Q (.str y) H4:=λy H4 J e=>by
   rw [<- e];exact q H4 (λc o U e=>J _ _ (b3 _ _ U e)) (W3.same J)
  refine aF (λh1=>?_) λh1=>{g1,Br (y:=LET) g2 λD H3 n3=>{'d',λp2 H4 S _=>{_,_,_,_,rfl,rfl,S.same _ _ n3.at_,S.at_,.inr rfl,?_}}}
  .refine Z _ _ (zj.refl _) (if_neg λe=>?_);have:=of_decide_eq_true h1;unfold ao aG at e;rw [Od,Od,decide_eq_true_eq,decide_eq_true_eq] at e;omega
  .have J:=n3.same.trans S.same;have h6:(z.length:Int)<=6:=OP λc=>h1 (decide_eq_true (by omega));by_cases hb:((sg z).all λc=>(sg LET).contains c)=true
   .rw [if_pos rfl,lV,hb];ac_rfl;refine Z _ _ J ?_;show (if ao z=true then z else "")=z;by_cases ak:1<=z.length
    .rw [if_pos];unfold ao aG;rw [decide_eq_true (show 1<=(z.length:Int) by omega),decide_eq_true h6];exact hb
    .have e:z="":=fW (OH.mp (by rw [zJ];omega));rw [e];split<;>rfl
   .rw [if_pos rfl,lV,Pu.mpr hb];ac_rfl;refine Z _ _ J (if_neg λe=>hb ?_);unfold ao aG at e;rw [Od] at e;exact e.2
abbrev k9:Stmt:=top 69
theorem IB(c:Nat)(u:Tab)(y z x:Str)(ws:List Str):ai (c+1) u y (z::x::ws)=if ao z=true/\y.cps.toList<z.cps.toList then (if zH x=true/\x≠"0" then (if (zZ x).toNat<=ws.length/\(ws.take (zZ x).toNat).all zH=true then ai c (zA u z ((ws.take (zZ x).toNat).map zZ)) z (ws.drop (zZ x).toNat) else none) else none) else none:=by
 have e:ai (c+1) u y (z::x::ws)=(bw y (z::x::ws)).bind λa=>(zG a.2).bind λb=>if b.1=0 then none else (aY b.1.toNat [] b.2).bind λd=>ai c (zA u a.1 d.1) a.1 d.2:=rfl;rw [e,lh];by_cases h1:ao z=true/\y.cps.toList<z.cps.toList
 .rw [if_pos h1,if_pos h1];show (zG (x::ws)).bind _=_;rw [fS];by_cases h2:zH x=true
  .rw [if_pos h2];show (if zZ x=0 then none else _)=_;by_cases h3:x="0"
   .rw [if_pos ((pA h2).mpr h3),if_neg λh=>h.2 h3]
   .rw [if_neg (λz=>h3 ((pA h2).mp z)),if_pos ⟨h2,h3⟩];show (aY (zZ x).toNat [] ws).bind _=_;rw [kR];split<;>rfl
  .rw [if_neg h2,if_neg λh=>h2 h.1];rfl
 .rw [if_neg h1,if_neg h1];rfl
structure Md2(H0 H:Hp)(d:Addr)(t:Tab):Prop where
 ex:∃kvs,H d=some (.dK (sk kvs))/\Dct (λv (l:List Int)=>∃a,v = .ref a/\H a=some (.lst (l.map V.int))/\H0 a=none) kvs t
 no:H0 d=none
theorem Md2.same{d:Addr}{t:Tab}(h:Md2 z H d t)(s:zj H H'):Md2 z H' d t:=let ⟨kvs,e,dc⟩:=h.ex;{{kvs,s _ _ e,dc.imp λv l ⟨a,e,hp,n⟩=>{a,e,s _ _ hp,n}},h.no}
theorem Md2.upd{F H:Hp}{d c:Addr}{t:Tab}{ks:List (Key×V)}{o:HO}(h:Md2 F H d t)(hc:H c=some (.dK ks))(n:d≠c):Md2 F (upd H c o) d t:=let ⟨kvs,e,dc⟩:=h.ex;{{kvs,by rw [zh n];exact e,dc.imp λv l ⟨a,e,hp,n⟩=>{a,e,by rw [zh (λz=>by rw [z,hc] at hp;cases hp)];exact hp,n}},h.no}
theorem Md2.tr{d l:Addr}{t:Tab}(h:Md2 F H d t)(s:But l H H')(hl:F l≠none):Md2 F H' d t:=let ⟨kvs,e,dc⟩:=h.ex;{{kvs,s _ _ (λz=>hl (z ▸ h.no)) e,dc.imp λv x ⟨a,e,hp,n⟩=>{a,e,s _ _ (λz=>hl (z ▸ n)) hp,n}},h.no}
theorem iM(h:zG ws=none):iU ws = .non:=by
 cases ws with
 | nil=>rfl
 | cons z ws =>
  rw [fS] at h;show bA z=_;unfold bA;split at h
  .cases h
  .rename_i hz;rw [if_neg hz]
theorem iH{ws r:List Str}(h:zG ws=some (N,r)):iU ws = .int N/\ws.tail=r/\0<=N/\N<10 ^ 18:=by
 obtain ⟨z,rfl⟩:=fI h;rw [fS] at h;split at h
 .rename_i hz;injection h with h;injection h with eN _
  obtain ⟨_,i0,F,J,G⟩:=qo hz;rw [jy F] at eN;refine {?_,rfl,by omega,by omega};show bA z=_;unfold bA;rw [if_pos hz,jy F,eN]
 .cases h
theorem xB:∀{n:Nat}{t u:Tab}{y:Str}{ws r:List Str},ai n t y ws=some (u,r)->n+r.length<=ws.length
 | 0,_,_,_,_,_,h=>by injection h with h;injection h with _ h;rw [h];omega
 | n+1,t,u,y,ws,r,h=>by
  obtain ⟨⟨z,r1⟩,e,g⟩:=bind_some h;obtain ⟨⟨i,r2⟩,G,g⟩:=bind_some g;have g:(if i=0 then none else (aY i.toNat [] r2).bind λc=>ai n (zA t z c.1) z c.2)=some (u,r):=g;split at g
  .cases g
  .obtain ⟨⟨l,U⟩,F,g⟩:=bind_some g;have J:=iG e;have W:=aZ G;have S:=oN F;have O:=xB g;simp only at *
   omega
theorem jw{ws r:List Str}(h:bw y ws=some (z,r)):ws=z::r/\ao z=true/\y.cps.toList<z.cps.toList:=by
 cases ws with
 | nil=>cases h
 | cons v ws =>
  rw [lh] at h;split at h
  .rename_i F;injection h with h;injection h with h1 h2
   subst h1 h2;exact {rfl,F.1,F.2}
  .cases h
theorem wz(h:bw y ws=none): ¬ y.cps.toList<(nmO ws).cps.toList:=by
 have F : ¬ y.cps.toList<("":Str).cps.toList:=by
  have:("":Str).cps.toList=[]:=by decide +kernel
  rw [this];exact List.not_lt_nil _
 cases ws with
 | nil=>exact F
 | cons z ws =>
  rw [lh] at h;show ¬ _<(if ao z=true then z else "").cps.toList;split at h
  .cases h
  .rename_i J;split
   .rename_i hz;exact λG=>J ⟨hz,G⟩
   .exact F
theorem tO{r:List Str}(h:r.all zH=true):r.map bA=(r.map zZ).map V.int:=by
 rw [PK];refine Pd λz hz=>?_;have:=Ot.mp h z hz;show bA z=_;unfold bA;rw [if_pos this];rfl
theorem Ax{r:List Str}:(r.map bA).all ae=true:=by
 rw [List.all_map,Ot];intro z _;show ae (bA z)=true;unfold bA;split<;>rfl
theorem yn{r:List Str}:inV .non (r.map bA) = !r.all zH:=by
 unfold inV;rw [any_map,Qd];simp only [List.any_eq_true,Function.comp,RC,List.all_eq_false];refine exists_congr λz=>and_congr_right λ_=>?_;unfold bA;split
 .rename_i h;simp [h,eqV]
 .rename_i h;simp [h,eqV]
theorem j8{α:Type}:dQ ([]:List (Str×α)) y:=λm hm=>nomatch hm
theorem Jk{α:Type}(r:List α)(i:Nat):(r.drop i).tail=r.drop (i+1):=by rw [List.tail_drop]
structure RfI(H:Hp)(l d:Addr)(N:Int)(R:Option (Tab×List Str))(i:Nat)(σ:L2.St)(H':Hp):Prop where
 ex:∃ws u y t1 t2 t3,σ=[some (V.ref l),some (.ref d),some (.str y),some (.int N),t1,t2,t3]/\WL H' l ws/\Md2 H H' d u/\dQ u y/\ai (N.toNat-i) u y ws=R/\u.length+ws.length<=3003
 but:But l H H'
structure TkC(H:Hp)(l:Addr)(r:List Str)(i:Nat)(τ:L2.St)(ys:List V)(H':Hp):Prop where
 ex:∃t,τ=[t,some (V.ref l)]
 ys:ys=(r.take i).map bA
 wl:WL H' l (r.drop i)
 but:But l H H'
def qI:Sp:=λvs H Q _=>∃(l:Addr)(ws:List Str),vs=[.ref l]/\WL H l ws/\(∀u r,rdT ws=some (u,r)->∀d H',But l H H'->WL H' l r->Md2 H H' d u->Q (.ref d) H')/\(rdT ws=none->∀z H',But l H H'->WL H' l z->Q .non H')
theorem fZ:zy WM XS (zl k9):=fsc
theorem MV:bO { kind:=.function,names:=[(NS ".0",.local),(NS "_law_j",.local),(NS "_law_taken",.globalImplicit),(NS "_law_words",.free)],isGenerator:=false,isCoroutine:=false,more:=[] } (zl k9).names WM ["_law_j","_law_words"] [none,some 0]=true:=by decide +kernel
theorem MQ:(["_law_j","_law_words"]:List Str).Nodup:=by decide +kernel
theorem BX(F:Fun K We We k9 f fd)(T:Txt K mg A)(Z1:GF P w K mg base true 2 Wc XS mJ)(Zy:GF P w K mg base true 1 VR XS nh):zp P w K mg base CX0 true 3 f fd XS qI:=by
 refine F.o fZ λZW Ar outer s H vs Q E hr h=>?_;obtain ⟨l,ws,rfl,hW,q,S⟩:=h;have hu:_<cLine:=Oy (zV hr);refine {_,(W.h (zg (zr (i:=1) fZ.nd rfl (NZ rfl) eG)
   (zg (zr (i:=2) fZ.nd rfl (NZ rfl) zx)
   (zg (zr (i:=3) fZ.nd rfl (NZ rfl) (caD (zu Z1 hr rfl (clP (za (zb 0) zd)))))
   (zg (zL (cg (cG (tD (zF (clO eS) (clE (zb 3)) (clE aP) (zE _))) (eK (tD (zF (clO (oI0 gB)) (clE (zb 3)) (clE (zT dG rfl T.sL OA (za (zb 0) zd))) (zE _))))))
   (zi (zw aP))
   zW)
   (zg (bI PN.never (λ_=>rfl) (dm rfl T.ri (za (zb 3) zd)) (zO (i:=4) fZ.nd rfl (NZ rfl))
   (zg (zr (i:=5) fZ.nd rfl (NZ rfl) (caD (zu Zy hr rfl (clP (za (zb 0) zd)))))
   (zg (zr (i:=6) fZ.nd rfl (NZ rfl) (caD (zu Z1 hr rfl (clP (za (zb 0) zd)))))
   (zg (zL (cg (cG (tD (zF (clO qE) (clE (zb 5)) (clE (zb 2)) (zE _))) (cG (tD (zF (clO eS) (clE (zb 6)) (clE aP) (zE _))) (cG (tD (zF (clO (oI0 mL)) (clE (zb 6)) (clE zo) (zE _))) (eK (tD (zF (clO (oI0 gB)) (clE (zb 6)) (clE (zT dG rfl T.sL OA (za (zb 0) zd))) (zE _))))))))
   (zi (zw aP))
   zW)
   (zg (cO (cY (λ_=>rfl) (aA.of MV) (dm rfl T.ri (za (zb 6) zd)) (λ_ _ _ _ _=>(zO (i:=0) MQ rfl (NZ rfl))) (λ_ _ _ _ _=>di) (λ_ _ _ _ _=>(caD (zu Z1 hr rfl (clP (za (zb 1) zd)))))) (cN (zb 1) (zb 5) (fc (zV hr))))
   (zg (zL (tD (zF (clO (uJ hu)) (clE aP) (clE (aN (iD (zV hr)) (zb 1) (zb 5) (λ_ _=>rfl))) rfl))
   (zi (zw aP))
   zW)
   (zi (zr (i:=2) fZ.nd rfl (NZ rfl) (zb 5)))))))))
   (zi (zw (zb 1))))))))),?_}
 ac_rfl;refine λd H1 n1=>{l,ws,rfl,hW.same n1.same,λH2 b2 W2=>?_};have Xo:H l≠none:=λz=>by rw [hW.at_] at z;cases z
 have ak:=(But.of n1.same).trans b2;cases e0:zG ws with
 | none =>
  rw [iM e0];ac_rfl;exact S (by unfold rdT;rw [e0];rfl) _ H2 ak W2
 | some c =>
  obtain ⟨N,r1⟩:=c;obtain ⟨et,U,N0,N1⟩:=iH e0;rw [U] at W2;have eT:rdT ws=ai N.toNat [] "" r1:=by unfold rdT;rw [e0];rfl
  rw [eT] at q S;have h2:=W2.at_;have f2:=W2.few;rw [et];erw [h2];rw [NO];refine aF (λh1=>?_) λh1=>{by omega,by omega,az.rng (RfI H l d N (ai N.toNat [] "" r1)) {{r1,[],"",_,_,_,rfl,W2,{{[],b2 _ _ (λz=>Xo (z ▸ n1.no)) n1.at_,.nil},n1.no},j8,rfl,by simp;omega},ak} ?_ ?_}
  .refine S ?_ _ H2 ak W2;have h1:=of_decide_eq_true h1;cases e:ai N.toNat [] "" r1 with
   | none=>rfl
   | some c=>have:=xB (u:=c.1) (r:=c.2) e;omega
  .rintro i σ H3 hi ⟨⟨XD,u,y,t1,t2,t3,rfl,W3,md,up,hR,hm⟩,bt⟩;obtain ⟨c,hc⟩:∃c,N.toNat-i=c+1:={N.toNat-i-1,by omega};rw [hc] at hR;ac_rfl;refine {l,XD,rfl,W3,λH4 b4 W4=>?_};ac_rfl;refine {l,XD.tail,rfl,W4,λH5 b5 G=>?_};have Z:=b4.trans b5;have f5:=G.few;have h5:=G.at_;erw [h5];cases eL:bw y XD with
   | none =>
    rw [decide_eq_false (wz eL)];ac_rfl;exact S (by rw [<- hR];unfold ai;rw [eL];rfl) _ H5 (bt.trans Z) G
   | some p =>
    obtain ⟨n,r⟩:=p;obtain ⟨rfl,hn,hy⟩:=jw eL;have en:nmO (n::r)=n:=if_pos hn;rw [en,decide_eq_true hy];have G:WL H5 l r.tail:=G;have J:((zG r).bind λb=>if b.1=0 then none else (aY b.1.toNat [] b.2).bind λd=>ai c (zA u n d.1) n d.2)=ai N.toNat [] "" r1:=by rw [<- hR];show _=(bw y (n::r)).bind _;rw [eL];rfl
    cases eC:zG r with
    | none =>
     have ec:iU (n::r).tail = .non:=iM eC;rw [ec];ac_rfl;exact S (by rw [<- J,eC];rfl) _ H5 (bt.trans Z) G
    | some p =>
     obtain ⟨C,r2⟩:=p;obtain ⟨ec,U,C0,C1⟩:=iH eC;have ec:iU (n::r).tail = .int C:=ec;rw [U] at G;rw [ec];rw [eC] at J;have J:(if C=0 then none else (aY C.toNat [] r2).bind λd=>ai c (zA u n d.1) n d.2)=ai N.toNat [] "" r1:=J;have f2:=G.few;have h5:H5 l=some (.lst (r2.map V.str)):=G.at_;ac_rfl;refine aF (λk1=>?_) λk1=>{_,.inl h5,?_}
     .exact S (by rw [<- J];exact if_pos (by have:=of_decide_eq_true k1;omega)) _ H5 (bt.trans Z) G
     rw [NO];have k1 : ¬ C<1:=λz=>k1 (decide_eq_true z);rw [if_neg (by omega),kR] at J;ac_rfl;refine aF (λk2=>?_) λk2=>?_
     .have k2:=of_decide_eq_true k2;exact S (by rw [<- J,if_neg (by omega)];rfl) _ H5 (bt.trans Z) G
     have k2:C.toNat<=r2.length:=by have : ¬ (r2.length:Int)<C:=λz=>k2 (decide_eq_true z);omega
     ac_rfl;refine {by omega,by omega,aK.rng (TkC H5 l r2) (λj τ ys H6 I=>?_) {{_,rfl},'z',G,.of (zj.refl _)} ?_ ?_}
     .rw [I.ys,NO,ON];exact aS (by omega)
     .intro N' j τ ys H6 hj I hN;obtain ⟨t',rfl⟩:=I.ex;have ax:j<r2.length:=by omega
      ac_rfl;refine {l,r2.drop j,rfl,I.wl,λH7 b7 W7=>hN _ _ _ {{_,rfl},?_,by rw [<- Jk];exact W7,I.but.trans b7}};rw [I.ys,OU,NL ax,Qr ax,OI];rfl
     .intro τ ys H6 I D H7 O;have a0:=((md.tr Z Xo).tr I.but Xo).same O.same;obtain ⟨kvs,ed,dc⟩:=a0.ex;erw [ed];rw [OJ] at hm;have lr:=aZ eC;have ey:ys=(r2.take C.toNat).map bA:=I.ys;have av:But l H H6:=(bt.trans Z).trans I.but;have Dl:D≠l:=λz=>by have:=O.no;rw [z,I.wl.at_] at this;cases this
      have D0:H D=none:=by
       cases e:H D with
       | none=>rfl
       | some o=>have:=av _ _ Dl e;rw [O.no] at this;cases this
      have Dd:D≠d:=λz=>by
       obtain ⟨kv,e,_⟩:=((md.tr Z Xo).tr I.but Xo).ex;have:=O.no;rw [z,e] at this;cases this
      have dl:d≠l:=λz=>Xo (z ▸ md.no);refine {_,rfl,by rw [cH,dc.length];exact aS (by omega),_,.inl zt,.ref D,by rw [d6,bH,dD,if_pos rfl],?_};rw [d6];have hD:upd H7 d (.dK (sk (zA kvs n (V.ref D)))) D=some (.lst ((r2.take C.toNat).map bA)):=by rw [zh Dd,O.at_,ey]
      have bu:But l H (upd H7 d (.dK (sk (zA kvs n (V.ref D))))):=λc o nc e=>by rw [zh (zQ e n1.no)];exact O.same _ _ (av _ _ nc e)
      rw [An];refine {_,.inl hD,rfl,Ax,?_};rw [yn];cases hb:(r2.take C.toNat).all zH with
      | false =>
       ac_rfl;exact S (by rw [<- J,if_neg (λz=>by rw [hb] at z;cases z.2)];rfl) _ _ bu {by rw [zh dl.symm];exact (I.wl.same O.same).at_,I.wl.wd,I.wl.few}
      | true =>
       ac_rfl;rw [if_pos ⟨k2,hb⟩] at J;have W7:=I.wl.same O.same;have aI:∀(v:V)(x:List Int),(∃a,v=V.ref a/\H7 a=some (.lst (x.map V.int))/\H a=none)->∃a,v=V.ref a/\upd H7 d (.dK (sk (zA kvs n (V.ref D)))) a=some (.lst (x.map V.int))/\H a=none:=λv x ⟨a,e,h,n⟩=>{a,e,by rw [zh (λz=>by rw [z,ed] at h;cases h)];exact h,n};refine {{r2.drop C.toNat,zA u n ((r2.take C.toNat).map zZ),n,_,_,_,rfl,{by rw [zh dl.symm];exact W7.at_,W7.wd,W7.few},{{_,zt,(dc.put n (show ∃a,V.ref D=V.ref a/\H7 a=some (.lst (((r2.take C.toNat).map zZ).map V.int))/\H a=none from {D,rfl,by rw [O.at_,ey,tO hb],D0})).imp aI},n1.no},up.put hy,?_,?_},bu}
       .rw [<- J,show N.toNat-(i+1)=c from by omega];rfl
       .have:=gP (t:=u) (n:=n) (a:=(r2.take C.toNat).map zZ);rw [Qi];omega
  .rintro σ H3 ⟨⟨XD,u,y,t1,t2,t3,rfl,W3,md,up,hR,hm⟩,bt⟩;rw [RZ] at hR;ac_rfl;exact q u XD (by rw [<- hR];rfl) d H3 bt W3 md
abbrev rG:Stmt:=top 70
def gb(ws:List Str):Option (List (Str×Tab)×List Str):=(zG ws).bind λb=>rdK b.1.toNat [] "" b.2
structure Mk2(H0 H:Hp)(d:Addr)(ks:List (Str×Tab)):Prop where
 ex:∃kvs,H d=some (.dK (sk kvs))/\Dct (λv t=>∃d',v = .ref d'/\Md2 H0 H d' t/\d'≠d) kvs ks
 no:H0 d=none
theorem Mk2.same{d:Addr}(h:Mk2 z H d ks)(s:zj H H'):Mk2 z H' d ks:=let ⟨kvs,e,dc⟩:=h.ex;{{kvs,s _ _ e,dc.imp λv t ⟨d',e,m,n⟩=>{d',e,m.same s,n}},h.no}
theorem Mk2.tr{d l:Addr}(h:Mk2 F H d ks)(s:But l H H')(hl:F l≠none):Mk2 F H' d ks:=let ⟨kvs,e,dc⟩:=h.ex;{{kvs,s _ _ (λz=>hl (z ▸ h.no)) e,dc.imp λv x ⟨a,e,m,n⟩=>{a,e,m.tr s hl,n}},h.no}
theorem Md2.cu{d l:Addr}{t:Tab}(h:Md2 H1 H d t)(s:But l F H1)(hl:H1 l≠none):Md2 F H d t:=by
 have G:∀{a:Addr},H1 a=none->F a=none:=λ{a} n=>by
  cases e:F a with
  | none=>rfl
  | some o=>have:=s _ _ (λz=>hl (z ▸ n)) e;rw [n] at this;cases this
 obtain ⟨kvs,e,J⟩:=h.ex;exact {{kvs,e,J.imp λv x ⟨a,e,hp,n⟩=>{a,e,hp,G n}},G h.no}
theorem tL:∀{n:Nat}{ks us:List (Str×Tab)}{y:Str}{ws r:List Str},rdK n ks y ws=some (us,r)->n+r.length<=ws.length
 | 0,_,_,_,_,_,h=>by injection h with h;injection h with _ h;rw [h];omega
 | n+1,ks,us,y,ws,r,h=>by
  obtain ⟨⟨z,r1⟩,e,g⟩:=bind_some h;obtain ⟨⟨t,r2⟩,F,g⟩:=bind_some g;have G:=iG e;have J:=iC F;have g:rdK n (zA ks z t) z r2=some (us,r):=g;have O:=tL g;simp only at G J;omega
structure RhI(H:Hp)(l d:Addr)(N:Int)(R:Option (List (Str×Tab)×List Str))(i:Nat)(σ:L2.St)(H':Hp):Prop where
 ex:∃ws us y t1 t2 t3,σ=[some (V.ref l),some (.ref d),some (.str y),some (.int N),t1,t2,t3]/\WL H' l ws/\Mk2 H H' d us/\dQ us y/\rdK (N.toNat-i) us y ws=R/\us.length+ws.length<=3003
 but:But l H H'
def vH:Sp:=λvs H Q _=>∃(l:Addr)(ws:List Str),vs=[.ref l]/\WL H l ws/\(∀us r,gb ws=some (us,r)->∀d H',But l H H'->WL H' l r->Mk2 H H' d us->Q (.ref d) H')/\(gb ws=none->∀z H',But l H H'->WL H' l z->Q .non H')
theorem fV:zy ["_law_words","_law_found","_law_last","_law_many","_law_k","_law_name_here","_law_own"] XS (zl rG):=fsc
theorem Im(F:Fun K V1 V1 rG f fd)(T:Txt K mg A)(Z1:GF P w K mg base true 2 Wc XS mJ)(Zy:GF P w K mg base true 1 VR XS nh)(ZT:GF P w K mg base true 3 We XS qI):zp P w K mg base CX0 true 4 f fd XS vH:=by
 refine F.o fV λZW Ar outer s H vs Q E hr h=>?_;obtain ⟨l,ws,rfl,hW,q,Z⟩:=h;have hu:_<cLine:=Oy (zV hr);refine {_,(W.h (zg (zr (i:=1) fV.nd rfl (NZ rfl) eG)
   (zg (zr (i:=2) fV.nd rfl (NZ rfl) zx)
   (zg (zr (i:=3) fV.nd rfl (NZ rfl) (caD (zu Z1 hr rfl (clP (za (zb 0) zd)))))
   (zg (zL (cg (cG (tD (zF (clO eS) (clE (zb 3)) (clE aP) (zE _))) (eK (tD (zF (clO (oI0 gB)) (clE (zb 3)) (clE (zT dG rfl T.sL OA (za (zb 0) zd))) (zE _))))))
   (zi (zw aP))
   zW)
   (zg (bI PN.never (λ_=>rfl) (dm rfl T.ri (za (zb 3) zd)) (zO (i:=4) fV.nd rfl (NZ rfl))
   (zg (zr (i:=5) fV.nd rfl (NZ rfl) (caD (zu Zy hr rfl (clP (za (zb 0) zd)))))
   (zg (zr (i:=6) fV.nd rfl (NZ rfl) (caD (zu ZT hr rfl (clP (za (zb 0) zd)))))
   (zg (zL (cg (cG (tD (zF (clO qE) (clE (zb 5)) (clE (zb 2)) (zE _))) (eK (tD (zF (clO eS) (clE (zb 6)) (clE aP) (zE _))))))
   (zi (zw aP))
   zW)
   (zg (cO (zb 6) (cN (zb 1) (zb 5) (fc (zV hr))))
   (zi (zr (i:=2) fV.nd rfl (NZ rfl) (zb 5))))))))
   (zi (zw (zb 1))))))))),?_}
 ac_rfl;refine λd H1 S=>{l,ws,rfl,hW.same S.same,λH2 b2 W2=>?_};have Xo:H l≠none:=λz=>by rw [hW.at_] at z;cases z
 have U:=(But.of S.same).trans b2;cases e0:zG ws with
 | none =>
  rw [iM e0];ac_rfl;exact Z (by unfold gb;rw [e0];rfl) _ H2 U W2
 | some c =>
  obtain ⟨N,r1⟩:=c;obtain ⟨et,aI,N0,N1⟩:=iH e0;rw [aI] at W2;have eT:gb ws=rdK N.toNat [] "" r1:=by unfold gb;rw [e0];rfl
  rw [eT] at q Z;have h2:=W2.at_;have f2:=W2.few;rw [et];erw [h2];rw [NO];refine aF (λh1=>?_) λh1=>{by omega,by omega,az.rng (RhI H l d N (rdK N.toNat [] "" r1)) {{r1,[],"",_,_,_,rfl,W2,{{[],b2 _ _ (λz=>Xo (z ▸ S.no)) S.at_,.nil},S.no},j8,rfl,by simp;omega},U} ?_ ?_}
  .refine Z ?_ _ H2 U W2;have h1:=of_decide_eq_true h1;cases e:rdK N.toNat [] "" r1 with
   | none=>rfl
   | some c=>have:=tL (us:=c.1) (r:=c.2) e;omega
  .rintro i σ H3 hi ⟨⟨G,us,y,t1,t2,t3,rfl,W3,mk,up,hR,hm⟩,bt⟩;obtain ⟨c,hc⟩:∃c,N.toNat-i=c+1:={N.toNat-i-1,by omega};rw [hc] at hR;ac_rfl;refine {l,G,rfl,W3,λH4 b4 W4=>?_};ac_rfl;have XC:((bw y G).bind λa=>(rdT a.2).bind λe=>rdK c (zA us a.1 e.1) a.1 e.2)=rdK N.toNat [] "" r1:=by rw [<- hR];rfl
   refine {l,G.tail,rfl,W4,λu r eu d5 H5 b5 O ak=>?_,λeu a4 H5 b5 O=>?_}
   rotate_left
   .have Xv:=b4.trans b5;have Zn:rdK N.toNat [] "" r1=none:=by
     rw [<- XC];cases J:bw y G with
     | none=>rfl
     | some p =>
      obtain ⟨n,r⟩:=p;obtain ⟨rfl,_,_⟩:=jw J;show (rdT r).bind _=_;rw [show rdT r=none from eu];rfl
    ac_rfl;cases J:decide (y.cps.toList<(nmO G).cps.toList) with
    | false=>ac_rfl;exact Z Zn _ H5 (bt.trans Xv) O
    | true=>ac_rfl;exact Z Zn _ H5 (bt.trans Xv) O
   have Xv:=b4.trans b5;ac_rfl;cases J:bw y G with
   | none =>
    rw [decide_eq_false (wz J)];ac_rfl;exact Z (by rw [<- XC,J];rfl) _ H5 (bt.trans Xv) O
   | some p =>
    obtain ⟨n,r'⟩:=p;obtain ⟨rfl,hn,hy⟩:=jw J;have en:nmO (n::r')=n:=if_pos hn;have eu:rdT r'=some (u,r):=eu;rw [en,decide_eq_true hy];have a3:=(mk.tr b4 Xo).tr b5 Xo;obtain ⟨kvs,ed,dc⟩:=a3.ex;rw [OJ] at hm;have lr:=iC eu;erw [ed];have dl:d≠l:=λz=>Xo (z ▸ mk.no);have av:H4 l≠none:=λz=>by rw [W4.at_] at z;cases z
    have ax:Md2 H H5 d5 u:=ak.cu (bt.trans b4) av;have a0:d5≠d:=λz=>by
     obtain ⟨kv,e,_⟩:=(mk.tr b4 Xo).ex;have:=ak.no;rw [z,e] at this;cases this
    refine {_,rfl,by rw [cH,dc.length];exact aS (by omega),?_};rw [d6];refine {{r,zA us n u,n,_,_,_,rfl,{by rw [zh dl.symm];exact O.at_,O.wd,O.few},{{_,zt,(dc.put n (show ∃d',V.ref d5=V.ref d'/\Md2 H H5 d' u/\d'≠d from {d5,rfl,ax,a0})).imp λv t ⟨e',ev,m,nn⟩=>{e',ev,m.upd ed nn,nn}},S.no},up.put hy,?_,?_},λc o nc e=>by rw [zh (zQ e S.no)];exact (bt.trans Xv) _ _ nc e}
    .rw [<- XC,J,show N.toNat-(i+1)=c from by omega];show _=(rdT r').bind _;rw [eu];rfl
    .have:=gP (t:=us) (n:=n) (a:=u);omega
  .rintro σ H3 ⟨⟨G,us,y,t1,t2,t3,rfl,W3,mk,up,hR,hm⟩,bt⟩;rw [RZ] at hR;ac_rfl;exact q us G (by rw [<- hR];rfl) d H3 bt W3 mk
abbrev mj:Stmt:=top 65
abbrev lI:Stmt:=top 71
theorem xl{b:Str}(h:∃a,sg b=a++[32]):wds b=wds (z7 b)++[("":Str)]:=by
 obtain ⟨a,ha⟩:=h;have e:sg (z7 b)=a:=by
  unfold z7;rw [ng (by rw [ha];simp),aL,ha,Rm]
 rw [bL,bL,e,ha,gR (c:=32) [] a,OI];rfl
theorem Es(z:Str):zK z=""\/∃a,sg (zK z)=a++[32]:=by
 by_cases h:32∈sg z
 .obtain ⟨a,b,e,hb⟩:=iE 32 (sg z) h;exact .inr {a,by rw [i6 e hb,aL]}
 .left;unfold zK;rw [kU h];have:=gv (x:=z) (j:=0) (O9 _);rw [SZ] at this;exact this
theorem yX:aW xs none (some (-1))=xs.dropLast:=by
 have F:HT.sIx xs.length 0 none=0:=rfl;have z:HT.sIx xs.length xs.length (some (-1))=xs.length-1:=by
  unfold HT.sIx;simp only;split<;>omega
 unfold aW;rw [F,z,drop_zero,Nat.sub_zero,List.dropLast_eq_take]
theorem C3{α:Type}(a b c:α)(xs:List α):bK (a::b::c::xs)=a::bK xs:=by
 unfold bK;have e:thr (a::b::c::xs).length=0::(thr xs.length).map (· + 3):=by
  unfold thr;rw [show ((a::b::c::xs).length+2) / 3=(xs.length+2) / 3+1 by simp only [OJ];omega,List.range_succ_eq_map,Pi,PK,PK];congr 1
 rw [e,Q7,List.filterMap_map];rfl
theorem IV{α:Type}:bK ([]:List α)=[]:=by unfold bK;simp [thr]
def cy:List Str->List T3
 | a::b::c::r=>(zZ a,zZ b,zZ c)::cy r
 | _=>[]
theorem o8:∀(n:Nat)(ts:List T3)(r:List Str),r.length=3*n->aX n ts r=if r.all zH=true then some (ts++cy r,[]) else none
 | 0,ts,r,h=>by
  have:r=[]:=OH.mp (by omega);subst this;show some (ts,[])=_;simp [cy]
 | n+1,ts,r,h=>by
  match r,h with
  | a::b::c::r,h =>
   show ((zG (a::b::c::r)).bind λx=>(zG x.2).bind λy=>(zG y.2).bind λz=>aX n (ts++[(x.1,y.1,z.1)]) z.2)=_;rw [fS];by_cases ha:zH a=true
   .rw [if_pos ha];show ((zG (b::c::r)).bind λy=>(zG y.2).bind λz=>aX n (ts++[(zZ a,y.1,z.1)]) z.2)=_;rw [fS];by_cases hb:zH b=true
    .rw [if_pos hb];show ((zG (c::r)).bind λz=>aX n (ts++[(zZ a,zZ b,z.1)]) z.2)=_;rw [fS];by_cases hc:zH c=true
     .rw [if_pos hc];show aX n (ts++[(zZ a,zZ b,zZ c)]) r=_;rw [o8 n _ r (by simp only [OJ] at h;omega)];simp [ha,hb,hc,cy]
     .rw [if_neg hc,if_neg (by simp [hc])];rfl
    .rw [if_neg hb,if_neg (by simp [hb])];rfl
   .rw [if_neg ha,if_neg (by simp [ha])];rfl
  | [],h=>simp at h
  | [_],h=>simp at h;omega
  | [_,_],h=>simp at h;omega
theorem xS:∀(n:Nat)(r:List Str),r.length=3*n->bK (r.map zZ)=(cy r).map (·.1)
 | 0,r,h=>by
  have:r=[]:=OH.mp (by omega);subst this;exact IV
 | n+1,r,h=>by
  match r,h with
  | a::b::c::r,h =>
   show bK (zZ a::zZ b::zZ c::r.map zZ)=zZ a::(cy r).map (·.1);rw [C3,xS n r (by simp only [OJ] at h;omega)]
  | [],h=>simp at h
  | [_],h=>simp at h;omega
  | [_,_],h=>simp at h;omega
theorem EB{α β:Type}(f:α->β)(xs:List α):bK (xs.map f)=(bK xs).map f:=by
 unfold bK;rw [NO]
 induction thr xs.length with
 | nil=>rfl
 | cons k l z =>
  rw [Q7,Q7,z,Oe];cases xs[k]? <;> rfl
structure LmC(H:Hp)(z:Str)(i:Nat)(τ:L2.St)(ys:List V)(H':Hp):Prop where
 ex:∃t1 t2,τ=[t1,t2]
 ys:∃ks:List Int,ys=ks.map V.int/\ks.sum=(cR 1 ((sg z).take i):Nat)/\ks.length=i
 same:zj H H'
 le:i<=100000
theorem Hy:zy Xm Xm (zl mj):=fsc
theorem KW:bO { kind:=.function,names:=[(NS ".0",.local),(NS "_law_k",.local),(NS "_law_sign",.local),(NS "ord",.globalImplicit)],isGenerator:=false,isCoroutine:=false,more:=[] } (zl mj).names Xm ["_law_k","_law_sign"] [none,none]=true:=by decide +kernel
theorem Ap:(["_law_k","_law_sign"]:List Str).Nodup:=by decide +kernel
theorem FW(F:Fun K "_law_sum" "_law_sum" mj f fd)(T:Txt K mg A):zp P w K mg base CX0 true 1 f fd Xm jg:=by
 refine F.o Hy λZW Ar outer s H vs Q E hr h=>?_;obtain ⟨z,rfl,ha,hz,q⟩:=h;refine {_,(W.h (zi (zw (zD (oI fQ) (zT (Kj rfl) rfl T.bY PyProof.Rows.boot_sum (za (cY (λ_=>rfl) (aA.of KW) (CJ rfl T.TX (zb 0)) (λ_ _ _ _ _=>(uP (n:=2) (gsD (bz (zO (i:=0) Ap rfl (NZ rfl)) (gsD (bz (zO (i:=1) Ap rfl (NZ rfl)) gj)))))) (λ_ _ _ _ _=>di) (λ_ _ _ _ _=>(zD hJ (zD bh (zb 0) zo) (zT ya rfl T.bq boot_ord (za (zb 1) zd))))) zd)) zo)))),?_};ac_rfl;have U:z.cps.size<=100000:=hz;refine {ha,aK.aP (LmC H z) (λi S ys H' I=>?_) {{_,_,rfl},{[],rfl,by simp [cR],rfl},zj.refl _,by omega} ?_ ?_}
 .obtain ⟨ks,e,_,l⟩:=I.ys;rw [e,NO,l];exact aS (by have:=I.le;omega)
 .intro N i c p S ys H' hc I hp hN;obtain ⟨t1,t2,rfl⟩:=I.ex;obtain ⟨ks,e,es,l⟩:=I.ys;have G:(sg z)[i]?=some c:=by simpa [sg] using hc
  have hi:i<(sg z).length:=(NU.mp G).1;have O:i<100000:=by rw [zJ] at hi;exact Oi hi hz
  refine {p,_,rfl,SqT.of zt,rfl,?_};ac_rfl;have Xi:c<128:=by
   have h3:=OS G;rw [dS] at ha;simpa using Ot.mp ha c h3
  refine {rfl,.inl {by simp;omega,by simp;omega},hN _ _ _ {{_,_,rfl},{ks++[((i:Int)+1)*c],by rw [e,OI];rfl,?_,by simp [l]},I.same.trans λb o e=>by rw [zh (zQ e hp)];exact e,O}};rw [List.sum_append,es,OU,G,oq,ON,Sj (by omega)];simp [cR];rw [Int.mul_comm,Int.add_comm 1 (i:Int)]
 .intro S ys H1 I D H2 J;obtain ⟨ks,e,es,l⟩:=I.ys;rw [e] at J;erw [J.at_];refine {ks,rfl,'d',?_};have Z:ks.sum % 65521=cj z:=by
   rw [es];unfold cj;rw [Ob (by rw [zJ];exact NV _)];omega
  rw [Z];exact q H2 (I.same.trans J.same)
theorem wY{ws r:List Str}(h:rdT ws=some (u,r)):rdF ws=(gb r).map λc=>((u,c.1),c.2):=by
 unfold rdF gb;rw [h];show (zG r).bind _=_;cases zG r<;>rfl
theorem tN:∀{n:Nat}{ts us:List T3}{ws r:List Str},aX n ts ws=some (us,r)->r.length+3*n=ws.length
 | 0,ts,us,ws,r,h=>by injection h with h;injection h with h1 h2;rw [h2];rfl
 | n+1,ts,us,ws,r,h=>by
  obtain ⟨⟨a,r1⟩,G,g⟩:=bind_some h;obtain ⟨⟨b,r2⟩,S,g⟩:=bind_some g;obtain ⟨⟨c,J⟩,O,g⟩:=bind_some g;have z:=aZ G;have U:=aZ S;have F:=aZ O;have g:aX n (ts++[(a,b,c)]) J=some (us,r):=g;have W:=tN g;simp only at z U F;omega
theorem As:∀{n:Nat}{t u:Tab}{y:Str}{ws r:List Str},ai n t y ws=some (u,r)->(names t).Nodup->(names u).Nodup
 | 0,_,_,_,_,_,h,F=>by injection h with h;injection h with h1 h2;rw [h1] at F;exact F
 | n+1,t,u,y,ws,r,h,F=>by
  obtain ⟨⟨z,r1⟩,e,g⟩:=bind_some h;obtain ⟨⟨i,r2⟩,J,g⟩:=bind_some g;have g:(if i=0 then none else (aY i.toNat [] r2).bind λc=>ai n (zA t z c.1) z c.2)=some (u,r):=g;split at g
  .cases g
  .obtain ⟨⟨l,O⟩,G,g⟩:=bind_some g;exact As g (fC F)
theorem vE{ws r:List Str}(h:rdT ws=some (u,r)):(names u).Nodup:=by
 obtain ⟨⟨i,r1⟩,e,g⟩:=bind_some h;exact As g (by simp [names])
theorem pE:∀{n:Nat}{ks us:List (Str×Tab)}{y:Str}{ws r:List Str},rdK n ks y ws=some (us,r)->(names ks).Nodup->(∀p∈ks,(names p.2).Nodup)->(names us).Nodup/\∀p∈us,(names p.2).Nodup
 | 0,_,_,_,_,_,h,F,hp=>by injection h with h;injection h with h1 h2;rw [h1] at F hp;exact ⟨F,hp⟩
 | n+1,ks,us,y,ws,r,h,F,hp=>by
  obtain ⟨⟨z,r1⟩,e,g⟩:=bind_some h;obtain ⟨⟨t,r2⟩,G,g⟩:=bind_some g;refine pE g (fC F) λp J=>?_;rcases fi J with h|h
  .exact hp p h
  .rw [h];exact vE G
theorem Np{ws r:List Str}(h:gb ws=some (us,r)):(names us).Nodup/\∀p∈us,(names p.2).Nodup:=by
 obtain ⟨⟨i,r1⟩,e,g⟩:=bind_some h;exact pE g (by simp [names]) 'z'
theorem Aj{z:Str}(h : ¬ z="mark"):bN (z::ws)=none:=by unfold bN;exact if_neg h
theorem Dct.b5{α:Type}{R S:V->α->Prop}:∀{kvs:List (Str×V)}{t:List (Str×α)},Dct R kvs t->(∀p∈t,∀v,R v p.2->S v p.2)->Dct S kvs t
 | [],[],_,_=>.nil
 | _::_,_::_,.cons z h,f=>.cons {z.1,f _ (NX ..) _ z.2} (Dct.b5 h λp hp=>f p (NR _ hp))
structure NbC(H:Hp)(l:Addr)(r:List Str)(i:Nat)(τ:L2.St)(ys:List V)(H':Hp):Prop where
 ex:∃t,τ=[t]
 ys:ys=(r.take i).map bA
 same:zj H H'
def Bj:Sp:=λvs H Q _=>∃z,vs=[.str z]/\asc z=true/\z.length<=100000/\(wds (z7 (zK z))).length<=3003/\(∀F u us r,(∀v∈F,v∈wds (z7 (zK z)))->rdF F=some ((u,us),r)->(uniq (aa u us)).length<64/\us.length<=4000)/\∀H',zj H H'->Q (.bl (rdZ z).isSome) H'
theorem gy:zy WJ Xm (zl lI):=fsc
theorem B1:bO { kind:=.function,names:=[(NS ".0",.local),(NS "_law_word",.local),(NS "_law_number",.globalImplicit)],isGenerator:=false,isCoroutine:=false,more:=[] } (zl lI).names WJ WO [none]=true:=by decide +kernel
theorem DU:(WO:List Str).Nodup:=by decide +kernel
theorem My(F:Fun K VV VV lI f fd)(T:Txt K mg A)(Zq:GF P w K mg base true 1 "_law_sum" Xm jg)(Z1:GF P w K mg base true 2 Wc XS mJ)(ZT:GF P w K mg base true 3 We XS qI)(Zp:GF P w K mg base true 4 V1 XS vH)(ZK:GF P w K mg base true 1 Wa WO pO)(ZM:GF P w K mg base true 1 V3 WB sy):zp P w K mg base CX0 true 5 f fd Xm Bj:=by
 refine F.o gy λZW Ar outer s H vs Q E hr h=>?_;obtain ⟨z,rfl,ha,hz,hw,lv,q⟩:=h;have hu:_<cLine:=Oy (zV hr);refine {_,(W.h (zg (zr (i:=1) gy.nd rfl (NZ rfl) (cq cV (zb 0) ck (cn (zD bh (x9 (zb 0) zx) zo))))
   (zg (zr (i:=2) gy.nd rfl (NZ rfl) (cq cV (sN (zb 1) zx) ck (cn (kY mI zo))))
   (zg (zL (cg (cG (tD (zF (clO (oE (g7 hu))) (clE (zb 0)) (clE (zD bh (zD bh (zb 1) (bc dI rfl T.Hx QS (za (caD (zu Zq hr rfl (clP (za (zb 1) zd)))) zd))) zx)) (zE _))) (cG (tD (zF (clO (oU hu)) (clE (zb 2)) (clE (ar zd)) (zE _))) (eK (tD (zF (clO (oE (g7 hu))) (clE (i9 (zb 2) zo)) (clE zx) (zE _)))))))
   (zi (zw dA))
   zW)
   (zg (zL (cg (cG (tD (zF (clO eS) (clE (caD (zu Z1 hr rfl (clP (za (zb 2) zd))))) (clE aP) (zE _))) (eK (tD (zF (clO eS) (clE (caD (zu Z1 hr rfl (clP (za (zb 2) zd))))) (clE aP) (zE _))))))
   (zi (zw dA))
   zW)
   (zg (zr (i:=3) gy.nd rfl (NZ rfl) (caD (zu ZT hr rfl (clP (za (zb 2) zd)))))
   (zg (zL (tD (zF (clO eS) (clE (zb 3)) (clE aP) (zE _)))
   (zi (zw dA))
   zW)
   (zg (zr (i:=4) gy.nd rfl (NZ rfl) (caD (zu Zp hr rfl (clP (za (zb 2) zd)))))
   (zg (zr (i:=5) gy.nd rfl (NZ rfl) (caD (zu Z1 hr rfl (clP (za (zb 2) zd)))))
   (zg (zL (cg (cG (tD (zF (clO eS) (clE (zb 4)) (clE aP) (zE _))) (cG (tD (zF (clO eS) (clE (zb 5)) (clE aP) (zE _))) (eK (tD (zF (clO (oE (g7 hu))) (clE (zT dG rfl T.sL OA (za (zb 2) zd))) (clE (zD hJ zo (zb 5))) (zE _)))))))
   (zi (zw dA))
   zW)
   (zg (Jm (i0:=6) gy.nd rfl (NZ rfl) (λ_=>rfl) (aA.of B1) (liD (cQ (clE (zb 2)))) (λ_ _ _ _ _=>(zO (i:=0) DU rfl (NZ rfl))) (λ_ _ _ _ _=>di) (λ_ _ _ _ _=>(caD (zu ZK hr rfl (clP (za (zb 0) zd))))))
   (zi (zw (anD (jQ (clE (fk (K2 hu) aP (zb 6) rfl)) (iN (fk (oE (bS hu)) (KF (zb 6)) (caD (zu ZM hr rfl (clP (za (zb 3) (za (zb 4) zd))))) (zE _)))))))))))))))))),?_}
 erw [ah (Ol hz 'd'),Ah];have eb:OT z none (some (QT z (c1 32)+1))=zK z:=rfl;rw [eb];obtain ⟨ab,lb⟩:=nA ha;have es:Pb (zK z) (c1 32)=wds (zK z):=congrArg (Pb (zK z)) (show c1 32=(" ":Str) from by decide);rw [es];have ew:(wds (zK z)).dropLast=wds (z7 (zK z))\/(zK z=""/\(wds (zK z)).dropLast=[]):=by
  rcases Es z with h|h
  .exact .inr {h,by rw [h,bL];decide +kernel}
  .exact .inl (by rw [xl h,Rm])
 have lw:(wds (zK z)).length<=100001:=by
  rw [e9];have:=List.count_le_length (a:=32) (l:=sg (zK z));rw [zJ] at this;omega
 refine {'d',aS (by omega),ah (by omega),λp1 H1 n1=>{_,n1.at_,λl H2 n2=>?_}};rw [yX,<- List.map_dropLast] at n2;have s2:=n1.same.trans n2.same;refine {zK z,rfl,ab,by omega,λH3 s3=>?_};have WW:=s2.trans s3;obtain ⟨m0,m1⟩:=fR (zK z);have ln:=lH m0 (by omega);ac_rfl;have no:∀H',zj H H'->rdZ z=none->Q (.bl false) H':=λH' s e=>by
  have:=q H' s;rw [e] at this;exact this
 have l0:H l=none:=n1.same.free n2.no;refine {dj (by omega),ah (by omega),ah (by rw [Pg,show (";":Str).length=1 by decide];omega),?_};by_cases hs:z=bC (zK z)
 rotate_left
 .rw [decide_eq_false (show ¬ z=zK z++(toString (cj (zK z)):Str)++";" from hs)];ac_rfl;exact no H3 WW (by unfold rdZ dR;rw [if_neg hs];rfl)
 rw [decide_eq_true (show z=zK z++(toString (cj (zK z)):Str)++";" from hs)];have eZ:rdZ z=bN (wds (z7 (zK z))):=by unfold rdZ;rw [show dR z=some (zK z) from if_pos hs];rfl
 ac_rfl;refine {'d',λp4 H4 n4 _=>{_,n4.same _ _ (s3 _ _ n2.at_),_,n4.at_,.inr rfl,?_}};rw [NO];have a3:=WW.trans n4.same;have h4:=n4.same _ _ (s3 _ _ n2.at_);have sb:∀{Hk:Hp},But l H4 Hk->zj H Hk:=λb c o e=>b c o (zQ e l0) (a3 _ _ e);rcases ew with ew|⟨e0,ew⟩
 rotate_left
 .rw [ew,if_pos 'z'];refine no H4 a3 ?_;have e2:wds (z7 "")=[("":Str)]:=by
   have:z7 "" = "":=by decide +kernel
   rw [this,bL];decide +kernel
  rw [eZ,e0,e2];exact Aj (f!"")
 rw [ew] at h4 ⊢;have a8:∀v∈wds (z7 (zK z)),asc v=true/\v.length<=100000:=λv hv=>by
  obtain ⟨k1,k2⟩:=uI ab;exact {(Mn k1 hv).1,Ol (lD hv).1 (by omega)}
 rw [eZ] at no;have a9:∀H',zj H H'->Q (.bl (bN (wds (z7 (zK z)))).isSome) H':=by rw [<- eZ];exact q
 clear eZ q hs es eb ew;generalize wds (z7 (zK z))=ws at h4 hw lv no a8 a9 ⊢;cases ws with
 | nil =>
  rw [if_pos 'z'];exact no H4 a3 rfl
 | cons v r =>
  rw [if_neg 'z'];refine {{_,h4},_,0,rfl,h4,_,rfl,?_};ac_rfl;have W5:WL (upd H4 l (.lst (r.map V.str))) l r:={zt,λy hy=>a8 y (NR _ hy),Nat.le_of_succ_le hw};have b5:But l H4 (upd H4 l (.lst (r.map V.str))):=But.upd;by_cases hv:v="mark"
  rotate_left
  .rw [decide_eq_false hv];ac_rfl;exact no _ (sb b5) (if_neg hv)
  rw [decide_eq_true hv];have G:bN (v::r)=(zG r).bind λa=>(zG a.2).bind λb=>(rdF b.2).bind λc=>(bP c.2).bind λd=>if d.2=[]/\dn c.1 d.1=true then some ((a.1,b.1),c.1,d.1) else none:=if_pos hv;ac_rfl;refine {l,r,rfl,W5,λH6 b6 W6=>?_};cases em:zG r with
  | none =>
   rw [iM em];ac_rfl;exact no H6 (sb (b5.trans b6)) (by rw [G,em];rfl)
  | some c1 =>
  obtain ⟨m,r1⟩:=c1;obtain ⟨b0,ct,de,c6⟩:=iH em;rw [ct] at W6;rw [em] at G;rw [b0];ac_rfl;refine {l,r1,rfl,W6,λH7 b7 W7=>?_};cases en:zG r1 with
  | none =>
   rw [iM en];ac_rfl;exact no H7 (sb ((b5.trans b6).trans b7)) (by rw [G];show (zG r1).bind _=_;rw [en];rfl)
  | some c2 =>
  obtain ⟨n,r2⟩:=c2;obtain ⟨cC,bu,cD,c5⟩:=iH en;rw [bu] at W7;have G:bN (v::r)=(rdF r2).bind λc=>(bP c.2).bind λd=>if d.2=[]/\dn c.1 d.1=true then some ((m,n),c.1,d.1) else none:=by rw [G];show (zG r1).bind _=_;rw [en];rfl
  have a4:=(b5.trans b6).trans b7;have sub:∀y∈r2,y∈v::r:=by
   obtain ⟨y1,e1⟩:=fI em;obtain ⟨y2,e2⟩:=fI en;intro y hy;rw [e1,e2];exact NR _ (NR _ (NR _ hy))
  rw [cC];ac_rfl;refine {l,r2,rfl,W7,λu r3 eu d H8 b8 W8 md=>?_,λeu YL H8 b8 W8=>?_}
  rotate_left
  .ac_rfl;exact no H8 (sb (a4.trans b8)) (by rw [G];unfold rdF;rw [eu];rfl)
  rw [wY eu] at G;ac_rfl;refine {l,r3,rfl,W8,λus r4 ek kd H9 b9 W9 mk=>?_,λek YL H9 b9 W9=>?_}
  rotate_left
  .ac_rfl;refine {l,YL,rfl,W9,λO S Z=>?_};ac_rfl;exact no O (sb ((a4.trans (b8.trans b9)).trans S)) (by rw [G,ek];rfl)
  rw [ek] at G;have bb:=lv r2 u us r4 sub (by rw [wY eu,ek];rfl);ac_rfl;refine {l,r4,rfl,W9,λO S Z=>?_};ac_rfl;have U:=(a4.trans (b8.trans b9)).trans S;cases eN:zG r4 with
  | none =>
   rw [iM eN];ac_rfl;exact no O (sb U) (by rw [G];show (bP r4).bind _=_;unfold bP;rw [eN];rfl)
  | some c3 =>
  obtain ⟨N,J⟩:=c3;obtain ⟨b3,b1,N0,N1⟩:=iH eN;rw [b1] at Z;have a5:=Z.at_;have G:bN (v::r)=(aX N.toNat [] J).bind λd=>if d.2=[]/\dn (u,us) d.1=true then some ((m,n),(u,us),d.1) else none:=by rw [G];show (bP r4).bind _=_;unfold bP;rw [eN];rfl
  rw [b3];erw [a5];rw [NO];refine {.inl {'d','d'},aF (λX7=>?_) λcp=>?_}
  .refine no O (sb U) ?_;rw [G];cases e:aX N.toNat [] J with
   | none=>rfl
   | some c =>
    obtain ⟨ts,rr⟩:=c;have l2:=tN e;refine if_neg λhh=>?_;have bx:rr=[]:=hh.1;rw [bx,Q5] at l2;have : ¬ ((J.length:Int)=3*N):=by simpa using X7
    omega
  have a7:J.length=3*N.toNat:=by
   have:(J.length:Int)=3*N:=by simpa using cp
   omega
  rw [o8 N.toNat [] J a7] at G;have c4:=Z.few;refine {{_,SqL.of a5},aK.lst (xs:=J.map V.str) (NbC O l J) (λj τ ys H' I=>by rw [I.ys,NO,ON];exact aS (by omega)) (λj τ ys H' I=>SqL.of (I.same _ _ a5)) {{_,rfl},'z',zj.refl _} ?_ ?_}
  .intro N' j x τ ys H11 hx I hN;obtain ⟨t',rfl⟩:=I.ex;rw [Oe] at hx;obtain ⟨y,hy,rfl⟩:=Ou.mp hx;obtain ⟨g1,g2⟩:=Z.wd y (OS hy);ac_rfl;refine {y,rfl,g1,g2,λH12 av=>hN _ _ _ {{_,rfl},?_,I.same.trans av}};rw [I.ys,OU,hy,OI];rfl
  .intro τ ys H11 I D H12 ak;have ey:=I.ys;rw [NO,Ob (NV _)] at ey;rw [ey] at ak;have av:zj O H12:=I.same.trans ak.same;have sH:zj H H12:=(sb U).trans av;rw [v9];refine {_,.inl ak.at_,rfl,Ax,?_};rw [yn];cases hb:J.all zH with
   | false =>
    ac_rfl;exact no H12 sH (by rw [G,if_neg (by rw [hb];decide)];rfl)
   | true =>
    rw [if_pos hb] at G;have G:bN (v::r)=if dn (u,us) (cy J)=true then some ((m,n),(u,us),cy J) else none:=by
     rw [G];show (if ([]:List Str)=[]/\dn (u,us) ([]++cy J)=true then _ else _)=_;rw [Q3];by_cases h:dn (u,us) (cy J)=true
     .rw [if_pos {rfl,h},if_pos h]
     .rw [if_neg λc=>h c.2,if_neg h]
    ac_rfl;refine {_,ak.at_,λbp H13 aI=>?_};have ba:zj O H13:=av.trans aI.same;have l7:H7 l≠none:=λz=>by rw [W7.at_] at z;cases z
    have l8:H8 l≠none:=λz=>by rw [W8.at_] at z;cases z
    have ax:=((md.tr b9 l7).tr S l7).same ba;have bq:=(mk.tr S l8).same ba;obtain ⟨da,e1,d1⟩:=ax.ex;obtain ⟨WU,e2,d2⟩:=bq.ex;obtain ⟨bt,b2⟩:=Np ek;have pl:∀{H0:Hp}{d':Addr}{t:Tab},H0 l≠none->Md2 H0 H13 d' t->(names t).Nodup->aH H13 l d' t:=λ{H0 d' t} h0 m nd=>by
     obtain ⟨kv,e,dc⟩:=m.ex;exact {{kv,e,dc.imp λv x ⟨a,ev,ha,na⟩=>{a,ev,ha,λz=>h0 (z ▸ na)}},nd}
    refine {l,d,kd,[],u,us,rfl,pl l7 ax (vE eu),{{WU,e2,Dct.b5 d2 λp hp v ⟨e',ev,m',_⟩=>{e',ev,'z',pl l8 m' (b2 p hp)}},bt},bb.1,bb.2,λcv ns a0 a6 _ el pm so=>?_};show hZ false (V.ref bp) (V.ref cv) a0 Q;rw [uZ];have b4:a0 bp=some (.lst (((cy J).map (·.1)).map V.int)):=a6 _ _ (by rw [aI.at_,tO hb,EB,xS _ J a7]);refine {_,_,b4,el,iW,iW,?_};rw [if_neg 'd',wt];have y:=a9 a0 (sH.trans (aI.same.trans a6));rw [G] at y;by_cases hn:(cy J).map (·.1)=ns
    .rw [if_pos (i5.mpr (show ip (u,us) (cy J) by unfold ip;rw [hn];exact ⟨pm,so⟩))] at y;rw [decide_eq_true hn];exact y
    .rw [if_neg λc=>hn (by
      have c:=i5.mp c;exact nr c.2 so (c.1.nodup_iff.mpr dH) (pm.nodup_iff.mpr dH) λy=>by rw [c.1.mem_iff,pm.mem_iff])] at y
     rw [decide_eq_false hn];exact y
end
theorem jA{α:Type} [DecidableEq α]:∀{xs L:List α},xs.Nodup->(∀y∈xs,y∈L)->xs.length<=L.length
 | [],_,_,_=>O9 _
 | x::xs,L,nd,s=>by
  have F:=Rn.mp nd;have hx:x∈L:=s x NX;have h1:=jA (xs:=xs) (L:=L.erase x) F.2 λy G=>(List.mem_erase_of_ne (λz:y=x=>F.1 (by rw [<- z];exact G))).mpr (s y (NR _ G));rw [List.length_erase_of_mem hx] at h1;have:=List.length_pos_of_mem hx;rw [OJ];omega
def Src(ws:List Str)(x:Int):Prop:=∃v∈ws,zH v=true/\zZ v=x
theorem Src.mono(h:Src ws x)(s:∀v∈ws,v∈z):Src z x:=let ⟨v,hv,r⟩:=h;{v,s v hv,r}
theorem vt:∀{n:Nat}{t u:Tab}{y:Str}{ws r:List Str},ai n t y ws=some (u,r)->(∀p∈u,p∈t\/∀x∈p.2,Src ws x)/\∀v∈r,v∈ws
 | 0,_,_,_,_,_,h=>by injection h with h;injection h with h1 h2;rw [h1,h2];exact {λp hp=>.inl hp,λv hv=>hv}
 | n+1,t,u,y,ws,r,h=>by
  obtain ⟨⟨z,r1⟩,e,g⟩:=bind_some h;obtain ⟨⟨i,r2⟩,U,g⟩:=bind_some g;have g:(if i=0 then none else (aY i.toNat [] r2).bind λc=>ai n (zA t z c.1) z c.2)=some (u,r):=g;split at g
  .cases g
  .obtain ⟨⟨l,S⟩,F,g⟩:=bind_some g;have s1:∀v∈r1,v∈ws:=λv hv=>by rw [(jw e).1];exact NR _ hv
   have s2:∀v∈r2,v∈ws:=λv hv=>by
    obtain ⟨x,G⟩:=fI U;refine s1 v ?_;have G:r1=x::r2:=G;rw [G];exact NR _ hv
   rw [kR] at F;split at F
   .rename_i W;injection F with F;injection F with e4 e5
    have J:∀v∈S,v∈ws:=λv hv=>s2 v (by rw [<- e5] at hv;exact Rk hv);obtain ⟨i1,i2⟩:=vt g;refine {λp hp=>?_,λv hv=>J v (i2 v hv)};rcases i1 p hp with h|h
    .rcases fi h with h|h
     .exact .inl h
     .right;rw [h];intro x hx;have hx:x∈l:=hx;rw [<- e4,Q3] at hx;obtain ⟨v,hv,O⟩:=OE.mp hx;exact {v,s2 v (PP hv),Ot.mp W.2 v hv,O}
    .exact .inr λx hx=>(h x hx).mono J
   .cases F
theorem vN{ws r:List Str}(h:rdT ws=some (u,r)):(∀y∈zI u,Src ws y)/\∀v∈r,v∈ws:=by
 obtain ⟨⟨i,r1⟩,e,g⟩:=bind_some h;obtain ⟨x,F⟩:=fI e;have F:ws=x::r1:=F;have s1:∀v∈r1,v∈ws:=λv hv=>by rw [F];exact NR _ hv
 obtain ⟨i1,i2⟩:=vt g;refine {λy z=>?_,λv hv=>s1 v (i2 v hv)};obtain ⟨p,hp,z⟩:=cJ.mp z;rcases i1 p hp with h|h
 .cases h
 .exact (h y z).mono s1
theorem Aw:∀{n:Nat}{ks us:List (Str×Tab)}{y:Str}{ws r:List Str},rdK n ks y ws=some (us,r)->(∀p∈us,p∈ks\/(p.1∈ws/\∀y∈zI p.2,Src ws y))/\∀v∈r,v∈ws
 | 0,_,_,_,_,_,h=>by injection h with h;injection h with h1 h2;rw [h1,h2];exact {λp hp=>.inl hp,λv hv=>hv}
 | n+1,ks,us,y,ws,r,h=>by
  obtain ⟨⟨z,r1⟩,e,g⟩:=bind_some h;obtain ⟨⟨t,r2⟩,J,g⟩:=bind_some g;have G:=(jw e).1;have s1:∀v∈r1,v∈ws:=λv hv=>by rw [G];exact NR _ hv
  obtain ⟨k1,k2⟩:=vN J;have s2:∀v∈r2,v∈ws:=λv hv=>s1 v (k2 v hv);obtain ⟨i1,i2⟩:=Aw g;refine {λp hp=>?_,λv hv=>s2 v (i2 v hv)};rcases i1 p hp with h|⟨h,h'⟩
  .rcases fi h with h|h
   .exact .inl h
   .right;rw [h];exact {by rw [G];exact NX ..,λy F=>(k1 y F).mono s1}
  .exact .inr {s2 _ h,λy F=>(h' y F).mono s2}
theorem EG{ws r:List Str}(h:rdF ws=some ((u,us),r)):(∀y∈aa u us,Src ws y)/\(∀p∈us,p.1∈ws)/\(names us).Nodup:=by
 unfold rdF at h;obtain ⟨⟨t,r1⟩,U,g⟩:=bind_some h;obtain ⟨⟨i,r2⟩,Z,g⟩:=bind_some g;obtain ⟨⟨ks,r3⟩,O,g⟩:=Ou.mp g;injection g with g1 g2
 injection g1 with G F
 have G:t=u:=G;have F:ks=us:=F;subst G F;obtain ⟨S,W⟩:=vN U;obtain ⟨x,ex⟩:=fI Z;have ex:r1=x::r2:=ex;have s2:∀v∈r2,v∈ws:=λv hv=>W v (by rw [ex];exact NR _ hv);obtain ⟨J,b2⟩:=Aw O;refine {λy z=>?_,λp hp=>?_,(pE O (by simp [names]) 'z').1}
 .rcases dE.mp z with z|⟨p,hp,z⟩
  .exact S y z
  .rcases J p hp with h|⟨_,h⟩
   .cases h
   .exact (h y z).mono s2
 .rcases J p hp with h|⟨h,_⟩
  .cases h
  .exact s2 _ h
def Cov(S:List Str)(z:Str):Prop:=∀v∈wds z,zH v=true->v∈S
theorem GW(h:zH v=true):v≠"":=λe=>by rw [e] at h;exact absurd h (f!"")
theorem HZ(hv:v∈wds (z7 (zK z))):v∈wds z\/v="":=by
 by_cases h:32∈sg z
 .obtain ⟨a,b,e,hb⟩:=iE 32 (sg z) h;have J:z7 (zK z)=tx a:=by
   rw [i6 e hb];unfold z7;rw [ng (by rw [aL];simp),aL,Rm]
  rw [J,bL,aL] at hv;left;rw [bL,e,gR,OI];exact Oo _ hv
 .have F:zK z="":=by
   unfold zK;rw [kU h];have:=gv (x:=z) (j:=0) (O9 _);rw [SZ] at this;exact this
  have G:wds (z7 "")=[("":Str)]:=by
   have:z7 "" = "":=by decide +kernel
   rw [this,bL];decide +kernel
  rw [F,G] at hv;exact .inr (OO.mp hv)
theorem jn(z:Str):(wds (z7 (zK z))).length<=(wds z).length:=by
 by_cases h:32∈sg z
 .obtain ⟨a,b,e,hb⟩:=iE 32 (sg z) h;have J:z7 (zK z)=tx a:=by
   rw [i6 e hb];unfold z7;rw [ng (by rw [aL];simp),aL,Rm]
  rw [J,e9,e9,aL,e,Ti];omega
 .have F:zK z="":=by
   unfold zK;rw [kU h];have:=gv (x:=z) (j:=0) (O9 _);rw [SZ] at this;exact this
  have G:z7 "" = "":=by decide +kernel
  rw [F,G,e9,e9];have:(sg ("":Str)).count 32=0:=by decide +kernel
  omega
theorem k7(c:Cov S z)(O:S.length<64)(hw:(wds z).length<=3003):∀G u us r,(∀v∈G,v∈wds (z7 (zK z)))->rdF G=some ((u,us),r)->(uniq (aa u us)).length<64/\us.length<=4000:=by
 intro G u us r hs h;obtain ⟨h1,h2,h3⟩:=EG h;constructor
 .have:=jA (xs:=uniq (aa u us)) (L:=S.map zZ) dH λy J=>by
   obtain ⟨v,hv,F,e⟩:=h1 y (fA.mp J);refine OE.mpr {v,?_,e};rcases HZ (hs v hv) with k|k
   .exact c v k F
   .exact absurd k (GW F)
  rw [NO] at this;omega
 .have:=jA (xs:=names us) (L:=wds (z7 (zK z))) h3 λn F=>by
   obtain ⟨p,hp,e⟩:=OE.mp F;rw [<- e];exact hs _ (h2 p hp)
  have W:=jn z;have U:(names us).length=us.length:=by simp [names]
  omega
abbrev pM:Stmt:=top 72
theorem Az(h:j<=(sg x).length):OT x (some (j:Int)) none=tx ((sg x).drop j):=by
 have e:=StrLaws.sliceText_from (x:=x) (i:=(j:Int)) {by omega,by simpa [sg] using h};refine Eq.trans (show OT x (some (j:Int)) none=StrLaws.sliceText x (some (j:Int)) none from rfl) (e.trans ?_);show tx _=tx _;congr 1;rw [Qg];refine Ob ?_;rw [Qi];simp [sg] at h ⊢
theorem Mc(h:(x.length:Int)<=j):OT x (some j) none=OT x (some (x.length:Int)) none:=by
 have e:N9.Str.strSliceIndices (some j) none 1 x.length=N9.Str.strSliceIndices (some (x.length:Int)) none 1 x.length:=by
  have a : ¬ (j<0):=by omega
  have b : ¬ ((x.length:Int)<0):=by omega
  have c:min j (x.length:Int)=x.length:=by omega
  simp [N9.Str.strSliceIndices,a,b,c]
 show StrLaws.sliceText x _ none=StrLaws.sliceText x _ none;unfold StrLaws.sliceText;rw [e]
theorem vb(h:0<=j):OT x (some j) none=tx ((sg x).drop j.toNat):=by
 by_cases z:j<=(x.length:Int)
 .have:=Az (x:=x) (j:=j.toNat) (by rw [zJ];omega);rw [show ((j.toNat:Nat):Int)=j by omega] at this;exact this
 .rw [Mc (by omega),Az (x:=x) (j:=x.length) (by rw [zJ];exact NV _),QN (by rw [zJ];exact NV _),QN (by rw [zJ];omega)]
structure One(z z':Str):Prop where
 a:asc z'=true
 l:z'.length<=z.length+1
 w:(wds z').length<=(wds z).length+1
 c:∃N:List Str,N.length<=2/\∀v∈wds z',v∈wds z\/v∈N
theorem mv(ha:asc z=true)(J:asc x=true)(U:x.length<=1){k:Nat}(e:sg z'=(sg z).take i++sg x++(sg z).drop (i+k)):One z z':=by
 have F:(sg z).take i++((sg z).drop i).take k++(sg z).drop (i+k)=sg z:=by
  rw [OR,<- List.drop_drop,QD,QD]
 have hx:(sg x).length<=1:=by rw [zJ];exact U
 have c1:(sg x).count 32<=(sg x).length:=List.count_le_length;refine {?_,?_,?_,?_}
 .rw [dS,Ot] at ha J ⊢;intro c hc;rw [e] at hc;rcases Ox.mp hc with hc|hc
  .rcases Ox.mp hc with hc|hc
   .exact ha c (PP hc)
   .exact J c hc
  .exact ha c (Rk hc)
 .have h1:=congrArg SN e;have h2:=congrArg SN F;simp only [Ov,zJ] at h1 h2;rw [zJ] at hx;omega
 .have h1:=congrArg (List.count 32) e;have h2:=congrArg (List.count 32) F;rw [Ti,Ti] at h1 h2;rw [e9,e9];omega
 .obtain ⟨N,S,O⟩:=Bx (c:=32) ((sg z).take i) (sg x) (((sg z).drop i).take k) ((sg z).drop (i+k)) hx;refine {N.map tx,by rw [NO];exact S,λv hv=>?_};rw [bL] at hv;obtain ⟨y,G,rfl⟩:=OE.mp hv;rw [e] at G;rcases O y G with h|h
  .left;rw [F] at h;rw [bL];exact OE.mpr {y,h,rfl}
  .exact .inr (OE.mpr {y,h,rfl})
section
variable {P:NW}{w:Oc}{K:Frag}{mg:Str->Option Value}{base:Heap}{A:zk}
def sS:Sp:=λvs H Q _=>∃(a:Addr)(z:Str),vs=[.ref a,.str z]/\Pot H a/\asc z=true/\z.length<=100000/\∀z' H',One z z'->But a H H'->Pot H' a->Q (.str z') H'
theorem lT:zy ["_law_pot_here","_law_text","_law_at","_law_sign","_law_way"] Ym (zl pM):=fsc
theorem K4(F:Fun K VX VX pM f fd)(T:Txt K mg A)(Z9:GF P w K mg base true 1 Wo Yw cT)(Z6:GF P w K mg base true 2 Wm Ys fH):zp P w K mg base CX0 true 3 f fd Ym sS:=by
 refine F.o lT λZW Ar outer s H vs Q E hr h=>?_;obtain ⟨a,z,rfl,hP,ha,hz,q⟩:=h;have hu:_<cLine:=Oy (zV hr);refine {_,(W.h (zg (zr (i:=2) lT.nd rfl (NZ rfl) (caD (zu Z9 hr rfl (clP (za (zb 0) (za (zD bh (zT dG rfl T.sL OA (za (zb 1) zd)) zo) zd))))))
   (zg (zr (i:=3) lT.nd rfl (NZ rfl) (caD (zu Z6 hr rfl (clP (za (zb 0) (za zx zd))))))
   (zg (zr (i:=4) lT.nd rfl (NZ rfl) (caD (zu Z9 hr rfl (clP (za (zb 0) (za zo zd))))))
   (zg (zL (tD (zF (clO (oE (bS hu))) (clE (zb 4)) (clE zo) (zE _)))
   (zi (zw (zD bh (cq cV (zb 1) ck (cn (zb 2))) (cq cV (zb 1) (cn (zD bh (zb 2) zo)) ck))))
   zW)
   (zi (zw (zD bh (zD bh (cq cV (zb 1) ck (cn (zb 2))) (zb 3)) (cq cV (zb 1) (cn (zD (oI0 ju) (zD bh (zb 2) (zb 4)) zo)) ck))))))))),?_}
 have J:z.length<=sizeLine:=ah (Ol hz 'd');erw [J];refine {a,_,rfl,hP,by omega,QQ (show ((z.length:Int)+1)<=100001 by omega) 'd',λr H1 b1 O r0 r1=>{a,O,.inr {_,rfl,'d','d',λc H2 hc b2 U=>{a,_,rfl,U,'d','d',λy H3 b3 Xu y0 y1=>?_}}}};have e1:OT z none (some r)=tx ((sg z).take r.toNat):=by
  have:=gv (x:=z) (j:=r.toNat) (by rw [zJ];omega);rw [show ((r.toNat:Nat):Int)=r by omega] at this;exact this
 have G:=(b1.trans b2).trans b3;have lt:(tx ((sg z).take r.toNat)).length<=z.length:=by rw [fN,ON,zJ];omega
 have ax:asc (c1 c)=true:=by
  have h:∀c∈sg (" 0123456789abcdefghijklmnopqrstuvwxyzA;-+.,\n":Str),c<128:=by decide +kernel
  rw [dS];show (decide (c<128)&&true)=true;rw [decide_eq_true (h c hc)];rfl
 erw [e1];refine aF (λZ=>?_) λZ=>?_
 .have S:OT z (some (r+1)) none=tx ((sg z).drop (r.toNat+1)):=by rw [vb (by omega),show (r+1).toNat=r.toNat+1 by omega]
  rw [S];have ld:(tx ((sg z).drop (r.toNat+1))).length<=z.length:=by rw [fN,Qi,zJ];omega
  refine {ah (by omega),q _ H3 (mv (i:=r.toNat) (k:=1) (x:="") ha (f!"") 'd' ?_) G Xu};rw [bj,aL,aL,show sg ("":Str)=[] by decide,Pr]
 .have hy:1<=y:=by have : ¬ y=0:=λz=>Z (decide_eq_true z);omega
  have S:OT z (some (r+y-1)) none=tx ((sg z).drop (r.toNat+(y-1).toNat)):=by rw [vb (by omega),show (r+y-1).toNat=r.toNat+(y-1).toNat by omega]
  have ld:(tx ((sg z).drop (r.toNat+(y-1).toNat))).length<=z.length:=by rw [fN,Qi,zJ];omega
  have l1:(c1 c).length=1:=rfl;erw [S];refine {ah (by omega),?_,q _ H3 (mv (i:=r.toNat) (k:=(y-1).toNat) (x:=c1 c) ha ax (by omega) ?_) G Xu}
  .rw [Pg];exact ah (by omega)
  .rw [bj,bj,aL,aL]
abbrev sf:Stmt:=top 73
theorem nN(h:m<n):ixN n (m:Int)=some m:=by
 unfold ixN;rw [if_pos (by omega),if_pos (by omega)];simp
def WC:List Str:=["0","1","2","01","","a","mark","-1","b","1"++iw "0" 18,"zzzzzzz","A"]
structure Tws(ws YL:List Str):Prop where
 l:YL.length<=ws.length+1
 m:∀v∈YL,v∈ws\/v∈WC
def wq:Sp:=λvs H Q _=>∃(a b:Addr)(ws:List Str),vs=[.ref a,.ref b]/\Pot H a/\H b=some (.lst (ws.map V.str))/\b≠a/\0<ws.length/\ws.length<=3000/\∀c z H',Tws ws z->But a H H'->Pot H' a->H' c=some (.lst (z.map V.str))->c≠a->Q (.ref c) H'
theorem iX:zy ["_law_pot_here","_law_words","_law_found","_law_at","_law_other","_law_way"] Wx (zl sf):=fsc
theorem Hb(F:Fun K V9 V9 sf f fd)(T:Txt K mg A)(Z9:GF P w K mg base true 1 Wo Yw cT)(Z6:GF P w K mg base true 2 Wm Ys fH):zp P w K mg base CX0 true 3 f fd Wx wq:=by
 refine F.o iX λZW Ar outer s H vs Q E hr h=>?_;obtain ⟨a,b,ws,rfl,hP,hb,ba,w0,w1,q⟩:=h;have hu:_<cLine:=Oy (zV hr);refine {_,(W.h (zg (zr (i:=2) iX.nd rfl (NZ rfl) (bc HI rfl T.VC boot_list (za (zb 1) zd)))
   (zg (zr (i:=3) iX.nd rfl (NZ rfl) (caD (zu Z9 hr rfl (clP (za (zb 0) (za (zT dG rfl T.sL OA (za (zb 1) zd)) zd))))))
   (zg (zr (i:=4) iX.nd rfl (NZ rfl) (caD (zu Z9 hr rfl (clP (za (zb 0) (za (zT dG rfl T.sL OA (za (zb 1) zd)) zd))))))
   (zg (zr (i:=5) iX.nd rfl (NZ rfl) (caD (zu Z9 hr rfl (clP (za (zb 0) (za zo zd))))))
   (zg (zL (tD (zF (clO (oE (bS hu))) (clE (zb 5)) (clE zo) (zE _)))
   (zi (cO (dv (za (aN hU (zb 2) (zb 4) (λ_ _=>rfl)) (za (aN hU (zb 2) (zb 3) (λ_ _=>rfl)) zd))) (iZ (n:=2) (gsD (bz (cN (zb 2) (zb 3) iJ) (gsD (bz (cN (zb 2) (zb 4) iJ) gj)))))))
   (zi (zL (tD (zF (clO (oE (bS hu))) (clE (zb 5)) (clE zo) (zE _)))
   (zi (ay (i9 (zb 2) (zb 3))))
   (zi (zL (tD (zF (clO (oE (bS hu))) (clE (zb 5)) (clE zo) (zE _)))
   (zi (ay (EW (zb 2) (zb 3) (aN hU (zb 2) (zb 4) (λ_ _=>rfl)))))
   (zi (cO (caD (zu Z6 hr rfl (clP (za (zb 0) (za (ar (pZ zx zx zx zx (pZ zx zx zx zx (pZ zx (zD bh zx (zD hJ zx zo)) zx zx zd)))) zd))))) (cN (zb 2) (zb 3) iJ))))))))
   (zi (zw (zb 2))))))))),?_}
 ac_rfl;refine {_,.inl hb,λl H1 O=>{_,.inl (O.same _ _ hb),?_}};have S:l≠a:=hP.ne O.no;have wl:(ws.map V.str).length=ws.length:=NO ..;have big:(ws.length:Int)<2 ^ 64:=QQ (show (ws.length:Int)<=3000 by omega) 'd';rw [wl];refine {a,_,rfl,hP.same O.same,by omega,big,λi H2 b2 aI i0 i1=>{_,.inl (b2 _ _ ba (O.same _ _ hb)),?_}};rw [wl];refine {a,_,rfl,aI,by omega,big,λj H3 b3 Xu j0 j1=>{a,_,rfl,Xu,'d','d',λy H4 b4 U y0 y1=>?_}};have z:=b4 _ _ S (b3 _ _ S (b2 _ _ S O.at_));have J:But a H H4:=(((But.of O.same).trans b2).trans b3).trans b4;obtain ⟨m,rfl⟩:∃m:Nat,i=m:={i.toNat,by omega};obtain ⟨k,rfl⟩:∃k:Nat,j=k:={j.toNat,by omega};have hm:m<ws.length:=by omega
 have hk:k<ws.length:=by omega
 have gm:(ws.map V.str)[m]?=some (.str ws[m]):=by rw [Oe,NL hm];rfl
 have gk:(ws.map V.str)[k]?=some (.str ws[k]):=by rw [Oe,NL hk];rfl
 have am:atI (ws.map V.str) (m:Int)=some (.str ws[m]):=fT gm;have ak:atI (ws.map V.str) (k:Int)=some (.str ws[k]):=fT gk;have Zn:∀(H5:Hp)(Z:List Str),But a H H5->Pot H5 a->Tws ws Z->Q (.ref l) (upd H5 l (.lst (Z.map V.str))):=λH5 Z b p e=>q l Z _ e (λc o nc e=>by rw [zh (zQ e O.no)];exact b c o nc e) (by obtain ⟨x,y,e,r⟩:=p.ex;exact {{x,y,by rw [zh (OY S)];exact e,r}}) zt S;have st:∀{us:List Str}{i:Nat}{v:Str},Tws ws us->us.length<=ws.length->(v∈ws\/v∈WC)->Tws ws (us.set i v):=λ{us i v} e h hv=>{by rw [length_set];omega,λx hx=>by
  rcases List.mem_or_eq_of_mem_set hx with hx|hx
  .exact e.m x hx
  .rw [hx];exact hv}
 have tw:Tws ws ws:={by omega,λv hv=>.inl hv};ac_rfl;refine aF (λh0=>?_) λh0=>?_
 .refine {_,.inl z,_,ak,_,.inl z,_,am,'d',λp5 H5 G=>{_,_,rfl,.of G.at_,rfl,?_}};ac_rfl;have av:=G.same _ _ z;refine {_,av,m,by rw [wl];exact nN hm,_,zt,k,by rw [length_set,wl];exact nN hk,?_};rw [qG,show ((ws.map V.str).set m (V.str ws[k])).set k (V.str ws[m])=((ws.set m ws[k]).set k ws[m]).map V.str by rw [map_set,map_set]];exact Zn H5 _ (J.trans (.of G.same)) (U.same G.same) (st (st tw (NV _) (.inl (O4 hk))) (by rw [length_set];exact NV _) (.inl (O4 hm)))
 ac_rfl;refine aF (λh1=>?_) λh1=>?_
 .refine {{_,z},_,m,rfl,z,{_,gm},?_};rw [RK,<- Ts,<- map_drop,<- OI,<- RK];exact Zn H4 _ J U {by have:=List.length_eraseIdx_le ws m;omega,λv hv=>.inl (List.mem_of_mem_eraseIdx hv)}
 ac_rfl;refine aF (λh2=>?_) λh2=>?_
 .refine {{_,z},_,.inl z,_,ak,_,m,rfl,z,by rw [wl];omega,by rw [wl];exact OB w1 'd',?_};rw [<- Ts,<- map_drop,show [V.str ws[k]]=[ws[k]].map V.str from rfl,<- OI,<- OI];refine Zn H4 _ J U {by simp;omega,λv hv=>.inl ?_};rcases Ox.mp hv with hv|hv
  .rcases Ox.mp hv with hv|hv
   .exact PP hv
   .rw [OO.mp hv];exact O4 hk
  .exact Rk hv
 refine {'d','d','d','d',f!"",'d',λp5 H5 G _=>{a,U.same G.same,.inl {p5,_,rfl,U.ne G.no,.inl G.at_,'d','d',λv H6 hv b6 ax=>?_}}};obtain ⟨x,rfl,hx⟩:∃x:Str,v = .str x/\x∈WC:=by
  have:v∈WC.map V.str:=hv;obtain ⟨x,hx,e⟩:=OE.mp this;exact ⟨x,e.symm,hx⟩
 ac_rfl;refine {_,b6 _ _ S (G.same _ _ z),m,by rw [wl];exact nN hm,?_};rw [show (ws.map V.str).set m (V.str x)=(ws.set m x).map V.str from map_set.symm];exact Zn H6 _ ((J.trans (.of G.same)).trans b6) ax (st tw (NV _) (.inr hx))
end
abbrev kr:Stmt:=top 74
abbrev pV:Stmt:=top 75
theorem lY{a:List Nat}(h:c∉a):z5 c a=[a]:=by
 have:=wk h [];rw [Pr] at this;rw [this];show [a++[]]=_;rw [Pr]
theorem pR(hx:32∉x):∀{W:List Str},(∀v∈W,32∉sg v)->z5 32 (zR W++x)=W.map sg++[x]
 | [],_=>lY hx
 | v::W,h=>by
  have e:zR (v::W)++x=sg v++32::(zR W++x):=by simp [zR]
  rw [e,gR,lY (h v (NX ..)),pR hx λu z=>h u (NR _ z)];rfl
theorem oK{W:List Str}(h:∀v∈W,32∉sg v):wds (bC (tx (zR W)))=W++[(toString (cj (tx (zR W))):Str)++";"]:=by
 have F:=iL (fR (tx (zR W))).1 (by have:=(fR (tx (zR W))).2;omega);have e:sg (bC (tx (zR W)))=zR W++sg ((toString (cj (tx (zR W))):Str)++";"):=by
  unfold bC;rw [bj,bj,bj,aL,OR]
 rw [bL,e,pR ?_ h,OI,PK]
 .have:(tx∘sg)=id:=funext λz=>gM z;rw [this,map_id,List.map_singleton,gM]
 .rw [bj];intro k;rcases Ox.mp k with k|k
  .have:=F.dig 32 k;omega
  .revert k;decide +kernel
theorem C6(x:Str):zH (x++";")=false:=by
 cases e:zH (x++";") with
 | false=>rfl
 | true =>
  unfold zH aG at e;rw [Od,Od,Ot] at e;have:=e.1.2 59 (by rw [bj];exact NY _ (f!""));exact absurd this (f!"")
structure Rt(S:List Str)(n:Nat)(W:List Str):Prop where
 wd:∀z∈W,Wd z
 few:W.length<=1400+n
 cp:∀v∈W,zH v=true->v∈S
 s:S.length<=50
 wc:∀v∈WC,zH v=true->v∈S
theorem Fi:∀v∈WC,Wd v:=λv hv=>by
 have h:(WC.all λv=>asc v&&decide (v.length<=20) && !(sg v).contains 32)=true:=by decide +kernel
 have h:=Ot.mp h v hv;rw [Od,Od,decide_eq_true_eq] at h;exact {h.1.1,h.1.2,λc=>(by have:=h.2;rw [Pz.mpr c] at this;cases this)}
theorem Rt.cj{S W W':List Str}(h:Rt S n W)(t:Tws W W'):Rt S (n+1) W' :=
 {λz hz=>(t.m z hz).elim (h.wd z) (Fi z),by have:=t.l;have:=h.few;omega,λv hv e=>(t.m v hv).elim (λk=>h.cp v k e) (λk=>h.wc v k e),h.s,h.wc}
structure Fit(S:List Str)(n:Nat)(z:Str):Prop where
 a:asc z=true
 l:z.length<=30000+n
 w:(wds z).length<=1404+n
 c:∃N:List Str,N.length<=2*n/\Cov (S++N) z
structure Spt(S:List Str)(z:Str):Prop where
 a:asc z=true
 l:z.length<=100000
 w:(wds z).length<=3003
 c:∃N:List Str,N.length<=63/\Cov N z
theorem Fit.one(h:Fit S n z)(o:One z z'):Fit S (n+1) z':=by
 obtain ⟨N,J,G⟩:=h.c;obtain ⟨M,O,F⟩:=o.c;refine {o.a,by have:=o.l;have:=h.l;omega,by have:=o.w;have:=h.w;omega,N++M,by rw [Ov];omega,λv hv e=>?_};rw [<- OR];rcases F v hv with k|k
 .exact Oo _ (G v k e)
 .exact NY _ k
theorem Fit.b9(h:Fit S n z)(J:n<=3)(s:S.length<=50):Spt S z:=by
 obtain ⟨N,G,F⟩:=h.c;exact {h.a,by have:=h.l;omega,by have:=h.w;omega,S++N,by rw [Ov];omega,F}
theorem Rt.fit{S W:List Str}(h:Rt S n W)(O:n<=3):Fit S 0 (bC (tx (zR W))):=by
 obtain ⟨J,G⟩:=lC h.wd;obtain ⟨z,U⟩:=fR (tx (zR W));have Z:=lH z (by omega);have F:=iL z (by omega);have few:=h.few;refine {?_,?_,by rw [oK λv hv=>(h.wd v hv).no,Ov,O2];omega,[],NV _,λv hv e=>?_}
 .unfold bC;rw [dS,bj,bj,aL,Tj,Tj,G,SW,Od];exact {Ot.mpr λc hc=>decide_eq_true (by have:=F.dig c hc;omega),f!""}
 .unfold bC;rw [Pg,Pg,fN,show (";":Str).length=1 by decide];omega
 .rw [oK λv hv=>(h.wd v hv).no] at hv;rw [Pr];rcases Ox.mp hv with hv|hv
  .exact h.cp v hv e
  .rw [OO.mp hv,C6] at e;cases e
theorem Fit.twice(h:Fit S 0 z)(s:S.length<=50):Spt S (z++z):=by
 obtain ⟨n,J⟩:=EI (c:=32) (sg z) (sg z);obtain ⟨N,O,G⟩:=h.c;have hw:=h.w;have hl:=h.l;have U:=e9 z;refine {?_,by rw [Pg];omega,by rw [e9,bj,Ti];omega,(S++N)++[tx n],by rw [Ov,Ov,O2];omega,λv hv e=>?_}
 .have:=h.a;rw [dS] at this ⊢;rw [bj,Tj,this];rfl
 .rw [bL,bj] at hv;obtain ⟨y,F,rfl⟩:=OE.mp hv;have k:y∈z5 32 (sg z)->tx y∈(S++N)++[tx n]:=λk=>Oo _ (G _ (by rw [bL];exact OE.mpr {y,k,rfl}) e);rcases J y F with h|h|h
  .exact k h
  .exact k h
  .rw [h];exact NY _ (OO.mpr rfl)
section
variable {P:NW}{w:Oc}{K:Frag}{mg:Str->Option Value}{base:Heap}{A:zk}
structure RsI(H:Hp)(S:List Str)(a:Addr)(z:Str)(i:Nat)(σ:L2.St)(H':Hp):Prop where
 ex:∃c W t1 t2,σ=[some (.ref a),some (V.str z),some (.ref c),t1,t2]/\H' c=some (.lst (W.map V.str))/\c≠a/\Rt S i W
 but:But a H H'
 vu:Pot H' a
def mP:Sp:=λvs H Q _=>∃(a:Addr)(S W:List Str),vs=[.ref a,.str (bC (tx (zR W)))]/\Pot H a/\Rt S 0 W/\∀z' H',Spt S z'->But a H H'->Pot H' a->Q (.str z') H'
theorem iQ:zy WA Ym (zl kr):=fsc
theorem Kc:bO { kind:=.function,names:=[(NS ".0",.local),(NS "_law_word",.local)],isGenerator:=false,isCoroutine:=false,more:=[] } (zl kr).names WA WO [none]=true:=by decide +kernel
theorem EY:(WO:List Str).Nodup:=by decide +kernel
theorem B2(F:Fun K VT VT kr f fd)(T:Txt K mg A)(Z9:GF P w K mg base true 1 Wo Yw cT)(ZE:GF P w K mg base true 3 V9 Wx wq)(Zq:GF P w K mg base true 1 "_law_sum" Xm jg):zp P w K mg base CX0 true 4 f fd Ym mP:=by
 refine F.o iQ λZW Ar outer s H vs Q E hr h=>?_;obtain ⟨a,S,U,rfl,hP,rt,q⟩:=h;have hu:_<cLine:=Oy (zV hr);refine {_,(W.h (zg (zr (i:=2) iQ.nd rfl (NZ rfl) (cq cV (sN (zb 1) zx) ck (cn (kY mI zo))))
   (zg (bI PN.never (λ_=>rfl) (dm rfl T.ri (za (zD bh zo (caD (zu Z9 hr rfl (clP (za (zb 0) (za zo zd)))))) zd)) (zO (i:=3) iQ.nd rfl (NZ rfl))
   (zi (zL (tD (zF (clO (lE hu)) (clE (zb 2)) (clE (ar zd)) (zE _)))
   (zi (zr (i:=2) iQ.nd rfl (NZ rfl) (caD (zu ZE hr rfl (clP (za (zb 0) (za (zb 2) zd)))))))
   zW)))
   (zg (zr (i:=4) iQ.nd rfl (NZ rfl) (rF zx (cY (λ_=>rfl) (aA.of Kc) (liD (cQ (clE (zb 2)))) (λ_ _ _ _ _=>(zO (i:=0) EY rfl (NZ rfl))) (λ_ _ _ _ _=>di) (λ_ _ _ _ _=>(zD bh (zb 0) zx)))))
   (zi (zw (zD bh (zD bh (zb 4) (bc dI rfl T.Hx QS (za (caD (zu Zq hr rfl (clP (za (zb 4) zd)))) zd))) zx))))))),?_}
 have fz:=rt.fit (by omega);have few:=rt.few;have hz:=fz.l;obtain ⟨y,es⟩:∃y,Pb (bC (tx (zR U))) " "=U++[y]:={_,oK λv hv=>(rt.wd v hv).no};ac_rfl;generalize bC (tx (zR U))=z at hz es ⊢;refine {'d',aS (by omega),by rw [es];exact ah (by simp;omega),λp1 H1 n1=>{_,n1.at_,λl H2 n2=>?_}};rw [es,yX,<- List.map_dropLast,Rm] at n2;have s2:=n1.same.trans n2.same;have la:l≠a:=(hP.same n1.same).ne n2.no;refine {a,_,rfl,hP.same s2,'d','d',λr H3 b3 Xu r0 r1=>?_};ac_rfl;refine {by omega,by omega,az.rng (RsI H S a z) {{l,U,_,_,rfl,b3 _ _ la n2.at_,la,rt},(But.of s2).trans b3,Xu} ?_ ?_}
 .rintro i σ H4 hi ⟨⟨c,J,t1,t2,rfl,hc,ca,G⟩,b4,Xn⟩;ac_rfl;refine {'d',λp5 H5 O _=>{_,O.same _ _ hc,_,O.at_,.inr rfl,?_}};rw [NO];have Z:=G.few;have b5:=b4.trans (.of O.same);by_cases h0:J.length=0
  .rw [if_neg (by simp [h0])];exact {{c,J,_,_,rfl,O.same _ _ hc,ca,G.cj {by omega,λv hv=>.inl hv}},b5,Xn.same O.same}
  .rw [if_pos (by simp [h0])];exact {a,c,J,rfl,Xn.same O.same,O.same _ _ hc,ca,by omega,by omega,λc' U2 H6 tw b6 ak ax av=>{{c',U2,_,_,rfl,ax,av,G.cj tw},b5.trans b6,ak}}
 .rintro σ H4 ⟨⟨c,J,t1,t2,rfl,hc,ca,G⟩,b4,Xn⟩;have f0:=G.fit (by omega);obtain ⟨k1,k2⟩:=lC G.wd;have Z:=G.few;ac_rfl;refine {{_,SqL.of hc},aK.lst (xs:=J.map V.str) (MtC H4 J) (λi τ ys H' I=>?_) (λi τ ys H' I=>SqL.of (I.same _ _ hc)) {{_,rfl},'z',zj.refl _} (Bu λv hv=>Ol (G.wd v hv).most 'd') ?_}
  .rw [I.ys,NO,NO,ON];exact aS (by omega)
  .intro τ ys H6 I D H7 n7;rw [rm];have ey:=I.ys;rw [NO,Ob (NV _)] at ey;refine {J.map λz:Str=>z++(" ":Str),by rw [n7.at_,ey],?_,?_}
   .rw [x3,show ("":Str).length=0 by decide];omega
   .rw [uh];ac_rfl;refine {_,rfl,by rw [m8];exact k2,by rw [fN];omega,λH8 s8=>?_};have e0:=But.of (b:=a) (((I.same.trans n7.same).trans s8));obtain ⟨m0,m1⟩:=fR (tx (zR J));have ln:=lH m0 (by omega);have l0:(tx (zR J)).length<=30000:=by rw [fN];omega
    ac_rfl;refine {dj (by omega),ah (by omega),ah (by rw [Pg,show (";":Str).length=1 by decide];omega),q _ H8 (f0.b9 (by omega) rt.s) (b4.trans e0) (Xn.same ((I.same.trans n7.same).trans s8))}
structure OsI(H:Hp)(S:List Str)(a:Addr)(i:Nat)(σ:L2.St)(H':Hp):Prop where
 ex:∃z t1 t2,σ=[some (.ref a),some (V.str z),t1,t2]/\Fit S i z
 but:But a H H'
 vu:Pot H' a
theorem j9:zy ["_law_pot_here","_law_text","_law_way","_law_turn"] Ym (zl pV):=fsc
theorem LC(F:Fun K VO VO pV f fd)(T:Txt K mg A)(Z9:GF P w K mg base true 1 Wo Yw cT)(Z6:GF P w K mg base true 2 Wm Ys fH)(Zl:GF P w K mg base true 3 VX Ym sS)(Zk:GF P w K mg base true 4 VT Ym mP):zp P w K mg base CX0 true 5 f fd Ym mP:=by
 refine F.o j9 λZW Ar outer s H vs Q E hr h=>?_;obtain ⟨a,S,U,rfl,hP,rt,q⟩:=h;have hu:_<cLine:=Oy (zV hr);refine {_,(W.h (zg (zr (i:=2) j9.nd rfl (NZ rfl) (caD (zu Z9 hr rfl (clP (za (zb 0) (za zo zd))))))
   (zg (zL (tD (zF (clO (oE (bS hu))) (clE (zb 2)) (clE zo) (zE _)))
   (zi (zw (cq cV (zb 1) ck (cn (caD (zu Z9 hr rfl (clP (za (zb 0) (za (zT dG rfl T.sL OA (za (zb 1) zd)) zd)))))))))
   zW)
   (zg (zL (tD (zF (clO (oE (bS hu))) (clE (zb 2)) (clE zo) (zE _)))
   (zi (zw (zD bh (zb 1) (caD (zu Z6 hr rfl (clP (za (zb 0) (za (ar (za zx (za zx (za zx (za (zb 1) (za zx zd)))))) zd))))))))
   zW)
   (zg (zL (tD (zF (clO (oI0 mL)) (clE (zb 2)) (clE zo) (zE _)))
   (zg (bI PN.never (λ_=>rfl) (dm rfl T.ri (za (zD bh zo (caD (zu Z9 hr rfl (clP (za (zb 0) (za zo zd)))))) zd)) (zO (i:=3) j9.nd rfl (NZ rfl))
   (zi (zr (i:=1) j9.nd rfl (NZ rfl) (caD (zu Zl hr rfl (clP (za (zb 0) (za (zb 1) zd))))))))
   (zi (zw (zb 1))))
   zW)
   (zi (zw (caD (zu Zk hr rfl (clP (za (zb 0) (za (zb 1) zd)))))))))))),?_}
 have J:=rt.fit (by omega);have ak:=rt.s;have hz:=J.l;have q':∀z' H' n,Fit S n z'->n<=3->But a H H'->Pot H' a->Q (.str z') H':=λz' H' n f h=>q z' H' (f.b9 h ak);have z0:0<(bC (tx (zR U))).length:=by unfold bC;rw [Pg,show (";":Str).length=1 by decide];omega
 ac_rfl;generalize ez:bC (tx (zR U))=z at J hz z0 ⊢;refine {a,_,rfl,hP,'d','d',λy H1 b1 G y0 y1=>?_};have av:z.length<=sizeLine:=ah (by omega);ac_rfl;refine aF (λh0=>?_) λh0=>?_
 .refine {av,a,_,rfl,G,by omega,QQ (show (z.length:Int)<=30000 by omega) 'd',λr H2 b2 O r0 r1=>?_};have e1:OT z none (some r)=tx ((sg z).take r.toNat):=by
   have:=gv (x:=z) (j:=r.toNat) (by rw [zJ];omega);rw [show ((r.toNat:Nat):Int)=r by omega] at this;exact this
  erw [e1];refine {av,q' _ _ 1 (J.one (mv (i:=r.toNat) (k:=z.length) (x:="") J.a (f!"") 'd' ?_)) 'd' (b1.trans b2) O};rw [aL,show sg ("":Str)=[] by decide,Pr,QN (by rw [zJ];omega),Pr]
 ac_rfl;refine aF (λh1=>?_) λh1=>?_
 .refine {'d',λp2 H2 n2 _=>{a,G.same n2.same,.inl {p2,_,rfl,G.ne n2.no,.inl n2.at_,'z','z',λv H3 hv b3 Z=>?_}}};have aI:=(b1.trans (.of n2.same)).trans b3;have one:∀x:Str,asc x=true->x.length<=1->ij (V.str z) (.str x) H3 Q:=λx ax lx=>by
   ac_rfl;refine {ah (by omega),q' _ _ 1 (J.one (mv (i:=z.length) (k:=0) (x:=x) J.a ax lx ?_)) 'd' aI Z};rw [bj,Ob (by rw [zJ];exact NV _),QN (by rw [zJ];omega),Pr]
  simp only [NT,Oh,or_false] at hv;rcases hv with rfl|rfl|rfl|rfl|rfl
  .exact one _ (f!"") 'd'
  .exact one _ (f!"") 'd'
  .exact one _ (f!"") 'd'
  .ac_rfl;exact {ah (by omega),q _ _ (J.twice ak) aI Z}
  .exact one _ (f!"") 'd'
 ac_rfl;refine aF (λh2=>?_) λh2=>?_
 rotate_left
 .rw [<- ez];exact {a,S,U,rfl,G,rt,λz' H' s b p=>q z' H' s (b1.trans b) p}
 refine {a,_,rfl,G,'d','d',λr H2 b2 O r0 r1=>?_};ac_rfl;refine {by omega,by omega,az.rng (OsI H S a) {{z,_,_,rfl,J},b1.trans b2,O} ?_ ?_}
 .rintro i σ H3 hi ⟨⟨z3,t1,t2,rfl,f3⟩,b3,Z⟩;have l3:=f3.l;ac_rfl;exact {a,z3,rfl,Z,f3.a,by omega,λz4 H4 o4 b4 Xn=>{{z4,_,_,rfl,f3.one o4},b3.trans b4,Xn}}
 .rintro σ H3 ⟨⟨z3,t1,t2,rfl,f3⟩,b3,Z⟩;ac_rfl;exact q' _ _ _ f3 (by omega) b3 Z
abbrev pJ:Stmt:=top 76
theorem KB:Qw "ValueError"=some (.type "ValueError"):=by decide +kernel
def yf(K:Frag):Sp:=λvs H Q _=>∃(v:V),vs=[v]/\((∃S z,v = .str z/\Spt S z/\rdZ z=none)\/(∃t,TyX K H v t/\kitOne K t (.type "str")=some false))/\∀H',zj H H'->Q (.bl true) H'
theorem iO:zy ["_law_thing","_law_told","e","_law_others","_law_more"] ["_law_thing"] (zl pJ):=fsc
theorem Ib(F:Fun K V8 V8 pJ f fd)(T:Txt K mg A)(Zx:GX P w K mg base true 8 V4 WQ (lM K A)):zp P w K mg base CX0 true 9 f fd ["_law_thing"] (yf K):=by
 refine F.o iO λZW Ar outer s H vs Q E hr h=>?_;obtain ⟨v,rfl,h,q⟩:=h;have hu:_<cLine:=Oy (zV hr);refine {_,(W.h (zg (zr (i:=1) iO.nd rfl (NZ rfl) zx)
   (zg (GB (i:=2) rfl rfl {rfl,rfl} iO.nd rfl rfl T.Ul rfl T.Ui (λU Ex=>(zi (ay (cXD (fg wW Zx hr rfl (clP (za (zb 0) zd))))))) (λU ea=>by
   have hr:=hr.mark (v:=some (.ref ea));exact (zg (zr (i:=3) iO.nd rfl (NZ rfl) (zT (yI (K:=K) rfl) rfl T.qs Qt (za (zb 2) (za (dv (za (aO rfl T.bK) (za (aO rfl T.bJ) (za (aO rfl T.Um) (za (aO rfl T.aZ) (za (aO rfl T.aW) (za (aO rfl T.aT) (za (aO rfl T.aB) (za (aO rfl T.az) (za (aO rfl T.ay) zd)))))))))) zd))))
   (zg (zr (i:=4) iO.nd rfl (NZ rfl) (zT (yI (K:=K) rfl) rfl T.qs Qt (za (zb 2) (za (dv (za (aO rfl T.aQ) (za (aO rfl T.bb) (za (aO rfl T.VL) (za (aO rfl T.Vz) (za (aO rfl T.ax) (za (aO rfl T.aw) zd))))))) zd))))
   (zi (zL (cg (fJ (kO (K:=K) rfl (zT (vd (K:=K) rfl) rfl T.qs Qt (za (zb 2) (za (aO rfl T.aS) zd)))) (fJ (kO (K:=K) rfl (zT (vd (K:=K) rfl) rfl T.qs Qt (za (zb 2) (za (mf rfl T.UN KB (v:=.ty "ValueError") rfl) zd)))) (fJ (cf (kO (K:=K) rfl (zb 3))) (iI (cf (kO (K:=K) rfl (zb 4))))))))
   (zi (zr (i:=1) iO.nd rfl (NZ rfl) zx))
   zW))))))
   (zi (zw (fk (oE (bS hu)) (zb 1) zx (zE _))))))),?_}
 erw [Bf];refine (show ∀Q' E',(∀H1,zj H H1->E' (.ref A.ny) none H1)->lM K A [v] H Q' E' from λQ' E' k=>{v,rfl,?_}) _ _ λH1 s1=>?_
 .rcases h with ⟨S,z,rfl,h,e⟩|⟨t,ht,hf⟩
  .obtain ⟨N,n1,O⟩:=h.c;exact .inl {z,rfl,h.a,h.l,Ol (jn z) h.w,k7 O (by omega) h.w,λm n u us ts e'=>(by rw [e] at e';cases e'),λ_=>k}
  .exact .inr {t,ht,hf,k H (zj.refl _)}
 refine {_,rfl,T.TV,T.VE,λea oe he ho=>?_};ac_rfl;refine {'d',λtp H2 O=>?_};have J:H2 ea=some (.frz oe (.own 0)):=O.same _ _ zt;refine .inr {.ref ea,tp,_,[.ref A.Full,.ref A.bc,.ref A.E2,.ref A.UU,.ref A.UT,.ref A.US,.ref A.Ua,.ref A.T9,.ref A.T8],.ref A.ny,false,rfl,O.at_,rfl,.exc J ho T.L3,?_,?_}
 .simp only [kitAny,T.Uk,T.Uj,T.L1,T.T4,T.T2,T.T1,T.TU,T.TR,T.TQ]
 ac_rfl;refine {'d',λak H3 Z=>?_};have G:=Z.same _ _ J;refine .inr {.ref ea,ak,_,[.ref A.UR,.ref A.VN,.ref A.TH,.ref A.L4,.ref A.T7,.ref A.T6],.ref A.ny,false,rfl,Z.at_,rfl,.exc G ho T.L3,?_,?_}
 .simp only [kitAny,T.TY,T.Ue,T.Tx,T.S2,T.TN,T.TM]
 ac_rfl;refine {_,_,_,_,_,rfl,rfl,.exc G ho T.L3,T.TZ,?_};ac_rfl;refine {_,_,_,_,_,rfl,rfl,.exc G ho T.L3,T.Q2,?_};erw [decide_true];exact q H3 λa o e=>Z.same _ _ (O.same _ _ (by rw [zh (zQ (s1 _ _ e) he)];exact s1 _ _ e))
abbrev nD:Stmt:=top 77
def dO(t:Tab)(zs:List Str):Tab:=zs.map λn=>(n,lk t n)
noncomputable def h8(ks:List (Str×Tab))(zs:List Str):List (Str×Tab):=zs.map λn=>(n,dO (kkT ks n) (zP (names (kkT ks n))))
theorem wD{α:Type}{t:List (Str×α)}{a:α}(h:look t n=none):zA t n a=t++[(n,a)]:=by unfold zA;rw [h];rfl
def ltS(a b:Str):Prop:=a.cps.toList<b.cps.toList
theorem CF(nd:ks.Nodup):(zP ks).Pairwise ltS:=by
 obtain ⟨p,h⟩:=bU ks;have z:(zP ks).Nodup:=p.nodup_iff.mpr nd;refine (h.and z).imp λ{a b} ⟨h1,h2⟩=>OP λc=>h2 (uL h1 ?_);unfold leS;rw [ltCps_eq];exact decide_eq_false c
theorem vG(h:ao n=true):∃c r,sg n=c::r/\(sg LET).contains c=true:=by
 unfold ao aG at h;rw [Od,Od,decide_eq_true_eq,Ot] at h;cases e:sg n with
 | nil=>have:=h.1.1;rw [<- zJ,e] at this;simp at this
 | cons c r=>exact {c,r,rfl,h.2 c (by rw [e];exact NX ..)}
theorem Lr(h:ao n=true):ltS "" n:=by
 obtain ⟨c,r,e,_⟩:=vG h;show ([]:List Nat)<sg n;rw [e];exact List.nil_lt_cons c r
theorem yK(h:ao n=true):zH n=false:=by
 obtain ⟨c,r,e,hc⟩:=vG h;rw [Pu];intro z;unfold zH aG at z;rw [Od,Od,Ot] at z;have:=z.1.2 c (by rw [e];exact NX ..);have k:∀c∈sg LET,(sg FIG).contains c=false:=by decide +kernel
 rw [k c (Pz.mp hc)] at this;cases this
theorem h7(z:0<=i)(h1:i<10 ^ 18):zZ (toString i:Str)=i:=jy (iL z h1).back
theorem jo(z:0<=i)(h1:i<10 ^ 18)(ws:List Str):zG ((toString i:Str)::ws)=some (i,ws):=by rw [fS,if_pos (il ⟨z,h1⟩),h7 z h1]
theorem yy{t:Tab}(gm:aV t)(r:List Str):∀(zs:List Str)(ZZ:Tab)(y:Str),(∀n∈zs,n∈names t)->(y::zs).Pairwise ltS->dQ ZZ y->ai zs.length ZZ y (cb t zs++r)=some (ZZ++dO t zs,r)
 | [],ZZ,y,_,_,_=>by show some (ZZ,[]++r)=_;rw [Q3];unfold dO;rw [map_nil,Pr]
 | n::zs,ZZ,y,G,hp,U=>by
  obtain ⟨l,hl,O,l1,l2,J⟩:=gm.lk (G n (NX ..));obtain ⟨p1,p2⟩:=Pf.mp hp;have F:y.cps.toList<n.cps.toList:=p1 n (NX ..);have e:cb t (n::zs)++r=n::(toString ((lk t n).length:Int):Str)::((lk t n).map (λx=>(toString x:Str))++(cb t zs++r)):=by simp [cb]
  rw [e,O,OJ,IB,if_pos {gm.nm n (G n (NX ..)),F}];have nx:zH (toString (l.length:Int):Str)=true:=il {by omega,by omega};have S:zZ (toString (l.length:Int):Str)=l.length:=h7 (by omega) (by omega);have lm:(l.map λx=>(toString x:Str)).length=l.length:=NO ..;have Z:(toString (l.length:Int):Str)≠"0":=λz=>by
   have:=(pA nx).mpr z;rw [S] at this;omega
  rw [if_pos ⟨nx,Z⟩,S,Qg,<- lm,List.take_left,List.drop_left];have ha:(l.map λx=>(toString x:Str)).all zH=true:=by
   rw [Ot];intro z hz;obtain ⟨x,hx,rfl⟩:=OE.mp hz;exact il (J x hx)
  rw [if_pos {by rw [Ov];omega,ha}];have W:(l.map λx=>(toString x:Str)).map zZ=l:=by
   rw [PK];exact (Pd λx hx=>h7 (J x hx).1 (J x hx).2).trans (map_id _)
  rw [W,yy gm r zs (zA ZZ n l) n (λm hm=>G m (NR _ hm)) p2 (U.put F),wD (U.new F)];unfold dO;rw [Pi,O,OR];rfl
theorem gL:∀n∈zP zs,n∈zs:=λn z=>(bU _).1.mem_iff.mp z
theorem v3{α:Type}{t:List (Str×α)}:(zP (names t)).length=t.length:=by rw [(bU _).1.length_eq];simp [names]
theorem vz(h:zs.Nodup)(z:∀n∈zs,ao n=true):(("":Str)::zP zs).Pairwise ltS:=Pf.mpr {λn h=>Lr (z n (gL n h)),CF h}
theorem yY{t:Tab}(gm:aV t)(r:List Str):rdT (bR t++r)=some (dO t (zP (names t)),r):=by
 have hl:=gm.len;have e:=yy gm r (zP (names t)) [] "" gL (vz gm.nd gm.nm) j8;unfold rdT bR;rw [PZ,jo (by omega) (by omega)];show ai (t.length:Int).toNat [] "" _=_;rw [Qg,<- v3];exact e
theorem uD(gk:cW ks)(r:List Str):∀(zs:List Str)(ZZ:List (Str×Tab))(y:Str),(∀n∈zs,n∈names ks)->(y::zs).Pairwise ltS->dQ ZZ y->rdK zs.length ZZ y (aR ks zs++r)=some (ZZ++h8 ks zs,r)
 | [],ZZ,y,_,_,_=>by show some (ZZ,r)=_;unfold h8;rw [map_nil,Pr]
 | n::zs,ZZ,y,F,hp,J=>by
  obtain ⟨u,hl,G,S⟩:=gk.lk (F n (NX ..));obtain ⟨O,p2⟩:=Pf.mp hp;have z:y.cps.toList<n.cps.toList:=O n (NX ..);have e:aR ks (n::zs)++r=n::(bR (kkT ks n)++(aR ks zs++r)):=by simp [aR]
  rw [e,G];show ((bw y (n::(bR u++(aR ks zs++r)))).bind λa=>(rdT a.2).bind λc=>rdK zs.length (zA ZZ a.1 c.1) a.1 c.2)=_;rw [lh,if_pos {gk.nm n (F n (NX ..)),z}];show ((rdT (bR u++(aR ks zs++r))).bind λc=>rdK zs.length (zA ZZ n c.1) n c.2)=_;rw [yY S];show rdK zs.length (zA ZZ n (dO u (zP (names u)))) n (aR ks zs++r)=_;rw [uD gk r zs (zA ZZ n _) n (λm hm=>F m (NR _ hm)) p2 (J.put z),wD (J.new z)];unfold h8;rw [Pi,G,OR];rfl
theorem Dr{t:Tab}(gm:aV t)(gk:cW ks)(r:List Str):rdF (cI t ks++r)=some ((dO t (zP (names t)),h8 ks (zP (names ks))),r):=by
 have hl:=gk.len;have e:=uD gk r (zP (names ks)) [] "" gL (vz gk.nd gk.nm) j8;unfold rdF cI;rw [OR,yY gm];show ((zG ((toString (ks.length:Int):Str)::(aR ks (zP (names ks))++r))).bind _)=_;rw [jo (by omega) (by omega)];show (rdK (ks.length:Int).toNat [] "" _).map _=_;rw [Qg,<- v3,e];rfl
theorem xi:∀{ts:List T3},(∀t∈ts,0<=t.1/\t.1<10 ^ 17)->jf ts->(aT ts).all zH=true/\cy (aT ts)=ts
 | [],_,_=>{rfl,rfl}
 | t::ts,h,r=>by
  obtain ⟨i1,i2⟩:=xi (ts:=ts) (λu z=>h u (NR _ z)) (λu z=>r u (NR _ z));have h1:=h t (NX ..);have h2:=r t (NX ..);have e:aT (t::ts)=(toString t.1:Str)::(toString t.2.1:Str)::(toString t.2.2:Str)::aT ts:=by simp [aT]
  rw [e,Tv,Tv,Tv,i1,il {h1.1,by omega},il {h2.1.1,by omega},il {h2.2.1,by omega}];refine {rfl,?_};show (zZ _,zZ _,zZ _)::cy (aT ts)=_;rw [i2,h7 h1.1 (by omega),h7 h2.1.1 (by omega),h7 h2.2.1 (by omega)]
theorem pF{t:Tab}(gm:aV t)(y:Int):y∈zI (dO t (zP (names t)))↔y∈zI t:=by
 rw [cJ,cJ];constructor
 .rintro ⟨p,hp,z⟩;obtain ⟨n,G,rfl⟩:=OE.mp hp;obtain ⟨l,hl,F,_⟩:=gm.lk (gL n G);exact {(n,l),dq hl,by rw [<- F];exact z}
 .rintro ⟨p,hp,z⟩;have e:=gF gm.nd (show (p.1,p.2)∈t from hp);exact {(p.1,lk t p.1),OE.mpr {p.1,(bU _).1.mem_iff.mpr (OE.mpr {p,hp,rfl}),rfl},by unfold lk;rw [e];exact z}
theorem JQ{t:Tab}(gm:aV t)(gk:cW ks)(y:Int):y∈aa (dO t (zP (names t))) (h8 ks (zP (names ks)))↔y∈aa t ks:=by
 rw [dE,dE,pF gm];refine or_congr_right {?_,?_}
 .rintro ⟨p,hp,z⟩;obtain ⟨n,J,rfl⟩:=OE.mp hp;obtain ⟨u,hl,G,O⟩:=gk.lk (gL n J);exact {(n,u),dq hl,by rw [G] at z;exact (pF O y).mp z}
 .rintro ⟨p,hp,z⟩;have e:=gF gk.nd (show (p.1,p.2)∈ks from hp);have F:kkT ks p.1=p.2:=by unfold kkT;rw [e];rfl
  exact {_,OE.mpr {p.1,(bU _).1.mem_iff.mpr (OE.mpr {p,hp,rfl}),rfl},by show y∈zI (dO (kkT ks p.1) _);rw [F];exact (pF (gk.gm p hp) y).mpr z}
theorem Mh{t:Tab}(gm:aV t)(gk:cW ks)(F:gz ts m n)(J:(ts.map (·.1)).Perm (uniq (aa t ks)))(so:(ts.map (·.1)).Pairwise (·<=·)):∃c,rdZ (fG m n t ks ts)=some ((m,n),c,ts):=by
 refine {(dO t (zP (names t)),h8 ks (zP (names ks))),?_};have wd:=(lX gm gk F).1;have few:=F.few;obtain ⟨t1,t2⟩:=xi F.b F.r;have O:=(jk F.b F.r).2;have G:∃a,zR (bJ m n t ks ts)=a++[32]:=by
  have:∀(v:Str)(W:List Str),∃a,zR (v::W)=a++[32]:=λv W=>{_,(AQ v W).symm};exact this _ _
 have S:=IM G;have U:wds (z7 (tx (zR (bJ m n t ks ts))))=bJ m n t ks ts:=by
  have h1:=xl (b:=tx (zR (bJ m n t ks ts))) (by rw [aL];exact G);have h2:=pR (x:=[]) 'z' λv hv=>(wd v hv).no;rw [Pr] at h2;rw [bL,aL,h2,OI,PK,show (tx∘sg)=id from funext λz=>gM z,map_id] at h1;exact (List.append_cancel_right h1).symm
 unfold rdZ dR fG;rw [S,if_pos rfl];show bN (wds (z7 (tx (zR (bJ m n t ks ts)))))=_;rw [U];unfold bJ;rw [bN,if_pos rfl,jo F.m.1 F.m.2];show (zG ((toString n:Str)::_)).bind _=_;rw [jo F.n.1 F.n.2];show (rdF (cI t ks++(toString (ts.length:Int):Str)::aT ts)).bind _=_;rw [Dr gm gk];show ((zG ((toString (ts.length:Int):Str)::aT ts)).bind _).bind _=_;rw [jo (by omega) (by omega)];show (aX (ts.length:Int).toNat [] (aT ts)).bind _=_;rw [Qg,o8 _ _ _ O,if_pos t1,t2];show (if _/\dn _ ts=true then _ else _)=_;refine if_pos {rfl,i5.mpr {J.trans ((PM dH dH).mpr λy=>by rw [fA,fA];exact (JQ gm gk y).symm),so}}
theorem yM{ts us ws:List T3}(nd:(ts.map (·.1)).Nodup)(z:us.Perm ts)(s1:(us.map (·.1)).Pairwise (·<=·))(p2:ws.Perm ts)(s2:(ws.map (·.1)).Pairwise (·<=·)):us=ws:=by
 have e:us.map (·.1)=ws.map (·.1):=nr s1 s2 ((z.map _).nodup_iff.mpr nd) ((p2.map _).nodup_iff.mpr nd) λy=>by rw [(z.map _).mem_iff,(p2.map _).mem_iff]
 have f:∀vs:List T3,vs.Perm ts->(vs.map (·.1)).map (eR ts)=vs:=λvs p=>by
  rw [PK];exact (Pd λt F=>kQ nd (p.mem_iff.mp F)).trans (map_id _)
 rw [<- f us z,e,f ws p2]
theorem Io{as bs:List Addr}(h1:Paired (c0 H) as us)(h2:Paired (c0 H) bs us)(j:Nat)(p q:V)(F:(as.map V.ref)[j]?=some p)(G:(bs.map V.ref)[j]?=some q):EqR H p q true:=by
 rw [Oe] at F G;obtain ⟨x,hx,rfl⟩:=Ou.mp F;obtain ⟨y,J,rfl⟩:=Ou.mp G;have O:j<us.length:=by rw [<- cZ h1];exact (NU.mp hx).1
 have z:us[j]?=some us[j]:=NL O;have f:[V.int us[j].1,.int us[j].2.1,.int us[j].2.2].all ae=true:=rfl;exact {x,y,_,_,rfl,rfl,eX h1 hx z,eX h2 J z,f,f,(qh f λx hx b e=>by subst e;simp at hx).symm}
structure Rr(H:Hp)(z:Str)(sl nl:Addr)(as:List Addr)(S:List Str)(c:Tab×List (Str×Tab))(ts:List T3)(m n:Int):Prop where
 f:Spt S z
 rd:rdZ z=some ((m,n),c,ts)
 ok:ia ts
 so:(ts.map (·.1)).Pairwise (·<=·)
 sl:H sl=some (.lst (as.map V.ref))
 pr:Paired (c0 H) as ts
 nl:H nl=some (.lst [.int n,.int (m+1)])
def vX:Sp:=λvs H Q _=>∃z sl nl as S c ts m n,vs=[.str z,.ref sl,.ref nl]/\Rr H z sl nl as S c ts m n/\∀H',zj H H'->Q (.bl true) H'
theorem wN:zy ["_law_text","_law_spots_here","_law_numbers","_law_state"] WK (zl nD):=fsc
theorem DP(F:Fun K V7 V7 nD f fd)(T:Txt K mg A)(Zx:GX P w K mg base true 8 V4 WQ (lM K A))(ZX:GM P w K mg base true 1 A.State Wj Zj (pW A))(ZY:GM P w K mg base true 1 A.State Wk Zj (pQ A))(ZL:GM P w K mg base true 1 A.State V0 Zj (oS A)):zp P w K mg base CX0 true 9 f fd WK vX:=by
 refine F.o wN λZW Ar outer s H vs Q E hr h=>?_;obtain ⟨z,sl,nl,as,S,c,ts,m,n,rfl,R,q⟩:=h;have hu:_<cLine:=Oy (zV hr);refine {_,(W.h (zg (zr (i:=3) wN.nd rfl (NZ rfl) (cXD (fg Kk Zx hr rfl (clP (za (zb 0) zd)))))
   (zi (zw (anD (jQ (clE (fk (BA (zV hr)) (m0D (cc (clE (zb 3)) T.ot ZL hr)) (zb 1) (zE _))) (iN (fk (oE (bS hu)) (ar (za (m0D (cc (clE (zb 3)) T.ot ZX hr)) (za (m0D (cc (clE (zb 3)) T.ot ZY hr)) zd))) (zb 2) (zE _))))))))),?_}
 ac_rfl;obtain ⟨N,n1,n2⟩:=R.f.c;refine {_,rfl,.inl {z,rfl,R.f.a,R.f.l,Ol (jn z) R.f.w,k7 n2 (by omega) R.f.w,λm' n' u us ax e=>?_,λe=>by rw [R.rd] at e;cases e}};rw [R.rd] at e;cases e;refine {R.ok,λx fx b k d H1 s1 st=>?_};obtain ⟨dx,U⟩:=st.ob;erw [U,tE];refine {x,fx,b,k,d,_,_,_,_,_,rfl,st,λl bs vs H2 s2 av hl pb pv sv=>?_};have ev:vs=ts:=yM R.ok.nd pv sv (.refl _) R.so;subst ev;have G:zj H H2:=s1.trans s2;have Z:Paired (c0 H2) as vs:=Paired.J7 R.pr λ_ _ e=>G _ _ e;have la:=cZ R.pr;have lb:=cZ pb;have ak:=G _ _ R.sl;erw [hl,ak];refine .inr {by rw [NO,NO];omega,λ_=>true,λj p q U e2=>Io pb Z j p q U e2,?_};rw [show (O0 (bs.map V.ref).length).all (λ_=>true)=true by simp];have O:=st.same s2;obtain ⟨X3,J⟩:=O.ob;erw [J,jv,jC];refine {x,fx,b,k,d,_,_,_,_,_,rfl,O,?_};erw [J,jv,jC];refine {x,fx,b,k,d,_,_,_,_,_,rfl,O,?_};ac_rfl;refine {'d',λp H3 n3 _=>{_,n3.at_,_,n3.same _ _ (G _ _ R.nl),rfl,rfl,?_}};rw [show eqL [V.int n,V.int (m+1)] [V.int n,V.int (m+1)]=true from AV [n,m+1]];exact q _ (G.trans n3.same)
end
abbrev kX:Stmt:=top 78
theorem Bud.uniq{t:Tab}(h:Bud t ks B):(L2.uniq (aa t ks)).length<=B:=let ⟨L,hL,hm⟩:=h.live;Ol (jA dH λy z=>hm y (fA.mp z)) hL
theorem ma{t u:Tab}(al:bg t u)(nt:(names t).Nodup)(h:y∈zI t):y∈zI u:=by
 obtain ⟨p,hp,z⟩:=cJ.mp h;have e:=gF nt (show (p.1,p.2)∈t from hp);rw [al] at e;exact cJ.mpr {_,dq e,z}
theorem tY{t u:Tab}(h:bg t u):bg u t:=λn=>(h n).symm
theorem Kf{t u:Tab}(al:bg t u)(nt:(names t).Nodup)(W:(names u).Nodup)(kal:KAl ks ku)(O:(names ks).Nodup)(J:(names ku).Nodup)(U:∀p∈ku,(names p.2).Nodup)(y:Int):y∈aa t ks↔y∈aa u ku:=by
 rw [dE,dE];constructor
 .rintro (h|⟨p,hp,h⟩)
  .exact .inl (ma al nt h)
  .have e:=gF O (show (p.1,p.2)∈ks from hp);rcases kal p.1 with ⟨v,w,z,F,G,S⟩|⟨z,_⟩
   .rw [e] at z;cases z;exact .inr {_,dq F,ma G S h}
   .rw [e] at z;cases z
 .rintro (h|⟨p,hp,h⟩)
  .exact .inl (ma (tY al) W h)
  .have e:=gF J (show (p.1,p.2)∈ku from hp);rcases kal p.1 with ⟨v,w,z,F,G,S⟩|⟨_,F⟩
   .rw [e] at F;cases F;exact .inr {_,dq z,ma (tY G) (U p hp) h}
   .rw [e] at F;cases F
theorem fm.cf{a kd:Addr}(h:fm H a X kd ku):∀p∈ku,(names p.2).Nodup:=λp hp=>by
 obtain ⟨kvs,_,d⟩:=h.ex;obtain ⟨j,z,F⟩:=PX hp;have G:j<kvs.length:=by rw [d.length];exact z
 obtain ⟨J,e,q,_,_,pl⟩:=Dct.at d (NL G);rw [NL z,F] at e;cases e;exact pl.nd
theorem ui{t:Tab}(nd:(names t).Nodup)(few:t.length<=16)(row:∀n,(lk t n).length<=16)(ne:∀n l,look t n=some l->l≠[])(g:GdT t):aV t:=by
 refine {nd,few,λn F=>?_,λp hp=>?_}
 .obtain ⟨p,hp,rfl⟩:=OE.mp F;exact (g p hp).1
 .have e:=gF nd (show (p.1,p.2)∈t from hp);have z:lk t p.1=p.2:=by unfold lk;rw [e];rfl
  have h1:=RE.mpr (ne _ _ e);have h2:=row p.1;rw [z] at h2;exact {h1,h2,λx hx=>by have:=(g p hp).2 x hx;omega}
theorem Bud.good{t:Tab}(h:Bud t ks B)(z:B<=16)(nt:(names t).Nodup)(F:(names ks).Nodup)(J:∀p∈ks,(names p.2).Nodup)(few:ks.length<=3):aV t/\cW ks:=by
 refine {ui nt (Ol h.few z) (λn=>Ol (h.row n) z) h.ne h.gt,F,few,λn G=>?_,λp hp=>?_}
 .obtain ⟨p,hp,rfl⟩:=OE.mp G;exact (h.gk p hp).1
 .have o:=h.old p hp;have g:=h.gk p hp;exact ui (J p hp) (Ol o.1 z) (λn=>Ol (o.2 n) z) g.2.2 g.2.1
theorem KAl.cf(h:KAl ks ku)(F:(L2.names ks).Nodup):∀p∈ks,(L2.names p.2).Nodup:=λp hp=>by
 have e:=gF F (show (p.1,p.2)∈ks from hp);rcases h p.1 with ⟨v,w,z,_,_,nd⟩|⟨z,_⟩
 .rw [e] at z;cases z;exact nd
 .rw [e] at z;cases z
theorem SqL.sm{K:Frag}{a:Addr}(h:SqL K H a xs)(s:zj H H'):SqL K H' a xs:=by
 rcases h with (h|⟨o,h⟩)|h
 .exact .inl (.inl (s _ _ h))
 .exact .inl (.inr {o,s _ _ h})
 .exact .inr h
theorem Bud.rng{t:Tab}(h:Bud t ks B):∀y∈aa t ks,0<=y/\y<10 ^ 17:=λy z=>by
 rcases dE.mp z with z|⟨p,hp,z⟩
 .obtain ⟨p,hp,z⟩:=cJ.mp z;exact (h.gt p hp).2 y z
 .obtain ⟨r,hr,z⟩:=cJ.mp z;exact ((h.gk p hp).2.1 r hr).2 y z
def SM:List Str:=(O0 32).map λ(k:Nat)=>(toString (k:Int):Str)
theorem gW{S:List Str}(h:∀v∈SM,v∈S){i:Int}(z:0<=i)(h1:i<32):(toString i:Str)∈S:=h _ (OE.mpr {i.toNat,RS.mpr (by omega),by show (toString ((i.toNat:Nat):Int):Str)=_;rw [Int.toNat_of_nonneg z]})
theorem Ae{S:List Str}(h:∀v∈SM,v∈S){t:Tab}(gm:aV t)(hb:∀y∈zI t,(toString y:Str)∈S):∀v∈bR t,zH v=true->v∈S:=λv hv e=>by
 have hl:=gm.len;unfold bR at hv;rcases NT.mp hv with rfl|hv
 .exact gW h (by omega) (by omega)
 .obtain ⟨n,z,hv⟩:=SJ.mp hv;have z:=gL n z;obtain ⟨l,hl,F,G,O,J⟩:=gm.lk z;rw [F] at hv;rcases NT.mp hv with rfl|hv
  .rw [yK (gm.nm _ z)] at e;cases e
  rcases NT.mp hv with rfl|hv
  .exact gW h (by omega) (by omega)
  .obtain ⟨x,hx,rfl⟩:=OE.mp hv;exact hb x (cJ.mpr {(n,l),dq hl,hx})
theorem Lh{S:List Str}(h:∀v∈SM,v∈S){t:Tab}(gm:aV t)(gk:cW ks)(J:gz ts m n)(hb:∀y∈aa t ks,(toString y:Str)∈S)(U:∀t'∈ts,t'.1∈aa t ks)(Z:m<32)(z:(toString n:Str)∈S)(few:ts.length<32):∀v∈bJ m n t ks ts,zH v=true->v∈S:=λv hv e=>by
 have hl:=gk.len;unfold bJ at hv;rcases NT.mp hv with rfl|hv
 .exact absurd e (f!"")
 rcases NT.mp hv with rfl|hv
 .exact gW h J.m.1 Z
 rcases NT.mp hv with rfl|hv
 .exact z
 rcases Ox.mp hv with hv|hv
 .unfold cI at hv;rcases Ox.mp hv with hv|hv
  .exact Ae h gm (λy G=>hb y (dE.mpr (.inl G))) v hv e
  rcases NT.mp hv with rfl|hv
  .exact gW h (by omega) (by omega)
  obtain ⟨n,z,hv⟩:=SJ.mp hv;have z:=gL n z;obtain ⟨u,hl,O,W⟩:=gk.lk z;rw [O] at hv;rcases NT.mp hv with rfl|hv
  .rw [yK (gk.nm _ z)] at e;cases e
  .exact Ae h W (λy G=>hb y (dE.mpr (.inr {(n,u),dq hl,G}))) v hv e
 rcases NT.mp hv with rfl|hv
 .exact gW h (by omega) (by omega)
 obtain ⟨t',F,hv⟩:=SJ.mp hv;have r:=J.r t' F;simp only [NT,Oh,or_false] at hv;rcases hv with rfl|rfl|rfl
 .exact hb _ (U t' F)
 .exact gW h r.1.1 (by omega)
 .exact gW h r.2.1 r.2.2
theorem FH:∀v∈WC,zH v=true->v∈SM:=λv hv e=>by
 have h:(WC.all λv=>!zH v||SM.contains v)=true:=by decide +kernel
 have h:=Ot.mp h v hv;rw [e] at h;exact Pz.mp h
def NM:List Str:=["",";","mark","mark 0 0 0 0 0 "," ","mark;","0;"," 0;"]
theorem HW:∀z∈NM,Spt [] z/\rdZ z=none:=λz hz=>by
 have h:(NM.all λz=>asc z&&decide (z.length<=20)&&decide ((wds z).length<=20)&&(decide (dR z=none)||decide (dR z=some "")))=true:=by decide +kernel
 have h:=Ot.mp h z hz;rw [Od,Od,Od,decide_eq_true_eq,decide_eq_true_eq,Bool.or_eq_true,decide_eq_true_eq,decide_eq_true_eq] at h;refine {{h.1.1.1,Ol h.1.1.2 'd',Ol h.1.2 'd',wds z,Ol h.1.2 'd',λv hv _=>hv},?_};unfold rdZ;rcases h.2 with e|e
 .rw [e];rfl
 .rw [e];have F:wds (z7 "")=[("":Str)]:=by
   have:z7 "" = "":=by decide +kernel
   rw [this,bL];decide +kernel
  show bN (wds (z7 ""))=none;rw [F];exact Aj (f!"")
section
variable {P:NW}{w:Oc}{K:Frag}{mg:Str->Option Value}{base:Heap}{A:zk}
theorem Kl(h:Thg H v)(n:∀z,v≠.str z):∃t,TyX K H v t/\kitOne K t (.type "str")=OG false:=by
 cases h with
 | non=>exact {_,.of .non,rfl}
 | bl b=>exact {_,.of (.bl b),rfl}
 | int i=>exact {_,.of (.int i),rfl}
 | str x=>exact absurd rfl (n x)
 | lst h=>exact {_,.of (.lst h),rfl}
 | tup h=>exact {_,.of (.tup h),rfl}
 | dic h=>exact {_,.of (.dK h),rfl}
structure LwI(H0:Hp)(sc:Addr)(i:Nat)(σ:L2.St)(H':Hp):Prop where
 ex:∃t1 t2 t3 t4 t5 t6 t7 t8 t9 t10,σ=[some (V.ref sc),t1,t2,t3,t4,t5,t6,t7,t8,t9,t10]
 same:zj H0 H'
structure TuI(H3:Hp)(a sc p d kd sl nl:Addr)(j:Int)(z:Str)(i:Nat)(σ:L2.St)(H':Hp):Prop where
 ex:∃t1 t2,σ=[some (V.ref sc),some (.int j),some (.ref a),some (.ref p),some (.ref d),some (.ref kd),some (.ref sl),some (.ref nl),some (.str z),t1,t2]
 but:But a H3 H'
 vu:Pot H' a
structure AlI(H:Hp)(i:Nat)(τ:L2.St)(ys:List V)(H':Hp):Prop where
 ex:∃t,τ=[t]
 ys:ys=(Pc i true).map V.bl
 same:zj H H'
 le:i<=8
def ko(K:Frag):Sp:=λvs H Q _=>∃(a:Addr)(ns:List Int),vs=[.ref a]/\SqL K H a (ns.map V.int)/\ns.length<=63/\∀H',Q (.bl true) H'
theorem dZ:zy XR Wp (zl kX):=fsc
theorem MS:bO { kind:=.function,names:=[(NS ".0",.local),(NS "_law_text",.local),(NS "_law_refused",.globalImplicit)],isGenerator:=false,isCoroutine:=false,more:=[] } (zl kX).names XR Xm [none]=true:=by decide +kernel
theorem GE:(Xm:List Str).Nodup:=by decide +kernel
theorem Fe(F:Fun K "law" "law" kX f fd)(T:Txt K mg A)(YG:GF P w K mg base true 2 "_law_pot" XO (yC K))(YY:GF P w K mg base true 9 "_law_files" WN (wB A))(YX:GF P w K mg base true 2 "_law_spots" WG xY)(YW:GF P w K mg base true 2 "_law_above" XM uY)(Z9:GF P w K mg base true 1 Wo Yw cT)(YM:GC P w K mg base true 5 "State" A.State Yt (rA A))(YN:GF P w K mg base true 7 "mark_text" ["state"] (vF A))(Zb:GF P w K mg base true 5 VO Ym mP)(ZJ:GF P w K mg base true 9 V7 WK vX)(ZD:GF P w K mg base true 5 VV Xm Bj)(ZH:GF P w K mg base true 9 V8 ["_law_thing"] (yf K))(Z6:GF P w K mg base true 2 Wm Ys fH):zp P w K mg base CX0 true 11 f fd Wp (ko K):=by
 refine F.o dZ λZW Ar outer s H vs Q E hr h=>?_;obtain ⟨sc,ns,rfl,hS,hl,q⟩:=h;have hu:_<cLine:=Oy (zV hr);refine {_,(W.h (zg (bI PN.never (λ_=>rfl) (dm rfl T.ri (za (zT (pe rfl) rfl T.aK boot_max (za zo (za (zT (Jl rfl) rfl T.bZ boot_min (za (zT nR rfl T.sL OA (za (zb 0) zd)) (za zo zd))) zd))) zd)) (zO (i:=1) dZ.nd rfl (NZ rfl))
   (zg (zr (i:=2) dZ.nd rfl (NZ rfl) (caD (zu YG hr rfl (clP (za (zb 0) (za (zb 1) zd))))))
   (zg (cO (caD (zu YY hr rfl (clP (za (zb 2) zd)))) (iZ (n:=3) (gsD (bz (zO (i:=3) dZ.nd rfl (NZ rfl)) (gsD (bz (zO (i:=4) dZ.nd rfl (NZ rfl)) (gsD (bz (zO (i:=5) dZ.nd rfl (NZ rfl)) gj))))))))
   (zg (zr (i:=6) dZ.nd rfl (NZ rfl) (caD (zu YX hr rfl (clP (za (zb 2) (za (zb 4) (za (zb 5) zd)))))))
   (zg (zr (i:=7) dZ.nd rfl (NZ rfl) (ar (za (caD (zu YW hr rfl (clP (za (zb 2) (za (zb 6) zd))))) (za (zD bh (caD (zu Z9 hr rfl (clP (za (zb 2) (za zo zd))))) zo) zd))))
   (zg (zr (i:=8) dZ.nd rfl (NZ rfl) (caD (zu YN hr rfl (clP (za (rP YM hr rfl (za (zb 3) (za (zb 6) (za (aN hU (zb 7) zo (λ_ _=>rfl)) (za (zD (oI0 ju) (aN hU (zb 7) zo (λ_ _=>rfl)) zo) zd))))) zd)))))
   (zg (bI PN.never (λ_=>rfl) (dm rfl T.ri (za zo zd)) (zO (i:=9) dZ.nd rfl (NZ rfl))
   (zg (zr (i:=10) dZ.nd rfl (NZ rfl) (caD (zu Zb hr rfl (clP (za (zb 2) (za (zb 8) zd))))))
   (zg (zL (cf (cE (caD (zu ZJ hr rfl (clP (za (zb 8) (za (zb 6) (za (zb 7) zd))))))))
   (zi (zw dA))
   zW)
   (zi (zL (cg (fJ (cf (cE (caD (zu ZD hr rfl (clP (za (zb 10) zd)))))) (iI (cf (cE (caD (zu ZH hr rfl (clP (za (zb 10) zd)))))))))
   (zi (zw dA))
   zW)))))
   (zg (zL (cg (cG (cf (cE (caD (zu ZD hr rfl (clP (za (zb 8) zd)))))) (eK (cf (cE (caD (zu ZJ hr rfl (clP (za (zb 8) (za (zb 6) (za (zb 7) zd)))))))))))
   (zi (zw dA))
   zW)
   (zi (zL (cf (cE (caD (zu ZH hr rfl (clP (za (caD (zu Z6 hr rfl (clP (za (zb 2) (za (ar (za aP (za zo (za dA (za (ar zd) (za (dv zd) (za eG (za (ar (za (zb 8) zd)) (za (dv (za (zb 8) zd)) (za dA (za (kY mI zo) zd))))))))))) zd))))) zd))))))
   (zi (zw dA))
   zW))))))))))
   (zi (zw (zT (v8 rfl) rfl T.bu boot_all (za (cY (λ_=>rfl) (aA.of MS) (liD (cQ (clE (ar (za zx (za zx (za zx (za zx (za zx (za zx (za zx (za zx zd)))))))))))) (λ_ _ _ _ _=>(zO (i:=0) GE rfl (NZ rfl))) (λ_ _ _ _ _=>di) (λ_ _ _ _ _=>(caD (zu ZH hr rfl (clP (za (zb 0) zd)))))) zd)))))),?_}
 ac_rfl;refine {_,.inl hS,?_};rw [NO];have hN:∃N:Nat,(if (if 3<(ns.length:Int) then 3 else (ns.length:Int))>1 then if 3<(ns.length:Int) then 3 else (ns.length:Int) else 1)=(N:Int)/\N<=3:=by
  by_cases h1:3<(ns.length:Int)
  .rw [if_pos h1];exact {3,rfl,'d'}
  .rw [if_neg h1];split
   .exact {ns.length,rfl,by omega}
   .exact {1,rfl,'d'}
 obtain ⟨N,eN,d4⟩:=hN;rw [eN,Qg];refine {by omega,by omega,az.rng (LwI H sc) {{_,_,_,_,_,_,_,_,_,_,rfl},zj.refl _} ?_ ?_}
 .rintro i σ H0 hi ⟨⟨t1,t2,t3,t4,t5,t6,t7,t8,t9,dk,rfl⟩,s0⟩;have ej:(0+(i:Int))=((i:Nat):Int):=by omega
  erw [ej];refine {sc,ns,i,rfl,(SqL.sm hS s0),by omega,λa H1 s1 a0 da=>?_};ac_rfl;refine {a,rfl,da,λtp p d kd b k t u ks ku B H2 b2 cp R2 hB np nb nk nd dV=>?_};refine {tp,_,rfl,SqT.of cp,rfl,?_};have mem:=Kf R2.al R2.files.mu.nd R2.plain.nd R2.kal R2.files.Vv R2.kept.nd R2.kept.cf;have dg:=R2.bud.uniq;have dK:(uniq (aa u ku)).length<=B:=Ol (jA dH λy hy=>fA.mpr ((mem y).mpr (fA.mp hy))) dg;have dt:=R2.kal.len R2.files.Vv R2.kept.nd;have dp:=R2.few;ac_rfl;refine {a,d,kd,_,u,ku,rfl,R2.vu,R2.plain,R2.kept,by omega,by omega,λsl as ts H3 b3 P3 cD Xp a7 pm so rg=>?_};have d1:ts.length<=B:=by have:=pm.length_eq;rw [NO] at this;omega
  ac_rfl;have bb:∀t'∈ts,t'.1∈aa t ks:=λt' a6=>(mem _).mpr (fA.mp (pm.mem_iff.mp (OE.mpr {t',a6,rfl})));have bp:∀t∈ts,0<=t.1/\t.1<10 ^ 17:=λt' a6=>R2.bud.rng _ (bb t' a6);have d3:=cZ a7;have R3:=R2.VA b3 P3;refine {a,sl,as,ts,rfl,P3,Xp,a7,by omega,bp,λz H7 b7 P7 z0 z1=>?_};ac_rfl;refine {a,_,rfl,P7,'d','d',λr H8 b8 P8 r0 r1=>?_};ac_rfl;refine {'d',λnl H9 n9 _=>?_};have h9:=n9.at_;have XH:r+1-1=r:=by omega
  erw [h9,mK,ml,XH];intro x dx d0 nI;have P9:=P8.same n9.same;have Z:But a H3 H9:=(b7.trans b8).trans (.of n9.same);have R9:=R3.VA Z P9;have G:=nI.same;have a8:sl≠a:=R2.vu.ne cD;have b9:nl≠a:=P8.ne n9.no;have a4:∀{H':Hp}{r:Addr}{xs:List V},Pot H' a->H' r=some (.tup xs)->r≠a:=λ{H' r xs} P e z=>by obtain ⟨_,_,ea,_⟩:=P.ex;rw [z,ea] at e;cases e
  have a3:Paired (c0 H9) as ts:=Paired.J7 a7 λr tt e=>Z _ _ (a4 P3 e) e;have a9:ia ts:={pm.nodup_iff.mpr dH,by omega};refine {x,p,b,k,sl,dx,z,r,t,ks,as,ts,rfl,nI.at_,R9.files.same G,.inl (G _ _ (Z _ _ a8 Xp)),Paired.J7 a3 λ_ _ e=>.inl (G _ _ e),a9,λfx b1 k1 sd H11 df _ _ _ _ st _=>{rfl,?_}};have bt:zj H9 H11:=λc o e=>df _ _ (zQ e nI.no) (G _ _ e);have nk:=R9.kal.cf R9.files.Vv;obtain ⟨av,aI⟩:=R9.bud.good hB R9.files.mu.nd R9.files.Vv nk R9.few;have gs:gz ts r z:={bp,rg,by omega,{r0,by omega},z0,z1};have dc:(ts.map (·.1)).Perm (uniq (aa t ks)):=pm.trans ((PM dH dH).mpr λy=>by rw [fA,fA];exact (mem y).symm);refine {x,fx,b1,k1,sd,t,ks,ts,z,r,rfl,st,av,aI,gs,λvs H12 b6 pv sv=>?_};rw [yM a9.nd pv sv (.refl _) so];obtain ⟨L,hL,hm⟩:=R9.bud.live;obtain ⟨w1,w2⟩:=lX av aI gs;have rt:Rt (SM++(L.map λy=>(toString y:Str))++[(toString z:Str)]) 0 (bJ r z t ks ts):={w1,w2,Lh (λv hv=>Oo _ (Oo _ hv)) av aI gs (λy hy=>Oo _ (NY _ (OE.mpr {y,hm y hy,rfl}))) bb (by omega) (NY _ (OO.mpr rfl)) (by omega),by simp [SM];omega,λv hv e=>Oo _ (Oo _ (FH v hv e))};generalize SM++(L.map λy=>(toString y:Str))++[(toString z:Str)]=S at rt;have O:Spt S (fG r z t ks ts):=(rt.fit (by omega)).b9 (by omega) rt.s;obtain ⟨c,bq⟩:=Mh av aI gs dc so;have WR:=bt.trans b6;have cC:=P9.same WR;have rr:∀H',But a H12 H'->Rr H' (fG r z t ks ts) sl nl as S c ts r z:=λH' b'=>{O,bq,a9,so,b' _ _ a8 (WR _ _ (Z _ _ a8 Xp)),Paired.J7 a3 λ_ _ e=>b' _ _ (a4 P9 e) (WR _ _ e),b' _ _ b9 (WR _ _ h9)};ac_rfl;refine {'d','d',az.rng (TuI H12 a sc p d kd sl nl i (fG r z t ks ts)) {{_,_,rfl},λ_ _ _ e=>e,cC} ?_ ?_}
  .rintro j σ H13 hj ⟨⟨t1,t2,rfl⟩,U,ba⟩;ac_rfl;refine {a,S,_,rfl,ba,rt,λz' ax sp b4 de=>?_};ac_rfl;refine {_,sl,nl,as,S,c,ts,r,z,rfl,rr ax (U.trans b4),λbx ak=>?_};ac_rfl;obtain ⟨M,n1,n2⟩:=sp.c;refine {z',rfl,sp.a,sp.l,Ol (jn _) sp.w,k7 n2 (by omega) sp.w,λdu b5=>?_};have Zn:∀H',zj ax H'->TuI H12 a sc p d kd sl nl i (fG r z t ks ts) (j+1) [some (V.ref sc),some (V.int i),some (V.ref a),some (V.ref p),some (V.ref d),some (V.ref kd),some (V.ref sl),some (V.ref nl),some (V.str (fG r z t ks ts)),some (V.int (0+j)),some (V.str z')] H':=λH' s'=>{{_,_,rfl},(U.trans b4).trans (.of s'),de.same s'};cases hz:rdZ z' with
   | none =>
    ac_rfl;refine {_,rfl,.inl {S,z',rfl,sp,hz},λb0 cv=>?_};ac_rfl;exact Zn _ ((ak.trans b5).trans cv)
   | some c' =>
    ac_rfl;exact Zn _ (ak.trans b5)
  .rintro σ H13 ⟨⟨t1,t2,rfl⟩,U,ba⟩;ac_rfl;obtain ⟨M,n1,n2⟩:=O.c;refine {_,rfl,O.a,O.l,Ol (jn _) O.w,k7 n2 (by omega) O.w,λax a5=>?_};rw [bq];ac_rfl;refine {_,sl,nl,as,S,c,ts,r,z,rfl,rr ax (U.trans (.of a5)),λbx ak=>?_};ac_rfl;have bu:=ba.same (a5.trans ak);refine {'d',λc1 J1 m1 _=>{'d',λc2 J2 m2 c3 J3 m3=>{'d',λc4 J4 m4 _=>{'d',λc5 J5 m5=>{'d',λc6 J6 m6 _=>?_}}}}};have q1:=bu.same m1.same;have q2:=q1.same m2.same;have q3:=q2.same m3.same;have q4:=q3.same m4.same;have q5:=q4.same m5.same;have u5:=m5.same.trans m6.same;have u4:=m4.same.trans u5;have u3:=m3.same.trans u4;have u2:=m2.same.trans u3;have sJ:zj bx J6:=m1.same.trans u2;refine {a,q5.same m6.same,.inl {c6,_,rfl,q5.ne m6.no,.inl m6.at_,'z','z',λv b0 hv J d2=>?_}};have th:Thg b0 v/\∀y,v≠.str y:=by
    simp only [NT,Oh,or_false] at hv;rcases hv with rfl|rfl|rfl|rfl|rfl|rfl|rfl|rfl|rfl|rfl
    .exact {.non,λz h=>nomatch h}
    .exact {.int 7,λz h=>nomatch h}
    .exact {.bl true,λz h=>nomatch h}
    .exact {.lst (J _ _ (bu.ne m1.no) (u2 _ _ m1.at_)),λz h=>nomatch h}
    .exact {.tup (J _ _ (q1.ne m2.no) (u3 _ _ m2.at_)),λz h=>nomatch h}
    .exact {.dic (J _ _ (q2.ne m3.no) (u4 _ _ m3.at_)),λz h=>nomatch h}
    .exact {.lst (J _ _ (q3.ne m4.no) (u5 _ _ m4.at_)),λz h=>nomatch h}
    .exact {.tup (J _ _ (q4.ne m5.no) (m6.same _ _ m5.at_)),λz h=>nomatch h}
    .exact {.bl false,λz h=>nomatch h}
    .exact {.int _,λz h=>nomatch h}
   obtain ⟨t',h1,h2⟩:=Kl (K:=K) th.1 th.2;refine {_,rfl,.inr ⟨t',h1,h2⟩,λdT ct=>?_};ac_rfl;refine {{_,_,_,_,_,_,_,_,_,_,rfl},s0.trans λc o e=>?_};have ca:=zQ e a0;exact ct _ _ (J _ _ ca (sJ _ _ (ak _ _ (a5 _ _ (U _ _ ca (WR _ _ (Z _ _ ca (b3 _ _ ca (b2 _ _ ca (s1 _ _ e))))))))))
 .rintro σ H1 ⟨⟨t1,t2,t3,t4,t5,t6,t7,t8,t9,dk,rfl⟩,s1⟩;ac_rfl;refine {'d',λp2 H2 n2 _=>{{_,SqL.of n2.at_},aK.lst (xs:=NM.map V.str) (AlI H2) (λi τ ys H' I=>?_) (λi τ ys H' I=>SqL.of (I.same _ _ n2.at_)) {{_,rfl},rfl,zj.refl _,O9 _} ?_ ?_}}
  .rw [I.ys,NO,List.length_replicate];exact aS (by have:=I.le;omega)
  .intro N j x τ ys H3 hx I hN;obtain ⟨t1,rfl⟩:=I.ex;rw [Oe] at hx;obtain ⟨y,hy,rfl⟩:=Ou.mp hx;obtain ⟨k1,k2⟩:=HW y (OS hy);ac_rfl;refine {_,rfl,.inl {_,y,rfl,k1,k2},λH4 s4=>hN _ _ _ {{_,rfl},?_,I.same.trans s4,(NU.mp hy).1}};rw [I.ys,List.replicate_succ',OI];rfl
  .intro τ ys H3 I D H4 n4;ac_rfl;refine {_,by rw [n4.at_,I.ys],?_};rw [show (Pc (NM.map V.str).length true).all id=true from rfl];exact q _
end
theorem all_mk{l:OpenLaw}{w:Oc}{K:Frag}{h:Heap}{mg:Str->Option Value}{fa:Addr}{ut aI bq a0 a3 a8 a4 a5 ba a7 z av a6 ax bb a9 bp W S J O:Addr}{hB kq e3 ek c4 ku:Tok}(X:K.In h)(G:h.Ns N3 mg)(gT:mg "law"=some (.ref fa))
  (g0:Qo K N3 "CleanError"=some (some (.ref ut)))
  (ey:Qo K N3 "NoRow"=some (some (.ref aI)))
  (kc:Qo K N3 "NoDisk"=some (some (.ref bq)))
  (ih:Qo K N3 "Full"=some (some (.ref a0)))
  (c5:Qo K N3 "Stopped"=some (some (.ref a3)))
  (kb:Qo K N3 "NoFile"=some (some (.ref a8)))
  (gk:Qo K N3 "NoPlace"=some (some (.ref a4)))
  (d1:Qo K N3 "HeldAlready"=some (some (.ref a5)))
  (eC:Qo K N3 "NotHeld"=some (some (.ref ba)))
  (h6:Qo K N3 "NoFiles"=some (some (.ref a7)))
  (h3:Qo K N3 "NoMark"=some (some (.ref z)))
  (ha:Qo K N3 "NoRoom"=some (some (.ref av)))
  (hp:Qo K N3 "Gone"=some (some (.ref a6)))
  (hY:Qo K N3 "NotClosed"=some (some (.ref ax)))
  (hF:Qo K N3 "NotBlank"=some (some (.ref bb)))
  (c6:Qo K N3 "NoDeed"=some (some (.ref a9)))
  (dg:Qo K N3 "NoHouse"=some (some (.ref bp)))
  (eD:Qo K N3 "NoPart"=some (some (.ref W)))
  (b1:Qo K N3 "Words"=some (some (.ref S)))
  (bx:Qo K N3 "Files"=some (some (.ref J)))
  (bt:Qo K N3 "State"=some (some (.ref O)))
  (c2:FnM K "is_whole" sx)
  (eg:FnM K V6 nF)
  (e8:FnM K VZ mF)
  (hk:FnM K V2 sP)
  (ht:FnM K "is_name" p0)
  (iv:au K S Wn "Words.__init__" qb)
  (hc:au K S V5 "Words.take_word" my)
  (hD:au K S Wf VS kP)
  (kz:au K S "take_name" "Words.take_name" lW)
  (da:au K S VQ "Words.is_at_end" pd)
  (hL:au K S "take_end" "Words.take_end" kK)
  (h9:au K J Wn "Files.__init__" rQ)
  (hy:au K J "names" "Files.names" o7)
  (kx:au K J "many" "Files.many" rT)
  (hn:au K J Wg "Files.birth" qq)
  (eF:au K J "put" "Files.put" pH)
  (eo:au K J "cut" "Files.cut" nG)
  (hA:au K J "hold" "Files.hold" nS)
  (hN:au K J "free" "Files.free" qc)
  (fw:au K J "held" "Files.held" og)
  (hl:au K J "of_held" "Files.of_held" qZ)
  (kv:au K J "living" "Files.living" i8)
  (hS:au K J "copied" "Files.copied" nZ)
  (hu:au K J "bare" "Files.bare" rN)
  (gu:au K J "keep" "Files.keep" qd)
  (fo:au K J Wb "Files.refuse_if_none" qw)
  (v6:au K J Wh "Files.refuse_if_not_held" qQ)
  (gi:FnM K "files_text" qS)
  (gC:FnM K VP j6)
  (ct:FnM K VW lP)
  (d5:FnM K VU mZ)
  (fv:FnM K Wi mE)
  (eT:FnM K "sum_of" qN)
  (dt:FnM K "summed" oM)
  (eu:FnM K "body_of" rR)
  (hX:au K O Wn "State.__init__" km)
  (fy:au K O Wl "State.files" rj)
  (k4:au K O V0 "State.spots" kT)
  (hH:au K O Wj "State.next_number" nC)
  (hz:au K O Wk "State.mark_number" rE)
  (cv:FnM K "mark_text" mw)
  (kn:FnM K V4 lS)
  (j1:FnM K "state_of" jV)
  (du:FnM K VY lU)
  (e0:FnM K "_law_cell" su)
  (cC:FnM K "_law_pot" oo)
  (e6:FnM K Wo pG)
  (j0:FnM K Wm qR)
  (dK:FnM K "_law_birth" sG)
  (el:FnM K "_law_put" pz)
  (j2:FnM K "_law_cut" pC)
  (f5:FnM K "_law_deed" o3)
  (eU:FnM K "_law_files" oA)
  (c3:FnM K V3 qy)
  (e1:FnM K "_law_spots" qt)
  (d2:FnM K "_law_above" mG)
  (eM:FnM K "_law_sum" mj)
  (hQ:FnM K Wa mV)
  (en:FnM K Wc r8)
  (kd:FnM K VR mQ)
  (b9:FnM K We k9)
  (h4:FnM K V1 rG)
  (b2:FnM K VV lI)
  (kp:FnM K VX pM)
  (e2:FnM K V9 sf)
  (cD:FnM K VT kr)
  (hj:FnM K VO pV)
  (g5:FnM K V8 pJ)
  (d3:FnM K V7 nD)
  (ez:FnM K "law" kX)
  (ei:Qo K N3 "ValueError"=some none)
  (b5:Qo K N3 "abs"=some none)
  (d4:Qo K N3 "all"=some none)
  (hq:Qo K N3 "bool"=some none)
  (g4:Qo K N3 "dict"=some none)
  (b6:Qo K N3 "divmod"=some none)
  (ho:Qo K N3 "enumerate"=some none)
  (e5:Qo K N3 "int"=some none)
  (j3:Qo K N3 "isinstance"=some none)
  (lb:Qo K N3 "len"=some none)
  (df:Qo K N3 "list"=some none)
  (hM:Qo K N3 "max"=some none)
  (dT:Qo K N3 "min"=some none)
  (er:Qo K N3 "ord"=some none)
  (hW:Qo K N3 "range"=some none)
  (kl:Qo K N3 "sorted"=some none)
  (d0:Qo K N3 "str"=some none)
  (f3:Qo K N3 "sum"=some none)
  (eN:Qo K N3 "FIGURES"=some (some (.str "0123456789" hB)))
  (hr:Qo K N3 "LETTERS"=some (some (.str "abcdefghijklmnopqrstuvwxyz" kq)))
  (ft:Qo K N3 "MOST_FIGURES"=some (some (.int 18 e3)))
  (hR:Qo K N3 "MOST_LETTERS"=some (some (.int 6 ek)))
  (gd:Qo K N3 "MODULUS"=some (some (.int 65521 c4)))
  (fz:Qo K N3 "FIRST_WORD"=some (some (.str "mark" ku)))
  (ee:excIn K ut [.type "ValueError",.type "Exception",.type "BaseException",.type "object"] "ValueError.__new__"=true)
  (b0:excIn K z [.type "ValueError",.type "Exception",.type "BaseException",.type "object"] "ValueError.__new__"=true)
  (js:excIn K W [.type "ValueError",.type "Exception",.type "BaseException",.type "object"] "ValueError.__new__"=true)
  (b3:mroIn K z (.ref z)=some true)
  (h5:mroIn K W (.ref W)=some true)
  (ej:findIn K (.ref z) "__getattribute__"=some (some (.builtin "BaseException.__getattribute__")))
  (hI:findIn K (.ref z) "__getattr__"=some none)
  (cp:findIn K (.ref z) "__class__"=some (some (.builtin "object.__class__")))
  (hK:mroIn K z (.type "object")=some true)
  (fF:mroIn K z (.type "BaseException")=some true)
  (f7:mroIn K z (.ref ut)=some true)
  (ed:kitOne K (.ref z) (.type "ValueError")=some true)
  (b4:kitOne K (.ref z) (.ref aI)=some false)
  (hh:kitOne K (.ref z) (.ref bq)=some false)
  (dc:kitOne K (.ref z) (.ref a0)=some false)
  (ff:kitOne K (.ref z) (.ref a3)=some false)
  (hT:kitOne K (.ref z) (.ref a8)=some false)
  (et:kitOne K (.ref z) (.ref a4)=some false)
  (k6:kitOne K (.ref z) (.ref a5)=some false)
  (de:kitOne K (.ref z) (.ref ba)=some false)
  (hO:kitOne K (.ref z) (.ref a7)=some false)
  (hv:kitOne K (.ref z) (.ref z)=some true)
  (ea:kitOne K (.ref z) (.ref av)=some false)
  (ky:kitOne K (.ref z) (.ref a6)=some false)
  (d7:kitOne K (.ref z) (.ref ax)=some false)
  (eb:kitOne K (.ref z) (.ref bb)=some false)
  (ec:kitOne K (.ref z) (.ref a9)=some false)
  (hx:kitOne K (.ref z) (.ref bp)=some false)
  (gr:kitOne K (.ref z) (.ref W)=some false)
  (lj:S0 K S Sm=true)
  (hs:S4 K S=true)
  (eH:plainOver K S=true)
  (dV:findIn K (.ref S) "__setattr__"=some (some (.builtin "object.__setattr__")))
  (hg:makesIn K S=true)
  (eZ:SO K (.ref S)=true)
  (hE:findIn K (.ref S) "taken"=some none)
  (f6:findIn K (.ref S) "words"=some none)
  (kf:S0 K J Sm=true)
  (hC:S4 K J=true)
  (ef:plainOver K J=true)
  (e7:findIn K (.ref J) "__setattr__"=some (some (.builtin "object.__setattr__")))
  (b7:makesIn K J=true)
  (e4:SO K (.ref J)=true)
  (gs:findIn K (.ref J) "births"=some none)
  (eL:findIn K (.ref J) "kept"=some none)
  (dk:S0 K O Sm=true)
  (la:S4 K O=true)
  (dp:plainOver K O=true)
  (fx:findIn K (.ref O) "__setattr__"=some (some (.builtin "object.__setattr__")))
  (hP:makesIn K O=true)
  (b8:SO K (.ref O)=true)
  (j5:findIn K (.ref O) "next_mark"=some none)
  (kk:findIn K (.ref O) "next_row"=some none)
  (ew:findIn K (.ref O) "own_files"=some none)
  (hb:findIn K (.ref O) "spot_of"=some none) :
  ∃fd:N4,(∀(s:KE)(v:Value),BindsTo s fd {[v],[]} [("_law_script",v)])/\∀base:Heap,K.In base->base.Ns N3 mg->zp l.prog w K mg base CX0 true 11 fa fd Wp (ko K):=by
 obtain ⟨lp,Z,bu,ak⟩:=ez;have e:=gT.symm.trans (Qp X G bu);cases e;have ka:∀(s:KE)(v:Value),BindsTo s Z {[v],[]} [("_law_script",v)]:=by obtain ⟨_,_,_,_,_,_,_,_,_,rfl,_⟩:=ak.ex;exact λs v=>.of_eq rfl
 have T:Txt K mg ⟨ut,aI,bq,a0,a3,a8,a4,a5,ba,a7,z,av,a6,ax,bb,a9,bp,W,S,J,O⟩:={Pw X G ei,Pw X G b5,Pw X G d4,Pw X G hq,Pw X G g4,Pw X G b6,Pw X G ho,Pw X G e5,Pw X G j3,Pw X G lb,Pw X G df,Pw X G hM,Pw X G dT,Pw X G er,Pw X G hW,Pw X G kl,Pw X G d0,Pw X G f3,{_,Qp X G eN,{_,rfl}},{_,Qp X G hr,{_,rfl}},{_,Qp X G ft,{_,rfl}},{_,Qp X G hR,{_,rfl}},{_,Qp X G gd,{_,rfl}},{_,Qp X G fz,{_,rfl}},Qp X G g0,Qp X G ey,Qp X G kc,Qp X G ih,Qp X G c5,Qp X G kb,Qp X G gk,Qp X G d1,Qp X G eC,Qp X G h6,Qp X G h3,Qp X G ha,Qp X G hp,Qp X G hY,Qp X G hF,Qp X G c6,Qp X G dg,Qp X G eD,Qp X G b1,Qp X G bx,Qp X G bt,ee,b0,js,b3,h5,⟨b0,ej,hI,cp,hK,fF⟩,f7,ed,b4,hh,dc,ff,hT,et,k6,de,hO,hv,ea,ky,d7,eb,ec,hx,gr,⟨lj,hs,eH,dV⟩,hE,f6,⟨kf,hC,ef,e7⟩,gs,eL,⟨dk,la,dp,fx⟩,j5,kk,ew,hb};refine {Z,ka,λbase _ _=>?_};have YK:=gf (w:=w) l.prog base true X G c2 (λ_ _ F=>DK F T) λ_ _ _ _ _ _=>u1 λ_=>rfl;have ZQ:=gf (w:=w) l.prog base true X G eg (λ_ _ F=>KH F T YK) λ_ _ _ _ _ _=>u3 λ_ _ _=>rfl;have YR:=gf (w:=w) l.prog base true X G e0 (λ_ _ F=>Hi F T) λ_ _ _ _ _ _=>u2 λ_ _=>rfl;have YG:=gf (w:=w) l.prog base true X G cC (λ_ _ F=>JH F T YR) λ_ _ _ _ _ _=>u2 λ_ _=>rfl;have U:=gf (w:=w) l.prog base true X G e6 (λ_ _ F=>Ms F T) λ_ _ _ _ _ _=>u2 λ_ _=>rfl;have Z6:=gf (w:=w) l.prog base true X G j0 (λ_ _ F=>CQ F T U) λ_ _ _ _ _ _=>u2 λ_ _=>rfl;have ZG:=gf (w:=w) l.prog base true X G e8 (λ_ _ F=>MJ F T) λ_ _ _ _ _ _=>u3 λ_ _ _=>rfl;have YB:=gf (w:=w) l.prog base true X G ht (λ_ _ F=>Na F T ZG) λ_ _ _ _ _ _=>u1 λ_=>rfl;have Zs:=gf (w:=w) l.prog base true X G hk (λ_ _ F=>LZ F T ZG) λ_ _ _ _ _ _=>u1 λ_=>rfl;have Yr:=gf (w:=w) l.prog base true X G eT (λ_ _ F=>HY F T) λ_ _ _ _ _ _=>u1 λ_=>rfl;have Y9:=gf (w:=w) l.prog base true X G dt (λ_ _ F=>Fy F T Yr) λ_ _ _ _ _ _=>u1 λ_=>rfl;have YA:=gf (w:=w) l.prog base true X G eu (λ_ _ F=>LF F T Y9) λ_ _ _ _ _ _=>u1 λ_=>rfl;have Zi:=gc (w:=w) l.prog base true X G bx b7 e4 h9 (λ_ _ F=>Kt F T) λ_ _ _ _ _ _=>u1 λ_=>rfl;have Ze:=gm (w:=w) l.prog base true hy (λ_ _ F=>CY F T) λ_ _ _ _ _ _=>u1 λ_=>rfl;have Z0:=gm (w:=w) l.prog base true kx (λ_ _ F=>J9 F T) λ_ _ _ _ _ _=>u2 λ_ _=>rfl;have Z2:=gm (w:=w) l.prog base true fo (λ_ _ F=>FE F T) λ_ _ _ _ _ _=>u2 λ_ _=>rfl;have Z5:=gm (w:=w) l.prog base true v6 (λ_ _ F=>Ef F T) λ_ _ _ _ _ _=>u2 λ_ _=>rfl;have Zd:=gm (w:=w) l.prog base true hn (λ_ _ F=>Gf F T Z2 Z0 ZQ) λ_ _ _ _ _ _=>u3 λ_ _ _=>rfl;have Zz:=gm (w:=w) l.prog base true eF (λ_ _ F=>K8 F T Z0 ZQ) λ_ _ _ _ _ _=>u4 λ_ _ _ _=>rfl;have YQ:=gm (w:=w) l.prog base true eo (λ_ _ F=>JP F T Z2 Z0 ZQ) λ_ _ _ _ _ _=>u3 λ_ _ _=>rfl;have Y5:=gm (w:=w) l.prog base true fw (λ_ _ F=>BJ F T) λ_ _ _ _ _ _=>u1 λ_=>rfl;have ZR:=gm (w:=w) l.prog base true hu (λ_ _ F=>MW F T Zi) λ_ _ _ _ _ _=>u1 λ_=>rfl;have ZF:=gm (w:=w) l.prog base true gu (λ_ _ F=>BU F T ZR) λ_ _ _ _ _ _=>u3 λ_ _ _=>rfl;have Y2:=gm (w:=w) l.prog base true hA (λ_ _ F=>Jc F T ZF) λ_ _ _ _ _ _=>u2 λ_ _=>rfl;have Y3:=gm (w:=w) l.prog base true hN (λ_ _ F=>FZ F T Z5) λ_ _ _ _ _ _=>u2 λ_ _=>rfl;have Zm:=gm (w:=w) l.prog base true hl (λ_ _ F=>Ig F T Z5 ZR) λ_ _ _ _ _ _=>u2 λ_ _=>rfl;have Zg:=gm (w:=w) l.prog base true kv (λ_ _ F=>Jn F T) λ_ _ _ _ _ _=>u1 λ_=>rfl;have ZP:=gm (w:=w) l.prog base true hS (λ_ _ F=>Gs F T ZR) λ_ _ _ _ _ _=>u1 λ_=>rfl;have YM:=gc (w:=w) l.prog base true X G bt hP b8 hX (λ_ _ F=>Ks F T ZP) λ_ _ _ _ _ _=>u5 λ_ _ _ _ _=>rfl;have Zc:=gm (w:=w) l.prog base true fy (λ_ _ F=>DF F T ZP) λ_ _ _ _ _ _=>u1 λ_=>rfl;have ZX:=gm (w:=w) l.prog base true hH (λ_ _ F=>Ij F T) λ_ _ _ _ _ _=>u1 λ_=>rfl;have ZY:=gm (w:=w) l.prog base true hz (λ_ _ F=>JS F T) λ_ _ _ _ _ _=>u1 λ_=>rfl;have ZL:=gm (w:=w) l.prog base true k4 (λ_ _ F=>Nh F T) λ_ _ _ _ _ _=>u1 λ_=>rfl;have Zo:=gf (w:=w) l.prog base true X G gC (λ_ _ F=>HX F T Ze Z0 Zd) λ_ _ _ _ _ _=>u1 λ_=>rfl;have Y1:=gf (w:=w) l.prog base true X G gi (λ_ _ F=>Ft F T Zo Y5 Zm) λ_ _ _ _ _ _=>u1 λ_=>rfl;have ZV:=gm (w:=w) l.prog base true da (λ_ _ F=>Cq F T) λ_ _ _ _ _ _=>u1 λ_=>rfl;have Z4:=gmx (w:=w) l.prog base true hc (λ_ _ F=>Mf F T ZV) λ_ _ _ _ _ _=>u1 λ_=>rfl;have Z8:=gmx (w:=w) l.prog base true hD (λ_ _ F=>Kh F T Z4 Zs) λ_ _ _ _ _ _=>u1 λ_=>rfl;have Zv:=gmx (w:=w) l.prog base true kz (λ_ _ F=>Dj F T Z4 YB) λ_ _ _ _ _ _=>u1 λ_=>rfl;have Zr:=gmx (w:=w) l.prog base true hL (λ_ _ F=>Nk F T ZV) λ_ _ _ _ _ _=>u1 λ_=>rfl;have ZU:=gx (w:=w) l.prog base true X G fv (λ_ _ F=>Jt F T Zv) λ_ _ _ _ _ _=>u2 λ_ _=>rfl;have Ye:=gc (w:=w) l.prog base true X G b1 hg eZ iv (λ_ _ F=>BH F T) λ_ _ _ _ _ _=>u2 λ_ _=>rfl;have Zh:=gx (w:=w) l.prog base true X G d5 (λ_ _ F=>Gh F T Zi Z8 ZU Zz) λ_ _ _ _ _ _=>u1 λ_=>rfl;have Y0:=gx (w:=w) l.prog base true X G ct (λ_ _ F=>KI F T Zh Z8 ZU ZF) λ_ _ _ _ _ _=>u1 λ_=>rfl;have Y4:=gf (w:=w) l.prog base true X G dK (λ_ _ F=>L9 F T U) λ_ _ _ _ _ _=>u1 λ_=>rfl;have YI:=gf (w:=w) l.prog base true X G el (λ_ _ F=>EU F T Z6 U Y4 Zz) λ_ _ _ _ _ _=>u3 λ_ _ _=>rfl;have YJ:=gf (w:=w) l.prog base true X G j2 (λ_ _ F=>E8 F T Z6 U YQ) λ_ _ _ _ _ _=>u3 λ_ _ _=>rfl;have YO:=gf (w:=w) l.prog base true X G f5 (λ_ _ F=>JI F T U Z6 Y3 Y2 YJ YI) λ_ _ _ _ _ _=>u4 λ_ _ _ _=>rfl;have YY:=gf (w:=w) l.prog base true X G eU (λ_ _ F=>Me F T Zi U YO) λ_ _ _ _ _ _=>u1 λ_=>rfl;have ZM:=gf (w:=w) l.prog base true X G c3 (λ_ _ F=>NI F T) λ_ _ _ _ _ _=>u2 λ_ _=>rfl;have YX:=gf (w:=w) l.prog base true X G e1 (λ_ _ F=>Jv F T ZM U) λ_ _ _ _ _ _=>u3 λ_ _ _=>rfl;have YW:=gf (w:=w) l.prog base true X G d2 (λ_ _ F=>Dg F T U) λ_ _ _ _ _ _=>u2 λ_ _=>rfl;have YN:=gf (w:=w) l.prog base true X G cv (λ_ _ F=>GP F T ZL ZY ZX Zc Y1 Y9) λ_ _ _ _ _ _=>u1 λ_=>rfl;have YZ:=gx (w:=w) l.prog base true X G du (λ_ _ F=>Gd F T Z8) λ_ _ _ _ _ _=>u1 λ_=>rfl;have YH:=gx (w:=w) l.prog base true X G j1 (λ_ _ F=>C4 F T Z4 Z8 Y0 YZ Zr Zg YM) λ_ _ _ _ _ _=>u1 λ_=>rfl;have Zx:=gx (w:=w) l.prog base true X G kn (λ_ _ F=>DD F T YA Ye YH) λ_ _ _ _ _ _=>u1 λ_=>rfl;have ZK:=gf (w:=w) l.prog base true X G hQ (λ_ _ F=>EX F T) λ_ _ _ _ _ _=>u1 λ_=>rfl;have Z1:=gf (w:=w) l.prog base true X G en (λ_ _ F=>Mp F T ZK) λ_ _ _ _ _ _=>u1 λ_=>rfl;have Zy:=gf (w:=w) l.prog base true X G kd (λ_ _ F=>IH F T) λ_ _ _ _ _ _=>u1 λ_=>rfl;have ZT:=gf (w:=w) l.prog base true X G b9 (λ_ _ F=>BX F T Z1 Zy) λ_ _ _ _ _ _=>u1 λ_=>rfl;have Zp:=gf (w:=w) l.prog base true X G h4 (λ_ _ F=>Im F T Z1 Zy ZT) λ_ _ _ _ _ _=>u1 λ_=>rfl;have Zq:=gf (w:=w) l.prog base true X G eM (λ_ _ F=>FW F T) λ_ _ _ _ _ _=>u1 λ_=>rfl;have ZD:=gf (w:=w) l.prog base true X G b2 (λ_ _ F=>My F T Zq Z1 ZT Zp ZK ZM) λ_ _ _ _ _ _=>u1 λ_=>rfl;have Zl:=gf (w:=w) l.prog base true X G kp (λ_ _ F=>K4 F T U Z6) λ_ _ _ _ _ _=>u2 λ_ _=>rfl;have ZE:=gf (w:=w) l.prog base true X G e2 (λ_ _ F=>Hb F T U Z6) λ_ _ _ _ _ _=>u2 λ_ _=>rfl;have Zk:=gf (w:=w) l.prog base true X G cD (λ_ _ F=>B2 F T U ZE Zq) λ_ _ _ _ _ _=>u2 λ_ _=>rfl;have Zb:=gf (w:=w) l.prog base true X G hj (λ_ _ F=>LC F T U Z6 Zl Zk) λ_ _ _ _ _ _=>u2 λ_ _=>rfl;have ZH:=gf (w:=w) l.prog base true X G g5 (λ_ _ F=>Ib F T Zx) λ_ _ _ _ _ _=>u1 λ_=>rfl;have ZJ:=gf (w:=w) l.prog base true X G d3 (λ_ _ F=>DP F T Zx ZX ZY ZL) λ_ _ _ _ _ _=>u3 λ_ _ _=>rfl;exact Fe ak T YG YY YX YW U YM YN Zb ZJ ZD ZH Z6
theorem walk{l:OpenLaw}{d:DefRec}{K:Params->Frag}(hn:l.most=some 63)(G:d.params.defaults=[])(S:∀(w:Oc)(h:Heap),O w h->(K w.params).In h)(F:∀(w:Oc)(mg:Str->Option Value)(J:Addr)(h:Heap),(K w.params).In h->h.Ns N3 mg->mg d.name=some (.ref J) ->
   ∃fd:N4,(∀(s:KE)(u:Value),BindsTo s fd {[u],[]} [("_law_script",u)])/\∀base:Heap,(K w.params).In base->base.Ns N3 mg->zp l.prog w (K w.params) mg base CX0 true 11 J fd Wp (ko (K w.params))):
  WalkO q Z U O l.row.toRowW d [] (λf vs=>PySem.call f vs) :=
 L2.walk_of (n:=63) (k:=11) (x:="_law_script") (CX:=λ_=>CX0) (sp:=λw=>ko (K w.params)) hn 'd' G {λ_=>rfl,'d','d',rfl} S F (λ_ _ a ns hl _ W=>{a,ns,rfl,W,hl,λ_=>rfl}) λ_ _ _ _ _ z=>z
end K33
def PySem.W.Fast.UH:Nat:=0
def PySem.W.Fast.Va:Nat:=0
def PySem.W.Fast.UB:Nat:=0
def PySem.W.Fast.Us:Nat:=0
def PySem.W.Fast.Vt:Nat:=0
def PySem.W.Fast.Vs:Nat:=0
def PySem.W.Fast.UG:Nat:=0
def PySem.W.Fast.Uq:Nat:=0
def PySem.W.Fast.U1:Nat:=0
def PySem.W.Fast.Vd:Nat:=0
def PySem.W.Fast.Vb:Nat:=0
def PySem.W.Fast.Vo:Nat:=0
def PySem.W.Fast.Vn:Nat:=0
def PySem.W.Fast.Vl:Nat:=0
def PySem.W.Fast.UX:Nat:=0
def PySem.W.Fast.Uu:Nat:=0
def PySem.W.Fast.U6:Nat:=0
def PySem.W.Fast.Vf:Nat:=0
def PySem.W.Fast.Vp:Nat:=0
def PySem.W.Fast.U9:Nat:=0
def PySem.W.Fast.Vk:Nat:=0
def PySem.W.Fast.UL:Nat:=0
def PySem.W.Fast.U3:Nat:=0
def PySem.W.Fast.UF:Nat:=0
def PySem.W.Fast.UK:Nat:=0
def PySem.W.Fast.Vh:Nat:=0
def PySem.W.Fast.Vm:Nat:=0
def PySem.W.Fast.Ut:Nat:=0
def PySem.W.Fast.U0:Nat:=0
def PySem.W.Fast.UC:Nat:=0
def PySem.W.Fast.Uz:Nat:=0
def PySem.W.Fast.Vu:Nat:=0
def PySem.W.Fast.Vj:Nat:=0
def PySem.W.Fast.UI:Nat:=0
def PySem.W.Fast.Vg:Nat:=0
def PySem.W.Fast.UV:Nat:=0
def PySem.W.Fast.Ux:Nat:=0
def PySem.W.Fast.UJ:Nat:=0
def PySem.W.Fast.UZ:Nat:=0
def PySem.W.Fast.U8:Nat:=0
def PySem.W.Fast.Vx:Nat:=0
def PySem.W.Fast.UE:Nat:=0
def PySem.W.Fast.U4:Nat:=0
def PySem.W.Fast.Vw:Nat:=0
def PySem.W.Fast.U7:Nat:=0
def PySem.W.Fast.Uw:Nat:=0
def PySem.W.Fast.Uy:Nat:=0
def PySem.W.Fast.UY:Nat:=0
def PySem.W.Fast.UA:Nat:=0
def PySem.W.Fast.Ur:Nat:=0
def PySem.W.Fast.Vq:Nat:=0
def PySem.W.Fast.UD:Nat:=0
def PySem.W.Fast.Vi:Nat:=0
def PySem.W.Fast.Ve:Nat:=0
def PySem.W.Fast.U5:Nat:=0
def PySem.W.Fast.UW:Nat:=0
def PySem.W.Fast.Vr:Nat:=0
def PySem.W.Fast.Uv:Nat:=0
def PySem.W.Fast.Vc:Nat:=0
structure PySem.W.Fast:Prop where(tw11042566424717055713 tw5725652031833950932 tw13945745225605697349 tw17036787294460723244 tw1230410746455662187 tw1482634473778351881 tw11178948939224229756 tw18408729059985520832 tw7951480832703559776 tw5126553099133070537 tw5646072202399489932 tw2349012182578036148 tw2416832705185591953 tw2979492372158254875 tw9157107404897326721 tw16542602596297359912 tw7319124982253919838 tw4281933942816749030 tw2277276690064432838 tw5770120162239134438 tw3225280398354179344 tw10078257909602713940 tw7826373516753346934 tw11338439227341208965 tw10651289004625795951 tw3629357686180932873 tw2823541670411413472 tw16750946384073951217 tw8176132811822148070 tw13376342917141381258 tw14334395231898928395 tw1221717800016540416 tw3361014197617081012 tw10886973417273262889 tw4157634732690054019 tw9445363162944191759 tw15302703110034068036 tw10689626182507966064 tw8615121767942806453 tw6181863555061110715 tw144981510554489307 tw11560303751681433760 tw7396339499886801340 tw403745324558152321 tw6251723967234389213 tw15394967826613722148 tw14695170162457856614 tw8672394485077149263 tw14315044391143140596 tw17158061918375695640 tw2102124826580130302 tw13134808852385300794 tw3401814932180912589 tw5012163044546709965 tw7345188599890081180 tw9408151996084218620 tw1951358532447071802 tw16094055177742854539 tw5628352046719209263 tw3733327452069122522 tw6714583614837754788 tw9943091354100821099 tw3358581780759968618 tw7909986964585358034 tw12404423258841669493 tw7839414612139887431 tw11432287782741913055 tw2026391507251630847 tw15579252194681220395 tw16401209974777635194 tw5216522072629508049 tw8466189537598157641 tw1892341740331123722 tw4915685444660274883 tw13970303597063122058 tw13806190618797288627 tw3185726540250891301 tw3361827345325581319 tw14799085335750888191 tw1043907135430896577 tw11162673221168599095 tw11093975121896814144 tw8480665265631070245 tw10360607370787013803 tw9661689795837339750 tw11139591837500143417 tw9370512877208095250 tw16134629026203083907 tw13164254224409798015 tw9317169177444818711 tw2921887132619460725 tw9768301576918240138 tw17647779233913604942 tw2125360702997585861 tw12982435375400386676 tw8875886723447564215 tw10767180209467568953 tw9197879023200636086 tw17157653746503600985 tw11348675339745887105 tw14273816403774465207 tw1428768174720871323 tw8146298428677529028 tw6912898518737340076 tw11568314894448426632 tw4086575402558474714 tw256282987803864582 tw15297375074164376909 tw3272736198957778768 tw15571275713979118158 tw6914483329803774 tw2842782911937279926 tw17203388918287061533 tw12738820683115717728 tw8689234103885566499 tw1562601206157044991 tw575988988380672162 tw2080104998011628480 tw10561780633928664742 tw4201608387365933266 tw15135486406552689698 tw13433086570648445936 tw12794140380593236876 tw12450855256782012428 tw17263504653715068898 tw2642763505859003604 tw6628431242460800059 tw12054883065662987236 tw1456447450456946901 tw2752590537048970286 tw3121598651916594633 tw1932356092813074862 tw10866441301357301403 tw8801871329689900587 tw13525421120844010969 tw15587656270504615420 tw11720832878420355502 tw10455269553672050649 tw10906567970643701915 tw6755607104922918552 tw12338984624513981728 tw8309519018469707718 tw15163737770466100775 tw3193971482509143694 tw18173431790942068324 tw12178656562317519918 tw6577297683526422192 tw3451360709202894693 tw1868526174941114420 tw16240204494307921818 tw11388202853552599432 tw14755208779020077769 tw3460714964844252497 tw11965001654468597808 tw9094061181370279993 tw18015410865559596229 tw4807930646218993452 tw13309745007618806101 tw3217514808520533175 tw6838525731550889796 tw7838006543075419699 tw10590704242324698196 tw11132095553227564025 tw9854649985468305698 tw4751229578515639545 tw16556576233083123932 tw11771461513773533297 tw16148128424355028955 tw9508185932108771097 tw13969882084643830099 tw12032630482788511976 tw14890556690121339830 tw13809540684990787283 tw5514636562199965298 tw5943326518570344127 tw798185051838983086 tw8828630339225278634 tw6496103577769702766 tw10154582075710262212 tw892087505888985191 tw3165173783020680622 tw18264213848173468867 tw1052238490200906480 tw12319061618864940556 tw13328548051297907038 tw8851706589761872642 tw16114196702338666554 tw14985661418788233093 tw6041731864980169425 tw11203447178944020922 tw11496828099483204133 tw11324114442111126369 tw12440169764593628691 tw11882869031935993862 tw86162871226804612 tw15692444087647948528 tw15409509300411312441 tw828904644217248255 tw7539286907172389269 tw8682443655036800345 tw13670917672962551091 tw10219929362569956673 tw11308688714469552470 tw2486493665337014041 tw1488801133216778248 tw8617567225883715870 tw331907756991718193 tw12386026349874339612 tw2705627280035171998 tw14717366425408117596 tw647462774398341356 tw9833630345864352140 tw4136170434560350354 tw817043391475301141 tw3641449854821823575 tw17025866132877089847 tw11754153720844399873 tw12916846437621044191 tw7432552103374855013 tw15094581815344272603 tw11345307865806360914 tw1273592315556926428 tw16439940234837155123 tw7448093388786706608 tw456505541992713207 tw6692540465911368579 tw14238234369699511799 tw4179778950068362500 tw16749133344426278334 tw13042827588256822914 tw12832991468095767040 tw11360350220427926624 tw9372112015382427886 tw10524650254988417573 tw7284938426623356905 tw13855676896700396336 tw13199932015002283981 tw12643705716255503742 tw10067653039386485491 tw9236421035480813697 tw16762437707554095269 tw5458546782265687339 tw2910766043228267762 tw2073030055836312490 tw137789122417248528 tw3906450393098613952 tw5176178583597660716 tw15877593193763974596 tw11827182218277914242 tw11723388928010071694 tw11671161653502783696 tw15946207713448305076 tw3713451283860331339 tw9154753154541968581 tw5977259787604940967 tw8312393179202843601 tw16045730194827998325 tw59696878683741651 tw2074685341398718261 tw12311859504692701474 tw10035798484547223343 tw3953912222351974622 tw1188453786590188703 tw17871401549421540099 tw17251743196927493936 tw16486657106504344351 tw6270550131049722998 tw12506150150736657888 tw6001849178312315030 tw5784764194575861606 tw4625654374596489582 tw9897416520462659470 tw9814951909998127975 tw9768604086738240420 tw6640810021067987414 tw5491462890311039432 tw5247258950832410136 tw3823240084185761296 tw3670560234112397078 tw18245855481614383110 tw17379408169393538249 tw16630862097317591492 tw16136226398716222267 tw15183016816595409361 tw12658006058844391149 tw6492357762979702188 tw10433388618247046763 tw7197562020313876690 tw1096643073260327603 tw15332215555164872002 tw5608580947471818481 tw6996975079094815851 tw11632809527629779373 tw474288064279869574 tw921969558428912192 tw3860298906571091496 tw5038541892176640880 tw17700442797937397382 tw15220848752447852549 tw13588448421329822287 tw251728939669464791 tw18024614768432666106 tw9323438553400558074 tw8581543375286452641 tw11487751589412278259 tw14538886110131869753 tw2896933168912306200 tw11283561151386427447 tw3709018988411782442 tw2701174761717459712 tw16000389396126051513 tw853863219574191169 tw8766036642698760394 tw5484600310431238163 tw1030895565244245355 tw901275452601651032 tw7865245612684764848 tw15780549777358735257 tw4555201411800876944 tw17938538078629423131 tw3992437238975625905 tw9257419196107406852 tw2613236615027728712 tw12627633865512721724 tw15060993342057123752 tw2227798821359360775 tw9176296538713265980 tw15708896690387014457 tw9410879812631385991 tw726653517403921574 tw972247571501458394 tw17159996874957124656 tw14173735636891918792 tw5386622807846188829 tw13688625022805397754 tw9076099043998706552 tw840315108802362321 tw7897565545755504588 tw15945887978588574926 tw13837392706256403149 tw8882524215851220118 tw8396333654847483113 tw16020659220776195100 tw11735159974597799711 tw8920639172520436578 tw7283880450502016984 tw2442428385291647823 tw17899107789618831227 tw14963650986330908169 tw7264516260595384571 tw7191530440317388230 tw7055568984139461165 tw3456589282869429282 tw17446289009394080329 tw6270475058576940137 tw17945834326544927354 tw1370596550992769587 tw2662297140847103826 tw10592977039285254755 tw8180193546777540160 tw9124826781543372383 tw17190969642873796378 tw2925449387582342183 tw18145216932220183752 tw2004708497637535047 tw7685513307620474193 tw14427049282832193136 tw7266267709005897665 tw12572624371465188209 tw15917930646793808836 tw11568622796678346803 tw9740651039190735056 tw12455553044413926893 tw7537843441213218883 tw3334186521151284471 tw14084746706601755046 tw9177249005083528150 tw4905652441893241338 tw9333350808567865730 tw8243588127450204065 tw4804846306613464393 tw4590628354117289206 tw2564906924288662719 tw1617463927072603700 tw11588652326170676358 tw10362828431411351558 tw9143798693262244991 tw896560548472383088 tw7951157711226033306 tw1050005700576974873 tw10554567069976121234 tw6706195526998054503 tw16984882765204811801 tw16140009982740619290 tw13845534062753750557 tw766430104601326547 tw3935049482782656982 tw14568680477931900713 tw13623007024548496094 tw11651865511043547461 tw7642560542140527849 tw1856148766857296884 tw16419994488260540250 tw650130033178058856 tw7810903155662436117 tw6806158765999849670 tw5189071410359030480 tw11881075606147482341 tw3440018154097998657 tw3297619464644398478 tw5407981040847453490 tw17728476088179060164 tw6539913166663347964 tw4042157102720848735 tw5134305639645064978 tw18418024994639865271 tw13480721399360957362 tw1318890515740928786 tw10799981813730399090 tw6063137540507421453 tw16244870036324283467 tw13612234831364738948 tw7647816620909066456 tw16250640053253781733 tw14933819789831815502 tw1323755951738343191 tw6986521636729520942 tw13201591303707844371 tw12544132521249427464 tw6731608310952851671 tw2076559938820808734 tw17810666668790208311 tw4324329913011347102 tw13505906451098665653 tw11011642538520002681 tw2861878389549204183 tw16011322985116844913 tw6157252729291699105 tw12214861393086867538 tw8017992180664503090 tw675672577383984820 tw5518116918112659489 tw15194160168707939836 tw16420353094605050797 tw10201653979718100591 tw44559311332004061 tw18028279767273531450 tw1701523426190186361 tw731422863122743775 tw10784318888337392976 tw8579183472653100879 tw18442382429704182176 tw394984938084930944 tw14673324999840259300 tw11872057531260950249 tw7323936074158019518 tw5954396667649621222 tw13965532654948473809 tw13407723260823156272 tw9419233352774287286 tw2048388621508580283 tw14347731538616565982 tw13924086132067101941 tw6312383939243913053 tw15685744792568037212 tw16517780820176885847 tw14498728882696709551 tw11857334270981494632 tw6997388491081315067 tw14082492461493154173 tw9505780948072183226 tw6864135420841302392 tw2654124892015174189 tw3043240062834782600 tw7350745224020361175 tw18386571082488038048 tw16746470830878156875 tw16415474445479029492 tw11242742017563338463 tw11064691047010304085 tw1216271722379851537 tw8954598254322198915 tw8445312195017865555 tw8292763098084973181 tw7510078531813891655 tw5693903573066126631 tw4124879156728467669 tw18238319057210651313 tw17099717536010636833 tw16619851406356899505 tw1645072777417414308 tw16251201902625771000 tw15515522666450474065 tw13819761637785068318 tw12893978973219060915 tw11702585456127956446 tw11624837052958326145 tw1868130923978926915 tw1960823900838841677 tw14638581931979608284 tw8165679623622812285 tw4247300030302738109 tw913257369541391928 tw1992964122818291541 tw14999916857338894059 tw14913606551436507840 tw14396941926018246960 tw7477205892115989496 tw5978830664143198136 tw5703274232705201304 tw54915260688678655 tw3326901354029108051 tw17749608981029697399 tw15058676069004100470 tw13931435339374901702 tw11542313297270782343 tw12993462872390166886 tw7135792977068237623 tw2824942677224568411 tw14873621636825194360:True)
open PySem PySem.W PyProof.Rows
set_option maxRecDepth 100000 in
set_option maxHeartbeats 0 in
theorem PySem.Challenge.cw_cleanrows_k33_marks_refused_holds : PySem.Challenge.rw_cleanrows_k33_marks_refused.Holds := by
 w_on;o_law;k_head;(case hw=>w_witness2)
 k_fill
 refine K33.walk (l:=PySem.Challenge.rw_cleanrows_k33_marks_refused) rfl rfl (λw h Y=>PySem.W.kIn_of Y) ?F
 case F =>
  intro w mg fa h KX G hmg
  refine' K33.all_mk KX G hmg ..
  all_goals try refine' {_,_,?_,{{_,_,_,_,_,_,_,_,_,rfl,?_,?_},?_}}
  all_goals try refine' {_,_,?_,?_,{{_,_,_,_,_,_,_,_,_,rfl,?_,?_},?_}}
  all_goals first|k_is|kit_is|k_exc|rfl|decide +kernel|skip
