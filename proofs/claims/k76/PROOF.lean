import PyProof.Rows.All
import Wide.All
import OpenK.KLine
import KE.RegKIsAll
import Wide.FinOn
import Lean
import PyProof.EqAt
import PyProof.EqKinds
import PyProof.TupleCall
import KE.KUnpack
import PyProof.NeKinds
import PyProof.EnumFor
import PyProof.EnumStmt
import PyProof.EnumMake
import PyProof.Draws
import PyProof.StrWalks
import PyProof.Rows.FStr
import PyProof.Rows.CallKw2
import PyProof.StrBlockL
import KE.KIntText
import PyProof.ConsumeWalk
import PyProof.StrBlockG
import PyProof.CallStr
import PyProof.Rows.Range3
import PyProof.MeetsDict
import PyProof.DictList
import PyProof.StrLawsChain
import PyProof.StrLawsNeg
import KE.IntTextLaws
import KE.IntTextText
import PyProof.CallFns
import PyProof.CompUse
import PyProof.DictWalks
import KE.KDictSum
import PyProof.FString5
import KE.KLam
import KE.KSortKey
import KE.KNestM
import PyProof.Rows.RuleN_abs
import PyProof.WalkInts
import KE.KMinKey
import KE.KSortTup
import PyProof.DictCompW
import PyProof.SetRoads
import PyProof.SetNew
import KE.KEqDict
import PyProof.ListRange
import KE.KRevSl
import KE.LcSums
import KE.KDictOf
import PyProof.AttrMissSeq
import PyProof.AutoListH
import PySem.Challenge.RW_cleanrows_k76_houses_begun
open PySem renaming wpAny_bind->we,Shared->KE,wpAny_pure->Ot,mainGlobals->OB,wpAny->OE,Program->OF,FuncData->OG,model->OK,Builtin->OO,Around->OQ,World->OS,wpAny_holding->OT,Expr->OU,starEach->OV,SetTable->OY,wpAny_mono->OZ,foldedSetIterable->O8,wpAny_field->Pk,wpAny_standAt->Pl,wpAny_newObj_type->Pm,rawInt->Pu,wpAny_setField->Px,wpAny_call_entry->PF,eval->PH,boot_len->PK,wpAny_Call_Name_kw->PM,Spec->PP,NameKind->PR,compareOp->PU,intKind->P0,mem_of_lookup->P4,assignEach->P7,sizeLine_eq->Qc,plainId_quiet->Qe,wpAny_truthy_bool->Qi,wpAny_callSpecial?_slot->Qp,attributeBase->Qs,codeAny_mono->Qt,cellsFrom->Qv,letOwnedTupleGo->Qw,codeAny_builtin->Qy,backTo->Qz,holding->QA,codeAny->QC,binaryOp->QF,intText?->QK,wpAny_setState_of->QL,standAt->QM,wpAny_updateSeq->QP,wpAny_tryCatch->QU,wpAny_seqItems->QV,wpAny_rule->QW,PassesOwn->Q3,bootBuiltins->Q4,wpAny_askSetting->Q7,pushCells->Ra,keywordEach->Rc,wpAny_Call_method_late->Rf,pyNext->Rh,wpAny_execs_nil->Rm,pushCells_keeps->Rn,callWith->Rp,wpAny_pyIter_list->Rv,wpAny_letGo->RA,strIterType->RB,setField->RC,closureFor->RG,call_meets->RH,wpAny_isInstance->RK,getMethod->RM,wpAny_passesOwn->RR,tupleKind_room_in1->RU,builtinsNs->RX,sliceBounds->RZ,pickOrder->R0,wpAny_typeOf->R4,wpAny_loadPart_at->R5,wpAny_dictEntries->R6,codeAny_handlers_test->Sf,wpAny_call->Sh,typeIs_str->Si,noteFrame->Sm,checkBuiltinCall->Sr,comprehension->Sw,wpAny_loadName_local->Sz,raiseNew->SA,codeAny_call_builtin->SB,backToKw->SC,wpAny_ite_split->SG,wpAny_isSubtype_exc->SH,wpAny_handleBy_cons->SI,valueAt->SK,firstIterPos->SN,swapsWith->SO,seqItems?->SQ,wpAny_Constant_int->SS,firstArgMember->SW,bindArgs->SY,assign->SZ,IsPart->S7,wpAny_throw->Tb,wpAny_pyIter_strU->Tc,wpAny_of_eq->Td,wpAny_Call_ofName->Tf,wpAny_newList->Tr,wpAny_attempt->Ts,behindInMarks->Tv,Result->Tw,Comprehension->TF,updateSeq->TK,tupleKind->TM,compTurn->TR,isTrue->T8,getItem->Ub,firstAsync->Ud,defaultsOf->Ue,argsOk->Ug,Within->Uh
open List renaming getElem?_eq_getElem->Os,mem_append_right->Oy,mem_cons_of_mem->Oz,length_map->OA,mem_cons_self->OI,getElem?_eq_some_iff->OJ,mem_cons->OL,size_toArray->OR,getElem?_map->O0,mem_singleton->O3,take_of_length_le->O4,getD_eq_getElem?_getD->O5,not_mem_nil->Pa,mem_append_left->Pb,all_eq_true->Pg,length_append->Ph,mem_append->Pi,length_cons->Pn,mem_map->Po,mem_of_getElem?->Pr,append_assoc->Pw,take_add_one->Pz,lookup->PL,map_append->PN,getElem_mem->PV,pairwise_cons->PX,map_cons->PY,replicate->PZ,append_nil->Qa,range->Qh,map_congr_left->Qk,contains_iff_mem->Qq,length_take->Qx,map_map->QN,length_eq_zero_iff->QO,cons_append->QS,length_singleton->QT,replicate_succ->QX,getElem?_eq_none->Q0,drop_eq_getElem_cons->Q1,take_append_drop->Q8,eq_nil_of_length_eq_zero->Re,foldl_append->Rj,drop_eq_nil_of_le->Rk,length_take_le'->Ro,lookup_cons->RE,getElem_of_mem->RF,perm_ext_iff_of_nodup->RI,getElem?_append_right->RJ,flatten_cons->RN,mem_filterMap->RP,mem_of_mem_take->RS,nodup_cons->RV,nil_append->RW,getElem?_cons_succ->R3,length->R8,flatMap_append->Sb,getElem?_set_self->Sd,getElem?_toArray->Sg,mem_range->Sn,length_nil->So,find?_cons->Sq,getElem?_set_ne->SD,dropLast_concat->SE,filterMap_cons->SJ,length_eraseIdx_of_lt->S6,mem_flatMap->Tg,nodup_append->To,length_range->Tp,count_append->Tq,all_cons->TU,range'_succ->T2,length_drop->T4,foldl_cons->Uc,mem_filter->Ui,Perm->Uj,map_id->Ul,any_cons->Up,drop_zero->Uq
open PySem.Heap renaming get?_push_of_some->Ou,get?_push_size->ON,get?_update_other->OW,lt_size->OX,get?_update_self->Pq,SameBut->Qj,size_push->Q9
open Nat renaming le_refl->Ov,lt_of_lt_of_le->O2,lt_of_le_of_lt->O7,lt_irrefl->O9,ne_of_lt->Pe,zero_le->Pp,le_trans->Pt,lt_of_succ_lt->Ql,lt_trans->Q6,lt_succ_self->Ri,lt_succ_of_lt->Rr,ne_of_gt->RD,le_succ->R9,le_of_lt->Sa,le_add_right->Sv,eq_zero_or_pos->S4,add_sub_cancel->S5,not_lt->Tt,sub_self->TN,le_of_eq->TQ,succ_le_succ->T1,toDigits->Uk
open PySem.W renaming Frag->Ow,mg_none_of->Qd,kia_one->Qg,findIn->Qn,mg_of->Qr,nsIn->QE,mroIn->Rt,keepIn->Ru,hasDictIn->R1,plainGet->R7,plainOver->Sk,of_hideAll->Sl,makesIn->SL,callWith_K->SX,methodCall_KW->Tu,instObj->T9,hideAll->Ua,codeHdIn->Uo
open PySem.Str renaming ofString->Ox,length_append->Qu,empty->RO
open PySem.Value renaming ref->OH,none->Pj,int->Rb,bool->RY,str->SR,isInt->Tn
open Or renaming inl->OM,inr->Ss
open Bool renaming false_ne_true->OP,and_eq_true->O1,false_eq_true->QH,eq_false_iff->QI,eq_iff_iff->Rq,or_false->Sy,false_and->S8,true_and->TH,not_eq_true'->T7
open Option renaming some->O6,map_eq_some_iff->Pf,bind_some->Su,isSome_iff_exists->Ti
open PyProof.Rows renaming boot_isinstance->Pc,slot_tuple_getitem->PQ,envOfC->QR,strKind->Q5,subscriptTail_builtinR->Rg,callWith_type1->Rw,IntsAre->Ry,AllBare->Rz,boot_str->RQ,size_push'->Sj,slot_tuple_getitem->SU,boot_sorted->Tj,seqObj->T5
open Ne renaming symm->Pd
open Array renaming getElem?_eq_some_iff->Py,getElem?_setIfInBounds_self_of_lt->PC,getElem?_eq_getElem->PD,getElem?_toList->Qf,length_toList->Qm,getD_eq_getD_getElem?->QZ,getElem?_setIfInBounds_ne->Se,toArray_toList->SF
open PySem.Obj renaming isFreed_of_fields->Qb,data_mapFields->QJ,cls_mapFields->Rx,mapFields->RL,mapSeq->Um
open PySem.Txt renaming split->Qo,slice->QQ,join->QY,rfind->RT
open Classical renaming byContradiction->QD
open Int renaming toNat_natCast->QG,lt_irrefl->Sx
open PySem.F renaming slot_str_split->SV,excBase_ValueError->S0,plain_extend_loop->Ta,slot_dict_values->Tz,plain_list_iadd->TV,plainAttrs_dict->TX,attr_ValueError->TY,args_dict_get_3->TZ
open PySem.W (methodObj hideAll_get lookIn handedIn plainGet_of isFn takerIn emptyDict callWith_K0 cellsFrom_some fnOf codeIn excIn clsIn kla_obj tabObj kla_fn codeHd_of_K tabIn)
open List (of_mem_zip foldl map_nil forIn_cons take filter_cons range' take_zero all_append)
open PySem.Heap (Ns UpToSlots ExtBut)
open Array (getD)
open Option (map_some getD_none isSome_some isSome_map map_none)
open PySem.Value (float type builtin)
open PyProof.Rows (KeyOrd boot_abs)
open PySem.F (slot_tuple_add entry_tuple_add args_tuple_add_2 plainAttrs_list entry_str_split args_str_split_2 slot_dict_get)
set_option bootstrap.genMatcherCode false
set_option compiler.extract_closed false
local macro_rules | `(f!$_)=>`(by decide +kernel)
local macro_rules | `({$x:term})=>`(⟨$x⟩) | `({$x:term,$xs:term,*})=>`(⟨$x,$xs,*⟩)
set_option hygiene false
local macro_rules | `($c:char)=>match c.getChar with | 'l'=>`(by lia) | 'd'=>`(by decide) | 'z'=>`(by simp)  | 'b'=>`(zy X sc N' Go C fp s H) | 'c'=>`(OK X.prog X.w) | 'f'=>`(clE (zb 0)) | 'g'=>`(x==("__debug__":Str)) | _=>Lean.Macro.throwUnsupported
set_option Elab.async false
set_option linter.all false
set_option autoImplicit true
set_option maxRecDepth 100000
namespace L2
open PySem PySem.Spec PyProof.Rows
abbrev Wc:PySem.Str:="__init__"
abbrev Wb:PySem.Str:="mark_number"
abbrev Wa:PySem.Str:="marked_state"
abbrev V9:PySem.Str:="next_number"
abbrev V8:PySem.Str:="files"
abbrev V7:PySem.Str:="refuse_if_stopped"
noncomputable abbrev V6:PySem.Str:="whole_rows"
abbrev V5:PySem.Str:="birth"
abbrev V4:PySem.Str:="take_later_name"
abbrev V3:PySem.Str:="take_number"
abbrev V2:PySem.Str:="mark"
abbrev V1:PySem.Str:="refuse_if_not_held"
abbrev V0:PySem.Str:="state"
abbrev VZ:PySem.Str:="Disk.refuse_if_stopped"
abbrev VY:PySem.Str:="copied"
abbrev VX:PySem.Str:="state_behind"
abbrev VW:PySem.Str:="stretches"
abbrev VV:PySem.Str:="is_within"
abbrev VU:PySem.Str:="take_word"
abbrev VT:PySem.Str:="first_state"
abbrev VS:PySem.Str:="first_signs"
abbrev VR:PySem.Str:="is_number_text"
abbrev VQ:PySem.Str:="refuse_if_over"
abbrev VP:PySem.Str:="refuse_if_none"
abbrev VO:PySem.Str:="RisenHouse.__init__"
abbrev VN:PySem.Str:="spots"
abbrev VM:PySem.Str:="is_made_of"
abbrev VL:PySem.Str:="take_spots"
abbrev VJ:PySem.Str:="house_of"
abbrev VI:PySem.Str:="_law_kinds"
abbrev VH:PySem.Str:="take_files"
abbrev VG:PySem.Str:="take_table"
abbrev VF:PySem.Str:="Words.take_number"
abbrev VE:PySem.Str:="signs"
abbrev VD:PySem.Str:="begin"
abbrev VC:PySem.Str:="_law_take"
abbrev VB:PySem.Str:="is_at_end"
abbrev VA:PySem.Str:="read_mark"
abbrev Vz:PySem.Str:="mark_text"
abbrev Vy:PySem.Str:="table_words"
abbrev Vx:PySem.Str:="House.begin"
abbrev Zf:List PySem.Str:=["self"]
noncomputable abbrev Y9:List PySem.Str:=["self","files","spots","next_number","mark_number"]
noncomputable abbrev Yh:List PySem.Str:=["begun","taken","mark_number","files","spot_of","by_number","row","stretch","place","spots"]
abbrev Yc:List PySem.Str:=["self","disk","state"]
abbrev XN:List PySem.Str:=["self","stretches","places"]
abbrev Xy:List PySem.Str:=["birth","stretch","place"]
abbrev Xx:List PySem.Str:=["self","file"]
abbrev Xw:List PySem.Str:=["self","disk"]
abbrev Xv:List PySem.Str:=["value","least","most"]
abbrev Xg:List PySem.Str:=["disk"]
abbrev Xb:List PySem.Str:=["text","signs","most"]
noncomputable abbrev W9:List PySem.Str:=["words","mark_number","next_number","files","spots"]
abbrev WX:List PySem.Str:=["text"]
abbrev WE:List PySem.Str:=["self","stretch"]
abbrev WD:List PySem.Str:=["self","text"]
abbrev WC:List PySem.Str:=["self","name"]
abbrev WB:List PySem.Str:=["self","many"]
abbrev WA:List PySem.Str:=["begun","taken","mark_number"]
abbrev Wz:List PySem.Str:=["self","k","text"]
abbrev Wy:List PySem.Str:=["_law_pot_here","_law_many"]
abbrev Wx:List PySem.Str:=["words"]
abbrev Ww:List PySem.Str:=["disk","states","whole"]
abbrev Wv:List PySem.Str:=["self","name","files"]
noncomputable abbrev Wu:List PySem.Str:=["self","file","place"]
noncomputable abbrev Wt:List PySem.Str:=["self","file","place","birth"]
abbrev Ws:List PySem.Str:=["_law_disk"]
noncomputable abbrev Wr:List PySem.Str:=["_law_pot_here","_law_disk"]
noncomputable abbrev Wq:List PySem.Str:=["state","spots","words","birth","stretch","place"]
abbrev Wp:List PySem.Str:=["files"]
noncomputable abbrev Wo:List PySem.Str:=["words","files","name","number","many","place"]
abbrev Wn:List PySem.Str:=["self","stretch","text"]
abbrev Wm:List PySem.Str:=["_law_script","_law_k"]
noncomputable abbrev Wl:List PySem.Str:=["words","spots","number","birth","stretch"]
abbrev Wk:List PySem.Str:=["words","name"]
abbrev Wj:List PySem.Str:=["self","other"]
abbrev Wi:List PySem.Str:=["self","word"]
noncomputable abbrev Wh:List PySem.Str:=["self","stretch","texts","done","place"]
abbrev Wg:List PySem.Str:=["self","stretch","text","texts","place"]
abbrev Wf:List PySem.Str:=["disk","side"]
abbrev We:List PySem.Str:=["_law_script"]
structure W(p:Prop):Prop where
 h:p
abbrev Key:=Sum Int Str
noncomputable def fU:Key->Value->Bool
 | .inl k,v=>Tn k v
 | .inr x,v=>Value.isStrOf x v
def ED(w:OS):Key->Int
 | .inl k=>hashInt k
 | .inr x=>hashStr w x
theorem dz:∀{k:Key}{v:Value},fU k v=true->(∃i t,k=Sum.inl i/\v=Rb i t)\/(∃x t,k=Sum.inr x/\v=SR x t)
 | .inl i,v,h=>by
  obtain ⟨t,e⟩:=Value.isInt_shape (k:=i) (v:=v) h;exact .inl {i,t,rfl,e}
 | .inr x,v,h=>by
  obtain ⟨t,e⟩:=Value.isStrOf_shape (x:=x) (v:=v) h;exact .inr {x,t,rfl,e}
theorem LH(i:Int)(t:Tok):fU (.inl i) (.int i t)=true:=by simp [fU,Tn]
theorem FF(x:Str)(t:Tok):fU (.inr x) (.str x t)=true:=by simp [fU,Value.isStrOf]
theorem Nl(a b:Int):decide ((Sum.inl a:Key)=Sum.inl b)=(a==b):=by
 by_cases e:a=b
 .subst e;simp
 .have h : ¬ (Sum.inl a:Key)=Sum.inl b:=λq=>e (Sum.inl.inj q);rw [decide_eq_false h];exact (beq_eq_false_iff_ne.mpr e).symm
theorem Nj(a b:Str):decide ((Sum.inr a:Key)=Sum.inr b)=decide (a=b):=by
 by_cases e:a=b
 .subst e;simp
 .have h : ¬ (Sum.inr a:Key)=Sum.inr b:=λq=>e (Sum.inr.inj q);rw [decide_eq_false h,decide_eq_false e]
theorem Hm(a:Int)(b:Str):decide ((Sum.inl a:Key)=Sum.inr b)=false:=decide_eq_false (λq=>nomatch q)
theorem CN(a:Str)(b:Int):decide ((Sum.inr a:Key)=Sum.inl b)=false:=decide_eq_false (λq=>nomatch q)
noncomputable def bg(prog:OF)(w:OS):PySem.KeyKind prog w Key where
 is:=fU
 hash:=ED w
 inj:=λv a b ha z=>by
  rcases dz ha with ⟨i,t,rfl,rfl⟩|⟨x,t,rfl,rfl⟩
  .rcases dz z with ⟨j,u,rfl,e⟩|⟨y,u,rfl,e⟩
   .injection e with e1 _;rw [e1]
   .exact nomatch e
  .rcases dz z with ⟨j,u,rfl,e⟩|⟨y,u,rfl,e⟩
   .exact nomatch e
   .injection e with e1 _;rw [e1]
 byValue:=λk v h=>by
  rcases dz h with ⟨i,t,rfl,rfl⟩|⟨x,t,rfl,rfl⟩<;>rfl
 pyHash:=λhv h=>by
  rcases dz hv with ⟨i,t,rfl,rfl⟩|⟨x,t,rfl,rfl⟩
  .exact wpAny_pyHash_int h
  .exact wpAny_pyHash_str h
 eqBool:=λF hv h=>by
  rcases dz F with ⟨i,t,rfl,rfl⟩|⟨x,t,rfl,rfl⟩
  .rcases dz hv with ⟨j,u,rfl,rfl⟩|⟨y,u,rfl,rfl⟩
   .rw [Nl] at h;exact wpAny_eqBool_int h
   .rw [Hm] at h;exact SeqAt.EqAt.int_str i t y u _ _ _ _ h
  .rcases dz hv with ⟨j,u,rfl,rfl⟩|⟨y,u,rfl,rfl⟩
   .rw [CN] at h;exact SeqAt.EqAt.str_int x t j u _ _ _ _ h
   .rw [Nj] at h;exact wpAny_eqBool_str h
 «strs»:=λk x t v h=>by
  rcases dz h with ⟨i,u,rfl,e⟩|⟨y,u,rfl,e⟩
  .exact nomatch e
  .injection e with e1 _
   subst e1;cases v<;>rfl
theorem Dl(prog:OF)(w:OS)(i:Int)(t:Tok):(bg prog w).is (.inl i) (.int i t)=true:=LH i t
theorem MO(prog:OF)(w:OS)(x:Str)(t:Tok):(bg prog w).is (.inr x) (.str x t)=true:=FF x t
inductive V where
 | non|bl (b:Bool)|int (i:Int)|str (x:Str)|byt (b:Array UInt8)|flt (b:UInt64)|ref (a:Addr)|ty (n:String)
 deriving DecidableEq
def zp:V->Value->Prop
 | .non,u=>u=Pj
 | .bl b,u=>u=RY b
 | .int i,u=>∃t,u=Rb i t
 | .str x,u=>∃t,u=SR x t
 | .byt b,u=>∃t,u=Value.bytes b t
 | .flt b,u=>∃t,u=float b t
 | .ref a,u=>u=OH a
 | .ty n,u=>u=type n
abbrev zu:List V->List Value->Prop:=Paired zp
theorem zu.length(r:zu xs us):xs.length=us.length:=Paired.length r
theorem zu.get:∀{xs:List V}{us:List Value}{i:Nat}{x:V},zu xs us->xs[i]?=some x->∃u,us[i]?=some u/\zp x u
 | _,_,_,_,.nil,e=>by simp at e
 | _,_,0,_,.cons r _,e=>by simp at e;subst e;exact {_,rfl,r}
 | _,_,i+1,x,.cons _ t,e=>by
  obtain ⟨u,h1,h2⟩:=zu.get (i:=i) (x:=x) t (by simpa using e);exact {u,by simpa using h1,h2}
theorem zu.set(r:zp x u):∀{xs:List V}{us:List Value}(i:Nat),zu xs us->zu (xs.set i x) (us.set i u)
 | _,_,_,.nil=>.nil
 | _,_,0,.cons _ t=>.cons r t
 | _,_,i+1,.cons q t=>.cons q (zu.set r i t)
theorem zu.append(h:zu xs us)(k:zu ys ws):zu (xs++ys) (us++ws):=by
 induction h with
 | nil=>exact k
 | cons r t z=>exact .cons r z
theorem zu.take:∀{xs:List V}{us:List Value}(n:Nat),zu xs us->zu (xs.take n) (us.take n)
 | _,_,0,_=>.nil
 | _,_,_+1,.nil=>.nil
 | _,_,n+1,.cons r t=>.cons r (zu.take n t)
theorem zu.drop:∀{xs:List V}{us:List Value}(n:Nat),zu xs us->zu (xs.drop n) (us.drop n)
 | _,_,0,r=>r
 | _,_,_+1,.nil=>.nil
 | _,_,n+1,.cons _ t=>zu.drop n t
def bN:Option V->Option Value->Prop
 | some v,some u=>zp v u
 | none,none=>True
 | _,_=>False
def KV{κ:Type}:List (κ×V)->List (κ×Value)->Prop:=Paired λ(p:κ×V)(q:κ×Value)=>p.1=q.1/\zp p.2 q.2
def kV:Key->V
 | .inl i=>.int i
 | .inr x=>.str x
inductive HO where
 | lst (xs:List V)
 | tup (xs:List V)
 | dK (kvs:List (Key×V))|dT (kvs:List (List Key×V))
 | set (S:Int->Bool) (n:Nat)
 | ins (C dx:Addr) (fs:List (Str×V))
 | own (x:Addr)
 | xd (fs:List (Str×V))
 | met (f x:Addr)
 | rng (lo hi:Int)
 | frz (o:Obj) (u:HO)
 | tbl (ps:Array Value)
 | ext (φ:Heap->Prop)
abbrev Hp:=Addr->Option HO
def upd(H:Hp)(a:Addr)(o:HO):Hp:=λb=>if b=a then some o else H b
theorem zt{o:HO}:upd H a o a=some o:=by unfold upd;rw [if_pos rfl]
theorem zg{o:HO}(h:b≠a):upd H a o b=H b:=by unfold upd;rw [if_neg h]
theorem dQ{o u:HO}:upd (upd H a o) a u=upd H a u:=by
 funext b;unfold upd;split<;>rfl
theorem NX{H:Hp}{o u:HO}(h:H a=some o)(h':H b=some u)(d:o≠u):a≠b:=by
 intro e;subst e;rw [h] at h';exact d (O6.inj h')
theorem zz{H:Hp}{o:HO}(h:H a=some o)(h':H b=none):a≠b:=by
 intro e;subst e;rw [h] at h';cases h'
section
variable (P:OF) (w:OS)
noncomputable def au(H:Hp)(h:Heap)(a:Addr):HO->Prop
 | .lst xs=>xs.length<=sizeLine/\∃(its:List Value)(n:Nat),zu xs its/\h.get? a=some { cls:=.type "list",data:=.seq its.toArray n }
 | .tup xs=>xs.length<=sizeLine/\∃its:List Value,zu xs its/\IsTup h a its.toArray
 | .dK kvs=>kvs.length<=sizeLine/\(a==sysModules)=false/\∃vs,KV kvs vs/\h.DictOf (bg P w) a vs
 | .dT kvs=>kvs.length<=sizeLine/\(a==sysModules)=false/\∃xs:List (List Key×Addr×Value),
   Paired (λ(p:List Key×V)(q:List Key×Addr×Value)=>p.1=q.1/\H q.2.1=some (.tup (p.1.map kV))/\zp p.2 q.2.2) kvs xs /\
   ∃o es ep,h.get? a=some o/\o.ExactDict/\o.data = .dict es ep/\es.toList=xs.map (entryOfKey (TM (bg P w)))/\(xs.map (·.1)).Nodup
 | .set S n=>h.SetOf (intKind P w) a S n
 | .ins C dx fs=>H dx=some (.own a)/\fs.length<=1000/\dx≠a/\h.get? a=some (T9 C dx) /\
   ∃mA,h.Ns1 dx mA/\(∀f,bN (fs.lookup f) (mA f))/\Uh mA (fs.map (·.1))
 | .own _=>∃o,h.get? a=some o
 | .xd fs=>∃mA,h.Ns1 a mA/\∀f,bN (fs.lookup f) (mA f)
 | .rng lo hi=>∃t u v,h.get? a=some { cls:=.type "range",data:=.fields #[.int lo t,.int hi u,.int 1 v] }
 | .frz o u=>h.get? a=some o/\au H h a u
 | .tbl ps=>h.get? a=some { cls:=.none,data:=.fields ps }
 | .met f x=>h.get? a=some (methodObj (.ref f) (.ref x))
 | .ext z=>z h/\(∃o,h.get? a=some o)/\∀h1 h2:Heap,z h1->(∀o,h1.get? a=some o->h2.get? a=some o)->z h2
noncomputable def HOk(H:Hp)(h:Heap):Prop:=∀a o,H a=some o->au P w H h a o
end
section
variable {P:OF}{w:OS}{H H':Hp}{h h':Heap}{a:Addr}{o:HO}
theorem au.lt(x:au P w H h a o):a<h.objs.size:=by
 cases o with
 | lst xs=>obtain ⟨_,_,_,_,e⟩:=x;exact OX e
 | tup xs=>obtain ⟨_,_,_,p⟩:=x;exact p.lt
 | dK kvs=>obtain ⟨_,_,_,_,o,_,_,e,_⟩:=x;exact OX e
 | dT kvs=>obtain ⟨_,_,_,_,o,_,_,e,_⟩:=x;exact OX e
 | set S n=>obtain ⟨o,_,_,_,e,_⟩:=x;exact OX e
 | ins C dx fs=>obtain ⟨_,_,_,e,_⟩:=x;exact OX e
 | own y=>obtain ⟨_,e⟩:=x;exact OX e
 | xd fs=>obtain ⟨_,⟨_,_,_,e,_⟩,_⟩:=x;exact OX e
 | rng lo hi=>obtain ⟨_,_,_,e⟩:=x;exact OX e
 | frz ob u=>obtain ⟨e,_⟩:=x;exact OX e
 | tbl ps=>exact OX (show h.get? a=some _ from x)
 | met f y=>exact OX (show h.get? a=some _ from x)
 | ext z=>obtain ⟨_,⟨_,e⟩,_⟩:=x;exact OX e
theorem Paired.UN{α β:Type}{F G:α->β->Prop}{z:List α}{l₂:List β}(h:Paired F z l₂)(f:∀a b,F a b->G a b):Paired G z l₂:=by
 induction h with
 | nil=>exact .nil
 | cons r t J=>exact .cons (f _ _ r) J
theorem au.Vc(x:au P w H h a o)(k:∀b u,(b=a\/H b=some (.own a))->h.get? b=some u->h'.get? b=some u)
  (O:∀b,H b=some (.own a)->H' b=some (.own a)) (U:∀b xs,H b=some (.tup xs)->H' b=some (.tup xs)):au P w H' h' a o:=by
 induction o with
 | lst xs=>obtain ⟨z,its,n,r,e⟩:=x;exact {z,its,n,r,k _ _ (.inl rfl) e}
 | tup xs=>obtain ⟨z,its,r,ob,e,c⟩:=x;exact {z,its,r,ob,k _ _ (.inl rfl) e,c}
 | dK kvs=>obtain ⟨z,y,vs,r,ob,es,ep,e,c⟩:=x;exact {z,y,vs,r,ob,es,ep,k _ _ (.inl rfl) e,c}
 | dT kvs =>
  obtain ⟨z,y,xs,r,ob,es,ep,e,c⟩:=x;exact {z,y,xs,Paired.UN r λp q z=>{z.1,U _ _ z.2.1,z.2.2},ob,es,ep,k _ _ (.inl rfl) e,c}
 | set S n=>obtain ⟨ob,es,ep,t,e,c⟩:=x;exact {ob,es,ep,t,k _ _ (.inl rfl) e,c}
 | ins C dx fs =>
  obtain ⟨d,z,ne,e,mA,⟨F,es,ep,G,c⟩,r⟩:=x;exact {O _ d,z,ne,k _ _ (.inl rfl) e,mA,{F,es,ep,k _ _ (.inr d) G,c},r}
 | own y=>obtain ⟨ob,e⟩:=x;exact {ob,k _ _ (.inl rfl) e}
 | xd fs=>obtain ⟨mA,⟨F,es,ep,e,c⟩,r⟩:=x;exact {mA,{F,es,ep,k _ _ (.inl rfl) e,c},r}
 | rng lo hi=>obtain ⟨t,u,v,e⟩:=x;exact {t,u,v,k _ _ (.inl rfl) e}
 | frz ob u J=>obtain ⟨e,q⟩:=x;exact {k _ _ (.inl rfl) e,J q}
 | tbl ps =>
  have e:h.get? a=some { cls:=.none,data:=.fields ps }:=x;show h'.get? a=some { cls:=.none,data:=.fields ps };exact k a _ (.inl rfl) e
 | met f y =>
  have e:h.get? a=some (methodObj (.ref f) (.ref y)):=x;show h'.get? a=some (methodObj (.ref f) (.ref y));exact k a _ (.inl rfl) e
 | ext W=>obtain ⟨p,⟨o,e⟩,st⟩:=x;exact {st _ _ p λo q=>k _ _ (.inl rfl) q,{o,k _ _ (.inl rfl) e},st}
theorem HOk.lt(x:HOk P w H h)(e:H a=some o):a<h.objs.size:=(x a o e).lt
theorem HOk.fresh(x:HOk P w H h)(e:h.objs.size<=a):H a=none:=by
 cases q:H a with
 | none=>rfl
 | some u=>exact absurd (O2 (x.lt q) e) (O9 _)
theorem HOk.kept(x:HOk P w H h)(k:∀b u,h.get? b=some u->h'.get? b=some u):HOk P w H h':=λa o e =>
 (x a o e).Vc (λb u _ q=>k b u q) (λ_ q=>q) λ_ _ q=>q
theorem HOk.laid(x:HOk P w H h)(k:∀b u,h.get? b=some u->h'.get? b=some u)(hp:h.objs.size<=a)(new:au P w (upd H a o) h' a o):HOk P w (upd H a o) h':=λb u e=>by
 have z:=x.fresh hp;by_cases F:b=a
 .subst F;rw [zt] at e;cases e;exact new
 .rw [zg F] at e;exact (x b u e).Vc (λc v _ q=>k c v q) (λc q=>by rw [zg (zz q z)];exact q) λc xs q=>by rw [zg (zz q z)];exact q
end
def Rd(H:Hp)(a:Addr)(u:HO):Prop:=H a=some u\/∃o,H a=some (.frz o u)
theorem Rd.ok(r:Rd H a u)(x:HOk P w H h):au P w H h a u:=by
 rcases r with r|⟨o,r⟩
 .exact x a u r
 .obtain ⟨_,q⟩:=x a _ r;exact q
def Mut:Option HO->Prop
 | some (.lst _)=>True
 | some (.dK _)=>True
 | some (.dT _)=>True
 | some (.set _ _)=>True
 | some (.ins _ _ _)=>True
 | some (.ext _)=>True
 | _=>False
section
variable {P:OF}{w:OS}{H:Hp}{h h':Heap}{x e:Addr}{o':HO}
theorem HOk.write(ok:HOk P w H h)(O:Mut (H x))(he:e=x\/H e=some (.own x))(k:∀b u,b≠e->h.get? b=some u->h'.get? b=some u)(W:∃u,h'.get? e=some u)
  (new:au P w (upd H x o') h' x o'):HOk P w (upd H x o') h':=λb u q=>by
 have G:∀c y,H c=some (.own y)->c≠x:=λc y r z=>by subst z;rw [r] at O;exact O
 have J:∀c xs,H c=some (.tup xs)->c≠x:=λc xs r z=>by subst z;rw [r] at O;exact O
 by_cases S:b=x
 .subst S;rw [zt] at q;cases q;exact new
 .rw [zg S] at q;by_cases F:b=e
  .have Z:H b=some (.own x):=by
    rcases he with z|z
    .exact absurd (F.trans z) S
    .rw [F];exact z
   rw [q] at Z;cases Z;obtain ⟨v,hv⟩:=W;exact {v,by rw [F];exact hv}
  .refine (ok b u q).Vc (λc v U r=>k c v ?_ r) (λc r=>by rw [zg (G c b r)];exact r) λc xs r=>by rw [zg (J c xs r)];exact r
   rcases U with rfl|U
   .exact F
   .rintro rfl;rcases he with z|z
    .exact G c b U z
    .rw [U] at z;cases z;exact S rfl
end
structure Un(fs ex:List Addr)(H H':Hp)(h h':Heap):Prop where
 keep:∀b o,h.get? b=some o->H b=none->b∉fs->b∉ex->h'.get? b=some o
 slot:∀b o,h.get? b=some o->H b=none->b∈fs->b∉ex->∃sl,h'.get? b=some { o with slots:=sl }
 free:∀b o,h.get? b=some o->H b=none->b∉ex->H' b=none
 there:∀b o,h.get? b=some o->b∉ex->∃o',h'.get? b=some o'
 tups:∀b xs,H b=some (.tup xs)->H' b=some (.tup xs)
 frzs:∀b o u,H b=some (.frz o u)->H' b=some (.frz o u)
 tbls:∀b ps,H b=some (.tbl ps)->∃more,H' b=some (.tbl (ps++more))
section
variable {fs fs' ex ex':List Addr}{H H1 H2:Hp}{h h1 h2 h':Heap}{a x e:Addr}{o:HO}
theorem Un.any(u:Un fs ex H H1 h h1)(q:h.get? b=some ob)(n:H b=none)(hx:b∉ex):∃sl,h1.get? b=some { ob with slots:=sl }:=by
 by_cases z:b∈fs
 .exact u.slot b ob q n z hx
 .exact {ob.slots,u.keep b ob q n z hx}
theorem Un.kept(k:∀b u,h.get? b=some u->h'.get? b=some u):Un fs ex H H h h' :=
 {λb ob q _ _ _=>k b ob q,λb ob q _ _ _=>{ob.slots,k b ob q},λ_ _ _ n _=>n,λb ob q _=>{ob,k b ob q},λ_ _ q=>q,λ_ _ _ q=>q,λ_ ps q=>{#[],by rw [q];simp}}
theorem Un.refl:Un fs ex H H h h:=Un.kept λ_ _ q=>q
theorem Un.laid(k:∀b u,h.get? b=some u->h'.get? b=some u)(hp:h.objs.size<=a)(z:H a=none):Un fs ex H (upd H a o) h h' where
 keep:=λb u q _ _ _=>k b u q
 slot:=λb u q _ _ _=>{u.slots,k b u q}
 free:=λb u q n _=>by rw [zg (Pe (O2 (OX q) hp))];exact n
 there:=λb u q _=>{u,k b u q}
 tups:=λb xs q=>by rw [zg (zz q z)];exact q
 frzs:=λb u xs q=>by rw [zg (zz q z)];exact q
 tbls:=λb ps q=>{#[],by rw [zg (zz q z),q];simp}
theorem Un.write(G:Mut (H x))(he:e=x\/H e=some (.own x))(k:∀b u,b≠e->h.get? b=some u->h'.get? b=some u)(J:∃u,h'.get? e=some u):Un fs ex H (upd H x o) h h':=by
 have hx:∀b,H b=none->b≠x:=λb n z=>by subst z;rw [n] at G;exact G
 have S:∀b,H b=none->b≠e:=λb n z=>by
  subst z;rcases he with r|r
  .exact hx b n r
  .rw [n] at r;cases r
 have O:∀b u,H b=some u->¬ Mut (some u)->b≠x:=λb u q nm z=>by subst z;rw [q] at G;exact nm G
 refine {λb u q n _ _=>k b u (S b n) q,λb u q n _ _=>{u.slots,k b u (S b n) q},λb u q n _=>by rw [zg (hx b n)];exact n,λb u q _=>?_,
  λb xs q=>by rw [zg (O b _ q λz=>z)];exact q,λb u xs q=>by rw [zg (O b _ q λz=>z)];exact q,λb ps q=>{#[],by rw [zg (O b _ q λz=>z),q];simp}}
 by_cases F:b=e
 .subst F;exact J
 .exact {u,k b u F q}
end
noncomputable def trk(h:Heap)(H:Hp):List Addr:=(Qh h.objs.size).filter λa=>(H a).isSome
noncomputable def d6(h:Heap)(H:Hp):Heap:=Ua h (trk h H)
theorem JL(h:Heap)(H:Hp):(d6 h H).objs.size=h.objs.size:=PySem.W.hideAll_size _ _
theorem Mg{o:Obj}(e:h.get? b=some o)(n:H b=none):(d6 h H).get? b=some o :=
 hideAll_get _ e λz=>by
  have q:(H b).isSome=true:=(Ui.mp z).2;rw [n] at q;simp at q
theorem Kz{o:Obj}(e:(d6 h H).get? b=some o):h.get? b=some o/\H b=none:=by
 have F:h.get? b=some o:=Sl (trk h H) e;refine {F,?_};cases q:H b with
 | none=>rfl
 | some x =>
  have G:b∈trk h H:=Ui.mpr {Sn.mpr (OX F),by simp [q]};have z:(d6 h H).get? b=none:=PySem.W.hideAll_none (trk h H) G;rw [z] at e;cases e
noncomputable def gK(g h:Heap)(L:Addr):List (Addr×Obj):=(Qh h.objs.size).filterMap λa=>if a=L\/(g.get? a).isSome=true then none else (h.get? a).map λo=>(a,o)
theorem KR{o:Obj}(h1:a≠L)(h2:g.get? a=none)(h3:h.get? a=some o):(a,o)∈gK g h L :=
 RP.mpr {a,Sn.mpr (OX h3),by simp [h1,h2,h3]}
theorem EG{p:Addr×Obj}(hp:p∈gK g h L):p.1≠L/\g.get? p.1=none/\h.get? p.1=some p.2:=by
 obtain ⟨b,_,e⟩:=RP.mp hp;split at e
 .cases e
 .rename_i F;cases q:h.get? b with
  | none=>rw [q] at e;simp at e
  | some u =>
   rw [q] at e;simp only [map_some,O6.injEq] at e;subst e;refine {λz=>F (.inl z),?_,q};show g.get? b=none;cases r:g.get? b with
   | none=>rfl
   | some v=>exact (F (.inr (by simp [r]))).elim
theorem Mn:News g L h (gK g h L):=λp hp=>let ⟨a,b,c⟩:=EG hp;⟨c,a,b⟩
structure Mod(K:Ow)(mg:Str->Option Value)(base:Heap):Prop where
 eE:K.In base
 glob:base.Ns OB mg
 blt:∃mb,base.Ns RX mb/\∀x:Str,x≠"__name__"->mb x=Q4 x
 nolimit:base.NoLimit
inductive Chn(H:Hp):Nat->Addr->Prop
 | one {a:Addr}{o:Obj}{vs:Array Value}{C:Addr} (h:H a=some (.frz o (.own 0))) (d:o.data = .fields vs) (n:vs[2]?=some .none) (c:o.cls = .ref C):Chn H 0 a
 | more {k:Nat}{a b:Addr}{o:Obj}{vs:Array Value}{C:Addr} (h:H a=some (.frz o (.own 0))) (d:o.data = .fields vs) (n:vs[2]?=some (.ref b)) (c:o.cls = .ref C) (t:Chn H k b):Chn H (k+1) a
theorem Chn.same{k:Nat}(x:Chn H k a)(f:∀b o,H b=some (.frz o (.own 0))->H' b=some (.frz o (.own 0))):Chn H' k a:=by
 induction x with
 | one h d n c=>exact .one (f _ _ h) d n c
 | more h d n c _ z=>exact .more (f _ _ h) d n c z
def fH(A:OQ)(H:Hp):Prop:=A.handled=none\/∃(a:Addr)(k:Nat),A.handled=some (.ref a)/\Chn H k a
theorem fH.eP(x:fH A H)(k:∀b o,H b=some (.frz o (.own 0))->H' b=some (.frz o (.own 0))):fH A H':=by
 rcases x with x|⟨a,n,h1,h2⟩
 .exact .inl x
 .exact .inr {a,n,h1,h2.same k}
theorem fH.same(x:fH A H)(k:∀b o u,H b=some (.frz o u)->H' b=some (.frz o u)):fH A H':=x.eP λb o h=>k b o _ h
structure Cx where
 prog:OF
 w:OS
 K:Ow
 mg:Str->Option Value
 base:Heap
 A:OQ
 N:List Str
 s₀:KE
 H₀:Hp
 env:Env
 outer:List Env
 stack:List Env
 ex:List Addr
 fn:Str->Bool
 calm:Bool
 pn:List (Addr×Obj)
 xe:Value->KE->Prop
def frs(l:List Env):List Addr:=l.filterMap (·.frame)
abbrev Cx.fs(X:Cx):List Addr:=frs X.outer
def Vis(sc:Scope)(x:Str):Prop:=sc.names.lookup x=some .local\/sc.names.lookup x=some .cell\/sc.names.lookup x=some .free
def Loc(sc:Scope)(x:Str):Prop:=sc.names.lookup x=some .local\/sc.names.lookup x=some .cell
def uc(env:Env)(h:Heap)(m:Str->Option Value)(x:Str)(u:Value):Prop :=
 (env.kindOf x=some .local/\m x=some u)\/((env.kindOf x=some .cell\/env.kindOf x=some .free)/\∃c,env.cells.lookup x=some c/\h.IsCell c (some u))
structure Cx.Ok(X:Cx):Prop where
 mod:Mod X.K X.mg X.base
 kind:X.env.scope.kind = .function
 glob:X.env.globals=OB
 blt:X.env.builtins=RX
 above:X.s₀.heap.objs.size<=X.env.locals
 inj:∀x y c,X.env.cells.lookup x=some c->X.env.cells.lookup y=some c->x=y
 has:∀x,(X.env.kindOf x=some .cell\/X.env.kindOf x=some .free)->∃c,X.env.cells.lookup x=some c
 e1:∀x c,X.fn x=true->X.env.cells.lookup x=some c->X.s₀.heap.objs.size<=c
 hd:X.calm=true->X.A.handled=none
 frames:X.A.frames=some X.stack
 e4:X.stack=X.outer\/(X.stack=X.env::X.outer/\X.env.frame=some X.env.locals)
 fv:∀b∈X.ex,b≠X.env.locals/\∀x c,X.env.cells.lookup x=some c->c≠b
 bs:∀b o,X.base.get? b=some o->X.s₀.heap.get? b=some o/\X.H₀ b=none
 ea:X.base.objs.size<=X.s₀.heap.objs.size
 dk:∀b o,X.base.get? b=some o->b∉X.ex
 dW:∀b∈X.ex,b∉X.fs
 Vl:X.s₀.heap.FunFrames X.base X.outer
 eF:∀b∈X.fs,X.H₀ b=none
structure Inv(X:Cx)(Go:List (Addr×Obj))(σ:List (Option V))(H:Hp)(s:KE):Prop where
 ok:X.Ok
 os:s.os=X.s₀.os
 bare:Rz s.gens
 base:Un X.fs X.ex X.H₀ H X.s₀.heap s.heap
 loc:∃m,s.heap.Ns X.env.locals m/\∀(i:Nat)(x:Str)(v:V),X.N[i]?=some x->σ[i]?=some (some v)->Vis X.env.scope x->∃u,zp v u/\uc X.env s.heap m x u
 cell:∀x c,X.env.cells.lookup x=some c->∃v,s.heap.IsCell c v
 free:H X.env.locals=none
 Uz:∀x c,X.env.cells.lookup x=some c->H c=none
 pin:∀p∈X.pn++Go,s.heap.get? p.1=some p.2/\H p.1=none/\p.1≠X.env.locals/\p.1∉X.fs/\∀v,p.2.data≠.cell v
 hok:HOk X.prog X.w H s.heap
 len:σ.length=X.N.length
 hdk:fH X.A H
section
variable {X:Cx}{Go:List (Addr×Obj)}{σ:List (Option V)}{H H':Hp}{s:KE}{h':Heap}
theorem Cx.Ok.fy(ok:X.Ok){o:Obj}(e:X.base.get? b=some o):b∉X.fs:=λz=>by
 have:=(ok.Vl.mem z).1;rw [e] at this;cases this
theorem Inv.bs(I:Inv X Go σ H s):∀b o,X.base.get? b=some o->s.heap.get? b=some o/\H b=none:=λb o e =>
 {I.base.keep b o (I.ok.bs b o e).1 (I.ok.bs b o e).2 (I.ok.fy e) (I.ok.dk b o e),I.base.free b o (I.ok.bs b o e).1 (I.ok.bs b o e).2 (I.ok.dk b o e)}
theorem Inv.bk(I:Inv X Go σ H s):∀b o,X.base.get? b=some o->s.heap.get? b=some o:=λb o e=>(I.bs b o e).1
theorem Inv.mod(I:Inv X Go σ H s):Mod X.K X.mg X.base:=I.ok.mod
theorem Inv.UQ(I:Inv X Go σ H s):X.K.In s.heap:=I.ok.mod.eE.keeps I.bk
theorem Inv.fr(I:Inv X Go σ H s):∃m,Fr X.base X.env.locals s.heap m :=
 let ⟨m,hn,_⟩:=I.loc
 {m,hn,I.bk,Pt I.ok.ea I.ok.above}
theorem Inv.lt(I:Inv X Go σ H s):X.env.locals<s.heap.objs.size:=let ⟨_,hn,_⟩:=I.loc;hn.lt
theorem Inv.sz(I:Inv X Go σ H s):X.s₀.heap.objs.size<=s.heap.objs.size:=Pt I.ok.above (Sa I.lt)
theorem Inv.e9(I:Inv X Go σ H s)(h:s.heap.objs.size<=a):a∉X.fs:=λF=>by
 obtain ⟨_,o,z,_⟩:=I.ok.Vl.mem F;exact absurd (O2 (OX z) (Pt I.sz h)) (O9 _)
theorem Inv.cne(I:Inv X Go σ H s):∀x c,X.env.cells.lookup x=some c->c≠X.env.locals:=λx c e z=>by
 obtain ⟨v,o,G,hd⟩:=I.cell x c e;obtain ⟨m,⟨o',es,ep,J,F,_⟩,_⟩:=I.loc;rw [z,J] at G;cases G;rw [F] at hd;cases hd
theorem Inv.Vl(I:Inv X Go σ H s):s.heap.FunFrames X.base X.outer:=by
 have all:∀(l:List Env),(∀b∈frs l,b∈X.fs)->X.s₀.heap.FunFrames X.base l->s.heap.FunFrames X.base l:=by
  intro l
  induction l with
  | nil=>intro _ _;trivial
  | cons env r O =>
   intro hs hl;obtain ⟨S,⟨L,o,hf,J,U,hd⟩,hr⟩:=hl;have G:L∈X.fs:=hs L (by unfold frs;rw [SJ,hf];exact OI);obtain ⟨sl,e⟩:=I.base.slot L o U (I.ok.eF L G) G λz=>I.ok.dW L z G;exact {S,{L,_,hf,J,e,hd},O (λb F=>hs b (by unfold frs;rw [SJ,hf];exact Oz _ F)) hr}
 exact all X.outer (λ_ F=>F) I.ok.Vl
theorem Inv.stack(I:Inv X Go σ H s):s.heap.FunFrames X.base X.stack:=by
 rcases I.ok.e4 with e|⟨e,hf⟩
 .rw [e];exact I.Vl
 .rw [e];obtain ⟨m,z,_⟩:=I.loc;refine .cons (by rw [I.ok.kind];decide) hf z ?_ I.Vl;exact Heap.get?_none_of_le (Pt I.ok.ea I.ok.above)
theorem Inv.aj(I:Inv X Go σ H s):∀b∈frs X.stack,b∈X.env.locals::X.fs:=λb z=>by
 rcases I.ok.e4 with e|⟨e,hf⟩
 .rw [e] at z;exact Oz _ z
 .rw [e] at z;unfold frs at z;rw [SJ,hf] at z;exact z
theorem Inv.cp(I:Inv X Go σ H s):∀b∈frs X.stack,H b=none:=λb F=>by
 rcases OL.mp (I.aj b F) with e|F
 .rw [e];exact I.free
 .obtain ⟨_,o,G,_⟩:=I.ok.Vl.mem F;exact I.base.free b o G (I.ok.eF b F) λz=>I.ok.dW b z F
theorem Inv.step{ch:List Addr}(I:Inv X Go σ H s)(Xl:∀b∈ch,(b∈X.ex\/X.s₀.heap.objs.size<=b)/\b≠X.env.locals/\(∀x c,X.env.cells.lookup x=some c->c≠b)/\∀p∈X.pn++Go,p.1≠b)(keep:∀b o,b≠X.env.locals->b∉X.fs->b∉ch->s.heap.get? b=some o->H b=none->h'.get? b=some o)(slot:∀b o,b≠X.env.locals->b∈X.fs->b∉ch->s.heap.get? b=some o->H b=none->∃sl,h'.get? b=some { o with slots:=sl })(free:∀b o,b∉ch->s.heap.get? b=some o->H b=none->H' b=none)(there:∀b o,b∉ch->s.heap.get? b=some o->∃o',h'.get? b=some o')(tups:∀b xs,H b=some (.tup xs)->H' b=some (.tup xs))(frzs:∀b o u,H b=some (.frz o u)->H' b=some (.frz o u))(tbls:∀b ps,H b=some (.tbl ps)->∃more,H' b=some (.tbl (ps++more)))(ns:∀m,s.heap.Ns X.env.locals m->h'.Ns X.env.locals m)(hok:HOk X.prog X.w H' h')(hg:Rz g'):
  Inv X Go σ H' { s with heap:=h',gens:=g',drawn:=d',toks:=t' }:=by
 have Z:∀b o,X.s₀.heap.get? b=some o->b≠X.env.locals:=λb o e=>Pe (O2 (OX e) I.ok.above);have J:∀b o,X.s₀.heap.get? b=some o->b∉X.ex->b∉ch:=λb o e hx S=>by
  rcases (Xl b S).1 with z|z
  .exact hx z
  .exact absurd (O2 (OX e) z) (O9 _)
 have F:∀x c,X.env.cells.lookup x=some c->∀v,s.heap.IsCell c v->h'.IsCell c v:=λx c e v ⟨o,U,hd⟩=>by
  have G:c∉ch:=λz=>(Xl c z).2.2.1 x c e rfl;by_cases hc:c∈X.fs
  .obtain ⟨sl,q⟩:=slot c o (I.cne x c e) hc G U (I.Uz x c e);exact {_,q,hd}
  .exact {o,keep c o (I.cne x c e) hc G U (I.Uz x c e),hd}
 refine {I.ok,I.os,hg,{λb o e n S hx=>?_,λb o e n S hx=>?_,λb o e n hx=>?_,λb o e hx=>?_,λb xs e=>tups b xs (I.base.tups b xs e),λb o xs e=>frzs b o xs (I.base.frzs b o xs e),λb ps e=>?_},?_,λx c e=>?_,?_,λx c e=>?_,λp hp=>?_,hok,I.len,I.hdk.same frzs}
 .exact keep b o (Z b o e) S (J b o e hx) (I.base.keep b o e n S hx) (I.base.free b o e n hx)
 .obtain ⟨sl,O⟩:=I.base.slot b o e n S hx;obtain ⟨ai,W⟩:=slot b _ (Z b o e) S (J b o e hx) O (I.base.free b o e n hx);exact ⟨ai,W⟩
 .obtain ⟨o',O⟩:=I.base.there b o e hx;exact free b o' (J b o e hx) O (I.base.free b o e n hx)
 .obtain ⟨o',O⟩:=I.base.there b o e hx;exact there b o' (J b o e hx) O
 .obtain ⟨m1,O⟩:=I.base.tbls b ps e;obtain ⟨m2,W⟩:=tbls b _ O;exact {m1++m2,by rw [W,Array.append_assoc]}
 .obtain ⟨m,hn,hl⟩:=I.loc;refine {m,ns m hn,λi x v O W e3=>?_};obtain ⟨u,r,l⟩:=hl i x v O W e3;refine {u,r,?_};rcases l with l|⟨k,c,e,z⟩
  .exact .inl l
  .exact .inr {k,c,e,F x c e _ z}
 .obtain ⟨v,z⟩:=I.cell x c e;exact {v,F x c e v z}
 .obtain ⟨m,⟨o,_,_,U,_⟩,_⟩:=I.loc;exact free _ o (λz=>(Xl _ z).2.1 rfl) U I.free
 .obtain ⟨v,o,U,hd⟩:=I.cell x c e;exact free c o (λz=>(Xl c z).2.2.1 x c e rfl) U (I.Uz x c e)
 .obtain ⟨e,n,ne,nf,d⟩:=I.pin p hp;have G:p.1∉ch:=λz=>(Xl p.1 z).2.2.2 p hp rfl;exact {keep p.1 p.2 ne nf G e n,free p.1 p.2 G e n,ne,nf,d}
theorem Inv.un(I:Inv X Go σ H s)(u:Un X.fs [] H H' s.heap h')(hok:HOk X.prog X.w H' h'):Inv X Go σ H' { s with heap:=h',toks:=t' }:=by
 obtain ⟨m,⟨o,es,ep,O,r⟩,_⟩:=id I.loc;obtain ⟨sl,U⟩:=u.any O I.free 'z';exact I.step (g':=s.gens) (d':=s.drawn) (ch:=[]) (λ_ z=>nomatch z) (λb o _ G _ e n=>u.keep b o e n G 'z') (λb o _ G _ e n=>u.slot b o e n G 'z') (λb o _ e n=>u.free b o e n 'z') (λb o _ e=>u.there b o e 'z') u.tups u.frzs u.tbls (λZ W=>by
  obtain ⟨o',S,F,J,r'⟩:=W;rw [O] at J;cases J;exact {_,S,F,U,r'}) hok I.bare
theorem Inv.call(I:Inv X Go σ H s)(u:Un (frs X.stack) ch H H' s.heap h')(hok:HOk X.prog X.w H' h')(Z:Rz g')(U:∀b∈ch,(b∈X.ex\/X.s₀.heap.objs.size<=b)/\b≠X.env.locals/\(∀x c,X.env.cells.lookup x=some c->c≠b)/\∀p∈X.pn++Go,p.1≠b):
  Inv X Go σ H' { s with heap:=h',gens:=g',drawn:=d',toks:=t' }:=by
 obtain ⟨m,⟨o,es,ep,S,r⟩,_⟩:=id I.loc;obtain ⟨sl,J⟩:=u.any S I.free λz=>(U _ z).2.1 rfl;exact I.step (ch:=ch) U (λb o J hb F e n=>u.keep b o e n (λz=>(OL.mp (I.aj b z)).elim J hb) F) (λb o _ _ F e n=>u.any e n F) (λb o F e n=>u.free b o e n F) (λb o F e=>u.there b o e F) u.tups u.frzs u.tbls (λm' hm=>by
  obtain ⟨o',W,G,O,r'⟩:=hm;rw [S] at O;cases O;exact {_,W,G,J,r'}) hok Z
theorem Inv.turned(I:Inv X Go σ H s)(k:∀b o,b≠it->s.heap.get? b=some o->h'.get? b=some o)(O:H it=none)(J:it≠X.env.locals)(h1:it∈X.ex\/X.s₀.heap.objs.size<=it)(h2:∀x c,X.env.cells.lookup x=some c->c≠it)(h3:∀p∈X.pn++Go,p.1≠it):Inv X Go σ H { s with heap:=h',toks:=t' }:=by
 have G:∀b u,H b=some u->b≠it:=λb u e z=>by rw [z,O] at e;cases e
 refine I.step (g':=s.gens) (d':=s.drawn) (ch:=[it]) (λb S=>?_) (λb o _ _ F e _=>k b o (λz=>F (by simp [z])) e) (λb o _ _ F e _=>{o.slots,k b o (λz=>F (by simp [z])) e}) (λ_ _ _ _ n=>n)
  (λb o F e=>{o,k b o (λz=>F (by simp [z])) e}) (λ_ _ e=>e) (λ_ _ _ e=>e) (λb ps e=>{#[],by rw [e];simp}) (λm W=>?_) (λb u e=>?_) I.bare
 .have e:b=it:=by simpa using S
  subst e;exact ⟨h1,J,h2,h3⟩
 .obtain ⟨o,es,ep,U,r⟩:=W;exact {o,es,ep,k _ o (Pd J) U,r}
 .refine (I.hok b u e).Vc (λc v F q=>k c v ?_ q) (λ_ q=>q) λ_ _ q=>q;rcases F with z|z
  .rw [z];exact G b u e
  .exact G c _ z
theorem Inv.tok(I:Inv X Go σ H s)(t:Nat):Inv X Go σ H { s with toks:=t }:=I.un (h':=s.heap) (t':=t) Un.refl I.hok
theorem Inv.kept(I:Inv X Go σ H s)(k:∀b u,s.heap.get? b=some u->h'.get? b=some u):Inv X Go σ H { s with heap:=h',toks:=t' }:=I.un (Un.kept k) (I.hok.kept k)
theorem Inv.laid{o:HO}(I:Inv X Go σ H s)(k:∀b u,s.heap.get? b=some u->h'.get? b=some u)(hp:s.heap.objs.size<=a)(new:au X.prog X.w (upd H a o) h' a o):
  Inv X Go σ (upd H a o) { s with heap:=h',toks:=t' }:=I.un (Un.laid k hp (I.hok.fresh hp)) (I.hok.laid k hp new)
theorem Inv.write{o:HO}(I:Inv X Go σ H s)(F:Mut (H x))(he:e=x\/H e=some (.own x))(k:∀b u,b≠e->s.heap.get? b=some u->h'.get? b=some u)(z:∃u,h'.get? e=some u)(new:au X.prog X.w (upd H x o) h' x o):Inv X Go σ (upd H x o) { s with heap:=h',toks:=t' }:=I.un (Un.write F he k z) (I.hok.write F he k z new)
theorem Inv.Ut(I:Inv X Go σ H s)(h:∀p∈pins',s.heap.get? p.1=some p.2/\H p.1=none/\p.1≠X.env.locals/\p.1∉X.fs/\∀v,p.2.data≠.cell v):Inv X pins' σ H s :=
 {I.ok,I.os,I.bare,I.base,I.loc,I.cell,I.free,I.Uz,λp hp=>(Pi.mp hp).elim (λz=>I.pin p (Pb _ z)) (h p),I.hok,I.len,I.hdk}
theorem pY{N:List Str}(hN:N.Nodup){i j:Nat}(a:N[i]?=some x)(b:N[j]?=some x):i=j:=by
 obtain ⟨h1,z⟩:=OJ.mp a;obtain ⟨h2,F⟩:=OJ.mp b;exact (List.getElem_inj hN).mp (z.trans F.symm)
theorem Mo(I:Inv X Go σ H s)(hN:X.N.Nodup)(hi:X.N[i]?=some x)(hx:Loc X.env.scope x)(r:zp v u)(h:∀s',Inv X Go (σ.set i (some v)) H s'->(∃a,Qj a s.heap s'.heap/\(a=X.env.locals\/X.env.cells.lookup x=some a))->Q () s')(hf:X.fn x=true\/X.env.scope.names.lookup x=some .local:=by first|exact .inl rfl|exact .inr rfl|assumption):OE M A (storeName X.env x u) Q E s:=by
 obtain ⟨m,hn,hl⟩:=id I.loc;have av:(X.env.scope.kind == .class||(X.env.scope.kind == .module&&X.env.locals != X.env.globals))=false:=by rw [I.ok.kind];rfl
 have U:i<σ.length:=by rw [I.len];exact (OJ.mp hi).1
 have cne:=I.cne;have XB:∀{a:Addr}{h':Heap},(∃o,s.heap.get? a=some o/\H a=none)->Qj a s.heap h'->HOk X.prog X.w H h':=λ{a h'} ha hs b ob e=>by
  obtain ⟨_,_,J⟩:=ha;refine (I.hok b ob e).Vc (λc w' G q=>(hs.2 c ?_).trans q) (λ_ q=>q) λ_ _ q=>q;rintro rfl;rcases G with rfl|G
  .rw [J] at e;cases e
  .rw [J] at G;cases G
 rcases hx with S|S
 .refine wpAny_storeName_local S hn (λh' aT hs=>?_) av;obtain ⟨oL,_,_,XA,_⟩:=id hn;refine h _ {I.ok,I.os,I.bare,{λb o e n W hx=>?_,λb o e n W hx=>?_,I.base.free,λb o e hx=>?_,I.base.tups,I.base.frzs,I.base.tbls},{_,aT,λj y v' F O e3=>?_},λy c e=>?_,I.free,I.Uz,λp hp=>?_,XB ⟨oL,XA,I.free⟩ hs,by simpa using I.len,I.hdk} {_,hs,.inl rfl}
  .exact (hs.2 b (Pe (O2 (OX e) I.ok.above))).trans (I.base.keep b o e n W hx)
  .obtain ⟨sl,F⟩:=I.base.slot b o e n W hx;exact {sl,(hs.2 b (Pe (O2 (OX e) I.ok.above))).trans F}
  .obtain ⟨o',F⟩:=I.base.there b o e hx;exact {o',(hs.2 b (Pe (O2 (OX e) I.ok.above))).trans F}
  .by_cases hj:j=i
   .subst hj;rw [hi] at F;cases F;rw [Sd U] at O;cases O;exact {u,r,.inl {S,'z'}}
   .rw [SD (Pd hj)] at O;obtain ⟨u',r',q⟩:=hl j y v' F O e3;refine {u',r',?_};rcases q with ⟨k,e⟩|⟨k,c,e,z⟩
    .refine .inl {k,?_};have:y≠x:=λe=>hj (pY hN F (e ▸ hi));simp [this,e]
    .exact .inr {k,c,e,z.sameBut hs (cne y c e)}
  .obtain ⟨w',z⟩:=I.cell y c e;exact {w',z.sameBut hs (cne y c e)}
  .obtain ⟨e,n,ne,nf,d⟩:=I.pin p hp;exact {(hs.2 p.1 ne).trans e,n,ne,nf,d}
 .have Z:X.fn x=true:=by
   rcases hf with z|z
   .exact z
   .rw [z] at S;cases S
  obtain ⟨c,G⟩:=I.ok.has x (.inl S);obtain ⟨w',z⟩:=I.cell x c G;refine wpAny_storeName_cell I.ok.kind S G z (λh' X2 hs=>?_);obtain ⟨oc,ax,aI⟩:=id z;refine h { s with heap:=h' } {I.ok,I.os,I.bare,{λb o e n W hx=>?_,λb o e n W hx=>?_,I.base.free,λb o e hx=>?_,I.base.tups,I.base.frzs,I.base.tbls},{m,hn.sameBut hs (Pd (cne x c G)),λj y v' F O e3=>?_},λy c' e=>?_,I.free,I.Uz,λp hp=>?_,XB {oc,ax,I.Uz x c G} hs,by simpa using I.len,I.hdk} {c,hs,.inr G}
  .exact (hs.2 b (Pe (O2 (OX e) (I.ok.e1 x c Z G)))).trans (I.base.keep b o e n W hx)
  .obtain ⟨sl,F⟩:=I.base.slot b o e n W hx;exact {sl,(hs.2 b (Pe (O2 (OX e) (I.ok.e1 x c Z G)))).trans F}
  .obtain ⟨o',F⟩:=I.base.there b o e hx;exact {o',(hs.2 b (Pe (O2 (OX e) (I.ok.e1 x c Z G)))).trans F}
  .by_cases hj:j=i
   .subst hj;rw [hi] at F;cases F;rw [Sd U] at O;cases O;exact {u,r,.inr {.inl S,c,G,X2}}
   .rw [SD (Pd hj)] at O;obtain ⟨u',r',q⟩:=hl j y v' F O e3;refine {u',r',?_};rcases q with q|⟨k,c',e,z'⟩
    .exact .inl q
    .refine .inr {k,c',e,z'.sameBut hs ?_};rintro rfl;exact hj (pY hN F (I.ok.inj _ _ _ e G ▸ hi))
  .by_cases ai:c'=c
   .subst ai;exact {_,X2}
   .obtain ⟨w2,z2⟩:=I.cell y c' e;exact {w2,z2.sameBut hs ai}
  .obtain ⟨e,n,ne,nf,d⟩:=I.pin p hp;refine {(hs.2 p.1 ?_).trans e,n,ne,nf,d};intro q;rw [q,ax] at e;have q':oc=p.2:=O6.inj e;exact d w' (by rw [<- q'];exact aI)
theorem md(I:Inv X Go σ H s)(hN:X.N.Nodup)(hi:X.N[i]?=some x)(hx:Loc X.env.scope x)(r:zp v u)(h:∀s',Inv X Go (σ.set i (some v)) H s'->Q () s')(hf:X.fn x=true\/X.env.scope.names.lookup x=some .local:=by first|exact .inl rfl|exact .inr rfl|assumption):OE M A (storeName X.env x u) Q E s :=
 Mo I hN hi hx r (λs' z _=>h s' z) hf
theorem Inv.dC(I:Inv X Go σ H s)(z:s'.os=s.os)(u:Un (frs X.stack) ch H H' s.heap s'.heap)(hok:HOk X.prog X.w H' s'.heap)(F:Rz s'.gens)(G:∀b∈ch,(b∈X.ex\/X.s₀.heap.objs.size<=b)/\b≠X.env.locals/\(∀x c,X.env.cells.lookup x=some c->c≠b)/\∀p∈X.pn++Go,p.1≠b):Inv X Go σ H' s':=by
 obtain ⟨h',g',d',t',o'⟩:=s';have e:o'=s.os:=z;subst e;exact I.call (g':=g') (t':=t') (d':=d') u hok F G
end
abbrev XK:=Value->Option Addr->Hp->Prop
abbrev St:=List (Option V)
abbrev VK:=V->Hp->Prop
abbrev TE:=St->Hp->VK->Prop
abbrev TT:=St->Hp->(Bool->Hp->Prop)->Prop
abbrev TA:=St->Hp->(List V->Hp->Prop)->Prop
structure bZ where
 nx:St->Hp->Prop
 rt:VK
 bk:St->Hp->Prop:=λ_ _=>False
 ct:St->Hp->Prop:=λ_ _=>False
abbrev TS:=bZ->St->Hp->Prop
def EP(X:Cx)(Go:List (Addr×Obj))(σ:St)(Q:VK)(u:Value)(s':KE):Prop:=∃v H',Inv X Go σ H' s'/\zp v u/\Q v H'
def TP(X:Cx)(Go:List (Addr×Obj))(σ:St)(Q:Bool->Hp->Prop)(b:Bool)(s':KE):Prop:=∃H',Inv X Go σ H' s'/\Q b H'
def AP(X:Cx)(Go:List (Addr×Obj))(σ:St)(Q:List V->Hp->Prop)(us:List Value)(s':KE):Prop:=∃vs H',Inv X Go σ H' s'/\zu vs us/\Q vs H'
def SP(X:Cx)(Go:List (Addr×Obj))(D:bZ)(f:Flow)(s':KE):Prop :=
 match f with
 | .next=>∃z H',Inv X Go z H' s'/\D.nx z H'
 | .brk=>∃z H',Inv X Go z H' s'/\D.bk z H'
 | .cont=>∃z H',Inv X Go z H' s'/\D.ct z H'
 | .ret u=>∃v z H',Inv X Go z H' s'/\zp v u/\D.rt v H'
def PE(X:Cx)(e:OU)(t:TE):Prop :=
 ∀(Go:List (Addr×Obj))(s:KE)(σ:St)(H:Hp)(Q:VK),Inv X Go σ H s->t σ H Q->OE 'c' X.A (PH e X.env) (EP X Go σ Q) X.xe s
def PT(X:Cx)(e:OU)(t:TT):Prop :=
 ∀(Go:List (Addr×Obj))(s:KE)(σ:St)(H:Hp)(Q:Bool->Hp->Prop),Inv X Go σ H s->t σ H Q->OE 'c' X.A (T8 e X.env (PH e X.env)) (TP X Go σ Q) X.xe s
def PW(X:Cx)(e:OU)(t:TT):Prop :=
 ∀(z:Sem Value)(Go:List (Addr×Obj))(s:KE)(σ:St)(H:Hp)(Q:Bool->Hp->Prop),Inv X Go σ H s->t σ H Q->OE 'c' X.A (T8 e X.env z) (TP X Go σ Q) X.xe s
theorem PW.pt{t:TT}(h:PW X e t):PT X e t:=h _
def PA(X:Cx)(es:List OU)(t:TA):Prop :=
 ∀(pos:Pos)(Go:List (Addr×Obj))(s:KE)(σ:St)(H:Hp)(Q:List V->Hp->Prop),Inv X Go σ H s->t σ H Q->OE 'c' X.A (spliced (Qz pos (OV es X.env))) (AP X Go σ Q) X.xe s
def PS(X:Cx)(st:Stmt)(t:TS):Prop :=
 ∀(Go:List (Addr×Obj))(s:KE)(σ:St)(H:Hp)(D:bZ),Inv X Go σ H s->t D σ H->OE 'c' X.A (exec st X.env) (SP X Go D) X.xe s
def PSs(X:Cx)(st:List Stmt)(t:TS):Prop :=
 ∀(Go:List (Addr×Obj))(s:KE)(σ:St)(H:Hp)(D:bZ),Inv X Go σ H s->t D σ H->OE 'c' X.A (execs st X.env) (SP X Go D) X.xe s
theorem x2e{a b c:Prop}(f:a->b->c)(h:a/\b):c:=f h.1 h.2
theorem x3e{α:Sort _}{A B:α->Prop}{D:Prop}(f:∀x,A x->B x->D)(h:∃x,A x/\B x):D:=h.elim λx z=>f x z.1 z.2
theorem x4e{α β:Sort _}{A B:α->β->Prop}{D:Prop}(f:∀x y,A x y->B x y->D)(h:∃x y,A x y/\B x y):D:=h.elim λx=>x3e (f x)
theorem x5e{α β:Sort _}{A B C:α->β->Prop}{D:Prop}(f:∀x y,A x y->B x y->C x y->D)(h:∃x y,A x y/\B x y/\C x y):D:=h.elim λx=>x3e λy a=>x2e (f x y a)
theorem thn{α:Type}{t:Sem α}{Q z:α->KE->Prop}(h:OE M A t Q E s)(F:∀a s,Q a s->z a s):OE M A t z E s:=OZ h F λ_ _ x=>x
section
variable {X:Cx}
def dX(i:Nat):TE:=λσ H Q=>∃v,σ[i]?=some (some v)/\Q v H
def tC(v:V):TE:=λ_ H Q=>Q v H
theorem BA(hN:X.N[i]?=some x)(hv:Vis X.env.scope x)(hd:'g'=false:=by decide)(hcd:(x==("__classdict__":Str))=false:=by decide):PE X (.Name x pos) (dX i):=by
 intro Go s σ H Q I h;obtain ⟨v,e,h⟩:=h;obtain ⟨m,O,hl⟩:=I.loc;obtain ⟨u,r,l⟩:=hl i x v hN e hv;have F:EP X Go σ Q u s:=⟨v,H,I,r,h⟩;rcases l with ⟨z,S⟩|⟨z,c,G,J⟩
 .exact wpAny_Name (Sz I.ok.kind z O S F) hd
 .rcases z with z|z
  .exact wpAny_Name (wpAny_loadName_cell I.ok.kind z G J F) hd
  .exact wpAny_Name (wpAny_loadName_free I.ok.kind z G J F hcd) hd
theorem uz{i j pos}:PE X (.Constant (.int i) j pos) (tC (.int i)):=λ_ _ _ H _ I h=>SS {.int i,H,I.tok _,{_,rfl},h}
theorem cM{b j pos}:W (PE X (.Constant (.bool b) j pos) (tC (.bl b))):={λ_ _ _ H _ I h=>Constant_bool {.bl b,H,I,rfl,h}}
theorem eO{j pos}:W (PE X (.Constant .none j pos) (tC .non)):={λ_ _ _ H _ I h=>Constant_none {.non,H,I,rfl,h}}
theorem zH{x j pos}:W (PE X (.Constant (.str x) j pos) (tC (.str x))):={λ_ _ _ H _ I h=>Calls.Constant_str {.str x,H,I.tok _,{_,rfl},h}}
def Gl(X:Cx)(x:Str):Prop:=X.env.kindOf x=some .globalImplicit
theorem di(I:Inv X Go σ H s)(F:Gl X x)(z:X.mg x=some u)(h:Q u s)(hd:'g'=false:=by decide):OE 'c' X.A (PH (.Name x pos) X.env) Q E s :=
 Calls.Name_function_global I.ok.kind F (Calls.loadGlobal_global (by rw [I.ok.glob];exact I.mod.glob.keeps I.bk) z h) hd
theorem fW(I:Inv X Go σ H s)(z:Gl X x)(G:X.mg x=none)(hv:Q4 x=some u)(h:Q u s)(F:x≠"__name__":=by decide)(hd:'g'=false:=by decide):OE 'c' X.A (PH (.Name x pos) X.env) Q E s:=by
 obtain ⟨J,h1,h2⟩:=I.mod.blt;exact Calls.Name_function_global I.ok.kind z (Calls.loadGlobal_builtin (by rw [I.ok.glob];exact I.mod.glob.keeps I.bk) G (by rw [I.ok.blt];exact h1.keeps I.bk) ((h2 x F).trans hv) h) hd
theorem Gw(F:Gl X x)(z:X.mg x=some u)(r:zp v u)(hd:'g'=false:=by decide):PE X (.Name x pos) (tC v) :=
 λ_ _ _ H _ I h=>di I F z ⟨v,H,I,r,h⟩ hd
theorem kM(G:Gl X x)(F:X.mg x=none)(hv:Q4 x=some u)(r:zp v u)(z:x≠"__name__":=by decide)(hd:'g'=false:=by decide):W (PE X (.Name x pos) (tC v)):={λ_ _ _ H _ I h=>fW I G F hv ⟨v,H,I,r,h⟩ z hd}
variable {a b:OU}{ta tb:TE}{pos:Pos}
variable {tA tB':TT}{YD:List OU}
def vg(t u:TT):TT:=λσ H Q=>t σ H λc H1=>if c=true then u σ H1 Q else Q false H1
def yR(t:TT):TT:=λσ H Q=>t σ H λc H1=>Q (!c) H1
theorem GK(ha:W (PT X a tA)):W (PW X (.BoolOp .And [a] pos) tA):=by
 refine {?_};have ha:=ha.h;intro z Go s σ H Q I h;refine isTrue_and (thn (ha Go s σ H Q I h) λc s1 e=>?_);cases c with
 | true=>exact isTrue_and_nil e
 | false=>exact e
theorem BW(ha:W (PT X a tA))(z:W (PW X (.BoolOp .And (b::YD) pos) tB')):W (PW X (.BoolOp .And (a::b::YD) pos) (vg tA tB')):=by
 refine {?_};have ha:=ha.h;have z:=z.h;intro G Go s σ H Q I h;refine isTrue_and (thn (ha Go s σ H _ I h) λc s1=>x3e λH1 F q1=>?_);cases c with
 | true=>exact z G Go s1 σ H1 Q F q1
 | false=>exact ⟨H1,F,q1⟩
theorem dw(ha:W (PT X a tA)):W (PT X (.UnaryOp .Not a pos) (yR tA)):=by
 refine {?_};have ha:=ha.h;intro Go s σ H Q I h;exact isTrue_not (ha Go s σ H (λc H1=>Q (!c) H1) I h)
def oR(ta tb:TE):TE:=λσ H Q=>ta σ H λx H1=>∃c,x = .bl c/\if c=true then tb σ H1 Q else Q (.bl false) H1
def Av(ta tb:TE):TE:=λσ H Q=>ta σ H λx H1=>∃c,x = .bl c/\if c=true then Q (.bl true) H1 else tb σ H1 Q
def pP(ta:TE):TE:=λσ H Q=>ta σ H λx H1=>∃c,x = .bl c/\Q (.bl (!c)) H1
theorem jh{op}{t:TE}(h:W (PE X a t)):W (PE X (.BoolOp op [a] pos) t):=by refine {?_};have h:=h.h;exact λGo s σ H Q I hw=>BoolOp_one (h Go s σ H Q I hw)
theorem mF(ha:W (PE X a ta))(z:W (PE X (.BoolOp .And (b::YD) pos) tb)):W (PE X (.BoolOp .And (a::b::YD) pos) (oR ta tb)):=by
 refine {?_};have ha:=ha.h;have z:=z.h;intro Go s σ H Q I h;refine BoolOp_and (thn (ha Go s σ H _ I h) λv s1=>x5e λx H1 F r1 q1=>?_);obtain ⟨c,rfl,q1⟩:=q1;cases r1;refine Qi ?_;cases c with
 | true=>exact z Go s1 σ H1 Q F q1
 | false=>exact {.bl false,H1,F,rfl,q1}
theorem L7(ha:W (PE X a ta))(z:W (PE X (.BoolOp .Or (b::YD) pos) tb)):W (PE X (.BoolOp .Or (a::b::YD) pos) (Av ta tb)):=by
 refine {?_};have ha:=ha.h;have z:=z.h;intro Go s σ H Q I h;refine BoolOp_or (thn (ha Go s σ H _ I h) λv s1=>x5e λx H1 F r1 q1=>?_);obtain ⟨c,rfl,q1⟩:=q1;cases r1;refine Qi ?_;cases c with
 | false=>exact z Go s1 σ H1 Q F q1
 | true=>exact {.bl true,H1,F,rfl,q1}
theorem wm(ha:W (PE X a ta)):W (PE X (.UnaryOp .Not a pos) (pP ta)):=by
 refine {?_};have ha:=ha.h;intro Go s σ H Q I h;refine UnaryOp_ (thn (ha Go s σ H _ I h) λv s1=>x5e λx H1 z r1 q1=>?_);obtain ⟨c,rfl,q1⟩:=q1;cases r1;exact not_of (Qi {.bl (!c),H1,z,rfl,q1})
def tIf(t:TT)(ta tb:TE):TE:=λσ H Q=>t σ H λc H1=>if c=true then ta σ H1 Q else tb σ H1 Q
theorem CS(z:W (PT X c tA))(ha:W (PE X a ta))(F:W (PE X b tb)):W (PE X (.IfExp c a b pos) (tIf tA ta tb)):=by
 refine {?_};have z:=z.h;have ha:=ha.h;have F:=F.h;intro Go s σ H Q I h;refine wpAny_IfExp (thn (z Go s σ H _ I h) λd s1=>x3e λH1 G q1=>?_);cases d with
 | true=>exact ha Go s1 σ H1 Q G q1
 | false=>exact F Go s1 σ H1 Q G q1
end
def SqL(K:Ow)(H:Hp)(a:Addr)(xs:List V):Prop :=
 Rd H a (.lst xs) \/
  ∃(o:Obj)(its:Array Value)(n:Nat),K.lookup a=some o/\o.cls = .type "list"/\o.dict=none/\o.data = .seq its n/\its.size<=sizeLine/\zu xs its.toList
def SqT(K:Ow)(H:Hp)(a:Addr)(xs:List V):Prop :=
 Rd H a (.tup xs) \/
  ∃(o:Obj)(its:Array Value)(n:Nat),K.lookup a=some o/\o.cls = .type "tuple"/\o.data = .seq its n/\its.size<=sizeLine/\zu xs its.toList
noncomputable def LG:Value->Option V
 | .none=>some .non
 | .bool b=>some (.bl b)
 | .int i _=>some (.int i)
 | .str x _=>some (.str x)
 | .bytes b _=>some (.byt b)
 | .float b _=>some (.flt b)
 | .ref a=>some (.ref a)
 | .type n=>some (.ty n)
 | _=>none
theorem zp.abs(r:zp x u):LG u=some x:=by
 cases x with
 | non=>cases r;rfl
 | bl _=>cases r;rfl
 | int _=>obtain ⟨t,rfl⟩:=r;rfl
 | str _=>obtain ⟨t,rfl⟩:=r;rfl
 | byt _=>obtain ⟨t,rfl⟩:=r;rfl
 | flt _=>obtain ⟨t,rfl⟩:=r;rfl
 | ref _=>cases r;rfl
 | ty _=>cases r;rfl
theorem zp.inj(r:zp x u)(q:zp y u):x=y:=O6.inj (r.abs.symm.trans q.abs)
theorem zu.inj(h:zu xs us):∀{ys:List V},zu ys us->xs=ys:=by
 induction h with
 | nil=>intro ys k;cases k;rfl
 | cons r t z =>
  intro ys k;cases k with
  | cons r' t'=>rw [r.inj r',z t']
section
variable {X:Cx}{Go:List (Addr×Obj)}{σ:St}{H:Hp}{s:KE}{a:Addr}{xs ys:List V}
theorem SqL.of{K:Ow}(h:H a=some (.lst xs)):SqL K H a xs:=.inl (.inl h)
theorem SqT.of{K:Ow}(h:H a=some (.tup xs)):SqT K H a xs:=.inl (.inl h)
theorem Inv.list(I:Inv X Go σ H s)(h:SqL X.K H a xs):∃its:List Value,zu xs its/\PlainL s.heap a its.toArray/\xs.length<=sizeLine:=by
 rcases h with h|⟨o,its,n,F,G,hd,hs,hz,r⟩
 .obtain ⟨z,its,n,r,e⟩:=h.ok I.hok;exact {its,r,{_,n,e,rfl,rfl,rfl},z}
 .refine {its.toList,r,{o,n,I.UQ a o F,G,hd,by simpa using hs},?_};have e:=r.length;simp only [Qm] at e;lia
theorem Inv.tuple(I:Inv X Go σ H s)(h:SqT X.K H a xs):∃its:List Value,zu xs its/\IsTup s.heap a its.toArray/\xs.length<=sizeLine:=by
 rcases h with h|⟨o,its,n,F,G,hs,hz,r⟩
 .obtain ⟨z,its,r,p⟩:=h.ok I.hok;exact ⟨its,r,p,z⟩
 .refine {its.toList,r,{o,I.UQ a o F,G,n,by simpa using hs},?_};have e:=r.length;simp only [Qm] at e;lia
theorem Inv.bf(I:Inv X Go σ H s)(h:SqL X.K H a xs)(h':SqL X.K H a ys):xs=ys:=by
 obtain ⟨its,r,⟨o,n,e,_,_,d⟩,_⟩:=I.list h;obtain ⟨its',r',⟨o',F,z,_,_,d'⟩,_⟩:=I.list h';rw [e] at z;cases z;rw [d] at d';injection d' with d1 _
 have:its=its':=by simpa using congrArg Array.toList d1
 subst this;exact r.inj r'
theorem Inv.dD(I:Inv X Go σ H s)(h:SqT X.K H a xs)(h':SqT X.K H a ys):xs=ys:=by
 obtain ⟨its,r,⟨o,e,_,n,d⟩,_⟩:=I.tuple h;obtain ⟨its',r',⟨o',z,_,F,d'⟩,_⟩:=I.tuple h';rw [e] at z;cases z;rw [d] at d';injection d' with d1 _
 have:its=its':=by simpa using congrArg Array.toList d1
 subst this;exact r.inj r'
end
noncomputable abbrev Cx.UT(X:Cx)(E:Value->KE->Prop):Cx:={ X with xe:=E }
noncomputable abbrev Cx.ee(X:Cx):Cx:=X.UT λ_ _=>False
theorem Cx.Ok.UT{X:Cx}(ok:X.Ok)(E:Value->KE->Prop):(X.UT E).Ok :=
 ⟨ok.mod,ok.kind,ok.glob,ok.blt,ok.above,ok.inj,ok.has,ok.e1,ok.hd,ok.frames,ok.e4,ok.fv,ok.bs,ok.ea,ok.dk,ok.dW,ok.Vl,ok.eF⟩
theorem Cx.Ok.Da{X:Cx}(ok:(X.UT E).Ok):X.Ok :=
 ⟨ok.mod,ok.kind,ok.glob,ok.blt,ok.above,ok.inj,ok.has,ok.e1,ok.hd,ok.frames,ok.e4,ok.fv,ok.bs,ok.ea,ok.dk,ok.dW,ok.Vl,ok.eF⟩
section
variable {X:Cx}{Go:List (Addr×Obj)}{σ:St}{H:Hp}{s:KE}{E:Value->KE->Prop}
theorem Inv.UT(I:Inv X Go σ H s)(E:Value->KE->Prop):Inv (X.UT E) Go σ H s:={I.ok.UT E,I.os,I.bare,I.base,I.loc,I.cell,I.free,I.Uz,I.pin,I.hok,I.len,I.hdk}
theorem Inv.Da(I:Inv (X.UT E) Go σ H s):Inv X Go σ H s:=⟨I.ok.Da,I.os,I.bare,I.base,I.loc,I.cell,I.free,I.Uz,I.pin,I.hok,I.len,I.hdk⟩
theorem SP.Da(h:SP (X.UT E) Go D f s'):SP X Go D f s':=by
 cases f with
 | next=>obtain ⟨z,H',I,q⟩:=h;exact ⟨z,H',I.Da,q⟩
 | brk=>obtain ⟨z,H',I,q⟩:=h;exact ⟨z,H',I.Da,q⟩
 | cont=>obtain ⟨z,H',I,q⟩:=h;exact ⟨z,H',I.Da,q⟩
 | ret u=>obtain ⟨v,z,H',I,r,q⟩:=h;exact ⟨v,z,H',I.Da,r,q⟩
theorem PSs.ee{st:List Stmt}{t:TS}(h:PSs X.ee st t):PSs X st t:=λGo s σ H D I hw =>
 OZ (h Go s σ H D (I.UT _) hw) (λ_ _ q=>q.Da) λ_ _ z=>False.elim z
end
section
variable {X:Cx}{st:Stmt}{YD:List Stmt}{t u:TS}{e:OU}{te:TE}{pos:Pos}
def Am:TS:=λD σ H=>D.nx σ H
def xa(t u:TS):TS:=λD σ H=>t { D with nx:=u D } σ H
theorem z7:W (PSs X [] Am):={λ_ _ σ H _ I h=>Rm {σ,H,I,h}}
theorem zi(h1:W (PS X st t))(h2:W (PSs X YD u)):W (PSs X (st::YD) (xa t u)):=by
 refine {?_};have h1:=h1.h;have h2:=h2.h;intro Go s σ H D I h;refine wpAny_execs_cons (thn (h1 Go s σ H { D with nx:=u D } I h) λf s1 q=>?_);cases f with
 | next =>
  obtain ⟨z,H',F,q⟩:=q;exact h2 Go s1 z H' D F q
 | ret v=>exact q
 | brk=>exact q
 | cont=>exact q
theorem zm(h1:W (PS X st t)):W (PSs X [st] t):=by
 refine {?_};have h1:=h1.h;intro Go s σ H D I h;refine wpAny_execs_cons (thn (h1 Go s σ H D I h) λf s1 q=>?_);cases f with
 | next=>exact Rm q
 | ret v=>exact q
 | brk=>exact q
 | cont=>exact q
theorem Inv.quiet(I:Inv X Go σ H s):interactive X.env=false:=by simp [interactive,I.ok.kind]
def yZ(te:TE):TS:=λD σ H=>te σ H λ_ H1=>D.nx σ H1
theorem ae(he:W (PE X e te))(hs:SO e none pos.line X.env=pure false:=by rfl):W (PS X (.Expr e pos) (yZ te)):=by
 refine {?_};have he:=he.h;intro Go s σ H D I h;exact wpAny_Expr_any (thn (he Go s σ H _ I h) λv s1=>x5e λx H1 z r1 q1=>{σ,H1,z,q1}) I.quiet hs
def v7(te:TE):TS:=λD σ H=>te σ H D.rt
theorem zA(he:W (PE X e te)):W (PS X (.Return (some e) pos) (v7 te)):=by
 refine {?_};have he:=he.h;intro Go s σ H D I h;exact wpAny_Return_some (thn (he Go s σ H _ I h) λv s1=>x5e λx H1 z r1 q1=>{x,σ,H1,z,r1,q1})
def sX(c:TT)(t u:TS):TS:=λD σ H=>c σ H λb H1=>if b=true then t D σ H1 else u D σ H1
theorem zW(z:W (PT X c tc))(ha:W (PSs X a t))(F:W (PSs X b u)):W (PS X (.If c a b pos) (sX tc t u)):=by
 refine {?_};have z:=z.h;have ha:=ha.h;have F:=F.h;intro Go s σ H D I h;refine wpAny_If (thn (z Go s σ H _ I h) λd s1=>x3e λH1 G q1=>?_);cases d with
 | true=>exact ha Go s1 σ H1 D G q1
 | false=>exact F Go s1 σ H1 D G q1
end
abbrev TG:=V->St->Hp->(St->Hp->Prop)->Prop
abbrev TGs:=List V->St->Hp->(St->Hp->Prop)->Prop
def PG(X:Cx)(z:OU)(t:TG):Prop :=
 ∀(Go:List (Addr×Obj))(s:KE)(σ:St)(H:Hp)(v:V)(u:Value)(Q:St->Hp->Prop),Inv X Go σ H s->zp v u->t v σ H Q ->
  OE 'c' X.A (SZ z X.env u) (λ_ s'=>∃F H',Inv X Go F H' s'/\Q F H') X.xe s
def PGs(X:Cx)(ts:List OU)(t:TGs):Prop :=
 ∀(Go:List (Addr×Obj))(s:KE)(σ:St)(H:Hp)(vs:List V)(us:List Value)(Q:St->Hp->Prop),Inv X Go σ H s->zu vs us->t vs σ H Q ->
  OE 'c' X.A (assignInOrder ((P7 ts X.env).map (·.2)) us) (λ_ s'=>∃z H',Inv X Go z H' s'/\Q z H') X.xe s
abbrev rP:=V->V->V->Hp->(Hp->Prop)->Prop
def o7(X:Cx)(t:rP):Prop :=
 ∀(Go:List (Addr×Obj))(s:KE)(σ:St)(H:Hp)(o i v:V)(z F u:Value)(Q:Hp->Prop),Inv X Go σ H s->zp o z->zp i F->zp v u->t o i v H Q ->
  OE 'c' X.A (setItem z F u) (λ_ s'=>∃H',Inv X Go σ H' s'/\Q H') X.xe s
abbrev TIp:=V->V->Hp->VK->Prop
def PIp(X:Cx)(op:Operator)(t:TIp):Prop :=
 ∀(Go:List (Addr×Obj))(s:KE)(σ:St)(H:Hp)(x y:V)(v u:Value)(Q:VK),Inv X Go σ H s->zp x v->zp y u->t x y H Q ->
  OE 'c' X.A (inplaceOp op v u) (EP X Go σ Q) X.xe s
section
variable {X:Cx}{pos:Pos}
def cE(i:Nat):TG:=λv σ H Q=>Q (σ.set i (some v)) H
theorem pV(hN:X.N.Nodup)(hi:X.N[i]?=some x)(hx:Loc X.env.scope x)(hf:X.fn x=true\/X.env.scope.names.lookup x=some .local:=by first|exact .inl rfl|exact .inr rfl|assumption):PG X (.Name x pos) (cE i):=by
 intro Go s σ H v u Q I r h;exact wpAny_assign_Name (md I hN hi hx r (λs' z=>{_,H,z,h}) hf)
def oZ:TGs:=λvs σ H Q=>vs=[]/\Q σ H
def g7(t:TG)(u:TGs):TGs:=λvs σ H Q=>∃v r,vs=v::r/\t v σ H λz H'=>u r z H' Q
theorem eG:W (PGs X [] oZ):=by
 refine {?_};intro Go s σ H vs us Q I r h;obtain ⟨e,h⟩:=h;subst e;cases r;exact assignInOrder_nil {σ,H,I,h}
theorem aM{t:TG}(h1:W (PG X e t))(h2:W (PGs X es u))(hs:(P7 (e::es) X.env).map (·.2)=SZ e X.env::(P7 es X.env).map (·.2):=by rfl):W (PGs X (e::es) (g7 t u)):=by
 refine {?_};have h1:=h1.h;have h2:=h2.h;intro Go s σ H vs us Q I r h;obtain ⟨v,O,J,h⟩:=h;subst J;cases r with
 | cons r G =>
  rw [hs];refine assignInOrder_cons (thn (h1 Go s σ H _ _ _ I r h) λ_ s1=>x4e λz H1 F q1=>?_);exact h2 Go s1 z H1 _ _ Q F G q1
def mO(K:Ow)(n:Nat)(t:TGs):TG:=λv σ H Q=>∃a xs,v = .ref a/\SqT K H a xs/\xs.length=n/\t xs σ H Q
def yu(to ti:TE)(t:rP):TG:=λv σ H Q=>to σ H λo H1=>ti σ H1 λi H2=>t o i v H2 λH3=>Q σ H3
theorem iI{o i:OU}{to ti:TE}{t:rP}(G:W (PE X o to))(hi:W (PE X i ti))(hs:o7 X t)
  (ha:∀v,SZ (.Subscript o i pos) X.env v=(do
   let z<-QA [v] (PH o X.env)
   let F<-QA [v,z] (PH i X.env)
   QM pos
   QA [v,z,F] (setItem z F v)
   release [v,z,F] []):=by intro _;rfl):W (PG X (.Subscript o i pos) (yu to ti t)):=by
 refine {?_};have G:=G.h;have hi:=hi.h;intro Go s σ H v u Q I r h;rw [ha];refine we (OT (thn (G Go s σ H _ I h) λz s1=>x5e λx H1 O r1 q1=>?_));refine we (OT (thn (hi Go s1 σ H1 _ O q1) λF s2=>x5e λy H2 S r2 Z=>?_));refine we (Pl (we (OT (thn (hs Go s2 σ H2 x y v z F u _ S r1 r2 r Z) λ_ s3=>x3e λH3 U J=>?_))));exact wpAny_release {σ,H3,U,J}
def gE(te:TE)(g:TG):TS:=λD σ H=>te σ H λx H1=>g x σ H1 D.nx
theorem iP(he:W (PE X e te))(z:W (PG X tg g))(hs:swapsWithSole [tg] e pos.line X.env=pure false:=by rfl)(hw:swappedStores [tg] e X.env=pure none:=by rfl)(h1:(P7 [tg] X.env).map (·.2)=[SZ tg X.env]:=by rfl):W (PS X (.Assign [tg] e pos) (gE te g)):=by
 refine {?_};have he:=he.h;have z:=z.h;intro Go s σ H D I h;refine wpAny_Assign_stores (thn (he Go s σ H _ I h) λv s1=>x5e λx H1 F r1 q1=>?_) hs hw;rw [h1];exact thn (z Go s1 σ H1 x v _ F r1 q1) λ_ s2 q=>q
theorem zC(hN:X.N.Nodup)(hi:X.N[i]?=some x)(hx:Loc X.env.scope x)(he:W (PE X e te))(hs:SO e (some (.Name x Zi)) pos.line X.env=pure false:=by rfl)(hf:X.fn x=true\/X.env.scope.names.lookup x=some .local:=by first|exact .inl rfl|exact .inr rfl|assumption):W (PS X (.Assign [.Name x Zi] e pos) (gE te (cE i))):=by
 refine {?_};have he:=he.h;intro Go s σ H D I h;refine wpAny_Assign_Name (thn (he Go s σ H _ I h) λv s1=>x5e λy H1 z r1 q1=>?_) hs;exact md z hN hi hx r1 (λs2 F=>{_,H1,F,q1}) hf
def vX(i:Nat)(te:TE)(ti:TIp):TS:=λD σ H=>∃x,σ[i]?=some (some x)/\te σ H λy H1=>ti x y H1 λz H2=>D.nx (σ.set i (some z)) H2
theorem Oq(hN:X.N.Nodup)(hi:X.N[i]?=some x)(hx:Loc X.env.scope x)(he:W (PE X e te))(ho:PIp X op ti)(hf:X.fn x=true\/X.env.scope.names.lookup x=some .local:=by first|exact .inl rfl|exact .inr rfl|assumption):W (PS X (.AugAssign (.Name x Zi) op e pos) (vX i te ti)):=by
 refine {?_};have he:=he.h;intro Go s σ H D I h;obtain ⟨v,e1,h⟩:=h;obtain ⟨m,O,hl⟩:=I.loc;have J:Vis X.env.scope x:=by rcases hx with k|k;exact .inl k;exact .inr (.inl k)
 obtain ⟨u,r,l⟩:=hl i x v hi e1 J;refine wpAny_AugAssign_Name ?_;have go:OE 'c' X.A (PH e X.env) (λw G=>OE 'c' X.A (inplaceOp op u w) (λr s₃=>OE 'c' X.A (storeName X.env x r) (λ_=>SP X Go D .next) X.xe s₃) X.xe G) X.xe s:=by
  refine thn (he Go s σ H _ I h) λw s1=>x5e λy H1 S r1 q1=>?_;refine thn (ho Go s1 σ H1 v y u w _ S r r1 q1) λz s2=>x5e λzv H2 U r2 q2=>?_;exact md U hN hi hx r2 (λs3 I3=>{_,H2,I3,q2}) hf
 rcases l with ⟨F,hm⟩|⟨F,c,Z,Xz⟩
 .exact Sz I.ok.kind F O hm go
 .rcases F with F|F
  .exact wpAny_loadName_cell I.ok.kind F Z Xz go
  .rcases hx with k|k
   .have:X.env.scope.names.lookup x=some .free:=F;rw [k] at this;cases this
   .have:X.env.scope.names.lookup x=some .free:=F;rw [k] at this;cases this
def ipI(f:Int->Int->Int):TIp:=λx y H Q=>∃i j,x = .int i/\y = .int j/\Q (.int (f i j)) H
theorem Of:PIp X .Add (ipI λi j=>i+j):=by
 intro Go s σ H x y v u Q I r1 r2 h;obtain ⟨i,j,z,F,q⟩:=h;subst z;subst F;obtain ⟨t,rfl⟩:=r1;obtain ⟨t',rfl⟩:=r2;exact iadd_int {.int _,H,I.tok _,{_,rfl},q}
end
structure It where
 go:Nat->Hp->Prop
 d7:Nat->Hp->V->Hp->Prop
 stop:Nat->Hp->Prop
def az(X:Cx)(Go:List (Addr×Obj))(H:Hp)(b:Addr):Prop :=
 H b=none/\b≠X.env.locals/\b∉X.fs/\(b∈X.ex\/X.s₀.heap.objs.size<=b)/\(∀x c,X.env.cells.lookup x=some c->c≠b)/\∀p∈X.pn++Go,p.1≠b
theorem Inv.a7(I:Inv X Go σ H s)(F:s.heap.objs.size<=b)(G:H' b=none):az X Go H' b:=by
 refine {G,RD (O2 I.lt F),I.e9 F,.inr (Pt I.sz F),λx c e z=>?_,λp hp z=>?_}
 .obtain ⟨v,q⟩:=I.cell x c e;exact absurd (O2 q.lt (by rw [z];exact F)) (O9 _)
 .exact absurd (O2 (OX (I.pin p hp).1) (by rw [z];exact F)) (O9 _)
structure fk(c:Bool)(P:OF)(w:OS)(K:Ow)(tg:OU)(J:It)(fp:List Addr)(it:Addr)(tn:Nat->Heap->Prop):Prop where
 mem:it∈fp
 obj:∀i h,tn i h->∀b∈fp,∃o,h.get? b=some o/\∀v,o.data≠.cell v
 keep:∀i h h',tn i h->(∀b∈fp,∀o,h.get? b=some o->h'.get? b=some o)->tn i h'
 item:∀(X:Cx),X.prog=P->X.w=w->X.K=K->(c=true->X.calm=true)->∀(i:Nat)(Go:List (Addr×Obj))(s:KE)(σ:St)(H:Hp)(E:Value->KE->Prop),Inv X Go σ H s->(∀b∈fp,az X Go H b)->tn i s.heap->J.go i H ->
  OE (OK P w) X.A (Rh (.ref it)) (λr s1=>∃u,r=some u /\
   OE (OK P w) X.A (Qw tg (.ref it) u) (λ_ s2=>∃x H',Inv X Go σ H' s2/\zp x u/\J.d7 i H x H'/\tn (i+1) s2.heap/\∀b∈fp,H' b=none) E s1) E s
 done:∀(X:Cx),X.prog=P->X.w=w->X.K=K->(c=true->X.calm=true)->∀(i:Nat)(Go:List (Addr×Obj))(s:KE)(σ:St)(H:Hp)(E:Value->KE->Prop),Inv X Go σ H s->(∀b∈fp,az X Go H b)->tn i s.heap->J.stop i H ->
  OE (OK P w) X.A (Rh (.ref it)) (λr s1=>r=none/\Inv X Go σ H s1) E s
 self:∀(A:OQ)(i:Nat)(s:KE)(Q:Value->KE->Prop)(E:Value->KE->Prop),tn i s.heap->Q (.ref it) s->OE (OK P w) A (pyIter (.ref it)) Q E s
abbrev TI:=St->Hp->(It->Hp->Prop)->Prop
def PIE(c:Bool)(X:Cx)(Go:List (Addr×Obj))(σ:St)(tg:OU)(R:It->Hp->Prop)(z:Value)(s2:KE):Prop :=
 ∃(it:Addr)(fp:List Addr)(F:Nat->Heap->Prop)(J:It)(H':Hp),z = .ref it/\Inv X Go σ H' s2/\fk c X.prog X.w X.K tg J fp it F/\F 0 s2.heap/\(∀b∈fp,az X Go H' b)/\R J H'
def PIc(c:Bool)(X:Cx)(tg iter:OU)(wi:TI):Prop :=
 ∀(Go:List (Addr×Obj))(s:KE)(σ:St)(H:Hp)(R:It->Hp->Prop),Inv X Go σ H s->wi σ H R ->
  OE 'c' X.A (PH iter X.env) (λv s1=>OE 'c' X.A (pyIter v) (PIE c X Go σ tg R) X.xe s1) X.xe s
abbrev PI:=PIc true
theorem iW{o:Obj}(J:s.heap.get? it=some o)(G:o.cls = .type n)(hd:o.data = .fields vs)(F:["enumerate","zip","dict_itemiterator","dict_reverseitemiterator","odict_iterator","itertools.zip_longest","itertools.pairwise"].contains n=false)(z:Q () s):OE M A (Qw tg (.ref it) u) Q E s:=by
 unfold Qw;cases tg<;>first
  | exact Ot z
  | (cases u<;>first
    | exact Ot z
    | (refine we (wpAny_load J ?_)
       rw [G, hd];show OE M A (if (["enumerate", "zip", "dict_itemiterator", "dict_reverseitemiterator", "odict_iterator", "itertools.zip_longest", "itertools.pairwise"].contains n && vs[0]? == some (Pu _)) = true then _ else _) Q E s;rw [if_neg (by intro h; rw [F, S8] at h; cases h)];exact Ot z))
def Itl(K:Ow)(a:Addr):It :=
 {λi H=>∃xs x,SqL K H a xs/\xs[i]?=some x,λi H x H'=>H'=H/\∀xs,SqL K H a xs->xs[i]?=some x,λi H=>∃xs,SqL K H a xs/\xs.length<=i}
def Itt(K:Ow)(a:Addr):It :=
 {λi H=>∃xs x,SqT K H a xs/\xs[i]?=some x,λi H x H'=>H'=H/\∀xs,SqT K H a xs->xs[i]?=some x,λi H=>∃xs,SqT K H a xs/\xs.length<=i}
def Itr(lo:Int)(n:Nat):It:={λi _=>i<n,λi H x H'=>H'=H/\x = .int (lo+i),λi _=>n<=i}
theorem sL{P:OF}{w:OS}{K:Ow}{tg:OU}(a it:Addr):fk true P w K tg (Itl K a) [it] it (λi h=>h.IsListIter it a i) where
 mem:=by simp
 obj:=λi h st b F=>by
  have e:b=it:=by simpa using F
  subst e;obtain ⟨o,e,c,d⟩:=st;exact {o,e,λv z=>by rw [d] at z;cases z}
 keep:=λi h h' st k=>st.at λo e=>k it 'z' o e
 item:=by
  intro X hP hw S hc i Go s σ H E I hf st Z;subst hP hw S;obtain ⟨xs,x,G,hx⟩:=Z;obtain ⟨its,J,p,hz⟩:=I.list G;obtain ⟨u,hu,ru⟩:=J.get hx;obtain ⟨f0,U,f2,f3,W,O⟩:=hf it 'z';refine wpAny_pyNext_list_item st p.isList (x:=u) (by simpa using hu) λh' Yk sb=>?_;have I1:Inv X Go σ H { s with heap:=h' }:=I.turned (t':=s.toks) (λb o F e=>(sb.2 b F).trans e) f0 U f3 W O;obtain ⟨o,e,c,d⟩:=id Yk;exact {u,rfl,iW (s:={ s with heap:=h' }) e c d 'd' {x,H,I1,ru,{rfl,λys hy=>by rw [I.bf hy G];exact hx},Yk,λb F=>(hf b F).1}}
 done:=by
  intro X hP hw S hc i Go s σ H E I hf st Z;subst hP hw S;obtain ⟨xs,G,hx⟩:=Z;obtain ⟨its,J,p,hz⟩:=I.list G;obtain ⟨f0,U,f2,f3,W,O⟩:=hf it 'z';have hl:=J.length;exact wpAny_pyNext_list_end (I.ok.hd (hc rfl)) st p.isList (by simp;lia) λh' eb=>{rfl,I.turned (t':=s.toks) (λb o F e=>eb b o F e) f0 U f3 W O}
 self:=λ_ _ _ _ _ st h=>wpAny_pyIter_listiter st h
theorem sE{P:OF}{w:OS}{K:Ow}{tg:OU}(a it:Addr):fk true P w K tg (Itt K a) [it] it (λi h=>h.IsTupleIter it a i) where
 mem:=by simp
 obj:=λi h st b F=>by
  have e:b=it:=by simpa using F
  subst e;obtain ⟨o,e,c,d⟩:=st;exact {o,e,λv z=>by rw [d] at z;cases z}
 keep:=λi h h' st k=>st.at λo e=>k it 'z' o e
 item:=by
  intro X hP hw S hc i Go s σ H E I hf st Z;subst hP hw S;obtain ⟨xs,x,G,hx⟩:=Z;obtain ⟨its,J,p,hz⟩:=I.tuple G;obtain ⟨u,hu,ru⟩:=J.get hx;obtain ⟨f0,U,f2,f3,W,O⟩:=hf it 'z';refine wpAny_pyNext_tuple_item st (show s.heap.IsTuple a its.toArray from p) (x:=u) (by simpa using hu) λh' Yk sb=>?_;have I1:Inv X Go σ H { s with heap:=h' }:=I.turned (t':=s.toks) (λb o F e=>(sb.2 b F).trans e) f0 U f3 W O;obtain ⟨o,e,c,d⟩:=id Yk;exact {u,rfl,iW (s:={ s with heap:=h' }) e c d 'd' {x,H,I1,ru,{rfl,λys hy=>by rw [I.dD hy G];exact hx},Yk,λb F=>(hf b F).1}}
 done:=by
  intro X hP hw S hc i Go s σ H E I hf st Z;subst hP hw S;obtain ⟨xs,G,hx⟩:=Z;obtain ⟨its,J,p,hz⟩:=I.tuple G;obtain ⟨f0,U,f2,f3,W,O⟩:=hf it 'z';have hl:=J.length;exact wpAny_pyNext_tuple_end (I.ok.hd (hc rfl)) st (show s.heap.IsTuple a its.toArray from p) (by simp;lia) λh' eb=>{rfl,I.turned (t':=s.toks) (λb o F e=>eb b o F e) f0 U f3 W O}
 self:=λ_ _ _ _ _ st h=>wpAny_pyIter_tupleiter st h
theorem CC{P:OF}{w:OS}{K:Ow}{tg:OU}(it:Addr)(lo:Int)(n:Nat):fk true P w K tg (Itr lo n) [it] it (λi h=>IsRangeIter h it (lo+(i:Nat)*1) ((n:Int)-(i:Nat)) 1) where
 mem:=by simp
 obj:=λi h st b F=>by
  have e:b=it:=by simpa using F
  subst e;exact {_,st,λv z=>by
   have z':Data.fields _=Data.cell v:=z;cases z'}
 keep:=λi h h' st k=>k it 'z' _ st
 item:=by
  intro X hP hw hK U i Go s σ H E I hf st O;subst hP hw hK;obtain ⟨S,Z,f2,J,G,f5⟩:=hf it 'z';have W:=Walks.range (prog:=X.prog) (w:=X.w) (I.ok.hd (U rfl)) it lo 1 n;refine W.item i s _ _ O st λv h' tk hv Yk kk=>?_;obtain ⟨t,rfl⟩:=hv;have I1:Inv X Go σ H { s with heap:=h',toks:=tk }:=I.turned (λb o F e=>kk b o (by simpa using F) e) S Z J G f5;refine {_,rfl,iW (s:={ s with heap:=h',toks:=tk }) (n:="range_iterator") Yk rfl rfl 'd' {.int (lo+i),H,I1,{t,?_},{rfl,rfl},Yk,λb F=>(hf b F).1}};rw [Int.mul_one]
 done:=by
  intro X hP hw hK U i Go s σ H E I hf st O;subst hP hw hK;obtain ⟨S,Z,f2,J,G,f5⟩:=hf it 'z';exact wpAny_pyNext_range_end (I.ok.hd (U rfl)) st (by have:n<=i:=O;lia) λh' eb=>{rfl,I.turned (t':=s.toks) (λb o F e=>eb b o F e) S Z J G f5}
 self:=λ_ _ _ _ _ st h=>wpAny_pyIter_rangeiter st h
section
variable {X:Cx}{tg:OU}
def oH(K:Ow)(tl:TE):TI:=λσ H R=>tl σ H λx H1=>∃a,x = .ref a/\(∃xs,SqL K H1 a xs)/\R (Itl K a) H1
def jI(K:Ow)(tl:TE):TI:=λσ H R=>tl σ H λx H1=>∃a,x = .ref a/\(∃xs,SqT K H1 a xs)/\R (Itt K a) H1
theorem cJ(hl:W (PE X l tl)):W (PI X tg l (oH X.K tl)):=by
 refine {?_};have hl:=hl.h;intro Go s σ H R I h;refine thn (hl Go s σ H _ I h) λv s1=>x5e λx H1 z r1 q1=>?_;obtain ⟨a,e,⟨xs,F⟩,q⟩:=q1;subst e;cases r1;obtain ⟨its,J,p,hz⟩:=z.list F;refine Rv p.isList ?_;refine {s1.heap.objs.size,[s1.heap.objs.size],_,_,H1,rfl,z.kept (t':=s1.toks) λb o e=>Ou _ e,sL a _,{_,ON _ rfl,rfl,rfl},λb G=>?_,q};have e:b=s1.heap.objs.size:=by simpa using G
 subst e;exact z.a7 (Ov _) (z.hok.fresh (Ov _))
theorem uF(hl:PE X l tl):PI X tg l (jI X.K tl):=by
 intro Go s σ H R I h;refine thn (hl Go s σ H _ I h) λv s1=>x5e λx H1 z r1 q1=>?_;obtain ⟨a,e,⟨xs,F⟩,q⟩:=q1;subst e;cases r1;obtain ⟨its,J,p,hz⟩:=z.tuple F;refine wpAny_pyIter_tuple (show s1.heap.IsTuple a its.toArray from p) ?_;refine {s1.heap.objs.size,[s1.heap.objs.size],_,_,H1,rfl,z.kept (t':=s1.toks) λb o e=>Ou _ e,sE a _,{_,ON _ rfl,rfl,rfl},λb G=>?_,q};have e:b=s1.heap.objs.size:=by simpa using G
 subst e;exact z.a7 (Ov _) (z.hok.fresh (Ov _))
theorem IQ{lo hi:Int}{t u v:Tok}(I:Inv X Go σ H s)(h1 : -(2 ^ 62)<=lo)(h2:lo<2 ^ 62)(h3 : -(2 ^ 62)<=hi)(h4:hi<2 ^ 62)(q:R (Itr lo (hi-lo).toNat) H):OE 'c' X.A (pyIter (.ref s.heap.objs.size)) (PIE true X Go σ tg R) E { s with heap:=s.heap.push { cls:=.type "range",data:=.fields #[.int lo t,.int hi u,.int 1 v] },toks:=tk }:=by
 refine wpAny_pyIter_range (IsRange.new ..) (small_one h1 h2 h3 h4) ?_;have z:Inv X Go σ H { s with heap:=s.heap.push { cls:=.type "range",data:=.fields #[.int lo t,.int hi u,.int 1 v] },toks:=tk }:=I.kept λb o e=>Ou _ e;refine {(s.heap.push { cls:=.type "range",data:=.fields #[.int lo t,.int hi u,.int 1 v] }).objs.size,[(s.heap.push { cls:=.type "range",data:=.fields #[.int lo t,.int hi u,.int 1 v] }).objs.size],_,_,H,rfl,
  z.kept (t':=tk) λb o e=>Ou _ e,CC _ lo (hi-lo).toNat,?_,λb J=>?_,q}
 .have F:lo+((0:Nat):Int)*1=lo:=by simp
  have G:(((hi-lo).toNat:Nat):Int)-((0:Nat):Int)=OO.Range.rangeSize lo hi 1:=by rw [rangeSize_one];split<;>lia
  show IsRangeIter _ _ (lo+((0:Nat):Int)*1) ((((hi-lo).toNat:Nat):Int)-((0:Nat):Int)) 1;rw [F,G];exact ON _ rfl
 .have e:b=(s.heap.push { cls:=.type "range",data:=.fields #[.int lo t,.int hi u,.int 1 v] }).objs.size:=by simpa using J
  subst e;exact z.a7 (Ov _) (z.hok.fresh (Ov _))
def ox(ta:TA):TI:=λσ H R=>ta σ H λvs H1=>∃j:Int,vs=[.int j]/\-(2 ^ 62)<=j/\j<2 ^ 62/\R (Itr 0 j.toNat) H1
theorem KS{p pos:Pos}(z:Gl X "range")(J:X.mg "range"=none)(ha:PA X [a] ta)(hs:OV [a] X.env=[(false,PH a X.env)]:=by rfl):PI X tg (.Call (.Name "range" p) [a] [] pos) (ox ta):=by
 intro Go s σ H R I h;refine Call_ (fW I z J boot_range (Rw (thn (ha pos Go s σ H _ I h) λus s1=>x5e λvs H1 F r1 q1=>?_) hs rfl));obtain ⟨j,e,q1,O,q⟩:=q1;subst e;cases r1 with
 | cons r G =>
  cases G;obtain ⟨t,rfl⟩:=r;exact call_range_1 (IQ F 'l' 'l' q1 O (by simpa using q))
def xJ(wi:TI)(g:TG)(tb:TS):TS:=λD σ H=>wi σ H λJ H1=>∃W:Nat->Nat->St->Hp->Prop,(∃m,W 0 m σ H1)/\∀i m σ H,W i m σ H ->
 (J.stop i H/\D.nx σ H)\/(J.go i H/\∃N:St->Hp->Prop,(∀z H',N z H'->∃G,G<m/\W (i+1) G z H')/\∀x H',J.d7 i H x H'->g x σ H' λF H2=>tb { D with nx:=N,ct:=N,bk:=D.nx } F H2)
noncomputable def fo(fp:List Addr)(h:Heap):List (Addr×Obj):=fp.filterMap λb=>(h.get? b).map λo=>(b,o)
theorem dj{o:Obj}(z:b∈fp)(e:h.get? b=some o):(b,o)∈fo fp h:=RP.mpr {b,z,by rw [e];rfl}
theorem pI{p:Addr×Obj}(hp:p∈fo fp h):p.1∈fp/\h.get? p.1=some p.2:=by
 obtain ⟨b,F,e⟩:=RP.mp hp;cases q:h.get? b with
 | none=>rw [q] at e;cases e
 | some o =>
  rw [q] at e;have z:(b,o)=p:=O6.inj e;subst z;exact ⟨F,q⟩
theorem Inv.pinned(I:Inv X Go σ H s)(hf:∀b∈fp,az X Go H b)(U:∀b∈fp,∃o,s.heap.get? b=some o/\∀v,o.data≠.cell v):Inv X (Go++fo fp s.heap) σ H s :=
 I.Ut λp hp=>(Pi.mp hp).elim (λz=>I.pin p (Oy _ z)) λz=>by
  obtain ⟨F,e⟩:=pI z;obtain ⟨J,S,O,_⟩:=hf p.1 F;obtain ⟨o,G,d⟩:=U p.1 F;rw [e] at G;cases G;exact ⟨e,J,S,O,d⟩
theorem Inv.KN(I:Inv X (Go++pl) σ H s):Inv X Go σ H s:=I.Ut λp hp=>I.pin p (Oy _ (Pb _ hp))
theorem cF(hp:Q3 'c' X.A X.env X.xe)(hc:c=true->X.calm=true)(hi:W (PIc c X tg iter wi))(hg:W (PG X tg g))(F:W (PSs X ZV tb))(hs:∀x,O8 iter X.env x=pure x:=by intro _;rfl):W (PS X (.For tg iter ZV [] pos) (xJ wi g tb)):=by
 refine {?_};have hi:=hi.h;have hg:=hg.h;have F:=F.h;intro Go s σ H D I h;refine wpAny_For (thn (hi Go s σ H _ I h) λv s1 h1=>thn h1 λa4 s2 h2=>?_) hs;obtain ⟨it,fp,tn,J,H2,e,I2,T,aI,f2,W,⟨m0,w0⟩,Yf⟩:=h2;subst e;have G:∀{H':Hp},(∀b∈fp,H' b=none)->∀b∈fp,az X Go H' b:=λhn b F=>{hn b F,(f2 b F).2};refine codeAny_forLoop_any (λn s'=>∃i S H',Inv X Go S H' s'/\tn i s'.heap/\(∀b∈fp,H' b=none)/\W i n S H') ?_ m0 {0,σ,H2,I2,aI,λb F=>(f2 b F).1,w0};rintro n s3 ⟨i,U,H3,I3,ax,av,w3⟩;rcases Yf i n U H3 w3 with ⟨stop,qn⟩|⟨go,N,hN,step⟩
 .refine RR hp (thn (T.done X rfl rfl rfl hc i Go s3 U H3 X.xe I3 (G av) ax stop) λr s4=>x2e λhr I4=>?_);subst hr;exact Rm ⟨U,H3,I4,qn⟩
 .refine RR hp (thn (T.item X rfl rfl rfl hc i Go s3 U H3 X.xe I3 (G av) ax go) λr s4=>x3e λu hr h4=>?_);subst hr;refine RR hp (thn h4 λ_ s5=>x5e λx H5 I5 r5 Ye=>?_);obtain ⟨y5,ai,aT⟩:=Ye;have a3:=I5.pinned (G aT) (T.obj _ _ ai);refine RR hp (thn (hg _ s5 U H5 x u _ a3 r5 (step x H5 y5)) λ_ s6=>x4e λa0 H6 I6 q6=>?_);refine RR hp (thn (F _ s6 a0 H6 _ I6 q6) λf s7 Z=>?_);have again:∀{z:St}{H7:Hp},Inv X (Go++fo fp s5.heap) z H7 s7->N z H7->∃m,m<n/\∃i S H',Inv X Go S H' s7/\tn i s7.heap/\(∀b∈fp,H' b=none)/\W i m S H':=λ{z H7} O n7=>by
   obtain ⟨m',hm,w7⟩:=hN z H7 n7;refine {m',hm,i+1,z,H7,O.KN,T.keep _ _ _ ai λb F o e=>(O.pin (b,o) (Oy _ (Oy _ (dj F e)))).1,λb F=>?_,w7};obtain ⟨o,e,d⟩:=T.obj _ _ ai b F;exact (O.pin (b,o) (Oy _ (Oy _ (dj F e)))).2.1
  cases f with
  | next=>obtain ⟨z,H7,O,n7⟩:=Z;exact again O n7
  | cont=>obtain ⟨z,H7,O,n7⟩:=Z;exact again O n7
  | brk=>obtain ⟨z,H7,O,Z⟩:=Z;exact ⟨z,H7,O.KN,Z⟩
  | ret v=>obtain ⟨x7,z,H7,O,r7,Z⟩:=Z;exact ⟨x7,z,H7,O.KN,r7,Z⟩
end
theorem MU{K:Ow}{g:TG}{tb:TS}{D:bZ}(z:Nat->St->Hp->Prop)(S:z 0 σ H)(hl:∀i σ H,i<=xs.length->z i σ H->SqL K H a xs)(hs:∀i x σ H,xs[i]?=some x->z i σ H->g x σ H λF H2=>tb { D with nx:=z (i+1),ct:=z (i+1),bk:=D.nx } F H2)(hd:∀σ H,z xs.length σ H->D.nx σ H):
  ∃W:Nat->Nat->St->Hp->Prop,(∃m,W 0 m σ H)/\∀i m σ H,W i m σ H ->
   ((Itl K a).stop i H/\D.nx σ H)\/((Itl K a).go i H/\∃N:St->Hp->Prop,(∀G H',N G H'->∃J,J<m/\W (i+1) J G H')/\∀x H',(Itl K a).d7 i H x H'->g x σ H' λF H2=>tb { D with nx:=N,ct:=N,bk:=D.nx } F H2):=by
 refine {λi m σ H=>m=xs.length-i/\i<=xs.length/\z i σ H,{xs.length,'z',Pp _,S},?_};rintro i m σ H ⟨rfl,hi,p⟩;have q:=hl i σ H hi p;by_cases O:i<xs.length
 .refine .inr {{xs,xs[i],q,by simp [O]},z (i+1),λG H' U=>{xs.length-(i+1),'l',rfl,O,U},λx H' y=>?_};obtain ⟨e,y⟩:=y;subst e;exact hs i x σ _ (y xs q) p
 .have e:i=xs.length:=by lia
  subst e;exact .inl {{xs,q,Ov _},hd σ H p}
theorem Eh{lo:Int}{g:TG}{tb:TS}{D:bZ}(G:Nat->St->Hp->Prop)(S:G 0 σ H)(hs:∀i σ H,i<n->G i σ H->g (.int (lo+i)) σ H λz H2=>tb { D with nx:=G (i+1),ct:=G (i+1),bk:=D.nx } z H2)(hd:∀σ H,G n σ H->D.nx σ H):
  ∃W:Nat->Nat->St->Hp->Prop,(∃m,W 0 m σ H)/\∀i m σ H,W i m σ H ->
   ((Itr lo n).stop i H/\D.nx σ H)\/((Itr lo n).go i H/\∃N:St->Hp->Prop,(∀F H',N F H'->∃O,O<m/\W (i+1) O F H')/\∀x H',(Itr lo n).d7 i H x H'->g x σ H' λz H2=>tb { D with nx:=N,ct:=N,bk:=D.nx } z H2):=by
 refine {λi m σ H=>m=n-i/\i<=n/\G i σ H,{n,'z',Pp _,S},?_};rintro i m σ H ⟨rfl,hi,p⟩;by_cases J:i<n
 .refine .inr {J,G (i+1),λF H' U=>{n-(i+1),'l',rfl,J,U},λx H' y=>?_};obtain ⟨e,y⟩:=y;subst e y;exact hs i σ _ J p
 .have e:i=n:=by lia
  subst e;exact .inl {Ov _,hd σ H p}
abbrev R2:=V->V->Hp->VK->Prop
def OpR(X:Cx)(f:Value->Value->Sem Value)(r:R2):Prop :=
 ∀(Go:List (Addr×Obj))(s:KE)(σ:St)(H:Hp)(x y:V)(v u:Value)(Q:VK),Inv X Go σ H s->zp x v->zp y u->r x y H Q ->
  OE 'c' X.A (f v u) (EP X Go σ Q) X.xe s
def UnR(X:Cx)(f:Value->Sem Value)(r:V->Hp->VK->Prop):Prop :=
 ∀(Go:List (Addr×Obj))(s:KE)(σ:St)(H:Hp)(x:V)(v:Value)(Q:VK),Inv X Go σ H s->zp x v->r x H Q ->
  OE 'c' X.A (f v) (EP X Go σ Q) X.xe s
def zY(X:Cx)(f:Value)(r:List V->Hp->VK->Prop):Prop :=
 ∀(Go:List (Addr×Obj))(s:KE)(σ:St)(H:Hp)(xs:List V)(us:List Value)(Q:VK),Inv X Go σ H s->zu xs us->r xs H Q ->
  OE 'c' X.A (call f us) (EP X Go σ Q) X.xe s
def Ly(X:Cx)(r:V->Hp->(Bool->Hp->Prop)->Prop):Prop :=
 ∀(Go:List (Addr×Obj))(s:KE)(σ:St)(H:Hp)(x:V)(v:Value)(Q:Bool->Hp->Prop),Inv X Go σ H s->zp x v->r x H Q ->
  OE 'c' X.A (truthy v) (TP X Go σ Q) X.xe s
def tOp(r:R2)(ta tb:TE):TE:=λσ H Q=>ta σ H λx H1=>tb σ H1 λy H2=>r x y H2 Q
def tUn(r:V->Hp->VK->Prop)(ta:TE):TE:=λσ H Q=>ta σ H λx H1=>r x H1 Q
def rI(C:Int->Int->Prop)(g:Int->Int->V):R2:=λx y H Q=>∃i j,x = .int i/\y = .int j/\C i j/\Q (g i j) H
def rI0(g:Int->Int->V):R2:=λx y H Q=>∃i j,x = .int i/\y = .int j/\Q (g i j) H
def rU(g:Int->V):V->Hp->VK->Prop:=λx H Q=>∃i,x = .int i/\Q (g i) H
section
variable {X:Cx}{a b c:OU}{ta tb tc:TE}{pos:Pos}
theorem mV(ha:PE X a ta)(J:PE X b tb){R:V->V->Hp->Prop}(I:Inv X Go σ H s)(h:ta σ H λx H1=>tb σ H1 λy H2=>R x y H2){f:Value->Value->Sem Value}(hf:∀v u s2 x y H2,Inv X Go σ H2 s2->zp x v->zp y u->R x y H2->OE 'c' X.A (f v u) Q X.xe s2):
  OE 'c' X.A (PH a X.env) (λv s₁=>OE 'c' X.A (PH b X.env) (λu z=>OE 'c' X.A (f v u) Q X.xe z) X.xe s₁) X.xe s:=by
 refine thn (ha Go s σ H _ I h) λv s1=>x5e λx H1 F r1 q1=>?_;refine thn (J Go s1 σ H1 _ F q1) λu s2=>x5e λy H2 G r2 O=>?_;exact hf v u s2 x y H2 G r1 r2 O
theorem zX{r:R2}(J:OpR X (QF op) r)(ha:W (PE X a ta))(z:W (PE X b tb)):W (PE X (.BinOp a op b pos) (tOp r ta tb)):=by
 refine {?_};have ha:=ha.h;have z:=z.h;intro Go s σ H Q I h;exact wpAny_BinOp (mV ha z I h λv u s2 x y H2 G O F q=>J Go s2 σ H2 x y v u Q G O F q)
theorem Nw{r:V->Hp->VK->Prop}(z:UnR X (unaryOp op) r)(ha:W (PE X a ta)):W (PE X (.UnaryOp op a pos) (tUn r ta)):=by
 refine {?_};have ha:=ha.h;intro Go s σ H Q I h;exact UnaryOp_ (thn (ha Go s σ H _ I h) λv s1=>x5e λx H1 F r1 q1=>z Go s1 σ H1 x v Q F r1 q1)
theorem opI{g:Int->Int->Int}(rule:∀(i j:Int)(t u:Tok)(s:KE)(Q:Value->KE->Prop)(E:Value->KE->Prop),C i j->Q (.int (g i j) s.toks) { s with toks:=s.toks+1 }->OE 'c' X.A (f (.int i t) (.int j u)) Q E s):
  OpR X f (rI C λi j=>.int (g i j)):=by
 intro Go s σ H x y v u Q I G z h;obtain ⟨i,j,rfl,rfl,F,q⟩:=h;obtain ⟨t,rfl⟩:=G;obtain ⟨t',rfl⟩:=z;exact rule i j t t' s _ _ F {.int (g i j),H,I.tok _,{_,rfl},q}
theorem tq{g:Int->Int->Int}(rule:∀(i j:Int)(t u:Tok)(s:KE)(Q:Value->KE->Prop)(E:Value->KE->Prop),Q (.int (g i j) s.toks) { s with toks:=s.toks+1 }->OE 'c' X.A (f (.int i t) (.int j u)) Q E s):
  OpR X f (rI0 λi j=>.int (g i j)):=by
 intro Go s σ H x y v u Q I F z h;obtain ⟨i,j,rfl,rfl,q⟩:=h;obtain ⟨t,rfl⟩:=F;obtain ⟨t',rfl⟩:=z;exact rule i j t t' s _ _ {.int (g i j),H,I.tok _,{_,rfl},q}
theorem pS{g:Int->Int->Bool}(rule:∀(i j:Int)(t u:Tok)(s:KE)(Q:Value->KE->Prop)(E:Value->KE->Prop),Q (.bool (g i j)) s->OE 'c' X.A (f (.int i t) (.int j u)) Q E s):
  OpR X f (rI0 λi j=>.bl (g i j)):=by
 intro Go s σ H x y v u Q I F z h;obtain ⟨i,j,rfl,rfl,q⟩:=h;obtain ⟨t,rfl⟩:=F;obtain ⟨t',rfl⟩:=z;exact rule i j t t' s _ _ {.bl (g i j),H,I,rfl,q}
def BJ(i j:Int):Prop:=0<j/\j<1073741824
def Ji(i j:Int):Prop:=0<=j/\j<=1000000/\i.natAbs<2 ^ 64
def ie(i j:Int):Prop:=(-(2 ^ 64)<i/\i<2 ^ 64)\/(-(2 ^ 64)<j/\j<2 ^ 64)
theorem ie.ok(h:ie i j):IntMulOk i j:=by
 rcases h with ⟨h1,h2⟩|⟨h1,h2⟩
 .exact .of_left (intBits_le_64 h1 h2)
 .exact .of_right (intBits_le_64 h1 h2)
theorem DT:OpR X (QF .Add) (rI0 λi j=>.int (i+j)):=tq λ_ _ _ _ _ _ _ q=>add_int q
theorem j6:OpR X (QF .Sub) (rI0 λi j=>.int (i-j)):=tq λ_ _ _ _ _ _ _ q=>sub_int q
theorem Nu:OpR X (QF .Mult) (rI ie λi j=>.int (i*j)):=opI λ_ _ _ _ _ _ _ z q=>mul_int q z.ok
theorem De:OpR X (QF .FloorDiv) (rI BJ λi j=>.int (i / j)):=opI λi j _ _ _ _ _ z q=>by
 have h1:(0:Int)<j:=z.1;have h2:j<1073741824:=z.2;exact floordiv_int 'l' (by rw [Int.fdiv_eq_ediv_of_nonneg i 'l'];exact q) (.inl (PyProof.noPylong_small 'l'))
theorem ia:OpR X (QF .Mod) (rI (λ_ j=>0<j) λi j=>.int (i % j)):=opI λi j _ _ _ _ _ z q=>by
 have h1:(0:Int)<j:=z;exact mod_int' 'l' (by rw [Int.fmod_eq_emod_of_nonneg i 'l'];exact q)
theorem CH:OpR X (QF .Pow) (rI Ji λi j=>.int (i ^ j.toNat)):=opI λ_ _ _ _ _ _ _ z q=>pow_int_small z.1 z.2.1 z.2.2 q
theorem unI{g:Int->Int}(rule:∀(i:Int)(t:Tok)(s:KE)(Q:Value->KE->Prop)(E:Value->KE->Prop),Q (.int (g i) s.toks) { s with toks:=s.toks+1 }->OE 'c' X.A (f (.int i t)) Q E s):
  UnR X f (rU λi=>.int (g i)):=by
 intro Go s σ H x v Q I z h;obtain ⟨i,rfl,q⟩:=h;obtain ⟨t,rfl⟩:=z;exact rule i t s _ _ {.int (g i),H,I.tok _,{_,rfl},q}
theorem B8:UnR X (unaryOp .USub) (rU λi=>.int (-i)):=unI λ_ _ _ _ _ q=>neg_int q
noncomputable def gw:V->V->Bool
 | .non,.non=>true | .non,.int _=>true | .int _,.non=>true | .non,.bl _=>true | .bl _,.non=>true | .non,.str _=>true | .str _,.non=>true
 | .int _,.int _=>true | .bl _,.bl _=>true | .str _,.str _=>true | .byt _,.byt _=>true
 | .int _,.str _=>true | .str _,.int _=>true | .bl _,.str _=>true | .str _,.bl _=>true
 | _,_=>false
noncomputable def rEq:R2:=λx y H Q=>gw x y=true/\Q (.bl (decide (x=y))) H
noncomputable def rNe:R2:=λx y H Q=>gw x y=true/\Q (.bl (!decide (x=y))) H
theorem xw:decide (V.int i=V.int j)=(i==j):=by
 rw [Rq];simp
theorem vk:decide (V.bl i=V.bl j)=(i==j):=by
 rw [Rq];simp
theorem Ac:decide (V.str i=V.str j)=(i==j):=by
 rw [Rq];simp
theorem wU:decide (V.byt i=V.byt j)=(i.toList==j.toList):=by
 rw [Rq];cases i;cases j;simp
theorem aj{k k':Bool}(I:Inv X Go σ H s)(q:Q (.bl k) H)(e:k=k'):EP X Go σ Q (.bool k') s:=by
 subst e;exact {.bl k,H,I,rfl,q}
theorem Di:OpR X (PU .Eq) rEq:=by
 intro Go s σ H x y v u Q I F z h;obtain ⟨hs,q⟩:=h;cases x with
 | non =>
  cases F;cases y with
  | non=>cases z;exact PySem.EqNone.eq_none_none (aj I q 'z')
  | bl j=>cases z;exact PySem.EqNone.eq_none_bool (aj I q 'z')
  | int j=>obtain ⟨t',rfl⟩:=z;exact PySem.EqNone.eq_none_int (aj I q 'z')
  | str j=>obtain ⟨t',rfl⟩:=z;exact PySem.EqNone.eq_none_str (aj I q 'z')
  | _=>exact absurd (show false=true from hs) OP
 | bl i =>
  cases F;cases y with
  | non=>cases z;exact PySem.EqNone.eq_bool_none (aj I q 'z')
  | bl j=>cases z;exact eq_bool (aj I q vk)
  | str j=>obtain ⟨t',rfl⟩:=z;exact PySem.EqMixed.eq_bool_str (aj I q 'z')
  | _=>exact absurd (show false=true from hs) OP
 | int i =>
  obtain ⟨t,rfl⟩:=F;cases y with
  | non=>cases z;exact PySem.EqNone.eq_int_none (aj I q 'z')
  | int j=>obtain ⟨t',rfl⟩:=z;exact eq_int (aj I q xw)
  | str j=>obtain ⟨t',rfl⟩:=z;exact PySem.EqMixed.eq_int_str (aj I q 'z')
  | _=>exact absurd (show false=true from hs) OP
 | str i =>
  obtain ⟨t,rfl⟩:=F;cases y with
  | non=>cases z;exact PySem.EqNone.eq_str_none (aj I q 'z')
  | bl j=>cases z;exact PySem.EqMixed.eq_str_bool (aj I q 'z')
  | int j=>obtain ⟨t',rfl⟩:=z;exact PySem.EqMixed.eq_str_int (aj I q 'z')
  | str j=>obtain ⟨t',rfl⟩:=z;exact eq_str (aj I q Ac)
  | _=>exact absurd (show false=true from hs) OP
 | byt i =>
  obtain ⟨t,rfl⟩:=F;cases y with
  | byt j=>obtain ⟨t',rfl⟩:=z;exact PySem.W.eq_bytes (aj I q wU)
  | _=>exact absurd (show false=true from hs) OP
 | _=>cases y<;>exact absurd (show false=true from hs) OP
theorem Jz:OpR X (PU .NotEq) rNe:=by
 intro Go s σ H x y v u Q I F z h;obtain ⟨hs,q⟩:=h;cases x with
 | non =>
  cases F;cases y with
  | non=>cases z;exact PySem.EqNone.ne_none_none (aj I q 'z')
  | bl j=>cases z;exact PySem.EqNone.ne_none_bool (aj I q 'z')
  | int j=>obtain ⟨t',rfl⟩:=z;exact PySem.EqNone.ne_none_int (aj I q 'z')
  | str j=>obtain ⟨t',rfl⟩:=z;exact PySem.EqNone.ne_none_str (aj I q 'z')
  | _=>exact absurd (show false=true from hs) OP
 | bl i =>
  cases F;cases y with
  | non=>cases z;exact PySem.EqNone.ne_bool_none (aj I q 'z')
  | bl j=>cases z;exact ne_bool (aj I q (congrArg not vk))
  | str j=>obtain ⟨t',rfl⟩:=z;exact PySem.EqMixed.ne_bool_str (aj I q 'z')
  | _=>exact absurd (show false=true from hs) OP
 | int i =>
  obtain ⟨t,rfl⟩:=F;cases y with
  | non=>cases z;exact PySem.EqNone.ne_int_none (aj I q 'z')
  | int j=>obtain ⟨t',rfl⟩:=z;exact ne_int (aj I q (congrArg not xw))
  | str j=>obtain ⟨t',rfl⟩:=z;exact PySem.EqMixed.ne_int_str (aj I q 'z')
  | _=>exact absurd (show false=true from hs) OP
 | str i =>
  obtain ⟨t,rfl⟩:=F;cases y with
  | non=>cases z;exact PySem.EqNone.ne_str_none (aj I q 'z')
  | bl j=>cases z;exact PySem.EqMixed.ne_str_bool (aj I q 'z')
  | int j=>obtain ⟨t',rfl⟩:=z;exact PySem.EqMixed.ne_str_int (aj I q 'z')
  | str j=>obtain ⟨t',rfl⟩:=z;exact ne_str (aj I q (congrArg not Ac))
  | _=>exact absurd (show false=true from hs) OP
 | byt i =>
  obtain ⟨t,rfl⟩:=F;cases y with
  | byt j=>obtain ⟨t',rfl⟩:=z;exact PySem.W.ne_bytes (aj I q (congrArg not wU))
  | _=>exact absurd (show false=true from hs) OP
 | _=>cases y<;>exact absurd (show false=true from hs) OP
theorem rX:OpR X (PU .Lt) (rI0 λi j=>.bl (decide (i<j))):=pS λ_ _ _ _ _ _ _ q=>lt_int q
theorem jb:OpR X (PU .LtE) (rI0 λi j=>.bl (decide (i<=j))):=pS λ_ _ _ _ _ _ _ q=>le_int q
theorem lZ:OpR X (PU .Gt) (rI0 λi j=>.bl (decide (j<i))):=pS λ_ _ _ _ _ _ _ q=>gt_int q
theorem IR:OpR X (PU .In) (λx y H Q=>∃i j,x = .str i/\y = .str j/\Q (.bl (!(OO.Str.occurrences j i 0 j.length 1).isEmpty)) H):=by
 intro Go s σ H x y v u Q I F z h;obtain ⟨i,j,rfl,rfl,q⟩:=h;obtain ⟨t,rfl⟩:=F;obtain ⟨t',rfl⟩:=z;exact in_str (aj I q rfl)
theorem Mz:OpR X (PU .Is) (λx y H Q=>y = .non/\Q (.bl (decide (x = .non))) H):=by
 intro Go s σ H x y v u Q I z F h;obtain ⟨rfl,q⟩:=h;cases F;refine is_none_gen (aj I q ?_);cases x<;>first
  | (cases z;rfl)
  | (obtain ⟨t,rfl⟩:=z;rfl)
theorem EN:OpR X (PU .IsNot) (λx y H Q=>y = .non/\Q (.bl (!decide (x = .non))) H):=by
 intro Go s σ H x y v u Q I z F h;obtain ⟨rfl,q⟩:=h;cases F;refine isnot_none_gen (aj I q ?_);cases x<;>first
  | (cases z;rfl)
  | (obtain ⟨t,rfl⟩:=z;rfl)
theorem OpR.or{r r':R2}(h:OpR X f r)(h':OpR X f r'):OpR X f (λx y H Q=>r x y H Q\/r' x y H Q):=by
 intro Go s σ H x y v u Q I F z q;rcases q with q|q
 .exact h Go s σ H x y v u Q I F z q
 .exact h' Go s σ H x y v u Q I F z q
theorem aE(b:OU)(h:op≠.In:=by decide)(h2:op≠.NotIn:=by decide):Tv op b=false:=by
 have z:(op==CmpOp.In)=false:=by cases op<;>first|rfl|exact absurd rfl h
 have F:(op==CmpOp.NotIn)=false:=by cases op<;>first|rfl|exact absurd rfl h2
 cases b<;>simp [Tv,z,F]
theorem fV{r:R2}(J:OpR X (PU op) r)(ha:W (PE X a ta))(z:W (PE X b tb))(O:Tv op b=false):W (PE X (.Compare a [op] [b] pos) (tOp r ta tb)):=by
 refine {?_};have ha:=ha.h;have z:=z.h;intro Go s σ H Q I h;exact wpAny_Compare1 (mV ha z I h λv u s2 x y H2 G S F q=>J Go s2 σ H2 x y v u Q G S F q) O
def oq(t:TE):TT:=λσ H Q=>t σ H λx H'=>∃k,x = .bl k/\Q k H'
theorem aP{r:R2}(ho:OpR X (PU op) r)(ha:W (PE X a ta))(F:W (PE X b tb))(hm:Tv op b=false):W (PT X (.Compare a [op] [b] pos) (oq (tOp r ta tb))):=by
 refine {?_};have ha:=ha.h;have F:=F.h;intro Go s σ H Q I h;refine wpAny_isTrue_Compare1 (thn (ha Go s σ H _ I h) λv s1=>x5e λx H1 J r1 q1=>thn (F Go s1 σ H1 _ J q1) λu s2=>x5e λy H2 O r2 q2 =>
  thn (ho Go s2 σ H2 x y v u _ O r1 r2 q2) λc s3=>x5e λz H3 Z U S=>?_) hm
 obtain ⟨k,e,G⟩:=S;subst e;cases U;exact Qi ⟨H3,Z,G⟩
def yn(r r':R2)(ta tb tc:TE):TE:=λσ H Q=>ta σ H λx H1=>tb σ H1 λy H2=>r x y H2 λz H3=>∃k,z = .bl k /\
 (if k=true then tc σ H3 λw' H4=>r' y w' H4 Q else Q (.bl false) H3)
theorem Ay{r r':R2}(ho:OpR X (PU op) r)(Yg:OpR X (PU F) r')(ha:W (PE X a ta))(J:W (PE X b tb))(O:W (PE X c tc))(hm:lastMarks [op,F] [b,c]=false:=by with_unfolding_all rfl):W (PE X (.Compare a [op,F] [b,c] pos) (yn r r' ta tb tc)):=by
 refine {?_};have ha:=ha.h;have J:=J.h;have O:=O.h;intro Go s σ H Q I h;refine Compare_chain (thn (ha Go s σ H _ I h) λv s1=>x5e λx H1 Z r1 q1=>chain_link (thn (J Go s1 σ H1 _ Z q1) λu s2=>x5e λy H2 I2 r2 q2 =>
  thn (ho Go s2 σ H2 x y v u _ I2 r1 r2 q2) λd s3=>x5e λz H3 U r3 G=>?_)) hm
 obtain ⟨k,e,S⟩:=G;subst e;cases r3;refine Qi ?_;cases k with
 | false=>exact ite_ff {.bl false,H3,U,rfl,S}
 | true=>exact ite_tt (chain_last (thn (O Go s3 σ H3 _ U S) λw' s4=>x5e λz' H4 I4 r4 q4=>Yg Go s4 σ H4 y z' u w' Q I4 r2 r4 q4))
def fG(K:Ow)(x:V)(H:Hp)(k:Bool):Prop :=
 match x with
 | .non=>k=false
 | .bl b=>k=b
 | .int i=>k=(i != 0)
 | .str y=>y.length<=sizeLine/\k=((y.length:Int) != 0)
 | .byt y=>y.size<=sizeLine/\k=((y.size:Int) != 0)
 | .ref p=>(∃xs,SqL K H p xs/\k = !xs.isEmpty)\/(∃xs,SqT K H p xs/\k = !xs.isEmpty)\/∃kvs,H p=some (.dK kvs)/\k = !kvs.isEmpty
 | _=>False
theorem G1{κ:Type}{kvs:List (κ×V)}{vs:List (κ×Value)}(r:KV kvs vs):(!vs.isEmpty) = !kvs.isEmpty:=by
 cases r<;>rfl
theorem uU(r:zu xs its):(!its.toArray.isEmpty) = !xs.isEmpty:=by
 cases r<;>simp
theorem fZ:(sizeLine:Nat)<2 ^ 63:=by rw [Qc];decide
theorem GV:Ly X (λx H Q=>∃k,fG X.K x H k/\Q k H):=by
 intro Go s σ H x v Q I F h;obtain ⟨k,e,q⟩:=h;have hl:=fZ;have hs:sizeLine=16777216:=Qc;cases x with
 | non =>
  cases F;have z:k=false:=e;subst z;exact truthy_none ⟨H,I,q⟩
 | bl b =>
  cases F;have z:k=b:=e;subst z;exact Qi ⟨H,I,q⟩
 | int i =>
  obtain ⟨t,rfl⟩:=F;have z:k=(i != 0):=e;subst z;exact PySem.P.truthy_int ⟨H,I,q⟩
 | str y =>
  obtain ⟨t,rfl⟩:=F;obtain ⟨O,z⟩:y.length<=sizeLine/\k=((y.length:Int) != 0):=e;subst z;exact PySem.P.truthy_str 'l' {H,I.tok _,q}
 | byt y =>
  obtain ⟨t,rfl⟩:=F;obtain ⟨O,z⟩:y.size<=sizeLine/\k=((y.size:Int) != 0):=e;subst z;exact PySem.W.truthy_bytes 'l' {H,I.tok _,q}
 | ref p =>
  cases F;have z:(∃xs,SqL X.K H p xs/\k = !xs.isEmpty)\/(∃xs,SqT X.K H p xs/\k = !xs.isEmpty)\/∃kvs,H p=some (.dK kvs)/\k = !kvs.isEmpty:=e;rcases z with ⟨xs,hx,z⟩|⟨xs,hx,z⟩|⟨kvs,hx,z⟩
  .subst z;obtain ⟨its,r,pl,hz⟩:=I.list hx;have G:=r.length;exact wpAny_truthy_list pl.isList (by simp only [OR];lia) {H,I.tok _,by rw [uU r];exact q}
  .subst z;obtain ⟨its,r,pl,hz⟩:=I.tuple hx;have G:=r.length;exact truthy_tuple pl (by simp only [OR];lia) {H,I.tok _,by rw [uU r];exact q}
  .subst z;obtain ⟨hz,J,vs,r,m⟩:kvs.length<=sizeLine/\(p==sysModules)=false/\∃vs,KV kvs vs/\s.heap.DictOf (bg X.prog X.w) p vs:=I.hok p _ hx;have G:kvs.length=vs.length:=Paired.length r;exact wpAny_truthy_dict J m 'l' {H,I.tok _,by rw [G1 r];exact q}
 | _=>exact (show False from e).elim
theorem BL(ha:PE X a ta)(he:∀z,T8 a X.env z=(do let v<-z;QM a.pos;QA [v] (truthy v))) :
  PT X a (λσ H Q=>ta σ H λx H'=>∃k,fG X.K x H' k/\Q k H'):=by
 intro Go s σ H Q I h;exact isTrue_plain (thn (ha Go s σ H _ I h) λv s1=>x5e λx H1 F r1 q1=>GV Go s1 σ H1 x v Q F r1 q1) (he _)
theorem CZ:OpR X (QF .Add) (λx y H Q=>∃i j,x = .str i/\y = .str j/\i.length+j.length<=sizeLine/\Q (.str (i++j)) H):=by
 intro Go s σ H x y v u Q I F z h;obtain ⟨i,j,rfl,rfl,hz,q⟩:=h;obtain ⟨t,rfl⟩:=F;obtain ⟨t',rfl⟩:=z;exact add_str (λt' tk=>{.str (i++j),H,I.tok _,{_,rfl},q}) hz
theorem cT(r:zu [x] us):∃u,us=[u]/\zp x u:=by
 cases r with
 | cons r1 r2=>cases r2;exact {_,rfl,r1}
theorem oy(r:zu [x,y] us):∃u w',us=[u,w']/\zp x u/\zp y w':=by
 cases r with
 | cons r1 r2 =>
  cases r2 with
  | cons F z=>cases z;exact {_,_,rfl,r1,F}
theorem HR(F:X.calm=true):zY X (.builtin "max") (λxs H Q=>∃i j,xs=[.int i,.int j]/\Q (.int (if j>i then j else i)) H):=by
 intro Go s σ H xs us Q I r h;obtain ⟨i,j,rfl,q⟩:=h;obtain ⟨u,w',rfl,⟨t,rfl⟩,⟨t',rfl⟩⟩:=oy r;refine max_two_ints (I.ok.hd F) λh' tk k=>{_,H,I.kept k,?_,q};by_cases z:j>i
 .rw [if_pos z,if_pos z];exact {_,rfl}
 .rw [if_neg z,if_neg z];exact {_,rfl}
theorem II(F:X.calm=true):zY X (.builtin "min") (λxs H Q=>∃i j,xs=[.int i,.int j]/\Q (.int (if j<i then j else i)) H):=by
 intro Go s σ H xs us Q I r h;obtain ⟨i,j,rfl,q⟩:=h;obtain ⟨u,w',rfl,⟨t,rfl⟩,⟨t',rfl⟩⟩:=oy r;refine min_two_ints (I.ok.hd F) λh' tk k=>{_,H,I.kept k,?_,q};by_cases z:j<i
 .rw [if_pos z,if_pos z];exact {_,rfl}
 .rw [if_neg z,if_neg z];exact {_,rfl}
theorem EO:zY X (.type "int") (λxs H Q=>(∃i,xs=[.int i]/\Q (.int i) H)\/∃k,xs=[.bl k]/\Q (.int (if k then 1 else 0)) H):=by
 intro Go s σ H xs us Q I r h;rcases h with ⟨i,rfl,q⟩|⟨k,rfl,q⟩
 .obtain ⟨u,rfl,t,rfl⟩:=cT r;exact call_int_int {.int i,H,I,{_,rfl},q}
 .obtain ⟨u,rfl,r1⟩:=cT r;cases r1;exact call_int_bool {.int (if k then 1 else 0),H,I.tok _,{_,rfl},q}
theorem Kt:zY X (.type "str") (λxs H Q=>∃i,xs=[.int i]/\i.natAbs.log2<1920/\Q (.str (toString i)) H):=by
 intro Go s σ H xs us Q I r h;obtain ⟨i,rfl,hz,q⟩:=h;obtain ⟨u,rfl,t,rfl⟩:=cT r;exact PySem.P.str_of_int hz {.str _,H,I.tok _,{_,rfl},q}
theorem Gm:zY X (.builtin "ord") (λxs H Q=>∃x,xs=[.str x]/\x.length=1/\Q (.int (x.cps.getD 0 0:Nat)) H):=by
 intro Go s σ H xs us Q I r h;obtain ⟨x,rfl,hz,q⟩:=h;obtain ⟨u,rfl,t,rfl⟩:=cT r;exact ord_of_one hz {.int _,H,I.tok _,{_,rfl},q}
end
structure gg(h:Heap)(x dx C:Addr)(mA:Str->Option Value):Prop where
 obj:h.get? x=some (T9 C dx)
 ns:h.Ns1 dx mA
 ne:dx≠x
theorem D7{h:Heap}(n:h.Ns1 dx mA):∃F,h.get? dx=some F/\∀name,lookIn name F=some (mA name):=by
 obtain ⟨o,es,ep,S,hd,J,_,U⟩:=n;refine {o,S,λname=>?_};have e:=U name;unfold nsFind findBy at e;rw [<- Array.find?_toList] at e;unfold lookIn;rw [hd];dsimp only;split
 .rename_i y q;rw [q] at e;exact congrArg some e
 .rename_i q;rw [q] at e;have a:es.toList.any (·.refKey)=false:=by
   rw [List.any_eq_false];intro y O;obtain ⟨z,t,W⟩:=J y (Array.mem_toList_iff.mp O);simp [DictEntry.refKey,W]
  have G : ¬ es.toList.any (·.refKey)=true:=by rw [a];exact OP
  rw [if_neg G];exact congrArg some e
theorem gg.look(I:gg h x dx C mA):∃z,PySem.W.InstAt h x (T9 C dx) C (some z)/\∀name,lookIn name z=some (mA name) :=
 let ⟨z,ho,hl⟩:=D7 I.ns
 {z,{I.obj,rfl,rfl,ho},hl}
section
variable {prog:OF}{w:OS}{A:OQ}{E:Value->KE->Prop}{s:KE}{K:Ow}{x dx C f:Addr}{mA:Str->Option Value}{name:Str}{v:Value}
theorem Fz(X:K.In s.heap)(I:gg s.heap x dx C mA)(G:R7 K C name=true)(O:R1 K C=true)(ha:Qn K (.ref C) name=some none)(hv:mA name=some v)(F:handedIn v=true)(h:Q v { s with toks:=s.toks+1 }):
  OE (OK prog w) A (getAttr (.ref x) name z) Q E s:=by
 obtain ⟨S,J,hl⟩:=I.look;exact PySem.W.get_value X J (plainGet_of G).1 (PySem.W.findObj_own O ha rfl (by rw [hl,hv])) F h
theorem Ki(X:K.In s.heap)(I:gg s.heap x dx C mA)(z:R7 K C name=true)(hf:Qn K (.ref C) name=some (some (.ref f)))(G:isFn K (.ref f)=true)(hv:mA name=none)(h:Q (.ref f,[.ref x]) s):
  OE (OK prog w) A (RM (.ref x) name pl) Q E s:=by
 obtain ⟨F,J,hl⟩:=I.look;exact PySem.W.method_fn X J (plainGet_of z).1 (plainGet_of z).2 hf (beq_iff_eq.mp G) (by show (lookIn name F).map (·.isSome)=some false;rw [hl,hv];rfl) h
theorem Oe(X:K.In s.heap)(I:gg s.heap x dx C mA)(hs:Qn K (.ref C) "__setattr__"=some (some (.builtin "object.__setattr__")))(hp:Sk K C=true)(ht:takerIn K C name=some none)(hh:R1 K C=true)(hw:Uh mA ns)(hsz:ns.length<=sizeLine)(h:∀h',gg h' x dx C (λy=>if y=name then some v else mA y)->Qj dx s.heap h'->Q () { s with heap:=h',toks:=s.toks+2 }):
  OE (OK prog w) A (setAttr (.ref x) name v) Q E s:=by
 obtain ⟨od,J,hl⟩:=I.look;refine PySem.W.set_plain X J hs (PySem.W.osa_open (s:={ s with toks:=s.toks+1 }) (r:=none) X J hp ht λb=>?_);obtain ⟨cd,hc,O⟩:=PySem.W.any_some hh;have hx:s.heap.get? x=some {.ref C,some dx,.plain,#[]}:=I.obj;refine we (Ot (we (we (wpAny_loadPart hx (we (PySem.W.Looks.here (s:={ s with toks:=s.toks+1 }) (PySem.W.looks_clsIn X hc) ?_))))));rw [O];refine Ot (a:=some dx) (we (Ot (we ?_)));refine wpAny_nsSet1 (s:={ s with toks:=s.toks+1 }) I.ns λh' z U=>?_;obtain ⟨oD,Z,ai,F,G,S⟩:=z.count (Uh.cons name v hw);refine we (wpAny_lookBehind F (by rw [G];exact pastItsLine_dict (Pt S (by rw [Pn];lia))) ?_);exact Ot (h _ {(U.2 _ (Pd I.ne)).trans I.obj,z,I.ne} U)
theorem yc(X:K.In s.heap)(z:SL K C=true)(hi:Qn K (.ref C) Wc=some (some (.ref f)))(hf:PySem.W.typeIn K (.ref f)=some (.type "function"))(h:QC (OK prog w) (A.under (.builtin "type.__call__" {.ref C::vs,kw})) (.call (.ref f) {.ref (s.heap.objs.size+1)::vs,kw}) (PySem.W.InitBack (s.heap.objs.size+1) R)
   { s with heap:=(s.heap.push emptyDict).push (T9 C s.heap.objs.size) }):
  QC (OK prog w) A (.call (.ref C) ⟨vs,kw⟩) R s:=by
 obtain ⟨F,g,d,t,os⟩:=s;exact PySem.W.make_core (PySem.W.makes_of X z) (PySem.W.looks_findIn X hi) (λself=>PySem.W.bind_fn X self hf) (.inl rfl) h
end
noncomputable def zG(f:Str)(v:V):List (Str×V)->List (Str×V)
 | []=>[(f,v)]
 | (g,x)::r=>if g=f then (g,v)::r else (g,x)::zG f v r
theorem vE(f g:Str)(v:V):∀fs:List (Str×V),(zG f v fs).lookup g=if g=f then some v else fs.lookup g
 | []=>by
  show PL g [(f,v)]=_;by_cases h:g=f
  .have z:(g==f)=true:=beq_iff_eq.mpr h;simp only [PL,z,if_pos h]
  .have z:(g==f)=false:=beq_eq_false_iff_ne.mpr h;simp only [PL,z,if_neg h]
 | (k,x)::r=>by
  have G:=vE f g v r;rw [show zG f v ((k,x)::r)=(if k=f then (k,v)::r else (k,x)::zG f v r) from rfl];by_cases F:k=f
  .rw [if_pos F];by_cases h:g=k
   .have z:(g==k)=true:=beq_iff_eq.mpr h;simp only [PL,z,if_pos (h.trans F)]
   .have z:(g==k)=false:=beq_eq_false_iff_ne.mpr h;simp only [PL,z,if_neg (λe:g=f=>h (e.trans F.symm))]
  .rw [if_neg F];by_cases h:g=k
   .have z:(g==k)=true:=beq_iff_eq.mpr h;simp only [PL,z,if_neg (λe:g=f=>F (h.symm.trans e))]
   .have z:(g==k)=false:=beq_eq_false_iff_ne.mpr h;simp only [PL,z];exact G
theorem nJ(f:Str)(v:V):∀fs:List (Str×V),f∈(zG f v fs).map (·.1)/\∀g,g∈fs.map (·.1)->g∈(zG f v fs).map (·.1)
 | []=>{by simp [zG],λg h=>by simp at h}
 | (k,x)::r=>by
  obtain ⟨i1,i2⟩:=nJ f v r;rw [show zG f v ((k,x)::r)=(if k=f then (k,v)::r else (k,x)::zG f v r) from rfl];by_cases z:k=f
  .rw [if_pos z];subst z;exact {'z',λg h=>by simpa using h}
  .rw [if_neg z];refine {?_,λg h=>?_}
   .rw [PY];exact Oz _ i1
   .rw [PY] at h ⊢;rcases OL.mp h with e|e
    .exact OL.mpr (.inl e)
    .exact Oz _ (i2 g e)
theorem tK(f:Str)(v:V):∀fs:List (Str×V),(zG f v fs).length<=fs.length+1
 | []=>by simp [zG]
 | (k,x)::r=>by
  have F:=tK f v r;rw [show zG f v ((k,x)::r)=(if k=f then (k,v)::r else (k,x)::zG f v r) from rfl];by_cases z:k=f
  .rw [if_pos z,Pn,Pn];lia
  .rw [if_neg z,Pn,Pn];lia
theorem bN.some_of{o:Option Value}(r:bN (some v) o):∃u,o=some u/\zp v u:=by
 cases o with
 | none=>exact (show False from r).elim
 | some u=>exact {u,rfl,r}
theorem bN.none_of{o:Option Value}(r:bN none o):o=none:=by
 cases o with
 | none=>rfl
 | some u=>exact (show False from r).elim
theorem K9(r:zp v u):handedIn u=true:=by
 cases v with
 | non=>cases (show u=Pj from r);rfl
 | bl b=>cases (show u=RY b from r);rfl
 | int i=>obtain ⟨t,e⟩:=(show ∃t,u=Rb i t from r);cases e;rfl
 | str x=>obtain ⟨t,e⟩:=(show ∃t,u=SR x t from r);cases e;rfl
 | byt b=>obtain ⟨t,e⟩:=(show ∃t,u=Value.bytes b t from r);cases e;rfl
 | flt b=>obtain ⟨t,e⟩:=(show ∃t,u=float b t from r);cases e;rfl
 | ref a=>cases (show u=OH a from r);rfl
 | ty n=>cases (show u=type n from r);rfl
section
variable {P:OF}{w:OS}{H H':Hp}{h h':Heap}{a C dx:Addr}{fs fs':List (Str×V)}
theorem mL(hok:HOk P w H h)(e:H a=some (.ins C dx fs)):∃mA,gg h a dx C mA/\(∀f,bN (fs.lookup f) (mA f))/\Uh mA (fs.map (·.1))/\fs.length<=1000/\H dx=some (.own a):=by
 obtain ⟨d,z,ne,ob,mA,n,r,q⟩:=(show au P w H h a (.ins C dx fs) from hok a _ e);exact {mA,⟨ob,n,ne⟩,r,q,z,d}
end
structure Cls(K:Ow)(C:Addr):Prop where
 pg:R7 K C RO=true
 hd:R1 K C=true
 po:Sk K C=true
 sa:Qn K (.ref C) "__setattr__"=some (some (.builtin "object.__setattr__"))
theorem Cls.get{K:Ow}(c:Cls K C)(f:Str):R7 K C f=true:=c.pg
def aF(K:Ow)(C:Addr)(f:Str):Prop:=Qn K (.ref C) f=some none
theorem aF.e5{K:Ow}(n:aF K C f):takerIn K C f=some none:=by
 unfold takerIn;rw [show Qn K (.ref C) f=some none from n];rfl
structure gM(K:Ow)(C:Addr)(m:Str)(f:Addr):Prop where
 at_:Qn K (.ref C) m=some (some (.ref f))
 fn:isFn K (.ref f)=true
 kp:Ru K (.ref f)=true
section
variable {X:Cx}{Go:List (Addr×Obj)}{σ:St}{H:Hp}{s:KE}{a C dx:Addr}{fs:List (Str×V)}{f:Str}{v:V}{A:OQ}{E:Value->KE->Prop}
theorem wt(I:Inv X Go σ H s)(e:H a=some (.ins C dx fs))(c:Cls X.K C)(n:aF X.K C f)(l:fs.lookup f=some v)(h:∀u s',Inv X Go σ H s'->zp v u->Q u s'):OE 'c' A (getAttr (.ref a) f b) Q E s:=by
 obtain ⟨mA,O,r,_,_,_⟩:=mL I.hok e;obtain ⟨u,F,z⟩:=bN.some_of (v:=v) (o:=mA f) (by rw [<- l];exact r f);exact Fz I.UQ O (c.get f) c.hd n F (K9 z) (h u _ (I.tok _) z)
theorem jO(I:Inv X Go σ H s)(e:H a=some (.ins C dx fs))(c:Cls X.K C)(k:gM X.K C m g)(l:fs.lookup m=none)(h:Q (.ref g,[.ref a]) s):OE 'c' A (RM (.ref a) m pl) Q E s:=by
 obtain ⟨mA,O,r,_,_,_⟩:=mL I.hok e;have z:mA m=none:=bN.none_of (by rw [<- l];exact r m);exact Ki I.UQ O (c.get m) k.at_ k.fn z h
theorem vb(I:Inv X Go σ H s)(e:H a=some (.ins C dx fs))(c:Cls X.K C)(n:aF X.K C f)(hl:fs.length<1000)(J:zp y u)(h:∀s',Inv X Go σ (upd H a (.ins C dx (zG f y fs))) s'->Q () s'):OE 'c' A (setAttr (.ref a) f u) Q E s:=by
 obtain ⟨mA,O,r,wi,_,G⟩:=mL I.hok e;have hz:(fs.map (·.1)).length<=sizeLine:=by rw [OA,Qc];lia
 refine Oe I.UQ O c.sa c.po n.e5 c.hd wi hz λh' F W=>h _ ?_;have hd:∃o,h'.get? dx=some o:=let ⟨o,_,_,e',_⟩:=F.ns;⟨o,e'⟩;refine I.write (x:=a) (e:=dx) (by rw [e];exact True.intro) (.inr G) (λb q U z=>(W.2 b U).trans z) hd ?_;refine {by rw [zg O.ne];exact G,?_,O.ne,F.obj,_,F.ns,λg=>?_,λg S=>?_}
 .have:=tK f y fs;lia
 .show bN ((zG f y fs).lookup g) (if g=f then some u else mA g);rw [vE];by_cases q:g=f
  .rw [if_pos q,if_pos q];exact J
  .rw [if_neg q,if_neg q];exact r g
 .by_cases q:g=f
  .rw [q];exact (nJ f y fs).1
  .refine (nJ f y fs).2 g (wi g λz=>S ?_);show (if g=f then some u else mA g)=none;rw [if_neg q];exact z
theorem Inv.made(I:Inv X Go σ H s):Inv X Go σ (upd (upd H s.heap.objs.size (.own (s.heap.objs.size+1))) (s.heap.objs.size+1) (.ins C s.heap.objs.size []))
  { s with heap:=(s.heap.push emptyDict).push (T9 C s.heap.objs.size) }:=by
 have z:(s.heap.push emptyDict).get? s.heap.objs.size=some emptyDict:=ON s.heap rfl;have F:((s.heap.push emptyDict).push (T9 C s.heap.objs.size)).get? (s.heap.objs.size+1)=some (T9 C s.heap.objs.size):=by
  have:=ON (s.heap.push emptyDict) (o:=T9 C s.heap.objs.size) rfl;rwa [Q9] at this
 have O:(s.heap.push emptyDict).Ns s.heap.objs.size (λ_=>none):={emptyDict,#[],_,z,rfl,(λe he=>absurd he 'z'),λ_=>rfl};have G:=I.laid (a:=s.heap.objs.size) (o:=.own (s.heap.objs.size+1)) (h':=s.heap.push emptyDict) (t':=s.toks) (λb u q=>Ou _ q) (Ov _) {_,z};refine G.laid (a:=s.heap.objs.size+1) (o:=.ins C s.heap.objs.size []) (t':=s.toks) (λb u q=>Ou _ q) (TQ (Q9 _ _)) ?_;have ne:s.heap.objs.size≠s.heap.objs.size+1:=Pe (Ri _);refine {by rw [zg ne,zt],Pp _,ne,F,λ_=>none,(Heap.Ns1.of_empty O).at λo q=>Ou _ q,λ_=>True.intro,λy J=>absurd rfl J}
theorem Hb{f:Str}{s:KE}(z:Qs e f env (PH e env)=PH e env)(h:OE (OK prog w) A (PH e env) (λo s₁=>OE (OK prog w) A (getAttr o f true) Q E s₁) E s):OE (OK prog w) A (PH (.Attribute e f pos) env) Q E s :=
 Attribute_any_ h (by rw [arm_eval_Attribute,z])
end
def oX(X:Cx)(op:Operator)(z:V->V->Hp->VK->Prop):Prop :=
 ∀(Go:List (Addr×Obj))(s:KE)(σ:St)(H:Hp)(x y:V)(u v:Value)(Q:VK),Inv X Go σ H s->zp x u->zp y v->z x y H Q->OE 'c' X.A (inplaceOp op u v) (EP X Go σ Q) X.xe s
section
variable {X:Cx}{o e Zt:OU}{f:Str}{pos Zi tpos:Pos}{ta tv:TE}
def pQ:V->V->Hp->VK->Prop:=λx y H Q=>∃i j,x = .int i/\y = .int j/\Q (.int (i+j)) H
def oK:V->V->Hp->VK->Prop:=λx y H Q=>∃i j,x = .int i/\y = .int j/\Q (.int (i-j)) H
theorem wu:oX X .Add pQ:=by
 rintro Go s σ H x y u v Q I F z ⟨i,j,rfl,rfl,q⟩;obtain ⟨t,rfl⟩:=(show ∃t,u=Rb i t from F);obtain ⟨t',rfl⟩:=(show ∃t',v=Rb j t' from z);exact PyProof.Rows.iadd_int {.int (i+j),H,I.tok _,{_,rfl},q}
theorem LF:oX X .Sub oK:=by
 rintro Go s σ H x y u v Q I F z ⟨i,j,rfl,rfl,q⟩;obtain ⟨t,rfl⟩:=(show ∃t,u=Rb i t from F);obtain ⟨t',rfl⟩:=(show ∃t',v=Rb j t' from z);exact PyProof.Rows.isub_int {.int (i-j),H,I.tok _,{_,rfl},q}
end
section
variable {X:Cx}{Go:List (Addr×Obj)}{σ:St}{H:Hp}{s:KE}{A:OQ}{E:Value->KE->Prop}{Q:Value->KE->Prop}{c:Value}{b:Bool}
inductive cZ(K:Ow)(H:Hp):V->Value->Prop where
 | non:cZ K H .non (.type "NoneType")
 | bl (x:Bool):cZ K H (.bl x) (.type "bool")
 | int (i:Int):cZ K H (.int i) (.type "int")
 | str (x:Str):cZ K H (.str x) (.type "str")
 | flt (x:UInt64):cZ K H (.flt x) (.type "float")
 | lst {a:Addr}{xs:List V} (e:H a=some (.lst xs)):cZ K H (.ref a) (.type "list")
 | frz {a:Addr}{o:Obj}{xs:List V} (e:H a=some (.frz o (.lst xs))):cZ K H (.ref a) (.type "list")
 | tup {a:Addr}{xs:List V} (e:H a=some (.tup xs)):cZ K H (.ref a) (.type "tuple")
 | dK {a:Addr}{kvs:List (Key×V)} (e:H a=some (.dK kvs)):cZ K H (.ref a) (.type "dict")
 | dT {a:Addr}{kvs:List (List Key×V)} (e:H a=some (.dT kvs)):cZ K H (.ref a) (.type "dict")
 | ins {a C dx:Addr}{fs:List (Str×V)} (e:H a=some (.ins C dx fs)) (cl:Cls K C) (ha:Qn K (.ref C) "__class__"=some (some (.builtin "object.__class__")))
   (hn:PySem.W.specialIn K (.builtin "object.__class__") "__get__"=some (some (.builtin "getset_descriptor.__get__"))) (htk:PySem.W.takesIn K (.builtin "object.__class__")=some true)
   (hm:Rt K C (.type "object")=some true):cZ K H (.ref a) (.ref C)
theorem Mw{u t:Value}(I:Inv X Go σ H s)(F:zp x u)(ty:cZ X.K H x t)(e:PySem.W.kitOne X.K t c=some b)(h:∀tk,Q (.bool b) { s with toks:=tk }):
  OE 'c' A (call (.builtin "isinstance") [u,c]) Q E s:=by
 cases ty with
 | non=>cases (show u=Pj from F);exact Qg PySem.W.kitx_none I.UQ True.intro e (λz=>nomatch z) h
 | bl y=>cases (show u=RY y from F);exact Qg PySem.W.kitx_bool I.UQ True.intro e (λz=>nomatch z) h
 | int i=>obtain ⟨t,q⟩:=(show ∃t,u=Rb i t from F);cases q;exact Qg PySem.W.kitx_int I.UQ True.intro e (λz=>nomatch z) h
 | str y=>obtain ⟨t,q⟩:=(show ∃t,u=SR y t from F);cases q;exact Qg PySem.W.kitx_str I.UQ True.intro e (λz=>nomatch z) h
 | flt y=>obtain ⟨t,q⟩:=(show ∃t,u=float y t from F);cases q;exact Qg PySem.W.kitx_float I.UQ True.intro e (λz=>nomatch z) h
 | @lst a xs ea =>
  cases (show u=OH a from F);obtain ⟨_,_,n,_,h1⟩:=(show au X.prog X.w H s.heap a (.lst xs) from I.hok a _ ea);exact Qg PySem.W.kitx_list I.UQ {_,h1,rfl} e (λz=>nomatch z) h
 | @frz a ob xs ea =>
  cases (show u=OH a from F);obtain ⟨_,_,_,n,_,h1⟩:=(show au X.prog X.w H s.heap a (.frz ob (.lst xs)) from I.hok a _ ea);exact Qg PySem.W.kitx_list I.UQ {_,h1,rfl} e (λz=>nomatch z) h
 | @tup a xs ea =>
  cases (show u=OH a from F);obtain ⟨_,_,_,p⟩:=(show au X.prog X.w H s.heap a (.tup xs) from I.hok a _ ea);obtain ⟨o,h1,h2,_⟩:=p;exact Qg PySem.W.kitx_tuple I.UQ ⟨o,h1,h2⟩ e (λz=>nomatch z) h
 | @dK a kvs ea =>
  cases (show u=OH a from F);obtain ⟨_,_,vs,_,p⟩:=(show au X.prog X.w H s.heap a (.dK kvs) from I.hok a _ ea);obtain ⟨o,es,ep,h1,h2,_⟩:=p;exact Qg PySem.W.kitx_dict I.UQ ⟨o,h1,h2.1⟩ e (λz=>nomatch z) h
 | @dT a kvs ea =>
  cases (show u=OH a from F);obtain ⟨_,_,xs,_,o,es,ep,h1,h2,_⟩:=(show au X.prog X.w H s.heap a (.dT kvs) from I.hok a _ ea);exact Qg PySem.W.kitx_dict I.UQ ⟨o,h1,h2.1⟩ e (λz=>nomatch z) h
 | @ins a C dx fs ea cl ha S G U =>
  cases (show u=OH a from F);obtain ⟨mA,O,_⟩:=mL I.hok ea;obtain ⟨Z,J,_⟩:=O.look;exact Qg (PySem.W.kitx_own (cl.get _) cl.hd ha S G U) I.UQ J e (λz=>nomatch z) h
end
structure zE(c:Bool)(k:Nat)(A:OQ):Prop where
 hd:c=true->A.handled=none
 dp:A.depth+3*k+5<recursionLimit
 un:A.units+16*k+200<cLine
 gd:A.guards=some []
theorem zE.mono{j k:Nat}(r:zE c k A)(h:j<=k):zE c j A:={r.hd,by have:=r.dp;lia,by have:=r.un;lia,r.gd}
theorem zE.deeper{k:Nat}(r:zE c (k+1) A)(env:Env):zE c k (A.deeper env) :=
 {r.hd,by have:=r.dp;show A.depth+1+3*k+5<_;lia,by have:=r.un;show A.units+3+16*k+200<_;lia,by first|exact r.gd|simpa [OQ.deeper,OQ.under,Code.isGuard] using r.gd}
theorem zE.in1{k:Nat}(r:zE c (k+1) A):zE c k A.in1 :=
 {r.hd,by have:=r.dp;show A.depth+3*k+5<_;lia,by have:=r.un;show A.units+1+16*k+200<_;lia,r.gd}
theorem Cf{A:OQ}:(A.under (.builtin "type.__call__" {.ref C::us,kw})).depth=A.depth+1:=by
 first|rfl|simp [OQ.under,Code.weight,Code.isCreation,Code.isGuard,Code.isCaller,Code.frames,Code.isFrame,guardIds]
theorem Jw{A:OQ}:(A.under (.builtin "type.__call__" {.ref C::us,kw})).units=A.units+1:=by
 first|rfl|simp [OQ.under,Code.cUnits,Code.frames,Code.isFrame]
theorem zE.make{k:Nat}(r:zE c (k+1) A)(C:Addr)(us:List Value)(kw:List (Str×Value)):zE c k (A.under (.builtin "type.__call__" {.ref C::us,kw})) :=
 {r.hd,by have:=r.dp;rw [Cf];lia,by have:=r.un;rw [Jw];lia,by first|exact r.gd|simpa [OQ.under,Code.isGuard,guardIds] using r.gd}
theorem zE.depth{k:Nat}(r:zE c k A):A.depth<recursionLimit:=by have:=r.dp;lia
theorem zE.units{k:Nat}(r:zE c k A):A.units+64<cLine:=by have:=r.un;lia
def bV:TA:=λ_ H Q=>Q [] H
def d9(ta:TE)(z:TA):TA:=λσ H Q=>ta σ H λx H1=>z σ H1 λxs H2=>Q (x::xs) H2
section
variable {X:Cx}{e:OU}{es:List OU}{te:TE}{t:TA}{pos:Pos}
theorem gF:PA X [] bV:=λ_ _ _ _ H Q I h=>Calls.spliced_nil {[],H,I,.nil,h}
theorem gU(ha:PE X e te)(hr:PA X es t)(hs:OV (e::es) X.env=(false,PH e X.env)::OV es X.env:=by rfl):PA X (e::es) (d9 te t):=by
 intro pos Go s σ H Q I h;rw [hs];show OE _ _ (spliced ((false,PH e X.env)::Qz pos (OV es X.env))) _ _ s;refine Calls.spliced_cons (thn (ha Go s σ H _ I h) λu s1=>x5e λx H1 F r1 q1=>?_);exact thn (hr pos Go s1 σ H1 _ F q1) λus s2=>x5e λxs H2 z r2 G=>{x::xs,H2,z,.cons r1 r2,G}
def LZ(t:TA):TE:=λσ H Q=>t σ H λxs H1=>xs.length<=sizeLine/\∀p,H1 p=none->Q (.ref p) (upd H1 p (.tup xs))
theorem JZ{x1}(h:PA X es t):PE X (.Tuple es x1 pos) (LZ t):=by
 intro Go s σ H Q I G;refine wpAny_Tuple_spliced (thn (h pos Go s σ H _ I G) λus s1=>x5e λxs H1 F r=>x2e λz q=>{by rw [<- r.length];exact z,?_});have hf:H1 s1.heap.objs.size=none:=F.hok.fresh (Ov _);refine {.ref s1.heap.objs.size,upd H1 s1.heap.objs.size (.tup xs),F.laid (t':=s1.toks) (λb u e=>Ou _ e) (Ov _) ?_,rfl,q _ hf};exact {z,us,r,{_,ON _ rfl,rfl,_,rfl}}
end
abbrev Sp:=List V->Hp->VK->XK->Prop
abbrev CXT:=List Env->Hp->KE->XK->Value->KE->Prop
structure fT(P:OF)(w:OS)(K:Ow)(mg:Str->Option Value)(base:Heap)(A:OQ)(outer:List Env)(s:KE)(H:Hp):Prop where
 frames:A.frames=some outer
 hdk:fH A H
 mod:Mod K mg base
 bs:∀b o,base.get? b=some o->s.heap.get? b=some o/\H b=none
 ea:base.objs.size<=s.heap.objs.size
 Vl:s.heap.FunFrames base outer
 eF:∀b∈frs outer,H b=none
 hok:HOk P w H s.heap
 bare:Rz s.gens
noncomputable def CE(outer:List Env)(P:OF)(w:OS)(H:Hp)(s:KE)(Q:VK)(u:Value)(s':KE):Prop :=
 ∃v H',s'.os=s.os/\Rz s'.gens/\Un (frs outer) [] H H' s.heap s'.heap/\HOk P w H' s'.heap/\zp v u/\Q v H'
noncomputable def CR(CX:CXT)(outer:List Env)(P:OF)(w:OS)(H:Hp)(s:KE)(Q:VK)(E:XK)(r:Tw)(s':KE):Prop :=
 match r with
 | .ok (.ret u)=>CE outer P w H s Q u s'
 | .ok _=>False
 | .error e=>CX outer H s E e s'
structure zq(P:OF)(w:OS)(K:Ow)(mg:Str->Option Value)(base:Heap)(CX:CXT)(c:Bool)(k:Nat)(f:Addr)(fd:OG)(ps:List Str)(sp:Sp):Prop where
 len:∀vs H Q E,sp vs H Q E->vs.length=ps.length
 run:∀(A:OQ)(outer:List Env)(s:KE)(H:Hp)(args:Args)(us:List Value)(vs:List V)(Q:VK)(E:XK),zE c k A->fT P w K mg base A outer s H->BindsTo s fd args (ps.zip us)->zu vs us->sp vs H Q E ->
  QC (OK P w) A (.call (.ref f) args) (CR CX outer P w H s Q E) s
theorem fT.make{K:Ow}(e:fT P w K mg base A outer s H)(C:Addr)(us:List Value)(kw:List (Str×Value)):
  fT P w K mg base (A.under (.builtin "type.__call__" {.ref C::us,kw})) outer s H:={by first|exact e.frames|(simpa [OQ.under,Code.envs,Code.isFrame,pushEnvs] using e.frames),e.hdk,e.mod,e.bs,e.ea,e.Vl,e.eF,e.hok,e.bare}
section
variable {X:Cx}{Go:List (Addr×Obj)}{σ:St}{H:Hp}{s s':KE}
theorem Inv.ew(I:Inv X Go σ H s):fT X.prog X.w X.K X.mg X.base X.A X.stack s H :=
 {I.ok.frames,I.hdk,I.ok.mod,I.bs,Pt I.ok.ea I.sz,I.stack,I.cp,I.hok,I.bare}
theorem Inv.after(I:Inv X Go σ H s)(h:CE X.stack X.prog X.w H s Q u s'):EP X Go σ Q u s':=by
 obtain ⟨v,H',os,bare,un,hok,r,q⟩:=h;obtain ⟨G,g,d,t,F⟩:=s';obtain rfl:F=s.os:=os;exact {v,H',I.call (h':=G) (g':=g) (d':=d) (t':=t) (ch:=[]) un hok bare (λb z=>absurd z 'z'),r,q}
end
def iw(sp:Sp)(Zh:List V)(E:XK)(t:TA):TE:=λσ H Q=>t σ H λvs H1=>sp (vs++Zh) H1 Q E
def fC(C:Addr)(m:Str)(sp:Sp)(Zh:List V)(E:XK)(ta:TE)(t:TA):TE:=λσ H Q=>ta σ H λx H1=>∃a dx fs,x = .ref a/\H1 a=some (.ins C dx fs)/\fs.lookup m=none /\
 t σ H1 λvs H2=>sp (x::(vs++Zh)) H2 Q E
def v3(C:Addr)(sp:Sp)(Zh:List V)(E:XK)(t:TA):TE:=λσ H Q=>t σ H λvs H1=>∀x dx,H1 x=none->H1 dx=none->dx≠x ->
 sp (.ref x::(vs++Zh)) (upd (upd H1 dx (.own x)) x (.ins C dx [])) (λv H2=>v = .non/\Q (.ref x) H2) E
def br(K:Ow)(fd:OG)(ps:List Str)(ds:List Value):Prop :=
 ∀(s:KE)(us:List Value),K.In s.heap->(us++ds).length=ps.length->BindsTo s fd {us,[]} (ps.zip (us++ds))
theorem br.all{K:Ow}(h:∀us:List Value,us.length=ps.length->SY fd {us,[]}=pure (ps.zip us)):br K fd ps []:=λs us _ hl=>by
 rw [Qa] at hl ⊢;exact .of_eq (h us hl)
def eV(CX:CXT)(X:Cx)(E:XK):Prop:=∀(Go:List (Addr×Obj))(σ:St)(H:Hp)(s:KE)(e:Value)(s':KE),Inv X Go σ H s->CX X.stack H s E e s'->X.xe e s'
section
variable {X:Cx}{CX:CXT}{cm:Bool}{k:Nat}{f C:Addr}{fd:OG}{ps:List Str}{sp:Sp}{Zh:List V}{ds:List Value}{E:XK}{x m:Str}{p pos ZZ:Pos}{e o:OU}{es:List OU}{ta:TE}{t:TA}
theorem lW(F:zq X.prog X.w X.K X.mg X.base CX cm k f fd ps sp)(hr:zE cm k X.A)(G:br X.K fd ps ds)(hd:zu Zh ds)(hx:eV CX X E)(I:Inv X Go σ H s)(r:zu vs us)(h:sp (vs++Zh) H Q E):OE 'c' X.A (call (.ref f) us) (EP X Go σ Q) X.xe s:=by
 have r2:zu (vs++Zh) (us++ds):=r.append hd;have hl:(us++ds).length=ps.length:=by rw [<- r2.length];exact F.len _ _ _ _ h
 refine Sh (Qt (F.run X.A X.stack s H {us,[]} (us++ds) (vs++Zh) Q E hr I.ew (G s us I.UQ hl) r2 h) λr s' z=>?_);cases r with
 | error e=>exact hx Go σ H s e s' I z
 | ok fl =>
  cases fl with
  | ret u=>exact I.after z
  | next=>exact False.elim z
  | brk=>exact False.elim z
  | cont=>exact False.elim z
theorem Mr(F:zq X.prog X.w X.K X.mg X.base CX cm k f fd ps sp)(hr:zE cm k X.A)(J:Gl X x)(W:X.mg x=some (.ref f))(S:Ru X.K (.ref f)=true)(O:br X.K fd ps ds)(hd:zu Zh ds)(hx:eV CX X E)
  (ha:PA X (e::es) t) (U:'g'=false:=by decide) (he:OV (e::es) X.env=(false,PH e X.env)::OV es X.env:=by rfl) (G:(Qz pos (OV es X.env)).any (·.1)=false:=by rfl) :
  PE X (.Call (.Name x p) (e::es) [] pos) (iw sp Zh E t):=by
 intro Go s σ H Q I h;refine PM (di I J W ?_ U);refine SX (h₀:=X.base) I.ok.mod.eE S (thn (ha pos Go s σ H _ I h) λus s1=>x5e λvs H1 z r q=>{z.UQ,?_}) he G;exact lW F hr O hd hx z r q
theorem E7(F:zq X.prog X.w X.K X.mg X.base CX cm k f fd ps sp)(hr:zE cm k X.A)(z:Gl X x)(S:X.mg x=some (.ref f))(J:Ru X.K (.ref f)=true)(G:br X.K fd ps ds)(hd:zu Zh ds)(hx:eV CX X E)
  (O:'g'=false:=by decide):PE X (.Call (.Name x p) [] [] pos) (iw sp Zh E bV):=by
 intro Go s σ H Q I h;refine PM (di I z S ?_ O);exact callWith_K0 I.UQ J (lW (us:=[]) F hr G hd hx I .nil h)
theorem KY(he:PE X o ta)(c:Cls X.K C)(S:gM X.K C m f)(F:zq X.prog X.w X.K X.mg X.base CX cm k f fd ps sp)(hr:zE cm k X.A)(W:br X.K fd ps ds)(hd:zu Zh ds)(hx:eV CX X E)(ha:PA X (e::es) t)(hst:OV (e::es) X.env=(false,PH e X.env)::OV es X.env:=by rfl)(U:(Qz pos (OV es X.env)).any (·.1)=false:=by rfl)(Z:PH (.Call (.Attribute o m ZZ) (e::es) [] pos) X.env=(do
   let O<-PH o X.env
   QM ZZ.atName
   let (f,first)<-QA [O] (RM O m pl)
   Rp pos f first (Qz pos (OV (e::es) X.env)) (SC pos (Rc [] X.env))):=by rfl):
  PE X (.Call (.Attribute o m ZZ) (e::es) [] pos) (fC C m sp Zh E ta t):=by
 intro Go s σ H Q I h;refine Tu (pl:=pl) (thn (he Go s σ H _ I h) λu s1=>x5e λx H1 G rx z=>?_) Z;obtain ⟨a,dx,fs,ex,ea,l,q⟩:=z;subst ex;obtain rfl:u=OH a:=rx;refine jO G ea c S l ?_;refine SX (first:=[.ref a]) (h₀:=X.base) I.ok.mod.eE S.kp (thn (ha pos Go s1 σ H1 _ G q) λus s2=>x5e λvs H2 J r q2=>{J.UQ,?_}) hst U;exact lW (us:=.ref a::us) (vs:=.ref a::vs) F hr W hd hx J (.cons rfl r) q2
theorem Df(he:PE X o ta)(c:Cls X.K C)(O:gM X.K C m f)(F:zq X.prog X.w X.K X.mg X.base CX cm k f fd ps sp)(hr:zE cm k X.A)(S:br X.K fd ps ds)(hd:zu Zh ds)(hx:eV CX X E)(W:PH (.Call (.Attribute o m ZZ) [] [] pos) X.env=(do
   let J<-PH o X.env
   QM ZZ.atName
   let (f,first)<-QA [J] (RM J m pl)
   Rp pos f first (Qz pos (OV [] X.env)) (SC pos (Rc [] X.env))):=by rfl):
  PE X (.Call (.Attribute o m ZZ) [] [] pos) (fC C m sp Zh E ta bV):=by
 intro Go s σ H Q I h;refine Tu (pl:=pl) (thn (he Go s σ H _ I h) λu s1=>x5e λx H1 G U z=>?_) W;obtain ⟨a,dx,fs,ex,ea,l,q⟩:=z;subst ex;obtain rfl:u=OH a:=U;refine jO G ea c O l ?_;exact callWith_K0 (first:=[.ref a]) G.UQ O.kp (lW (us:=[.ref a]) (vs:=[.ref a]) F hr S hd hx G (.cons rfl .nil) q)
structure Mk(K:Ow)(C f:Addr):Prop where
 makes:SL K C=true
 init:Qn K (.ref C) Wc=some (some (.ref f))
 fn:isFn K (.ref f)=true
 kp:Ru K (.ref C)=true
theorem yB(M:Mk X.K C f)(F:zq X.prog X.w X.K X.mg X.base CX cm k f fd ps sp)(hr:zE cm (k+1) X.A)(U:br X.K fd ps ds)(hd:zu Zh ds)(hx:eV CX X E)(I:Inv X Go σ H s)(r:zu vs us)(h:∀x dx,H x=none->H dx=none->dx≠x->sp (.ref x::(vs++Zh)) (upd (upd H dx (.own x)) x (.ins C dx [])) (λv H2=>v = .non/\Q (.ref x) H2) E):
  OE 'c' X.A (call (.ref C) us) (EP X Go σ Q) X.xe s:=by
 have J:=h (s.heap.objs.size+1) s.heap.objs.size (I.hok.fresh (R9 _)) (I.hok.fresh (Ov _)) (Pe (Ri _));have G:=Inv.made (C:=C) I;have r2:zu (V.ref (s.heap.objs.size+1)::(vs++Zh)) (OH (s.heap.objs.size+1)::(us++ds)):=.cons rfl (r.append hd);have hl:(OH (s.heap.objs.size+1)::us++ds).length=ps.length:=by
  have e:=r2.length;rw [F.len _ _ _ _ J] at e;exact e.symm
 refine Sh (yc (f:=f) I.UQ M.makes M.init (beq_iff_eq.mp M.fn) (Qt (F.run _ X.stack _ _ {OH (s.heap.objs.size+1)::us,[]} (OH (s.heap.objs.size+1)::(us++ds)) _ _ E (hr.make C us [])
  (G.ew.make C us []) (U _ (OH (s.heap.objs.size+1)::us) G.UQ hl) r2 J) λr s' z=>?_))
 cases r with
 | error e=>exact hx Go σ _ _ e s' G z
 | ok fl =>
  cases fl with
  | ret u =>
   obtain ⟨v,H',Z,W,S,O⟩:=G.after z;subst S;exact {W,{V.ref (s.heap.objs.size+1),H',Z,rfl,O}}
  | next=>exact False.elim z
  | brk=>exact False.elim z
  | cont=>exact False.elim z
theorem LC(M:Mk X.K C f)(F:zq X.prog X.w X.K X.mg X.base CX cm k f fd ps sp)(hr:zE cm (k+1) X.A)(J:Gl X x)(U:X.mg x=some (.ref C))(O:br X.K fd ps ds)(hd:zu Zh ds)(hx:eV CX X E)
  (ha:PA X (e::es) t) (S:'g'=false:=by decide) (he:OV (e::es) X.env=(false,PH e X.env)::OV es X.env:=by rfl) (G:(Qz pos (OV es X.env)).any (·.1)=false:=by rfl) :
  PE X (.Call (.Name x p) (e::es) [] pos) (v3 C sp Zh E t):=by
 intro Go s σ H Q I h;refine PM (di I J U ?_ S);refine SX (h₀:=X.base) I.ok.mod.eE M.kp (thn (ha pos Go s σ H _ I h) λus s1=>x5e λvs H1 z r q=>{z.UQ,?_}) he G;exact yB M F hr O hd hx z r q
theorem CQ(M:Mk X.K C f)(F:zq X.prog X.w X.K X.mg X.base CX cm k f fd ps sp)(hr:zE cm (k+1) X.A)(z:Gl X x)(G:X.mg x=some (.ref C))(O:br X.K fd ps ds)(hd:zu Zh ds)(hx:eV CX X E)
  (J:'g'=false:=by decide):PE X (.Call (.Name x p) [] [] pos) (v3 C sp Zh E bV):=by
 intro Go s σ H Q I h;refine PM (di I z G ?_ J);exact callWith_K0 I.UQ M.kp (yB (us:=[]) M F hr O hd hx I .nil h)
end
structure zx(N P:List Str)(sc:Scope):Prop where
 kind:sc.kind = .function
 co:sc.isCoroutine=false
 gen:sc.isGenerator=false
 nd:N.Nodup
 pre:N.take P.length=P
 par:∀x∈P,sc.names.lookup x=some .local\/sc.names.lookup x=some .cell
 eV:∀y∈sc.names,y.2≠.free
theorem xT{kindOf:Str->Option PR}:∀{binds:List (Str×Value)}{m:Str->Option Value},(∀v,(x,v)∉binds)->bindL kindOf binds m x=m x
 | [],_,_=>rfl
 | (n,v)::r,m,h=>by
  unfold bindL;rw [xT λw hw=>h w (Oz _ hw)];split
  .have:x≠n:=by rintro rfl;exact h v OI
   simp [this]
  .rfl
theorem An{kindOf:Str->Option PR}:∀{binds:List (Str×Value)}{m:Str->Option Value},(∀v,(x,v)∉binds)->bindC kindOf binds m x=m x
 | [],_,_=>rfl
 | (n,v)::r,m,h=>by
  unfold bindC;rw [An λw hw=>h w (Oz _ hw)];split
  .rfl
  .have:x≠n:=by rintro rfl;exact h v OI
   simp [this]
theorem Ak{kindOf:Str->Option PR}:∀{P:List Str}{vs:List Value}{i:Nat}{m:Str->Option Value},P.Nodup->P[i]?=some x->vs[i]?=some v->kindOf x=some .local ->
  bindL kindOf (P.zip vs) m x=some v
 | [],_,_,_,_,h,_,_=>by simp at h
 | _::_,[],_,_,_,_,h,_=>by simp at h
 | p::P,w::vs,0,m,nd,h1,h2,z=>by
  simp at h1 h2;subst h1;subst h2;show bindL kindOf ((p,w)::P.zip vs) m p=_;unfold bindL;rw [xT λv hv=>(RV.mp nd).1 (of_mem_zip hv).1,if_pos z];simp
 | p::P,w::vs,i+1,m,nd,h1,h2,z=>by
  show bindL kindOf ((p,w)::P.zip vs) m x=_;unfold bindL;exact Ak (i:=i) (RV.mp nd).2 (by simpa using h1) (by simpa using h2) z
theorem yy{kindOf:Str->Option PR}:∀{P:List Str}{vs:List Value}{i:Nat}{m:Str->Option Value},P.Nodup->P[i]?=some x->vs[i]?=some v->kindOf x≠some .local ->
  bindC kindOf (P.zip vs) m x=some v
 | [],_,_,_,_,h,_,_=>by simp at h
 | _::_,[],_,_,_,_,h,_=>by simp at h
 | p::P,w::vs,0,m,nd,h1,h2,z=>by
  simp at h1 h2;subst h1;subst h2;show bindC kindOf ((p,w)::P.zip vs) m p=_;unfold bindC;rw [An λv hv=>(RV.mp nd).1 (of_mem_zip hv).1,if_neg z];simp
 | p::P,w::vs,i+1,m,nd,h1,h2,z=>by
  show bindC kindOf ((p,w)::P.zip vs) m x=_;unfold bindC;exact yy (i:=i) (RV.mp nd).2 (by simpa using h1) (by simpa using h2) z
noncomputable def start(N:List Str)(vs:List V):St:=vs.map some++PZ (N.length-vs.length) none
noncomputable def bF(CX:CXT)(cm:Bool)(P:OF)(w:OS)(K:Ow)(mg:Str->Option Value)(base:Heap)(N:List Str)(qual:Str)(scope:Scope)(f:Addr)(cd:Value)(A:OQ)(outer:List Env)(s:KE)(H:Hp)(E:XK):Cx where
 prog:=P
 w:=w
 K:=K
 mg:=mg
 base:=base
 A:=A.deeper (QR qual scope s.heap.objs.size f cd)
 N:=N
 s₀:=s
 H₀:=H
 env:=QR qual scope s.heap.objs.size f cd
 outer:=outer
 stack:=QR qual scope s.heap.objs.size f cd::outer
 ex:=[]
 calm:=cm
 fn:=λ_=>true
 pn:=[]
 xe:=λe s'=>OE (OK P w) (A.deeper (QR qual scope s.heap.objs.size f cd)) (leaving (QR qual scope s.heap.objs.size f cd) e) (λ_ z=>CX outer H s E e z) (λF z=>CX outer H s E F z) s'
theorem xI{sc:Scope}(h:sc.names.lookup x=some .cell):∃c,(Qv n sc.names []).lookup x=some c:=by
 have q:=cellsFrom_some sc.names n [] (.inl h);exact Ti.mp q
theorem x9{K:Ow}(S:zx N ps scope)(hd:cm=true->A.handled=none)(F:fT P w K mg base A outer s H)(hl:vs.length=ps.length)(r:zu vs us)(x:InCallC s s.heap.objs.size (bindL (QR qual scope s.heap.objs.size f cd).kindOf (ps.zip us) λ_=>none) (Qv (s.heap.objs.size+1) scope.names []) (bindC (QR qual scope s.heap.objs.size f cd).kindOf (ps.zip us) λ_=>none) s1):
  Inv (bF CX cm P w K mg base N qual scope f cd A outer s H E) [] (start N vs) H s1:=by
 have Yt:ps.length<=N.length:=by have:=congrArg R8 S.pre;rw [Qx] at this;lia
 obtain ⟨h1,tk,rfl,W⟩:=x.done;have J:∀b:Addr,b∉(bF CX cm P w K mg base N qual scope f cd A outer s H E).ex:=λb z=>absurd (show b∈([]:List Addr) from z) 'z';refine {{F.mod,S.kind,rfl,rfl,Ov _,λy z c h1 h2=>?_,λy G=>?_,λy c _ h=>?_,hd,OQ.frames_deeper F.frames,.inr {rfl,rfl},λb z=>absurd z (J b),F.bs,F.ea,λb _ _=>J b,λb z=>absurd z (J b),F.Vl,F.eF},
  rfl,F.bare,Un.kept W,{_,x.toInCall.ns,λi y v h1 h2 h3=>?_},λy c h=>{_,x.cell y c h},F.hok.fresh (Ov _),λy c h=>?_,λp hp=>absurd (show p∈([]:List (Addr×Obj)) from hp) 'z',F.hok.kept W,?_,F.hdk}
 .exact name_of_addr x.apart (P4 h1) (P4 h2)
 .have G:scope.names.lookup y=some .cell\/scope.names.lookup y=some .free:=G;rcases G with G|G
  .exact xI G
  .exact absurd rfl (S.eV _ (P4 G))
 .exact Sa (x.above y c (P4 h))
 .have hi:i<vs.length:=by
   unfold start at h2;by_cases hi:i<vs.length
   .exact hi
   .rw [RJ (by simpa using hi)] at h2;rw [List.getElem?_replicate] at h2;split at h2<;>cases h2
  have ha:vs[i]?=some v:=by
   unfold start at h2;rw [List.getElem?_append_left (by simpa using hi),O0] at h2;cases e:vs[i]? with
   | none=>rw [e] at h2;cases h2
   | some a=>rw [e] at h2;cases h2;rfl
  obtain ⟨u,U,Z⟩:=r.get ha;have hp:ps[i]?=some y:=by
   rw [<- S.pre,List.getElem?_take_of_lt 'l'];exact h1
  have O:ps.Nodup:=by rw [<- S.pre];exact S.nd.sublist (List.take_sublist _ _)
  refine {u,Z,?_};rcases S.par y (Pr hp) with k|k
  .exact .inl {k,Ak O hp U k}
  .obtain ⟨c,e⟩:=xI (n:=s.heap.objs.size+1) k;refine .inr {.inl k,c,e,?_};have q:=x.cell y c e;rw [yy O hp U (by show scope.names.lookup y≠_;rw [k];decide)] at q;exact q
 .exact F.hok.fresh (Sa (x.above y c (P4 h)))
 .unfold start;show _=N.length;rw [Ph,OA,List.length_replicate];lia
theorem j7{K:Ow}{k:Nat}{dV kV Yd pm F ct oc:Value}(lk:K.lookup f=some {oc,od,.func (fnOf name qual ZY O scope dV kV Yd pm an F ct),W8})(hcd:codeIn K F qual=true)(S:zx N ps scope)(len:∀vs H Q E,sp vs H Q E->vs.length=ps.length)(Zb:∀(A:OQ)(outer:List Env)(s:KE)(H:Hp)(vs:List V)(Q:VK)(E:XK),zE cm k (A.deeper (QR qual scope s.heap.objs.size f F))->sp vs H Q E ->
   ∃t,PSs (bF CX cm P w K mg base N qual scope f F A outer s H E) O t/\t { nx:=λ_ H'=>Q .non H',rt:=Q } (start N vs) H):
  zq P w K mg base CX cm (k+1) f (fnOf name qual ZY O scope dV kV Yd pm an F ct) ps sp:=by
 refine {len,λA outer s H args us vs Q E hr G hb r Xk=>?_};have hl:=len _ _ _ _ Xk;have KX:K.In s.heap:=G.mod.eE.keeps λb o e=>(G.bs b o e).1;have Z:s.heap.NoLimit:=G.mod.nolimit.keeps λb o e=>(G.bs b o e).1;have Yl:∀y∈ps.zip us,scope.names.lookup y.1=some .local\/(scope.names.lookup y.1=some .cell/\((Qv (s.heap.objs.size+1) scope.names []).lookup y.1).isSome=true):=λ⟨n,v⟩ hy=>by
  rcases S.par n (of_mem_zip hy).1 with q|q
  .exact .inl q
  .exact .inr {q,cellsFrom_some _ _ _ (.inl q)}
 refine codeAny_call_function hr.depth (KX _ _ lk) rfl S.co S.gen rfl (PySem.W.codeRec_of KX hcd) (hb _ _ _ _ ?_);refine wpAny_newFunctionEnv_cells S.kind Yl λenv he s1 x=>?_;subst he;refine {Z.keeps x.toInCall.keep,codeAny_func ?_};obtain ⟨t,ht,hq⟩:=Zb A outer s H vs Q E (hr.deeper _) Xk;have I:Inv (bF CX cm P w K mg base N qual scope f F A outer s H E) [] (start N vs) H s1:=x9 S hr.hd G hl r x;refine OZ (ht [] s1 (start N vs) H _ I hq) (λfl s' hs=>?_) λe s' hs=>hs;have Y7:∀{z:St}{H':Hp}{v:V}{u:Value},Inv (bF CX cm P w K mg base N qual scope f F A outer s H E) [] z H' s'->zp v u->Q v H'->CE outer P w H s Q u s' :=
  λ{z H' v u} J U q=>⟨v,H',J.os,J.bare,J.base,J.hok,U,q⟩
 cases fl with
 | ret u =>
  obtain ⟨v,z,H',J,U,q⟩:=hs;exact Y7 J U q
 | next =>
  obtain ⟨z,H',J,q⟩:=hs;exact Y7 (v:=V.non) (u:=Pj) J rfl q
 | brk =>
  obtain ⟨_,_,_,q⟩:=hs;exact False.elim q
 | cont =>
  obtain ⟨_,_,_,q⟩:=hs;exact False.elim q
section
variable {X:Cx}{x:Str}{p pos:Pos}{e:OU}{es:List OU}{t:TA}{id T:String}{r:List V->Hp->VK->Prop}
def tCB(r:List V->Hp->VK->Prop)(t:TA):TE:=λσ H Q=>t σ H λvs H1=>r vs H1 Q
theorem C1(O:zY X (.builtin id) r)(G:Gl X x)(U:X.mg x=none)(hv:Q4 x=some (.builtin id))(ha:PA X (e::es) t)(z:x≠"__name__":=by decide)(S:'g'=false:=by decide)
  (he:OV (e::es) X.env=(false,PH e X.env)::OV es X.env:=by rfl) (F:(Qz pos (OV es X.env)).any (·.1)=false:=by rfl):PE X (.Call (.Name x p) (e::es) [] pos) (tCB r t):=by
 intro Go s σ H Q I h;refine PM (fW I G U hv ?_ z S);exact PyProof.Rows.callWith_builtin1 (thn (ha pos Go s σ H _ I h) λus s1=>x5e λvs H1 J r1 q1=>O Go s1 σ H1 vs us Q J r1 q1) he F
theorem LR(O:zY X (.type T) r)(G:Gl X x)(U:X.mg x=none)(hv:Q4 x=some (.type T))(ha:PA X (e::es) t)(z:x≠"__name__":=by decide)(S:'g'=false:=by decide)
  (he:OV (e::es) X.env=(false,PH e X.env)::OV es X.env:=by rfl) (F:(Qz pos (OV es X.env)).any (·.1)=false:=by rfl):PE X (.Call (.Name x p) (e::es) [] pos) (tCB r t):=by
 intro Go s σ H Q I h;refine PM (fW I G U hv ?_ z S);exact Rw (thn (ha pos Go s σ H _ I h) λus s1=>x5e λvs H1 J r1 q1=>O Go s1 σ H1 vs us Q J r1 q1) he F
end
end L2
namespace HT
open PySem PyProof.Rows
section
variable {prog:OF}{w:OS}{A:OQ}{E:Value->KE->Prop}{s:KE}
theorem cat_tup{t b:Addr}(ht:IsTup s.heap t vs.toArray)(hb:IsTup s.heap b ws.toArray)(hv:vs≠[])(h1:ws=[]->Q (.ref t) s)(h2:ws≠[]->Q (.ref s.heap.objs.size) { s with heap:=s.heap.push { cls:=.type "tuple",data:=.seq (vs++ws).toArray } })(hsz:vs.length+ws.length<=sizeLine):OE (OK prog w) A (QF .Add (.ref t) (.ref b)) Q E s:=by
 obtain ⟨⟨cls,dd,data,sl⟩,S,Z,n,hd⟩:=id ht;obtain ⟨⟨U,F,data2,J⟩,z,O,W,G⟩:=id hb;simp only at Z hd O G;subst Z hd O G;have e:vs.toArray++ws.toArray=(vs++ws).toArray:=by simp
 by_cases hw:ws=[]
 .exact concat_meets {_,S,rfl} {_,z,rfl} noFill_tuple_add seq_tuple_add slot_tuple_add entry_tuple_add (args_tuple_add_2 _ _)
   (tuple_addW1 t b vs.toArray ws.toArray n W dd F sl J (by simpa using hv) (by simp [hw])) {S,z,h1 hw}
 .refine concat_meets {_,S,rfl} {_,z,rfl} noFill_tuple_add seq_tuple_add slot_tuple_add entry_tuple_add (args_tuple_add_2 _ _)
   (tuple_addW2 t b vs.toArray ws.toArray n W dd F sl J (by simpa using hv) (by simpa using hw) (by rw [OR,OR];exact hsz)) {S,z,?_}
  rw [e];exact h2 hw
noncomputable def sIx(n d:Nat):Option Int->Nat
 | none=>d
 | some v=>if v<0 then (v+(n:Int)).toNat else min v.toNat n
theorem Nd(n d:Nat)(hd:d<=n)(o:Option Int):sIx n d o<=n:=by
 cases o with
 | none=>exact hd
 | some v =>
  show (if v<0 then (v+(n:Int)).toNat else min v.toNat n)<=n;by_cases hv:v<0
  .rw [if_pos hv];lia
  .rw [if_neg hv];exact Nat.min_le_right _ _
theorem xO(v:Int)(n d:Nat):(if v<0 then max (v+(n:Int)) 0 else min v (n:Int))=((sIx n d (some v):Nat):Int):=by
 show (if v<0 then max (v+(n:Int)) 0 else min v (n:Int))=(((if v<0 then (v+(n:Int)).toNat else min v.toNat n):Nat):Int);by_cases hv:v<0
 .simp only [if_pos hv];lia
 .simp only [if_neg hv];lia
theorem N2(lo hi:Option Int)(n:Nat):OO.Slice.sliceAdjust lo hi 1 (n:Int)=(((sIx n 0 lo:Nat):Int),((sIx n n hi:Nat):Int)):=by
 have h1 : ¬ ((1:Int)<0):=by lia
 unfold OO.Slice.sliceAdjust;simp only [h1,if_false];refine Prod.ext ?_ ?_
 .cases lo with
  | none=>rfl
  | some v=>exact xO v n 0
 .cases hi with
  | none=>rfl
  | some v=>exact xO v n n
theorem FV(i j:Nat):OO.Slice.slicePlaces (i:Int) (j:Int) 1=j-i:=by
 unfold OO.Slice.slicePlaces;have h1:(1:Int)>0:=by lia
 simp only [h1,if_true,Int.ediv_one];split<;>lia
theorem wY{o:Option Int}(p:S7 v o)(h:Q o s):OE (OK prog w) A (OO.Slice.slicePartIndex v) Q E s:=by
 cases p with
 | none=>exact slicePart_none h
 | int i t=>exact slicePart_int h
theorem vD{sl:Addr}{J G:Value}{lo hi:Option Int}{n:Nat}{Q:Int×Int×Nat->KE->Prop}(hs:s.heap.IsSliceOf sl J G .none)(pl:S7 J lo)(S:S7 G hi)
  (h:Q (((sIx n 0 lo:Nat):Int),1,sIx n n hi-sIx n 0 lo) s):OE (OK prog w) A (OO.Slice.sliceApplied (.ref sl) (pure (n:Int))) Q E s:=by
 obtain ⟨os,F,O,z⟩:=id hs;unfold OO.Slice.sliceApplied OO.Slice.sliceFields;refine we (we (Pk F z (x:=J) rfl (we (Pk F z (x:=G) rfl (we (Pk F z (x:=.none) rfl (Ot ?_)))))));refine we (slicePart_none ?_);show OE _ _ (if ((1:Int)==0)=true then _ else _) _ _ s;rw [if_neg 'd'];refine we (wY pl (we (wY S (we (Ot ?_)))));show OE _ _ (match OO.Slice.sliceAdjust lo hi 1 (n:Int) with|(lo,hi)=>pure (lo,(1:Int),OO.Slice.slicePlaces lo hi 1)) _ _ s;rw [N2 lo hi n];show OE _ _ (pure (((sIx n 0 lo:Nat):Int),(1:Int),OO.Slice.slicePlaces ((sIx n 0 lo:Nat):Int) ((sIx n n hi:Nat):Int) 1)) _ _ s;rw [FV];exact Ot h
theorem Mc(xs:Array Value)(i k:Nat):((Qh k).filterMap λ(m:Nat)=>xs[((i:Int)+(m:Int)*1).toNat]?).toArray=((xs.toList.drop i).take k).toArray:=by
 have e:(λ(m:Nat)=>xs[((i:Int)+(m:Int)*1).toNat]?)=λm=>xs[i+m]?:=by
  funext m;have:((i:Int)+(m:Int)*1).toNat=i+m:=by lia
  rw [this]
 rw [e];have:=pick_run xs i k;rw [List.filterMap_map] at this;have z:((λx=>xs[x]?)∘λx=>i+x)=λm=>xs[i+m]?:=rfl;rw [z] at this;rw [this]
theorem getItem_tuple_cut{t sl:Addr}{W:Value}{lo hi:Option Int}(F:IsTup s.heap t items)(hs:s.heap.IsSliceOf sl W U .none)(pl:S7 W lo)(pu:S7 U hi)(hw : ¬ (sIx items.size 0 lo=0/\sIx items.size items.size hi=items.size))(h:Q (.ref s.heap.objs.size) { s with heap:=s.heap.push { cls:=.type "tuple",data:=.seq ((items.toList.drop (sIx items.size 0 lo)).take (sIx items.size items.size hi-sIx items.size 0 lo)).toArray } })(hsz:items.size<=sizeLine):OE (OK prog w) A (Ub (.ref t) (.ref sl)) Q E s:=by
 have z:sizeOk (.seq ((items.toList.drop (sIx items.size 0 lo)).take (sIx items.size items.size hi-sIx items.size 0 lo)).toArray):=by
  show ((items.toList.drop (sIx items.size 0 lo)).take (sIx items.size items.size hi-sIx items.size 0 lo)).toArray.size<=sizeLine;rw [OR,Qx,T4,Qm];lia
 have hj:sIx items.size items.size hi<=items.size:=Nd _ _ (Ov _) hi;obtain ⟨os,G,J,Z⟩:=id hs;have S:s.TypeIs (.ref sl) "slice":=⟨os,G,J⟩;unfold Ub
 try with_reducible refine OT ?_
 first|refine we (Ot ?_)|skip
 refine we (wpAny_sequenceKey F.typeIs 'd' ?_);refine we (Qp (name:=Ox "__getitem__") F.typeIs PQ
  (PF PQ F.typeIs entry_tuple_getitem ?_ (args_tuple_getitem _ _)))
 show OE _ _ (OO.Tuple.tupleItemsOf (.ref t)>>=_) _ _ s;refine we (tupleItemsOf_ F ?_);refine we (R4 S ?_);rw [if_pos 'd'];refine we (vD hs pl pu ?_);have O : ¬ ((((sIx items.size 0 lo:Nat):Int)==0&&(1:Int)==1&&(sIx items.size items.size hi-sIx items.size 0 lo)==items.size)=true):=by
  intro q;rw [O1,O1] at q;have q1:((sIx items.size 0 lo:Nat):Int)=0:=eq_of_beq q.1.1;have q2:sIx items.size items.size hi-sIx items.size 0 lo=items.size:=eq_of_beq q.2;exact hw {'l','l'}
 show OE _ _ (if (((sIx items.size 0 lo:Nat):Int)==0&&(1:Int)==1&&(sIx items.size items.size hi-sIx items.size 0 lo)==items.size)=true then _ else _) _ _ s;rw [if_neg O,Mc]
 first
  | exact we (m:=OO.Tuple.tupleExact _) (Pm (Ot {_,rfl,Ot h}) z)
  | exact we (m:=OO.Tuple.tupleExact _) (Pm (we (Ot (Ot {_,rfl,Ot h}))) z)
  | exact we (we (m:=OO.Tuple.tupleExact _) (Pm (Ot (Ot {_,rfl,Ot h})) z))
  | exact we (we (m:=OO.Tuple.tupleExact _) (Pm (Ot {_,rfl,Ot h}) z))
end
end HT
namespace L2
open PySem PySem.Spec PyProof.Rows
abbrev TO:=St->Hp->(Option Int->Hp->Prop)->Prop
def PO(X:Cx)(e:Option OU)(t:TO):Prop :=
 ∀(Go:List (Addr×Obj))(s:KE)(σ:St)(H:Hp)(Q:Option Int->Hp->Prop),Inv X Go σ H s->t σ H Q ->
  OE 'c' X.A (evalPart e X.env) (λu s'=>∃o H',Inv X Go σ H' s'/\S7 u o/\Q o H') X.xe s
def Ah:TO:=λ_ H Q=>Q none H
def t8(t:TE):TO:=λσ H Q=>t σ H λx H1=>∃i,x = .int i/\Q (some i) H1
section
variable {X:Cx}{e:OU}{te:TE}{lo hi:Option OU}{tl th:TO}{pos p2:Pos}
theorem jE:W (PO X none Ah):=by
 refine {?_};intro Go s σ H Q I h;rw [evalPart_none];exact Ot {none,H,I,.none,h}
theorem iG(h:W (PE X e te)):W (PO X (some e) (t8 te)):=by
 refine {?_};have h:=h.h;intro Go s σ H Q I hw;rw [evalPart_some];refine thn (h Go s σ H _ I hw) λu s1=>x5e λx H1 z r1 q1=>?_;obtain ⟨i,rfl,q⟩:=q1;obtain ⟨t,rfl⟩:=r1;exact {some i,H1,z,.int i t,q}
def SlR(X:Cx)(r:V->Option Int->Option Int->Hp->VK->Prop):Prop :=
 ∀(Go:List (Addr×Obj))(s:KE)(σ:St)(H:Hp)(x:V)(v F z:Value)(lo hi:Option Int)(sl:Addr)(Q:VK),Inv X Go σ H s->zp x v->s.heap.IsSliceOf sl F z .none->S7 F lo->S7 z hi->r x lo hi H Q ->
  ∃T id,typeLookup (.type T) "__getitem__"=pure (some (.builtin id))/\s.TypeIs v T/\OE 'c' X.A (Ub v (.ref sl)) (EP X Go σ Q) X.xe s
theorem SlR.or{r r':V->Option Int->Option Int->Hp->VK->Prop}(h:SlR X r)(h':SlR X r'):SlR X (λx lo hi H Q=>r x lo hi H Q\/r' x lo hi H Q):=by
 intro Go s σ H x v J z lo hi sl Q I G hs pl F q;rcases q with q|q
 .exact h Go s σ H x v J z lo hi sl Q I G hs pl F q
 .exact h' Go s σ H x v J z lo hi sl Q I G hs pl F q
def tSl(r:V->Option Int->Option Int->Hp->VK->Prop)(te:TE)(tl th:TO):TE:=λσ H Q=>te σ H λx H1=>tl σ H1 λl H2=>th σ H2 λu H3=>r x l u H3 Q
theorem i3{r:V->Option Int->Option Int->Hp->VK->Prop}(hr:SlR X r)(he:W (PE X e te))(hl:W (PO X lo tl))(J:W (PO X hi th)):W (PE X (.Subscript e (.Slice lo hi none p2) pos) (tSl r te tl th)):=by
 refine {?_};have he:=he.h;have hl:=hl.h;have J:=J.h;intro Go s σ H Q I h;refine Subscript_ (thn (he Go s σ H _ I h) λv s1=>x5e λx H1 Z r1 q1=>?_);refine wpAny_Slice (thn (hl Go s1 σ H1 _ Z q1) λG s2=>x5e λl H2 U pl q2=>thn (J Go s2 σ H2 _ U q2) λF z=>x5e λu H3 I3 pu O=>?_);rw [evalPart_none];refine Ot ?_;have I4:Inv X Go σ H3 { z with heap:=z.heap.push { cls:=.type "slice",data:=.fields #[G,F,.none] } }:=I3.kept (t':=z.toks) λb ob q=>Ou _ q;obtain ⟨T,id,hT,ht,S⟩:=hr Go { z with heap:=z.heap.push { cls:=.type "slice",data:=.fields #[G,F,.none] } } σ H3 x v G F l u z.heap.objs.size Q I4 r1 (Heap.IsSliceOf.new ..) pl pu O;show OE 'c' X.A (subscriptTail e (.Slice lo hi none p2) v (.ref z.heap.objs.size)) (EP X Go σ Q) X.xe { z with heap:=z.heap.push { cls:=.type "slice",data:=.fields #[G,F,.none] } };exact tail_any (ops:=[.ref z.heap.objs.size,v]) ht hT S (by with_unfolding_all rfl)
noncomputable def bX(xs:List V)(lo hi:Option Int):List V:=(xs.drop (HT.sIx xs.length 0 lo)).take (HT.sIx xs.length xs.length hi-HT.sIx xs.length 0 lo)
theorem AN(xs:List V)(lo hi:Option Int):(bX xs lo hi).length<=xs.length:=by
 unfold bX;rw [Qx,T4];lia
noncomputable def BZ(K:Ow):V->Option Int->Option Int->Hp->VK->Prop:=λx lo hi H Q=>∃a xs,x = .ref a/\SqT K H a xs /\
 ¬ (HT.sIx xs.length 0 lo=0/\HT.sIx xs.length xs.length hi=xs.length)/\∀p,H p=none->Q (.ref p) (upd H p (.tup (bX xs lo hi)))
theorem Fm:SlR X (BZ X.K):=by
 intro Go s σ H x v S O lo hi sl Q I G hs pl J h;obtain ⟨a,xs,rfl,hx,hw,q⟩:=h;cases G;obtain ⟨its,r,F,hz⟩:=I.tuple hx;have z:its.toArray.size=xs.length:=by rw [OR];exact r.length.symm
 refine {"tuple",_,PQ.lookup,F.typeIs,?_};refine HT.getItem_tuple_cut F hs pl J (by rw [z];exact hw) ?_ (by rw [z];exact hz);rw [z];refine {.ref s.heap.objs.size,_,I.laid (t':=s.toks) (o:=.tup (bX xs lo hi)) (λb ob q=>Ou _ q) (Ov _) ?_,rfl,q _ (I.hok.fresh (Ov _))};exact {Pt (AN xs lo hi) hz,_,(r.drop (HT.sIx xs.length 0 lo)).take (HT.sIx xs.length xs.length hi-HT.sIx xs.length 0 lo),IsTup.new _ _}
def Lz(K:Ow):R2:=λx y H Q=>∃a b xs ys,x = .ref a/\y = .ref b/\SqT K H a xs/\SqT K H b ys/\xs≠[]/\xs.length+ys.length<=sizeLine /\
 (ys=[]->Q (.ref a) H)/\(ys≠[]->∀p,H p=none->Q (.ref p) (upd H p (.tup (xs++ys))))
theorem zu.a8(r:zu xs us):us=[]↔xs=[]:=by
 cases r with
 | nil=>simp
 | cons _ _=>simp
theorem Gp:OpR X (QF .Add) (Lz X.K):=by
 intro Go s σ H x y v u Q I J F h;obtain ⟨a,b,xs,ys,rfl,rfl,ha,G,hx,hz,q1,S⟩:=h;cases J;cases F;obtain ⟨its,r1,O,_⟩:=I.tuple ha;obtain ⟨U,r2,p2,_⟩:=I.tuple G;refine HT.cat_tup O p2 (λz=>hx (r1.a8.mp z)) (λz=>{.ref a,H,I,rfl,q1 (r2.a8.mp z)}) (λz=>?_) (by rw [<- r1.length,<- r2.length];exact hz);refine {.ref s.heap.objs.size,_,I.laid (t':=s.toks) (o:=.tup (xs++ys)) (λb ob q=>Ou _ q) (Ov _) ?_,rfl,S (λw=>z (r2.a8.mpr w)) _ (I.hok.fresh (Ov _))};exact {by rw [Ph];exact hz,_,r1.append r2,IsTup.new _ _}
end
noncomputable def ixN(n:Nat)(i:Int):Option Nat:=if 0<=i then (if i<n then some i.toNat else none) else if -(n:Int)<=i then some (i+n).toNat else none
noncomputable def atI{α:Type}(xs:List α)(i:Int):Option α:=(ixN xs.length i).bind λj=>xs[j]?
theorem tN(h:ixN n i=some j):seqIndex? i n=some j/\j<n/\-(n:Int)<=i/\i<n:=by
 unfold ixN at h;by_cases z:0<=i
 .rw [if_pos z] at h;by_cases h1:i<n
  .rw [if_pos h1] at h;have e:i.toNat=j:=O6.inj h;exact {by rw [seqIndex_of z h1,e],'l','l',h1}
  .rw [if_neg h1] at h;cases h
 .rw [if_neg z] at h;by_cases h1 : -(n:Int)<=i
  .rw [if_pos h1] at h;have e:(i+n).toNat=j:=O6.inj h;exact {by rw [seqIndex_neg 'l' h1,e],'l',h1,'l'}
  .rw [if_neg h1] at h;cases h
theorem pH{α:Type}{xs:List α}{v:α}(h:atI xs i=some v):∃j,seqIndex? i xs.length=some j/\xs[j]?=some v/\j<xs.length/\-(xs.length:Int)<=i/\i<xs.length:=by
 unfold atI at h;cases e:ixN xs.length i with
 | none=>rw [e] at h;cases h
 | some j =>
  rw [e] at h;obtain ⟨h1,h2,h3,h4⟩:=tN e;exact ⟨j,h1,h,h2,h3,h4⟩
theorem gP{α:Type}{xs:List α}{j:Nat}{v:α}(h:xs[j]?=some v):atI xs (j:Int)=some v:=by
 have z:j<xs.length:=(OJ.mp h).1;have e:ixN xs.length (j:Int)=some j:=by
  unfold ixN;rw [if_pos 'l',if_pos 'l'];simp
 unfold atI;rw [e];exact h
def Hq(b:OU):Prop:=∀o i,subscripted b false o i=operate [o,i] (Ub o i)
def IxR(X:Cx)(r:R2):Prop :=
 ∀(Zt z:OU)(Go:List (Addr×Obj))(s:KE)(σ:St)(H:Hp)(x y:V)(v u:Value)(Q:VK),Inv X Go σ H s->zp x v->zp y u->r x y H Q ->
  subscripted z false v u=operate [v,u] (Ub v u)->OE 'c' X.A (subscriptTail Zt z v u) (EP X Go σ Q) X.xe s
def MtR(X:Cx)(id:String)(r:V->List V->Hp->VK->Prop):Prop :=
 ∀(Go:List (Addr×Obj))(s:KE)(σ:St)(H:Hp)(x:V)(xs:List V)(v:Value)(us:List Value)(Q:VK),Inv X Go σ H s->zp x v->zu xs us->r x xs H Q ->
  OE 'c' X.A (call (.builtin id) (v::us)) (EP X Go σ Q) X.xe s
section
variable {X:Cx}{a b:OU}{ta tb:TE}{pos:Pos}
theorem IxR.or{r r':R2}(h:IxR X r)(h':IxR X r'):IxR X (λx y H Q=>r x y H Q\/r' x y H Q):=by
 intro Zt F Go s σ H x y v u Q I G z q hs;rcases q with q|q
 .exact h Zt F Go s σ H x y v u Q I G z q hs
 .exact h' Zt F Go s σ H x y v u Q I G z q hs
theorem aW{r:R2}(hr:IxR X r)(ha:W (PE X a ta))(z:W (PE X b tb))(hs:Hq b):W (PE X (.Subscript a b pos) (tOp r ta tb)):=by
 refine {?_};have ha:=ha.h;have z:=z.h;intro Go s σ H Q I h;exact Subscript_ (mV ha z I h λv u s2 x y H2 G J F q=>hr a b Go s2 σ H2 x y v u Q G J F q (hs _ _))
noncomputable def vh(K:Ow):R2:=λx y H Q=>∃p xs i v,x = .ref p/\y = .int i/\SqL K H p xs/\atI xs i=some v/\Q v H
noncomputable def yP(K:Ow):R2:=λx y H Q=>∃p xs i v,x = .ref p/\y = .int i/\SqT K H p xs/\atI xs i=some v/\Q v H
noncomputable def Az:R2:=λx y H Q=>∃z i c,x = .str z/\y = .int i/\z.length<=sizeLine/\atI z.cps.toList i=some c/\Q (.str {#[c]}) H
theorem vP:IxR X (vh X.K):=by
 intro Zt YM Go s σ H x y v u Q I rx S h hs;obtain ⟨p,xs,i,z,rfl,rfl,Z,he,q⟩:=h;cases rx;obtain ⟨t,rfl⟩:=S;obtain ⟨its,r,pl,hz⟩:=I.list Z;obtain ⟨j,h1,h2,h3,h4,W⟩:=pH he;obtain ⟨w,J,U⟩:=r.get h2;have hl:=r.length;have hn:=fZ;have O:EP X Go σ Q w s:=⟨z,H,I,U,q⟩;by_cases G:0<=i
 .have F:i.toNat=j:=by
   rw [seqIndex_of G W] at h1;exact O6.inj h1
  exact item_listR pl.isList G 'l' (by rw [F];simpa using J) O hs
 .have F:(i+(its.toArray.size:Int)).toNat=j:=by
   rw [seqIndex_neg 'l' h4] at h1;rw [OR,<- hl];exact O6.inj h1
  exact Rg (x:=w) pl.isList.typeIs slot_list_getitem.lookup
   (wpAny_getItem_list_neg (Q:=λr s'=>r=w/\EP X Go σ Q r s') pl.isList 'l' (by rw [OR]<;>lia) 'l' (by rw [F];simpa using J) {rfl,O}) hs
theorem KI:IxR X (yP X.K):=by
 intro Zt YM Go s σ H x y v u Q I U F h hs;obtain ⟨p,xs,i,z,rfl,rfl,S,he,q⟩:=h;cases U;obtain ⟨t,rfl⟩:=F;obtain ⟨its,r,pl,hz⟩:=I.tuple S;obtain ⟨j,h1,h2,h3,h4,Z⟩:=pH he;obtain ⟨w,J,O⟩:=r.get h2;have hl:=r.length;have W:=fZ;have G:EP X Go σ Q w s:=⟨z,H,I,O,q⟩;exact Rg (x:=w) pl.typeIs SU.lookup
  (getItem_tuple (j:=j) (Q:=λr s'=>r=w/\EP X Go σ Q r s') pl 'l' 'l' (by rw [OR,<- hl];exact h1) (by simpa using J) {rfl,G}) hs
theorem FL:IxR X Az:=by
 intro Zt W Go s σ H x y v u Q I S F h hs;obtain ⟨z,i,c,rfl,rfl,hz,he,q⟩:=h;obtain ⟨t,rfl⟩:=S;obtain ⟨t',rfl⟩:=F;obtain ⟨j,h1,h2,h3,h4,J⟩:=pH he;have hl:z.cps.toList.length=z.length:=by simp [Str.length]
 rw [hl] at h1 h4 J;have U:=fZ;exact tail_any (Si s z t) slot_str_getitem.lookup (getItem_str (c:=c) (by
  have O:decide (i < -(2 ^ 63:Int))=false:=decide_eq_false 'l';have G:decide (i ≥ 2 ^ 63)=false:=decide_eq_false 'l';rw [O,G,Sy]) (by rw [h1];simpa using h2) {.str {#[c]},H,I.tok _,{_,rfl},q}) hs
noncomputable def rIx(K:Ow):R2:=λx y H Q=>vh K x y H Q\/yP K x y H Q\/Az x y H Q
theorem Eo:IxR X (rIx X.K):=vP.or (KI.or FL)
theorem Ie(its:List Value)(n j:Nat)(u:Value):Um (·.setIfInBounds j u) { cls:=.type "list",data:=.seq its.toArray n }={ cls:=.type "list",data:=.seq (its.set j u).toArray n }:=by
 simp [Um]
theorem Inv.lst{Go:List (Addr×Obj)}{σ:St}{H:Hp}{s:KE}{p:Addr}{xs:List V}(I:Inv X Go σ H s)(h:H p=some (.lst xs)) :
  ∃(its:List Value)(n:Nat),zu xs its/\s.heap.get? p=some { cls:=.type "list",data:=.seq its.toArray n }/\xs.length<=sizeLine:=by
 obtain ⟨z,its,n,r,e⟩:=I.hok p _ h;exact ⟨its,n,r,e,z⟩
theorem Inv.eX{p:Addr}{its its':List Value}(I:Inv X Go σ H s)(h:H p=some (.lst xs))(F:s.heap.get? p=some { cls:=.type "list",data:=.seq its.toArray n })(hf:f { cls:=.type "list",data:=.seq its.toArray n }={ cls:=.type "list",data:=.seq its'.toArray z })(r:zu ys its')(hz:ys.length<=sizeLine)(t:Nat):
  Inv X Go σ (upd H p (.lst ys)) { s with heap:=s.heap.update p f,toks:=t }:=by
 have e:(s.heap.update p f).get? p=some { cls:=.type "list",data:=.seq its'.toArray z }:=by
  rw [Pq f F (by rw [hf]<;>rfl),hf]
 refine I.write (x:=p) (e:=p) (by rw [h];trivial) (.inl rfl) (λb u G q=>(OW _ _ (Pd G)).trans q) {_,e} ?_;exact ⟨hz,its',z,r,e⟩
noncomputable def oJ:V->V->V->Hp->(Hp->Prop)->Prop:=λo i v H Q=>∃p xs k j,o = .ref p/\i = .int k/\H p=some (.lst xs)/\ixN xs.length k=some j/\Q (upd H p (.lst (xs.set j v)))
theorem lA:o7 X oJ:=by
 intro Go s σ H o i v ov iv u Q I U O S h;obtain ⟨p,xs,k,j,rfl,rfl,hp,Z,q⟩:=h;cases U;obtain ⟨t,rfl⟩:=O;obtain ⟨its,n,r,F,hz⟩:=I.lst hp;obtain ⟨h1,h2,h3,h4⟩:=tN Z;have hl:=r.length;have hn:=fZ;have J:Inv X Go σ (upd H p (.lst (xs.set j v))) { s with heap:=s.heap.update p (Um (·.setIfInBounds j u)) } :=
  I.eX hp F (Ie its n j u) (r.set S j) (by rw [List.length_set];exact hz) s.toks
 by_cases G:0<=k
 .have z:k.toNat=j:=by
   rw [seqIndex_of G h4] at h1;exact O6.inj h1
  exact PySem.W.ki_setAt F G 'l' (by rw [OR,<- hl];exact h4) (by rw [z];exact {_,J,q})
 .have z:(k+(its.toArray.size:Int)).toNat=j:=by
   rw [seqIndex_neg 'l' h3] at h1;rw [OR,<- hl];exact O6.inj h1
  exact PySem.W.ki_setBack F 'l' (by rw [OR,<- hl];exact h3) 'l' (by rw [z];exact {_,J,q})
theorem JF(lo hi:Option Int)(n:Nat):(RZ lo hi none n).1=((HT.sIx n 0 lo:Nat):Int)/\(RZ lo hi none n).2.1=((HT.sIx n n hi:Nat):Int)/\(RZ lo hi none n).2.2=1:=by
 refine {?_,?_,rfl}
 .cases lo with
  | none=>simp [RZ,HT.sIx]
  | some i =>
   simp only [RZ,HT.sIx,getD_none,show (1:Int)>0 by decide,if_true];by_cases h:i<0
   .simp only [h,if_true]<;>lia
   .simp only [h,if_false]<;>lia
 .cases hi with
  | none=>simp [RZ,HT.sIx]
  | some i =>
   simp only [RZ,HT.sIx,getD_none,show (1:Int)>0 by decide,if_true];by_cases h:i<0
   .simp only [h,if_true]<;>lia
   .simp only [h,if_false]<;>lia
theorem Bz(its:List Value)(lo hi:Option Int):slicePick its.toArray lo hi none=((its.drop (HT.sIx its.length 0 lo)).take (HT.sIx its.length its.length hi-HT.sIx its.length 0 lo)).toArray:=by
 obtain ⟨h1,h2,h3⟩:=JF lo hi its.toArray.size;unfold slicePick;rw [h1,h2,h3];simp only [sliceRange_one,pick_run,OR]<;>rfl
noncomputable def Dy(K:Ow):V->Option Int->Option Int->Hp->VK->Prop:=λx lo hi H Q=>∃a xs,x = .ref a/\SqL K H a xs/\∀p,H p=none->Q (.ref p) (upd H p (.lst (bX xs lo hi)))
theorem HN:SlR X (Dy X.K):=by
 intro Go s σ H x v S O lo hi sl Q I G hs pl J h;obtain ⟨a,xs,rfl,hx,q⟩:=h;cases G;obtain ⟨its,r,z,hz⟩:=I.list hx;have F:=r.length;refine {"list",_,slot_list_getitem.lookup,z.isList.typeIs,?_};refine wpAny_getItem_list_slice z.isList hs pl J .none 'z' ?_ (by rw [OR]<;>lia);rw [Bz,<- F];refine {.ref s.heap.objs.size,_,I.laid (t':=s.toks) (o:=.lst (bX xs lo hi)) (λb ob q=>Ou _ q) (Ov _) ?_,rfl,q _ (I.hok.fresh (Ov _))};exact {Pt (AN xs lo hi) hz,_,0,(r.drop (HT.sIx xs.length 0 lo)).take (HT.sIx xs.length xs.length hi-HT.sIx xs.length 0 lo),ON _ rfl}
def ah:V->Bool
 | .non=>true
 | .bl _=>true
 | .int _=>true
 | .str _=>true
 | _=>false
noncomputable def eqV:V->V->Bool
 | .non,.non=>true
 | .bl a,.bl b=>a==b
 | .bl a,.int b=>(if a then 1 else 0)==b
 | .int a,.bl b=>a==(if b then 1 else 0)
 | .int a,.int b=>a==b
 | .str a,.str b=>a==b
 | _,_=>false
theorem ku(F:zp y u)(z:zp x v)(J:ah y=true)(G:ah x=true):SeqAt.EqAt A s u v (eqV y x):=by
 cases y with
 | non =>
  cases F;cases x with
  | non=>cases z;exact SeqAt.EqAt.same _
  | bl b=>cases z;exact SeqAt.EqAt.none_bool b
  | int b=>obtain ⟨t,rfl⟩:=z;exact SeqAt.EqAt.none_int b t
  | str b=>obtain ⟨t,rfl⟩:=z;exact SeqAt.EqAt.none_str b t
  | _=>exact absurd (show false=true from G) OP
 | bl a =>
  cases F;cases x with
  | non=>cases z;exact SeqAt.EqAt.bool_none a
  | bl b=>cases z;exact SeqAt.EqAt.bool_bool a b
  | int b=>obtain ⟨t,rfl⟩:=z;exact SeqAt.EqAt.bool_int a b t
  | str b=>obtain ⟨t,rfl⟩:=z;exact SeqAt.EqAt.bool_str a b t
  | _=>exact absurd (show false=true from G) OP
 | int a =>
  obtain ⟨t',rfl⟩:=F;cases x with
  | non=>cases z;exact SeqAt.EqAt.int_none a t'
  | bl b=>cases z;exact SeqAt.EqAt.int_bool a t' b
  | int b=>obtain ⟨t,rfl⟩:=z;exact SeqAt.EqAt.int_int a t' b t
  | str b=>obtain ⟨t,rfl⟩:=z;exact SeqAt.EqAt.int_str a t' b t
  | _=>exact absurd (show false=true from G) OP
 | str a =>
  obtain ⟨t',rfl⟩:=F;cases x with
  | non=>cases z;exact SeqAt.EqAt.str_none a t'
  | bl b=>cases z;exact SeqAt.EqAt.str_bool a t' b
  | int b=>obtain ⟨t,rfl⟩:=z;exact SeqAt.EqAt.str_int a t' b t
  | str b=>obtain ⟨t,rfl⟩:=z;exact SeqAt.EqAt.str_str a t' b t
  | _=>exact absurd (show false=true from G) OP
 | _=>exact absurd (show false=true from J) OP
noncomputable def eqU(x:V)(u:Value):Bool:=match u with
 | .none=>eqV .non x
 | .bool b=>eqV (.bl b) x
 | .int i _=>eqV (.int i) x
 | .str z _=>eqV (.str z) x
 | _=>false
theorem AW(r:zp y u)(f:ah y=true):eqU x u=eqV y x:=by
 cases y with
 | non=>cases r;rfl
 | bl b=>cases r;rfl
 | int i=>obtain ⟨t,rfl⟩:=r;rfl
 | str z=>obtain ⟨t,rfl⟩:=r;rfl
 | _=>exact absurd (show false=true from f) OP
theorem sZ(h:zu xs us)(f:xs.all ah=true):us.any (eqU x)=xs.any λy=>eqV y x:=by
 induction h with
 | nil=>rfl
 | cons r t z =>
  rw [TU,O1] at f;rw [Up,Up,AW r f.1,z f.2]
theorem pA(F:zp x v)(G:ah x=true):∀{xs:List V}{us:List Value},zu xs us->xs.all ah=true->∀u∈us,SeqAt.EqAt A s u v (eqU x u)
 | _,_,.nil,_=>λu z=>by cases z
 | y::xs,u::us,.cons r t,f=>λJ z=>by
  rw [TU,O1] at f;rcases OL.mp z with rfl|z
  .rw [AW r f.1];exact ku r F f.1 G
  .exact pA F G t f.2 J z
noncomputable def inV(x:V)(xs:List V):Bool:=xs.any λy=>eqV y x
noncomputable def rIn(K:Ow)(neg:Bool):R2:=λx y H Q=>∃p xs,y = .ref p/\(SqL K H p xs\/SqT K H p xs)/\ah x=true/\xs.all ah=true/\Q (.bl (if neg then !inV x xs else inV x xs)) H
theorem Ja:OpR X (PU .In) (rIn X.K false):=by
 intro Go s σ H x y v u Q I G J h;obtain ⟨p,xs,rfl,z,F,fs,q⟩:=h;cases J;rcases z with z|z
 .obtain ⟨its,r,pl,hz⟩:=I.list z;refine SeqAt.in_listAt (eqU x) pl.isList (λw hw=>pA G F r fs w (by simpa using hw)) {.bl _,H,I,rfl,?_};rw [show its.toArray.any (eqU x)=its.any (eqU x) by simp,sZ r fs];exact q
 .obtain ⟨its,r,pl,hz⟩:=I.tuple z;refine SeqAt.in_tupleAt (eqU x) pl (λw hw=>pA G F r fs w (by simpa using hw)) {.bl _,H,I,rfl,?_};rw [show its.toArray.any (eqU x)=its.any (eqU x) by simp,sZ r fs];exact q
theorem oF:zY X (.builtin "len") (λxs H Q=>∃p ys,xs=[.ref p]/\(SqL X.K H p ys\/SqT X.K H p ys)/\Q (.int ys.length) H):=by
 intro Go s σ H xs us Q I r h;obtain ⟨p,ys,rfl,z,q⟩:=h;obtain ⟨u,rfl,G⟩:=cT r;cases G;have J:=fZ;rcases z with z|z
 .obtain ⟨its,r',pl,hz⟩:=I.list z;have F:=r'.length;exact Calls.call_len_list pl.isList (by simp only [OR]<;>lia) {.int ys.length,H,I.tok _,{s.toks+1,by rw [OR,F]},q}
 .obtain ⟨its,r',pl,hz⟩:=I.tuple z;have F:=r'.length;exact len_tuple pl (by simp only [OR]<;>lia) {.int ys.length,H,I.tok _,{s.toks+1,by rw [OR,F]},q}
theorem DY:zY X (.builtin "len") (λxs H Q=>∃z,xs=[.str z]/\z.length<=sizeLine/\Q (.int z.length) H):=by
 intro Go s σ H xs us Q I r h;obtain ⟨z,rfl,hz,q⟩:=h;obtain ⟨u,rfl,t,rfl⟩:=cT r;have F:=fZ;exact len_str 'l' {.int z.length,H,I.tok _,{_,rfl},q}
theorem zY.or{r r':List V->Hp->VK->Prop}(h:zY X f r)(h':zY X f r'):zY X f (λxs H Q=>r xs H Q\/r' xs H Q):=by
 intro Go s σ H xs us Q I z q;rcases q with q|q
 .exact h Go s σ H xs us Q I z q
 .exact h' Go s σ H xs us Q I z q
theorem EF:zY X (.type "list") (λxs H Q=>∃p ys,xs=[.ref p]/\(SqL X.K H p ys\/SqT X.K H p ys)/\∀l,H l=none->Q (.ref l) (upd H l (.lst ys))):=by
 intro Go s σ H xs us Q I r h;obtain ⟨p,ys,rfl,z,q⟩:=h;obtain ⟨u,rfl,S⟩:=cT r;cases S;have J:∀(its:List Value),zu ys its->ys.length<=sizeLine->∀(h':Heap)(c':Nat),(∀b o',s.heap.get? b=some o'->h'.get? b=some o') ->
   h'.get? s.heap.objs.size=some { cls:=.type "list",dict:=none,data:=.seq its.toArray c',slots:=#[] }->EP X Go σ Q (.ref s.heap.objs.size) { s with heap:=h' }:=λits r' hz h' c' kp e =>
  {.ref s.heap.objs.size,_,I.laid (t':=s.toks) kp (Ov _) (show au X.prog X.w _ h' _ (.lst ys) from ⟨hz,its,c',r',e⟩),rfl,q _ (I.hok.fresh (Ov _))}
 rcases z with z|z
 .obtain ⟨its,r',pl,hz⟩:=I.list z;have O:=r'.length;obtain ⟨o,G,F,n,hd⟩:=pl.isList;exact call_list_seq p (.inl rfl) G F hd (λh' c' kp e=>J its r' hz h' c' kp e) (by simp only [OR]<;>lia)
 .obtain ⟨its,r',pl,hz⟩:=I.tuple z;have O:=r'.length;obtain ⟨o,G,F,n,hd⟩:=pl;exact call_list_seq p (.inr rfl) G F hd (λh' c' kp e=>J its r' hz h' c' kp e) (by simp only [OR]<;>lia)
def tyV(K:Ow)(T:String)(x:V)(H:Hp):Prop:=match x with
 | .str _=>T="str"
 | .int _=>T="int"
 | .ref p=>(T="list"/\∃xs,SqL K H p xs)\/(T="tuple"/\∃o,K.lookup p=some o/\o.cls = .type "tuple"/\o.dict=none) \/
   (T="dict"/\((∃kvs,H p=some (.dK kvs))\/∃kvs,H p=some (.dT kvs)))\/(T="set"/\∃S n,H p=some (.set S n))
 | _=>False
theorem jv(I:Inv X Go σ H s)(r:zp x v)(ty:tyV X.K T x H):
  s.TypeIs v T/\∀a,v = .ref a->∃ob,s.heap.get? a=some ob/\ob.dict=none:=by
 cases x with
 | str z =>
  obtain ⟨t,rfl⟩:=r;cases (show T="str" from ty);exact {Si s z t,λ_ e=>nomatch e}
 | int i =>
  obtain ⟨t,rfl⟩:=r;cases (show T="int" from ty);exact {typeIs_int s i t,λ_ e=>nomatch e}
 | ref p =>
  cases r;rcases ty with ⟨rfl,xs,O⟩|⟨rfl,o,F,J,hd⟩|⟨rfl,F⟩|⟨rfl,S,n,F⟩
  .obtain ⟨its,_,pl,_⟩:=I.list O;refine {pl.isList.typeIs,λa e=>?_};cases e;obtain ⟨o,n,e,c,hd,_⟩:=pl;exact ⟨o,e,hd⟩
  .refine {{o,I.UQ p o F,J},λa e=>?_};cases e;exact {o,I.UQ _ o F,hd}
  .have z:∃o,s.heap.get? p=some o/\o.ExactDict:=by
    rcases F with ⟨kvs,F⟩|⟨kvs,F⟩
    .obtain ⟨_,_,_,_,o,_,_,e,ex,_⟩:=I.hok p _ F;exact ⟨o,e,ex⟩
    .obtain ⟨_,_,_,_,o,_,_,e,ex,_⟩:=I.hok p _ F;exact ⟨o,e,ex⟩
   obtain ⟨o,e,ex⟩:=z;refine {⟨o,e,ex.1⟩,λa G=>?_};cases G;exact ⟨o,e,ex.2.1⟩
  .obtain ⟨o,_,_,_,e,ex,_⟩:=I.hok p _ F;refine {⟨o,e,ex.1⟩,λa G=>?_};cases G;exact ⟨o,e,ex.2.1⟩
 | _=>exact False.elim ty
variable {o e:OU}{es:List OU}{to:TE}{t:TA}{name:Str}{ZZ cpos:Pos}{T id:String}{r:V->List V->Hp->VK->Prop}
end
def MtM(X:Cx)(id:String)(r:V->List V->Hp->VK->Prop):Prop :=
 ∀(Go:List (Addr×Obj))(s:KE)(σ:St)(H:Hp)(x:V)(xs:List V)(v:Value)(us:List Value)(Q:VK),Inv X Go σ H s->zp x v->zu xs us->r x xs H Q ->
  OE 'c' X.A (call (.builtin id) (v::us)) (EP X Go σ Q) X.xe s
theorem E6{α β:Type}{F:α->β->Prop}{x:α}{xs:List α}{us:List β}(h:Paired F (x::xs) us):∃u ws,us=u::ws/\F x u/\Paired F xs ws:=by
 cases h with
 | cons r t=>exact {_,_,rfl,r,t}
theorem uJ{α β:Type}{F:α->β->Prop}{us:List β}(h:Paired F [] us):us=[]:=by cases h;rfl
theorem zu.one(h:zu [x] us):∃u,us=[u]/\zp x u:=by
 obtain ⟨u,ws,rfl,r,t⟩:=E6 h;cases uJ t;exact {_,rfl,r}
def dR(k:V->Prop):List V->Prop
 | [y]=>k y
 | _=>False
theorem dR.ex{k:V->Prop}(h:dR k vs):∃y,vs=[y]/\k y:=by
 cases vs with
 | nil=>exact h.elim
 | cons y t =>
  cases t with
  | nil=>exact {y,rfl,h}
  | cons _ _=>exact h.elim
theorem zu.zero(h:zu [] us):us=[]:=uJ h
theorem zu.rep(h:zu xs us):∀k:Nat,zu (PZ k xs).flatten (PZ k us).flatten
 | 0=>.nil
 | k+1=>by
  rw [QX,QX,RN,RN];exact zu.append h (zu.rep h k)
theorem wM(its:List Value):∀(k:Nat)(Z1:List Value),
  foldl (λz F=>z++F) Z1.toArray (PZ k its.toArray)=(Z1++(PZ k its).flatten).toArray
 | 0,Z1=>by simp
 | k+1,Z1=>by
  have e:Z1.toArray++its.toArray=(Z1++its).toArray:=by simp
  have G:(Z1++its)++(PZ k its).flatten=Z1++(PZ (k+1) its).flatten:=by
   rw [QX,RN,Pw]
  rw [<- G,<- wM its k (Z1++its),<- e,QX,Uc]
section
variable {X:Cx}{Go:List (Addr×Obj)}{σ:St}{H:Hp}{s:KE}{l b:Addr}{xs ys zs:List V}
theorem Inv.eY{its its':List Value}(I:Inv X Go σ H s)(z:H l=some (.lst xs))(e:s.heap.get? l=some { cls:=.type "list",data:=.seq its.toArray n })(hf:f its.toArray=its'.toArray)(hv:zu ys its')(hz:ys.length<=sizeLine):
  Inv X Go σ (upd H l (.lst ys)) { s with heap:=s.heap.update l (Um f),toks:=t' }:=by
 have q:=PySem.IsL.update e f;rw [hf] at q;refine I.write (x:=l) (e:=l) (by rw [z];exact trivial) (.inl rfl) (λJ u G F=>(OW s.heap (Um f) (Pd G)).trans F) {_,q} ?_;exact {hz,its',_,hv,q}
theorem Inv.fm(I:Inv X Go σ H s)(hv:zu ys its)(hz:ys.length<=sizeLine):
  Inv X Go σ (upd H s.heap.objs.size (.lst ys)) { s with heap:=s.heap.push { cls:=.type "list",data:=.seq its.toArray },toks:=t' } :=
 I.laid (λ_ _ q=>Ou _ q) (Ov _) {hz,its,0,hv,ON _ rfl}
theorem Inv.fresh(I:Inv X Go σ H s):H s.heap.objs.size=none:=I.hok.fresh (Ov _)
theorem Inv.dv(I:Inv X Go σ H s)(F:H l=some (.lst xs)):xs.length<=sizeLine/\∃(its:List Value)(n:Nat),zu xs its/\xs.length=its.length/\s.heap.get? l=some { cls:=.type "list",data:=.seq its.toArray n }:=by
 obtain ⟨z,its,n,r,e⟩:=I.hok l _ F;exact ⟨z,its,n,r,r.length,e⟩
theorem vI(h:n<=sizeLine):OO.List.listTooLong n=false:=by
 unfold OO.List.listTooLong;exact decide_eq_false 'l'
end
section
variable {X:Cx}
def Ca:V->List V->Hp->VK->Prop:=λx vs H Q=>∃l xs y,x = .ref l/\vs=[y]/\H l=some (.lst xs)/\xs.length<sizeLine/\Q .non (upd H l (.lst (xs++[y])))
theorem JP:MtM X "list.append" Ca:=by
 intro Go s σ H x vs v us Q I S J h;obtain ⟨l,xs,y,rfl,rfl,G,hz,q⟩:=h;cases S;obtain ⟨u,rfl,O⟩:=J.one;obtain ⟨z,its,n,r,hl,e⟩:=I.dv G;refine RH F.slot_list_append {_,e,rfl} F.entry_list_append (F.args_list_append_2 _ _) (PySem.list_append l its.toArray n u (by rw [OR];lia)) {e,?_};refine {.non,_,I.eY (its':=its++[u]) G e 'z' (r.append (.cons O .nil)) ?_,rfl,q};rw [Ph,QT];lia
def BO:V->List V->Hp->VK->Prop:=λx vs H Q=>∃l b xs zs,x = .ref l/\vs=[.ref b]/\H l=some (.lst xs)/\H b=some (.lst zs)/\xs.length+zs.length<=sizeLine/\Q .non (upd H l (.lst (xs++zs)))
theorem Gc:MtM X "list.extend" BO:=by
 intro Go s σ H x vs v us Q I rx Z h;obtain ⟨l,b,xs,zs,rfl,rfl,J,hB,hz,q⟩:=h;cases rx;obtain ⟨u,rfl,S⟩:=Z.one;cases S;obtain ⟨z,its,n,r,hl,e⟩:=I.dv J;obtain ⟨z2,G,W,r2,O,U⟩:=I.dv hB;have hsz:its.toArray.size+G.toArray.size<=sizeLine:=by rw [OR,OR];lia
 have W6 : ¬ (!its.toArray.isEmpty&&OO.List.listTooLong (its.toArray.size+G.toArray.size))=true:=by
  rw [vI hsz,Bool.and_false];exact OP
 refine RH F.slot_list_extend {_,e,rfl} F.entry_list_extend (F.args_list_extend_2 _ _)
  (AutoSeq1.list_extend_list_list_0 l its.toArray n b G.toArray W W6 (by rw [OR];lia) 'l') {e,U,?_}
 refine {.non,_,I.eY (its':=its++G) J e 'z' (r.append r2) ?_,rfl,q};rw [Ph];lia
def Iz:V->List V->Hp->VK->Prop:=λx vs H Q=>∃l xs,x = .ref l/\vs=[]/\H l=some (.lst xs)/\Q .non (upd H l (.lst []))
theorem NU:MtM X "list.clear" Iz:=by
 intro Go s σ H x vs v us Q I S O h;obtain ⟨l,xs,rfl,rfl,J,q⟩:=h;cases S;have G:=O.zero;subst G;obtain ⟨z,its,n,r,hl,e⟩:=I.dv J;refine RH F.slot_list_clear {_,e,rfl} F.entry_list_clear (F.args_list_clear_1 _) (AutoSeq1.list_clear_list_0 l its.toArray n (by rw [OR];lia)) {e,?_};exact {.non,_,I.eY (its':=[]) (ys:=[]) J e rfl .nil (Pp _),rfl,q}
def GE:R2:=λx y H Q=>∃l b xs zs,x = .ref l/\y = .ref b/\H l=some (.lst xs)/\H b=some (.lst zs)/\xs.length+zs.length<=sizeLine/\∀p,H p=none->Q (.ref p) (upd H p (.lst (xs++zs)))
theorem Np:OpR X (QF .Add) GE:=by
 intro Go s σ H x y v u Q I U G h;obtain ⟨l,b,xs,zs,rfl,rfl,S,W,hz,q⟩:=h;cases U;cases G;obtain ⟨z,its,n,r,hl,e⟩:=I.dv S;obtain ⟨z2,F,Z,r2,J,O⟩:=I.dv W;refine PySem.P.add_list e O ?_ (by rw [OR,OR];lia);have ea:its.toArray++F.toArray=(its++F).toArray:=by simp
 rw [ea];exact {.ref _,_,I.fm (t':=s.toks) (r.append r2) (by rw [Ph];lia),rfl,q _ I.fresh}
def GY:R2:=λx y H Q=>∃l k xs,x = .ref l/\y = .int k/\H l=some (.lst xs)/\-(2 ^ 63)<=k/\k<2 ^ 63/\xs.length*k.toNat<=sizeLine /\
 ∀p,H p=none->Q (.ref p) (upd H p (.lst (PZ k.toNat xs).flatten))
theorem GQ{α:Type}(xs:List α)(k:Nat):(PZ k xs).flatten.length=k*xs.length:=by
 induction k with
 | zero=>simp
 | succ k z=>rw [QX,RN,Ph,z,Nat.succ_mul,Nat.add_comm]
theorem EZ:OpR X (QF .Mult) GY:=by
 intro Go s σ H x y v u Q I rx Z h;obtain ⟨l,k,xs,rfl,rfl,hH,h1,h2,hz,q⟩:=h;cases rx;obtain ⟨t,rfl⟩:=Z;obtain ⟨z,its,n,r,hl,e⟩:=I.dv hH;have ZO:its.toArray.size*k.toNat<=sizeLine:=by rw [OR,<- hl];exact hz
 have O : ¬ its.toArray.size*k.toNat>(2 ^ 63-1) / 8:=by
  have:(sizeLine:Nat)<=(2 ^ 63-1) / 8:=by decide
  lia
 have G : ¬ (!OO.List.listFitsIndex k)=true:=by
  rw [fitsIndex_both h1 h2];exact OP
 have W6 : ¬ OO.List.listTooLong (its.toArray.size*k.toNat)=true:=by
  rw [vI ZO];exact OP
 have J:foldl (λS W=>S++W) #[] (PZ (if its.toArray.isEmpty=true then 0 else k.toNat) its.toArray)=(PZ k.toNat its).flatten.toArray:=by
  have f0:∀m:Nat,foldl (λS W=>S++W) #[] (PZ m its.toArray)=(PZ m its).flatten.toArray:=λm=>by
   have:=wM its m [];rw [RW] at this;exact this
  rw [f0];cases its with
  | nil=>simp
  | cons a r'=>rw [if_neg 'z']
 refine wpAny_binaryOp_repeat_ref (T:="list") (U:="int") 'd' {_,e,rfl} (λs'=>typeIs_int s' k t) noFill_list_mul F.fills_int_mul F.slot_int_rmul repeat_list F.slot_int_index.lookup
  (RH F.slot_int_rmul (typeIs_int s k t) F.entry_int_rmul (F.args_int_rmul_2 _ _) (int___rmul___int_list k t l its.toArray n)
   {e,rfl,{_,e,rfl},RH F.slot_list_mul {_,e,rfl} F.entry_list_mul (F.args_list_mul_2 _ _) (AutoListH.list___mul___list_int_3 l its.toArray n k t G O W6) {e,?_}})
 rw [J];exact {.ref _,_,I.fm (t':=s.toks) (r.rep k.toNat) (by rw [GQ,Nat.mul_comm];exact hz),rfl,q _ I.fresh}
end
end L2
namespace Att
open PySem PySem.W PySem.Calls PyProof.Rows
theorem Dv:∀(ns:List Int)(vs:List Value),WellAll P h vs (ns.map WData.int)->Ry vs ns:=by
 intro ns
 induction ns with
 | nil =>
  intro vs w;rw [map_nil] at w;cases w;exact .nil
 | cons n ns z =>
  intro vs w;rw [PY] at w;cases w with
  | cons a b =>
   cases a;exact .cons _ _ (z _ b)
theorem El{l:OpenLaw}(S:l.most=some n){vals:List Value}(z:l.row.toRowW.claim.pre args=true)(hwl:WellAll P h vals args):
  ∃a vs ns,vals=[OH a]/\args=[WData.list (ns.map WData.int)]/\h.get? a=some { cls:=.type "list",data:=.seq vs.toArray }/\Ry vs ns/\ns.length<=n:=by
 have J:WShape.hasAll [] args [.list .int]=true:=(pre_splitW z).1;have O:l.pre.holds [] { args:=args }=true:=(pre_splitW z).2;obtain ⟨d,r,rfl,h1,h2⟩:=hasAllW_cons J;obtain rfl:=hasAllW_nil h2;obtain ⟨xs,rfl,h3⟩:=hasW_list h1;obtain ⟨ns,rfl⟩:=items_int h3;have Z:ns.length<=n:=by
  unfold OpenLaw.pre at O;have h4:(WTm.not (.lt (.lit (.int (n:Int))) (.len (.arg 0)))).holds [] { args:=[.list (ns.map .int)] }=true:=by
   have h4:=(holds_andW O).1;rw [S] at h4;exact h4
  have G:=condW_of h4 (w_not (w_lt w_lit (w_len_list (w_arg rfl))));rw [OA] at G;refine Nat.le_of_not_lt λq=>?_;have q':(n:Int)<((ns.length:Nat):Int):=by lia
  first
   | (rw [decide_eq_true q'] at G;exact absurd G 'd')
   | (simp at G;lia)
 cases hwl with
 | cons W U =>
  cases U;cases W with
  | list ho F=>exact {_,_,ns,rfl,rfl,ho,Dv ns _ F,Z}
theorem I0(l:OpenLaw)(args:List WData):l.row.toRowW.claim.post args (.bool true) args=true :=
 postW_of (r:=l.row.toRowW) (X:=(true==true))
  (show WShape.has [] (.bool true) .bool=true by first|rfl|decide|simp [WShape.has,WShape.arms,WShape.armsAll])
  (show (WTm.eq .res (.lit (.bool true))).value [] { args:=args,res:=some (.bool true),after:=args }=some (.bool (true==true)) from w_eq_bool (w_res rfl) w_lit) rfl
theorem attach_call{l:OpenLaw}{d:DefRec}(hn:l.most=some n)(W:d.params.defaults=[])(call:∀(w:OS)(s₀ s₁:KE)(mg Z:Str->Option Value)(J:Addr)(o:Obj)(S cd O:Value)(a:Addr)(vs:List Value)(ns:List Int),
   Ground q XZ [] XP w s₀ mg Z s₁.heap->YP w s₁.heap ->
   s₁.heap.get? J=some o->o.data = .func (docDef d.name d.params d.body d.scope S cd O)->s₁.heap.CodeRec cd d.name->mg d.name=some (.ref J) ->
   s₁.heap.get? a=some { cls:=.type "list",data:=.seq vs.toArray }->Ry vs ns->ns.length<=n->s₁.gens = #[] ->
   QC (OK l.prog w) callerA (.call (.ref J) {[.ref a],[]}) (λr s'=>r = .ok (.ret (.bool true))/\OldK s₁.heap s'.heap/\s'.os=s₁.os/\Rz s'.gens) s₁):
  WalkO q XZ XP YP l.row.toRowW d [] (λf vs=>PySem.call f vs):=by
 intro w s₀ s₁ mg Z G Y J o S cd O dV kV ho hd hcd hD U hg args vals as F ai av hwl ax;obtain rfl:dV = .none:=Dflts.none hD W;obtain rfl:kV = .none:=Dflts.noKw hD;obtain ⟨a,vs,ns,rfl,rfl,z,W0,ZO⟩:=El hn F hwl;refine enter_call (Qt (call w s₀ s₁ mg Z J o S cd O a vs ns G Y ho (fd_plain hd) hcd U z W0 ZO hg) λr s' hq=>?_);obtain ⟨rfl,h2,h3,h4⟩:=hq;exact {.inl {.bool true,.bool true,[],rfl,λ_=>rfl,.bool true,I0 l _,λ_=>{List.Pairwise.nil,λ_ hm=>(nomatch hm)}},h2,h3,h4}
end Att
namespace L2
open PySem PySem.Spec PyProof.Rows
theorem pB(h:Ry vs ns):zu (ns.map V.int) vs:=by
 induction h with
 | nil=>exact .nil
 | cons n t h z=>exact .cons {t,rfl} z
def zP(s:Stmt)(j:Nat):Stmt:=match s with
 | .ClassDef _ _ _ z _ _ _ _ _ _ _=>z.getD j (.Pass {0,0,0,0})
 | _=>.Pass {0,0,0,0}
noncomputable def gD(s:Stmt):Arguments:=match s with
 | .FunctionDef _ a _ _ _ _ _ _ _ _=>a
 | _=>{ posonlyargs:=[],args:=[],vararg:=none,kwonlyargs:=[],kw_defaults:=[],kwarg:=none,defaults:=[] }
def cS(s:Stmt):List Stmt:=match s with
 | .FunctionDef _ _ b _ _ _ _ _ _ _=>b
 | _=>[]
noncomputable def zo(s:Stmt):Scope:=match s with
 | .FunctionDef _ _ _ _ _ _ sc _ _ _=>sc
 | _=>{ kind:=.function,names:=[],isGenerator:=false,isCoroutine:=false }
abbrev CX0:CXT:=λ_ _ _ _ _ _=>False
abbrev E0:XK:=λ_ _ _=>False
theorem iy:eV CX0 X E0:=λ_ _ _ _ _ _ _ h=>h.elim
structure Fun(K:Ow)(x qual:Str)(st:Stmt)(f:Addr)(fd:OG):Prop where
 ex:∃(oc:Value)(od:Option Addr)(kV Yd pm:Value)(an:Option Addr)(Z2 ct:Value)(W8:Array (Option Value)),
  fd=fnOf x qual (gD st) (cS st) (zo st) .none kV Yd pm an Z2 ct/\K.lookup f=some {oc,od,.func fd,W8}/\codeIn K Z2 qual=true
 kp:Ru K (.ref f)=true
section
variable {P:OF}{w:OS}{K:Ow}{mg:Str->Option Value}{base:Heap}
theorem Fun.ok{st:Stmt}{k:Nat}(F:Fun K x qual st f fd)(S:zx N ps (zo st))(len:∀vs H Q E,sp vs H Q E->vs.length=ps.length)(J:∀(z:Value)(A:OQ)(outer:List Env)(s:KE)(H:Hp)(vs:List V)(Q:VK)(E:XK),zE cm k (A.deeper (QR qual (zo st) s.heap.objs.size f z))->sp vs H Q E ->
   ∃t,PSs (bF CX0 cm P w K mg base N qual (zo st) f z A outer s H E).ee (cS st) t/\t { nx:=λ_ H'=>Q .non H',rt:=Q } (start N vs) H):zq P w K mg base CX0 cm (k+1) f fd ps sp:=by
 obtain ⟨oc,U,kV,O,pm,W,z,ct,Z,rfl,lk,hcd⟩:=F.ex;refine j7 lk hcd S len λA outer s H vs Q E hr G=>?_;obtain ⟨t,h,q⟩:=J z A outer s H vs Q E hr G;exact ⟨t,h.ee,q⟩
theorem Fun.binds{st:Stmt}(F:Fun K x qual st f fd)(h:∀(kV z O:Value)(G:Option Addr)(J ct:Value)(us:List Value),us.length=ps.length->SY (fnOf x qual (gD st) (cS st) (zo st) .none kV z O G J ct) {us,[]}=pure (ps.zip us)):br K fd ps []:=by
 obtain ⟨oc,S,kV,z,O,G,J,ct,U,rfl,lk,hcd⟩:=F.ex;exact .all (h kV z O G J ct)
theorem Bg{st:Stmt}{kV F J z ct:Value}(l:K.lookup f=some {oc,O,.func (fnOf x qual (gD st) (cS st) (zo st) .none kV F J G z ct),S})(c:codeIn K z qual=true)(k:Ru K (.ref f)=true):Fun K x qual st f (fnOf x qual (gD st) (cS st) (zo st) .none kV F J G z ct):={{oc,O,kV,F,J,G,z,ct,S,rfl,l,c},k}
end
theorem bB{k:Nat}(hr:zE c k A):A.units+1<cLine:=O7 (Nat.add_le_add_left (by decide:1<=64) _) hr.units
section
variable {X:Cx}
theorem pv(i:Nat)(hN:X.N[i]?=some x:=by rfl)(hv:Vis X.env.scope x:=by first|exact OM rfl|exact Ss (OM rfl)|exact Ss (Ss rfl))(hd:(x==("__debug__":Str))=false:=by decide)(hcd:(x==("__classdict__":Str))=false:=by decide):PE X (.Name x pos) (dX i):=BA hN hv hd hcd
end
theorem kP{A B:Prop}(h:B):if false=true then A else B:=by
 rw [if_neg OP];exact h
theorem pC{A B:Prop}(h:A):if true=true then A else B:=by
 rw [if_pos rfl];exact h
theorem cy{c A B:Prop} [Decidable c] (h1:c->A) (h2 : ¬ c->B):if c then A else B:=by
 by_cases h:c
 .rw [if_pos h];exact h1 h
 .rw [if_neg h];exact h2 h
def zj(H H':Hp):Prop:=∀b o,H b=some o->H' b=some o
theorem zj.refl(H:Hp):zj H H:=λ_ _ h=>h
theorem zj.trans(a:zj H H1)(b:zj H1 H2):zj H H2:=λc o h=>b c o (a c o h)
theorem zj.free(e:zj H H')(h:H' l=Option.none):H l=Option.none:=by
 cases q:H l with
 | none=>rfl
 | some o =>
  rw [e l o q] at h;cases h
end L2
set_option maxHeartbeats 4000000
namespace L2
open PySem PySem.Spec PyProof.Rows
noncomputable def cz(z:List (Str×Addr)):List (Str×PR)->List (Str×Addr)->List (Str×Addr)
 | [],cs=>cs
 | (n,k)::r,cs=>cz z r (if k == .free then (match z.lookup n with|some c=>(n,c)::cs|none=>cs) else cs)
theorem xi(h:∀y∈scope.names,y.2 = .free->∃c,env.cells.lookup y.1=some c):RG scope env=pure (cz env.cells scope.names []):=by
 simp only [RG];have all:∀(l:List (Str×PR))(cs:List (Str×Addr)),(∀y∈l,y.2 = .free->∃c,env.cells.lookup y.1=some c) ->
   (forIn l cs λ(x:Str×PR)(r:List (Str×Addr))=>match x with|(name,kind)=>if (kind==PR.free)=true then do let a<-cellOf env name;pure (ForInStep.yield ((name,a)::r)) else pure (ForInStep.yield r):Sem (List (Str×Addr)))=pure (cz env.cells l cs):=by
  intro l
  induction l with
  | nil=>intro cs _;rfl
  | cons y r G =>
   intro cs F;obtain ⟨n,k⟩:=y;rw [forIn_cons];by_cases J:k = .free
   .subst J;obtain ⟨c,S⟩:=F (n,.free) OI rfl;have U:env.cells.lookup n=some c:=S;simp only [cellOf,U,cz,beq_self_eq_true,if_true];exact G _ λz hz=>F z (Oz _ hz)
   .have O:(k==PR.free)=false:=by simpa using J
    simp only [cz,O,QH,if_false];exact G _ λz hz=>F z (Oz _ hz)
 have e:=all scope.names [] h;show (do let cs<-forIn scope.names [] _;pure cs)=_
 first
  | (rw [bind_pure];exact e)
  | exact e
  | (simpa using e)
theorem Aj:∀{l:List (Str×PR)}{cs:List (Str×Addr)}{x:Str}{c:Addr},(cz z l cs).lookup x=some c->cs.lookup x=some c\/(z.lookup x=some c/\(x,PR.free)∈l)
 | [],_,_,_,h=>.inl h
 | (n,k)::r,cs,x,c,h=>by
  unfold cz at h;rcases Aj h with h|⟨h1,h2⟩
  .by_cases G:k = .free
   .subst G;simp only [beq_self_eq_true,if_true] at h;cases e:z.lookup n with
    | none=>rw [e] at h;exact .inl h
    | some c' =>
     rw [e] at h;simp only [RE] at h;by_cases hx:x=n
     .subst hx;simp only [beq_self_eq_true] at h;cases h;exact .inr ⟨e,OI⟩
     .have F:(x==n)=false:=by simpa using hx
      rw [F] at h;exact .inl h
   .have F:(k==PR.free)=false:=by simpa using G
    rw [F] at h;exact .inl h
  .exact .inr {h1,Oz _ h2}
theorem sH:∀{l:List (Str×PR)}{cs:List (Str×Addr)}{x:Str},(cs.lookup x).isSome=true->((cz z l cs).lookup x).isSome=true
 | [],_,_,h=>h
 | (n,k)::r,cs,x,h=>by
  unfold cz;refine sH ?_;split
  .split
   .simp only [RE];split
    .rfl
    .exact h
   .exact h
  .exact h
theorem Bh:∀{l:List (Str×PR)}{cs:List (Str×Addr)}{x:Str}{c:Addr},(x,PR.free)∈l->G.lookup x=some c->((cz G l cs).lookup x).isSome=true
 | (n,k)::r,cs,x,c,z,F=>by
  unfold cz;rcases OL.mp z with e|z
  .cases e;refine sH ?_;simp only [beq_self_eq_true,if_true,F,RE];rfl
  .exact Bh z F
theorem lD:∀(names:List (Str×PR))(n:Nat)(Z1:List (Str×Addr)),Qv n names Z1=Qv n names []++Z1
 | [],_,_=>rfl
 | (x,k)::r,n,Z1=>by
  unfold Qv;split
  .rw [lD r (n+1) ((x,n)::Z1),lD r (n+1) [(x,n)],Pw];rfl
  .exact lD r n Z1
theorem qH:∀{names:List (Str×PR)}{n:Nat}{Z1:List (Str×Addr)},(x,c)∈Qv n names Z1->(x,c)∈Z1\/(x,PR.cell)∈names
 | [],_,_,h=>.inl h
 | (y,k)::r,n,Z1,h=>by
  unfold Qv at h;split at h
  .next hk =>
   rcases qH h with h|h
   .rcases OL.mp h with e|h
    .cases e;rw [eq_of_beq hk];exact .inr OI
    .exact .inl h
   .exact .inr (Oz _ h)
  .rcases qH h with h|h
   .exact .inl h
   .exact .inr (Oz _ h)
theorem kH:∀{names:List (Str×PR)}{n:Nat}{Z1:List (Str×Addr)},(Z1.lookup x).isSome=true->((Qv n names Z1).lookup x).isSome=true
 | [],_,_,h=>h
 | (y,k)::r,n,Z1,h=>by
  unfold Qv;split
  .refine kH ?_;rw [RE];cases x==y with
   | true=>rfl
   | false=>exact h
  .exact kH h
theorem qc:∀{names:List (Str×PR)}{n:Nat}{Z1:List (Str×Addr)},(x,PR.cell)∈names->((Qv n names Z1).lookup x).isSome=true
 | (y,k)::r,n,Z1,h=>by
  unfold Qv;rcases OL.mp h with e|h
  .cases e;rw [if_pos 'd'];exact kH (by rw [RE,beq_self_eq_true];rfl)
  .split
   .exact qc h
   .exact qc h
noncomputable def fA(z:List (Str×Addr))(sc:Scope)(C:Addr):List (Str×Addr):=Qv (C+1) sc.names (cz z sc.names [])
structure ji(Z3:List (Str×Addr))(sc:Scope)(C:Addr)(h:Heap):Prop where
 ed:∀x c,(fA Z3 sc C).lookup x=some c->(C<c/\h.IsCell c none/\(x,PR.cell)∈sc.names)\/(Z3.lookup x=some c/\(x,PR.free)∈sc.names)
 inj:∀x y c,(fA Z3 sc C).lookup x=some c->(fA Z3 sc C).lookup y=some c->C<c->x=y\/(Z3.lookup x=some c\/Z3.lookup y=some c)
theorem ye:∀{a b:List (Str×Addr)},(a++b).lookup x=(a.lookup x).or (b.lookup x)
 | [],b=>rfl
 | (y,c)::r,b=>by
  rw [QS,RE,RE];cases x==y with
  | true=>rfl
  | false=>exact ye
theorem ji.mk'(F:h.objs.size=C+1):ji z sc C (Ra h sc.names):=by
 have ok:=cellsFrom_ok sc.names h (C+1) [] {λ_ _ G=>(nomatch G),List.Pairwise.nil} (TQ F.symm);rw [F] at ok;have sp:∀x c,(fA z sc C).lookup x=some c->(x,c)∈Qv (C+1) sc.names []\/(z.lookup x=some c/\(x,PR.free)∈sc.names):=λx c h=>by
  unfold fA at h;rw [lD,ye] at h;cases e:(Qv (C+1) sc.names []).lookup x with
  | some d=>rw [e] at h;cases h;exact .inl (P4 e)
  | none =>
   rw [e] at h;rcases Aj (show (cz z sc.names []).lookup x=some c from h) with h|h
   .cases h
   .exact .inr h
 refine {λx c h=>?_,λx y c h1 h2 _=>?_}
 .rcases sp x c h with h|h
  .refine .inl {(ok.empty x c h).2,(ok.empty x c h).1,?_};rcases qH h with h|h
   .cases h
   .exact h
  .exact .inr h
 .rcases sp x c h1 with a|a
  .rcases sp y c h2 with b|b
   .exact .inl (PySem.name_of_addr ok.apart a b)
   .exact .inr (.inr b.1)
  .exact .inr (.inl a.1)
theorem A1{code:Value}(O:Q (newEnv scope s.heap.objs.size G (Qv (s.heap.objs.size+1) scope.names J) qual z code (some outer) RX) { s with heap:=Ra (s.heap.push { cls:=.type "dict",data:=.dict #[] }) scope.names }):
  OE M A (newFunctionEnv scope G J [] qual z code (some outer)) Q E s:=by
 simp only [newFunctionEnv,isSome_some,if_true];refine we (wpAny_alloc ?_);refine we (wpAny_layCells _ (λname kind S=>by cases F:kind==PR.cell<;>simp [F]) _ _ _ _ ?_);rw [show ({ s with heap:=s.heap.push { cls:=.type "dict",data:=.dict #[] } }:KE).heap.objs.size=s.heap.objs.size+1 from Q9 ..];exact we (Ot (Ot O))
noncomputable def bM(sc:Scope)(names:List (Str×PR))(N N':List Str)(ix:List (Option Nat)):Bool :=
 sc.kind == .function&&sc.names.all (λy=>(y.2 != .cell||sc.names.lookup y.1==some .cell)&&(y.2 != .local||sc.names.lookup y.1==some .local)&&(y.2 != .free||(names.lookup y.1==some .cell&&sc.names.lookup y.1==some .free)) ) &&
 ix.length==N'.length&&(Qh ix.length).all (λi=>match ix.getD i none with
  | none=>true
  | some j=>(match N'[i]?,N[j]? with|some x,some y=>x==y&&sc.names.lookup x==some .free|_,_=>false))
noncomputable def cb(ix:List (Option Nat))(σ:St):St:=ix.map λo=>o.bind λj=>(σ[j]?).join
structure ay(X:Cx)(sc:Scope)(N':List Str)(ix:List (Option Nat)):Prop where
 kind:sc.kind = .function
 cell:∀y∈sc.names,y.2 = .cell->sc.names.lookup y.1=some .cell
 names:∀y∈sc.names,y.2 = .local->sc.names.lookup y.1=some .local
 free:∀y∈sc.names,y.2 = .free->X.env.kindOf y.1=some .cell/\sc.names.lookup y.1=some .free
 len:ix.length=N'.length
 at_:∀(i j:Nat),ix[i]?=some (some j)->∃x,N'[i]?=some x/\X.N[j]?=some x/\sc.names.lookup x=some .free
theorem ay.of(h:bM sc X.env.scope.names X.N N' ix=true):ay X sc N' ix:=by
 unfold bM at h;simp only [O1,Pg] at h;obtain ⟨⟨⟨h1,h2⟩,h3⟩,h4⟩:=h;refine {by simpa using h1,λy F z=>?_,λy F z=>?_,λy F z=>?_,by simpa using h3,λi j e=>?_}
 .have q:=(h2 y F).1.1;rw [z] at q;simpa using q
 .have q:=(h2 y F).1.2;rw [z] at q;simpa using q
 .have q:=(h2 y F).2;rw [z] at q;simp only [bne_self_eq_false,Bool.false_or,O1,beq_iff_eq] at q;exact q
 .have hi:i<ix.length:=(OJ.mp e).1;have:=h4 i (Sn.mpr hi);have O:ix.getD i none=some j:=by rw [O5,e];rfl
  rw [O] at this;dsimp only at this;cases G:N'[i]? with
  | none=>rw [G] at this;simp at this
  | some x =>
   cases J:X.N[j]? with
   | none=>rw [G,J] at this;simp at this
   | some y =>
    rw [G,J] at this;simp only [O1,beq_iff_eq] at this;exact {x,rfl,by rw [this.1],this.2}
noncomputable def zy(X:Cx)(sc:Scope)(N':List Str)(Go:List (Addr×Obj))(C:Addr)(fp:List Addr)(s:KE)(H:Hp):Cx :=
 { X with N:=N',s₀:=s,H₀:=H,env:=compEnvC sc (fA X.env.cells sc C) C X.env,outer:=X.stack,stack:=X.stack,ex:=fp,fn:=λx=>sc.names.lookup x==some .cell,pn:=X.pn++Go,xe:=λ_ _=>False }
theorem HOk.add{o:HO}(x:HOk P w H h)(z:H D=none)(new:au P w (upd H D o) h D o):HOk P w (upd H D o) h:=λb u e=>by
 by_cases F:b=D
 .subst F;rw [zt] at e;cases e;exact new
 .rw [zg F] at e;exact (x b u e).Vc (λ_ _ _ q=>q) (λc q=>by rw [zg (zz q z)];exact q) λc xs q=>by rw [zg (zz q z)];exact q
theorem HOk.but(x:HOk P w H h)(F:H C=none)(k:∀b u,b≠C->h.get? b=some u->h'.get? b=some u):HOk P w H h':=λb u e =>
 (x b u e).Vc (λc v G q=>k c v (by
  rcases G with z|z
  .rw [z];exact zz e F
  .exact zz z F) q) (λ_ q=>q) λ_ _ q=>q
theorem Og(J:env.scope.kind = .function)(hf:∀y∈sc.names,y.2 = .free->env.kindOf y.1=some .cell):
  ∀x,(relabel sc env).names.lookup x=(sc.names.lookup x).map λk=>if k == .free then .cell else k:=by
 intro x;have em:(relabel sc env).names=sc.names.map λy=>(y.1,if y.2 == .free then PR.cell else y.2):=by
  show sc.names.map _=_;refine Qk λy O=>?_;obtain ⟨n,k⟩:=y;by_cases z:k = .free
  .subst z;have e:env.kindOf n=some .cell:=hf (n,.free) O rfl;simp [J,e]
  .have F:(k==PR.free)=false:=by simpa using z
   simp [F]
 rw [em];generalize sc.names=l
 induction l with
 | nil=>rfl
 | cons y r G =>
  obtain ⟨n,k⟩:=y;simp only [PY,RE];cases x==n with
  | true=>rfl
  | false=>exact G
section
variable {X:Cx}{sc:Scope}{N':List Str}{ix:List (Option Nat)}
theorem Nx{i:Nat}(h:(cb ix σ)[i]?=some (some v)):∃j,ix[i]?=some (some j)/\σ[j]?=some (some v):=by
 unfold cb at h;rw [O0] at h;cases e:ix[i]? with
 | none=>rw [e] at h;cases h
 | some o =>
  rw [e] at h;have h':(o.bind λj=>(σ[j]?).join)=some v:=O6.inj h;cases o with
  | none=>cases h'
  | some j =>
   have F:(σ[j]?).join=some v:=h';cases G:σ[j]? with
   | none=>rw [G] at F;cases F
   | some z =>
    rw [G] at F;have:z=some v:=F;exact {j,rfl,by rw [G,this]}
theorem uM(I:Inv X Go σ H s)(L:ay X sc N' ix)(f:∀b∈fp,az X Go H b)(fl:∀b∈fp,b<s.heap.objs.size)(S:s.heap.objs.size<=C)(Xj:h₁.Ns C m)(old:∀b o,s.heap.get? b=some o->h₁.get? b=some o)(own:ji X.env.cells sc C h₁):
  Inv 'b' [] (cb ix σ) H { s with heap:=h₁,toks:=tk }:=by
 have lt:∀{x c},X.env.cells.lookup x=some c->¬ C<c:=λ{x c} h=>by
  obtain ⟨_,q⟩:=I.cell x c h;have:=q.lt;lia
 have rl:=Og (sc:=sc) (env:=X.env) I.ok.kind λy hy G=>(L.free y hy G).1;have O:∀x,sc.names.lookup x=some .free->∃c,(fA X.env.cells sc C).lookup x=some c/\X.env.cells.lookup x=some c:=λx hx=>by
  have hm:(x,PR.free)∈sc.names:=P4 hx;obtain ⟨c,hc⟩:=I.ok.has x (.inl (L.free _ hm rfl).1);obtain ⟨c',W⟩:=Ti.mp (kH (names:=sc.names) (n:=C+1) (Bh (cs:=[]) hm hc));rcases own.ed x c' W with a|a
  .have:=L.cell _ a.2.2 rfl;rw [hx] at this;cases this
  .exact ⟨c',W,a.1⟩
 refine {{I.ok.mod,L.kind,I.ok.glob,I.ok.blt,S,λx y c h1 h2=>?_,λx hx=>?_,λx c h h'=>?_,I.ok.hd,I.ok.frames,.inl rfl,λb J=>{Pe (O2 (fl b J) S),λx c h=>?_},
   I.bs,Pt I.ok.ea I.sz,λb o e J=>?_,λb J z=>?_,I.stack,I.cp},rfl,I.bare,Un.kept old,{m,Xj,λi x v e1 e2 e3=>?_},λx c h=>?_,I.hok.fresh S,λx c h=>?_,λp hp=>?_,I.hok.kept old,?_,I.hdk}
 .rcases own.ed x c h1 with a|a<;>rcases own.ed y c h2 with b|b
  .rcases own.inj x y c h1 h2 a.1 with e|e|e
   .exact e
   .exact absurd a.1 (lt e)
   .exact absurd a.1 (lt e)
  .exact absurd a.1 (lt b.1)
  .exact absurd b.1 (lt a.1)
  .exact I.ok.inj x y c a.1 b.1
 .have F:(relabel sc X.env).names.lookup x=some .cell\/(relabel sc X.env).names.lookup x=some .free:=hx;rw [rl x] at F;cases e:sc.names.lookup x with
  | none=>rw [e] at F;simp at F
  | some k =>
   have G:k = .free\/k = .cell:=by
    cases k with
    | free=>exact .inl rfl
    | cell=>exact .inr rfl
    | _=>rw [e] at F;revert F;decide
   rcases G with G|G
   .subst G;obtain ⟨c,h1,_⟩:=O x e;exact ⟨c,h1⟩
   .subst G;exact Ti.mp (qc (P4 e))
 .rcases own.ed x c h' with a|a
  .exact Pt S (Sa a.1)
  .have:=(L.free _ a.2 rfl).2;have h:(sc.names.lookup x==some .cell)=true:=h;rw [this] at h;exact absurd h 'd'
 .rcases own.ed x c h with a|a
  .have:=fl b J;have:=a.1;exact λz=>by subst z;lia
  .exact (f b J).2.2.2.2.1 x c a.1
 .rcases (f b J).2.2.2.1 with z|z
  .exact I.ok.dk b o e z
  .exact absurd (O2 (OX (I.ok.bs b o e).1) z) (O9 _)
 .rcases OL.mp (I.aj b z) with e|e
  .exact (f b J).2.1 e
  .exact (f b J).2.2.1 e
 .obtain ⟨j,hj,hv⟩:=Nx e2;obtain ⟨y,n1,n2,n3⟩:=L.at_ i j hj;have Z:x=y:=O6.inj ((show N'[i]?=some x from e1).symm.trans n1);subst Z;obtain ⟨c,c1,c2⟩:=O x n3;have kf:=(L.free _ (P4 n3) rfl).1;obtain ⟨m0,av,hl⟩:=I.loc;obtain ⟨u,r,l⟩:=hl j x v n2 hv (.inr (.inl kf));refine {u,r,.inr {.inl ?_,c,c1,?_}}
  .show (relabel sc X.env).names.lookup x=some .cell;rw [rl x,n3];rfl
  .rcases l with ⟨G,_⟩|⟨_,c',W,z⟩
   .have U:X.env.kindOf x=some .cell:=kf;rw [G] at U;cases U
   .rw [c2] at W;cases W;obtain ⟨oc,ho,hd⟩:=z;exact {oc,old _ _ ho,hd}
 .rcases own.ed x c h with a|a
  .exact {_,a.2.1}
  .obtain ⟨v,oc,ho,hd⟩:=I.cell x c a.1;exact {v,oc,old _ _ ho,hd}
 .rcases own.ed x c h with a|a
  .exact I.hok.fresh (Pt S (Sa a.1))
  .exact I.Uz x c a.1
 .have ai:p∈X.pn++Go:=by
   have:p∈(X.pn++Go)++[]:=hp;simpa using this
  obtain ⟨a,b,c,d,e⟩:=I.pin p ai;exact {old _ _ a,b,Pe (O2 (OX a) S),λz=>(OL.mp (I.aj p.1 z)).elim c d,e}
 .show (cb ix σ).length=N'.length;unfold cb;rw [OA,L.len]
end
def PTs(X:Cx)(z:List OU)(t:TT):Prop :=
 ∀(Go:List (Addr×Obj))(s:KE)(σ:St)(H:Hp)(Q:Bool->Hp->Prop),Inv X Go σ H s->t σ H Q ->
  OE 'c' X.A (forIn z true λc r=>if r=true then do let ok<-T8 c X.env (PH c X.env);pure (ForInStep.yield ok) else pure (ForInStep.yield r)) (TP X Go σ Q) X.xe s
def km:TT:=λ_ H Q=>Q true H
theorem cY:W (PTs X [] km):={λ_ _ _ H _ I h=>wpAny_tests_nil ⟨H,I,h⟩}
theorem vM{t:TT}(h:W (PT X c t)):W (PTs X [c] t):=by refine {?_};have h:=h.h;exact λGo s σ H Q I q=>wpAny_tests_one (h Go s σ H Q I q)
theorem MR{e tg iter : OU}{Zo : List OU}(hct : (∀ B : OQ, B.under (.compLoop e 0 it Z1 env) = B) ∧ (OK prog w).den (.compLoop e 0 it Z1 env) = Sem.onRaise (do
      QM iter.pos
      match ← Rh it with
      | none => pure (.done .next)
      | some v =>
        Qw tg it v
        SZ tg env v
        let mut ok := true
        for c in Zo do
          if ok then ok ← T8 c env (PH c env)
        if ok then
          em
        again (.compLoop e 0 it Z1 env)) (fun x => do Sm x env; theTreesLotGoes x))(I:Nat->KE->Prop)(Yf:∀n s,I n s->OE (OK prog w) A (Rh it) (λr s₁=>match r with
   | none=>R (.ok .next) s₁
   | some v=>OE (OK prog w) A (Qw tg it v) (λ_ F=>OE (OK prog w) A (SZ tg env v) (λ_ J =>
     OE (OK prog w) A (forIn Zo true λc r=>if r=true then do let ok<-T8 c env (PH c env);pure (ForInStep.yield ok) else pure (ForInStep.yield r)) (λok s₃ =>
      if ok=true then OE (OK prog w) A em (λ_ G=>∃m,m<n/\I m G) (λ_ _=>False) s₃
      else ∃m,m<n/\I m s₃) (λ_ _=>False) J) (λ_ _=>False) F) (λ_ _=>False) s₁) (λ_ _=>False) s)(n:Nat)(h:I n s):QC (OK prog w) A (.compLoop e 0 it Z1 env) R s:=by
 refine codeAny_loop rfl I (λn s Z=>?_) n h;rw [hct.1,hct.2];refine wpAny_noted (OZ (E:=λ_ _=>False) ?_ (λ_ _ q=>q) λ_ _ z=>z.elim);refine we (Pl (we (OZ (Yf n s Z) (λr s₁ h₁=>?_) λ_ _ h'=>h')));cases r with
 | none=>exact Ot h₁
 | some v =>
  refine we (OZ h₁ (λ_ F S=>?_) λ_ _ h'=>h');refine we (OZ S (λ_ J W=>we (OZ W (λok s₃ O=>?_) λ_ _ h'=>h')) λ_ _ h'=>h');cases ok with
  | false=>exact Ot {rfl,O}
  | true=>exact we (OZ O (λ_ G U=>Ot {rfl,U}) λ_ _ h'=>h')
noncomputable def tLC(ix:List (Option Nat))(wi:TI)(g:TG)(tt:TT)(te:TE):TE:=λσ H Q=>wi σ H λJ H1=>∃W:Nat->Nat->St->List V->Hp->Prop,(∃m,W 0 m (cb ix σ) [] H1)/\∀i m τ ys H2,W i m τ ys H2->ys.length<sizeLine /\
 ((J.stop i H2 ∧ ∀ D, H2 D = none → D ≠ sysModules → Q (.ref D) (upd H2 D (.lst ys))) ∨
  (J.go i H2 ∧ ∀ x H3, J.d7 i H2 x H3 → g x τ H3 fun z H4 => tt z H4 fun ok H5 => if ok = true then te z H5 fun y H6 => ∃ F, F < m ∧ W (i + 1) F z (ys ++ [y]) H6 else ∃ F, F < m ∧ W (i + 1) F z ys H5))
theorem yd{α:Type}{Q:VK}{em:Addr->Env->Sem Unit}(len:α->Nat)(ho:α->HO)(a0:α)(At:α->Obj->Prop)(tm:(α->Hp->Prop)->α->St->Hp->Prop)(Xi:clausesOf e=[{tg,iter,Zo,0}])(hsz:sizeOk dt)(cu:∀it D env,(∀B:OQ,B.under (.compLoop e 0 it (.ref D) env)=B)/\'c'.den (.compLoop e 0 it (.ref D) env)=Sem.onRaise (do
   QM iter.pos
   match<-Rh it with
   | none=>pure (.done .next)
   | some v =>
    Qw tg it v
    SZ tg env v
    let mut ok:=true
    for c in Zo do
     if ok then ok<-T8 c env (PH c env)
    if ok then
     em D env
    again (.compLoop e 0 it (.ref D) env)) (λx=>do Sm x env;theTreesLotGoes x))(hst:∀{A:OQ}{R:Tw->KE->Prop}{s:KE}{it Z1:Value}{env:Env},QC 'c' A (.compLoop e 0 it Z1 env) R s->OE 'c' A (pyIter it) (λc4 s'=>QC 'c' A (.compLoop e 0 c4 Z1 env) R s') (notedBy 'c' A env λx s'=>R (.error x) s') s->QC 'c' A (.compStart e 0 it Z1 env) R s)(h0:At a0 { cls:=.type T,dict:=none,data:=dt })(YB:({ cls:=.type T,dict:=none,data:=dt }:Obj).isFreed=false)(a9:∀{ys o},At ys o->∀v,o.data≠.cell v)(bL:∀{ys o H' h D},At ys o->len ys<sizeLine->D≠sysModules->h.get? D=some o->au X.prog X.w H' h D (ho ys))(cp:∀Go C fp s H pins' s8 τ H8 ys ob D (K:α->Hp->Prop),Inv 'b' pins' τ H8 s8->tm K ys τ H8->At ys ob->len ys<sizeLine->(D,ob)∈pins' ->
   OE 'c' X.A (em D 'b'.env) (λ_ s'=>∃s9 b5 H9 ax h' tk,s'={ s9 with heap:=h',toks:=tk }/\K b5 H9/\Inv 'b' pins' τ H9 s9/\At b5 ax/\h'.get? D=some ax/\Qj D s9.heap h') (λ_ _=>False) s8)(hc:c=true->X.calm=true)(L:ay X sc N' ix)(hi:PIc c X tg iter wi)(hg:∀Go C fp s H,PG 'b' tg g)(ht:∀Go C fp s H,PTs 'b' Zo tt)(hs:∀x,O8 iter X.env x=pure x)(I:Inv X Go σ H s)(h:wi σ H λJ H1=>∃W:Nat->Nat->St->α->Hp->Prop,(∃m,W 0 m (cb ix σ) a0 H1)/\∀i m τ ys H2,W i m τ ys H2->len ys<sizeLine /\
   ((J.stop i H2 ∧ ∀ D, H2 D = none → D ≠ sysModules → Q (.ref D) (upd H2 D (ho ys))) ∨
    (J.go i H2 ∧ ∀ x H3, J.d7 i H2 x H3 → g x τ H3 fun aT H4 => tt aT H4 fun ok H5 => if ok = true then tm (fun zs H6 => ∃ m', m' < m ∧ W (i + 1) m' aT zs H6) ys aT H5 else ∃ m', m' < m ∧ W (i + 1) m' aT ys H5)))(kk:∀(C D:Addr)(oC:Obj)(H':Hp)(s5:KE)(m5:Str->Option Value),Inv X (Go++[(C,oC)]) σ H' s5->(∀{hp:Heap},hp.get? C=some oC->hp.Ns C m5)->(∀{bq:St}{a5:Hp}{s':KE}{h':Heap},Inv X Go bq a5 s'->a5 C=none->Qj C s'.heap h'->Inv X Go bq a5 { s' with heap:=h' })->Q (.ref D) H'->compPost 'c' X.A X.xe use R (.ref D) C (.ok .next) s5):
  OE 'c' X.A (Sw e sc X.env (SN [{tg,iter,Zo,0}] pos) (newObj (.type T) dt none) (Ud [{tg,iter,Zo,0}]) (firstIter [{tg,iter,Zo,0}] X.env) use) R X.xe s:=by
 have WZ:RG sc X.env=pure (cz X.env.cells sc.names []):=xi λy hy hk=>I.ok.has y.1 (.inl (L.free y hy hk).1);refine wpAny_comprehension_free (use:=use) Xi hs WZ L.kind L.names (thn (hi Go s σ H _ I h) λv s1 h1=>thn h1 λdp s2 h2=>?_);obtain ⟨it,fp,tn,J,H2,e,O,T',bx,f2,W,⟨m0,w0⟩,Yf⟩:=h2;subst e;refine Pm (A1 ?_) hsz;dsimp only;generalize a6:s2.heap.push { cls:=.type T,dict:=none,data:=dt }=Z;have hC:Z.objs.size=s2.heap.objs.size+1:=by rw [<- a6,Q9]
 have bt:s2.heap.objs.size≠Z.objs.size:=by rw [hC];exact Pe (Ri _)
 have X5:s2.heap.objs.size<=Z.objs.size:=by rw [hC];exact R9 _
 have below:∀b,b<s2.heap.objs.size->b≠Z.objs.size/\b≠s2.heap.objs.size:=λb F=>{by rw [hC];exact Pe (Rr F),Pe F};have old:∀b o,s2.heap.get? b=some o->(Ra (Z.push { cls:=.type "dict",data:=.dict #[] }) sc.names).get? b=some o:=λb o e=>Rn _ _ _ _ (Ou _ (a6 ▸ Ou _ e));have WY:(Ra (Z.push { cls:=.type "dict",data:=.dict #[] }) sc.names).Ns Z.objs.size λ_=>none:=(Ns.new Z (.type "dict")).keeps (Rn _ _);have own:ji X.env.cells sc Z.objs.size (Ra (Z.push { cls:=.type "dict",data:=.dict #[] }) sc.names):=.mk' (Q9 ..);have Y6:(Ra (Z.push { cls:=.type "dict",data:=.dict #[] }) sc.names).get? s2.heap.objs.size=some { cls:=.type T,dict:=none,data:=dt }:=Rn _ _ _ _ (Ou _ (a6 ▸ ON _ YB));generalize Ra (Z.push { cls:=.type "dict",data:=.dict #[] }) sc.names=h₁ at old WY own Y6 ⊢;have fl:∀b∈fp,b<s2.heap.objs.size:=λb F=>by
  obtain ⟨o,e,_⟩:=T'.obj 0 _ bx b F;exact OX e
 have X4:s2.heap.objs.size∉fp:=λz=>O9 _ (fl _ z);generalize S:s2.heap.objs.size=D at *
 generalize dq:Z.objs.size=C at *
 have bP:tn 0 h₁:=T'.keep _ _ _ bx λb _ o e=>old b o e;have I3:Inv (zy X sc N' Go C fp s2 H2) [] (cb ix σ) H2 { s2 with heap:=h₁ }:=uM (tk:=s2.toks) O L f2 (λb F=>by rw [S];exact fl b F) (by rw [S];exact X5) WY old own;have D0:H2 D=none:=O.hok.fresh (TQ S);have fD:∀{H':Hp},H' D=none->az (zy X sc N' Go C fp s2 H2) [] H' D:=λ{H'} hn=>by
  refine {hn,bt,λz=>?_,.inr (TQ S),λx c hx z=>?_,λp hp z=>?_}
  .obtain ⟨_,o,ho,_⟩:=O.stack.mem (show D∈frs X.stack from z);exact absurd (OX ho) (by rw [S];exact O9 _)
  .rcases own.ed x c hx with a|a
   .have:=a.1;rw [z] at this;exact absurd this (Tt.mpr X5)
   .obtain ⟨v,q⟩:=O.cell x c a.1;have:=q.lt;rw [z,S] at this;exact O9 _ this
  .have c6:p∈X.pn++Go:=by
    have:p∈(X.pn++Go)++[]:=hp;simpa using this
   have:=OX (O.pin p c6).1;rw [z,S] at this;exact O9 _ this
 have fF:∀{H':Hp},(∀b∈fp,H' b=none)->∀b∈fp,az (zy X sc N' Go C fp s2 H2) [] H' b:=λ{H'} hn b F=>by
  obtain ⟨_,g1,g2,g3,g4,g5⟩:=f2 b F;refine {hn b F,(below b (fl b F)).1,λz=>?_,.inl F,λx c hx=>?_,λp hp=>g5 p ?_}
  .rcases OL.mp (O.aj b z) with e|e
   .exact g1 e
   .exact g2 e
  .rcases own.ed x c hx with a|a
   .have:=a.1;have:=fl b F;exact λz=>by subst z;lia
   .exact g4 x c a.1
  .have:p∈(X.pn++Go)++[]:=hp;simpa using this
 have a3:∀s₃:KE,s₃={ s2 with heap:=h₁ } ->
   QC 'c' X.A (.compLoop e 0 (.ref it) (.ref D) (compEnvC sc (fA X.env.cells sc C) C X.env))
    (compPost 'c' X.A X.xe use R (.ref D) C) s₃:=by
  rintro s₃ rfl;refine MR (cu _ _ _) (λn s'=>∃i τ ys H',Inv (zy X sc N' Go C fp s2 H2) [] τ H' s'/\tn i s'.heap/\(∀b∈fp,H' b=none)/\H' D=none/\(∃ob,At ys ob/\s'.heap.get? D=some ob)/\W i n τ ys H')
   ?_ m0 {0,_,a0,H2,I3,bP,λb F=>(f2 b F).1,D0,{_,h0,Y6},w0}
  rintro n s4 ⟨i,τ,ys,H4,I4,b6,b8,G,⟨ob,av,dg⟩,w4⟩;obtain ⟨ZO,step⟩:=Yf i n τ ys H4 w4;rcases step with ⟨stop,Y7⟩|⟨go,step⟩
  .refine thn (T'.done (zy X sc N' Go C fp s2 H2) rfl rfl rfl hc i [(D,ob)] s4 τ H4 (λ_ _=>False) (I4.Ut λp hp=>?_) (λb F=>?_) b6 stop) λr s5=>x2e λhr I5=>?_
   .have e:p=(D,ob):=by simpa using hp
    subst e;obtain ⟨g0,g1,g2,_⟩:=fD G;exact {dg,g0,g1,g2,a9 av}
   .obtain ⟨g0,g1,g2,g3,g4,g5⟩:=fF b8 b F;refine {g0,g1,g2,g3,g4,λp hp=>?_};rcases Pi.mp hp with z|z
    .exact g5 p (Pb _ z)
    .have e:p=(D,ob):=by simpa using z
     subst e;exact λq=>X4 (by have q':D=b:=q;rw [q'];exact F)
   .subst hr;have c0:=(I5.pin (D,_) (Oy _ (O3.mpr rfl))).1;obtain ⟨m5,da,_⟩:=id I5.loc;have ZD:∀b o,s2.heap.get? b=some o->b≠C/\b≠D:=λb o e=>by
     have:=OX e;rw [S] at this;exact below b this
    have bp:D≠sysModules:=by have h:OB<s2.heap.objs.size:=(O.mod.glob.keeps O.bk).lt;rw [S] at h;exact RD (Q6 'd' h)
    have U:=I5.base;have IX:Inv X Go σ (upd H4 D (ho ys)) s5:=by
     refine O.dC (s':=s5) (ch:=fp) I5.os {λb o e n F hx=>U.keep b o e n F hx,λb o e n F hx=>U.slot b o e n F hx,λb o e n hx=>?_,λb o e hx=>U.there b o e hx,λb xs e=>?_,λb o u e=>?_,λb ps e=>?_} ?_ I5.bare (λb F=>?_)
     .rw [zg (ZD b o e).2];exact U.free b o e n hx
     .have q:=U.tups b xs e;rw [zg (zz q G)];exact q
     .have q:=U.frzs b o u e;rw [zg (zz q G)];exact q
     .obtain ⟨more,q⟩:=U.tbls b ps e;exact {more,by rw [zg (zz q G)];exact q}
     .exact I5.hok.add G (bL av ZO bp c0)
     .obtain ⟨_,g1,g2,g3,g4,g5⟩:=f2 b F;exact ⟨g3,g1,g4,g5⟩
    obtain ⟨oC,c3,ct,gC,rC⟩:=id da;have a8:∀v,oC.data≠.cell v:=λv z=>by rw [rC.1] at z;cases z
    have bf:C≠D:=Pd bt;have HC:upd H4 D (ho ys) C=none:=by rw [zg bf];exact I5.free
    have a4:C≠X.env.locals:=λz=>by
     have:=O.lt;rw [<- z,S] at this;exact absurd (O2 this X5) (O9 _)
    have cC:C∉X.fs:=O.e9 (by rw [S];exact X5);have b9:=IX.Ut (pins':=Go++[(C,oC)]) λp hp=>by
     rcases Pi.mp hp with z|z
     .exact IX.pin p (Oy _ z)
     .rw [O3.mp z];exact ⟨gC,HC,a4,cC,a8⟩
    refine kk C D oC _ s5 m5 b9 (λe=>⟨oC,c3,ct,e,rC⟩) (λ{dc H6 s6 h'} I7 cD XD=>I7.turned (t':=s6.toks) (it:=C) (λb o F e=>(XD.2 b F).trans e) cD a4 (.inr (Pt O.sz (by rw [S];exact X5))) (λx c hx z=>?_) (λp hp z=>?_)) (Y7 D G bp)
    .obtain ⟨v,q⟩:=O.cell x c hx;have:=q.lt;rw [z,S] at this;exact absurd (O2 this X5) (O9 _)
    .have:=OX (O.pin p hp).1;rw [z,S] at this;exact absurd (O2 this X5) (O9 _)
  .refine thn (T'.item (zy X sc N' Go C fp s2 H2) rfl rfl rfl hc i [(D,ob)] s4 τ H4 (λ_ _=>False) (I4.Ut λp hp=>?_) (λb F=>?_) b6 go) λr s5=>x3e λu hr h5=>?_
   .have e:p=(D,ob):=by simpa using hp
    subst e;obtain ⟨g0,g1,g2,_⟩:=fD G;exact {dg,g0,g1,g2,a9 av}
   .obtain ⟨g0,g1,g2,g3,g4,g5⟩:=fF b8 b F;refine {g0,g1,g2,g3,g4,λp hp=>?_};rcases Pi.mp hp with z|z
    .exact g5 p (Pb _ z)
    .have e:p=(D,ob):=by simpa using z
     subst e;exact λq=>X4 (by have q':D=b:=q;rw [q'];exact F)
   .subst hr;refine thn h5 λ_ s6=>x5e λx H6 I6 r6 Ye=>?_;obtain ⟨y6,a7,c5⟩:=Ye;obtain ⟨aI,cP,_⟩:=I6.pin (D,_) (Oy _ (O3.mpr rfl));have b7:H6 D=none:=cP;have b0:∀b∈D::fp,az (zy X sc N' Go C fp s2 H2) [] H6 b:=λb F=>by
     rcases OL.mp F with z|z
     .subst z;exact fD b7
     .exact fF c5 b z
    have ba:∀b∈D::fp,∃o,s6.heap.get? b=some o/\∀v,o.data≠.cell v:=λb F=>by
     rcases OL.mp F with z|z
     .subst z;exact {_,aI,a9 av}
     .exact T'.obj _ _ a7 b z
    have cv:=(I6.KN (Go:=[])).pinned b0 ba;refine thn (hg Go C fp s2 H2 _ s6 τ H6 x u _ cv r6 (step x H6 y6)) λ_ s7=>x4e λai H7 I7 q7=>?_;refine thn (ht Go C fp s2 H2 _ s7 ai H7 _ I7 q7) λok s8=>x3e λH8 I8 q8=>?_;have back:∀{s9:KE}{H9:Hp},Inv (zy X sc N' Go C fp s2 H2) ([]++fo (D::fp) s6.heap) ai H9 s9->s9.heap.get? D=some ob/\H9 D=none/\tn (i+1) s9.heap/\∀b∈fp,H9 b=none:=λ{s9 H9} I9=>by
     have pin:∀b o,b∈D::fp->s6.heap.get? b=some o->s9.heap.get? b=some o/\H9 b=none:=λb o F e=>by
      have q:=I9.pin (b,o) (Oy _ (Oy _ (dj F e)));exact ⟨q.1,q.2.1⟩
     refine {(pin D _ OI aI).1,(pin D _ OI aI).2,T'.keep _ _ _ a7 λb F o e=>(pin b o (Oz _ F) e).1,λb F=>?_};obtain ⟨o,e,_⟩:=T'.obj _ _ a7 b F;exact (pin b o (Oz _ F) e).2
    cases ok with
    | false =>
     obtain ⟨b1,b2,b3,b4⟩:=back I8;simp only [QH,if_false] at q8 ⊢;obtain ⟨m',hm,w'⟩:=q8;exact {m',hm,i+1,ai,ys,H8,I8.KN,b3,b4,b2,⟨ob,av,b1⟩,w'}
    | true =>
     simp only [if_true] at q8 ⊢;refine thn (cp Go C fp s2 H2 _ s8 ai H8 ys ob D _ I8 q8 av ZO (Oy _ (dj OI aI))) λ_ s'=>?_;rintro ⟨s9,zs,H9,ax,df,tk,rfl,⟨m',hm,w'⟩,I9,c2,c7,sb⟩;obtain ⟨b1,b2,b3,b4⟩:=back I9;obtain ⟨_,g1,_,g3,g4,g5⟩:=fD b2;exact {m',hm,i+1,ai,zs,H9,(I9.KN (Go:=[])).turned (t':=tk) (λb o F e=>(sb.2 b F).trans e) b2 g1 g3 g4 g5,T'.keep _ _ _ b3 λb F o e=>(sb.2 b λq=>X4 (by rw [<- q];exact F)).trans e,b4,b2,⟨ax,c2,c7⟩,w'}
 exact hst (a3 _ rfl) (T'.self _ 0 _ _ _ bP (a3 _ rfl))
theorem yq(hc:c=true->X.calm=true)(L:ay X sc N' ix)(hi:PIc c X tg iter wi)(hg:∀Go C fp s H,PG 'b' tg g)(ht:∀Go C fp s H,PTs 'b' G tt)(he:∀Go C fp s H,PE 'b' YZ te)(hs:∀x,O8 iter X.env x=pure x)(I:Inv X Go σ H s)(h:tLC ix wi g tt te σ H Q)(kk:∀(C D:Addr)(W:Obj)(H':Hp)(s5:KE)(m5:Str->Option Value),Inv X (Go++[(C,W)]) σ H' s5->(∀{hp:Heap},hp.get? C=some W->hp.Ns C m5)->(∀{O:St}{F:Hp}{s':KE}{h':Heap},Inv X Go O F s'->F C=none->Qj C s'.heap h'->Inv X Go O F { s' with heap:=h' })->Q (.ref D) H'->compPost 'c' X.A X.xe use R (.ref D) C (.ok .next) s5):
  OE 'c' X.A (Sw (.ListComp YZ [{tg,iter,G,0}] sc pos) sc X.env (SN [{tg,iter,G,0}] pos) (newList []) (Ud [{tg,iter,G,0}]) (firstIter [{tg,iter,G,0}] X.env) use) R X.xe s:=by
 refine yd (e:=.ListComp YZ [{tg,iter,G,0}] sc pos) (em:=λD env=>do let _<-call (.builtin "list.append") [.ref D,<- PH YZ env]) (T:="list") (dt:=.seq ([]:List Value).toArray) R8 HO.lst [] (λys o=>∃its k,zu ys its/\o={ cls:=.type "list",data:=.seq its.toArray k }) (λK ys τ H=>te τ H λy H'=>K (ys++[y]) H') rfl (by size_fits) (λ_ _ _=>{λ_=>rfl,rfl}) codeAny_compStart_list {[],0,.nil,rfl} rfl ?_ ?_ ?_ hc L hi hg ht hs I h kk
 .rintro ys o ⟨its,k,_,rfl⟩ v z;cases z
 .rintro ys o H' h D ⟨its,k,S,rfl⟩ hl _ e;exact {Sa hl,its,k,S,e}
 .rintro Go C fp s H pins' s8 τ H8 ys ob D K I8 q8 ⟨its,k,S,rfl⟩ hl hD;refine we (thn (he Go C fp s H _ s8 τ H8 _ I8 q8) λy s9=>x5e λyv H9 Z r9 w'=>?_);have el:its.toArray.size<=sizeLine:=by
   have:=S.length;simp only [OR];lia
  refine we (append_at (hsz:=el) (Z.pin _ (Oy _ hD)).1 λU sb J=>Ot {s9,_,H9,_,U,s9.toks,rfl,w',Z,{its++[y],k+1,S.append (.cons r9 .nil),rfl},?_,sb});rw [J];simp
theorem fe(hc:c=true->X.calm=true)(L:ay X sc N' ix)(hi:W (PIc c X tg iter wi))(S:∀Go C fp s H,W (PG 'b' tg g))(ht:∀Go C fp s H,W (PTs 'b' Zo tt))(he:∀Go C fp s H,W (PE 'b' YZ te))(hs:∀x,O8 iter X.env x=pure x:=by intro _;rfl):W (PE X (.ListComp YZ [{tg,iter,Zo,0}] sc pos) (tLC ix wi g tt te)):=by
 refine {?_};have hi:=hi.h;have S:=λF G J z O=>(S F G J z O).h;have ht:=λF G J z O=>(ht F G J z O).h;have he:=λF G J z O=>(he F G J z O).h;intro Go s σ H Q I h;rw [eval_ListComp];refine yq (use:=none) hc L hi S ht he hs I h λC D oC H' s5 m5 Z ns tu q=>?_;obtain ⟨p6,U,_⟩:=Z.pin (C,oC) (Oy _ (Oy _ (O3.mpr rfl)));exact {m5,ns p6,λh' XD=>{.ref D,H',tu (Z.Ut λp hp=>Z.pin p (Oy _ (Pb _ hp))) U XD,rfl,q}}
def Ctx(H:Hp)(vs:Array Value):Prop:=∃cv,vs[2]?=some cv/\(cv = .none\/∃b k,cv = .ref b/\Chn H k b)
structure aY(Hc:Hp)(B:Heap)(l:List Env)(e:Addr)(cls fl:Value)(h:Heap):Prop where
 stays:B.StaysIn h
 new:B.get? e=none
 frames:h.FunFrames B l
 obj:∃oe vs,h.get? e=some oe/\oe.cls=cls/\oe.dict=none/\oe.data = .fields vs/\2<vs.size/\Ctx Hc vs /\
  (vs[1]?=some .none\/∃T oT ts,vs[1]?=some (.ref T)/\B.get? T=none/\T≠e/\h.get? T=some oT/\oT.data = .fields ts/\ts[3]?=some fl)
section
variable {M:Model}{A:OQ}{E:Value->KE->Prop}{s:KE}{Hc:Hp}{B:Heap}{env:Env}{outer l:List Env}{L e:Addr}{cls fl:Value}
theorem sR(o:Obj)(f:Array Value->Array Value):(o.mapFields f).dict=o.dict:=by
 obtain ⟨c,d,dt,sl⟩:=o;cases dt<;>rfl
theorem AU(YB:A.frames=some (env::outer))(hf:env.frame=some L)(st:B.StaysIn s.heap)(O:B.get? e=none)(hl:s.heap.FunFrames B (env::outer))(he:s.heap.get? e=some oe)(hc:oe.cls=cls)(Yu:oe.dict=none)(hd:oe.data = .fields vs)(hz:2<vs.size)(h2:Ctx Hc vs)(k:∀h',aY Hc B (env::outer) e cls (Pu L) h'->s.heap.UpToSlots h'->Q () { s with heap:=h' }):
  OE M A (do let a<-frameOf env;let pl<-entryPlaceOf L G;let b<-EntryCells.newEntry head a .none (Pu L) .none pl;RC (.ref e) 1 b) Q E s:=by
 have J:e∉(env::outer).filterMap (·.frame):=λz=>by
  obtain ⟨_,o,W,nf⟩:=hl.mem z;rw [he] at W;cases W;exact nf vs hd
 refine we (wpAny_frameOf_fun YB hl hf λg only=>?_);obtain ⟨_,same,slots⟩:=only;refine we (wpAny_entryPlaceOf λpl Yt=>?_);have Xq:∀(tb:Obj)(ts:Array Value),tb.data = .fields ts->ts[3]?=some (Pu L)->OE M A (RC (.ref e) 1 (.ref g.objs.size)) Q E { s with heap:=g.push tb }:=by
  intro tb ts td t3;have Z:g.get? e=some oe:=(same e J).trans he;have S:(g.push tb).get? e=some oe:=Ou _ Z;have hT:(g.push tb).get? g.objs.size=some tb:=ON _ (by rw [Qb td]);have X7:g.objs.size≠e:=RD (OX Z);have fresh:B.get? g.objs.size=none:=by
   cases q:B.get? g.objs.size with
   | none=>rfl
   | some o =>
    obtain ⟨sl,z⟩:=slots _ o (st _ o q);exact absurd (OX z) (O9 _)
  have F:∀b o,b≠e->g.get? b=some o->((g.push tb).update e (RL (·.setIfInBounds 1 (.ref g.objs.size)))).get? b=some o:=λb o hb q =>
   (OW _ _ (Pd hb)).trans (Ou _ q)
  have U:∀b o,s.heap.get? b=some o->(∀ws,o.data≠.fields ws)->b≠e:=λb o q nf z=>by
   rw [z,he] at q;cases q;exact nf vs hd
  have dd:=QJ hd (·.setIfInBounds 1 (OH g.objs.size));refine Px S hd 'l' (k _ {λb o q=>?_,O,?_,?_} λb o q nf=>?_)
  .refine F b o (λz=>by rw [z,O] at q;cases q) ((same b λz=>?_).trans (st b o q));rw [(hl.mem z).1] at q;cases q
  .refine hl.of_keeps λb o q nf=>?_;obtain ⟨sl,z⟩:=slots b o q;exact {_,F b _ (U b o q nf) z,rfl}
  .refine {_,_,Pq _ S (Qb dd),(Rx _ _).trans hc,(sR _ _).trans Yu,dd,by simpa using hz,(by obtain ⟨cv,q1,q2⟩:=h2;exact {cv,by rw [Se 'd'];exact q1,q2}),.inr {g.objs.size,tb,ts,?_,fresh,X7,?_,td,t3}}
   .rw [PC 'l']
   .rw [OW _ _ (Pd X7)];exact hT
  .obtain ⟨sl,z⟩:=slots b o q;exact {sl,F b _ (U b o q nf) z}
 unfold EntryCells.newEntry newFields;refine we (Pm ?_ (Yt.sizeOk5 _ _ _ _ _));exact Xq _ _ rfl 'z'
theorem kZ(Z:A.frames=some (env::outer))(hf:env.frame=some L)(x:aY Hc B (env::outer) e cls fl s.heap)(k:∀h',aY Hc B (env::outer) e cls (Pu L) h'->s.heap.UpToSlots h'->Q () { s with heap:=h' }):OE M A (Sm (.ref e) env) Q E s:=by
 obtain ⟨st,J,hl,oe,vs,he,S,O,hd,hz,h2,h1⟩:=x;unfold Sm;simp only [hf];rcases h1 with h1|⟨T,oT,ts,h1,nT,Te,G,dT,U⟩
 .refine we (Pk he hd h1 ?_);rw [if_neg (show ¬ ((Pj != Pj)=true) by decide)];exact AU Z hf st J hl he S O hd hz h2 k
 .refine we (Pk he hd h1 ?_);rw [if_pos (show (OH T != Pj)=true by simp)];refine we (Pk G dT U ?_);by_cases F:fl=Pu L
  .subst F;rw [if_pos (show (Pu L==Pu L)=true by simp)];exact Ot (k s.heap {st,J,hl,oe,vs,he,S,O,hd,hz,h2,.inr ⟨T,oT,ts,h1,nT,Te,G,dT,U⟩} (UpToSlots.refl _))
  .rw [if_neg (show ¬ ((fl==Pu L)=true) by simpa using F)];refine we (Px G dT (Py.mp U).1 ?_);have oth:∀b,b≠T->(s.heap.update T (RL (·.setIfInBounds 3 Pj))).get? b=s.heap.get? b:=λb hb=>OW _ _ (Pd hb);have W:∀b o,s.heap.get? b=some o->(∀ws,o.data≠.fields ws)->b≠T:=λb o q nf z=>by
    rw [z,G] at q;cases q;exact nf ts dT
   refine AU (B:=B) (cls:=cls) Z hf (λb o q=>?_) J (hl.of_keeps λb o q nf=>{o,(oth b (W b o q nf)).trans q,rfl}) ((oth e (Pd Te)).trans he) S O hd hz h2 λh' y up=>k h' y λb o q nf=>up b o ((oth b (W b o q nf)).trans q) nf;exact (oth b λz=>by rw [z,nT] at q;cases q).trans (st b o q)
theorem gv(x:aY Hc B l e cls fl s.heap)(k:∀h',aY Hc B l e cls .none h'->s.heap.UpToSlots h'->Q () { s with heap:=h' }):OE M A (setFlight (.ref e) none) Q E s:=by
 obtain ⟨st,J,hl,oe,vs,he,W,O,hd,hz,h2,h1⟩:=x;unfold setFlight;rcases h1 with h1|⟨T,oT,ts,h1,U,Z,G,dT,t3⟩
 .refine we (Pk he hd h1 ?_);rw [if_neg (show ¬ ((Pj != Pj)=true) by decide)];exact Ot (k s.heap {st,J,hl,oe,vs,he,W,O,hd,hz,h2,.inl h1} (UpToSlots.refl _))
 .refine we (Pk he hd h1 ?_);rw [if_pos (show (OH T != Pj)=true by simp)];have F:3<ts.size:=(Py.mp t3).1;have dd:=QJ dT (·.setIfInBounds 3 Pj);have oth:∀b,b≠T->(s.heap.update T (RL (·.setIfInBounds 3 Pj))).get? b=s.heap.get? b:=λb hb=>OW _ _ (Pd hb);have S:∀b o,s.heap.get? b=some o->(∀ws,o.data≠.fields ws)->b≠T:=λb o q nf z=>by
   rw [z,G] at q;cases q;exact nf ts dT
  refine Px G dT F (k _ {λb o q=>(oth b λz=>by rw [z,U] at q;cases q).trans (st b o q),J,hl.of_keeps λb o q nf=>{o,(oth b (S b o q nf)).trans q,rfl},oe,vs,(oth e (Pd Z)).trans he,W,O,hd,hz,h2,
   .inr {T,_,_,h1,U,Z,Pq _ G (Qb dd),dd,?_}} λb o q nf=>{o.slots,(oth b (S b o q nf)).trans q})
  rw [PC F]
theorem HA(F:A.frames=some (env::outer))(hf:env.frame=some L)(x:aY Hc B (env::outer) e cls fl s.heap)(k:∀h',aY Hc B outer e cls .none h'->s.heap.UpToSlots h'->Q () { s with heap:=h' }):OE M A (leaving env (.ref e)) Q E s:=by
 unfold leaving;refine we (kZ F hf x λh1 y u1=>gv (s:={ s with heap:=h1 }) y λh2 z u2=>?_);obtain ⟨a,b,⟨_,_,c⟩,d⟩:=z;exact k h2 ⟨a,b,c,d⟩ (u1.trans u2)
end
noncomputable def CXW(P:OF)(w:OS):CXT:=λouter H s E e s'=>∃(ea C:Addr)(B:Heap)(H':Hp)(z:KE),e = .ref ea/\aY H' B outer ea (.ref C) .none s'.heap/\Un (frs outer) [] H H' s.heap z.heap/\HOk P w H' z.heap /\
 z.os=s.os/\Rz z.gens/\s'.os=s.os/\Rz s'.gens/\(∀b o,z.heap.get? b=some o->b∉frs outer->B.get? b=some o)/\z.heap.UpToSlots s'.heap/\E (.ref C) none H'
def aL(X:Cx)(Ex:Addr->St->Hp->Prop):Prop:=∀(Go:List (Addr×Obj))(σ:St)(H:Hp)(z:KE)(ea C:Addr)(B:Heap)(fl:Value)(s':KE),Inv X Go σ H z->aY H B X.stack ea (.ref C) fl s'.heap->s'.os=z.os->Rz s'.gens ->
 (∀b o,z.heap.get? b=some o->b∉frs X.stack->B.get? b=some o)->z.heap.UpToSlots s'.heap->Ex C σ H->X.xe (.ref ea) s'
theorem jZ:aL X (λ_ _ _=>False):=λ_ _ _ _ _ _ _ _ _ _ _ _ _ _ _ h=>h.elim
theorem bA{K:Ow}:
  aL (bF (CXW P w) cm P w K mg base N qual scope f cd A outer s H E) (λC _ H'=>E (.ref C) none H'):=by
 intro Go σ H' G ea C B fl s' I x os bare hB S q;have Z:A.frames=some outer:=by
  have:=I.ok.frames;cases h:A.frames with
  | none =>
   have z:(A.deeper (QR qual scope s.heap.objs.size f cd)).frames=none:=by
    first|(show (A.frames.map _)=none;rw [h];rfl)|simp [OQ.deeper,OQ.under,h]
   rw [show (bF (CXW P w) cm P w K mg base N qual scope f cd A outer s H E).A=A.deeper (QR qual scope s.heap.objs.size f cd) from rfl,z] at this;cases this
  | some l =>
   have z:=OQ.frames_deeper (env:=QR qual scope s.heap.objs.size f cd) h;rw [show (bF (CXW P w) cm P w K mg base N qual scope f cd A outer s H E).A=A.deeper (QR qual scope s.heap.objs.size f cd) from rfl,z] at this;have:=O6.inj this;exact congrArg some (List.cons.inj this).2
 show OE (OK P w) (A.deeper (QR qual scope s.heap.objs.size f cd)) (leaving (QR qual scope s.heap.objs.size f cd) (.ref ea)) _ _ s';refine HA (L:=s.heap.objs.size) (OQ.frames_deeper Z) rfl x λh' y u=>?_;have J:∀b o,b≠s.heap.objs.size->G.heap.get? b=some o->(Ua G.heap [s.heap.objs.size]).get? b=some o:=λb o F e=>hideAll_get _ e (by simpa using F);have U:=I.base;have lt:∀b o,s.heap.get? b=some o->b≠s.heap.objs.size:=λb o e=>Pe (OX e);have O:∀b:Addr,b∉(bF (CXW P w) cm P w K mg base N qual scope f cd A outer s H E).ex:=λb z=>absurd (show b∈([]:List Addr) from z) 'z';refine {ea,C,B,H',{ G with heap:=Ua G.heap [s.heap.objs.size] },rfl,y,{λb o e n F _=>J b o (lt b o e) (U.keep b o e n F (O b)),λb o e n F _=>?_,λb o e n _=>U.free b o e n (O b),λb o e _=>?_,U.tups,U.frzs,U.tbls},
  I.hok.but (C:=s.heap.objs.size) I.free J,I.os,I.bare,os.trans I.os,bare,λb o e F=>?_,λb o e nf=>?_,q}
 .obtain ⟨sl,z⟩:=U.slot b o e n F (O b);exact {sl,J b _ (lt b o e) z}
 .obtain ⟨o',z⟩:=U.there b o e (O b);exact {o',J b _ (lt b o e) z}
 .have e':=Sl _ e;refine hB b o e' λz=>?_;have z':b∈s.heap.objs.size::frs outer:=z;rcases OL.mp z' with r|r
  .rw [r] at e;have z9:(Ua G.heap [s.heap.objs.size]).get? s.heap.objs.size=none:=PySem.W.hideAll_none _ 'z';exact absurd (z9.symm.trans e) 'z'
  .exact F r
 .exact (S.trans u) b o (Sl _ e) nf
def XE(Ex:Addr->St->Hp->Prop)(σ:St):XK:=λc _ H'=>∃C,c = .ref C/\Ex C σ H'
def kB(sp:Sp)(Zh:List V)(Ex:Addr->St->Hp->Prop)(t:TA):TE:=λσ H Q=>t σ H λvs H1=>sp (vs++Zh) H1 Q (XE Ex σ)
def fJ(C:Addr)(m:Str)(sp:Sp)(Zh:List V)(Ex:Addr->St->Hp->Prop)(ta:TE)(t:TA):TE:=λσ H Q=>ta σ H λx H1=>∃a dx fs,x = .ref a/\H1 a=some (.ins C dx fs)/\fs.lookup m=none /\
 t σ H1 λvs H2=>sp (x::(vs++Zh)) H2 Q (XE Ex σ)
def DA(C:Addr)(sp:Sp)(Zh:List V)(Ex:Addr->St->Hp->Prop)(t:TA):TE:=λσ H Q=>t σ H λvs H1=>∀x dx,H1 x=none->H1 dx=none->dx≠x ->
 sp (.ref x::(vs++Zh)) (upd (upd H1 dx (.own x)) x (.ins C dx [])) (λv H2=>v = .non/\Q (.ref x) H2) (XE Ex σ)
section
variable {X:Cx}{cm:Bool}{k:Nat}{f C:Addr}{fd:OG}{ps:List Str}{sp:Sp}{Zh:List V}{ds:List Value}{Ex:Addr->St->Hp->Prop}{x m:Str}{p pos ZZ:Pos}{e o:OU}{es:List OU}{ta:TE}{t:TA}
theorem aL.of(T:aL X Ex)(I:Inv X Go σ H s)(h:CXW X.prog X.w X.stack H s (XE Ex σ) v s'):X.xe v s':=by
 obtain ⟨ea,C,B,H',O,rfl,y,un,hok,os,bare,G,F,S,J,U,ec,q⟩:=h;cases ec;exact T Go σ H' O ea C B .none s' (I.dC os un hok bare λb z=>absurd z 'z') y (G.trans os.symm) F S J q
theorem oS(T:aL X Ex)(F:zq X.prog X.w X.K X.mg X.base (CXW X.prog X.w) cm k f fd ps sp)(hr:zE cm k X.A)(G:br X.K fd ps ds)(hd:zu Zh ds)(I:Inv X Go σ H s)(r:zu vs us)(h:sp (vs++Zh) H Q (XE Ex σ)):OE 'c' X.A (call (.ref f) us) (EP X Go σ Q) X.xe s:=by
 have r2:zu (vs++Zh) (us++ds):=r.append hd;have hl:(us++ds).length=ps.length:=by rw [<- r2.length];exact F.len _ _ _ _ h
 refine Sh (Qt (F.run X.A X.stack s H {us,[]} (us++ds) (vs++Zh) Q (XE Ex σ) hr I.ew (G s us I.UQ hl) r2 h) λr s' z=>?_);cases r with
 | error v=>exact T.of I z
 | ok fl =>
  cases fl with
  | ret u=>exact I.after z
  | next=>exact False.elim z
  | brk=>exact False.elim z
  | cont=>exact False.elim z
theorem Mm(T:aL X Ex)(F:zq X.prog X.w X.K X.mg X.base (CXW X.prog X.w) cm k f fd ps sp)(hr:zE cm k X.A)(J:Gl X x)(W:X.mg x=some (.ref f))(S:Ru X.K (.ref f)=true)(O:br X.K fd ps ds)(hd:zu Zh ds)
  (ha:PA X (e::es) t) (U:'g'=false:=by decide) (he:OV (e::es) X.env=(false,PH e X.env)::OV es X.env:=by rfl) (G:(Qz pos (OV es X.env)).any (·.1)=false:=by rfl) :
  PE X (.Call (.Name x p) (e::es) [] pos) (kB sp Zh Ex t):=by
 intro Go s σ H Q I h;refine PM (di I J W ?_ U);refine SX (h₀:=X.base) I.ok.mod.eE S (thn (ha pos Go s σ H _ I h) λus s1=>x5e λvs H1 z r q=>{z.UQ,?_}) he G;exact oS T F hr O hd z r q
theorem Ez(he:PE X o ta)(c:Cls X.K C)(O:gM X.K C m f)(T:aL X Ex)(F:zq X.prog X.w X.K X.mg X.base (CXW X.prog X.w) cm k f fd ps sp)(hr:zE cm k X.A)(U:br X.K fd ps ds)(hd:zu Zh ds)(ha:PA X (e::es) t)(hst:OV (e::es) X.env=(false,PH e X.env)::OV es X.env:=by rfl)(S:(Qz pos (OV es X.env)).any (·.1)=false:=by rfl)(Z:PH (.Call (.Attribute o m ZZ) (e::es) [] pos) X.env=(do
   let J<-PH o X.env
   QM ZZ.atName
   let (f,first)<-QA [J] (RM J m pl)
   Rp pos f first (Qz pos (OV (e::es) X.env)) (SC pos (Rc [] X.env))):=by rfl):
  PE X (.Call (.Attribute o m ZZ) (e::es) [] pos) (fJ C m sp Zh Ex ta t):=by
 intro Go s σ H Q I h;refine Tu (pl:=pl) (thn (he Go s σ H _ I h) λu s1=>x5e λx H1 z rx W=>?_) Z;obtain ⟨a,dx,fs,ex,ea,l,q⟩:=W;subst ex;obtain rfl:u=OH a:=rx;refine jO z ea c O l ?_;refine SX (first:=[.ref a]) (h₀:=X.base) I.ok.mod.eE O.kp (thn (ha pos Go s1 σ H1 _ z q) λus s2=>x5e λvs H2 G r q2=>{G.UQ,?_}) hst S;exact oS (us:=.ref a::us) (vs:=.ref a::vs) T F hr U hd G (.cons rfl r) q2
theorem FX(he:PE X o ta)(c:Cls X.K C)(J:gM X.K C m f)(T:aL X Ex)(F:zq X.prog X.w X.K X.mg X.base (CXW X.prog X.w) cm k f fd ps sp)(hr:zE cm k X.A)(O:br X.K fd ps ds)(hd:zu Zh ds)(W:PH (.Call (.Attribute o m ZZ) [] [] pos) X.env=(do
   let G<-PH o X.env
   QM ZZ.atName
   let (f,first)<-QA [G] (RM G m pl)
   Rp pos f first (Qz pos (OV [] X.env)) (SC pos (Rc [] X.env))):=by rfl):
  PE X (.Call (.Attribute o m ZZ) [] [] pos) (fJ C m sp Zh Ex ta bV):=by
 intro Go s σ H Q I h;refine Tu (pl:=pl) (thn (he Go s σ H _ I h) λu s1=>x5e λx H1 z U S=>?_) W;obtain ⟨a,dx,fs,ex,ea,l,q⟩:=S;subst ex;obtain rfl:u=OH a:=U;refine jO z ea c J l ?_;exact callWith_K0 (first:=[.ref a]) z.UQ J.kp (oS (us:=[.ref a]) (vs:=[.ref a]) T F hr O hd z (.cons rfl .nil) q)
theorem KQ(M:Mk X.K C f)(T:aL X Ex)(F:zq X.prog X.w X.K X.mg X.base (CXW X.prog X.w) cm k f fd ps sp)(hr:zE cm (k+1) X.A)(Z:Gl X x)(hm:X.mg x=some (.ref C))(hb:br X.K fd ps ds)(hd:zu Zh ds)
  (ha:PA X (e::es) t) (Zr:'g'=false:=by decide) (he:OV (e::es) X.env=(false,PH e X.env)::OV es X.env:=by rfl) (W:(Qz pos (OV es X.env)).any (·.1)=false:=by rfl) :
  PE X (.Call (.Name x p) (e::es) [] pos) (DA C sp Zh Ex t):=by
 intro Go s σ H Q I h;refine PM (di I Z hm ?_ Zr);refine SX (h₀:=X.base) I.ok.mod.eE M.kp (thn (ha pos Go s σ H _ I h) λus s1=>x5e λvs H1 z r q=>{z.UQ,?_}) he W;have O:=q (s1.heap.objs.size+1) s1.heap.objs.size (z.hok.fresh (R9 _)) (z.hok.fresh (Ov _)) (Pe (Ri _));have J:=Inv.made (C:=C) z;have r2:zu (V.ref (s1.heap.objs.size+1)::(vs++Zh)) (OH (s1.heap.objs.size+1)::(us++ds)):=.cons rfl (r.append hd);have hl:(OH (s1.heap.objs.size+1)::us++ds).length=ps.length:=by
  have e:=r2.length;rw [F.len _ _ _ _ O] at e;exact e.symm
 refine Sh (yc (f:=f) z.UQ M.makes M.init (beq_iff_eq.mp M.fn) (Qt (F.run _ X.stack _ _ {OH (s1.heap.objs.size+1)::us,[]} (OH (s1.heap.objs.size+1)::(us++ds)) _ _ (XE Ex σ) (hr.make C us [])
  (J.ew.make C us []) (hb _ (OH (s1.heap.objs.size+1)::us) J.UQ hl) r2 O) λr s' G=>?_))
 cases r with
 | error e=>exact T.of J G
 | ok fl =>
  cases fl with
  | ret u =>
   obtain ⟨v,H',I3,rv,U,S⟩:=J.after G;subst U;exact {rv,{V.ref (s1.heap.objs.size+1),H',I3,rfl,S}}
  | next=>exact False.elim G
  | brk=>exact False.elim G
  | cont=>exact False.elim G
end
theorem PS.ee{st:Stmt}{t:TS}(h:PS X.ee st t):PS X st t:=λGo s σ H D I hw =>
 OZ (h Go s σ H D (I.UT _) hw) (λ_ _ q=>q.Da) λ_ _ z=>False.elim z
theorem Fun.fG{K:Ow}{st:Stmt}{k:Nat}(F:Fun K x qual st f fd)(S:zx N ps (zo st))(len:∀vs H Q E,sp vs H Q E->vs.length=ps.length)(J:∀(z:Value)(A:OQ)(outer:List Env)(s:KE)(H:Hp)(vs:List V)(Q:VK)(E:XK),zE cm k (A.deeper (QR qual (zo st) s.heap.objs.size f z))->sp vs H Q E ->
   ∃t,PSs (bF (CXW P w) cm P w K mg base N qual (zo st) f z A outer s H E) (cS st) t/\t { nx:=λ_ H'=>Q .non H',rt:=Q } (start N vs) H):zq P w K mg base (CXW P w) cm (k+1) f fd ps sp:=by
 obtain ⟨oc,U,kV,O,pm,W,z,ct,Z,rfl,lk,hcd⟩:=F.ex;exact j7 lk hcd S len λA outer s H vs Q E hr G=>J z A outer s H vs Q E hr G
def bmV:List Value:=[.type "ValueError",.type "Exception",.type "BaseException",.type "object"]
def aZ(K:Ow)(C:Addr):Prop:=excIn K C bmV "ValueError.__new__"=true
structure nZ(h:Heap)(C:Addr)(mro:List Value):Prop where
 ex:∃bm N nm q bs hdct sn sub ab col dd k0 k1 k2 k3 k5 mN,mro = .ref C::bm/\h.get? C=some (excClassObj nm q C N bs bm hdct sn sub ab col dd k0 k1 k2 k3 k5 "ValueError.__new__")/\h.Ns N mN/\mN Wc=none/\OwnTail h bmV bm
theorem aZ.obj{K:Ow}(x:aZ K C)(X:K.In h):∃cd,clsIn K C=some cd/\nZ h C cd.mro:=by
 unfold aZ excIn at x;split at x
 .rename_i dd cd sl look;have hc:clsIn K C=some cd:=by
   unfold clsIn;rw [look]
  refine {cd,hc,?_};split at x
  .rename_i C' bm k0 k1 k2 k3 n k5 em es;simp only [O1,beq_iff_eq,T7] at x;obtain ⟨⟨⟨⟨⟨c1,c2⟩,G⟩,U⟩,z⟩,J⟩:=x;subst c1 c2;obtain ⟨O,a2,a3,a4,a5,S,a7,a8,a9,F,Z⟩:=cd;dsimp only at em G z J ⊢;subst em G;obtain ⟨sl⟩:=sl;dsimp only at es;subst es;exact {bm,a4,O,a5,a2,S,a7,a8,a9,F,dd,k0,k1,k2,k3,k5,_,rfl,X _ _ look,.of_isNs (PySem.W.isNs_of_in X z),PySem.W.nsMap_none_of_in X z J,PySem.W.tail_of_in X U}
  .cases x
 .cases x
def jz(C:Addr)(Ex:Addr->St->Hp->Prop)(t:TA):TS:=λ_ σ H=>t σ H λvs H1=>vs.length<=sizeLine/\Ex C σ H1
theorem CA{t:TA}(hc:X.calm=true)(T:aL X Ex)(O:aZ X.K C)(hg:Gl X x)(S:X.mg x=some (.ref C))(ha:PA X (e::es) t)(Zr:'g'=false:=by decide)(hst:OV (e::es) X.env=(false,PH e X.env)::OV es X.env:=by rfl)(Yt:(Qz cpos (OV es X.env)).any (·.1)=false:=by rfl):
  PS X (.Raise (some (.Call (.Name x np) (e::es) [] cpos)) none pos) (jz C Ex t):=by
 intro Go s σ H D I h;obtain ⟨cd,_,⟨bm,N,nm,q,bs,hdct,sn,sub,ab,col,dd,k0,k1,k2,k3,k5,mN,em,hC,hN,J,U⟩⟩:=O.obj I.ok.mod.eE;refine wpAny_Raise_call_subT (C:=C) (nm:=nm) (q:=q) (N:=N) (bs:=bs) (bm:=bm) (hdct:=hdct) (sn:=sn) (sub:=sub) (ab:=ab) (col:=col) (dd:=dd) (k0:=k0) (k1:=k1) (k2:=k2) (k3:=k3) (k5:=k5) (mN:=mN) S0 (U.hasType 'd') (I.ok.hd hc)
  (by rw [hst];show (false||(Qz cpos (OV es X.env)).any (·.1))=false;rw [Yt];rfl) J (di I hg S {rfl,?_} Zr)
 have Z:=ha cpos Go s σ H _ I h;rw [hst] at Z ⊢;refine Calls.evalArgs_plain (thn Z λus s2=>x5e λvs H2 F r2=>x2e λhz q2=>{rfl,by rw [<- r2.length];exact hz,F.bk _ _ hC,hN.keeps F.bk,U.keeps F.bk,λh' ea G=>?_});obtain ⟨tt,he,ai,_⟩:=G.there;have Xh:∀env∈X.stack,∀a,env.frame=some a->a∈frs X.stack:=λenv S a ha=>RP.mpr ⟨env,S,ha⟩;refine T Go σ H2 s2 ea C (Ua s2.heap (frs X.stack)) .none { s2 with heap:=h' } F {λb o e=>G.keeps b o (Sl _ e),?_,?_,?_} rfl F.bare (λb o e hb=>hideAll_get _ e hb) (λb o e _=>{o.slots,G.keeps b o e}) q2
 .cases z:(Ua s2.heap (frs X.stack)).get? ea with
  | none=>rfl
  | some o =>
   have:=Sl _ z;rw [G.new] at this;cases this
 .exact (PySem.W.funFrames_hide F.stack Xh).of_keeps λb o e _=>{o,G.keeps b o e,rfl}
 .exact {_,_,he,rfl,rfl,rfl,'z',{_,rfl,.inl rfl},.inl rfl}
section
variable {M:Model}{A:OQ}{E:Value->KE->Prop}
theorem pE{d:Drawn}{t:Nat}{os:OsState}{O mD:List Value}(W:nZ h C O)(OD:nZ h D mD)(he:h.get? e=some oe)(z:oe.cls = .ref C)(XW:O.contains (.ref D)=true)(hq:Q true ⟨h,g,d,t,os⟩):OE M A (excMatches (.ref e) (.ref D)) Q E ⟨h,g,d,t,os⟩:=by
 obtain ⟨bm,N,nm,q,bs,hdct,sn,sub,ab,col,dd,k0,k1,k2,k3,k5,mN,rfl,hC,_,_,TC⟩:=W;obtain ⟨F,N',aI,q',aT,G,ax,J,ai,S,av,j0,j1,j2,j3,j5,Z,rfl,U,_,_,TD⟩:=OD;have b1:(OH D::F).contains (.type "BaseException")=true:=by
  rw [List.contains_cons,TD.hasType (X:="BaseException") (b:=true) 'd',Bool.or_true]
 have b2:=tc_notTuple;unfold excMatches
 repeat (first|(with_reducible refine R5 he ?_;rw [z])|with_reducible refine R5 U ?_|(with_reducible refine SH U ?_;rw [b1])|(with_reducible refine SH hC ?_;rw [XW])|wp_step)
 exact hq
end
theorem au.ex{o:HO}(x:au P w H h a o):∃ob,h.get? a=some ob:=by
 cases o with
 | lst xs=>obtain ⟨_,_,_,_,e⟩:=x;exact {_,e}
 | tup xs=>obtain ⟨_,_,_,o,e,_⟩:=x;exact {_,e}
 | dK kvs=>obtain ⟨_,_,_,_,o,_,_,e,_⟩:=x;exact {_,e}
 | dT kvs=>obtain ⟨_,_,_,_,o,_,_,e,_⟩:=x;exact {_,e}
 | set S n=>obtain ⟨o,_,_,_,e,_⟩:=x;exact {_,e}
 | ins C dx fs=>obtain ⟨_,_,_,e,_⟩:=x;exact {_,e}
 | own y=>exact x
 | xd fs=>obtain ⟨_,⟨_,_,_,e,_⟩,_⟩:=x;exact {_,e}
 | rng lo hi=>obtain ⟨_,_,_,e⟩:=x;exact {_,e}
 | frz ob u=>exact {_,x.1}
 | tbl ps=>exact {_,x}
 | met f y=>exact {_,x}
 | ext z=>exact x.2.1
noncomputable abbrev cxP(X:Cx)(Go:List (Addr×Obj)):Cx:={ X with pn:=X.pn++Go }
theorem Cx.Ok.p(ok:X.Ok)(Go:List (Addr×Obj)):(cxP X Go).Ok :=
 ⟨ok.mod,ok.kind,ok.glob,ok.blt,ok.above,ok.inj,ok.has,ok.e1,ok.hd,ok.frames,ok.e4,ok.fv,ok.bs,ok.ea,ok.dk,ok.dW,ok.Vl,ok.eF⟩
theorem Inv.p(I:Inv X Go σ H s):Inv (cxP X Go) [] σ H s :=
 {I.ok.p Go,I.os,I.bare,I.base,I.loc,I.cell,I.free,I.Uz,λp hp=>I.pin p (by have h:p∈(X.pn++Go)++[]:=hp;simpa using h),I.hok,I.len,I.hdk}
theorem Inv.d8(ok:X.Ok)(I:Inv (cxP X Go) [] σ H s):Inv X Go σ H s :=
 {ok,I.os,I.bare,I.base,I.loc,I.cell,I.free,I.Uz,λp hp=>I.pin p (by show p∈(X.pn++Go)++[];simpa using hp),I.hok,I.len,I.hdk}
noncomputable abbrev g6(X:Cx)(Go:List (Addr×Obj))(Ex:Addr->St->Hp->Prop):Cx:=(cxP X Go).UT λe s'=>∃(ea C:Addr)(B:Heap)(H':Hp)(fl:Value)(σ:St)(z:KE),e = .ref ea/\Inv (cxP X Go) [] σ H' z/\aY H' B X.stack ea (.ref C) fl s'.heap /\
 s'.os=z.os/\Rz s'.gens/\(∀b o,z.heap.get? b=some o->b∉frs X.stack->B.get? b=some o)/\z.heap.UpToSlots s'.heap/\Ex C σ H'
theorem ki:aL (g6 X Go Ex) Ex:=λps σ H z ea C B fl s' I y os bare G F q =>
 {ea,C,B,H,fl,σ,z,rfl,(I.Da.Ut λp hp=>(nomatch hp)),y,os,bare,G,F,q}
noncomputable abbrev dA(X:Cx)(Go:List (Addr×Obj))(ea:Addr):Cx:={ X with pn:=X.pn++Go,A:=X.A.mark (some (.ref ea)),calm:=false,xe:=λ_ _=>False }
def dS(C:Addr)(o:Obj):Prop:=o.cls = .ref C/\o.dict=none/\∃vs,o.data = .fields vs
theorem gY(Yj:X.ex=[])(I:Inv (cxP X Go) [] σ H O)(y:aY H B X.stack ea (.ref C) fl s'.heap)(os:s'.os=O.os)(bare:Rz s'.gens)(hB:∀b o,O.heap.get? b=some o->b∉frs X.stack->B.get? b=some o)(up:O.heap.UpToSlots s'.heap):
  H ea=none/\∃oe,dS C oe/\s'.heap.get? ea=some oe/\Inv (dA X Go ea) [] σ (upd H ea (.frz oe (.own 0))) s':=by
 obtain ⟨st,hn,hl,oe,vs,he,W,Yu,hd,hz,h2,h1⟩:=y;have av:ea∉frs X.stack:=λz=>by
  obtain ⟨_,o,S,nf⟩:=hl.mem z;rw [he] at S;cases S;exact nf vs hd
 have new:O.heap.get? ea=none:=by
  cases q:O.heap.get? ea with
  | none=>rfl
  | some o =>
   have:=hB _ o q av;rw [hn] at this;cases this
 have U:H ea=none:=by
  cases q:H ea with
  | none=>rfl
  | some u =>
   obtain ⟨ob,z⟩:=(I.hok ea u q).ex;rw [new] at z;cases z
 have keep:∀b o,O.heap.get? b=some o->b∉frs X.stack->s'.heap.get? b=some o:=λb o e J=>st b o (hB b o e J);have slot:∀b o,O.heap.get? b=some o->b∈frs X.stack->∃sl,s'.heap.get? b=some { o with slots:=sl }:=λb o e J=>by
  obtain ⟨_,o',Z,nf⟩:=I.stack.mem (show b∈(cxP X Go).stack.filterMap (·.frame) from J);rw [e] at Z;cases Z;exact up b o e nf
 have F:Inv (cxP X Go) [] σ H s':=I.dC (ch:=[]) os {λb o e _ J _=>keep b o e J,λb o e _ J _=>slot b o e J,λ_ _ _ n _=>n,λb o e _=>?_,λ_ _ e=>e,λ_ _ _ e=>e,λb ps e=>{#[],by rw [e];simp}}
  (λb u e=>(I.hok b u e).Vc (λc v W q=>keep c v q λz=>?_) (λ_ q=>q) λ_ _ q=>q) bare λb z=>absurd z 'z'
 .have ai:ea≠X.env.locals:=λz=>by
   obtain ⟨m,⟨o,es,ep,S,G,_⟩,_⟩:=F.loc;have Z:s'.heap.get? ea=some o:=by rw [z];exact S
   rw [he] at Z;cases Z;rw [hd] at G;cases G
  refine {U,oe,⟨W,Yu,vs,hd⟩,he,{{F.ok.mod,F.ok.kind,F.ok.glob,F.ok.blt,F.ok.above,F.ok.inj,F.ok.has,F.ok.e1,λz=>(nomatch z),F.ok.frames,F.ok.e4,F.ok.fv,F.ok.bs,F.ok.ea,F.ok.dk,F.ok.dW,F.ok.Vl,F.ok.eF},F.os,F.bare,
   {F.base.keep,F.base.slot,λb o e n hx=>?_,F.base.there,λb xs e=>?_,λb o u e=>?_,λb ps e=>?_},F.loc,F.cell,?_,λx c e=>?_,λp hp=>?_,F.hok.add U ⟨he,oe,he⟩,F.len,.inr ?_}}
  .obtain ⟨o',z⟩:=I.base.there b o e hx;rw [zg (λw=>by rw [w,new] at z;cases z)];exact F.base.free b o e n hx
  .have z:=F.base.tups b xs e;rw [zg (zz z U)];exact z
  .have z:=F.base.frzs b o u e;rw [zg (zz z U)];exact z
  .obtain ⟨more,z⟩:=F.base.tbls b ps e;exact {more,by rw [zg (zz z U)];exact z}
  .rw [zg (Pd ai)];exact F.free
  .have nc:c≠ea:=λw=>by
    obtain ⟨v,o,S,G⟩:=F.cell x c e;rw [w,he] at S;cases S;rw [hd] at G;cases G
   rw [zg nc];exact F.Uz x c e
  .obtain ⟨a,b,c,d,f⟩:=F.pin p hp;refine {a,?_,c,d,f};rw [zg λw=>?_]
   .exact b
   .have:=(I.pin p hp).1;rw [w,new] at this;cases this
  .obtain ⟨cv,q1,rfl|⟨b,k,rfl,ch⟩⟩:=h2
   .exact {ea,0,rfl,.one zt hd q1 W}
   .exact {ea,k+1,rfl,.more zt hd q1 W (ch.same λc o e=>by rw [zg (zz e U)];exact e)}
 .by_cases J:b∈frs X.stack
  .obtain ⟨sl,z⟩:=slot b o e J;exact {_,z}
  .exact {o,keep b o e J}
 .have zf:H c=none:=I.cp c z;rcases W with w|w
  .rw [w] at zf;rw [zf] at e;cases e
  .rw [zf] at w;cases w
theorem Inv.eG(I:Inv X Go σ H s)(hN:X.N.Nodup)(hi:X.N[i]?=some n)(Z:s.heap.Ns X.env.locals m/\∀(i:Nat)(x:Str)(v:V),X.N[i]?=some x->σ[i]?=some (some v)->Vis X.env.scope x->∃u,zp v u/\uc X.env s.heap m x u)(U:h'.Ns X.env.locals (λx=>if x=n then v else m x))(hs:Qj X.env.locals s.heap h'):Inv X Go (σ.set i none) H { s with heap:=h',toks:=tk }:=by
 obtain ⟨oL,_,_,XA,_⟩:=id Z.1;have J:i<σ.length:=by rw [I.len];exact (OJ.mp hi).1
 have F:∀b o,X.s₀.heap.get? b=some o->b≠X.env.locals:=λb o e=>Pe (O2 (OX e) I.ok.above);refine {I.ok,I.os,I.bare,{λb o e n G hx=>(hs.2 b (F b o e)).trans (I.base.keep b o e n G hx),λb o e n G hx=>?_,I.base.free,λb o e hx=>?_,I.base.tups,I.base.frzs,I.base.tbls},{_,U,λj y w W O e3=>?_},λy c e=>?_,I.free,I.Uz,λp hp=>?_,
  I.hok.but I.free λb u G e=>(hs.2 b G).trans e,by simpa using I.len,I.hdk}
 .obtain ⟨sl,z⟩:=I.base.slot b o e n G hx;exact {sl,(hs.2 b (F b o e)).trans z}
 .obtain ⟨o',z⟩:=I.base.there b o e hx;exact {o',(hs.2 b (F b o e)).trans z}
 .by_cases S:j=i
  .subst S;rw [Sd J] at O;cases O
  .rw [SD (Pd S)] at O;obtain ⟨u,r,l⟩:=Z.2 j y w W O e3;refine {u,r,?_};have hy:y≠n:=λq=>S (pY hN W (q ▸ hi));rcases l with ⟨k1,k2⟩|⟨k1,c,e,z⟩
   .exact .inl {k1,by simp [hy,k2]}
   .exact .inr {k1,c,e,z.sameBut hs (I.cne y c e)}
 .obtain ⟨w,z⟩:=I.cell y c e;exact {w,z.sameBut hs (I.cne y c e)}
 .obtain ⟨a,b,c,d,f⟩:=I.pin p hp;exact {(hs.2 p.1 c).trans a,b,c,d,f}
theorem Inv.Vn(ok:X.Ok)(z:X.A.handled=none)(I:Inv (dA X Go ea) [] σ H s):Inv X Go σ H s :=
 {ok,I.os,I.bare,I.base,I.loc,I.cell,I.free,I.Uz,λp hp=>I.pin p (by show p∈(X.pn++Go)++[];simpa using hp),I.hok,I.len,.inl z}
def nR(K:Ow)(i:Nat)(D:Addr)(tb:(Addr->St->Hp->Prop)->TS)(ts:TS):TS:=λZ σ H =>
 tb (λC F H'=>aZ K C/\Rt K C (.ref D)=some true/\∀ea oe,H' ea=none->dS C oe ->
  ts { nx:=λz H2=>Z.nx (z.set i none) H2,rt:=Z.rt,bk:=λz H2=>Z.bk (z.set i none) H2,ct:=λz H2=>Z.ct (z.set i none) H2 } (F.set i (some (.ref ea))) (upd H' ea (.frz oe (.own 0)))) Z σ H
theorem xn(hc:X.calm=true)(Yj:X.ex=[])(Y5:X.stack=X.env::X.outer/\X.env.frame=some X.env.locals)(hN:X.N.Nodup)(hi:X.N[i]?=some n)(ai:X.env.scope.names.lookup n=some .local)(OD:aZ X.K D)(hg:Gl X x)(hm:X.mg x=some (.ref D))(hb:∀Go Ex,W (PSs (g6 X Go Ex) ZV (tb Ex)))(hs:∀Go ea,W (PSs (dA X Go ea) (S::Y4) ts))(Zr:'g'=false:=by decide):W (PS X (.Try ZV [.ExceptHandler (some (.Name x np)) (some n) (S::Y4) X3] [] [] pos) (nR X.K i D tb ts)):=by
 refine {?_};have hb:=λz0 z1=>(hb z0 z1).h;have hs:=λz0 z1=>(hs z0 z1).h;intro Go s σ H Z I h;have hh:X.A.handled=none:=I.ok.hd hc;have hp:(X.env.scope.kind == .class||(X.env.scope.kind == .module&&X.env.locals != X.env.globals))=false:=by rw [I.ok.kind];rfl
 refine wpAny_Try_except (OZ (hb Go _ [] s σ H Z (I.p.UT _) h) (λf s1 q=>?_) λe s1 q=>?_)
 .cases f with
  | next =>
   obtain ⟨F,H',J,q⟩:=q;exact Rm {F,H',Inv.d8 I.ok J.Da,q}
  | brk=>obtain ⟨F,H',J,q⟩:=q;exact {F,H',Inv.d8 I.ok J.Da,q}
  | cont=>obtain ⟨F,H',J,q⟩:=q;exact {F,H',Inv.d8 I.ok J.Da,q}
  | ret u=>obtain ⟨v,F,H',J,r,q⟩:=q;exact {v,F,H',Inv.d8 I.ok J.Da,r,q}
 .obtain ⟨ea,C,B,H',fl,F,sI,rfl,J,y,os,bare,hB,up,OC,sub,WV⟩:=q;have fr:X.A.frames=some (X.env::X.outer):=by rw [I.ok.frames,Y5.1]
  rw [Y5.1] at y;refine kZ fr Y5.2 y λh2 y2 u2=>gv (s:={ s1 with heap:=h2 }) y2 λh3 y3 u3=>?_;have a3:aY H' B X.stack ea (.ref C) .none h3:=by rw [Y5.1];exact y3
  have av:=(up.trans u2).trans u3;obtain ⟨_,a5,c3,g3,J3⟩:=gY (s':={ s1 with heap:=h3 }) Yj J a3 os bare hB av;obtain ⟨aI,cC,eC⟩:=OC.obj J3.UQ;obtain ⟨a6,cD,eD⟩:=OD.obj J3.UQ;have XW:aI.mro.contains (.ref D)=true:=by
   unfold Rt at sub;rw [cC] at sub;simp only [Su] at sub;split at sub
   .cases sub
   .exact O6.inj sub
  refine SI (Sf (di (X:=dA X Go ea) J3 hg hm ?_ Zr)) (by intro q;cases q);refine pE (h:=h3) (g:=s1.gens) (d:=s1.drawn) (t:=s1.toks) (os:=s1.os) eC eD g3 c3.1 XW ?_;refine codeAny_handlers_suite_as ?_;refine gv (s:={ s1 with heap:=h3 }) y3 λh4 y4 u4=>?_;have a0:aY H' B X.stack ea (.ref C) .none h4:=by rw [Y5.1];exact y4
  obtain ⟨a4,ax,c4,g4,J4⟩:=gY (s':={ s1 with heap:=h4 }) Yj J a0 os bare hB (av.trans u4);refine md (X:=dA X Go ea) (i:=i) (v:=.ref ea) J4 hN hi (.inl ai) rfl (λs5 J5=>?_) (.inr ai);refine OZ (hs Go ea [] s5 _ _ _ J5 (WV ea ax a4 c4)) (λf s6 q6=>?_) λ_ _ z=>z.elim;have go:∀{G:St}{H7:Hp},Inv (dA X Go ea) [] G H7 s6->(∀s7,Inv X Go (G.set i none) H7 s7->SP X Go Z f s7) ->
    OE 'c' X.A (do bindName X.env n .none;unbindBehindTheSuite X.env n X3) (λ_ s7=>SP X Go Z f s7) X.xe s6:=λ{G H7} O k=>by
   have J8:=Inv.Vn I.ok hh O;obtain ⟨m,Xj,hl⟩:=id J8.loc;exact wpAny_nameGoes_keeps ai Xj hp λh' v aT XD=>k _ (J8.eG hN hi ⟨Xj,hl⟩ aT XD)
  cases f with
  | next=>obtain ⟨G,H7,O,q7⟩:=q6;exact go O λs7 U=>{_,_,U,q7}
  | brk=>obtain ⟨G,H7,O,q7⟩:=q6;exact go O λs7 U=>{_,_,U,q7}
  | cont=>obtain ⟨G,H7,O,q7⟩:=q6;exact go O λs7 U=>{_,_,U,q7}
  | ret u=>obtain ⟨v,G,H7,O,r7,q7⟩:=q6;exact go O λs7 U=>{v,_,_,U,r7,q7}
end L2
namespace L2
open PySem PySem.Spec PyProof.Rows PySem.W
section
variable {prog:OF}{w:OS}{A:OQ}{E:Value->KE->Prop}{K:Frag}{h:Heap}{g:Array GenState}{d:Drawn}{t:Nat}{os:OsState}{e C:Addr}{oe:Obj}
theorem B2(X:K.In h)(I:InstAt h e oe C none)(z:findIn K (.ref C) "__class__"=some (some (.builtin "object.__class__")))(S:mroIn K C (.type "object")=some true)(O:Q (.done (.ret (.ref C))) ⟨h,g,d,t,os⟩):OE (OK prog w) A (OO.«object.__getattribute__» {[.ref e,.str "__class__" tk],[]}) Q E ⟨h,g,d,t,os⟩:=by
 have G:=I.type (M:=OK prog w);have J:=looks_findIn (M:=OK prog w) X z;have U:=F.typeOf_object_class;have W:=F.slot_gs_get.lookup;have Z:=F.slot_gs_set.lookup
 repeat (any_goals (first|assumption|with_reducible refine G.at ?_|with_reducible refine J.at ?_|wp_step))
 exact class_get (s:=⟨h,g,d,t,os⟩) X I S (Ot O)
theorem Ke(X:K.In h)(I:InstAt h e oe C none)(O:mroIn K C (.type "BaseException")=some true)(G:Q () ⟨h,g,d,t,os⟩):
  OE (OK prog w) A (Sr "BaseException.__getattribute__" {[.ref e,z],[]}) Q E ⟨h,g,d,t,os⟩:=by
 have U:=I.type (M:=OK prog w);have J:=looks_mroIn (M:=OK prog w) X O;have c1:builtinKind "BaseException.__getattribute__"=some .slot:=by decide +kernel
 have S:splitId "BaseException.__getattribute__"=some ("BaseException","__getattribute__"):=by decide +kernel
 have W:=F.args_bexc_ga (.ref e) z;simp only [Sr,c1,S];refine we ?_;unfold isInstance
 repeat (first|with_reducible refine U.at ?_|with_reducible refine J.at ?_|wp_step)
 exact G
theorem MA(X:K.In h)(I:InstAt h e oe C none)(U:findIn K (.ref C) "__getattribute__"=some (some (.builtin "BaseException.__getattribute__")))(S:findIn K (.ref C) "__getattr__"=some none)(z:findIn K (.ref C) "__class__"=some (some (.builtin "object.__class__")))(Z:mroIn K C (.type "object")=some true)(J:mroIn K C (.type "BaseException")=some true)(hq:Q (some (.ref C)) {h,g,d,t+1,os}):
  OE (OK prog w) A (getAttr? (.ref e) "__class__") Q E ⟨h,g,d,t,os⟩:=by
 have G:=I.type (M:=OK prog w);have O:=looks_findIn (M:=OK prog w) X U;have L2:=looks_findIn (M:=OK prog w) X S;have f4:=TY.ga.bind (.ref e);have W:(builtin "BaseException.__getattribute__" == builtin "object.__getattribute__")=false:=by decide +kernel
 have x1:(onTheHeap (OH C)&&builtin "BaseException.__getattribute__" == builtin "object.__getattribute__")=false:=by rw [W];rfl
 have x0:(false&&onTheHeap (builtin "BaseException.__getattribute__"))=false:=rfl;unfold getAttr? getAttrBy?;refine we (wpAny_mkText (we (Ts ?_)))
 repeat (any_goals (first|assumption|with_reducible refine G.at ?_|with_reducible refine O.at ?_|with_reducible refine L2.at ?_|wp_step))
 refine SB TY.ga.plain F.entry_bexc_ga (Ke X I J (B2 X I z Z ?_))
 repeat (any_goals (first|assumption|wp_step))
structure gL(K:Frag)(C:Addr):Prop where
 err:aZ K C
 ga:findIn K (.ref C) "__getattribute__"=some (some (.builtin "BaseException.__getattribute__"))
 gr:findIn K (.ref C) "__getattr__"=some none
 cl:findIn K (.ref C) "__class__"=some (some (.builtin "object.__class__"))
 ob:mroIn K C (.type "object")=some true
 ba:mroIn K C (.type "BaseException")=some true
theorem Ep(O:gL K C):KitX K (.ref e) (.ref C) (λh=>InstAt h e oe C none) where
 ty:=λ_ _ _ I=>I.type
 it:=λM h X I=>by
  obtain ⟨cd,_,⟨bm,N,nm,q,bs,hdct,sn,sub,ab,col,dd,k0,k1,k2,k3,k5,mN,_,G,_⟩⟩:=O.err.obj X;intro S U Z s' k J;unfold isType loadHead;exact we (wpAny_loadPart (k _ _ G) (Ot J))
 ne:=λh tp dd its n sl X F=>by
  obtain ⟨cd,_,⟨bm,N,nm,q,bs,hdct,sn,sub,ab,col,W,k0,k1,k2,k3,k5,mN,_,G,_⟩⟩:=O.err.obj X;refine QI.mpr λz=>?_;have ec:C=tp:=OH.inj (beq_iff_eq.mp z);subst ec;have wd:=congrArg Obj.data (O6.inj (G.symm.trans F));cases wd
 ca:=λ{prog w A E Q s} X I k=>by
  obtain ⟨h,g,d,t,os⟩:=s;exact MA X I O.ga O.gr O.cl O.ob O.ba k
end
noncomputable def ui:V->Option Value
 | .ref a=>some (.ref a)
 | .ty n=>some (.type n)
 | _=>none
inductive TyX(K:Frag)(H:Hp):V->Value->Prop where
 | of {x:V}{t:Value} (h:cZ K H x t):TyX K H x t
 | exc {a C:Addr}{o:Obj} (e:H a=some (.frz o (.own 0))) (ho:dS C o) (O:gL K C):TyX K H (.ref a) (.ref C)
noncomputable def j8(K:Frag):List V->Hp->VK->Prop:=λxs H Q=>∃x c t u b,xs=[x,c]/\ui c=some u/\TyX K H x t/\kitOne K t u=some b/\Q (.bl b) H
theorem bC:zY X (.builtin "isinstance") (j8 X.K):=by
 intro Go s σ H xs us Q I r h;obtain ⟨x,c,t,u,b,rfl,F,ty,S,q⟩:=h;cases r with
 | cons r1 G =>
  cases G with
  | cons r2 G =>
   cases G;rename_i v1 U;have W:U=u:=by
    cases c with
    | ref a=>cases F;exact r2
    | ty n=>cases F;exact r2
    | _=>cases F
   subst W;cases ty with
   | of ty=>exact Mw I r1 ty S λtk=>{.bl b,H,I.tok tk,rfl,q}
   | exc e ho O =>
    rename_i a C o;obtain rfl:v1=OH a:=r1;obtain ⟨z,_⟩:=I.hok a _ e;obtain ⟨c1,Z,vs,c3⟩:=ho;have J:InstAt s.heap a o C none:={z,c1,by unfold notCls;rw [c3],by rw [Z];trivial};exact kia_one (Ep O) I.UQ J S (λw=>nomatch w) λtk=>{.bl b,H,I.tok tk,rfl,q}
end L2
namespace L2
open PySem PySem.Spec PyProof.Rows
inductive bI(h:Heap):Nat->Addr->Prop
 | one {a:Addr}{o:Obj}{vs:Array Value}{C:Addr} (g:h.get? a=some o) (d:o.data = .fields vs) (n:vs[2]?=some .none) (c:o.cls = .ref C):bI h 0 a
 | more {k:Nat}{a b:Addr}{o:Obj}{vs:Array Value}{C:Addr} (g:h.get? a=some o) (d:o.data = .fields vs) (n:vs[2]?=some (.ref b)) (c:o.cls = .ref C) (t:bI h k b):bI h (k+1) a
theorem bI.keeps{k:Nat}(x:bI h k a)(f:∀b o,(∃C,o.cls = .ref C)->h.get? b=some o->h'.get? b=some o):bI h' k a:=by
 induction x with
 | one g d n c=>exact .one (f _ _ {_,c} g) d n c
 | more g d n c _ z=>exact .more (f _ _ {_,c} g) d n c z
theorem bI.uniq{k:Nat}(x:bI h k a):∀{m:Nat},bI h m a->k=m:=by
 induction x with
 | one g d n c =>
  intro m y;cases y with
  | one=>rfl
  | more g' d' z _ _ =>
   rw [g] at g';cases g';rw [d] at d';cases d';rw [n] at z;cases z
 | more g d n c t F =>
  intro m y;cases y with
  | one g' d' z _ =>
   rw [g] at g';cases g';rw [d] at d';cases d';rw [n] at z;cases z
  | more g' d' z _ t' =>
   rw [g] at g';cases g';rw [d] at d';cases d';rw [n] at z;cases z;rw [F t']
theorem bI.cls{k:Nat}(x:bI h k a):∃o C,h.get? a=some o/\o.cls = .ref C:=by
 cases x with
 | one g d n c=>exact {_,_,g,c}
 | more g d n c _=>exact {_,_,g,c}
def Hnd(A:OQ)(h:Heap):Prop:=A.handled=none\/∃(a:Addr)(k:Nat),A.handled=some (.ref a)/\bI h k a
theorem Chn.heap{k:Nat}(x:Chn H k a)(ok:HOk P w H h):bI h k a:=by
 induction x with
 | one g d n c=>exact .one (ok _ _ g).1 d n c
 | more g d n c _ z=>exact .more (ok _ _ g).1 d n c z
theorem Inv.hnd(I:Inv X Go σ H s):Hnd X.A s.heap:=by
 rcases I.hdk with h|⟨a,k,h1,h2⟩
 .exact .inl h
 .exact .inr {a,k,h1,h2.heap I.hok}
theorem Hnd.keeps(x:Hnd A h)(k:∀b o,(∃C,o.cls = .ref C)->h.get? b=some o->h'.get? b=some o):Hnd A h':=by
 rcases x with x|⟨a,n,h1,h2⟩
 .exact .inl x
 .exact .inr {a,n,h1,h2.keeps k}
theorem uy:entryFor table "proto.unchain"=some OO.«proto.unchain»:=entryFor_of_tree (by kernel_rfl)
section
variable {prog:OF}{w:OS}{A:OQ}{E:Value->KE->Prop}{s:KE}
theorem yT(kp:∀b o,(∃C,o.cls = .ref C)->G.get? b=some o->s.heap.get? b=some o)(ne:∀n b,bI G n b->b≠e){k:Nat}:∀{o slow:Addr}{m:Nat}{F:Bool}{R:Tw->KE->Prop},bI G k o->bI G m slow->k<=m->R (.ok (.ret .none)) s ->
  QC (OK prog w) A (.builtin "proto.unchain" {[.ref e,.ref o,.ref slow,.bool F],[]}) R s:=by
 induction k with
 | zero =>
  intro o slow m F R x y _ q;cases x with
  | one g d n c =>
   refine Qy uy ?_;refine we (m:=field (.ref o) 2) (Pk (kp _ _ {_,c} g) d n ?_);rw [if_pos (show (Pj==Pj)=true by rfl)];exact Ot q
 | succ k J =>
  intro o slow m F R x y le q;cases x with
  | more g d n c t =>
   rename_i b _ _ _;have O:b≠e:=ne _ _ t;have bs:b≠slow:=λz=>by subst z;have:=t.uniq y;lia
   refine Qy uy ?_;refine we (m:=field (.ref o) 2) (Pk (kp _ _ {_,c} g) d n ?_);rw [if_neg (show ¬ ((OH b==Pj)=true) by simp)];rw [if_neg (show ¬ ((OH b==OH e)=true) by simpa using O),if_neg (show ¬ ((OH b==OH slow)=true) by simpa using bs)];cases F with
   | false=>exact we (Ot (Ot {Qe (f!"") _,J t y 'l' q}))
   | true =>
    cases y with
    | one=>lia
    | more g' d' S c' t'=>exact we (m:=field (.ref slow) 2) (Pk (kp _ _ {_,c'} g') d' S (Ot {Qe (f!"") _,J t t' 'l' q}))
theorem LL{α:Type}{Q:α->KE->Prop}(F:Hnd A s.heap)(he:s.heap.get? e=some oe)(hd:oe.data = .fields ws)(hz:2<ws.size)(G:∀C,oe.cls≠.ref C)(k:∀h',Qj e s.heap h'->(∃o,h'.get? e=some o/\o.cls=oe.cls)->E (.ref e) { s with heap:=h' }):OE (OK prog w) A (SA (.ref e):Sem α) Q E s:=by
 unfold SA;refine we (wpAny_handled ?_);rcases F with F|⟨a,n,h1,h2⟩
 .rw [F];exact we (Ot (Tb (k s.heap (Qj.refl _ _) {oe,he,rfl})))
 .rw [h1];have ne:∀n b,bI s.heap n b->b≠e:=λn b x z=>by
   obtain ⟨o,C,g,c⟩:=x.cls;rw [z,he] at g;cases g;exact G C c
  dsimp only;rw [if_pos (show (OH a != OH e)=true by simpa using ne _ _ h2)];refine we (OT (wpAny_runValue (yT (λ_ _ _ q=>q) ne h2 h2 (Ov _) ?_)));refine we ?_;show OE _ _ (RC (.ref e) 2 (.ref a)) _ _ _;have dd:=QJ hd (·.setIfInBounds 2 (OH a));exact Px he hd hz (Tb (k _ (Qj.update ..) {_,Pq _ he (Qb dd),Rx _ _}))
theorem Bi{α:Type}{Q:α->KE->Prop}(J:Hnd A s.heap)(k:∀h' e,(∀b o,s.heap.get? b=some o->h'.get? b=some o)->(∃o,h'.get? e=some o/\o.cls = .type "StopIteration")->E (.ref e) { s with heap:=h' }) :
  OE (OK prog w) A (newExc (.type "StopIteration") []>>=λe=>(SA e:Sem α)) Q E s:=by
 refine we ?_;simp only [newExc,newTuple];refine we (Pm (we (m:=SW _ _) (Td (a:=Pj) (by first|rfl|(simp only [SW];rfl)) (Pm ?_ (by size_fits)))) (by size_fits));have old:∀(o1 F:Obj) b o,s.heap.get? b=some o->((s.heap.push o1).push F).get? b=some o:=λo1 F b o q=>Ou _ (Ou _ q);refine LL (J.keeps λb o _ q=>old _ _ b o q) (ON _ rfl) rfl (by simp;lia) (λC z=>by cases z) λh' G=>x3e λo g c=>k h' _ (λb o q=>?_) ⟨o,g,c⟩;refine (G.2 b (λz=>?_)).trans (old _ _ b o q);have:=OX q;rw [z,Q9] at this;exact absurd (Ql this) (O9 _)
theorem MK(hh:Hnd A s.heap)(G:s.heap.IsListIter it l i)(hl:s.heap.IsList l items)(hx:items[i]?=none)(k:∀h' e,ExtBut it s.heap h'->(∃o,h'.get? e=some o/\o.cls = .type "StopIteration")->E (.ref e) { s with heap:=h' }):OE (OK prog w) A (OO.SmallTypes.nextOf (.ref it)) Q E s:=by
 obtain ⟨o,F,hc,hd⟩:=id G;obtain ⟨ol,O,_,nl,J⟩:=hl;unfold OO.SmallTypes.nextOf;refine we (Qp (name:=Ox "__next__") G.typeIs slot_listiter_next (PF slot_listiter_next G.typeIs entry_listiter_next ?_ (args_listiter_next _)));refine we (m:=field (.ref it) 0) (Pk F hd (x:=.ref l) rfl ?_);rw [if_neg (show ¬ ((OH l==Pj)=true) by simp)];refine we (m:=field (.ref it) 1) (Pk F hd (x:=.int i 0) rfl (we (m:=SQ (.ref l)) (QV O J ?_)));simp only [QG,hx];refine we (QW (we (Px F hd 'z' ?_)));refine Bi (hh.keeps λb q U e=>(OW _ _ λz=>?_).trans e) λh' e Z st=>k h' e (λb q W z=>Z b q ((OW _ _ (Pd W)).trans z)) st;obtain ⟨C,S⟩:=U;rw [<- z,F] at e;cases e;rw [hc] at S;cases S
theorem MX{it t:Addr}(hh:Hnd A s.heap)(J:s.heap.IsTupleIter it t i)(ht:s.heap.IsTuple t items)(hx:items[i]?=none)(k:∀h',ExtBut it s.heap h'->Q none { s with heap:=h' }):OE (OK prog w) A (Rh (.ref it)) Q E s:=by
 obtain ⟨o,G,hc,hd⟩:=id J;obtain ⟨ol,S,_,nl,O⟩:=ht;unfold Rh;refine we (Ts (Qp (name:=Ox "__next__") J.typeIs F.slot_tuple_iterator_next (PF F.slot_tuple_iterator_next J.typeIs F.entry_tuple_iterator_next ?_ (F.args_tuple_iterator_next_1 _))));refine we (m:=field (.ref it) 0) (Pk G hd (x:=.ref t) rfl ?_);rw [if_neg (show ¬ ((OH t==Pj)=true) by simp)];refine we (m:=field (.ref it) 1) (Pk G hd (x:=.int i 0) rfl (we (m:=SQ (.ref t)) (QV S O ?_)));simp only [QG,hx];refine we (QW (we (Px G hd 'z' ?_)));refine Bi (hh.keeps λb q W e=>(OW _ _ λz=>?_).trans e) λh' e up=>x3e λo' g' c' =>
  we (RK (T:="StopIteration") (b:=true) ⟨o',g',c'⟩ isSubtype_stop (Ot (k h' λb q Z z=>up b q ((OW _ _ (Pd Z)).trans z))))
 obtain ⟨C,U⟩:=W;rw [<- z,G] at e;cases e;rw [hc] at U;cases U
theorem GB{x1}{t:Addr}(Z:Hnd A s.heap)(G:IsTup s.heap t items)(W:(P7 O env).length=items.size)(F:(P7 O env).findIdx? (·.1)=none)(h:∀h',ExtBut s.heap.objs.size s.heap h'->OE (OK prog w) A (assignInOrder ((P7 O env).map (·.2)) items.toList) Q E { s with heap:=h' }):OE (OK prog w) A (SZ (.Tuple O x1 pos) env (.ref t)) Q E s:=by
 have lt:t≠s.heap.objs.size:=by obtain ⟨o,ho,_⟩:=G;exact Pe (OX ho)
 have all:take items.size (List.drop 0 items.toList)=items.toList:=by rw [Uq];exact O4 'z'
 have Xo:OE (OK prog w) A (unpackItems (.ref t) items.size none) (λvs s'=>∃h',vs=items.toList/\s'={ s with heap:=h' }/\ExtBut s.heap.objs.size s.heap h') E s:=by
  unfold unpackItems;refine we ?_;unfold notIterableAtAll;refine we (wpAny_specialOf G.typeIs slot_tuple_iter.lookup (Ot ?_));simp only [QH,if_false];refine we (OT (iter_tuple G (we (OT (draw_tuple lt items.size 0 _ _ {_,ON _ rfl,rfl,rfl} (G.push _) 'l' λh1 U s1=>?_)))));rw [all,if_neg 'z'];have t1:IsTup h1 t items:=(G.push _).extBut s1.extBut lt;have up1:∀b o,b≠s.heap.objs.size->s.heap.get? b=some o->h1.get? b=some o:=λb o J e=>s1.extBut b o J (Ou _ e);refine we (OT (MX (s:={ s with heap:=h1 }) (Z.keeps λb o _ e=>up1 b o (Pe (OX e)) e) U t1 'z' λh2 S=>?_));simp only [Option.isSome_none,QH,if_false];exact Ot {h2,rfl,rfl,λb o J e=>S b o J (up1 b o J e)}
 rw [assign_Tuple];refine we (Pl ?_);unfold unpack;rw [F,W];refine we (OT (OZ Xo (λvs s'=>x3e λh' e1=>x2e λS x=>?_) λ_ _ z=>z));subst e1 S;exact h h' x
end
theorem A7{k:Nat}{t:TGs}(h:PGs X es t)(hl:(P7 es X.env).length=n:=by rfl)(hst:(P7 es X.env).findIdx? (·.1)=none:=by rfl):PG X (.Tuple es k pos) (mO X.K n t):=by
 intro Go s σ H v u Q I r q;obtain ⟨a,xs,rfl,hx,F,q⟩:=q;obtain rfl:u=OH a:=r;obtain ⟨its,z,G,hz⟩:=I.tuple hx;refine GB I.hnd G (by rw [hl,<- F,z.length];simp) hst λh' ex=>?_;have J:Inv X Go σ H { s with heap:=h' }:=I.kept (t':=s.toks) λb o e=>ex b o (Pe (OX e)) e;have:=h Go { s with heap:=h' } σ H xs its Q J z q;simpa using this
section
variable {prog:OF}{w:OS}{A:OQ}{E:Value->KE->Prop}{s:KE}
theorem Fk{z TI TO i1 i2 O l2:Addr}(hh:Hnd A s.heap)(D:ZipApart z TI TO i1 i2 O l2)(hz:IsZip s.heap z TI TO .none)(W:IsPair s.heap TI (.ref i1) (.ref i2))(ai:IsPair s.heap TO a b)(h1:s.heap.IsListIter i1 O k1)(J:s.heap.IsList O xs)(hx:xs[k1]?=none)(k:∀h',(∀c o,c≠z->c≠i1->s.heap.get? c=some o->h'.get? c=some o)->Q none { s with heap:=h' }):OE (OK prog w) A (Rh (.ref z)) Q E s:=by
 have hT:s.TypeIs (.ref z) "zip":={_,hz,rfl};have Xo:∀(Q':Fin->KE->Prop)(U:Value->KE->Prop),(∀h' e,(∀c o,c≠z->c≠i1->s.heap.get? c=some o->h'.get? c=some o)->(∃o,h'.get? e=some o/\o.cls = .type "StopIteration")->U (.ref e) { s with heap:=h' }) ->
   OE (OK prog w) A.in1 (OO.«zip.__next__» {[.ref z],[]}) Q' U s:=by
  intro Q' U kE;refine we (m:=field (.ref z) 2) (Pk hz rfl (x:=.bool false) rfl (we (m:=field (.ref z) 3) (Pk hz rfl (x:=.ref TI) rfl (we (QV W rfl (we (m:=OO.SmallTypes.ownedTupleIsFree (.ref z)) ?_))))));unfold OO.SmallTypes.ownedTupleIsFree;refine we (Pk hz rfl (x:=.none) rfl (Ot ?_));simp only [if_true];refine we (QW (we (Pk hz rfl (x:=.ref TO) rfl (we (wpAny_setField_rec hz 'z' λg1 z1 s1=>?_)))));refine we ?_;simp only [List.zipIdx_cons,List.zipIdx_nil,forIn_cons,List.forIn_nil];refine we (we (wpAny_onRaise (we (m:=OO.SmallTypes.nextOf (.ref i1)) ?_)));have G:Hnd A.in1 g1:=Hnd.keeps (h:=s.heap) hh λc o ⟨C,hC⟩ e=>s1.extBut c o (λq=>by rw [q,hz] at e;cases e;cases hC) e;refine MK (s:={ s with heap:=g1 }) G (h1.extBut s1.extBut D.i1z) (J.extBut s1.extBut D.l1z) hx λg2 e s2 st=>?_;obtain ⟨oe,S,Z⟩:=st;have z2:IsZip g2 z TI TO .ellipsis:=s2 _ _ D.i1z.symm z1;have ez:e≠z:=λq=>by rw [q,z2] at S;cases S;simp at Z
  exact wpAny_setField_rec z2 'z' λg3 _ s3=>kE g3 e (λc o c1 c2 q=>s3.extBut _ _ c1 (s2 _ _ c2 (s1.extBut _ _ c1 q))) {oe,s3.extBut _ _ ez S,Z}
 unfold Rh;refine we (Ts (Qp (name:=Ox "__next__") hT F.slot_zip_next (PF F.slot_zip_next hT F.entry_zip_next (Xo _ _ λh' e up st=>?_) (F.args_zip_next_1 _))));obtain ⟨o,g,c⟩:=st;exact we (RK (T:="StopIteration") (b:=true) ⟨o,g,c⟩ isSubtype_stop (Ot (k h' up)))
end
def Itz(K:Ow)(a b:Addr):It :=
 {λi H=>∃xs ys x y,SqL K H a xs/\SqL K H b ys/\xs[i]?=some x/\ys[i]?=some y,λi H v H'=>∃T x y,H T=none/\v = .ref T/\H'=upd H T (.tup [x,y])/\(∀xs,SqL K H a xs->xs[i]?=some x)/\∀ys,SqL K H b ys->ys[i]?=some y,
  λi H=>∃xs ys,SqL K H a xs/\SqL K H b ys/\xs.length<=i}
structure iq(z TI TO i1 i2 l1 l2:Addr)(i:Nat)(h:Heap):Prop where
 z:IsZip h z TI TO .none
 ti:IsPair h TI (.ref i1) (.ref i2)
 to:∃a b,IsPair h TO a b
 a:h.IsListIter i1 l1 i
 b:h.IsListIter i2 l2 i
theorem iq.keep{z TI TO i1 i2 F G:Addr}(x:iq z TI TO i1 i2 F G i h)(k:∀b∈[z,TI,TO,i1,i2],∀o,h.get? b=some o->h'.get? b=some o):iq z TI TO i1 i2 F G i h':=by
 obtain ⟨J,U,⟨u,v,S⟩,O,W⟩:=x;exact {k _ 'z' _ J,k _ 'z' _ U,{u,v,k _ 'z' _ S},O.at λo e=>k _ 'z' o e,W.at λo e=>k _ 'z' o e}
theorem GU{K:Ow}{W l2 z TI TO i1 i2:Addr}(D:ZipApart z TI TO i1 i2 W l2):∀(X:Cx),X.prog=P->X.w=w->X.K=K->∀(i:Nat)(Go:List (Addr×Obj))(s:KE)(σ:St)(H:Hp)(E:Value->KE->Prop),Inv X Go σ H s->(∀b∈[z,TI,TO,i1,i2],az X Go H b)->iq z TI TO i1 i2 W l2 i s.heap->(Itz K W l2).go i H ->
  OE (OK P w) X.A (Rh (.ref z)) (λr s1=>∃u,r=some u /\
   OE (OK P w) X.A (Qw (.Tuple YC kk tp) (.ref z) u) (λ_ s2=>∃x H',Inv X Go σ H' s2/\zp x u/\(Itz K W l2).d7 i H x H'/\iq z TI TO i1 i2 W l2 (i+1) s2.heap/\∀b∈[z,TI,TO,i1,i2],H' b=none) E s1) E s:=by
 intro X hP hw hK i Go s σ H E I hf st hg;subst hP hw hK;obtain ⟨xs,ys,x,y,Z,S,hx,hy⟩:=hg;obtain ⟨a8,ai,p1,ba⟩:=I.list Z;obtain ⟨a9,av,p2,a7⟩:=I.list S;obtain ⟨u1,a0,aT⟩:=ai.get hx;obtain ⟨u2,a6,ax⟩:=av.get hy;obtain ⟨a1,a2,⟨u,v,a3⟩,a4,a5⟩:=st;refine wpAny_pyNext_zip_item D a1 a2 a3 a4 a5 p1.isList p2.isList (x:=u1) (y:=u2) (by simpa using a0) (by simpa using a6) λh' b1 b2 b3 b4 b5 b6 b7=>?_;refine {_,rfl,wpAny_letOwnedTupleGo_zip (s:={ s with heap:=h' }) b1 λh2 c1 G=>?_};have J:z<s.heap.objs.size:=OX a1;have nz:s.heap.objs.size≠z:=RD J;have all:∀c o,c≠z->c≠TO->c≠i1->c≠i2->s.heap.get? c=some o->h2.get? c=some o:=λc o n1 n2 n3 n4 e=>G.extBut c o n1 (b7 c o n1 n2 n3 n4 e);have tT:h2.get? s.heap.objs.size=some { cls:=.type "tuple",data:=.seq #[u1,u2] }:=G.extBut _ _ nz b5;have O:H s.heap.objs.size=none:=I.hok.fresh (Ov _);have U:HOk X.prog X.w H h2:=λb u e=>by
  refine (I.hok b u e).Vc (λc v hc q=>?_) (λ_ q=>q) λ_ _ q=>q;have X7:∀d∈[z,TI,TO,i1,i2],c≠d:=λd hd w=>by
   have fd:=(hf d hd).1;rcases hc with k|k
   .rw [k] at w;rw [w,fd] at e;cases e
   .rw [w,fd] at k;cases k
  exact all c v (X7 z 'z') (X7 TO 'z') (X7 i1 'z') (X7 i2 'z') q
 have aI:∀b o,s.heap.get? b=some o->b≠s.heap.objs.size:=λb o e=>Pe (OX e);have I2:Inv X Go σ (upd H s.heap.objs.size (.tup [x,y])) { s with heap:=h2 }:=by
  refine I.step (g':=s.gens) (d':=s.drawn) (t':=s.toks) (ch:=[z,TO,i1,i2]) (λb F=>?_) (λb o _ _ F e _=>?_) (λb o _ _ F e _=>?_) (λb o _ e n=>?_) (λb o F e=>?_) (λb ps e=>?_) (λb o u e=>?_) (λb ps e=>?_) (λm hm=>?_) (U.add O ?_) I.bare
  .have XJ:b∈[z,TI,TO,i1,i2]:=by simp only [OL,Pa,or_false] at F ⊢;rcases F with h|h|h|h<;>simp [h]
   obtain ⟨f0,f1,f2,f3,f4,f5⟩:=hf b XJ;exact ⟨f3,f1,f4,f5⟩
  .simp only [OL,Pa,or_false,not_or] at F;exact all b o F.1 F.2.1 F.2.2.1 F.2.2.2 e
  .simp only [OL,Pa,or_false,not_or] at F;exact {o.slots,all b o F.1 F.2.1 F.2.2.1 F.2.2.2 e}
  .rw [zg (aI b o e)];exact n
  .simp only [OL,Pa,or_false,not_or] at F;exact {o,all b o F.1 F.2.1 F.2.2.1 F.2.2.2 e}
  .rw [zg (zz e O)];exact e
  .rw [zg (zz e O)];exact e
  .exact {#[],by rw [zg (zz e O),e];simp}
  .obtain ⟨o,es,ep,ho,r⟩:=hm;exact {o,es,ep,all _ o (Pd (hf z 'z').2.1) (Pd (hf TO 'z').2.1) (Pd (hf i1 'z').2.1) (Pd (hf i2 'z').2.1) ho,r}
  .exact {by show 2<=sizeLine;decide,[u1,u2],.cons aT (.cons ax .nil),{_,tT,rfl,_,rfl}}
 refine {.ref s.heap.objs.size,_,I2,rfl,{_,x,y,O,rfl,rfl,λzs hz=>by rw [I.bf hz Z];exact hx,λzs hz=>by rw [I.bf hz S];exact hy},?_,λb F=>?_}
 .exact {c1,G.extBut _ _ D.TIz (b7 _ _ D.TIz D.TITO D.TIi1 D.TIi2 a2),{u1,u2,G.extBut _ _ D.TOz b2},b3.extBut G.extBut D.i1z,b4.extBut G.extBut D.i2z}
 .have ne:b≠s.heap.objs.size:=λq=>by
   have:b<s.heap.objs.size:=by
    simp only [OL,Pa,or_false] at F;obtain ⟨o4,a4,_⟩:=a4;obtain ⟨o5,a5,_⟩:=a5;rcases F with rfl|rfl|rfl|rfl|rfl
    .exact J
    .exact OX a2
    .exact OX a3
    .exact OX a4
    .exact OX a5
   exact absurd (q ▸ this) (O9 _)
  rw [zg ne];exact (hf b F).1
theorem JO{P:OF}{w:OS}{K:Ow}{YC:List OU}{kk:Nat}{tp:Pos}{Z l2 z TI TO i1 i2:Addr}(D:ZipApart z TI TO i1 i2 Z l2) :
  fk false P w K (.Tuple YC kk tp) (Itz K Z l2) [z,TI,TO,i1,i2] z (iq z TI TO i1 i2 Z l2) where
 mem:=by simp
 obj:=λi h st b F=>by
  obtain ⟨U,J,⟨u,v,W⟩,⟨o4,a4,_,d4⟩,⟨o5,a5,_,d5⟩⟩:=st;simp only [OL,Pa,or_false] at F;rcases F with rfl|rfl|rfl|rfl|rfl
  .exact {_,U,λv q=>nomatch q}
  .exact {_,J,λv q=>nomatch q}
  .exact {_,W,λv q=>nomatch q}
  .exact {_,a4,λv q=>by rw [d4] at q;cases q}
  .exact {_,a5,λv q=>by rw [d5] at q;cases q}
 keep:=λi h h' st k=>st.keep k
 item:=λX hP hw S _=>GU D X hP hw S
 done:=by
  intro X hP hw S hc i Go s σ H E I hf st hg;subst hP hw S;obtain ⟨xs,ys,ai,av,hx⟩:=hg;obtain ⟨ax,O,p1,aI⟩:=I.list ai;have hl:=O.length;obtain ⟨U,J,⟨u,v,W⟩,a4,a5⟩:=st;refine Fk I.hnd D U J W a4 p1.isList (by simp;lia) λh' G=>{rfl,?_};refine I.step (g':=s.gens) (d':=s.drawn) (t':=s.toks) (ch:=[z,i1]) (λb F=>?_) (λb o _ _ F e _=>?_) (λb o _ _ F e _=>?_) (λ_ _ _ _ n=>n) (λb o F e=>?_) (λ_ _ e=>e) (λ_ _ _ e=>e) (λb ps e=>{#[],by rw [e];simp}) (λm hm=>?_) (λb u e=>?_) I.bare
  .have XJ:b∈[z,TI,TO,i1,i2]:=by simp only [OL,Pa,or_false] at F ⊢;rcases F with h|h<;>simp [h]
   obtain ⟨f0,f1,f2,f3,f4,f5⟩:=hf b XJ;exact ⟨f3,f1,f4,f5⟩
  .simp only [OL,Pa,or_false,not_or] at F;exact G b o F.1 F.2 e
  .simp only [OL,Pa,or_false,not_or] at F;exact {o.slots,G b o F.1 F.2 e}
  .simp only [OL,Pa,or_false,not_or] at F;exact {o,G b o F.1 F.2 e}
  .obtain ⟨o,es,ep,ho,r⟩:=hm;exact {o,es,ep,G _ o (Pd (hf z 'z').2.1) (Pd (hf i1 'z').2.1) ho,r}
  .refine (I.hok b u e).Vc (λc v hc q=>?_) (λ_ q=>q) λ_ _ q=>q;have X7:∀d∈[z,TI,TO,i1,i2],c≠d:=λd hd w=>by
    have fd:=(hf d hd).1;rcases hc with k|k
    .rw [k] at w;rw [w,fd] at e;cases e
    .rw [w,fd] at k;cases k
   exact G c v (X7 z 'z') (X7 i1 'z') q
 self:=λ_ _ _ _ _ st h=>wpAny_pyIter_zip st.z h
noncomputable def eqL(xs ys:List V):Bool:=xs.length==ys.length&&(Qh xs.length).all λi=>eqV (xs.getD i .non) (ys.getD i .non)
theorem j9:∀{xs:List V},xs.all ah=true->(∀x∈xs,∀b,x≠.byt b)->eqL xs xs=true:=by
 intro xs h _;unfold eqL;rw [beq_self_eq_true,TH,Pg];intro i hi;have z:=Sn.mp hi;have F:xs[i]∈xs:=PV z;have:=Pg.mp h _ F;rw [O5,Os z,Option.getD_some];cases e:xs[i] with
 | non=>rfl
 | bl b=>simp [eqV]
 | int j=>simp [eqV]
 | str x=>simp [eqV]
 | _=>rw [e] at this;cases this
section
variable {X:Cx}
noncomputable def A4(K:Ow)(neg:Bool):R2:=λx y H Q=>∃a b xs ys,x = .ref a/\y = .ref b/\SqL K H a xs/\SqL K H b ys/\xs.all ah=true/\ys.all ah=true/\Q (.bl (if neg then !eqL xs ys else eqL xs ys)) H
theorem uC(I:Inv X Go σ H s)(ha:SqL X.K H a xs)(S:SqL X.K H b ys)(W:xs.all ah=true)(U:ys.all ah=true):
  ∃is F:List Value,s.heap.IsList a is.toArray/\s.heap.IsList b F.toArray/\xs.length=is.length/\ys.length=F.length/\∀(A:OQ)(j:Nat)(h1:j<is.toArray.size)(h2:j<F.toArray.size),SeqAt.EqAt A s is.toArray[j] F.toArray[j] (eqV (xs.getD j .non) (ys.getD j .non)):=by
 obtain ⟨is,r1,p1,_⟩:=I.list ha;obtain ⟨F,r2,p2,_⟩:=I.list S;refine {is,F,p1.isList,p2.isList,r1.length,r2.length,λA j h1 h2=>?_};have l1:=r1.length;have l2:=r2.length;simp only [OR] at h1 h2;have O:xs[j]?=some (xs.getD j .non):=by rw [O5,Os 'l'];rfl
 have G:ys[j]?=some (ys.getD j .non):=by rw [O5,Os 'l'];rfl
 obtain ⟨u,g1,q1⟩:=r1.get O;obtain ⟨v,J,q2⟩:=r2.get G;rw [Os h1] at g1;rw [Os h2] at J;have f1:=Pg.mp W _ (Pr O);have f2:=Pg.mp U _ (Pr G);have z:=ku (A:=A) (s:=s) q1 q2 f1 f2;have Z:is.toArray[j]=u:=by simpa using O6.inj g1
 have w2:F.toArray[j]=v:=by simpa using O6.inj J
 rw [Z,w2];exact z
theorem NW(F:X.A.units<cLine):OpR X (PU .Eq) (A4 X.K false):=by
 intro Go s σ H x y v u Q I rx S h;obtain ⟨a,b,xs,ys,rfl,rfl,ha,W,fx,Z,q⟩:=h;cases rx;cases S;obtain ⟨is,U,O,p2,z,J,eq⟩:=uC I ha W fx Z;by_cases hz:is.toArray.size=U.toArray.size
 .refine SeqAt.eq_listAt O p2 hz F (λj h1 h2=>eq _ j h1 h2) {.bl _,H,I,rfl,?_};have e:eqL xs ys=(Qh is.toArray.size).all λj=>eqV (xs.getD j .non) (ys.getD j .non):=by
   unfold eqL;simp only [OR] at hz ⊢;rw [z,J,hz];simp
  rw [<- e];exact q
 .refine SeqAt.eq_list_lengthsAt O p2 (by simpa using hz) F {.bl false,H,I,rfl,?_};have e:eqL xs ys=false:=by
   unfold eqL;have:(xs.length==ys.length)=false:=by simp only [OR] at hz;rw [z,J];simpa using hz
   rw [this,S8]
  have G:Q (.bl (eqL xs ys)) H:=q;rw [e] at G;exact G
theorem GI(G:X.A.units<cLine):OpR X (PU .NotEq) (A4 X.K true):=by
 intro Go s σ H x y v u Q I rx S h;obtain ⟨a,b,xs,ys,rfl,rfl,ha,W,fx,Z,q⟩:=h;cases rx;cases S;obtain ⟨is,U,O,p2,F,J,eq⟩:=uC I ha W fx Z;have z:Q (.bl (!eqL xs ys)) H:=q;by_cases hz:is.toArray.size=U.toArray.size
 .refine SeqAt.RcNeAt.lists O p2 hz G (λj h1 h2=>eq _ j h1 h2) _ _ _ _ {.bl _,H,I,rfl,?_};have e:eqL xs ys=(Qh is.toArray.size).all λj=>eqV (xs.getD j .non) (ys.getD j .non):=by
   unfold eqL;simp only [OR] at hz ⊢;rw [F,J,hz];simp
  rw [<- e];exact z
 .refine SeqAt.RcNeAt.lists_lengths O p2 (by simpa using hz) G _ _ _ _ {.bl true,H,I,rfl,?_};have e:eqL xs ys=false:=by
   unfold eqL;have:(xs.length==ys.length)=false:=by simp only [OR] at hz;rw [F,J];simpa using hz
   rw [this,S8]
  rw [e] at z;exact z
theorem Inv.big(I:Inv X Go σ H s):sysModules<s.heap.objs.size:=by
 have h:OB<s.heap.objs.size:=(I.mod.glob.keeps I.bk).lt;exact Q6 'd' h
def Fy:TE:=λ_ H Q=>∀p,H p=none->Q (.ref p) (upd H p (.dK []))
theorem Ig:PE X (.Dict [] [] pos) Fy:=λGo s σ H Q I h =>
 wpAny_Dict_empty {.ref s.heap.objs.size,_,I.laid (a:=s.heap.objs.size) (o:=.dK []) (t':=s.toks) (λ_ _ q=>Ou _ q) (Ov _) {Pp _,beq_eq_false_iff_ne.mpr (Pd (Pe I.big)),[],.nil,Heap.DictOf.new s.heap},rfl,h _ (I.hok.fresh (Ov _))}
def Ci(K:Ow)(n:Nat)(t:TGs):TG:=λv σ H Q=>∃a xs,v = .ref a/\SqL K H a xs/\xs.length=n/\t xs σ H Q
theorem ET{k:Nat}{t:TGs}(G:X.calm=true)(h:PGs X es t)(hl:(P7 es X.env).length=n:=by rfl)(hst:(P7 es X.env).findIdx? (·.1)=none:=by rfl):PG X (.Tuple es k pos) (Ci X.K n t):=by
 intro Go s σ H v u Q I r q;obtain ⟨a,xs,rfl,hx,F,q⟩:=q;obtain rfl:u=OH a:=r;obtain ⟨its,z,hp,hz⟩:=I.list hx;rw [assign_Tuple];refine we (Pl ?_);unfold unpack;have hs:n=its.toArray.size:=by rw [<- F,z.length];simp
 rw [hl,hst,hs];refine we (OT (PySem.W.kun_itemsOf (I.ok.hd G) hp.isList λh' ex=>?_));have J:Inv X Go σ H { s with heap:=h' }:=I.kept (t':=s.toks) λb o e=>ex b o (Pe (OX e)) e;have:=h Go { s with heap:=h' } σ H xs its Q J z q;simpa using this
def mr(K:Ow)(ta:TA):TI:=λσ H R=>ta σ H λvs H1=>∃a b,vs=[.ref a,.ref b]/\(∃xs,SqL K H1 a xs)/\(∃ys,SqL K H1 b ys)/\R (Itz K a b) H1
theorem N6{tp p pos:Pos}(hg:Gl X "zip")(hm:X.mg "zip"=none)(ha:PA X [a,b] ta)(hs:OV [a,b] X.env=[(false,PH a X.env),(false,PH b X.env)]:=by rfl)(U:OV [b] X.env=[(false,PH b X.env)]:=by rfl):
  PIc false X (.Tuple YC kk tp) (.Call (.Name "zip" p) [a,b] [] pos) (mr X.K ta):=by
 intro Go s σ H R I h;refine Call_ (fW I hg hm boot_zip (Rw (thn (ha pos Go s σ H _ I h) λus s1=>x5e λvs H1 z r1 q1=>?_) (by rw [hs,U]) (by rw [U];rfl)));obtain ⟨Z,l2,e,⟨xs,h1⟩,⟨ys,h2⟩,q⟩:=q1;subst e;cases r1 with
 | cons r J =>
  cases J with
  | cons r' J =>
   cases J;cases (show _=OH Z from r);cases (show _=OH l2 from r');obtain ⟨ax,ai,W,_⟩:=z.list h1;obtain ⟨aI,av,p2,_⟩:=z.list h2;have G:Z<s1.heap.objs.size:=by obtain ⟨o,e,_⟩:=W.isList;exact OX e
   have F:l2<s1.heap.objs.size:=by obtain ⟨o,e,_⟩:=p2.isList;exact OX e
   refine call_zip_2 W.isList p2.isList λh' O a2 a3 a4 a5 a6 a7=>wpAny_pyIter_zip (s:={ s1 with heap:=h' }) O ?_;refine {_,_,_,_,H1,rfl,z.kept (t':=s1.toks) a7,JO (zipApart_new G F),{O,a2,{_,_,a3},a4,a5},λb S=>?_,q};have le:s1.heap.objs.size<=b:=by
    simp only [OL,Pa,or_false] at S;rcases S with rfl|rfl|rfl|rfl|rfl<;>lia
   exact z.a7 le (z.hok.fresh le)
theorem zE.mark{k:Nat}(r:zE c k A):zE false k (A.mark v):={λh=>(nomatch h),r.dp,r.un,r.gd}
noncomputable def af:OU->Bool
 | .Starred _ _=>false
 | _=>true
theorem cK(h:af e=true):OV (e::es) env=(false,PH e env)::OV es env:=by
 cases e<;>first|rfl|(exact absurd (show false=true from h) OP)
noncomputable def c9(es:List OU):Bool:=es.all af
theorem xh:∀{es:List OU}(h:c9 es=true),(OV es env).any (·.1)=false
 | [],_=>rfl
 | e::es,h=>by
  unfold c9 at h;rw [TU,O1] at h;rw [cK h.1,Up,xh h.2];rfl
theorem dW(h:c9 es=true):(Qz pos (OV es env)).any (·.1)=false:=by
 have q:=xh (env:=env) h;unfold Qz;rw [List.any_map];exact q
theorem dZ(h:af e=true):OV [e] env=[(false,PH e env)]:=(cK h).trans rfl
theorem Fg(h:af e=true)(h':af z=true):OV [e,z] env=[(false,PH e env),(false,PH z env)]:=by rw [cK h,dZ h']
theorem jG{t:TA}(ha:PE X e te)(hr:PA X es t)(hp:af e=true:=by rfl):PA X (e::es) (d9 te t):=gU ha hr (cK hp)
theorem zM{id:String}{r:List V->Hp->VK->Prop}{t:TA}{p pos:Pos}(J:zY X (.builtin id) r)(F:Gl X x)(S:X.mg x=none)(hv:Q4 x=some (.builtin id))(ha:W (PA X (e::es) t))(hp:af e=true:=by rfl)(G:c9 es=true:=by rfl)(z:x≠"__name__":=by decide)(O:'g'=false:=by decide):W (PE X (.Call (.Name x p) (e::es) [] pos) (tCB r t)):=by refine {?_};have ha:=ha.h;exact C1 J F S hv ha z O (cK hp) (dW G)
theorem bJ{r:List V->Hp->VK->Prop}{t:TA}{p pos:Pos}(J:zY X (.type T) r)(F:Gl X x)(S:X.mg x=none)(hv:Q4 x=some (.type T))(ha:W (PA X (e::es) t))(hp:af e=true:=by rfl)(G:c9 es=true:=by rfl)(z:x≠"__name__":=by decide)(O:'g'=false:=by decide):W (PE X (.Call (.Name x p) (e::es) [] pos) (tCB r t)):=by refine {?_};have ha:=ha.h;exact LR J F S hv ha z O (cK hp) (dW G)
theorem dF{p pos:Pos}(F:Gl X "range")(z:X.mg "range"=none)(ha:W (PA X [a] ta))(hp:af a=true:=by rfl):W (PIc true X tg (.Call (.Name "range" p) [a] [] pos) (ox ta)):=by refine {?_};have ha:=ha.h;exact KS F z ha (dZ hp)
theorem Dc{tp p pos:Pos}(J:Gl X "zip")(F:X.mg "zip"=none)(ha:W (PA X [a,b] ta))(hp:af a=true:=by rfl)(z:af b=true:=by rfl):W (PIc false X (.Tuple G kk tp) (.Call (.Name "zip" p) [a,b] [] pos) (mr X.K ta)):=by refine {?_};have ha:=ha.h;exact N6 J F ha (Fg hp z) (dZ z)
theorem dh{t:TA}(G:X.calm=true)(T:aL X Ex)(O:aZ X.K C)(z:Gl X x)(U:X.mg x=some (.ref C))(ha:W (PA X (e::es) t))(hp:af e=true:=by rfl)(F:c9 es=true:=by rfl)(J:'g'=false:=by decide):W (PS X (.Raise (some (.Call (.Name x S) (e::es) [] cpos)) none pos) (jz C Ex t)):=by refine {?_};have ha:=ha.h;exact CA G T O z U ha J (cK hp) (dW F)
structure New(H:Hp)(p:Addr)(o:HO)(H':Hp):Prop where
 no:H p=none
 at_:H' p=some o
 same:zj H H'
theorem New.mk'{p:Addr}{o:HO}(h:H p=none):New H p o (upd H p o):={h,zt,λb u e=>by rw [zg (zz e h)];exact e}
def yS(t:TA):TE:=λσ H Q=>t σ H λxs H1=>xs.length<=sizeLine/\∀p H2,New H1 p (.lst xs) H2->p≠sysModules->Q (.ref p) H2
theorem aq{t:TA}(h:W (PA X es t)):W (PE X (.List es pos) (yS t)):=by
 refine {?_};have h:=h.h;intro Go s σ H Q I G;refine wpAny_List_spliced (thn (h pos Go s σ H _ I G) λus s1=>x5e λxs H1 F r=>x2e λz q=>{by rw [<- r.length];exact z,?_});have hf:H1 s1.heap.objs.size=none:=F.hok.fresh (Ov _);refine {.ref s1.heap.objs.size,upd H1 s1.heap.objs.size (.lst xs),F.laid (t':=s1.toks) (λb u e=>Ou _ e) (Ov _) ?_,rfl,q _ _ (.mk' hf) (RD F.big)};exact {z,us,0,r,ON _ rfl}
def pZ(t:TA):TE:=λσ H Q=>t σ H λxs H1=>xs.length<=sizeLine/\∀p H2,New H1 p (.tup xs) H2->Q (.ref p) H2
theorem xu{t:TA}(hw:∀xs H,R xs H->R' xs H)(h:PA X es t)(pos:Pos)(Go:List (Addr×Obj))(s:KE)(σ:St)(H:Hp)(I:Inv X Go σ H s)(q:t σ H R):
  OE 'c' X.A (spliced (Qz pos (OV es X.env))) (AP X Go σ R') X.xe s :=
 thn (h pos Go s σ H R I q) λ_ _=>x5e λvs H' a b c=>{vs,H',a,b,hw _ _ c}
theorem dN{t:TA}{x1}(h:W (PA X es t)):W (PE X (.Tuple es x1 pos) (pZ t)):=by
 refine {?_};have h:=h.h;have h':PA X es (λσ H Q=>∃R:List V->Hp->Prop,t σ H R/\∀xs H,R xs H->Q xs H):=λpos Go s σ H Q I=>x3e λR q hw=>xu hw h pos Go s σ H I q;intro Go s σ H Q I F;exact JZ h' Go s σ H Q I {_,F,λxs H1=>x2e λz q=>{z,λp hp=>q p _ (.mk' hp)}}
def yQ:TE:=λ_ H Q=>∀p H2,New H p (.dK []) H2->Q (.ref p) H2
theorem AM:W (PE X (.Dict [] [] pos) yQ):={λGo s σ H Q I h=>Ig Go s σ H Q I λp hp=>h p _ (.mk' hp)}
end
def uR(v:V)(q:Addr->Prop):Prop:=∃a,v = .ref a/\q a
def yU(to te:TE):TE:=λσ H Q=>to σ H λx H1=>uR x λl=>(∃xs,H1 l=some (.lst xs))/\te σ H1 λy H2=>∃xs,H2 l=some (.lst xs)/\xs.length<sizeLine/\Q .non (upd H2 l (.lst (xs++[y])))
section
variable {X:Cx}
theorem OpR.weak{r r':R2}(h:OpR X f r)(hw:∀x y H Q,r' x y H Q->r x y H Q):OpR X f r' :=
 λGo s σ H x y v u Q I F z q=>h Go s σ H x y v u Q I F z (hw x y H Q q)
theorem zY.weak{r r':List V->Hp->VK->Prop}(h:zY X f r)(hw:∀xs H Q,r' xs H Q->r xs H Q):zY X f r' :=
 λGo s σ H xs us Q I z q=>h Go s σ H xs us Q I z (hw xs H Q q)
theorem IxR.weak{r r':R2}(h:IxR X r)(hw:∀x y H Q,r' x y H Q->r x y H Q):IxR X r' :=
 λZt F Go s σ H x y v u Q I G z q hs=>h Zt F Go s σ H x y v u Q I G z (hw x y H Q q) hs
def eh:R2:=λx y H Q=>(∃i j,x = .int i/\y = .int j/\Q (.int (i+j)) H)\/(∃i j,x = .str i/\y = .str j/\i.length+j.length<=sizeLine/\Q (.str (i++j)) H) \/
 (∃l b xs zs,x = .ref l/\y = .ref b/\H l=some (.lst xs)/\H b=some (.lst zs)/\xs.length+zs.length<=sizeLine/\∀p H2,New H p (.lst (xs++zs)) H2->Q (.ref p) H2)
theorem nB:OpR X (QF .Add) eh:=DT.or (CZ.or (Np.weak λx y H Q h=>by
 obtain ⟨l,b,xs,zs,z,F,h1,h2,h3,h4⟩:=h;exact {l,b,xs,zs,z,F,h1,h2,h3,λp hp=>h4 p _ (.mk' hp)}))
def fQ:R2:=λx y H Q=>(∃i j,x = .int i/\y = .int j/\ie i j/\Q (.int (i*j)) H) \/
 (∃l k xs,x = .ref l/\y = .int k/\H l=some (.lst xs)/\-(2 ^ 63)<=k/\k<2 ^ 63/\xs.length*k.toNat<=sizeLine/\∀p H2,New H p (.lst (PZ k.toNat xs).flatten) H2->Q (.ref p) H2)
theorem CL:OpR X (QF .Mult) fQ:=Nu.or (EZ.weak λx y H Q h=>by
 obtain ⟨l,k,xs,z,G,h1,h2,h3,F,h4⟩:=h;exact {l,k,xs,z,G,h1,h2,h3,F,λp hp=>h4 p _ (.mk' hp)})
noncomputable def uIx:R2:=λx y H Q=>(∃p xs i v,x = .ref p/\y = .int i/\H p=some (.lst xs)/\atI xs i=some v/\Q v H) \/
 (∃p xs i v,x = .ref p/\y = .int i/\H p=some (.tup xs)/\atI xs i=some v/\Q v H)\/(∃z i c,x = .str z/\y = .int i/\z.length<=sizeLine/\atI z.cps.toList i=some c/\Q (.str {#[c]}) H)
theorem rp:IxR X uIx:=Eo.weak λx y H Q h=>by
 rcases h with ⟨p,xs,i,v,z,F,h,r⟩|⟨p,xs,i,v,z,F,h,r⟩|h
 .exact .inl {p,xs,i,v,z,F,SqL.of h,r}
 .exact .inr (.inl {p,xs,i,v,z,F,SqT.of h,r})
 .exact .inr (.inr h)
def kA:List V->Hp->VK->Prop:=λxs H Q=>(∃p ys,xs=[.ref p]/\H p=some (.lst ys)/\Q (.int ys.length) H)\/(∃p ys,xs=[.ref p]/\H p=some (.tup ys)/\Q (.int ys.length) H) \/
 (∃z,xs=[.str z]/\z.length<=sizeLine/\Q (.int z.length) H)
theorem iU:zY X (.builtin "len") kA:=(oF.or DY).weak λxs H Q h=>by
 rcases h with ⟨p,ys,e,h,q⟩|⟨p,ys,e,h,q⟩|h
 .exact .inl {p,ys,e,.inl (SqL.of h),q}
 .exact .inl {p,ys,e,.inr (SqT.of h),q}
 .exact .inr h
noncomputable def uEq(neg:Bool):R2:=λx y H Q=>(gw x y=true/\Q (.bl (if neg then !decide (x=y) else decide (x=y))) H) \/
 (∃a b xs ys,x = .ref a/\y = .ref b/\H a=some (.lst xs)/\H b=some (.lst ys)/\xs.all ah=true/\ys.all ah=true/\Q (.bl (if neg then !eqL xs ys else eqL xs ys)) H)
theorem eS(F:X.A.units<cLine):OpR X (PU .Eq) (uEq false):=(Di.or (NW F)).weak λx y H Q h=>by
 rcases h with h|⟨a,b,xs,ys,z,G,h1,h2,r⟩
 .exact .inl {h.1,by simpa using h.2}
 .exact .inr {a,b,xs,ys,z,G,SqL.of h1,SqL.of h2,r}
theorem ee(F:X.A.units<cLine):OpR X (PU .NotEq) (uEq true):=(Jz.or (GI F)).weak λx y H Q h=>by
 rcases h with h|⟨a,b,xs,ys,z,G,h1,h2,r⟩
 .exact .inl {h.1,by simpa using h.2}
 .exact .inr {a,b,xs,ys,z,G,SqL.of h1,SqL.of h2,r}
def kS(K:Ow)(ta:TE):TT:=λσ H Q=>ta σ H λx H'=>∃k,fG K x H' k/\Q k H'
theorem wZ(ha:PE X a ta)(he:∀z,T8 a X.env z=(do let v<-z;QM a.pos;QA [v] (truthy v)):=by intro _;rfl):PT X a (kS X.K ta):=BL ha he
def jU(C:Addr)(ta:TE)(f:Str):TE:=λσ H Q=>ta σ H λx H1=>∃a dx fs v,x = .ref a/\H1 a=some (.ins C dx fs)/\fs.lookup f=some v/\Q v H1
theorem zO(c:Cls X.K C)(n:aF X.K C f)(he:W (PE X e ta))(G:Qs e f X.env (PH e X.env)=PH e X.env:=by rfl):W (PE X (.Attribute e f pos) (jU C ta f)):=by
 refine {?_};have he:=he.h;intro Go s σ H Q I h;refine Hb G (thn (he Go s σ H _ I h) λu s1=>x5e λx H1 F S O=>?_);obtain ⟨a,dx,fs,v,ex,ea,l,q⟩:=O;subst ex;obtain rfl:u=OH a:=S;exact wt F ea c n l λU s2 J z=>⟨v,H1,J,z,q⟩
noncomputable def lC(C:Addr)(ta tv:TE)(f:Str):TS:=λD σ H=>tv σ H λy H1=>ta σ H1 λx H2=>∃a dx fs,x = .ref a/\H2 a=some (.ins C dx fs)/\fs.length<1000/\D.nx σ (upd H2 a (.ins C dx (zG f y fs)))
theorem ar{o Zt:OU}{ta tv:TE}(c:Cls X.K C)(n:aF X.K C f)(ha:W (PE X o ta))(hv:W (PE X Zt tv))(hs:SO Zt (some (.Attribute o f Zi)) pos.line X.env=pure false:=by rfl):W (PS X (.Assign [.Attribute o f Zi] Zt pos) (lC C ta tv f)):=by
 refine {?_};have ha:=ha.h;have hv:=hv.h;intro Go s σ H D I h;refine plainObj_wpAny_Assign_Attribute (thn (hv Go s σ H _ I h) λu s1=>x5e λy H1 F z q=>thn (ha Go s1 σ H1 _ F q) λO s2=>x5e λx H2 G U J=>?_) hs;obtain ⟨a,dx,fs,ex,ea,l,Z⟩:=J;subst ex;obtain rfl:O=OH a:=U;exact vb G ea c n l z λs3 S=>{σ,_,S,Z}
structure GF(P:OF)(w:OS)(K:Ow)(mg:Str->Option Value)(base:Heap)(cm:Bool)(k:Nat)(x:Str)(ps:List Str)(sp:Sp):Prop where
 ex:∃(f:Addr)(fd:OG),zq P w K mg base CX0 cm k f fd ps sp/\mg x=some (.ref f)/\Ru K (.ref f)=true/\br K fd ps []
structure GX(P:OF)(w:OS)(K:Ow)(mg:Str->Option Value)(base:Heap)(cm:Bool)(k:Nat)(x:Str)(ps:List Str)(sp:Sp):Prop where
 ex:∃(f:Addr)(fd:OG),zq P w K mg base (CXW P w) cm k f fd ps sp/\mg x=some (.ref f)/\Ru K (.ref f)=true/\br K fd ps []
structure GM(P:OF)(w:OS)(K:Ow)(mg:Str->Option Value)(base:Heap)(cm:Bool)(k:Nat)(C:Addr)(m:Str)(ps:List Str)(sp:Sp):Prop where
 ex:∃(f:Addr)(fd:OG),zq P w K mg base CX0 cm k f fd ps sp/\gM K C m f/\br K fd ps []
structure GMX(P:OF)(w:OS)(K:Ow)(mg:Str->Option Value)(base:Heap)(cm:Bool)(k:Nat)(C:Addr)(m:Str)(ps:List Str)(sp:Sp):Prop where
 ex:∃(f:Addr)(fd:OG),zq P w K mg base (CXW P w) cm k f fd ps sp/\gM K C m f/\br K fd ps []
structure GC(P:OF)(w:OS)(K:Ow)(mg:Str->Option Value)(base:Heap)(cm:Bool)(k:Nat)(x:Str)(C:Addr)(ps:List Str)(sp:Sp):Prop where
 ex:∃(f:Addr)(fd:OG),zq P w K mg base CX0 cm k f fd ps sp/\mg x=some (.ref C)/\Mk K C f/\br K fd ps []
structure GCX(P:OF)(w:OS)(K:Ow)(mg:Str->Option Value)(base:Heap)(cm:Bool)(k:Nat)(x:Str)(C:Addr)(ps:List Str)(sp:Sp):Prop where
 ex:∃(f:Addr)(fd:OG),zq P w K mg base (CXW P w) cm k f fd ps sp/\mg x=some (.ref C)/\Mk K C f/\br K fd ps []
variable {cm:Bool}{k j:Nat}{x m:Str}{C:Addr}{ps:List Str}{sp:Sp}{e o:OU}{es:List OU}{t:TA}{ta:TE}{p pos ZZ:Pos}{Ex:Addr->St->Hp->Prop}
theorem zQ(G:GF X.prog X.w X.K X.mg X.base cm j x ps sp)(hr:zE cm k X.A)(z:Gl X x)(ha:W (PA X (e::es) t))(S:j<=k:=by decide)(Z:'g'=false:=by decide)(hp:af e=true:=by rfl)(O:c9 es=true:=by rfl):W (PE X (.Call (.Name x p) (e::es) [] pos) (iw sp [] E0 t)):=by
 refine {?_};have ha:=ha.h;obtain ⟨f,fd,F,hm,U,J⟩:=G.ex;exact Mr F (hr.mono S) z hm U J .nil iy ha Z (cK hp) (dW O)
theorem de(T:aL X Ex)(G:GX X.prog X.w X.K X.mg X.base cm j x ps sp)(hr:zE cm k X.A)(z:Gl X x)(ha:W (PA X (e::es) t))(S:j<=k:=by decide)(Z:'g'=false:=by decide)(hp:af e=true:=by rfl)(O:c9 es=true:=by rfl):W (PE X (.Call (.Name x p) (e::es) [] pos) (kB sp [] Ex t)):=by
 refine {?_};have ha:=ha.h;obtain ⟨f,fd,F,hm,U,J⟩:=G.ex;exact Mm T F (hr.mono S) z hm U J .nil ha Z (cK hp) (dW O)
theorem cn(he:W (PE X o ta))(c:Cls X.K C)(G:GM X.prog X.w X.K X.mg X.base cm j C m ps sp)(hr:zE cm k X.A)(ha:W (PA X (e::es) t))(S:j<=k:=by decide)(hp:af e=true:=by rfl)(O:c9 es=true:=by rfl)(Z:PH (.Call (.Attribute o m ZZ) (e::es) [] pos) X.env=(do
   let z<-PH o X.env
   QM ZZ.atName
   let (f,first)<-QA [z] (RM z m pl)
   Rp pos f first (Qz pos (OV (e::es) X.env)) (SC pos (Rc [] X.env))):=by rfl):W (PE X (.Call (.Attribute o m ZZ) (e::es) [] pos) (fC C m sp [] E0 ta t)):=by
 refine {?_};have he:=he.h;have ha:=ha.h;obtain ⟨f,fd,F,U,J⟩:=G.ex;exact KY he c U F (hr.mono S) J .nil iy ha (cK hp) (dW O) Z
theorem zZ(he:W (PE X o ta))(c:Cls X.K C)(G:GM X.prog X.w X.K X.mg X.base cm j C m ps sp)(hr:zE cm k X.A)(O:j<=k:=by decide)(U:PH (.Call (.Attribute o m ZZ) [] [] pos) X.env=(do
   let z<-PH o X.env
   QM ZZ.atName
   let (f,first)<-QA [z] (RM z m pl)
   Rp pos f first (Qz pos (OV [] X.env)) (SC pos (Rc [] X.env))):=by rfl):W (PE X (.Call (.Attribute o m ZZ) [] [] pos) (fC C m sp [] E0 ta bV)):=by
 refine {?_};have he:=he.h;obtain ⟨f,fd,F,S,J⟩:=G.ex;exact Df he c S F (hr.mono O) J .nil iy U
theorem ig(he:W (PE X o ta))(c:Cls X.K C)(T:aL X Ex)(G:GMX X.prog X.w X.K X.mg X.base cm j C m ps sp)(hr:zE cm k X.A)(ha:W (PA X (e::es) t))(S:j<=k:=by decide)(hp:af e=true:=by rfl)(O:c9 es=true:=by rfl)(Z:PH (.Call (.Attribute o m ZZ) (e::es) [] pos) X.env=(do
   let z<-PH o X.env
   QM ZZ.atName
   let (f,first)<-QA [z] (RM z m pl)
   Rp pos f first (Qz pos (OV (e::es) X.env)) (SC pos (Rc [] X.env))):=by rfl):W (PE X (.Call (.Attribute o m ZZ) (e::es) [] pos) (fJ C m sp [] Ex ta t)):=by
 refine {?_};have he:=he.h;have ha:=ha.h;obtain ⟨f,fd,F,U,J⟩:=G.ex;exact Ez he c U T F (hr.mono S) J .nil ha (cK hp) (dW O) Z
theorem bc(he:W (PE X o ta))(c:Cls X.K C)(T:aL X Ex)(G:GMX X.prog X.w X.K X.mg X.base cm j C m ps sp)(hr:zE cm k X.A)(O:j<=k:=by decide)(U:PH (.Call (.Attribute o m ZZ) [] [] pos) X.env=(do
   let z<-PH o X.env
   QM ZZ.atName
   let (f,first)<-QA [z] (RM z m pl)
   Rp pos f first (Qz pos (OV [] X.env)) (SC pos (Rc [] X.env))):=by rfl):W (PE X (.Call (.Attribute o m ZZ) [] [] pos) (fJ C m sp [] Ex ta bV)):=by
 refine {?_};have he:=he.h;obtain ⟨f,fd,F,S,J⟩:=G.ex;exact FX he c S T F (hr.mono O) J .nil U
structure kU(H:Hp)(C x dx:Addr)(H':Hp):Prop where
 no:H x=none
 nod:H dx=none
 ne:dx≠x
 at_:H' x=some (.ins C dx [])
 own:H' dx=some (.own x)
 same:zj H H'
theorem kU.mk'{C x dx:Addr}(h:H x=none)(hd:H dx=none)(ne:dx≠x):kU H C x dx (upd (upd H dx (.own x)) x (.ins C dx [])) :=
 {h,hd,ne,zt,by rw [zg ne,zt],λb u e=>by rw [zg (zz e h),zg (zz e hd)];exact e}
def kG(C:Addr)(sp:Sp)(t:TA):TE:=λσ H Q=>t σ H λvs H1=>∀x dx H2,kU H1 C x dx H2->sp (.ref x::vs) H2 (λv H3=>v = .non/\Q (.ref x) H3) E0
def vV(C:Addr)(sp:Sp)(Ex:Addr->St->Hp->Prop)(t:TA):TE:=λσ H Q=>t σ H λvs H1=>∀x dx H2,kU H1 C x dx H2->sp (.ref x::vs) H2 (λv H3=>v = .non/\Q (.ref x) H3) (XE Ex σ)
theorem PA.any{es:List OU}{t:TA}(h:PA X es t):PA X es (λσ H Q=>∃R:List V->Hp->Prop,t σ H R/\∀xs H,R xs H->Q xs H):=λpos Go s σ H Q I=>x3e λR q hw=>xu hw h pos Go s σ H I q
theorem gZ(G:GC X.prog X.w X.K X.mg X.base cm j x C ps sp)(hr:zE cm k X.A)(z:Gl X x)(ha:W (PA X (e::es) t))(S:j+1<=k:=by decide)(U:'g'=false:=by decide)(hp:af e=true:=by rfl)(O:c9 es=true:=by rfl):W (PE X (.Call (.Name x p) (e::es) [] pos) (kG C sp t)):=by
 refine {?_};have ha:=ha.h;obtain ⟨f,fd,F,Z,M,J⟩:=G.ex;intro Go s σ H Q I h;exact LC M F (hr.mono S) z Z J .nil iy ha.any U (cK hp) (dW O) Go s σ H Q I {_,h,λvs H1 q x dx hx hd ne=>by rw [Qa];exact q x dx _ (.mk' hx hd ne)}
theorem yO(T:aL X Ex)(G:GCX X.prog X.w X.K X.mg X.base cm j x C ps sp)(hr:zE cm k X.A)(z:Gl X x)(ha:W (PA X (e::es) t))(S:j+1<=k:=by decide)(U:'g'=false:=by decide)(hp:af e=true:=by rfl)(O:c9 es=true:=by rfl):W (PE X (.Call (.Name x p) (e::es) [] pos) (vV C sp Ex t)):=by
 refine {?_};have ha:=ha.h;obtain ⟨f,fd,F,Z,M,J⟩:=G.ex;intro Go s σ H Q I h;exact KQ M T F (hr.mono S) z Z J .nil ha.any U (cK hp) (dW O) Go s σ H Q I {_,h,λvs H1 q x dx hx hd ne=>by rw [Qa];exact q x dx _ (.mk' hx hd ne)}
theorem aK{pos:Pos}(F:Gl X x)(z:∃u,X.mg x=some u/\zp v u)(hd:'g'=false:=by decide):W (PE X (.Name x pos) (tC v)):=by
 refine {?_};obtain ⟨u,z,r⟩:=z;exact Gw F z r hd
theorem g9{o e:OU}{to te:TE}{ZZ cpos:Pos}(S:W (PE X o to))(he:W (PE X e te))
  (Zw:Qs o "append" X.env (PH o X.env)=PH o X.env:=by rfl)
  (Za:(ZZ.endLine==cpos.line)=true:=by rfl) (hp:af e=true:=by rfl):W (PE X (.Call (.Attribute o "append" ZZ) [e] [] cpos) (yU to te)):=by
 refine {?_};have S:=S.h;have he:=he.h;intro Go s σ H Q I h;have hs:OV [e] X.env=[(false,PH e X.env)]:=dZ hp;refine Rf Zw (by rw [hs];rfl) Za rfl (thn (S Go s σ H _ I h) λv s1=>x5e λx H1 Z r1 G=>?_);obtain ⟨l,ex,⟨xs,hx⟩,q1⟩:=G;subst ex;obtain ⟨h1,h2⟩:=jv (T:="list") Z r1 (.inl {rfl,xs,SqL.of hx});refine {"list","list.append",plainAttrs_list,PySem.F.slot_list_append,PySem.F.type_list_append,h1,h2,?_};rw [hs];refine Calls.callWith_builtin rfl (Calls.evalArgs_plain ?_);have hA:=gU he gF (hs:=hs) cpos Go s1 σ H1 (λys H2=>dR (λy=>∃xs,H2 l=some (.lst xs)/\xs.length<sizeLine/\Q .non (upd H2 l (.lst (xs++[y])))) ys) Z q1;rw [hs] at hA;refine thn hA λus s2=>x5e λvs H2 I2 r2 U=>?_;obtain ⟨y,rfl,J,O,z,U⟩:=dR.ex U;exact JP Go s2 σ H2 (.ref l) [y] v us Q I2 r1 r2 {l,J,y,rfl,rfl,O,z,U}
end
section
variable {X:Cx}
def fq:List V->Hp->VK->Prop:=λxs H Q=>(∃i,xs=[.int i]/\Q (.int i) H)\/∃k,xs=[.bl k]/\Q (.int (if k then 1 else 0)) H
theorem Ij:zY X (.type "int") fq:=EO
def h8:List V->Hp->VK->Prop:=λxs H Q=>∃i,xs=[.int i]/\i.natAbs.log2<1920/\Q (.str (toString i)) H
theorem IL:zY X (.type "str") h8:=Kt
theorem Fl:fq [.int i] H Q=Q (.int i) H:=by simp [fq]
theorem Mh{k:Bool}:fq [.bl k] H Q=Q (.int (if k then 1 else 0)) H:=by simp [fq]
theorem GS:h8 [.int i] H Q=(i.natAbs.log2<1920/\Q (.str (toString i)) H):=by simp [h8]
def qw:List V->Hp->VK->Prop:=λxs H Q=>∃i j,xs=[.int i,.int j]/\Q (.int (if j>i then j else i)) H
def xc:List V->Hp->VK->Prop:=λxs H Q=>∃i j,xs=[.int i,.int j]/\Q (.int (if j<i then j else i)) H
theorem M3(z:X.calm=true):zY X (.builtin "max") qw:=HR z
theorem vq(z:X.calm=true):zY X (.builtin "min") xc:=II z
theorem rN:qw [.int i,.int j] H Q=Q (.int (if j>i then j else i)) H:=by
 apply propext;constructor
 .rintro ⟨a,b,e,q⟩;cases e;exact q
 .exact λq=>{i,j,rfl,q}
theorem MZ:xc [.int i,.int j] H Q=Q (.int (if j<i then j else i)) H:=by
 apply propext;constructor
 .rintro ⟨a,b,e,q⟩;cases e;exact q
 .exact λq=>{i,j,rfl,q}
end
section
variable {Y:Cx}{sc:Scope}{N':List Str}{Go:List (Addr×Obj)}{D:Addr}{fp:List Addr}{s:KE}{H:Hp}
theorem JT(ha:W (PE (zy Y sc N' Go D fp s H) a ta))(he:∀z,T8 a (zy Y sc N' Go D fp s H).env z=(do let v<-z;QM a.pos;QA [v] (truthy v)):=by intro _;rfl):W (PT (zy Y sc N' Go D fp s H) a (kS Y.K ta)):=by refine {?_};have ha:=ha.h;exact wZ ha he
theorem uv{k:Nat}{t:TGs}(h:PGs (zy Y sc N' Go D fp s H) es t)(hl:(P7 es (zy Y sc N' Go D fp s H).env).length=n:=by rfl)(hst:(P7 es (zy Y sc N' Go D fp s H).env).findIdx? (·.1)=none:=by rfl):PG (zy Y sc N' Go D fp s H) (.Tuple es k pos) (mO Y.K n t):=A7 h hl hst
end
theorem NR{t:TG}{r:List V}:g7 t u (v::r) σ H Q=t v σ H λz H'=>u r z H' Q:=by
 apply propext;constructor
 .rintro ⟨v,r,e,h⟩;cases e;exact h
 .exact λh=>{v,r,rfl,h}
theorem Cq:oZ [] σ H Q=Q σ H:=by
 apply propext;constructor
 .exact λh=>h.2
 .exact λh=>{rfl,h}
section
variable {H:Hp}{Q:VK}{i j:Int}{x y:Str}{a b:Addr}{K:Ow}{g:Int->Int->V}{C:Int->Int->Prop}{k c:Bool}{QB:Bool->Hp->Prop}
theorem AZ:eh (.int i) (.int j) H Q=Q (.int (i+j)) H:=by simp [eh]
theorem xD:eh (.str x) (.str y) H Q=(x.length+y.length<=sizeLine/\Q (.str (x++y)) H):=by simp [eh]
theorem rD:eh (.ref a) (.ref b) H Q = ∃xs zs,H a=some (.lst xs)/\H b=some (.lst zs)/\xs.length+zs.length<=sizeLine/\∀p H2,New H p (.lst (xs++zs)) H2->Q (.ref p) H2:=by simp [eh]
theorem Bc:fQ (.int i) (.int j) H Q=(ie i j/\Q (.int (i*j)) H):=by simp [fQ]
theorem Gq:fQ (.ref a) (.int i) H Q = ∃xs,H a=some (.lst xs)/\-(2 ^ 63)<=i/\i<2 ^ 63/\xs.length*i.toNat<=sizeLine/\∀p H2,New H p (.lst (PZ i.toNat xs).flatten) H2->Q (.ref p) H2:=by simp [fQ]
theorem rQ:uIx (.ref a) (.int i) H Q = ∃xs,(H a=some (.lst xs)\/H a=some (.tup xs))/\∃v,atI xs i=some v/\Q v H:=by
 apply propext;constructor
 .rintro (⟨p,xs,i,v,F,G,h,r⟩|⟨p,xs,i,v,F,G,h,r⟩|⟨z,i,c,e,_⟩)
  .cases F;cases G;exact {xs,.inl h,v,r}
  .cases F;cases G;exact {xs,.inr h,v,r}
  .cases e
 .rintro ⟨xs,h|h,v,r⟩
  .exact .inl {_,xs,_,v,rfl,rfl,h,r}
  .exact .inr (.inl {_,xs,_,v,rfl,rfl,h,r})
theorem tR:uIx (.str x) (.int i) H Q=(x.length<=sizeLine/\∃c,atI x.cps.toList i=some c/\Q (.str {#[c]}) H):=by simp [uIx]
theorem ou:kA [.ref a] H Q = ∃ys,(H a=some (.lst ys)\/H a=some (.tup ys))/\Q (.int ys.length) H:=by
 apply propext;constructor
 .rintro (⟨p,xs,F,h,r⟩|⟨p,xs,F,h,r⟩|⟨z,e,_⟩)
  .cases F;exact {xs,.inl h,r}
  .cases F;exact {xs,.inr h,r}
  .cases e
 .rintro ⟨xs,h|h,r⟩
  .exact .inl {_,xs,rfl,h,r}
  .exact .inr (.inl {_,xs,rfl,h,r})
theorem uL:kA [.str x] H Q=(x.length<=sizeLine/\Q (.int x.length) H):=by simp [kA]
theorem Cb:rI C g (.int i) (.int j) H Q=(C i j/\Q (g i j) H):=by simp [rI]
theorem EB:rI0 g (.int i) (.int j) H Q=Q (g i j) H:=by simp [rI0]
theorem LO{g:Int->V}:rU g (.int i) H Q=Q (g i) H:=by simp [rU]
theorem tZ:uEq c (.int i) (.int j) H Q=Q (.bl (if c then !decide (i=j) else decide (i=j))) H:=by simp [uEq,gw]
theorem sW:uEq c (.str x) (.str y) H Q=Q (.bl (if c then !decide (x=y) else decide (x=y))) H:=by simp [uEq,gw]
theorem tE:uEq c (.bl k) (.bl k') H Q=Q (.bl (if c then !decide (k=k') else decide (k=k'))) H:=by simp [uEq,gw]
theorem sV:uEq c (.ref a) (.ref b) H Q = ∃xs ys,H a=some (.lst xs)/\H b=some (.lst ys)/\xs.all ah=true/\ys.all ah=true/\Q (.bl (if c then !eqL xs ys else eqL xs ys)) H:=by simp [uEq,gw]
def gh(K:Ow)(v:V)(H:Hp)(Q:Bool->Hp->Prop):Prop:=∃k,fG K v H k/\Q k H
theorem K3:gh K (.bl k) H QB=QB k H:=by simp [gh,fG]
theorem Jv:gh K .non H QB=QB false H:=by simp [gh,fG]
theorem Ey:gh K (.int i) H QB=QB (i != 0) H:=by simp [gh,fG]
theorem Dd:kS K ta σ H QB=ta σ H λx H'=>gh K x H' QB:=rfl
def uB(v:V)(q:Bool->Prop):Prop:=∃c,v = .bl c/\q c
theorem Nc:uB (.bl k) q=q k:=by simp [uB]
theorem Bv{t:TE}:oq t σ H QB=t σ H λx H1=>uB x λc=>QB c H1:=rfl
theorem C0{t u:TE}:oR t u σ H Q=t σ H λx H1=>uB x λc=>if c=true then u σ H1 Q else Q (.bl false) H1:=rfl
theorem Kv{t u:TE}:Av t u σ H Q=t σ H λx H1=>uB x λc=>if c=true then Q (.bl true) H1 else u σ H1 Q:=rfl
theorem K7{t:TE}:pP t σ H Q=t σ H λx H1=>uB x λc=>Q (.bl (!c)) H1:=rfl
theorem Il{r r':R2}:yn r r' ta tb tc σ H Q=ta σ H λx H1=>tb σ H1 λy H2=>r x y H2 λz H3=>uB z λk=>if k=true then tc σ H3 λw' H4=>r' y w' H4 Q else Q (.bl false) H3:=rfl
theorem nM:uR (.ref a) q=q a:=by simp [uR]
theorem HW{C:Addr}:jU C ta f σ H Q=ta σ H λx H1=>uR x λa=>∃dx fs v,H1 a=some (.ins C dx fs)/\fs.lookup f=some v/\Q v H1:=by
 unfold jU uR;congr;funext x H1;apply propext;constructor
 .rintro ⟨a,dx,fs,v,h1,h2,h3,h4⟩;exact ⟨a,h1,dx,fs,v,h2,h3,h4⟩
 .rintro ⟨a,h1,dx,fs,v,h2,h3,h4⟩;exact ⟨a,dx,fs,v,h1,h2,h3,h4⟩
theorem IW{C:Addr}{ta tv:TE}:lC C ta tv f D σ H=tv σ H λy H1=>ta σ H1 λx H2=>uR x λa=>∃dx fs,H2 a=some (.ins C dx fs)/\fs.length<1000/\D.nx σ (upd H2 a (.ins C dx (zG f y fs))):=by
 unfold lC uR;congr;funext x H1;congr;funext x2 H2;apply propext;constructor
 .rintro ⟨a,dx,fs,h1,h2,h3,h4⟩;exact ⟨a,h1,dx,fs,h2,h3,h4⟩
 .rintro ⟨a,h1,dx,fs,h2,h3,h4⟩;exact ⟨a,dx,fs,h1,h2,h3,h4⟩
theorem G3{C:Addr}{t:TA}:fC C m sp Zh E ta t σ H Q=ta σ H λx H1=>uR x λa=>∃dx fs,H1 a=some (.ins C dx fs)/\fs.lookup m=none/\t σ H1 λvs H2=>sp (.ref a::(vs++Zh)) H2 Q E:=by
 unfold fC uR;congr;funext x H1;apply propext;constructor
 .rintro ⟨a,dx,fs,rfl,h2,h3,h4⟩;exact {a,rfl,dx,fs,h2,h3,h4}
 .rintro ⟨a,rfl,dx,fs,h2,h3,h4⟩;exact {a,dx,fs,rfl,h2,h3,h4}
theorem HD{C:Addr}{t:TA}:fJ C m sp Zh Ex ta t σ H Q=ta σ H λx H1=>uR x λa=>∃dx fs,H1 a=some (.ins C dx fs)/\fs.lookup m=none/\t σ H1 λvs H2=>sp (.ref a::(vs++Zh)) H2 Q (XE Ex σ):=by
 unfold fJ uR;congr;funext x H1;apply propext;constructor
 .rintro ⟨a,dx,fs,rfl,h2,h3,h4⟩;exact {a,rfl,dx,fs,h2,h3,h4}
 .rintro ⟨a,rfl,dx,fs,h2,h3,h4⟩;exact {a,dx,fs,rfl,h2,h3,h4}
end
section
variable {K:Ow}{g:TG}{tb:TS}{D:bZ}{σ:St}{H:Hp}{ta:TA}{tl:TE}{wi:TI}{R:It->Hp->Prop}{j:Int}{tt:TT}{te:TE}{ix:List (Option Nat)}{Q:VK}
def bu(J:It)(g:TG)(tb:TS)(D:bZ)(σ:St)(H:Hp):Prop:=∃W:Nat->Nat->St->Hp->Prop,(∃m,W 0 m σ H)/\∀i m σ H,W i m σ H ->
 (J.stop i H/\D.nx σ H)\/(J.go i H/\∃N:St->Hp->Prop,(∀z H',N z H'->∃G,G<m/\W (i+1) G z H')/\∀x H',J.d7 i H x H'->g x σ H' λF H2=>tb { D with nx:=N,ct:=N,bk:=D.nx } F H2)
theorem G5:xJ wi g tb D σ H=wi σ H λJ H1=>bu J g tb D σ H1:=rfl
def uI1(vs:List V)(q:Int->Prop):Prop:=∃j,vs=[.int j]/\q j
theorem FP:uI1 [.int j] q=q j:=by simp [uI1]
theorem DM:ox ta σ H R=ta σ H λvs H1=>uI1 vs λj=>-(2 ^ 62)<=j/\j<2 ^ 62/\R (Itr 0 j.toNat) H1:=rfl
theorem Bw:oH K tl σ H R=tl σ H λx H1=>uR x λa=>(∃xs,SqL K H1 a xs)/\R (Itl K a) H1:=rfl
theorem MF:jI K tl σ H R=tl σ H λx H1=>uR x λa=>(∃xs,SqT K H1 a xs)/\R (Itt K a) H1:=rfl
def uR2(vs:List V)(q:Addr->Addr->Prop):Prop:=∃a b,vs=[.ref a,.ref b]/\q a b
theorem L5:uR2 [.ref a,.ref b] q=q a b:=by
 apply propext;constructor
 .rintro ⟨c,d,e,h⟩;cases e;exact h
 .exact λh=>{a,b,rfl,h}
theorem FB:mr K ta σ H R=ta σ H λvs H1=>uR2 vs λa b=>(∃xs,SqL K H1 a xs)/\(∃ys,SqL K H1 b ys)/\R (Itz K a b) H1:=by
 unfold mr uR2;rfl
def aQ(J:It)(g:TG)(tt:TT)(te:TE)(τ:St)(H:Hp)(Q:VK):Prop:=∃W:Nat->Nat->St->List V->Hp->Prop,(∃m,W 0 m τ [] H)/\∀i m τ ys H2,W i m τ ys H2->ys.length<sizeLine /\
 ((J.stop i H2 ∧ ∀ D, H2 D = none → D ≠ sysModules → Q (.ref D) (upd H2 D (.lst ys))) ∨
  (J.go i H2 ∧ ∀ x H3, J.d7 i H2 x H3 → g x τ H3 fun z H4 => tt z H4 fun ok H5 => if ok = true then te z H5 fun y H6 => ∃ F, F < m ∧ W (i + 1) F z (ys ++ [y]) H6 else ∃ F, F < m ∧ W (i + 1) F z ys H5))
theorem Bu:tLC ix wi g tt te σ H Q=wi σ H λJ H1=>aQ J g tt te (cb ix σ) H1 Q:=rfl
theorem bu.rng{lo:Int}(z:Nat->St->Hp->Prop)(G:z 0 σ H)(hs:∀i σ H,i<n->z i σ H->g (.int (lo+i)) σ H λF H2=>tb { D with nx:=z (i+1),ct:=z (i+1),bk:=D.nx } F H2)(hd:∀σ H,z n σ H->D.nx σ H):bu (Itr lo n) g tb D σ H:=Eh z G hs hd
theorem bu.lst{a:Addr}{xs:List V}(z:Nat->St->Hp->Prop)(G:z 0 σ H)(hl:∀i σ H,i<=xs.length->z i σ H->SqL K H a xs)
  (hs:∀i x σ H,xs[i]?=some x->z i σ H->g x σ H λF H2=>tb { D with nx:=z (i+1),ct:=z (i+1),bk:=D.nx } F H2) (hd:∀σ H,z xs.length σ H->D.nx σ H):bu (Itl K a) g tb D σ H:=MU z G hl hs hd
def fh(N:St->List V->Hp->Prop)(ys:List V)(z:St)(te:TE)(ok:Bool)(H5:Hp):Prop:=if ok=true then te z H5 λy H6=>N z (ys++[y]) H6 else N z ys H5
theorem Lx:fh N ys τ te true H=te τ H λy H6=>N τ (ys++[y]) H6:=rfl
theorem JJ:fh N ys τ te false H=N τ ys H:=rfl
theorem aQ.rng{lo:Int}(F:Nat->St->List V->Hp->Prop)(hz:∀i τ ys H,F i τ ys H->ys.length<sizeLine)(O:F 0 τ [] H)(hs:∀(N:St->List V->Hp->Prop) i τ ys H,i<n->F i τ ys H->(∀τ ys H,F (i+1) τ ys H->N τ ys H)->g (.int (lo+i)) τ H λz H4=>tt z H4 λok H5=>fh N ys z te ok H5)(hd:∀τ ys H,F n τ ys H->∀D H',New H D (.lst ys) H'->Q (.ref D) H'):aQ (Itr lo n) g tt te τ H Q:=by
 refine {λi m τ ys H=>m=n-i/\i<=n/\F i τ ys H,{n,'z',Pp _,O},?_};rintro i m τ ys H2 ⟨rfl,hi,p⟩;refine {hz i τ ys H2 p,?_};by_cases G:i<n
 .refine .inr {G,λx H' y=>?_};obtain ⟨e,y⟩:=y;subst e y;exact hs (λz ys H=>∃J,J<n-i/\J=n-(i+1)/\i+1<=n/\F (i+1) z ys H) i τ ys _ G p λz zs H q=>{n-(i+1),'l',rfl,G,q}
 .have e:i=n:=by lia
  subst e;exact .inl {Ov _,λD S _=>hd τ ys H2 p D _ (.mk' S)}
theorem aQ.zip(ZO:xs.length=ys.length)(F:Nat->St->List V->Hp->Prop)(hz:∀i τ zs H,F i τ zs H->zs.length<sizeLine)(ha:∀i τ zs H,F i τ zs H->SqL K H a xs/\SqL K H b ys)(U:F 0 τ [] H)(hs:∀(N:St->List V->Hp->Prop) i x y p τ zs H,xs[i]?=some x->ys[i]?=some y->F i τ zs H->H p=none->(∀τ zs H,F (i+1) τ zs H->N τ zs H)->g (.ref p) τ (upd H p (.tup [x,y])) λz H4=>tt z H4 λok H5=>fh N zs z te ok H5)(hd:∀τ zs H,F xs.length τ zs H->∀D H',New H D (.lst zs) H'->Q (.ref D) H'):aQ (Itz K a b) g tt te τ H Q:=by
 refine {λi m τ zs H=>m=xs.length-i/\i<=xs.length/\F i τ zs H,{xs.length,'z',Pp _,U},?_};rintro i m τ zs H2 ⟨rfl,hi,p⟩;refine {hz i τ zs H2 p,?_};obtain ⟨J,G⟩:=ha i τ zs H2 p;by_cases S:i<xs.length
 .refine .inr {{xs,ys,xs[i],ys[i]''l',J,G,Os S,Os _},λv H' y=>?_};obtain ⟨T,x,y,hT,rfl,rfl,hx,W⟩:=y;exact hs (λz ys H=>∃O,O<xs.length-i/\O=xs.length-(i+1)/\i+1<=xs.length/\F (i+1) z ys H) i x y T τ zs _ (hx _ J) (W _ G) p hT λz zs H q=>{xs.length-(i+1),'l',rfl,S,q}
 .have e:i=xs.length:=by lia
  subst e;exact .inl {{xs,ys,J,G,Ov _},λD Z _=>hd τ zs H2 p D _ (.mk' Z)}
end
section
variable {X:Cx}
def jS:V->Option Int->Option Int->Hp->VK->Prop:=λx lo hi H Q=>∃z,x = .str z/\z.length<=sizeLine/\Q (.str (Txt.slice z lo hi)) H
theorem GD{h:Heap}{lo hi:Option Int}(hs:h.IsSliceOf sl G z .none)(pl:S7 G lo)(F:S7 z hi):∃l u:Option (Int×Tok),h.IsSlice sl l u none/\l.map (·.1)=lo/\u.map (·.1)=hi:=by
 obtain ⟨o,h1,h2,h3⟩:=hs;cases pl with
 | none =>
  cases F with
  | none=>exact {none,none,⟨o,h1,h2,h3⟩,rfl,rfl}
  | int j t=>exact {none,some (j,t),⟨o,h1,h2,h3⟩,rfl,rfl}
 | int i t' =>
  cases F with
  | none=>exact {some (i,t'),none,⟨o,h1,h2,h3⟩,rfl,rfl}
  | int j t=>exact {some (i,t'),some (j,t),⟨o,h1,h2,h3⟩,rfl,rfl}
theorem Kb:SlR X jS:=by
 intro Go s σ H x v Z W lo hi sl Q I U hs pl S h;obtain ⟨z,rfl,hz,q⟩:=h;obtain ⟨t,rfl⟩:=U;obtain ⟨l,u,J,O,G⟩:=GD hs pl S;subst O G;exact {"str",_,F.slot_str_getitem.lookup,Si _ _ _,wpAny_getItem_str_slice (l:=l) (u:=u) (st:=none) J rfl
  (post_val_or_str {Pt (Txt.slice_le z _ _) hz,λt' k=>{.str _,H,I.tok k,{_,rfl},q}})}
noncomputable def uSl:V->Option Int->Option Int->Hp->VK->Prop:=λx lo hi H Q=>(∃a xs,x = .ref a/\H a=some (.lst xs)/\∀p H2,New H p (.lst (bX xs lo hi)) H2->Q (.ref p) H2)\/jS x lo hi H Q
theorem SlR.weak{r r':V->Option Int->Option Int->Hp->VK->Prop}(h:SlR X r)(hw:∀x l u H Q,r' x l u H Q->r x l u H Q):SlR X r' :=
 λGo s σ H x v J z lo hi sl Q I G hs pl F q=>h Go s σ H x v J z lo hi sl Q I G hs pl F (hw _ _ _ _ _ q)
theorem lK:SlR X uSl:=((HN (X:=X)).or Kb).weak λx l u H Q h=>by
 rcases h with ⟨a,xs,e,h,q⟩|h
 .exact .inl {a,xs,e,SqL.of h,λp hp=>q p _ (.mk' hp)}
 .exact .inr h
def qx(v:V)(q:Int->Prop):Prop:=∃i,v = .int i/\q i
theorem HE:qx (.int i) q=q i:=by simp [qx]
theorem DS{t:TE}:t8 t σ H Q=t σ H λx H1=>qx x λi=>Q (some i) H1:=rfl
theorem xB{lo hi:Option Int}:uSl (.str z) lo hi H Q=(z.length<=sizeLine/\Q (.str (Txt.slice z lo hi)) H):=by simp [uSl,jS]
theorem xZ{lo hi:Option Int}:uSl (.ref a) lo hi H Q = ∃xs,H a=some (.lst xs)/\∀p H2,New H p (.lst (bX xs lo hi)) H2->Q (.ref p) H2:=by simp [uSl,jS]
theorem IV:∀{us:List Value},zu (ys.map V.str) us->StrsAre us ys:=by
 induction ys with
 | nil=>intro us r;rw [map_nil] at r;cases r;exact .nil
 | cons n ns z =>
  intro us r;rw [PY] at r;cases r with
  | cons r1 r2 =>
   obtain ⟨t,e⟩:=r1;subst e;exact .cons n t (z r2)
def lX:V->List V->Hp->VK->Prop:=λx vs H Q=>∃z p ys,x = .str z/\vs=[.ref p]/\H p=some (.lst (ys.map V.str))/\(ys.map (·.length)).sum+ys.length*z.length<=16777216/\Q (.str (Txt.join z ys)) H
theorem Ik:MtR X "str.join" lX:=by
 intro Go s σ H x xs v us Q I F O h;obtain ⟨z,p,ys,rfl,rfl,hp,hz,q⟩:=h;obtain ⟨t,rfl⟩:=F;cases O with
 | cons r1 G =>
  cases G;cases (show _=OH p from r1);obtain ⟨its,r,J,_⟩:=I.list (SqL.of (K:=X.K) hp);exact join_list J.isList (by simpa using IV r) hz λt' k=>{.str _,H,I.tok k,{_,rfl},q}
def jA(z:Str)(n:Nat):Str:={((PZ n z.cps.toList).flatten).toArray}
theorem uW{α:Type}(l:List α):∀(n:Nat)(Z1:List α),foldl (λz F:Array α=>z++F) Z1.toArray (PZ n l.toArray)=(Z1++(PZ n l).flatten).toArray
 | 0,Z1=>by simp
 | n+1,Z1=>by
  rw [QX,Uc,List.append_toArray,uW l n (Z1++l)];simp [QX]
theorem DU(z:Str)(n:Nat):({(PZ n z.cps).foldl (·++·) #[]}:Str)=jA z n:=by
 have h:=uW z.cps.toList n [];unfold jA;congr 1
theorem jr{α:Type}(l:List α):∀n:Nat,((PZ n l).flatten).length=l.length*n
 | 0=>by simp
 | n+1=>by rw [QX,RN,Ph,jr l n,Nat.mul_succ];lia
theorem Ka(z:Str)(n:Nat):(jA z n).length=z.length*n:=by
 show (((PZ n z.cps.toList).flatten).toArray).size=_;rw [OR,jr];rfl
def jq:R2:=λx y H Q=>∃z n,x = .str z/\y = .int n/\1<n/\n<2 ^ 31/\z.length≠0/\z.length*n.toNat<=sizeLine/\Q (.str (jA z n.toNat)) H
theorem Ob:OpR X (QF .Mult) jq:=by
 intro Go s σ H x y v u Q I O F h;obtain ⟨z,n,rfl,rfl,h1,h2,h3,h4,q⟩:=h;obtain ⟨t,rfl⟩:=O;obtain ⟨t',rfl⟩:=F;have hs:sizeLine=16777216:=Qc;have J:(n==1||z.length==0)=false:=by
  rw [Bool.or_eq_false_iff];exact {beq_eq_false_iff_ne.mpr 'l',beq_eq_false_iff_ne.mpr h3}
 have hz:z.length<=16777216:=by
  have:z.length*1<=z.length*n.toNat:=Nat.mul_le_mul_left _ 'l';lia
 refine PySem.P.mul_str ?_ ?_ ?_ ?_
 .rw [decide_eq_false (show ¬ n < -(2 ^ 63:Int) by lia),decide_eq_false (show ¬ n ≥ 2 ^ 63 by lia)];rfl
 .intro _ _ G;have:(16777216:Int)<=(2 ^ 63-1) / n:=Int.le_ediv_of_mul_le 'l' 'l';lia
 .intro _ _;exact decide_eq_false 'l'
 .rw [if_neg (show ¬ n<1 by lia),if_neg (by rw [J];exact OP),DU];exact {by rw [Ka];lia,{.str _,H,I.tok _,{_,rfl},q}}
theorem AV{p:Addr}{k:Int}:oJ (.ref p) (.int k) v H Q = ∃xs j,H p=some (.lst xs)/\ixN xs.length k=some j/\Q (upd H p (.lst (xs.set j v))):=by
 apply propext;constructor
 .rintro ⟨G,xs,k',j,z,F,h⟩;cases z;cases F;exact ⟨xs,j,h⟩
 .rintro ⟨xs,j,h⟩;exact {p,xs,k,j,rfl,rfl,h}
def yr:List V->Hp->VK->Prop:=λxs H Q=>∃p ys,xs=[.ref p]/\(H p=some (.lst ys)\/H p=some (.tup ys))/\∀l H2,New H l (.lst ys) H2->Q (.ref l) H2
theorem wB:zY X (.type "list") yr:=EF.weak λxs H Q h=>by
 obtain ⟨p,ys,e,h1,q⟩:=h;exact {p,ys,e,h1.elim (λh=>.inl (SqL.of h)) (λh=>.inr (SqT.of h)),λl hl=>q l _ (.mk' hl)}
theorem N5:yr [.ref a] H Q = ∃ys,(H a=some (.lst ys)\/H a=some (.tup ys))/\∀l H2,New H l (.lst ys) H2->Q (.ref l) H2:=by
 apply propext;constructor
 .rintro ⟨p,ys,e,h⟩;cases e;exact ⟨ys,h⟩
 .rintro ⟨ys,h⟩;exact {a,ys,rfl,h}
def tL(to:TE):TE:=λσ H Q=>to σ H λx H1=>uR x λl=>∃xs,H1 l=some (.lst xs)/\Q .non (upd H1 l (.lst []))
theorem FI{o:OU}{to:TE}(z:W (PE X o to))(O:Qs o "clear" X.env (PH o X.env)=PH o X.env:=by rfl)(S:(ZZ.endLine==cpos.line)=true:=by rfl):W (PE X (.Call (.Attribute o "clear" ZZ) [] [] cpos) (tL to)):=by
 refine {?_};have z:=z.h;intro Go s σ H Q I h;refine wpAny_Call_method0_late O S (thn (z Go s σ H _ I h) λv s1=>x5e λx H1 G r1 J=>?_);obtain ⟨l,ex,xs,hx,q1⟩:=J;subst ex;obtain ⟨h1,h2⟩:=jv (T:="list") G r1 (.inl {rfl,xs,SqL.of hx});exact {"list","list.clear",plainAttrs_list,PySem.F.slot_list_clear,PySem.F.type_list_clear,h1,h2,Calls.callWith_builtin rfl (PySem.evalArgs_none (NU Go s1 σ H1 (.ref l) [] v [] Q G r1 .nil {l,xs,rfl,rfl,hx,q1}))}
theorem tY{p:Addr}:lX (.str z) [.ref p] H Q = ∃ys:List Str,H p=some (.lst (ys.map V.str))/\(ys.map (·.length)).sum+ys.length*z.length<=16777216/\Q (.str (Txt.join z ys)) H:=by
 apply propext;constructor
 .rintro ⟨z',J,ys,F,G,h⟩;cases F;cases G;exact ⟨ys,h⟩
 .rintro ⟨ys,h⟩;exact {z,p,ys,rfl,rfl,h}
end
section
variable {K:Ow}{g:TG}{tb:TS}{D:bZ}{σ:St}{H:Hp}{ta:TA}{R:It->Hp->Prop}
def uR1(vs:List V)(q:Addr->Prop):Prop:=∃a,vs=[.ref a]/\q a
theorem iB:uR1 [.ref a] q=q a:=by
 apply propext;constructor
 .rintro ⟨c,e,h⟩;cases e;exact h
 .exact λh=>{a,rfl,h}
end
section
variable {X:Cx}
noncomputable def AI(C:Addr)(ta tv:TE)(G:V->V->Hp->VK->Prop)(f:Str):TS:=λD σ H=>ta σ H λx H1=>uR x λa=>∃dx fs v,H1 a=some (.ins C dx fs)/\fs.lookup f=some v /\
 tv σ H1 λy H2=>G v y H2 λz H3=>∃F fs',H3 a=some (.ins C F fs')/\fs'.length<1000/\D.nx σ (upd H3 a (.ins C F (zG f z fs')))
theorem nL{o Zt:OU}{ta tv:TE}(c:Cls X.K C)(n:aF X.K C f)(ha:W (PE X o ta))(hv:W (PE X Zt tv))(G:oX X op J):W (PS X (.AugAssign (.Attribute o f tpos) op Zt pos) (AI C ta tv J f)):=by
 refine {?_};have ha:=ha.h;have hv:=hv.h;intro Go s σ H D I h;refine wpAny_AugAssign_AttributeAny (thn (ha Go s σ H _ I h) λov s1=>x5e λx H1 I1 rx Ye=>?_);obtain ⟨a,ex,dx,fs,v,ea,l,q⟩:=Ye;subst ex;obtain rfl:ov=OH a:=rx;refine wt I1 ea c n l λu s2 U ru=>thn (hv Go s2 σ H1 _ U q) λw3 s3=>x5e λy H2 I3 ry O=>thn (G Go s3 σ H2 v y u w3 _ I3 ru ry O) λw4 s4=>x5e λz H3 Z S XF=>?_;obtain ⟨WU,fs',F,l',q4⟩:=XF;exact vb Z F c n l' S λs5 I5=>{σ,_,I5,q4}
theorem Dm:pQ (.int i) (.int j) H Q=Q (.int (i+j)) H:=by simp [pQ]
theorem CV:oK (.int i) (.int j) H Q=Q (.int (i-j)) H:=by simp [oK]
theorem vj{k j:Nat}{p pos:Pos}(G:GF X.prog X.w X.K X.mg X.base cm j x ps sp)(hr:zE cm k X.A)(z:Gl X x)(O:j<=k:=by decide)(U:'g'=false:=by decide):W (PE X (.Call (.Name x p) [] [] pos) (iw sp [] E0 bV)):=by
 refine {?_};obtain ⟨f,fd,F,Z,S,J⟩:=G.ex;exact E7 F (hr.mono O) z Z S J .nil iy U
def dC(neg:Bool):R2:=λx y H Q=>y = .non/\Q (.bl (if neg then !decide (x = .non) else decide (x = .non))) H
theorem Cs:OpR X (PU .Is) (dC false):=Mz.weak λx y H Q h=>{h.1,by simpa using h.2}
theorem sN:OpR X (PU .IsNot) (dC true):=EN.weak λx y H Q h=>{h.1,by simpa using h.2}
theorem Hw:dC c .non .non H Q=Q (.bl (if c then false else true)) H:=by simp [dC]
theorem DW:dC c (.int i) .non H Q=Q (.bl (if c then true else false)) H:=by simp [dC]
def gG:R2:=λx y H Q=>fQ x y H Q\/jq x y H Q
theorem lH:OpR X (QF .Mult) gG:=CL.or Ob
theorem Gi:gG (.int i) (.int j) H Q=(ie i j/\Q (.int (i*j)) H):=by simp [gG,Bc,jq]
theorem Cy:gG (.ref a) (.int i) H Q=fQ (.ref a) (.int i) H Q:=by simp [gG,jq]
theorem On:gG (.str z) (.int i) H Q=(1<i/\i<2 ^ 31/\z.length≠0/\z.length*i.toNat<=sizeLine/\Q (.str (jA z i.toNat)) H):=by
 simp [gG,fQ,jq]
def uS(v:V)(q:Str->Prop):Prop:=∃z,v = .str z/\q z
theorem pq:uS (.str z) q=q z:=by simp [uS]
def vY(to te:TE):TE:=λσ H Q=>to σ H λx H1=>uS x λz=>te σ H1 λy H2=>lX (.str z) [y] H2 Q
theorem uf{o e:OU}{to te:TE}(J:W (PE X o to))(he:W (PE X e te))(Zw:Qs o "join" X.env (PH o X.env)=PH o X.env:=by rfl)(Za:(ZZ.endLine==cpos.line)=true:=by rfl)(hp:af e=true:=by rfl):W (PE X (.Call (.Attribute o "join" ZZ) [e] [] cpos) (vY to te)):=by
 refine {?_};have J:=J.h;have he:=he.h;intro Go s σ H Q I h;have hs:OV [e] X.env=[(false,PH e X.env)]:=dZ hp;refine Rf Zw (by rw [hs];rfl) Za rfl (thn (J Go s σ H _ I h) λv s1=>x5e λx H1 S r1 G=>?_);obtain ⟨z,ex,q1⟩:=G;subst ex;obtain ⟨h1,h2⟩:=jv (T:="str") S r1 rfl;refine {"str","str.join",PySem.F.plainAttrs_str,PySem.F.slot_str_join,PySem.F.type_str_join,h1,h2,?_};rw [hs];refine Calls.callWith_builtin rfl (Calls.evalArgs_plain ?_);have U:=gU he gF (hs:=hs) cpos Go s1 σ H1 (λys H2=>dR (λy=>lX (.str z) [y] H2 Q) ys) S q1;rw [hs] at U;refine thn U λus s2=>x5e λvs H2 Z r2 O=>?_;obtain ⟨y,rfl,O⟩:=dR.ex O;exact Ik Go s2 σ H2 (.str z) [y] v us Q Z r1 r2 O
end
section
variable {K:Ow}{g:TG}{tb:TS}{D:bZ}{σ:St}{H:Hp}{ta:TA}{tl:TE}{wi:TI}{R:It->Hp->Prop}{j:Int}{tt:TT}{te:TE}{ix:List (Option Nat)}{Q:VK}
theorem aQ.lst{a:Addr}{xs:List V}{τ:St}(F:Nat->St->List V->Hp->Prop)(hz:∀i τ ys H,F i τ ys H->ys.length<sizeLine)(ha:∀i τ ys H,F i τ ys H->SqL K H a xs)(O:F 0 τ [] H)
  (hs:∀(N:St->List V->Hp->Prop) i x τ ys H,xs[i]?=some x->F i τ ys H->(∀τ ys H,F (i+1) τ ys H->N τ ys H)->g x τ H λz H4=>tt z H4 λok H5=>fh N ys z te ok H5) (hd:∀τ ys H,F xs.length τ ys H->∀D H',New H D (.lst ys) H'->Q (.ref D) H'):aQ (Itl K a) g tt te τ H Q:=by
 refine {λi m τ ys H=>m=xs.length-i/\i<=xs.length/\F i τ ys H,{xs.length,'z',Pp _,O},?_};rintro i m τ ys H2 ⟨rfl,hi,p⟩;refine {hz i τ ys H2 p,?_};have q:=ha i τ ys H2 p;by_cases J:i<xs.length
 .refine .inr {{xs,xs[i],q,by simp [J]},λx H' y=>?_};obtain ⟨e,y⟩:=y;subst e;exact hs (λz ys H=>∃G,G<xs.length-i/\G=xs.length-(i+1)/\i+1<=xs.length/\F (i+1) z ys H) i x τ ys _ (y xs q) p λz zs H q=>{xs.length-(i+1),'l',rfl,J,q}
 .have e:i=xs.length:=by lia
  subst e;exact .inl {{xs,q,Ov _},λD S _=>hd τ ys H2 p D _ (.mk' S)}
def Ib(t:TS):TS:=λD σ H=>∃F:St->Hp->Prop,t { D with nx:=F } σ H/\∀z H',F z H'->D.nx z H'
theorem wW{st:Stmt}{t:TS}(h:W (PS X st t)):W (PS X st (Ib t)):=by
 refine {?_};have h:=h.h;exact λGo s σ H D I hw=>by
  obtain ⟨F,h1,h2⟩:=hw;refine thn (h Go s σ H _ I h1) λf s1 q=>?_;cases f with
  | next=>obtain ⟨z,H',G,q⟩:=q;exact {z,H',G,h2 _ _ q}
  | ret v=>exact q
  | brk=>exact q
  | cont=>exact q
end
section
variable {X:Cx}
theorem ze  : W (PA X [] bV):=⟨gF ⟩
theorem zd{t:TA}(ha:W (PE X e te))(hr:W (PA X es t))(hp:af e=true:=by rfl):W (PA X (e::es) (d9 te t)):={jG (ha:=ha.h) (hr:=hr.h) (hp:=hp)}
theorem cc(ha:W (PE X a ta))(he:∀z,T8 a X.env z=(do let v<-z;QM a.pos;QA [v] (truthy v)):=by intro _;rfl):W (PT X a (kS X.K ta)):={wZ (ha:=ha.h) (he:=he)}
theorem zr(i:Nat)(hN:X.N[i]?=some x:=by rfl)(hv:Vis X.env.scope x:=by first|exact OM rfl|exact Ss (OM rfl)|exact Ss (Ss rfl))(hd:(x==("__debug__":Str))=false:=by decide)(hcd:(x==("__classdict__":Str))=false:=by decide):W (PE X (.Name x pos) (dX i)):={pv (i:=i) (hN:=hN) (hv:=hv) (hd:=hd) (hcd:=hcd)}
theorem zD{i j pos}:W (PE X (.Constant (.int i) j pos) (tC (.int i))):=⟨uz ⟩
theorem zJ(hN:X.N.Nodup)(hi:X.N[i]?=some x)(hx:Loc X.env.scope x)(hf:X.fn x=true\/X.env.scope.names.lookup x=some .local:=by first|exact .inl rfl|exact .inr rfl|assumption):W (PG X (.Name x pos) (cE i)):={pV (hN:=hN) (hi:=hi) (hx:=hx) (hf:=hf)}
theorem jg{X:Cx}{k:Nat}{t:TGs}(h:W (PGs X es t))(hl:(P7 es X.env).length=n:=by rfl)(hst:(P7 es X.env).findIdx? (·.1)=none:=by rfl):W (PG X (.Tuple es k pos) (mO X.K n t)):={A7 (h:=h.h) (hl:=hl) (hst:=hst)}
theorem lL{k:Nat}{t:TGs}(h:W (PGs (zy Y sc N' Go D fp s H) es t))(hl:(P7 es (zy Y sc N' Go D fp s H).env).length=n:=by rfl)(hst:(P7 es (zy Y sc N' Go D fp s H).env).findIdx? (·.1)=none:=by rfl):W (PG (zy Y sc N' Go D fp s H) (.Tuple es k pos) (mO Y.K n t)):={uv (h:=h.h) (hl:=hl) (hst:=hst)}
theorem Do(hl:W (PE X l tl)):W (PI X tg l (jI X.K tl)):={uF (hl:=hl.h)}
theorem K0{t:TT}(h:W (PW X e t)):W (PT X e t):={PW.pt h.h}
theorem Jj{st:Stmt}{t:TS}(h:W (PS X.ee st t)):W (PS X st t):={PS.ee h.h}
end
noncomputable def asc(z:Str):Bool:=z.cps.all (· < 128)
def Its(z:Str):It:={λi _=>i<z.cps.size,λi H x H'=>H'=H/\∃c,z.cps[i]?=some c/\x = .str {#[c]},λi _=>z.cps.size<=i}
theorem Jn{P:OF}{w:OS}{K:Ow}{tg:OU}(z:Str)(it:Addr):fk true P w K tg (Its z) [it] it (λi h=>∃t,h.IsStrIter it "str_ascii_iterator" z t i) where
 mem:=by simp
 obj:=λi h st b F=>by
  have e:b=it:=by simpa using F
  subst e;obtain ⟨t,o,e,c,d⟩:=st;exact {o,e,λv z=>by rw [d] at z;cases z}
 keep:=λi h h' st k=>by
  obtain ⟨t,o,e,r⟩:=st;exact {t,o,k it 'z' o e,r}
 item:=by
  intro X hP hw W hc i Go s σ H E I hf st O;subst hP hw W;obtain ⟨t,st⟩:=st;obtain ⟨S,U,f2,J,G,Z⟩:=hf it 'z';have hi:i<z.cps.size:=O;refine wpAny_pyNext_ascii_item st (c:=z.cps[i]) (by simp [hi]) λh' Yk sb=>?_;have I1:Inv X Go σ H { s with heap:=h',toks:=s.toks+1 }:=I.turned (λb o F e=>(sb.2 b F).trans e) S U J G Z;obtain ⟨o,e,c,d⟩:=id Yk;exact {_,rfl,iW (s:={ s with heap:=h',toks:=s.toks+1 }) e c d 'd' {.str {#[z.cps[i]]},H,I1,{_,rfl},{rfl,_,by simp [hi],rfl},⟨t,Yk⟩,λb F=>(hf b F).1}}
 done:=by
  intro X hP hw W hc i Go s σ H E I hf st O;subst hP hw W;obtain ⟨t,st⟩:=st;obtain ⟨S,U,f2,J,G,Z⟩:=hf it 'z';have hi:z.cps.size<=i:=O;exact wpAny_pyNext_ascii_end (I.ok.hd (hc rfl)) st (by simp [hi]) λh' eb=>{rfl,I.turned (t':=s.toks) (λb o F e=>eb b o F e) S U J G Z}
 self:=λ_ _ _ _ _ st h=>by
  obtain ⟨t,st⟩:=st;exact wpAny_pyIter_striter_ascii st h
section
variable {X:Cx}{tg:OU}
noncomputable def tS(tl:TE):TI:=λσ H R=>tl σ H λx H1=>uS x λz=>asc z=true/\R (Its z) H1
theorem Fx:tS tl σ H R=tl σ H λx H1=>uS x λz=>asc z=true/\R (Its z) H1:=rfl
theorem Md(hl:W (PE X l tl)):W (PIc true X tg l (tS tl)):=by
 refine {?_};have hl:=hl.h;intro Go s σ H R I h;refine thn (hl Go s σ H _ I h) λv s1=>x5e λx H1 F r1 q1=>?_;obtain ⟨z,e,ha,q⟩:=q1;subst e;obtain ⟨t,rfl⟩:=r1;refine wpAny_pyIter_ascii ha ?_;refine {s1.heap.objs.size,[s1.heap.objs.size],_,_,H1,rfl,F.kept (t':=s1.toks) λb o e=>Ou _ e,Jn z _,{t,_,ON _ rfl,rfl,rfl},λb G=>?_,q};have e:b=s1.heap.objs.size:=by simpa using G
 subst e;exact F.a7 (Ov _) (F.hok.fresh (Ov _))
end
theorem Draws.later{prog:OF}{w:OS}{A:OQ}{it:Addr}{fp:List Addr}{n k:Nat}{P:Nat->Value->Prop}{St:Nat->Heap->Prop}(D:Draws prog w A it fp n P St) :
  Draws prog w A it fp (n+k) (λi v=>P (i-k) v) (λi h=>k<=i/\St (i-k) h) where
 live:=λ_ _ st=>D.live _ _ st.2
 frame:=λ_ _ _ st z=>{st.1,D.frame _ _ _ st.2 z}
 item:=λi s Q E hi st G=>D.item (i-k) s Q E (by have:=st.1;lia) st.2 λx h' tk p J O=>G x h' tk p {by have:=st.1;lia,by
  have e:i+1-k=i-k+1:=by have:=st.1;lia
  rw [e];exact J} O
 done:=λs Q E st F=>D.done s Q E (by
  have e:n+k-k=n:=by lia
  have:=st.2;rwa [e] at this) F
def iH(z:Str)(k:Nat):It :=
 {λi _=>i<z.cps.size,λi H v H'=>∃T c,H T=none/\v = .ref T/\z.cps[i]?=some c/\H'=upd H T (.tup [.int ((i:Nat)+k:Nat),.str {#[c]}]),λi _=>i=z.cps.size}
structure Hg(e it:Addr)(z:Str)(k i:Nat)(h:Heap):Prop where
 en:∃old,IsEnum h e it ((i+k:Nat):Int) old
 a:∃t,h.IsStrIter it "str_ascii_iterator" z t i
theorem La{P:OF}{w:OS}{K:Ow}{YC:List OU}{kk:Nat}{tp:Pos}{z:Str}{k:Nat}{e it:Addr}(X7:e≠it) :
  fk true P w K (.Tuple YC kk tp) (iH z k) [e,it] e (Hg e it z k) where
 mem:=by simp
 obj:=λi h st b F=>by
  obtain ⟨⟨old,J⟩,⟨t,o4,G,_,d4⟩⟩:=st;simp only [OL,Pa,or_false] at F;rcases F with rfl|rfl
  .exact {_,J,λv q=>nomatch q}
  .exact {_,G,λv q=>by rw [d4] at q;cases q}
 keep:=λi h h' st k=>by
  obtain ⟨⟨old,J⟩,⟨t,o,G,r⟩⟩:=st;exact {{old,k _ 'z' _ J},t,o,k _ 'z' o G,r}
 item:=by
  intro X hP hw hK S i Go s σ H E I hf st hg;subst hP hw hK;obtain ⟨⟨old,J⟩,⟨t,G⟩⟩:=st;have hi:i<z.cps.size:=hg;have WW:=I.ok.hd (S rfl);have D:=Draws.later (k:=k) (Draws.strAscii (prog:=X.prog) (w:=X.w) (A:=X.A.in1) WW it z t);refine wpAny_pyNext_enum_itemD D J (i:=i+k) {'l',by rw [S5];exact G} 'l' X7 (by simpa using X7) λx h' tk px b1 W b3 b4 b5=>?_;obtain ⟨c,u,ai,rfl⟩:=px;rw [S5] at ai;refine {_,rfl,wpAny_letOwnedTupleGo_enum (s:={ s with heap:=h',toks:=tk+1 }) b1 λh2 c1 c2=>?_};have Z:e<s.heap.objs.size:=OX J;have nz:s.heap.objs.size≠e:=RD Z;have all:∀c o,c≠e->c≠it->s.heap.get? c=some o->h2.get? c=some o:=λc o n1 n2 q=>c2.extBut c o n1 (b5 c o n1 n2 q);have tT:h2.get? s.heap.objs.size=some { cls:=.type "tuple",data:=.seq #[.int ((i+k:Nat):Int) tk,.str {#[c]} u] }:=c2.extBut _ _ nz b3;have YB:H s.heap.objs.size=none:=I.hok.fresh (Ov _);have av:HOk X.prog X.w H h2:=λb u U=>by
   refine (I.hok b u U).Vc (λc v S q=>?_) (λ_ q=>q) λ_ _ q=>q;have O:∀d∈[e,it],c≠d:=λd hd w=>by
    have fd:=(hf d hd).1;rcases S with k|k
    .rw [k] at w;rw [w,fd] at U;cases U
    .rw [w,fd] at k;cases k
   exact all c v (O e 'z') (O it 'z') q
  have ax:∀b o,s.heap.get? b=some o->b≠s.heap.objs.size:=λb o e=>Pe (OX e);have I2:Inv X Go σ (upd H s.heap.objs.size (.tup [.int ((i+k:Nat):Int),.str {#[c]}])) { s with heap:=h2,toks:=tk+1 }:=by
   refine I.step (g':=s.gens) (d':=s.drawn) (t':=tk+1) (ch:=[e,it]) (λb F=>?_) (λb o _ _ F q _=>?_) (λb o _ _ F q _=>?_) (λb o _ q n=>?_) (λb o F q=>?_) (λb ps q=>?_) (λb o u q=>?_) (λb ps q=>?_) (λm hm=>?_) (av.add YB ?_) I.bare
   .obtain ⟨f0,f1,f2,f3,f4,f5⟩:=hf b F;exact ⟨f3,f1,f4,f5⟩
   .simp only [OL,Pa,or_false,not_or] at F;exact all b o F.1 F.2 q
   .simp only [OL,Pa,or_false,not_or] at F;exact {o.slots,all b o F.1 F.2 q}
   .rw [zg (ax b o q)];exact n
   .simp only [OL,Pa,or_false,not_or] at F;exact {o,all b o F.1 F.2 q}
   .rw [zg (zz q YB)];exact q
   .rw [zg (zz q YB)];exact q
   .exact {#[],by rw [zg (zz q YB),q];simp}
   .obtain ⟨o,es,ep,ho,r⟩:=hm;exact {o,es,ep,all _ o (Pd (hf e 'z').2.1) (Pd (hf it 'z').2.1) ho,r}
   .exact {by show 2<=sizeLine;decide,[.int ((i+k:Nat):Int) tk,.str {#[c]} u],.cons {_,rfl} (.cons {_,rfl} .nil),{_,tT,rfl,_,rfl}}
  refine {.ref s.heap.objs.size,_,I2,rfl,{_,c,YB,rfl,ai,rfl},?_,λb F=>?_}
  .obtain ⟨_,W⟩:=W;have e1:i+k+1-k=i+1:=by lia
   rw [e1] at W;obtain ⟨o,W,r⟩:=W;have e3:((i+1+k:Nat):Int)=((i+k:Nat):Int)+1:=by lia
   refine {?_,t,o,c2.extBut _ _ (Pd X7) W,r};rw [e3];exact {_,c1}
  .have ne:b≠s.heap.objs.size:=λq=>by
    have:b<s.heap.objs.size:=by
     simp only [OL,Pa,or_false] at F;obtain ⟨o4,G,_⟩:=G;rcases F with rfl|rfl
     .exact Z
     .exact OX G
    exact absurd (q ▸ this) (O9 _)
   rw [zg ne];exact (hf b F).1
 done:=by
  intro X hP hw hK S i Go s σ H E I hf st hg;subst hP hw hK;obtain ⟨⟨old,J⟩,⟨t,G⟩⟩:=st;have hi:i=z.cps.size:=hg;have WW:=I.ok.hd (S rfl);have D:=Draws.strAscii (prog:=X.prog) (w:=X.w) (A:=X.A.in1) WW it z t;rw [hi] at G;refine wpAny_pyNext_enum_endD D J G λh' up=>{rfl,?_};refine I.step (g':=s.gens) (d':=s.drawn) (t':=s.toks) (ch:=[it]) (λb F=>?_) (λb o _ _ F q _=>?_) (λb o _ _ F q _=>?_) (λ_ _ _ _ n=>n) (λb o F q=>?_) (λ_ _ q=>q) (λ_ _ _ q=>q) (λb ps q=>{#[],by rw [q];simp}) (λm hm=>?_) (λb u U=>?_) I.bare
  .have XJ:b∈[e,it]:=by simp only [OL,Pa,or_false] at F ⊢;exact .inr F
   obtain ⟨f0,f1,f2,f3,f4,f5⟩:=hf b XJ;exact ⟨f3,f1,f4,f5⟩
  .simp only [OL,Pa,or_false] at F;exact up b o F q
  .simp only [OL,Pa,or_false] at F;exact {o.slots,up b o F q}
  .simp only [OL,Pa,or_false] at F;exact {o,up b o F q}
  .obtain ⟨o,es,ep,ho,r⟩:=hm;exact {o,es,ep,up _ o (Pd (hf it 'z').2.1) ho,r}
  .refine (I.hok b u U).Vc (λc v S q=>?_) (λ_ q=>q) λ_ _ q=>q;have O:c≠it:=λw=>by
    have fd:=(hf it 'z').1;rcases S with k|k
    .rw [k] at w;rw [w,fd] at U;cases U
    .rw [w,fd] at k;cases k
   exact up c v O q
 self:=λ_ _ _ _ _ st h=>by
  obtain ⟨old,J⟩:=st.en;exact wpAny_pyIter_enum J h
section
variable {prog:OF}{w:OS}{A:OQ}{E:Value->KE->Prop}{s:KE}
theorem HY(a b:Value):checkTypeCall "enumerate" {[a],[(Ox "start",b)]}=pure ():=by kernel_rfl
theorem NI(a b:Value):Sr "enumerate.__new__" {[.type "enumerate",a],[(Ox "start",b)]}=pure ():=by kernel_rfl
theorem HP(o a b:Value):Ug "object.__init__" {[o,a],[(Ox "start",b)]}:=by
 unfold Ug;kernel_rfl
theorem NV (x : Str) (t u : Tok) : Meets (OO.«enumerate.__new__» {[.type "enumerate", .str x t], [(Ox "start", .int 1 u)]}) (fun _ R s =>
      R (.ok (.ret (.ref (s.heap.push { cls := .type (RB x), data := .fields #[.str x t, .int 0 0] }).objs.size)))
        { s with heap := (s.heap.push { cls := .type (RB x), data := .fields #[.str x t, .int 0 0] }).push { cls := .type "enumerate", data := .fields #[.none, .bool false, .ref s.heap.objs.size, Pu 1, .none, .none] } }) :=
 .of_wp λprog w A R s h=>by
  obtain ⟨hp,g,d,tk,os⟩:=s;have z:=sub_enumerate
  wp_walk
  refine wpAny_stack_any λst=>Ot ?_;split
  .rename_i c _ _ _ _ _;cases (c==type "enumerate")
   .wp_walk using Tc
    exact {_,rfl,h}
   .wp_walk using Tc
    exact {_,rfl,h}
  .wp_walk using Tc
   exact {_,rfl,h}
theorem BS(hl:typeLookup (.type T) Wc=pure (some (.builtin "object.__init__")))(F:Bind.madeBy (.type T)=pure (some newId))(G:(some newId != some "object.__new__")=true):Meets (OO.«object.__init__» {[self,a],kws}) (λ_ R s=>s.TypeIs self T/\R (.ok (.ret .none)) s):=by
 refine Meets.of_wp λprog w A R s=>x2e λJ z=>?_
 repeat (any_goals (first|assumption|wp_step))
 exact {_,rfl,z}
theorem HX(z:TypeCalled T newId "object.__init__")(X7:(some newId != some "object.__new__")=true)(ai:checkTypeCall T {[a],kws}=pure ())(W:Sr newId {[.type T,a],kws}=pure ())(hok:∀obj,Ug "object.__init__" {[obj,a],kws})(G:entryFor table newId=some Bn)(g:Meets (Bn {[.type T,a],kws}) S)(h:S A.in1 (wants (λobj s₁=>s₁.TypeIs obj T/\Q obj s₁) E) s):OE (OK prog w) A (call (.type T) [a] kws) Q E s:=by
 obtain ⟨c,tl,Z⟩:=z.mro;have O:=z.made;have XW:=z.sub;refine Sh (A:=A) (codeAny_of_tree (A:=A) ?_);show OE (OK prog w) _ (callAny (.type T) _) _ _ _;refine Ot {Code.quiet_builtin _ (f!""),Qy (A:=A) F.entry_type_call ?_};rw [OQ.under_plain (weight_type_call_type T [a] kws) (units_type_call_type T [a] kws)];have k1:=z.notType;have k2:=z.canCreate
 repeat (any_goals (first|assumption|wp_step))
 refine Qt (SB z.plain G (Td W (g prog w A.in1 _ s h))) λr s1 hr=>?_;cases r with
 | error e=>exact hr
 | ok fl =>
  cases fl with
  | ret obj =>
   have av:=z.init.lookup;have ax:=z.init.bind obj;have hT:=hr.1
   repeat (any_goals (first|assumption|wp_step))
   refine Qt (SB z.init.plain F.entry_object_init (z.init.check _ _ _ _ _ _ _ _ hr.1 (hok obj) (BS z.init.lookup z.made X7 prog w A.in1 (wants (λr s2=>r = .none/\Q obj s2) E) s1 {hr.1,rfl,hr.2}))) λr2 s2 J=>?_;cases r2 with
   | error e=>exact J
   | ok U =>
    cases U with
    | ret r =>
     obtain ⟨rfl,hq⟩:=J
     repeat (any_goals (first|assumption|wp_step))
    | _=>exact J.elim
  | _=>exact hr.elim
theorem KO{t u:Tok}(h:∀h',IsEnum h' (s.heap.objs.size+1) s.heap.objs.size 1 .none->h'.IsStrIter s.heap.objs.size (RB x) x t 0->h'.objs.size=s.heap.objs.size+2->(∀b o,s.heap.get? b=some o->h'.get? b=some o)->Q (.ref (s.heap.objs.size+1)) { s with heap:=h' }):
  OE (OK prog w) A (call (.type "enumerate") [.str x t] [(Ox "start",.int 1 u)]) Q E s:=by
 refine HX F.called_enumerate 'd' (HY _ _) (NI _ _) (λobj=>HP obj _ _) F.entry_enumerate_new (NV x t u) ?_;have hz:(s.heap.push { cls:=.type (RB x),data:=.fields #[.str x t,.int 0 0] }).objs.size=s.heap.objs.size+1:=Q9 ..;show _/\_;rw [hz];have he:IsEnum ((s.heap.push { cls:=.type (RB x),data:=.fields #[.str x t,.int 0 0] }).push { cls:=.type "enumerate",data:=.fields #[.none,.bool false,.ref s.heap.objs.size,Pu 1,.none,.none] }) (s.heap.objs.size+1) s.heap.objs.size 1 .none:=by
  have q:=ON (s.heap.push { cls:=.type (RB x),data:=.fields #[.str x t,.int 0 0] }) (o:={ cls:=.type "enumerate",data:=.fields #[.none,.bool false,.ref s.heap.objs.size,Pu 1,.none,.none] }) rfl;rw [hz] at q;exact q
 exact {{_,he,rfl},h _ he {_,Ou _ (ON _ rfl),rfl,rfl} (by rw [Q9,hz]) λb o y=>Ou _ (Ou _ y)}
theorem Nn(G:args.any (·.1)=false)(F:z.any (·.1.isNone)=false)(h:OE M A (evalArgs (.type T) true args z) (λa s1=>OE M A (call (.type T) a.pos a.kw) Q E s1) E s):OE M A (Rp pos (.type T) [] args z) Q E s:=by
 unfold Rp;refine we (OT (OZ h (λa s1 h1=>we (Pl ?_)) λ_ _ x=>x));simp only [G,F,Sy];exact we (Ot (we (OZ h1 (λr s2 hr=>we (OT (wpAny_point (Ot hr)))) λ_ _ x=>x)))
end
section
variable {X:Cx}
noncomputable def AS(k:Nat)(ta:TE):TI:=λσ H R=>ta σ H λx H1=>uS x λz=>asc z=true/\R (iH z k) H1
theorem Kq{k:Nat}:AS k ta σ H R=ta σ H λx H1=>uS x λz=>asc z=true/\R (iH z k) H1:=rfl
theorem Bk(h:asc z=true):RB z="str_ascii_iterator":=by
 unfold RB;rw [show z.cps.all (· < 128)=true from h];rfl
theorem Ky{tp p pos kp cp:Pos}(hg:Gl X "enumerate")(hm:X.mg "enumerate"=none)(ha:W (PE X a ta))(hp:af a=true:=by rfl):W (PIc true X (.Tuple YC kk tp) (.Call (.Name "enumerate" p) [a] [{some (Ox "start"),.Constant (.int 1) j cp,kp}] pos) (AS 1 ta)):=by
 refine {?_};have ha:=ha.h;intro Go s σ H R I h;have hs:OV [a] X.env=[(false,PH a X.env)]:=dZ hp;have U:=gU ha gF (hs:=hs) pos Go s σ H (λys H2=>dR (λy=>uS y λz=>asc z=true/\R (iH z 1) H2) ys) I h;refine PM (fW I hg hm boot_enumerate (Nn (by rw [hs];rfl) rfl ?_));rw [hs] at U ⊢;refine evalArgs_kwB rfl (thn U λus s1=>x5e λvs H1 I1 r1 q1=>kws_cons (thn (uz Go s1 σ H1 (λv H=>v = .int 1/\H=H1) I1 {rfl,rfl}) λw2 s2=>x5e λy2 H2 F r2 Ye=>kws_nil ?_));obtain ⟨G,J⟩:=Ye;subst G J;obtain ⟨t2,rfl⟩:=r2;obtain ⟨y,rfl,z,ey,hz,q⟩:=dR.ex q1;subst ey;cases r1 with
 | cons r rr =>
  cases rr;obtain ⟨t,rfl⟩:=r;refine KO (s:=s2) λh' O Z a6 a7=>wpAny_pyIter_enum (s:={ s2 with heap:=h' }) O ?_;rw [Bk hz] at Z;refine {_,_,_,_,H2,rfl,F.kept (t':=s2.toks) a7,La (Nat.succ_ne_self _),{{_,O},t,Z},λb S=>?_,q};have le:s2.heap.objs.size<=b:=by
   simp only [OL,Pa,or_false] at S;rcases S with rfl|rfl
   .exact R9 _
   .exact Ov _
  exact F.a7 le (F.hok.fresh le)
end
section
variable {K:Ow}{g:TG}{tb:TS}{D:bZ}{σ:St}{H:Hp}{tt:TT}{te:TE}{Q:VK}
theorem bu.fq{k:Nat}(F:Nat->St->Hp->Prop)(O:F 0 σ H)(hs:∀i c p σ H,z.cps[i]?=some c->F i σ H->H p=none->g (.ref p) σ (upd H p (.tup [.int ((i+k:Nat):Int),.str {#[c]}])) λG H2=>tb { D with nx:=F (i+1),ct:=F (i+1),bk:=D.nx } G H2)(hd:∀σ H,F z.cps.size σ H->D.nx σ H):bu (iH z k) g tb D σ H:=by
 refine {λi m σ H=>m=z.cps.size-i/\i<=z.cps.size/\F i σ H,{z.cps.size,'z',Pp _,O},?_};rintro i m σ H ⟨rfl,hi,p⟩;by_cases J:i<z.cps.size
 .refine .inr {J,F (i+1),λS H' W=>{z.cps.size-(i+1),'l',rfl,J,W},λx H' y=>?_};obtain ⟨T,c,Z,rfl,U,rfl⟩:=y;exact hs i c T σ _ U p Z
 .have e:i=z.cps.size:=by lia
  subst e;exact .inl {rfl,hd σ H p}
theorem aQ.str(G:Nat->St->List V->Hp->Prop)(hz:∀i τ ys H,G i τ ys H->ys.length<sizeLine)(S:G 0 τ [] H)(hs:∀(N:St->List V->Hp->Prop) i c τ ys H,z.cps[i]?=some c->G i τ ys H->(∀τ ys H,G (i+1) τ ys H->N τ ys H)->g (.str {#[c]}) τ H λF H4=>tt F H4 λok H5=>fh N ys F te ok H5)(hd:∀τ ys H,G z.cps.size τ ys H->∀D H',New H D (.lst ys) H'->Q (.ref D) H'):aQ (Its z) g tt te τ H Q:=by
 refine {λi m τ ys H=>m=z.cps.size-i/\i<=z.cps.size/\G i τ ys H,{z.cps.size,'z',Pp _,S},?_};rintro i m τ ys H2 ⟨rfl,hi,p⟩;refine {hz i τ ys H2 p,?_};by_cases O:i<z.cps.size
 .refine .inr {O,λx H' y=>?_};obtain ⟨e,c,U,rfl⟩:=y;subst e;exact hs (λF ys H=>∃J,J<z.cps.size-i/\J=z.cps.size-(i+1)/\i+1<=z.cps.size/\G (i+1) F ys H) i c τ ys _ U p λF zs H q=>{z.cps.size-(i+1),'l',rfl,O,q}
 .have e:i=z.cps.size:=by lia
  subst e;exact .inl {Ov _,λD W _=>hd τ ys H2 p D _ (.mk' W)}
end
section
variable {X:Cx}
def wX:List V->Hp->VK->Prop:=λxs H Q=>uR1 xs λp=>∃bs:List Bool,H p=some (.lst (bs.map V.bl))/\Q (.bl (bs.all id)) H
theorem C2{bs:List Bool}:∀{us:List Value},zu (bs.map V.bl) us->us=bs.map RY:=by
 induction bs with
 | nil=>intro us r;rw [map_nil] at r;cases r;rfl
 | cons b bs z =>
  intro us r;rw [PY] at r;cases r with
  | cons r1 r2=>rw [show _=RY b from r1,z r2];rfl
theorem Mv(O:X.calm=true):zY X (.builtin "all") wX:=by
 intro Go s σ H xs us Q I r h;obtain ⟨p,rfl,bs,hp,q⟩:=h;cases r with
 | cons r1 S =>
  cases S;cases (show _=OH p from r1);obtain ⟨its,J,pl,_⟩:=I.list (SqL.of (K:=X.K) hp);have e:=C2 J;subst e;have U:p≠s.heap.objs.size:=by obtain ⟨o,e,_⟩:=pl.isList;exact Pe (OX e)
  refine call_all_walk (Rv pl.isList ?_);have hl:∀k:Nat,k=bs.length->(Qh k).all (λi=>bs.getD i true)=bs.all id:=by
   intro k e;subst e;rw [Rq,Pg,Pg];constructor
   .intro h x hx;obtain ⟨i,hi,rfl⟩:=RF hx;have:=h i (Sn.mpr hi);rw [O5,Os hi] at this;exact this
   .intro h i hi;have hi:=Sn.mp hi;rw [O5,Os hi];exact h _ (PV hi)
  refine {s.heap.objs.size,_,_,_,_,_,λi=>bs.getD i true,rfl,Walks.list (prog:=X.prog) (w:=X.w) (A:=X.A.in1) (show X.A.in1.handled=none from I.ok.hd O) s.heap.objs.size p U (bs.map RY).toArray,{{_,ON _ rfl,rfl,rfl},pl.isList.push _},?_,λh' tk kp=>?_}
  .intro i v s2 G W hv z;have hv:(bs.map RY)[i]?=some v:=by simpa using hv
   rw [O0] at hv;cases e:bs[i]? with
   | none=>rw [e] at hv;cases hv
   | some b =>
    rw [e] at hv;cases hv;have F:bs.getD i true=b:=by rw [O5,e];rfl
    have z:G (bs.getD i true) s2:=z;rw [F] at z;exact Ot z
  .refine {.bl _,H,I.kept (t':=tk) λb o e=>kp b o ?_ (Ou _ e),rfl,?_}
   .simpa using Pe (OX e)
   .rw [hl _ 'z'];exact q
theorem KZ{p:Addr}:wX [.ref p] H Q = ∃bs:List Bool,H p=some (.lst (bs.map V.bl))/\Q (.bl (bs.all id)) H:=iB
noncomputable def uIn:R2:=λx y H Q=>(∃i j,x = .str i/\y = .str j/\Q (.bl (!(OO.Str.occurrences j i 0 j.length 1).isEmpty)) H)\/∃p xs,y = .ref p/\(H p=some (.lst xs)\/H p=some (.tup xs))/\ah x=true/\xs.all ah=true/\Q (.bl (inV x xs)) H
theorem GJ(G:X.A.units<cLine):OpR X (PU .In) uIn:=(IR.or Ja).weak λx y H Q h=>by
 rcases h with h|⟨p,xs,e,h,F,z,q⟩
 .exact .inl h
 .exact .inr {p,xs,e,h.elim (λh=>.inl (SqL.of h)) (λh=>.inr (SqT.of h)),F,z,by simpa using q}
theorem Jt:uIn (.str x) (.str y) H Q=Q (.bl (!(OO.Str.occurrences y x 0 y.length 1).isEmpty)) H:=by simp [uIn]
theorem GO{p:Addr}:uIn x (.ref p) H Q = ∃xs,(H p=some (.lst xs)\/H p=some (.tup xs))/\ah x=true/\xs.all ah=true/\Q (.bl (inV x xs)) H:=by simp [uIn]
def uM1(to te:TE)(r:Str->V->Hp->VK->Prop):TE:=λσ H Q=>to σ H λx H1=>uS x λz=>te σ H1 λy H2=>r z y H2 Q
theorem Jd{to te:TE}{r:Str->V->Hp->VK->Prop}:uM1 to te r σ H Q=to σ H λx H1=>uS x λz=>te σ H1 λy H2=>r z y H2 Q:=rfl
theorem ua{o e:OU}{to te:TE}{id:String}{r:Str->V->Hp->VK->Prop}(G:Slot "str" m id)(Xa:typeOf (.builtin id)=pure (.type "method_descriptor"))(hr:∀(Go:List (Addr×Obj))(s:KE)(σ:St)(H:Hp)(z:Str)(y:V)(t:Tok)(v:Value)(Q:VK),Inv X Go σ H s->zp y v->r z y H Q->OE 'c' X.A (call (.builtin id) [.str z t,v]) (λu s1=>∃x H',Inv X Go σ H' s1/\zp x u/\Q x H') X.xe s)(ho:PE X o to)(he:PE X e te)(Zw:Qs o m X.env (PH o X.env)=PH o X.env:=by rfl)(Za:(ZZ.endLine==cpos.line)=true:=by rfl)(hp:af e=true:=by rfl):
  PE X (.Call (.Attribute o m ZZ) [e] [] cpos) (uM1 to te r):=by
 intro Go s σ H Q I h;have hs:OV [e] X.env=[(false,PH e X.env)]:=dZ hp;refine Rf Zw (by rw [hs];rfl) Za rfl (thn (ho Go s σ H _ I h) λv s1=>x5e λx H1 O r1 Z=>?_);obtain ⟨z,ex,q1⟩:=Z;subst ex;obtain ⟨h1,h2⟩:=jv (T:="str") O r1 rfl;refine {"str",id,PySem.F.plainAttrs_str,G,Xa,h1,h2,?_};rw [hs];refine Calls.callWith_builtin rfl (Calls.evalArgs_plain ?_);have S:=gU he gF (hs:=hs) cpos Go s1 σ H1 (λys H2=>dR (λy=>r z y H2 Q) ys) O q1;rw [hs] at S;refine thn S λus s2=>x5e λvs H2 W r2 J=>?_;obtain ⟨t,rfl⟩:=r1;obtain ⟨y,rfl,J⟩:=dR.ex J;obtain ⟨_,rfl,U⟩:=zu.one r2;exact hr Go s2 σ H2 z y t _ Q W U J
def yH:Str->V->Hp->VK->Prop:=λz y H Q=>uS y λq=>Q (.int (RT z q)) H
theorem B7{o e:OU}{to te:TE}(G:W (PE X o to))(he:W (PE X e te))(S:Qs o "rfind" X.env (PH o X.env)=PH o X.env:=by rfl)(O:(ZZ.endLine==cpos.line)=true:=by rfl)(hp:af e=true:=by rfl):W (PE X (.Call (.Attribute o "rfind" ZZ) [e] [] cpos) (uM1 to te yH)):=by
 refine {?_};have G:=G.h;have he:=he.h;exact
  ua PySem.F.slot_str_rfind PySem.F.type_str_rfind (λGo s σ H z y t v Q I J q=>by
   obtain ⟨w,rfl,q⟩:=q;obtain ⟨u,rfl⟩:=J;exact RH PySem.F.slot_str_rfind (Si _ _ _) PySem.F.entry_str_rfind (PySem.F.args_str_rfind_2 _ _) (gives_str_rfind z w t u).meets {.int _,H,I.tok _,{_,rfl},q}) G he S O hp
theorem HG:yH z (.str q) H Q=Q (.int (RT z q)) H:=pq
theorem wk:∀(k:Nat)(ys:List Str),zu (ys.map V.str) (strsFrom k ys)
 | _,[]=>.nil
 | k,y::ys=>.cons {k,rfl} (wk (k+1) ys)
def xQ:Str->V->Hp->VK->Prop:=λz y H Q=>uS y λq=>(q.length==0)=false/\z.length<sizeLine/\(Qo z q).length<=sizeLine/\∀p H2,New H p (.lst ((Qo z q).map V.str)) H2->Q (.ref p) H2
theorem DX{o e:OU}{to te:TE}(O:W (PE X o to))(he:W (PE X e te))(Z:Qs o "split" X.env (PH o X.env)=PH o X.env:=by rfl)(Za:(ZZ.endLine==cpos.line)=true:=by rfl)(hp:af e=true:=by rfl):W (PE X (.Call (.Attribute o "split" ZZ) [e] [] cpos) (uM1 to te xQ)):=by
 refine {?_};have O:=O.h;have he:=he.h;exact
  ua SV PySem.F.type_str_split (λGo s σ H z y t v Q I U q=>by
   obtain ⟨w,rfl,hw,hz,J,q⟩:=q;obtain ⟨u,rfl⟩:=U;have G:∀(ys:List Str)(us:List Value)(k:Nat),ys=Qo z w->zu (ys.map V.str) us->∃x H',Inv X Go σ H' { s with heap:=s.heap.push { cls:=.type "list",data:=.seq us.toArray },toks:=k }/\zp x (.ref s.heap.objs.size)/\Q x H':=λys us k e S=>by
    subst e;have hl:=S.length;rw [OA] at hl;exact {.ref s.heap.objs.size,_,I.laid (t':=k) (o:=.lst _) (λb ob q=>Ou _ q) (Ov _) {by rw [OA];exact J,us,0,S,ON _ rfl},rfl,q _ _ (.mk' (I.hok.fresh (Ov _)))}
   cases h1:(decide (z.length<w.length)||decide (OO.Str.strKind z<OO.Str.strKind w))
   .cases hf:(OO.Str.occurrences z w 0 z.length (z.length+1)).isEmpty
    .have es:Qo z w=OO.Str.partsBetween z (OO.Str.occurrences z w 0 z.length (z.length+1)) w.length:=(if_neg (ne_true_of_eq_false h1)).trans (if_neg (ne_true_of_eq_false hf));rw [es] at J;exact RH SV (Si _ _ _) entry_str_split (args_str_split_2 _ _) (meets_str_split_sep z w t u h1 hw hf (Sa hz) J) (G _ _ _ es.symm (wk _ _))
    .exact RH SV (Si _ _ _) entry_str_split (args_str_split_2 _ _) (meets_str_split_not_found z w t u h1 hw hf) (G [z] [.str z t] s.toks ((if_neg (ne_true_of_eq_false h1)).trans (if_pos hf)).symm (.cons {t,rfl} .nil))
   .exact RH SV (Si _ _ _) entry_str_split (args_str_split_2 _ _) (meets_str_split_cannot_occur z w t u h1) (G [z] [.str z t] s.toks (if_pos h1).symm (.cons {t,rfl} .nil))) O he Z Za hp
theorem C7:xQ z (.str q) H Q=((q.length==0)=false/\z.length<sizeLine/\(Qo z q).length<=sizeLine/\∀p H2,New H p (.lst ((Qo z q).map V.str)) H2->Q (.ref p) H2):=pq
def yJ(te:TE):TE:=λσ H Q=>te σ H λx H1=>(∃z,x = .str z/\z.length<=sizeLine/\Q (.str z) H1)\/∃i,x = .int i/\i.natAbs.log2<1920/\Q (.str (toString i)) H1
def iT:V->Hp->VK->Prop:=λx H1 Q=>(∃z,x = .str z/\z.length<=sizeLine/\Q (.str z) H1)\/∃i,x = .int i/\i.natAbs.log2<1920/\Q (.str (toString i)) H1
theorem FE:yJ te σ H Q=te σ H λx H1=>iT x H1 Q:=rfl
theorem Jh:iT (.str z) H Q=(z.length<=sizeLine/\Q (.str z) H):=by simp [iT]
theorem DJ:iT (.int i) H Q=(i.natAbs.log2<1920/\Q (.str (toString i)) H):=by simp [iT]
theorem uT(he:W (PE X e te)):W (PE X (.FormattedValue e (-1) none pos) (yJ te)):=by
 refine {?_};have he:=he.h;intro Go s σ H Q I h;refine FormattedValue_plain (thn (he Go s σ H _ I h) λv s1=>x5e λx H1 F r1 q1=>?_);rcases q1 with ⟨z,rfl,hz,q⟩|⟨i,rfl,hi,q⟩
 .obtain ⟨t,rfl⟩:=r1;exact formatField_str (λt' tk=>{.str z,H1,F.tok _,{_,rfl},q}) hz
 .obtain ⟨t,rfl⟩:=r1;exact formatField_int_small hi {.str _,H1,F.tok _,{_,rfl},q}
abbrev TJ:=Str->TE
def PJ(X:Cx)(es:List OU)(z:TJ):Prop:=∀(out:Str)(Go:List (Addr×Obj))(s:KE)(σ:St)(H:Hp)(Q:VK),Inv X Go σ H s->z out σ H Q ->
 OE 'c' X.A (joinParts out (evalEach es X.env)) (λu s1=>∃x H',Inv X Go σ H' s1/\zp x u/\Q x H') X.xe s
def yM:TJ:=λout _ H Q=>out.length<=sizeLine/\Q (.str out) H
def A5(te:TE)(z:TJ):TJ:=λout σ H Q=>te σ H λx H1=>uS x λy=>(out++y).length<=sizeLine/\z (out++y) σ H1 Q
theorem Hd:W (PJ X [] yM):={λout Go s σ H Q I h=>joinParts_nil {.str out,H,I.tok _,{_,rfl},h.2} h.1}
theorem oQ(he:W (PE X e te))(z:W (PJ X es F)):W (PJ X (e::es) (A5 te F)):=by
 refine {?_};have he:=he.h;have z:=z.h;exact λout Go s σ H Q I h=>by
  refine joinParts_cons (thn (he Go s σ H _ I h) λv s1=>x5e λx H1 J r1 q1=>?_);obtain ⟨y,rfl,G,q⟩:=q1;obtain ⟨t,rfl⟩:=r1;exact {G,z _ Go s1 σ H1 Q J q}
def AC(z:TJ):TE:=z RO
theorem D4:AC z=z RO:=rfl
theorem IM(h:W (PJ X (e::z::es) F)):W (PE X (.JoinedStr (e::z::es) pos) (AC F)):=by refine {?_};have h:=h.h;exact λGo s σ H Q I q=>JoinedStr_many (h RO Go s σ H Q I q)
def gN:List V->Hp->VK->Prop:=λxs H Q=>fq xs H Q\/∃z n,xs=[.str z]/\z.length<=640/\QK z=some n/\Q (.int n) H
theorem ju:zY X (.type "int") gN:=by
 intro Go s σ H xs us Q I r h;rcases h with h|⟨z,n,rfl,hl,F,q⟩
 .exact Ij Go s σ H xs us Q I r h
 .cases r with
  | cons r1 G =>
   cases G;obtain ⟨t,rfl⟩:=r1;exact PySem.W.KIN.call_text F hl {.int n,H,I.tok _,{_,rfl},q}
theorem Jr:gN [.int i] H Q=Q (.int i) H:=by simp [gN,fq]
theorem Oa{k:Bool}:gN [.bl k] H Q=Q (.int (if k then 1 else 0)) H:=by simp [gN,fq]
theorem J6:gN [.str z] H Q = ∃n,z.length<=640/\QK z=some n/\Q (.int n) H:=by simp [gN,fq]
def jf:List V->Hp->VK->Prop:=λxs H Q=>h8 xs H Q\/∃z,xs=[.str z]/\Q (.str z) H
theorem d8:zY X (.type "str") jf:=by
 intro Go s σ H xs us Q I r h;rcases h with h|⟨z,rfl,q⟩
 .exact IL Go s σ H xs us Q I r h
 .cases r with
  | cons r1 F =>
   cases F;obtain ⟨t,rfl⟩:=r1;exact PySem.P.str_of_str {.str z,H,I,{_,rfl},q}
theorem C8:jf [.int i] H Q=(i.natAbs.log2<1920/\Q (.str (toString i)) H):=by simp [jf,h8]
theorem Dh:jf [.str z] H Q=Q (.str z) H:=by simp [jf,h8]
def pJ:List V->Hp->VK->Prop:=λxs H Q=>∃x,xs=[.str x]/\x.length=1/\Q (.int (x.cps.getD 0 0:Nat)) H
theorem D9:zY X (.builtin "ord") pJ:=Gm
theorem Im:pJ [.str x] H Q=(x.length=1/\Q (.int (x.cps.getD 0 0:Nat)) H):=by simp [pJ]
end
noncomputable def tx(l:List Nat):Str:=⟨l.toArray⟩
noncomputable def sg(z:Str):List Nat:=z.cps.toList
theorem bz(l:List Nat):sg (tx l)=l:=by simp [sg,tx]
theorem fB(z:Str):tx (sg z)=z:=by cases z;simp [sg,tx]
theorem iN(h:sg a=sg b):a=b:=by rw [<- fB a,h,fB]
theorem ck(a b:Str):sg (a++b)=sg a++sg b:=by simp [sg,Str.cps_append]
theorem aa(z:Str):(sg z).length=z.length:=by simp [sg,Str.length]
theorem lh(l:List Nat):(tx l).length=l.length:=by simp [tx,Str.length]
noncomputable def c1(c:Nat):Str:={#[c]}
theorem lq:StrLaws.At x (c1 c) x.length i↔(sg x)[i]?=some c:=by
 unfold StrLaws.At;rw [StrLaws.subAt_eq];show i+1<=x.length/\((((sg x).drop i).take 1)==[c])=true↔_;rw [<- aa x];constructor
 .rintro ⟨h1,h2⟩;have h2:=eq_of_beq h2;rw [Os 'l'];have h3:((sg x).drop i).take 1=[(sg x)[i]''l']:=by
   rw [Q1 'l'];rfl
  rw [h3] at h2;injection h2 with h2 _
  rw [h2]
 .intro h;obtain ⟨h1,h2⟩:=OJ.mp h;refine {'l',?_};rw [Q1 h1,h2];simp
theorem N7(y:Str)(c:Nat):(!(OO.Str.occurrences y {#[c]} 0 y.length 1).isEmpty)=(sg y).contains c:=by
 rcases StrLaws.occ_head y (c1 c) 1 (Ov _) with ⟨h,z⟩|⟨i,r,h,ha,_⟩
 .rw [show OO.Str.occurrences y {#[c]} 0 y.length 1=[] from h];symm;show (sg y).contains c=false;rw [QI];intro F;obtain ⟨i,hi,e⟩:=RF (Qq.mp F);exact z i (lq.mpr (by rw [Os hi,e]))
 .rw [show OO.Str.occurrences y {#[c]} 0 y.length 1=i::r from h];symm;exact Qq.mpr (Pr (lq.mp ha))
noncomputable def ao(c:Nat):List Nat->List (List Nat)
 | []=>[[]]
 | x::t=>if x=c then []::ao c t else match ao c t with
  | []=>[[x]]
  | h::r=>(x::h)::r
noncomputable def gJ(p:List Nat):List (List Nat)->List (List Nat)
 | []=>[p]
 | h::r=>(p++h)::r
theorem dO(c:Nat):∀l,∃h r,ao c l=h::r
 | []=>{_,_,rfl}
 | x::t=>by
  unfold ao;split
  .exact {_,_,rfl}
  .obtain ⟨h,r,e⟩:=dO c t;rw [e];exact {_,_,rfl}
theorem eK(c x:Nat)(t:List Nat)(h:x≠c):ao c (x::t)=gJ [x] (ao c t):=by
 obtain ⟨a,r,e⟩:=dO c t;show (if x=c then _ else _)=_;rw [if_neg h,e];rfl
theorem Jg(p q:List Nat)(l:List (List Nat)):gJ p (gJ q l)=gJ (p++q) l:=by
 cases l<;>simp [gJ]
theorem oG(s:Str)(c hi F:Nat):∀(l:List Nat)(st:Array Nat×Nat),(∀i∈l,st.2<=i)->l.Pairwise (· < ·)->st.1.size+l.length<=F ->
  (forIn l st (StrLaws.occBody s (c1 c) hi F)).run.fst.toList=st.1.toList++l.filter λi=>decide (i+1<=hi)&&OO.Str.subAt s (c1 c) i
 | [],st,_,_,_=>by simp
 | a::l,st,h1,h2,h3=>by
  rw [forIn_cons];unfold StrLaws.occBody;have ha:=h1 a (OI ..);rw [PX] at h2;simp only [Pn] at h3;split
  .rename_i z;have J:=oG s c hi F l (st.1.push a,a+(c1 c).length) (λi hi=>by have:=h2.1 i hi;show a+1<=i;lia) h2.2 (by simp;lia);have G:(decide (a+1<=hi)&&OO.Str.subAt s (c1 c) a)=true:=by rw [O1];exact {decide_eq_true z.1.2,z.2}
   rw [filter_cons,G,if_pos rfl];refine Eq.trans J ?_;simp
  .rename_i z;have J:=oG s c hi F l st (λi hi=>h1 i (Oz _ hi)) h2.2 'l';have G:(decide (a+1<=hi)&&OO.Str.subAt s (c1 c) a)=false:=by
    rw [QI];intro h;rw [O1] at h;exact z {{{'l',ha},of_decide_eq_true h.1},h.2}
   rw [filter_cons,G,if_neg 'z'];exact J
theorem ve(x:Str)(c:Nat):OO.Str.occurrences x (c1 c) 0 x.length (x.length+1)=(range' 0 (x.length+1)).filter λi=>(sg x)[i]? == some c:=by
 rw [StrLaws.occ_eq];rw [oG x c x.length (x.length+1) _ _ (λ_ _=>Pp _) (List.pairwise_lt_range' (s:=0) (n:=x.length+1-0)) 'z'];simp only [RW,Nat.sub_zero];refine List.filter_congr λi _=>?_;rw [Rq];have:=lq (x:=x) (c:=c) (i:=i);unfold StrLaws.At at this;rw [O1,decide_eq_true_eq,beq_iff_eq];exact this
theorem oP(x:Str)(c:Nat):∀(k a i:Nat),i+k=x.length->a<=i->StrLaws.partsFrom x 1 a ((range' i (k+1)).filter λi=>(sg x)[i]? == some c)=(gJ (((sg x).drop a).take (i-a)) (ao c ((sg x).drop i))).map tx
 | 0,a,i,h,ha=>by
  have hl:=aa x;have W:(sg x)[i]?=none:=Q0 'l';have G:(sg x).drop i=[]:=Rk 'l';have U:(range' i (0+1)).filter (λi=>(sg x)[i]? == some c)=[]:=by
   show List.filter _ [i]=[];rw [filter_cons,W];rfl
  rw [G,U];show [OO.Str.strSub x a x.length]=[tx _];refine congrArg (·::[]) (iN ?_);rw [bz];show (OO.Str.strSub x a x.length).cps.toList=_;rw [StrLaws.strSub_toList,show x.length=i by lia];simp [ao,sg]
 | k+1,a,i,h,ha=>by
  have hl:=aa x;have hi:i<(sg x).length:=by lia
  have F:(sg x)[i]?=some ((sg x)[i]):=Os hi;have Z:(sg x).drop i=(sg x)[i]::(sg x).drop (i+1):=Q1 hi;rw [T2,filter_cons,F,Z];by_cases z:(sg x)[i]=c
  .rw [if_pos (by simp [z])];have J:=oP x c k (i+1) (i+1) 'l' (Ov _);show OO.Str.strSub x a i::StrLaws.partsFrom x 1 (i+1) _=_;rw [J];have S:ao c ((sg x)[i]::(sg x).drop (i+1))=[]::ao c ((sg x).drop (i+1)):=by
    show (if _=c then _ else _)=_;rw [if_pos z]
   rw [S];obtain ⟨p,r,e⟩:=dO c ((sg x).drop (i+1));rw [e];simp only [TN,take_zero,gJ,RW,Qa,PY];refine congrArg (·::_) (iN ?_);rw [bz];exact StrLaws.strSub_toList x a i
  .rw [if_neg (by simp [z])];rw [oP x c k a (i+1) 'l' 'l',eK c _ _ z,Jg];have O:((sg x).drop a).take (i+1-a)=((sg x).drop a).take (i-a)++[(sg x)[i]]:=by
    rw [show i+1-a=(i-a)+1 by lia,Pz];congr 1;rw [List.getElem?_drop,show a+(i-a)=i by lia,F];rfl
   rw [O]
theorem vw:∀{l:List Nat},c∉l->ao c l=[l]
 | [],_=>rfl
 | x::t,h=>by
  rw [OL,not_or] at h;rw [eK c x t (Pd h.1),vw h.2];rfl
theorem mh(x:Str)(S:c<128):Qo x (c1 c)=(ao c (sg x)).map tx:=by
 have J:OO.Str.strKind (c1 c)=1:=by
  unfold OO.Str.strKind;rw [if_pos];show (#[c]:Array Nat).all (· < 256)=true;simp;lia
 have z : ¬ OO.Str.strKind x<OO.Str.strKind (c1 c):=by
  rw [J];unfold OO.Str.strKind;split<;>(try split)<;>lia
 have F:c∉sg x->[x]=(ao c (sg x)).map tx:=λh=>by rw [vw h];show [x]=[tx (sg x)];rw [fB]
 unfold Qo;split
 .rename_i h;rw [decide_eq_false z,Sy,decide_eq_true_eq] at h;have h:x.length<1:=h;rw [<- aa] at h;refine F ?_;have G:sg x=[]:=Re 'l';rw [G];exact Pa
 .split
  .rename_i h;refine F λO=>?_;obtain ⟨i,hi,e⟩:=RF O;rw [ve] at h;have:i∈(range' 0 (x.length+1)).filter λi=>(sg x)[i]? == some c:=by
    rw [Ui];refine {?_,by rw [Os hi,e];simp};rw [List.mem_range'_1];rw [aa] at hi;lia
   rw [List.isEmpty_iff.mp h] at this;exact absurd this Pa
  .rw [StrLaws.partsBetween_eq,ve];show StrLaws.partsFrom x 1 0 _=_;rw [oP x c x.length 0 0 'l' (Ov _)];simp only [TN,take_zero,Uq];obtain ⟨h,r,e⟩:=dO c (sg x);rw [e];rfl
theorem nV(x:Str)(c hi:Nat):∀(l:List Nat)(st:Option Nat),(forIn l st (λi r=>if (decide (i+(c1 c).length<=hi)&&OO.Str.subAt x (c1 c) i)=true then (pure (ForInStep.yield (some i)):Id _) else pure (ForInStep.yield r))).run =
  l.foldl (λZ1 i=>if (decide (i+1<=hi)&&OO.Str.subAt x (c1 c) i)=true then some i else Z1) st
 | [],st=>rfl
 | a::l,st=>by
  rw [forIn_cons,Uc];show _=l.foldl _ (if (decide (a+(c1 c).length<=hi)&&OO.Str.subAt x (c1 c) a)=true then some a else st);split
  .exact nV x c hi l _
  .exact nV x c hi l _
theorem wg(x:Str)(c:Nat):OO.Str.lastOccurrence x (c1 c) 0 x.length=(range' 0 (x.length+1)).foldl (λZ1 i=>if (sg x)[i]?=some c then some i else Z1) none:=by
 have e:OO.Str.lastOccurrence x (c1 c) 0 x.length=(forIn (range' 0 (x.length+1)) none (λi r=>if (decide (i+(c1 c).length<=x.length)&&OO.Str.subAt x (c1 c) i)=true then (pure (ForInStep.yield (some i)):Id _) else pure (ForInStep.yield r))).run:=by
  unfold OO.Str.lastOccurrence;simp
 rw [e,nV];congr 1;funext Z1 i;have:=lq (x:=x) (c:=c) (i:=i);unfold StrLaws.At at this;by_cases h:(sg x)[i]?=some c
 .rw [if_pos h,if_pos];rw [O1,decide_eq_true_eq];exact this.mpr h
 .rw [if_neg h,if_neg];intro q;rw [O1,decide_eq_true_eq] at q;exact h (this.mp q)
theorem nv{p:Nat->Prop} [DecidablePred p]:∀(l:List Nat)(a:Option Nat),(∀i∈l,¬ p i)->l.foldl (λZ1 i=>if p i then some i else Z1) a=a
 | [],_,_=>rfl
 | x::l,a,h=>by
  rw [Uc,if_neg (h x (OI ..))];exact nv l a λi hi=>h i (Oz _ hi)
theorem Mi(h:sg x=a++c::b)(z:c∉b):RT x (c1 c)=a.length:=by
 have hl:x.length=a.length+(b.length+1):=by rw [<- aa,h];simp
 have e:OO.Str.lastOccurrence x (c1 c) 0 x.length=some a.length:=by
  rw [wg,show x.length+1=a.length+((b.length+1)+1) by lia,<- List.range'_append_1,Rj,T2,Uc];rw [if_pos (by rw [h];simp),Nat.zero_add];refine nv (p:=λi=>(sg x)[i]?=some c) _ _ λi hi=>?_;rw [List.mem_range'_1] at hi;intro q;rw [h,RJ 'l'] at q;obtain ⟨j,F⟩:∃j,i-a.length=j+1:={i-a.length-1,'l'};rw [F,R3] at q;exact z (Pr q)
 show (match OO.Str.lastOccurrence x (c1 c) 0 x.length with|some i=>(i:Int)|none=>-1)=_;rw [e]
theorem qY(h:c∉sg x):RT x (c1 c) = -1:=by
 have e:OO.Str.lastOccurrence x (c1 c) 0 x.length=none:=by
  rw [wg];exact nv (p:=λi=>(sg x)[i]?=some c) _ _ λi _ q=>h (Pr q)
 show (match OO.Str.lastOccurrence x (c1 c) 0 x.length with|some i=>(i:Int)|none=>-1)=_;rw [e]
theorem jC(h:j<=(sg x).length):QQ x none (some (j:Int))=tx ((sg x).take j):=by
 have e:=StrLaws.sliceText_to (x:=x) (j:=(j:Int)) {'l',by simpa [sg] using h};refine Eq.trans (show QQ x none (some (j:Int))=StrLaws.sliceText x none (some (j:Int)) from rfl) (e.trans ?_);show tx _=tx _;simp [sg]
theorem my(h:0<(sg x).length):QQ x none (some (-1))=tx ((sg x).dropLast):=by
 rw [aa] at h;have e:=StrLaws.sliceText_to_neg (x:=x) (j:=-1) 'l' 'l';refine Eq.trans (show QQ x none (some (-1))=StrLaws.sliceText x none (some (-1)) from rfl) (e.trans ?_);show tx _=tx _;rw [List.dropLast_eq_take,aa,Uq,show (-1+(x.length:Int)-0).toNat=x.length-1 by lia];rfl
theorem iJ(m:Nat):sg (toString ((m:Nat):Int):Str)=(Uk 10 m).map Char.toNat:=PySem.W.KIN.signs_num m
section
variable {X:Cx}{tg:OU}
def pO(K:Ow)(tl:TE):TI:=λσ H R=>tl σ H λx H1=>uR x λa=>(∃xs,SqL K H1 a xs/\R (Itl K a) H1)\/∃xs,SqT K H1 a xs/\R (Itt K a) H1
theorem Bt{K:Ow}:pO K tl σ H R=tl σ H λx H1=>uR x λa=>(∃xs,SqL K H1 a xs/\R (Itl K a) H1)\/∃xs,SqT K H1 a xs/\R (Itt K a) H1:=rfl
theorem BQ(hl:PE X l tl):PIc true X tg l (pO X.K tl):=by
 intro Go s σ H R I h;refine thn (hl Go s σ H _ I h) λv s1=>x5e λx H1 z r1 q1=>?_;obtain ⟨a,e,q1⟩:=q1;subst e;cases r1;rcases q1 with ⟨xs,F,q⟩|⟨xs,F,q⟩
 .obtain ⟨its,J,p,hz⟩:=z.list F;refine Rv p.isList {s1.heap.objs.size,[s1.heap.objs.size],_,_,H1,rfl,z.kept (t':=s1.toks) λb o e=>Ou _ e,sL a _,{_,ON _ rfl,rfl,rfl},λb G=>?_,q};have e:b=s1.heap.objs.size:=by simpa using G
  subst e;exact z.a7 (Ov _) (z.hok.fresh (Ov _))
 .obtain ⟨its,J,p,hz⟩:=z.tuple F;refine wpAny_pyIter_tuple (show s1.heap.IsTuple a its.toArray from p) {s1.heap.objs.size,[s1.heap.objs.size],_,_,H1,rfl,z.kept (t':=s1.toks) λb o e=>Ou _ e,sE a _,{_,ON _ rfl,rfl,rfl},λb G=>?_,q};have e:b=s1.heap.objs.size:=by simpa using G
  subst e;exact z.a7 (Ov _) (z.hok.fresh (Ov _))
theorem KD(hl:W (PE X l tl)):W (PIc true X tg l (pO X.K tl)):={BQ hl.h}
end
section
variable {K:Ow}{g:TG}{tt:TT}{te:TE}{H:Hp}{Q:VK}{R:It->Hp->Prop}
theorem aQ.tup{a:Addr}{xs:List V}{τ:St}(F:Nat->St->List V->Hp->Prop)(hz:∀i τ ys H,F i τ ys H->ys.length<sizeLine)(ha:∀i τ ys H,F i τ ys H->SqT K H a xs)(O:F 0 τ [] H)
  (hs:∀(N:St->List V->Hp->Prop) i x τ ys H,xs[i]?=some x->F i τ ys H->(∀τ ys H,F (i+1) τ ys H->N τ ys H)->g x τ H λz H4=>tt z H4 λok H5=>fh N ys z te ok H5) (hd:∀τ ys H,F xs.length τ ys H->∀D H',New H D (.lst ys) H'->Q (.ref D) H'):aQ (Itt K a) g tt te τ H Q:=by
 refine {λi m τ ys H=>m=xs.length-i/\i<=xs.length/\F i τ ys H,{xs.length,'z',Pp _,O},?_};rintro i m τ ys H2 ⟨rfl,hi,p⟩;refine {hz i τ ys H2 p,?_};have q:=ha i τ ys H2 p;by_cases J:i<xs.length
 .refine .inr {{xs,xs[i],q,by simp [J]},λx H' y=>?_};obtain ⟨e,y⟩:=y;subst e;exact hs (λz ys H=>∃G,G<xs.length-i/\G=xs.length-(i+1)/\i+1<=xs.length/\F (i+1) z ys H) i x τ ys _ (y xs q) p λz zs H q=>{xs.length-(i+1),'l',rfl,J,q}
 .have e:i=xs.length:=by lia
  subst e;exact .inl {{xs,q,Ov _},λD S _=>hd τ ys H2 p D _ (.mk' S)}
theorem BG{H:Hp}{Q:VK}:dC c (.ref a) .non H Q=Q (.bl (if c then true else false)) H:=by simp [dC]
theorem Iq{H:Hp}{Q:VK}:dC c (.str a) .non H Q=Q (.bl (if c then true else false)) H:=by simp [dC]
theorem fK(z:Str):asc z=(sg z).all (· < 128):=by simp [asc,sg]
end
def xq(h:Heap)(e:Addr):Prop:=∃oe vs T,h.get? e=some oe/\oe.data = .fields vs/\vs[1]?=some (OH T)
section
variable {M:Model}{A:OQ}{E:Value->KE->Prop}{s:KE}{Hc:Hp}{B:Heap}{env:Env}{outer l:List Env}{L e:Addr}{cls fl:Value}
theorem Bf(YB:A.frames=some (env::outer))(hf:env.frame=some L)(st:B.StaysIn s.heap)(S:B.get? e=none)(hl:s.heap.FunFrames B (env::outer))(he:s.heap.get? e=some oe)(hc:oe.cls=cls)(Yu:oe.dict=none)(hd:oe.data = .fields vs)(hz:2<vs.size)(h2:Ctx Hc vs)(k:∀h',aY Hc B (env::outer) e cls (Pu L) h'->xq h' e->s.heap.UpToSlots h'->Q () { s with heap:=h' }):
  OE M A (do let a<-frameOf env;let pl<-entryPlaceOf L J;let b<-EntryCells.newEntry head a .none (Pu L) .none pl;RC (.ref e) 1 b) Q E s:=by
 have O:e∉(env::outer).filterMap (·.frame):=λz=>by
  obtain ⟨_,o,W,nf⟩:=hl.mem z;rw [he] at W;cases W;exact nf vs hd
 refine we (wpAny_frameOf_fun YB hl hf λg only=>?_);obtain ⟨_,same,slots⟩:=only;refine we (wpAny_entryPlaceOf λpl Yt=>?_);have Xq:∀(tb:Obj)(ts:Array Value),tb.data = .fields ts->ts[3]?=some (Pu L)->OE M A (RC (.ref e) 1 (.ref g.objs.size)) Q E { s with heap:=g.push tb }:=by
  intro tb ts td t3;have Z:g.get? e=some oe:=(same e O).trans he;have F:(g.push tb).get? e=some oe:=Ou _ Z;have hT:(g.push tb).get? g.objs.size=some tb:=ON _ (by rw [Qb td]);have X7:g.objs.size≠e:=RD (OX Z);have fresh:B.get? g.objs.size=none:=by
   cases q:B.get? g.objs.size with
   | none=>rfl
   | some o =>
    obtain ⟨sl,z⟩:=slots _ o (st _ o q);exact absurd (OX z) (O9 _)
  have G:∀b o,b≠e->g.get? b=some o->((g.push tb).update e (RL (·.setIfInBounds 1 (.ref g.objs.size)))).get? b=some o:=λb o hb q =>
   (OW _ _ (Pd hb)).trans (Ou _ q)
  have U:∀b o,s.heap.get? b=some o->(∀ws,o.data≠.fields ws)->b≠e:=λb o q nf z=>by
   rw [z,he] at q;cases q;exact nf vs hd
  have dd:=QJ hd (·.setIfInBounds 1 (OH g.objs.size));refine Px F hd 'l' (k _ {λb o q=>?_,S,?_,?_} {_,_,g.objs.size,Pq _ F (Qb dd),dd,by rw [PC 'l']} λb o q nf=>?_)
  .refine G b o (λz=>by rw [z,S] at q;cases q) ((same b λz=>?_).trans (st b o q));rw [(hl.mem z).1] at q;cases q
  .refine hl.of_keeps λb o q nf=>?_;obtain ⟨sl,z⟩:=slots b o q;exact {_,G b _ (U b o q nf) z,rfl}
  .refine {_,_,Pq _ F (Qb dd),(Rx _ _).trans hc,(sR _ _).trans Yu,dd,by simpa using hz,(by obtain ⟨cv,q1,q2⟩:=h2;exact {cv,by rw [Se 'd'];exact q1,q2}),.inr {g.objs.size,tb,ts,?_,fresh,X7,?_,td,t3}}
   .rw [PC 'l']
   .rw [OW _ _ (Pd X7)];exact hT
  .obtain ⟨sl,z⟩:=slots b o q;exact {sl,G b _ (U b o q nf) z}
 unfold EntryCells.newEntry newFields;refine we (Pm ?_ (Yt.sizeOk5 _ _ _ _ _));exact Xq _ _ rfl 'z'
theorem vf(Z:A.frames=some (env::outer))(hf:env.frame=some L)(x:aY Hc B (env::outer) e cls fl s.heap)(k:∀h',aY Hc B (env::outer) e cls (Pu L) h'->xq h' e->s.heap.UpToSlots h'->Q () { s with heap:=h' }):OE M A (Sm (.ref e) env) Q E s:=by
 obtain ⟨st,J,hl,oe,vs,he,S,O,hd,hz,h2,h1⟩:=x;unfold Sm;simp only [hf];rcases h1 with h1|⟨T,oT,ts,h1,nT,Te,G,dT,U⟩
 .refine we (Pk he hd h1 ?_);rw [if_neg (show ¬ ((Pj != Pj)=true) by decide)];exact Bf Z hf st J hl he S O hd hz h2 k
 .refine we (Pk he hd h1 ?_);rw [if_pos (show (OH T != Pj)=true by simp)];refine we (Pk G dT U ?_);by_cases F:fl=Pu L
  .subst F;rw [if_pos (show (Pu L==Pu L)=true by simp)];exact Ot (k s.heap {st,J,hl,oe,vs,he,S,O,hd,hz,h2,.inr ⟨T,oT,ts,h1,nT,Te,G,dT,U⟩} ⟨oe,vs,T,he,hd,h1⟩ (UpToSlots.refl _))
  .rw [if_neg (show ¬ ((fl==Pu L)=true) by simpa using F)];refine we (Px G dT (Py.mp U).1 ?_);have oth:∀b,b≠T->(s.heap.update T (RL (·.setIfInBounds 3 Pj))).get? b=s.heap.get? b:=λb hb=>OW _ _ (Pd hb);have W:∀b o,s.heap.get? b=some o->(∀ws,o.data≠.fields ws)->b≠T:=λb o q nf z=>by
    rw [z,G] at q;cases q;exact nf ts dT
   refine Bf (B:=B) (cls:=cls) Z hf (λb o q=>?_) J (hl.of_keeps λb o q nf=>{o,(oth b (W b o q nf)).trans q,rfl}) ((oth e (Pd Te)).trans he) S O hd hz h2 λh' y ht up=>k h' y ht λb o q nf=>up b o ((oth b (W b o q nf)).trans q) nf;exact (oth b λz=>by rw [z,nT] at q;cases q).trans (st b o q)
theorem vc(x:aY Hc B l e cls fl s.heap)(k:∀h',aY Hc B l e cls (Pu L) h'->s.heap.UpToSlots h'->Q () { s with heap:=h' }):OE M A (setFlight (.ref e) (some L)) Q E s:=by
 obtain ⟨st,J,hl,oe,vs,he,W,O,hd,hz,h2,h1⟩:=x;unfold setFlight;rcases h1 with h1|⟨T,oT,ts,h1,U,Z,G,dT,t3⟩
 .refine we (Pk he hd h1 ?_);rw [if_neg (show ¬ ((Pj != Pj)=true) by decide)];exact Ot (k s.heap {st,J,hl,oe,vs,he,W,O,hd,hz,h2,.inl h1} (UpToSlots.refl _))
 .refine we (Pk he hd h1 ?_);rw [if_pos (show (OH T != Pj)=true by simp)];have F:3<ts.size:=(Py.mp t3).1;have dd:=QJ dT (·.setIfInBounds 3 (Pu L));have oth:∀b,b≠T->(s.heap.update T (RL (·.setIfInBounds 3 (Pu L)))).get? b=s.heap.get? b:=λb hb=>OW _ _ (Pd hb);have S:∀b o,s.heap.get? b=some o->(∀ws,o.data≠.fields ws)->b≠T:=λb o q nf z=>by
   rw [z,G] at q;cases q;exact nf ts dT
  refine Px G dT F (k _ {λb o q=>(oth b λz=>by rw [z,U] at q;cases q).trans (st b o q),J,hl.of_keeps λb o q nf=>{o,(oth b (S b o q nf)).trans q,rfl},oe,vs,(oth e (Pd Z)).trans he,W,O,hd,hz,h2,
   .inr {T,_,_,h1,U,Z,Pq _ G (Qb dd),dd,?_}} λb o q nf=>{o.slots,(oth b (S b o q nf)).trans q})
  rw [PC F]
end
def jl(X:Cx)(Ex:Addr->St->Hp->Prop):Value->KE->Prop:=λe s'=>∃(ea C:Addr)(B:Heap)(H':Hp)(fl:Value)(σ:St)(z:KE)(Go:List (Addr×Obj)),e = .ref ea/\Inv X Go σ H' z/\aY H' B X.stack ea (.ref C) fl s'.heap /\
 s'.os=z.os/\Rz s'.gens/\(∀b o,z.heap.get? b=some o->b∉frs X.stack->B.get? b=some o)/\z.heap.UpToSlots s'.heap/\Ex C σ H'
noncomputable abbrev cxF(X:Cx)(Ex:Addr->St->Hp->Prop):Cx:=X.UT (jl X Ex)
theorem cX:aL (cxF X Ex) Ex:=λps σ H z ea C B fl s' I y os bare G F q =>
 {ea,C,B,H,fl,σ,z,ps,rfl,I.Da,y,os,bare,G,F,q}
theorem lT(hst:X.stack=X.env::X.outer)(G:X.Ok->X.A.frames=some (X.env::X.outer))(F:X.env.frame=some L):Q3 'c' X.A X.env (jl X Ex):=by
 rintro e s' ⟨ea,C,B,H',fl,σ,W,Go,rfl,I,y,os,bare,hB,O,q⟩;have fr:=G I.ok;rw [hst] at y;refine vf fr F y λh1 S Z u1=>?_;obtain ⟨oe,vs,T,g1,J,U⟩:=Z;refine we (Pk g1 J U ?_);rw [if_neg (show ¬ ((OH T==Pj)=true) by simp)];rw [F];refine vc (s:={ s' with heap:=h1 }) S λh2 z u2=>?_;rw [<- hst] at z;exact {ea,C,B,H',_,σ,W,Go,rfl,I,z,os,bare,hB,(O.trans u1).trans u2,q}
theorem PS.fF{st:Stmt}{t:TS}(T:aL X Ex)(h:PS (cxF X Ex) st t):PS X st t:=λGo s σ H D I hw =>
 OZ (h Go s σ H D (I.UT _) hw) (λ_ _ q=>q.Da) <| by
  rintro e s' ⟨ea,C,B,H',fl,z,J,ps,he,G,y,os,bare,O,F,q⟩;subst he;exact T ps z H' J ea C B fl s' G y os bare O F q
theorem kh{st:Stmt}{t:TS}(T:aL X Ex)(h:W (PS (cxF X Ex) st t)):W (PS X st t):={PS.fF T h.h}
theorem Kj(ai:X.N.Nodup)(U:X.N[i0]?=some z)(W:Loc X.env.scope z)(hc:c=true->X.calm=true)(L:ay X sc N' ix)(hi:PIc c X tg iter wi)(hg:∀Go C fp s H,PG 'b' tg g)(ht:∀Go C fp s H,PTs 'b' F tt)(he:∀Go C fp s H,PE 'b' YZ te)(hs:∀x,O8 iter X.env x=pure x:=by intro _;rfl)(S:SO (.ListComp YZ [{tg,iter,F,0}] sc pos) (some (.Name z Zi)) G.line X.env=pure true:=by rfl)(av:X.fn z=true\/X.env.scope.names.lookup z=some .local:=by first|exact .inl rfl|exact .inr rfl|assumption):
  PS X (.Assign [.Name z Zi] (.ListComp YZ [{tg,iter,F,0}] sc pos) G) (gE (tLC ix wi g tt te) (cE i0)):=by
 intro Go s σ H Z I h;rw [exec_Assign_Name_used z Zi _ G S];refine we (Pl (we ?_));rw [arm_evalThenUse_ListComp];show OE 'c' X.A (Sw (.ListComp YZ [{tg,iter,F,0}] sc pos) sc X.env (SN [{tg,iter,F,0}] pos) (newList []) (Ud [{tg,iter,F,0}]) (firstIter [{tg,iter,F,0}] X.env) (some (SZ (.Name z Zi) X.env))>>=λ_=>pure ()) _ _ _;refine we (yq hc L hi hg ht he hs I h λC D oC H' s5 m5 IX ns tu q=>?_);refine thn (pV ai U W av (Go++[(C,oC)]) s5 σ H' (.ref D) (.ref D) Z.nx IX rfl q) λ_ s6=>x4e λax H6 O q6=>?_;obtain ⟨p6,J,_⟩:=O.pin (C,oC) (Oy _ (Oy _ (O3.mpr rfl)));exact {m5,ns p6,λh' XD=>Ot (Ot {ax,H6,tu (O.Ut λp hp=>O.pin p (Oy _ (Pb _ hp))) J XD,q6})}
theorem m7(O:X.N.Nodup)(G:X.N[i0]?=some z)(J:Loc X.env.scope z)(hc:c=true->X.calm=true)(L:ay X sc N' ix)(hi:W (PIc c X tg iter wi))(hg:∀Go C fp s H,W (PG 'b' tg g))(ht:∀Go C fp s H,W (PTs 'b' S tt))(he:∀Go C fp s H,W (PE 'b' YZ te))(hs:∀x,O8 iter X.env x=pure x:=by intro _;rfl)(F:SO (.ListComp YZ [{tg,iter,S,0}] sc pos) (some (.Name z Zi)) Z.line X.env=pure true:=by rfl)(U:X.fn z=true\/X.env.scope.names.lookup z=some .local:=by first|exact .inl rfl|exact .inr rfl|assumption):
  W (PS X (.Assign [.Name z Zi] (.ListComp YZ [{tg,iter,S,0}] sc pos) Z) (gE (tLC ix wi g tt te) (cE i0))) :=
 {Kj O G J hc L hi.h (λa b c d e=>(hg a b c d e).h) (λa b c d e=>(ht a b c d e).h) (λa b c d e=>(he a b c d e).h) hs F U}
section
variable {κ:Type} [DecidableEq κ]
noncomputable def aH(kvs:List (κ×V))(k:κ):Option V:=(kvs.find? λz=>decide (z.1=k)).map (·.2)
noncomputable def aU(kvs:List (κ×V))(k:κ)(v:V):List (κ×V) :=
 if (kvs.any λz=>decide (z.1=k))=true then kvs.map (λz=>if z.1=k then (z.1,v) else z) else kvs++[(k,v)]
theorem i6{p:κ×V}{r:List (κ×V)}{k:κ}(e:p.1=k):aH (p::r) k=some p.2:=by simp [aH,Sq,e]
theorem je{p:κ×V}{r:List (κ×V)}{k:κ}(e : ¬ p.1=k):aH (p::r) k=aH r k:=by simp [aH,Sq,e]
theorem rq(k:κ):∀kvs:List (κ×V),(kvs.any λz=>decide (z.1=k))=(aH kvs k).isSome
 | []=>rfl
 | p::r=>by
  rw [Up];by_cases e:p.1=k
  .simp only [i6 e,decide_eq_true e,Bool.true_or,isSome_some]
  .rw [je e,decide_eq_false e,Bool.false_or];exact rq k r
theorem tF(kvs:List (κ×V))(k:κ)(v:V):(aU kvs k v).length<=kvs.length+1:=by
 unfold aU;split
 .rw [OA];lia
 .rw [Ph,Pn,So];lia
theorem bN.aE{o:Option V}(r:bN o u):o.isSome=u.isSome:=by
 cases o with
 | none=>cases u with
  | none=>rfl
  | some _=>exact (show False from r).elim
 | some _=>cases u with
  | none=>exact (show False from r).elim
  | some _=>rfl
theorem bN.getD{o:Option V}{d:V}(r:bN o u)(z:zp d d'):zp (o.getD d) (u.getD d'):=by
 cases o with
 | none=>cases u with
  | none=>exact z
  | some _=>exact (show False from r).elim
 | some _=>cases u with
  | none=>exact (show False from r).elim
  | some _=>exact r
theorem KV.val(r:KV kvs vs)(k:κ):bN (aH kvs k) (SK vs k):=by
 unfold KV at r
 induction r with
 | nil=>exact True.intro
 | @cons p q ps F h t J =>
  obtain ⟨h1,h2⟩:=h;by_cases e:p.1=k
  .have G:q.1=k:=h1.symm.trans e;have b:SK (q::F) k=some q.2:=by simp [SK,Sq,G]
   rw [i6 e,b];exact h2
  .have G : ¬ q.1=k:=λz=>e (h1.trans z);have b:SK (q::F) k=SK F k:=by simp [SK,Sq,G]
   rw [je e,b];exact J
theorem KV.any(r:KV kvs vs)(k:κ):(kvs.any λz=>decide (z.1=k))=vs.any λz=>decide (z.1=k):=by
 unfold KV at r
 induction r with
 | nil=>rfl
 | cons h t F=>rw [Up,Up,F,h.1]
theorem KV.eT(r:KV kvs vs)(k:κ)(G:zp y u):
  KV (kvs.map λF=>if F.1=k then (F.1,y) else F) (vs.map λF=>if F.1=k then (F.1,u) else F):=by
 unfold KV at r ⊢
 induction r with
 | nil=>exact .nil
 | @cons p q ps O h t J =>
  rw [PY,PY];refine .cons ?_ J;obtain ⟨h1,h2⟩:=h;by_cases e:p.1=k
  .rw [if_pos e,if_pos (h1.symm.trans e)];exact ⟨h1,G⟩
  .rw [if_neg e,if_neg (λz=>e (h1.trans z))];exact ⟨h1,h2⟩
theorem KV.put(r:KV kvs vs)(k:κ)(z:zp y u):KV (aU kvs k y) (stored vs k u):=by
 unfold aU stored;rw [r.any k];by_cases e:(vs.any λF=>decide (F.1=k))=true
 .rw [if_pos e,if_pos e];exact r.eT k z
 .rw [if_neg e,if_neg e];exact Paired.snoc r {rfl,z}
theorem KV.length{kvs:List (κ×V)}{vs:List (κ×Value)}(r:KV kvs vs):kvs.length=vs.length:=Paired.length r
end
theorem il{k:Key}(r:zp (kV k) u):(bg P w).is k u=true:=by
 cases k with
 | inl i=>obtain ⟨t,e⟩:=(show ∃t,u=Rb i t from r);subst e;exact Dl P w i t
 | inr x=>obtain ⟨t,e⟩:=(show ∃t,u=SR x t from r);subst e;exact MO P w x t
theorem vG:∀{ks:List Key}{us:List Value},zu (ks.map kV) us->ItemsAre (bg P w) ks us
 | [],_,r=>by rw [map_nil] at r;cases r;exact .nil
 | k::ks,_,r=>by
  rw [PY] at r;cases r with
  | cons h t=>exact .cons (il h) (vG t)
abbrev KT(H:Hp):List (List Key×V)->List (List Key×Addr×Value)->Prop:=Paired λp q=>p.1=q.1/\H q.2.1=some (.tup (p.1.map kV))/\zp p.2 q.2.2
theorem KT.val(r:KT H kvs xs)(k:List Key):bN (aH kvs k) ((atKey xs k).map (·.2)):=by
 induction r with
 | nil=>exact True.intro
 | @cons p q ps F h t J =>
  obtain ⟨h1,_,h2⟩:=h;by_cases e:p.1=k
  .have G:q.1=k:=h1.symm.trans e;have b:atKey (q::F) k=some q.2:=by simp [atKey,Sq,G]
   rw [i6 e,b];exact h2
  .have G : ¬ q.1=k:=λz=>e (h1.trans z);have b:atKey (q::F) k=atKey F k:=by simp [atKey,Sq,G]
   rw [je e,b];exact J
theorem KT.eT(r:KT H kvs xs)(k:List Key)(G:zp y u):
  KT H (kvs.map λF=>if F.1=k then (F.1,y) else F) (xs.map (putAt k u)):=by
 induction r with
 | nil=>exact .nil
 | @cons p q ps O h t J =>
  rw [PY,PY];refine .cons ?_ J;obtain ⟨h1,h2,h3⟩:=h;unfold putAt;by_cases e:p.1=k
  .rw [if_pos e,if_pos (h1.symm.trans e)];exact ⟨h1,h2,G⟩
  .rw [if_neg e,if_neg (λz=>e (h1.trans z))];exact ⟨h1,h2,h3⟩
theorem KT.put(r:KT H kvs xs)(k:List Key)(G:H b=some (.tup (k.map kV)))(z:zp y u):
  KT H (aU kvs k y) (storedH xs k b u):=by
 have e:(kvs.any λF=>decide (F.1=k))=(atKey xs k).isSome:=by
  rw [rq,(r.val k).aE,isSome_map]
 unfold aU storedH;rw [e];by_cases q:(atKey xs k).isSome=true
 .rw [if_pos q,if_pos q];exact r.eT k z
 .rw [if_neg q,if_neg q];exact Paired.snoc r {rfl,G,z}
theorem KT.keeps(r:KT H kvs xs)(F:∀b ys,H b=some (.tup ys)->H' b=some (.tup ys)):KT H' kvs xs :=
 Paired.UN r λ_ _ z=>{z.1,F _ _ z.2.1,z.2.2}
section
variable {P:OF}{w:OS}{H:Hp}{h:Heap}{a:Addr}
theorem vi(ok:HOk P w H h)(e:Rd H a u):au P w H h a u:=e.ok ok
theorem dE(ok:HOk P w H h)(e:Rd H a (.dK kvs)):kvs.length<=sizeLine/\(a==sysModules)=false/\∃vs,KV kvs vs/\h.DictOf (bg P w) a vs :=
 show au P w H h a (.dK kvs) from vi ok e
theorem yA(ok:HOk P w H h)(e:H a=some (.dK kvs)):kvs.length<=sizeLine/\(a==sysModules)=false/\∃vs,KV kvs vs/\h.DictOf (bg P w) a vs:=dE ok (.inl e)
theorem iM(ok:HOk P w H h)(e:H a=some (.tup (ks.map kV))):(TM (bg P w)).is h ks a:=by
 obtain ⟨_,its,r,o,h1,h2,n,h3⟩:=(show au P w H h a (.tup (ks.map kV)) from ok a _ e);exact {o,its.toArray,n,h1,h2,h3,by simpa using vG r}
theorem hV(ok:HOk P w H h)(e:Rd H a (.dT kvs)):kvs.length<=sizeLine/\(a==sysModules)=false /\
  ∃xs,KT H kvs xs/\h.DictOfH (TM (bg P w)) a xs:=by
 obtain ⟨z,y,xs,r,o,es,ep,h1,h2,h3,h4,G⟩:=(show au P w H h a (.dT kvs) from vi ok e);refine {z,y,xs,r,o,es,ep,h1,h2,h3,h4,λx hx=>?_,G};have all:∀{l:List (List Key×V)}{m:List (List Key×Addr×Value)},KT H l m->∀x∈m,(TM (bg P w)).is h x.1 x.2.1:=by
  intro l m q
  induction q with
  | nil=>intro x hx;exact nomatch hx
  | @cons p q ps O F t J =>
   intro x hx;rcases OL.mp hx with e|hx
   .subst e;exact iM ok (by rw [<- F.1];exact F.2.1)
   .exact J x hx
 exact all r x hx
theorem J0(ok:HOk P w H h)(e:H a=some (.dT kvs)):kvs.length<=sizeLine/\(a==sysModules)=false /\
  ∃xs,KT H kvs xs/\h.DictOfH (TM (bg P w)) a xs:=hV ok (.inl e)
end
noncomputable def fz(H:Hp)(a:Addr)(y:V)(r:Option V):Prop :=
 (∃kvs k,Rd H a (.dK kvs)/\y=kV k/\r=aH kvs k)\/∃kvs k b,Rd H a (.dT kvs)/\y = .ref b/\H b=some (.tup (k.map kV))/\r=aH kvs k
noncomputable def jB(H:Hp)(a:Addr)(y v:V)(H':Hp):Prop :=
 (∃kvs k,H a=some (.dK kvs)/\y=kV k/\kvs.length<sizeLine/\H'=upd H a (.dK (aU kvs k v))) \/
 ∃kvs k b,H a=some (.dT kvs)/\y = .ref b/\H b=some (.tup (k.map kV))/\kvs.length<sizeLine/\H'=upd H a (.dT (aU kvs k v))
theorem fz.k{k:Key}(e:H a=some (.dK kvs)):fz H a (kV k) (aH kvs k):=.inl {kvs,k,.inl e,rfl,rfl}
theorem fz.t{k:List Key}(e:H a=some (.dT kvs))(z:H b=some (.tup (k.map kV))):fz H a (.ref b) (aH kvs k):=.inr {kvs,k,b,.inl e,rfl,z,rfl}
theorem jB.k{k:Key}(e:H a=some (.dK kvs))(hl:kvs.length<sizeLine):jB H a (kV k) v (upd H a (.dK (aU kvs k v))):=.inl {kvs,k,e,rfl,hl,rfl}
theorem jB.t{k:List Key}(e:H a=some (.dT kvs))(z:H b=some (.tup (k.map kV)))(hl:kvs.length<sizeLine):
  jB H a (.ref b) v (upd H a (.dT (aU kvs k v))):=.inr {kvs,k,b,e,rfl,z,hl,rfl}
section
variable {X:Cx}{Go:List (Addr×Obj)}{σ:St}{H:Hp}{s:KE}{a:Addr}{y v:V}{u r:Value}{o:Option V}{A:OQ}{E:Value->KE->Prop}
theorem CT(W:A.units+1<cLine)(I:Inv X Go σ H s)(g:fz H a y (some v))(S:zp y u)(h:∀w' s',Inv X Go σ H s'->zp v w'->Q w' s'):
  OE 'c' A (Ub (.ref a) u) Q E s:=by
 rcases g with ⟨kvs,k,e,G,l⟩|⟨kvs,k,b,e,G,U,l⟩
 .subst G;obtain ⟨z,hd,vs,O,dd⟩:=dE I.hok e;obtain ⟨w',hw,F⟩:=bN.some_of (v:=v) (o:=SK vs k) (by rw [l];exact O.val k);exact wpAny_getItem_of (il S) dd.mapOf hw (h w' _ (I.tok _) F)
 .subst G;cases (show u=OH b from S);obtain ⟨z,hd,xs,O,dd⟩:=hV I.hok e;obtain ⟨w',hw,F⟩:=bN.some_of (v:=v) (o:=(atKey xs k).map (·.2)) (by rw [l];exact O.val k);obtain ⟨p,hp,J⟩:=Pf.mp hw;refine wpAny_getItem_heap (RU W) (iM I.hok U) dd hp ?_;rw [J];exact h w' _ (I.tok _) F
theorem HK(S:A.units+1<cLine)(I:Inv X Go σ H s)(g:fz H a y o)(J:zp y u)(h:∀s',Inv X Go σ H s'->Q (.bool (!o.isSome)) s'):
  OE 'c' A (PU .NotIn u (.ref a)) Q E s:=by
 rcases g with ⟨kvs,k,e,F,l⟩|⟨kvs,k,b,e,F,O,l⟩
 .subst F;obtain ⟨z,hd,vs,G,dd⟩:=dE I.hok e;refine wpAny_notIn_of (il J) hd dd.mapOf ?_;rw [<- (G.val k).aE,<- l];exact h _ (I.tok _)
 .subst F;cases (show u=OH b from J);obtain ⟨z,hd,xs,G,dd⟩:=hV I.hok e;refine wpAny_notIn_heap (RU S) (iM I.hok O) hd dd ?_;have q:=(G.val k).aE;rw [isSome_map] at q;rw [<- q,<- l];exact h _ (I.tok _)
theorem Au(I:Inv X Go σ H s)(F:Mut (H a))(hs:Qj a s.heap h')(he:∃q,h'.get? a=some q)(new:au X.prog X.w (upd H a ob) h' a ob):
  Inv X Go σ (upd H a ob) { s with heap:=h',toks:=t' } :=
 I.write (x:=a) (e:=a) F (.inl rfl) (λb q G z=>(hs.2 b G).trans z) he new
theorem wL(z:kvs.length<=sizeLine)(hd:(a==sysModules)=false)(F:KV kvs vs)(dd:h'.DictOf (bg P w) a vs):
  au P w H' h' a (.dK kvs):=⟨z,hd,vs,F,dd⟩
theorem MH(hu:A.units+1<cLine)(I:Inv X Go σ H s)(g:jB H a y v H')(U:zp y u)(W:zp v r)(h:∀s',Inv X Go σ H' s'->Q () s'):
  OE 'c' A (setItem (.ref a) u r) Q E s:=by
 rcases g with ⟨kvs,k,e,S,l,O⟩|⟨kvs,k,b,e,S,Z,l,O⟩
 .subst S O;obtain ⟨z,hd,vs,G,dd⟩:=yA I.hok e;have hz:vs.length<=sizeLine:=by rw [<- G.length];exact z
  have hl:(aU kvs k v).length<=sizeLine:=by have:=tF kvs k v;lia
  refine wpAny_setItem_pairs (hsz:=hz) (il U) dd λh' F hs=>h _ ?_;have he:∃q,h'.get? a=some q:=let ⟨q,_,_,J,_⟩:=F;⟨q,J⟩;exact Au I (by rw [e];exact True.intro) hs he (wL hl hd (G.put k W) F)
 .subst S O;cases (show u=OH b from U);obtain ⟨z,hd,xs,G,dd⟩:=J0 I.hok e;have hz:xs.length<=sizeLine:=by rw [<- Paired.length G];exact z
  have hl:(aU kvs k v).length<=sizeLine:=by have:=tF kvs k v;lia
  refine wpAny_setItem_heap (hsz:=hz) (RU hu) (iM I.hok Z) dd λh' F hs=>h _ ?_;obtain ⟨q,es,ep,J,h2,h3,h4,_,h5⟩:=F;refine Au I (by rw [e];exact True.intro) hs ⟨q,J⟩ {hl,hd,_,(G.put k Z W).keeps λc ys ec=>?_,q,es,ep,J,h2,h3,h4,h5};rw [zg (NX ec e (λz=>nomatch z))];exact ec
end
theorem AF{o:Option V}(I:Inv X Go σ H s)(g:fz H a y o):s.TypeIs (.ref a) "dict":=by
 rcases g with ⟨kvs,k,e,_,_⟩|⟨kvs,k,b,e,_,_,_⟩
 .obtain ⟨_,_,vs,_,dd⟩:=dE I.hok e;exact dd.typeIs
 .obtain ⟨_,_,xs,_,dd⟩:=hV I.hok e;exact dd.typeIs
structure M2(X:Cx)(o:OU)(m:Str)(ZZ:Pos)(e f:OU)(cpos:Pos):Prop where
 base:Qs o m X.env (PH o X.env)=PH o X.env
 few:((Qz cpos (OV [e,f] X.env)).all (λx=>!x.1)&&(SC cpos (Rc [] X.env)).all (λx=>x.1.isSome)
  && decide (([e,f]:List OU).length+([]:List Keyword).length+(if ([]:List Keyword).isEmpty then 0 else 1)<30))=true
 line:(ZZ.endLine==cpos.line)=true
 trees:Qz cpos (OV [e,f] X.env)=[(false,PH e X.env),(false,PH f X.env)]
def IsD(H:Hp)(a:Addr):Prop:=(∃kvs,Rd H a (.dK kvs))\/∃kvs,Rd H a (.dT kvs)
theorem uP(I:Inv X Go σ H s)(d:IsD H a):
  s.TypeIs (.ref a) "dict"/\(∀b,OH a = .ref b->∃ob,s.heap.get? b=some ob/\ob.dict=none)/\(a==sysModules)=false:=by
 rcases d with ⟨kvs,e⟩|⟨kvs,e⟩
 .obtain ⟨_,hd,vs,_,dd⟩:=dE I.hok e;refine {dd.typeIs,λb q=>?_,hd};cases q;obtain ⟨ob,_,_,h1,h2,_⟩:=dd;exact ⟨ob,h1,h2.2.1⟩
 .obtain ⟨_,hd,xs,_,dd⟩:=hV I.hok e;refine {dd.typeIs,λb q=>?_,hd};cases q;obtain ⟨ob,_,_,h1,h2,_⟩:=dd;exact ⟨ob,h1,h2.2.1⟩
section
variable {X:Cx}{Go:List (Addr×Obj)}{σ:St}{H:Hp}{s:KE}{a:Addr}{y d:V}{u r:Value}{o:Option V}{A:OQ}{E:Value->KE->Prop}
theorem JN(W:A.units+1<cLine)(I:Inv X Go σ H s)(g:fz H a y o)(O:zp y u)(S:zp d r)(h:∀w' s',Inv X Go σ H s'->zp (o.getD d) w'->Q w' s'):
  OE 'c' A (call (.builtin "dict.get") [.ref a,u,r]) Q E s:=by
 rcases g with ⟨kvs,k,e,G,l⟩|⟨kvs,k,b,e,G,U,l⟩
 .subst G;obtain ⟨z,hd,vs,J,dd⟩:=dE I.hok e;refine call_meetsIn slot_dict_get dd.typeIs PySem.F.entry_dict_get (TZ _ _ _) (meets_dict_get_default (bg X.prog X.w) a (il O) hd r) {_,dd.mapOf,h _ _ (I.tok _) ?_};rw [l];exact (J.val k).getD S
 .subst G;cases (show u=OH b from O);obtain ⟨z,hd,xs,J,dd⟩:=hV I.hok e;refine call_meetsIn slot_dict_get dd.typeIs PySem.F.entry_dict_get (TZ _ _ _) (meetsH_dict_get_default (TM (bg X.prog X.w)) a b hd r) {RU W,k,xs,iM I.hok U,dd,h _ _ (I.tok _) ?_};rw [l];exact (J.val k).getD S
end
section
variable {X:Cx}{Go:List (Addr×Obj)}{σ:St}{H:Hp}{s:KE}{a:Addr}{kvs:List (Key×V)}{A:OQ}{E:Value->KE->Prop}
theorem MG(I:Inv X Go σ H s)(e:Rd H a (.dK kvs))(h:∀p s',H p=none->Inv X Go σ (upd H p (.dK kvs)) s'->Q (.ref p) s'):OE 'c' A (call (.type "dict") [.ref a]) Q E s:=by
 obtain ⟨z,hd,vs,G,dd⟩:=dE I.hok e;refine kt_call_dict hd dd (by rw [<- G.length];exact z) λh' F hs=>?_;refine h _ _ (I.hok.fresh (Ov _)) (I.laid (a:=s.heap.objs.size) (o:=.dK kvs) (t':=s.toks) (λb q J=>?_) (Ov _) (wL z (beq_eq_false_iff_ne.mpr (Pd (Pe I.big))) G F));exact (hs.2 b (Pe (OX J))).trans (Ou _ J)
end
section
variable {X:Cx}{Go:List (Addr×Obj)}{σ:St}{H:Hp}{s:KE}{a:Addr}{o:Obj}{kvs:List (Key×V)}
theorem Inv.swap(I:Inv X Go σ H s)(e:H a=some o1)(h1:∀x,o1≠.own x)(h2:∀xs,o1≠.tup xs)(h3:∀ob,o1≠.frz ob (.own 0))(h4:∀ps,o1≠.tbl ps)(U:∀ob u,X.H₀ a≠some (.frz ob u))(new:∀H',au X.prog X.w H' s.heap a J):Inv X Go σ (upd H a J) s:=by
 have ne:∀b,H b=none->b≠a:=λb n z=>by subst z;rw [e] at n;cases n
 have G:∀b,H b=none->upd H a J b=none:=λb n=>by rw [zg (ne b n)];exact n
 refine {I.ok,I.os,I.bare,{I.base.keep,I.base.slot,λb ob q n hx=>G b (I.base.free b ob q n hx),I.base.there,λb xs q=>?_,λb ob u q=>?_,λb ps q=>?_},I.loc,I.cell,G _ I.free,λx c q=>G c (I.Uz x c q),λp hp=>?_,λb u q=>?_,I.len,?_}
 .have z:=I.base.tups b xs q;rw [zg (λy=>by subst y;rw [e] at z;cases z;exact h2 _ rfl)];exact z
 .by_cases F:b=a
  .subst F;exact absurd q (U ob u)
  .rw [zg F];exact I.base.frzs b ob u q
 .obtain ⟨more,z⟩:=I.base.tbls b ps q;exact {more,by rw [zg (λy=>by subst y;rw [e] at z;cases z;exact h4 _ rfl)];exact z}
 .obtain ⟨W,p2,S⟩:=I.pin p hp;exact {W,G _ p2,S}
 .by_cases F:b=a
  .subst F;rw [zt] at q;cases q;exact new _
  .rw [zg F] at q;exact (I.hok b u q).Vc (λc z _ y=>y) (λc z=>by rw [zg (λy=>by subst y;rw [e] at z;cases z;exact h1 _ rfl)];exact z) (λc xs z=>by rw [zg (λy=>by subst y;rw [e] at z;cases z;exact h2 _ rfl)];exact z)
 .exact I.hdk.eP λb ob O=>by rw [zg (λy=>by subst y;rw [e] at O;cases O;exact h3 _ rfl)];exact O
theorem Inv.freeze(I:Inv X Go σ H s)(e:H a=some (.dK kvs)):(∀ob u,X.H₀ a≠some (.frz ob u))/\∃o,Inv X Go σ (upd H a (.frz o (.dK kvs))) s:=by
 have F:∀ob u,X.H₀ a≠some (.frz ob u):=λob u q=>by
  have z:=I.base.frzs a ob u q;rw [e] at z;cases z
 refine {F,?_};obtain ⟨z,hd,vs,G,dd⟩:=yA I.hok e;obtain ⟨o,es,ep,J,r⟩:=id dd;exact {o,I.swap e (λ_ q=>nomatch q) (λ_ q=>nomatch q) (λ_ q=>nomatch q) (λ_ q=>nomatch q) F λH'=>⟨J,z,hd,vs,G,dd⟩}
theorem Inv.eH(I:Inv X Go σ H s)(e:H a=some (.frz o (.dK kvs)))(F:∀ob u,X.H₀ a≠some (.frz ob u)):Inv X Go σ (upd H a (.dK kvs)) s:=by
 obtain ⟨G,z⟩:=I.hok a _ e;exact I.swap e (λ_ q=>nomatch q) (λ_ q=>nomatch q) (λ_ q=>by injection q with _ q;cases q) (λ_ q=>nomatch q) F λH'=>z
end
def kN(a:Addr)(kvs:List (Key×V))(H:Hp)(R:Hp->Prop):Prop:=∃o,H a=some (.frz o (.dK kvs))/\R (upd H a (.dK kvs))
def ug(t:TE):TE:=λσ H Q=>∃a kvs,H a=some (.dK kvs)/\∀o,t σ (upd H a (.frz o (.dK kvs))) λv H'=>kN a kvs H' (Q v)
theorem B1{t:TE}(h:W (PE X e t)):W (PE X e (ug t)):=by
 refine {?_};have h:=h.h;rintro Go s σ H Q I ⟨a,kvs,e,q⟩;obtain ⟨F,o,G⟩:=I.freeze e;refine thn (h Go s σ _ _ G (q o)) λu s' z=>?_;obtain ⟨v,H',O,r,o',J,d⟩:=z;exact {v,_,O.eH J F,r,d}
theorem KV.at(r:KV kvs vs):∀{i:Nat}{p:Key×V},kvs[i]?=some p->∃u,vs[i]?=some (p.1,u)/\zp p.2 u:=by
 induction r with
 | nil=>intro i p h;simp at h
 | @cons x y l m r t z =>
  intro i p h;cases i with
  | zero =>
   have e:x=p:=by simpa using h
   subst e;exact {y.2,by rw [r.1];rfl,r.2}
  | succ i=>exact z (by simpa using h)
def Itw(a:Addr)(o:Obj)(kvs:List (Key×V)):It:={λi H=>H a=some (.frz o (.dK kvs))/\i<kvs.length,λi H x H'=>H'=H/\∃p,kvs[i]?=some p/\x=p.2,λi H=>H a=some (.frz o (.dK kvs))/\kvs.length<=i}
theorem pU{o:Obj}(I:Inv X Go σ H s)(e:H a=some (.frz o (.dK kvs)))(hd:o.data = .dict es ep):
  (a==sysModules)=false/\∃vs,KV kvs vs/\s.heap.DictAt (bg X.prog X.w) a vs ep/\vs.length=kvs.length:=by
 obtain ⟨J,z,W,vs,O,o',Z,S,G,U,F,r⟩:=I.hok a _ e;rw [J] at G;cases G;rw [hd] at F;cases F;exact {W,vs,O,⟨o,es,J,U,hd,r⟩,O.length.symm}
theorem GA{o:Obj}(I:Inv X Go σ H s)(e:H a=some (.frz o (.dK kvs))):∃es ep,o.data = .dict es ep:=by
 obtain ⟨O,z,Z,vs,W,o',S,J,G,U,F,r⟩:=I.hok a _ e;rw [O] at G;cases G;exact {_,_,F}
theorem MV{P:OF}{w:OS}{K:Ow}{tg:OU}(a it:Addr){o:Obj}{kvs:List (Key×V)}{es:Array DictEntry}{ep:Nat}(hd:o.data = .dict es ep):fk true P w K tg (Itw a o kvs) [it] it (λi h=>h.IsValIter it a i kvs.length ep) where
 mem:=by simp
 obj:=λi h st b F=>by
  have e:b=it:=by simpa using F
  subst e;obtain ⟨o,e,c,d⟩:=st;exact {o,e,λv z=>by rw [d] at z;cases z}
 keep:=λi h h' st k=>st.at λo e=>k it 'z' o e
 item:=by
  intro X hP hw J hc i Go s σ H E I hf st Z;subst hP hw J;obtain ⟨U,hi⟩:=Z;obtain ⟨hm,vs,Y1,dd,hl⟩:=pU I U hd;obtain ⟨p,hp⟩:∃p,kvs[i]?=some p:={kvs[i],by simp [hi]};obtain ⟨u,hu,ru⟩:=Y1.at hp;obtain ⟨f0,S,f2,f3,W,G⟩:=hf it 'z';rw [<- hl] at st;refine wpAny_pyNext_values_item st dd hu λh' O sb=>?_;rw [hl] at O;have I1:Inv X Go σ H { s with heap:=h' }:=I.turned (t':=s.toks) (λb o F e=>(sb.2 b F).trans e) f0 S f3 W G;obtain ⟨o,e,c,d⟩:=id O;exact {u,rfl,iW (s:={ s with heap:=h' }) e c d 'd' {p.2,H,I1,ru,{rfl,p,hp,rfl},O,λb F=>(hf b F).1}}
 done:=by
  intro X hP hw J hc i Go s σ H E I hf st Z;subst hP hw J;obtain ⟨U,hi⟩:=Z;obtain ⟨hm,vs,Y1,dd,hl⟩:=pU I U hd;obtain ⟨f0,S,f2,f3,W,G⟩:=hf it 'z';rw [<- hl] at st;exact wpAny_pyNext_values_end (I.ok.hd (hc rfl)) st dd (Q0 'l') λh' eb=>{rfl,I.turned (t':=s.toks) (λb o F e=>eb b o F e) f0 S f3 W G}
 self:=λ_ _ _ _ _ st h=>wpAny_pyIter_valiter st h
section
variable {X:Cx}{tg:OU}
def m8(tl:TE):TI:=λσ H R=>tl σ H λx H1=>∃a o kvs,x = .ref a/\H1 a=some (.frz o (.dK kvs))/\R (Itw a o kvs) H1
theorem Ab(J:W (PE X l tl))(Z:Qs l "values" X.env (PH l X.env)=PH l X.env:=by rfl)(Za:(ZZ.endLine==cpos.line)=true:=by rfl):W (PI X tg (.Call (.Attribute l "values" ZZ) [] [] cpos) (m8 tl)):=by
 refine {?_};have J:=J.h;intro Go s σ H R I h;refine wpAny_Call_method0_late Z Za (thn (J Go s σ H _ I h) λv s1=>x5e λx H1 z r1 U=>?_);obtain ⟨a,o,kvs,ex,O,q⟩:=U;subst ex;cases r1;obtain ⟨es,ep,hd⟩:=GA z O;obtain ⟨hm,vs,Y1,dd,hl⟩:=pU z O hd;obtain ⟨t1,t2,_⟩:=uP z (.inl {kvs,.inr ⟨o,O⟩});refine {"dict","dict.values",TX,Tz,PySem.F.type_dict_values,t1,t2,Calls.callWith_builtin rfl (PySem.evalArgs_none ?_)};refine call_meetsIn Tz dd.dictOf.typeIs PySem.F.entry_dict_values (PySem.F.args_dict_values_1 _) (meets_dict_values (bg X.prog X.w) a hm) {⟨vs,dd.dictOf⟩,?_};have hv:(s1.heap.push { cls:=.type "dict_values",data:=.fields #[.ref a] }).IsValuesView s1.heap.objs.size a:={_,ON _ rfl,rfl,rfl};refine wpAny_pyIter_values (s:={ s1 with heap:=s1.heap.push { cls:=.type "dict_values",data:=.fields #[.ref a] } }) hv (dd.push _) ?_;rw [hl];have G:Inv X Go σ H1 { s1 with heap:=s1.heap.push { cls:=.type "dict_values",data:=.fields #[.ref a] } }:=z.kept (t':=s1.toks) λb o e=>Ou _ e;refine {_,[_],_,_,H1,rfl,G.kept (t':=s1.toks) λb o e=>Ou _ e,MV a _ hd,{_,ON _ rfl,rfl,rfl},λb S=>?_,q};have e:=O3.mp S;subst e;exact G.a7 (Ov _) (G.hok.fresh (Ov _))
end
def uK(y:V)(q:Key->Prop):Prop:=∃k,y=kV k/\q k
theorem Ea:uK (.str z) q=q (.inr z):=by
 apply propext;constructor
 .rintro ⟨k,e,h⟩;cases k with
  | inl i=>cases e
  | inr x=>cases e;exact h
 .exact λh=>{.inr z,rfl,h}
theorem BM:uK (.int i) q=q (.inl i):=by
 apply propext;constructor
 .rintro ⟨k,e,h⟩;cases k with
  | inl i=>cases e;exact h
  | inr x=>cases e
 .exact λh=>{.inl i,rfl,h}
section
variable {X:Cx}
noncomputable def rR:R2:=λx y H Q=>∃a k kvs v,x = .ref a/\y=kV k/\Rd H a (.dK kvs)/\aH kvs k=some v/\Q v H
theorem mH(S:X.A.units+1<cLine):IxR X rR:=by
 intro Zt W Go s σ H x y v u Q I rx J h hs;obtain ⟨a,k,kvs,z,rfl,rfl,Z,he,q⟩:=h;obtain rfl:v=OH a:=rx;have g:fz H a (kV k) (some z):=.inl {kvs,k,Z,rfl,he.symm};unfold subscriptTail;refine we ?_;rw [getitemInPython_of_ne (AF I g).not_modules];refine we (wpAny_specialOf (AF I g) PySem.F.slot_dict_getitem.lookup ?_);have G:OE 'c' X.A (subscripted W false (.ref a) u) (λr s₃=>OE 'c' X.A (letTemporaryGo Zt (.ref a) r>>=λ_=>pure r) (EP X Go σ Q) X.xe s₃) X.xe s:=by
  rw [hs];exact wpAny_operating (CT S I g J λw' s3 U O=>we (wpAny_letTemporaryGo (Ot ⟨z,H,U,O,q⟩)))
 first
  | exact Ot (we G)
  | exact we (Ot (we G))
  | exact we G
noncomputable def oY(c:Bool):R2:=λy x H Q=>∃a k kvs,x = .ref a/\y=kV k/\Rd H a (.dK kvs)/\Q (.bl (if c then !(aH kvs k).isSome else (aH kvs k).isSome)) H
theorem v8(F:X.A.units+1<cLine):OpR X (PU .NotIn) (oY true):=by
 intro Go s σ H x y v u Q I O z h;obtain ⟨a,k,kvs,rfl,rfl,J,q⟩:=h;obtain rfl:u=OH a:=z;exact HK F I (.inl {kvs,k,J,rfl,rfl}) O λS G=>{.bl (!(aH kvs k).isSome),H,G,rfl,q}
theorem NC{p:Addr}:oY c (.str x) (.ref p) H Q = ∃kvs,Rd H p (.dK kvs)/\Q (.bl (if c then !(aH kvs (.inr x)).isSome else (aH kvs (.inr x)).isSome)) H:=by
 apply propext;constructor
 .rintro ⟨a,k,kvs,F,z,h,q⟩;cases F;cases k with
  | inl i=>cases z
  | inr x=>cases z;exact ⟨kvs,h,q⟩
 .rintro ⟨kvs,h,q⟩;exact {p,.inr x,kvs,rfl,rfl,h,q}
noncomputable def lY:V->V->V->Hp->(Hp->Prop)->Prop:=λo i v H Q=>oJ o i v H Q\/∃a k kvs,o = .ref a/\i=kV k/\H a=some (.dK kvs)/\kvs.length<sizeLine/\Q (upd H a (.dK (aU kvs k v)))
theorem wN(O:X.A.units+1<cLine):o7 X lY:=by
 intro Go s σ H o i v G U u Q I J z F h;rcases h with h|⟨a,k,kvs,rfl,rfl,e,l,q⟩
 .exact lA Go s σ H o i v G U u Q I J z F h
 .obtain rfl:G=OH a:=J;exact MH O I (.inl {kvs,k,e,rfl,l,rfl}) z F λs' S=>{_,S,q}
theorem EM:lY (.ref a) (.str z) v H Q = ∃kvs,H a=some (.dK kvs)/\kvs.length<sizeLine/\Q (upd H a (.dK (aU kvs (.inr z) v))):=by
 apply propext;constructor
 .rintro (⟨_,_,_,_,_,e,_⟩|⟨J,k,kvs,G,F,h,l,q⟩)
  .cases e
  .cases G;cases k with
   | inl i=>cases F
   | inr x=>cases F;exact ⟨kvs,h,l,q⟩
 .rintro ⟨kvs,h,l,q⟩;exact .inr {a,.inr z,kvs,rfl,rfl,h,l,q}
theorem EJ:lY (.ref a) (.int i) v H Q=((∃xs j,H a=some (.lst xs)/\ixN xs.length i=some j/\Q (upd H a (.lst (xs.set j v))))\/∃kvs,H a=some (.dK kvs)/\kvs.length<sizeLine/\Q (upd H a (.dK (aU kvs (.inl i) v)))):=by
 apply propext;unfold lY;rw [AV];constructor
 .rintro (h|⟨G,k,kvs,F,z,h,l,q⟩)
  .exact .inl h
  .cases F;cases k with
   | inl i=>cases z;exact .inr ⟨kvs,h,l,q⟩
   | inr x=>cases z
 .rintro (h|⟨kvs,h,l,q⟩)
  .exact .inl h
  .exact .inr {a,.inl i,kvs,rfl,rfl,h,l,q}
noncomputable def tW(td ty tx:TE):TE:=λσ H Q=>td σ H λx H1=>uR x λa=>(∃kvs,Rd H1 a (.dK kvs))/\ty σ H1 λy H2=>tx σ H2 λz H3=>uK y λk=>∃kvs,Rd H3 a (.dK kvs)/\Q ((aH kvs k).getD z) H3
theorem Gy{td ty tx:TE}:tW td ty tx σ H Q=td σ H λx H1=>uR x λa=>(∃kvs,Rd H1 a (.dK kvs))/\ty σ H1 λy H2=>tx σ H2 λz H3=>uK y λk=>∃kvs,Rd H3 a (.dK kvs)/\Q ((aH kvs k).getD z) H3:=rfl
theorem y7{o e f:OU}{td ty tx:TE}(hu:X.A.units+1<cLine)(J:W (PE X o td))(he:W (PE X e ty))(hf:W (PE X f tx))(m:M2 X o "get" ZZ e f cpos:=by exact {rfl,rfl,rfl,rfl}):W (PE X (.Call (.Attribute o "get" ZZ) [e,f] [] cpos) (tW td ty tx)):=by
 refine {?_};have J:=J.h;have he:=he.h;have hf:=hf.h;intro Go s σ H Q I h;refine wpAny_Call_method m.base m.few m.line TX slot_dict_get PySem.F.type_dict_get (thn (J Go s σ H _ I h) λu s1=>x5e λx H1 O rx XF=>?_);obtain ⟨a,ex,d,q1⟩:=XF;subst ex;obtain rfl:u=OH a:=rx;obtain ⟨t1,t2,_⟩:=uP O (.inl d);refine {t1,t2,?_};rw [m.trees];refine Calls.callWith_builtin rfl (Calls.evalArgs_plain (Calls.spliced_cons (thn (he Go s1 σ H1 _ O q1) λiv s2=>x5e λy H2 Z ry q2 =>
  Calls.spliced_cons (thn (hf Go s2 σ H2 _ Z q2) λfv s3=>x5e λz H3 I3 U G=>Calls.spliced_nil ?_))))
 obtain ⟨k,ey,kvs,g,S⟩:=G;subst ey;exact JN hu I3 (.inl {kvs,k,g,rfl,rfl}) ry U λw' s4 I4 W7=>{_,H3,I4,W7,S}
end
end L2
namespace L2
open PySem PySem.Spec PyProof.Rows PySem.W PySem.Calls
def leS(a b:Str):Prop:=ltCps b.cps.toList a.cps.toList=false
theorem v5(h1:leS a b)(h2:leS b a):a=b:=by
 unfold leS at h1 h2;rw [ltCps_eq] at h1 h2;exact iN (Q5.total a.cps.toList b.cps.toList h2 h1)
theorem Ao:∀{l:List Str},sortedS l=true->l.Pairwise leS:=by
 have S:∀(r:List Str)(x:Str),risingS x r=true->(x::r).Pairwise leS:=by
  intro r
  induction r with
  | nil=>intro x _;simp
  | cons y r U =>
   intro x h;have h':(!ltCps y.cps.toList x.cps.toList&&risingS y r)=true:=h;rw [O1,T7] at h';have F:=U y h'.2;refine PX.mpr {λz hz=>?_,F};rcases OL.mp hz with rfl|hz
   .exact h'.1
   .have G:=(PX.mp F).1 z hz;unfold leS at G ⊢;have J:=h'.1;rw [ltCps_eq] at G J ⊢;exact KeyOrd.kle_trans (O:=Q5.toKeyOrd) J G
 intro l h;cases l with
 | nil=>exact .nil
 | cons x r=>exact S r x h
theorem sG:∀{l m:List Str},l.Perm m->l.Pairwise leS->m.Pairwise leS->l=m
 | [],m,p,_,_=>(Uj.nil_eq p)
 | x::l,[],p,_,_=>absurd p.length_eq 'z'
 | x::l,y::m,p,hl,z=>by
  have e:x=y:=by
   have h1:x∈y::m:=p.mem_iff.mp (OI ..);have h2:y∈x::l:=p.mem_iff.mpr (OI ..);rcases OL.mp h1 with e|h1
   .exact e
   .rcases OL.mp h2 with e|h2
    .exact e.symm
    .exact v5 ((PX.mp hl).1 y h2) ((PX.mp z).1 x h1)
  subst e;rw [sG ((List.perm_cons x).mp p) (PX.mp hl).2 (PX.mp z).2]
open Classical in
noncomputable def zF(ks:List Str):List Str:=if h:∃z:List Str,z.Perm ks/\sortedS z=true then h.choose else ks
theorem xX(p:z.Perm ks)(h:sortedS z=true):z=zF ks:=by
 have ex:∃z:List Str,z.Perm ks/\sortedS z=true:=⟨z,p,h⟩;unfold zF;rw [dif_pos ex];exact sG (p.trans ex.choose_spec.1.symm) (Ao h) (Ao ex.choose_spec.2)
section
variable {X:Cx}
def u9:List V->Hp->VK->Prop:=λxs H Q=>uR1 xs λa=>∃kvs,Rd H a (.dK kvs)/\∀p H2,New H p (.dK kvs) H2->Q (.ref p) H2
theorem FO:u9 [.ref a] H Q = ∃kvs,Rd H a (.dK kvs)/\∀p H2,New H p (.dK kvs) H2->Q (.ref p) H2:=iB
theorem vn:zY X (.type "dict") u9:=by
 intro Go s σ H xs us Q I r h;obtain ⟨a,rfl,kvs,ha,q⟩:=h;obtain ⟨u,rfl,F⟩:=cT r;cases F;exact MG I ha λp s' z G=>{.ref p,_,G,rfl,q _ _ (.mk' z)}
def sk(kvs:List (Str×V)):List (Key×V):=kvs.map λp=>(.inr p.1,p.2)
def yK:List V->Hp->VK->Prop:=λxs H Q=>uR1 xs λa=>∃kvs:List (Str×V),Rd H a (.dK (sk kvs))/\kvs.length<64/\∀p H2,New H p (.lst ((zF (kvs.map (·.1))).map V.str)) H2->Q (.ref p) H2
theorem Jx:yK [.ref a] H Q = ∃kvs:List (Str×V),Rd H a (.dK (sk kvs))/\kvs.length<64/\∀p H2,New H p (.lst ((zF (kvs.map (·.1))).map V.str)) H2->Q (.ref p) H2:=iB
theorem vo:∀{vs:List Value}{z:List Str},vs.length=z.length->(∀(j:Nat)(v:Value),vs[j]?=some v->∃t,v=SR (z.getD j "") t)->StrsAre vs z
 | [],[],_,_=>.nil
 | [],_::_,h,_=>absurd h 'z'
 | _::_,[],h,_=>absurd h 'z'
 | v::vs,x::z,h,f=>by
  obtain ⟨t,e⟩:=f 0 v rfl;have G:v=SR x t:=e;rw [G];exact .cons x t (vo (by simpa using h) λj u F=>f (j+1) u F)
theorem xN:∀{vs:List Value}{z:List Str},StrsAre vs z->zu (z.map V.str) vs
 | _,_,.nil=>.nil
 | _,_,.cons x t h=>.cons {t,rfl} (xN h)
theorem xE(hc:X.calm=true):zY X (.builtin "sorted") yK:=by
 intro Go s σ H xs us Q I r h;obtain ⟨a,rfl,kvs,hq,U,q⟩:=h;obtain ⟨u,rfl,ru⟩:=cT r;cases ru;obtain ⟨z,hd,vs,Y1,dd⟩:=dE I.hok hq;obtain ⟨ep,ai⟩:=dd.dictAt;have ZO:vs.length=kvs.length:=by rw [<- Y1.length];simp [sk]
 refine call_function_entry kind_sorted plain_sorted entry_sorted (args_sorted1 _) ?_;unfold OO.«sorted»
 refine we (m:=checkCount "sorted" 1 1 _) (Ot ?_);refine we (kdu_collect (A:=X.A.in1) (kdl_dict (knd:=bg X.prog X.w) (kvs:=vs) (ep:=ep) hd) (I.ok.hd hc) ai (by rw [ZO,Qc];lia) λh' tk Z1 O Y6=>?_);have hl:Z1.toList.length=kvs.length:=by rw [Qm,<- ZO];exact Y6.1
 have W:StrsAre Z1.toList (kvs.map (·.1)):=vo (by rw [hl,OA]) λj v hv=>by
  obtain ⟨k,x,hx,O⟩:=Y6.2 j v (by rw [<- Qf];exact hv);have hj:j<vs.length:=(OJ.mp hx).1;have F:j<kvs.length:=by lia
  have J:(sk kvs)[j]?=some (.inr kvs[j].1,kvs[j].2):=by simp [sk,F]
  obtain ⟨u',G,_⟩:=Y1.at J;rw [hx] at G;cases G;rcases dz (show fU (Sum.inr kvs[j].1) v=true from O) with ⟨i,t,e1,J⟩|⟨y,t,e1,J⟩
  .cases e1
  .cases e1;exact {t,by rw [J,O5,O0,Os F];rfl}
 have I1:Inv X Go σ H { s with heap:=h',toks:=tk }:=I.kept O;refine we (Tr ?_ (by rw [hl,Qc];lia));have Z:(h'.push (T5 "list" Z1.toList.toArray 0)).get? h'.objs.size=some (T5 "list" Z1.toList.toArray 0):=ON _ rfl;refine we (OT (PF slot_list_sort {_,Z,rfl} entry_list_sort (list_sort_treeK strKind_oneLt Z W.keysOf (λav ax YD e=>keyKind_strs (by rw [<- e];exact W)) (by rw [hl];exact U) λYk a1 a2=>{_,rfl,?_}) (args_list_sort _)));obtain ⟨aI,b1,b2,b3⟩:=sorted_out_str W a1 a2;have e3:=xX b2 b3;subst e3;obtain ⟨c,S⟩:=sortedHeap_at (vs:=Z1.toList) (out:=(arrOf Yk).map (·.2)) Z;refine Ot {_,rfl,.ref h'.objs.size,upd H h'.objs.size (.lst ((zF (kvs.map (·.1))).map V.str)),I1.laid (a:=h'.objs.size) (t':=tk) (λb o e=>?_) (Ov _) {?_,((arrOf Yk).map (·.2)).toList,c,xN b1,by rw [SF];exact S},rfl,q _ _ (.mk' (I1.hok.fresh (Ov _)))}
 .have hb:b<h'.objs.size:=OX e;rw [sortedHeap_old (Pe hb) (by rw [Sj];exact Rr hb)];exact Ou _ e
 .have:=b2.length_eq;rw [OA,this,OA,Qc];lia
end
end L2
namespace HT
open PySem PySem.Spec PyProof.Rows PySem.Calls
section
variable {prog:OF}{w:OS}{A:OQ}{E:Value->KE->Prop}{s:KE}
theorem getItem_tuple_whole{t sl:Addr}{lo hi:Option Int}(z:IsTup s.heap t items)(hs:s.heap.IsSliceOf sl U S .none)(pl:S7 U lo)(pu:S7 S hi)(h0:sIx items.size 0 lo=0)(h1:sIx items.size items.size hi=items.size)(h:Q (.ref t) s):OE (OK prog w) A (Ub (.ref t) (.ref sl)) Q E s:=by
 obtain ⟨os,G,J,ai⟩:=id hs;have O:s.TypeIs (.ref sl) "slice":=⟨os,G,J⟩;unfold Ub
 try with_reducible refine OT ?_
 first|refine we (Ot ?_)|skip
 refine we (wpAny_sequenceKey z.typeIs 'd' ?_);refine we (Qp (name:=Ox "__getitem__") z.typeIs PQ
  (PF PQ z.typeIs entry_tuple_getitem ?_ (args_tuple_getitem _ _)))
 show OE _ _ (OO.Tuple.tupleItemsOf (.ref t)>>=_) _ _ s;refine we (tupleItemsOf_ z ?_);refine we (R4 O ?_);rw [if_pos 'd'];refine we (vD hs pl pu ?_);have F:(((sIx items.size 0 lo:Nat):Int)==0&&(1:Int)==1&&(sIx items.size items.size hi-sIx items.size 0 lo)==items.size)=true:=by
  rw [h0,h1];simp
 show OE _ _ (if (((sIx items.size 0 lo:Nat):Int)==0&&(1:Int)==1&&(sIx items.size items.size hi-sIx items.size 0 lo)==items.size)=true then _ else _) _ _ s;rw [if_pos F];have Yj:∀{R:Bool->KE->Prop}{W:OQ}{Z:Value->KE->Prop},R true s->OE (OK prog w) W (OO.Tuple.tupleIsExact (.ref t)) R Z s:=λ{R W Z} hr=>by
  unfold OO.Tuple.tupleIsExact
  first
   | exact we (R4 z.typeIs (Ot hr))
   | exact wpAny_map (R4 z.typeIs hr)
 refine we (Yj ?_)
 first
  | exact we (QW (we (Ot (Ot ⟨_,rfl,Ot h⟩))))
  | exact we (QW (Ot ⟨_,rfl,Ot h⟩))
  | exact we (QW (we (Ot ⟨_,rfl,Ot h⟩)))
end
end HT
namespace L2
open PySem PySem.Spec PyProof.Rows PySem.W PySem.Calls
section
variable {X:Cx}
noncomputable def iK:V->Option Int->Option Int->Hp->VK->Prop:=λx lo hi H Q=>uSl x lo hi H Q\/∃a xs,x = .ref a/\H a=some (.tup xs)/\∀p H2,zj H H2->H2 p=some (.tup (bX xs lo hi))->Q (.ref p) H2
theorem AK:SlR X iK:=by
 intro Go s σ H x v J G lo hi sl Q I z hs pl F h;rcases h with h|⟨a,xs,rfl,hx,q⟩
 .exact lK Go s σ H x v J G lo hi sl Q I z hs pl F h
 .by_cases hw:HT.sIx xs.length 0 lo=0/\HT.sIx xs.length xs.length hi=xs.length
  .cases z;obtain ⟨its,r,S,hz⟩:=I.tuple (SqT.of hx);have O:its.toArray.size=xs.length:=by rw [OR];exact r.length.symm
   refine {"tuple",_,PQ.lookup,S.typeIs,?_};refine HT.getItem_tuple_whole S hs pl F (by rw [O];exact hw.1) (by rw [O];exact hw.2) {.ref a,H,I,rfl,q a H (zj.refl _) ?_};rw [hx];unfold bX;rw [hw.1,hw.2];simp
  .exact Fm Go s σ H _ v J G lo hi sl Q I z hs pl F {a,xs,rfl,SqT.of hx,hw,λp hp=>q p _ (New.mk' (o:=.tup (bX xs lo hi)) hp).same zt}
theorem Kn{lo hi:Option Int}:iK (.str z) lo hi H Q=(z.length<=sizeLine/\Q (.str (Txt.slice z lo hi)) H):=by simp [iK,xB]
theorem K4{lo hi:Option Int}:iK (.ref a) lo hi H Q=((∃xs,H a=some (.lst xs)/\∀p H2,New H p (.lst (bX xs lo hi)) H2->Q (.ref p) H2)\/∃xs,H a=some (.tup xs)/\∀p H2,zj H H2->H2 p=some (.tup (bX xs lo hi))->Q (.ref p) H2):=by
 unfold iK;rw [xZ];apply propext;constructor
 .rintro (h|⟨z,xs,e,h⟩)
  .exact .inl h
  .cases e;exact .inr ⟨xs,h⟩
 .rintro (h|⟨xs,h⟩)
  .exact .inl h
  .exact .inr {a,xs,rfl,h}
def iZ:R2:=λx y H Q=>∃a b xs ys,x = .ref a/\y = .ref b/\H a=some (.tup xs)/\H b=some (.tup ys)/\xs.length+ys.length<=sizeLine/\∀p H2,zj H H2->H2 p=some (.tup (xs++ys))->Q (.ref p) H2
theorem FR:OpR X (QF .Add) iZ:=by
 intro Go s σ H x y v u Q I rx U h;obtain ⟨a,b,xs,ys,rfl,rfl,ha,O,hz,q⟩:=h;by_cases hx:xs=[]
 .cases rx;cases U;obtain ⟨its,r1,p1,_⟩:=I.tuple (SqT.of ha);obtain ⟨X6,r2,p2,_⟩:=I.tuple (SqT.of O);obtain ⟨⟨cls,dd,data,sl⟩,ho,Z,n,hd⟩:=id p1;obtain ⟨⟨W,J,data2,S⟩,G,F,n2,z⟩:=id p2;simp only at Z hd F z;subst Z hd F z;have hi:its=[]:=r1.a8.mpr hx;exact concat_meets {_,ho,rfl} {_,G,rfl} noFill_tuple_add seq_tuple_add slot_tuple_add entry_tuple_add (args_tuple_add_2 _ _)
   (tuple_addW0 a b its.toArray X6.toArray n n2 dd J sl S (by simp [hi])) {ho,G,{.ref b,H,I,rfl,q b H (zj.refl _) (by rw [O,hx];rfl)}}
 .exact Gp Go s σ H _ _ v u Q I rx U {a,b,xs,ys,rfl,rfl,SqT.of ha,SqT.of O,hx,hz,λe=>q a H (zj.refl _) (by rw [ha,e,Qa]),λ_ p hp=>q p _ (New.mk' (o:=.tup (xs++ys)) hp).same zt}
def fX:R2:=λx y H Q=>eh x y H Q\/iZ x y H Q
theorem h9:OpR X (QF .Add) fX:=nB.or FR
theorem BE:fX (.int i) (.int j) H Q=Q (.int (i+j)) H:=by simp [fX,iZ,eh]
theorem BD:fX (.str i) (.str j) H Q=(i.length+j.length<=sizeLine/\Q (.str (i++j)) H):=by simp [fX,iZ,eh]
theorem EX:fX (.ref a) (.ref b) H Q=((∃xs zs,H a=some (.lst xs)/\H b=some (.lst zs)/\xs.length+zs.length<=sizeLine/\∀p H2,New H p (.lst (xs++zs)) H2->Q (.ref p) H2) \/
  ∃xs ys,H a=some (.tup xs)/\H b=some (.tup ys)/\xs.length+ys.length<=sizeLine/\∀p H2,zj H H2->H2 p=some (.tup (xs++ys))->Q (.ref p) H2):=by
 unfold fX;rw [rD];apply propext;constructor
 .rintro (h|⟨G,J,xs,ys,z,F,h⟩)
  .exact .inl h
  .cases z;cases F;exact .inr ⟨xs,ys,h⟩
 .rintro (h|⟨xs,ys,h⟩)
  .exact .inl h
  .exact .inr {a,b,xs,ys,rfl,rfl,h}
def uH:List V->Hp->VK->Prop:=λxs H Q=>∃i j,xs=[.int i,.int j]/\(0<j/\j<2 ^ 64)/\∀p H2,New H p (.tup [.int (i / j),.int (i % j)]) H2->Q (.ref p) H2
theorem BX:uH [.int i,.int j] H Q=((0<j/\j<2 ^ 64)/\∀p H2,New H p (.tup [.int (i / j),.int (i % j)]) H2->Q (.ref p) H2):=by
 apply propext;constructor
 .rintro ⟨z,F,e,h⟩;cases e;exact h
 .exact λh=>{i,j,rfl,h}
theorem Lo:zY X (.builtin "divmod") uH:=by
 intro Go s σ H xs us Q I r h;obtain ⟨i,j,rfl,⟨h1,h2⟩,q⟩:=h;obtain ⟨u,w',rfl,⟨t,rfl⟩,⟨t',rfl⟩⟩:=oy r;have z:j.natAbs.log2<9000:=by
  have:j.natAbs.log2<64:=(Nat.log2_lt 'l').mpr 'l';lia
 refine divmod_int 'l' ?_ (.inl (PyProof.noPylong_of_log2 z));rw [Int.fdiv_eq_ediv_of_nonneg i 'l',Int.fmod_eq_emod_of_nonneg i 'l'];have F:H s.heap.objs.size=none:=I.hok.fresh (Ov _);refine {.ref s.heap.objs.size,_,?_,rfl,q _ _ (.mk' F)};refine I.laid (λb o e=>Ou _ e) (Ov _) {by simp only [Pn,So];rw [Qc];decide,[.int (i / j) s.toks,.int (i % j) (s.toks+1)],.cons {_,rfl} (.cons {_,rfl} .nil),?_};exact {_,ON s.heap rfl,rfl,0,rfl}
def iO:R2:=λx y H Q=>rI0 (λi j=>.bl (decide (i<=j))) x y H Q\/∃i j,x = .str i/\y = .str j/\Q (.bl (!decide (j.cps.toList<i.cps.toList))) H
theorem Bm:OpR X (PU .LtE) iO:=jb.or (by
 intro Go s σ H x y v u Q I F z h;obtain ⟨i,j,rfl,rfl,q⟩:=h;obtain ⟨t,rfl⟩:=F;obtain ⟨t',rfl⟩:=z;exact PySem.P.le_str (aj I q rfl))
theorem Ho:iO (.int i) (.int j) H Q=Q (.bl (decide (i<=j))) H:=by simp [iO,rI0]
theorem NG:iO (.str i) (.str j) H Q=Q (.bl (!decide (j.cps.toList<i.cps.toList))) H:=by simp [iO,rI0]
def wV:TS:=λ_ _ _=>False
theorem cN{st:Stmt}:W (PS X st wV):={λ_ _ _ _ _ _ h=>h.elim}
def xC(to te:TE):TE:=λσ H Q=>to σ H λx H1=>uR x λl=>(∃xs,H1 l=some (.lst xs))/\te σ H1 λy H2=>uR y λb=>∃xs zs,H2 l=some (.lst xs)/\H2 b=some (.lst zs)/\xs.length+zs.length<=sizeLine/\Q .non (upd H2 l (.lst (xs++zs)))
theorem Lj{to te:TE}:xC to te σ H Q=to σ H λx H1=>uR x λl=>(∃xs,H1 l=some (.lst xs))/\te σ H1 λy H2=>uR y λb=>∃xs zs,H2 l=some (.lst xs)/\H2 b=some (.lst zs)/\xs.length+zs.length<=sizeLine/\Q .non (upd H2 l (.lst (xs++zs))):=rfl
theorem jx{o e:OU}{to te:TE}(z:W (PE X o to))(he:W (PE X e te))(Zw:Qs o "extend" X.env (PH o X.env)=PH o X.env:=by rfl)(Za:(ZZ.endLine==cpos.line)=true:=by rfl)(hp:af e=true:=by rfl):W (PE X (.Call (.Attribute o "extend" ZZ) [e] [] cpos) (xC to te)):=by
 refine {?_};have z:=z.h;have he:=he.h;intro Go s σ H Q I h;have hs:OV [e] X.env=[(false,PH e X.env)]:=dZ hp;refine Rf Zw (by rw [hs];rfl) Za rfl (thn (z Go s σ H _ I h) λv s1=>x5e λx H1 J r1 Z=>?_);obtain ⟨l,ex,⟨xs,hx⟩,q1⟩:=Z;subst ex;obtain ⟨h1,h2⟩:=jv (T:="list") J r1 (.inl {rfl,xs,SqL.of hx});refine {"list","list.extend",plainAttrs_list,PySem.F.slot_list_extend,PySem.F.type_list_extend,h1,h2,?_};rw [hs];refine Calls.callWith_builtin rfl (Calls.evalArgs_plain ?_);refine Calls.spliced_cons (thn (he Go s1 σ H1 _ J q1) λu s2=>x5e λy H2 O r2 U=>Calls.spliced_nil ?_);obtain ⟨b,ey,G,zs,hl,S,hz,q⟩:=U;subst ey;exact Gc Go s2 σ H2 (.ref l) [.ref b] v [u] Q O r1 (.cons r2 .nil) {l,b,G,zs,rfl,rfl,hl,S,hz,q}
end
section
variable {K:Ow}{g:TG}{tb:TS}{D:bZ}{σ:St}{H:Hp}{tl:TE}{R:It->Hp->Prop}{tt:TT}{te:TE}{Q:VK}{a:Addr}{o:Obj}{kvs:List (Key×V)}
theorem Lu:m8 tl σ H R=tl σ H λx H1=>uR x λa=>∃o kvs,H1 a=some (.frz o (.dK kvs))/\R (Itw a o kvs) H1:=by
 unfold m8 uR;congr;funext x H1;apply propext;constructor
 .rintro ⟨a,o,kvs,e,h⟩;exact ⟨a,e,o,kvs,h⟩
 .rintro ⟨a,e,o,kvs,h⟩;exact ⟨a,o,kvs,e,h⟩
theorem B0{t:TE}:ug t σ H Q = ∃a kvs,H a=some (.dK kvs)/\∀o,t σ (upd H a (.frz o (.dK kvs))) λv H'=>kN a kvs H' (Q v):=rfl
end
end L2
namespace L2
open PySem PySem.Spec PyProof.Rows
section
variable {α β:Type}
noncomputable def look(t:List (Str×α))(n:Str):Option α:=(t.find? λp=>decide (p.1=n)).map (·.2)
noncomputable def zN(t:List (Str×α))(n:Str)(a:α):List (Str×α):=if (look t n).isSome then t.map λp=>if p.1=n then (p.1,a) else p else t++[(n,a)]
noncomputable def names(t:List (Str×α)):List Str:=t.map (·.1)
theorem wA:look ([]:List (Str×α)) n=none:=rfl
theorem du{p:Str×α}{t:List (Str×α)}:look (p::t) n=if p.1=n then some p.2 else look t n:=by
 unfold look;by_cases h:p.1=n
 .rw [List.find?_cons_of_pos (by simpa using h),if_pos h];rfl
 .rw [List.find?_cons_of_neg (by simpa using h),if_neg h]
theorem ir{t:List (Str×α)}(h:look t n=some a):(n,a)∈t:=by
 induction t with
 | nil=>cases h
 | cons p t z =>
  rw [du] at h;by_cases e:p.1=n
  .rw [if_pos e] at h;cases h;subst e;exact OI ..
  .rw [if_neg e] at h;exact Oz _ (z h)
theorem fb{t:List (Str×α)}:look t n=none↔n∉names t:=by
 induction t with
 | nil=>simp [look,names]
 | cons p t z =>
  rw [du];by_cases e:p.1=n
  .rw [if_pos e];simp [names,e]
  .rw [if_neg e,z];simp [names];exact λ_=>λh=>e h.symm
theorem vN{t:List (Str×α)}(nd:(names t).Nodup)(h:(n,a)∈t):look t n=some a:=by
 induction t with
 | nil=>cases h
 | cons p t F =>
  rw [du];have z:p.1∉names t/\(names t).Nodup:=RV.mp nd;rcases OL.mp h with e|h
  .rw [<- e,if_pos rfl]
  .have:p.1≠n:=λe=>z.1 (by rw [e];exact List.mem_map_of_mem (f:=(·.1)) h);rw [if_neg this];exact F z.2 h
theorem Be{t:List (Str×α)}:names (zN t n a)=if (look t n).isSome then names t else names t++[n]:=by
 unfold zN names;by_cases h:(look t n).isSome
 .rw [if_pos h,if_pos h,QN];refine Qk λp _=>?_;show (if p.1=n then (p.1,a) else p).1=p.1;split<;>rfl
 .rw [if_neg h,if_neg h,PN];rfl
theorem jR{t:List (Str×α)}(nd:(names t).Nodup):(names (zN t n a)).Nodup:=by
 rw [Be];by_cases h:(look t n).isSome
 .rw [if_pos h];exact nd
 .rw [if_neg h];have:look t n=none:=by simpa using h
  rw [fb] at this;rw [To];refine {nd,'z',λx hx y z e=>?_};have:y=n:=by simpa using z
  subst this;subst e;contradiction
theorem DN{t:List (Str×α)}:look (t.map λp=>if p.1=n then (p.1,a) else p) m=if m=n then (if (look t n).isSome then some a else none) else look t m:=by
 induction t with
 | nil=>by_cases h:m=n<;>simp [look,h]
 | cons p t F =>
  rw [PY,du,F,du,du];by_cases e:p.1=n
  .rw [if_pos e,if_pos e];show (if p.1=m then some a else _)=_;by_cases h:m=n
   .rw [if_pos (by rw [e,h]),if_pos h];rfl
   .rw [if_neg (λz=>h (by rw [<- z,e])),if_neg h,if_neg h,if_neg (λz=>h (by rw [<- z,e]))]
  .rw [if_neg e,if_neg e];by_cases h:m=n
   .rw [if_pos h,if_pos h,if_neg (λz=>e (by rw [z,h]))]
   .rw [if_neg h,if_neg h]
theorem LV{t u:List (Str×α)}:look (t++u) m=(look t m).or (look u m):=by
 induction t with
 | nil=>simp [wA]
 | cons p t z =>
  rw [QS,du,du,z];by_cases h:p.1=m
  .rw [if_pos h,if_pos h];rfl
  .rw [if_neg h,if_neg h]
theorem yj{t:List (Str×α)}:look (zN t n a) m=if m=n then some a else look t m:=by
 unfold zN;by_cases h:(look t n).isSome
 .rw [if_pos h,DN,if_pos h]
 .rw [if_neg h,LV,du];have F:look t n=none:=by simpa using h
  by_cases e:m=n
  .rw [if_pos e,e,F,if_pos rfl];rfl
  .rw [if_neg e,if_neg (λz=>e z.symm),wA,Option.or_none]
noncomputable def A9(t u:List (Str×α)):Prop:=∀n,look t n=look u n
theorem A9.names{t u:List (Str×α)}(h:A9 t u)(J:(names t).Nodup)(G:(L2.names u).Nodup):(L2.names t).Perm (L2.names u):=by
 refine (RI J G).mpr λn=>?_;have h1:=h n;constructor
 .intro F;refine QD λz=>?_;rw [fb.mpr z] at h1;exact fb.mp h1 F
 .intro F;refine QD λz=>?_;rw [fb.mpr z] at h1;exact fb.mp h1.symm F
def Dct(R:V->α->Prop):List (Str×V)->List (Str×α)->Prop:=Paired λp q=>p.1=q.1/\R p.2 q.2
theorem Dct.names{t:List (Str×α)}(h:Dct R kvs t):kvs.map (·.1)=L2.names t:=by
 induction h with
 | nil=>rfl
 | @cons p q l m r _ z=>show p.1::l.map (·.1)=q.1::m.map (·.1);rw [r.1,z];rfl
theorem Dct.length{t:List (Str×α)}(h:Dct R kvs t):kvs.length=t.length:=Paired.length h
theorem Dct.imp{t:List (Str×α)}(h:Dct R kvs t)(f:∀v a,R v a->S v a):Dct S kvs t:=Paired.UN h λp q z=>{z.1,f _ _ z.2}
theorem Dct.look{t:List (Str×α)}(h:Dct R kvs t)(n:Str):(∃v a,L2.look kvs n=some v/\L2.look t n=some a/\R v a)\/(L2.look kvs n=none/\L2.look t n=none):=by
 induction h with
 | nil=>exact .inr {rfl,rfl}
 | cons r _ z =>
  rw [du,du,<- r.1];split
  .exact .inl {_,_,rfl,rfl,r.2}
  .exact z
theorem Dct.put{t:List (Str×α)}(h:Dct R kvs t)(n:Str)(r:R v a):Dct R (zN kvs n v) (zN t n a):=by
 have hs:(L2.look kvs n).isSome=(L2.look t n).isSome:=by
  rcases h.look n with ⟨v,a,F,J,_⟩|⟨F,J⟩<;>rw [F,J]<;>rfl
 have G:Dct R (kvs.map λp=>if p.1=n then (p.1,v) else p) (t.map λp=>if p.1=n then (p.1,a) else p):=by
  clear hs
  induction h with
  | nil=>exact .nil
  | @cons p q _ _ r' _ z =>
   refine .cons ?_ z;show (if p.1=n then (p.1,v) else p).1=(if q.1=n then (q.1,a) else q).1/\R (if p.1=n then (p.1,v) else p).2 (if q.1=n then (q.1,a) else q).2;by_cases e:p.1=n
   .rw [if_pos e,if_pos (by rw [<- r'.1];exact e)];exact ⟨r'.1,r⟩
   .rw [if_neg e,if_neg (by rw [<- r'.1];exact e)];exact r'
 have ha:Dct R (kvs++[(n,v)]) (t++[(n,a)]):=by
  clear hs G
  induction h with
  | nil=>exact .cons {rfl,r} .nil
  | cons r' _ z=>exact .cons r' z
 unfold zN;rw [hs];split
 .exact G
 .exact ha
theorem Dct.at{t:List (Str×α)}(h:Dct R kvs t):∀{i:Nat}{p:Str×V},kvs[i]?=some p->∃a,t[i]?=some (p.1,a)/\R p.2 a:=by
 induction h with
 | nil=>intro i p e;simp at e
 | @cons x y _ _ r _ F =>
  intro i p e;cases i with
  | zero =>
   have z:x=p:=by simpa using e
   subst z;exact {y.2,by rw [r.1];rfl,r.2}
  | succ i=>exact F (by simpa using e)
end
theorem fP:aH (sk kvs) (.inr n)=look kvs n:=by
 induction kvs with
 | nil=>rfl
 | cons p t F =>
  rw [du];by_cases e:p.1=n
  .rw [if_pos e];exact i6 (show (Sum.inr p.1:Key)=Sum.inr n by rw [e])
  .rw [if_neg e,<- F];exact je (λz=>e (by injection z))
theorem sP:aU (sk kvs) (.inr n) v=sk (zN kvs n v):=by
 unfold aU zN;have hs:((sk kvs).any λz=>decide (z.1 = .inr n))=(look kvs n).isSome:=by rw [rq,fP]
 rw [hs];split
 .unfold sk;rw [QN,QN];refine Qk λp _=>?_;by_cases e:p.1=n
  .simp [e]
  .simp [e]
 .simp [sk]
theorem Ln:rR (.ref a) (.str z) H Q = ∃kvs,Rd H a (.dK kvs)/\∃v,aH kvs (.inr z)=some v/\Q v H:=by
 apply propext;constructor
 .rintro ⟨J,k,kvs,v,G,F,h1,h2,q⟩;cases G;cases k with
  | inl i=>cases F
  | inr x=>cases F;exact ⟨kvs,h1,v,h2,q⟩
 .rintro ⟨kvs,h1,v,h2,q⟩;exact {a,.inr z,kvs,v,rfl,rfl,h1,h2,q}
theorem IC:iZ (.ref a) (.ref b) H Q = ∃xs ys,H a=some (.tup xs)/\H b=some (.tup ys)/\xs.length+ys.length<=sizeLine/\∀p H2,zj H H2->H2 p=some (.tup (xs++ys))->Q (.ref p) H2:=by
 apply propext;constructor
 .rintro ⟨G,J,xs,ys,z,F,h⟩;cases z;cases F;exact ⟨xs,ys,h⟩
 .rintro ⟨xs,ys,h⟩;exact {a,b,xs,ys,rfl,rfl,h}
theorem C6{k j:Nat}{p pos:Pos}(G:GC X.prog X.w X.K X.mg X.base cm j x C ps sp)(hr:zE cm k X.A)(z:Gl X x)(O:j+1<=k:=by decide)(S:'g'=false:=by decide):
  PE X (.Call (.Name x p) [] [] pos) (kG C sp bV):=by
 obtain ⟨f,fd,F,U,M,J⟩:=G.ex;intro Go s σ H Q I h;exact CQ M F (hr.mono O) z U J .nil iy S Go s σ H Q I (λy dx hx hd ne=>h y dx _ (.mk' hx hd ne))
theorem ni{k j:Nat}{p pos:Pos}(G:GC X.prog X.w X.K X.mg X.base cm j x C ps sp)(hr:zE cm k X.A)(z:Gl X x)(J:j+1<=k:=by decide)(F:'g'=false:=by decide):
  W (PE X (.Call (.Name x p) [] [] pos) (kG C sp bV)):={C6 G hr z J F}
theorem Bj:(sk kvs).length=kvs.length:=by simp [sk]
section
variable {M:Model}{A:OQ}{E:Value->KE->Prop}{s:KE}
theorem xb{id:String}(G:args.any (·.1)=false)(F:z.any (·.1.isNone)=false)(h:OE M A (evalArgs (.builtin id) true args z) (λa s1=>OE M A (call (.builtin id) a.pos a.kw) Q E s1) E s):OE M A (Rp pos (.builtin id) [] args z) Q E s:=by
 unfold Rp;refine we (OT (OZ h (λa s1 h1=>we (Pl ?_)) λ_ _ x=>x));simp only [G,F,Sy];exact we (Ot (we (OZ h1 (λr s2 hr=>we (OT (wpAny_point (Ot hr)))) λ_ _ x=>x)))
end
theorem N8{a r:Addr}{k:Int}{t:Tok}(O:env.scope.kind = .function)(hl:env.kindOf x=some .local)(F:s.heap.Ns env.locals m)(W:m x=some (.ref a))(ha:IsTup s.heap a its)(z:its[0]?=some (.ref r))(hr:IsTup s.heap r ks)(h1:ks[1]?=some (.int k t))(hd:'g'=false)(q:∀tk,Q (.int k t) { s with toks:=tk }):OE (OK prog w) A (PH (.Subscript (.Subscript (.Name x p1) (.Constant (.int 0) S p2) J) (.Constant (.int 1) U G) Z) env) Q E s:=by
 refine Subscript_ (Subscript_ (wpAny_Name (Sz O hl F W ?_) hd));refine SS ?_;have s0:0<its.size:=(Py.mp z).1;have s1:1<ks.size:=(Py.mp h1).1;refine Rg (x:=.ref r) (T:="tuple") ha.typeIs SU.lookup (getItem_tuple (j:=0) ha 'd' 'd' (by simp [seqIndex?,s0]) z {rfl,?_});refine SS ?_;exact Rg (x:=.int k t) (T:="tuple") hr.typeIs SU.lookup (getItem_tuple (j:=1) hr 'd' 'd' (by simp [seqIndex?];lia) h1 {rfl,q _})
def bQ(pos:Pos)(qual:Str)(H:Hp)(P:Addr):Prop :=
 H P=some (.tbl #[])\/∃c' oc vs t,H P=some (.tbl #[Pu pos.line,Pu pos.col,.ref c'])/\H c'=some (.frz oc (.own 0))/\oc.data = .fields vs/\vs[1]?=some (.str qual t)
structure eQ(mg:Str->Option Value)(base:Heap)(Z2:Value)(P:Addr):Prop where
 cd:∃c,Z2 = .ref c/\PySem.W.CodeHd base c P
 bt:∃bm o,mg "__builtins__"=some (.ref bm)/\bm≠RX/\bm≠OB/\base.get? bm=some o/\o.cls = .type "module"/\o.dict=some RX/\o.data = .plain
def gb(H H':Hp)(P:Addr):Prop:=∀a o,a≠P->H a=some o->H' a=some o
theorem tV(LB:eQ X.mg X.base X.env.code P)(XU:Ue ZY X.env=([],[]))(Xi:RG scope X.env=pure [])(I:Inv X Go σ H s)(hT:bQ pos (X.env.qual++"<lambda>") H P)(h:∀(f c':Addr)(O:Value)(h':Heap)(tk:Nat)(H':Hp),f+1=h'.objs.size->s.heap.objs.size<=f->h'.CodeRec (.ref c') (X.env.qual++"<lambda>") ->
   h'.get? f=some (kla_obj "<lambda>" (X.env.qual++"<lambda>") ZY ZV scope [] ((X.mg "__name__").getD .none) c' O)->bQ pos (X.env.qual++"<lambda>") H' P->gb H H' P->Inv X Go σ H' { s with heap:=h',toks:=tk }->(H' f=none/\∃oc vs t,H' c'=some (.frz oc (.own 0))/\oc.data = .fields vs/\vs[1]?=some (.str (X.env.qual++"<lambda>") t))->Q (.ref f) { s with heap:=h',toks:=tk }):
  OE 'c' X.A (PH (.Lambda ZY ZV scope pos) X.env) Q E s:=by
 refine PySem.W.kla_eval XU ?_;obtain ⟨c,hc,C⟩:=LB.cd;obtain ⟨bm,ob,b1,b2,b3,b4,b5,b6,b7⟩:=LB.bt;obtain ⟨og,a8,a7,eg,a6⟩:=id I.ok.mod.glob;have ax:s.heap.Ns OB X.mg:=I.ok.mod.glob.keeps I.bk;have S:∀{b:Addr}{o:Obj}{u:HO},X.base.get? b=some o->H P=some u->b≠P:=λe G z=>by
  have:=(I.bs _ _ e).2;rw [z,G] at this;cases this
 rcases hT with G|⟨c',oc,vs,t,G,X2,hd,hv⟩
 .have J:s.heap.get? P=some (tabObj #[]):=I.hok P _ G;refine PySem.W.kla_makeFunction (mg:=X.mg) Xi I.ok.glob ax hc (C.keeps I.bk) J trivial rfl (S eg G) {bm,ob,b1,b2,b3,S b4 G,I.bk _ _ b4,b5,b6,b7} λc' O h' tk hx WS ZD aT aI=>?_;obtain ⟨a5,oc,vs,t,e2,av,hd,hv⟩:=aT;cases e2;have a0:P<s.heap.objs.size:=OX J;have cP:c'≠P:=λz=>by rw [z] at WS;exact absurd a0 (Tt.mpr WS)
  have U:∀{b:Addr}{u:HO},H b=some u->b≠c':=λe z=>by
   have:=I.hok.lt e;rw [z] at this;exact absurd this (Tt.mpr WS)
  have a3:∀{b:Addr}{u:Obj},s.heap.get? b=some u->b≠c':=λe z=>by
   have:=OX e;rw [z] at this;exact absurd this (Tt.mpr WS)
  have kp:∀b o,b≠P->s.heap.get? b=some o->(h'.push (kla_obj "<lambda>" (X.env.qual++"<lambda>") ZY ZV scope [] ((X.mg "__name__").getD .none) c' O)).get? b=some o:=λb o n e=>Ou _ (hx b o n e)
  let H':Hp:=upd (upd H P (.tbl #[Pu pos.line,Pu pos.col,.ref c'])) c' (.frz oc (.own 0))
  have F:∀b,b≠P->b≠c'->H' b=H b:=λb n1 n2=>by show upd _ c' _ b=H b;rw [zg n2,zg n1]
  have Z:H' P=some (.tbl #[Pu pos.line,Pu pos.col,.ref c']):=by show upd _ c' _ P=_;rw [zg (Pd cP),zt]
  have ai:H' c'=some (.frz oc (.own 0)):=zt;have nP:∀b,H b=none->b≠P:=λb e z=>by rw [z,G] at e;cases e
  have ext:∀b u,H b=some u->(∀ps,u≠.tbl ps)->H' b=some u:=λb u e n=>by rw [F b (λz=>by rw [z,G] at e;cases e;exact n _ rfl) (U e)];exact e
  have un:Un X.fs [] H H' s.heap (h'.push (kla_obj "<lambda>" (X.env.qual++"<lambda>") ZY ZV scope [] ((X.mg "__name__").getD .none) c' O)):=by
   refine {λb o e n _ _=>kp b o (nP b n) e,λb o e n _ _=>{o.slots,kp b o (nP b n) e},λb o e n _=>by rw [F b (nP b n) (a3 e)];exact n,λb o e _=>?_,λb xs e=>ext b _ e λ_=>nofun,λb o u e=>ext b _ e λ_=>nofun,λb ps e=>?_}
   .by_cases z:b=P
    .exact {_,by rw [z];exact Ou _ aI}
    .exact {o,kp b o z e}
   .by_cases z:b=P
    .rw [z,G] at e;cases e;exact {#[Pu pos.line,Pu pos.col,.ref c'],by rw [z,Z];simp}
    .exact {#[],by rw [F b z (U e),e];simp}
  have hok:HOk X.prog X.w H' (h'.push (kla_obj "<lambda>" (X.env.qual++"<lambda>") ZY ZV scope [] ((X.mg "__name__").getD .none) c' O)):=λa o e=>by
   by_cases z1:a=c'
   .rw [z1,ai] at e;cases e;rw [z1];exact {Ou _ av,{_,Ou _ av}}
   .by_cases z2:a=P
    .rw [z2,Z] at e;cases e;rw [z2];show Heap.get? _ P=_;exact Ou _ aI
    .rw [F a z2 z1] at e;refine (I.hok a o e).Vc (λb u hb q=>kp b u ?_ q) (λb q=>ext b _ q λ_=>nofun) λb xs q=>ext b _ q λ_=>nofun;rcases hb with rfl|hb
     .exact z2
     .intro z;rw [z,G] at hb;cases hb
  refine h h'.objs.size c' O _ tk H' (by rw [Sj]) (Sa (O7 WS ZD)) {c',oc,vs,t,rfl,Ou _ av,hd,hv} (ON _ rfl) (.inr ⟨c',oc,vs,t,Z,ai,hd,hv⟩) (λa o n e=>by rw [F a n (U e)];exact e) (I.un un hok) {by rw [F _ (λz=>by rw [<- z] at a0;lia) (λz=>by rw [z] at ZD;lia)];exact I.hok.fresh 'l',oc,vs,t,ai,hd,hv}
 .have J:s.heap.get? P=some (tabObj #[Pu pos.line,Pu pos.col,.ref c']):=I.hok P _ G;have a4:s.heap.get? c'=some oc:=(I.hok c' _ X2).1;refine PySem.W.kla_makeFunctionHit (mg:=X.mg) (cv:=.ref c') Xi I.ok.glob ax hc (C.keeps I.bk) J ?_ ?_ {bm,ob,b1,b2,b3,S b4 G,I.bk _ _ b4,b5,b6,b7} λO h' tk hk hsz=>?_
  .exact trivial
  .simp [codeAmong,Pu]
  .exact h h'.objs.size c' O _ tk H (by rw [Sj]) hsz {c',oc,vs,t,rfl,Ou _ (hk _ _ a4),hd,hv} (ON _ rfl) (.inr ⟨c',oc,vs,t,G,X2,hd,hv⟩) (λ_ _ _ e=>e) (I.kept λb o e=>Ou _ (hk b o e)) {I.hok.fresh hsz,oc,vs,t,X2,hd,hv}
def tB(H:Hp)(a:Addr)(k:Int):Prop:=∃r YD y ys,H a=some (.tup (.ref r::YD))/\H r=some (.tup (y::.int k::ys))
def fY(P:Addr)(pos:Pos)(qual:Str)(v:V)(H1:Hp)(Q:VK):Prop:=uR v λl=>∃(as:List Addr)(ks:List Int),H1 l=some (.lst (as.map V.ref))/\bQ pos qual H1 P/\as.length<64/\Paired (tB H1) as ks /\
 ∀(D:Addr)(zs:List (Int×Addr))(H2:Hp),gb H1 H2 P->bQ pos qual H2 P->H1 D=none->D≠P->D≠sysModules->H2 D=some (.lst (zs.map λz=>V.ref z.2))->zs.Perm (ks.zip as)->zs.Pairwise (λp q=>p.1<=q.1)->Q (.ref D) H2
def si(P:Addr)(pos:Pos)(qual:Str)(ta:TE):TE:=λσ H Q=>ta σ H λv H1=>fY P pos qual v H1 Q
theorem HI:si P pos qual ta σ H Q=ta σ H λv H1=>fY P pos qual v H1 Q:=rfl
theorem Lg:fY P pos qual (.ref l) H1 Q = ∃(as:List Addr)(ks:List Int),H1 l=some (.lst (as.map V.ref))/\bQ pos qual H1 P/\as.length<64/\Paired (tB H1) as ks /\
 ∀(D:Addr)(zs:List (Int×Addr))(H2:Hp),gb H1 H2 P->bQ pos qual H2 P->H1 D=none->D≠P->D≠sysModules->H2 D=some (.lst (zs.map λz=>V.ref z.2))->zs.Perm (ks.zip as)->zs.Pairwise (λp q=>p.1<=q.1)->Q (.ref D) H2:=nM
theorem Lp{as:List Addr}(h:zu (as.map V.ref) its):its=as.map OH:=by
 induction as generalizing its with
 | nil=>cases h;rfl
 | cons a as F =>
  cases h with
  | cons r z=>rw [F z,show _=OH a from r];rfl
theorem NS(as:List Addr):zu (as.map V.ref) (as.map OH):=by
 induction as with
 | nil=>exact .nil
 | cons a as z=>exact .cons rfl z
theorem NL(h:ps.Perm (l.map λz=>(z.1,OH z.2))):∃zs:List (Int×Addr),zs.Perm l/\ps=zs.map λz=>(z.1,OH z.2):=by
 let g:Int×Value->Int×Addr:=λp=>(p.1,match p.2 with | .ref a=>a|_=>0)
 have F:(l.map λz=>(z.1,OH z.2)).map g=l:=by
  rw [QN];have:(g∘λz:Int×Addr=>(z.1,OH z.2))=id:=rfl;rw [this,Ul]
 refine {ps.map g,by have:=h.map g;rw [F] at this;exact this,?_};rw [QN];have:∀p∈ps,((λz:Int×Addr=>(z.1,OH z.2))∘g) p=p:=λp hp=>by
  obtain ⟨z,_,rfl⟩:=Po.mp (h.mem_iff.mp hp);rfl
 exact (Ul ps).symm.trans (Qk λp hp=>(this p hp).symm)
theorem vB:∀(ks:List Int)(as:List Addr),ks.zip (as.map OH)=(ks.zip as).map λz=>(z.1,OH z.2)
 | [],_=>rfl
 | _::_,[]=>rfl
 | k::ks,a::as=>by rw [PY,List.zip_cons_cons,List.zip_cons_cons,PY,vB ks as]
theorem dI{α β:Type}{R:α->β->Prop}:∀{l:List α}{m:List β},Paired R l m->∀{i:Nat}{a:α}{b:β},l[i]?=some a->m[i]?=some b->R a b
 | _,_,.nil,i,a,b,h,_=>by simp at h
 | _,_,.cons r t,0,a,b,h,h'=>by
  simp at h h';subst h h';exact r
 | _,_,.cons r t,i+1,a,b,h,h'=>dI t (by simpa using h) (by simpa using h')
theorem cH{α β:Type}{R:α->β->Prop}{l:List α}{m:List β}(h:Paired R l m):l.length=m.length:=Paired.length h
theorem Gx{k:Nat}{p pos YY kp p1 p2 p3 p4 p5:Pos}(LB:eQ X.mg X.base X.env.code P)(hr:zE cm k X.A)(hg:Gl X "sorted")(hm:X.mg "sorted"=none)(ha:PE X a ta)(XU:Ue ZY X.env=([],[]))(Xi:RG scope X.env=pure [])(Yv:∀(q:Str)(pm cd ct v:Value),SY (kla_fn "<lambda>" q ZY (.Subscript (.Subscript (.Name x p1) (.Constant (.int 0) j1 p2) p3) (.Constant (.int 1) j2 p4) p5) scope [] pm cd ct) {[v],[]}=pure [(x,v)])(WR:scope.names=[(x,.local)])(Yl:scope.kind = .function)(bx:scope.isCoroutine=false)(a5:scope.isGenerator=false)(hp:af a=true:=by rfl)(Zr:'g'=false:=by decide):
  PE X (.Call (.Name "sorted" p) [a] [{some (Ox "key"),.Lambda ZY (.Subscript (.Subscript (.Name x p1) (.Constant (.int 0) j1 p2) p3) (.Constant (.int 1) j2 p4) p5) scope YY,kp}] pos) (si P YY (X.env.qual++"<lambda>") ta):=by
 intro Go s σ H Q I h;have hs:OV [a] X.env=[(false,PH a X.env)]:=dZ hp;have hA:=gU ha gF (hs:=hs) pos Go s σ H (λys H1=>∃y,ys=[y]/\fY P YY (X.env.qual++"<lambda>") y H1 Q) I (by
  show ta σ H λx H1=>∃y,[x]=[y]/\fY P YY (X.env.qual++"<lambda>") y H1 Q;have e:(λ(x:V)(H1:Hp)=>∃y,[x]=[y]/\fY P YY (X.env.qual++"<lambda>") y H1 Q)=λv H1=>fY P YY (X.env.qual++"<lambda>") v H1 Q:=by
   funext x H1;apply propext;constructor
   .rintro ⟨y,e,h⟩;cases e;exact h
   .exact λh=>{x,rfl,h}
  rw [e];exact h)
 refine PM (fW I hg hm Tj (xb (by rw [hs];rfl) rfl ?_));rw [hs] at hA ⊢;refine evalArgs_kwB rfl (thn hA λus s1=>x5e λvs H1 I1 r1 q1=>kws_cons ?_);obtain ⟨y,rfl,l,rfl,as,ks,hl,hT,a8,hK,q⟩:=q1
 .cases r1 with
  | cons r rr =>
   cases rr;cases r;refine tV LB XU Xi I1 hT λf c' Xu h2 tk H2 hsz WS hcd hf a4 hL J _=>kws_nil ?_;have bp:l≠P:=λz=>by
    rcases hT with G|⟨_,_,_,_,G,_⟩ <;> · rw [z,G] at hl;cases hl
   have bf:=hL _ _ bp hl;obtain ⟨its,rv,⟨o,n,e1,e2,e3,e4⟩,hz⟩:=J.list (SqL.of bf);have WQ:=Lp rv;subst WQ;obtain ⟨m,F⟩:=J.fr;have ba:=cH hK;have XC:∀b o,h2.get? b=some o->b≠X.env.locals->X.base.get? b=none->(b,o)∈gK X.base h2 X.env.locals:=λb o e n1 n2=>KR n1 n2 e;refine PyProof.Rows.ksk_sorted (b:=false) (kz:=ks) (f:=.ref f) (h₀:=X.base) (L:=X.env.locals) (news:=gK X.base h2 X.env.locals) F Mn (vs:=as.map OH) (l:=l) ⟨o,e1,e2,n,e4⟩ (by rw [OA];exact ba.symm) (by rw [OA];exact a8) (PyProof.Rows.ksk_s1 _ _) (λx=>PyProof.Rows.ksk_l1 _ _) (λx=>PyProof.Rows.ksk_t1 _ _) (λi v k' hv XY h3 a6 own S N3=>?_) λD h3 a6 out c S N3 lt ko=>?_
   .have Z:∀b o,b≠X.env.locals->h2.get? b=some o->h3.get? b=some o:=λb o n e=>by
     cases U:X.base.get? b with
     | some u =>
      have:=F.keep b u U;rw [show h2.get? b=some u from this] at e;cases e;exact S.keep b _ U
     | none=>exact (N3 (b,o) (Pb _ (XC b o e n U))).1
    rw [O0] at hv;obtain ⟨ai,b0,rfl⟩:=Pf.mp hv;obtain ⟨r,YD,y,ys,k1,k2⟩:=dI hK b0 XY;have tt:∀{b xs},H1 b=some (.tup xs)->∃its,zu xs its/\IsTup h3 b its.toArray:=λ{b xs} e=>by
     have bP:b≠P:=λz=>by
      rcases hT with G|⟨_,_,_,_,G,_⟩ <;> · rw [z,G] at e;cases e
     have e2:=hL _ _ bP e;obtain ⟨_,its,rv,ob,g1,g2⟩:=J.hok b _ e2;have bL:b≠X.env.locals:=λz=>by rw [z,J.free] at e2;cases e2
     exact {its,rv,ob,Z _ _ bL g1,g2}
    obtain ⟨b3,bq,t1⟩:=tt k1;obtain ⟨b4,b1,t2⟩:=tt k2;cases bq with
    | cons ra _ =>
    cases ra;cases b1 with
    | cons rb rc =>
    cases rc with
    | cons rd _ =>
    obtain ⟨ax,rfl⟩:=rd;have fL:f≠X.env.locals:=λz=>by
     have:=I1.lt;rw [<- z] at this;exact absurd this (Tt.mpr WS)
    have b2:=Z _ _ fL hf;have a0:h3.CodeRec (.ref c') (X.env.qual++"<lambda>"):=by
     obtain ⟨c2,oc,vs,t,e,g1,g2,g3⟩:=hcd;refine {c2,oc,vs,t,e,Z _ _ (λz=>?_) g1,g2,g3};obtain ⟨m',⟨ol,es,ep,el,aT,_⟩,_⟩:=id J.loc;rw [z] at g1;rw [show h2.get? X.env.locals=some ol from el] at g1;cases g1;rw [g2] at aT;cases aT
    refine Sh (PySem.W.kla_callFunE (by show X.A.depth<recursionLimit;exact hr.depth) b2 rfl bx a5 rfl a0 ?_);rw [Yv];refine Ot (wpAny_newFunctionEnv (λy hy=>?_) (λy hy=>?_) (λh4 Xj XD=>?_) Yl)
    .rw [WR,O3] at hy;rw [hy];nofun
    .rw [O3] at hy;rw [hy];show scope.names.lookup x=_;rw [WR];simp [PL]
    .have k4:∀b o,h3.get? b=some o->h4.get? b=some o:=λb o e=>XD.extBut b o (Pe (OX e)) (Ou _ e);refine {(I.ok.mod.nolimit.keeps S.keep).keeps k4,PySem.W.kla_codeExpr ?_};refine N8 (m:=λy=>([(x,OH ai)]:List (Str×Value)).reverse.lookup y) (a:=ai) (r:=r) (k:=k') (t:=ax) Yl ?_ Xj (by simp [PL]) (its:=(OH r::_).toArray) {t1.choose,k4 _ _ t1.choose_spec.1,t1.choose_spec.2} 'z' (ks:=(_::Rb k' ax::_).toArray) {t2.choose,k4 _ _ t2.choose_spec.1,t2.choose_spec.2} 'z' Zr λb5=>?_
     .show scope.names.lookup x=_;rw [WR];simp [PL]
     .exact PyProof.Rows.KskEnd.intro (news':=gK X.base h2 X.env.locals++own) {S.ns.keeps k4,λb o e=>k4 _ _ (S.keep b o e),S.above} (λp hp=>{k4 _ _ (N3 p hp).1,(N3 p hp).2}) λ_ h=>h
   .obtain ⟨ps,aI,a9,bt⟩:=ko;rw [vB] at aI;obtain ⟨zs,a7,rfl⟩:=NL aI;have fm:(f,kla_obj "<lambda>" (X.env.qual++"<lambda>") ZY (.Subscript (.Subscript (.Name x p1) (.Constant (.int 0) j1 p2) p3) (.Constant (.int 1) j2 p4) p5) scope [] ((X.mg "__name__").getD .none) c' Xu)∈gK X.base h2 X.env.locals:=XC _ _ hf (λz=>by
     have:=I1.lt;rw [<- z] at this;exact absurd this (Tt.mpr WS)) (by
     cases U:X.base.get? f with
     | none=>rfl
     | some u =>
      have:=OX (I1.bk _ _ U);exact absurd this (Tt.mpr WS))
    have av:h2.objs.size<=D:=by have:=lt _ fm;rw [<- hsz];exact this
    have D2:H2 D=none:=J.hok.fresh av;have DP:D≠P:=λz=>by
     rcases a4 with G|⟨_,_,_,_,G,_⟩ <;> · rw [z,G] at D2;cases D2
    have D1:H1 D=none:=by
     cases qd:H1 D with
     | none=>rfl
     | some u=>rw [hL _ _ DP qd] at D2;cases D2
    have eo:out=((zs.map (·.2)).map OH).toArray:=by
     apply Array.toList_inj.mp;rw [a9];simp
    have lz:zs.length<=as.length:=by rw [a7.length_eq,List.length_zip];lia
    have Z:∀b o,b≠X.env.locals->h2.get? b=some o->h3.get? b=some o:=λb o hb e=>by
     cases U:X.base.get? b with
     | some u =>
      have:=F.keep b u U;rw [show h2.get? b=some u from this] at e;cases e;exact S.keep b _ U
     | none=>exact (N3 (b,o) (Oz _ (XC b o e hb U))).1
    have O:∀{b:Addr}{u:HO},H2 b=some u->b≠D:=λe z=>by rw [z,D2] at e;cases e
    have a3:∀{b:Addr}{u:HO},H2 b=some u->b≠X.env.locals:=λe z=>by rw [z,J.free] at e;cases e
    have hm:(zs.map λz:Int×Addr=>V.ref z.2)=(zs.map (·.2)).map V.ref:=by rw [QN];rfl
    have new:au X.prog X.w (upd H2 D (.lst (zs.map λz:Int×Addr=>V.ref z.2))) h3 D (.lst (zs.map λz:Int×Addr=>V.ref z.2)):={by rw [OA,Qc];lia,(zs.map (·.2)).map OH,c,by rw [hm];exact NS _,by rw [<- eo];exact (N3 _ (OI ..)).1};refine {.ref D,upd H2 D (.lst (zs.map λz:Int×Addr=>V.ref z.2)),?_,rfl,q D zs _ (λb u n e=>by rw [zg (λz=>by rw [z,D1] at e;cases e)];exact hL _ _ n e) ?_ D1 DP (RD (O2 J.big av)) zt a7 ?_}
    .refine J.step (h':=h3) (g':=s1.gens) (d':=s1.drawn) (t':=a6) (ch:=[]) (λ_ z=>nomatch z) (λb o n _ _ e _=>Z b o n e) (λb o n _ _ e _=>{o.slots,Z b o n e}) (λb o _ e n=>?_) (λb o _ e=>?_) (λb xs e=>by rw [zg (O e)];exact e) (λb o u e=>by rw [zg (O e)];exact e) (λb ps e=>{#[],by rw [zg (O e),e];simp}) (λm' Xp=>?_) (λb u e=>?_) J.bare
     .rw [zg (λz=>?_)]
      .exact n
      .have:=OX e;rw [z] at this;exact absurd this (Tt.mpr av)
     .by_cases hb:b=X.env.locals
      .obtain ⟨o1,_,_,g1,_⟩:=S.ns;exact {o1,by rw [hb];exact g1}
      .exact {o,Z b o hb e}
     .have e1:=Xp.eq_nsMap;have e2:=F.ns.eq_nsMap;have:m'=m:=e1.trans e2.symm;rw [this];exact S.ns
     .by_cases z:b=D
      .rw [z,zt] at e;cases e;rw [z];exact new
      .rw [zg z] at e;refine (J.hok b u e).Vc (λc v hc q=>Z c v ?_ q) (λc q=>by rw [zg (O q)];exact q) λc xs q=>by rw [zg (O q)];exact q
       rcases hc with rfl|hc
       .exact a3 e
       .exact a3 hc
    .rcases a4 with G|⟨c1,oc,vs,t,G,hc,hr⟩
     .exact .inl (by rw [zg (Pd DP)];exact G)
     .exact .inr {c1,oc,vs,t,by rw [zg (Pd DP)];exact G,by rw [zg (λz=>by rw [<- z,hc] at D2;cases D2)];exact hc,hr}
    .have:=List.pairwise_map.mp bt;exact this.imp λh=>by simpa using h
def gn(mg:Str->Option Value)(base:Heap):Prop:=∃bm o,mg "__builtins__"=some (.ref bm)/\bm≠RX/\bm≠OB/\base.get? bm=some o/\o.cls = .type "module"/\o.dict=some RX/\o.data = .plain
theorem IJ{K:Ow}{k:Nat}{ts:List Addr}(Z:∀T∈ts,s₁.heap.get? T=some (tabObj #[]))(hC:∀T∈ts,K.lookup T=none/\∃c,Uo K c T=true)(a4:gn mg s₁.heap)(KX:K.In s₁.heap)(Xj:s₁.heap.Ns OB mg)(G:s₁.heap.Ns RX mb)(a5:∀x:Str,x≠"__name__"->mb x=Q4 x)(ai:s₁.heap.NoLimit)(hg:s₁.gens = #[])(ha:s₁.heap.get? a=some { cls:=.type "list",data:=.seq vs.toArray })(hi:Ry vs ns)(hl:ns.length<=sizeLine)(hr:zE true k callerA)(F:∀base:Heap,K.In base->base.Ns OB mg->gn mg base->zq P w K mg base CX true k fa fd [x] sp)(Yv:∀(s:KE)(u:Value),BindsTo s fd {[u],[]} [(x,u)])(Xk:∀H:Hp,(∀T∈ts,H T=some (.tbl #[]))->SqL K H a (ns.map V.int)->sp [.ref a] H (λv _=>v = .bl true) λ_ _ _=>False)(a3:∀H e s',CX [] H s₁ (λ_ _ _=>False) e s'->False):
  QC (OK P w) callerA (.call (.ref fa) {[.ref a],[]}) (λr s'=>r = .ok (.ret (.bool true))/\OldK s₁.heap s'.heap/\s'.os=s₁.os/\Rz s'.gens) s₁:=by
 have rv:=pB hi;have a0:=hi.length;have aT:a∉ts:=λh=>by have:=Z a h;rw [ha] at this;cases this
 have Xo:∀H:Hp,(∀b,H b=none\/(∃o xs,H b=some (.frz o (.lst xs)))\/(b∈ts/\H b=some (.tbl #[])))->(∀T∈ts,H T=some (.tbl #[]))->SqL K H a (ns.map V.int)->HOk P w H s₁.heap->(∀b,H b≠none->b=a\/b∈ts)->(H a≠none->K.lookup a=none) ->
   QC (OK P w) callerA (.call (.ref fa) {[.ref a],[]}) (λr s'=>r = .ok (.ret (.bool true))/\OldK s₁.heap s'.heap/\s'.os=s₁.os/\Rz s'.gens) s₁:=by
  intro H hO av hS hok hA hK;have J:∀{b:Addr}{o:Obj},s₁.heap.get? b=some o->H b=none->(d6 s₁.heap H).get? b=some o:=λe n=>Mg e n;have aI:∀{b:Addr}{o:Obj},s₁.heap.get? b=some o->(∀xs n,o.data≠.seq xs n)->(∀ps,o.data≠.fields ps)->H b=none:=λ{b o} e d1 d2=>by
   cases q:H b with
   | none=>rfl
   | some u =>
    rcases hA b (by rw [q];simp) with e'|e'
    .subst e';rw [ha] at e;cases e;exact absurd rfl (d1 _ _)
    .rw [Z b e'] at e;cases e;exact absurd rfl (d2 _)
  have S:∀{b:Addr}{m:Str->Option Value},s₁.heap.Ns b m->(d6 s₁.heap H).Ns b m:=λ{b m} ⟨o,es,ep,e,d,r⟩=>{o,es,ep,J e (aI e (λ_ _=>by rw [d];nofun) (λ_=>by rw [d];nofun)),d,r};have ax:K.In (d6 s₁.heap H):=λb o e=>J (KX b o e) (by
   cases q:H b with
   | none=>rfl
   | some u =>
    rcases hA b (by rw [q];simp) with e'|e'
    .subst e';rw [hK (by rw [q];simp)] at e;cases e
    .rw [(hC b e').1] at e;cases e)
  have hM:Mod K mg (d6 s₁.heap H):={ax,S Xj,{mb,S G,a5},let ⟨mc,h1,h2⟩:=ai;{mc,S h1,h2}};have hB:gn mg (d6 s₁.heap H):=let ⟨bm,o,b1,b2,b3,b4,b5,b6,b7⟩:=a4;{bm,o,b1,b2,b3,J b4 (aI b4 (λ_ _=>by rw [b7];nofun) (λ_=>by rw [b7];nofun)),b5,b6,b7};have e0:fT P w K mg (d6 s₁.heap H) callerA [] s₁ H:={rfl,.inl rfl,hM,λb o e=>Kz e,TQ (JL _ _),trivial,λb G=>absurd (show b∈([]:List Addr) from G) 'z',hok,.of_eq hg};refine Qt ((F _ ax (S Xj) hB).run callerA [] s₁ H {[.ref a],[]} [.ref a] [.ref a] _ _ hr e0 (Yv s₁ (.ref a)) (.cons rfl .nil) (Xk H av hS)) λr s' h=>?_;cases r with
  | error e=>exact (a3 H e s' h).elim
  | ok fl =>
   cases fl with
   | next=>exact False.elim h
   | brk=>exact False.elim h
   | cont=>exact False.elim h
   | ret u =>
    obtain ⟨v,H',os,bare,un,U,r',q⟩:=h;have q':v = .bl true:=q;subst q';obtain rfl:u=RY true:=r';have W:∀b,b∈ts->∃more:Array Value,s'.heap.get? b=some (tabObj (#[]++more)):=λb G=>by
     obtain ⟨more,z⟩:=un.tbls b #[] (av b G);exact {more,U b _ z}
    refine {rfl,{λb o e=>?_,λb o e=>un.there b o e 'z'},os,bare};cases q:H b with
    | none=>exact .inl (un.keep b o e q (by intro z;exact absurd (show b∈([]:List Addr) from z) 'z') 'z')
    | some u =>
     rcases hO b with z|⟨ob,xs,z⟩|⟨G,z⟩
     .rw [q] at z;cases z
     .have z2:=un.frzs b ob _ z;obtain ⟨e1,_⟩:=hok b _ z;obtain ⟨e2,_⟩:=U b _ z2;rw [e] at e1;cases e1;exact .inl e2
     .obtain ⟨more,g⟩:=W b G;have e2:=Z b G;rw [e] at e2;cases e2;obtain ⟨_,c,hc⟩:=hC b G;exact .inr (.inl {((codeHd_of_K KX hc).tab (Z b G)).isCodeTable,rfl,#[],more,rfl,g})
 cases hk:K.lookup a with
 | some o =>
  have e:=KX a o hk;rw [ha] at e;cases e;refine Xo (λb=>if b∈ts then some (.tbl #[]) else none) (λb=>?_) (λT h=>if_pos h) (.inr {_,vs.toArray,_,hk,rfl,rfl,rfl,by rw [OR,a0];exact hl,by simpa using rv}) (λb u z=>?_) (λb z=>?_) λz=>absurd (if_neg aT) z
  .by_cases G:b∈ts
   .exact .inr (.inr {G,if_pos G})
   .exact .inl (if_neg G)
  .by_cases G:b∈ts
   .have z':=(if_pos G).symm.trans z;cases z';exact Z b G
   .have z':=(if_neg G).symm.trans z;cases z'
  .by_cases G:b∈ts
   .exact .inr G
   .exact absurd (if_neg G) z
 | none =>
  refine Xo (λb=>if b=a then some (.frz { cls:=.type "list",data:=.seq vs.toArray } (.lst (ns.map V.int))) else if b∈ts then some (.tbl #[]) else none) (λb=>?_) (λT h=>?_) (.inl (.inr {{ cls:=.type "list",data:=.seq vs.toArray },if_pos rfl})) (λb u z=>?_) (λb z=>?_) λ_=>hk
  .by_cases G:b=a
   .exact .inr (.inl {_,_,if_pos G})
   .by_cases O:b∈ts
    .exact .inr (.inr {O,by rw [if_neg G,if_pos O]})
    .exact .inl (by rw [if_neg G,if_neg O])
  .rw [if_neg (λz=>aT (by rw [<- z];exact h)),if_pos h]
  .by_cases G:b=a
   .have z':=(if_pos G).symm.trans z;cases z';subst G;exact {ha,by rw [OA];exact hl,vs,_,rv,ha}
   .have z1:=(if_neg G).symm.trans z;by_cases O:b∈ts
    .have z2:=(if_pos O).symm.trans z1;cases z2;exact Z b O
    .have z2:=(if_neg O).symm.trans z1;cases z2
  .by_cases G:b=a
   .exact .inl G
   .by_cases O:b∈ts
    .exact .inr O
    .exact absurd (show (if b=a then _ else if b∈ts then _ else none)=none by rw [if_neg G,if_neg O]) z
theorem walk_ofT{l:PySem.W.OpenLaw}{n k:Nat}{d:DefRec}{K:Params->Ow}{CX:OS->CXT}{sp:OS->Sp}{ts:List Addr}(hn:l.most=some n)(ax:n<=sizeLine)(av:d.params.defaults=[])(hr:zE true k callerA)(hY:∀(w:OS)(h:Heap),YP w h->(K w.params).In h/\∀T∈ts,h.get? T=some (tabObj #[]))(F:∀(w:OS)(mg:Str->Option Value)(O:Addr)(h:Heap),(K w.params).In h->h.Ns OB mg->mg d.name=some (.ref O) ->
   ∃fd:OG,(∀(s:KE)(u:Value),BindsTo s fd {[u],[]} [(x,u)])/\(∀T∈ts,(K w.params).lookup T=none/\∃c,Uo (K w.params) c T=true) /\
    ∀base:Heap,(K w.params).In base->base.Ns OB mg->gn mg base->zq l.prog w (K w.params) mg base (CX w) true k O fd [x] (sp w))(Xk:∀(w:OS)(H:Hp)(a:Addr)(ns:List Int),ns.length<=n->(∀T∈ts,H T=some (.tbl #[]))->SqL (K w.params) H a (ns.map V.int)->sp w [.ref a] H (λv _=>v = .bl true) λ_ _ _=>False)(Z:∀(w:OS)(H:Hp)(s:KE)(e:Value)(s':KE),CX w [] H s (λ_ _ _=>False) e s'->False):
  PySem.W.WalkO q XZ XP YP l.row.toRowW d [] (λf vs=>PySem.call f vs):=by
 refine Att.attach_call hn av λw s₀ s₁ mg mb O o pm cd Yd a vs ns G Y ho hd hcd U J W0 ZO hg=>?_;obtain ⟨KX,hT⟩:=hY w _ Y;obtain ⟨fd,hb,hC,hF⟩:=F w mg O _ KX G.T.g U;have ai:gn mg s₁.heap:=by
  obtain ⟨bm,ob,b1,b2,b3,b4,b5,b6⟩:=G.T.bmain;refine {bm,ob,b1,b2,λz=>?_,b3,b4,b5,b6};obtain ⟨og,es,ep,eg,S,_⟩:=G.T.g;rw [z,eg] at b3;cases b3;rw [S] at b6;cases b6
 exact IJ hT hC ai KX G.T.g G.T.b G.T.builtins G.T.nolimit hg J W0 (Pt ZO ax) hr hF hb (λH hO hS=>Xk w H a ns ZO hO hS) λH e s'=>Z w H s₁ e s'
theorem Fun.fI{K:Ow}{st:Stmt}{k:Nat}(F:Fun K x qual st f fd)(z:fd.code = .ref c)(S:zx N ps (zo st))(len:∀vs H Q E,sp vs H Q E->vs.length=ps.length)(O:∀(A:OQ)(outer:List Env)(s:KE)(H:Hp)(vs:List V)(Q:VK)(E:XK),zE cm k (A.deeper (QR qual (zo st) s.heap.objs.size f (.ref c)))->sp vs H Q E ->
   ∃t,PSs (bF CX0 cm P w K mg base N qual (zo st) f (.ref c) A outer s H E).ee (cS st) t/\t { nx:=λ_ H'=>Q .non H',rt:=Q } (start N vs) H):zq P w K mg base CX0 cm (k+1) f fd ps sp:=by
 obtain ⟨oc,W,kV,U,pm,Z,J,ct,W8,rfl,lk,hcd⟩:=F.ex;have e:J = .ref c:=z;subst e;refine j7 lk hcd S len λA outer s H vs Q E hr G=>?_;obtain ⟨t,h,q⟩:=O A outer s H vs Q E hr G;exact ⟨t,h.ee,q⟩
section
variable {X:Cx}
theorem JG{k:Nat}{p pos YY kp U p2 Z J S:Pos}(LB:eQ X.mg X.base X.env.code P)(hr:zE cm k X.A)(hg:Gl X "sorted")(hm:X.mg "sorted"=none)(ha:W (PE X a ta))(XU:Ue F X.env=([],[]))(Xi:RG scope X.env=pure [])(Yv:∀(q:Str)(pm cd ct v:Value),SY (kla_fn "<lambda>" q F (.Subscript (.Subscript (.Name x U) (.Constant (.int 0) O p2) Z) (.Constant (.int 1) j2 J) S) scope [] pm cd ct) {[v],[]}=pure [(x,v)])(WR:scope.names=[(x,.local)])(Yl:scope.kind = .function)(G:scope.isCoroutine=false)(z:scope.isGenerator=false)(hp:af a=true:=by rfl)(Zr:'g'=false:=by decide):
  W (PE X (.Call (.Name "sorted" p) [a] [{some (Ox "key"),.Lambda F (.Subscript (.Subscript (.Name x U) (.Constant (.int 0) O p2) Z) (.Constant (.int 1) j2 J) S) scope YY,kp}] pos) (si P YY (X.env.qual++"<lambda>") ta)):={Gx LB hr hg hm ha.h XU Xi Yv WR Yl G z hp Zr}
def ja(K:Ow)(D:Addr)(tb:(Addr->St->Hp->Prop)->TS)(ts:TS):TS:=λZ σ H =>
 tb (λC z H'=>aZ K C/\Rt K C (.ref D)=some true/\∀ea oe,H' ea=none->dS C oe->ts Z z (upd H' ea (.frz oe (.own 0)))) Z σ H
theorem NY(hc:X.calm=true)(Yj:X.ex=[])(Y5:X.stack=X.env::X.outer/\X.env.frame=some X.env.locals)(OD:aZ X.K D)(hg:Gl X x)(hm:X.mg x=some (.ref D))(hb:∀Go Ex,PSs (g6 X Go Ex) ZV (tb Ex))(hs:∀Go ea,PSs (dA X Go ea) (G::Y4) ts)(Zr:'g'=false:=by decide):
  PS X (.Try ZV [.ExceptHandler (some (.Name x np)) none (G::Y4) X3] [] [] pos) (ja X.K D tb ts):=by
 intro Go s σ H Z I h;have hh:X.A.handled=none:=I.ok.hd hc;refine wpAny_Try_except (OZ (hb Go _ [] s σ H Z (I.p.UT _) h) (λf s1 q=>?_) λe s1 q=>?_)
 .cases f with
  | next =>
   obtain ⟨F,H',J,q⟩:=q;exact Rm {F,H',Inv.d8 I.ok J.Da,q}
  | brk=>obtain ⟨F,H',J,q⟩:=q;exact {F,H',Inv.d8 I.ok J.Da,q}
  | cont=>obtain ⟨F,H',J,q⟩:=q;exact {F,H',Inv.d8 I.ok J.Da,q}
  | ret u=>obtain ⟨v,F,H',J,r,q⟩:=q;exact {v,F,H',Inv.d8 I.ok J.Da,r,q}
 .obtain ⟨ea,C,B,H',fl,F,sI,rfl,J,y,os,bare,hB,up,OC,sub,WV⟩:=q;have fr:X.A.frames=some (X.env::X.outer):=by rw [I.ok.frames,Y5.1]
  rw [Y5.1] at y;refine kZ fr Y5.2 y λh2 y2 u2=>gv (s:={ s1 with heap:=h2 }) y2 λh3 y3 u3=>?_;have aI:aY H' B X.stack ea (.ref C) .none h3:=by rw [Y5.1];exact y3
  have W:=(up.trans u2).trans u3;obtain ⟨_,a0,c3,g3,J3⟩:=gY (s':={ s1 with heap:=h3 }) Yj J aI os bare hB W;obtain ⟨av,cC,eC⟩:=OC.obj J3.UQ;obtain ⟨a3,cD,eD⟩:=OD.obj J3.UQ;have XW:av.mro.contains (.ref D)=true:=by
   unfold Rt at sub;rw [cC] at sub;simp only [Su] at sub;split at sub
   .cases sub
   .exact O6.inj sub
  refine SI (Sf (di (X:=dA X Go ea) J3 hg hm ?_ Zr)) (by intro q;cases q);refine pE (h:=h3) (g:=s1.gens) (d:=s1.drawn) (t:=s1.toks) (os:=s1.os) eC eD g3 c3.1 XW ?_;refine codeAny_handlers_suite ?_;refine gv (s:={ s1 with heap:=h3 }) y3 λh4 y4 u4=>?_;have ax:aY H' B X.stack ea (.ref C) .none h4:=by rw [Y5.1];exact y4
  obtain ⟨aT,ai,c4,g4,J4⟩:=gY (s':={ s1 with heap:=h4 }) Yj J ax os bare hB (W.trans u4);refine OZ (hs Go ea [] _ _ _ _ J4 (WV ea ai aT c4)) (λf s6 q6=>?_) λ_ _ z=>z.elim;cases f with
  | next=>obtain ⟨S,H7,U,O⟩:=q6;exact {_,_,Inv.Vn I.ok hh U,O}
  | brk=>obtain ⟨S,H7,U,O⟩:=q6;exact {_,_,Inv.Vn I.ok hh U,O}
  | cont=>obtain ⟨S,H7,U,O⟩:=q6;exact {_,_,Inv.Vn I.ok hh U,O}
  | ret u=>obtain ⟨v,S,H7,U,r7,O⟩:=q6;exact {v,_,_,Inv.Vn I.ok hh U,r7,O}
theorem Hu(U:X.calm=true)(J:X.ex=[])(Z:X.stack=X.env::X.outer/\X.env.frame=some X.env.locals)(OD:aZ X.K D)(O:Gl X x)(hm:X.mg x=some (.ref D))(S:∀Go Ex,W (PSs (g6 X Go Ex) F (tb Ex)))(hs:∀Go ea,W (PSs (dA X Go ea) (z::G) ts))(Zr:'g'=false:=by decide):
  W (PS X (.Try F [.ExceptHandler (some (.Name x np)) none (z::G) X3] [] [] pos) (ja X.K D tb ts)):={NY U J Z OD O hm (λGo Ex=>(S Go Ex).h) (λGo ea=>(hs Go ea).h) Zr}
theorem Fc{K:Ow}:ja K D tb ts Z σ H=tb (λC z H'=>aZ K C/\Rt K C (.ref D)=some true/\∀ea oe,H' ea=none->dS C oe->ts Z z (upd H' ea (.frz oe (.own 0)))) Z σ H:=rfl
def rM:List V->Hp->VK->Prop:=λxs H Q=>∃i,xs=[.int i]/\Q (.int (if i<0 then -i else i)) H
theorem Kw:rM [.int i] H Q=Q (.int (if i<0 then -i else i)) H:=by simp [rM]
theorem vS:zY X (.builtin "abs") rM:=by
 intro Go s σ H xs us Q I r h;obtain ⟨i,rfl,q⟩:=h;obtain ⟨u,rfl,t,rfl⟩:=cT r;exact call_abs_int λu tk=>{.int _,H,I.tok tk,{_,rfl},q}
end
theorem Cz{p:Addr}:oY c (.int i) (.ref p) H Q = ∃kvs,Rd H p (.dK kvs)/\Q (.bl (if c then !(aH kvs (.inl i)).isSome else (aH kvs (.inl i)).isSome)) H:=by
 apply propext;constructor
 .rintro ⟨a,k,kvs,F,z,h,q⟩;cases F;cases k with
  | inl i=>cases z;exact ⟨kvs,h,q⟩
  | inr x=>cases z
 .rintro ⟨kvs,h,q⟩;exact {p,.inl i,kvs,rfl,rfl,h,q}
noncomputable def fE(f:Nat->Int):Nat->Option Int
 | 0=>none
 | j+1=>some (match fE f j with|none=>f j|some m=>if f j>m then f j else m)
def k9:Option Int->Array Value->Prop|none,its=>its = #[]|some m,its=>∃t,its = #[.int m t,.int m t]
def su(d:Value):Option Int->Value->Prop|none,v=>v=d|some m,v=>∃t,v = .int m t
section
variable {prog:OF}{w:OS}{A:OQ}{E:Value->KE->Prop}{s:KE}
theorem Cu{St:Nat->Heap->Prop}{d:Value}(W:Walks prog w A.in1 I fp wr n P St)(f:Nat->Int)(hv:∀i v,P i v->∃t,v = .int (f i) t)(S:Addr)(aT:S∉fp)(WT:0<n\/kw=[(Ox "default",d)]):
  ∀(k j:Nat)(s:KE)(c:Nat)(its:Array Value),n-j=k->j<=n->St j s.heap->k9 (fE f j) its ->
  s.heap.get? S=some { cls:=.type "list",dict:=none,data:=.seq its c,slots:=#[] } ->
  (∀v h' tk,su d (fE f n) v->(∀b o,b∉wr->b≠S->s.heap.get? b=some o->h'.get? b=some o)->R (.ok (.ret v)) { s with heap:=h',toks:=tk }) ->
  QC (OK prog w) A (.builtin "max.loop" {[.ref I,.none,.ref S],kw}) R s:=by
 have aI:S∉wr:=λh=>aT (W.sub _ h);have YL:(toString "max"++toString ".loop":String)="max.loop":=by decide
 intro k
 induction k with
 | zero =>
  intro j s c its hk hj hst hC hS hR;have Xh:j=n:=by lia
  refine Qy F.entry_max_loop ?_;rw [OQ.under_plainId F.plain_max_loop _];show OE _ A.in1 (SQ (.ref S)>>=_) _ _ s;refine we (QV hS rfl ?_);show OE _ A.in1 (tryCatch (Rh (.ref I)) _>>=_) _ _ s;refine we (QU (W.done s _ _ (Xh ▸ hst) λh' tk XY=>?_));have Yx:=XY S _ aI hS;rw [Xh] at hC;cases J:fE f n with
  | none =>
   rw [J] at hC hR;cases (show its = #[] from hC);have h0 : ¬ 0<n:=λz=>by
    cases n with
    | zero=>lia
    | succ m=>cases J
   rcases WT with z|rfl
   .exact absurd z h0
   show OE _ A.in1 (rule _>>=_) _ _ _;exact we (QW (Ot (hR d _ tk rfl λb o G _ e=>XY b o G e)))
  | some m =>
   rw [J] at hC hR;obtain ⟨t,rfl⟩:=hC;show OE _ A.in1 (TK S (λ_=>#[])>>=_) _ _ _;refine we (QP Yx rfl (we (RA (Ot ?_))));exact hR _ _ tk {t,rfl} λb o G Xf e=>(OW _ _ (Pd Xf)).trans (XY b o G e)
 | succ k ih =>
  intro j s c its hk hj hst hC hS hR;have ZD:j<n:=by lia
  refine Qy F.entry_max_loop ?_;rw [OQ.under_plainId F.plain_max_loop _];show OE _ A.in1 (SQ (.ref S)>>=_) _ _ s;refine we (QV hS rfl ?_);show OE _ A.in1 (tryCatch (Rh (.ref I)) _>>=_) _ _ s;refine we (QU (W.item j s _ _ ZD hst λv h' tk hP av XY=>?_));have Yx:=XY S _ aI hS;obtain ⟨t,rfl⟩:=hv j v hP;have O:∀{b o}{g:Array Value->Array Value},b≠S->h'.get? b=some o->(h'.update S (Um g)).get? b=some o:=λn e=>(OW _ _ (Pd n)).trans e;have ax:∀{g:Array Value->Array Value},St (j+1) (h'.update S (Um g)):=λ{g}=>W.frame _ _ _ av λb J o e=>O (λz=>aT (z ▸ J)) e;cases J:fE f j with
  | none =>
   rw [J] at hC;cases (show its = #[] from hC);show OE _ A.in1 (TK S (λ_=>#[.int (f j) t,.int (f j) t])>>=_) _ _ _;refine we (QP Yx rfl ?_);rw [YL];refine Ot {Qe F.plain_max_loop _,ih (j+1) _ _ _ 'l' ZD ax ?_ (Pq _ Yx rfl) λv' h2 Z U ai=>?_}
   .show k9 (some _) _;rw [J];exact {t,rfl}
   .exact hR v' h2 Z U λb o G Xf e=>ai b o G Xf (O Xf (XY b o G e))
  | some m =>
   rw [J] at hC;obtain ⟨u,rfl⟩:=hC;show OE _ A.in1 (tryCatch (QA [.int (f j) t,.int (f j) t] (richCompare .Gt (.int (f j) t) (.int m u)>>=_)) _>>=_) _ _ _;obtain ⟨bt,Xt,a0⟩:∃bt:Nat->Nat->Bool,bt 0 1=decide (f j>m)/\CmpOf prog w A.in1 .Gt (λi v=>(i=0/\v = .int (f j) t)\/(i=1/\v = .int m u)) bt:={_,rfl,CmpOf.ints_gt (λi=>if i=0 then f j else m) λi v h=>by rcases h with ⟨rfl,rfl⟩|⟨rfl,rfl⟩<;>exact {_,rfl}};refine we (QU (OT (we (a0 0 1 _ _ _ _ _ (.inl {rfl,rfl}) (.inr {rfl,rfl}) ?_))));refine we (OT (Qi ?_));refine we (RA (Ot ?_));by_cases hg:f j>m
   .rw [Xt,decide_eq_true hg];simp only [if_true];refine we (QP Yx rfl (we (RA ?_)));rw [YL];refine Ot {Qe F.plain_max_loop _,ih (j+1) _ _ _ 'l' ZD ax ?_ (Pq _ Yx rfl) λv' h2 Z U ai=>?_}
    .show k9 (some _) _;rw [J];simp only [if_pos hg];exact {t,rfl}
    .exact hR v' h2 Z U λb o G Xf e=>ai b o G Xf (O Xf (XY b o G e))
   .rw [Xt,decide_eq_false hg];simp only [QH,if_false];refine we (RA ?_);rw [YL];refine Ot {Qe F.plain_max_loop _,ih (j+1) _ _ _ 'l' ZD av ?_ Yx λv' h2 Z U ai=>?_}
    .show k9 (some _) _;rw [J];simp only [if_neg hg];exact {u,rfl}
    .exact hR v' h2 Z U λb o G Xf e=>ai b o G Xf (XY b o G e)
theorem Eg(a d:Value):Ug "max" {[a],[(Ox "default",d)]}:=by unfold Ug;kernel_rfl
theorem BK{d:Value}(hh:A.handled=none)(hl:s.heap.IsList l its)(hv:∀(i:Nat) v,its[i]?=some v->∃t,v = .int (f i) t)(W:(0<its.size/\kw=[])\/kw=[(Ox "default",d)])(h:∀v h' tk,su d (fE f its.size) v->(∀b o,s.heap.get? b=some o->h'.get? b=some o)->Q v { s with heap:=h',toks:=tk }):
  OE (OK prog w) A (call (.builtin "max") [.ref l] kw) Q E s:=by
 have YL:(toString "max"++toString ".loop":String)="max.loop":=by decide
 have ZD:l<s.heap.objs.size:=by obtain ⟨_,e,_⟩:=hl;exact OX e
 have Z:Ug "max" {[.ref l],kw}:=by
  rcases W with ⟨_,rfl⟩|rfl
  .exact F.args_max1 _
  .exact Eg _ _
 refine PyProof.Rows.kmk_tree F.kind_max F.plain_max F.entry_max Z ?_;obtain ⟨J,U,hdk⟩:∃J:Option Value,OO.Builtins.bindParams "max" ["key","default"] 0 ⟨[],kw⟩=pure [none,J]/\(J.toList.map λd=>((Ox "default":Str),d))=kw:=by
  rcases W with ⟨_,rfl⟩|rfl
  .exact {none,rfl,rfl}
  .exact {some d,rfl,rfl}
 show OE _ A.in1 (OO.Builtins.bindParams "max" ["key","default"] 0 {[],kw}>>=_) _ _ s;refine we (Td U ?_);refine we (Ot ?_);refine we (Rv hl ?_);refine we (Pm ?_);rw [YL];have S:(s.heap.push { cls:=.type "list_iterator",data:=.fields #[.ref l,.int 0 0] }).objs.size=s.heap.objs.size+1:=Sj ..;have O:l≠s.heap.objs.size:=Pe ZD;refine Ot {Qe F.plain_max_loop _,?_};show QC _ A (.builtin "max.loop" {[_,.none,_],J.toList.map λd=>((Ox "default":Str),d)}) _ _;rw [hdk];refine Cu (Walks.list (A:=A.in1) hh _ l O its) f hv _ (λG=>?_) (W.imp (·.1) id) _ 0 _ _ #[] rfl (Pp _) {{_,Ou _ (ON _ rfl),rfl,rfl},(hl.push _).push _} rfl (ON _ rfl) λv h' tk hr hk=>?_
 .rcases OL.mp G with e|G
  .rw [S] at e;exact absurd e (RD (Ri _))
  .rcases OL.mp G with e|G
   .rw [S] at e;exact absurd (e ▸ Rr ZD) (O9 _)
   .cases G
 .refine h v h' tk hr λb o e=>hk b o (λG=>?_) (λz=>?_) (Ou _ (Ou _ e))
  .rcases OL.mp G with e1|G
   .exact absurd (e1 ▸ OX e) (O9 _)
   .cases G
  .have:=OX e;rw [z,S] at this;exact absurd this (Tt.mpr (R9 _))
end
section
variable {X:Cx}
def oi:Option Int->V|none=>.non|some m=>.int m
noncomputable def pj:List V->Hp->VK->Prop:=λxs H Q=>qw xs H Q\/∃(l:Addr)(ks:List Int),xs=[.ref l]/\H l=some (.lst (ks.map V.int))/\0<ks.length/\Q (oi (fE (λi=>ks.getD i 0) ks.length)) H
theorem EC{ks:List Int}(r:zu (ks.map V.int) its):∀(i:Nat) v,its.toArray[i]?=some v->∃t,v = .int (ks.getD i 0) t:=by
 intro i v h;rw [<- Qf] at h
 replace h:its[i]?=some v:=h
 induction ks generalizing its i with
 | nil=>cases r;simp at h
 | cons k ks F =>
  cases r with
  | cons r z =>
   cases i with
   | zero=>obtain ⟨t,rfl⟩:=r;simp at h;subst h;exact {t,rfl}
   | succ i=>exact F z i (by simpa using h)
theorem JX{o:Option Int}(h:su .none o v):zp (oi o) v:=by
 cases o with
 | none=>cases (show v = .none from h);rfl
 | some m=>obtain ⟨t,rfl⟩:=h;exact {_,rfl}
theorem AD(G:X.calm=true):zY X (.builtin "max") pj:=by
 intro Go s σ H xs us Q I r h;rcases h with h|⟨l,ks,rfl,hl,S,q⟩
 .exact M3 G Go s σ H xs us Q I r h
 .obtain ⟨u,rfl,J⟩:=cT r;cases J;obtain ⟨its,z,p,hz⟩:=I.list (SqL.of (K:=X.K) hl);have F:=z.length;rw [OA] at F;refine BK (d:=.none) (f:=λi=>ks.getD i 0) (I.ok.hd G) p.isList (EC z) (.inl {by rw [OR];lia,rfl}) λv h' tk hr O=>{_,H,I.kept O,JX hr,?_};rw [OR,<- F];exact q
theorem Kd:pj [.int i,.int j] H Q=Q (.int (if j>i then j else i)) H:=by
 apply propext;constructor
 .rintro (h|⟨l,ks,e,_⟩)
  .rw [rN] at h;exact h
  .cases e
 .exact λq=>.inl (by rw [rN];exact q)
theorem NT:pj [.ref l] H Q = ∃ks:List Int,H l=some (.lst (ks.map V.int))/\0<ks.length/\Q (oi (fE (λi=>ks.getD i 0) ks.length)) H:=by
 apply propext;constructor
 .rintro (⟨i,j,e,_⟩|⟨z,ks,e,h⟩)
  .cases e
  .cases e;exact ⟨ks,h⟩
 .rintro ⟨ks,h⟩;exact .inr {l,ks,rfl,h}
end
end L2
namespace L2
open PySem PySem.Spec PyProof.Rows PySem.W
end L2
namespace L2
open PySem PySem.Spec PyProof.Rows
noncomputable def tDC(ix:List (Option Nat))(wi:TI)(g:TG)(tt:TT)(tk tv:TE):TE:=λσ H Q=>wi σ H λJ H1=>∃W:Nat->Nat->St->List (Key×V)->Hp->Prop,(∃m,W 0 m (cb ix σ) [] H1)/\∀i m τ ys H2,W i m τ ys H2->ys.length<sizeLine /\
 ((J.stop i H2 ∧ ∀ D, H2 D = none → D ≠ sysModules → Q (.ref D) (upd H2 D (.dK ys))) ∨
  (J.go i H2 ∧ ∀ x H3, J.d7 i H2 x H3 → g x τ H3 fun F H4 => tt F H4 fun ok H5 => if ok = true then tk F H5 fun y H6 => tv F H6 fun z H7 => uK y fun k => ∃ G, G < m ∧ W (i + 1) G F (aU ys k z) H7 else ∃ G, G < m ∧ W (i + 1) G F ys H5))
theorem AY{W:OU}{tk tv:TE}(hc:c=true->X.calm=true)(L:ay X sc N' ix)(hi:PIc c X tg iter wi)(hg:∀Go C fp s H,PG 'b' tg g)(ht:∀Go C fp s H,PTs 'b' G tt)(hk:∀Go C fp s H,PE 'b' W tk)(hv:∀Go C fp s H,PE 'b' J tv)(hs:∀x,O8 iter X.env x=pure x)(I:Inv X Go σ H s)(h:tDC ix wi g tt tk tv σ H Q)(kk:∀(C D:Addr)(oC:Obj)(H':Hp)(s5:KE)(m5:Str->Option Value),Inv X (Go++[(C,oC)]) σ H' s5->(∀{hp:Heap},hp.get? C=some oC->hp.Ns C m5)->(∀{U:St}{F:Hp}{s':KE}{h':Heap},Inv X Go U F s'->F C=none->Qj C s'.heap h'->Inv X Go U F { s' with heap:=h' })->Q (.ref D) H'->compPost 'c' X.A X.xe use R (.ref D) C (.ok .next) s5):
  OE 'c' X.A (Sw (.DictComp W J [{tg,iter,G,0}] sc pos) sc X.env (SN [{tg,iter,G,0}] pos) newDict (Ud [{tg,iter,G,0}]) (firstIter [{tg,iter,G,0}] X.env) use) R X.xe s:=by
 refine yd (e:=.DictComp W J [{tg,iter,G,0}] sc pos) (em:=λD env=>do
  let kv<-PH W env
  let vv<-QA [kv] (PH J env)
  QM { W.pos with endLine:=J.pos.endLine,endCol:=J.pos.endCol }
  QA [kv,vv] (dictSet D kv vv)) (T:="dict") (dt:=.dict #[]) R8 HO.dK [] (λys o=>∃vs es ep,KV ys vs/\o.ExactDict/\o.data = .dict es ep/\KeysOf (bg X.prog X.w) es/\Pairs (bg X.prog X.w) es.toList vs/\(vs.map (·.1)).Nodup) (λK ys τ H=>tk τ H λy H6=>tv τ H6 λz H7=>uK y λk=>K (aU ys k z) H7) rfl (by size_fits) (λ_ _ _=>{λ_=>rfl,rfl}) codeAny_compStart_dict ?_ rfl ?_ ?_ ?_ hc L hi hg ht hs I h kk
 .obtain ⟨o,es,ep,e,r⟩:=Heap.DictOf.new (knd:=bg X.prog X.w) s.heap;rw [ON _ rfl] at e;cases e;exact {[],es,ep,.nil,r}
 .rintro ys o ⟨vs,es,ep,_,_,d,_⟩ v z;rw [d] at z;cases z
 .rintro ys o H' h D ⟨vs,es,ep,rv,dx,r⟩ hl n e;exact {Sa hl,by simpa using n,vs,rv,o,es,ep,e,dx,r}
 .rintro Go C fp s H pins' s8 τ H8 ys ob D K I8 q8 ⟨vs,es,ep,rv,r⟩ hl hD;refine we (thn (hk Go C fp s H _ s8 τ H8 _ I8 q8) λy s9=>x5e λyv H9 I9 r9 q9=>we (OT (thn (hv Go C fp s H _ s9 τ H9 _ I9 q9) λz Z=>x5e λzv H10 O ai XF=>?_)));obtain ⟨kk,ek,w'⟩:=XF;subst ek;have lv:vs.length<sizeLine:=by rw [<- rv.length];exact hl
  refine we (Pl (OT (wpAny_dictSet_pairs (hsz:=Sa lv) (il r9) {ob,es,ep,(O.pin _ (Oy _ hD)).1,r} λaI S sb=>?_)));obtain ⟨o2,ax,av,e2,r2⟩:=S;exact {Z,_,H10,o2,aI,Z.toks+1,rfl,w',O,{_,ax,av,rv.put kk ai,r2},e2,sb}
theorem K6{tk tv:TE}(hc:c=true->X.calm=true)(L:ay X sc N' ix)(hi:PIc c X tg iter wi)(W:∀Go C fp s H,PG 'b' tg g)(ht:∀Go C fp s H,PTs 'b' O tt)(hk:∀Go C fp s H,PE 'b' G tk)(hv:∀Go C fp s H,PE 'b' J tv)(hs:∀x,O8 iter X.env x=pure x:=by intro _;rfl):PE X (.DictComp G J [{tg,iter,O,0}] sc pos) (tDC ix wi g tt tk tv):=by
 intro Go s σ H Q I h;rw [arm_eval_DictComp];refine AY (use:=none) hc L hi W ht hk hv hs I h λC D U H' s5 m5 F ns tu q=>?_;obtain ⟨Z,z,_⟩:=F.pin (C,U) (Oy _ (Oy _ (O3.mpr rfl)));exact {m5,ns Z,λh' S=>{.ref D,H',tu (F.Ut λp hp=>F.pin p (Oy _ (Pb _ hp))) z S,rfl,q}}
end L2
namespace L2
open PySem PySem.Spec PyProof.Rows PySem.W PySem.Calls
section
variable {X:Cx}
noncomputable def ik(kvs:List (Int×V)):List (Key×V):=kvs.map λp=>(.inl p.1,p.2)
noncomputable def AB:List V->Hp->VK->Prop:=λxs H Q=>uR1 xs λa=>∃kvs:List (Int×V),Rd H a (.dK (ik kvs))/\kvs.length<64/\∀p (ns:List Int) H2,New H p (.lst (ns.map V.int)) H2->ns.Perm (kvs.map (·.1))->ns.Pairwise (·<=·)->Q (.ref p) H2
theorem B5:AB [.ref a] H Q = ∃kvs:List (Int×V),Rd H a (.dK (ik kvs))/\kvs.length<64/\∀p (ns:List Int) H2,New H p (.lst (ns.map V.int)) H2->ns.Perm (kvs.map (·.1))->ns.Pairwise (·<=·)->Q (.ref p) H2:=iB
theorem As:∀{vs:List Value}{ns:List Int},vs.length=ns.length->(∀(j:Nat)(v:Value),vs[j]?=some v->∃t,v=Rb (ns.getD j 0) t)->Ry vs ns
 | [],[],_,_=>.nil
 | [],_::_,h,_=>absurd h 'z'
 | _::_,[],h,_=>absurd h 'z'
 | v::vs,x::ns,h,f=>by
  obtain ⟨t,e⟩:=f 0 v rfl;have F:v=Rb x t:=e;rw [F];exact .cons x t (As (by simpa using h) λj u z=>f (j+1) u z)
theorem NF(hc:X.calm=true):zY X (.builtin "sorted") AB:=by
 intro Go s σ H xs us Q I r h;obtain ⟨a,rfl,kvs,hq,U,q⟩:=h;obtain ⟨u,rfl,ru⟩:=cT r;cases ru;obtain ⟨z,hd,vs,Y1,dd⟩:=dE I.hok hq;obtain ⟨ep,W⟩:=dd.dictAt;have ZO:vs.length=kvs.length:=by rw [<- Y1.length];simp [ik]
 refine call_function_entry kind_sorted plain_sorted entry_sorted (args_sorted1 _) ?_;unfold OO.«sorted»
 refine we (m:=checkCount "sorted" 1 1 _) (Ot (we (kdu_collect (A:=X.A.in1) (kdl_dict (knd:=bg X.prog X.w) (kvs:=vs) (ep:=ep) hd) (I.ok.hd hc) W (by rw [ZO,Qc];lia) λh' tk Z1 O Y6=>?_)));have hl:Z1.toList.length=kvs.length:=by rw [Qm,<- ZO];exact Y6.1
 have hS:Ry Z1.toList (kvs.map (·.1)):=As (by rw [hl,OA]) λj v hv=>by
  obtain ⟨k,x,hx,O⟩:=Y6.2 j v (by rw [<- Qf];exact hv);have hj:j<vs.length:=(OJ.mp hx).1;have F:j<kvs.length:=by lia
  have J:(ik kvs)[j]?=some (.inl kvs[j].1,kvs[j].2):=by simp [ik,F]
  obtain ⟨u',G,_⟩:=Y1.at J;rw [hx] at G;cases G;rcases dz (show fU (Sum.inl kvs[j].1) v=true from O) with ⟨i,t,e1,J⟩|⟨y,t,e1,J⟩
  .cases e1;exact {t,by rw [J,O5,O0,Os F];rfl}
  .cases e1
 have I1:Inv X Go σ H { s with heap:=h',toks:=tk }:=I.kept O;refine we (Tr ?_ (by rw [hl,Qc];lia));have Z:(h'.push (T5 "list" Z1.toList.toArray 0)).get? h'.objs.size=some (T5 "list" Z1.toList.toArray 0):=ON _ rfl;refine we (OT (PF slot_list_sort {_,Z,rfl} entry_list_sort (list_sort_tree Z hS (by rw [hl];exact U) λout Yi b1 b2 b3=>{_,rfl,?_}) (args_list_sort _)));obtain ⟨c,S⟩:=sortedHeap_at (vs:=Z1.toList) (out:=out) Z;refine Ot {_,rfl,.ref h'.objs.size,upd H h'.objs.size (.lst (Yi.map V.int)),I1.laid (a:=h'.objs.size) (t':=tk) (λb o e=>?_) (Ov _) {?_,out.toList,c,pB b1,by rw [SF];exact S},rfl,q _ Yi _ (.mk' (I1.hok.fresh (Ov _))) b2 b3}
 .have hb:b<h'.objs.size:=OX e;rw [sortedHeap_old (Pe hb) (by rw [Sj];exact Rr hb)];exact Ou _ e
 .have:=b2.length_eq;rw [OA,this,OA,Qc];lia
end
theorem w8{tk tv:TE}(O:c=true->X.calm=true)(L:ay X sc N' ix)(hi:W (PIc c X tg iter wi))(J:∀Go C fp s H,W (PG 'b' tg g))(U:∀Go C fp s H,W (PTs 'b' G tt))(S:∀Go C fp s H,W (PE 'b' z tk))(hv:∀Go C fp s H,W (PE 'b' F tv))(hs:∀x,O8 iter X.env x=pure x:=by intro _;rfl):W (PE X (.DictComp z F [{tg,iter,G,0}] sc pos) (tDC ix wi g tt tk tv)):={K6 O L hi.h (λa b c d e=>(J a b c d e).h) (λa b c d e=>(U a b c d e).h) (λa b c d e=>(S a b c d e).h) (λa b c d e=>(hv a b c d e).h) hs}
theorem Jo:rR (.ref a) (.int i) H Q = ∃kvs,Rd H a (.dK kvs)/\∃v,aH kvs (.inl i)=some v/\Q v H:=by
 apply propext;constructor
 .rintro ⟨G,k,kvs,v,F,z,h1,h2,q⟩;cases F;cases k with
  | inl j=>cases z;exact ⟨kvs,h1,v,h2,q⟩
  | inr x=>cases z
 .rintro ⟨kvs,h1,v,h2,q⟩;exact {a,.inl i,kvs,v,rfl,rfl,h1,h2,q}
section
variable {K:Ow}{g:TG}{tt:TT}{te tk tv:TE}{σ:St}{H:Hp}{wi:TI}{ix:List (Option Nat)}{Q:VK}
noncomputable def fc(J:It)(g:TG)(tt:TT)(tk tv:TE)(τ:St)(H:Hp)(Q:VK):Prop:=∃W:Nat->Nat->St->List (Key×V)->Hp->Prop,(∃m,W 0 m τ [] H)/\∀i m τ ys H2,W i m τ ys H2->ys.length<sizeLine /\
 ((J.stop i H2 ∧ ∀ D, H2 D = none → D ≠ sysModules → Q (.ref D) (upd H2 D (.dK ys))) ∨
  (J.go i H2 ∧ ∀ x H3, J.d7 i H2 x H3 → g x τ H3 fun F H4 => tt F H4 fun ok H5 => if ok = true then tk F H5 fun y H6 => tv F H6 fun z H7 => uK y fun k => ∃ G, G < m ∧ W (i + 1) G F (aU ys k z) H7 else ∃ G, G < m ∧ W (i + 1) G F ys H5))
theorem Gb:tDC ix wi g tt tk tv σ H Q=wi σ H λJ H1=>fc J g tt tk tv (cb ix σ) H1 Q:=rfl
noncomputable def jd(N:St->List (Key×V)->Hp->Prop)(ys:List (Key×V))(F:St)(tk tv:TE)(ok:Bool)(H5:Hp):Prop:=if ok=true then tk F H5 λy H6=>tv F H6 λz H7=>uK y λk=>N F (aU ys k z) H7 else N F ys H5
theorem Fw:jd N ys τ tk tv true H=tk τ H λy H6=>tv τ H6 λz H7=>uK y λk=>N τ (aU ys k z) H7:=rfl
theorem NN:jd N ys τ tk tv false H=N τ ys H:=rfl
theorem fc.lst{a:Addr}{xs:List V}{τ:St}(F:Nat->St->List (Key×V)->Hp->Prop)(hz:∀i τ ys H,F i τ ys H->ys.length<sizeLine)(ha:∀i τ ys H,F i τ ys H->SqL K H a xs)(O:F 0 τ [] H)
  (hs:∀(N:St->List (Key×V)->Hp->Prop) i x τ ys H,xs[i]?=some x->F i τ ys H->(∀τ ys H,F (i+1) τ ys H->N τ ys H)->g x τ H λz H4=>tt z H4 λok H5=>jd N ys z tk tv ok H5) (hd:∀τ ys H,F xs.length τ ys H->∀D H',New H D (.dK ys) H'->Q (.ref D) H'):fc (Itl K a) g tt tk tv τ H Q:=by
 refine {λi m τ ys H=>m=xs.length-i/\i<=xs.length/\F i τ ys H,{xs.length,'z',Pp _,O},?_};rintro i m τ ys H2 ⟨rfl,hi,p⟩;refine {hz i τ ys H2 p,?_};have q:=ha i τ ys H2 p;by_cases J:i<xs.length
 .refine .inr {{xs,xs[i],q,by simp [J]},λx H' y=>?_};obtain ⟨e,y⟩:=y;subst e;exact hs (λz ys H=>∃G,G<xs.length-i/\G=xs.length-(i+1)/\i+1<=xs.length/\F (i+1) z ys H) i x τ ys _ (y xs q) p λz zs H q=>{xs.length-(i+1),'l',rfl,J,q}
 .have e:i=xs.length:=by lia
  subst e;exact .inl {{xs,q,Ov _},λD S _=>hd τ ys H2 p D _ (.mk' S)}
end
end L2
namespace L2
open PySem PySem.Spec PyProof.Rows
def Ris(xs:Array Nat):Prop:=∀i j,i<j->j<xs.size->xs.getD i 0<xs.getD j 0
theorem Nf{xs:Array Nat}(h:i<xs.size):xs.getD i a=xs.getD i b:=by simp [getD,h]
structure wI(xs:Array Nat)(j b:Nat):Prop where
 le:b<=xs.size
 lo:∀i,i<b->xs.getD i 0<j
 hi:∀i,b<=i->i<xs.size->j<=xs.getD i 0
theorem qS(r:Ris xs):∀(f lo hi:Nat),lo<=hi->hi<=xs.size->hi<=lo+f->(∀i,i<lo->xs.getD i 0<j)->(∀i,hi<=i->i<xs.size->j<=xs.getD i 0)->wI xs j (OY.below.go xs j f lo hi)
 | 0,lo,hi,h1,h2,h3,a,b=>by
  have e:lo=hi:=by lia
  subst e;exact ⟨h2,a,b⟩
 | f+1,lo,hi,h1,h2,h3,a,b=>by
  unfold OY.below.go;split
  .rename_i h;have F:(lo+hi) / 2<xs.size:=by lia
   dsimp only;rw [Nf (a:=j) (b:=0) F];by_cases c:xs.getD ((lo+hi) / 2) 0<j
   .rw [if_pos c];refine qS r f ((lo+hi) / 2+1) hi 'l' h2 'l' (λi G=>?_) b;by_cases e:i=(lo+hi) / 2
    .subst e;exact c
    .have z:i<(lo+hi) / 2:=by lia
     exact Q6 (r i ((lo+hi) / 2) z F) c
   .rw [if_neg c];refine qS r f lo ((lo+hi) / 2) 'l' 'l' 'l' a λi G hs=>?_;by_cases e:i=(lo+hi) / 2
    .subst e;lia
    .have z:(lo+hi) / 2<i:=by lia
     have:=r ((lo+hi) / 2) i z hs;lia
  .have e:lo=hi:=by lia
   subst e;exact ⟨h2,a,b⟩
theorem pX(r:Ris xs)(j:Nat):wI xs j (OY.below xs j):=qS r _ _ _ (Pp _) (Ov _) 'l' (λi h=>by lia) λi h1 h2=>by lia
theorem Ba{p x i:Nat}(hp:p<=xs.size):(OY.insertAt xs p x).getD i 0=if i<p then xs.getD i 0 else if i=p then x else xs.getD (i-1) 0:=by
 have hl:(xs.toList.take p).length=p:=by rw [Qx,Qm];lia
 rw [QZ,<- Qf,OY.toList_insertAt];by_cases h:i<p
 .rw [if_pos h,List.getElem?_append_left 'l',List.getElem?_take_of_lt h,Qf,QZ]
 .rw [if_neg h,RJ 'l',hl];by_cases e:i=p
  .rw [if_pos e,e,TN];rfl
  .rw [if_neg e,show i-p=(i-1-p)+1 by lia,R3,List.getElem?_drop,Qf,QZ];congr 2;lia
theorem JW{p x:Nat}:(OY.insertAt xs p x).size=xs.size+1:=by
 have:=(OY.insertAt_perm xs p x).length_eq;simpa using this
theorem E4(r:Ris xs)(hn : ¬ xs[OY.below xs j]?=some j):Ris (OY.insertAt xs (OY.below xs j) j):=by
 have B:=pX r j;generalize OY.below xs j=p at B hn;have F:=B.le;intro a b J O;rw [JW] at O;rw [Ba F,Ba F];have G:∀i,p<=i->i<xs.size->j<xs.getD i 0:=λi h1 h2=>by
  have h3:=B.hi i h1 h2;by_cases e:i=p
  .subst e;rcases Nat.lt_or_eq_of_le h3 with z|z
   .exact z
   .exact absurd (by rw [PD h2]; have : xs.getD i 0 = xs[i] := by simp [getD, h2]
                     rw [z, this]) hn
  .have:=r p i 'l' h2;have:=B.hi p (Ov _) 'l';lia
 by_cases h1:b<p
 .rw [if_pos h1,if_pos 'l'];exact r a b J 'l'
 .rw [if_neg h1];by_cases h2:b=p
  .rw [if_pos h2,if_pos 'l'];exact B.lo a 'l'
  .rw [if_neg h2];by_cases h3:a<p
   .rw [if_pos h3];exact Q6 (B.lo a h3) (G (b-1) 'l' 'l')
   .rw [if_neg h3];by_cases h4:a=p
    .rw [if_pos h4];exact G (b-1) 'l' 'l'
    .rw [if_neg h4];exact r (a-1) (b-1) 'l' 'l'
structure cU(bt:Bool)(t:OY):Prop where
 led:t.led = !bt
 fD:t.dummies = #[]
 ft:Ris t.place
theorem sS:OY.has #[] j=false:=by simp [OY.has]
theorem Ko(n:Nat):Ris (Array.range n):=λi j h F=>by
 have z:j<n:=by simpa using F
 have G:i<n:=by lia
 simp [getD,G,z,h]
theorem ke{t:OY}(h:cU bt t)(n:Nat):cU bt (t.standIn n):={h.led,rfl,Ko n}
theorem JM{t:OY}(h:cU bt t)(n:Nat):cU bt (t.orStandIn n):=by
 unfold OY.orStandIn;split
 .exact h
 .exact ke h n
theorem GN{t:OY}(h:t.dummies = #[])(j:Nat):(t.slot j = .empty/\¬ t.place[OY.below t.place j]?=some j)\/∃i,t.slot j = .live i:=by
 unfold OY.slot;dsimp only;split
 .exact .inr {_,rfl}
 .rename_i z;rw [h,sS];exact .inl {rfl,by simpa using z}
theorem Bb{t:OY}(hd:t.dummies = #[]):∀(f:Nat)(p:OY.Probe)(j:Nat)(d:Option Nat),p.dummy=none->OY.probe.go t g h f p=some (.empty j d)->d=none/\¬ t.place[OY.below t.place j]?=some j
 | 0,p,j,d,_,e=>by cases e
 | f+1,p,j,d,hp,e=>by
  have z:∀q:OY.Probe,(t.advance q).dummy=q.dummy:=λq=>by
   unfold OY.advance;split
   .rfl
   .rfl
  unfold OY.probe.go at e;rcases GN hd p.j with ⟨h1,h2⟩|⟨i,h1⟩
  .rw [h1] at e;cases e;exact ⟨hp,h2⟩
  .rw [h1] at e;dsimp only at e;split at e
   .cases e
   .exact Bb hd f _ j d (by rw [z];exact hp) e
theorem FQ{t:OY}(h:cU bt t)(es:Array (Int×Value))(F:Int)(x:Value):cU bt (layNew t es F x).2.1:=by
 unfold layNew;split
 .rename_i slot wd e;refine JM ?_ _;unfold OY.freeSlot at e;split at e
  .rename_i j d G;obtain ⟨rfl,z⟩:=Bb h.fD _ _ _ _ rfl G;cases e;refine {h.led,?_,E4 h.ft z};show (if OY.has t.dummies j=true then _ else t.dummies) = #[];rw [h.fD,sS];rfl
  .cases e
 .exact ke h _
theorem FY{t:OY}(h:cU bt t)(es:Array (Int×Value))(n:Nat):cU bt (relayAll t es n).2.1:=by
 unfold relayAll;split
 .rename_i t' G e;dsimp only;split
  .unfold OY.relaid OY.laid at e;obtain ⟨owner,_,e⟩:=Option.bind_eq_some_iff.mp e;cases e;refine {h.led,rfl,λi j z F=>?_};have U:(((Qh (OY.sizeAbove n-1+1)).filterMap λj=>(owner.getD j none).map (j,·)).map (·.1)).Pairwise (· < ·):=by
    rw [List.pairwise_map];refine List.Pairwise.filterMap _ (λa W J b O Z S=>?_) List.pairwise_lt_range;obtain ⟨_,_,rfl⟩:=Pf.mp O;obtain ⟨_,_,rfl⟩:=Pf.mp S;exact J
   rw [OR] at F;have:=List.pairwise_iff_getElem.mp U i j 'l' F z;rw [QZ,QZ,Sg,Sg,Os F,Os (Q6 z F)];exact this
  .exact ke h _
 .exact ke h _
noncomputable def btW(w:OS):Bool:=w.params.followText "set-order"
noncomputable def dP(e:Int×Value):Int:=numOf e.2
structure ag(prog:OF)(w:OS)(h:Heap)(a:Addr)(ns:List Int):Prop where
 ex:∃o es ep t,h.get? a=some o/\o.ExactSet/\o.data = .set es ep t/\ElemsOf (P0 prog w) es.toList/\t.fits es.size=true/\cU (btW w) t/\(es.toList.map dP).Perm ns
 few:ns.length<4000
section
variable {prog:OF}{w:OS}{A:OQ}{E:Value->KE->Prop}{s:KE}
theorem ag.size{h:Heap}{a:Addr}{ns:List Int}{es:Array (Int×Value)}(p:(es.toList.map dP).Perm ns):es.size=ns.length:=by
 have:=p.length_eq;rw [OA,Qm] at this;exact this
theorem ag.at(x:ag prog w h a ns)(k:∀o,h.get? a=some o->h'.get? a=some o):ag prog w h' a ns :=
 let ⟨o,es,ep,t,ho,r⟩:=x.ex;{{o,es,ep,t,k o ho,r},x.few}
theorem nG(h:(P0 prog w).is n v=true):∃t,v = .int n t:=by
 cases v with
 | int m t =>
  have e:(m==n)=true:=by simpa [P0,Tn] using h
  have e:m=n:=by simpa using e
  exact {t,by rw [e]}
 | _=>exact absurd h (by simp [P0,Tn])
theorem Hh(n:Int)(t:Tok):(P0 prog w).is n (.int n t)=true:=by simp [P0,Tn]
theorem Dn(h:∀o,ag prog w (s.heap.push o) s.heap.objs.size []->(∀v,o.data≠.cell v)->Q (.ref s.heap.objs.size) { s with heap:=s.heap.push o }):
  OE (OK prog w) A (newSet (.type "set")) Q E s:=by
 unfold newSet setsByText;refine we (we (Q7 (Ot ?_)));dsimp only;simp only [newObj];refine we (wpAny_alloc (Ot (h _ {{_,#[],0,_,ON _ rfl,{rfl,rfl,rfl},rfl,λe he=>by simp at he,by rfl,{rfl,rfl,λi j _ F=>by simp [OY.fresh] at F},Uj.refl _},'d'} λv z=>by cases z)))
theorem xj{h:Heap}{o:Obj}{t:OY}(F:h.get? a=some o)(hd:o.data = .set es ep t)(z:Array (Int×Value))(t':OY):
  (h.update a (Obj.putSet z t')).get? a=some { o with data:=.set z (ep+1) t' }:=by
 have:=Pq (Obj.putSet z t') F (by rw [putSet_of z t' hd];rfl);rw [putSet_of z t' hd] at this;exact this
theorem BF(hS:ag prog w s.heap a ns)(hr:ns.length<3000)(h:∀h' b,Qj a s.heap h'->ag prog w h' a (if n∈ns then ns else ns++[n])->Q b { s with heap:=h',toks:=s.toks+1 }):
  OE (OK prog w) A (setAdd a (.int n tk)) Q E s:=by
 obtain ⟨o,es,ep,t,ho,Yj,hd,G,hf,gt,pm⟩:=hS.ex;have hsz:=ag.size (h:=s.heap) (a:=a) pm;have hb:es.size<scanBound:=by rw [hsz];exact Q6 hr 'd'
 have XO:=Hh (prog:=prog) (w:=w) n tk;unfold setAdd;refine OT (we ((P0 prog w).pyHash XO ?_));have Y7:∀h',Qj a s.heap h'->ag prog w h' a (if n∈ns then ns else ns++[n])->∀b:Bool,Q b { s with heap:=h',toks:=s.toks+1 }:=λh' sb Yx b=>h h' b sb Yx;unfold setAddHashed setAddHashedIn;refine OT (we (QL (s:={ s with toks:=s.toks+1 }) ho hd hf ?_));dsimp only;rw [byScan_of (x:=.int n tk) rfl hb G];simp only [↓reduceIte];unfold setAddByScan;refine we (we (QW (we (wpAny_setScan_of (s:={ s with toks:=s.toks+1 }) XO ho hd hf G ?_))));cases Z:List.findIdx? (λe=>(P0 prog w).is n e.2) es.toList with
 | some j =>
  dsimp only;obtain ⟨hj,aI,_⟩:=List.findIdx?_eq_some_iff_getElem.mp Z;have Xh:n∈ns:=by
   refine pm.mem_iff.mp (Po.mpr {_,PV hj,?_});obtain ⟨t',e⟩:=nG aI;show numOf (es.toList[j]).2=n;rw [e];rfl
  refine Ot (Ot ?_);have:=Y7 s.heap (Qj.refl a s.heap) (by rw [if_pos Xh];exact hS) false;exact this
 | none =>
  dsimp only;have aT:n∉ns:=λXh=>by
   obtain ⟨e,he,ev⟩:=Po.mp (pm.mem_iff.mpr Xh);obtain ⟨⟨k,hk,_⟩,_⟩:=G e he;obtain ⟨t',e2⟩:=nG hk;have:k=n:=by rw [<- ev];show k=numOf e.2;rw [e2];rfl
   subst this;have:=List.findIdx?_eq_none_iff.mp Z e he;rw [hk] at this;cases this
  rw [if_neg aT] at Y7;have XM:=layNew_perm t es ((P0 prog w).hash n) (.int n tk);have Xs:=layNew_fits t es ((P0 prog w).hash n) (.int n tk);have Xr:=FQ gt es ((P0 prog w).hash n) (.int n tk);generalize hL:layNew t es ((P0 prog w).hash n) (.int n tk)=L at XM Xs Xr ⊢;obtain ⟨z,t1,WN,a0⟩:=L;dsimp only at XM Xs Xr ⊢;rw [Array.toList_push] at XM;have W:ElemsOf (P0 prog w) z.toList:=(G.push XO rfl).perm XM;have av:(z.toList.map dP).Perm (ns++[n]):=by
   have:=XM.map dP;rw [PN] at this;exact this.trans (pm.append (Uj.refl _))
  have ai:z.size=ns.length+1:=by have:=ag.size (h:=s.heap) (a:=a) av;simpa using this
  have mk:∀{h':Heap}{F:Array (Int×Value)}{t2:OY}{e:Nat},h'.get? a=some { o with data:=.set F e t2 }->F.toList.Perm z.toList->t2.fits F.size=true->cU (btW w) t2->ag prog w h' a (ns++[n]):=λ{h' F t2 e} Yg p f g=>{{_,F,e,t2,Yg,Yj,rfl,W.perm p,f,g,(p.map dP).trans av},by rw [Ph,QT];lia};have big:z.size<=sizeLine:=fits_of_scanBound (by rw [ai];exact O7 (Nat.succ_le_of_lt hr) 'd');have U:∀(b:Bool){s₁:KE}{Q':Unit->KE->Prop},Q' () s₁->OE (OK prog w) A (match b with|true=>rule "set.scan.the-table-gave-way" | false=>pure ()) Q' E s₁:=λb s₁ Q' hq=>by cases b<;>first|exact Ot hq|exact QW hq
  refine we (U _ ?_);have tail:∀(t2:OY),t2.fits z.size=true->cU (btW w) t2->OE (OK prog w) A (do
    storeSet a z t2
    if (!WN&&t2.tooFull)=true then do
      (match (relayAll t2 z (OY.grown z.size)).2.2 with|true=>rule "set.scan.the-table-gave-way" | false=>pure ())
      storeSet a (relayAll t2 z (OY.grown z.size)).1 (relayAll t2 z (OY.grown z.size)).2.1
      pure (some true)
     else pure (some true)) (λr s'=>r=some true/\∃h',Qj a s.heap h'/\ag prog w h' a (ns++[n])/\s'={ s with heap:=h',toks:=s.toks+1 }) E { s with toks:=s.toks+1 }:=λt2 f2 g2=>by
   refine we (wpAny_storeSet_of (s:={ s with toks:=s.toks+1 }) ho hd ?_ big);have O:=xj ho hd z t2;have J:=Qj.update s.heap a (Obj.putSet z t2);split
   .have hp:=relayAll_perm t2 z (OY.grown z.size);have YB:=relayAll_fits t2 z (OY.grown z.size);have S:=FY g2 z (OY.grown z.size);generalize a3:relayAll t2 z (OY.grown z.size)=Rl at hp YB S ⊢;obtain ⟨F,t3,ax⟩:=Rl;dsimp only at hp YB S ⊢;have hsz:F.size=z.size:=by rw [<- Qm,hp.length_eq,Qm]
    refine we (U _ ?_);refine we (wpAny_storeSet_of O rfl ?_ (by rw [hsz];exact big));exact Ot {rfl,_,J.trans (Qj.update _ a _),mk (xj O rfl F t3) hp YB S,rfl}
   .exact Ot {rfl,_,J,mk O (Uj.refl _) f2 g2,rfl}
  split
  .refine we ?_;rw [hashByValue_scannable 8 rfl];refine Ot ?_
   try simp only [↓reduceIte]
   refine OZ (tail t1 Xs Xr) ?_ (λ_ _ q=>q);rintro r s' ⟨rfl,h',sb,Yx,rfl⟩;dsimp only;exact Ot (Y7 h' sb Yx true)
  .refine we (Ot ?_)
   try simp only [↓reduceIte]
   refine OZ (tail t1 Xs Xr) ?_ (λ_ _ q=>q);rintro r s' ⟨rfl,h',sb,Yx,rfl⟩;dsimp only;exact Ot (Y7 h' sb Yx true)
theorem add_int(z:ag prog w s.heap a ns)(hr:ns.length<3000)(h:∀h',Qj a s.heap h'->ag prog w h' a (if n∈ns then ns else ns++[n])->Q .none { s with heap:=h',toks:=s.toks+1 }):
  OE (OK prog w) A (call (.builtin "set.add") [.ref a,.int n tk]) Q E s:=by
 obtain ⟨o,es,ep,t,O,G,hd,_⟩:=z.ex;have typ:s.TypeIs (.ref a) "set":=⟨o,O,G.1⟩;refine PF F.slot_set_add typ F.entry_set_add ?_ (F.args_set_add_2 _ _);unfold OO.«set.add» OO.Frozenset.oneOther
 simp only [List.isEmpty_nil,bind_assoc];unfold OO.Frozenset.addrOf;refine we (Ot (we (Ot (we (BF z hr λh' b S J=>Ot {_,rfl,h h' S J})))))
end
noncomputable def inB(e:OU)(d:Nat)(iter:OU)(Z1:Value)(env:Env):Sem Unit:=do
 let x<-PH iter env
 QM iter.pos
 let x<-O8 iter env x
 let _<-runOwn (.compStart e d (<- QA [x] (pyIter x)) Z1 env) env
noncomputable def emB(YZ:OU)(Z1:Value)(env:Env):Sem Unit:=do
 let v<-PH YZ env
 QM YZ.pos
 let _<-call (.builtin "set.add") [Z1,v]
noncomputable def dY(e:OU)(d:Nat)(tg iter:OU)(z:Sem Unit)(it Z1:Value)(env:Env):Sem Fin:=do
 QM iter.pos
 match<-Rh it with
 | none=>pure (.done .next)
 | some v =>
  Qw tg it v
  SZ tg env v
  z
  again (.compLoop e d it Z1 env)
section
variable {YZ t0 i0 t1 i1 t2 i2:OU}{sc:Scope}{pos:Pos}{it Z1:Value}{env:Env}
theorem KH(he:e = .SetComp YZ [{t0,i0,[],0},{t1,i1,[],0},{t2,i2,[],0}] sc pos):TR e 0 it Z1 env=dY e 0 t0 i0 (inB e 1 i1 Z1 env) it Z1 env:=by
 subst he;unfold dY inB;simp only [bind_assoc];rfl
theorem EE(he:e = .SetComp YZ [{t0,i0,[],0},{t1,i1,[],0},{t2,i2,[],0}] sc pos):TR e 1 it Z1 env=dY e 1 t1 i1 (inB e 2 i2 Z1 env) it Z1 env:=by
 subst he;unfold dY inB;simp only [bind_assoc];rfl
theorem Fv(he:e = .SetComp YZ [{t0,i0,[],0},{t1,i1,[],0},{t2,i2,[],0}] sc pos):TR e 2 it Z1 env=dY e 2 t2 i2 (emB YZ Z1 env) it Z1 env:=by
 subst he;unfold dY emB;rfl
theorem yi(he:e = .SetComp YZ gs sc pos){d:Nat}(hd:(clausesOf e)[d]?=some {tg,iter,[],0})(F:QC (OK prog w) A (.compLoop e d it Z1 env) R s)(h:OE (OK prog w) A (pyIter it) (λz s'=>QC (OK prog w) A (.compLoop e d z Z1 env) R s') (notedBy (OK prog w) A env λx s'=>R (.error x) s') s):
  QC (OK prog w) A (.compStart e d it Z1 env) R s:=by
 subst he;refine codeAny_of_tree ?_;show OE _ A ((compStart _ d it Z1 env).onRaise (λx=>do Sm x env;QM theWindowsPlace)) _ _ s;refine wpAny_notedAt ?_;unfold compStart;rw [hd];show OE _ A (ask>>=_) _ _ s;refine we (Q7 (wpAny_ite ?_));split
 .first
   | exact we (Ot (Ot (And.intro rfl F)))
   | exact Ot (And.intro rfl F)
 .first
   | exact we (QW (we (Pl (we (OZ h (λz s' h'=>Ot (And.intro rfl h')) λ_ _ x=>x)))))
   | (refine we (QW ?_);show OE _ _ (QM iter.pos>>=_) _ _ s;exact we (Pl (we (OZ h (λz s' h'=>Ot (And.intro rfl h')) λ_ _ x=>x))))
theorem MJ(he:e = .SetComp YZ gs sc pos){d:Nat}(ht:TR e d it Z1 env=dY e d tg iter U it Z1 env)(I:Nat->KE->Prop)(Z:∀n s,I n s->OE (OK prog w) A (Rh it) (λr s₁=>match r with
   | none=>R (.ok .next) s₁
   | some v=>OE (OK prog w) A (Qw tg it v) (λ_ F=>OE (OK prog w) A (SZ tg env v) (λ_ G =>
     OE (OK prog w) A U (λ_ s₃=>∃m,m<n/\I m s₃) (λ_ _=>False) G) (λ_ _=>False) F) (λ_ _=>False) s₁) (λ_ _=>False) s)(n:Nat)(h:I n s):QC (OK prog w) A (.compLoop e d it Z1 env) R s:=by
 subst he;refine codeAny_loop rfl I (λn s W=>?_) n h;show OE _ A ((TR _ d it Z1 env).onRaise (λx=>do Sm x env;theTreesLotGoes x)) _ _ s;refine wpAny_noted (OZ (E:=λ_ _=>False) ?_ (λ_ _ q=>q) λ_ _ z=>z.elim);rw [ht];unfold dY;refine we (Pl (we (OZ (Z n s W) (λr s₁ h₁=>?_) λ_ _ h'=>h')));cases r with
 | none=>exact Ot h₁
 | some v =>
  refine we (OZ h₁ (λ_ F J=>?_) λ_ _ h'=>h');exact we (OZ J (λ_ G S=>we (OZ S (λok s₃ O=>Ot {rfl,O}) λ_ _ h'=>h')) λ_ _ h'=>h')
end
abbrev TB:=St->List Int->Hp->(St->List Int->Hp->Prop)->Prop
def ak(ns:List Int)(n:Int):List Int:=if n∈ns then ns else ns++[n]
def BP(X:Cx)(D:Addr)(Go:List (Addr×Obj))(Q:St->List Int->Hp->Prop)(s':KE):Prop :=
 ∃σ ns H,Inv X Go σ H s'/\H D=none/\ag X.prog X.w s'.heap D ns/\Q σ ns H
def PB(X:Cx)(D:Addr)(m:Sem Unit)(tb:TB):Prop :=
 ∀(Go:List (Addr×Obj))(s:KE)(σ:St)(H:Hp)(ns:List Int)(Q:St->List Int->Hp->Prop),Inv X Go σ H s->az X Go H D->ag X.prog X.w s.heap D ns->tb σ ns H Q ->
  OE 'c' X.A m (λ_ s'=>BP X D Go Q s') (λ_ _=>False) s
theorem az.to(f:az X Go H b)(h:H' b=none):az X Go H' b:=⟨h,f.2⟩
theorem az.more(f:az X Go H b)(h:∀p∈pl,p.1≠b):az X (Go++pl) H b :=
 {f.1,f.2.1,f.2.2.1,f.2.2.2.1,f.2.2.2.2.1,λp hp=>by
  rcases Pi.mp hp with z|z
  .exact f.2.2.2.2.2 p (Pb _ z)
  .rcases Pi.mp z with z|z
   .exact f.2.2.2.2.2 p (Oy _ z)
   .exact h p z}
theorem ag.obj(x:ag P w h D ns):∃o,h.get? D=some o/\∀v,o.data≠.cell v:=by
 obtain ⟨o,es,ep,t,F,_,hd,_⟩:=x.ex;exact {o,F,λv z=>by rw [hd] at z;cases z}
section
variable {X:Cx}{D:Addr}
theorem Inv.holds{o:Obj}(I:Inv X Go σ H s)(f:az X Go H D)(G:s.heap.get? D=some o)(F:∀v,o.data≠.cell v):Inv X (Go++[(D,o)]) σ H s :=
 I.Ut λp hp=>(Pi.mp hp).elim (λz=>I.pin p (Oy _ z)) λz=>by
  have e:p=(D,o):=by simpa using z
  subst e;exact ⟨G,f.1,f.2.1,f.2.2.1,F⟩
theorem Inv.held{o:Obj}(I:Inv X (Go++[(D,o)]) σ H s):s.heap.get? D=some o/\H D=none :=
 let q:=I.pin (D,o) (Oy _ (Oy _ (O3.mpr rfl)));⟨q.1,q.2.1⟩
def gX(te:TE):TB:=λσ ns H Q=>te σ H λv H1=>∃n,v = .int n/\ns.length<3000/\Q σ (ak ns n) H1
theorem Nz(hx:X.xe=λ_ _=>False)(he:PE X YZ te):PB X D (emB YZ (.ref D) X.env) (gX te):=by
 intro Go s σ H ns Q I f O h;obtain ⟨o,S,U⟩:=O.obj;unfold emB;have:=he (Go++[(D,o)]) s σ H _ (I.holds f S U) h;rw [hx] at this;refine we (thn this λv s1=>x5e λx H1 J r1 Ye=>?_);obtain ⟨n,e,hl,q⟩:=Ye;subst e;obtain ⟨tk,rfl⟩:=r1;obtain ⟨F,z⟩:=J.held;have G:ag X.prog X.w s1.heap D ns:=O.at λo' e=>by rw [S] at e;cases e;exact F
 refine we (Pl (we (add_int G hl λh' sb Yx=>Ot ?_)));obtain ⟨_,g1,_,g3,g4,Z⟩:=f.to z;exact {σ,_,H1,(J.KN (Go:=Go)).turned (t':=s1.toks+1) (λb o W e=>(sb.2 b W).trans e) z g1 g3 g4 Z,z,Yx,q}
def kW(W:Nat->Nat->St->List Int->Hp->Prop)(J:It)(g:TG)(tb:TB)(Fin:St->List Int->Hp->Prop):Prop :=
 ∀i m τ ns H2,W i m τ ns H2->(J.stop i H2/\Fin τ ns H2)\/(J.go i H2/\∀x H3,J.d7 i H2 x H3->g x τ H3 λz H4=>tb z ns H4 λF G H5=>∃O,O<m/\W (i+1) O F G H5)
def gR(wi:TI)(g:TG)(tb:TB):TB:=λσ ns H Q=>wi σ H λJ H1=>∃W:Nat->Nat->St->List Int->Hp->Prop,(∃m,W 0 m σ ns H1)/\kW W J g tb Q
theorem wO{d:Nat}{W:Nat->Nat->St->List Int->Hp->Prop}{Fin:St->List Int->Hp->Prop}(he:e = .SetComp YZ gs sc pos)(ht:TR e d (.ref it) (.ref D) X.env=dY e d tg iter ZV (.ref it) (.ref D) X.env)(hx:X.xe=λ_ _=>False)(hc:c=true->X.calm=true)(hg:PG X tg g)(F:PB X D ZV tb)(T:fk c X.prog X.w X.K tg J fp it tn)(X4:D∉fp)(step:kW W J g tb Fin)(I:Inv X Go σ H s)(st:tn 0 s.heap)(ff:∀b∈fp,az X Go H b)(fD:az X Go H D)(hS:ag X.prog X.w s.heap D ns)(w0:W 0 m σ ns H):
  QC 'c' X.A (.compLoop e d (.ref it) (.ref D) X.env) (λr s'=>r = .ok .next/\∃a5 Yi H',Inv X Go a5 H' s'/\(∀b∈fp,H' b=none)/\H' D=none/\ag X.prog X.w s'.heap D Yi/\Fin a5 Yi H') s:=by
 refine MJ he ht (λn s'=>∃i τ ys H',Inv X Go τ H' s'/\tn i s'.heap/\(∀b∈fp,H' b=none)/\H' D=none/\ag X.prog X.w s'.heap D ys/\W i n τ ys H') ?_ m {0,σ,ns,H,I,st,λb F=>(ff b F).1,fD.1,hS,w0};rintro n s4 ⟨i,τ,ys,H4,I4,a0,a6,av,S,w4⟩;obtain ⟨ob,dg,ax⟩:=S.obj;have a7:=I4.holds (fD.to av) dg ax;have aI:∀b∈fp,az X (Go++[(D,ob)]) H4 b:=λb F=>((ff b F).to (a6 b F)).more λp hp=>by
  have e:p=(D,ob):=by simpa using hp
  subst e;exact λq=>X4 (by have q':D=b:=q;rw [q'];exact F)
 rcases step i n τ ys H4 w4 with ⟨stop,Y7⟩|⟨go,step⟩
 .refine thn (T.done X rfl rfl rfl hc i (Go++[(D,ob)]) s4 τ H4 (λ_ _=>False) a7 aI a0 stop) λr s5=>x2e λhr I5=>?_;subst hr;exact {rfl,τ,ys,H4,I5.KN,a6,av,S.at λo' e=>by rw [dg] at e;cases e;exact I5.held.1,Y7}
 .refine thn (T.item X rfl rfl rfl hc i (Go++[(D,ob)]) s4 τ H4 (λ_ _=>False) a7 aI a0 go) λr s5=>x3e λu hr h5=>?_;subst hr;refine thn h5 λ_ s6=>x5e λx H6 I6 r6 XF=>?_;obtain ⟨y6,Z,bP⟩:=XF;obtain ⟨U,bL⟩:=I6.held;have a4:∀b∈D::fp,az X Go H6 b:=λb F=>by
   rcases OL.mp F with z|z
   .subst z;exact fD.to bL
   .exact (ff b z).to (bP b z)
  have ai:∀b∈D::fp,∃o,s6.heap.get? b=some o/\∀v,o.data≠.cell v:=λb F=>by
   rcases OL.mp F with z|z
   .subst z;exact {_,U,ax}
   .exact T.obj _ _ Z b z
  have bf:=(I6.KN (Go:=Go)).pinned a4 ai;have a3:=hg _ s6 τ H6 x u _ bf r6 (step x H6 y6);rw [hx] at a3;refine thn a3 λ_ s7=>x4e λaT H7 I7 q7=>?_;have O:∀b o,b∈D::fp->s6.heap.get? b=some o->s7.heap.get? b=some o/\H7 b=none:=λb o F e=>by
   have q:=I7.pin (b,o) (Oy _ (Oy _ (dj F e)));exact ⟨q.1,q.2.1⟩
  have a9:Inv X (Go++fo fp s6.heap) aT H7 s7:=I7.Ut λp hp=>I7.pin p (Oy _ ((Pi.mp hp).elim (λz=>Pb _ z) λz=>Oy _ (by
   obtain ⟨z1,z2⟩:=pI z;exact dj (Oz _ z1) z2)))
  have ba:az X (Go++fo fp s6.heap) H7 D:=(fD.to (O D _ OI U).2).more λp hp z=>X4 (by rw [<- z];exact (pI hp).1);have bq:ag X.prog X.w s7.heap D ys:=S.at λo' e=>by rw [dg] at e;cases e;exact (O D _ OI U).1
  refine thn (F _ s7 aT H7 ys _ a9 ba bq q7) λ_ s8 bt=>?_;obtain ⟨bp,a8,H8,I8,bx,b0,m',hm,w'⟩:=bt;have G:∀b o,b∈fp->s6.heap.get? b=some o->s8.heap.get? b=some o/\H8 b=none:=λb o F e=>by
   have q:=I8.pin (b,o) (Oy _ (Oy _ (dj F e)));exact ⟨q.1,q.2.1⟩
  refine {m',hm,i+1,bp,a8,H8,I8.KN,T.keep _ _ _ Z λb F o e=>(G b o F e).1,λb F=>?_,bx,b0,w'};obtain ⟨o,e,_⟩:=T.obj _ _ Z b F;exact (G b o F e).2
theorem pb_loop{d:Nat}(he:e = .SetComp YZ gs sc pos)(hd:(clausesOf e)[d]?=some {tg,iter,[],0})(ht:∀it,TR e d (.ref it) (.ref D) X.env=dY e d tg iter ZV (.ref it) (.ref D) X.env)(hx:X.xe=λ_ _=>False)(hm:X.A.mark none=X.A)(hc:c=true->X.calm=true)(hi:PIc c X tg iter wi)(hg:PG X tg g)(O:PB X D ZV tb)(hs:∀x,O8 iter X.env x=pure x):PB X D (inB e d iter (.ref D) X.env) (gR wi g tb):=by
 intro Go s σ H ns Q I f hS h;obtain ⟨o,ho,hn⟩:=hS.obj;unfold inB;have Xe:=hi (Go++[(D,o)]) s σ H _ (I.holds f ho hn) h;rw [hx] at Xe;refine we (thn Xe λv s1 h1=>we (Pl ?_));rw [hs];refine we (Ot (we (OT (thn h1 λav s2 h2=>?_))));obtain ⟨it,fp,tn,J,H2,e',I2,T,F,f2,W,⟨m0,w0⟩,step⟩:=h2;subst e';obtain ⟨G,ai⟩:=I2.held;have X4:D∉fp:=λz=>(f2 D z).2.2.2.2.2 (D,o) (Oy _ (Oy _ (O3.mpr rfl))) rfl;have Z:ag X.prog X.w s2.heap D ns:=hS.at λo' e=>by rw [ho] at e;cases e;exact G
 have ff:∀b∈fp,az X Go H2 b:=λb O=>by
  obtain ⟨g0,g1,g2,g3,g4,g5⟩:=f2 b O;exact {g0,g1,g2,g3,g4,λp hp=>g5 p ((Pi.mp hp).elim (Pb _) λz=>Oy _ (Pb _ z))}
 have L:=wO he (ht it) hx hc hg O T X4 step (I2.KN (Go:=Go)) F ff (f.to ai) Z w0;refine we (wpAny_runOwn ?_);rw [hm];have L':=Qt L (R':=λr s'=>match r with | .ok f=>OE 'c' X.A (pure ()) (λ_ s'=>BP X D Go Q s') (λ_ _=>False) s' | .error e=>cameBackBy 'c' X.A X.env (λ_ _=>False) e s') λr s' U=>by
  obtain ⟨hr,S,Yi,H',a,b,c,d,q⟩:=U;subst hr;exact Ot ⟨S,Yi,H',a,c,d,q⟩
 exact yi he hd L' (T.self _ 0 _ _ _ F L')
def mx(tb:TB):TB:=λσ ns H Q=>tb σ ns H Q\/∃a kvs,H a=some (.dK kvs)/\∀o,tb σ ns (upd H a (.frz o (.dK kvs))) λz F H'=>kN a kvs H' (Q z F)
theorem BN(h:PB X D m tb):PB X D m (mx tb):=by
 intro Go s σ H ns Q I f S G;rcases G with G|⟨a,kvs,e,q⟩
 .exact h Go s σ H ns Q I f S G
 obtain ⟨Z,o,I'⟩:=I.freeze e;have U:D≠a:=λz=>by have:=f.1;rw [z,e] at this;cases this
 refine thn (h Go s σ _ ns _ I' (f.to (by rw [zg U];exact f.1)) S (q o)) λ_ s1 O=>?_;obtain ⟨F,J,H1,W,d1,S1,o1,e1,q1⟩:=O;exact {F,J,_,W.eH e1 Z,by rw [zg U];exact d1,S1,q1}
end
def gz(P:OF)(w:OS)(D:Addr)(ns:List Int):HO:=.ext λh=>ag P w h D ns
theorem BU(x:ag P w h D ns):au P w H h D (gz P w D ns) :=
 {x,let ⟨o,e,_⟩:=x.obj;⟨o,e⟩,λh1 h2 z k=>z.at k}
theorem FT(x:HOk P w H h)(e:H D=some (gz P w D ns)):ag P w h D ns:=(x D _ e).1
noncomputable def tSC(P:OF)(w:OS)(ix:List (Option Nat))(wi:TI)(g:TG)(tb:TB):TE:=λσ H Q=>wi σ H λJ H1=>∃W:Nat->Nat->St->List Int->Hp->Prop,(∃m,W 0 m (cb ix σ) [] H1) /\
 kW W J g tb λ_ ns H2=>∀D,H2 D=none->D≠sysModules->Q (.ref D) (upd H2 D (gz P w D ns))
theorem BC{c c1 c2:Bool}(hc:c=true->X.calm=true)(a3:c1=true->X.calm=true)(a8:c2=true->X.calm=true)(L:ay X sc N' ix)(hi:PIc c X t0 i0 wi)(hg:∀Go C fp s H,PG 'b' t0 g)(a9:∀Go C fp s H,PIc c1 'b' t1 i1 w1)(ba:∀Go C fp s H,PG 'b' t1 g1)(bf:∀Go C fp s H,PIc c2 'b' t2 i2 w2)(a4:∀Go C fp s H,PG 'b' t2 g2)(he:∀Go C fp s H,PE 'b' YZ te)(hs:∀x,O8 i0 X.env x=pure x:=by intro _;rfl)(bp:∀env x,O8 i1 env x=pure x:=by intro _ _;rfl)(Xa:∀env x,O8 i2 env x=pure x:=by intro _ _;rfl):
  PE X (.SetComp YZ [{t0,i0,[],0},{t1,i1,[],0},{t2,i2,[],0}] sc pos) (tSC X.prog X.w ix wi g (mx (gR w1 g1 (gR w2 g2 (gX te))))):=by
 intro Go s σ H Q I h;rw [arm_eval_SetComp];have WZ:RG sc X.env=pure (cz X.env.cells sc.names []):=xi λy hy hk=>I.ok.has y.1 (.inl (L.free y hy hk).1);refine wpAny_comprehension_free (use:=none) rfl hs WZ L.kind L.names (thn (hi Go s σ H _ I h) λv s1 h1=>thn h1 λbx s2 h2=>?_);obtain ⟨it,fp,tn,J,H2,e,I2,T,aT,f2,W,⟨m0,w0⟩,Yf⟩:=h2;subst e;refine Dn λon ai bt=>A1 ?_;dsimp only;generalize aI:s2.heap.push on=G at ai ⊢;have hC:G.objs.size=s2.heap.objs.size+1:=by rw [<- aI,Q9]
 have ax:s2.heap.objs.size≠G.objs.size:=by rw [hC];exact Pe (Ri _)
 have X5:s2.heap.objs.size<=G.objs.size:=by rw [hC];exact R9 _
 have below:∀b,b<s2.heap.objs.size->b≠G.objs.size/\b≠s2.heap.objs.size:=λb F=>{by rw [hC];exact Pe (Rr F),Pe F};have old:∀b o,s2.heap.get? b=some o->(Ra (G.push { cls:=.type "dict",data:=.dict #[] }) sc.names).get? b=some o:=λb o e=>Rn _ _ _ _ (Ou _ (aI ▸ Ou _ e));have WY:(Ra (G.push { cls:=.type "dict",data:=.dict #[] }) sc.names).Ns G.objs.size λ_=>none:=(Ns.new G (.type "dict")).keeps (Rn _ _);have own:ji X.env.cells sc G.objs.size (Ra (G.push { cls:=.type "dict",data:=.dict #[] }) sc.names):=.mk' (Q9 ..);have Y6:ag X.prog X.w (Ra (G.push { cls:=.type "dict",data:=.dict #[] }) sc.names) s2.heap.objs.size []:=ai.at λo e=>Rn _ _ _ _ (Ou _ e);generalize Ra (G.push { cls:=.type "dict",data:=.dict #[] }) sc.names=h₁ at old WY own Y6 ⊢;have fl:∀b∈fp,b<s2.heap.objs.size:=λb F=>by
  obtain ⟨o,e,_⟩:=T.obj 0 _ aT b F;exact OX e
 have X4:s2.heap.objs.size∉fp:=λz=>O9 _ (fl _ z);generalize hD:s2.heap.objs.size=D at *
 generalize b0:G.objs.size=C at *
 have av:tn 0 h₁:=T.keep _ _ _ aT λb _ o e=>old b o e;have I3:Inv (zy X sc N' Go C fp s2 H2) [] (cb ix σ) H2 { s2 with heap:=h₁ }:=uM (tk:=s2.toks) I2 L f2 (λb F=>by rw [hD];exact fl b F) (by rw [hD];exact X5) WY old own;have D0:H2 D=none:=I2.hok.fresh (TQ hD);have fD:az (zy X sc N' Go C fp s2 H2) [] H2 D:=by
  refine {D0,ax,λz=>?_,.inr (TQ hD),λx c hx z=>?_,λp hp z=>?_}
  .obtain ⟨_,o,ho,_⟩:=I2.stack.mem (show D∈frs X.stack from z);exact absurd (OX ho) (by rw [hD];exact O9 _)
  .rcases own.ed x c hx with a|a
   .have:=a.1;rw [z] at this;exact absurd this (Tt.mpr X5)
   .obtain ⟨v,q⟩:=I2.cell x c a.1;have:=q.lt;rw [z,hD] at this;exact O9 _ this
  .have bq:p∈X.pn++Go:=by
    have:p∈(X.pn++Go)++[]:=hp;simpa using this
   have:=OX (I2.pin p bq).1;rw [z,hD] at this;exact O9 _ this
 have fF:∀b∈fp,az (zy X sc N' Go C fp s2 H2) [] H2 b:=λb F=>by
  obtain ⟨g0,g1,g2,g3,g4,g5⟩:=f2 b F;refine {g0,(below b (fl b F)).1,λz=>?_,.inl F,λx c hx=>?_,λp hp=>g5 p ?_}
  .rcases OL.mp (I2.aj b z) with e|e
   .exact g1 e
   .exact g2 e
  .rcases own.ed x c hx with a|a
   .have:=a.1;have:=fl b F;exact λz=>by subst z;lia
   .exact g4 x c a.1
  .have:p∈(X.pn++Go)++[]:=hp;simpa using this
 generalize Z:OU.SetComp YZ [{t0,i0,[],0},{t1,i1,[],0},{t2,i2,[],0}] sc pos=E;have F:=BN <| pb_loop (X:=zy X sc N' Go C fp s2 H2) (D:=D) (c:=c1) Z.symm (d:=1) (by rw [<- Z];rfl) (λ_=>EE Z.symm) rfl rfl a3 (a9 Go C fp s2 H2) (ba Go C fp s2 H2) (pb_loop (c:=c2) Z.symm (d:=2) (by rw [<- Z];rfl) (λ_=>Fv Z.symm) rfl rfl a8 (bf Go C fp s2 H2) (a4 Go C fp s2 H2) (Nz rfl (he Go C fp s2 H2)) (Xa _)) (bp _);have a0:=wO (X:=zy X sc N' Go C fp s2 H2) Z.symm (KH Z.symm) rfl hc (hg Go C fp s2 H2) F T X4 Yf I3 av fF fD Y6 w0;have S:=Qt a0 (R':=compPost 'c' X.A X.xe none (EP X Go σ Q) (.ref D) C) λr s5 Ye=>by
  obtain ⟨hr,bL,ns,H5,I5,bP,O,a5,Y7⟩:=Ye;subst hr;obtain ⟨m5,a6,_⟩:=id I5.loc;refine {m5,a6,λh' XD=>?_};have kb:∀b u,b≠C->s5.heap.get? b=some u->h'.get? b=some u:=λb u F e=>(XD.2 b F).trans e;have ZD:∀b o,s2.heap.get? b=some o->b≠C/\b≠D:=λb o e=>by
   have:=OX e;rw [hD] at this;exact below b this
  have a7:D≠sysModules:=by have h:OB<s2.heap.objs.size:=(I2.mod.glob.keeps I2.bk).lt;rw [hD] at h;exact RD (Q6 'd' h)
  have U:=I5.base;refine {.ref D,upd H5 D (gz X.prog X.w D ns),I2.dC (s':={ s5 with heap:=h' }) (ch:=fp) I5.os {λb o e n F hx=>kb b o (ZD b o e).1 (U.keep b o e n F hx),λb o e n F hx=>?_,λb o e n hx=>?_,λb o e hx=>?_,λb xs e=>?_,λb o u e=>?_,λb ps e=>?_} ?_ I5.bare (λb F=>?_),rfl,Y7 D O a7}
  .obtain ⟨sl,q⟩:=U.slot b o e n F hx;exact {sl,kb b _ (ZD b o e).1 q}
  .rw [zg (ZD b o e).2];exact U.free b o e n hx
  .obtain ⟨o',q⟩:=U.there b o e hx;exact {o',kb b _ (ZD b o e).1 q}
  .have q:=U.tups b xs e;rw [zg (zz q O)];exact q
  .have q:=U.frzs b o u e;rw [zg (zz q O)];exact q
  .obtain ⟨more,q⟩:=U.tbls b ps e;exact {more,by rw [zg (zz q O)];exact q}
  .exact (I5.hok.but I5.free kb).add O (BU (a5.at λo e=>kb D o ax e))
  .obtain ⟨_,g1,g2,g3,g4,g5⟩:=f2 b F;exact ⟨g3,g1,g4,g5⟩
 exact yi Z.symm (by rw [<- Z];rfl) S (T.self _ 0 _ _ _ av S)
theorem y9:Manifest.owners.lookup (String.ofList ['r','o','t','a','r','e','t','i','_','t','e','s'].reverse)=some Manifest.sig_set_iterator:=by kernel_rfl
theorem i4:Slot "set_iterator" "__next__" "set_iterator.__next__" :=
 .of (owner:="set_iterator") (n:="__next__") (by rw [typeLookup_type,builtinLookup_eq_fast];kernel_rfl) (f!"") (f!"") (f!"")
  (by first|exact .inl (f!"")|exact .inr (f!"")) (by rw [isSubtype_type];kernel_rfl)
theorem Fb:entryFor table "set_iterator.__next__"=some OO.«set_iterator.__next__»:=entryFor_of_tree (by kernel_rfl)
theorem GR(a:Value):Ug "set_iterator.__next__" {[a],[]}:=by
 unfold Ug;rw [signature?_of (id:="set_iterator.__next__") (n:=['_','_','t','x','e','n','_','_']) (o:=['r','o','t','a','r','e','t','i','_','t','e','s']) (by kernel_rfl) y9];kernel_rfl
theorem wK:Slot "set_iterator" "__iter__" "set_iterator.__iter__" :=
 .of (owner:="set_iterator") (n:="__iter__") (by rw [typeLookup_type,builtinLookup_eq_fast];kernel_rfl) (f!"") (f!"") (f!"")
  (by first|exact .inl (f!"")|exact .inr (f!"")) (by rw [isSubtype_type];kernel_rfl)
theorem NK:entryFor table "set_iterator.__iter__"=some OO.«dict_keyiterator.__iter__»:=entryFor_alias (id':="dict_keyiterator.__iter__") (by kernel_rfl) rfl (f!"") (by kernel_rfl)
theorem Cp(a:Value):Ug "set_iterator.__iter__" {[a],[]}:=by
 unfold Ug;rw [signature?_of (id:="set_iterator.__iter__") (n:=['_','_','r','e','t','i','_','_']) (o:=['r','o','t','a','r','e','t','i','_','t','e','s']) (by kernel_rfl) y9];kernel_rfl
theorem Nh:entryFor table "set.__iter__"=some OO.«frozenset.__iter__»:=entryFor_alias (id':="frozenset.__iter__") (by kernel_rfl) rfl (f!"") (by kernel_rfl)
section
variable {prog:OF}{w:OS}{A:OQ}{E:Value->KE->Prop}{s:KE}
theorem Lr(F:n≠0)(h:∀i d,i<n->Q i { s with drawn:=d }):OE (OK prog w) A (choose z n) Q E s:=by
 intro Γ p G;unfold choose;rw [Sem.wp_choose];exact {F,h _ _ (Nat.mod_lt _ (Nat.pos_of_ne_zero F))}
theorem nX{α:Type}:∀{xs:List α}{i:Nat}(h:i<xs.length),(xs[i]::xs.eraseIdx i).Perm xs
 | x::xs,0,h=>Uj.refl _
 | x::xs,i+1,h=>by
  have:=nX (xs:=xs) (i:=i) (by simpa using h);exact (Uj.swap _ _ _).trans (this.cons x)
theorem vO{α:Type}:∀(n:Nat)(xs:List α)(s:KE)(Q:List α->KE->Prop),xs.length=n->(∀l d,l.Perm xs->Q l { s with drawn:=d })->OE (OK prog w) A (drawOrder n xs) Q E s
 | 0,xs,s,Q,hl,h=>by
  have:xs=[]:=QO.mp hl;subst this;exact Ot (h [] s.drawn (Uj.refl _))
 | n+1,[],s,Q,hl,h=>by cases hl
 | n+1,x::xs,s,Q,hl,h=>by
  unfold drawOrder;refine we (Lr 'z' λi d hi=>?_);rw [Os hi];dsimp only;have le:((x::xs).eraseIdx i).length=n:=by rw [S6 hi];simpa using hl
  refine we (vO n _ _ _ le λl d' p=>Ot ?_);exact h _ _ ((p.cons _).trans (nX hi))
noncomputable def itO(a:Addr)(n ep:Nat)(first:Value)(i:Nat):Obj:={ cls:=.type "set_iterator",data:=.fields #[first,.int i 0,.ref a,.int n 0,.int ep 0] }
structure SIt(h:Heap)(I a:Addr)(n ep:Nat)(first:Value)(i:Nat):Prop where
 ex:∃o,h.get? I=some o/\o.cls = .type "set_iterator"/\o.data = .fields #[first,.int i 0,.ref a,.int n 0,.int ep 0]
theorem SIt.at(x:SIt h I a n ep first i)(k:∀o,h.get? I=some o->h'.get? I=some o):SIt h' I a n ep first i:=let ⟨o,ho,r⟩:=x.ex;{{o,k o ho,r}}
theorem SIt.typ(x:SIt s.heap I a n ep first i):s.TypeIs (.ref I) "set_iterator":=let ⟨o,ho,hc,_⟩:=x.ex;⟨o,ho,hc⟩
section
variable {a:Addr}{o:Obj}{es:Array (Int×Value)}{ep:Nat}{t:OY}
theorem LP(z:s.heap.get? a=some o)(O:o.ExactSet)(hd:o.data = .set es ep t)(hf:t.fits es.size=true)(hz:es.size<=sizeLine)(h1:(btW w=true\/t.plain=true\/es.size<=1)->Q (.ref s.heap.objs.size) { s with heap:=s.heap.push (itO a es.size ep (.int 0 0) 0) })(h2:∀(ps:List Nat) d,btW w=false->ps.Perm (Qh es.size)->Q (.ref (s.heap.objs.size+1)) { s with heap:=(s.heap.push { cls:=.type "tuple",data:=.seq (ps.map λ(i:Nat)=>Pu i).toArray }).push (itO a es.size ep (.ref s.heap.objs.size) 0),drawn:=d }):
  OE (OK prog w) A (pyIter (.ref a)) Q E s:=by
 have J:s.TypeIs (.ref a) "set":=⟨o,z,O.1⟩;refine wpAny_pyIter_slot J F.slot_set_iter (PF F.slot_set_iter J Nh ?_ (F.args_set_iter_1 _));unfold OO.«frozenset.__iter__» OO.Frozenset.slot0 slotArgs
 simp only [List.isEmpty_nil,Bool.not_true,QH,↓reduceIte,bind_assoc,So,bne_self_eq_false];unfold OO.Frozenset.addrOf OO.Frozenset.sizeOf;refine we (Ot ?_)
 try dsimp only
 refine we (Ot ?_);refine we (we (wpAny_setEntries_of z hd hf (Ot ?_)));unfold setDrawn;refine we (we (QL z hd hf ?_));dsimp only;unfold setsByText;refine we (we (Q7 (Ot (Ot ?_))));show OE _ _ (if (!btW w&&(!t.plain&&decide (es.size>1)))=true then _ else _) _ _ _;by_cases c:(!btW w&&(!t.plain&&decide (es.size>1)))=true
 .rw [if_pos c];simp only [O1,T7,decide_eq_true_eq] at c;refine we (vO es.size _ s _ Tp λps d G=>we (wpAny_newTuple ?_ (by rw [OA,G.length_eq,Tp];exact hz)));have U:((s.heap.push { cls:=.type "tuple",data:=.seq (ps.map λ(i:Nat)=>Pu i).toArray }).get? a)=some o:=Ou _ z;unfold setEpoch;refine we (we (QL U hd hf (Ot ?_)));refine we (Pm (Ot {_,rfl,"set_iterator",_,{_,ON _ rfl,rfl},i4.lookup,?_}));have:=h2 ps d c.1 G;rw [<- Q9] at this;exact this
 .rw [if_neg c];have c':btW w=true\/t.plain=true\/es.size<=1:=by
   cases W:btW w
   .cases S:t.plain
    .rw [W,S] at c;right;right;simpa using c
    .right;left;rfl
   .left;rfl
  refine we (Ot ?_);unfold setEpoch;refine we (we (QL z hd hf (Ot ?_)));exact we (Pm (Ot {_,rfl,"set_iterator",_,{_,ON _ rfl,rfl},i4.lookup,h1 c'}))
noncomputable def cA(w:OS)(a:Addr)(es:Array (Int×Value))(ep:Nat):Array (Int×Value):=if btW w=true then R0 (w.params.setOrder a ep) es else es
noncomputable def Fst(w:OS)(t:OY)(n i:Nat)(first:Value):Prop:=∃k:Nat,first = .int k 0/\(btW w=false->OY.below t.place k=i)
theorem MP{k i:Nat}(O:s.heap.get? a=some o)(hd:o.data = .set es ep t)(hf:t.fits es.size=true)(g:cU (btW w) t)(c:btW w=true\/t.plain=true\/es.size<=1)(U:btW w=false->OY.below t.place k=i)(h1:∀e k',(cA w a es ep)[i]?=some e->(btW w=false->OY.below t.place k'=i+1)->Q (some (e.2,k')) s)(h2:(cA w a es ep)[i]?=none->Q none s):
  OE (OK prog w) A (setNext a k i ep) Q E s:=by
 unfold setNext;refine we (QL O hd hf ?_);dsimp only;unfold setsByText;refine we (we (Q7 (Ot ?_)));show OE _ _ (if btW w=true then _ else _) _ _ _;have Yt:t.place.size=es.size:=by
  unfold OY.fits at hf;simp only [O1,beq_iff_eq] at hf;exact hf.1
 cases F:btW w
 .rw [if_neg OP];have W:t.plain=true\/es.size<=1:=c.resolve_left (by rw [F];exact OP);show OE _ _ (if (!t.plain&&decide (es.size>1))=true then _ else _) _ _ _;rw [if_neg (show ¬ ((!t.plain&&decide (es.size>1))=true) from by
   simp only [O1,T7,decide_eq_true_eq,not_and];intro h3;rcases W with h4|h4
   .rw [h3] at h4;cases h4
   .lia)]
  have G:t.led=true:=by rw [g.led,F];rfl
  have J:cA w a es ep=es:=by unfold cA;rw [if_neg (by rw [F];exact OP)]
  rw [J] at h1 h2;refine we ?_;show OE _ _ (if (!t.led && !es.isEmpty)=true then _ else _) _ _ _;rw [if_neg (show ¬ ((!t.led && !es.isEmpty)=true) from by rw [G];simp)];refine Ot (Ot ?_);rw [U F];cases e:es[i]? with
  | none=>exact h2 e
  | some x =>
   have hi:i<es.size:=(Py.mp e).1;have S:t.place[i]?=some t.place[i]:=PD 'l';rw [S];refine h1 x _ e λ_=>?_;have B:=pX g.ft (t.place[i]+1);have gi:t.place.getD i 0=t.place[i]:=by simp [getD,show i<t.place.size by lia]
   have lo:i<OY.below t.place (t.place[i]+1):=by
    rcases Nat.lt_or_ge i (OY.below t.place (t.place[i]+1)) with z|z
    .exact z
    .have:=B.hi i z 'l';lia
   rcases Nat.lt_or_ge (i+1) (OY.below t.place (t.place[i]+1)) with z|z
   .have Z:=B.lo (i+1) z;have l2:=g.ft i (i+1) 'l' (by have:=B.le;lia);lia
   .lia
 .rw [if_pos rfl];rw [if_neg 'z'];unfold setWalk;refine we (we (QL O hd hf ?_));dsimp only;unfold setsByText;refine we (we (Q7 (Ot ?_)));show OE _ _ (if btW w=true then _ else _) _ _ _;rw [if_pos F];refine we (Q7 (Ot (Ot ?_)));have J:cA w a es ep=R0 (w.params.setOrder a ep) es:=by unfold cA;rw [if_pos F]
  rw [J] at h1 h2;show Q (((R0 (w.params.setOrder a ep) es)[i]?).map λe=>(e.2,k)) s;cases e:(R0 (w.params.setOrder a ep) es)[i]? with
  | none=>exact h2 e
  | some x=>exact h1 x k e λz=>by rw [F] at z;cases z
end
end
section
variable {prog:OF}{w:OS}{A:OQ}{E:Value->KE->Prop}{s:KE}
variable {a I:Addr}{o:Obj}{es:Array (Int×Value)}{ep:Nat}{t:OY}{i:Nat}
theorem SIt.e7{n k':Nat}(x:SIt s.heap I a n ep first i):∀h':Heap,h'=s.heap.update I (RL (·.setIfInBounds 0 (Pu k')))->SIt h' I a n ep (.int k' 0) i/\Qj I s.heap h':=λh' e=>by
 subst e;obtain ⟨o,z,F,hd⟩:=x.ex;exact {{{_,Pq _ z (Qb (QJ hd _)),(Rx ..).trans F,by rw [QJ hd];simp [Pu]}},Qj.update ..}
theorem SIt.e6(x:SIt s.heap I a n ep first i):∀h':Heap,h'=s.heap.update I (RL (·.setIfInBounds 1 (Pu ((i:Int)+1))))->SIt h' I a n ep first (i+1)/\Qj I s.heap h':=λh' e=>by
 subst e;obtain ⟨o,z,F,hd⟩:=x.ex;exact {{{_,Pq _ z (Qb (QJ hd _)),(Rx ..).trans F,by rw [QJ hd];simp [Pu]}},Qj.update ..}
theorem uD(F:SIt s.heap I a es.size ep first i)(U:s.heap.get? a=some o)(hd:o.data = .set es ep t)(hf:t.fits es.size=true)(h:OE (OK prog w) A.in1 (match first with
   | .int slot _=>do
    match<-setNext a slot.toNat i ep with
    | some (x,next) =>
     RC (.ref I) 0 (Pu next)
     RC (.ref I) 1 (Pu ((i:Int)+1))
     ret x
    | none=>RC (.ref I) 2 .none;SA (<- newExc (.type "StopIteration") [])
   | _=>do
    let some places<-SQ first|unsupported "internal:set_iterator"
    match places[i]? with
    | some (.int z _) =>
     let x<-setNextDrawn a z.toNat ep
     RC (.ref I) 1 (Pu ((i:Int)+1))
     ret x
    | some _=>unsupported "internal:set_iterator"
    | none=>RC (.ref I) 0 (Pu 0);RC (.ref I) 2 .none;SA (<- newExc (.type "StopIteration") []))
   (λJ s'=>∃v,J = .done (.ret v)/\Q (some v) s') (λe s'=>OE (OK prog w) A (do if<-isInstance e (.type "StopIteration") then pure none else throw e) Q E s') s):
  OE (OK prog w) A (Rh (.ref I)) Q E s:=by
 obtain ⟨oi,G,S,O⟩:=F.ex;unfold Rh;refine we (Ts (Qp (name:=Ox "__next__") F.typ i4 (PF i4 F.typ Fb ?_ (GR _))));unfold OO.«set_iterator.__next__»
 refine we (Ot ?_);refine we (wpAny_fieldsOf G O ?_);dsimp only;refine we (wpAny_setEntries_of U hd hf ?_);rw [if_neg 'z'];simp only [QG];refine OZ h ?_ ?_
 .rintro J s' ⟨v,rfl,q⟩;exact {_,rfl,Ot q}
 .intro e s' q;exact q
theorem A6(G:A.handled=none)(z:ExtBut I s.heap h1)(J:∀h',ExtBut I s.heap h'->Q none { s with heap:=h' }):
  OE (OK prog w) A.in1 (do SA (<- newExc (.type "StopIteration") []):Sem Fin) (λF s'=>∃v,F = .done (.ret v)/\Q (some v) s') (λe s'=>OE (OK prog w) A (do if<-isInstance e (.type "StopIteration") then pure none else throw e) Q E s') { s with heap:=h1 }:=by
 refine we ?_;simp only [newExc,newTuple];refine we (Pm ?_ (by size_fits));refine we (m:=SW _ _) (Td (a:=Pj) (by first|rfl|(simp only [SW];rfl)) ?_);refine Pm ?_ (by size_fits);simp only [SA];refine we (wpAny_handled ?_);rw [show A.in1.handled=none from G];refine we (Ot (Tb ?_));refine we (RK (T:="StopIteration") (b:=true) {_,ON _ rfl,rfl} isSubtype_stop ?_);exact Ot (J _ ((z.push _).push _))
theorem xU{k:Nat}(hh:A.handled=none)(F:SIt s.heap I a es.size ep (.int k 0) i)(ho:s.heap.get? a=some o)(hd:o.data = .set es ep t)(hf:t.fits es.size=true)(g:cU (btW w) t)(c:btW w=true\/t.plain=true\/es.size<=1)(hb:btW w=false->OY.below t.place k=i)(h1:∀e k' h',(cA w a es ep)[i]?=some e->(btW w=false->OY.below t.place k'=i+1)->SIt h' I a es.size ep (.int k' 0) (i+1)->Qj I s.heap h'->Q (some e.2) { s with heap:=h' })(h2:(cA w a es ep)[i]?=none->∀h',ExtBut I s.heap h'->Q none { s with heap:=h' }):OE (OK prog w) A (Rh (.ref I)) Q E s:=by
 refine uD F ho hd hf ?_;dsimp only;refine we (MP ho hd hf g c (by simpa using hb) (λe k' he XY=>?_) λhe=>?_)
 .dsimp only;obtain ⟨oi,z,J,G⟩:=F.ex;refine we (Px z G 'z' ?_);obtain ⟨Z,S⟩:=F.e7 (k':=k') _ rfl;obtain ⟨oj,W,ai,O⟩:=Z.ex;refine we (Px W O 'z' ?_);obtain ⟨x2,U⟩:=SIt.e6 (s:={ s with heap:=s.heap.update I (RL (·.setIfInBounds 0 (Pu k'))) }) Z _ rfl;exact Ot {_,rfl,h1 e k' _ he XY x2 (S.trans U)}
 .dsimp only;obtain ⟨oi,z,J,G⟩:=F.ex;refine we (Px z G 'z' ?_);exact A6 hh (Qj.update ..).extBut (h2 he)
theorem A8{ps:List Nat}(hh:A.handled=none)(F:SIt s.heap I a es.size ep (.ref T) i)(ho:s.heap.get? a=some o)(hd:o.data = .set es ep t)(hf:t.fits es.size=true)(hT:s.heap.get? T=some Z)(O:Z.data = .seq (ps.map λ(i:Nat)=>Pu i).toArray c)(pm:ps.Perm (Qh es.size))(h1:∀p e h',ps[i]?=some p->es[p]?=some e->SIt h' I a es.size ep (.ref T) (i+1)->Qj I s.heap h'->Q (some e.2) { s with heap:=h' })(h2:ps[i]?=none->∀h',ExtBut I s.heap h'->Q none { s with heap:=h' }):OE (OK prog w) A (Rh (.ref I)) Q E s:=by
 refine uD F ho hd hf ?_;dsimp only;refine we (QV hT O ?_);dsimp only;obtain ⟨oi,z,ai,W⟩:=F.ex;rw [Sg,O0];cases e:ps[i]? with
 | none =>
  dsimp only [map_none];refine we (Px z W 'z' ?_);obtain ⟨x1,S⟩:=F.e7 (k':=0) _ rfl;obtain ⟨oj,G,av,J⟩:=x1.ex;refine we (Px G J 'z' ?_);exact A6 (s:=s) (I:=I) hh (S.trans (Qj.update ..)).extBut (h2 e)
 | some p =>
  have hp:p<es.size:=by
   have:=pm.mem_iff.mp (Pr e);simpa using this
  have he:es[p]?=some es[p]:=PD hp;dsimp only [map_some,Pu];unfold setNextDrawn;refine we (we (QL ho hd hf ?_));dsimp only;rw [if_neg 'z',QG,he];refine Ot ?_;refine we (Px z W 'z' ?_);obtain ⟨x2,U⟩:=F.e6 _ rfl;exact Ot {_,rfl,h1 p es[p] _ e he x2 U}
theorem yF(z:SIt s.heap I a n ep first i)(h:Q (.ref I) s):OE (OK prog w) A (pyIter (.ref I)) Q E s:=by
 refine wpAny_pyIter_slot z.typ wK (PF wK z.typ NK ?_ (Cp _));show OE _ _ (ret (.ref I)) _ _ s;exact Ot {_,rfl,"set_iterator",_,z.typ,i4.lookup,h}
end
theorem tJ{α:Type}(nx:Nat->Nat):∀(f k:Nat)(left:List α)(out:Array α),left.length=f->(R0.go nx f k left out).toList.Perm (out.toList++left)
 | 0,k,left,out,h=>by
  have:left=[]:=QO.mp h;subst this;unfold R0.go;simp
 | f+1,k,left,out,h=>by
  have hp:0<left.length:=by lia
  have hi:nx k % left.length<left.length:=Nat.mod_lt _ hp;unfold R0.go;rw [Os hi];dsimp only;refine (tJ nx f (k+1) _ _ (by rw [S6 hi,h];rfl)).trans ?_;rw [Array.toList_push,Pw];exact Uj.append_left _ (nX hi)
theorem Fu{α:Type}(nx:Nat->Nat)(xs:Array α):(R0 nx xs).toList.Perm xs.toList:=by
 have:=tJ nx xs.size 0 xs.toList #[] 'z';unfold R0;simpa using this
theorem CG:(cA w a es ep).toList.Perm es.toList:=by
 unfold cA;split
 .exact Fu _ _
 .exact Uj.refl _
theorem qN:∀{l:List (Int×Value)},ElemsOf (P0 prog w) l->Ry (l.map (·.2)) (l.map dP)
 | [],_=>.nil
 | e::l,h=>by
  obtain ⟨⟨k,z,_⟩,_⟩:=h e OI;obtain ⟨t,F⟩:=nG z;have:=qN (l:=l) λx hx=>h x (Oz _ hx);show Ry (e.2::_) (numOf e.2::_);rw [F];exact .cons _ _ this
structure Hv(prog:OF)(w:OS)(A:OQ)(h0 h:Heap)(a I:Addr)(ns:List Int):Prop where
 new:h0.objs.size<=I
 old:∀b o,h0.get? b=some o->h.get? b=some o
 ex:∃(L:List Value)(ms:List Int)(fp:List Addr)(St:Nat->Heap->Prop),Ry L ms/\ms.Perm ns/\(∀b∈fp,b=a\/h0.objs.size<=b)/\Walks prog w A I fp [I] L.length (λi v=>L[i]?=some v) St/\St 0 h
section
variable {prog:OF}{w:OS}{A:OQ}{E:Value->KE->Prop}{s:KE}
theorem KU(hh:A.handled=none)(hS:ag prog w s.heap a ns)(h:∀I h' d,Hv prog w A s.heap h' a I ns->Q (.ref I) { s with heap:=h',drawn:=d }):OE (OK prog w) A (pyIter (.ref a)) Q E s:=by
 obtain ⟨o,es,ep,t,ho,Yj,hd,ai,hf,gt,pm⟩:=hS.ex;have hsz:=ag.size (h:=s.heap) (a:=a) pm;have hz:es.size<=sizeLine:=by rw [hsz,Qc];have:=hS.few;lia
 have S:=OX ho;refine LP ho Yj hd hf hz (λc=>?_) λps d Xt pp=>?_
 .have op:=CG (w:=w) (a:=a) (es:=es) (ep:=ep);have W:=ai.perm op;have O:(cA w a es ep).toList.length=es.size:=by rw [op.length_eq,Qm]
  have G:∀i,(cA w a es ep)[i]?=(cA w a es ep).toList[i]?:=λi=>(Qf).symm;have:=h s.heap.objs.size (s.heap.push (itO a es.size ep (.int 0 0) 0)) s.drawn {Ov _,λb o e=>Ou _ e,(cA w a es ep).toList.map (·.2),(cA w a es ep).toList.map dP,[s.heap.objs.size,a],λi h=>(∃k:Nat,SIt h s.heap.objs.size a es.size ep (.int k 0) i/\(btW w=false->OY.below t.place k=i))/\h.get? a=some o,qN W,(op.map dP).trans pm,λb F=>?_,?_,?_}
  .exact this
  .simp only [OL,Pa,or_false] at F;rcases F with rfl|rfl
   .exact .inr (Ov _)
   .exact .inl rfl
  .have aI:a≠s.heap.objs.size:=Pe S;refine {λb F=>?_,λi h h' st Z=>?_,λi s' Q E hi st J=>?_,λs' Q E st J=>?_,λi s' Q E st J=>?_}
   .simp at F;simp [F]
   .obtain ⟨⟨k,x,F⟩,ha⟩:=st;exact {{k,x.at λo e=>Z _ 'z' o e,F},Z a 'z' o ha}
   .obtain ⟨⟨k,x,F⟩,ha⟩:=st;rw [OA,O] at hi;refine xU hh x ha hd hf gt c F (λe k' h' he XY x' U=>?_) λhe=>?_
    .refine J _ h' s'.toks ?_ {⟨k',x',XY⟩,U.extBut a _ aI ha} λb o F e=>U.extBut b o (λz=>F (by simp [z])) e;rw [O0,<- G,he];rfl
    .rw [G] at he;exact absurd (List.getElem?_eq_none_iff.mp he) 'l'
   .obtain ⟨⟨k,x,F⟩,ha⟩:=st;rw [OA,O] at x F;refine xU hh x ha hd hf gt c F (λe k' h' he XY x' U=>?_) λhe h' eb=>?_
    .rw [G] at he;exact absurd (OJ.mp he).1 'l'
    .exact J h' s'.toks λb o F e=>eb b o (λz=>F (by simp [z])) e
   .obtain ⟨⟨k,x,F⟩,ha⟩:=st;exact yF x J
  .exact {{0,{{_,ON _ rfl,rfl,rfl}},λ_=>by
    have B:=pX gt.ft 0;rcases S4 (OY.below t.place 0) with z|z
    .exact z
    .exact absurd (B.lo 0 z) (Nat.not_lt_zero _)},Ou _ ho}
 .have ax:s.heap.objs.size=s.heap.objs.size:=rfl
  let f:Nat->Int×Value:=λp=>es.getD p (0,.none)
  have av:∀p,p<es.size->es[p]?=some (f p):=λp hp=>by rw [PD hp];simp [f,getD,hp]
  have op:(ps.map f).Perm es.toList:=by
   have e:(Qh es.size).map f=es.toList:=by
    apply List.ext_getElem?;intro i;rw [O0,show es.toList[i]?=es[i]? from Qf];by_cases hi:i<es.size
    .rw [List.getElem?_range hi,av i hi];rfl
    .rw [Array.getElem?_eq_none 'l',Q0 (by simpa using hi)];rfl
   rw [<- e];exact pp.map f
  have W:=ai.perm op;have O:ps.length=es.size:=by rw [pp.length_eq,Tp]
  have:=h (s.heap.objs.size+1) ((s.heap.push { cls:=.type "tuple",data:=.seq (ps.map λ(i:Nat)=>Pu i).toArray }).push (itO a es.size ep (.ref s.heap.objs.size) 0)) d {R9 _,λb o e=>Ou _ (Ou _ e),(ps.map f).map (·.2),(ps.map f).map dP,[s.heap.objs.size+1,a,s.heap.objs.size],λi h=>SIt h (s.heap.objs.size+1) a es.size ep (.ref s.heap.objs.size) i/\h.get? a=some o/\h.get? s.heap.objs.size=some { cls:=.type "tuple",data:=.seq (ps.map λ(i:Nat)=>Pu i).toArray },qN W,(op.map dP).trans pm,λb F=>?_,?_,?_}
  .exact this
  .simp only [OL,Pa,or_false] at F;rcases F with rfl|rfl|rfl
   .exact .inr (R9 _)
   .exact .inl rfl
   .exact .inr (Ov _)
  .have aI:a≠s.heap.objs.size+1:=Pe (Rr S);have tI:s.heap.objs.size≠s.heap.objs.size+1:=Pe (Ri _);refine {λb F=>?_,λi h h' st Z=>?_,λi s' Q E hi st J=>?_,λs' Q E st J=>?_,λi s' Q E st J=>?_}
   .simp at F;simp [F]
   .obtain ⟨x,ha,ht⟩:=st;exact {x.at λo e=>Z _ 'z' o e,Z a 'z' o ha,Z _ 'z' _ ht}
   .obtain ⟨x,ha,ht⟩:=st;rw [OA,OA] at hi;refine A8 hh x ha hd hf ht rfl pp (λp e h' hp he x' U=>?_) λhe=>?_
    .refine J _ h' s'.toks ?_ {x',U.extBut a _ aI ha,U.extBut _ _ tI ht} λb o F e=>U.extBut b o (λz=>F (by simp [z])) e;have Yt:p<es.size:=(Py.mp he).1;rw [av p Yt] at he;cases he;rw [O0,O0,hp];rfl
    .exact absurd (List.getElem?_eq_none_iff.mp he) 'l'
   .obtain ⟨x,ha,ht⟩:=st;rw [OA,OA] at x;refine A8 hh x ha hd hf ht rfl pp (λp e h' hp he x' U=>?_) λhe h' eb=>?_
    .exact absurd (OJ.mp hp).1 'l'
    .exact J h' s'.toks λb o F e=>eb b o (λz=>F (by simp [z])) e
   .exact yF st.1 J
  .refine {{{itO a es.size ep (.ref s.heap.objs.size) 0,?_,rfl,rfl}},Ou _ (Ou _ ho),Ou _ (ON _ rfl)};have:=ON (s.heap.push { cls:=.type "tuple",data:=.seq (ps.map λ(i:Nat)=>Pu i).toArray }) (o:=itO a es.size ep (.ref s.heap.objs.size) 0) rfl;rw [Q9] at this;exact this
theorem MT(J:s.TypeIs (.ref a) "set")(h:Q false s):OE (OK prog w) A (OO.List.listLengthHint (.ref a)) Q E s:=by
 unfold OO.List.listLengthHint;refine we (wpAny_specialOf J PySem.F.slot_set_len.lookup ?_);generalize O:("set.__len__":String)=z
 wp_delta
 rw [show splitId z=some ("set","__len__") from by subst O;decide +kernel];subst O;refine we (RK (T:="set") (b:=true) J (by rw [isSubtype_type];kernel_rfl) ?_);refine SG (λG=>absurd G 'd') (λ_=>?_);refine SG (λ_=>?_) (λG=>absurd (f!"") G);refine we (R4 J ?_);exact Ot h
theorem ag.typ(x:ag prog w s.heap a ns):s.TypeIs (.ref a) "set":=let ⟨o,_,_,_,ho,Yj,_⟩:=x.ex;⟨o,ho,Yj.1⟩
theorem LX(h:ItemsOf (λi v=>L[i]?=some v) Z1 L.length):Z1.toList=L:=by
 apply List.ext_getElem?;intro i;by_cases hi:i<L.length
 .have hs:i<Z1.size:=by rw [h.1];exact hi
  have e:Z1[i]?=some Z1[i]:=PD hs;rw [Qf,e,h.2 i _ e]
 .rw [Qf,Array.getElem?_eq_none (by rw [h.1];lia),Q0 'l']
theorem Et(hh:A.handled=none)(hS:ag prog w s.heap a ns)(av:S≠a)(res:Value)(U:Nat)(hl:s.heap.get? S=some { cls:=.type "list",data:=.seq #[] U })(hR:∀h' tk d X9 c' ms,(∀b o,b≠S->s.heap.get? b=some o->h'.get? b=some o)->h'.get? S=some { cls:=.type "list",dict:=none,data:=.seq X9 c',slots:=#[] }->Ry X9.toList ms->ms.Perm ns->R (.ok (.ret res)) { s with heap:=h',toks:=tk,drawn:=d }):
  OE (OK prog w) A.in1 (OO.List.listExtendWith (.ref S) (.ref a) res)
   (λY7 s'=>match Y7 with | .done f=>R (.ok f) s' | .again c'=>c'.quiet=true/\QC (OK prog w) A c' R s') (λe s'=>R (.error e) s') s:=by
 unfold OO.List.listExtendWith;refine we (R4 (T:="set") hS.typ ?_);have h1:OO.List.listSameRef (.ref S) (.ref a)=false:=by simp [OO.List.listSameRef,av]
 have n1:(type "set" == type "list")=false:=by decide
 have n2:(type "set" == type "tuple")=false:=by decide
 simp only [h1,n1,n2,Sy,QH,if_false];refine we (KU hh hS λI h2 d sw=>?_);obtain ⟨L,ms,fp,St,hL,hp,aI,W,st⟩:=sw.ex;have ZO:L.length<=sizeLine:=by
  have e1:L.length=ms.length:=by
   clear W st hp
   induction hL with
   | nil=>rfl
   | cons _ _ _ ih=>simp [ih]
  rw [e1,hp.length_eq,Qc];have:=hS.few;lia
 have Z:=OX hl;have ax:S∉fp:=λz=>by
  rcases aI S z with q|q
  .exact av q
  .exact O9 _ (O2 Z q)
 have aT:S≠I:=Pe (O2 Z sw.new);have Xq:∀(h:Heap)(G tk:Nat),St 0 h->(∀b o,b≠S->s.heap.get? b=some o->h.get? b=some o) ->
   h.get? S=some { cls:=.type "list",data:=.seq #[] G }->QC (OK prog w) A (.builtin "list.extend.loop" {[.ref S,.ref I,res],[]}) R { s with heap:=h,toks:=tk,drawn:=d }:=by
  intro h G tk hst hk F;refine codeAny_extend_loopS W.toS ZO S ax res L.length 0 _ #[] G rfl (Pp _) hst F (ItemsOf.nil _) λs' X9 c' hm Yx Y6=>?_;rw [Moved.eq_with hm];refine hR s'.heap s'.toks d X9 c' ms (λb o hb e=>hm.heap b o (λO=>?_) (hk b o hb e)) Yx (by rw [LX Y6];exact hL) hp;rcases OL.mp O with e'|O
  .exact hb e'
  .have e3:=O3.mp O;exact absurd (OX e) (by rw [e3];exact Tt.mpr sw.new)
 have F:=sw.old _ _ hl;refine we (OT (MT (ag.typ (s:={ s with heap:=h2,drawn:=d }) (hS.at λo e=>sw.old _ _ e)) ?_));refine SG (λ_=>?_) (λ_=>Ot {Qe Ta _,Xq _ U _ st (λb o _ e=>sw.old _ _ e) F});refine we (QW ?_);refine we ?_;show OE _ _ (TK S (·.push .none)>>=λ_=>TK S (·.pop)) _ _ _;refine we (QP F rfl ?_);have J:=Pq (Um (·.push Pj)) F rfl;refine QP (hz:=by seq_fits) J rfl ?_;have ai:=Pq (Um (·.pop)) J rfl;refine Ot {Qe Ta _,Xq _ _ _ ?_ (λb o hb e=>?_) ai}
 .refine W.frame 0 _ _ st λb hb o e=>?_;have Xf:b≠S:=λh=>ax (h ▸ hb);exact (OW _ _ (Pd Xf)).trans ((OW _ _ (Pd Xf)).trans e)
 .exact (OW _ _ (Pd hb)).trans ((OW _ _ (Pd hb)).trans (sw.old _ _ e))
theorem IU(hh:A.handled=none)(Z:ag prog w s.heap a ns)(h:∀(h':Heap)(tk:Nat) d (Z1:List Value) z,(∀b o,s.heap.get? b=some o->h'.get? b=some o)->Ry Z1 z->z.Perm ns->R Z1 { s with heap:=h',toks:=tk,drawn:=d }):
  OE (OK prog w) A (collect (.ref a)) R E s:=by
 have ZD:a<s.heap.objs.size:=let ⟨o,e,_⟩:=Z.obj;OX e;unfold collect;refine we (wpAny_runValue (Qy entry_proto_collect' ?_));rw [OQ.under_plainId PySem.F.plain_proto_collect _];show OE _ A.in1 (newList []>>=λl=>again (.builtin "list.__iadd__" {[l,.ref a],[]})) _ _ s;refine we (Pm ?_);refine Ot {Qe TV _,Qy entry_list_iadd' ?_};rw [OQ.under_plainId TV _];have G:(s.heap.push { cls:=.type "list",data:=.seq ([]:List Value).toArray }).get? s.heap.objs.size=some { cls:=.type "list",data:=.seq #[] }:=ON _ rfl;show OE _ A.in1 (OO.List.listExtendWith (.ref s.heap.objs.size) (.ref a) (.ref s.heap.objs.size)) _ _ _;have Xq:=Et (A:=A) (s:={ s with heap:=s.heap.push { cls:=.type "list",data:=.seq ([]:List Value).toArray } })
  (R:=λ(q:Tw)(s':KE)=>∃(h':Heap)(tk:Nat)(d:Drawn)(J:Array Value)(c':Nat)(z:List Int),q = .ok (.ret (.ref s.heap.objs.size))/\s'={ s with heap:=h',toks:=tk,drawn:=d } /\
   (∀b o,s.heap.get? b=some o->h'.get? b=some o)/\h'.get? s.heap.objs.size=some { cls:=.type "list",dict:=none,data:=.seq J c',slots:=#[] }/\Ry J.toList z/\z.Perm ns)
  hh (Z.at λo e=>Ou _ e) (RD ZD) (.ref s.heap.objs.size) 0 G
  (λh' tk d J c' z S O U hp=>{h',tk,d,J,c',z,rfl,rfl,λb o e=>S b o (Pe (OX e)) (Ou _ e),O,U,hp})
 refine OZ Xq (λY7 s' x=>?_) λe s' x=>?_
 .cases Y7 with
  | done f =>
   obtain ⟨h',tk,d,J,c',z,e,rfl,S,O,U,hp⟩:=x;cases e;show OE _ A (load s.heap.objs.size>>=_) _ _ _;refine we (wpAny_load O ?_);exact Ot (h h' tk d _ z S U hp)
  | again ai =>
   refine {x.1,Qt x.2 λq W y=>?_};obtain ⟨h',tk,d,J,c',z,rfl,rfl,S,O,U,hp⟩:=y;show OE _ A (load s.heap.objs.size>>=_) _ _ _;refine we (wpAny_load O ?_);exact Ot (h h' tk d _ z S U hp)
 .obtain ⟨_,_,_,_,_,_,e',_⟩:=x;cases e'
end
end L2
namespace L2
open PySem PySem.Spec PyProof.Rows PySem.W PySem.Calls
def AO(P:OF)(w:OS):List V->Hp->VK->Prop:=λxs H Q=>uR1 xs λa=>∃z:List Int,H a=some (gz P w a z)/\z.length<64/\∀p (ns:List Int) H2,New H p (.lst (ns.map V.int)) H2->ns.Perm z->ns.Pairwise (·<=·)->Q (.ref p) H2
theorem Ht:AO P w [.ref a] H Q = ∃z:List Int,H a=some (gz P w a z)/\z.length<64/\∀p (ns:List Int) H2,New H p (.lst (ns.map V.int)) H2->ns.Perm z->ns.Pairwise (·<=·)->Q (.ref p) H2:=iB
theorem CF(h:Ry vs ns):vs.length=ns.length:=by
 induction h with
 | nil=>rfl
 | cons _ _ _ z=>simp [z]
theorem Inv.drew{d:Drawn}(I:Inv X Go σ H s):Inv X Go σ H { s with drawn:=d }:=⟨I.ok,I.os,I.bare,I.base,I.loc,I.cell,I.free,I.Uz,I.pin,I.hok,I.len,I.hdk⟩
section
variable {X:Cx}
theorem Gk(hc:X.calm=true):zY X (.builtin "sorted") (AO X.prog X.w):=by
 intro Go s σ H xs us Q I r h;obtain ⟨a,rfl,ms,hq,z,q⟩:=h;obtain ⟨u,rfl,ru⟩:=cT r;cases ru;have hS:=FT I.hok hq;refine call_function_entry kind_sorted plain_sorted entry_sorted (args_sorted1 _) ?_;unfold OO.«sorted»
 refine we (m:=checkCount "sorted" 1 1 _) (Ot (we (IU (A:=X.A.in1) (I.ok.hd hc) hS λh' tk d Z1 ns hk Z F=>?_)));have hl:Z1.length=ms.length:=by rw [CF Z,F.length_eq]
 have S:Inv X Go σ H { s with heap:=h',toks:=tk,drawn:=d }:=(I.kept (t':=tk) hk).drew;refine we (Tr ?_ (by rw [hl,Qc];lia));have G:(h'.push (T5 "list" Z1.toArray 0)).get? h'.objs.size=some (T5 "list" Z1.toArray 0):=ON _ rfl;refine we (OT (PF slot_list_sort {_,G,rfl} entry_list_sort (list_sort_tree G Z (by rw [hl];exact z) λout W b1 U b3=>{_,rfl,?_}) (args_list_sort _)));obtain ⟨c,J⟩:=sortedHeap_at (vs:=Z1) (out:=out) G;refine Ot {_,rfl,.ref h'.objs.size,upd H h'.objs.size (.lst (W.map V.int)),S.laid (a:=h'.objs.size) (t':=tk) (λb o e=>?_) (Ov _) {?_,out.toList,c,pB b1,by rw [SF];exact J},rfl,q _ W _ (.mk' (S.hok.fresh (Ov _))) (U.trans F) b3}
 .have O:b<h'.objs.size:=OX e;rw [sortedHeap_old (Pe O) (by rw [Sj];exact Rr O)];exact Ou _ e
 .have:=U.length_eq;rw [OA,this,F.length_eq,Qc];lia
end
theorem J9{c c1 c2:Bool}(hc:c=true->X.calm=true)(F:c1=true->X.calm=true)(U:c2=true->X.calm=true)(L:ay X sc N' ix)(hi:W (PIc c X t0 i0 wi))(hg:∀Go C fp s H,W (PG 'b' t0 g))(G:∀Go C fp s H,W (PIc c1 'b' t1 i1 w1))(J:∀Go C fp s H,W (PG 'b' t1 g1))(O:∀Go C fp s H,W (PIc c2 'b' t2 i2 w2))(S:∀Go C fp s H,W (PG 'b' t2 Z))(he:∀Go C fp s H,W (PE 'b' YZ te))(hs:∀x,O8 i0 X.env x=pure x:=by intro _;rfl)(z:∀env x,O8 i1 env x=pure x:=by intro _ _;rfl)(Xa:∀env x,O8 i2 env x=pure x:=by intro _ _;rfl):
  W (PE X (.SetComp YZ [{t0,i0,[],0},{t1,i1,[],0},{t2,i2,[],0}] sc pos) (tSC X.prog X.w ix wi g (mx (gR w1 g1 (gR w2 Z (gX te)))))) :=
 {BC hc F U L hi.h (λa b c d e=>(hg a b c d e).h) (λa b c d e=>(G a b c d e).h) (λa b c d e=>(J a b c d e).h) (λa b c d e=>(O a b c d e).h) (λa b c d e=>(S a b c d e).h) (λa b c d e=>(he a b c d e).h) hs z Xa}
section
variable {prog:OF}{w:OS}{A:OQ}{E:Value->KE->Prop}{s:KE}
def uniq(ns:List Int):List Int:=ns.foldl ak []
end
theorem mS:∀{ns:List Int}{its:List Value},zu (ns.map V.int) its->Ry its ns
 | [],_,h=>by cases h;exact .nil
 | n::ns,_,h=>by
  cases h with
  | cons r z =>
   obtain ⟨t,rfl⟩:=r;exact .cons n t (mS z)
theorem KG{n k:Int}:k∈ak z n↔k∈z\/k=n:=by
 unfold ak;split
 .rename_i h;constructor
  .exact .inl
  .rintro (h'|rfl)
   .exact h'
   .exact h
 .simp
theorem FH(h:F.Nodup):(ak F n).Nodup:=by
 unfold ak;split
 .exact h
 .rename_i G;rw [To];refine {h,'z',λa ha b J=>?_};have e:b=n:=by simpa using J
  subst e;exact λz=>G (z ▸ ha)
theorem ym{k:Int}:∀{ns z:List Int},k∈ns.foldl ak z↔k∈z\/k∈ns
 | [],z=>by simp
 | n::ns,z=>by
  show k∈ns.foldl ak (ak z n)↔_;rw [ym,KG,OL,or_assoc]
theorem AG:∀{ns z:List Int},z.Nodup->(ns.foldl ak z).Nodup
 | [],z,h=>h
 | n::ns,z,h=>AG (ns:=ns) (FH h)
theorem i7{k:Int}:k∈uniq ns↔k∈ns:=by
 unfold uniq;rw [ym];simp
theorem f9:(uniq ns).Nodup:=AG List.nodup_nil
theorem xA{xs ys:List Int}(hx:xs.Pairwise (·<=·))(z:ys.Pairwise (·<=·))(nx:xs.Nodup)(F:ys.Nodup)(h:∀k,k∈xs↔k∈ys):xs=ys:=by
 have p:xs.Perm ys:=(RI nx F).mpr h;exact p.eq_of_pairwise (λa b _ _ h1 h2=>Int.le_antisymm h1 h2) hx z
end L2
namespace L2
open PySem PySem.Spec PyProof.Rows
def uN(v:V)(k:Int->Prop):Prop:=match v with | .int n=>k n|_=>False
theorem Km{k:Int->Prop}:uN (.int n) k=k n:=rfl
def cW(J:It)(g:TG)(tb:TB)(σ:St)(ns:List Int)(H:Hp)(Q:St->List Int->Hp->Prop):Prop:=∃W:Nat->Nat->St->List Int->Hp->Prop,(∃m,W 0 m σ ns H)/\kW W J g tb Q
section
variable {P:OF}{w:OS}{K:Ow}{ix:List (Option Nat)}{wi:TI}{g:TG}{tb:TB}{te:TE}{σ:St}{ns:List Int}{H:Hp}{Q:St->List Int->Hp->Prop}{R:VK}
theorem Le:tSC P w ix wi g tb σ H R=wi σ H λJ H1=>cW J g tb (cb ix σ) [] H1 λ_ ns H2=>∀D,H2 D=none->D≠sysModules->R (.ref D) (upd H2 D (gz P w D ns)):=rfl
theorem Hi:gR wi g tb σ ns H Q=wi σ H λJ H1=>cW J g tb σ ns H1 Q:=rfl
theorem LJ:mx tb σ ns H Q=(tb σ ns H Q\/∃a kvs,H a=some (.dK kvs)/\∀o,tb σ ns (upd H a (.frz o (.dK kvs))) λz F H'=>kN a kvs H' (Q z F)):=rfl
theorem EK:gX te σ ns H Q=te σ H λv H1=>uN v λn=>ns.length<3000/\Q σ (ak ns n) H1:=by
 unfold gX;congr 1;funext v H1;apply propext;constructor
 .rintro ⟨n,rfl,h⟩;exact h
 .intro h;cases v with
  | int n=>exact {n,rfl,h}
  | _=>exact h.elim
theorem cW.lst{a:Addr}{xs:List V}(F:Nat->St->List Int->Hp->Prop)(ha:∀i τ ns H,F i τ ns H->SqL K H a xs)(O:F 0 σ ns H)
  (hs:∀(N:St->List Int->Hp->Prop) i x τ ns H,xs[i]?=some x->F i τ ns H->(∀τ ns H,F (i+1) τ ns H->N τ ns H)->g x τ H λz H4=>tb z ns H4 N) (hd:∀τ ns H,F xs.length τ ns H->Q τ ns H):cW (Itl K a) g tb σ ns H Q:=by
 refine {λi m τ ns H=>m=xs.length-i/\i<=xs.length/\F i τ ns H,{xs.length,'z',Pp _,O},?_};rintro i m τ ys H2 ⟨rfl,hi,p⟩;have q:=ha i τ ys H2 p;by_cases J:i<xs.length
 .refine .inr {{xs,xs[i],q,by simp [J]},λx H' y=>?_};obtain ⟨e,y⟩:=y;subst e;exact hs (λz ys H=>∃G,G<xs.length-i/\G=xs.length-(i+1)/\i+1<=xs.length/\F (i+1) z ys H) i x τ ys _ (y xs q) p λz zs H q=>{xs.length-(i+1),'l',rfl,J,q}
 .have e:i=xs.length:=by lia
  subst e;exact .inl {{xs,q,Ov _},hd τ ys H2 p}
theorem cW.tup{a:Addr}{xs:List V}(F:Nat->St->List Int->Hp->Prop)(ha:∀i τ ns H,F i τ ns H->SqT K H a xs)(O:F 0 σ ns H)
  (hs:∀(N:St->List Int->Hp->Prop) i x τ ns H,xs[i]?=some x->F i τ ns H->(∀τ ns H,F (i+1) τ ns H->N τ ns H)->g x τ H λz H4=>tb z ns H4 N) (hd:∀τ ns H,F xs.length τ ns H->Q τ ns H):cW (Itt K a) g tb σ ns H Q:=by
 refine {λi m τ ns H=>m=xs.length-i/\i<=xs.length/\F i τ ns H,{xs.length,'z',Pp _,O},?_};rintro i m τ ys H2 ⟨rfl,hi,p⟩;have q:=ha i τ ys H2 p;by_cases J:i<xs.length
 .refine .inr {{xs,xs[i],q,by simp [J]},λx H' y=>?_};obtain ⟨e,y⟩:=y;subst e;exact hs (λz ys H=>∃G,G<xs.length-i/\G=xs.length-(i+1)/\i+1<=xs.length/\F (i+1) z ys H) i x τ ys _ (y xs q) p λz zs H q=>{xs.length-(i+1),'l',rfl,J,q}
 .have e:i=xs.length:=by lia
  subst e;exact .inl {{xs,q,Ov _},hd τ ys H2 p}
theorem cW.vals{o:Obj}(G:Nat->St->List Int->Hp->Prop)(ha:∀i τ ns H,G i τ ns H->H a=some (.frz o (.dK kvs)))(S:G 0 σ ns H)(hs:∀(N:St->List Int->Hp->Prop) i p τ ns H,kvs[i]?=some p->G i τ ns H->(∀τ ns H,G (i+1) τ ns H->N τ ns H)->g p.2 τ H λF H4=>tb F ns H4 N)(hd:∀τ ns H,G kvs.length τ ns H->Q τ ns H):cW (Itw a o kvs) g tb σ ns H Q:=by
 refine {λi m τ ns H=>m=kvs.length-i/\i<=kvs.length/\G i τ ns H,{kvs.length,'z',Pp _,S},?_};rintro i m τ ys H2 ⟨rfl,hi,p⟩;have q:=ha i τ ys H2 p;by_cases O:i<kvs.length
 .refine .inr {⟨q,O⟩,λx H' y=>?_};obtain ⟨e,z,hz,ex⟩:=y;subst e ex;exact hs (λF ys H=>∃J,J<kvs.length-i/\J=kvs.length-(i+1)/\i+1<=kvs.length/\G (i+1) F ys H) i z τ ys _ hz p λF zs H q=>{kvs.length-(i+1),'l',rfl,O,q}
 .have e:i=kvs.length:=by lia
  subst e;exact .inl {{q,Ov _},hd τ ys H2 p}
theorem aQ.vals{o:Obj}(G:Nat->St->List V->Hp->Prop)(hz:∀i τ ys H,G i τ ys H->ys.length<sizeLine)(ha:∀i τ ys H,G i τ ys H->H a=some (.frz o (.dK kvs)))(S:G 0 τ [] H)(hs:∀(N:St->List V->Hp->Prop) i p τ ys H,kvs[i]?=some p->G i τ ys H->(∀τ ys H,G (i+1) τ ys H->N τ ys H)->g p.2 τ H λF H4=>tt F H4 λok H5=>fh N ys F te ok H5)(hd:∀τ ys H,G kvs.length τ ys H->∀D H',New H D (.lst ys) H'->R (.ref D) H'):aQ (Itw a o kvs) g tt te τ H R:=by
 refine {λi m τ ys H=>m=kvs.length-i/\i<=kvs.length/\G i τ ys H,{kvs.length,'z',Pp _,S},?_};rintro i m τ ys H2 ⟨rfl,hi,p⟩;refine {hz i τ ys H2 p,?_};have q:=ha i τ ys H2 p;by_cases O:i<kvs.length
 .refine .inr {⟨q,O⟩,λx H' y=>?_};obtain ⟨e,z,hz,ex⟩:=y;subst e ex;exact hs (λF ys H=>∃J,J<kvs.length-i/\J=kvs.length-(i+1)/\i+1<=kvs.length/\G (i+1) F ys H) i z τ ys _ hz p λF zs H q=>{kvs.length-(i+1),'l',rfl,O,q}
 .have e:i=kvs.length:=by lia
  subst e;exact .inl {{q,Ov _},λD U _=>hd τ ys H2 p D _ (.mk' U)}
theorem IG{H:Hp}(hl:W (PE 'b' l tl)):W (PIc true 'b' tg l (jI X.K tl)):={uF (hl:=hl.h)}
end
section
variable {Y:Cx}{sc:Scope}{N':List Str}{Go:List (Addr×Obj)}{D:Addr}{fp:List Addr}{s:KE}{H:Hp}
def gSq(K:Ow)(n:Nat)(t:TGs):TG:=λv σ H Q=>∃a xs,v = .ref a/\(SqT K H a xs\/SqL K H a xs)/\xs.length=n/\t xs σ H Q
theorem Ny{k:Nat}{t:TGs}(F:Y.calm=true)(h:W (PGs (zy Y sc N' Go D fp s H) es t))(hl:(P7 es (zy Y sc N' Go D fp s H).env).length=n:=by rfl)(hst:(P7 es (zy Y sc N' Go D fp s H).env).findIdx? (·.1)=none:=by rfl):W (PG (zy Y sc N' Go D fp s H) (.Tuple es k pos) (gSq Y.K n t)):={λpins' s' σ H' v u Q I r q=>by
 obtain ⟨a,xs,rfl,h1|h1,z,q⟩:=q
 .exact uv h.h hl hst pins' s' σ H' _ u Q I r {a,xs,rfl,h1,z,q}
 .exact ET (X:=zy Y sc N' Go D fp s H) F h.h hl hst pins' s' σ H' _ u Q I r {a,xs,rfl,h1,z,q}}
end
section
variable {K:Ow}{g:TG}{tt:TT}{tk tv:TE}{H:Hp}{Q:VK}
theorem fc.tup{a:Addr}{xs:List V}{τ:St}(F:Nat->St->List (Key×V)->Hp->Prop)(hz:∀i τ ys H,F i τ ys H->ys.length<sizeLine)(ha:∀i τ ys H,F i τ ys H->SqT K H a xs)(O:F 0 τ [] H)
  (hs:∀(N:St->List (Key×V)->Hp->Prop) i x τ ys H,xs[i]?=some x->F i τ ys H->(∀τ ys H,F (i+1) τ ys H->N τ ys H)->g x τ H λz H4=>tt z H4 λok H5=>jd N ys z tk tv ok H5) (hd:∀τ ys H,F xs.length τ ys H->∀D H',New H D (.dK ys) H'->Q (.ref D) H'):fc (Itt K a) g tt tk tv τ H Q:=by
 refine {λi m τ ys H=>m=xs.length-i/\i<=xs.length/\F i τ ys H,{xs.length,'z',Pp _,O},?_};rintro i m τ ys H2 ⟨rfl,hi,p⟩;refine {hz i τ ys H2 p,?_};have q:=ha i τ ys H2 p;by_cases J:i<xs.length
 .refine .inr {{xs,xs[i],q,by simp [J]},λx H' y=>?_};obtain ⟨e,y⟩:=y;subst e;exact hs (λz ys H=>∃G,G<xs.length-i/\G=xs.length-(i+1)/\i+1<=xs.length/\F (i+1) z ys H) i x τ ys _ (y xs q) p λz zs H q=>{xs.length-(i+1),'l',rfl,J,q}
 .have e:i=xs.length:=by lia
  subst e;exact .inl {{xs,q,Ov _},λD S _=>hd τ ys H2 p D _ (.mk' S)}
end
section
variable {X:Cx}
noncomputable def EqR(H:Hp)(x y:V)(b:Bool):Prop:=∃p q zs ws,x = .ref p/\y = .ref q/\H p=some (.tup zs)/\H q=some (.tup ws)/\zs.all ah=true/\ws.all ah=true/\b=eqL zs ws
theorem EqR.at(I:Inv X Go σ H s)(h:EqR H x y b)(rx:zp x u)(Z:zp y v)(hu:A.units<cLine):SeqAt.EqAt A s u v b:=by
 obtain ⟨p,q,xs,ys,rfl,rfl,ha,J,O,fy,rfl⟩:=h;cases rx;cases Z;by_cases F:p=q
 .subst F;rw [ha] at J;cases J;rw [j9 O λx hx b e=>by have:=Pg.mp O x hx;rw [e] at this;cases this];exact SeqAt.EqAt.same _
 obtain ⟨is,r1,p1,_⟩:=I.tuple (SqT.of (K:=X.K) ha);obtain ⟨G,r2,p2,_⟩:=I.tuple (SqT.of (K:=X.K) J);have l1:=r1.length;have l2:=r2.length;have z:=SeqAt.RcAt.tuples (A:=A) (e:=λj=>eqV (xs.getD j .non) (ys.getD j .non)) p1 p2 hu λj h1 h2=>by
  simp only [OR] at h1 h2;have W:xs[j]?=some (xs.getD j .non):=by rw [O5,Os 'l'];rfl
  have U:ys[j]?=some (ys.getD j .non):=by rw [O5,Os 'l'];rfl
  obtain ⟨u,g1,q1⟩:=r1.get W;obtain ⟨v,S,q2⟩:=r2.get U;rw [Os h1] at g1;rw [Os h2] at S;have w1:is.toArray[j]=u:=by simpa using O6.inj g1
  have w2:G.toArray[j]=v:=by simpa using O6.inj S
  rw [w1,w2];exact ku q1 q2 (Pg.mp O _ (Pr W)) (Pg.mp fy _ (Pr U))
 have e:eqL xs ys=((Qh (min is.toArray.size G.toArray.size)).all (λj=>eqV (xs.getD j .non) (ys.getD j .non))&&is.toArray.size==G.toArray.size):=by
  unfold eqL;simp only [OR];rw [l1,l2];by_cases hz:is.length=G.length
  .rw [hz];simp
  .have z:(is.length==G.length)=false:=by simpa using hz
   rw [z,S8,Bool.and_false]
 rw [e];exact .of_refs F z
end
theorem Bq{α β:Type}{f:α->β}{a:α}{l:List α}:(a::l).map f=f a::l.map f:=rfl
theorem By{α β:Type}{f:α->β}:([]:List α).map f=[]:=rfl
theorem G0:(!true)=false:=rfl
theorem B6:(!false)=true:=rfl
theorem fsc(a:sc.kind = .function:=by rfl)(b:sc.isCoroutine=false:=by rfl)(c:sc.isGenerator=false:=by rfl)(d:N.Nodup:=by decide +kernel)(e:N.take P.length=P:=by rfl)(f:∀x∈P,sc.names.lookup x=some .local\/sc.names.lookup x=some .cell:=by decide +kernel)(g:∀y∈sc.names,y.2≠.free:=by decide +kernel):zx N P sc:=⟨a,b,c,d,e,f,g⟩
abbrev FnM(K:Ow)(x:Str)(st:Stmt):Prop:=∃f fd,QE K OB x=some (some (.ref f))/\Fun K x x st f fd
abbrev zL(K:Ow)(C:Addr)(m q:Str)(st:Stmt):Prop:=∃f fd,Qn K (.ref C) m=some (some (.ref f))/\isFn K (.ref f)=true/\Fun K m q st f fd
theorem u1{α:Type}{p:List α->Prop}(h:∀a,p [a]):∀us,us.length=1->p us
 | [a],_=>h a
theorem u2{α:Type}{p:List α->Prop}(h:∀a b,p [a,b]):∀us,us.length=2->p us
 | [a,b],_=>h a b
theorem u3{α:Type}{p:List α->Prop}(h:∀a b c,p [a,b,c]):∀us,us.length=3->p us
 | [a,b,c],_=>h a b c
theorem u4{α:Type}{p:List α->Prop}(h:∀a b c d,p [a,b,c,d]):∀us,us.length=4->p us
 | [a,b,c,d],_=>h a b c d
theorem u5{α:Type}{p:List α->Prop}(h:∀a b c d e,p [a,b,c,d,e]):∀us,us.length=5->p us
 | [a,b,c,d,e],_=>h a b c d e
section
variable {w:OS}{K:Ow}{mg:Str->Option Value}{h:Heap}{k:Nat}{x q:Str}{C:Addr}{ps:List Str}{sp:Sp}{st:Stmt} (P:OF) (base:Heap) (cm:Bool)
noncomputable abbrev BdA(x q:Str)(st:Stmt)(ps:List Str):Prop:=∀(kV z G:Value)(F:Option Addr)(J ct:Value)(us:List Value),us.length=ps.length->SY (fnOf x q (gD st) (cS st) (zo st) .none kV z G F J ct) {us,[]}=pure (ps.zip us)
theorem gf(X:K.In h)(G:h.Ns OB mg)(m:FnM K x st)(o:∀f fd,Fun K x x st f fd->zq P w K mg base CX0 cm k f fd ps sp)(b:BdA x x st ps):GF P w K mg base cm k x ps sp:=let ⟨f,fd,a,F⟩:=m;{f,fd,o f fd F,Qr X G a,F.kp,F.binds b}
theorem gx(X:K.In h)(G:h.Ns OB mg)(m:FnM K x st)(o:∀f fd,Fun K x x st f fd->zq P w K mg base (CXW P w) cm k f fd ps sp)(b:BdA x x st ps):GX P w K mg base cm k x ps sp:=let ⟨f,fd,a,F⟩:=m;{f,fd,o f fd F,Qr X G a,F.kp,F.binds b}
theorem gm(m:zL K C x q st)(o:∀f fd,Fun K x q st f fd->zq P w K mg base CX0 cm k f fd ps sp)(b:BdA x q st ps):GM P w K mg base cm k C x ps sp:=let ⟨f,fd,a,i,F⟩:=m;{f,fd,o f fd F,⟨a,i,F.kp⟩,F.binds b}
theorem gmx(m:zL K C x q st)(o:∀f fd,Fun K x q st f fd->zq P w K mg base (CXW P w) cm k f fd ps sp)(b:BdA x q st ps):GMX P w K mg base cm k C x ps sp:=let ⟨f,fd,a,i,F⟩:=m;{f,fd,o f fd F,⟨a,i,F.kp⟩,F.binds b}
theorem gc(X:K.In h)(G:h.Ns OB mg)(c:QE K OB x=some (some (.ref C)))(mk:SL K C=true)(z:Ru K (.ref C)=true)(m:zL K C Wc q st)(o:∀f fd,Fun K Wc q st f fd->zq P w K mg base CX0 cm k f fd ps sp)(b:BdA Wc q st ps):GC P w K mg base cm k x C ps sp:=let ⟨f,fd,a,i,F⟩:=m;{f,fd,o f fd F,Qr X G c,⟨mk,a,i,z⟩,F.binds b}
theorem gcx(X:K.In h)(G:h.Ns OB mg)(c:QE K OB x=some (some (.ref C)))(mk:SL K C=true)(z:Ru K (.ref C)=true)(m:zL K C Wc q st)(o:∀f fd,Fun K Wc q st f fd->zq P w K mg base (CXW P w) cm k f fd ps sp)(b:BdA Wc q st ps):GCX P w K mg base cm k x C ps sp:=let ⟨f,fd,a,i,F⟩:=m;{f,fd,o f fd F,Qr X G c,⟨mk,a,i,z⟩,F.binds b}
end
def iz(i:Nat):TE:=λσ H Q=>match σ[i]? with|some (some v)=>Q v H|_=>False
def rID(C:Int->Int->Prop)(g:Int->Int->V):R2:=λx y H Q=>match x,y with | .int i,.int j=>C i j/\Q (g i j) H|_,_=>False
def yw(g:Int->Int->V):R2:=λx y H Q=>match x,y with | .int i,.int j=>Q (g i j) H|_,_=>False
section
variable {X:Cx}{f:Value->Value->Sem Value}{C:Int->Int->Prop}{g:Int->Int->V}
theorem pvD(i:Nat)(hN:X.N[i]?=some x:=by rfl)(hv:Vis X.env.scope x:=by first|exact OM rfl|exact Ss (OM rfl)|exact Ss (Ss rfl))(hd:(x==("__debug__":Str))=false:=by decide)(hcd:(x==("__classdict__":Str))=false:=by decide):PE X (.Name x pos) (iz i):=λGo s σ H Q I h=>pv i hN hv hd hcd Go s σ H Q I (by
 unfold iz at h;split at h
 .exact {_,by assumption,h}
 .exact h.elim)
theorem zb(i:Nat)(hN:X.N[i]?=some x:=by rfl)(hv:Vis X.env.scope x:=by first|exact OM rfl|exact Ss (OM rfl)|exact Ss (Ss rfl))(hd:(x==("__debug__":Str))=false:=by decide)(hcd:(x==("__classdict__":Str))=false:=by decide):W (PE X (.Name x pos) (iz i)):={pvD i hN hv hd hcd}
theorem oI(h:OpR X f (rI C g)):OpR X f (rID C g):=h.weak λx y H Q q=>by
 cases x<;>cases y<;>first|exact q.elim|exact {_,_,rfl,rfl,q}
theorem oI0(h:OpR X f (rI0 g)):OpR X f (yw g):=h.weak λx y H Q q=>by
 cases x<;>cases y<;>first|exact q.elim|exact {_,_,rfl,rfl,q}
end
section
variable {i j:Int}{H:Hp}{Q:VK}{C:Int->Int->Prop}{g:Int->Int->V}
theorem HQ:rID C g (.int i) (.int j) H Q=(C i j/\Q (g i j) H):=rfl
theorem Kh:yw g (.int i) (.int j) H Q=Q (g i j) H:=rfl
end
abbrev clT(t:TE):TE:=λσ H Q=>∃R:VK,t σ H R/\∀v H,R v H->Q v H
abbrev clR(r:R2):R2:=λx y H Q=>∃R:VK,r x y H R/\∀v H,R v H->Q v H
abbrev clA(t:TA):TA:=λσ H Q=>∃R:List V->Hp->Prop,t σ H R/\∀v H,R v H->Q v H
def bD(v:V)(q:Bool->Prop):Prop:=match v with | .bl c=>q c|_=>False
def aD(v:V)(q:Addr->Prop):Prop:=match v with | .ref a=>q a|_=>False
theorem Lb:bD (.bl c) q=q c:=rfl
theorem GP:aD (.ref a) q=q a:=rfl
theorem bD.ex(h:bD v q):∃c,v = .bl c/\q c:=by
 cases v<;>first|exact {_,rfl,h}|exact h.elim
theorem aD.ex(h:aD v q):∃a,v = .ref a/\q a:=by
 cases v<;>first|exact {_,rfl,h}|exact h.elim
def AL(t:TE):TT:=λσ H Q=>t σ H λx H1=>bD x λc=>Q c H1
def va(ta tb:TE):TE:=λσ H Q=>ta σ H λx H1=>bD x λc=>if c=true then tb σ H1 Q else Q (.bl false) H1
def A0(ta:TE):TE:=λσ H Q=>ta σ H λx H1=>bD x λc=>Q (.bl (!c)) H1
def lS(C:Addr)(m:Str)(sp:Sp)(E:XK)(ta:TE)(t:TA):TE:=λσ H Q=>ta σ H λx H1=>aD x λa=>∃dx fs,H1 a=some (.ins C dx fs)/\fs.lookup m=none/\t σ H1 λvs H2=>sp (.ref a::vs) H2 Q E
def ql(C:Addr)(m:Str)(sp:Sp)(Ex:Addr->St->Hp->Prop)(ta:TE)(t:TA):TE:=λσ H Q=>ta σ H λx H1=>aD x λa=>∃dx fs,H1 a=some (.ins C dx fs)/\fs.lookup m=none/\t σ H1 λvs H2=>sp (.ref a::vs) H2 Q (XE Ex σ)
def AQ(sp:Sp)(E:XK)(t:TA):TE:=λσ H Q=>t σ H λvs H1=>sp vs H1 Q E
def A2(sp:Sp)(Ex:Addr->St->Hp->Prop)(t:TA):TE:=λσ H Q=>t σ H λvs H1=>sp vs H1 Q (XE Ex σ)
def yh(C:Addr)(ta:TE)(f:Str):TE:=λσ H Q=>ta σ H λx H1=>aD x λa=>∃dx fs v,H1 a=some (.ins C dx fs)/\fs.lookup f=some v/\Q v H1
noncomputable def yk(C:Addr)(ta tv:TE)(f:Str):TS:=λD σ H=>tv σ H λy H1=>ta σ H1 λx H2=>aD x λa=>∃dx fs,H2 a=some (.ins C dx fs)/\fs.length<1000/\D.nx σ (upd H2 a (.ins C dx (zG f y fs)))
def tU(K:Ow)(tl:TE):TI:=λσ H R=>tl σ H λx H1=>aD x λa=>(∃xs,SqL K H1 a xs)/\R (Itl K a) H1
def vd(t:TG)(u:TGs):TGs:=λvs σ H Q=>match vs with|v::r=>t v σ H λz H'=>u r z H' Q|[]=>False
theorem HS{t:TG}{r:List V}:vd t u (v::r) σ H Q=t v σ H λz H'=>u r z H' Q:=rfl
noncomputable def mJ:R2:=λx y H Q=>match x,y with
 | .ref a,.int i=>∃xs,(H a=some (.lst xs)\/H a=some (.tup xs))/\∃v,atI xs i=some v/\Q v H
 | .str x,.int i=>x.length<=sizeLine/\∃c,atI x.cps.toList i=some c/\Q (.str {#[c]}) H
 | _,_=>False
def oz:List V->Hp->VK->Prop:=λxs H Q=>match xs with
 | [.ref a]=>∃ys,(H a=some (.lst ys)\/H a=some (.tup ys))/\Q (.int ys.length) H
 | [.str x]=>x.length<=sizeLine/\Q (.int x.length) H
 | _=>False
noncomputable def gj(c:Bool):R2:=λx y H Q=>match x,y with
 | .int i,.int j=>Q (.bl (if c then !decide (i=j) else decide (i=j))) H
 | .str i,.str j=>Q (.bl (if c then !decide (i=j) else decide (i=j))) H
 | .bl i,.bl j=>Q (.bl (if c then !decide (i=j) else decide (i=j))) H
 | .ref a,.ref b=>∃xs ys,H a=some (.lst xs)/\H b=some (.lst ys)/\xs.all ah=true/\ys.all ah=true/\Q (.bl (if c then !eqL xs ys else eqL xs ys)) H
 | _,_=>False
def i9:R2:=λx y H Q=>match x,y with
 | .int i,.int j=>Q (.int (i+j)) H
 | .str x,.str y=>x.length+y.length<=sizeLine/\Q (.str (x++y)) H
 | .ref a,.ref b=>∃xs zs,H a=some (.lst xs)/\H b=some (.lst zs)/\xs.length+zs.length<=sizeLine/\∀p H2,New H p (.lst (xs++zs)) H2->Q (.ref p) H2
 | _,_=>False
section
variable {H:Hp}{Q:VK}{i j:Int}{x y:Str}{a b:Addr}{k k' c:Bool}
theorem yW:mJ (.ref a) (.int i) H Q = ∃xs,(H a=some (.lst xs)\/H a=some (.tup xs))/\∃v,atI xs i=some v/\Q v H:=rfl
theorem En:mJ (.str x) (.int i) H Q=(x.length<=sizeLine/\∃c,atI x.cps.toList i=some c/\Q (.str {#[c]}) H):=rfl
theorem FZ:oz [.ref a] H Q = ∃ys,(H a=some (.lst ys)\/H a=some (.tup ys))/\Q (.int ys.length) H:=rfl
theorem DE:oz [.str x] H Q=(x.length<=sizeLine/\Q (.int x.length) H):=rfl
theorem Fs:gj c (.int i) (.int j) H Q=Q (.bl (if c then !decide (i=j) else decide (i=j))) H:=rfl
theorem Fe:gj c (.str x) (.str y) H Q=Q (.bl (if c then !decide (x=y) else decide (x=y))) H:=rfl
theorem Hk:gj c (.bl k) (.bl k') H Q=Q (.bl (if c then !decide (k=k') else decide (k=k'))) H:=rfl
theorem Es:gj c (.ref a) (.ref b) H Q = ∃xs ys,H a=some (.lst xs)/\H b=some (.lst ys)/\xs.all ah=true/\ys.all ah=true/\Q (.bl (if c then !eqL xs ys else eqL xs ys)) H:=rfl
theorem B3:i9 (.int i) (.int j) H Q=Q (.int (i+j)) H:=rfl
theorem Mx:i9 (.str x) (.str y) H Q=(x.length+y.length<=sizeLine/\Q (.str (x++y)) H):=rfl
theorem DO:i9 (.ref a) (.ref b) H Q = ∃xs zs,H a=some (.lst xs)/\H b=some (.lst zs)/\xs.length+zs.length<=sizeLine/\∀p H2,New H p (.lst (xs++zs)) H2->Q (.ref p) H2:=rfl
end
section
variable {X:Cx}{e:OU}{es:List OU}{st:Stmt}{t ta tb tv:TE}{tA:TA}{r:R2}{f:Value->Value->Sem Value}{C:Addr}{m:Str}{sp:Sp}{E:XK}{Ex:Addr->St->Hp->Prop}{c:Bool}
theorem clE(h:W (PE X e t)):W (PE X e (clT t)):={λGo s σ H Q I=>x3e λR q hw=>thn (h.h Go s σ H R I q) λ_ _=>x5e λv H' a b c=>{v,H',a,b,hw _ _ c}}
theorem clO(h:OpR X f r):OpR X f (clR r):=λGo s σ H x y v u Q I F z=>x3e λR q hw=>thn (h Go s σ H x y v u R I F z q) λ_ _=>x5e λv H' a b c=>{v,H',a,b,hw _ _ c}
theorem clP(h:W (PA X es tA)):W (PA X es (clA tA)):=⟨h.h.any⟩
theorem peD(h:W (PE X e t))(w:∀σ H Q,t' σ H Q->t σ H Q):W (PE X e t'):={λGo s σ H Q I q=>h.h Go s σ H Q I (w σ H Q q)}
theorem tD(h:W (PT X e (oq (tOp (clR r) (clT ta) (clT tb))))):W (PT X e (AL (tOp r ta tb))):={λGo s σ H Q I q=>h.h Go s σ H Q I {_,q,λx H1 q1=>{_,q1,λy H2 G=>{_,G,λz H3 F=>F.ex}}}}
theorem anD(h:W (PE X e (oR (clT ta) tb))):W (PE X e (va ta tb)):=peD h λσ H Q q=>{_,q,λx H1 q1=>q1.ex}
theorem ntD(h:W (PE X e (pP (clT ta)))):W (PE X e (A0 ta)):=peD h λσ H Q q=>{_,q,λx H1 q1=>q1.ex}
theorem mD(h:W (PE X e (fC C m sp [] E (clT ta) (clA tA)))):W (PE X e (lS C m sp E ta tA)):=peD h λσ H Q q=>{_,q,λx H1 q1=>by
 obtain ⟨a,rfl,dx,fs,h1,h2,F⟩:=q1.ex;exact {a,dx,fs,rfl,h1,h2,_,F,λvs H2 z=>by dsimp only;rw [Qa];exact z}}
theorem m0D(h:W (PE X e (fC C m sp [] E (clT ta) bV))):W (PE X e (lS C m sp E ta bV)):=peD h λσ H Q q=>{_,q,λx H1 q1=>by
 obtain ⟨a,rfl,dx,fs,h1,h2,z⟩:=q1.ex;exact {a,dx,fs,rfl,h1,h2,z}}
theorem mXD(h:W (PE X e (fJ C m sp [] Ex (clT ta) (clA tA)))):W (PE X e (ql C m sp Ex ta tA)):=peD h λσ H Q q=>{_,q,λx H1 q1=>by
 obtain ⟨a,rfl,dx,fs,h1,h2,F⟩:=q1.ex;exact {a,dx,fs,rfl,h1,h2,_,F,λvs H2 z=>by dsimp only;rw [Qa];exact z}}
theorem aX(h:W (PE X e (fJ C m sp [] Ex (clT ta) bV))):W (PE X e (ql C m sp Ex ta bV)):=peD h λσ H Q q=>{_,q,λx H1 q1=>by
 obtain ⟨a,rfl,dx,fs,h1,h2,z⟩:=q1.ex;exact {a,dx,fs,rfl,h1,h2,z}}
theorem caD(h:W (PE X e (iw sp [] E (clA tA)))):W (PE X e (AQ sp E tA)):=peD h λσ H Q q=>{_,q,λvs H2 z=>by dsimp only;rw [Qa];exact z}
theorem cXD(h:W (PE X e (kB sp [] Ex (clA tA)))):W (PE X e (A2 sp Ex tA)):=peD h λσ H Q q=>{_,q,λvs H2 z=>by dsimp only;rw [Qa];exact z}
theorem fD(h:W (PE X e (jU C (clT ta) m))):W (PE X e (yh C ta m)):=peD h λσ H Q q=>{_,q,λx H1 q1=>by
 obtain ⟨a,rfl,dx,fs,v,z⟩:=q1.ex;exact {a,dx,fs,v,rfl,z}}
theorem sfD(h:W (PS X st (lC C (clT ta) (clT tv) m))):W (PS X st (yk C ta tv m)):={λGo s σ H D I q=>h.h Go s σ H D I {_,q,λy H1 q1=>{_,q1,λx H2 F=>by
 obtain ⟨a,rfl,dx,fs,z⟩:=F.ex;exact {a,dx,fs,rfl,z}}}}
theorem liD(h:W (PIc c X tg e (oH X.K (clT ta)))):W (PIc c X tg e (tU X.K ta)):={λGo s σ H R I q=>h.h Go s σ H R I {_,q,λx H1 q1=>q1.ex}}
theorem gsD(h:W (PGs X ts (g7 g u))):W (PGs X ts (vd g u)):={λGo s σ H vs us Q I z q=>h.h Go s σ H vs us Q I z (by cases vs with|nil=>exact q.elim|cons v r=>exact {v,r,rfl,q})}
theorem cq:IxR X mJ:=rp.weak λx y H Q h=>by
 cases x<;>cases y<;>first|exact h.elim|skip
 .rename_i a i;exact (tR (x:=a) (i:=i)).mpr h
 .rename_i a i;exact (rQ (a:=a) (i:=i)).mpr h
theorem eW:zY X (.builtin "len") oz:=iU.weak λxs H Q h=>by
 match xs,h with
 | [.ref a],h=>exact (ou (a:=a)).mpr h
 | [.str x],h=>exact (uL (x:=x)).mpr h
theorem oE{f:Value->Value->Sem Value}(h:OpR X f (uEq c)):OpR X f (gj c):=h.weak λx y H Q h=>by
 cases x<;>cases y<;>first|exact h.elim|exact tZ.mpr h|exact sW.mpr h|exact tE.mpr h|exact sV.mpr h
theorem cB:OpR X (QF .Add) i9:=nB.weak λx y H Q h=>by
 cases x<;>cases y<;>first|exact h.elim|exact AZ.mpr h|exact xD.mpr h|exact rD.mpr h
end
end L2
namespace HT
open PySem PyProof.Rows
end HT
namespace L2
open PySem PySem.Spec PyProof.Rows
section
variable {P:OF}{w:OS}{K:Ow}{mg:Str->Option Value}{base:Heap}{x qual:Str}{st:Stmt}{f:Addr}{fd:OG}{N ps:List Str}{cm:Bool}{k:Nat}{sp:Sp}
theorem Fun.o(F:Fun K x qual st f fd)(S:zx N ps (zo st))
  (G:∀(z:Value)(A:OQ)(outer:List Env)(s:KE)(H:Hp)(vs:List V)(Q:VK)(E:XK),zE cm k (A.deeper (QR qual (zo st) s.heap.objs.size f z))->sp vs H Q E ->
   ∃t,PSs (bF CX0 cm P w K mg base N qual (zo st) f z A outer s H E).ee (cS st) t/\t { nx:=λ_ H'=>Q .non H',rt:=Q } (start N vs) H)
  (len:∀vs H Q E,sp vs H Q E->vs.length=ps.length:=by intro _ _ _ _ h;repeat (first|(obtain ⟨rfl,_⟩:=h;rfl)|(obtain ⟨_,h⟩:=h))):zq P w K mg base CX0 cm (k+1) f fd ps sp:=F.ok S len G
theorem Fun.oW(F:Fun K x qual st f fd)(S:zx N ps (zo st))
  (G:∀(z:Value)(A:OQ)(outer:List Env)(s:KE)(H:Hp)(vs:List V)(Q:VK)(E:XK),zE cm k (A.deeper (QR qual (zo st) s.heap.objs.size f z))->sp vs H Q E ->
   ∃t,PSs (bF (CXW P w) cm P w K mg base N qual (zo st) f z A outer s H E) (cS st) t/\t { nx:=λ_ H'=>Q .non H',rt:=Q } (start N vs) H)
  (len:∀vs H Q E,sp vs H Q E->vs.length=ps.length:=by intro _ _ _ _ h;repeat (first|(obtain ⟨rfl,_⟩:=h;rfl)|(obtain ⟨_,h⟩:=h))):zq P w K mg base (CXW P w) cm (k+1) f fd ps sp:=F.fG S len G
end
section
variable {prog:OF}{w:OS}{A:OQ}{E:Value->KE->Prop}{s:KE}{env:Env}
variable {nm q:Str}{C N:Addr}{bs bm bmB:List Value}{hdct:Bool}{sn:List Str}{sub:List Value}{ab:Bool}{col:Option Bool}{dd:Option Addr}{k0 k1 k2 k3 k5:Option Value}{B newId initId:String}
def nF(A:OQ)(z:Heap)(e:Addr)(h h':Heap):Prop:=h'=h\/∃a n,A.handled=some (.ref a)/\bI z n a/\h'=h.update e (RL (·.setIfInBounds 2 (.ref a)))
theorem Fq{α:Type}{Q:α->KE->Prop}(G:Hnd A F)(kp:∀b o,(∃C,o.cls = .ref C)->F.get? b=some o->s.heap.get? b=some o)(J:F.get? e=none)(he:s.heap.get? e=some oe)(hd:oe.data = .fields ws)(hz:2<ws.size)(k:∀h',nF A F e s.heap h'->E (.ref e) { s with heap:=h' }):OE (OK prog w) A (SA (.ref e):Sem α) Q E s:=by
 unfold SA;refine we (wpAny_handled ?_);rcases G with G|⟨a,n,h1,h2⟩
 .rw [G];exact we (Ot (Tb (k s.heap (.inl rfl))))
 .rw [h1];have ne:∀n b,bI F n b->b≠e:=λn b x z=>by
   obtain ⟨o,C,g,c⟩:=x.cls;rw [z,J] at g;cases g
  dsimp only;rw [if_pos (show (OH a != OH e)=true by simpa using ne _ _ h2)];refine we (OT (wpAny_runValue (yT kp ne h2 h2 (Ov _) ?_)));refine we ?_;show OE _ _ (RC (.ref e) 2 (.ref a)) _ _ _;exact Px he hd hz (Tb (k _ (.inr {a,n,h1,h2,rfl})))
theorem qj(U:bm.contains (.type "BaseException")=true)(h:OE (OK prog w) A x (λv s₁=>∃e t z,v = .ref e/\Hnd A z/\(∀b o,(∃C,o.cls = .ref C)->z.get? b=some o->s₁.heap.get? b=some o)/\z.get? e=none/\s₁.heap.get? C=some (excClassObj nm q C N bs bm hdct sn sub ab col dd k0 k1 k2 k3 k5 newId) /\
   s₁.heap.get? e=some { cls:=.ref C,data:=.fields #[.ref t,.none,.none,.none,.bool false,.none] }/\∀h',nF A z e s₁.heap h'->E (.ref e) { s₁ with heap:=h' }) E s):
  OE (OK prog w) A (raiseStmt env (some x) none) Q E s:=by
 have F:(OH C::bm).contains (.type "BaseException")=true:=by rw [List.contains_cons,U,Bool.or_true]
 unfold raiseStmt;refine we (OZ h (λv s₁ h₁=>?_) λ_ _ x=>x);obtain ⟨e,t,z,rfl,O,kp,J,G,he,S⟩:=h₁;obtain ⟨hp,g,d,tk,os⟩:=s₁
 repeat (first|with_reducible refine R5 he ?_|with_reducible refine R5 G ?_|(with_reducible refine SH G ?_;rw [F])|wp_step)
 exact Fq O kp J he rfl 'z' S
theorem KL(F:ExcBaseFacts B newId initId bmB)(Zw:bm.contains (.type "BaseException")=true)(Ya:(Qz cpos (OV args env)).any (·.1)=false)(Z:mN Wc=none)(h:OE (OK prog w) A (PH (.Name x np) env) (λf s₁=>f = .ref C/\OE (OK prog w) A (evalArgs (.ref C) true (Qz cpos (OV args env)) [])
   (λa G=>a.kw=[]/\a.pos.length<=sizeLine/\Hnd A G.heap/\G.heap.get? C=some (excClassObj nm q C N bs bm hdct sn sub ab col dd k0 k1 k2 k3 k5 newId)/\G.heap.Ns N mN/\OwnTail G.heap bmB bm /\
    ∀h' e,Heap.MadeExcOf G.heap h' e (.ref C) a.pos->∀S,nF A G.heap e h' S->E (.ref e) { G with heap:=S }) E s₁) E s):
  OE (OK prog w) A (exec (.Raise (some (.Call (.Name x np) args [] cpos)) none pos) env) Q E s:=by
 rw [arm_exec_Raise]
 first
  | refine we (Pl (qj (C:=C) (nm:=nm) (q:=q) (N:=N) (bs:=bs) (bm:=bm) (hdct:=hdct) (sn:=sn) (sub:=sub) (ab:=ab) (col:=col) (dd:=dd) (k0:=k0) (k1:=k1) (k2:=k2) (k3:=k3) (k5:=k5) (newId:=newId) Zw (we (OZ (Tf (OZ h (λf s₁ h₁=>?_) λ_ _ x=>x)) (λv s₃ J=>we (Pl (Ot J))) λ_ _ x=>x))))
  | (simp only [evalOpt,Option.map];refine we (Pl (qj (C:=C) (nm:=nm) (q:=q) (N:=N) (bs:=bs) (bm:=bm) (hdct:=hdct) (sn:=sn) (sub:=sub) (ab:=ab) (col:=col) (dd:=dd) (k0:=k0) (k1:=k1) (k2:=k2) (k3:=k3) (k5:=k5) (newId:=newId) Zw (we (OZ (Tf (OZ h (λf s₁ h₁=>?_) λ_ _ x=>x)) (λv s₃ J=>we (Pl (Ot J))) λ_ _ x=>x)))))
  | (refine we (Pl (qj (C:=C) (nm:=nm) (q:=q) (N:=N) (bs:=bs) (bm:=bm) (hdct:=hdct) (sn:=sn) (sub:=sub) (ab:=ab) (col:=col) (dd:=dd) (k0:=k0) (k1:=k1) (k2:=k2) (k3:=k3) (k5:=k5) (newId:=newId) Zw ?_));refine we (OZ (Tf (OZ h (λf s₁ h₁=>?_) λ_ _ x=>x)) (λv s₃ J=>we (Pl (Ot J))) λ_ _ x=>x))
 obtain ⟨rfl,h₁⟩:=h₁;unfold Rp;refine we (OT (OZ h₁ (λa G O=>we (Pl ?_)) λ_ _ x=>x));obtain ⟨ZZ,ai⟩:=a;obtain ⟨WT,ZO,hh,W,hn,T,O⟩:=O;obtain rfl:ai=[]:=WT;obtain ⟨hp,g,d,tk,os⟩:=G;simp only [Ya];refine we (wpAny_keeperOf_exc W ?_);refine we (wpAny_call_exc_subT (hrest:=ZO) F T W hn Z λh' e U=>we (OT (wpAny_point (Ot ?_))));obtain ⟨t,ht,_,_⟩:=U.there;exact {e,t,hp,rfl,hh,λb o _ z=>U.keeps _ _ z,U.new,U.keeps _ _ W,ht,O h' e U}
end
theorem Co{t:TA}(T:aL X Ex)(O:aZ X.K C)(hg:Gl X x)(U:X.mg x=some (.ref C))(ha:PA X (e::es) t)(Zr:'g'=false:=by decide)(hst:OV (e::es) X.env=(false,PH e X.env)::OV es X.env:=by rfl)(Yt:(Qz cpos (OV es X.env)).any (·.1)=false:=by rfl):
  PS X (.Raise (some (.Call (.Name x np) (e::es) [] cpos)) none pos) (jz C Ex t):=by
 intro Go s σ H D I h;obtain ⟨cd,_,⟨bm,N,nm,q,bs,hdct,sn,sub,ab,col,dd,k0,k1,k2,k3,k5,mN,em,hC,hN,S,TL⟩⟩:=O.obj I.ok.mod.eE;refine KL (C:=C) (nm:=nm) (q:=q) (N:=N) (bs:=bs) (bm:=bm) (hdct:=hdct) (sn:=sn) (sub:=sub) (ab:=ab) (col:=col) (dd:=dd) (k0:=k0) (k1:=k1) (k2:=k2) (k3:=k3) (k5:=k5) (mN:=mN) S0 (TL.hasType 'd')
  (by rw [hst];show (false||(Qz cpos (OV es X.env)).any (·.1))=false;rw [Yt];rfl) S (di I hg U {rfl,?_} Zr)
 have hA:=ha cpos Go s σ H _ I h;rw [hst] at hA ⊢;refine Calls.evalArgs_plain (thn hA λus s2=>x5e λvs H2 F r2=>x2e λhz q2=>{rfl,by rw [<- r2.length];exact hz,F.hnd,F.bk _ _ hC,hN.keeps F.bk,TL.keeps F.bk,λh' ea G J Z=>?_});obtain ⟨tt,he,ai,_⟩:=G.there;have Xh:∀env∈X.stack,∀a,env.frame=some a->a∈frs X.stack:=λenv U a ha=>RP.mpr ⟨env,U,ha⟩;have kp:∀b o,s2.heap.get? b=some o->J.get? b=some o:=λb o z=>by
  rcases Z with rfl|⟨a,n,_,_,rfl⟩
  .exact G.keeps b o z
  .rw [OW _ _ (λy=>by rw [<- y,G.new] at z;cases z)];exact G.keeps b o z
 refine T Go σ H2 s2 ea C (Ua s2.heap (frs X.stack)) .none { s2 with heap:=J } F {λb o e=>kp b o (Sl _ e),?_,?_,?_} rfl F.bare (λb o e hb=>hideAll_get _ e hb) (λb o e _=>{o.slots,kp b o e}) q2
 .cases z:(Ua s2.heap (frs X.stack)).get? ea with
  | none=>rfl
  | some o =>
   have:=Sl _ z;rw [G.new] at this;cases this
 .exact (PySem.W.funFrames_hide F.stack Xh).of_keeps λb o e _=>{o,kp b o e,rfl}
 .rcases Z with rfl|⟨a,n,h1,_,rfl⟩
  .exact {_,_,he,rfl,rfl,rfl,'z',{_,rfl,.inl rfl},.inl rfl}
  .obtain ⟨k,ch⟩:∃k,Chn H2 k a:=by
    rcases F.hdk with z|⟨a',k,z,ch⟩
    .rw [z] at h1;cases h1
    .rw [h1] at z;cases z;exact ⟨k,ch⟩
   exact {_,_,Pq _ he rfl,rfl,rfl,rfl,'z',{_,rfl,.inr {a,k,rfl,ch}},.inl rfl}
noncomputable abbrev iD(X:Cx)(Go:List (Addr×Obj))(ea:Addr)(Ex:Addr->St->Hp->Prop):Cx:={ dA X Go ea with xe:=jl X Ex }
theorem Inv.UX(ok:X.Ok)(z:X.A.handled=none)(I:Inv (iD X Go ea Ex) ps σ H s):Inv X (Go++ps) σ H s :=
 {ok,I.os,I.bare,I.base,I.loc,I.cell,I.free,I.Uz,λp hp=>I.pin p (by show p∈(X.pn++Go)++ps;rw [Pw];exact hp),I.hok,I.len,.inl z}
theorem Ds(ok:X.Ok)(G:X.A.handled=none):aL (iD X Go ea Ex) Ex :=
 λps σ H J z C B fl s' I y os bare O F q=>{z,C,B,H,fl,σ,J,Go++ps,rfl,I.UX ok G,y,os,bare,O,F,q}
theorem Lk(T:aL X Ex)(hst:X.stack=X.env::X.outer/\X.env.frame=some X.env.locals){hd:Option Value}(h:jl X Ex e s'):notedBy 'c' (X.A.mark hd) X.env (cameBackBy 'c' X.A X.env X.xe) e s':=by
 obtain ⟨ea,C,B,H',fl,σ,S,Go,rfl,I,y,os,bare,Z,G,q⟩:=h;have fr:X.A.frames=some (X.env::X.outer):=by rw [I.ok.frames,hst.1]
 rw [hst.1] at y;refine vf (A:=X.A.mark hd) fr hst.2 y λh1 J W u1=>?_;obtain ⟨oe,vs,U,g1,F,O⟩:=W;refine we (Pk g1 F O ?_);rw [if_neg (show ¬ ((OH U==Pj)=true) by simp)];rw [hst.2];refine vc (s:={ s' with heap:=h1 }) J λh2 z u2=>?_;rw [<- hst.1] at z;exact T Go σ H' S ea C B _ { s' with heap:=h2 } I z os bare Z ((G.trans u1).trans u2) q
theorem Ee(hc:X.calm=true)(Yj:X.ex=[])(W:X.stack=X.env::X.outer/\X.env.frame=some X.env.locals)(OD:aZ X.K D)(hg:Gl X x)(hm:X.mg x=some (.ref D))(hb:∀Go Ex,PSs (g6 X Go Ex) ZV (tb Ex))(T:aL X Ex)(hs:∀Go ea,aL (iD X Go ea Ex) Ex->PSs (iD X Go ea Ex) (G::Y4) ts)(Zr:'g'=false:=by decide):
  PS X (.Try ZV [.ExceptHandler (some (.Name x np)) none (G::Y4) X3] [] [] pos) (ja X.K D tb ts):=by
 intro Go s σ H Z I h;have hh:X.A.handled=none:=I.ok.hd hc;refine wpAny_Try_except (OZ (hb Go _ [] s σ H Z (I.p.UT _) h) (λf s1 q=>?_) λe s1 q=>?_)
 .cases f with
  | next =>
   obtain ⟨F,H',J,q⟩:=q;exact Rm {F,H',Inv.d8 I.ok J.Da,q}
  | brk=>obtain ⟨F,H',J,q⟩:=q;exact {F,H',Inv.d8 I.ok J.Da,q}
  | cont=>obtain ⟨F,H',J,q⟩:=q;exact {F,H',Inv.d8 I.ok J.Da,q}
  | ret u=>obtain ⟨v,F,H',J,r,q⟩:=q;exact {v,F,H',Inv.d8 I.ok J.Da,r,q}
 .obtain ⟨ea,C,B,H',fl,F,sI,rfl,J,y,os,bare,hB,up,OC,sub,WV⟩:=q;have fr:X.A.frames=some (X.env::X.outer):=by rw [I.ok.frames,W.1]
  rw [W.1] at y;refine kZ fr W.2 y λh2 y2 u2=>gv (s:={ s1 with heap:=h2 }) y2 λh3 y3 u3=>?_;have aT:aY H' B X.stack ea (.ref C) .none h3:=by rw [W.1];exact y3
  have ai:=(up.trans u2).trans u3;obtain ⟨_,a3,c3,g3,J3⟩:=gY (s':={ s1 with heap:=h3 }) Yj J aT os bare hB ai;obtain ⟨ax,cC,eC⟩:=OC.obj J3.UQ;obtain ⟨a4,cD,eD⟩:=OD.obj J3.UQ;have XW:ax.mro.contains (.ref D)=true:=by
   unfold Rt at sub;rw [cC] at sub;simp only [Su] at sub;split at sub
   .cases sub
   .exact O6.inj sub
  refine SI (Sf (di (X:=dA X Go ea) J3 hg hm ?_ Zr)) (by intro q;cases q);refine pE (h:=h3) (g:=s1.gens) (d:=s1.drawn) (t:=s1.toks) (os:=s1.os) eC eD g3 c3.1 XW ?_;refine codeAny_handlers_suite ?_;refine gv (s:={ s1 with heap:=h3 }) y3 λh4 y4 u4=>?_;have aI:aY H' B X.stack ea (.ref C) .none h4:=by rw [W.1];exact y4
  obtain ⟨a0,av,c4,g4,J4⟩:=gY (s':={ s1 with heap:=h4 }) Yj J aI os bare hB (ai.trans u4);refine OZ (hs Go ea (Ds I.ok hh) [] _ _ _ _ (J4.UT (jl X Ex)) (WV ea av a0 c4)) (λf s6 q6=>?_) λ_ _ z=>Lk T W z;cases f with
  | next=>obtain ⟨S,H7,U,O⟩:=q6;exact {_,_,(by simpa using U.UX I.ok hh),O}
  | brk=>obtain ⟨S,H7,U,O⟩:=q6;exact {_,_,(by simpa using U.UX I.ok hh),O}
  | cont=>obtain ⟨S,H7,U,O⟩:=q6;exact {_,_,(by simpa using U.UX I.ok hh),O}
  | ret u=>obtain ⟨v,S,H7,U,r7,O⟩:=q6;exact {v,_,_,(by simpa using U.UX I.ok hh),r7,O}
section
variable {X:Cx}
theorem Bl{t:TA}(T:aL X Ex)(O:aZ X.K C)(z:Gl X x)(S:X.mg x=some (.ref C))(ha:W (PA X (e::es) t))(hp:af e=true:=by rfl)(F:c9 es=true:=by rfl)(G:'g'=false:=by decide):
  W (PS X (.Raise (some (.Call (.Name x J) (e::es) [] cpos)) none pos) (jz C Ex t)):={Co T O z S ha.h G (cK hp) (dW F)}
theorem E8(U:X.calm=true)(J:X.ex=[])(Z:X.stack=X.env::X.outer/\X.env.frame=some X.env.locals)(OD:aZ X.K D)(O:Gl X x)(hm:X.mg x=some (.ref D))(S:∀Go Ex,W (PSs (g6 X Go Ex) F (tb Ex)))(T:aL X Ex)(hs:∀Go ea,aL (iD X Go ea Ex) Ex->W (PSs (iD X Go ea Ex) (z::G) ts))(Zr:'g'=false:=by decide):
  W (PS X (.Try F [.ExceptHandler (some (.Name x np)) none (z::G) X3] [] [] pos) (ja X.K D tb ts)):={Ee U J Z OD O hm (λGo Ex=>(S Go Ex).h) T (λGo ea t=>(hs Go ea t).h) Zr}
end
end L2
namespace L2
open PySem PySem.Spec PyProof.Rows PySem.W PySem.Calls
theorem oA{t:TA}(h1:W (PE X J t1))(h2:W (PE X z t2))(h3:W (PE X G S))(h4:W (PE X F O))(hr:W (PA X es t))(p1:af J=true:=by rfl)(p2:af z=true:=by rfl)(Z:af G=true:=by rfl)(U:af F=true:=by rfl):W (PA X (J::z::G::F::es) (d9 t1 (d9 t2 (d9 S (d9 O t))))):={jG h1.h (jG h2.h (jG h3.h (jG h4.h hr.h U) Z) p2) p1}
def EqP(P:OF)(w:OS)(A:OQ)(s:KE)(u v:Value):Prop:=∀(E:Value->KE->Prop)(Q:Bool->KE->Prop),Q true s->OE (OK P w) A (eqBool u v) Q E s
section
variable {prog:OF}{w:OS}{A:OQ}{E:Value->KE->Prop}{s:KE}{K:Type} [DecidableEq K] {knd:KeyKind prog w K}
theorem Nb(ha:(a==sysModules)=false)(hb:(b==sysModules)=false)(da:s.heap.DictOf knd a z)(db:s.heap.DictOf knd b Z)(hl:z.length=Z.length)(WQ:∀(i:Nat) k v,z[i]?=some (k,v)->∃y,SK Z k=some y/\EqP prog w A s v y)(h:Q true s):OE (OK prog w) A (OO.Dict.samePairs nm a b) Q E s:=by
 obtain ⟨oa,es,ep,F,_,G,av,U,_⟩:=da;obtain ⟨ob,fs,eq,J,_,Zr,ai,S,_⟩:=db;have la:es.size=z.length:=by rw [<- U.length,Qm]
 have lb:fs.size=Z.length:=by rw [<- S.length,Qm]
 unfold OO.Dict.samePairs OO.Dict.showsAll;rw [if_neg (by rw [ha];exact OP),if_neg (by rw [hb];exact OP)];refine we (Ot (we (Ot (we (R6 F G ?_)))));dsimp only;refine we (R6 J Zr ?_);rw [if_neg (by rw [la,lb,hl];simp)];refine we (wpAny_dictEpoch F G (we ?_));rw [Std.Legacy.Range.forIn_eq_forIn_range'];simp only [Std.Legacy.Range.size,Nat.sub_zero,S5,Nat.div_one];refine wpAny_forIn_list _ (λYD q s'=>s'=s/\q=(none,())/\∃i,YD=range' i (es.size-i)) _ ?_ ?_ _ _ {rfl,rfl,0,'z'}
 .rintro x YD q s' ⟨rfl,rfl,i,hr⟩;have lt:i<es.size:=QD λc=>by rw [Nat.sub_eq_zero_of_le 'l'] at hr;cases hr
  rw [show es.size-i=(es.size-(i+1))+1 by lia,T2] at hr;obtain ⟨rfl,rfl⟩:=List.cons.inj hr;refine we (R6 F G ?_);rw [PD lt];have lk:x<z.length:=by lia
  have ek:z[x]?=some (z[x].1,z[x].2):=Os lk;obtain ⟨XO,O⟩:=U.get? (i:=x) (e:=es[x]) (by rw [Qf];exact PD lt) ek;obtain ⟨k',XY,hh⟩:=av es[x] (Array.getElem_mem lt);rw [knd.inj _ _ _ XY XO] at hh;obtain ⟨y,hy,he⟩:=WQ x _ _ ek;show OE _ _ (QA [es[x].key,es[x].val] _>>=_) _ _ _;rw [hh];refine we (OT (we (wpAny_dictFind_of XO J Zr ai ?_)));have W:=(S.find z[x].1).trans hy;cases hj:fs.findIdx? λe=>knd.is z[x].1 e.key with
  | none =>
   have:fs.toList.find? (λe=>knd.is z[x].1 e.key)=none:=by
    rw [List.find?_eq_none];intro e hm;have:=Array.findIdx?_eq_none_iff.mp hj e (Array.mem_toList_iff.mp hm);simp [this]
   rw [this] at W;cases W
  | some j =>
   obtain ⟨lj,t1,t2⟩:=Array.findIdx?_eq_some_iff_getElem.mp hj;have ey:fs[j].val=y:=by
    have:fs.toList.find? (λe=>knd.is z[x].1 e.key)=some fs[j]:=by
     rw [List.find?_eq_some_iff_getElem];exact {t1,j,by simpa using lj,'z',λm hm=>by have:=t2 m hm;simpa using this}
    rw [this] at W;exact O6.inj W
   refine we (R6 J Zr ?_);rw [PD lj];rw [<- ey,<- O] at he;refine OT (he _ _ ?_);rw [if_neg 'd'];refine we (wpAny_dictEpoch F G ?_);rw [if_neg 'z'];exact Ot {rfl,rfl,x+1,rfl}
 .rintro q s' ⟨rfl,rfl,i,hr⟩;exact Ot h
theorem Hl(ha:(a==sysModules)=false)(U:(b==sysModules)=false)(G:s.heap.DictOf knd a S)(O:s.heap.DictOf knd b J)(W:A.units<cLine)(hl:S.length=J.length)(Z:∀(i:Nat) k v,S[i]?=some (k,v)->∃y,SK J k=some y/\EqP prog w A.in1 s v y):EqP prog w A s (.ref a) (.ref b):=λE Q q=>by
 by_cases e:a=b
 .subst e;exact SeqAt.EqAt.same _ prog w E Q q
 unfold eqBool;refine OT (SG (λz=>absurd (by have:=eq_of_beq z;injection this) e) λ_=>we ?_);refine wpAny_richCompare_same_room (op:=.Eq) G.typeIs O.typeIs PySem.F.slot_dict_eq (PF PySem.F.slot_dict_eq G.typeIs PySem.F.entry_dict_eq ?_ (PySem.F.args_dict_eq_2 _ _)) W;show OE _ _ (OO.Dict.dictSlotArgs "__eq__" {[.ref a,.ref b],[]}>>=_) _ _ s;unfold OO.Dict.dictSlotArgs;refine we (we (wpAny_notOrdered_dict G.typeIs ?_));show OE _ _ (pure (OH a,OH b)) _ _ s;refine Ot (we (RK (T:="dict") O.typeIs PySem.F.sub_dict_dict ?_));simp only [Bool.not_true,QH,if_false];refine we (Ot (we (Ot (we (Nb ha U G O hl Z (Ot {_,rfl,(λx=>nomatch x),?_}))))));exact Qi q
end
noncomputable def EqT(H:Hp)(d d':Addr):Prop:=∃kvs z,H d=some (.dK (sk kvs))/\H d'=some (.dK (sk z))/\kvs.length=z.length/\∀(i:Nat) n v,kvs[i]?=some (n,v)->∃F,look z n=some F/\∃(a b:Addr)(l:List Int),v = .ref a/\F = .ref b/\H a=some (.lst (l.map V.int))/\H b=some (.lst (l.map V.int))
noncomputable def wC(H:Hp)(d d':Addr):Prop:=∃kvs z,H d=some (.dK (sk kvs))/\H d'=some (.dK (sk z))/\kvs.length=z.length/\∀(i:Nat) n v,kvs[i]?=some (n,v)->∃F,look z n=some F/\∃a b,v = .ref a/\F = .ref b/\EqT H a b
section
variable {X:Cx}{Go:List (Addr×Obj)}{σ:St}{H:Hp}{s:KE}{A:OQ}
theorem y8(I:Inv X Go σ H s){R:V->V->Prop}{d d':Addr}(e1:H d=some (.dK (sk kvs)))(e2:H d'=some (.dK (sk O)))(hl:kvs.length=O.length)(hu:A.units<cLine)(h:∀(i:Nat) n v,kvs[i]?=some (n,v)->∃J,look O n=some J/\R v J)(hR:∀v J u U,R v J->zp v u->zp J U->EqP X.prog X.w A.in1 s u U):EqP X.prog X.w A s (.ref d) (.ref d'):=by
 obtain ⟨z,hd,vs,S,dd⟩:=dE I.hok (.inl e1);obtain ⟨z2,ai,Z,G,av⟩:=dE I.hok (.inl e2);refine Hl hd ai dd av hu ?_ λi k u hi=>?_
 .rw [<- S.length,<- G.length];unfold sk;rw [OA,OA];exact hl
 .have li:i<kvs.length:=by
   have:=(OJ.mp hi).1;rw [<- S.length] at this;unfold sk at this;rwa [OA] at this
  have ek:kvs[i]?=some (kvs[i].1,kvs[i].2):=Os li;have es:(sk kvs)[i]?=some (.inr kvs[i].1,kvs[i].2):=by unfold sk;rw [O0,ek];rfl
  obtain ⟨U,F,ru⟩:=S.at es;rw [hi] at F;injection F with F
  injection F with e3 e4
  subst e3 e4;obtain ⟨J,W,r⟩:=h i _ _ ek;have hv:=G.val (.inr kvs[i].1);rw [fP,W] at hv;cases hy:SK Z (.inr kvs[i].1) with
  | none=>rw [hy] at hv;exact hv.elim
  | some y=>rw [hy] at hv;exact {y,rfl,hR _ _ _ _ r ru hv}
theorem EqT.at(I:Inv X Go σ H s){d d':Addr}(h:EqT H d d')(Z:A.in1.units+64<cLine)(F:A.units<cLine):EqP X.prog X.w A s (.ref d) (.ref d'):=by
 obtain ⟨kvs,YK,e1,S,hl,h⟩:=h;refine y8 I (R:=λv J=>∃(a b:Addr)(l:List Int),v = .ref a/\J = .ref b/\H a=some (.lst (l.map V.int))/\H b=some (.lst (l.map V.int))) e1 S hl F h ?_;rintro v J u u' ⟨a,b,l,rfl,rfl,ha,U⟩ O G;cases O;cases G;obtain ⟨is,r1,p1,_⟩:=I.list (SqL.of (K:=X.K) ha);obtain ⟨js,r2,p2,_⟩:=I.list (SqL.of (K:=X.K) U);have z:=PySem.W.keq_ints (A:=A) p1.isList (mS r1) p2.isList (mS r2) Z;rw [decide_eq_true rfl] at z;exact λE Q q=>z X.prog X.w E Q q
theorem wC.at(I:Inv X Go σ H s){d d':Addr}(h:wC H d d')(U:A.in1.in1.units+64<cLine)(G:A.in1.units<cLine)(z:A.units<cLine):EqP X.prog X.w A s (.ref d) (.ref d'):=by
 obtain ⟨kvs,YK,W,S,hl,h⟩:=h;refine y8 I (R:=λv J=>∃a b,v = .ref a/\J = .ref b/\EqT H a b) W S hl z h ?_;rintro v J u Z ⟨a,b,rfl,rfl,t⟩ O F;cases O;cases F;exact t.at I U G
end
end L2
namespace L2
open PySem PySem.Spec PyProof.Rows
end L2
namespace HT
open PySem PyProof.Rows
end HT
namespace L2
open PySem PySem.Spec PyProof.Rows
section
variable {X:Cx}
def EqD:Nat->Hp->V->V->Prop
 | 0,_,p,q=>p=q/\ah p=true
 | n+1,H,p,q=>(p=q/\ah p=true)\/∃a b xs ys,p = .ref a/\q = .ref b/\((H a=some (.lst xs)/\H b=some (.lst ys))\/(H a=some (.tup xs)/\H b=some (.tup ys)))/\xs.length=ys.length/\∀(j:Nat) x y,xs[j]?=some x->ys[j]?=some y->EqD n H x y
theorem xf(f:ah x=true)(J:zp x u)(F:zp x v):SeqAt.EqAt A s u v true:=by
 have e:eqV x x=true:=by
  have:=j9 (xs:=[x]) (by rw [TU,f];rfl) λy G b z=>by rw [O3.mp G] at z;rw [z] at f;cases f
  unfold eqL at this;simpa using this
 rw [<- e];exact ku J F f f
theorem EqD.at(I:Inv X Go σ H s):∀(n:Nat){x y:V}{u v:Value}{A:OQ},EqD n H x y->zp x u->zp y v->A.units+n<cLine->SeqAt.EqAt A s u v true
 | 0,x,y,u,v,A,h,S,J,O=>by
  obtain ⟨rfl,f⟩:=h;exact xf f S J
 | n+1,x,y,u,v,A,h,S,J,O=>by
  rcases h with ⟨rfl,f⟩|⟨a,b,xs,ys,rfl,rfl,hh,hl,he⟩
  .exact xf f S J
  cases S;cases J;by_cases W:a=b
  .subst W;exact SeqAt.EqAt.same _
  have Z:A.in1.units+n<cLine:=O7 (by first|exact Ov _|(show A.units+n<=A.units+(n+1);exact R9 _)|(simp [OQ.in1];lia)) O;have G:∀{is F:List Value},zu xs is->zu ys F->∀j (h1:j<is.toArray.size) (h2:j<F.toArray.size),SeqAt.EqAt A.in1 s is.toArray[j] F.toArray[j] true:=λ{is F} r1 r2 j h1 h2=>by
   have l1:=r1.length;have l2:=r2.length;simp only [OR] at h1 h2;have e1:xs[j]?=some (xs[j]''l'):=Os _;have e2:ys[j]?=some (ys[j]''l'):=Os _;obtain ⟨u,g1,q1⟩:=r1.get e1;obtain ⟨v,g2,q2⟩:=r2.get e2;rw [Os h1] at g1;rw [Os h2] at g2;have w1:is.toArray[j]=u:=by simpa using O6.inj g1
   have w2:F.toArray[j]=v:=by simpa using O6.inj g2
   rw [w1,w2];exact EqD.at I n (he j _ _ e1 e2) q1 q2 Z
  rcases hh with ⟨ha,U⟩|⟨ha,U⟩
  .obtain ⟨is,r1,p1,_⟩:=I.list (SqL.of (K:=X.K) ha);obtain ⟨F,r2,p2,_⟩:=I.list (SqL.of (K:=X.K) U);have z:=SeqAt.RcAt.lists (A:=A) (e:=λ_=>true) p1.isList p2.isList (by have:=r1.length;have:=r2.length;simp only [OR];lia) (O7 (Sv ..) O) (G r1 r2);have e:(Qh is.toArray.size).all (λ_=>true)=true:=by simp
   rw [e] at z;exact .of_refs W z
  .obtain ⟨is,r1,p1,_⟩:=I.tuple (SqT.of (K:=X.K) ha);obtain ⟨F,r2,p2,_⟩:=I.tuple (SqT.of (K:=X.K) U);have z:=SeqAt.RcAt.tuples (A:=A) (e:=λ_=>true) p1 p2 (O7 (Sv ..) O) (G r1 r2);have e:((Qh (min is.toArray.size F.toArray.size)).all (λ_=>true)&&is.toArray.size==F.toArray.size)=true:=by have:=r1.length;have:=r2.length;simp;lia
   rw [e] at z;exact .of_refs W z
end
theorem Dt{K:Ow}{k:Nat}(hr:zE cm (k+1) A)(F:fT P w K mg base A outer s H)(ho:s.heap.get? f=some (kla_obj "<lambda>" qual ZY z scope [] Z c' O))(hcd:s.heap.CodeRec (.ref c') qual)(S:zx [x] [x] scope)(hb:SY (kla_fn "<lambda>" qual ZY z scope [] Z (.ref c') O) {[u],[]}=pure [(x,u)])(r:zp v u)(Zb:zE cm k (A.deeper (QR qual scope s.heap.objs.size f (.ref c')))->PE (bF CX0 cm P w K mg base [x] qual scope f (.ref c') A outer s H E) z te)(h:te [some v] H Q):
  QC (OK P w) A (.call (.ref f) {[u],[]}) (CR CX0 outer P w H s Q E) s:=by
 have G:s.heap.NoLimit:=F.mod.nolimit.keeps λb o e=>(F.bs b o e).1;have Yl:∀y∈[x].zip [u],scope.names.lookup y.1=some .local\/(scope.names.lookup y.1=some .cell/\((Qv (s.heap.objs.size+1) scope.names []).lookup y.1).isSome=true):=λ⟨n,v⟩ hy=>by
  rcases S.par n (of_mem_zip hy).1 with q|q
  .exact .inl q
  .exact .inr {q,cellsFrom_some _ _ _ (.inl q)}
 refine PySem.W.kla_callFunE hr.depth ho rfl S.co S.gen rfl hcd ?_;rw [hb];refine Ot (wpAny_newFunctionEnv_cells S.kind Yl λenv he s1 U=>?_);subst he;refine {G.keeps U.toInCall.keep,PySem.W.kla_codeExpr ?_};have I:Inv (bF CX0 cm P w K mg base [x] qual scope f (.ref c') A outer s H E) [] (start [x] [v]) H s1:=x9 (us:=[u]) S hr.hd F rfl (.cons r .nil) U;refine OZ (Zb (hr.deeper _) [] s1 _ H Q I h) (λu' s' hs=>?_) λe s' hs=>hs;obtain ⟨v',H',J,rv,q⟩:=hs;exact ⟨v',H',J.os,J.bare,J.base,J.hok,rv,q⟩
noncomputable def bY(z:Nat->Int):Nat->Nat
 | 0=>0
 | j+1=>if z (j+1)>z (bY z j) then j+1 else bY z j
noncomputable def Hn(as:List Addr)(z:Nat->Int):Nat->Array Value->Prop
 | 0,its=>its = #[]
 | j+1,its=>∃a t,as[bY z j]?=some a/\its = #[.ref a,.int (z (bY z j)) t]
theorem Gg(G:Nat->Int)(hc:X.calm=true)(hl:H l=some (.lst (as.map V.ref)))(W:S≠I)(h0:0<as.length)(fI:az X Go H I)(fS:az X Go H S)(Yf:∀(i:Nat) a,as[i]?=some a->∀(s:KE)(ps:List (Addr×Obj)),Inv X (Go++ps) σ H s->OE 'c' X.A.in1 (call (.ref q) [.ref a]) (EP X (Go++ps) σ λv H'=>v = .int (G i)/\H'=H) (λ_ _=>False) s)(hR:∀a s',Inv X Go σ H s'->as[bY G (as.length-1)]?=some a->R (.ok (.ret (.ref a))) s'):
  ∀(r j:Nat)(s:KE)(c:Nat)(its:Array Value),as.length-j=r->j<=as.length->Inv X Go σ H s->s.heap.IsListIter I l j->Hn as G j its->s.heap.get? S=some (T5 "list" its c) ->
   QC 'c' X.A (.builtin "max.loop" {[.ref I,.ref q,.ref S],[]}) R s:=by
 have YL:(toString "max"++toString ".loop":String)="max.loop":=by decide
 have hh:X.Ok->X.A.in1.handled=none:=λok=>ok.hd hc;have O:∀{s:KE}{h':Heap}{b:Addr}{t:Nat},az X Go H b->Inv X Go σ H s->(∀d o,d≠b->s.heap.get? d=some o->h'.get? d=some o)->Inv X Go σ H { s with heap:=h',toks:=t }:=λ{s h' b t} f I k=>I.turned k f.1 f.2.1 f.2.2.2.1 f.2.2.2.2.1 f.2.2.2.2.2;intro r
 induction r with
 | zero =>
  intro j s c its hr hj Iv Yw hC hS;obtain ⟨vs,rv,p,hz⟩:=Iv.list (SqL.of (K:=X.K) hl);have lv:=rv.length;rw [OA] at lv;cases j with
  | zero=>lia
  | succ j =>
  have Xh:j+1=as.length:=by lia
  obtain ⟨a,t,ha,rfl⟩:=hC;refine Qy F.entry_max_loop ?_;rw [OQ.under_plainId F.plain_max_loop _];show OE _ X.A.in1 (SQ (.ref S)>>=_) _ _ _;refine we (QV hS rfl ?_);show OE _ X.A.in1 (tryCatch (Rh (.ref I)) _>>=_) _ _ _;refine we (QU (wpAny_pyNext_list_end (hh Iv.ok) Yw p.isList (by simp;lia) λh' eb=>?_));have I1:Inv X Go σ H { s with heap:=h' }:=O (t:=s.toks) fI Iv eb;have Yx:=eb S _ W hS;show OE _ X.A.in1 (TK S (λ_=>#[])>>=_) _ _ _;refine we (QP Yx rfl (we (RA (Ot ?_))));refine hR a _ (O (s:={ s with heap:=h' }) fS I1 λd o nd e=>(OW _ _ (Pd nd)).trans e) ?_;rw [<- Xh];exact ha
 | succ r ih =>
  intro j s c its hr hj Iv Yw hC hS;obtain ⟨vs,rv,p,hz⟩:=Iv.list (SqL.of (K:=X.K) hl);have ZD:j<as.length:=by lia
  have Z:as[j]?=some as[j]:=Os ZD;obtain ⟨u,hu,ru⟩:=rv.get (show (as.map V.ref)[j]?=some (V.ref as[j]) by rw [O0,Z];rfl);cases ru;refine Qy F.entry_max_loop ?_;rw [OQ.under_plainId F.plain_max_loop _];show OE _ X.A.in1 (SQ (.ref S)>>=_) _ _ _;refine we (QV hS rfl ?_);show OE _ X.A.in1 (tryCatch (Rh (.ref I)) _>>=_) _ _ _;refine we (QU (wpAny_pyNext_list_item Yw p.isList (x:=.ref as[j]) (by simpa using hu) λh' Yk sb=>?_));have I1:Inv X Go σ H { s with heap:=h' }:=O (t:=s.toks) fI Iv λd o nd e=>(sb.2 d nd).trans e;have Yx:h'.get? S=some (T5 "list" its c):=(sb.2 S W).trans hS;obtain ⟨oI,U,av,ai⟩:=id Yk;have I2:=I1.pinned (fp:=[S,I]) (λb hb=>(OL.mp hb).elim (λz=>by rw [z];exact fS) λz=>by rw [O3.mp z];exact fI) (λb hb=>by
   rcases OL.mp hb with rfl|hb
   .exact {_,Yx,λ_=>nofun}
   .rw [O3.mp hb];exact {_,U,λv z=>by rw [ai] at z;cases z})
  have Xq:=Yf j _ Z _ _ I2;have back:∀{s2:KE}{ps},ps=fo [S,I] h'->Inv X (Go++ps) σ H s2->Inv X Go σ H s2/\s2.heap.get? S=some (T5 "list" its c)/\s2.heap.IsListIter I l (j+1):=λ{s2 ps} e J=>by
   subst e;exact {J.KN,(J.pin (S,_) (Oy _ (Oy _ (dj 'z' Yx)))).1,oI,(J.pin (I,oI) (Oy _ (Oy _ (dj 'z' U)))).1,av,ai}
  cases j with
  | zero =>
   cases (show its = #[] from hC);show OE _ X.A.in1 (tryCatch (QA [.ref as[0]] (call (.ref q) [.ref as[0]])) _>>=_) _ _ _;refine we (QU (OT (OZ Xq (λx s2 he=>?_) λ_ _ hF=>hF.elim)));obtain ⟨v,H',J,ax,rfl,rfl⟩:=he;obtain ⟨t2,rfl⟩:=ax;obtain ⟨J1,g1,g2⟩:=back rfl J;show OE _ X.A.in1 (TK S (λ_=>#[.ref as[0],.int (G 0) t2])>>=_) _ _ _;refine we (QP g1 rfl ?_);rw [YL];exact Ot {Qe F.plain_max_loop _,ih 1 _ _ _ 'l' 'l' (O fS J1 λd o nd e=>(OW _ _ (Pd nd)).trans e) {oI,(OW _ _ W).trans (by obtain ⟨o2,e1,e2,e3⟩:=g2;exact (J.pin (I,oI) (Oy _ (Oy _ (dj 'z' U)))).1),av,ai} {_,t2,Z,rfl} (get?_update_seq g1 _)}
  | succ j =>
   obtain ⟨ab,tb,WO,rfl⟩:=hC;show OE _ X.A.in1 (tryCatch (QA [.ref as[j+1]] (call (.ref q) [.ref as[j+1]])) _>>=_) _ _ _;refine we (QU (OT (OZ Xq (λx s2 he=>?_) λ_ _ hF=>hF.elim)));obtain ⟨v,H',J,ax,rfl,rfl⟩:=he;obtain ⟨t2,rfl⟩:=ax;obtain ⟨J1,g1,g2⟩:=back rfl J;have gI:=(J.pin (I,oI) (Oy _ (Oy _ (dj 'z' U)))).1;show OE _ X.A.in1 (tryCatch (QA [.ref as[j+1],.int (G (j+1)) t2] (richCompare .Gt (.int (G (j+1)) t2) (.int (G (bY G j)) tb)>>=_)) _>>=_) _ _ _;refine we (QU (OT (we (CmpOf.ints_gt (prog:=X.prog) (w:=X.w) (A:=X.A.in1) (P:=λi v=>∃t,v = .int (G i) t) G (λi v h=>h) (j+1) (bY G j) _ _ _ _ _ {t2,rfl} {tb,rfl} ?_))));refine we (OT (Qi ?_));refine we (RA (Ot ?_));by_cases XJ:G (j+1)>G (bY G j)
   .simp only [XJ,decide_true,if_true];refine we (QP g1 rfl (we (RA ?_)));rw [YL];exact Ot {Qe F.plain_max_loop _,ih (j+1+1) _ _ _ 'l' 'l' (O fS J1 λd o nd e=>(OW _ _ (Pd nd)).trans e) {oI,(OW _ _ W).trans gI,av,ai} {as[j+1],t2,by unfold bY;rw [if_pos XJ];exact Z,by rw [show bY G (j+1)=j+1 from if_pos XJ]} (get?_update_seq g1 _)}
   .simp only [XJ,decide_false,QH,if_false];refine we (RA ?_);rw [YL];exact Ot {Qe F.plain_max_loop _,ih (j+1+1) _ _ _ 'l' 'l' J1 g2 {ab,tb,by unfold bY;rw [if_neg XJ];exact WO,by rw [show bY G (j+1)=bY G j from if_neg XJ]} g1}
noncomputable def fO(P:Addr)(pos:Pos)(qual:Str)(te:TE)(v:V)(H1:Hp)(Q:VK):Prop:=uR v λl=>∃(as:List Addr)(z:Nat->Int),H1 l=some (.lst (as.map V.ref))/\0<as.length/\bQ pos qual H1 P /\
 ∀H2,gb H1 H2 P->bQ pos qual H2 P->(∀(i:Nat) a,as[i]?=some a->te [some (.ref a)] H2 λv H'=>v = .int (z i)/\H'=H2)/\∀a,as[bY z (as.length-1)]?=some a->Q (.ref a) H2
theorem Al:fO P pos qual te (.ref l) H1 Q = ∃(as:List Addr)(z:Nat->Int),H1 l=some (.lst (as.map V.ref))/\0<as.length/\bQ pos qual H1 P /\
 ∀H2,gb H1 H2 P->bQ pos qual H2 P->(∀(i:Nat) a,as[i]?=some a->te [some (.ref a)] H2 λv H'=>v = .int (z i)/\H'=H2)/\∀a,as[bY z (as.length-1)]?=some a->Q (.ref a) H2:=nM
noncomputable def qz(P:Addr)(pos:Pos)(qual:Str)(te ta:TE):TE:=λσ H Q=>ta σ H λv H1=>fO P pos qual te v H1 Q
theorem ML:qz P pos qual te ta σ H Q=ta σ H λv H1=>fO P pos qual te v H1 Q:=rfl
theorem Gj{k:Nat}{p pos O kp:Pos}(LB:eQ X.mg X.base X.env.code P)(hc:X.calm=true)(hr:zE cm (k+2) X.A)(hg:Gl X "max")(hm:X.mg "max"=none)(ha:PE X a ta)(XU:Ue ZY X.env=([],[]))(Xi:RG scope X.env=pure [])(Yv:∀(q:Str)(pm cd ct v:Value),SY (kla_fn "<lambda>" q ZY ZV scope [] pm cd ct) {[v],[]}=pure [(x,v)])(S:zx [x] [x] scope)(Zb:∀(A:OQ)(outer:List Env)(s:KE)(H:Hp)(E:XK)(f c':Addr),zE cm k (A.deeper (QR (X.env.qual++"<lambda>") scope s.heap.objs.size f (.ref c')))->PE (bF CX0 cm X.prog X.w X.K X.mg X.base [x] (X.env.qual++"<lambda>") scope f (.ref c') A outer s H E) ZV te)(hp:af a=true:=by rfl):
  PE X (.Call (.Name "max" p) [a] [{some (Ox "key"),.Lambda ZY ZV scope O,kp}] pos) (qz P O (X.env.qual++"<lambda>") te ta):=by
 intro Go s σ H Q I h;have YL:(toString "max"++toString ".loop":String)="max.loop":=by decide
 have hs:OV [a] X.env=[(false,PH a X.env)]:=dZ hp;have hA:=gU ha gF (hs:=hs) pos Go s σ H (λys H1=>∃y,ys=[y]/\fO P O (X.env.qual++"<lambda>") te y H1 Q) I (by
  show ta σ H λx H1=>∃y,[x]=[y]/\fO P O (X.env.qual++"<lambda>") te y H1 Q;have e:(λ(x:V)(H1:Hp)=>∃y,[x]=[y]/\fO P O (X.env.qual++"<lambda>") te y H1 Q)=λv H1=>fO P O (X.env.qual++"<lambda>") te v H1 Q:=by
   funext x H1;apply propext;constructor
   .rintro ⟨y,e,h⟩;cases e;exact h
   .exact λh=>{x,rfl,h}
  rw [e];exact h)
 refine PM (fW I hg hm boot_max (xb (by rw [hs];rfl) rfl ?_));rw [hs] at hA ⊢;refine evalArgs_kwB rfl (thn hA λus s1=>x5e λvs H1 I1 r1 q1=>kws_cons ?_);obtain ⟨y,rfl,l,rfl,as,kf,hl,h0,hT,q⟩:=q1;cases r1 with
 | cons r rr =>
  cases rr;cases r;refine tV LB XU Xi I1 hT λf c' Xu h2 tk H2 hsz WS hcd hf av hL Z fr=>kws_nil ?_;obtain ⟨aT,oc,ws,t,c1,c2,c3⟩:=fr;have ai:l≠P:=λz=>by
   rcases hT with hP|⟨_,_,_,_,hP,_⟩ <;> · rw [z,hP] at hl;cases hl
  have U:=hL _ _ ai hl;obtain ⟨q1,q2⟩:=q H2 hL av;obtain ⟨its,rv,pl,hz⟩:=Z.list (SqL.of (K:=X.K) U);have Ip:=Z.pinned (fp:=[f]) (λb hb=>by rw [O3.mp hb];exact I1.a7 WS aT) (λb hb=>by rw [O3.mp hb];exact {_,hf,λ_=>nofun});refine kmk_tree F.kind_max F.plain_max F.entry_max (kmk_max_key _ _) ?_;show OE _ X.A.in1 (OO.Builtins.bindParams "max" ["key","default"] 0 {[],[(Ox "key",.ref f)]}>>=_) _ _ _;refine we (Td (show OO.Builtins.bindParams "max" ["key","default"] 0 {[],[(Ox "key",.ref f)]}=pure [some (.ref f),none] from rfl) ?_);refine we (Ot ?_);refine we (Rv pl.isList ?_);refine we (Tr ?_ (Pp _));rw [YL];have hS:(h2.push { cls:=.type "list_iterator",data:=.fields #[.ref l,.int 0 0] }).objs.size=h2.objs.size+1:=Sj ..;have I3:=Ip.kept (h':=(h2.push { cls:=.type "list_iterator",data:=.fields #[.ref l,.int 0 0] }).push (T5 "list" #[] 0)) (t':=tk) λb u e=>Ou _ (Ou _ e);refine Ot {Qe F.plain_max_loop _,Gg (as:=as) (Go:=Go++fo [f] h2) (σ:=σ) (H:=H2) (l:=l) kf hc U (by show _≠h2.objs.size;rw [hS];exact RD (Ri _)) h0 (Ip.a7 (Ov _) (Z.hok.fresh (Ov _))) (Ip.a7 (by rw [hS];exact R9 _) (Z.hok.fresh (by rw [hS];exact R9 _))) (λi a aI s5 ps J=>?_) (λa s5 J a0=>{.ref a,H2,J.KN,rfl,q2 a a0}) _ 0 _ _ _ rfl (Pp _) I3 {_,Ou _ (ON _ rfl),rfl,rfl} rfl (ON _ rfl)};have ho:=(J.pin (f,_) (Oy _ (Pb _ (Oy _ (dj 'z' hf))))).1;have ax:=(J.hok c' _ c1).1;have G:=J.ew;refine Sh (Qt (Dt (k:=k) (E:=λ_ _ _=>False) (Q:=λv H'=>v = .int (kf i)/\H'=H2) hr.in1 ⟨G.frames,G.hdk,G.mod,G.bs,G.ea,G.Vl,G.eF,G.hok,G.bare⟩ ho {c',oc,ws,t,rfl,ax,c2,c3} S (Yv _ _ _ _ _) (v:=.ref a) rfl (Zb _ _ _ _ _ _ _) (q1 i a aI)) λr s6 W=>?_);cases r with
  | error e=>exact W
  | ok fl =>
   cases fl with
   | ret u=>exact J.after W
   | next=>exact False.elim W
   | brk=>exact False.elim W
   | cont=>exact False.elim W
section
variable {X:Cx}
open PySem.W PySem.Calls
def o8(n:Nat):R2:=λx y H Q=>(x = .non/\y = .non/\Q (.bl false) H)\/∃a b xs ys,x = .ref a/\y = .ref b/\H a=some (.tup xs)/\H b=some (.tup ys)/\xs.length=ys.length/\(∀(j:Nat) x y,xs[j]?=some x->ys[j]?=some y->EqD n H x y)/\Q (.bl false) H
theorem Kk:o8 n .non .non H Q=Q (.bl false) H:=by
 apply propext;constructor
 .rintro (⟨_,_,h⟩|⟨a,b,xs,ys,z,_⟩)
  .exact h
  .cases z
 .exact λh=>.inl {rfl,rfl,h}
theorem Bo:o8 n (.ref a) (.ref b) H Q = ∃xs ys,H a=some (.tup xs)/\H b=some (.tup ys)/\xs.length=ys.length/\(∀(j:Nat) x y,xs[j]?=some x->ys[j]?=some y->EqD n H x y)/\Q (.bl false) H:=by
 apply propext;constructor
 .rintro (⟨e,_⟩|⟨J,G,xs,ys,F,z,h⟩)
  .cases e
  .cases F;cases z;exact ⟨xs,ys,h⟩
 .rintro ⟨xs,ys,h⟩;exact .inr {a,b,xs,ys,rfl,rfl,h}
theorem Jf(F:X.A.units+(n+1)<cLine):OpR X (PU .NotEq) (o8 n):=by
 intro Go s σ H x y v u Q I U G h;rcases h with ⟨rfl,rfl,q⟩|⟨a,b,xs,ys,rfl,rfl,ha,W,hl,he,q⟩
 .exact ee (O7 (Sv ..) F) Go s σ H _ _ v u Q I U G (.inl {rfl,by simpa using q})
 cases U;cases G;obtain ⟨is,r1,p1,_⟩:=I.tuple (SqT.of (K:=X.K) ha);obtain ⟨z,r2,p2,_⟩:=I.tuple (SqT.of (K:=X.K) W);have l1:=r1.length;have l2:=r2.length;refine SeqAt.RcNeAt.tuples (e:=λ_=>true) p1 p2 (O7 (Sv ..) F) (λj h1 h2=>?_) _ _ _ _ {.bl false,H,I,?_,q}
 .simp only [OR] at h1 h2;have S:xs[j]?=some (xs[j]''l'):=Os _;have O:ys[j]?=some (ys[j]''l'):=Os _;obtain ⟨u,g1,q1⟩:=r1.get S;obtain ⟨v,J,q2⟩:=r2.get O;rw [Os h1] at g1;rw [Os h2] at J;have Z:is.toArray[j]=u:=by simpa using O6.inj g1
  have w2:z.toArray[j]=v:=by simpa using O6.inj J
  rw [Z,w2];exact EqD.at I n (he j _ _ S O) q1 q2 (O7 (by first|exact Ov _|(show X.A.units+n<=X.A.units+(n+1);exact R9 _)|(simp [OQ.in1];lia)) F)
 .have e:((Qh (min is.toArray.size z.toArray.size)).all (λ_=>true)&&is.toArray.size==z.toArray.size)=true:=by simp;lia
  rw [e];rfl
end
theorem CM{k:Nat}{p pos G kp:Pos}(J:eQ X.mg X.base X.env.code P)(Z:X.calm=true)(hr:zE cm (k+2) X.A)(O:Gl X "max")(hm:X.mg "max"=none)(ha:W (PE X a ta))(U:Ue F X.env=([],[]))(Xi:RG scope X.env=pure [])(Yv:∀(q:Str)(pm cd ct v:Value),SY (kla_fn "<lambda>" q F z scope [] pm cd ct) {[v],[]}=pure [(x,v)])(S:zx [x] [x] scope)(Zb:∀(A:OQ)(outer:List Env)(s:KE)(H:Hp)(E:XK)(f c':Addr),zE cm k (A.deeper (QR (X.env.qual++"<lambda>") scope s.heap.objs.size f (.ref c')))->W (PE (bF CX0 cm X.prog X.w X.K X.mg X.base [x] (X.env.qual++"<lambda>") scope f (.ref c') A outer s H E) z te))(hp:af a=true:=by rfl):
  W (PE X (.Call (.Name "max" p) [a] [{some (Ox "key"),.Lambda F z scope G,kp}] pos) (qz P G (X.env.qual++"<lambda>") te ta)):={Gj J Z hr O hm ha.h U Xi Yv S (λA o s H E f c r=>(Zb A o s H E f c r).h) hp}
theorem CI{tk tv:TE}(ax:X.N.Nodup)(ai:X.N[i0]?=some z)(av:Loc X.env.scope z)(hc:c=true->X.calm=true)(L:ay X sc N' ix)(hi:PIc c X tg iter wi)(hg:∀Go C fp s H,PG 'b' tg g)(ht:∀Go C fp s H,PTs 'b' F tt)(hk:∀Go C fp s H,PE 'b' J tk)(hv:∀Go C fp s H,PE 'b' G tv)(hs:∀x,O8 iter X.env x=pure x:=by intro _;rfl)(W:SO (.DictComp J G [{tg,iter,F,0}] sc pos) (some (.Name z Zi)) O.line X.env=pure true:=by rfl)(aI:X.fn z=true\/X.env.scope.names.lookup z=some .local:=by first|exact .inl rfl|exact .inr rfl|assumption):
  PS X (.Assign [.Name z Zi] (.DictComp J G [{tg,iter,F,0}] sc pos) O) (gE (tDC ix wi g tt tk tv) (cE i0)):=by
 intro Go s σ H Z I h;rw [exec_Assign_Name_used z Zi _ O W];refine we (Pl (we ?_));rw [arm_evalThenUse_DictComp];show OE 'c' X.A (Sw (.DictComp J G [{tg,iter,F,0}] sc pos) sc X.env (SN [{tg,iter,F,0}] pos) newDict (Ud [{tg,iter,F,0}]) (firstIter [{tg,iter,F,0}] X.env) (some (SZ (.Name z Zi) X.env))>>=λ_=>pure ()) _ _ _;refine we (AY hc L hi hg ht hk hv hs I h λC D oC H' s5 m5 IX ns tu q=>?_);refine thn (pV ax ai av aI (Go++[(C,oC)]) s5 σ H' (.ref D) (.ref D) Z.nx IX rfl q) λ_ s6=>x4e λaT H6 U q6=>?_;obtain ⟨p6,S,_⟩:=U.pin (C,oC) (Oy _ (Oy _ (O3.mpr rfl)));exact {m5,ns p6,λh' XD=>Ot (Ot {aT,H6,tu (U.Ut λp hp=>U.pin p (Oy _ (Pb _ hp))) S XD,q6})}
theorem F0{tk tv:TE}(S:X.N.Nodup)(J:X.N[i0]?=some z)(O:Loc X.env.scope z)(hc:c=true->X.calm=true)(L:ay X sc N' ix)(hi:W (PIc c X tg iter wi))(hg:∀Go C fp s H,W (PG 'b' tg g))(ht:∀Go C fp s H,W (PTs 'b' U tt))(hk:∀Go C fp s H,W (PE 'b' F tk))(hv:∀Go C fp s H,W (PE 'b' Z tv))(hs:∀x,O8 iter X.env x=pure x:=by intro _;rfl)(G:SO (.DictComp F Z [{tg,iter,U,0}] sc pos) (some (.Name z Zi)) Ys.line X.env=pure true:=by rfl)(ai:X.fn z=true\/X.env.scope.names.lookup z=some .local:=by first|exact .inl rfl|exact .inr rfl|assumption):
  W (PS X (.Assign [.Name z Zi] (.DictComp F Z [{tg,iter,U,0}] sc pos) Ys) (gE (tDC ix wi g tt tk tv) (cE i0))) :=
 {CI S J O hc L hi.h (λa b c d e=>(hg a b c d e).h) (λa b c d e=>(ht a b c d e).h) (λa b c d e=>(hk a b c d e).h) (λa b c d e=>(hv a b c d e).h) hs G ai}
end L2
namespace K76
open PySem PySem.Spec PyProof.Rows L2
open PySem.W (Frag OpenLaw WalkO findIn kitOne mroIn)
local macro_rules | `(tactic| erw [$ls,*])=>do
 let l<-("dX tC vg yR tIf Am xa yZ v7 sX cE Cq NR gE vX ipI tOp tUn bV d9 pZ yS yQ iw kG kB vV tCB jz AZ xD rD Bc Gq rQ tR ou uL Cb EB LO tZ sW tE sV Fl Mh GS rN MZ K3 Jv Ey Dd Nc Bv C0 Kv K7 Il nM HW IW G3 HD yU G5 FP DM Bw MF L5 FB Bu Lx JJ cb Su Option.bind_none Option.join_some km and_assoc exists_and_left exists_and_right exists_eq_left' exists_eq_left exists_eq exists_eq' exists_eq_right exists_eq_right' and_true true_and and_false false_and or_false false_or exists_false exists_const O6.injEq V.int.injEq V.str.injEq V.ref.injEq V.bl.injEq V.ty.injEq HO.lst.injEq HO.tup.injEq HO.ins.injEq List.cons.injEq reduceCtorEq reduceIte QH List.getElem?_cons_zero R3 List.set_cons_zero List.set_cons_succ RW QS Qa Pn So L2.start Bq By PZ Nat.reduceSub Nat.reduceAdd G0 B6 AI Dm CV Hw DW Gi Cy On xB xZ tSl Ah DS HE AV yu N5 tL vY pq tY iB Fx Kq Jt GO Jd HG C7 FE Jh DJ yM A5 D4 Jr Oa J6 C8 Dh Im KZ Bt BG Iq Ln NC EM EJ Ea BM Gy FO Jx Kn K4 BE BD EX IC BX Ho NG Lj Lu B0 wV HI Lg Fc Kw Cz Kd NT B5 Jo Gb Fw NN Ht Le Hi LJ EK Km iz HQ Kh AL va A0 lS ql AQ A2 yh yk tU Lb GP HS yW En FZ DE Fs Fe Hk Es B3 Mx DO ML Al Kk Bo".splitOn " ").toArray.mapM fun s=>`(Lean.Parser.Tactic.simpLemma|$(Lean.mkIdent s.toName):ident)
 let k<-ls.getElems.mapM fun s=>match s with
  | `(Lean.Parser.Tactic.rwRule|$t:term)=>`(Lean.Parser.Tactic.simpLemma|$t:term)
  | _=>Lean.Macro.throwUnsupported
 let l:=l++k
 `(tactic| try simp only [$l,*])
local macro_rules | `(tactic| ac_rfl)=>`(tactic| erw [])
def top(i:Nat):Stmt:=PySem.Challenge.pw_cleanrows_k76_houses_begun.main.body.getD i (.Pass {0,0,0,0})
structure zh where
 UI:Addr
 bJ:Addr
 aL:Addr
 Full:Addr
 vr:Addr
 aK:Addr
 U4:Addr
 Uu:Addr
 U3:Addr
 U6:Addr
 wh:Addr
 aI:Addr
 d6:Addr
 UD:Addr
 vx:Addr
 aM:Addr
 U5:Addr
 NoPart:Addr
 Words:Addr
 zw:Addr
 State:Addr
 yz:Addr
 L1:Addr
 zl:Addr
 UB:Addr
 Pv:Addr
structure Txt(K:Frag)(mg:Str->Option Value)(A:zh):Prop where
 cq:mg "ValueError"=none
 eS:mg "abs"=none
 fc:mg "all"=none
 eW:mg "bool"=none
 ej:mg "dict"=none
 ei:mg "divmod"=none
 df:mg "enumerate"=none
 bG:mg "int"=none
 vl:mg "isinstance"=none
 UH:mg "len"=none
 eh:mg "list"=none
 eg:mg "max"=none
 eR:mg "min"=none
 fb:mg "ord"=none
 Uy:mg "range"=none
 UZ:mg "sorted"=none
 UY:mg "str"=none
 fa:mg "zip"=none
 d5:∃u,mg "FIGURES"=some u/\zp (.str "0123456789") u
 d4:∃u,mg "LETTERS"=some u/\zp (.str "abcdefghijklmnopqrstuvwxyz") u
 bx:∃u,mg "MOST_FIGURES"=some u/\zp (.int 18) u
 bu:∃u,mg "MOST_LETTERS"=some u/\zp (.int 6) u
 d3:∃u,mg "MODULUS"=some u/\zp (.int 65521) u
 ah:∃u,mg "FIRST_WORD"=some u/\zp (.str V2) u
 af:∃u,mg "LEAST_STRETCHES"=some u/\zp (.int 3) u
 aH:∃u,mg "MOST_STRETCHES"=some u/\zp (.int 16) u
 bz:∃u,mg "LEAST_PLACES"=some u/\zp (.int 2) u
 bD:∃u,mg "MOST_PLACES"=some u/\zp (.int 32) u
 Va:mg "CleanError"=some (.ref A.UI)
 ek:mg "NoRow"=some (.ref A.bJ)
 dI:mg "NoDisk"=some (.ref A.aL)
 eM:mg "Full"=some (.ref A.Full)
 a9:mg "Stopped"=some (.ref A.vr)
 dH:mg "NoFile"=some (.ref A.aK)
 dq:mg "NoPlace"=some (.ref A.U4)
 bc:mg "HeldAlready"=some (.ref A.Uu)
 dn:mg "NotHeld"=some (.ref A.U3)
 du:mg "NoFiles"=some (.ref A.U6)
 UP:mg "NoMark"=some (.ref A.wh)
 dG:mg "NoRoom"=some (.ref A.aI)
 eK:mg "Gone"=some (.ref A.d6)
 cv:mg "NotClosed"=some (.ref A.UD)
 aQ:mg "NotBlank"=some (.ref A.vx)
 dJ:mg "NoDeed"=some (.ref A.aM)
 dt:mg "NoHouse"=some (.ref A.U5)
 Ur:mg "NoPart"=some (.ref A.NoPart)
 fe:mg "Words"=some (.ref A.Words)
 fj:mg "Files"=some (.ref A.zw)
 ff:mg "State"=some (.ref A.State)
 fu:mg "Disk"=some (.ref A.yz)
 fh:mg "House"=some (.ref A.L1)
 eD:mg "RisenHouse"=some (.ref A.zl)
 Vb:aZ K A.UI
 UC:aZ K A.wh
 L4:aZ K A.NoPart
 Vm:aZ K A.vr
 aT:aZ K A.vx
 dF:mroIn K A.wh (.ref A.wh)=some true
 dE:mroIn K A.NoPart (.ref A.NoPart)=some true
 dy:gL K A.vr
 aP:mroIn K A.vr (.ref A.UI)=some true
 U0:kitOne K (.ref A.vr) (.type "ValueError")=some true
 aU:kitOne K (.ref A.vr) (.ref A.bJ)=some false
 ar:kitOne K (.ref A.vr) (.ref A.aL)=some false
 bp:kitOne K (.ref A.vr) (.ref A.Full)=some false
 Vo:kitOne K (.ref A.vr) (.ref A.vr)=some true
 aq:kitOne K (.ref A.vr) (.ref A.aK)=some false
 Vq:kitOne K (.ref A.vr) (.ref A.U4)=some false
 UV:kitOne K (.ref A.vr) (.ref A.Uu)=some false
 Vp:kitOne K (.ref A.vr) (.ref A.U3)=some false
 Vs:kitOne K (.ref A.vr) (.ref A.U6)=some false
 ao:kitOne K (.ref A.vr) (.ref A.wh)=some false
 ai:kitOne K (.ref A.vr) (.ref A.aI)=some false
 bj:kitOne K (.ref A.vr) (.ref A.d6)=some false
 U7:kitOne K (.ref A.vr) (.ref A.UD)=some false
 Ve:kitOne K (.ref A.vr) (.ref A.vx)=some false
 au:kitOne K (.ref A.vr) (.ref A.aM)=some false
 Vr:kitOne K (.ref A.vr) (.ref A.U5)=some false
 dN:kitOne K (.ref A.vr) (.ref A.NoPart)=some false
 di:gL K A.vx
 cu:mroIn K A.vx (.ref A.UI)=some true
 UW:kitOne K (.ref A.vx) (.type "ValueError")=some true
 av:kitOne K (.ref A.vx) (.ref A.bJ)=some false
 Vw:kitOne K (.ref A.vx) (.ref A.aL)=some false
 aX:kitOne K (.ref A.vx) (.ref A.Full)=some false
 Vf:kitOne K (.ref A.vx) (.ref A.vr)=some false
 Vv:kitOne K (.ref A.vx) (.ref A.aK)=some false
 Vh:kitOne K (.ref A.vx) (.ref A.U4)=some false
 US:kitOne K (.ref A.vx) (.ref A.Uu)=some false
 Vg:kitOne K (.ref A.vx) (.ref A.U3)=some false
 Vj:kitOne K (.ref A.vx) (.ref A.U6)=some false
 Vu:kitOne K (.ref A.vx) (.ref A.wh)=some false
 Vt:kitOne K (.ref A.vx) (.ref A.aI)=some false
 aW:kitOne K (.ref A.vx) (.ref A.d6)=some false
 U1:kitOne K (.ref A.vx) (.ref A.UD)=some false
 U8:kitOne K (.ref A.vx) (.ref A.vx)=some true
 aa:kitOne K (.ref A.vx) (.ref A.aM)=some false
 Vi:kitOne K (.ref A.vx) (.ref A.U5)=some false
 dA:kitOne K (.ref A.vx) (.ref A.NoPart)=some false
 dX:gL K A.wh
 dm:mroIn K A.wh (.ref A.UI)=some true
 U9:kitOne K (.ref A.wh) (.type "ValueError")=some true
 bq:kitOne K (.ref A.wh) (.ref A.bJ)=some false
 a5:kitOne K (.ref A.wh) (.ref A.aL)=some false
 bB:kitOne K (.ref A.wh) (.ref A.Full)=some false
 aw:kitOne K (.ref A.wh) (.ref A.vr)=some false
 a4:kitOne K (.ref A.wh) (.ref A.aK)=some false
 aB:kitOne K (.ref A.wh) (.ref A.U4)=some false
 U2:kitOne K (.ref A.wh) (.ref A.Uu)=some false
 ax:kitOne K (.ref A.wh) (.ref A.U3)=some false
 aD:kitOne K (.ref A.wh) (.ref A.U6)=some false
 a3:kitOne K (.ref A.wh) (.ref A.wh)=some true
 a0:kitOne K (.ref A.wh) (.ref A.aI)=some false
 bA:kitOne K (.ref A.wh) (.ref A.d6)=some false
 Vk:kitOne K (.ref A.wh) (.ref A.UD)=some false
 ae:kitOne K (.ref A.wh) (.ref A.vx)=some false
 a6:kitOne K (.ref A.wh) (.ref A.aM)=some false
 aC:kitOne K (.ref A.wh) (.ref A.U5)=some false
 d9:kitOne K (.ref A.wh) (.ref A.NoPart)=some false
 za:Cls K A.Words
 Uv:aF K A.Words "taken"
 UE:aF K A.Words "words"
 tr:Cls K A.zw
 xp:aF K A.zw "births"
 E2:aF K A.zw "kept"
 zk:Cls K A.State
 UG:aF K A.State "next_mark"
 UJ:aF K A.State "next_row"
 UF:aF K A.State "own_files"
 UA:aF K A.State "spot_of"
 tj:Cls K A.yz
 L0:aF K A.yz "at_sides"
 L3:aF K A.yz "counted"
 J7:aF K A.yz "has_stopped"
 Ux:aF K A.yz "left"
 UM:aF K A.yz "width"
 z3:aF K A.yz "written"
 G2:Cls K A.L1
 Vd:aF K A.L1 "cold_rows"
 Q2:aF K A.L1 "is_over"
 Uw:aF K A.L1 "now"
 UL:aF K A.L1 "own_disk"
 Hx:Cls K A.zl
 UR:aF K A.zl "own_disk"
 UK:aF K A.zl "now"
 UO:aF K A.zl "cold_rows"
 UU:aF K A.zl "is_over"
theorem Txt.eO{K:Frag}(T:Txt K mg A):∃u,mg "NoRow"=some u/\zp (.ref A.bJ) u:={_,T.ek,rfl}
theorem Txt.eB{K:Frag}(T:Txt K mg A):∃u,mg "NoDisk"=some u/\zp (.ref A.aL) u:={_,T.dI,rfl}
theorem Txt.e3{K:Frag}(T:Txt K mg A):∃u,mg "Full"=some u/\zp (.ref A.Full) u:={_,T.eM,rfl}
theorem Txt.dY{K:Frag}(T:Txt K mg A):∃u,mg "Stopped"=some u/\zp (.ref A.vr) u:={_,T.a9,rfl}
theorem Txt.eA{K:Frag}(T:Txt K mg A):∃u,mg "NoFile"=some u/\zp (.ref A.aK) u:={_,T.dH,rfl}
theorem Txt.d0{K:Frag}(T:Txt K mg A):∃u,mg "NoPlace"=some u/\zp (.ref A.U4) u:={_,T.dq,rfl}
theorem Txt.bE{K:Frag}(T:Txt K mg A):∃u,mg "HeldAlready"=some u/\zp (.ref A.Uu) u:={_,T.bc,rfl}
theorem Txt.dZ{K:Frag}(T:Txt K mg A):∃u,mg "NotHeld"=some u/\zp (.ref A.U3) u:={_,T.dn,rfl}
theorem Txt.d2{K:Frag}(T:Txt K mg A):∃u,mg "NoFiles"=some u/\zp (.ref A.U6) u:={_,T.du,rfl}
theorem Txt.ez{K:Frag}(T:Txt K mg A):∃u,mg "NoMark"=some u/\zp (.ref A.wh) u:={_,T.UP,rfl}
theorem Txt.ey{K:Frag}(T:Txt K mg A):∃u,mg "NoRoom"=some u/\zp (.ref A.aI) u:={_,T.dG,rfl}
theorem Txt.e2{K:Frag}(T:Txt K mg A):∃u,mg "Gone"=some u/\zp (.ref A.d6) u:={_,T.eK,rfl}
theorem Txt.dj{K:Frag}(T:Txt K mg A):∃u,mg "NotClosed"=some u/\zp (.ref A.UD) u:={_,T.cv,rfl}
theorem Txt.dz{K:Frag}(T:Txt K mg A):∃u,mg "NotBlank"=some u/\zp (.ref A.vx) u:={_,T.aQ,rfl}
theorem Txt.eC{K:Frag}(T:Txt K mg A):∃u,mg "NoDeed"=some u/\zp (.ref A.aM) u:={_,T.dJ,rfl}
theorem Txt.d1{K:Frag}(T:Txt K mg A):∃u,mg "NoHouse"=some u/\zp (.ref A.U5) u:={_,T.dt,rfl}
theorem JD:(("births":Str) == "kept")=false:=by decide +kernel
theorem Nv:(("kept":Str) == "births")=false:=by decide +kernel
theorem yL:(("births":Str)="kept")=False:=by simpa using JD
theorem Br:(("next_mark":Str) == "next_row")=false:=by decide +kernel
theorem Cm:(("next_mark":Str) == "own_files")=false:=by decide +kernel
theorem Fj:(("next_mark":Str) == "spot_of")=false:=by decide +kernel
theorem DK:(("next_row":Str) == "next_mark")=false:=by decide +kernel
theorem EW:(("next_row":Str) == "own_files")=false:=by decide +kernel
theorem HU:(("next_row":Str) == "spot_of")=false:=by decide +kernel
theorem Fh:(("own_files":Str) == "next_mark")=false:=by decide +kernel
theorem Ef:(("own_files":Str) == "next_row")=false:=by decide +kernel
theorem Nt:(("own_files":Str) == "spot_of")=false:=by decide +kernel
theorem LA:(("spot_of":Str) == "next_mark")=false:=by decide +kernel
theorem CJ:(("spot_of":Str) == "next_row")=false:=by decide +kernel
theorem IS:(("spot_of":Str) == "own_files")=false:=by decide +kernel
theorem Ii:((V8:Str) == "next_mark")=false:=by decide +kernel
theorem Jy:((V8:Str) == "next_row")=false:=by decide +kernel
theorem KW:((V8:Str) == "own_files")=false:=by decide +kernel
theorem Lv:((V8:Str) == "spot_of")=false:=by decide +kernel
theorem LD:((VN:Str) == "next_mark")=false:=by decide +kernel
theorem FU:((VN:Str) == "next_row")=false:=by decide +kernel
theorem Gs:((VN:Str) == "own_files")=false:=by decide +kernel
theorem Ia:((VN:Str) == "spot_of")=false:=by decide +kernel
theorem Js:((V9:Str) == "next_mark")=false:=by decide +kernel
theorem Cw:((V9:Str) == "next_row")=false:=by decide +kernel
theorem DB:((V9:Str) == "own_files")=false:=by decide +kernel
theorem Lq:((V9:Str) == "spot_of")=false:=by decide +kernel
theorem Kr:((Wb:Str) == "next_mark")=false:=by decide +kernel
theorem IY:((Wb:Str) == "next_row")=false:=by decide +kernel
theorem GG:((Wb:Str) == "own_files")=false:=by decide +kernel
theorem Kg:((Wb:Str) == "spot_of")=false:=by decide +kernel
theorem Om:(("next_row":Str)="next_mark")=False:=by simpa using DK
theorem Ih:(("own_files":Str)="next_mark")=False:=by simpa using Fh
theorem yo:(("own_files":Str)="next_row")=False:=by simpa using Ef
theorem qV:(("own_files":Str)="spot_of")=False:=by simpa using Nt
theorem EA:(("spot_of":Str)="next_mark")=False:=by simpa using LA
theorem vz:(("spot_of":Str)="next_row")=False:=by simpa using CJ
theorem bS(h:n<=1000000):n<=sizeLine:=Pt h 'd'
abbrev sq:Stmt:=top 25
abbrev se:Stmt:=top 26
inductive Thg(H:Hp):V->Prop
 | non:Thg H .non
 | bl (b:Bool):Thg H (.bl b)
 | int (i:Int):Thg H (.int i)
 | str (x:Str):Thg H (.str x)
 | lst {a:Addr}{xs:List V}:H a=some (.lst xs)->Thg H (.ref a)
 | tup {a:Addr}{xs:List V}:H a=some (.tup xs)->Thg H (.ref a)
 | dic {a:Addr}{kvs:List (Key×V)}:H a=some (.dK kvs)->Thg H (.ref a)
def G7:V->Bool | .int _=>true|_=>false
noncomputable def hZ(v:V)(a b:Int):Bool:=match v with | .int i=>decide (a<=i)&&decide (i<=b)|_=>false
def x8:Sp:=λvs H Q _=>∃v,vs=[v]/\Thg H v/\Q (.bl (G7 v)) H
noncomputable def mw:Sp:=λvs H Q _=>∃v a b,vs=[v,.int a,.int b]/\Thg H v/\Q (.bl (hZ v a b)) H
section
variable {P:OF}{w:OS}{K:Frag}{mg:Str->Option Value}{base:Heap}{A:zh}
theorem LQ{X:Cx}(t:Thg H v)(q:Q (.bl (match v with | .int _=>true | .bl _=>true|_=>false)) H):j8 X.K [v,.ty "int"] H Q:=by
 cases t with
 | non=>exact {_,_,_,_,_,rfl,rfl,.of .non,rfl,q}
 | bl b=>exact {_,_,_,_,_,rfl,rfl,.of (.bl b),rfl,q}
 | int i=>exact {_,_,_,_,_,rfl,rfl,.of (.int i),rfl,q}
 | str x=>exact {_,_,_,_,_,rfl,rfl,.of (.str x),rfl,q}
 | lst h=>exact {_,_,_,_,_,rfl,rfl,.of (.lst h),rfl,q}
 | tup h=>exact {_,_,_,_,_,rfl,rfl,.of (.tup h),rfl,q}
 | dic h=>exact {_,_,_,_,_,rfl,rfl,.of (.dK h),rfl,q}
theorem wb{X:Cx}(t:Thg H v)(q:Q (.bl (match v with | .bl _=>true|_=>false)) H):j8 X.K [v,.ty "bool"] H Q:=by
 cases t with
 | non=>exact {_,_,_,_,_,rfl,rfl,.of .non,rfl,q}
 | bl b=>exact {_,_,_,_,_,rfl,rfl,.of (.bl b),rfl,q}
 | int i=>exact {_,_,_,_,_,rfl,rfl,.of (.int i),rfl,q}
 | str x=>exact {_,_,_,_,_,rfl,rfl,.of (.str x),rfl,q}
 | lst h=>exact {_,_,_,_,_,rfl,rfl,.of (.lst h),rfl,q}
 | tup h=>exact {_,_,_,_,_,rfl,rfl,.of (.tup h),rfl,q}
 | dic h=>exact {_,_,_,_,_,rfl,rfl,.of (.dK h),rfl,q}
theorem Cg:zx ["value"] ["value"] (zo sq):=fsc
theorem LI(F:Fun K "is_whole" "is_whole" sq f fd)(T:Txt K mg A):zq P w K mg base CX0 cm 1 f fd ["value"] x8:=by
 refine F.o Cg λG z outer s H vs Q E hr h=>?_;obtain ⟨v,rfl,th,q⟩:=h;refine {_,(W.h (zm (zA (mF (zM bC rfl T.vl Pc (zd (zr 0) (zd (kM rfl T.bG boot_int (v:=.ty "int") rfl) ze))) (jh (wm (zM bC rfl T.vl Pc (zd (zr 0) (zd (kM rfl T.eW boot_bool (v:=.ty "bool") rfl) ze))))))))),?_};ac_rfl;refine LQ th ?_;cases th with
 | int i=>exact {true,rfl,pC (wb (.int i) {false,rfl,q})}
 | bl i=>exact {true,rfl,pC (wb (.bl i) {true,rfl,q})}
 | _=>exact {false,rfl,kP q}
theorem BV:zx Xv Xv (zo se):=fsc
theorem Dz(F:Fun K VV VV se f fd)(T:Txt K mg A)(z:GF P w K mg base cm 1 "is_whole" ["value"] x8):zq P w K mg base CX0 cm 2 f fd Xv mw:=by
 refine F.o BV λJ G outer s H vs Q E hr h=>?_;obtain ⟨v,a,b,rfl,th,q⟩:=h;refine {_,(W.h (zm (zA (mF (zQ z hr rfl (zd (zr 0) ze)) (jh (Ay jb jb (zr 1) (zr 0) (zr 2))))))),?_};ac_rfl;refine {_,rfl,th,?_};cases th with
 | int i =>
  refine {true,rfl,pC ?_};ac_rfl;refine cy (λh=>?_) (λh=>?_)
  .have e:hZ (.int i) a b=decide (i<=b):=by show (decide (a<=i)&&_)=_;rw [h];rfl
   rw [<- e];exact q
  .have e:hZ (.int i) a b=false:=by show (decide (a<=i)&&_)=_;rw [QI.mpr h];rfl
   rw [<- e];exact q
 | _=>exact {false,rfl,kP q}
noncomputable def bE(z y:Str)(m:Int):Bool:=decide (1<=(z.length:Int))&&decide ((z.length:Int)<=m)&&(sg z).all λc=>(sg y).contains c
def FIG:Str:="0123456789"
noncomputable def LET:Str:="abcdefghijklmnopqrstuvwxyz"
noncomputable def zU(z:Str):Bool:=bE z FIG 18&&(decide (z="0") || !decide (tx ((sg z).take 1)="0"))
noncomputable def aV(z:Str):Bool:=bE z LET 6
noncomputable def rW:Sp:=λvs H Q _=>∃z y m,vs=[.str z,.str y,.int m]/\asc z=true/\z.length<=100000/\∀H',zj H H'->Q (.bl (bE z y m)) H'
noncomputable def mE(p:Str->Bool):Sp:=λvs H Q _=>∃z,vs=[.str z]/\asc z=true/\z.length<=100000/\∀H',zj H H'->Q (.bl (p z)) H'
theorem cG(h:n<=1000000):n<sizeLine:=O7 h 'd'
abbrev lg:Stmt:=top 27
abbrev qt:Stmt:=top 28
abbrev mZ:Stmt:=top 29
structure Li(H:Hp)(z y:Str)(i:Nat)(τ:L2.St)(ys:List V)(H':Hp):Prop where
 ex:∃t,τ=[t,some (V.str y)]
 ys:ys=(((sg z).take i).map λc=>(sg y).contains c).map V.bl
 same:H'=H
theorem M5:zx Xb Xb (zo lg):=fsc
theorem Fn:bM { kind:=.function,names:=[(Ox ".0",.local),(Ox "sign",.local),(Ox "signs",.free)],isGenerator:=false,isCoroutine:=false,more:=[] } (zo lg).names Xb ["sign",VE] [none,some 1]=true:=by decide +kernel
theorem Ck:(["sign",VE]:List Str).Nodup:=by decide +kernel
theorem Jq(F:Fun K VM VM lg f fd)(T:Txt K mg A):zq P w K mg base CX0 true 1 f fd Xb rW:=by
 refine F.o M5 λZ U outer s H vs Q E hr h=>?_;obtain ⟨z,y,m,rfl,ha,hz,q⟩:=h;have J:_<cLine:=Ql (bB hr);refine {_,(W.h (zm (zA (mF (Ay jb jb zD (zM iU rfl T.UH PK (zd (zr 0) ze)) (zr 2)) (jh (zM (Mv rfl) rfl T.fc boot_all (zd (fe (λ_=>rfl) (ay.of Fn) (Md (zr 0)) (λ_ _ _ _ _=>(zJ (i:=0) Ck rfl (OM rfl))) (λ_ _ _ _ _=>cY) (λ_ _ _ _ _=>(fV (GJ J) (zr 0) (zr 1) rfl))) ze))))))),?_};erw [bS (Pt hz 'd')];refine cy (λh1=>cy (λh2=>?_) λh2=>?_) λh1=>?_
 .refine {ha,aQ.str (Li H z y) (λi τ ys H' I=>?_) {{_,rfl},'z',rfl} ?_ ?_}
  .rw [I.ys,OA,OA,Qx];exact cG (by rw [aa];lia)
  .intro N i c τ ys H' O I hN;obtain ⟨t,rfl⟩:=I.ex;ac_rfl;rw [N7];have S:(sg z)[i]?=some c:=by simpa [sg] using O
   exact hN _ _ _ {{_,rfl},by rw [I.ys,Pz,S];simp,I.same}
  .intro τ ys H' I p H2 G;ac_rfl;refine {_,by rw [G.at_,I.ys],?_};have hs:zj H H2:=by have:=G.same;rw [I.same] at this;exact this
   have e:bE z y m=(((sg z).take z.cps.size).map λc=>(sg y).contains c).all id:=by
    unfold bE;rw [h1,h2,O4 (by rw [aa];exact Ov _),List.all_map];rfl
   rw [<- e];exact q H2 hs
 .have e:bE z y m=false:=by unfold bE;rw [QI.mpr h2];simp
  rw [<- e];exact q H (zj.refl _)
 .have e:bE z y m=false:=by unfold bE;rw [QI.mpr h1];simp
  rw [<- e];exact q H (zj.refl _)
theorem MN:zx WX WX (zo mZ):=fsc
theorem Nr(F:Fun K "is_name" "is_name" mZ f fd)(T:Txt K mg A)(G:GF P w K mg base true 1 VM Xb rW):zq P w K mg base CX0 true 2 f fd WX (mE aV):=by
 refine F.o MN λO J outer s H vs Q E hr h=>?_;obtain ⟨z,rfl,ha,hz,q⟩:=h;refine {_,(W.h (zm (zA (zQ G hr rfl (zd (zr 0) (zd (aK rfl T.d4) (zd (aK rfl T.bu) ze))))))),?_};ac_rfl;exact {z,_,_,rfl,ha,hz,q}
theorem DI:zx WX WX (zo qt):=fsc
theorem Ec(F:Fun K VR VR qt f fd)(T:Txt K mg A)(O:GF P w K mg base true 1 VM Xb rW):zq P w K mg base CX0 true 2 f fd WX (mE zU):=by
 refine F.o DI λU S outer s H vs Q E hr h=>?_;obtain ⟨z,rfl,ha,hz,q⟩:=h;have G:_<cLine:=Ql (bB hr);refine {_,(W.h (zi (zW (dw (cc (zQ O hr rfl (zd (zr 0) (zd (aK rfl T.d5) (zd (aK rfl T.bx) ze))))))
   (zm (zA cM))
   z7)
   (zm (zA (L7 (fV (eS G) (zr 0) zH (aE _)) (jh (fV (ee G) (aW rp (zr 0) zD (λ_ _=>rfl)) zH (aE _)))))))),?_}
 ac_rfl;refine {z,_,_,rfl,ha,hz,λH1 s1=>?_};erw [bS (Pt hz 'd')];refine cy (λh1=>?_) λh1=>?_
 .have e:zU z=false:=by
   unfold zU FIG;rw [show bE z "0123456789" 18=false by simpa using h1];rfl
  rw [<- e];exact q H1 s1
 .have h1:bE z "0123456789" 18=true:=by simpa using h1
  refine cy (λh2=>?_) λh2=>?_
  .have e:zU z=true:=by
    unfold zU FIG;rw [h1,h2];rfl
   rw [<- e];exact q H1 s1
  .have hl:0<(sg z).length:=by
    rw [aa];unfold bE at h1;rw [O1,O1,decide_eq_true_eq] at h1;lia
   have J:(sg z).take 1=[(sg z)[0]]:=by
    generalize sg z=l at hl;cases l with
    | nil=>cases hl
    | cons x l=>rfl
   refine {(sg z)[0],gP (xs:=sg z) (j:=0) (Os hl),?_};have e:zU z = !decide (({ cps:=#[(sg z)[0]] }:Str)="0"):=by
    unfold zU FIG;rw [h1,QI.mpr h2,J];rfl
   rw [<- e];exact q H1 s1
abbrev nh:Stmt:=top 36
abbrev qy:Stmt:=top 37
abbrev rV:Stmt:=top 38
noncomputable def dB:Nat->List Nat->Nat
 | _,[]=>0
 | k,c::l=>c*k+dB (k+1) l
noncomputable def cj(z:Str):Int:=((dB 1 (sg z) % 65521:Nat):Int)
noncomputable def cO(z:Str):Str:=z++(toString (cj z):Str)++";"
noncomputable def aO(z:Str):Str:=QQ z none (some (RT z (c1 32)+1))
noncomputable def dH(z:Str):Option Str:=if z=cO (aO z) then some (aO z) else none
noncomputable def yX:Sp:=λvs H Q _=>∃z,vs=[.str z]/\asc z=true/\z.length<=100000/\∀H',zj H H'->Q (.int (cj z)) H'
noncomputable def nQ:Sp:=λvs H Q _=>∃z,vs=[.str z]/\asc z=true/\z.length<=100000/\∀H',zj H H'->Q (.str (cO z)) H'
noncomputable def Aw(o:Option Str):V:=match o with|some b=>.str b|none=>.non
noncomputable def uQ(K:Frag):Sp:=λvs H Q _=>∃(v:V),vs=[v]/\((∃z,v = .str z/\asc z=true/\z.length<=100000/\∀H',zj H H'->Q (Aw (dH z)) H')\/(∃t,TyX K H v t/\kitOne K t (.type "str")=some false/\Q .non H))
theorem xV:∀(k:Nat)(a b:List Nat),dB k (a++b)=dB k a+dB (k+a.length) b
 | k,[],b=>by simp [dB]
 | k,c::a,b=>by
  show c*k+dB (k+1) (a++b)=c*k+dB (k+1) a+_;rw [xV (k+1) a b,Pn,show k+1+a.length=k+(a.length+1) by lia];lia
structure CK(H:Hp)(z:Str)(i:Nat)(σ:L2.St)(H':Hp):Prop where
 ex:∃a b,σ=[some (V.str z),some (.int (dB 1 ((sg z).take i):Nat)),a,b]
 same:zj H H'
theorem jn:zx ["text","total","place","sign"] WX (zo nh):=fsc
theorem Dq(F:Fun K "sum_of" "sum_of" nh f fd)(T:Txt K mg A):zq P w K mg base CX0 true 1 f fd WX yX:=by
 refine F.o jn λZ U outer s H vs Q E hr h=>?_;obtain ⟨z,rfl,ha,hz,q⟩:=h;refine {_,(W.h (zi (zC (i:=1) jn.nd rfl (OM rfl) zD)
   (zi (cF Q3.never (λ_=>rfl) (Ky rfl T.df (zb 0)) (jg (n:=2) (gsD (aM (zJ (i:=2) jn.nd rfl (OM rfl)) (gsD (aM (zJ (i:=3) jn.nd rfl (OM rfl)) eG)))))
   (zm (Oq (i:=1) jn.nd rfl (OM rfl) (zX lH (zM D9 rfl T.fb boot_ord (zd (zb 3) ze)) (zb 2)) Of)))
   (zm (zA (zX (oI ia) (zb 1) (aK rfl T.d3))))))),?_}
 ac_rfl;refine {ha,bu.fq (CK H z) {{_,_,rfl},zj.refl _} ?_ ?_}
 .rintro i c p σ H' O ⟨⟨a,b,rfl⟩,J⟩ hp;have G:(sg z)[i]?=some c:=by simpa [sg] using O
  ac_rfl;refine {p,_,rfl,SqT.of zt,rfl,?_};ac_rfl;refine {rfl,.inl {by simp;lia,?_},{{some (.int ((i+1:Nat):Int)),some (.str {#[c]}),?_},?_}}
  .have S:c<128:=by
    have h3:=Pr G;rw [fK] at ha;simpa using Pg.mp ha c h3
   simp;lia
  .rw [Pz,G,xV];have hi:i<(sg z).length:=(OJ.mp G).1;rw [Qx,Nat.min_eq_left 'l'];simp [dB];rw [Int.add_comm 1 (i:Int)]
  .exact J.trans λb o e=>by rw [zg (zz e hp)];exact e
 .rintro σ H' ⟨⟨a,b,rfl⟩,J⟩;ac_rfl;refine {'d',?_};have e:cj z=((dB 1 ((sg z).take z.cps.size):Nat):Int) % 65521:=by
   unfold cj;rw [O4 (by rw [aa];exact Ov _)];lia
  rw [<- e];exact q H' J
theorem Ft:(" ":Str)=c1 32:=by decide +kernel
theorem dD(h:n<2 ^ 64):n.log2<1920:=by
 by_cases z:n=0
 .subst z;decide
 .exact Q6 ((Nat.log2_lt z).mpr h) 'd'
theorem eP(z:Str):0<=cj z/\cj z<65521:=by unfold cj;lia
theorem pf{i:Int}(z:0<=i)(h1:i<10 ^ 18):(toString i:Str).length<=19:=by
 have e:=int_text_length_le10 (a:=i) (k:=18) 'd' 'l';show (Ox (toString i)).length<=19;rw [PySem.ofString_length];exact e
theorem Ic:zx ["body"] ["body"] (zo qy):=fsc
theorem DQ(F:Fun K "summed" "summed" qy f fd)(T:Txt K mg A)(O:GF P w K mg base true 1 "sum_of" WX yX):zq P w K mg base CX0 true 2 f fd ["body"] nQ:=by
 refine F.o Ic λZ U outer s H vs Q E hr h=>?_;obtain ⟨z,rfl,ha,hz,q⟩:=h;refine {_,(W.h (zm (zA (IM (oQ (uT (zb 0)) (oQ (uT (caD (zQ O hr rfl (clP (zd (zb 0) ze))))) (oQ zH Hd))))))),?_};ac_rfl;have hs:=eP z;have S:=pf hs.1 'l';refine {bS 'l',by rw [Str.empty_append];exact bS 'l',z,rfl,ha,hz,λH' s1=>?_};ac_rfl;rw [Str.empty_append];have J:(z++(toString (cj z):Str)).length<=1000000:=by rw [Qu];lia
 have G:(z++(toString (cj z):Str)++";").length<=1000000:=by
  rw [Qu,Qu];have:(";":Str).length=1:=by decide
  lia
 exact {dD 'l',bS J,bS G,bS G,q H' s1}
theorem oM(l:List Nat):asc (tx l)=l.all (· < 128):=by rw [fK,bz]
theorem m6(h:asc z=true)(hl:∀c∈l,c∈sg z):asc (tx l)=true:=by
 rw [oM,Pg];rw [fK,Pg] at h;exact λc F=>h c (hl c F)
theorem kQ(c:Nat):∀l:List Nat,c∈l->∃a b,l=a++c::b/\c∉b
 | [],h=>by cases h
 | x::l,h=>by
  by_cases z:c∈l
  .obtain ⟨a,b,e,F⟩:=kQ c l z;exact {x::a,b,by rw [e];rfl,F}
  .rcases OL.mp h with e|e
   .exact {[],l,by rw [e];rfl,z}
   .exact absurd e z
theorem jV(h:sg z=a++32::b)(F:32∉b):aO z=tx (a++[32]):=by
 unfold aO;rw [Mi h F];have e:((a.length:Int)+1)=((a.length+1:Nat):Int):=by lia
 rw [e,jC (by rw [h];simp),h];congr 1;rw [show a++32::b=(a++[32])++b by simp,List.take_left' 'z']
theorem DF(h:32∉sg z):aO z=tx []:=by
 unfold aO;rw [qY h];exact jC (j:=0) (Pp _)
theorem uj(h:asc z=true):asc (aO z)=true/\(aO z).length<=z.length:=by
 refine {?_,PySem.Txt.slice_le _ _ _};by_cases F:32∈sg z
 .obtain ⟨a,b,e,J⟩:=kQ 32 _ F;rw [jV e J];refine m6 h λc G=>?_;rw [e,show a++32::b=(a++[32])++b by simp];exact Pb _ G
 .rw [DF F,oM];rfl
theorem xF:zx ["text","body"] WX (zo rV):=fsc
theorem JR(F:Fun K "body_of" "body_of" rV f fd)(T:Txt K mg A)(O:GF P w K mg base true 2 "summed" ["body"] nQ):zq P w K mg base CX0 true 3 f fd WX (uQ K):=by
 refine F.o xF λZ2 Ar outer s H vs Q E hr h=>?_;have J:_<cLine:=Ql (bB hr);refine {_,(W.h (zi (zW (dw (cc (zM bC rfl T.vl Pc (zd (zb 0) (zd (kM rfl T.UY RQ (v:=.ty "str") rfl) ze)))))
   (zm (zA eO))
   z7)
   (zi (zC (i:=1) xF.nd rfl (OM rfl) (i3 lK (zb 0) jE (iG (zX cB (B7 (zb 0) zH) zD))))
   (zm (zA (CS (tD (aP (clO (oE (eS J))) 'f' (clE (caD (zQ O hr rfl (clP (zd (zb 1) ze))))) (aE _))) (zb 1) eO)))))),?_}
 obtain ⟨v,rfl,⟨z,rfl,ha,hz,q⟩|⟨t,Z,hf,S⟩⟩:=h
 rotate_left
 .ac_rfl;refine {_,_,_,_,_,rfl,rfl,Z,hf,?_};ac_rfl;exact S
 ac_rfl;refine {_,_,_,_,_,rfl,rfl,.of (.str z),rfl,?_};erw [bS (Pt hz 'd'),Ft];obtain ⟨U,b2⟩:=uj ha;refine {aO z,rfl,U,'l',λH' s1=>?_};ac_rfl;have G:=q H' s1;refine cy (λh=>?_) λh=>?_
 .have e:dH z=some (aO z):=if_pos (of_decide_eq_true h);rw [e] at G;exact G
 .have e:dH z=none:=if_neg λx=>h (decide_eq_true x);rw [e] at G;exact G
theorem N9:∀ys:List Str,sg (QY "" ys)=(ys.map sg).flatten:=by
 intro ys;have e:QY "" ys=Str.join "" ys:=StrLaws.glued_eq_join "" ys;rw [e]
 induction ys with
 | nil=>rfl
 | cons y ys z =>
  cases ys with
  | nil=>show sg y=_;simp
  | cons x ys =>
   have z:=z (StrLaws.glued_eq_join "" _);show sg (y++""++Str.join "" (x::ys))=_;rw [ck,ck,z];have:sg ("":Str)=[]:=by decide
   rw [this];simp
abbrev rO:Stmt:=top 93
abbrev pW:Stmt:=top 94
def But(b:Addr)(H H':Hp):Prop:=∀a o,a≠b->H a=some o->H' a=some o
theorem But.of(s:zj H H'):But b H H':=λa o _ e=>s a o e
theorem But.trans(x:But b H H1)(y:But b H1 H2):But b H H2:=λa o n e=>y a o n (x a o n e)
theorem Ha{α:Type}{xs:List α}{i:Int}(G:0<=i)(h1:i<xs.length):∃v,atI xs i=some v/\v∈xs:=by
 have F:i.toNat<xs.length:=by lia
 have z:atI xs ((i.toNat:Nat):Int)=some xs[i.toNat]:=gP (Os F);rw [show ((i.toNat:Nat):Int)=i by lia] at z;exact {_,z,PV F}
theorem qQ{a b:V}:atI [a,b] 0=some a:=rfl
theorem rg{a b:V}:atI [a,b] 1=some b:=rfl
theorem HF:ixN 2 0=some 0:=rfl
theorem M8:ixN 2 1=some 1:=rfl
structure Pot(H:Hp)(a:Addr):Prop where
 ex:∃x y:Int,H a=some (.lst [.int x,.int y])/\0<=x/\0<=y/\y<2147483647
theorem Pot.same(h:Pot H a)(s:zj H H'):Pot H' a:=let ⟨x,y,e,r⟩:=h.ex;{{x,y,s _ _ e,r}}
theorem Pot.ne(h:Pot H a)(n:H l=none):l≠a:=λz=>by
 obtain ⟨x,y,e,_⟩:=h.ex;rw [z,e] at n;cases n
def m3(K:Frag):Sp:=λvs H Q _=>∃(a:Addr)(ns:List Int)(k:Int),vs=[.ref a,.int k]/\SqL K H a (ns.map V.int)/\0<=k/\k<=100/\∀l H',zj H H'->H l=none->Pot H' l->Q (.ref l) H'
theorem ptI{K:Frag}{ns:List Int}{k:Int}(h:SqL K H a (ns.map V.int))(z:0<=k)(h1:k<=100)(q:∀l H',zj H H'->H l=none->Pot H' l->Q (.ref l) H'):m3 K [.ref a,.int k] H Q E:={a,ns,k,rfl,h,z,h1,q}
theorem pb:zx ["_law_script","_law_k","_law_cell"] Wm (zo rO):=fsc
theorem Ku(F:Fun K "_law_pot" "_law_pot" rO f fd)(T:Txt K mg A):zq P w K mg base CX0 true 1 f fd Wm (m3 K):=by
 refine F.o pb λZ2 Ar outer s H vs Q E hr h=>?_;obtain ⟨a,ns,k,rfl,O,U,Z,q⟩:=h;refine {_,(W.h (zi (zC (i:=2) pb.nd rfl (OM rfl) (zX cB (zX lH zD (zb 1)) zD))
   (zi (zW (tD (aP (clO (oI0 rX)) (clE (zb 1)) (clE (zM oF rfl T.UH PK (zd (zb 0) ze))) (aE _)))
   (zm (zC (i:=2) pb.nd rfl (OM rfl) (aW vP (zb 0) (zb 1) (λ_ _=>rfl))))
   z7)
   (zm (zA (aq (zd (zM (AD rfl) rfl T.eg boot_max (zd zD (zd (zX (oI0 j6) (zM vS rfl T.eS boot_abs (zd (zb 2) ze)) (zX (oI CH) zD zD)) ze))) (zd (zX cB (zX (oI ia) (zM vS rfl T.eS boot_abs (zd (zb 2) ze)) zD) zD) ze)))))))),?_}
 ac_rfl;have J:∀(z:Int) l H2,New H l (.lst [.int (if z-10 ^ Int.toNat 18>0 then z-10 ^ Int.toNat 18 else 0),.int (z % 2147483579+1)]) H2->Q (.ref l) H2:=λz l H2 G=>q l H2 G.same G.no {{_,_,G.at_,by split<;>lia,'l','l'}};refine {.inl {'l','l'},_,.inl O,?_};rw [OA];refine cy (λh=>?_) (λh=>?_)
 .have h':k<(ns.length:Int):=of_decide_eq_true h;obtain ⟨v,S,hv⟩:=Ha (xs:=ns.map V.int) U (by simpa using h');obtain ⟨z,hz,rfl⟩:=Po.mp hv;refine {a,ns.map V.int,k,_,rfl,rfl,O,S,?_};ac_rfl;exact {{'d','d','d'},'d','d',λl H2 G _=>J _ l H2 G}
 .ac_rfl;exact {{'d','d','d'},'d','d',λl H2 G _=>J _ l H2 G}
def lN:Sp:=λvs H Q _=>∃(a:Addr)(m:Int),vs=[.ref a,.int m]/\Pot H a/\0<m/\m<2 ^ 64/\∀(r:Int) H',But a H H'->Pot H' a->0<=r->r<m->Q (.int r) H'
theorem tkI(G:Pot H a)(z:0<m)(F:m<2 ^ 64)(q:∀(r:Int) H',But a H H'->Pot H' a->0<=r->r<m->Q (.int r) H'):lN [.ref a,.int m] H Q E:={a,m,rfl,G,z,F,q}
theorem u7:zx ["_law_pot_here","_law_many","_law_digit"] Wy (zo pW):=fsc
theorem K1(F:Fun K VC VC pW f fd)(T:Txt K mg A):zq P w K mg base CX0 true 1 f fd Wy lN:=by
 refine F.o u7 λZ2 Ar outer s H vs Q E hr h=>?_;obtain ⟨a,m,rfl,⟨x,y,e,O,y0,Z⟩,z,U,q⟩:=h;refine {_,(W.h (zi (zW (tD (aP (clO (oI0 lZ)) (clE (aW cq (zb 0) zD (λ_ _=>rfl))) (clE zD) (aE _)))
   (zi (iP (zM Lo rfl T.ei boot_divmod (zd (aW cq (zb 0) zD (λ_ _=>rfl)) (zd (zb 1) ze))) (jg (n:=2) (gsD (aM (iI (zb 0) zD lA) (gsD (aM (zJ (i:=2) u7.nd rfl (OM rfl)) eG))))))
   (zm (zA (zb 2))))
   z7)
   (zi (iP (zX (oI ia) (zX cB (zX lH (aW cq (zb 0) zD (λ_ _=>rfl)) zD) zD) zD) (iI (zb 0) zD lA))
   (zm (zA (zX (oI ia) (zX (oI De) (zX (oI ia) (zX lH (aW cq (zb 0) zD (λ_ _=>rfl)) (aW cq (zb 0) zD (λ_ _=>rfl))) zD) zD) (zb 1))))))),?_}
 erw [e,qQ,rg];refine cy (λh=>?_) (λh=>?_)
 .refine {z,U,λp H2 J=>{p,_,rfl,SqT.of J.at_,rfl,?_}};have S:=J.same _ _ e;erw [S,HF,qQ];refine q _ _ (λc o G ec=>by rw [zg G];exact J.same _ _ ec) {{_,_,zt,Int.ediv_nonneg O 'l',y0,Z}} (Int.emod_nonneg _ 'l') (Int.emod_lt_of_pos _ z)
 .erw [M8,zt,rg];refine {.inr {'d','d'},'d',.inl {'l','l'},'d',{'d','d'},z,q _ _ (λc o G ec=>by rw [zg G];exact ec) {{_,_,zt,O,'l','l'}} (Int.emod_nonneg _ 'l') (Int.emod_lt_of_pos _ z)}
end
abbrev nS:Stmt:=zP (top 54) 0
abbrev pN:Stmt:=zP (top 54) 1
abbrev oV:Stmt:=zP (top 54) 2
abbrev nN:Stmt:=zP (top 54) 14
abbrev qK:Stmt:=zP (top 54) 15
abbrev Tab:=List (Str×List Int)
def cw(H:Hp)(v:V)(l:List Int):Prop:=∃p,v = .ref p/\H p=some (.tup (l.map V.int))
def zR(b k:Addr):List (Str×V):=[("births",.ref b),("kept",.ref k)]
structure cQ(H:Hp)(b:Addr)(t:Tab):Prop where
 ex:∃kvs,H b=some (.dK (sk kvs))/\Dct (cw H) kvs t
 nd:(names t).Nodup
structure dr(H:Hp)(b:Addr)(t:Tab):Prop where
 ex:∃kvs,Rd H b (.dK (sk kvs))/\Dct (cw H) kvs t
 nd:(names t).Nodup
theorem cQ.r{t:Tab}(h:cQ H b t):dr H b t:=let ⟨kvs,e,d⟩:=h.ex;{{kvs,.inl e,d},h.nd}
structure aN(A:zh)(H:Hp)(q b k:Addr)(t:Tab):Prop where
 ob:∃dx,H q=some (.ins A.zw dx (zR b k))
 xy:dr H b t
 kept:Rd H k (.dK (sk []))
def cR(A:zh)(H:Hp)(b k:Addr)(v:V)(t:Tab):Prop:=∃q z k',v = .ref q/\aN A H q z k' t/\z≠b/\z≠k/\k'≠b/\k'≠k
structure zS(A:zh)(H:Hp)(p b k:Addr)(t:Tab)(ks:List (Str×Tab)):Prop where
 ob:∃dx,H p=some (.ins A.zw dx (zR b k))
 xy:cQ H b t
 kept:∃kk,H k=some (.dK (sk kk))/\Dct (cR A H b k) kk ks
 ef:(names ks).Nodup
 ne:b≠k
structure bW(A:zh)(H:Hp)(p b k:Addr)(t:Tab)(ks:List (Str×Tab)):Prop where
 ob:∃dx,H p=some (.ins A.zw dx (zR b k))
 xy:dr H b t
 kept:∃kk,Rd H k (.dK (sk kk))/\Dct (cR A H b k) kk ks
 ef:(names ks).Nodup
theorem zS.r{p b k:Addr}{t:Tab}(h:zS A H p b k t ks):bW A H p b k t ks:=let ⟨kk,e,d⟩:=h.kept;{h.ob,h.xy.r,{kk,.inl e,d},h.ef}
structure FS(H H':Hp):Prop where
 oth:∀a o,(∀kvs,o≠.dK kvs)->(∀ob kvs,o≠.frz ob (.dK kvs))->H a=some o->H' a=some o
 dic:∀a kvs,Rd H a (.dK kvs)->Rd H' a (.dK kvs)
theorem FS.of(s:zj H H'):FS H H':={λa o _ _ e=>s a o e,λa kvs r=>r.elim (λe=>.inl (s _ _ e)) (λ⟨o,e⟩=>.inr {o,s _ _ e})}
theorem FS.trans(x:FS H H1)(y:FS H1 H2):FS H H2:={λa o n m e=>y.oth a o n m (x.oth a o n m e),λa kvs r=>y.dic a kvs (x.dic a kvs r)}
theorem Rd.same(h:Rd H a u)(s:zj H H'):Rd H' a u:=h.elim (λe=>.inl (s _ _ e)) (λ⟨o,e⟩=>.inr {o,s _ _ e})
theorem But.upd{b:Addr}{H:Hp}{o:HO}:But b H (upd H b o):=λa u n e=>by rw [zg n];exact e
theorem cw.but(h:cw H v l)(s:But b H H')(F:∀xs,H b≠some (.tup xs)):cw H' v l:=by
 obtain ⟨p,e,hp⟩:=h;exact {p,e,s p _ (λz=>by subst z;exact F _ hp) hp}
theorem cw.same(h:cw H v l)(s:zj H H'):cw H' v l:=let ⟨p,e,hp⟩:=h;{p,e,s p _ hp}
theorem cQ.but{t:Tab}(h:cQ H b t)(s:But x H H')(hx:∀xs,H x≠some (.tup xs))(n:b≠x):cQ H' b t:=by
 obtain ⟨kvs,e,d⟩:=h.ex;exact {{kvs,s _ _ n e,d.imp λv a r=>r.but s hx},h.nd}
theorem cQ.same{t:Tab}(h:cQ H b t)(s:zj H H'):cQ H' b t:=by
 obtain ⟨kvs,e,d⟩:=h.ex;exact {{kvs,s _ _ e,d.imp λv a r=>r.same s},h.nd}
theorem dr.but{t:Tab}(h:dr H b t)(s:But x H H')(hx:∀xs,H x≠some (.tup xs))(n:b≠x):dr H' b t:=by
 obtain ⟨kvs,e,d⟩:=h.ex;exact {{kvs,e.elim (λe=>.inl (s _ _ n e)) (λ⟨o,e⟩=>.inr {o,s _ _ n e}),d.imp λv a r=>r.but s hx},h.nd}
theorem cw.fs(h:cw H v l)(s:FS H H'):cw H' v l:=let ⟨p,e,hp⟩:=h;{p,e,s.oth p _ (λ_=>nofun) (λ_ _=>nofun) hp}
theorem dr.fs{t:Tab}(h:dr H b t)(s:FS H H'):dr H' b t:=by
 obtain ⟨kvs,e,d⟩:=h.ex;exact {{kvs,s.dic _ _ e,d.imp λv a r=>r.fs s},h.nd}
theorem aN.but{q b k:Addr}{t:Tab}(h:aN A H q b k t)(s:But x H H')(hx:H x=some (.dK kvs))(G:b≠x)(F:k≠x):aN A H' q b k t:=by
 obtain ⟨dx,e⟩:=h.ob;exact {{dx,s _ _ (λz=>by subst z;rw [e] at hx;cases hx) e},h.xy.but s (λxs z=>by rw [z] at hx;cases hx) G,h.kept.elim (λe=>.inl (s _ _ F e)) (λ⟨o,e⟩=>.inr {o,s _ _ F e})}
theorem aN.fs{q b k:Addr}{t:Tab}(h:aN A H q b k t)(s:FS H H'):aN A H' q b k t:=let ⟨dx,e⟩:=h.ob;{{dx,s.oth _ _ (λ_=>nofun) (λ_ _=>nofun) e},h.xy.fs s,s.dic _ _ h.kept}
theorem aN.same{q b k:Addr}{t:Tab}(h:aN A H q b k t)(s:zj H H'):aN A H' q b k t:=h.fs (.of s)
theorem cR.fs{b k:Addr}{t:Tab}(h:cR A H b k v t)(s:FS H H'):cR A H' b k v t:=let ⟨q,b',k',e,r,n⟩:=h;{q,b',k',e,r.fs s,n}
theorem bW.fs{p b k:Addr}{t:Tab}(h:bW A H p b k t ks)(s:FS H H'):bW A H' p b k t ks:=by
 obtain ⟨dx,e⟩:=h.ob;obtain ⟨kk,z,d⟩:=h.kept;exact {{dx,s.oth _ _ (λ_=>nofun) (λ_ _=>nofun) e},h.xy.fs s,{kk,s.dic _ _ z,d.imp λv a r=>r.fs s},h.ef}
theorem bW.same{p b k:Addr}{t:Tab}(h:bW A H p b k t ks)(s:zj H H'):bW A H' p b k t ks:=h.fs (.of s)
theorem zS.fs{p b k d:Addr}{t:Tab}(h:zS A H p b k t ks)(s:FS H H')(bt:But d H H')(O:b≠d)(F:k≠d):zS A H' p b k t ks:=by
 obtain ⟨dx,e⟩:=h.ob;obtain ⟨kk,z,d⟩:=h.kept;obtain ⟨kvs,J,G⟩:=h.xy.ex;exact {{dx,s.oth _ _ (λ_=>nofun) (λ_ _=>nofun) e},{{kvs,bt _ _ O J,G.imp λv a r=>r.fs s},h.xy.nd},{kk,bt _ _ F z,d.imp λv a r=>r.fs s},h.ef,h.ne}
theorem cR.same{b k:Addr}{t:Tab}(h:cR A H b k v t)(s:zj H H'):cR A H' b k v t:=let ⟨q,b',k',e,r,n⟩:=h;{q,b',k',e,r.same s,n}
theorem zS.same{p b k:Addr}{t:Tab}(h:zS A H p b k t ks)(s:zj H H'):zS A H' p b k t ks:=by
 obtain ⟨dx,e⟩:=h.ob;obtain ⟨kk,z,d⟩:=h.kept;exact {{dx,s _ _ e},h.xy.same s,{kk,s _ _ z,d.imp λv a r=>r.same s},h.ef,h.ne}
theorem zS.setB{p b k:Addr}{t t':Tab}(h:zS A H p b k t ks)(s:But b H H')(e:H' b=some (.dK (sk F)))(d':Dct (cw H') F t')(nd:(names t').Nodup):zS A H' p b k t' ks:=by
 obtain ⟨dx,J⟩:=h.ob;obtain ⟨kk,U,d⟩:=h.kept;obtain ⟨kvs,G,_⟩:=h.xy.ex;exact {{dx,s _ _ (λz=>by subst z;rw [J] at G;cases G) J},{⟨F,e,d'⟩,nd},{kk,s _ _ (Pd h.ne) U,d.imp λv a ⟨q,Z,k',S,r,O,W,n3,n4⟩=>{q,Z,k',S,r.but s G O n3,O,W,n3,n4}},h.ef,h.ne}
theorem zS.fw{p b k:Addr}{t:Tab}(h:zS A H p b k t ks)(s:But k H H')(e:H' k=some (.dK (sk F)))(d':Dct (cR A H' b k) F ks')(nd:(names ks').Nodup):zS A H' p b k t ks':=by
 obtain ⟨dx,J⟩:=h.ob;obtain ⟨kk,G,d⟩:=h.kept;exact {{dx,s _ _ (λz=>by subst z;rw [J] at G;cases G) J},h.xy.but s (λxs z=>by rw [z] at G;cases G) h.ne,⟨F,e,d'⟩,nd,h.ne}
theorem cR.but{b k:Addr}{t:Tab}(h:cR A H b k v t)(s:But k H H')(hx:H k=some (.dK kvs)):cR A H' b k v t:=let ⟨q,b',k',ev,r,n1,n2,n3,n4⟩:=h;{q,b',k',ev,r.but s hx n2 n4,n1,n2,n3,n4}
section
variable {P:OF}{w:OS}{K:Frag}{mg:Str->Option Value}{base:Heap}{A:zh}{b k:Addr}
theorem c8:(zR b k).lookup ("births":Str)=some (.ref b):=by simp only [zR,PL,beq_self_eq_true]
theorem fM:(zR b k).lookup ("kept":Str)=some (.ref k):=by simp only [zR,PL,beq_self_eq_true,Nv]
theorem vm:(zR b k).lookup ("names":Str)=none:=by kernel_rfl
theorem iQ:(zR b k).lookup ("many":Str)=none:=by kernel_rfl
theorem rY:(zR b k).lookup (V5:Str)=none:=by kernel_rfl
theorem MY:(zR b k).lookup ("put":Str)=none:=by kernel_rfl
theorem NJ:(zR b k).lookup ("held":Str)=none:=by kernel_rfl
theorem Bx:(zR b k).lookup ("of_held":Str)=none:=by kernel_rfl
theorem sJ:(zR b k).lookup ("living":Str)=none:=by kernel_rfl
theorem mY:(zR b k).lookup ("bare":Str)=none:=by kernel_rfl
theorem Gu:(zR b k).lookup ("keep":Str)=none:=by kernel_rfl
theorem Ae:(zR b k).lookup (VP:Str)=none:=by kernel_rfl
theorem wD:(zR b k).lookup (V1:Str)=none:=by kernel_rfl
theorem vH{b k:Addr}:(zR b k).lookup (VY:Str)=none:=by kernel_rfl
def kI(A:zh):Sp:=λvs H Q _=>∃(p dx:Addr),vs=[.ref p]/\H p=some (.ins A.zw dx [])/\∀b k H',But p H H'->H b=none->H k=none->H' b=some (.dK (sk []))->H' k=some (.dK (sk []))->b≠k->H' p=some (.ins A.zw dx (zR b k))->Q .non H'
theorem J2:zx Zf Zf (zo nS):=fsc
theorem IK(F:Fun K Wc "Files.__init__" nS f fd)(T:Txt K mg A):zq P w K mg base CX0 true 1 f fd Zf (kI A):=by
 refine F.o J2 λZ2 Z outer s H vs Q E hr h=>?_;obtain ⟨p,dx,rfl,hp,q⟩:=h;refine {_,(W.h (zi (ar T.tr T.xp (zr 0) AM)
   (zm (ar T.tr T.E2 (zr 0) AM)))),?_}
 ac_rfl;refine λb H1 J=>{dx,[],J.same _ _ hp,'d',λk H2 G=>{dx,_,G.same _ _ zt,by show 1<1000;decide,?_}};have O:b≠p:=λz=>by have:=J.no;rw [z,hp] at this;cases this
 have kp:k≠p:=λz=>by have:=G.no;rw [z,zt] at this;cases this
 have k1:H1 k=none:=by have:=G.no;rw [zg kp] at this;exact this
 have U:zG ("kept":Str) (V.ref k) (zG ("births":Str) (V.ref b) [])=zR b k:=by simp only [zG,zR,yL,if_false]
 have S:H2 b=some (.dK []):=G.same _ _ (by rw [zg O];exact J.at_);rw [U];refine q b k _ (λa o n e=>?_) J.no (J.same.free k1) (by rw [zg O];exact S) (by rw [zg kp];exact G.at_) (λz=>?_) zt
 .rw [zg n];exact G.same _ _ (by rw [zg n];exact J.same _ _ e)
 .have:=G.no;rw [<- z,zg O,J.at_] at this;cases this
noncomputable def r8(A:zh):Sp:=λvs H Q _=>∃(p b k:Addr)(t:Tab)(ks:List (Str×Tab)),vs=[.ref p]/\bW A H p b k t ks/\t.length<64/\∀l H',New H l (.lst ((zF (names t)).map V.str)) H'->Q (.ref l) H'
theorem FN:zx Zf Zf (zo pN):=fsc
theorem FD(F:Fun K "names" "Files.names" pN f fd)(T:Txt K mg A):zq P w K mg base CX0 true 1 f fd Zf (r8 A):=by
 refine F.o FN λS O outer s H vs Q E hr h=>?_;obtain ⟨p,b,k,t,ks,rfl,z,hl,q⟩:=h;refine {_,(W.h (zm (zA (zM (xE rfl) rfl T.UZ Tj (zd (zO T.tr T.xp (zr 0)) ze))))),?_};obtain ⟨dx,J⟩:=z.ob;obtain ⟨kvs,G,d⟩:=z.xy.ex;erw [J,c8];refine {kvs,G,by rw [d.length];exact hl,?_};rw [d.names];exact q
noncomputable def lk(t:Tab)(n:Str):List Int:=(look t n).getD []
noncomputable def kT(A:zh):Sp:=λvs H Q _=>∃(p b k:Addr)(t:Tab)(ks:List (Str×Tab))(n:Str),vs=[.ref p,.str n]/\bW A H p b k t ks/\∀H',zj H H'->Q (.int (lk t n).length) H'
theorem cQ.get{t:Tab}(d:Dct (cw H) kvs t)(n:Str){p:Addr}(s:zj H H')(hp:H' p=some (.tup [])):∃a,(look kvs n).getD (.ref p) = .ref a/\H' a=some (.tup ((lk t n).map V.int)):=by
 rcases d.look n with ⟨v,l,z,F,a,G,ha⟩|⟨z,F⟩
 .exact {a,by rw [z,G];rfl,by unfold lk;rw [F];exact s _ _ ha}
 .exact {p,by rw [z];rfl,by unfold lk;rw [F];exact hp}
theorem L8:zx Xx Xx (zo oV):=fsc
theorem K8(F:Fun K "many" "Files.many" oV f fd)(T:Txt K mg A):zq P w K mg base CX0 true 1 f fd Xx (kT A):=by
 refine F.o L8 λZ S outer s H vs Q E hr h=>?_;obtain ⟨p,b,k,t,ks,n,rfl,J,q⟩:=h;refine {_,(W.h (zm (zA (zM iU rfl T.UH PK (zd (y7 (bB hr) (zO T.tr T.xp (zr 0)) (zr 1) (dN ze)) ze))))),?_};obtain ⟨dx,O⟩:=J.ob;obtain ⟨kvs,G,d⟩:=J.xy.ex;erw [O,c8];refine {{_,G},Pp _,λU H2 z=>{_,Rd.same G z.same,?_}};obtain ⟨a,ea,ha⟩:=cQ.get d n z.same z.at_;rw [fP,ea,ou];exact {_,.inr ha,by rw [OA];exact q H2 z.same}
theorem Dct.de{α:Type}{R:V->α->Prop}{t:List (Str×α)}(d:Dct R kvs t)(n:Str):(look kvs n).isSome=(look t n).isSome:=by
 rcases d.look n with ⟨v,l,z,F,_⟩|⟨z,F⟩<;>rw [z,F]<;>rfl
noncomputable def yl(A:zh):Sp:=λvs H Q _=>∃(p b k:Addr)(t:Tab)(ks:List (Str×Tab))(n:Str),vs=[.ref p,.str n]/\bW A H p b k t ks/\(look t n).isSome=true/\Q .non H
theorem ID:zx Xx Xx (zo nN):=fsc
theorem Jc(F:Fun K VP "Files.refuse_if_none" nN f fd)(T:Txt K mg A):zq P w K mg base CX0 true 1 f fd Xx (yl A):=by
 refine F.o ID λU S outer s H vs Q E hr h=>?_;obtain ⟨p,b,k,t,ks,n,rfl,z,G,q⟩:=h;refine {_,(W.h (zm (zW (aP (v8 (bB hr)) (zr 1) (zO T.tr T.xp (zr 0)) rfl)
   (zm cN)
   z7))),?_}
 obtain ⟨dx,O⟩:=z.ob;obtain ⟨kvs,J,d⟩:=z.xy.ex;erw [O,c8];refine {_,J,?_};rw [fP,Dct.de d n,G];exact kP q
noncomputable def w9(A:zh):Sp:=λvs H Q _=>∃(p b k:Addr)(t:Tab)(ks:List (Str×Tab))(n:Str),vs=[.ref p,.str n]/\bW A H p b k t ks/\(look ks n).isSome=true/\Q .non H
theorem LU:zx WC WC (zo qK):=fsc
theorem Jl(F:Fun K V1 "Files.refuse_if_not_held" qK f fd)(T:Txt K mg A):zq P w K mg base CX0 true 1 f fd WC (w9 A):=by
 refine F.o LU λU S outer s H vs Q E hr h=>?_;obtain ⟨p,b,k,t,ks,n,rfl,z,G,q⟩:=h;refine {_,(W.h (zm (zW (aP (v8 (bB hr)) (zr 1) (zO T.tr T.E2 (zr 0)) rfl)
   (zm cN)
   z7))),?_}
 obtain ⟨dx,O⟩:=z.ob;obtain ⟨kk,J,d⟩:=z.kept;erw [O,fM];refine {_,J,?_};rw [fP,Dct.de d n,G];exact kP q
abbrev qR:Stmt:=zP (top 54) 3
abbrev pR:Stmt:=zP (top 54) 4
theorem xx{i a b:Int}(h1:a<=i)(h2:i<=b):hZ (.int i) a b=true:=by
 show (decide (a<=i)&&decide (i<=b))=true;rw [decide_eq_true h1,decide_eq_true h2];rfl
theorem Gz(G:0<=i)(h1:i<=xs.length):bX xs none (some i)=xs.take i.toNat:=by
 have z:HT.sIx xs.length 0 none=0:=rfl;have F:HT.sIx xs.length xs.length (some i)=i.toNat:=by
  unfold HT.sIx;simp only;split<;>lia
 unfold bX;rw [z,F];simp
theorem ER{i:Int}(G:0<=i)(h1:i<=xs.length+1):bX xs (some i) none=xs.drop i.toNat:=by
 have z:HT.sIx xs.length xs.length none=xs.length:=rfl;have F:HT.sIx xs.length 0 (some i)=min i.toNat xs.length:=by
  unfold HT.sIx;simp only;split<;>lia
 unfold bX;rw [z,F];by_cases h:i.toNat<=xs.length
 .rw [Nat.min_eq_left h,O4 (by rw [T4];lia)]
 .rw [Nat.min_eq_right 'l',Rk (Ov _),Rk 'l'];simp
noncomputable def uA(A:zh):Sp:=λvs H Q _=>∃(p b k:Addr)(t:Tab)(ks:List (Str×Tab))(n:Str)(l:List Int)(i:Int),vs=[.ref p,.str n,.int i]/\bW A H p b k t ks/\look t n=some l/\0<=i/\i<l.length/\∀H',zj H H'->Q (.int (l.getD i.toNat 0)) H'
theorem NO:zx Wu Wu (zo qR):=fsc
theorem KJ(F:Fun K V5 "Files.birth" qR f fd)(T:Txt K mg A)(ZI:GM P w K mg base true 1 A.zw VP Xx (yl A))(ZS:GM P w K mg base true 1 A.zw "many" Xx (kT A))(ZQ:GF P w K mg base true 2 VV Xv mw):zq P w K mg base CX0 true 4 f fd Wu (uA A):=by
 refine F.o NO λZ2 Ar outer s H vs Q E hr h=>?_;obtain ⟨p,b,k,t,ks,n,l,i,rfl,O,J,i0,i1,q⟩:=h;refine {_,(W.h (zi (ae (cn (zr 0) T.tr ZI hr (zd (zr 1) ze)))
   (zi (zW (dw (cc (zQ ZQ hr rfl (zd (zr 2) (zd zD (zd (zX j6 (cn (zr 0) T.tr ZS hr (zd (zr 1) ze)) zD) ze))))))
   (zm cN)
   z7)
   (zm (zA (aW rp (aW (mH (bB hr)) (zO T.tr T.xp (zr 0)) (zr 1) (λ_ _=>rfl)) (zr 2) (λ_ _=>rfl))))))),?_}
 obtain ⟨dx,Z⟩:=O.ob;erw [Z,c8,Ae,iQ];refine {p,b,k,t,ks,n,rfl,O,by rw [J];rfl,?_};erw [Z,c8,Ae,iQ];refine {p,b,k,t,ks,n,rfl,O,λH1 s1=>?_};have U:=O.same s1;obtain ⟨WU,S⟩:=U.ob;obtain ⟨kvs,e2,d⟩:=U.xy.ex;have el:lk t n=l:=by unfold lk;rw [J];rfl
 ac_rfl;refine {_,_,_,rfl,.int i,?_};rw [xx i0 (by rw [el];lia)];erw [S,c8];refine {_,e2,?_};rcases d.look n with ⟨v,l',d1,G,a,ev,ha⟩|⟨_,G⟩
 .rw [J] at G;cases G;subst ev;refine {.ref a,by rw [fP];exact d1,?_};rw [rQ];have hi:i.toNat<l.length:=by lia
  refine {_,.inr ha,.int (l.getD i.toNat 0),?_,q H1 s1};have z:atI (l.map V.int) ((i.toNat:Nat):Int)=some (.int (l[i.toNat])):=gP (by rw [O0,Os hi];rfl);rw [show ((i.toNat:Nat):Int)=i by lia] at z;rw [z,O5,Os hi];rfl
 .rw [J] at G;cases G
noncomputable def sT(A:zh):Sp:=λvs H Q _=>∃(p b k:Addr)(t:Tab)(ks:List (Str×Tab))(n:Str)(i x:Int),vs=[.ref p,.str n,.int i,.int x]/\zS A H p b k t ks/\0<=i/\i<=(lk t n).length/\(lk t n).length<=4000/\t.length<=4000 /\
 ∀H',But b H H'->zS A H' p b k (zN t n ((lk t n).take i.toNat++[x]++(lk t n).drop (i.toNat+1))) ks->Q .non H'
theorem uI:zx ["self","file","place",V5,"births"] Wt (zo pR):=fsc
theorem CD(F:Fun K "put" "Files.put" pR f fd)(T:Txt K mg A)(ZS:GM P w K mg base true 1 A.zw "many" Xx (kT A))(ZQ:GF P w K mg base true 2 VV Xv mw):zq P w K mg base CX0 true 4 f fd Wt (sT A):=by
 refine F.o uI λZ2 Ar outer s H vs Q E hr h=>?_;obtain ⟨p,b,k,t,ks,n,i,x,rfl,S,i0,i1,l1,t1,q⟩:=h;refine {_,(W.h (zi (zW (dw (cc (zQ ZQ hr rfl (zd (zr 2) (zd zD (zd (cn (zr 0) T.tr ZS hr (zd (zr 1) ze)) ze))))))
   (zm cN)
   z7)
   (zi (zC (i:=4) uI.nd rfl (OM rfl) (y7 (bB hr) (zO T.tr T.xp (zr 0)) (zr 1) (dN ze)))
   (zm (iP (zX h9 (zX h9 (i3 AK (zr 4) jE (iG (zr 2))) (dN (zd (zr 3) ze))) (i3 AK (zr 4) (iG (zX h9 (zr 2) zD)) jE)) (iI (zO T.tr T.xp (zr 0)) (zr 1) (wN (bB hr)))))))),?_}
 obtain ⟨dx,e1⟩:=S.ob;erw [e1,c8,iQ];refine {p,b,k,t,ks,n,rfl,S.r,λH1 s1=>?_};have F1:=S.same s1;obtain ⟨WU,Z⟩:=F1.ob;obtain ⟨kvs,O,d⟩:=F1.xy.ex;ac_rfl;refine {_,_,_,rfl,.int i,?_};rw [xx i0 i1];erw [Z,c8];refine {{_,.inl O},Pp _,λp1 H2 U=>{_,.inl (U.same _ _ O),?_}};obtain ⟨a,ea,ha⟩:=cQ.get d n U.same U.at_;rw [fP,ea];erw [ha];intro p2 H3 s3 e3;refine {'d',λp3 H4 J=>?_};rw [Gz i0 (by rw [OA];exact i1)] at e3;have big:∀n:Nat,n<=100000->n<=sizeLine:=λn h=>Pt h 'd';refine .inr {_,J.same _ _ e3,_,J.at_,big _ (by simp;lia),λp4 H5 s5 e5=>?_};have ai:=s5 _ _ (J.same _ _ (s3 _ _ ha));refine .inr {_,ai,λp6 H6 s6 e6=>?_};rw [ER 'l' (by rw [OA];lia)] at e6;refine .inr {_,s6 _ _ e5,_,e6,big _ (by simp;lia),λp7 H7 s7 e7=>?_};have G:zj H1 H7:=((((U.same.trans s3).trans J.same).trans s5).trans s6).trans s7;have F7:=F1.same G;obtain ⟨ax,av⟩:=F7.ob;erw [av,c8];refine {_,G _ _ O,by rw [Bj,d.length];exact O7 t1 'd',?_};rw [sP];have bt:∀xs,H7 b≠some (.tup xs):=λxs z=>by rw [G _ _ O] at z;cases z
 have et:(i+1).toNat=i.toNat+1:=by lia
 have d7:Dct (cw H7) kvs t:=d.imp λv a r=>r.same G;have r7:cw H7 (.ref p7) ((lk t n).take i.toNat++[x]++(lk t n).drop (i.toNat+1)):={p7,rfl,by rw [e7,et];simp [List.map_take,List.map_drop]};refine q _ (λc o nc e=>by rw [zg nc];exact G _ _ (s1 _ _ e)) (F7.setB But.upd zt ((d7.put n r7).imp λv a r=>r.but But.upd bt) (jR S.xy.nd))
abbrev rJ:Stmt:=zP (top 54) 8
abbrev om:Stmt:=zP (top 54) 9
abbrev mX:Stmt:=zP (top 54) 12
abbrev nH:Stmt:=zP (top 54) 13
noncomputable def vU(A:zh):Sp:=λvs H Q _=>∃(p b k:Addr)(t:Tab)(ks:List (Str×Tab)),vs=[.ref p]/\bW A H p b k t ks/\ks.length<64/\∀l H',New H l (.lst ((zF (names ks)).map V.str)) H'->Q (.ref l) H'
theorem Hz:zx Zf Zf (zo rJ):=fsc
theorem M9(F:Fun K "held" "Files.held" rJ f fd)(T:Txt K mg A):zq P w K mg base CX0 true 1 f fd Zf (vU A):=by
 refine F.o Hz λS O outer s H vs Q E hr h=>?_;obtain ⟨p,b,k,t,ks,rfl,z,hl,q⟩:=h;refine {_,(W.h (zm (zA (zM (xE rfl) rfl T.UZ Tj (zd (zO T.tr T.E2 (zr 0)) ze))))),?_};obtain ⟨dx,J⟩:=z.ob;obtain ⟨kk,G,d⟩:=z.kept;erw [J,fM];refine {kk,G,by rw [d.length];exact hl,?_};rw [d.names];exact q
structure Has(A:zh)(H:Hp)(p:Addr)(t:Tab):Prop where
 ob:∃b k dx,H p=some (.ins A.zw dx (zR b k))/\dr H b t
theorem zS.has{p:Addr}{t:Tab}(h:zS A H p b k t ks):Has A H p t:=let ⟨dx,e⟩:=h.ob;⟨b,k,dx,e,h.xy.r⟩
theorem aN.has{p:Addr}{t:Tab}(h:aN A H p b k t):Has A H p t:=let ⟨dx,e⟩:=h.ob;⟨b,k,dx,e,h.xy⟩
def lu(A:zh):Sp:=λvs H Q _=>∃(p:Addr)(t:Tab),vs=[.ref p]/\Has A H p t/\∀q z k' H',zj H H'->H z=none->H k'=none->H q=none->aN A H' q z k' t->cQ H' z t->Q (.ref q) H'
theorem tO:zx Wj Zf (zo mX):=fsc
theorem Na(F:Fun K "bare" "Files.bare" mX f fd)(T:Txt K mg A)(Ze:GC P w K mg base true 1 "Files" A.zw Zf (kI A)):zq P w K mg base CX0 true 3 f fd Zf (lu A):=by
 refine F.o tO λZ2 Ar outer s H vs Q E hr h=>?_;obtain ⟨p,t,rfl,⟨b,k,dx,e1,hB⟩,q⟩:=h;refine {_,(W.h (zi (zC (i:=1) tO.nd rfl (OM rfl) (ni Ze hr rfl))
   (zi (ar T.tr T.xp (zr 1) (bJ vn rfl T.ej boot_dict (zd (zO T.tr T.xp (zr 0)) ze)))
   (zm (zA (zr 1)))))),?_}
 obtain ⟨kvs,e2,d⟩:=hB.ex;erw [e1,c8];refine λx Z H2 S=>{x,Z,rfl,S.at_,λb1 k1 H3 s3 nb nk eb ek ax ex=>{rfl,?_}};have px:∀c o,H c=some o->c≠x:=λc o e z=>by have:=S.no;rw [<- z,e] at this;cases this
 have U:∀c o,H c=some o->H3 c=some o:=λc o e=>s3 c o (px c o e) (S.same c o e);have av:=U _ _ e1;erw [av,c8];refine {_,Rd.same e2 U,λJ H4 G=>{Z,_,G.same _ _ ex,by show 2<1000;decide,?_}};have eF:zG ("births":Str) (V.ref J) (zR b1 k1)=zR J k1:=by simp only [zG,zR,if_true]
 rw [eF];have O:J≠x:=λz=>by have:=G.no;rw [z,ex] at this;cases this
 have ai:k1≠x:=λz=>by rw [z,ex] at ek;cases ek
 have sF:zj H (upd H4 x (.ins A.zw Z (zR J k1))):=λc o e=>by rw [zg (px c o e)];exact G.same _ _ (U c o e)
 have fr:∀c,H3 c=none->H c=none:=λc e=>by
  cases h:H c with
  | none=>rfl
  | some o=>rw [U c o h] at e;cases e
 have k0:H k1=none:=S.same.free nk;refine q x J k1 _ sF (fr J G.no) k0 S.no {⟨Z,zt⟩,{{kvs,.inl (by rw [zg O];exact G.at_),d.imp λv a r=>r.same sF},hB.nd},.inl (by rw [zg ai];exact G.same _ _ ek)} {{kvs,by rw [zg O];exact G.at_,d.imp λv a r=>r.same sF},hB.nd}
theorem mI{α:Type}{t:List (Str×α)}{a:α}{p:Str×α}(h:p∈zN t n a):p∈t\/p=(n,a):=by
 unfold zN at h;split at h
 .obtain ⟨q,z,e⟩:=Po.mp h;by_cases c:q.1=n
  .rw [if_pos c] at e;right;rw [<- e,c]
  .rw [if_neg c] at e;left;rw [<- e];exact z
 .rcases Pi.mp h with h|h
  .exact .inl h
  .exact .inr (by simpa using h)
def tQ(A:zh)(H:Hp)(k c:Addr):Prop:=∀kvs,H k=some (.dK kvs)->∀pv∈kvs,∀q z k' dx,pv.2 = .ref q->H q=some (.ins A.zw dx (zR z k'))->z≠c/\k'≠c
theorem tP{b k z k':Addr}(h:zR b k=zR z k'):b=z/\k=k':=by
 unfold zR at h;injection h with h1 h2
 injection h1 with _ h1
 injection h2 with h2 _
 injection h2 with _ h2
 injection h1 with h1
 injection h2 with h2
 exact ⟨h1,h2⟩
noncomputable def yE(A:zh):Sp:=λvs H Q _=>∃(p b k:Addr)(t:Tab)(ks:List (Str×Tab))(n:Str)(q:Addr)(u:Tab),vs=[.ref p,.str n,.ref q]/\zS A H p b k t ks/\Has A H q u/\ks.length<=4000/\∀H',But k H H'->zS A H' p b k t (zN ks n u)->(∀c,H c≠none->tQ A H k c->tQ A H' k c)->Q .non H'
theorem LM:zx Wv Wv (zo nH):=fsc
theorem Hr(F:Fun K "keep" "Files.keep" nH f fd)(T:Txt K mg A)(ZR:GM P w K mg base true 3 A.zw "bare" Zf (lu A)):zq P w K mg base CX0 true 4 f fd Wv (yE A):=by
 refine F.o LM λZ2 Ar outer s H vs Q E hr h=>?_;obtain ⟨p,b,k,t,ks,n,qa,u,rfl,Z,hQ,kl,q⟩:=h;refine {_,(W.h (zm (iP (zZ (zr 2) T.tr ZR hr) (iI (zO T.tr T.E2 (zr 0)) (zr 1) (wN (bB hr)))))),?_};obtain ⟨dx,e1⟩:=Z.ob;obtain ⟨bq,kq,a9,a7,_⟩:=hQ.ob;erw [a7,mY];refine {qa,u,rfl,hQ,λx b' k' H1 s1 nb nk nx hB _=>?_};have F1:=Z.same s1;obtain ⟨Xn,WL⟩:=F1.ob;obtain ⟨kk,e2,d⟩:=F1.kept;obtain ⟨bf,eb,_⟩:=Z.xy.ex;obtain ⟨ba,ek,_⟩:=Z.kept;erw [WL,fM];refine {_,e2,by rw [Bj,d.length];exact O7 kl 'd',?_};rw [sP];have ne:∀c o,H c=some o->∀e,H e=none->e≠c:=λc o h e he z=>by rw [z,h] at he;cases he
 have r:cR A H1 b k (.ref x) u:={x,b',k',rfl,hB,ne _ _ eb _ nb,ne _ _ ek _ nb,ne _ _ eb _ nk,ne _ _ ek _ nk};refine q _ (λc o nc e=>by rw [zg nc];exact s1 _ _ e) (F1.fw But.upd zt ((d.put n r).imp λv a r=>r.but But.upd e2) (jR Z.ef)) λc hc av kvs hk pv ax q1 b1 k1 Xn U J=>?_;rw [zt] at hk;cases hk;have qk:q1≠k:=λz=>by rw [z,zt] at J;cases J
 rw [zg qk] at J;unfold sk at ax;obtain ⟨aI,a0,rfl⟩:=Po.mp ax;have U:aI.2 = .ref q1:=U;rcases mI a0 with h|rfl
 .obtain ⟨S,ai,a6⟩:=Z.kept;have:=s1 _ _ ai;rw [e2] at this;have a5:S.map (·.2)=kk.map (·.2):=by
   have h2:sk S=sk kk:=by injection this with this;injection this with this;exact this.symm
   have h3:=congrArg (List.map (·.2)) h2;unfold sk at h3;rw [QN,QN] at h3;exact h3
  have hm:aI.2∈S.map (·.2):=by rw [a5];exact Po.mpr {_,h,rfl}
  obtain ⟨pw,a4,aT⟩:=Po.mp hm;obtain ⟨j,hj,ej⟩:=RF a4;obtain ⟨a2,_,q2,b2,k2,a3,a8,_⟩:=Dct.at a6 (Os hj);rw [ej,aT,U] at a3;cases a3;obtain ⟨XQ,O⟩:=a8.ob;have G:=s1 _ _ O;rw [J] at G;injection G with G
  injection G with _ _ G
  obtain ⟨r1,r2⟩:=tP G;subst r1 r2;exact av _ ai _ (by unfold sk;exact Po.mpr {pw,a4,rfl}) q1 b1 k1 XQ (show pw.2=_ by rw [aT,U]) O
 .have U:V.ref x = .ref q1:=U;cases U;obtain ⟨XQ,O⟩:=hB.ob;rw [J] at O;injection O with O
  injection O with _ _ O
  obtain ⟨r1,r2⟩:=tP O;subst r1 r2;exact {λz=>hc (by rw [<- z];exact nb),λz=>hc (by rw [<- z];exact nk)}
noncomputable def xG(A:zh):Sp:=λvs H Q _=>∃(p b k:Addr)(t:Tab)(ks:List (Str×Tab))(n:Str)(u:Tab),vs=[.ref p,.str n]/\bW A H p b k t ks/\look ks n=some u/\∀q z k' H',zj H H'->H z=none->H k'=none->H q=none->aN A H' q z k' u->cQ H' z u->Q (.ref q) H'
theorem EI:zx WC WC (zo om):=fsc
theorem FM(F:Fun K "of_held" "Files.of_held" om f fd)(T:Txt K mg A)(ZP:GM P w K mg base true 1 A.zw V1 WC (w9 A))(ZR:GM P w K mg base true 3 A.zw "bare" Zf (lu A)):zq P w K mg base CX0 true 4 f fd WC (xG A):=by
 refine F.o EI λZ2 Ar outer s H vs Q E hr h=>?_;obtain ⟨p,b,k,t,ks,n,u,rfl,O,G,q⟩:=h;refine {_,(W.h (zi (ae (cn (zr 0) T.tr ZP hr (zd (zr 1) ze)))
   (zm (zA (zZ (aW (mH (bB hr)) (zO T.tr T.E2 (zr 0)) (zr 1) (λ_ _=>rfl)) T.tr ZR hr))))),?_}
 obtain ⟨dx,U⟩:=O.ob;obtain ⟨kk,e2,d⟩:=O.kept;erw [U,fM,wD];refine {p,b,k,t,ks,n,rfl,O,by rw [G];rfl,?_};erw [U,fM,wD];refine {_,e2,?_};rcases d.look n with ⟨v,u',d1,z,x,b',k',ev,Z,_⟩|⟨_,z⟩
 .rw [G] at z;cases z;subst ev;obtain ⟨J,S⟩:=Z.ob;refine {.ref x,by rw [fP];exact d1,x,rfl,J,_,S,mY,x,u,rfl,Z.has,q}
 .rw [G] at z;cases z
theorem Oc(a b:Str):leS a b\/leS b a:=by
 unfold leS;rw [ltCps_eq,ltCps_eq];by_cases h:Q5.blt b.cps.toList a.cps.toList=true
 .exact .inr (KeyOrd.klt_asymm (O:=Q5.toKeyOrd) h)
 .exact .inl (by simpa using h)
theorem LK{b:Str}(h1:leS a b)(h2:leS b c):leS a c:=by
 unfold leS at *
 rw [ltCps_eq] at *
 exact KeyOrd.kle_trans (O:=Q5.toKeyOrd) h1 h2
theorem xt(x:Str):∀l:List Str,l.Pairwise leS->∃m:List Str,m.Perm (x::l)/\m.Pairwise leS
 | [],_=>{[x],Uj.refl _,'z'}
 | y::l,h=>by
  rcases Oc x y with hx|hx
  .refine {x::y::l,Uj.refl _,PX.mpr {λz hz=>?_,h}};rcases OL.mp hz with rfl|hz
   .exact hx
   .exact LK hx ((PX.mp h).1 z hz)
  .obtain ⟨m,p,F⟩:=xt x l (PX.mp h).2;refine {y::m,(Uj.cons y p).trans (Uj.swap x y l),PX.mpr {λz hz=>?_,F}};rcases OL.mp (p.mem_iff.mp hz) with rfl|hz
   .exact hx
   .exact (PX.mp h).1 z hz
theorem AR:∀ks:List Str,∃z:List Str,z.Perm ks/\z.Pairwise leS
 | []=>{[],Uj.refl _,.nil}
 | x::ks=>by
  obtain ⟨z,p,h⟩:=AR ks;obtain ⟨m,p2,h2⟩:=xt x z h;exact {m,p2.trans (Uj.cons x p),h2}
theorem bR(ks:List Str):(zF ks).Perm ks/\(zF ks).Pairwise leS:=by
 obtain ⟨z,p,h⟩:=AR ks;have e:=xX p (sortedS_of_pairwise z h);rw [<- e];exact ⟨p,h⟩
theorem aN.files{t:Tab}(h:aN A H q b k t):bW A H q b k t []:={h.ob,h.xy,{[],h.kept,.nil},by simp [names]}
end
abbrev iV:Stmt:=zP (top 54) 10
theorem FS.freeze{d:Addr}{o:Obj}(e:H d=some (.dK kvs)):FS H (upd H d (.frz o (.dK kvs))):=by
 refine {λa u n m h=>?_,λa xs r=>?_}
 .rw [zg (λz=>by subst z;rw [e] at h;cases h;exact n _ rfl)];exact h
 .by_cases z:a=d
  .subst z;rcases r with r|⟨o',r⟩
   .rw [e] at r;cases r;exact .inr ⟨o,zt⟩
   .rw [e] at r;cases r
  .unfold Rd;rw [zg z];exact r
theorem FS.eH{d:Addr}{o:Obj}(e:H d=some (.frz o (.dK kvs))):FS H (upd H d (.dK kvs)):=by
 refine {λa u n m h=>?_,λa xs r=>?_}
 .rw [zg (λz=>by subst z;rw [e] at h;cases h;exact m _ _ rfl)];exact h
 .by_cases z:a=d
  .subst z;rcases r with r|⟨o',r⟩
   .rw [e] at r;cases r
   .rw [e] at r;cases r;exact .inl zt
  .unfold Rd;rw [zg z];exact r
theorem gB{α β:Type}{R:α->β->Prop}{z J:List α}{G F:List β}(h1:Paired R z G)(h2:Paired R J F):Paired R (z++J) (G++F):=by
 induction h1 with
 | nil=>exact h2
 | cons r _ O=>exact .cons r O
noncomputable def aA(t:Tab):List Int:=t.flatMap (·.2)
noncomputable def aJ(t:Tab)(ks:List (Str×Tab)):List Int:=aA t++ks.flatMap λp=>aA p.2
section
variable {P:OF}{w:OS}{K:Frag}{mg:Str->Option Value}{base:Heap}{A:zh}
def rA(H:Hp)(v:V)(t:Tab):Prop:=∃b,v = .ref b/\dr H b t
theorem HJ:ns.length<=(ak ns n).length:=by
 unfold ak;split
 .exact Ov _
 .simp
theorem mG:∀{l ns:List Int},ns.length<=(l.foldl ak ns).length
 | [],ns=>Ov _
 | n::l,ns=>Pt (HJ (n:=n)) (mG (l:=l) (ns:=ak ns n))
theorem GW{l ns:List Int}:((l.take i).foldl ak ns).length<=(l.foldl ak ns).length:=by
 have h:=mG (l:=l.drop i) (ns:=(l.take i).foldl ak ns);rw [<- Rj,Q8] at h;exact h
theorem C5{l ns:List Int}(h:l[i]?=some n):(l.take (i+1)).foldl ak ns=ak ((l.take i).foldl ak ns) n:=by
 rw [Pz,h,Rj];rfl
theorem LN{l:List Int}(h:F a=some (.tup (l.map V.int)))(few:(l.foldl ak ns).length<3000)(hN:∀z',N [x,y,z'] (l.foldl ak ns) F):
  cW (Itt K a) (cE 2) (gX (dX 2)) [x,y,z] ns F N:=by
 refine cW.tup (xs:=l.map V.int) (λi τ G H'=>H'=F/\(∃z',τ=[x,y,z'])/\G=(l.take i).foldl ak ns) (λi τ ns H ⟨e,_⟩=>e ▸ .inl (.inl h)) {rfl,{z,rfl},rfl} ?_ ?_
 .rintro N' i v τ G H' hv ⟨rfl,⟨z',rfl⟩,rfl⟩ J;rw [O0] at hv;obtain ⟨n,O,rfl⟩:=Pf.mp hv;ac_rfl;exact {O7 GW few,J _ _ _ {rfl,{_,rfl},(C5 O).symm}}
 .rintro τ G H' ⟨rfl,⟨z',rfl⟩,rfl⟩;rw [OA,O4 (Ov _)];exact hN z'
theorem Bd{u:Tab}{p:Str×List Int}(h:u[i]?=some p):aA (u.take (i+1))=aA (u.take i)++p.2:=by
 unfold aA;rw [Pz,h,Sb];simp
theorem Dp:∃r,aA u=aA (u.take i)++r:={aA (u.drop i),by unfold aA;rw [<- Sb,Q8]}
theorem xK{d:Addr}{o:Obj}(h:G d=some (.frz o (.dK (sk kvs))))(U:Dct (cw G) kvs u)(few:((aA u).foldl ak ns).length<3000)(hN:∀F z',N [x,F,z'] ((aA u).foldl ak ns) G):
  cW (Itw d o (sk kvs)) (cE 1) (gR (jI K (dX 1)) (cE 2) (gX (dX 2))) [x,y,z] ns G N:=by
 have hl:=U.length;refine cW.vals (λi τ S H'=>H'=G/\(∃F z',τ=[x,F,z'])/\S=(aA (u.take i)).foldl ak ns) (λi τ ns H ⟨e,_⟩=>e ▸ h) {rfl,{y,z,rfl},rfl} ?_ ?_
 .rintro N' i p τ S H' hp ⟨rfl,⟨F,z',rfl⟩,rfl⟩ O;obtain ⟨pv,J,rfl⟩:∃pv,kvs[i]?=some pv/\p=(.inr pv.1,pv.2):=by
   unfold sk at hp;rw [O0] at hp;obtain ⟨pv,e1,Z⟩:=Pf.mp hp;exact ⟨pv,e1,Z.symm⟩
  obtain ⟨l,W,a,ea,ha⟩:=Dct.at U J;erw [ea];have fw:(l.foldl ak ((aA (u.take i)).foldl ak ns)).length<3000:=by
   have hs:=Bd W;rw [<- Rj,<- hs];obtain ⟨r,e⟩:=Dp (u:=u) (i:=i+1);rw [e,Rj] at few;exact O7 mG few
  refine {{_,.inl (.inl ha)},LN ha fw λz2=>O _ _ _ {rfl,{_,_,rfl},?_}};have hs:=Bd W;rw [<- Rj,<- hs]
 .rintro τ S H' ⟨rfl,⟨F,z',rfl⟩,rfl⟩;have e:(sk kvs).length=u.length:=by rw [<- hl];simp [sk]
  rw [e,O4 (Ov _)];exact hN F z'
structure LvI(Hf:Hp)(k:Addr)(o:Obj)(kk:List (Str×V))(ks:List (Str×Tab))(i:Nat)(τ:L2.St)(ys:List V)(H':Hp):Prop where
 ex:∃t1,τ=[t1]
 ys:Paired (rA Hf) ys ((ks.take i).map (·.2))
 same:zj Hf H'
structure OuI(H4:Hp)(us:List Tab)(i:Nat)(τ:L2.St)(ns:List Int)(H':Hp):Prop where
 ex:∃x y z,τ=[x,y,z]
 ns:ns=((us.take i).flatMap aA).foldl ak []
 same:zj H4 H'
noncomputable def oB(A:zh):Sp:=λvs H Q _=>∃(p b k:Addr)(t:Tab)(ks:List (Str×Tab)),vs=[.ref p]/\zS A H p b k t ks/\(uniq (aJ t ks)).length<64/\ks.length<=4000 /\
 ∀l (ns:List Int) H',zj H H'->H l=none->H' l=some (.lst (ns.map V.int))->ns.Perm (uniq (aJ t ks))->ns.Pairwise (·<=·)->Q (.ref l) H'
theorem wQ:zx ["self","tables"] Zf (zo iV):=fsc
theorem IT:bM { kind:=.function,names:=[(Ox ".0",.local),(Ox "files",.local)],isGenerator:=false,isCoroutine:=false,more:=[] } (zo iV).names ["self","tables"] Wp [none]=true:=by decide +kernel
theorem BH:(Wp:List Str).Nodup:=by decide +kernel
theorem KF:bM { kind:=.function,names:=[(Ox ".0",.local),(Ox "table",.local),(Ox "births",.local),(Ox "birth",.local)],isGenerator:=false,isCoroutine:=false,more:=[] } (zo iV).names ["self","tables"] ["table","births",V5] [none,none,none]=true:=by decide +kernel
theorem qJ:(["table","births",V5]:List Str).Nodup:=by decide +kernel
theorem NA(F:Fun K "living" "Files.living" iV f fd)(T:Txt K mg A):zq P w K mg base CX0 true 1 f fd Zf (oB A):=by
 refine F.o wQ λZ2 Ar outer s H vs Q E hr h=>?_;obtain ⟨p,b,k,t,ks,rfl,hF,av,hk,q⟩:=h;refine {_,(W.h (zi (zC (i:=1) wQ.nd rfl (OM rfl) (zX nB (aq (zd (zO T.tr T.xp (zr 0)) ze)) (B1 (fe (λ_=>rfl) (ay.of IT) (Ab (zO T.tr T.E2 (zr 0))) (λ_ _ _ _ _=>(zJ (i:=0) BH rfl (OM rfl))) (λ_ _ _ _ _=>cY) (λ_ _ _ _ _=>(zO T.tr T.xp (zr 0)))))))
   (zm (zA (zM (Gk rfl) rfl T.UZ Tj (zd (J9 (λ_=>rfl) (λ_=>rfl) (λ_=>rfl) (ay.of KF) (cJ (zr 1)) (λ_ _ _ _ _=>(zJ (i:=0) qJ rfl (OM rfl))) (λ_ _ _ _ _=>(Ab (zr 0))) (λ_ _ _ _ _=>(zJ (i:=1) qJ rfl (OM rfl))) (λ_ _ _ _ _=>(IG (zr 1))) (λ_ _ _ _ _=>(zJ (i:=2) qJ rfl (OM rfl))) (λ_ _ _ _ _=>(zr 2))) ze)))))),?_}
 obtain ⟨dx,U⟩:=hF.ob;obtain ⟨kk,Z,d⟩:=hF.kept;erw [U,c8,fM];refine {'d',λlb H1 J bf=>{k,sk kk,J.same _ _ Z,λo=>?_}};have pk:p≠k:=λz=>by rw [z,Z] at U;cases U
 have hf:upd H1 k (.frz o (.dK (sk kk))) p=some (.ins A.zw dx (zR b k)):=by rw [zg pk];exact J.same _ _ U
 have fs:FS H (upd H1 k (.frz o (.dK (sk kk)))):=(FS.of J.same).trans (.freeze (J.same _ _ Z));erw [hf,fM];refine {o,sk kk,zt,aQ.vals (LvI (upd H1 k (.frz o (.dK (sk kk)))) k o kk ks) (λi τ ys H' I=>?_) (λi τ ys H' I=>I.same _ _ zt) {{_,rfl},by rw [take_zero];exact .nil,zj.refl _} ?_ ?_}
 .have:=I.ys.length;have h2:=Ro i ks;rw [OA] at this;exact O7 (show ys.length<=4000 by lia) 'd'
 .intro N i pv τ ys H' hp I hN;obtain ⟨t1,rfl⟩:=I.ex;obtain ⟨qv,a4,rfl⟩:∃qv,kk[i]?=some qv/\pv=(.inr qv.1,qv.2):=by
   unfold sk at hp;rw [O0] at hp;obtain ⟨pv,U,Z⟩:=Pf.mp hp;exact ⟨pv,U,Z.symm⟩
  obtain ⟨u,hu,q1,b1,k1,a6,hB,a8,ba,_⟩:=Dct.at d a4;have ax:=hB.fs fs;obtain ⟨Xn,WL⟩:=ax.ob;have aT:=I.same _ _ WL;erw [a6,aT,c8];refine hN _ _ _ {{_,rfl},?_,I.same};rw [Pz,hu,PN];exact gB I.ys (.cons {b1,rfl,ax.xy} .nil)
 .intro τ ys H' I D H2 n2;have hz:H2 k=some (.frz o (.dK (sk kk))):=n2.same _ _ (I.same _ _ zt);refine {o,hz,?_};have a0:=J.same _ _ Z;have s3:zj H1 (upd H2 k (.dK (sk kk))):=λc u O=>by
   by_cases z:c=k
   .subst z;rw [a0] at O;cases O;exact zt
   .rw [zg z];exact n2.same _ _ (I.same _ _ (by rw [zg z];exact O))
  have Dk:D≠k:=λz=>by have:=n2.no;rw [z,I.same _ _ zt] at this;cases this
  have hD:upd H2 k (.dK (sk kk)) D=some (.lst ys):=by rw [zg Dk];exact n2.at_
  have aI:=s3 _ _ J.at_;have a7:FS (upd H1 k (.frz o (.dK (sk kk)))) (upd H2 k (.dK (sk kk))):=((FS.of I.same).trans (FS.of n2.same)).trans (.eH hz);have py:Paired (rA (upd H2 k (.dK (sk kk)))) ys (ks.map (·.2)):=by
   have:=I.ys;rw [show (sk kk).length=ks.length by rw [<- d.length];simp [sk],O4 (Ov _)] at this;exact Paired.UN this λv t ⟨b,e,hb⟩=>{b,e,hb.fs a7}
  have ai:dr (upd H2 k (.dK (sk kk))) b t:=hF.xy.r.fs ((FS.of J.same).trans (.of s3));generalize upd H2 k (.dK (sk kk))=H3 at s3 hD aI py ai;ac_rfl;have ly:=py.length;rw [OA] at ly;refine {[.ref b],aI,ys,hD,by rw [QT];exact Pt (show 1+ys.length<=4001 by lia) 'd',λtl H4 n4=>{{_,.inl (.inl n4.at_)},?_}};have G:Paired (rA H4) ([.ref b]++ys) (t::ks.map (·.2)):=.cons {b,rfl,ai.fs (.of n4.same)} (Paired.UN py λv t ⟨b,e,hb⟩=>{b,e,hb.fs (.of n4.same)});have eU:(t::ks.map (·.2)).flatMap aA=aJ t ks:=by
   unfold aJ;rw [List.flatMap_cons,List.flatMap_map]
  have S:=G.length;generalize a9:t::ks.map (·.2)=us at G eU S;refine cW.lst (xs:=[.ref b]++ys) (OuI H4 us) (λi τ ns H' I=>.inl (.inl (I.same _ _ n4.at_))) {{_,_,_,rfl},rfl,zj.refl _} ?_ ?_
  .intro N i v τ ns H' hv I hN;obtain ⟨x,y,z,rfl⟩:=I.ex;have hi:i<us.length:=by rw [<- S];exact (OJ.mp hv).1
   have hu:us[i]?=some us[i]:=Os hi;obtain ⟨bi,rfl,hb⟩:=dI G hv hu;have XJ:=hb.fs (.of I.same);obtain ⟨kvs,a3,dc⟩:=XJ.ex;have es:(aA us[i]).foldl ak ns=((us.take (i+1)).flatMap aA).foldl ak []:=by
    rw [I.ns,<- Rj,Pz,hu,Sb];simp
   have few:((aA us[i]).foldl ak ns).length<3000:=by
    rw [es];have h1:=mG (l:=(us.drop (i+1)).flatMap aA) (ns:=((us.take (i+1)).flatMap aA).foldl ak []);rw [<- Rj,<- Sb,Q8,eU] at h1;exact O7 h1 (Q6 av 'd')
   ac_rfl;rcases a3 with e|⟨o',e⟩
   .refine .inr {bi,sk kvs,e,λo'=>{o',sk kvs,zt,xK zt (dc.imp λv l ⟨a,ea,ha⟩=>{a,ea,by rw [zg (λz=>by rw [z,e] at ha;cases ha)];exact ha}) few λy' z'=>{o',zt,hN _ _ _ {{_,_,_,rfl},es,λc u O=>?_}}}};by_cases zc:c=bi
    .subst zc;have:=I.same _ _ O;rw [e] at this;cases this;exact zt
    .rw [zg zc,zg zc];exact I.same _ _ O
   .exact .inl {o',sk kvs,e,xK e dc few λy' z'=>hN _ _ _ {{_,_,_,rfl},es,I.same}}
  .intro τ ns H' I D' a5 _;have en:ns=uniq (aJ t ks):=by
    rw [I.ns,S,O4 (Ov _),eU];rfl
   subst en;refine {_,zt,av,λl Yi H5 n5 pm so=>?_};have sA:∀{o:HO},zj H (upd H' D' o):=λ{o} c u O=>by
    have h1:=I.same _ _ (n4.same _ _ (s3 _ _ (J.same _ _ O)));rw [zg (λz=>by rw [z,a5] at h1;cases h1)];exact h1
   exact q l Yi H5 (sA.trans n5.same) (sA.free n5.no) n5.at_ pm so
end
abbrev qr:Stmt:=zP (top 54) 11
abbrev kL:Stmt:=zP (top 62) 0
abbrev oO:Stmt:=zP (top 62) 1
abbrev lR:Stmt:=zP (top 62) 2
abbrev o3:Stmt:=zP (top 62) 4
abbrev o6:Stmt:=zP (top 62) 5
noncomputable def k7{α:Type}(l:List (Int×α))(n:Int)(a:α):List (Int×α):=if n∈l.map (·.1) then l.map (λp=>if p.1=n then (p.1,a) else p) else l++[(n,a)]
theorem vJ:((ik kvs).any λz=>decide (z.1=(.inl n:Key)))=true↔n∈kvs.map (·.1):=by
 unfold ik;rw [List.any_map,List.any_eq_true];constructor
 .rintro ⟨p,hp,h⟩;have h:(Sum.inl p.1:Key) = .inl n:=of_decide_eq_true h;cases h;exact Po.mpr {p,hp,rfl}
 .intro h;obtain ⟨p,hp,rfl⟩:=Po.mp h;exact {p,hp,'z'}
theorem yx:aU (ik kvs) (.inl n) v=ik (k7 kvs n v):=by
 unfold aU k7;by_cases h:n∈kvs.map (·.1)
 .rw [if_pos (vJ.mpr h),if_pos h];unfold ik;rw [QN,QN];refine Qk λp _=>?_;show (if (Sum.inl p.1:Key) = .inl n then _ else _)=_;by_cases e:p.1=n
  .rw [if_pos (by rw [e])];show _=(Sum.inl (if p.1=n then (p.1,v) else p).1,(if p.1=n then (p.1,v) else p).2);rw [if_pos e]
  .rw [if_neg (λz=>e (by cases z;rfl))];show _=(Sum.inl (if p.1=n then (p.1,v) else p).1,(if p.1=n then (p.1,v) else p).2);rw [if_neg e]
 .rw [if_neg (λz=>h (vJ.mp z)),if_neg h];unfold ik;rw [PN];rfl
theorem qm:∀{kvs:List (Int×V)},(kvs.map (·.1)).Nodup->(n,v)∈kvs->aH (ik kvs) (.inl n)=some v
 | [],_,h=>by cases h
 | p::kvs,nd,h=>by
  have F:=RV.mp nd;show aH ((Sum.inl p.1,p.2)::ik kvs) (.inl n)=_;rcases OL.mp h with e|h
  .rw [<- e];exact i6 rfl
  .have ne : ¬ (Sum.inl p.1:Key) = .inl n:=λz=>by
    cases z;exact F.1 (Po.mpr {_,h,rfl})
   rw [je ne];exact qm F.2 h
theorem t9:(ik kvs).length=kvs.length:=by simp [ik]
structure NoPart(u:HO):Prop where
 d:∀kvs,u≠.dK kvs
 f:∀o kvs,u≠.frz o (.dK kvs)
 t:∀xs,u≠.tup xs
 i:∀C dx b k,u≠.ins C dx (zR b k)
theorem IB{b k:Addr}:([]:List (Str×V))≠zR b k:=λz=>by have:=congrArg R8 z;exact absurd this (by show ¬ 0=2;decide)
theorem NoPart.fB:NoPart (.ins C dx []):={λ_ z=>(HO.noConfusion z),λ_ _ z=>(HO.noConfusion z),λ_ z=>(HO.noConfusion z),λ_ _ _ _ z=>IB (by injection z)}
theorem aN.eU{x q b k:Addr}{t:Tab}(h:aN A H q b k t)(s:But x H H')(hx:H x=some u)(F:NoPart u):aN A H' q b k t:=by
 have ne:∀{c:Addr}{o:HO},H c=some o->o≠u->H' c=some o:=λ{c o} e n=>s _ _ (λz=>n (by rw [z,hx] at e;exact (O6.inj e).symm)) e;have G:∀{c:Addr}{kvs:List (Key×V)},Rd H c (.dK kvs)->Rd H' c (.dK kvs):=λ{c kvs} r=>r.elim (λe=>.inl (ne e λz=>F.d _ z.symm)) λ⟨o,e⟩=>.inr {o,ne e λz=>F.f _ _ z.symm};obtain ⟨dx,e⟩:=h.ob;obtain ⟨kvs,J,d⟩:=h.xy.ex;exact {{dx,ne e λz=>F.i _ _ _ _ z.symm},{{kvs,G J,d.imp λv l ⟨a,ea,ha⟩=>{a,ea,ne ha λz=>F.t _ z.symm}},h.xy.nd},G h.kept}
theorem zS.eU{x p b k:Addr}{t:Tab}(h:zS A H p b k t ks)(s:But x H H')(hx:H x=some u)(F:NoPart u):zS A H' p b k t ks:=by
 have ne:∀{c:Addr}{o:HO},H c=some o->o≠u->H' c=some o:=λ{c o} e n=>s _ _ (λz=>n (by rw [z,hx] at e;exact (O6.inj e).symm)) e;obtain ⟨dx,e⟩:=h.ob;obtain ⟨kvs,U,d⟩:=h.xy.ex;obtain ⟨kk,J,S⟩:=h.kept;exact {{dx,ne e λz=>F.i _ _ _ _ z.symm},{{kvs,ne U λz=>F.d _ z.symm,d.imp λv l ⟨a,ea,ha⟩=>{a,ea,ne ha λz=>F.t _ z.symm}},h.xy.nd},{kk,ne J λz=>F.d _ z.symm,S.imp λv u ⟨q,O,k',G,r,n⟩=>{q,O,k',G,r.eU s hx F,n}},h.ef,h.ne}
abbrev T3:=Int×Int×Int
def fi(H:Hp)(p:Int×V)(t:T3):Prop:=p.1=t.1/\∃a,p.2 = .ref a/\H a=some (.tup [.int t.2.1,.int t.2.2])
def hG(H:Hp)(a:Addr)(t:T3):Prop:=H a=some (.tup [.int t.1,.int t.2.1,.int t.2.2])
def T3S(H:Hp)(a:Addr)(t:T3):Prop:=H a=some (.tup [.int t.1,.int t.2.1,.int t.2.2])\/H a=some (.lst [.int t.1,.int t.2.1,.int t.2.2])
structure jt(ts:List T3):Prop where
 nd:(ts.map (·.1)).Nodup
 few:ts.length<40
noncomputable def bo(f d:Addr)(n m:Int):List (Str×V):=[("own_files",.ref f),("spot_of",.ref d),("next_row",.int n),("next_mark",.int m)]
structure aS(A:zh)(H:Hp)(x fx b k d:Addr)(t:Tab)(ks:List (Str×Tab))(ts:List T3)(n m:Int):Prop where
 ob:∃dx,H x=some (.ins A.State dx (bo fx d n m))
 files:zS A H fx b k t ks
 eb:∃kvs,H d=some (.dK (ik kvs))/\Paired (fi H) kvs ts
 ok:jt ts
theorem fi.keep{p:Int×V}{t:T3}(h:fi H p t)(k:∀r xs,H r=some (.tup xs)->H' r=some (.tup xs)):fi H' p t:=let ⟨e,a,e2,e3⟩:=h;{e,a,e2,k _ _ e3}
theorem aS.same{x z b k d:Addr}{t:Tab}(h:aS A H x z b k d t ks ts n m)(s:zj H H'):aS A H' x z b k d t ks ts n m :=
 let ⟨dx,e⟩:=h.ob;let ⟨kvs,e2,p⟩:=h.eb;{{dx,s _ _ e},h.files.same s,{kvs,s _ _ e2,Paired.UN p λ_ _ r=>r.keep λ_ _ e=>s _ _ e},h.ok}
theorem jP(h:Paired (fi H) kvs ts):kvs.map (·.1)=ts.map (·.1):=by
 induction h with
 | nil=>rfl
 | cons r _ z=>rw [PY,PY,z,r.1]
section
variable {P:OF}{w:OS}{K:Frag}{mg:Str->Option Value}{base:Heap}{A:zh}{b k f d:Addr}{n m:Int}
theorem E3:(bo f d n m).lookup ("own_files":Str)=some (.ref f):=by simp only [bo,PL,beq_self_eq_true]
theorem vW:(bo f d n m).lookup ("spot_of":Str)=some (.ref d):=by simp only [bo,PL,beq_self_eq_true,IS]
theorem Ff:(bo f d n m).lookup ("next_row":Str)=some (.int n):=by simp only [bo,PL,beq_self_eq_true,EW,HU]
theorem Eb:(bo f d n m).lookup ("next_mark":Str)=some (.int m):=by simp only [bo,PL,beq_self_eq_true,Cm,Fj,Br]
theorem vy:(bo f d n m).lookup (VN:Str)=none:=by simp only [bo,PL,Gs,Ia,FU,LD]
theorem i8:(bo f d n m).lookup (V8:Str)=none:=by simp only [bo,PL,KW,Lv,Jy,Ii]
theorem ib:(bo f d n m).lookup (V9:Str)=none:=by simp only [bo,PL,DB,Lq,Cw,Js]
theorem gO:(bo f d n m).lookup (Wb:Str)=none:=by simp only [bo,PL,GG,Kg,IY,Kr]
def nj(A:zh):Sp:=λvs H Q _=>∃(p b k:Addr)(t:Tab)(ks:List (Str×Tab)),vs=[.ref p]/\zS A H p b k t ks /\
 ∀q z k' H',zj H H'->H q=none->H z=none->H k'=none->zS A H' q z k' t ks->H' k'=H k->Q (.ref q) H'
theorem Aa:zx Wj Zf (zo qr):=fsc
theorem CW{f:Addr}(F:Fun K VY "Files.copied" qr f fd)(T:Txt K mg A)(ZR:GM P w K mg base true 3 A.zw "bare" Zf (lu A)):zq P w K mg base CX0 true 4 f fd Zf (nj A):=by
 refine F.o Aa λZ2 Ar outer s H vs Q E hr h=>?_;obtain ⟨p,b,k,t,ks,rfl,hF,q⟩:=h;refine {_,(W.h (zi (zC (i:=1) Aa.nd rfl (OM rfl) (zZ (zr 0) T.tr ZR hr))
   (zi (ar T.tr T.E2 (zr 1) (bJ vn rfl T.ej boot_dict (zd (zO T.tr T.E2 (zr 0)) ze)))
   (zm (zA (zr 1)))))),?_}
 obtain ⟨dx,e1⟩:=hF.ob;erw [e1,mY];refine {p,t,rfl,hF.has,λx U k' H1 s1 nb nk nx hB aI=>?_};obtain ⟨Xn,G⟩:=hB.ob;have F1:=hF.same s1;obtain ⟨WU,a0⟩:=F1.ob;obtain ⟨ax,Z,d0⟩:=hF.kept;have e2:=s1 _ _ Z;erw [a0,fM];refine {_,.inl e2,λkd H2 J=>{Xn,_,J.same _ _ G,by show 2<1000;decide,?_}};have eF:zG ("kept":Str) (V.ref kd) (zR U k')=zR U kd:=by simp only [zG,zR,yL,if_false,if_true]
 rw [eF];have px:∀c o,H c=some o->c≠x:=λc o e=>zz e nx;have sA:zj H (upd H2 x (.ins A.zw Xn (zR U kd))):=λa o e=>by rw [zg (px a o e)];exact J.same _ _ (s1 _ _ e)
 have ai:kd≠x:=λz=>by have:=J.no;rw [z,G] at this;cases this
 have bx:U≠x:=λz=>by obtain ⟨kvs,er,_⟩:=hB.xy.ex;rw [z] at er;rcases er with e|⟨o,e⟩ <;> · rw [G] at e;cases e
 have O:H kd=none:=s1.free J.no;obtain ⟨kvs,eb,dd⟩:=aI.ex;have aT:U≠kd:=λz=>by have:=J.no;rw [<- z,eb] at this;cases this
 refine q x U kd _ sA nx nb O {⟨Xn,zt⟩,{{kvs,by rw [zg bx];exact J.same _ _ eb,dd.imp λv l ⟨a,ea,ha⟩=>{a,ea,by rw [zg (λz=>by rw [z,G] at ha;cases ha)];exact J.same _ _ ha}},hB.xy.nd},{ax,by rw [zg ai];exact J.at_,d0.imp λv u r=>?_},hF.ef,aT} (by rw [zg ai,J.at_,Z]);obtain ⟨q1,b1,k1,ev,S,_⟩:=r;have hh:=S.same sA;obtain ⟨a3,av,_⟩:=S.xy.ex;have live:∀{c:Addr}{u:HO},Rd H c u->∃o,H c=some o:=λh=>h.elim (λe=>{_,e}) λ⟨o,e⟩=>{_,e};obtain ⟨o1,l1⟩:=live av;obtain ⟨o2,l2⟩:=live S.kept;exact {q1,b1,k1,ev,hh,zz l1 nb,zz l1 O,zz l2 nb,zz l2 O}
structure DcI(H:Hp)(ts:List T3)(i:Nat)(τ:L2.St)(ys:List (Key×V))(H':Hp):Prop where
 ex:∃t1 t2 t3,τ=[t1,t2,t3]
 ys:∃kvs,ys=ik kvs/\Paired (fi H') kvs (ts.take i)
 same:zj H H'
def kC(A:zh):Sp:=λvs H Q _=>∃(x p b k sl dx:Addr)(n m:Int)(t:Tab)(ks:List (Str×Tab))(as:List Addr)(ts:List T3),vs=[.ref x,.ref p,.ref sl,.int n,.int m]/\H x=some (.ins A.State dx [])/\zS A H p b k t ks/\(H sl=some (.lst (as.map V.ref))\/H sl=some (.tup (as.map V.ref)))/\Paired (T3S H) as ts/\jt ts /\
 ∀F z k' d H',But x H H'->H F=none->H z=none->H k'=none->H d=none->aS A H' x F z k' d t ks ts n m->H' k'=H k->Q .non H'
theorem Me:zx Y9 Y9 (zo kL):=fsc
theorem Iw:bM { kind:=.function,names:=[(Ox ".0",.local),(Ox "birth",.local),(Ox "stretch",.local),(Ox "place",.local)],isGenerator:=false,isCoroutine:=false,more:=[] } (zo kL).names Y9 Xy [none,none,none]=true:=by decide +kernel
theorem qo:(Xy:List Str).Nodup:=by decide +kernel
theorem JH{f:Addr}(F:Fun K Wc "State.__init__" kL f fd)(T:Txt K mg A)(ZL:GM P w K mg base true 4 A.zw VY Zf (nj A)):zq P w K mg base CX0 true 5 f fd Y9 (kC A):=by
 refine F.o Me λZ2 Ar outer s H vs Q E hr h=>?_;obtain ⟨x,p,b,k,sl,dx,n,m,t,ks,as,ts,rfl,hx,hF,hs,hp,ok,q⟩:=h;refine {_,(W.h (zi (ar T.zk T.UF (zr 0) (zZ (zr 1) T.tr ZL hr))
   (zi (ar T.zk T.UA (zr 0) (w8 (λ_=>rfl) (ay.of Iw) (KD (zr 2)) (λ_ _ _ _ _=>(Ny rfl (n:=3) (aM (zJ (i:=0) qo rfl (OM rfl)) (aM (zJ (i:=1) qo rfl (OM rfl)) (aM (zJ (i:=2) qo rfl (OM rfl)) eG))))) (λ_ _ _ _ _=>cY) (λ_ _ _ _ _=>(zr 0)) (λ_ _ _ _ _=>(dN (zd (zr 1) (zd (zr 2) ze))))))
   (zi (ar T.zk T.UJ (zr 0) (zr 3))
   (zm (ar T.zk T.UG (zr 0) (zr 4))))))),?_}
 obtain ⟨a5,e1⟩:=hF.ob;erw [e1,vH];refine {p,b,k,t,ks,rfl,hF,λJ b1 k1 H1 s1 nq nb nk ai aT=>{dx,[],s1 _ _ hx,'d',?_}};have G:∀{o:HO}{r:Addr}{u:HO},(∀C dx fs,u≠.ins C dx fs)->H1 r=some u->upd H1 x o r=some u:=λ{o r u} hu e=>by rw [zg (λz=>by rw [z,s1 _ _ hx] at e;exact hu _ _ _ (O6.inj e).symm)];exact e
 have ZO:=cH hp;have hz:∀i τ ys H',DcI (upd H1 x (.ins A.State dx (zG "own_files" (V.ref J) []))) ts i τ ys H'->ys.length<sizeLine:=λi τ ys H' I=>by
  obtain ⟨kvs,e,S⟩:=I.ys;have:=cH S;have h2:=Ro i ts;have:=ok.few;rw [e,t9];exact cG 'l'
 have step:∀(N:L2.St->List (Key×V)->Hp->Prop) i v τ ys H',(as.map V.ref)[i]?=some v->DcI (upd H1 x (.ins A.State dx (zG "own_files" (V.ref J) []))) ts i τ ys H'->(∀τ ys H,DcI (upd H1 x (.ins A.State dx (zG "own_files" (V.ref J) []))) ts (i+1) τ ys H->N τ ys H) ->
   gSq K 3 (g7 (cE 0) (g7 (cE 1) (g7 (cE 2) oZ))) v τ H' λU H4=>km U H4 λok H5=>jd N ys U (dX 0) (pZ (d9 (dX 1) (d9 (dX 2) bV))) ok H5:=by
  intro N i v τ ys H' hv I hN;obtain ⟨t1,t2,t3,rfl⟩:=I.ex;obtain ⟨kvs,e,S⟩:=I.ys;rw [O0] at hv;obtain ⟨a,ha,rfl⟩:=Pf.mp hv;have hi:i<ts.length:=by rw [<- ZO];exact (OJ.mp ha).1
  have Xm:ts[i]?=some ts[i]:=Os hi;have ht:SqT K H' a [.int ts[i].1,.int ts[i].2.1,.int ts[i].2.2]\/SqL K H' a [.int ts[i].1,.int ts[i].2.1,.int ts[i].2.2]:=by
   rcases dI hp ha Xm with h|h
   .exact .inl (.inl (.inl (I.same _ _ (G (λ_ _ _=>nofun) (s1 _ _ h)))))
   .exact .inr (.inl (.inl (I.same _ _ (G (λ_ _ _=>nofun) (s1 _ _ h)))))
  refine {a,_,rfl,ht,rfl,?_};ac_rfl;refine {'d',λa2 H2 n2=>hN _ _ _ {{_,_,_,rfl},{kvs++[(ts[i].1,.ref a2)],?_,?_},I.same.trans n2.same}}
  .have a4:ts[i].1∉kvs.map (·.1):=by
    rw [jP S];intro z;obtain ⟨u,hu,eu⟩:=Po.mp z;obtain ⟨j,hj,ej⟩:=RF hu;have a6:j<i:=by rw [Qx] at hj;lia
    rw [List.getElem_take] at ej;have a3:j<(ts.map (·.1)).length:=by rw [OA];lia
    have:=(List.getElem?_inj a3 ok.nd).mp (show (ts.map (·.1))[j]?=(ts.map (·.1))[i]? by rw [O0,O0,Xm,Os (show j<ts.length by lia),ej];show some u.1=some ts[i].1;rw [eu]);lia
   rw [e,yx];unfold k7;rw [if_neg a4]
  .rw [Pz,Xm];exact gB (Paired.UN S λp t r=>r.keep λr xs e=>n2.same _ _ e) (.cons {rfl,a2,rfl,n2.at_} .nil)
 rcases hs with hs|hs
 all_goals first
  | refine .inl ⟨⟨_,.inl (.inl (G (λ_ _ _=>nofun) (s1 _ _ hs)))⟩,fc.lst (xs:=as.map V.ref) (DcI _ ts) hz (λi τ ys H' I=>.inl (.inl (I.same _ _ (G (λ_ _ _=>nofun) (s1 _ _ hs))))) ⟨⟨_,_,_,rfl⟩,⟨[],rfl,.nil⟩,zj.refl _⟩ step ?_⟩
  | refine .inr ⟨⟨_,.inl (.inl (G (λ_ _ _=>nofun) (s1 _ _ hs)))⟩,fc.tup (xs:=as.map V.ref) (DcI _ ts) hz (λi τ ys H' I=>.inl (.inl (I.same _ _ (G (λ_ _ _=>nofun) (s1 _ _ hs))))) ⟨⟨_,_,_,rfl⟩,⟨[],rfl,.nil⟩,zj.refl _⟩ step ?_⟩
 all_goals
  intro τ ys H3 I D H4 O;obtain ⟨kvs,e,S⟩:=I.ys;rw [OA,ZO,O4 (Ov _)] at S;rw [e] at O;have x4:=O.same _ _ (I.same _ _ zt);refine {dx,_,x4,by show 1<1000;decide,dx,_,zt,by simp only [zG,qV,if_false];show 2<1000;decide,dx,_,zt,by simp only [zG,qV,yo,vz,if_false];show 3<1000;decide,?_};rw [dQ,dQ];have eF:zG ("next_mark":Str) (V.int m) (zG "next_row" (V.int n) (zG "spot_of" (V.ref D) (zG "own_files" (V.ref J) [])))=bo J D n m:=by
   simp only [zG,bo,qV,yo,vz,Ih,EA,Om,if_false]
  rw [eF];have Dx:D≠x:=λz=>by have:=O.no;rw [z,I.same _ _ zt] at this;cases this
  have bt:But x H1 (upd H4 x (.ins A.State dx (bo J D n m))):=λc u nc e=>by
   rw [zg nc];exact O.same _ _ (I.same _ _ (by rw [zg nc];exact e))
  have ax:=ai.eU bt (s1 _ _ hx) .fB;have aI:∀{r:Addr}{xs:List V},H3 r=some (.tup xs)->upd H4 x (.ins A.State dx (bo J D n m)) r=some (.tup xs):=λ{r xs} e=>by
   rw [zg (λz=>by rw [z,I.same _ _ zt] at e;cases e)];exact O.same _ _ e
  have a0:k1≠x:=λz=>by rw [z,hx] at nk;cases nk
  have D0:H D=none:=by
   cases eD:H D with
   | none=>rfl
   | some u =>
    have:=I.same D u (by rw [zg Dx];exact s1 _ _ eD);rw [O.no] at this;cases this
  refine q J b1 k1 D _ (λa o na ea=>bt _ _ na (s1 _ _ ea)) nq nb nk D0 {⟨dx,zt⟩,ax,{kvs,by rw [zg Dx];exact O.at_,Paired.UN S λp t r=>r.keep λr xs e=>aI e},ok} ?_;obtain ⟨kk,av,_⟩:=ai.kept;have Z:=bt _ _ a0 av;rw [Z,<- av,aT]
end
noncomputable def eL(ts:List T3)(n:Int):T3:=(ts.find? λt=>decide (t.1=n)).getD (0,0,0)
theorem qA(nd:(ts.map (·.1)).Nodup){t:T3}(h:t∈ts):eL ts t.1=t:=by
 unfold eL
 induction ts with
 | nil=>cases h
 | cons u ts J =>
  obtain ⟨G,F⟩:=RV.mp nd;rw [Sq];rcases OL.mp h with rfl|h
  .rw [decide_eq_true rfl];rfl
  .have ne : ¬ u.1=t.1:=λz=>G (by show u.1∈_;rw [z];exact Po.mpr {t,h,rfl});rw [decide_eq_false ne];exact J F h
theorem My{ts:List T3}(nd:(ts.map (·.1)).Nodup):(ts.map (·.1)).map (eL ts)=ts:=by
 rw [QN];have:∀us:List T3,(∀u∈us,u∈ts)->us.map (eL ts∘(·.1))=us:=λus h=>by
  induction us with
  | nil=>rfl
  | cons u us z=>rw [PY,z λv hv=>h v (Oz _ hv)];show eL ts u.1::us=_;rw [qA nd (h u (OI ..))]
 exact this ts λ_ h=>h
section
variable {P:OF}{w:OS}{K:Frag}{mg:Str->Option Value}{base:Heap}{A:zh}
def jL(A:zh):Sp:=λvs H Q _=>∃(x F b k d:Addr)(t:Tab)(ks:List (Str×Tab))(ts:List T3)(n m:Int),vs=[.ref x]/\aS A H x F b k d t ks ts n m /\
 ∀q z k' H',zj H H'->H q=none->H z=none->H k'=none->zS A H' q z k' t ks->H' k'=H k->Q (.ref q) H'
theorem Ed:zx Zf Zf (zo oO):=fsc
theorem Cn(F:Fun K V8 "State.files" oO f fd)(T:Txt K mg A)(O:GM P w K mg base true 4 A.zw VY Zf (nj A)):zq P w K mg base CX0 true 5 f fd Zf (jL A):=by
 refine F.o Ed λZ2 U outer s H vs Q E hr h=>?_;obtain ⟨x,J,b,k,d,t,ks,ts,n,m,rfl,z,q⟩:=h;refine {_,(W.h (zm (zA (zZ (zO T.zk T.UF (zr 0)) T.tr O hr)))),?_};obtain ⟨dx,S⟩:=z.ob;obtain ⟨Z,G⟩:=z.files.ob;erw [S,G,E3,vH];exact {J,b,k,t,ks,rfl,z.files,q}
def iY(A:zh):Sp:=λvs H Q _=>∃(x z b k d:Addr)(t:Tab)(ks:List (Str×Tab))(ts:List T3)(n m:Int),vs=[.ref x]/\aS A H x z b k d t ks ts n m/\Q (.int n) H
theorem Fp:zx Zf Zf (zo o3):=fsc
theorem Ni(F:Fun K V9 "State.next_number" o3 f fd)(T:Txt K mg A):zq P w K mg base CX0 true 1 f fd Zf (iY A):=by
 refine F.o Fp λS J outer s H vs Q E hr h=>?_;obtain ⟨x,O,b,k,d,t,ks,ts,n,m,rfl,z,q⟩:=h;refine {_,(W.h (zm (zA (zO T.zk T.UJ (zr 0))))),?_};obtain ⟨dx,G⟩:=z.ob;erw [G,Ff];exact q
def gq(A:zh):Sp:=λvs H Q _=>∃(x z b k d:Addr)(t:Tab)(ks:List (Str×Tab))(ts:List T3)(n m:Int),vs=[.ref x]/\aS A H x z b k d t ks ts n m/\Q (.int m) H
theorem Bp:zx Zf Zf (zo o6):=fsc
theorem JY(F:Fun K Wb "State.mark_number" o6 f fd)(T:Txt K mg A):zq P w K mg base CX0 true 1 f fd Zf (gq A):=by
 refine F.o Bp λS J outer s H vs Q E hr h=>?_;obtain ⟨x,O,b,k,d,t,ks,ts,n,m,rfl,z,q⟩:=h;refine {_,(W.h (zm (zA (zO T.zk T.UG (zr 0))))),?_};obtain ⟨dx,G⟩:=z.ob;erw [G,Eb];exact q
def qX(A:zh):Sp:=λvs H Q _=>∃(x F b k d:Addr)(t:Tab)(ks:List (Str×Tab))(ts:List T3)(n m:Int),vs=[.ref x]/\aS A H x F b k d t ks ts n m /\
 ∀l as z H',zj H H'->H l=none->H' l=some (.lst (as.map V.ref))->Paired (hG H') as z->z.Perm ts->(z.map (·.1)).Pairwise (·<=·)->Q (.ref l) H'
structure SpI(H:Hp)(x:Addr)(ts:List T3)(ns:List Int)(i:Nat)(τ:L2.St)(ys:List V)(H':Hp):Prop where
 ex:∃t1,τ=[t1,some (.ref x)]
 ys:∃as:List Addr,ys=as.map V.ref/\Paired (hG H') as ((ns.take i).map (eL ts))
 same:zj H H'
theorem DH:zx Zf Zf (zo lR):=fsc
theorem K2:bM { kind:=.function,names:=[(Ox ".0",.local),(Ox "birth",.local),(Ox "self",.free)],isGenerator:=false,isCoroutine:=false,more:=[] } (zo lR).names Zf [V5,"self"] [none,some 0]=true:=by decide +kernel
theorem Ei:([V5,"self"]:List Str).Nodup:=by decide +kernel
theorem Lm(F:Fun K VN "State.spots" lR f fd)(T:Txt K mg A):zq P w K mg base CX0 true 1 f fd Zf (qX A):=by
 refine F.o DH λZ2 Ar outer s H vs Q E hr h=>?_;obtain ⟨x,fx,b,k,d,t,ks,ts,n,m,rfl,hS,q⟩:=h;refine {_,(W.h (zm (zA (fe (λ_=>rfl) (ay.of K2) (cJ (zM (NF rfl) rfl T.UZ Tj (zd (zO T.zk T.UA (zr 0)) ze))) (λ_ _ _ _ _=>(zJ (i:=0) Ei rfl (OM rfl))) (λ_ _ _ _ _=>cY) (λ_ _ _ _ _=>(zX h9 (dN (zd (zr 0) ze)) (aW (mH (bB hr)) (zO T.zk T.UA (zr 1)) (zr 0) (λ_ _=>rfl)))))))),?_};obtain ⟨dx,e1⟩:=hS.ob;obtain ⟨kvs,e2,e3⟩:=hS.eb;have ok:=hS.ok;have lk:=cH e3;have ky:=jP e3;erw [e1,vW];refine {kvs,.inl e2,by rw [lk];have:=ok.few;lia,λp ns H1 G S so=>?_};rw [ky] at S;have Xj:ns.length=ts.length:=by rw [S.length_eq,OA]
 refine {{_,SqL.of G.at_},aQ.lst (xs:=ns.map V.int) (SpI H1 x ts ns) (λi τ ys H' I=>?_) (λi τ ys H' I=>SqL.of (I.same _ _ G.at_)) {{_,rfl},{[],rfl,.nil},zj.refl _} ?_ ?_}
 .obtain ⟨as,e,J⟩:=I.ys;have:=cH J;rw [OA] at this;have h2:=Ro i ns;have:=ok.few;rw [e,OA];exact cG 'l'
 .intro N i v τ ys H' hv I hN;obtain ⟨t1,rfl⟩:=I.ex;obtain ⟨as,e,J⟩:=I.ys;rw [O0] at hv;obtain ⟨nb,ai,rfl⟩:=Pf.mp hv;have a0:=I.same _ _ (G.same _ _ e1);have av:=I.same _ _ (G.same _ _ e2);obtain ⟨t,ht,et⟩:=Po.mp (S.mem_iff.mp (Pr ai));obtain ⟨j,hj,ej⟩:=RF ht;have U:j<kvs.length:=by rw [lk];exact hj
  obtain ⟨s1,a,s2,s3⟩:=dI e3 (Os U) (Os hj);rw [ej] at s1 s3;have aI:aH (ik kvs) (.inl nb)=some (.ref a):=by
   refine qm (by rw [ky];exact ok.nd) ?_;rw [<- et,<- s1,<- s2];exact PV U
  ac_rfl;refine {'d',λp1 H2 z=>?_};have aT:=z.same _ _ a0;erw [aT,vW];refine {_,.inl (z.same _ _ av),_,aI,?_};ac_rfl;refine .inr {_,z.at_,_,z.same _ _ (I.same _ _ (G.same _ _ s3)),by show 3<=sizeLine;decide,λp2 H3 Z ax=>hN _ _ _ {{_,rfl},{as++[p2],by rw [e,PN];rfl,?_},I.same.trans (z.same.trans Z)}};rw [Pz,ai,PN];refine gB (Paired.UN J λa t r=>Z _ _ (z.same _ _ r)) (.cons ?_ .nil);show H3 p2=_;rw [ax,<- et,qA ok.nd ht];rfl
 .intro τ ys H' I D H2 z;obtain ⟨as,e,J⟩:=I.ys;rw [OA,O4 (Ov _)] at J;rw [e] at z;have O:=S.map (eL ts);rw [My ok.nd] at O;refine q D as _ H2 ((G.same.trans I.same).trans z.same) ((G.same.trans I.same).free z.no) z.at_ (Paired.UN J λa t r=>z.same _ _ r) O ?_;rw [QN,show ns.map ((λx=>x.1)∘eL ts)=ns from ?_]
  .exact so
  .refine (Qk λn hn=>?_).trans (Ul ns);obtain ⟨t,ht,rfl⟩:=Po.mp (S.mem_iff.mp hn);show (eL ts t.1).1=t.1;rw [qA ok.nd ht]
end
abbrev mq:Stmt:=top 57
abbrev rf:Stmt:=top 56
theorem qh{α:Type}{t:List (Str×α)}{a:α}:(zN t n a).length<=t.length+1:=by
 unfold zN;split<;>simp
structure aG(t:Tab):Prop where
 nd:(names t).Nodup
 len:t.length<=16
 nm:∀n∈names t,aV n=true
 ls:∀p∈t,1<=p.2.length/\p.2.length<=16/\∀x∈p.2,0<=x/\x<10 ^ 18
structure bw(ks:List (Str×Tab)):Prop where
 nd:(names ks).Nodup
 len:ks.length<=3
 nm:∀n∈names ks,aV n=true
 gm:∀p∈ks,aG p.2
noncomputable def cf(t:Tab)(zs:List Str):List Str:=zs.flatMap λn=>n::(toString ((lk t n).length:Int):Str)::(lk t n).map λx=>(toString x:Str)
noncomputable def bT(t:Tab):List Str:=(toString (t.length:Int):Str)::cf t (zF (names t))
theorem x5{t:Tab}{zs:List Str}(h:zs[i]?=some n):cf t (zs.take (i+1))=cf t (zs.take i)++[n,(toString ((lk t n).length:Int):Str)]++(lk t n).map λx=>(toString x:Str):=by
 unfold cf;rw [Pz,h];simp
section
variable {P:OF}{w:OS}{K:Frag}{mg:Str->Option Value}{base:Heap}{A:zh}{b k:Addr}
theorem aG.lk{t:Tab}(h:aG t)(z:n∈names t):∃l,look t n=some l/\K76.lk t n=l/\1<=l.length/\l.length<=16/\∀x∈l,0<=x/\x<10 ^ 18:=by
 cases e:look t n with
 | none=>exact absurd z (fb.mp e)
 | some l=>exact {l,rfl,by unfold K76.lk;rw [e];rfl,h.ls _ (ir e)}
structure CB(H:Hp)(p nl wl:Addr)(t:Tab)(i:Nat)(σ:L2.St)(H':Hp):Prop where
 ex:∃t1 t2,σ=[some (V.ref p),some (.ref nl),some (.ref wl),t1,t2]
 same:zj H H'
 hnl:H' nl=some (.lst ((zF (names t)).map V.str))
 hwl:H' wl=some (.lst (((toString (t.length:Int):Str)::cf t ((zF (names t)).take i)).map V.str))
 no:H wl=none
 ne:nl≠wl
 sz:(cf t ((zF (names t)).take i)).length<=18*i
 le:i<=16
structure TWc(H:Hp)(p:Addr)(n:Str)(l:List Int)(i:Nat)(τ:L2.St)(ys:List V)(H':Hp):Prop where
 ex:∃t,τ=[t,some (V.ref p),some (.str n)]
 ys:ys=((l.take i).map λx=>(toString x:Str)).map V.str
 same:zj H H'
 le:i<=16
def tX(A:zh):Sp:=λvs H Q _=>∃(p b k:Addr)(t:Tab)(ks:List (Str×Tab)),vs=[.ref p]/\bW A H p b k t ks/\aG t/\∀l H',zj H H'->H l=none->H' l=some (.lst ((bT t).map V.str))->Q (.ref l) H'
theorem jH:zx [V8,"names","words","name","many"] Wp (zo mq):=fsc
theorem HV:bM { kind:=.function,names:=[(Ox ".0",.local),(Ox "place",.local),(Ox "str",.globalImplicit),(Ox "files",.free),(Ox "name",.free)],isGenerator:=false,isCoroutine:=false,more:=[] } (zo mq).names [V8,"names","words","name","many"] ["place",V8,"name"] [none,some 0,some 3]=true:=by decide +kernel
theorem IE:(["place",V8,"name"]:List Str).Nodup:=by decide +kernel
theorem Ct(F:Fun K Vy Vy mq f fd)(T:Txt K mg A)(ZG:GM P w K mg base true 1 A.zw "names" Zf (r8 A))(ZS:GM P w K mg base true 1 A.zw "many" Xx (kT A))(Y3:GM P w K mg base true 4 A.zw V5 Wu (uA A)):zq P w K mg base CX0 true 5 f fd Wp (tX A):=by
 refine F.o jH λZ2 Ar outer s H vs Q E hr h=>?_;obtain ⟨p,b,k,t,ks,rfl,hF,gm,q⟩:=h;refine {_,(W.h (zi (zC (i:=1) jH.nd rfl (OM rfl) (zZ (zr 0) T.tr ZG hr))
   (zi (zC (i:=2) jH.nd rfl (OM rfl) (aq (zd (bJ d8 rfl T.UY RQ (zd (zM iU rfl T.UH PK (zd (zr 1) ze)) ze)) ze)))
   (zi (cF Q3.never (λ_=>rfl) (cJ (zr 1)) (zJ (i:=3) jH.nd rfl (Ss rfl))
   (zi (zC (i:=4) jH.nd rfl (OM rfl) (cn (zr 0) T.tr ZS hr (zd (zr 3) ze)))
   (zi (ae (jx (zr 2) (aq (zd (zr 3) (zd (bJ d8 rfl T.UY RQ (zd (zr 4) ze)) ze)))))
   (zm (ae (jx (zr 2) (fe (λ_=>rfl) (ay.of HV) (dF rfl T.Uy (zd (zr 4) ze)) (λ_ _ _ _ _=>(zJ (i:=0) IE rfl (OM rfl))) (λ_ _ _ _ _=>cY) (λ_ _ _ _ _=>(bJ d8 rfl T.UY RQ (zd (cn (zr 1) T.tr Y3 hr (zd (zr 2) (zd (zr 0) ze))) ze))))))))))
   (zm (zA (zr 2))))))),?_}
 obtain ⟨dx,e1⟩:=hF.ob;have gl:=gm.len;erw [e1,vm,iQ,rY];refine {p,b,k,t,ks,rfl,hF,'l',λnl H1 S=>?_};erw [S.at_];have sl:(zF (names t)).length=t.length:=by rw [(bR _).1.length_eq];simp [names]
 rw [OA,sl];refine {dD 'l','d',λwl H2 U _=>{{_,SqL.of (U.same _ _ S.at_)},?_}};have G:H wl=none:=S.same.free U.no;have O:nl≠wl:=λz=>by have:=U.no;rw [<- z,S.at_] at this;cases this
 refine bu.lst (xs:=(zF (names t)).map V.str) (CB H p nl wl t) {{_,_,rfl},S.same.trans U.same,U.same _ _ S.at_,by rw [U.at_];rfl,G,O,by simp [cf],'l'} (λi σ H' _ I=>SqL.of I.hnl) ?_ ?_
 .rintro i x σ H' hx ⟨⟨t1,t2,rfl⟩,sm,hnl,hwl,G,O,sz,le⟩;rw [O0] at hx;obtain ⟨n,hn,rfl⟩:=Pf.mp hx;obtain ⟨l,hl,el,l1,l2,lx⟩:=gm.lk ((bR _).1.mem_iff.mp (Pr hn));have F':=hF.same sm;obtain ⟨WU,ax⟩:=F'.ob;erw [ax,iQ,rY];refine {p,b,k,t,ks,n,rfl,F',λH3 s3=>?_};have F3:=F'.same s3;obtain ⟨Xd,a3⟩:=F3.ob;have Z:=s3 _ _ hwl;erw [Z];have hi:i<(zF (names t)).length:=(OJ.mp hn).1;rw [el];refine {dD 'l','d',λp1 H4 n4 _=>{_,n4.same _ _ Z,_,n4.at_,bS (by simp;lia),{_,zt},'l','l',?_}};have aT:zj H H4:=(sm.trans s3).trans n4.same;have s5:∀o,zj H (upd H4 wl o):=λo c u ec=>by rw [zg (zz ec G)];exact aT c u ec
  refine aQ.rng (TWc _ p n l) (λj τ ys H6 I=>?_) {{_,rfl},'z',zj.refl _,'l'} ?_ ?_
  .rw [I.ys,OA,OA,Qx];exact cG (by have:=I.le;lia)
  .intro N j τ ys H6 hj I hN;obtain ⟨tt,rfl⟩:=I.ex;have F6:=hF.same ((s5 _).trans I.same);obtain ⟨a0,aI⟩:=F6.ob;have J:j<l.length:=by lia
   erw [aI,rY];refine {p,b,k,t,ks,n,l,_,rfl,F6,hl,'l','l',λH7 s7=>?_};have ej:(0+(j:Int)).toNat=j:=by lia
   have eg:l.getD j 0=l[j]:=by rw [O5,Os J];rfl
   have hx:=lx l[j] (PV J);rw [ej,eg];ac_rfl;refine {dD 'l',hN _ _ _ {{_,rfl},?_,I.same.trans s7,'l'}};rw [I.ys,Pz,Os J,PN,PN];rfl
  .intro τ ys H6 I D H7 n7;have av:=n7.same _ _ (I.same _ _ zt);have ai:H7 nl=some (.lst ((zF (names t)).map V.str)):=n7.same _ _ (I.same _ _ (by rw [zg O];exact n4.same _ _ (s3 _ _ hnl)));have Dw:D≠wl:=λz=>by have:=n7.no;rw [z,I.same _ _ zt] at this;cases this
   erw [av,n7.at_];have ly:ys.length<=16:=by rw [I.ys,OA,OA,Qx];lia
   refine {bS (by simp;lia),{_,_,rfl},λc u ec=>?_,by rw [zg O];exact ai,?_,G,O,?_,'l'}
   .rw [zg (zz ec G)];exact n7.same _ _ (I.same _ _ (s5 _ _ _ ec))
   .rw [zt,x5 hn,I.ys,el];have:l.take ((l.length:Nat):Int).toNat=l:=O4 'l';rw [this];simp
   .rw [x5 hn,el];simp;lia
 .rintro σ H' ⟨⟨t1,t2,rfl⟩,sm,hnl,hwl,G,O,sz,le⟩;ac_rfl;refine q wl H' sm G ?_;rw [hwl,OA,O4 (Ov _)];rfl
theorem sQ(m:Nat)(h:0<m):∃c r,(Uk 10 m).map Char.toNat=c::r/\49<=c:=by
 induction m using Nat.strongRecOn with
 | _ m G =>
  by_cases h1:m<10
  .rw [Nat.toDigits_of_lt_base h1];refine {_,[],rfl,?_};have:∀d:Nat,d<10->0<d->49<=(Nat.digitChar d).toNat:=by decide
   exact this m h1 h
  .have z:m % 10<10:=Nat.mod_lt m 'd';have t:Uk 10 (m / 10)++Uk 10 (m % 10)=Uk 10 (10*(m / 10)+m % 10):=Nat.toDigits_append_toDigits 'd' 'l' z;rw [Nat.div_add_mod] at t;obtain ⟨c,r,e,F⟩:=G (m / 10) 'l' 'l';rw [<- t,PN,e];exact {c,_,rfl,F}
structure uG(i:Int):Prop where
 dig:∀c∈sg (toString i:Str),48<=c/\c<=57
 one:1<=(sg (toString i:Str)).length
 most:(sg (toString i:Str)).length<=18
 back:QK (toString i:Str)=some i
 head:(toString i:Str)="0"\/∃c r,sg (toString i:Str)=c::r/\49<=c
theorem gA(J:0<=i)(h1:i<10 ^ 18):uG i:=by
 obtain ⟨m,rfl⟩:=Int.eq_ofNat_of_zero_le J;have hd:∀c∈sg (toString ((m:Nat):Int):Str),48<=c/\c<=57:=by
  intro c F;rw [iJ] at F;obtain ⟨ch,S,e⟩:=Po.mp F;have r:=Nat.isDigit_of_mem_toDigits 'd' 'd' S;rw [<- e];exact PyProof.Rows.digit_range r
 have G:1<=(sg (toString ((m:Nat):Int):Str)).length:=by
  rcases S4 m with h|h
  .rw [h,iJ];decide
  .obtain ⟨c,r,e,_⟩:=sQ m h;rw [iJ,e];simp
 have hl:(sg (toString ((m:Nat):Int):Str)).length<=18:=by
  have e:(Nat.repr m).length<=18:=(Nat.length_repr_le_iff 'd').mpr 'l';rw [aa];show (Ox (toString ((m:Nat):Int))).length<=18;rw [PySem.ofString_length];exact e
 refine {hd,G,hl,?_,?_}
 .have e:=intText_digits (x:=(toString ((m:Nat):Int):Str)) hd (λz=>by rw [show sg (toString ((m:Nat):Int):Str)=[] from z] at G;cases G) (by rw [<- aa];lia);have O:(toString ((m:Nat):Int):Str).cps.toList=(Uk 10 m).map Char.toNat:=iJ m;rw [O,PySem.W.KIN.val_back] at e;exact e
 .rcases S4 m with h|h
  .left;rw [h];rfl
  .obtain ⟨c,r,e,F⟩:=sQ m h;exact .inr {c,r,by rw [iJ,e],F}
theorem Fi(h:∀c∈sg z,c∈sg y)(h1:1<=z.length)(h2:(z.length:Int)<=m):bE z y m=true:=by
 unfold bE;rw [decide_eq_true (show (1:Int)<=z.length by lia),decide_eq_true h2];rw [TH,TH,Pg];exact λc F=>Qq.mpr (h c F)
theorem ic{i:Int}(h:0<=i/\i<10 ^ 18):zU (toString i:Str)=true:=by
 have F:=gA h.1 h.2;unfold zU;rw [O1];constructor
 .refine Fi (λc z=>?_) (by rw [<- aa];exact F.one) (by rw [<- aa];have:=F.most;lia);have hf:sg FIG=[48,49,50,51,52,53,54,55,56,57]:=by decide
  rw [hf];have:=F.dig c z;simp;lia
 .rcases F.head with h|⟨c,r,e,z⟩
  .rw [decide_eq_true h];rfl
  .rw [e];have : ¬ tx (take 1 (c::r))=("0":Str):=λx=>by
    have:=congrArg sg x;rw [bz] at this;have G:sg ("0":Str)=[48]:=by decide
    rw [G] at this;injection this with h1 _
    lia
   rw [decide_eq_false this];simp
structure Wd(z:Str):Prop where
 a:asc z=true
 most:z.length<=20
 no:32∉sg z
 n9:59∉sg z
theorem dU{i:Int}(z:0<=i)(h1:i<10 ^ 18):Wd (toString i:Str):=by
 have F:=gA z h1;refine {?_,by rw [<- aa];have:=F.most;lia,λh=>(by have:=F.dig 32 h;lia),λh=>by have:=F.dig 59 h;lia};rw [fK,Pg];exact λc G=>decide_eq_true (by have:=F.dig c G;lia)
theorem qT(h:aV z=true):Wd z:=by
 unfold aV bE at h;rw [O1,O1,decide_eq_true_eq,decide_eq_true_eq,Pg] at h;have hl:∀c∈sg LET,c<128/\c≠32/\c≠59:=by decide +kernel
 refine {?_,'l',λhz=>(hl 32 (Qq.mp (h.2 32 hz))).2.1 rfl,λhz=>(hl 59 (Qq.mp (h.2 59 hz))).2.2 rfl};rw [fK,Pg];exact λc F=>decide_eq_true (hl c (Qq.mp (h.2 c F))).1
theorem xR{t:Tab}(gm:aG t):∀{zs:List Str},(∀n∈zs,n∈names t)->(∀z∈cf t zs,Wd z)/\(cf t zs).length<=18*zs.length
 | [],_=>by simp [cf]
 | n::zs,h=>by
  obtain ⟨i1,i2⟩:=xR gm (zs:=zs) λm J=>h m (Oz _ J);obtain ⟨l,hl,G,O,S,F⟩:=gm.lk (h n (OI ..));have e:cf t (n::zs)=(n::(toString ((lk t n).length:Int):Str)::(lk t n).map λx=>(toString x:Str))++cf t zs:=by simp [cf]
  rw [e,G];refine {λz hz=>?_,by simp;lia};rcases Pi.mp hz with hz|hz
  .rcases OL.mp hz with rfl|hz
   .exact qT (gm.nm _ (h _ (OI ..)))
   .rcases OL.mp hz with rfl|hz
    .exact dU 'l' 'l'
    .obtain ⟨x,hx,rfl⟩:=Po.mp hz;exact dU (F x hx).1 (F x hx).2
  .exact i1 z hz
theorem kX{t:Tab}(gm:aG t):(∀z∈bT t,Wd z)/\(bT t).length<=289:=by
 have hl:=gm.len;obtain ⟨i1,i2⟩:=xR gm (zs:=zF (names t)) λn F=>(bR _).1.mem_iff.mp F;have sl:(zF (names t)).length=t.length:=by rw [(bR _).1.length_eq];simp [names]
 unfold bT;refine {λz hz=>?_,by simp;lia};rcases OL.mp hz with rfl|hz
 .exact dU 'l' 'l'
 .exact i1 z hz
noncomputable def kkT(ks:List (Str×Tab))(n:Str):Tab:=(look ks n).getD []
noncomputable def bb(ks:List (Str×Tab))(zs:List Str):List Str:=zs.flatMap λn=>n::bT (kkT ks n)
noncomputable def cI(t:Tab)(ks:List (Str×Tab)):List Str:=bT t++(toString (ks.length:Int):Str)::bb ks (zF (names ks))
noncomputable def dm(t:Tab)(ks:List (Str×Tab)):Str:=QY " " (cI t ks)
theorem tM{zs:List Str}(h:zs[i]?=some n):bb ks (zs.take (i+1))=bb ks (zs.take i)++[n]++bT (kkT ks n):=by
 unfold bb;rw [Pz,h];simp
theorem bw.lk(h:bw ks)(z:n∈names ks):∃u,look ks n=some u/\kkT ks n=u/\aG u:=by
 cases e:look ks n with
 | none=>exact absurd z (fb.mp e)
 | some u=>exact {u,rfl,by unfold kkT;rw [e];rfl,h.gm _ (ir e)}
theorem xY(gk:bw ks):∀{zs:List Str},(∀n∈zs,n∈names ks)->(∀z∈bb ks zs,Wd z)/\(bb ks zs).length<=290*zs.length
 | [],_=>by simp [bb]
 | n::zs,h=>by
  obtain ⟨i1,i2⟩:=xY gk (zs:=zs) λm O=>h m (Oz _ O);obtain ⟨u,S,F,G⟩:=gk.lk (h n (OI ..));obtain ⟨J,U⟩:=kX G;have e:bb ks (n::zs)=(n::bT (kkT ks n))++bb ks zs:=by simp [bb]
  rw [e,F];refine {λz hz=>?_,by simp;lia};rcases Pi.mp hz with hz|hz
  .rcases OL.mp hz with rfl|hz
   .exact qT (gk.nm _ (h _ (OI ..)))
   .exact J z hz
  .exact i1 z hz
theorem oN{t:Tab}(gm:aG t)(gk:bw ks):(∀z∈cI t ks,Wd z)/\(cI t ks).length<=1200:=by
 obtain ⟨G,O⟩:=kX gm;have J:=gk.len;obtain ⟨i1,i2⟩:=xY gk (zs:=zF (names ks)) λn F=>(bR _).1.mem_iff.mp F;have sl:(zF (names ks)).length=ks.length:=by rw [(bR _).1.length_eq];simp [names]
 unfold cI;refine {λz hz=>?_,by simp;lia};rcases Pi.mp hz with hz|hz
 .exact G z hz
 .rcases OL.mp hz with rfl|hz
  .exact dU 'l' 'l'
  .exact i1 z hz
theorem BY{zs:List Str}(h:∀z∈zs,Wd z)(hl:zs.length<=2000):(zs.map (·.length)).sum+zs.length*(" ":Str).length<=16777216:=by
 have:∀l:List Str,(∀z∈l,Wd z)->(l.map (·.length)).sum<=20*l.length:=by
  intro l
  induction l with
  | nil=>simp
  | cons z l G =>
   intro h;have h1:=(h z (OI ..)).most;have h2:=G λy F=>h y (Oz _ F);rw [PY,List.sum_cons,Pn];lia
 have:=this zs h;rw [show (" ":Str).length=1 by decide];lia
structure K5(H:Hp)(p nl wl:Addr)(t:Tab)(ks:List (Str×Tab))(i:Nat)(σ:L2.St)(H':Hp):Prop where
 ex:∃t1,σ=[some (V.ref p),some (.ref wl),some (.ref nl),t1]
 same:zj H H'
 hnl:H' nl=some (.lst ((zF (names ks)).map V.str))
 hwl:H' wl=some (.lst ((bT t++(toString (ks.length:Int):Str)::bb ks ((zF (names ks)).take i)).map V.str))
 no:H wl=none
 ne:nl≠wl
 sz:(bb ks ((zF (names ks)).take i)).length<=290*i
 le:i<=3
def yC(A:zh):Sp:=λvs H Q _=>∃(p b k:Addr)(t:Tab)(ks:List (Str×Tab)),vs=[.ref p]/\bW A H p b k t ks/\aG t/\bw ks/\∀H',zj H H'->Q (.str (dm t ks)) H'
theorem lG:zx [V8,"words","held","name"] Wp (zo rf):=fsc
theorem NQ(F:Fun K "files_text" "files_text" rf f fd)(T:Txt K mg A)(Zk:GF P w K mg base true 5 Vy Wp (tX A))(YX:GM P w K mg base true 1 A.zw "held" Zf (vU A))(Zg:GM P w K mg base true 4 A.zw "of_held" WC (xG A)):zq P w K mg base CX0 true 6 f fd Wp (yC A):=by
 refine F.o lG λZ2 Ar outer s H vs Q E hr h=>?_;obtain ⟨p,b,k,t,ks,rfl,hF,gm,gk,q⟩:=h;refine {_,(W.h (zi (zC (i:=1) lG.nd rfl (OM rfl) (zQ Zk hr rfl (zd (zr 0) ze)))
   (zi (zC (i:=2) lG.nd rfl (OM rfl) (zZ (zr 0) T.tr YX hr))
   (zi (ae (g9 (zr 1) (bJ d8 rfl T.UY RQ (zd (zM iU rfl T.UH PK (zd (zr 2) ze)) ze))))
   (zi (cF Q3.never (λ_=>rfl) (cJ (zr 2)) (zJ (i:=3) lG.nd rfl (OM rfl))
   (zi (ae (g9 (zr 1) (zr 3)))
   (zm (ae (jx (zr 1) (zQ Zk hr rfl (zd (cn (zr 0) T.tr Zg hr (zd (zr 3) ze)) ze)))))))
   (zm (zA (uf zH (zr 1))))))))),?_}
 ac_rfl;refine {p,b,k,t,ks,rfl,hF,gm,λwl H1 s1 O ew=>?_};have F1:=hF.same s1;obtain ⟨dx,e1⟩:=F1.ob;have kl:=gk.len;erw [e1,NJ];refine {p,b,k,t,ks,rfl,F1,'l',λnl H2 J=>?_};have ax:=J.same _ _ ew;erw [ax,J.at_];have sl:(zF (names ks)).length=ks.length:=by rw [(bR _).1.length_eq];simp [names]
 have aT:=(kX gm).2;have G:nl≠wl:=λz=>by have:=J.no;rw [z,ew] at this;cases this
 simp only [OA,sl];have Z:∀H' o,zj H H'->zj H (upd H' wl o):=λH' o h c u ec=>by rw [zg (zz ec O)];exact h c u ec
 refine {dD 'l',cG 'l',{_,SqL.of (by rw [zg G];exact J.at_)},bu.lst (xs:=(zF (names ks)).map V.str) (K5 H p nl wl t ks) {{_,rfl},Z _ _ (s1.trans J.same),by rw [zg G];exact J.at_,by rw [zt];simp [bb],O,G,by simp [bb],'l'} (λi σ H' _ I=>SqL.of I.hnl) ?_ ?_}
 .rintro i x σ H' hx ⟨⟨t1,rfl⟩,U,hnl,hwl,O,G,sz,le⟩;rw [O0] at hx;obtain ⟨n,S,rfl⟩:=Pf.mp hx;have hi:i<(zF (names ks)).length:=(OJ.mp S).1;obtain ⟨u,hu,eu,gu⟩:=gk.lk ((bR _).1.mem_iff.mp (Pr S));have uw:=(kX gu).2;erw [hwl];refine {cG (by simp;lia),{_,zt},?_};have F4:=hF.same (Z H' (.lst (List.map V.str (bT t++(toString (ks.length:Int):Str)::bb ks (take i (zF (names ks))))++[V.str n])) U);obtain ⟨ai,e4⟩:=F4.ob;refine {ai,_,e4,Bx,p,b,k,t,ks,n,u,rfl,F4,hu,λx b' k' H5 s5 nb nk nx hB _=>{x,b',k',u,[],rfl,hB.files,gu,λl6 H6 s6 n6 e6=>?_}};have aI:=s6 _ _ (s5 _ _ (zt (H:=H')));have av:zj H H6:=((Z H' _ U).trans s5).trans s6;erw [aI,e6];refine {bS (by simp;lia),{_,rfl},Z _ _ av,?_,?_,O,G,?_,'l'}
  .rw [zg G];exact s6 _ _ (s5 _ _ (by rw [zg G];exact hnl))
  .rw [zt,tM S,eu];simp
  .rw [tM S,eu];simp;lia
 .rintro σ H' ⟨⟨t1,rfl⟩,U,hnl,hwl,O,G,sz,le⟩;ac_rfl;rw [OA,O4 (Ov _)] at hwl;obtain ⟨w1,w2⟩:=oN gm gk;exact {cI t ks,hwl,BY w1 'l',q H' U}
end
abbrev qE:Stmt:=zP (top 32) 5
abbrev jX:Stmt:=zP (top 32) 1
abbrev lJ:Stmt:=zP (top 32) 2
abbrev jK:Stmt:=zP (top 32) 3
abbrev mz:Stmt:=zP (top 32) 6
abbrev mj:Stmt:=top 60
noncomputable def cV(wl:Addr)(i:Int):List (Str×V):=[("words",.ref wl),("taken",.int i)]
structure zV(A:zh)(H:Hp)(p:Addr)(ws:List Str):Prop where
 ex:∃(dx wl:Addr)(pre:List Str),H p=some (.ins A.Words dx (cV wl pre.length))/\H wl=some (.lst ((pre++ws).map V.str))/\(pre++ws).length<=4000/\pre++ws≠[]
 wd:∀z∈ws,asc z=true/\z.length<=100000
theorem zV.same{p:Addr}(h:zV A H p ws)(s:zj H H'):zV A H' p ws:=let ⟨dx,wl,pre,e1,e2,r⟩:=h.ex;{{dx,wl,pre,s _ _ e1,s _ _ e2,r},h.wd}
theorem zV.but{p b:Addr}(h:zV A H p ws)(s:But b H H')(F:∃kvs,H b=some (.dK kvs)):zV A H' p ws:=by
 obtain ⟨dx,wl,pre,G,J,r⟩:=h.ex;obtain ⟨kvs,F⟩:=F;exact {{dx,wl,pre,s _ _ (λz=>by subst z;rw [G] at F;cases F) G,s _ _ (λz=>by subst z;rw [J] at F;cases F) J,r},h.wd}
noncomputable def zT:List Str->Option (Int×List Str)
 | []=>none
 | z::ws=>if zU z=true then some ((QK z).getD 0,ws) else none
noncomputable def jo:List Str->Option (Str×List Str)
 | []=>none
 | z::ws=>if aV z=true then some (z,ws) else none
noncomputable def cL(y:Str)(ws:List Str):Option (Str×List Str):=match jo ws with
 | none=>none
 | some (z,r)=>if y.cps.toList<z.cps.toList then some (z,r) else none
theorem Ax:∀(l:List Nat)(a:Nat),(∀c∈l,48<=c/\c<=57)->l.foldl (λZ1 c=>Z1*10+(c-48)) a<(a+1)*10 ^ l.length
 | [],a,_=>by simp
 | c::l,a,h=>by
  have:=h c (OI ..);have b:=Ax l (a*10+(c-48)) (λz hz=>h z (Oz _ hz));refine O2 b ?_;rw [Pn,Nat.pow_succ,Nat.mul_comm (10 ^ l.length) 10,<- Nat.mul_assoc];exact Nat.mul_le_mul_right _ 'l'
theorem Ls(h:zU z=true):z.length<=640/\∃i,QK z=some i/\0<=i/\i<10 ^ 18:=by
 unfold zU bE at h;rw [O1,O1,O1,decide_eq_true_eq,decide_eq_true_eq] at h;obtain ⟨⟨⟨h1,h2⟩,h3⟩,_⟩:=h;have hl:z.length<=18:=by lia
 have hd:∀c∈sg z,48<=c/\c<=57:=by
  intro c F;have:=Pg.mp h3 c F;have hf:sg FIG=[48,49,50,51,52,53,54,55,56,57]:=by decide
  rw [hf] at this;have:=Qq.mp this;simp only [OL,Pa,or_false] at this;omega
 have e:=intText_digits (x:=z) hd (λe=>by have:z.length=0:=(by rw [<- aa];rw [show sg z=[] from e];rfl);lia) 'l';refine {'l',_,e,'l',?_};have b:=Ax _ 0 hd;have hz:(sg z).length<=18:=by rw [aa];exact hl
 have:=O2 b (Nat.mul_le_mul_left _ (Nat.pow_le_pow_right 'd' hz))
 exact_mod_cast this
section
variable {P:OF}{w:OS}{K:Frag}{mg:Str->Option Value}{base:Heap}{A:zh}{wl:Addr}{i:Int}
theorem vT:(cV wl i).lookup ("words":Str)=some (.ref wl):=by kernel_rfl
theorem qu:(cV wl i).lookup ("taken":Str)=some (.int i):=by kernel_rfl
theorem rT:(cV wl i).lookup (VU:Str)=none:=by kernel_rfl
theorem eB:(cV wl i).lookup (V3:Str)=none:=by kernel_rfl
theorem Bs:(cV wl i).lookup ("take_name":Str)=none:=by kernel_rfl
theorem Ai:(cV wl i).lookup (VB:Str)=none:=by kernel_rfl
theorem C4:(cV wl i).lookup ("take_end":Str)=none:=by kernel_rfl
def rB(A:zh):Sp:=λvs H Q _=>∃(p:Addr)(ws:List Str),vs=[.ref p]/\zV A H p ws/\Q (.bl (decide (ws=[]))) H
theorem M7:zx Zf Zf (zo qE):=fsc
theorem MI(F:Fun K VB "Words.is_at_end" qE f fd)(T:Txt K mg A):zq P w K mg base CX0 true 1 f fd Zf (rB A):=by
 refine F.o M7 λZ U outer s H vs Q E hr h=>?_;obtain ⟨p,ws,rfl,O,q⟩:=h;have J:_<cLine:=Ql (bB hr);refine {_,(W.h (zm (zA (fV (oE (eS J)) (fD (zO T.za T.Uv 'f')) (zM eW rfl T.UH PK (zd (fD (zO T.za T.UE 'f')) ze)) (aE _))))),?_};obtain ⟨dx,wl,pre,S,G,r⟩:=O.ex;erw [S,G,vT,qu];have e:decide ((pre.length:Int)=((List.map V.str (pre++ws)).length:Nat))=decide (ws=[]):=by
  rw [OA,Ph];cases ws with
  | nil=>simp
  | cons z ws=>simp;lia
 rw [e];exact q
def kY(A:zh):Sp:=λvs H Q E=>∃(p:Addr)(ws:List Str),vs=[.ref p]/\zV A H p ws/\(∀z r,ws=z::r->∀H',But p H H'->zV A H' p r->Q (.str z) H')/\(ws=[]->E (.ref A.NoPart) none H)
theorem Ge:zx Zf Zf (zo jX):=fsc
theorem Mu(F:Fun K VU "Words.take_word" jX f fd)(T:Txt K mg A)(ZU:GM P w K mg base true 1 A.Words VB Zf (rB A)):zq P w K mg base (CXW P w) true 2 f fd Zf (kY A):=by
 refine F.oW Ge λZ2 U outer s H vs Q E hr h=>?_;obtain ⟨p,ws,rfl,J,q,qe⟩:=h;have Th:=bA (cm:=true) (P:=P) (w:=w) (K:=K) (mg:=mg) (base:=base) (N:=Zf) (qual:="Words.take_word") (scope:=zo jX) (f:=f) (cd:=Z2) (A:=U) (outer:=outer) (s:=s) (H:=H) (E:=E);refine {_,(W.h (zi (zW (cc (m0D (zZ 'f' T.za ZU hr)))
   (zm (dh rfl Th T.L4 rfl T.Ur (zd zH ze)))
   z7)
   (zi (nL T.za T.Uv (zb 0) zD wu)
   (zm (zA (aW cq (fD (zO T.za T.UE 'f')) (zX (oI0 j6) (fD (zO T.za T.Uv 'f')) zD) (λ_ _=>rfl))))))),?_}
 obtain ⟨dx,wl,pre,O,G,r⟩:=J.ex;erw [O,Ai];refine {p,ws,rfl,J,?_};have S:wl≠p:=λy=>by rw [y,O] at G;cases G
 cases ws with
 | nil =>
  erw [decide_true];exact {'d',qe rfl}
 | cons z ws =>
  erw [O,qu,List.cons_ne_nil,decide_false];have Z:zG ("taken":Str) (V.int ((pre.length:Int)+1)) (cV wl pre.length)=cV wl ((pre.length:Int)+1):=by kernel_rfl
  try rw [Z]
  refine {by show 2<1000;decide,dx,_,zt,_,vT,dx,_,zt,_,qu,?_};ac_rfl;have ei:(pre.length:Int)+1-1=((pre.length:Nat):Int):=by lia
  refine {_,.inl (by rw [zg S];exact G),.str z,by rw [ei];exact gP 'z',q z ws rfl _ But.upd {{dx,wl,pre++[z],?_,?_,?_},λy hy=>J.wd y (Oz _ hy)}}
  .rw [zt];simp
  .rw [zg S,G];simp
  .simpa using r
noncomputable def jF(A:zh):Sp:=λvs H Q E=>∃(p:Addr)(ws:List Str),vs=[.ref p]/\zV A H p ws/\(∀i r,zT ws=some (i,r)->0<=i->i<10 ^ 18->∀H',But p H H'->zV A H' p r->Q (.int i) H')/\(zT ws=none->∀H',But p H H'->E (.ref A.NoPart) none H')
theorem vR:zx Wi Zf (zo lJ):=fsc
theorem FW(F:Fun K V3 VF lJ f fd)(T:Txt K mg A)(Z4:GMX P w K mg base true 2 A.Words VU Zf (kY A))(Zn:GF P w K mg base true 2 VR WX (mE zU)):zq P w K mg base (CXW P w) true 3 f fd Zf (jF A):=by
 refine F.oW vR λZ2 Ar outer s H vs Q E hr h=>?_;obtain ⟨p,ws,rfl,J,q,qe⟩:=h;have U:=bA (cm:=true) (P:=P) (w:=w) (K:=K) (mg:=mg) (base:=base) (N:=Wi) (qual:=VF) (scope:=zo lJ) (f:=f) (cd:=Z2) (A:=Ar) (outer:=outer) (s:=s) (H:=H) (E:=E);refine {_,(W.h (zi (zC (i:=1) vR.nd rfl (OM rfl) (aX (bc 'f' T.za U Z4 hr)))
   (zi (zW (dw (cc (caD (zQ Zn hr rfl (clP (zd (zb 1) ze))))))
   (zm (dh rfl U T.L4 rfl T.Ur (zd zH ze)))
   z7)
   (zm (zA (bJ ju rfl T.bG boot_int (zd (zb 1) ze))))))),?_}
 obtain ⟨dx,wl,pre,e1,e2,hl⟩:=J.ex;erw [e1,rT];refine {p,ws,rfl,J,λz r G H1 Z O=>?_,λG=>?_}
 .subst G;have wd:=J.wd z (OI ..);ac_rfl;refine {z,rfl,wd.1,wd.2,λH2 s2=>?_};ac_rfl;by_cases hz:zU z=true
  .obtain ⟨S,i,ei,i0,i1⟩:=Ls hz;rw [hz];ac_rfl;exact {S,i,ei,q i r ((if_pos hz).trans (by rw [ei];rfl)) i0 i1 H2 (Z.trans (But.of s2)) (O.same s2)}
  .rw [QI.mpr hz];ac_rfl;exact {'d',qe (if_neg hz) H2 (Z.trans (But.of s2))}
 .subst G;ac_rfl;exact {_,rfl,qe rfl H (But.of (zj.refl _))}
noncomputable def wF(A:zh):Sp:=λvs H Q E=>∃(p:Addr)(ws:List Str),vs=[.ref p]/\zV A H p ws/\(∀z r,jo ws=some (z,r)->∀H',But p H H'->zV A H' p r->Q (.str z) H')/\(jo ws=none->∀H',But p H H'->E (.ref A.NoPart) none H')
theorem yp:zx Wi Zf (zo jK):=fsc
theorem Nq(F:Fun K "take_name" "Words.take_name" jK f fd)(T:Txt K mg A)(Z4:GMX P w K mg base true 2 A.Words VU Zf (kY A))(Yr:GF P w K mg base true 2 "is_name" WX (mE aV)):zq P w K mg base (CXW P w) true 3 f fd Zf (wF A):=by
 refine F.oW yp λZ2 Ar outer s H vs Q E hr h=>?_;obtain ⟨p,ws,rfl,J,q,Z⟩:=h;have S:=bA (cm:=true) (P:=P) (w:=w) (K:=K) (mg:=mg) (base:=base) (N:=Wi) (qual:="Words.take_name") (scope:=zo jK) (f:=f) (cd:=Z2) (A:=Ar) (outer:=outer) (s:=s) (H:=H) (E:=E);refine {_,(W.h (zi (zC (i:=1) yp.nd rfl (OM rfl) (aX (bc 'f' T.za S Z4 hr)))
   (zi (zW (dw (cc (caD (zQ Yr hr rfl (clP (zd (zb 1) ze))))))
   (zm (dh rfl S T.L4 rfl T.Ur (zd zH ze)))
   z7)
   (zm (zA (zb 1)))))),?_}
 obtain ⟨dx,wl,pre,e1,e2,hl⟩:=J.ex;erw [e1,rT];refine {p,ws,rfl,J,λz r G H1 U O=>?_,λG=>?_}
 .subst G;have wd:=J.wd z (OI ..);ac_rfl;refine {z,rfl,wd.1,wd.2,λH2 s2=>?_};ac_rfl;by_cases hz:aV z=true
  .rw [hz];ac_rfl;exact q z r (if_pos hz) H2 (U.trans (But.of s2)) (O.same s2)
  .rw [QI.mpr hz];ac_rfl;exact {'d',Z (if_neg hz) H2 (U.trans (But.of s2))}
 .subst G;ac_rfl;exact {_,rfl,Z rfl H (But.of (zj.refl _))}
def ud(A:zh):Sp:=λvs H Q E=>∃(p:Addr)(ws:List Str),vs=[.ref p]/\zV A H p ws/\(ws=[]->Q .non H)/\(ws≠[]->E (.ref A.NoPart) none H)
theorem MB:zx Zf Zf (zo mz):=fsc
theorem EH(F:Fun K "take_end" "Words.take_end" mz f fd)(T:Txt K mg A)(J:GM P w K mg base true 1 A.Words VB Zf (rB A)):zq P w K mg base (CXW P w) true 2 f fd Zf (ud A):=by
 refine F.oW MB λU G outer s H vs Q E hr h=>?_;obtain ⟨p,ws,rfl,z,q,S⟩:=h;have O:=bA (cm:=true) (P:=P) (w:=w) (K:=K) (mg:=mg) (base:=base) (N:=Zf) (qual:="Words.take_end") (scope:=zo mz) (f:=f) (cd:=U) (A:=G) (outer:=outer) (s:=s) (H:=H) (E:=E);refine {_,(W.h (zm (zW (dw (cc (m0D (zZ 'f' T.za J hr))))
   (zm (dh rfl O T.L4 rfl T.Ur (zd zH ze)))
   z7))),?_}
 obtain ⟨dx,wl,pre,Z,e2,r⟩:=z.ex;erw [Z,Ai];refine {p,ws,rfl,z,?_};by_cases hz:ws=[]
 .rw [decide_eq_true hz];ac_rfl;exact q hz
 .rw [decide_eq_false hz];ac_rfl;exact {'d',S hz}
noncomputable def oo(A:zh):Sp:=λvs H Q E=>∃(p:Addr)(y:Str)(ws:List Str),vs=[.ref p,.str y]/\zV A H p ws/\(∀z r,cL y ws=some (z,r)->∀H',But p H H'->zV A H' p r->Q (.str z) H')/\(cL y ws=none->∀H',But p H H'->E (.ref A.NoPart) none H')
theorem AE:zx ["words","name","later"] Wk (zo mj):=fsc
theorem Jm(F:Fun K V4 V4 mj f fd)(T:Txt K mg A)(Zq:GMX P w K mg base true 3 A.Words "take_name" Zf (wF A)):zq P w K mg base (CXW P w) true 4 f fd Wk (oo A):=by
 refine F.oW AE λZ2 Ar outer s H vs Q E hr h=>?_;obtain ⟨p,y,ws,rfl,Z,q,U⟩:=h;have S:=bA (cm:=true) (P:=P) (w:=w) (K:=K) (mg:=mg) (base:=base) (N:=["words","name","later"]) (qual:=V4) (scope:=zo mj) (f:=f) (cd:=Z2) (A:=Ar) (outer:=outer) (s:=s) (H:=H) (E:=E);refine {_,(W.h (zi (zC (i:=2) AE.nd rfl (OM rfl) (aX (bc 'f' T.za S Zq hr)))
   (zi (zW (tD (aP (clO Bm) (clE (zb 2)) (clE (zb 1)) (aE _)))
   (zm (dh rfl S T.L4 rfl T.Ur (zd zH ze)))
   z7)
   (zm (zA (zb 2)))))),?_}
 obtain ⟨dx,wl,pre,e1,e2,hl⟩:=Z.ex;erw [e1,Bs];refine {p,ws,rfl,Z,λz r G H1 J O=>?_,λG H1 J=>?_}
 .ac_rfl;by_cases lt:y.cps.toList<z.cps.toList
  .rw [decide_eq_true lt];ac_rfl;exact q z r (by unfold cL;rw [G];exact if_pos lt) H1 J O
  .rw [decide_eq_false lt];ac_rfl;exact {'d',U (by unfold cL;rw [G];exact if_neg lt) H1 J}
 .ac_rfl;exact {_,rfl,U (by unfold cL;rw [G]) H1 J}
end
abbrev rh:Stmt:=zP (top 32) 0
theorem l7:∀{l:List Nat}{v:List Nat},v∈ao c l->v.length<=l.length/\∀x∈v,x∈l
 | [],v,h=>by
  have:=O3.mp h;subst this;exact {Ov _,λ_ h=>h}
 | y::l,v,h=>by
  by_cases e:y=c
  .have es:ao c (y::l)=[]::ao c l:=if_pos e;rw [es] at h;rcases OL.mp h with rfl|h
   .exact {Pp _,λ_ h=>nomatch h}
   .have:=l7 h;exact {Nat.le_succ_of_le this.1,λx hx=>Oz _ (this.2 x hx)}
  .rw [eK c y l e] at h;obtain ⟨a,r,F⟩:=dO c l;rw [F] at h;rcases OL.mp h with rfl|h
   .have:=l7 (v:=a) (by rw [F];exact OI ..);exact {T1 this.1,λx hx=>(OL.mp hx).elim (λz=>z ▸ OI ..) λz=>Oz _ (this.2 x z)}
   .have:=l7 (v:=v) (by rw [F];exact Oz _ h);exact {Nat.le_succ_of_le this.1,λx hx=>Oz _ (this.2 x hx)}
def wds(z:Str):List Str:=Qo z " "
theorem dk(z:Str):wds z=(ao 32 (sg z)).map tx:=(congrArg (Qo z) (show (" ":Str)=c1 32 from by decide)).trans (mh z 'd')
theorem sY(h:v∈wds z):v.length<=z.length/\∀x∈sg v,x∈sg z:=by
 rw [dk] at h;obtain ⟨l,hl,rfl⟩:=Po.mp h;have:=l7 hl;rw [<- aa,<- aa,bz];exact this
theorem JV(z:Str):wds z≠[]:=by
 rw [dk];obtain ⟨a,r,e⟩:=dO 32 (sg z);rw [e];simp
section
variable {P:OF}{w:OS}{K:Frag}{mg:Str->Option Value}{base:Heap}{A:zh}
noncomputable def wH(A:zh):Sp:=λvs H Q _=>∃(p dx:Addr)(z:Str),vs=[.ref p,.str z]/\H p=some (.ins A.Words dx [])/\asc z=true/\z.length<=100000/\(wds z).length<=4000/\∀H',But p H H'->zV A H' p (wds z)->Q .non H'
theorem CO:zx WD WD (zo rh):=fsc
theorem Ma(F:Fun K Wc "Words.__init__" rh f fd)(T:Txt K mg A):zq P w K mg base CX0 true 1 f fd WD (wH A):=by
 refine F.o CO λU S outer s H vs Q E hr h=>?_;obtain ⟨p,dx,z,rfl,hp,ha,hz,hl,q⟩:=h;refine {_,(W.h (zi (sfD (ar T.za T.UE 'f' (clE (DX (zb 1) zH))))
   (zm (sfD (ar T.za T.Uv 'f' (clE zD)))))),?_}
 ac_rfl;refine {'d',cG 'l',bS (by show (wds z).length<=_;lia),λl H2 G=>{dx,[],G.same _ _ hp,'d',dx,_,zt,by show 1<1000;decide,?_}};have O:zG ("taken":Str) (V.int 0) (zG ("words":Str) (V.ref l) [])=cV l 0:=by kernel_rfl
 rw [O];have J:l≠p:=λz=>by have:=G.no;rw [z,hp] at this;cases this
 exact q _ (λa o n e=>by rw [zg n,zg n];exact G.same _ _ e) {{dx,l,[],by rw [zt];rfl,by rw [zg J,zg J];exact G.at_,hl,JV z},λv hv=>{m6 ha (sY hv).2,Pt (sY hv).1 hz}}
abbrev lB:Stmt:=top 59
noncomputable def bH:Nat->List Int->List Str->Option (List Int×List Str)
 | 0,l,ws=>some (l,ws)
 | n+1,l,ws=>(zT ws).bind λa=>bH n (l++[a.1]) a.2
noncomputable def bh:Nat->Tab->Str->List Str->Option (Tab×List Str)
 | 0,t,_,ws=>some (t,ws)
 | n+1,t,y,ws=>(cL y ws).bind λa=>(zT a.2).bind λb=>if b.1=0 then none else (bH b.1.toNat [] b.2).bind λc=>bh n (zN t a.1 c.1) a.1 c.2
noncomputable def rdT(ws:List Str):Option (Tab×List Str):=(zT ws).bind λa=>bh a.1.toNat [] "" a.2
theorem cx{ws r:List Str}(h:zT ws=some (i,r)):ws.length=r.length+1:=by
 cases ws with
 | nil=>cases h
 | cons z ws =>
  have h:(if zU z=true then some ((QK z).getD 0,ws) else none)=some (i,r):=h;split at h
  .injection h with h;injection h with _ h;rw [h];rfl
  .cases h
theorem mK{ws r:List Str}(h:cL y ws=some (z,r)):ws.length=r.length+1/\y.cps.toList<z.cps.toList:=by
 unfold cL at h;cases ws with
 | nil=>cases h
 | cons v ws =>
  have e:jo (v::ws)=if aV v=true then some (v,ws) else none:=rfl;rw [e] at h;split at h
  .cases h
  .rename_i a b c;split at h
   .injection h with h;injection h with h1 h2
    split at c
    .injection c with c;injection c with c1 c2
     subst h1 h2;exact {by rw [<- c2];rfl,by assumption}
    .cases c
   .cases h
theorem He{α:Type}{t:List (Str×α)}{a b:α}:zN (zN t n a) n b=zN t n b:=by
 have hs:(look (zN t n a) n).isSome=true:=by rw [yj,if_pos rfl];rfl
 have e:zN (zN t n a) n b=(zN t n a).map λp=>if p.1=n then (p.1,b) else p:=if_pos hs;rw [e];by_cases h:(look t n).isSome
 .have F:zN t n a=t.map λp=>if p.1=n then (p.1,a) else p:=if_pos h;have G:zN t n b=t.map λp=>if p.1=n then (p.1,b) else p:=if_pos h;rw [F,G,QN];refine Qk λp _=>?_;show (if (if p.1=n then (p.1,a) else p).1=n then ((if p.1=n then (p.1,a) else p).1,b) else (if p.1=n then (p.1,a) else p))=_;by_cases hp:p.1=n
  .simp only [if_pos hp]
  .simp only [if_neg hp]
 .have F:zN t n a=t++[(n,a)]:=if_neg h;have G:zN t n b=t++[(n,b)]:=if_neg h;rw [F,G,PN];have J:(t.map λp=>if p.1=n then (p.1,b) else p)=t:=by
   refine (Qk λp hp=>?_).trans (Ul t);have:p.1≠n:=λz=>by
    have:=fb.mp (Option.not_isSome_iff_eq_none.mp h);exact this (by rw [<- z];exact Po.mpr {p,hp,rfl})
   exact if_neg this
  rw [J];exact congrArg (t++·) (by show [if n=n then (n,b) else (n,a)]=_;rw [if_pos rfl])
theorem Oh{b k wl:Addr}:zR b k≠cV wl i:=by
 intro h;have h1:(zR b k).map (·.1)=(cV wl i).map (·.1):=by rw [h]
 have h2:("births":Str)=("words":Str):=by injection h1
 exact absurd h2 'd'
theorem But.fresh{p b:Addr}(x:But p H H1)(y:But b H1 H2)(n:H b=none):But p H H2:=λa o F e=>y a o (λz=>by rw [<- z,e] at n;cases n) (x a o F e)
noncomputable def eJ{α:Type}(u:List (Str×α))(y:Str):Prop:=∀m∈names u,¬ y.cps.toList<m.cps.toList
theorem eJ.new{α:Type}{u:List (Str×α)}(h:eJ u y)(l:y.cps.toList<n.cps.toList):look u n=none:=fb.mpr λz=>h n z l
theorem eJ.put{α:Type}{u:List (Str×α)}{a:α}(h:eJ u y)(l:y.cps.toList<n.cps.toList):eJ (zN u n a) n:=λm F z=>by
 rw [Be,h.new l] at F;rcases Pi.mp F with F|F
 .exact h m F (List.lt_trans l z)
 .rw [O3.mp F] at z;exact List.lt_irrefl _ z
theorem zV.ne{p q b k dx:Addr}(h:zV A H p ws)(e:H q=some (.ins A.zw dx (zR b k))):q≠p:=λz=>by
 obtain ⟨G,wl,pre,F,_⟩:=h.ex;rw [z,F] at e;injection e with e
 injection e with _ _ e
 exact Oh e.symm
theorem zV.fz{p q:Addr}(h:zV A H p ws)(e:H q=some (.dK kvs)):q≠p:=λz=>by
 obtain ⟨G,wl,pre,F,_⟩:=h.ex;rw [z,F] at e;cases e
theorem zV.nf{p q:Addr}{o:Obj}(h:zV A H p ws)(e:H q=some (.frz o (.dK kvs))):q≠p:=λz=>by
 obtain ⟨G,wl,pre,F,_⟩:=h.ex;rw [z,F] at e;cases e
theorem zV.nt{p:Addr}(h:zV A H p ws)(xs:List V):H p≠some (.tup xs):=λz=>by
 obtain ⟨G,wl,pre,F,_⟩:=h.ex;rw [F] at z;cases z
theorem aN.bF{p q b k:Addr}{t:Tab}(h:aN A H q b k t)(s:But p H H')(hp:zV A H p ws):aN A H' q b k t:=by
 obtain ⟨dx,e⟩:=h.ob;have hd:∀a kvs,Rd H a (.dK kvs)->Rd H' a (.dK kvs):=λa kvs r=>r.elim (λe=>.inl (s _ _ (hp.fz e) e)) (λ⟨o,e⟩=>.inr {o,s _ _ (hp.nf e) e});obtain ⟨kvs,z,d⟩:=h.xy.ex;exact {{dx,s _ _ (hp.ne e) e},{{kvs,hd _ _ z,d.imp λv a r=>r.but s hp.nt},h.xy.nd},hd _ _ h.kept}
theorem zS.bF{p q b k:Addr}{t:Tab}(h:zS A H q b k t ks)(s:But p H H')(hp:zV A H p ws):zS A H' q b k t ks:=by
 obtain ⟨dx,e⟩:=h.ob;obtain ⟨kvs,z,d⟩:=h.xy.ex;obtain ⟨kk,F,O⟩:=h.kept;exact {{dx,s _ _ (hp.ne e) e},{{kvs,s _ _ (hp.fz z) z,d.imp λv a r=>r.but s hp.nt},h.xy.nd},{kk,s _ _ (hp.fz F) F,O.imp λv a ⟨q,J,k',G,r,n⟩=>{q,J,k',G,r.bF s hp,n}},h.ef,h.ne}
structure IF(A:zh)(H:Hp)(p q b k:Addr)(N:Nat)(R:Option (Tab×List Str))(m:Nat)(i:Nat)(σ:L2.St)(H':Hp):Prop where
 ex:∃y ws u t1 t2 t3,σ=[some (V.ref p),some (.ref q),some (.str y),t1,t2,t3]/\zV A H' p ws/\zS A H' q b k u []/\bh (N-i) u y ws=R/\u.length+ws.length<=m/\eJ u y
 but:But p H H'
structure DD(A:zh)(H:Hp)(p q b k:Addr)(M:Int)(n:Str)(u:Tab)(R:Option (List Int×List Str))(m:Nat)(j:Nat)(σ:L2.St)(H':Hp):Prop where
 ex:∃l ws u' t1 t3,σ=[some (V.ref p),some (.ref q),some (.str n),t1,some (.int M),t3]/\zV A H' p ws/\zS A H' q b k u' []/\bH (M.toNat-j) l ws=R/\l.length=j/\j+ws.length<=m/\lk u' n=l/\(∀l',zN u' n l'=zN u n l')/\(0<j->u'=zN u n l)/\u'.length<=u.length+1
 but:But p H H'
noncomputable def wo(A:zh):Sp:=λvs H Q E=>∃(p:Addr)(ws:List Str),vs=[.ref p]/\zV A H p ws/\ws.length<=3003/\(∀u r,rdT ws=some (u,r)->∀q b k H',But p H H'->H q=none->H b=none->H k=none->zS A H' q b k u []->zV A H' p r->Q (.ref q) H')/\(rdT ws=none->∀H',But p H H'->E (.ref A.NoPart) none H')
theorem gy:zx Wo Wx (zo lB):=fsc
theorem HL(F:Fun K VG VG lB f fd)(T:Txt K mg A)(Ze:GC P w K mg base true 1 "Files" A.zw Zf (kI A))(Z8:GMX P w K mg base true 3 A.Words V3 Zf (jF A))(ZT:GX P w K mg base true 4 V4 Wk (oo A))(YJ:GM P w K mg base true 4 A.zw "put" Wt (sT A)):zq P w K mg base (CXW P w) true 5 f fd Wx (wo A):=by
 refine F.oW gy λZ2 Ar outer s H vs Q E hr h=>?_;obtain ⟨p,ws,rfl,hW,hl,q,qe⟩:=h;have hu:_<cLine:=Ql (bB hr);have Th:=bA (cm:=true) (P:=P) (w:=w) (K:=K) (mg:=mg) (base:=base) (N:=Wo) (qual:=VG) (scope:=zo lB) (f:=f) (cd:=Z2) (A:=Ar) (outer:=outer) (s:=s) (H:=H) (E:=E);refine {_,(W.h (zi (zC (i:=1) gy.nd rfl (OM rfl) (ni Ze hr rfl))
   (zi (zC (i:=2) gy.nd rfl (OM rfl) zH)
   (zi (kh Th (cF (lT rfl (λok=>ok.frames) rfl) (λ_=>rfl) (dF rfl T.Uy (zd (aX (bc 'f' T.za cX Z8 hr)) ze)) (zJ (i:=3) gy.nd rfl (OM rfl))
   (zi (zC (i:=2) gy.nd rfl (OM rfl) (cXD (de cX ZT hr rfl (clP (zd (zb 0) (zd (zb 2) ze))))))
   (zi (zC (i:=4) gy.nd rfl (OM rfl) (aX (bc 'f' T.za cX Z8 hr)))
   (zi (zW (tD (aP (clO (oE (eS hu))) (clE (zb 4)) (clE zD) (aE _)))
   (zm (dh rfl cX T.L4 rfl T.Ur (zd zH ze)))
   z7)
   (zm (kh cX (cF (lT rfl (λok=>ok.frames) rfl) (λ_=>rfl) (dF rfl T.Uy (zd (zb 4) ze)) (zJ (i:=5) gy.nd rfl (OM rfl))
   (zm (ae (mD (cn (clE (zb 1)) T.tr YJ hr (clP (zd (zb 2) (zd (zb 5) (zd (aX (bc 'f' T.za cX Z8 hr)) ze))))))))))))))))
   (zm (zA (zb 1))))))),?_}
 ac_rfl;refine λx XQ H2 nI=>{x,XQ,rfl,nI.at_,λb1 k1 H3 s3 nb nk eb ek a0 ex=>{rfl,?_}};have px:∀c o,H c=some o->c≠x:=λc o e z=>by have:=nI.no;rw [<- z,e] at this;cases this
 have WM:zj H H3:=λc o e=>s3 c o (px c o e) (nI.same c o e);have b0:H b1=none:=nI.same.free nb;have k0:H k1=none:=nI.same.free nk;have F3:zS A H3 x b1 k1 [] []:={⟨XQ,ex⟩,{{[],eb,.nil},by simp [names]},{[],ek,.nil},by simp [names],a0};have W3:=hW.same WM;obtain ⟨dx,wl,pre,e1,e2,r⟩:=W3.ex;erw [e1,eB];refine {p,ws,rfl,W3,λN r1 eN N0 N1 H4 b4 a9=>?_,λeN H4 b4=>?_}
 rotate_left
 .ac_rfl;exact {_,rfl,qe (by unfold rdT;rw [eN];rfl) H4 ((But.of WM).trans b4)}
 have F4:=F3.bF b4 W3;have eT:rdT ws=bh N.toNat [] "" r1:=by unfold rdT;rw [eN];rfl
 rw [eT] at qe;have l1:=cx eN;ac_rfl;have a6:But p H H4:=(But.of WM).trans b4;refine {'l','l',bu.rng (IF A H p x b1 k1 N.toNat (bh N.toNat [] "" r1) 3002) {{_,r1,[],_,_,_,rfl,a9,F4,rfl,by simp;lia,λm hm=>nomatch hm},a6} ?_ ?_}
 .rintro i σ H' hi ⟨⟨y,WJ,u,t1,t2,t3,rfl,J,U,hR,hm,hy⟩,bt⟩;obtain ⟨c,hc⟩:∃c,N.toNat-i=c+1:={N.toNat-i-1,'l'};rw [hc] at hR;ac_rfl;refine {p,y,WJ,rfl,J,λn r2 e5 H5 b5 ai=>?_,λe5 H5 b5=>?_}
  rotate_left
  .ac_rfl;exact {_,rfl,qe (by rw [<- hR];unfold bh;rw [e5];rfl) H5 (bt.trans b5)}
  have F5:=U.bF b5 J;obtain ⟨l5,av⟩:=mK e5;obtain ⟨bx,b3,bp,WI,_⟩:=ai.ex;erw [WI,eB];refine {p,r2,rfl,ai,λM r3 e6 M0 M1 H6 b6 aT=>?_,λe6 H6 b6=>?_}
  rotate_left
  .ac_rfl;exact {_,rfl,qe (by rw [<- hR];unfold bh;rw [e5];show (zT r2).bind _=_;rw [e6];rfl) H6 ((bt.trans b5).trans b6)}
  have F6:=F5.bF b6 ai;have l6:=cx e6;have G:(if M=0 then none else (bH M.toNat [] r3).bind λc'=>bh c (zN u n c'.1) n c'.2)=bh N.toNat [] "" r1:=by
   rw [<- hR];conv=>rhs;unfold bh
   rw [e5];show _=(zT r2).bind _;rw [e6];rfl
  by_cases hM:M=0
  .subst hM;rw [if_pos rfl] at G;erw [decide_true];exact {'d',qe G.symm H6 ((bt.trans b5).trans b6)}
  rw [if_neg hM] at G;erw [decide_eq_false hM];have nu:look u n=none:=hy.new av;refine {'l','l',bu.rng (DD A H p x b1 k1 M n u (bH M.toNat [] r3) r3.length) {{[],r3,u,_,_,rfl,aT,F6,rfl,rfl,'l',by unfold lk;rw [nu];rfl,λ_=>rfl,λz=>absurd z 'l','l'},(bt.trans b5).trans b6} ?_ ?_}
  .rintro j σ H' hj ⟨⟨l,Z,u',t1,t3,rfl,J,U,hN,ax,a4,S,O,aI,a5⟩,bt⟩;obtain ⟨bP,a8⟩:=U.ob;obtain ⟨bL,b2,bf,a7,_⟩:=J.ex;obtain ⟨d,hd⟩:∃d,M.toNat-j=d+1:={M.toNat-j-1,'l'};rw [hd] at hN;erw [a8,a7,MY,eB];refine {p,Z,rfl,J,λv r5 e8 v0 v1 H8 b8 ba=>?_,λe8 H8 b8=>?_}
   rotate_left
   .ac_rfl;exact {_,rfl,qe (by rw [<- G,<- hN];unfold bH;rw [e8];rfl) H8 (bt.trans b8)}
   have F8:=U.bF b8 J;have l8:=cx e8;have ej:(0+(j:Int)).toNat=j:=by lia
   ac_rfl;refine {x,b1,k1,u',[],n,_,v,rfl,F8,'l',?_,?_,?_,λH9 b9 F9=>?_}
   .rw [S];lia
   .rw [S];lia
   .lia
   .rw [ej,S,Rk 'l',O4 'l',Qa] at F9;obtain ⟨bq,a3,_⟩:=F8.xy.ex;refine {{l++[v],r5,_,_,_,rfl,ba.but b9 {_,a3},F9,?_,by simp [ax],'l',?_,λl'=>?_,λ_=>?_,?_},(bt.trans b8).fresh b9 b0}
    .rw [<- hN];conv=>rhs;unfold bH
     rw [e8,show M.toNat-(j+1)=d from by lia];rfl
    .unfold lk;rw [yj,if_pos rfl];rfl
    .rw [He,O]
    .exact O _
    .rw [O];exact qh
  .rintro σ H' ⟨⟨l,Z,u',t1,t3,rfl,J,U,hN,ax,a4,S,O,aI,a5⟩,bt⟩;have h3:=aI 'l';subst h3;rw [TN] at hN;rw [<- hN] at G;refine {{n,Z,_,_,_,_,rfl,J,U,?_,?_,hy.put av},bt}
   .rw [show N.toNat-(i+1)=c from by lia];exact G
   .have:=qh (t:=u) (n:=n) (a:=l);lia
 .rintro σ H' ⟨⟨y,WJ,u,t1,t2,t3,rfl,J,U,hR,hm,hy⟩,bt⟩;rw [TN] at hR;ac_rfl;exact q u WJ (eT.trans hR.symm) x b1 k1 H' bt nI.no b0 k0 U J
abbrev mM:Stmt:=top 58
noncomputable def rdK:Nat->List (Str×Tab)->Str->List Str->Option (List (Str×Tab)×List Str)
 | 0,ks,_,ws=>some (ks,ws)
 | n+1,ks,y,ws=>(cL y ws).bind λa=>(rdT a.2).bind λc=>rdK n (zN ks a.1 c.1) a.1 c.2
noncomputable def rdF(ws:List Str):Option ((Tab×List (Str×Tab))×List Str):=(rdT ws).bind λa=>(zT a.2).bind λb=>(rdK b.1.toNat [] "" b.2).map λc=>((a.1,c.1),c.2)
theorem bind_some{α β:Type}{x:Option α}{f:α->Option β}{b:β}(h:x.bind f=some b):∃a,x=some a/\f a=some b:=by
 cases x with
 | none=>cases h
 | some a=>exact {a,rfl,h}
theorem wj:∀{n:Nat}{l z:List Int}{ws r:List Str},bH n l ws=some (z,r)->r.length<=ws.length
 | 0,_,_,_,_,h=>by injection h with h;injection h with _ h;rw [h];exact Ov _
 | n+1,l,z,ws,r,h=>by
  obtain ⟨⟨i,r1⟩,e,h⟩:=bind_some h;have:=cx e;have h:bH n (l++[i]) r1=some (z,r):=h;have:=wj h;lia
theorem vp:∀{n:Nat}{t u:Tab}{y:Str}{ws r:List Str},bh n t y ws=some (u,r)->r.length<=ws.length
 | 0,_,_,_,_,_,h=>by injection h with h;injection h with _ h;rw [h];exact Ov _
 | n+1,t,u,y,ws,r,h=>by
  obtain ⟨⟨z,r1⟩,e,h⟩:=bind_some h;obtain ⟨⟨i,r2⟩,G,h⟩:=bind_some h;have h:(if i=0 then none else (bH i.toNat [] r2).bind λc=>bh n (zN t z c.1) z c.2)=some (u,r):=h;split at h
  .cases h
  .obtain ⟨⟨l,J⟩,F,h⟩:=bind_some h;have:=mK e;have:=cx G;have:=wj F;have:=vp h;simp only at *
   lia
theorem mB{ws r:List Str}(h:rdT ws=some (u,r)):r.length+1<=ws.length:=by
 obtain ⟨⟨i,r1⟩,e,h⟩:=bind_some h;have:=cx e;have:=vp h;simp only at *
 lia
structure GT(A:zh)(H:Hp)(p q b k:Addr)(t:Tab)(N:Nat)(R:Option (List (Str×Tab)×List Str))(i:Nat)(σ:L2.St)(H':Hp):Prop where
 ex:∃y ws us t1,σ=[some (V.ref p),some (.ref q),some (.str y),t1]/\zV A H' p ws/\zS A H' q b k t us/\rdK (N-i) us y ws=R/\us.length+ws.length<=3001
 but:But p H H'
noncomputable def vA(A:zh):Sp:=λvs H Q E=>∃(p:Addr)(ws:List Str),vs=[.ref p]/\zV A H p ws/\ws.length<=3003/\(∀u us r,rdF ws=some ((u,us),r)->∀q b k H',But p H H'->H q=none->H b=none->H k=none->zS A H' q b k u us->zV A H' p r->Q (.ref q) H')/\(rdF ws=none->∀H',But p H H'->E (.ref A.NoPart) none H')
theorem iF:zx ["words",V8,"name","number"] Wx (zo mM):=fsc
theorem Nk(F:Fun K VH VH mM f fd)(T:Txt K mg A)(Zd:GX P w K mg base true 5 VG Wx (wo A))(Z8:GMX P w K mg base true 3 A.Words V3 Zf (jF A))(ZT:GX P w K mg base true 4 V4 Wk (oo A))(YW:GM P w K mg base true 4 A.zw "keep" Wv (yE A)):zq P w K mg base (CXW P w) true 6 f fd Wx (vA A):=by
 refine F.oW iF λZ2 Ar outer s H vs Q E hr h=>?_;obtain ⟨p,ws,rfl,hW,hl,q,J⟩:=h;have Th:=bA (cm:=true) (P:=P) (w:=w) (K:=K) (mg:=mg) (base:=base) (N:=["words",V8,"name","number"]) (qual:=VH) (scope:=zo mM) (f:=f) (cd:=Z2) (A:=Ar) (outer:=outer) (s:=s) (H:=H) (E:=E);refine {_,(W.h (zi (zC (i:=1) iF.nd rfl (OM rfl) (cXD (de Th Zd hr rfl (clP (zd (zb 0) ze)))))
   (zi (zC (i:=2) iF.nd rfl (OM rfl) zH)
   (zi (kh Th (cF (lT rfl (λok=>ok.frames) rfl) (λ_=>rfl) (dF rfl T.Uy (zd (aX (bc 'f' T.za cX Z8 hr)) ze)) (zJ (i:=3) iF.nd rfl (OM rfl))
   (zi (zC (i:=2) iF.nd rfl (OM rfl) (cXD (de cX ZT hr rfl (clP (zd (zb 0) (zd (zb 2) ze))))))
   (zm (ae (mD (cn (clE (zb 1)) T.tr YW hr (clP (zd (zb 2) (zd (cXD (de cX Zd hr rfl (clP (zd (zb 0) ze)))) ze))))))))))
   (zm (zA (zb 1))))))),?_}
 ac_rfl;refine {p,ws,rfl,hW,hl,λu r1 S x b1 k1 H3 U x0 b0 k0 F3 W3=>?_,λS H3 b3=>?_}
 rotate_left
 .ac_rfl;exact {_,rfl,J (by unfold rdF;rw [S];rfl) H3 b3}
 have l1:=mB S;obtain ⟨dx,wl,pre,e1,e2,r⟩:=W3.ex;erw [e1,eB];refine {p,r1,rfl,W3,λN r2 eN N0 N1 H4 b4 aI=>?_,λeN H4 b4=>?_}
 rotate_left
 .ac_rfl;exact {_,rfl,J (by unfold rdF;rw [S];show (zT r1).bind _=_;rw [eN];rfl) H4 (U.trans b4)}
 have F4:=F3.bF b4 W3;have l2:=cx eN;have eF:rdF ws=(rdK N.toNat [] "" r2).map λc=>((u,c.1),c.2):=by unfold rdF;rw [S];show (zT r1).bind _=_;rw [eN];rfl
 rw [eF] at J;ac_rfl;refine {'l','l',bu.rng (GT A H p x b1 k1 u N.toNat (rdK N.toNat [] "" r2)) {{_,r2,[],_,rfl,aI,F4,rfl,by simp;lia},U.trans b4} ?_ ?_}
 .rintro i σ H' hi ⟨⟨y,WJ,us,t1,rfl,XX,hF,z,hm⟩,bt⟩;obtain ⟨c,hc⟩:∃c,N.toNat-i=c+1:={N.toNat-i-1,'l'};rw [hc] at z;ac_rfl;refine {p,y,WJ,rfl,XX,λn r3 Z H5 G av=>?_,λZ H5 G=>?_}
  rotate_left
  .ac_rfl;exact {_,rfl,J (by rw [<- z];unfold rdK;rw [Z];rfl) H5 (bt.trans G)}
  have F5:=hF.bF G XX;obtain ⟨l5,a3⟩:=mK Z;obtain ⟨a4,WI⟩:=F5.ob;erw [WI,Gu];refine {p,r3,rfl,av,'l',λv r4 e6 q6 b6 k6 H6 ai _ _ _ F6 ax=>?_,λe6 H6 b6=>?_}
  rotate_left
  .ac_rfl;exact {_,rfl,J (by rw [<- z];unfold rdK;rw [Z];show ((rdT r3).bind _).map _=_;rw [e6];rfl) H6 ((bt.trans G).trans b6)}
  have O:=F5.bF ai av;have l6:=mB e6;obtain ⟨a0,aT,_⟩:=O.kept;ac_rfl;refine {x,b1,k1,u,us,n,q6,v,rfl,O,F6.has,'l',λH7 b7 F7 _=>{{n,r4,_,_,rfl,ax.but b7 {_,aT},F7,?_,?_},((bt.trans G).trans ai).fresh b7 k0}}
  .rw [<- z];conv=>rhs;unfold rdK
   rw [Z,show N.toNat-(i+1)=c from by lia];show _=(rdT r3).bind _;rw [e6];rfl
  .have:=qh (t:=us) (n:=n) (a:=v);lia
 .rintro σ H' ⟨⟨y,WJ,us,t1,rfl,XX,hF,z,hm⟩,bt⟩;rw [TN] at z;ac_rfl;exact q u us WJ (by rw [eF,<- z];rfl) x b1 k1 H' bt x0 b0 k0 hF XX
end
theorem ij(c:Nat)(t:List Nat):ao c (c::t)=[]::ao c t:=if_pos rfl
theorem xm:∀l:List Nat,(ao c l).length=l.count c+1/\((ao c l).map R8).sum+l.count c=l.length
 | []=>{rfl,rfl}
 | x::l=>by
  have z:=xm (c:=c) l;by_cases e:x=c
  .subst e;rw [ij,List.count_cons_self];simp only [Pn,PY,List.sum_cons,So];lia
  .obtain ⟨a,r,F⟩:=dO c l;rw [eK c x l e,List.count_cons_of_ne e];rw [F] at z ⊢;show ((x::a)::r).length=_/\(List.map R8 ((x::a)::r)).sum+_=_;simp only [Pn,PY,List.sum_cons] at z ⊢;lia
noncomputable def Fst(c:Nat)(l:List Nat):List Nat:=(ao c l).headD []
noncomputable def Tls(c:Nat)(l:List Nat):List (List Nat):=(ao c l).tail
section
variable {c:Nat}
theorem eR(l:List Nat):ao c l=Fst c l::Tls c l:=by
 unfold Fst Tls;obtain ⟨a,r,z⟩:=dO c l;rw [z];rfl
theorem hU(l:List Nat):Tls c (c::l)=ao c l:=by unfold Tls;rw [ij];rfl
theorem lU(l:List Nat):Fst c (c::l)=[]:=by unfold Fst;rw [ij];rfl
theorem lO(e:x≠c)(l:List Nat):Tls c (x::l)=Tls c l:=by
 unfold Tls;obtain ⟨a,r,z⟩:=dO c l;rw [eK c x l e,z];rfl
theorem v9(e:x≠c)(l:List Nat):Fst c (x::l)=x::Fst c l:=by
 unfold Fst;obtain ⟨a,r,z⟩:=dO c l;rw [eK c x l e,z];rfl
theorem DR(x l:List Nat):∀v∈Tls c l,v∈Tls c (x++l):=by
 induction x with
 | nil=>exact λv h=>h
 | cons y x z =>
  intro v hv;rw [QS];by_cases e:y=c
  .subst e;rw [hU,eR];exact Oz _ (z v hv)
  .rw [lO e];exact z v hv
theorem Kl(a x d b:List Nat)(hx:x.length<=1):∃N:List (List Nat),N.length<=2/\∀v∈ao c (a++x++b),v∈ao c (a++d++b)\/v∈N:=by
 have z:∃N:List (List Nat),N.length<=1/\∀v∈Tls c (x++b),v∈Tls c (d++b)\/v∈N:=by
  have h:=DR (c:=c) d b
  match x,hx with
  | [],_=>exact {[],Pp _,λv hv=>.inl (h v hv)}
  | [y],_ =>
   by_cases e:y=c
   .subst e;refine {[Fst y b],Ov _,λv hv=>?_};have hv:v∈Tls y (y::b):=hv;rw [hU,eR] at hv;rcases OL.mp hv with rfl|hv
    .exact .inr (O3.mpr rfl)
    .exact .inl (h v hv)
   .refine {[],Pp _,λv hv=>?_};have hv:v∈Tls c (y::b):=hv;rw [lO e] at hv;exact .inl (h v hv)
 have h1:∃N:List (List Nat),(∀v∈Tls c (a++(x++b)),v∈Tls c (a++(d++b))\/v∈N)/\(N.length<=1\/(N.length<=2/\Fst c (a++(x++b))=Fst c (a++(d++b)))):=by
  induction a with
  | nil=>obtain ⟨N,h2,h3⟩:=z;exact {N,h3,.inl h2}
  | cons y a F =>
   obtain ⟨N,h2,h3⟩:=F;rw [QS,QS];by_cases e:y=c
   .subst e;rcases h3 with h3|⟨h3,h4⟩
    .refine {Fst y (a++(x++b))::N,λv hv=>?_,.inr {T1 h3,by rw [lU,lU]}};rw [hU,eR] at hv;rw [hU,eR (a++(d++b))];rcases OL.mp hv with rfl|hv
     .exact .inr (OI ..)
     .exact (h2 v hv).imp (Oz _) (Oz _)
    .refine {N,λv hv=>?_,.inr {h3,by rw [lU,lU]}};rw [hU,eR] at hv;rw [hU,eR (a++(d++b))];rcases OL.mp hv with rfl|hv
     .exact .inl (by rw [h4];exact OI ..)
     .exact (h2 v hv).imp (Oz _) id
   .rw [lO e,lO e,v9 e,v9 e];exact {N,h2,h3.imp id λ⟨h,e⟩=>{h,by rw [e]}}
 obtain ⟨N,h2,h3⟩:=h1;rw [Pw,Pw,eR,eR (a++(d++b))];rcases h3 with h3|⟨h3,h4⟩
 .refine {Fst c (a++(x++b))::N,T1 h3,λv hv=>?_};rcases OL.mp hv with rfl|hv
  .exact .inr (OI ..)
  .exact (h2 v hv).imp (Oz _) (Oz _)
 .refine {N,h3,λv hv=>?_};rcases OL.mp hv with rfl|hv
  .exact .inl (by rw [h4];exact OI ..)
  .exact (h2 v hv).imp (Oz _) id
theorem jy(r:List Nat):∀a:List Nat,ao c (a++c::r)=ao c a++ao c r
 | []=>by rw [RW,ij];rfl
 | y::a=>by
  rw [QS];by_cases e:y=c
  .rw [e,ij,ij,jy r a];rfl
  .obtain ⟨h,t,z⟩:=dO c a;rw [eK c y _ e,eK c y _ e,jy r a,z];rfl
theorem Hs(h:c∉a)(b:List Nat):ao c (a++b)=(a++Fst c b)::Tls c b:=by
 induction a with
 | nil=>exact eR b
 | cons y a z =>
  rw [OL,not_or] at h;rw [QS,eK c y _ (Pd h.1),z h.2];rfl
end
theorem iA(z:Str):(wds z).length=(sg z).count 32+1:=by rw [dk,OA];exact (xm _).1
theorem uZ:∀(v:Str)(ws:List Str),sg (QY " " (v::ws))=sg v++((ws.map sg).map (32::·)).flatten:=by
 intro v ws;have e:QY " " (v::ws)=Str.join " " (v::ws):=StrLaws.glued_eq_join " " (v::ws);rw [e]
 induction ws generalizing v with
 | nil=>show sg v=_;simp
 | cons x ws z =>
  have z:=z x (StrLaws.glued_eq_join " " _);show sg (v++" "++Str.join " " (x::ws))=_;rw [ck,ck,z];have:sg (" ":Str)=[32]:=by decide
  rw [this];simp
noncomputable def GdT(t:Tab):Prop:=∀p∈t,aV p.1=true/\∀x∈p.2,0<=x/\x<10 ^ 18
structure Bud(t:Tab)(ks:List (Str×Tab))(B:Nat):Prop where
 few:t.length<=B
 row:∀n,(lk t n).length<=B
 live:∃L:List Int,L.length<=B/\∀y∈aJ t ks,y∈L
 ne:∀n l,look t n=some l->l≠[]
 old:∀p∈ks,p.2.length<=B/\∀m,(lk p.2 m).length<=B
 gt:GdT t
 gk:∀p∈ks,aV p.1=true/\GdT p.2/\∀n l,look p.2 n=some l->l≠[]
theorem lM{t:Tab}:y∈aA t↔∃p∈t,y∈p.2:=by unfold aA;exact Tg
theorem eY{t:Tab}:y∈aJ t ks↔y∈aA t\/∃p∈ks,y∈aA p.2:=by
 unfold aJ;rw [Pi,Tg]
theorem Bud.sub{t:Tab}(h:Bud t ks B)(s:∀p∈ks',p∈ks\/(p.2=t/\aV p.1=true)):Bud t ks' B:=by
 obtain ⟨L,G,F⟩:=h.live;refine {h.few,h.row,{L,G,λy z=>?_},h.ne,λp hp=>(s p hp).elim (h.old p) λe=>by rw [e.1];exact ⟨h.few,h.row⟩,h.gt,λp hp=>(s p hp).elim (h.gk p) λe=>by rw [e.1];exact ⟨e.2,h.gt,h.ne⟩};rcases eY.mp z with z|⟨p,hp,z⟩
 .exact F y (eY.mpr (.inl z))
 .rcases s p hp with hp|e
  .exact F y (eY.mpr (.inr ⟨p,hp,z⟩))
  .rw [e.1] at z;exact F y (eY.mpr (.inl z))
theorem mP{α:Type} [DecidableEq α]:∀{xs L:List α},xs.Nodup->(∀y∈xs,y∈L)->xs.length<=L.length
 | [],_,_,_=>Pp _
 | x::xs,L,nd,s=>by
  have F:=RV.mp nd;have hx:x∈L:=s x OI;have h1:=mP (xs:=xs) (L:=L.erase x) F.2 λy G=>(List.mem_erase_of_ne (λz:y=x=>F.1 (by rw [<- z];exact G))).mpr (s y (Oz _ G));rw [List.length_erase_of_mem hx] at h1;have:=List.length_pos_of_mem hx;rw [Pn];lia
theorem Bud.uniq{t:Tab}(h:Bud t ks B):(L2.uniq (aJ t ks)).length<=B:=let ⟨L,hL,hm⟩:=h.live;Pt (mP f9 λy z=>hm y (i7.mp z)) hL
def rk(ts:List T3):Prop:=∀t∈ts,(0<=t.2.1/\t.2.1<16)/\0<=t.2.2/\t.2.2<32
abbrev k8:Stmt:=top 66
theorem jr:∀ws:List Str,(∀z∈ws,Wd z)->(((ws.map sg).map (32::·)).flatten).length<=21*ws.length
 | [],_=>by simp
 | z::ws,h=>by
  have h1:=(h z (OI ..)).most;have h2:=jr ws λy F=>h y (Oz _ F);rw [PY,PY,RN,Ph,Pn,Pn,aa];lia
theorem Gf(h:∀z∈v::ws,Wd z):(QY " " (v::ws)).length<=21*(ws.length+1):=by
 have h1:=(h v (OI ..)).most;have h2:=jr ws λy F=>h y (Oz _ F);rw [<- aa,uZ,Ph,aa];lia
theorem Lh(t:Tab)(ks:List (Str×Tab)):∃v ws,cI t ks=v::ws:={_,_,by unfold cI bT;rw [QS]}
noncomputable def zI(ws:List Str):List Nat:=(ws.map λz=>sg z++[32]).flatten
noncomputable def bj(ts:List T3):List Str:=ts.flatMap λt=>[(toString t.1:Str),(toString t.2.1:Str),(toString t.2.2:Str)]
noncomputable def aB(m n:Int)(t:Tab)(ks:List (Str×Tab))(ts:List T3):List Str:=V2::(toString m:Str)::(toString n:Str)::(cI t ks++(toString (ts.length:Int):Str)::bj ts)
noncomputable def bK(m n:Int)(t:Tab)(ks:List (Str×Tab))(ts:List T3):Str:=cO (tx (zI (aB m n t ks ts)))
structure eI(ts:List T3)(m n:Int):Prop where
 b:∀t∈ts,0<=t.1/\t.1<10 ^ 18
 r:rk ts
 few:ts.length<40
 m:0<=m/\m<10 ^ 18
 n:0<=n/\n<10 ^ 18
theorem mf(a b:List Str):zI (a++b)=zI a++zI b:=by unfold zI;rw [PN,List.flatten_append]
theorem uu(v:Str)(ws:List Str):sg (QY " " (v::ws))++[32]=zI (v::ws):=by
 rw [uZ];have:∀ws:List Str,((ws.map sg).map (32::·)).flatten++[32]=32::zI ws:=by
  intro ws
  induction ws with
  | nil=>rfl
  | cons z ws F =>
   show (32::sg z++((ws.map sg).map (32::·)).flatten)++[32]=32::((sg z++[32])++zI ws);rw [Pw,F];simp
 rw [Pw,this];show _=(sg v++[32])++zI ws;simp
theorem jQ:∀{ws:List Str},(∀z∈ws,Wd z)->(zI ws).length<=21*ws.length/\(zI ws).all (· < 128)=true
 | [],_=>{by simp [zI],rfl}
 | z::ws,h=>by
  obtain ⟨h1,h2⟩:=jQ (ws:=ws) λu F=>h u (Oz _ F);have hz:=h z (OI ..);have e:zI (z::ws)=sg z++[32]++zI ws:=by simp [zI]
  have G:=hz.most;have p2:=hz.a;rw [e];rw [<- aa] at G;rw [fK] at p2;refine {by simp;lia,?_};rw [all_append,all_append,p2,h2];rfl
theorem i5:∀{ts:List T3},(∀t∈ts,0<=t.1/\t.1<10 ^ 18)->rk ts->(∀z∈bj ts,Wd z)/\(bj ts).length=3*ts.length
 | [],_,_=>by simp [bj]
 | t::ts,h,r=>by
  obtain ⟨i1,i2⟩:=i5 (ts:=ts) (λu F=>h u (Oz _ F)) (λu F=>r u (Oz _ F));have h1:=h t (OI ..);have h2:=r t (OI ..);have e:bj (t::ts)=[(toString t.1:Str),(toString t.2.1:Str),(toString t.2.2:Str)]++bj ts:=by simp [bj]
  rw [e];refine {λz hz=>?_,by simp;lia};rcases Pi.mp hz with hz|hz
  .simp only [OL,Pa,or_false] at hz;rcases hz with rfl|rfl|rfl
   .exact dU h1.1 'l'
   .exact dU h2.1.1 'l'
   .exact dU h2.2.1 'l'
  .exact i1 z hz
theorem hX{t:Tab}(gm:aG t)(gk:bw ks)(gs:eI ts m n):(∀z∈aB m n t ks ts,Wd z)/\(aB m n t ks ts).length<=1400:=by
 obtain ⟨F,G⟩:=oN gm gk;obtain ⟨s1,s2⟩:=i5 gs.b gs.r;have few:=gs.few;refine {λz hz=>?_,by unfold aB;simp;lia};unfold aB at hz;rcases OL.mp hz with rfl|hz
 .exact qT (f!"")
 rcases OL.mp hz with rfl|hz
 .exact dU gs.m.1 gs.m.2
 rcases OL.mp hz with rfl|hz
 .exact dU gs.n.1 gs.n.2
 rcases Pi.mp hz with hz|hz
 .exact F z hz
 rcases OL.mp hz with rfl|hz
 .exact dU 'l' 'l'
 .exact s1 z hz
theorem Mf{ts:List T3}{t:T3}(h:ts[i]?=some t):bj (ts.take (i+1))=bj (ts.take i)++[(toString t.1:Str),(toString t.2.1:Str),(toString t.2.2:Str)]:=by
 unfold bj;rw [Pz,h,Sb];simp
noncomputable def eE(m n:Int)(z:Str)(l:Int)(ts:List T3):List Str:=[(V2:Str),(toString m:Str),(toString n:Str),z,(toString l:Str)]++bj ts
theorem Cd{t:Tab}(gm:aG t)(gk:bw ks)(gs:eI ts m n):((eE m n (dm t ks) ts.length ts).length<=200/\∀z∈eE m n (dm t ks) ts.length ts,z.length<=100000)/\zI (eE m n (dm t ks) ts.length ts)=zI (aB m n t ks ts):=by
 obtain ⟨G,J⟩:=oN gm gk;obtain ⟨s1,s2⟩:=i5 gs.b gs.r;obtain ⟨S,_⟩:=hX gm gk gs;obtain ⟨v,ws,ea⟩:=Lh t ks;have few:=gs.few;refine {{by unfold eE;simp;lia,λz hz=>?_},?_}
 .by_cases F:z=dm t ks
  .rw [F];unfold dm;rw [ea] at G J ⊢;have:=Gf G;simp only [Pn] at J;lia
  .have:z∈aB m n t ks ts:=by
    unfold eE at hz;unfold aB;simp only [QS,RW,OL,Pi] at hz ⊢;rcases hz with h|h|h|h|h|h<;>simp_all
   have:=(S z this).most;lia
 .have U:aB m n t ks ts=[(V2:Str),(toString m:Str),(toString n:Str)]++(cI t ks++([(toString (ts.length:Int):Str)]++bj ts)):=rfl;have O:eE m n (dm t ks) ts.length ts=[(V2:Str),(toString m:Str),(toString n:Str)]++([dm t ks]++([(toString (ts.length:Int):Str)]++bj ts)):=rfl;rw [U,O,mf,mf _ (cI t ks++_),mf [dm t ks],mf (cI t ks)];congr 2;unfold dm;rw [ea];refine Eq.trans ?_ (uu v ws);simp [zI]
section
variable {P:OF}{w:OS}{K:Frag}{mg:Str->Option Value}{base:Heap}{A:zh}
structure MtI(H:Hp)(x sl wl:Addr)(pm:List T3->List Str)(us:List T3)(i:Nat)(σ:L2.St)(H':Hp):Prop where
 ex:∃t1 t2 t3,σ=[some (V.ref x),some (.ref sl),some (.ref wl),t1,t2,t3]
 hw:H' wl=some (.lst ((pm (us.take i)).map V.str))
 same:∀c o,c≠wl->H c=some o->H' c=some o
structure MtC(H:Hp)(ws:List Str)(i:Nat)(τ:L2.St)(ys:List V)(H':Hp):Prop where
 ex:∃t,τ=[t]
 ys:ys=((ws.take i).map λz:Str=>z++(" ":Str)).map V.str
 same:zj H H'
theorem ME(l:List Str):((l.map λz:Str=>z++(" ":Str)).map (·.length)).sum=(zI l).length:=by
 unfold zI;rw [List.length_flatten,QN,QN];congr 1;refine Qk λv _=>?_;show (v++(" ":Str)).length=(sg v++[32]).length;rw [Qu,Ph,aa];rfl
theorem Lc(l:List Str):QY "" (l.map λz:Str=>z++(" ":Str))=tx (zI l):=by
 refine iN ?_;rw [N9,bz,QN];unfold zI;congr 1;refine Qk λv _=>?_;show sg (v++(" ":Str))=_;rw [ck];rfl
theorem Gv(hl:∀z∈ws,z.length<=100000):∀(N:L2.St->List V->Hp->Prop)(i:Nat)(v:V)(τ:L2.St)(ys:List V)(H':Hp),(ws.map V.str)[i]?=some v->MtC H5 ws i τ ys H'->(∀τ ys H,MtC H5 ws (i+1) τ ys H->N τ ys H)->cE 0 v τ H' λF H4=>km F H4 λok H5=>fh N ys F (tOp i9 (iz 0) (tC (V.str " "))) ok H5:=by
 intro N i v τ ys H' hv I hN;obtain ⟨t1,rfl⟩:=I.ex;rw [O0] at hv;obtain ⟨z,hz,rfl⟩:=Pf.mp hv;have hl:=hl z (Pr hz);ac_rfl;refine {?_,hN _ _ _ {{_,rfl},?_,I.same}}
 .rw [show (" ":Str).length=1 by decide];exact bS 'l'
 .rw [I.ys,Pz,hz];simp
def pF(A:zh):Sp:=λvs H Q _=>∃(x z b k d:Addr)(t:Tab)(ks:List (Str×Tab))(ts:List T3)(n m:Int),vs=[.ref x]/\aS A H x z b k d t ks ts n m/\aG t/\bw ks/\eI ts m n /\
 ∀us H',zj H H'->us.Perm ts->(us.map (·.1)).Pairwise (·<=·)->Q (.str (bK m n t ks us)) H'
theorem iE:zx Wq [V0] (zo k8):=fsc
theorem Gr:bM { kind:=.function,names:=[(Ox ".0",.local),(Ox "word",.local)],isGenerator:=false,isCoroutine:=false,more:=[] } (zo k8).names Wq ["word"] [none]=true:=by decide +kernel
theorem HZ:(["word"]:List Str).Nodup:=by decide +kernel
theorem Cv(F:Fun K Vz Vz k8 f fd)(T:Txt K mg A)(ZF:GM P w K mg base true 1 A.State VN Zf (qX A))(Z7:GM P w K mg base true 1 A.State Wb Zf (gq A))(Z6:GM P w K mg base true 1 A.State V9 Zf (iY A))(ZW:GM P w K mg base true 5 A.State V8 Zf (jL A))(YV:GF P w K mg base true 6 "files_text" Wp (yC A))(Y0:GF P w K mg base true 2 "summed" ["body"] nQ):zq P w K mg base CX0 true 7 f fd [V0] (pF A):=by
 refine F.o iE λZ2 Ar outer s H vs Q E hr h=>?_;obtain ⟨x,fx,b,k,d,t,ks,ts,n,m,rfl,hS,gm,gk,gs,q⟩:=h;refine {_,(W.h (zi (zC (i:=1) iE.nd rfl (OM rfl) (m0D (zZ 'f' T.zk ZF hr)))
   (zi (zC (i:=2) iE.nd rfl (OM rfl) (aq (zd (aK rfl T.ah) (zd (bJ d8 rfl T.UY RQ (zd (m0D (zZ 'f' T.zk Z7 hr)) ze)) (zd (bJ d8 rfl T.UY RQ (zd (m0D (zZ 'f' T.zk Z6 hr)) ze)) (zd (caD (zQ YV hr rfl (clP (zd (m0D (zZ 'f' T.zk ZW hr)) ze)))) ze))))))
   (zi (ae (g9 (zb 2) (bJ d8 rfl T.UY RQ (zd (zM eW rfl T.UH PK (zd (zb 1) ze)) ze))))
   (zi (cF Q3.never (λ_=>rfl) (liD (cJ (clE (zb 1)))) (jg (n:=3) (gsD (aM (zJ (i:=3) iE.nd rfl (OM rfl)) (gsD (aM (zJ (i:=4) iE.nd rfl (OM rfl)) (gsD (aM (zJ (i:=5) iE.nd rfl (OM rfl)) eG)))))))
   (zm (ae (jx (zb 2) (aq (zd (bJ d8 rfl T.UY RQ (zd (zb 3) ze)) (zd (bJ d8 rfl T.UY RQ (zd (zb 4) ze)) (zd (bJ d8 rfl T.UY RQ (zd (zb 5) ze)) ze))))))))
   (zm (zA (caD (zQ Y0 hr rfl (clP (zd (uf zH (fe (λ_=>rfl) (ay.of Gr) (liD (cJ (clE (zb 2)))) (λ_ _ _ _ _=>(zJ (i:=0) HZ rfl (OM rfl))) (λ_ _ _ _ _=>cY) (λ_ _ _ _ _=>(zX cB (zb 0) zH)))) ze))))))))))),?_}
 obtain ⟨dx,e1⟩:=hS.ob;erw [e1,vy];refine {x,fx,b,k,d,t,ks,ts,n,m,rfl,hS,λsl as us H1 s1 a0 WH pr J so=>?_};have S1:=hS.same s1;obtain ⟨Xn,WL⟩:=S1.ob;erw [WL,gO,ib,i8];refine {x,fx,b,k,d,t,ks,ts,n,m,rfl,S1,?_};have hm:=gs.m;have hn:=gs.n;erw [WL,gO,ib,i8];refine {dD 'l',x,fx,b,k,d,t,ks,ts,n,m,rfl,S1,?_};erw [WL,gO,ib,i8];refine {dD 'l',x,fx,b,k,d,t,ks,ts,n,m,rfl,S1,λq' b' k' H2 s2 nq nb nk F2 _=>{q',b',k',t,ks,rfl,F2.r,gm,gk,λH3 s3=>?_}};have G:=s3 _ _ (s2 _ _ WH);have a3:=J.length_eq;have U:=cH pr;have few:=gs.few;refine {'d',λwl H4 O _=>{{_,O.at_},_,.inl (O.same _ _ G),?_}};rw [OA,U];have ai:H1 wl=none:=(s2.trans s3).free O.no;have ax:sl≠wl:=zz WH ai;have aT:∀{H':Hp},(∀c o,c≠wl->H4 c=some o->H' c=some o)->Paired (hG H') as us:=λ{H'} k'=>Paired.UN pr λr u e=>k' _ _ (zz e ai) (O.same _ _ (s3 _ _ (s2 _ _ e)));have aI:∀{H':Hp},(∀c o,c≠wl->H4 c=some o->H' c=some o)->H' sl=some (.lst (as.map V.ref)):=λ{H'} k'=>k' _ _ ax (O.same _ _ G);refine {dD 'l',_,O.at_,cG 'z',{_,SqL.of (by rw [zg ax];exact O.same _ _ G)},bu.lst (xs:=as.map V.ref) (MtI H4 x sl wl (eE m n (dm t ks) us.length) us) {{_,_,_,rfl},by rw [zt];rfl,λc o nc e=>by rw [zg nc];exact e} (λi σ H' _ I=>SqL.of (aI I.same)) ?_ ?_}
 .rintro i v σ H5 hv ⟨⟨t1,t2,t3,rfl⟩,hw,k5⟩;rw [O0] at hv;obtain ⟨r,av,rfl⟩:=Pf.mp hv;have hi:i<us.length:=by rw [<- U];exact (OJ.mp av).1
  have S:us[i]?=some us[i]:=Os hi;have g1:=dI (aT k5) av S;have ub:=gs.b us[i] (J.mem_iff.mp (PV hi));have ur:=gs.r us[i] (J.mem_iff.mp (PV hi));generalize us[i]=u at S g1 ub ur;refine {r,_,rfl,SqT.of g1,rfl,?_};erw [hw];refine {dD 'l',dD 'l',dD 'l','d',λp H6 n6 _=>{_,n6.same _ _ hw,_,n6.at_,bS ?_,{_,_,_,rfl},?_,λc o nc e=>by rw [zg nc];exact n6.same _ _ (k5 _ _ nc e)}}
  .have h1:=(i5 (ts:=us.take i) (λt Z=>gs.b t (J.mem_iff.mp (RS Z))) (λt Z=>gs.r t (J.mem_iff.mp (RS Z)))).2;rw [Qx] at h1;rw [OA];unfold eE;simp;lia
  .rw [zt];unfold eE;rw [Mf S];simp
 .rintro σ H5 ⟨⟨t1,t2,t3,rfl⟩,hw,k5⟩;rw [OA,U,O4 (Ov _)] at hw;erw [hw];have gu:eI us m n:={λt Z=>gs.b t (J.mem_iff.mp Z),λt Z=>gs.r t (J.mem_iff.mp Z),'l',gs.m,gs.n};obtain ⟨p1,p2⟩:=Cd gm gk gu;obtain ⟨m1,m2⟩:=hX gm gk gu;obtain ⟨b1,b2⟩:=jQ m1;generalize eE m n (dm t ks) us.length us=ws at hw p1 p2;refine {{_,SqL.of hw},aQ.lst (xs:=ws.map V.str) (MtC H5 ws) (λi τ ys H' I=>?_) (λi τ ys H' I=>SqL.of (I.same _ _ hw)) {{_,rfl},'z',zj.refl _} (Gv p1.2) ?_}
  .rw [I.ys,OA,OA,Qx];exact cG 'l'
  .intro τ ys H6 I D H7 n7;rw [tY];have ey:=I.ys;rw [OA,O4 (Ov _)] at ey;refine {ws.map λz:Str=>z++(" ":Str),by rw [n7.at_,ey],?_,tx (zI (aB m n t ks us)),?_,by rw [oM];exact b2,by rw [lh];lia,λH8 s8=>?_}
   .rw [ME,p2,show ("":Str).length=0 by decide];lia
   .rw [Lc,p2]
   .have s7:∀c o,c≠wl->H4 c=some o->H8 c=some o:=λc o nc e=>s8 _ _ (n7.same _ _ (I.same _ _ (k5 _ _ nc e)));exact q us H8 (λc o e=>s7 _ _ (zz (s1 _ _ e) ai) (O.same _ _ (s3 _ _ (s2 _ _ (s1 _ _ e))))) J so
end
abbrev jW:Stmt:=top 69
abbrev iL:Stmt:=top 68
abbrev kj:Stmt:=top 67
theorem DZ(hl:∃a,l=a++[32]):aO (cO (tx l))=tx l:=by
 obtain ⟨a,rfl⟩:=hl;have F:=gA (eP (tx (a++[32]))).1 (by have:=(eP (tx (a++[32]))).2;lia);have e:sg (cO (tx (a++[32])))=a++32::(sg (toString (cj (tx (a++[32]))):Str)++[59]):=by
  unfold cO;rw [ck,ck,bz];simp;decide +kernel
 refine jV e λh=>?_;rcases Pi.mp h with h|h
 .have:=F.dig 32 h;lia
 .simp at h
noncomputable def bO:Nat->List T3->List Str->Option (List T3×List Str)
 | 0,ts,ws=>some (ts,ws)
 | n+1,ts,ws=>(zT ws).bind λa=>(zT a.2).bind λb=>(zT b.2).bind λc=>bO n (ts++[(a.1,b.1,c.1)]) c.2
noncomputable def dv(ws:List Str):Option (List T3×List Str):=(zT ws).bind λa=>bO a.1.toNat [] a.2
theorem yb:∀{n:Nat}{ts us:List T3}{ws r:List Str},bO n ts ws=some (us,r)->us.length=ts.length+n/\r.length+3*n<=ws.length
 | 0,ts,us,ws,r,h=>by injection h with h;injection h with h1 h2;rw [h1,h2];exact {rfl,Ov _}
 | n+1,ts,us,ws,r,h=>by
  obtain ⟨⟨a,r1⟩,U,g⟩:=bind_some h;obtain ⟨⟨b,r2⟩,G,g⟩:=bind_some g;obtain ⟨⟨c,J⟩,S,g⟩:=bind_some g;have z:=cx U;have O:=cx G;have F:=cx S;have g:bO n (ts++[(a,b,c)]) J=some (us,r):=g;obtain ⟨g1,W⟩:=yb g;rw [Ph,QT] at g1;simp only at z O F;lia
section
variable {P:OF}{w:OS}{K:Frag}{mg:Str->Option Value}{base:Heap}{A:zh}
theorem zV.fC{p sl:Addr}{as:List Addr}(h:zV A H p ws)(s:But sl H H')(hs:H sl=some (.lst (as.map V.ref))):zV A H' p ws:=by
 obtain ⟨dx,wl,pre,F,G,r1,r2⟩:=h.ex;refine {{dx,wl,pre,s _ _ (λz=>by subst z;rw [F] at hs;cases hs) F,s _ _ (λz=>?_) G,r1,r2},h.wd};subst z;rw [G] at hs;cases e:pre++ws with
 | nil=>exact r2 e
 | cons y ys =>
  rw [e] at hs;cases as with
  | nil=>cases hs
  | cons a as=>cases hs
structure TsI(A:zh)(H:Hp)(p sl:Addr)(N:Nat)(R:Option (List T3×List Str))(i:Nat)(σ:L2.St)(H':Hp):Prop where
 ex:∃ws ts as t1 t2 t3,σ=[some (V.ref p),some (.ref sl),t1,t2,t3]/\zV A H' p ws/\H' sl=some (.lst (as.map V.ref))/\Paired (hG H') as ts/\bO (N-i) ts ws=R/\ts.length+ws.length<=3003
 but:But p H H'
noncomputable def uk(A:zh):Sp:=λvs H Q E=>∃(p:Addr)(ws:List Str),vs=[.ref p]/\zV A H p ws/\ws.length<=3003/\(∀ts r,dv ws=some (ts,r)->∀l as H',But p H H'->H l=none->H' l=some (.lst (as.map V.ref))->Paired (hG H') as ts->zV A H' p r->Q (.ref l) H')/\(dv ws=none->∀H',But p H H'->E (.ref A.NoPart) none H')
theorem iS:zx Wl Wx (zo jW):=fsc
theorem Mq(F:Fun K VL VL jW f fd)(T:Txt K mg A)(Z8:GMX P w K mg base true 3 A.Words V3 Zf (jF A)):zq P w K mg base (CXW P w) true 4 f fd Wx (uk A):=by
 refine F.oW iS λZ2 Ar outer s H vs Q E hr h=>?_;obtain ⟨p,ws,rfl,hW,hl,q,qe⟩:=h;have Th:=bA (cm:=true) (P:=P) (w:=w) (K:=K) (mg:=mg) (base:=base) (N:=Wl) (qual:=VL) (scope:=zo jW) (f:=f) (cd:=Z2) (A:=Ar) (outer:=outer) (s:=s) (H:=H) (E:=E);refine {_,(W.h (zi (zC (i:=1) iS.nd rfl (OM rfl) (aq ze))
   (zi (kh Th (cF (lT rfl (λok=>ok.frames) rfl) (λ_=>rfl) (dF rfl T.Uy (zd (aX (bc 'f' T.za cX Z8 hr)) ze)) (zJ (i:=2) iS.nd rfl (OM rfl))
   (zi (zC (i:=3) iS.nd rfl (OM rfl) (aX (bc 'f' T.za cX Z8 hr)))
   (zi (zC (i:=4) iS.nd rfl (OM rfl) (aX (bc 'f' T.za cX Z8 hr)))
   (zm (ae (g9 (zb 1) (dN (zd (zb 3) (zd (zb 4) (zd (aX (bc 'f' T.za cX Z8 hr)) ze)))))))))))
   (zm (zA (zb 1)))))),?_}
 ac_rfl;refine {'d',λsl H1 Z _=>?_};have W1:=hW.same Z.same;obtain ⟨dx,wl,pre,e1,_⟩:=W1.ex;erw [e1,eB];refine {p,ws,rfl,W1,λN r1 eN N0 N1 H2 b2 W2=>?_,λeN H2 b2=>?_}
 rotate_left
 .ac_rfl;exact {_,rfl,qe (by unfold dv;rw [eN];rfl) H2 ((But.of Z.same).trans b2)}
 have ai:sl≠p:=λz=>by have:=Z.at_;rw [z,e1] at this;cases this
 have WH:H2 sl=some (.lst (([]:List Addr).map V.ref)):=b2 _ _ ai Z.at_;have l1:=cx eN;have eF:dv ws=bO N.toNat [] r1:=by unfold dv;rw [eN];rfl
 rw [eF] at q qe;ac_rfl;refine {'l','l',bu.rng (TsI A H p sl N.toNat (bO N.toNat [] r1)) {{r1,[],[],_,_,_,rfl,W2,WH,.nil,rfl,by simp;lia},(But.of Z.same).trans b2} ?_ ?_}
 .rintro i σ H' hi ⟨⟨WJ,ts,as,t1,t2,t3,rfl,XX,has,pr,S,hm⟩,bt⟩;obtain ⟨c,hc⟩:∃c,N.toNat-i=c+1:={N.toNat-i-1,'l'};rw [hc] at S;obtain ⟨Xd,aT,ax,e3,_⟩:=XX.ex;erw [e3,eB];refine {p,WJ,rfl,XX,λx r2 ex x0 x1 H3 b3 W3=>?_,λex H3 b3=>?_}
  rotate_left
  .ac_rfl;exact {_,rfl,qe (by rw [<- S];unfold bO;rw [ex];rfl) H3 (bt.trans b3)}
  obtain ⟨a3,a5,av,e4,_⟩:=W3.ex;erw [e4,eB];refine {p,r2,rfl,W3,λy r3 ey y0 y1 H4 b4 W4=>?_,λey H4 b4=>?_}
  rotate_left
  .ac_rfl;exact {_,rfl,qe (by rw [<- S];unfold bO;rw [ex];show (zT r2).bind _=_;rw [ey];rfl) H4 ((bt.trans b3).trans b4)}
  obtain ⟨a4,a0,aI,e5,_⟩:=W4.ex;have J:But p H' H4:=b3.trans b4;have U:=J _ _ ai has;erw [e5,eB,U];refine {p,r3,rfl,W4,λz r4 ez z0 z1 H5 b5 W5=>{'d',λtp H6 n6=>?_},λez H5 b5=>?_}
  rotate_left
  .ac_rfl;exact {_,rfl,qe (by rw [<- S];unfold bO;rw [ex];show (zT r2).bind _=_;rw [ey];show (zT r3).bind _=_;rw [ez];rfl) H5 ((bt.trans J).trans b5)}
  have l2:=cx ex;have l3:=cx ey;have l4:=cx ez;have G:=n6.same _ _ (b5 _ _ ai U);have la:=cH pr;have O:∀{r:Addr}{xs:List V}{o:HO},H6 r=some (.tup xs)->upd H6 sl o r=some (.tup xs):=λ{r xs o} e=>by
   rw [zg (λz=>by rw [z,G] at e;cases e)];exact e
  refine {_,G,by rw [OA];exact cG 'l',{{r4,ts++[(x,y,z)],as++[tp],_,_,_,rfl,(W5.same n6.same).fC But.upd G,by rw [zt,PN];rfl,gB (Paired.UN pr λr v e=>O (n6.same _ _ (b5 _ _ ?_ (J _ _ ?_ e)))) (.cons (O n6.at_) .nil),?_,by rw [Ph,QT];lia},λc o nc e=>?_}}
  .exact λz=>by have e:H' r=_:=e;rw [z,e3] at e;cases e
  .exact λz=>by have e:H' r=_:=e;rw [z,e3] at e;cases e
  .rw [<- S];conv=>rhs;unfold bO
   rw [ex,show N.toNat-(i+1)=c from by lia];show _=(zT r2).bind _;rw [ey];show _=(zT r3).bind _;rw [ez];rfl
  .rw [zg (λz=>by rw [z,Z.no] at e;cases e)];exact n6.same _ _ (b5 _ _ nc (J _ _ nc (bt _ _ nc e)))
 .rintro σ H' ⟨⟨WJ,ts,as,t1,t2,t3,rfl,XX,has,pr,S,hm⟩,bt⟩;rw [TN] at S;ac_rfl;exact q ts WJ (by rw [<- S];rfl) sl as H' bt Z.no has pr XX
theorem nC{zs:List Int}:(zs.map V.int).all ah=true:=by simp [ah]
theorem Io(zs:List Int):eqL (zs.map V.int) (zs.map V.int)=true:=j9 nC λx hx b e=>by
 obtain ⟨y,_,rfl⟩:=Po.mp hx;cases e
theorem ES(zs ys:List Int):eqL (zs.map V.int) (ys.map V.int)=decide (zs=ys):=by
 by_cases h:zs=ys
 .subst h;rw [Io,decide_eq_true rfl]
 .rw [decide_eq_false h,QI];intro e;unfold eqL at e;rw [O1,beq_iff_eq,OA,OA,Pg] at e;refine h (List.ext_getElem e.1 λi h1 h2=>?_);have:=e.2 i (Sn.mpr h1);rw [O5,O5,O0,O0,Os h1,Os h2] at this;simpa [eqV] using this
theorem jk{ws r:List Str}(h:zT ws=some (i,r)):∃z,ws=z::r:=by
 cases ws with
 | nil=>cases h
 | cons z ws =>
  have h:(if zU z=true then some ((QK z).getD 0,ws) else none)=some (i,r):=h;split at h
  .injection h with h;injection h with _ h;exact {z,by rw [h]}
  .cases h
theorem sC:∀{n:Nat}{ks us:List (Str×Tab)}{y:Str}{ws r:List Str},rdK n ks y ws=some (us,r)->r.length<=ws.length
 | 0,_,_,_,_,_,h=>by injection h with h;injection h with _ h;rw [h];exact Ov _
 | n+1,ks,us,y,ws,r,h=>by
  obtain ⟨⟨z,r1⟩,e,g⟩:=bind_some h;obtain ⟨⟨t,r2⟩,J,g⟩:=bind_some g;have G:=mK e;have F:=mB J;have g:rdK n (zN ks z t) z r2=some (us,r):=g;have O:=sC g;simp only at G F;lia
theorem FJ{ws r:List Str}(h:rdF ws=some (c,r)):r.length<=ws.length:=by
 unfold rdF at h;obtain ⟨⟨t,r1⟩,S,g⟩:=bind_some h;obtain ⟨⟨i,r2⟩,G,g⟩:=bind_some g;obtain ⟨⟨ks,U⟩,O,g⟩:=Pf.mp g;injection g with g1 g2
 have z:=mB S;have J:=cx G;have F:=sC O;simp only at z J F g2;rw [<- g2];lia
theorem NH{ws r:List Str}(h:dv ws=some (ts,r)):3*ts.length<=ws.length:=by
 unfold dv at h;obtain ⟨⟨a,r1⟩,z,g⟩:=bind_some h;have F:=cx z;have g:bO a.toNat [] r1=some (ts,r):=g;obtain ⟨g1,G⟩:=yb g;simp only [So] at F g1;lia
structure SoI(H:Hp)(ts:List T3)(i:Nat)(τ:L2.St)(ys:List V)(H':Hp):Prop where
 ex:∃t1 t2 t3,τ=[t1,t2,t3]
 ys:ys=((ts.take i).map (·.1)).map V.int
 same:zj H H'
noncomputable def mQ(c:Tab×List (Str×Tab))(ts:List T3):Prop:=(ts.map (·.1)).Perm (uniq (aJ c.1 c.2))/\(ts.map (·.1)).Pairwise (·<=·)
open Classical in
noncomputable def gW(c:Tab×List (Str×Tab))(ts:List T3):Bool:=decide (mQ c ts)
theorem qI:gW c ts=true↔mQ c ts:=by classical exact decide_eq_true_iff
noncomputable def fg:List Str->Option ((Int×Int)×(Tab×List (Str×Tab))×List T3)
 | []=>none
 | z::ws=>if z=V2 then (zT ws).bind λa=>(zT a.2).bind λb=>(rdF b.2).bind λc=>(dv c.2).bind λd=>if d.2=[]/\gW c.1 d.1=true then some ((a.1,b.1),c.1,d.1) else none else none
structure HB(A:zh)(H:Hp)(p:Addr)(ws:List Str)(Q:VK)(E:XK):Prop where
 w:ws.length<=3003
 lv:∀Xc u us r,(∀v∈Xc,v∈ws)->rdF Xc=some ((u,us),r)->(uniq (aJ u us)).length<64/\us.length<=4000
 q:∀m n u us ts,fg ws=some ((m,n),(u,us),ts)->jt ts/\∀x fx b k d H',But p H H'->aS A H' x fx b k d u us ts n (m+1)->Q (.ref x) H'
 e:fg ws=none->∀H',But p H H'->E (.ref A.NoPart) none H'
def xM(A:zh):Sp:=λvs H Q E=>∃(p:Addr)(ws:List Str),vs=[.ref p]/\zV A H p ws/\HB A H p ws Q E
theorem iX:zx W9 Wx (zo iL):=fsc
theorem IA:bM { kind:=.function,names:=[(Ox ".0",.local),(Ox "birth",.local),(Ox "stretch",.local),(Ox "place",.local)],isGenerator:=false,isCoroutine:=false,more:=[] } (zo iL).names W9 Xy [none,none,none]=true:=by decide +kernel
theorem qZ:(Xy:List Str).Nodup:=by decide +kernel
theorem Eu(F:Fun K "state_of" "state_of" iL f fd)(T:Txt K mg A)(Z4:GMX P w K mg base true 2 A.Words VU Zf (kY A))(Z8:GMX P w K mg base true 3 A.Words V3 Zf (jF A))(YU:GX P w K mg base true 6 VH Wx (vA A))(YT:GX P w K mg base true 4 VL Wx (uk A))(Zm:GMX P w K mg base true 2 A.Words "take_end" Zf (ud A))(ZK:GM P w K mg base true 1 A.zw "living" Zf (oB A))(Zc:GC P w K mg base true 5 "State" A.State Y9 (kC A)):zq P w K mg base (CXW P w) true 7 f fd Wx (xM A):=by
 refine F.oW iX λZ2 Ar outer s H vs Q E hr h=>?_;obtain ⟨p,ws,rfl,hW,h⟩:=h;have hu:_<cLine:=Ql (bB hr);have O:=bA (cm:=true) (P:=P) (w:=w) (K:=K) (mg:=mg) (base:=base) (N:=W9) (qual:="state_of") (scope:=zo iL) (f:=f) (cd:=Z2) (A:=Ar) (outer:=outer) (s:=s) (H:=H) (E:=E);refine {_,(W.h (zi (zW (tD (aP (clO (oE (ee hu))) (clE (aX (bc 'f' T.za O Z4 hr))) (clE (aK rfl T.ah)) (aE _)))
   (zm (dh rfl O T.L4 rfl T.Ur (zd zH ze)))
   z7)
   (zi (zC (i:=1) iX.nd rfl (OM rfl) (aX (bc 'f' T.za O Z8 hr)))
   (zi (zC (i:=2) iX.nd rfl (OM rfl) (aX (bc 'f' T.za O Z8 hr)))
   (zi (zC (i:=3) iX.nd rfl (OM rfl) (cXD (de O YU hr rfl (clP (zd (zb 0) ze)))))
   (zi (zC (i:=4) iX.nd rfl (OM rfl) (cXD (de O YT hr rfl (clP (zd (zb 0) ze)))))
   (zi (ae (aX (bc 'f' T.za O Zm hr)))
   (zi (zW (tD (aP (clO (oE (ee hu))) (clE (fe (λ_=>rfl) (ay.of IA) (liD (cJ (clE (zb 4)))) (λ_ _ _ _ _=>(lL (n:=3) (gsD (aM (zJ (i:=0) qZ rfl (OM rfl)) (gsD (aM (zJ (i:=1) qZ rfl (OM rfl)) (gsD (aM (zJ (i:=2) qZ rfl (OM rfl)) eG)))))))) (λ_ _ _ _ _=>cY) (λ_ _ _ _ _=>(zb 0)))) (clE (m0D (zZ (clE (zb 3)) T.tr ZK hr))) (aE _)))
   (zm (dh rfl O T.L4 rfl T.Ur (zd zH ze)))
   z7)
   (zm (zA (gZ Zc hr rfl (zd (zb 3) (zd (zb 4) (zd (zb 2) (zd (zX cB (zb 1) zD) ze))))))))))))))),?_}
 obtain ⟨dx,wl,pre,e1,_⟩:=hW.ex;erw [e1,rT];refine {p,ws,rfl,hW,λz r0 ez H1 Z W1=>?_,λe0=>?_}
 rotate_left
 .subst e0;exact {_,rfl,h.e rfl H (.of (zj.refl _))}
 subst ez;have hl:=h.w;rw [Pn] at hl;ac_rfl;by_cases hz:z=V2
 rotate_left
 .rw [decide_eq_false hz];ac_rfl;exact {'d',h.e (if_neg hz) H1 Z}
 rw [decide_eq_true hz];have G:fg (z::r0)=(zT r0).bind λa=>(zT a.2).bind λb=>(rdF b.2).bind λc=>(dv c.2).bind λd=>if d.2=[]/\gW c.1 d.1=true then some ((a.1,b.1),c.1,d.1) else none:=if_pos hz;obtain ⟨Xn,bq,a7,WL,_⟩:=W1.ex;erw [WL,eB];refine {p,r0,rfl,W1,λm r1 em m0 m1 H2 U W2=>?_,λem H2 U=>?_}
 rotate_left
 .ac_rfl;exact {_,rfl,h.e (by rw [G,em];rfl) H2 (Z.trans U)}
 obtain ⟨y1,rfl⟩:=jk em;rw [em] at G;obtain ⟨XQ,bp,a6,aT,_⟩:=W2.ex;erw [aT,eB];refine {p,r1,rfl,W2,λn r2 en n0 n1 H3 b3 W3=>?_,λen H3 b3=>?_}
 rotate_left
 .ac_rfl;exact {_,rfl,h.e (by rw [G];show (zT r1).bind _=_;rw [en];rfl) H3 ((Z.trans U).trans b3)}
 obtain ⟨y2,rfl⟩:=jk en;rw [Pn,Pn] at hl;have G:fg (z::y1::y2::r2)=(rdF r2).bind λc=>(dv c.2).bind λd=>if d.2=[]/\gW c.1 d.1=true then some ((m,n),c.1,d.1) else none:=by rw [G];show (zT (y2::r2)).bind _=_;rw [en];rfl
 ac_rfl;refine {p,r2,rfl,W3,'l',λu us r3 eu q4 ai k4 H4 b4 _ _ _ F4 W4=>?_,λeu H4 b4=>?_}
 rotate_left
 .ac_rfl;exact {_,rfl,h.e (by rw [G,eu];rfl) H4 (((Z.trans U).trans b3).trans b4)}
 have lv:=h.lv r2 u us r3 (λv hv=>Oz _ (Oz _ (Oz _ hv))) eu;rw [eu] at G;have l3:r3.length<=r2.length:=FJ eu;ac_rfl;refine {p,r3,rfl,W4,'l',λts r4 es sl as H5 b5 a9 WH pr W5=>?_,λes H5 b5=>?_}
 rotate_left
 .ac_rfl;exact {_,rfl,h.e (by rw [G];show (dv r3).bind _=_;rw [es];rfl) H5 ((((Z.trans U).trans b3).trans b4).trans b5)}
 have S:=(((Z.trans U).trans b3).trans b4).trans b5;have G:fg (z::y1::y2::r2)=if r4=[]/\gW (u,us) ts=true then some ((m,n),(u,us),ts) else none:=by rw [G];show (dv r3).bind _=_;rw [es];rfl
 have F5:=F4.bF b5 W4;obtain ⟨ba,bx,a8,WI,_⟩:=W5.ex;erw [WI,C4];refine {p,r4,rfl,W5,λer=>?_,λer=>?_}
 rotate_left
 .ac_rfl;exact {_,rfl,h.e (by rw [G];exact if_neg λc=>er c.1) H5 S}
 ac_rfl;have aI:=cH pr;have bt:ts.length<=3003:=by have:=NH es;lia
 refine {{_,SqL.of WH},aQ.lst (xs:=as.map V.ref) (SoI H5 ts) (λi τ ys H' I=>by rw [I.ys,OA,OA,Qx];exact cG 'l') (λi τ ys H' I=>SqL.of (I.same _ _ WH)) {{_,_,_,rfl},rfl,zj.refl _} ?_ ?_}
 .intro N i v τ ys H' hv I hN;obtain ⟨t1,t2,t3,rfl⟩:=I.ex;rw [O0] at hv;obtain ⟨r,ax,rfl⟩:=Pf.mp hv;have hi:i<ts.length:=by rw [<- aI];exact (OJ.mp ax).1
  have Xm:ts[i]?=some ts[i]:=Os hi;have g1:=I.same _ _ (dI pr ax Xm);refine {r,_,rfl,SqT.of g1,rfl,?_};ac_rfl;refine hN _ _ _ {{_,_,_,rfl},?_,I.same};rw [I.ys,Pz,Xm,PN,PN];rfl
 .intro τ ys H6 I D H7 n7;have ey:=I.ys;rw [OA,aI,O4 (Ov _)] at ey;rw [ey] at n7;have J:zj H5 H7:=I.same.trans n7.same;have F7:=F5.same J;obtain ⟨bf,a4⟩:=F7.ob;erw [a4,sJ];refine {q4,ai,k4,u,us,rfl,F7,lv.1,lv.2,λl ns H8 s8 nl el pm so=>?_};have a5:=s8 _ _ n7.at_;erw [a5,el];refine {nC,nC,?_};rw [ES];by_cases hn:ts.map (·.1)=ns
  rotate_left
  .rw [if_pos (by rw [decide_eq_false hn];rfl)];refine {'d',h.e ?_ H8 (S.trans (.of (J.trans s8)))};rw [G];refine if_neg λc=>hn ?_;have c:mQ (u,us) ts:=qI.mp c.2;exact xA c.2 so (c.1.nodup_iff.mpr f9) (pm.nodup_iff.mpr f9) λy=>by rw [c.1.mem_iff,pm.mem_iff]
  rw [if_neg (by rw [decide_eq_true hn];decide)];have ok:gW (u,us) ts=true:=by
   refine qI.mpr ?_;unfold mQ;rw [hn];exact ⟨pm,so⟩
  obtain ⟨a0,q2⟩:=h.q m n u us ts (by rw [G];exact if_pos ⟨er,ok⟩);intro x dx H9 nI;have F8:=F7.same s8;have av:zj H5 H9:=(J.trans s8).trans nI.same;refine {x,q4,ai,k4,sl,dx,n,m+1,u,us,as,ts,rfl,nI.at_,F8.same nI.same,.inl (av _ _ WH),Paired.UN pr λr v e=>.inl (av _ _ e),a0,λfx b' k' d' H10 a3 _ _ _ _ st _=>{rfl,?_}};refine q2 x fx b' k' d' H10 (λc o nc e=>?_) st;have e8:=s8 _ _ (J _ _ (S _ _ nc e));exact a3 _ _ (zz e8 nI.no) (nI.same _ _ e8)
end
theorem But.gone{p:Addr}(x:But p H H')(n:H p=none):zj H H':=λa o e=>x a o (λz=>by rw [<- z,e] at n;cases n) e
noncomputable def aR(b:Str):Str:=QQ b none (some (-1))
theorem Mt(h:asc b=true):asc (aR b)=true/\(aR b).length<=b.length:=by
 unfold aR;by_cases z:0<(sg b).length
 .rw [my z];refine {m6 h λc F=>List.dropLast_subset _ F,?_};rw [lh,List.length_dropLast,aa];lia
 .have e:b="":=iN (QO.mp 'l');subst e;decide +kernel
noncomputable def rdZ(z:Str):Option ((Int×Int)×(Tab×List (Str×Tab))×List T3):=(dH z).bind λb=>fg (wds (aR b))
section
variable {P:OF}{w:OS}{K:Frag}{mg:Str->Option Value}{base:Heap}{A:zh}
structure NZ(A:zh)(H:Hp)(z:Str)(Q:VK)(E:XK):Prop where
 a:asc z=true
 l:z.length<=100000
 w:(wds (aR (aO z))).length<=3003
 lv:∀Xc u us r,(∀v∈Xc,v∈wds (aR (aO z)))->rdF Xc=some ((u,us),r)->(uniq (aJ u us)).length<64/\us.length<=4000
 q:∀m n u us ts,rdZ z=some ((m,n),(u,us),ts)->jt ts/\∀x fx b k d H',zj H H'->aS A H' x fx b k d u us ts n (m+1)->Q (.ref x) H'
 e:rdZ z=none->∀H',zj H H'->E (.ref A.wh) none H'
def qU(K:Frag)(A:zh):Sp:=λvs H Q E=>∃(v:V),vs=[v]/\((∃z,v = .str z/\NZ A H z Q E)\/(∃t,TyX K H v t/\kitOne K t (.type "str")=some false/\E (.ref A.wh) none H))
theorem yI:zx ["text","body"] WX (zo kj):=fsc
theorem IZ(F:Fun K VA VA kj f fd)(T:Txt K mg A)(Yq:GF P w K mg base true 3 "body_of" WX (uQ K))(XT:GC P w K mg base true 1 "Words" A.Words WD (wH A))(Yz:GX P w K mg base true 7 "state_of" Wx (xM A)):zq P w K mg base (CXW P w) true 8 f fd WX (qU K A):=by
 refine F.oW yI λZ2 Ar outer s H vs Q E hr h=>?_;obtain ⟨v,rfl,h⟩:=h;have Th:=bA (cm:=true) (P:=P) (w:=w) (K:=K) (mg:=mg) (base:=base) (N:=["text","body"]) (qual:=VA) (scope:=zo kj) (f:=f) (cd:=Z2) (A:=Ar) (outer:=outer) (s:=s) (H:=H) (E:=E);refine {_,(W.h (zi (zC (i:=1) yI.nd rfl (OM rfl) (caD (zQ Yq hr rfl (clP (zd (zb 0) ze)))))
   (zi (zW (tD (aP (clO Cs) (clE (zb 1)) (clE eO) (aE _)))
   (zm (dh rfl Th T.UC rfl T.UP (zd zH ze)))
   z7)
   (zm (E8 rfl rfl {rfl,rfl} T.L4 rfl T.Ur (λGo Ex=>(zm (zA (cXD (de ki Yz hr rfl (clP (zd (gZ XT hr rfl (zd (i3 lK (zb 1) jE (iG (Nw B8 zD))) ze)) ze))))))) Th (λGo ea S=>by
   have hr:=hr.mark (v:=some (.ref ea));exact (zm (Bl S T.UC rfl T.UP (zd zH ze))))))))),?_}
 ac_rfl;rcases h with ⟨z,rfl,h⟩|⟨t,ht,hf,qe⟩
 rotate_left
 .refine {_,rfl,.inr {t,ht,hf,?_}};ac_rfl;exact {'d',qe}
 refine {_,rfl,.inl {z,rfl,h.a,h.l,λH1 s1=>?_}};cases G:dH z with
 | none =>
  show dC false V.non V.non H1 _;ac_rfl;exact {'d',h.e (by unfold rdZ;rw [G];rfl) H1 s1}
 | some b =>
  have Z:b=aO z:=by
   unfold dH at G;split at G
   .exact (O6.inj G).symm
   .cases G
  have eZ:rdZ z=fg (wds (aR b)):=by unfold rdZ;rw [G];rfl
  obtain ⟨a1,a2⟩:=uj h.a;rw [<- Z] at a1 a2;obtain ⟨c1,c2⟩:=Mt a1;have hl:=h.l;have hw:=h.w;have hv:=h.lv;rw [<- Z] at hw hv;have es:QQ b none (some (-1))=aR b:=rfl;have eo:Aw (some b) = .str b:=rfl;rw [eo];erw [es];refine {bS 'l',λx dx H2 J=>{x,dx,aR b,rfl,J.at_,c1,'l','l',λH3 b3 U=>{rfl,x,_,rfl,U,hw,hv,λm n u us ts e=>?_,λe H4 O=>?_}}}
  .obtain ⟨so,q⟩:=h.q m n u us ts (by rw [eZ];exact e);exact {so,λy fx b k d H4 O st=>q y fx b k d H4 (s1.trans ((((But.of J.same).trans b3).trans O).gone J.no)) st}
  .have s4:zj H1 H4:=(((But.of J.same).trans b3).trans O).gone J.no;exact {_,rfl,T.L4,T.dE,λea oe na xo=>{'d',h.e (by rw [eZ];exact e) _ (λc o e=>by have e4:=s4 _ _ (s1 _ _ e);rw [zg (zz e4 na)];exact e4)}}
end
noncomputable def aC(z:Str):Int:=(QK z).getD 0
theorem ya(h:QK z=some i):aC z=i:=by unfold aC;rw [h];rfl
theorem hJ(z:Str)(ws:List Str):zT (z::ws)=if zU z=true then some (aC z,ws) else none:=rfl
theorem mU:∀(n:Nat)(l:List Int)(ws:List Str),bH n l ws=if n<=ws.length/\(ws.take n).all zU=true then some (l++(ws.take n).map aC,ws.drop n) else none
 | 0,l,ws=>by
  rw [if_pos {Pp _,'z'}];simp [bH]
 | n+1,l,[]=>by
  rw [if_neg (λh=>by have:=h.1;simp at this)];rfl
 | n+1,l,z::ws=>by
  have e:bH (n+1) l (z::ws)=(zT (z::ws)).bind λa=>bH n (l++[a.1]) a.2:=rfl;rw [e,hJ];by_cases hz:zU z=true
  .rw [if_pos hz];show bH n (l++[aC z]) ws=_;rw [mU n];simp [hz]
  .rw [if_neg hz,if_neg (λh=>hz (by have:=h.2;simp at this;exact this.1))];rfl
theorem xl:∀(l:List Nat)(a:Nat),a<=l.foldl (λZ1 c=>Z1*10+(c-48)) a
 | [],_=>Ov _
 | c::l,a=>Pt 'l' (xl l (a*10+(c-48)))
theorem oU(h:zU z=true):(aC z=0)↔z="0":=by
 refine {λe=>QD λhz=>?_,λe=>by subst e;decide +kernel};unfold zU bE at h;rw [O1,O1,O1,decide_eq_true_eq,decide_eq_true_eq,decide_eq_false hz,Bool.false_or] at h;obtain ⟨⟨⟨h1,h2⟩,h3⟩,h4⟩:=h;have hd:∀c∈sg z,48<=c/\c<=57:=by
  intro c G;have:=Pg.mp h3 c G;have hf:sg FIG=[48,49,50,51,52,53,54,55,56,57]:=by decide
  rw [hf] at this;have:=Qq.mp this;simp only [OL,Pa,or_false] at this;omega
 obtain ⟨c,cs,ec⟩:∃c cs,sg z=c::cs:=List.exists_cons_of_length_pos (by rw [aa];lia);have J:=ya (intText_digits (x:=z) hd (λe=>by rw [show sg z=[] from e] at ec;cases ec) 'l');have G:c≠48:=λx=>by
  rw [ec,x] at h4;have h4:(!decide (tx [48]="0"))=true:=h4;exact absurd h4 'd'
 have b:=hd c (by rw [ec];exact OI ..);rw [J] at e;have F:(sg z).foldl (λZ1 c=>Z1*10+(c-48)) 0=0:=by exact_mod_cast e
 rw [ec] at F;have:=xl cs (0*10+(c-48));have F:cs.foldl (λZ1 c=>Z1*10+(c-48)) (0*10+(c-48))=0:=F;lia
theorem o9(y z:Str)(ws:List Str):cL y (z::ws)=if aV z=true/\y.cps.toList<z.cps.toList then some (z,ws) else none:=by
 have e:jo (z::ws)=if aV z=true then some (z,ws) else none:=rfl;unfold cL;rw [e];by_cases hz:aV z=true
 .by_cases F:y.cps.toList<z.cps.toList
  .rw [if_pos hz,if_pos ⟨hz,F⟩];exact if_pos F
  .rw [if_pos hz,if_neg λh=>F h.2];exact if_neg F
 .rw [if_neg hz,if_neg λh=>hz h.1]
theorem G4(c:Nat)(u:Tab)(y z x:Str)(ws:List Str):bh (c+1) u y (z::x::ws)=if aV z=true/\y.cps.toList<z.cps.toList then (if zU x=true/\x≠"0" then (if (aC x).toNat<=ws.length/\(ws.take (aC x).toNat).all zU=true then bh c (zN u z ((ws.take (aC x).toNat).map aC)) z (ws.drop (aC x).toNat) else none) else none) else none:=by
 have e:bh (c+1) u y (z::x::ws)=(cL y (z::x::ws)).bind λa=>(zT a.2).bind λb=>if b.1=0 then none else (bH b.1.toNat [] b.2).bind λd=>bh c (zN u a.1 d.1) a.1 d.2:=rfl;rw [e,o9];by_cases h1:aV z=true/\y.cps.toList<z.cps.toList
 .rw [if_pos h1,if_pos h1];show (zT (x::ws)).bind _=_;rw [hJ];by_cases h2:zU x=true
  .rw [if_pos h2];show (if aC x=0 then none else _)=_;by_cases h3:x="0"
   .rw [if_pos ((oU h2).mpr h3),if_neg λh=>h.2 h3]
   .rw [if_neg (λz=>h3 ((oU h2).mp z)),if_pos ⟨h2,h3⟩];show (bH (aC x).toNat [] ws).bind _=_;rw [mU];split<;>rfl
  .rw [if_neg h2,if_neg λh=>h2 h.1];rfl
 .rw [if_neg h1,if_neg h1];rfl
theorem wJ{ws r:List Str}(h:cL y ws=some (z,r)):ws=z::r/\aV z=true/\y.cps.toList<z.cps.toList:=by
 cases ws with
 | nil=>cases h
 | cons v ws =>
  rw [o9] at h;split at h
  .rename_i F;injection h with h;injection h with h1 h2
   subst h1 h2;exact {rfl,F.1,F.2}
  .cases h
theorem AA{α:Type}:eJ ([]:List (Str×α)) y:=λm z=>nomatch z
theorem xv:∀{n:Nat}{t u:Tab}{y:Str}{ws r:List Str},bh n t y ws=some (u,r)->(names t).Nodup->(names u).Nodup
 | 0,_,_,_,_,_,h,F=>by injection h with h;injection h with h1 h2;rw [h1] at F;exact F
 | n+1,t,u,y,ws,r,h,F=>by
  obtain ⟨⟨z,r1⟩,e,g⟩:=bind_some h;obtain ⟨⟨i,r2⟩,O,g⟩:=bind_some g;have g:(if i=0 then none else (bH i.toNat [] r2).bind λc=>bh n (zN t z c.1) z c.2)=some (u,r):=g;split at g
  .cases g
  .obtain ⟨⟨l,J⟩,G,g⟩:=bind_some g;exact xv g (jR F)
theorem C3{ws r:List Str}(h:rdT ws=some (u,r)):(names u).Nodup:=by
 obtain ⟨⟨i,r1⟩,e,g⟩:=bind_some h;exact xv g (by simp [names])
theorem tH:∀{n:Nat}{ks us:List (Str×Tab)}{y:Str}{ws r:List Str},rdK n ks y ws=some (us,r)->(names ks).Nodup->(∀p∈ks,(names p.2).Nodup)->(names us).Nodup/\∀p∈us,(names p.2).Nodup
 | 0,_,_,_,_,_,h,F,hp=>by injection h with h;injection h with h1 h2;rw [h1] at F hp;exact ⟨F,hp⟩
 | n+1,ks,us,y,ws,r,h,F,hp=>by
  obtain ⟨⟨z,r1⟩,e,g⟩:=bind_some h;obtain ⟨⟨t,r2⟩,J,g⟩:=bind_some g;refine tH g (jR F) λp G=>?_;rcases mI G with h|h
  .exact hp p h
  .rw [h];exact C3 J
theorem MQ(h:∃a,sg b=a++[32]):wds b=wds (aR b)++[("":Str)]:=by
 obtain ⟨a,ha⟩:=h;have e:sg (aR b)=a:=by
  unfold aR;rw [my (by rw [ha];simp),bz,ha,SE]
 rw [dk,dk,e,ha,jy (c:=32) [] a,PN];rfl
noncomputable def g8:List Str->List T3
 | a::b::c::r=>(aC a,aC b,aC c)::g8 r
 | _=>[]
theorem vL:∀(n:Nat)(ts:List T3)(r:List Str),r.length=3*n->bO n ts r=if r.all zU=true then some (ts++g8 r,[]) else none
 | 0,ts,r,h=>by
  have:r=[]:=QO.mp 'l';subst this;show some (ts,[])=_;simp [g8]
 | n+1,ts,r,h=>by
  match r,h with
  | a::b::c::r,h =>
   show ((zT (a::b::c::r)).bind λx=>(zT x.2).bind λy=>(zT y.2).bind λz=>bO n (ts++[(x.1,y.1,z.1)]) z.2)=_;rw [hJ];by_cases ha:zU a=true
   .rw [if_pos ha];show ((zT (b::c::r)).bind λy=>(zT y.2).bind λz=>bO n (ts++[(aC a,y.1,z.1)]) z.2)=_;rw [hJ];by_cases G:zU b=true
    .rw [if_pos G];show ((zT (c::r)).bind λz=>bO n (ts++[(aC a,aC b,z.1)]) z.2)=_;rw [hJ];by_cases F:zU c=true
     .rw [if_pos F];show bO n (ts++[(aC a,aC b,aC c)]) r=_;rw [vL n _ r (by simp only [Pn] at h;lia)];simp [ha,G,F,g8]
     .rw [if_neg F,if_neg (by simp [F])];rfl
    .rw [if_neg G,if_neg (by simp [G])];rfl
   .rw [if_neg ha,if_neg (by simp [ha])];rfl
  | [],h=>simp at h
  | [_],h=>simp at h;lia
  | [_,_],h=>simp at h;lia
theorem mh(h:c∉a):ao c a=[a]:=by
 have:=Hs h [];rw [Qa] at this;rw [this];show [a++[]]=_;rw [Qa]
theorem sf(hx:32∉x):∀{W:List Str},(∀v∈W,32∉sg v)->ao 32 (zI W++x)=W.map sg++[x]
 | [],_=>mh hx
 | v::W,h=>by
  have e:zI (v::W)++x=sg v++32::(zI W++x):=by simp [zI]
  rw [e,jy,mh (h v (OI ..)),sf hx λu z=>h u (Oz _ z)];rfl
theorem E1{W:List Str}(h:∀v∈W,32∉sg v):wds (cO (tx (zI W)))=W++[(toString (cj (tx (zI W))):Str)++";"]:=by
 have F:=gA (eP (tx (zI W))).1 (by have:=(eP (tx (zI W))).2;lia);have e:sg (cO (tx (zI W)))=zI W++sg ((toString (cj (tx (zI W))):Str)++";"):=by
  unfold cO;rw [ck,ck,ck,bz,Pw]
 rw [dk,e,sf ?_ h,PN,QN]
 .have:(tx∘sg)=id:=funext λz=>fB z;rw [this,Ul,List.map_singleton,fB]
 .rw [ck];intro k;rcases Pi.mp k with k|k
  .have:=F.dig 32 k;lia
  .revert k;decide +kernel
theorem BB(x:Str):zU (x++";")=false:=by
 cases e:zU (x++";") with
 | false=>rfl
 | true =>
  unfold zU bE at e;rw [O1,O1,Pg] at e;have:=e.1.2 59 (by rw [ck];exact Oy _ (f!""));exact absurd this (f!"")
noncomputable def bG(t:Tab)(zs:List Str):Tab:=zs.map λn=>(n,lk t n)
noncomputable def dn(ks:List (Str×Tab))(zs:List Str):List (Str×Tab):=zs.map λn=>(n,bG (kkT ks n) (zF (names (kkT ks n))))
theorem wG{α:Type}{t:List (Str×α)}{a:α}(h:look t n=none):zN t n a=t++[(n,a)]:=by unfold zN;rw [h];rfl
def ltS(a b:Str):Prop:=a.cps.toList<b.cps.toList
theorem JA(nd:ks.Nodup):(zF ks).Pairwise ltS:=by
 obtain ⟨p,h⟩:=bR ks;have z:(zF ks).Nodup:=p.nodup_iff.mpr nd;refine (h.and z).imp λ{a b} ⟨h1,h2⟩=>QD λc=>h2 (v5 h1 ?_);unfold leS;rw [ltCps_eq];exact decide_eq_false c
theorem vK(h:aV n=true):∃c r,sg n=c::r/\(sg LET).contains c=true:=by
 unfold aV bE at h;rw [O1,O1,decide_eq_true_eq,Pg] at h;cases e:sg n with
 | nil=>have:=h.1.1;rw [<- aa,e] at this;simp at this
 | cons c r=>exact {c,r,rfl,h.2 c (by rw [e];exact OI ..)}
theorem B9(h:aV n=true):ltS "" n:=by
 obtain ⟨c,r,e,_⟩:=vK h;show ([]:List Nat)<sg n;rw [e];exact List.nil_lt_cons c r
theorem xk(h:aV n=true):zU n=false:=by
 obtain ⟨c,r,e,F⟩:=vK h;rw [QI];intro z;unfold zU bE at z;rw [O1,O1,Pg] at z;have:=z.1.2 c (by rw [e];exact OI ..);have k:∀c∈sg LET,(sg FIG).contains c=false:=by decide +kernel
 rw [k c (Qq.mp F)] at this;cases this
theorem iu(z:0<=i)(h1:i<10 ^ 18):aC (toString i:Str)=i:=ya (gA z h1).back
theorem iR(z:0<=i)(h1:i<10 ^ 18)(ws:List Str):zT ((toString i:Str)::ws)=some (i,ws):=by rw [hJ,if_pos (ic ⟨z,h1⟩),iu z h1]
theorem ue{t:Tab}(gm:aG t)(r:List Str):∀(zs:List Str)(Z1:Tab)(y:Str),(∀n∈zs,n∈names t)->(y::zs).Pairwise ltS->eJ Z1 y->bh zs.length Z1 y (cf t zs++r)=some (Z1++bG t zs,r)
 | [],Z1,y,_,_,_=>by show some (Z1,[]++r)=_;rw [RW];unfold bG;rw [map_nil,Qa]
 | n::zs,Z1,y,F,hp,O=>by
  obtain ⟨l,hl,S,l1,l2,G⟩:=gm.lk (F n (OI ..));obtain ⟨p1,p2⟩:=PX.mp hp;have J:y.cps.toList<n.cps.toList:=p1 n (OI ..);have e:cf t (n::zs)++r=n::(toString ((lk t n).length:Int):Str)::((lk t n).map (λx=>(toString x:Str))++(cf t zs++r)):=by simp [cf]
  rw [e,S,Pn,G4,if_pos {gm.nm n (F n (OI ..)),J}];have nx:zU (toString (l.length:Int):Str)=true:=ic {'l','l'};have U:aC (toString (l.length:Int):Str)=l.length:=iu 'l' 'l';have lm:(l.map λx=>(toString x:Str)).length=l.length:=OA ..;have Z:(toString (l.length:Int):Str)≠"0":=λz=>by
   have:=(oU nx).mpr z;rw [U] at this;lia
  rw [if_pos ⟨nx,Z⟩,U,QG,<- lm,List.take_left,List.drop_left];have ha:(l.map λx=>(toString x:Str)).all zU=true:=by
   rw [Pg];intro z hz;obtain ⟨x,hx,rfl⟩:=Po.mp hz;exact ic (G x hx)
  rw [if_pos {by rw [Ph];lia,ha}];have W:(l.map λx=>(toString x:Str)).map aC=l:=by
   rw [QN];exact (Qk λx hx=>iu (G x hx).1 (G x hx).2).trans (Ul _)
  rw [W,ue gm r zs (zN Z1 n l) n (λm hm=>F m (Oz _ hm)) p2 (O.put J),wG (O.new J)];unfold bG;rw [PY,S,Pw];rfl
theorem dM:∀n∈zF zs,n∈zs:=λn z=>(bR _).1.mem_iff.mp z
theorem kR{α:Type}{t:List (Str×α)}:(zF (names t)).length=t.length:=by rw [(bR _).1.length_eq];simp [names]
theorem xW(h:zs.Nodup)(z:∀n∈zs,aV n=true):(("":Str)::zF zs).Pairwise ltS:=PX.mpr {λn h=>B9 (z n (dM n h)),JA h}
theorem vC{t:Tab}(gm:aG t)(r:List Str):rdT (bT t++r)=some (bG t (zF (names t)),r):=by
 have hl:=gm.len;have e:=ue gm r (zF (names t)) [] "" dM (xW gm.nd gm.nm) AA;unfold rdT bT;rw [QS,iR 'l' 'l'];show bh (t.length:Int).toNat [] "" _=_;rw [QG,<- kR];exact e
theorem xg(gk:bw ks)(r:List Str):∀(zs:List Str)(Z1:List (Str×Tab))(y:Str),(∀n∈zs,n∈names ks)->(y::zs).Pairwise ltS->eJ Z1 y->rdK zs.length Z1 y (bb ks zs++r)=some (Z1++dn ks zs,r)
 | [],Z1,y,_,_,_=>by show some (Z1,r)=_;unfold dn;rw [map_nil,Qa]
 | n::zs,Z1,y,z,hp,G=>by
  obtain ⟨u,hl,J,O⟩:=gk.lk (z n (OI ..));obtain ⟨U,p2⟩:=PX.mp hp;have F:y.cps.toList<n.cps.toList:=U n (OI ..);have e:bb ks (n::zs)++r=n::(bT (kkT ks n)++(bb ks zs++r)):=by simp [bb]
  rw [e,J];show ((cL y (n::(bT u++(bb ks zs++r)))).bind λa=>(rdT a.2).bind λc=>rdK zs.length (zN Z1 a.1 c.1) a.1 c.2)=_;rw [o9,if_pos {gk.nm n (z n (OI ..)),F}];show ((rdT (bT u++(bb ks zs++r))).bind λc=>rdK zs.length (zN Z1 n c.1) n c.2)=_;rw [vC O];show rdK zs.length (zN Z1 n (bG u (zF (names u)))) n (bb ks zs++r)=_;rw [xg gk r zs (zN Z1 n _) n (λm S=>z m (Oz _ S)) p2 (G.put F),wG (G.new F)];unfold dn;rw [PY,J,Pw];rfl
theorem MM{t:Tab}(gm:aG t)(gk:bw ks)(r:List Str):rdF (cI t ks++r)=some ((bG t (zF (names t)),dn ks (zF (names ks))),r):=by
 have hl:=gk.len;have e:=xg gk r (zF (names ks)) [] "" dM (xW gk.nd gk.nm) AA;unfold rdF cI;rw [Pw,vC gm];show ((zT ((toString (ks.length:Int):Str)::(bb ks (zF (names ks))++r))).bind _)=_;rw [iR 'l' 'l'];show (rdK (ks.length:Int).toNat [] "" _).map _=_;rw [QG,<- kR,e];rfl
theorem xS:∀{ts:List T3},(∀t∈ts,0<=t.1/\t.1<10 ^ 18)->rk ts->(bj ts).all zU=true/\g8 (bj ts)=ts
 | [],_,_=>{rfl,rfl}
 | t::ts,h,r=>by
  obtain ⟨i1,i2⟩:=xS (ts:=ts) (λu z=>h u (Oz _ z)) (λu z=>r u (Oz _ z));have h1:=h t (OI ..);have h2:=r t (OI ..);have e:bj (t::ts)=(toString t.1:Str)::(toString t.2.1:Str)::(toString t.2.2:Str)::bj ts:=by simp [bj]
  rw [e,TU,TU,TU,i1,ic {h1.1,'l'},ic {h2.1.1,'l'},ic {h2.2.1,'l'}];refine {rfl,?_};show (aC _,aC _,aC _)::g8 (bj ts)=_;rw [i2,iu h1.1 'l',iu h2.1.1 'l',iu h2.2.1 'l']
theorem rS{t:Tab}(gm:aG t)(y:Int):y∈aA (bG t (zF (names t)))↔y∈aA t:=by
 rw [lM,lM];constructor
 .rintro ⟨p,hp,z⟩;obtain ⟨n,F,rfl⟩:=Po.mp hp;obtain ⟨l,hl,G,_⟩:=gm.lk (dM n F);exact {(n,l),ir hl,by rw [<- G];exact z}
 .rintro ⟨p,hp,z⟩;have e:=vN gm.nd (show (p.1,p.2)∈t from hp);exact {(p.1,lk t p.1),Po.mpr {p.1,(bR _).1.mem_iff.mpr (Po.mpr {p,hp,rfl}),rfl},by unfold lk;rw [e];exact z}
theorem Em{t:Tab}(gm:aG t)(gk:bw ks)(y:Int):y∈aJ (bG t (zF (names t))) (dn ks (zF (names ks)))↔y∈aJ t ks:=by
 rw [eY,eY,rS gm];refine or_congr_right {?_,?_}
 .rintro ⟨p,hp,z⟩;obtain ⟨n,F,rfl⟩:=Po.mp hp;obtain ⟨u,hl,G,J⟩:=gk.lk (dM n F);exact {(n,u),ir hl,by rw [G] at z;exact (rS J y).mp z}
 .rintro ⟨p,hp,z⟩;have e:=vN gk.nd (show (p.1,p.2)∈ks from hp);have O:kkT ks p.1=p.2:=by unfold kkT;rw [e];rfl
  exact {_,Po.mpr {p.1,(bR _).1.mem_iff.mpr (Po.mpr {p,hp,rfl}),rfl},by show y∈aA (bG (kkT ks p.1) _);rw [O];exact (rS (gk.gm p hp) y).mpr z}
theorem JQ{t:Tab}(gm:aG t)(gk:bw ks)(gs:eI ts m n)(U:(ts.map (·.1)).Perm (uniq (aJ t ks)))(O:(ts.map (·.1)).Pairwise (·<=·)):rdZ (bK m n t ks ts)=some ((m,n),(bG t (zF (names t)),dn ks (zF (names ks))),ts):=by
 have wd:=(hX gm gk gs).1;have few:=gs.few;obtain ⟨t1,t2⟩:=xS gs.b gs.r;have G:=(i5 gs.b gs.r).2;have F:∃a,zI (aB m n t ks ts)=a++[32]:=by
  have:∀(v:Str)(W:List Str),∃a,zI (v::W)=a++[32]:=λv W=>{_,(uu v W).symm};exact this _ _
 have S:=DZ F;have J:wds (aR (tx (zI (aB m n t ks ts))))=aB m n t ks ts:=by
  have h1:=MQ (b:=tx (zI (aB m n t ks ts))) (by rw [bz];exact F);have h2:=sf (x:=[]) 'z' λv hv=>(wd v hv).no;rw [Qa] at h2;rw [dk,bz,h2,PN,QN,show (tx∘sg)=id from funext λz=>fB z,Ul] at h1;exact (List.append_cancel_right h1).symm
 unfold rdZ dH bK;rw [S,if_pos rfl];show fg (wds (aR (tx (zI (aB m n t ks ts)))))=_;rw [J];unfold aB;rw [fg,if_pos rfl,iR gs.m.1 gs.m.2];show (zT ((toString n:Str)::_)).bind _=_;rw [iR gs.n.1 gs.n.2];show (rdF (cI t ks++(toString (ts.length:Int):Str)::bj ts)).bind _=_;rw [MM gm gk];show ((zT ((toString (ts.length:Int):Str)::bj ts)).bind _).bind _=_;rw [iR 'l' 'l'];show (bO (ts.length:Int).toNat [] (bj ts)).bind _=_;rw [QG,vL _ _ _ G,if_pos t1,t2];show (if _/\gW _ ts=true then _ else _)=_;refine if_pos {rfl,qI.mpr {U.trans ((RI f9 f9).mpr λy=>by rw [i7,i7];exact (Em gm gk y).symm),O}}
noncomputable def Src(ws:List Str)(x:Int):Prop:=∃v∈ws,zU v=true/\aC v=x
theorem Src.mono(h:Src ws x)(s:∀v∈ws,v∈z):Src z x:=let ⟨v,hv,r⟩:=h;{v,s v hv,r}
theorem uV:∀{n:Nat}{t u:Tab}{y:Str}{ws r:List Str},bh n t y ws=some (u,r)->(∀p∈u,p∈t\/∀x∈p.2,Src ws x)/\∀v∈r,v∈ws
 | 0,_,_,_,_,_,h=>by injection h with h;injection h with h1 h2;rw [h1,h2];exact {λp hp=>.inl hp,λv hv=>hv}
 | n+1,t,u,y,ws,r,h=>by
  obtain ⟨⟨z,r1⟩,e,g⟩:=bind_some h;obtain ⟨⟨i,r2⟩,S,g⟩:=bind_some g;have g:(if i=0 then none else (bH i.toNat [] r2).bind λc=>bh n (zN t z c.1) z c.2)=some (u,r):=g;split at g
  .cases g
  .obtain ⟨⟨l,U⟩,F,g⟩:=bind_some g;have s1:∀v∈r1,v∈ws:=λv hv=>by rw [(wJ e).1];exact Oz _ hv
   have s2:∀v∈r2,v∈ws:=λv hv=>by
    obtain ⟨x,G⟩:=jk S;refine s1 v ?_;have G:r1=x::r2:=G;rw [G];exact Oz _ hv
   rw [mU] at F;split at F
   .rename_i W;injection F with F;injection F with e4 e5
    have J:∀v∈U,v∈ws:=λv hv=>s2 v (by rw [<- e5] at hv;exact List.mem_of_mem_drop hv);obtain ⟨i1,i2⟩:=uV g;refine {λp hp=>?_,λv hv=>J v (i2 v hv)};rcases i1 p hp with h|h
    .rcases mI h with h|h
     .exact .inl h
     .right;rw [h];intro x hx;have hx:x∈l:=hx;rw [<- e4,RW] at hx;obtain ⟨v,hv,O⟩:=Po.mp hx;exact {v,s2 v (RS hv),Pg.mp W.2 v hv,O}
    .exact .inr λx hx=>(h x hx).mono J
   .cases F
theorem yD{ws r:List Str}(h:rdT ws=some (u,r)):(∀y∈aA u,Src ws y)/\∀v∈r,v∈ws:=by
 obtain ⟨⟨i,r1⟩,e,g⟩:=bind_some h;obtain ⟨x,F⟩:=jk e;have F:ws=x::r1:=F;have s1:∀v∈r1,v∈ws:=λv hv=>by rw [F];exact Oz _ hv
 obtain ⟨i1,i2⟩:=uV g;refine {λy z=>?_,λv hv=>s1 v (i2 v hv)};obtain ⟨p,hp,z⟩:=lM.mp z;rcases i1 p hp with h|h
 .cases h
 .exact (h y z).mono s1
theorem tG:∀{n:Nat}{ks us:List (Str×Tab)}{y:Str}{ws r:List Str},rdK n ks y ws=some (us,r)->(∀p∈us,p∈ks\/(p.1∈ws/\∀y∈aA p.2,Src ws y))/\∀v∈r,v∈ws
 | 0,_,_,_,_,_,h=>by injection h with h;injection h with h1 h2;rw [h1,h2];exact {λp hp=>.inl hp,λv hv=>hv}
 | n+1,ks,us,y,ws,r,h=>by
  obtain ⟨⟨z,r1⟩,e,g⟩:=bind_some h;obtain ⟨⟨t,r2⟩,J,g⟩:=bind_some g;have G:=(wJ e).1;have s1:∀v∈r1,v∈ws:=λv hv=>by rw [G];exact Oz _ hv
  obtain ⟨k1,k2⟩:=yD J;have s2:∀v∈r2,v∈ws:=λv hv=>s1 v (k2 v hv);obtain ⟨i1,i2⟩:=tG g;refine {λp hp=>?_,λv hv=>s2 v (i2 v hv)};rcases i1 p hp with h|⟨h,h'⟩
  .rcases mI h with h|h
   .exact .inl h
   .right;rw [h];exact {by rw [G];exact OI ..,λy F=>(k1 y F).mono s1}
  .exact .inr {s2 _ h,λy F=>(h' y F).mono s2}
theorem GH{ws r:List Str}(h:rdF ws=some ((u,us),r)):(∀y∈aJ u us,Src ws y)/\(∀p∈us,p.1∈ws)/\(names us).Nodup:=by
 unfold rdF at h;obtain ⟨⟨t,r1⟩,Z,g⟩:=bind_some h;obtain ⟨⟨i,r2⟩,U,g⟩:=bind_some g;obtain ⟨⟨ks,r3⟩,O,g⟩:=Pf.mp g;injection g with g1 g2
 injection g1 with F G
 have F:t=u:=F;have G:ks=us:=G;subst F G;obtain ⟨S,W⟩:=yD Z;obtain ⟨x,ex⟩:=jk U;have ex:r1=x::r2:=ex;have s2:∀v∈r2,v∈ws:=λv hv=>W v (by rw [ex];exact Oz _ hv);obtain ⟨J,b2⟩:=tG O;refine {λy z=>?_,λp hp=>?_,(tH O (by simp [names]) 'z').1}
 .rcases eY.mp z with z|⟨p,hp,z⟩
  .exact S y z
  .rcases J p hp with h|⟨_,h⟩
   .cases h
   .exact (h y z).mono s2
 .rcases J p hp with h|⟨h,_⟩
  .cases h
  .exact s2 _ h
noncomputable def Cov(S:List Str)(z:Str):Prop:=∀v∈wds z,zU v=true->v∈S
theorem Ks(h:zU v=true):v≠"":=λe=>by rw [e] at h;exact absurd h (f!"")
theorem Kx(hv:v∈wds (aR (aO z))):v∈wds z\/v="":=by
 by_cases h:32∈sg z
 .obtain ⟨a,b,e,F⟩:=kQ 32 (sg z) h;have ec:aR (aO z)=tx a:=by
   rw [jV e F];unfold aR;rw [my (by rw [bz];simp),bz,SE]
  rw [ec,dk,bz] at hv;left;rw [dk,e,jy,PN];exact Pb _ hv
 .have J:aO z="":=by
   unfold aO;rw [qY h];have:=jC (x:=z) (j:=0) (Pp _);rw [take_zero] at this;exact this
  have G:wds (aR "")=[("":Str)]:=by
   have:aR "" = "":=by decide +kernel
   rw [this,dk];decide +kernel
  rw [J,G] at hv;exact .inr (O3.mp hv)
theorem qP(z:Str):(wds (aR (aO z))).length<=(wds z).length:=by
 by_cases h:32∈sg z
 .obtain ⟨a,b,e,F⟩:=kQ 32 (sg z) h;have ec:aR (aO z)=tx a:=by
   rw [jV e F];unfold aR;rw [my (by rw [bz];simp),bz,SE]
  rw [ec,iA,iA,bz,e,Tq];lia
 .have J:aO z="":=by
   unfold aO;rw [qY h];have:=jC (x:=z) (j:=0) (Pp _);rw [take_zero] at this;exact this
  have G:aR "" = "":=by decide +kernel
  rw [J,G,iA,iA];have:(sg ("":Str)).count 32=0:=by decide +kernel
  lia
theorem um(c:Cov S z)(U:S.length<64)(hw:(wds z).length<=3003):∀G u us r,(∀v∈G,v∈wds (aR (aO z)))->rdF G=some ((u,us),r)->(uniq (aJ u us)).length<64/\us.length<=4000:=by
 intro G u us r hs h;obtain ⟨h1,h2,h3⟩:=GH h;constructor
 .have:=mP (xs:=uniq (aJ u us)) (L:=S.map aC) f9 λy J=>by
   obtain ⟨v,hv,F,e⟩:=h1 y (i7.mp J);refine Po.mpr {v,?_,e};rcases Kx (hs v hv) with k|k
   .exact c v k F
   .exact absurd k (Ks F)
  rw [OA] at this;lia
 .have:=mP (xs:=names us) (L:=wds (aR (aO z))) h3 λn F=>by
   obtain ⟨p,hp,e⟩:=Po.mp F;rw [<- e];exact hs _ (h2 p hp)
  have W:=qP z;have O:(names us).length=us.length:=by simp [names]
  lia
noncomputable def SM:List Str:=(Qh 32).map λ(k:Nat)=>(toString (k:Int):Str)
theorem ip{S:List Str}(h:∀v∈SM,v∈S){i:Int}(z:0<=i)(h1:i<32):(toString i:Str)∈S:=h _ (Po.mpr {i.toNat,Sn.mpr 'l',by show (toString ((i.toNat:Nat):Int):Str)=_;rw [Int.toNat_of_nonneg z]})
theorem yt{S:List Str}(h:∀v∈SM,v∈S){t:Tab}(gm:aG t)(F:∀y∈aA t,(toString y:Str)∈S):∀v∈bT t,zU v=true->v∈S:=λv hv e=>by
 have hl:=gm.len;unfold bT at hv;rcases OL.mp hv with rfl|hv
 .exact ip h 'l' 'l'
 .obtain ⟨n,z,hv⟩:=Tg.mp hv;have z:=dM n z;obtain ⟨l,hl,G,J,U,O⟩:=gm.lk z;rw [G] at hv;rcases OL.mp hv with rfl|hv
  .rw [xk (gm.nm _ z)] at e;cases e
  rcases OL.mp hv with rfl|hv
  .exact ip h 'l' 'l'
  .obtain ⟨x,hx,rfl⟩:=Po.mp hv;exact F x (lM.mpr {(n,l),ir hl,hx})
theorem BR{S:List Str}(h:∀v∈SM,v∈S){t:Tab}(gm:aG t)(gk:bw ks)(gs:eI ts m n)(G:∀y∈aJ t ks,(toString y:Str)∈S)(Z:∀t'∈ts,t'.1∈aJ t ks)(O:(toString m:Str)∈S)(z:(toString n:Str)∈S)(few:ts.length<32):∀v∈aB m n t ks ts,zU v=true->v∈S:=λv hv e=>by
 have hl:=gk.len;unfold aB at hv;rcases OL.mp hv with rfl|hv
 .exact absurd e (f!"")
 rcases OL.mp hv with rfl|hv
 .exact O
 rcases OL.mp hv with rfl|hv
 .exact z
 rcases Pi.mp hv with hv|hv
 .unfold cI at hv;rcases Pi.mp hv with hv|hv
  .exact yt h gm (λy J=>G y (eY.mpr (.inl J))) v hv e
  rcases OL.mp hv with rfl|hv
  .exact ip h 'l' 'l'
  obtain ⟨n,z,hv⟩:=Tg.mp hv;have z:=dM n z;obtain ⟨u,hl,U,W⟩:=gk.lk z;rw [U] at hv;rcases OL.mp hv with rfl|hv
  .rw [xk (gk.nm _ z)] at e;cases e
  .exact yt h W (λy J=>G y (eY.mpr (.inr {(n,u),ir hl,J}))) v hv e
 rcases OL.mp hv with rfl|hv
 .exact ip h 'l' 'l'
 obtain ⟨t',F,hv⟩:=Tg.mp hv;have r:=gs.r t' F;simp only [OL,Pa,or_false] at hv;rcases hv with rfl|rfl|rfl
 .exact G _ (Z t' F)
 .exact ip h r.1.1 'l'
 .exact ip h r.2.1 r.2.2
noncomputable def DG(b:List Nat):List Nat:=sg (toString (cj (tx b)):Str)
theorem dgF(b:List Nat):uG (cj (tx b)):=gA (eP _).1 (by have:=(eP (tx b)).2;lia)
theorem G8(b:List Nat)(h:c<48\/57<c):c∉DG b:=λz=>by
 have:=(dgF b).dig c z;lia
theorem vZ(b:List Nat):sg (cO (tx b))=b++DG b++[59]:=by
 unfold cO DG;rw [ck,ck,bz];rfl
theorem Jk(F:c≠59):dH (tx (l++[c]))=none:=by
 unfold dH;refine if_neg λh=>?_;have h:=congrArg sg h;rw [bz,<- fB (aO _),vZ] at h;exact F (List.append_inj_right' h rfl |> λz=>by injection z)
theorem LY(h:59∉l):dH (tx l)=none:=by
 rcases List.eq_nil_or_concat l with e|⟨a,c,e⟩
 .rw [e];decide +kernel
 .rw [e,List.concat_eq_append];refine Jk λx=>h ?_;rw [e,x,List.concat_eq_append];simp
theorem FG(h:dH z=none):rdZ z=none:=by unfold rdZ;rw [h];rfl
section
variable {m n:Int}{t:Tab}{ks:List (Str×Tab)}{ts:List T3} (gm:aG t) (gk:bw ks) (gs:eI ts m n)
include gm gk gs
theorem G9:sg (bK m n t ks ts)=zI (aB m n t ks ts)++DG (zI (aB m n t ks ts))++[59]:=vZ _
theorem MS:59∉zI (aB m n t ks ts):=λh=>by
 have wd:=(hX gm gk gs).1;unfold zI at h;obtain ⟨l,hl,z⟩:=List.mem_flatten.mp h;obtain ⟨v,hv,rfl⟩:=Po.mp hl;rcases Pi.mp z with z|z
 .exact (wd v hv).n9 z
 .simp at z
theorem Mp{k:Nat}(z:k<(sg (bK m n t ks ts)).length):rdZ (tx ((sg (bK m n t ks ts)).take k))=none:=by
 refine FG (LY λh=>?_);rw [G9 gm gk gs] at h z;rw [List.take_append_of_le_length (by rw [Ph] at z;simpa using Nat.le_of_lt_succ z)] at h;have h:=RS h;rcases Pi.mp h with h|h
 .exact MS gm gk gs h
 .exact G8 _ (.inr 'd') h
end
structure ZOk(z:Str):Prop where
 a:asc z=true
 l:z.length<=100000
 w:(wds z).length<=3003
 c:∃N:List Str,N.length<=63/\Cov N z
theorem vF{t:Tab}(gm:aG t):aG (bG t (zF (names t))):=by
 have en:names (bG t (zF (names t)))=zF (names t):=by unfold bG names;rw [QN];exact Ul _
 refine {by rw [en];exact (bR _).1.nodup_iff.mpr gm.nd,by unfold bG;rw [OA,kR];exact gm.len,λn z=>gm.nm n (dM n (by rw [<- en];exact z)),λp hp=>?_};obtain ⟨n,z,rfl⟩:=Po.mp hp;obtain ⟨l,hl,F,r⟩:=gm.lk (dM n z);show 1<=(lk t n).length/\_;rw [F];exact r
theorem Cr(gk:bw ks):bw (dn ks (zF (names ks))):=by
 have en:names (dn ks (zF (names ks)))=zF (names ks):=by unfold dn names;rw [QN];exact Ul _
 refine {by rw [en];exact (bR _).1.nodup_iff.mpr gk.nd,by unfold dn;rw [OA,kR];exact gk.len,λn z=>gk.nm n (dM n (by rw [<- en];exact z)),λp hp=>?_};obtain ⟨n,z,rfl⟩:=Po.mp hp;obtain ⟨u,hl,F,G⟩:=gk.lk (dM n z);show aG (bG (kkT ks n) _);rw [F];exact vF G
abbrev kD:Stmt:=zP (top 91) 0
abbrev qD:Stmt:=zP (top 91) 1
abbrev pL:Stmt:=zP (top 91) 3
abbrev rH:Stmt:=zP (top 91) 5
abbrev pT:Stmt:=zP (top 91) 6
abbrev lQ:Stmt:=zP (top 91) 8
abbrev ml:Stmt:=zP (top 91) 12
abbrev qB:Stmt:=zP (top 91) 13
abbrev kF:Stmt:=zP (top 91) 14
abbrev Tx:=Option Str
def tv:Tx->V|none=>.non|some z=>.str z
noncomputable def lv:Option Int->V|none=>.non|some k=>.int k
theorem LS:lv none = .non:=rfl
theorem Hj{k:Int}:lv (some k) = .int k:=rfl
abbrev DC:=Int×Option Int×Bool
noncomputable def zB(m:Int)(wl sl:Addr)(d:DC):List (Str×V):=[("width",.int m),("written",.ref wl),("at_sides",.ref sl),("counted",.int d.1),("left",lv d.2.1),("has_stopped",.bl d.2.2)]
structure GkD(A:zh)(H:Hp)(p wl sl:Addr)(n:Nat)(m c:Int)(lf:Option Int)(st:Bool)(s0 s1:Tx):Prop where
 ob:∃dx,H p=some (.ins A.yz dx (zB m wl sl (c,lf,st)))
 wr:∃Z3:List Addr,H wl=some (.lst (Z3.map V.ref))/\Z3.length=n/\∀x∈Z3,H x=some (.lst [])
 n3:3<=n/\n<=16
 sd:H sl=some (.lst [tv s0,tv s1])
abbrev BkD(A:zh)(H:Hp)(p wl sl:Addr)(n:Nat)(m c:Int)(s0 s1:Tx):Prop:=GkD A H p wl sl n m c none false s0 s1
section
variable {A:zh}{H H':Hp}{p wl sl:Addr}{n:Nat}{m c:Int}{lf:Option Int}{st:Bool}{s0 s1:Tx}
theorem GkD.mv(D:GkD A H p wl sl n m c lf st s0 s1)(k:∀a o,((∃C dx fs,o = .ins C dx fs)\/∃xs,o = .lst xs)->H a=some o->H' a=some o):GkD A H' p wl sl n m c lf st s0 s1:=by
 obtain ⟨dx,e⟩:=D.ob;obtain ⟨cs,F,z,G⟩:=D.wr;exact {{dx,k _ _ (.inl {_,_,_,rfl}) e},{cs,k _ _ (.inr {_,rfl}) F,z,λx hx=>k _ _ (.inr {_,rfl}) (G x hx)},D.n3,k _ _ (.inr {_,rfl}) D.sd}
theorem GkD.same(D:GkD A H p wl sl n m c lf st s0 s1)(k:zj H H'):GkD A H' p wl sl n m c lf st s0 s1:=D.mv λa o _ e=>k a o e
theorem Fd:tv s≠.ref a:=by cases s<;>nofun
theorem GkD.put(D:GkD A H p wl sl n m c lf st s0 s1)(b:∀a o,a≠p->a≠sl->H a=some o->H' a=some o)(e:H' p=some (.ins A.yz dx (zB m wl sl (c',J,U))))(Z:H' sl=some (.lst [tv G,tv s1'])):GkD A H' p wl sl n m c' J U G s1':=by
 obtain ⟨d0,S⟩:=D.ob;obtain ⟨cs,F,W,O⟩:=D.wr;have sd:=D.sd;have n3:=D.n3;refine {⟨dx,e⟩,{cs,b _ _ (λz=>by rw [z,S] at F;cases F) (λz=>?_) F,W,λx hx=>b _ _ (λz=>by have:=O x hx;rw [z,S] at this;cases this) (λz=>by have:=O x hx;rw [z,sd] at this;cases this) (O x hx)},n3,Z};rw [z,sd] at F;cases cs with
 | nil=>rw [<- W] at n3;exact absurd n3.1 'd'
 | cons x cs=>injection F with F;injection F with F;injection F with F _;exact Fd F
theorem A3:(zB m wl sl (c,lf,st)).lookup ("width":Str)=some (.int m):=by kernel_rfl
theorem jj:(zB m wl sl (c,lf,st)).lookup ("written":Str)=some (.ref wl):=by kernel_rfl
theorem qi:(zB m wl sl (c,lf,st)).lookup ("at_sides":Str)=some (.ref sl):=by kernel_rfl
theorem lP:(zB m wl sl (c,lf,st)).lookup ("counted":Str)=some (.int c):=by kernel_rfl
theorem yY:(zB m wl sl (c,lf,st)).lookup ("left":Str)=some (lv lf):=by kernel_rfl
theorem uo:(zB m wl sl (c,lf,st)).lookup ("has_stopped":Str)=some (.bl st):=by kernel_rfl
theorem qq:zG "counted" (.int x) (zB m wl sl (c,lf,st))=zB m wl sl (x,lf,st):=by kernel_rfl
theorem Aq:zG "has_stopped" (.bl b) (zB m wl sl (c,lf,st))=zB m wl sl (c,lf,b):=by kernel_rfl
theorem xr:zG "left" (.int x) (zB m wl sl (c,lf,st))=zB m wl sl (c,some x,st):=by kernel_rfl
theorem fj:(zB m wl sl (c,lf,st)).length<1000:=by show 6<1000;decide
end
theorem rF:(zB m wl sl d).lookup (VY:Str)=none:=by kernel_rfl
theorem jN:(zB m wl sl d).lookup (VW:Str)=none:=by kernel_rfl
theorem HH:(zB m wl sl d).lookup ("next_place":Str)=none:=by kernel_rfl
theorem MW:(zB m wl sl d).lookup ("side":Str)=none:=by kernel_rfl
theorem mR:(zB m wl sl d).lookup (VE:Str)=none:=by kernel_rfl
theorem Nm:(zB m wl sl d).lookup ("write":Str)=none:=by kernel_rfl
theorem uq:(zB m wl sl d).lookup ("put_side":Str)=none:=by kernel_rfl
theorem Dg:(zB m wl sl d).lookup ("empty":Str)=none:=by kernel_rfl
theorem B4:(zB m wl sl d).lookup ("stop":Str)=none:=by kernel_rfl
theorem fN:(zB m wl sl d).lookup (V7:Str)=none:=by kernel_rfl
theorem Ag:(zB m wl sl d).lookup ("spend":Str)=none:=by kernel_rfl
theorem wc:(zB m wl sl d).lookup (VS:Str)=none:=by kernel_rfl
section
variable {P:OF}{w:OS}{K:Frag}{mg:Str->Option Value}{base:Heap}{A:zh}
def nK(A:zh):Sp:=λvs H Q _=>∃(p dx:Addr)(n m:Int),vs=[.ref p,.int n,.int m]/\H p=some (.ins A.yz dx [])/\3<=n/\n<=16/\2<=m/\m<=32 /\
 ∀wl sl H',But p H H'->H wl=none->H sl=none->BkD A H' p wl sl n.toNat m 0 none none->(∀cs:List Addr,H' wl=some (.lst (cs.map V.ref))->∀x∈cs,H x=none)->Q .non H'
structure Ce(H:Hp)(i:Nat)(τ:L2.St)(ys:List V)(H':Hp):Prop where
 τ:∃t,τ=[t]
 ex:∃Z3:List Addr,ys=Z3.map V.ref/\Z3.length=i/\∀c∈Z3,H' c=some (.lst [])/\H c=none
 same:zj H H'
 le:i<=16
theorem L9:zx XN XN (zo kD):=fsc
theorem Hy:bM { kind:=.function,names:=[(Ox ".0",.local),(Ox "number",.local)],isGenerator:=false,isCoroutine:=false,more:=[] } (zo kD).names XN ["number"] [none]=true:=by decide +kernel
theorem Iy:(["number"]:List Str).Nodup:=by decide +kernel
theorem M6(F:Fun K Wc "Disk.__init__" kD f fd)(T:Txt K mg A)(ZQ:GF P w K mg base true 2 VV Xv mw):zq P w K mg base CX0 true 3 f fd XN (nK A):=by
 refine F.o L9 λZ2 Ar outer s H vs Q E hr h=>?_;obtain ⟨p,dx,n,m,rfl,hp,n0,n1,m0,m1,q⟩:=h;have h1:hZ (.int n) 3 16=true:=by show (decide _&&decide _)=true;rw [decide_eq_true n0,decide_eq_true n1];rfl
 have h2:hZ (.int m) 2 32=true:=by show (decide _&&decide _)=true;rw [decide_eq_true m0,decide_eq_true m1];rfl
 refine {_,(W.h (zi (zW (dw (cc (caD (zQ ZQ hr rfl (clP (zd (zb 1) (zd (aK rfl T.af) (zd (aK rfl T.aH) ze))))))))
   (zm cN)
   z7)
   (zi (zW (dw (cc (caD (zQ ZQ hr rfl (clP (zd (zb 2) (zd (aK rfl T.bz) (zd (aK rfl T.bD) ze))))))))
   (zm cN)
   z7)
   (zi (sfD (ar T.tj T.UM 'f' (clE (zb 2))))
   (zi (sfD (ar T.tj T.z3 'f' (clE (fe (λ_=>rfl) (ay.of Hy) (dF rfl T.Uy (zd (zb 1) ze)) (λ_ _ _ _ _=>(zJ (i:=0) Iy rfl (OM rfl))) (λ_ _ _ _ _=>cY) (λ_ _ _ _ _=>(aq ze))))))
   (zi (sfD (ar T.tj T.L0 'f' (clE (aq (zd eO (zd eO ze))))))
   (zi (sfD (ar T.tj T.L3 'f' (clE zD)))
   (zi (sfD (ar T.tj T.Ux 'f' (clE eO)))
   (zm (sfD (ar T.tj T.J7 'f' (clE cM)))))))))))),?_}
 ac_rfl;refine {.int n,3,16,rfl,.int n,?_};erw [h1];refine {.int m,2,32,rfl,.int m,?_};erw [h2,hp,zt,zG,cb];refine {'d','l','l',aQ.rng (Ce (upd H p (.ins A.yz dx [("width",.int m)]))) (λi τ ys H' I=>?_) {{_,rfl},{[],rfl,rfl,'z'},zj.refl _,'d'} ?_ ?_}
 .obtain ⟨Z3,e,l,_⟩:=I.ex;have:=I.le;rw [e,OA,l];exact cG 'l'
 .intro N i τ ys H' hi I hN;obtain ⟨t,rfl⟩:=I.τ;obtain ⟨Z3,e,l,S⟩:=I.ex;ac_rfl;refine {'d',λc H2 n2 _=>hN _ _ _ {{_,rfl},{Z3++[c],by rw [e,PN];rfl,by simp [l],λb G=>?_},I.same.trans n2.same,'l'}};rcases Pi.mp G with G|G
  .exact {n2.same _ _ (S b G).1,(S b G).2}
  .rw [O3] at G;subst G;exact {n2.at_,I.same.free n2.no}
 .intro τ ys H1 I D H2 U;obtain ⟨Z3,e,l,S⟩:=I.ex;have e1:H2 p=some (.ins A.yz dx [("width",.int m)]):=U.same _ _ (I.same _ _ zt);have w1:zG "written" (.ref D) [(("width":Str),V.int m)]=[(("width":Str),V.int m),("written",.ref D)]:=by kernel_rfl
  refine {dx,_,e1,by show 1<1000;decide,'d',λs1 H3 n3 _=>?_};rw [w1] at n3;have e3:H3 p=some (.ins A.yz dx [("width",.int m),("written",.ref D)]):=n3.same _ _ zt;have w2:zG "at_sides" (.ref s1) [(("width":Str),V.int m),("written",.ref D)]=[(("width":Str),V.int m),("written",.ref D),("at_sides",.ref s1)]:=by kernel_rfl
  have w3:zG "counted" (.int 0) [(("width":Str),V.int m),("written",.ref D),("at_sides",.ref s1)]=[(("width":Str),V.int m),("written",.ref D),("at_sides",.ref s1),("counted",.int 0)]:=by kernel_rfl
  have w4:zG "left" .non [(("width":Str),V.int m),("written",.ref D),("at_sides",.ref s1),("counted",.int 0)]=[(("width":Str),V.int m),("written",.ref D),("at_sides",.ref s1),("counted",.int 0),("left",.non)]:=by kernel_rfl
  have w5:zG "has_stopped" (.bl false) [(("width":Str),V.int m),("written",.ref D),("at_sides",.ref s1),("counted",.int 0),("left",.non)]=zB m D s1 (0,none,false):=by kernel_rfl
  refine {dx,_,e3,?_};rw [w2,w3,w4,w5,dQ,dQ,dQ];refine {by show 2<1000;decide,by show 3<1000;decide,by show 4<1000;decide,by show 5<1000;decide,?_};have pD:D≠p:=λz=>by have:=U.no;rw [z,I.same _ _ zt] at this;cases this
  have ps:s1≠p:=λz=>by have:=n3.no;rw [z,zt] at this;cases this
  have k2:∀b o,b≠p->H2 b=some o->upd H3 p (.ins A.yz dx (zB m D s1 (0,none,false))) b=some o:=λb o G h=>by rw [zg G];exact n3.same _ _ (by rw [zg G];exact h)
  have k0:∀b o,b≠p->H b=some o->H2 b=some o:=λb o G h=>U.same _ _ (I.same _ _ (by rw [zg G];exact h));have O:=U.at_;rw [e] at O;have fr:∀b,b≠p->H2 b=none->H b=none:=λb G h=>by
   cases eb:H b with
   | none=>rfl
   | some o=>rw [k0 b o G eb] at h;cases h
  refine q D s1 _ (λb o G h=>k2 b o G (k0 b o G h)) ?_ (fr s1 ps (by have:=n3.no;rw [zg ps] at this;exact this)) {⟨dx,zt⟩,{Z3,k2 _ _ pD O,by rw [l],λx hx=>k2 _ _ (λz=>?_) (U.same _ _ (S x hx).1)},'l',by rw [zg ps];exact n3.at_} (λcs ec x hx=>?_)
  .cases eb:H D with
   | none=>rfl
   | some o=>have:=I.same D o (by rw [zg pD];exact eb);rw [U.no] at this;cases this
  .have:=(S x hx).2;rw [z,zt] at this;cases this
  .have J:=k2 _ _ pD O;rw [ec] at J;injection J with J
   injection J with J
   have ai:V.ref x∈Z3.map V.ref:=by rw [<- J];exact List.mem_map_of_mem hx
   obtain ⟨y,hy,ey⟩:=Po.mp ai;cases ey;have h0:=(S _ hy).2;by_cases Z:x=p
   .rw [Z,zt] at h0;cases h0
   .rw [zg Z] at h0;exact h0
noncomputable def lr(A:zh):Sp:=λvs H Q _=>∃(p dx wl sl:Addr)(m c:Int)(lf:Option Int)(st:Bool)(xs:List V),vs=[.ref p]/\H p=some (.ins A.yz dx (zB m wl sl (c,lf,st)))/\H wl=some (.lst xs)/\Q (.int xs.length) H
noncomputable def oh(A:zh):Sp:=λvs H Q _=>∃(p dx wl sl:Addr)(m c:Int)(lf:Option Int)(st:Bool),vs=[.ref p]/\H p=some (.ins A.yz dx (zB m wl sl (c,lf,st)))/\Q (.int c) H
def AH(A:zh):Sp:=λvs H Q _=>∃(p wl sl:Addr)(n:Nat)(m c:Int)(s0 s1:Tx)(k:Nat),vs=[.ref p,.int k]/\BkD A H p wl sl n m c s0 s1/\k<n/\Q (.int 0) H
def tf(A:zh):Sp:=λvs H Q _=>∃(p wl sl:Addr)(n:Nat)(m c:Int)(s0 s1:Tx)(k:Int),vs=[.ref p,.int k]/\BkD A H p wl sl n m c s0 s1/\((k=0/\Q (tv s0) H)\/(k=1/\Q (tv s1) H))
theorem DV:zx Zf Zf (zo qD):=fsc
theorem EU(F:Fun K VW "Disk.stretches" qD f fd)(T:Txt K mg A):zq P w K mg base CX0 true 1 f fd Zf (lr A):=by
 refine F.o DV λJ G outer s H vs Q E hr h=>?_;obtain ⟨p,dx,wl,sl,m,c,lf,st,xs,rfl,h1,z,q⟩:=h;refine {_,(W.h (zm (zA (zM eW rfl T.UH PK (zd (fD (zO T.tj T.z3 'f')) ze))))),?_};erw [h1,z,jj];exact q
theorem FC:zx Zf Zf (zo pT):=fsc
theorem EL(F:Fun K VE "Disk.signs" pT f fd)(T:Txt K mg A):zq P w K mg base CX0 true 1 f fd Zf (oh A):=by
 refine F.o FC λG z outer s H vs Q E hr h=>?_;obtain ⟨p,dx,wl,sl,m,c,lf,st,rfl,h1,q⟩:=h;refine {_,(W.h (zm (zA (fD (zO T.tj T.L3 'f'))))),?_};erw [h1,lP];exact q
theorem JS:zx WE WE (zo pL):=fsc
theorem Ir(F:Fun K "next_place" "Disk.next_place" pL f fd)(T:Txt K mg A):zq P w K mg base CX0 true 1 f fd WE (AH A):=by
 refine F.o JS λZ U outer s H vs Q E hr h=>?_;obtain ⟨p,wl,sl,n,m,c,s0,s1,k,rfl,D,z,q⟩:=h;obtain ⟨dx,h1⟩:=D.ob;obtain ⟨cs,G,O,S⟩:=D.wr;rw [<- O] at z;have ha:atI (cs.map V.ref) (k:Int)=some (.ref cs[k]):=gP (by rw [O0,Os z];rfl);have J:=S _ (PV z);refine {_,(W.h (zm (zA (zM eW rfl T.UH PK (zd (aW cq (fD (zO T.tj T.z3 'f')) (zb 1) (λ_ _=>rfl)) ze))))),?_};erw [h1,G,jj,ha,J];exact q
theorem C9:zx ["self","k"] ["self","k"] (zo rH):=fsc
theorem Ej(F:Fun K "side" "Disk.side" rH f fd)(T:Txt K mg A):zq P w K mg base CX0 true 1 f fd ["self","k"] (tf A):=by
 refine F.o C9 λG z outer s H vs Q E hr h=>?_;obtain ⟨p,wl,sl,n,m,c,s0,s1,k,rfl,D,q⟩:=h;obtain ⟨dx,h1⟩:=D.ob;have hs:=D.sd;refine {_,(W.h (zm (zA (aW cq (fD (zO T.tj T.L0 'f')) (zb 1) (λ_ _=>rfl))))),?_};erw [h1,qi,hs];rcases q with ⟨rfl,q⟩|⟨rfl,q⟩
 .exact {_,qQ,q}
 .exact {_,rg,q}
def spn:Option Int->Int->Int
 | none,n=>n
 | some k,n=>if k<n then k else n
noncomputable def jw(A:zh):Sp:=λvs H Q E=>∃(p dx wl sl:Addr)(m c:Int)(lf:Option Int)(st:Bool),vs=[.ref p]/\H p=some (.ins A.yz dx (zB m wl sl (c,lf,st)))/\(st=false->Q .non H)/\(st=true->E (.ref A.vr) none H)
noncomputable def ng(A:zh):Sp:=λvs H Q _=>∃(p dx wl sl:Addr)(m c n:Int)(lf:Option Int)(st:Bool),vs=[.ref p,.int n]/\H p=some (.ins A.yz dx (zB m wl sl (c,lf,st)))/\Q (.int (spn lf n)) (upd H p (.ins A.yz dx (zB m wl sl (c+spn lf n,lf.map (· - spn lf n),decide (spn lf n<n)))))
theorem Fo:zx Zf Zf (zo ml):=fsc
theorem NB(F:Fun K V7 VZ ml f fd)(T:Txt K mg A):zq P w K mg base (CXW P w) true 1 f fd Zf (jw A):=by
 refine F.oW Fo λJ z outer s H vs Q E hr h=>?_;obtain ⟨p,dx,wl,sl,m,c,lf,st,rfl,h1,q,O⟩:=h;have G:=bA (cm:=true) (P:=P) (w:=w) (K:=K) (mg:=mg) (base:=base) (N:=Zf) (qual:=VZ) (scope:=zo ml) (f:=f) (cd:=J) (A:=z) (outer:=outer) (s:=s) (H:=H) (E:=E);refine {_,(W.h (zm (zW (cc (fD (zO T.tj T.J7 'f')))
   (zm (dh rfl G T.Vm rfl T.a9 (zd zH ze)))
   z7))),?_}
 erw [h1,uo];cases st with
 | false =>
  ac_rfl;exact q rfl
 | true =>
  ac_rfl;exact {'d',O rfl}
theorem qp:zx ["self","many","done"] WB (zo qB):=fsc
theorem Oo(F:Fun K "spend" "Disk.spend" qB f fd)(T:Txt K mg A):zq P w K mg base CX0 true 1 f fd WB (ng A):=by
 refine F.o qp λG z outer s H vs Q E hr h=>?_;obtain ⟨p,dx,wl,sl,m,c,n,lf,st,rfl,h1,q⟩:=h;refine {_,(W.h (zi (zC (i:=2) qp.nd rfl (OM rfl) (zb 1))
   (zi (zW (tD (aP (clO sN) (clE (fD (zO T.tj T.Ux 'f'))) (clE eO) (aE _)))
   (zi (zC (i:=2) qp.nd rfl (OM rfl) (zM (vq rfl) rfl T.eR boot_min (zd (zb 1) (zd (fD (zO T.tj T.Ux 'f')) ze))))
   (zm (nL T.tj T.Ux (zb 0) (zb 2) LF)))
   z7)
   (zi (nL T.tj T.L3 (zb 0) (zb 2) wu)
   (zi (sfD (ar T.tj T.J7 'f' (clE (fV (oI0 rX) (zb 2) (zb 1) (aE _)))))
   (zm (zA (zb 2)))))))),?_}
 erw [h1,yY];cases lf with
 | none =>
  erw [LS,h1,lP,zt,dQ,qq,Aq];exact ⟨fj,fj,q⟩
 | some k =>
  erw [Hj,h1,yY,lP,zt,dQ,qq,Aq,xr];exact ⟨fj,fj,fj,q⟩
noncomputable def hd(z:Str)(d:Int):Str:=tx ((sg z).take d.toNat)
noncomputable def mW(A:zh):Sp:=λvs H Q E=>∃(p dx wl sl:Addr)(m c:Int)(lf:Option Int)(st:Bool)(z:Str),vs=[.ref p,.str z]/\H p=some (.ins A.yz dx (zB m wl sl (c,lf,st)))/\0<z.length/\z.length<=100000/\(∀k,lf=some k->0<=k) /\
 ∀H',H'=upd H p (.ins A.yz dx (zB m wl sl (c+spn lf z.length,lf.map (· - spn lf z.length),decide (spn lf z.length<z.length))))->(spn lf z.length=0->E (.ref A.vr) none H')/\(0<spn lf z.length->Q (.str (hd z (spn lf z.length))) H')
theorem sO(h:∀k,lf=some k->0<=k)(z:0<=n):0<=spn lf n/\spn lf n<=n:=by
 cases lf with
 | none=>exact {z,Int.le_refl _}
 | some k =>
  have:=h k rfl;show 0<=(if k<n then k else n)/\(if k<n then k else n)<=n;split<;>lia
theorem yV:zx ["self","text","done"] WD (zo kF):=fsc
theorem E9(F:Fun K VS "Disk.first_signs" kF f fd)(T:Txt K mg A)(ZA:GM P w K mg base true 1 A.yz "spend" WB (ng A))(J:GMX P w K mg base true 1 A.yz V7 Zf (jw A)):zq P w K mg base (CXW P w) true 2 f fd WD (mW A):=by
 refine F.oW yV λZ G outer s H vs Q E hr h=>?_;obtain ⟨p,dx,wl,sl,m,c,lf,st,z,rfl,h1,z0,z1,l0,q⟩:=h;have O:_<cLine:=Ql (bB hr);have S:=bA (cm:=true) (P:=P) (w:=w) (K:=K) (mg:=mg) (base:=base) (N:=["self","text","done"]) (qual:="Disk.first_signs") (scope:=zo kF) (f:=f) (cd:=Z) (A:=G) (outer:=outer) (s:=s) (H:=H) (E:=E);refine {_,(W.h (zi (zC (i:=2) yV.nd rfl (OM rfl) (mD (cn 'f' T.tj ZA hr (clP (zd (zM eW rfl T.UH PK (zd (zb 1) ze)) ze)))))
   (zi (zW (tD (aP (clO (oE (eS O))) (clE (zb 2)) (clE zD) (aE _)))
   (zm (ae (aX (bc 'f' T.tj S J hr))))
   z7)
   (zm (zA (i3 lK (zb 1) jE (iG (zb 2)))))))),?_}
 erw [h1,Ag];refine {bS 'l',p,dx,wl,sl,m,c,z.length,lf,st,rfl,h1,?_};obtain ⟨b0,b1⟩:=sO (n:=z.length) l0 'l';obtain ⟨U,q⟩:=q _ rfl;by_cases hz:spn lf z.length=0
 .have e:decide (spn lf z.length=0)=true:=decide_eq_true hz;erw [e,zt,fN];refine {p,dx,wl,sl,m,_,_,_,rfl,zt,λz=>absurd (of_decide_eq_false z) 'l',λ_=>{_,rfl,U hz}}
 .have e:decide (spn lf z.length=0)=false:=decide_eq_false hz;erw [e];have es:QQ z none (some (spn lf z.length))=hd z (spn lf z.length):=by
   have:=jC (x:=z) (j:=(spn lf z.length).toNat) (by rw [aa];lia);rw [show (((spn lf z.length).toNat:Nat):Int)=spn lf z.length by lia] at this;exact this
  rw [es];exact {bS 'l',q 'l'}
noncomputable def dJ(z:Str)(d:Int)(s:Tx):Tx:=if d=0 then s else some (hd z d)
noncomputable def mT(A:zh):Sp:=λvs H Q E=>∃(p wl sl:Addr)(n:Nat)(m c:Int)(lf:Option Int)(st:Bool)(s0 s1:Tx)(k:Int)(z:Str),vs=[.ref p,.int k,.str z]/\GkD A H p wl sl n m c lf st s0 s1/\0<z.length/\z.length<=100000/\(k=0\/k=1)/\(∀k,lf=some k->0<=k)/\(st=true->E (.ref A.vr) none H) /\
 (st=false->∀H',(∀a o,a≠p->a≠sl->H a=some o->H' a=some o)->GkD A H' p wl sl n m (c+spn lf z.length) (lf.map (· - spn lf z.length)) (decide (spn lf z.length<z.length)) (if k=0 then dJ z (spn lf z.length) s0 else s0) (if k=0 then s1 else dJ z (spn lf z.length) s1)->(spn lf z.length<z.length->E (.ref A.vr) none H')/\(spn lf z.length=z.length->Q .non H'))
theorem Gd:zx Wz Wz (zo lQ):=fsc
theorem CY(F:Fun K "put_side" "Disk.put_side" lQ f fd)(T:Txt K mg A)(ZX:GMX P w K mg base true 2 A.yz VS WD (mW A))(Z9:GMX P w K mg base true 1 A.yz V7 Zf (jw A)):zq P w K mg base (CXW P w) true 3 f fd Wz (mT A):=by
 refine F.oW Gd λZ2 Ar outer s H vs Q E hr h=>?_;obtain ⟨p,wl,sl,n,m,c,lf,st,s0,s1,k,z,rfl,D,z0,z1,hk,l0,qs,q⟩:=h;obtain ⟨dx,h1⟩:=D.ob;have hs:=D.sd;have ps:sl≠p:=λz=>by rw [z,h1] at hs;cases hs
 obtain ⟨b0,b1⟩:=sO (n:=z.length) l0 'l';have S:=bA (cm:=true) (P:=P) (w:=w) (K:=K) (mg:=mg) (base:=base) (N:=Wz) (qual:="Disk.put_side") (scope:=zo lQ) (f:=f) (cd:=Z2) (A:=Ar) (outer:=outer) (s:=s) (H:=H) (E:=E);refine {_,(W.h (zi (ae (aX (bc 'f' T.tj S Z9 hr)))
   (zi (iP (mXD (ig 'f' T.tj S ZX hr (clP (zd (zb 2) ze)))) (iI (fD (zO T.tj T.L0 'f')) (zb 1) lA))
   (zm (ae (aX (bc 'f' T.tj S Z9 hr))))))),?_}
 erw [h1,fN];refine {p,dx,wl,sl,m,c,lf,st,rfl,h1,λhst=>?_,λhst=>{_,rfl,qs hst}};have q:=q hst;erw [h1,wc];refine {p,dx,wl,sl,m,c,lf,st,z,rfl,h1,z0,z1,l0,λH1 e1=>{λZ=>{_,rfl,?_},λZ=>?_}}
 .subst e1;refine (q _ (λa o G J h=>by rw [zg G];exact h) ?_).1 'l';have U:∀s,dJ z (spn lf z.length) s=s:=λs=>if_pos Z;rw [U,U,ite_self,ite_self];exact D.put (λa o G J h=>by rw [zg G];exact h) zt (by rw [zg ps];exact hs)
 .subst e1;have cu:∀s,dJ z (spn lf z.length) s=some (hd z (spn lf z.length)):=λs=>if_neg 'l';erw [zt,qi];refine {_,by rw [zg ps];exact hs,?_};rcases hk with rfl|rfl
  .have e:upd (upd H p (.ins A.yz dx (zB m wl sl (c+spn lf z.length,lf.map (· - spn lf z.length),decide (spn lf z.length<z.length))))) sl (.lst ([tv s0,tv s1].set 0 (.str (hd z (spn lf z.length))))) p=some (.ins A.yz dx (zB m wl sl (c+spn lf z.length,lf.map (· - spn lf z.length),decide (spn lf z.length<z.length)))):=by rw [zg ps.symm,zt]
   obtain ⟨O,q⟩:=q _ (λa o G J h=>by rw [zg J,zg G];exact h) (D.put (λa o G J h=>by rw [zg J,zg G];exact h) e (by rw [zt];simp only [cu,if_true,if_false,reduceIte,Int.reduceEq];rfl));exact {0,rfl,dx,_,e,fN,p,dx,wl,sl,m,_,_,_,rfl,e,λh=>q (by have:=of_decide_eq_false h;lia),λh=>{_,rfl,O (of_decide_eq_true h)}}
  .have e:upd (upd H p (.ins A.yz dx (zB m wl sl (c+spn lf z.length,lf.map (· - spn lf z.length),decide (spn lf z.length<z.length))))) sl (.lst ([tv s0,tv s1].set 1 (.str (hd z (spn lf z.length))))) p=some (.ins A.yz dx (zB m wl sl (c+spn lf z.length,lf.map (· - spn lf z.length),decide (spn lf z.length<z.length)))):=by rw [zg ps.symm,zt]
   obtain ⟨O,q⟩:=q _ (λa o G J h=>by rw [zg J,zg G];exact h) (D.put (λa o G J h=>by rw [zg J,zg G];exact h) e (by rw [zt];simp only [cu,if_true,if_false,reduceIte,Int.reduceEq];rfl));exact {1,rfl,dx,_,e,fN,p,dx,wl,sl,m,_,_,_,rfl,e,λh=>q (by have:=of_decide_eq_false h;lia),λh=>{_,rfl,O (of_decide_eq_true h)}}
end
abbrev qF:Stmt:=top 47
noncomputable abbrev gH:Stmt:=top 48
def Je(F:List Addr)(H H':Hp):Prop:=∀b o,H b=some o->b∉F->H' b=some o
def zK(H H':Hp):Prop:=∀a o,(∀ps,o≠.tbl ps)->H a=some o->H' a=some o
theorem zK.of(s:zj H H'):zK H H':=λa o _ e=>s a o e
theorem zK.trans(x:zK H H1)(y:zK H1 H2):zK H H2:=λa o n e=>y a o n (x a o n e)
theorem zK.fo(x:gb H H' P)(h:H P=some (.tbl ps)):zK H H':=λa o n e=>x a o (λz=>by subst z;rw [h] at e;cases e;exact n _ rfl) e
theorem zK.lam(x:gb H H' P)(h:bQ pos q H P):zK H H':=by
 rcases h with h|⟨_,_,_,_,h,_⟩
 .exact zK.fo x h
 .exact zK.fo x h
theorem zK.list(s:zK H H')(h:H a=some (.lst xs)):H' a=some (.lst xs):=s _ _ (λ_=>nofun) h
def lpW:Pos:={156,29,156,50}
def lpM:Pos:={364,26,364,59}
noncomputable def qW:Str:=(QR V6 (zo gH) 0 0 .none).qual++"<lambda>"
abbrev eA:Stmt:=top 75
noncomputable def qM:Str:=(QR Wa (zo eA) 0 0 .none).qual++"<lambda>"
structure TB(A:zh)(H:Hp):Prop where
 w:bQ lpW qW H A.UB
 l:bQ lpM qM H A.Pv
 ne:A.UB≠A.Pv
theorem wz(h:bQ pos q H P):∃ps,H P=some (.tbl ps):=by
 rcases h with h|⟨_,_,_,_,h,_⟩<;>exact {_,h}
theorem mi(h:bQ pos q H P)(k:∀a o,H a=some o->(a=P\/∀ps,o≠.tbl ps)->H' a=some o):bQ pos q H' P:=by
 rcases h with h|⟨c,oc,vs,t,h1,h2,h3⟩
 .exact .inl (k _ _ h (.inl rfl))
 .exact .inr {c,oc,vs,t,k _ _ h1 (.inl rfl),k _ _ h2 (.inr λps z=>by cases z),h3}
theorem TB.same(h:TB A H)(s:zj H H'):TB A H':={mi h.w λa o e _=>s a o e,mi h.l λa o e _=>s a o e,h.ne}
theorem TB.keep(h:TB A H)(k:Je F H H')(G:∀x∈F,∀o,H x=some o->(∀ps,o≠.tbl ps)/\∀oc,o≠.frz oc (.own 0)):TB A H':=by
 have go:∀{pos q P},bQ pos q H P->bQ pos q H' P:=λ{pos q P} h=>by
  rcases h with h|⟨c,oc,vs,t,h1,h2,h3⟩
  .exact .inl (k _ _ h λz=>(G _ z _ h).1 _ rfl)
  .exact .inr {c,oc,vs,t,k _ _ h1 λz=>(G _ z _ h1).1 _ rfl,k _ _ h2 λz=>(G _ z _ h2).2 _ rfl,h3}
 exact {go h.w,go h.l,h.ne}
theorem BkD.Us{p wl sl:Addr}(D:BkD A H p wl sl n m c s0 s1)(s:zK H H'):BkD A H' p wl sl n m c s0 s1:=D.mv λa o h e=>s a o (λps z=>by subst z;rcases h with ⟨_,_,_,h⟩|⟨_,h⟩<;>cases h) e
section
variable {P:OF}{w:OS}{K:Frag}{mg:Str->Option Value}{base:Heap}{A:zh}
def yf(A:zh):Sp:=λvs H Q _=>∃(p wl sl:Addr)(n:Nat)(m c:Int)(s0 s1:Tx)(k:Nat),vs=[.ref p,.int k]/\BkD A H p wl sl n m c s0 s1/\k<n/\∀l H',zj H H'->H' l=some (.lst [])->Q (.ref l) H'
theorem rG:zx ["disk","stretch","found","place","row"] ["disk","stretch"] (zo qF):=fsc
theorem Dr(F:Fun K "rows_in" "rows_in" qF f fd)(T:Txt K mg A)(O:GM P w K mg base true 1 A.yz "next_place" WE (AH A)):zq P w K mg base CX0 true 2 f fd ["disk","stretch"] (yf A):=by
 refine F.o rG λU S outer s H vs Q E hr h=>?_;obtain ⟨p,wl,sl,n,m,c,s0,s1,k,rfl,D,J,q⟩:=h;refine {_,(W.h (zi (zC (i:=2) rG.nd rfl (OM rfl) (aq ze))
   (zi (cF Q3.never (λ_=>rfl) (dF rfl T.Uy (zd (mD (cn 'f' T.tj O hr (clP (zd (zb 1) ze)))) ze)) (zJ (i:=3) rG.nd rfl (OM rfl))
   (zi cN
   (zm cN)))
   (zm (zA (zb 2)))))),?_}
 ac_rfl;refine {'d',λl H1 z _=>?_};have G:=D.same z.same;obtain ⟨dx,h1⟩:=G.ob;erw [h1,HH];refine {p,wl,sl,n,m,c,s0,s1,k,rfl,G,J,?_};ac_rfl;refine {'d','d',bu.rng (λ_ σ H'=>(∃t1 t2,σ=[some (.ref p),some (.int k),some (.ref l),t1,t2])/\H'=H1) {{_,_,rfl},rfl} (λi σ H' hi=>absurd hi (Nat.not_lt_zero _)) ?_};rintro σ H' ⟨⟨t1,t2,rfl⟩,rfl⟩;ac_rfl;exact q l _ z.same z.at_
structure WrI(A:zh)(H:Hp)(p l:Addr)(i:Nat)(σ:L2.St)(H':Hp):Prop where
 ex:∃t1,σ=[some (V.ref p),some (.ref l),t1]
 same:zj H H'
 no:H l=none
 ls:H' l=some (.lst [])
def qO(A:zh):Sp:=λvs H Q _=>∃(p wl sl:Addr)(n:Nat)(m c:Int)(s0 s1:Tx),vs=[.ref p]/\BkD A H p wl sl n m c s0 s1/\TB A H/\∀l H',zK H H'->TB A H'->H' l=some (.lst [])->Q (.ref l) H'
theorem pG:zx ["disk","found","stretch"] Xg (zo gH):=fsc
theorem Mb(F:Fun K V6 V6 gH f fd)(hc:fd.code = .ref c)(LB:eQ mg base (.ref c) A.UB)(T:Txt K mg A)(Z5:GM P w K mg base true 1 A.yz VW Zf (lr A))(Yp:GF P w K mg base true 2 "rows_in" ["disk","stretch"] (yf A)):zq P w K mg base CX0 true 3 f fd Xg (qO A):=by
 refine F.fI hc pG (λvs H Q E h=>?_) (λAr outer s H vs Q E hr h=>?_)
 .obtain ⟨p,wl,sl,n,m,c,s0,s1,rfl,_⟩:=h;rfl
 .obtain ⟨p,wl,sl,n,m,c',s0,s1,rfl,D,tb,q⟩:=h;refine {_,(W.h (zi (zC (i:=1) pG.nd rfl (OM rfl) (aq ze))
   (zi (cF Q3.never (λ_=>rfl) (dF rfl T.Uy (zd (m0D (zZ 'f' T.tj Z5 hr)) ze)) (zJ (i:=2) pG.nd rfl (OM rfl))
   (zm (ae (jx (zb 1) (caD (zQ Yp hr rfl (clP (zd (zb 0) (zd (zb 2) ze)))))))))
   (zm (zA (JG LB hr rfl T.UZ (zb 1) rfl rfl (λ_ _ _ _ _=>rfl) rfl rfl rfl rfl)))))),?_}
  ac_rfl;refine {'d',λl H1 O _=>?_};have D1:=D.same O.same;have ax:=D.n3;obtain ⟨dx,h1⟩:=D1.ob;erw [h1,jN];obtain ⟨cs,w1,w2,_⟩:=D1.wr;refine {p,dx,wl,sl,m,c',none,false,_,rfl,h1,w1,?_};ac_rfl;rw [OA,w2,QG];refine {'l','l',bu.rng (WrI A H p l) {{_,rfl},O.same,O.no,O.at_} ?_ ?_}
  .rintro i σ H2 hi ⟨⟨t1,rfl⟩,J,S,hl⟩;have ej:(0+(i:Int))=((i:Nat):Int):=by lia
   erw [hl,ej];refine {p,wl,sl,n,m,c',s0,s1,i,rfl,D.same J,hi,λl2 H3 s3 h3=>?_};have U:=s3 _ _ hl;erw [U,h3];refine {'d',{_,rfl},λc o e=>?_,S,zt};rw [zg (zz e S)];exact s3 _ _ (J _ _ e)
  .rintro σ H2 ⟨⟨t1,rfl⟩,J,S,hl⟩;ac_rfl;have G:=tb.same J;refine {[],hl,G.w,'d',[],.nil,λD2 zs H3 Z T3 f3 av ai e3 pz sz=>?_};have ez:zs=[]:=QO.mp (by have:=pz.length_eq;simpa using this);subst ez;exact q D2 H3 ((zK.of J).trans (zK.lam Z G.w)) {T3,mi G.l λa o e h=>Z a o (λz=>by
    obtain ⟨ps,Yb⟩:=wz G.w;rcases h with h|h
    .exact G.ne (z.symm.trans h)
    .rw [z,Yb] at e;cases e;exact h _ rfl) e,G.ne} e3
end
abbrev nE:Stmt:=top 76
abbrev nr:Stmt:=top 77
abbrev MD:=(Tab×List (Str×Tab))×List T3×Int×Int
noncomputable def bU(s:Tx):Option MD->Prop
 | none=>s=none\/∃z,s=some z/\ZOk z/\rdZ z=none
 | some M=>∃z,s=some z/\ZOk z/\rdZ z=some ((M.2.2.2,M.2.2.1),M.1,M.2.1)/\aG M.1.1/\bw M.1.2/\jt M.2.1/\(M.2.1.map (·.1)).Perm (uniq (aJ M.1.1 M.1.2))
def h7(A:zh)(H:Hp)(x:Addr)(M:MD):Prop:=∃z b k d,aS A H x z b k d M.1.1 M.1.2 M.2.1 M.2.2.1 (M.2.2.2+1)
def VUp(A:zh)(H:Hp)(v:V):Option MD->Prop
 | none=>v = .non
 | some M=>∃x,v = .ref x/\h7 A H x M
section
variable {A:zh}{H H':Hp}
noncomputable def FK(A:zh)(H H':Hp):Prop:=∀a o,((∃dx b k,o = .ins A.zw dx (zR b k))\/(∃dx f d n m,o = .ins A.State dx (bo f d n m))\/(∃kvs,o = .dK kvs)\/(∃ob kvs,o = .frz ob (.dK kvs))\/∃xs,o = .tup xs)->H a=some o->H' a=some o
theorem FK.ofT(s:zK H H'):FK A H H':=λa o h e=>s a o (λps z=>by subst z;rcases h with ⟨_,_,_,h⟩|⟨_,_,_,_,_,h⟩|⟨_,h⟩|⟨_,_,h⟩|⟨_,h⟩<;>cases h) e
theorem FK.t(s:FK A H H')(e:H a=some (.tup xs)):H' a=some (.tup xs):=s _ _ (.inr (.inr (.inr (.inr {_,rfl})))) e
theorem FK.d(s:FK A H H')(e:H a=some (.dK kvs)):H' a=some (.dK kvs):=s _ _ (.inr (.inr (.inl {_,rfl}))) e
theorem aN.mv{q b k:Addr}{t:Tab}(h:aN A H q b k t)(s:FK A H H'):aN A H' q b k t:=by
 obtain ⟨⟨dx,e⟩,⟨⟨kvs,F,d⟩,nd⟩,kp⟩:=h;have z:∀{a kvs},Rd H a (.dK kvs)->Rd H' a (.dK kvs):=λ{a kvs} h=>h.elim (λe=>.inl (s.d e)) (λh=>h.elim λo e=>.inr {o,s _ _ (.inr (.inr (.inr (.inl {_,_,rfl})))) e});exact {{dx,s _ _ (.inl {_,_,_,rfl}) e},{{kvs,z F,d.imp λv a r=>r.elim λp h=>{p,h.1,s.t h.2}},nd},z kp}
theorem zS.mv{p b k:Addr}{t:Tab}(h:zS A H p b k t ks)(s:FK A H H'):zS A H' p b k t ks:=by
 obtain ⟨dx,e⟩:=h.ob;obtain ⟨kk,J,d⟩:=h.kept;obtain ⟨kvs,z,G⟩:=h.xy.ex;refine {{dx,s _ _ (.inl {_,_,_,rfl}) e},{{kvs,s.d z,G.imp λv a r=>r.elim λp h=>{p,h.1,s.t h.2}},h.xy.nd},{kk,s.d J,d.imp λv a r=>?_},h.ef,h.ne};obtain ⟨q,F,k',e,r,n⟩:=r;exact {q,F,k',e,r.mv s,n}
theorem aS.mv{x z b k d:Addr}{t:Tab}(h:aS A H x z b k d t ks ts n m)(s:FK A H H'):aS A H' x z b k d t ks ts n m:=by
 obtain ⟨dx,e⟩:=h.ob;obtain ⟨kvs,F,p⟩:=h.eb;exact {{dx,s _ _ (.inr (.inl {_,_,_,_,_,rfl})) e},h.files.mv s,{kvs,s.d F,Paired.UN p λ_ _ r=>r.keep λ_ _ e=>s.t e},h.ok}
theorem aS.Us{x z b k d:Addr}{t:Tab}(h:aS A H x z b k d t ks ts n m)(s:zK H H'):aS A H' x z b k d t ks ts n m:=h.mv (.ofT s)
theorem h7.Us(h:h7 A H x M)(s:zK H H'):h7 A H' x M:=by
 obtain ⟨z,b,k,d,h⟩:=h;exact {z,b,k,d,h.Us s}
theorem VUp.Us{o:Option MD}(h:VUp A H v o)(s:zK H H'):VUp A H' v o:=by
 cases o with
 | none=>exact h
 | some M=>exact h.elim λx h=>{x,h.1,h.2.Us s}
end
section
variable {P:OF}{w:OS}{K:Frag}{mg:Str->Option Value}{base:Heap}{A:zh}
noncomputable def nU(A:zh):Sp:=λvs H Q _=>∃(p wl sl:Addr)(n:Nat)(m c:Int)(s0 s1:Tx)(k:Int)(o:Option MD),vs=[.ref p,.int k]/\BkD A H p wl sl n m c s0 s1/\(k=0\/k=1)/\bU (if k=0 then s0 else s1) o/\∀v H',zj H H'->VUp A H' v o->Q v H'
theorem JU:zx Wf Wf (zo nE):=fsc
theorem Kf(F:Fun K "mark_at" "mark_at" nE f fd)(T:Txt K mg A)(YI:GM P w K mg base true 1 A.yz "side" ["self","k"] (tf A))(YH:GX P w K mg base true 8 VA WX (qU K A)):zq P w K mg base CX0 true 10 f fd Wf (nU A):=by
 refine F.o JU λZ2 Ar outer s H vs Q E hr h=>?_;obtain ⟨p,wl,sl,n,m,c,s0,s1,k,o,rfl,D,Z,J,q⟩:=h;refine {_,(W.h (zm (Hu rfl rfl {rfl,rfl} T.UC rfl T.UP (λGo Ex=>(zm (zA (cXD (de ki YH hr rfl (clP (zd (mD (cn 'f' T.tj YI hr (clP (zd (zb 1) ze)))) ze))))))) (λGo ea=>by
   have hr:=hr.mark (v:=some (.ref ea));exact (zm (zA eO)))))),?_}
 obtain ⟨dx,h1⟩:=D.ob;erw [h1,MW];have exc:∀H1,zj H H1->(∀v H',zj H H'->VUp A H' v none->Q v H')->∃a,OH A.wh = .ref a/\aZ K a/\mroIn K a (.ref A.wh)=some true/\∀(ea:Addr)(oe:Obj),H1 ea=none->dS a oe->Q V.non (upd H1 ea (HO.frz oe (HO.own 0))):=λH1 s1 q=>{_,rfl,T.UC,T.dF,λea oe he _=>q _ _ (λa o e=>by rw [zg (zz (s1 _ _ e) he)];exact s1 _ _ e) rfl};have go:∀s,bU s o->qU K A [tv s] H (λv H1=>Q v H1) λC oa H1=>∃a,C = .ref a/\aZ K a/\mroIn K a (.ref A.wh)=some true/\∀(ea:Addr)(oe:Obj),H1 ea=none->dS a oe->Q V.non (upd H1 ea (HO.frz oe (HO.own 0))):=λs J=>by
  cases o with
  | none =>
   rcases J with rfl|⟨z,rfl,G,O⟩
   .exact {_,rfl,.inr {_,.of .non,rfl,exc H (zj.refl _) q}}
   .obtain ⟨N,n1,S⟩:=G.c;exact {_,rfl,.inl {z,rfl,G.a,G.l,Pt (qP z) G.w,um S 'l' G.w,λ_ _ _ _ _ e=>(by rw [O] at e;cases e),λ_ H1 s1=>exc H1 s1 q}}
  | some M =>
   obtain ⟨z,rfl,G,O,_,_,J,_⟩:=J;obtain ⟨N,n1,S⟩:=G.c;refine {_,rfl,.inl {z,rfl,G.a,G.l,Pt (qP z) G.w,um S 'l' G.w,λm n u us ts e=>?_,λe=>(by rw [O] at e;cases e)}};rw [O] at e;injection e with e
   injection e with e1 e2
   injection e1 with e3 e4
   injection e2 with e5 e6
   subst e3 e4 e6;refine {J,λx U b k d H' s' st=>q _ _ s' {x,rfl,U,b,k,d,?_}};rw [e5];exact st
 refine {p,wl,sl,n,m,c,s0,s1,k,rfl,D,?_};rcases Z with rfl|rfl
 .exact .inl {rfl,go _ J}
 .exact .inr {rfl,go _ J}
def AJ:Sp:=λvs H Q _=>∃(l:Addr)(n:Int),vs=[.ref l,.int n]/\H l=some (.lst [])/\∀r H',zj H H'->H' r=some (.lst [])->Q (.ref r) H'
theorem jc:zx ["whole","number","taken","row","stretch","place"] ["whole","number"] (zo nr):=fsc
theorem Oj(F:Fun K "rows_from" "rows_from" nr f fd)(T:Txt K mg A):zq P w K mg base CX0 true 1 f fd ["whole","number"] AJ:=by
 refine F.o jc λO J outer s H vs Q E hr h=>?_;obtain ⟨l,n,rfl,hl,q⟩:=h;refine {_,(W.h (zi (zC (i:=2) jc.nd rfl (OM rfl) (aq ze))
   (zi (cF Q3.never (λ_=>rfl) (liD (cJ 'f')) (jg (n:=3) (gsD (aM (zJ (i:=3) jc.nd rfl (OM rfl)) (gsD (aM (zJ (i:=4) jc.nd rfl (OM rfl)) (gsD (aM (zJ (i:=5) jc.nd rfl (OM rfl)) eG)))))))
   (zm cN))
   (zm (zA (zb 2)))))),?_}
 ac_rfl;refine {'d',λr H1 z _=>?_};refine {{_,SqL.of (z.same _ _ hl)},bu.lst (xs:=[]) (λ_ σ H'=>(∃t1 t2 G,σ=[some (.ref l),some (.int n),some (.ref r),t1,t2,G])/\H'=H1) {{_,_,_,rfl},rfl} (λi σ H' _ I=>SqL.of (by rw [I.2];exact z.same _ _ hl)) (λi x σ H' hx=>(by cases hx)) ?_};rintro σ H' ⟨⟨t1,t2,G,rfl⟩,rfl⟩;ac_rfl;exact q r _ z.same z.at_
abbrev iC:Stmt:=top 78
abbrev kJ:Stmt:=top 74
theorem NM{P:OF}{w:OS}{K:Frag}{mg:Str->Option Value}{base:Heap}{st:Stmt}{k:Nat}(F:Fun K x qual st f fd)(z:fd.code = .ref c)(S:zx N ps (zo st))(len:∀vs H Q E,sp vs H Q E->vs.length=ps.length)(J:∀(A:OQ)(outer:List Env)(s:KE)(H:Hp)(vs:List V)(Q:VK)(E:XK),zE cm k (A.deeper (QR qual (zo st) s.heap.objs.size f (.ref c)))->sp vs H Q E ->
   ∃t,PSs (bF (CXW P w) cm P w K mg base N qual (zo st) f (.ref c) A outer s H E) (cS st) t/\t { nx:=λ_ H'=>Q .non H',rt:=Q } (start N vs) H):zq P w K mg base (CXW P w) cm (k+1) f fd ps sp:=by
 obtain ⟨oc,U,kV,O,pm,W,G,ct,Z,rfl,lk,hcd⟩:=F.ex;have e:G = .ref c:=z;subst e;exact j7 lk hcd S len J
noncomputable def dG:Option MD->Option MD->Option MD
 | none,o=>o
 | some a,none=>some a
 | some a,some b=>some (if b.2.2.2>a.2.2.2 then b else a)
structure MsI(A:zh)(H:Hp)(p:Addr)(os:List (Option MD))(i:Nat)(τ:L2.St)(ys:List V)(H':Hp):Prop where
 ex:∃t,τ=[t,some (.ref p)]
 ys:Paired (VUp A H') ys (os.take i)
 same:zj H H'
structure WhI(H:Hp)(vs:List V)(i:Nat)(τ:L2.St)(ys:List V)(H':Hp):Prop where
 ex:∃t,τ=[t]
 ys:ys=(vs.take i).filter (· != .non)
 same:H'=H
noncomputable def qg(A:zh):Sp:=λvs H Q E=>∃(p wl sl:Addr)(n:Nat)(m c:Int)(s0 s1:Tx)(z o1:Option MD),vs=[.ref p]/\BkD A H p wl sl n m c s0 s1/\TB A H/\bU s0 z/\bU s1 o1 /\
 (∀M,dG z o1=some M->∀x H',zK H H'->TB A H'->h7 A H' x M->Q (.ref x) H')/\(dG z o1=none->∀H',zK H H'->TB A H'->E (.ref A.wh) none H')
theorem pd:zx Ww Xg (zo eA):=fsc
theorem Oi:bM { kind:=.function,names:=[(Ox ".0",.local),(Ox "side",.local),(Ox "mark_at",.globalImplicit),(Ox "disk",.free)],isGenerator:=false,isCoroutine:=false,more:=[] } (zo eA).names Ww ["side","disk"] [none,some 0]=true:=by decide +kernel
theorem Iu:(["side","disk"]:List Str).Nodup:=by decide +kernel
theorem Ew:bM { kind:=.function,names:=[(Ox ".0",.local),(Ox "state",.local)],isGenerator:=false,isCoroutine:=false,more:=[] } (zo eA).names Ww [V0] [none]=true:=by decide +kernel
theorem LW:([V0]:List Str).Nodup:=by decide +kernel
theorem Ll(F:Fun K Wa Wa eA f fd)(hc:fd.code = .ref c)(LB:eQ mg base (.ref c) A.Pv)(T:Txt K mg A)(Yo:GF P w K mg base true 10 "mark_at" Wf (nU A))(Z7:GM P w K mg base true 1 A.State Wb Zf (gq A)):zq P w K mg base (CXW P w) true 11 f fd Xg (qg A):=by
 refine NM F hc pd (λvs H Q E h=>?_) (λAr outer s H vs Q E hr h=>?_)
 .obtain ⟨p,wl,sl,n,m,c,s0,s1,o0,o1,rfl,_⟩:=h;rfl
 .obtain ⟨p,wl,sl,n,m,c',s0,s1,o0,o1,rfl,D,tb,k0,k1,q,qe⟩:=h;have Th:=bA (cm:=true) (P:=P) (w:=w) (K:=K) (mg:=mg) (base:=base) (N:=Ww) (qual:=Wa) (scope:=zo eA) (f:=f) (cd:=.ref c) (A:=Ar) (outer:=outer) (s:=s) (H:=H) (E:=E);refine {_,(W.h (zi (m7 (i0:=1) pd.nd rfl (OM rfl) (λ_=>rfl) (ay.of Oi) (Do (dN (zd zD (zd zD ze)))) (λ_ _ _ _ _=>(zJ (i:=0) Iu rfl (OM rfl))) (λ_ _ _ _ _=>cY) (λ_ _ _ _ _=>(caD (zQ Yo hr rfl (clP (zd (zb 1) (zd (zb 0) ze)))))))
   (zi (m7 (i0:=2) pd.nd rfl (OM rfl) (λ_=>rfl) (ay.of Ew) (liD (cJ (clE (zb 1)))) (λ_ _ _ _ _=>(zJ (i:=0) LW rfl (OM rfl))) (λ_ _ _ _ _=>(vM (tD (aP (clO sN) 'f' (clE eO) (aE _))))) (λ_ _ _ _ _=>(zb 0)))
   (zi (zW (dw (cc (zb 2)))
   (zm (dh rfl Th T.UC rfl T.UP (zd zH ze)))
   z7)
   (zm (zA (CM LB rfl hr rfl T.eg (zb 2) rfl rfl (λ_ _ _ _ _=>rfl) {rfl,rfl,rfl,'d',rfl,'d','d'} (λ_ _ _ _ _ _ _ hr=>(m0D (zZ 'f' T.zk Z7 hr)))))))))),?_}
  ac_rfl;refine {'d',λtp H1 n1=>{{_,SqT.of n1.at_},aQ.tup (xs:=[.int 0,.int 1]) (MsI A H1 p [o0,o1]) (λi τ ys H' I=>?_) (λi τ ys H' I=>SqT.of (I.same _ _ n1.at_)) {{_,rfl},.nil,zj.refl _} ?_ ?_}}
  .have:=cH I.ys;rw [Qx] at this;exact O7 (show ys.length<=2 by rw [this];exact Nat.min_le_right _ _) 'd'
  .intro N i v τ ys H' hv I hN;obtain ⟨t,rfl⟩:=I.ex;have D':=(D.same n1.same).same I.same;have go:∀(k:Int)(o:Option MD),(k=0\/k=1)->[o0,o1][i]?=some o->bU (if k=0 then s0 else s1) o->nU A [.ref p,.int k] H' (λy H6=>N [some (.int k),some (.ref p)] (ys++[y]) H6) E0:=λk o hk ho so=>{p,wl,sl,n,m,c',s0,s1,k,o,rfl,D',hk,so,λv H2 s2 vu=>hN _ _ _ {{_,rfl},by rw [Pz,ho];exact gB (Paired.UN I.ys λx y r=>r.Us (.of s2)) (.cons vu .nil),I.same.trans s2}};have hi:i=0\/i=1:=by
    have:=(OJ.mp hv).1;simp only [Pn,So] at this;lia
   rcases hi with rfl|rfl
   .cases hv;ac_rfl;exact go 0 o0 (.inl rfl) rfl k0
   .cases hv;ac_rfl;exact go 1 o1 (.inr rfl) rfl k1
  .intro τ ys H2 I aI H3 n3;obtain ⟨v0,S,J,u0,u1⟩:∃v0 S,ys=[v0,S]/\VUp A H2 v0 o0/\VUp A H2 S o1:=by
    have z:=I.ys;cases z with
    | cons a z=>cases z with
     | cons b z=>cases z;exact {_,_,rfl,a,b}
   rw [J] at n3;have WM:zK H H3:=(zK.of n1.same).trans ((zK.of I.same).trans (.of n3.same));have ax:=((tb.same n1.same).same I.same).same n3.same;have w0:=u0.Us (.of n3.same);have w1:=u1.Us (.of n3.same);ac_rfl;refine {{_,SqL.of n3.at_},aQ.lst (xs:=[v0,S]) (WhI H3 [v0,S]) (λi τ ys H' I=>?_) (λi τ ys H' I=>SqL.of (by rw [I.same];exact n3.at_)) {{_,rfl},rfl,rfl} ?_ ?_}
   .rw [I.ys];refine O7 (Pt (List.length_filter_le _ _) (Ro _ _)) (show 2<sizeLine by decide)
   .intro N i v τ ys H' hv I hN;obtain ⟨t,rfl⟩:=I.ex;have et:=Pz (l:=[v0,S]) (i:=i);rw [hv] at et;have vv:v = .non\/∃x,v = .ref x:=by
     have:∀{u:V}{o:Option MD},VUp A H3 u o->u = .non\/∃x,u = .ref x:=λ{u o} h=>by
      cases o with
      | none=>exact .inl h
      | some M=>exact h.elim λx h=>.inr ⟨x,h.1⟩
     rcases OL.mp (Pr hv) with z|z
     .rw [z];exact this w0
     .rw [O3.mp z];exact this w1
    rcases vv with rfl|⟨x,rfl⟩
    .ac_rfl;refine hN _ _ _ {{_,rfl},?_,I.same};rw [et,List.filter_append,I.ys];exact (Qa _).symm
    .ac_rfl;refine hN _ _ _ {{_,rfl},?_,I.same};rw [et,List.filter_append,I.ys];rfl
   .intro τ ys H4 I av H5 n5;have e4:=I.same;subst e4;have J:=I.ys;rw [O4 (Ov _)] at J;have O:zK H4 H5:=.of n5.same;have G:=ax.same n5.same;have Y7:∀(as:List Addr)(Ms:List MD),Paired (h7 A H5) as Ms->0<as.length->ys=as.map V.ref->(∀M,Ms[bY (λi=>((Ms[i]?.map λM=>M.2.2.2+1).getD 0)) (as.length-1)]?=some M->dG o0 o1=some M)->fO A.Pv lpM qM (lS A.State Wb (gq A) E0 (iz 0) bV) (.ref av) H5 Q:=λas Ms pr ap ea top=>by
     rw [Al];refine {as,λi=>((Ms[i]?.map λM=>M.2.2.2+1).getD 0),by rw [<- ea];exact n5.at_,ap,G.l,λH6 L6 T6=>{λi a ha=>?_,λa ha=>?_}}
     .have hi:=(OJ.mp ha).1;rw [cH pr] at hi;obtain ⟨fx,b,k,d,st⟩:=(dI pr ha (Os hi)).Us (zK.lam L6 G.l);obtain ⟨dx,e⟩:=st.ob;erw [e,gO];exact {a,fx,b,k,d,_,_,_,_,_,rfl,st,by rw [Os hi];rfl,rfl}
     .have hi:_<Ms.length:=Nat.lt_of_lt_of_eq (OJ.mp ha).1 (cH pr);have eM:=Os hi;refine q _ (top _ eM) a H6 (WM.trans (O.trans (zK.lam L6 G.l))) {mi G.w λa o e h=>L6 a o (λz=>?_) e,T6,G.ne} ((dI pr ha eM).Us (zK.lam L6 G.l));obtain ⟨ps,Yb⟩:=wz G.l;rcases h with h|h
      .exact G.ne (h.symm.trans z)
      .rw [z,Yb] at e;cases e;exact h _ rfl
    have x0:=w0.Us O;have x1:=w1.Us O;have z5:∀{b:Bool},b = !ys.isEmpty->fG K (.ref av) H5 b:=λe=>.inl {ys,SqL.of n5.at_,e};cases o0 with
    | none =>
     cases (show v0 = .non from x0);cases o1 with
     | none =>
      cases (show S = .non from x1);exact {false,z5 (by rw [J];rfl),'d',qe rfl H5 (WM.trans O) G}
     | some U =>
      obtain ⟨a1,rfl,Z⟩:=x1;exact {true,z5 (by rw [J];rfl),Y7 [a1] [U] (.cons Z .nil) (Nat.succ_pos _) J λM h=>h}
    | some M0 =>
     obtain ⟨a0,rfl,ai⟩:=x0;cases o1 with
     | none =>
      cases (show S = .non from x1);exact {true,z5 (by rw [J];rfl),Y7 [a0] [M0] (.cons ai .nil) (Nat.succ_pos _) J λM h=>h}
     | some U =>
      obtain ⟨a1,rfl,Z⟩:=x1;refine {true,z5 (by rw [J];rfl),Y7 [a0,a1] [M0,U] (.cons ai (.cons Z .nil)) (Nat.succ_pos _) J λM h=>?_};have e:bY (λi=>(([M0,U][i]?.map λM=>M.2.2.2+1).getD 0)) ([a0,a1].length-1)=if U.2.2.2+1>M0.2.2.2+1 then 1 else 0:=rfl;rw [e] at h;show some (if U.2.2.2>M0.2.2.2 then U else M0)=some M;by_cases hc:U.2.2.2>M0.2.2.2
      .rw [if_pos 'l'] at h;rw [if_pos hc];exact h
      .rw [if_neg 'l'] at h;rw [if_neg hc];exact h
structure SbI(H:Hp)(D:Addr)(us:List T3)(i:Nat)(τ:L2.St)(ys:List V)(H':Hp):Prop where
 ex:∃t,τ=[t,some (.ref D)]
 ys:∃as:List Addr,ys=as.map V.ref/\Paired (hG H') as (us.take i)
 same:zj H H'
noncomputable def sr(A:zh):Sp:=λvs H Q _=>∃(x J b k d l:Addr)(t:Tab)(ks:List (Str×Tab))(ts:List T3)(n m F:Int),vs=[.ref x,.ref l,.int F]/\aS A H x J b k d t ks ts n m/\H l=some (.lst [])/\(ts.map (·.1)).Perm (uniq (aJ t ks))/\ks.length<=100 /\
 ∀y G O k' d' z H',zj H H'->aS A H' y G O k' d' t ks z n F->z.Perm ts->Q (.ref y) H'
theorem fR:zx Yh WA (zo iC):=fsc
theorem Kc:bM { kind:=.function,names:=[(Ox ".0",.local),(Ox "birth",.local),(Ox "stretch",.local),(Ox "place",.local)],isGenerator:=false,isCoroutine:=false,more:=[] } (zo iC).names Yh Xy [none,none,none]=true:=by decide +kernel
theorem pK:(Xy:List Str).Nodup:=by decide +kernel
theorem Ol:bM { kind:=.function,names:=[(Ox ".0",.local),(Ox "row",.local),(Ox "stretch",.local),(Ox "place",.local)],isGenerator:=false,isCoroutine:=false,more:=[] } (zo iC).names Yh ["row","stretch","place"] [none,none,none]=true:=by decide +kernel
theorem rZ:(["row","stretch","place"]:List Str).Nodup:=by decide +kernel
theorem JC:bM { kind:=.function,names:=[(Ox ".0",.local),(Ox "birth",.local),(Ox "spot_of",.free)],isGenerator:=false,isCoroutine:=false,more:=[] } (zo iC).names Yh [V5,"spot_of"] [none,some 4]=true:=by decide +kernel
theorem Du:([V5,"spot_of"]:List Str).Nodup:=by decide +kernel
theorem Ng(F:Fun K VX VX iC f fd)(T:Txt K mg A)(ZW:GM P w K mg base true 5 A.State V8 Zf (jL A))(ZF:GM P w K mg base true 1 A.State VN Zf (qX A))(Z6:GM P w K mg base true 1 A.State V9 Zf (iY A))(ZK:GM P w K mg base true 1 A.zw "living" Zf (oB A))(Zc:GC P w K mg base true 5 "State" A.State Y9 (kC A)):zq P w K mg base CX0 true 7 f fd WA (sr A):=by
 refine F.o fR λZ2 Ar outer s H vs Q E hr h=>?_;obtain ⟨x,fx,b,k,d,l,t,ks,ts,n,m,mm,rfl,hS,hl,pm,kl,q⟩:=h;refine {_,(W.h (zi (zC (i:=3) fR.nd rfl (OM rfl) (m0D (zZ 'f' T.zk ZW hr)))
   (zi (zC (i:=4) fR.nd rfl (Ss rfl) (w8 (λ_=>rfl) (ay.of Kc) (liD (cJ (clE (m0D (zZ 'f' T.zk ZF hr))))) (λ_ _ _ _ _=>(lL (n:=3) (gsD (aM (zJ (i:=0) pK rfl (OM rfl)) (gsD (aM (zJ (i:=1) pK rfl (OM rfl)) (gsD (aM (zJ (i:=2) pK rfl (OM rfl)) eG)))))))) (λ_ _ _ _ _=>cY) (λ_ _ _ _ _=>(zb 0)) (λ_ _ _ _ _=>(dN (zd (zb 1) (zd (zb 2) ze))))))
   (zi (F0 (i0:=5) fR.nd rfl (OM rfl) (λ_=>rfl) (ay.of Ol) (liD (cJ (clE (zb 1)))) (λ_ _ _ _ _=>(lL (n:=3) (gsD (aM (zJ (i:=0) rZ rfl (OM rfl)) (gsD (aM (zJ (i:=1) rZ rfl (OM rfl)) (gsD (aM (zJ (i:=2) rZ rfl (OM rfl)) eG)))))))) (λ_ _ _ _ _=>cY) (λ_ _ _ _ _=>(aW cq (zb 0) zD (λ_ _=>rfl))) (λ_ _ _ _ _=>(zb 0)))
   (zi (cF Q3.never (λ_=>rfl) (liD (cJ (clE (zb 1)))) (jg (n:=3) (gsD (aM (zJ (i:=6) fR.nd rfl (OM rfl)) (gsD (aM (zJ (i:=7) fR.nd rfl (OM rfl)) (gsD (aM (zJ (i:=8) fR.nd rfl (OM rfl)) eG)))))))
   (zi cN
   (zm cN)))
   (zi (m7 (i0:=9) fR.nd rfl (OM rfl) (λ_=>rfl) (ay.of JC) (liD (cJ (clE (m0D (zZ (clE (zb 3)) T.tr ZK hr))))) (λ_ _ _ _ _=>(zJ (i:=0) Du rfl (OM rfl))) (λ_ _ _ _ _=>cY) (λ_ _ _ _ _=>(zX h9 (dN (zd (zb 0) ze)) (aW (mH (bB hr)) (zb 1) (zb 0) (λ_ _=>rfl)))))
   (zm (zA (gZ Zc hr rfl (zd (zb 3) (zd (zb 9) (zd (zX h9 (m0D (zZ 'f' T.zk Z6 hr)) (zM eW rfl T.UH PK (zd (zb 1) ze))) (zd (zb 2) ze))))))))))))),?_}
 obtain ⟨dx,e1⟩:=hS.ob;have ok:=hS.ok;erw [e1,i8];refine {x,fx,b,k,d,t,ks,ts,n,m,rfl,hS,λqf bf kf H1 s1 nq nb nk hF ek=>?_};have S1:=hS.same s1;have WL:=s1 _ _ e1;erw [WL,vy];refine {x,fx,b,k,d,t,ks,ts,n,m,rfl,S1,λsl as us H2 s2 b3 WH O up so=>?_};ac_rfl;have a5:=cH O;have b5:=up.length_eq;have few:=ok.few;have J:(us.map (·.1)).Nodup:=(up.map (·.1)).nodup_iff.mpr ok.nd;refine {{_,SqL.of WH},fc.lst (xs:=as.map V.ref) (DcI H2 us) (λi τ ys H' I=>?_) (λi τ ys H' I=>SqL.of (I.same _ _ WH)) {{_,_,_,rfl},{[],rfl,.nil},zj.refl _} ?_ ?_}
 .obtain ⟨kvs,e,O⟩:=I.ys;have:=cH O;have h2:=Ro i us;rw [e,t9];exact cG 'l'
 .intro N i v τ ys H' hv I hN;obtain ⟨t1,t2,t3,rfl⟩:=I.ex;obtain ⟨kvs,e,pk⟩:=I.ys;rw [O0] at hv;obtain ⟨a,ha,rfl⟩:=Pf.mp hv;have hi:i<us.length:=by rw [<- a5];exact (OJ.mp ha).1
  have Xm:us[i]?=some us[i]:=Os hi;refine {a,_,rfl,SqT.of (I.same _ _ (dI O ha Xm)),rfl,?_};ac_rfl;refine {'d',λa2 H3 n3=>hN _ _ _ {{_,_,_,rfl},{kvs++[(us[i].1,.ref a2)],?_,?_},I.same.trans n3.same}}
  .have bx:us[i].1∉kvs.map (·.1):=by
    rw [jP pk];have nd:=J;rw [<- Q8 i us,PN,Q1 hi,PY] at nd;exact λz=>(To.mp nd).2.2 _ z _ (OI ..) rfl
   rw [e,yx];unfold k7;rw [if_neg bx]
  .rw [Pz,Xm];exact gB (Paired.UN pk λp t r=>r.keep λr xs e=>n3.same _ _ e) (.cons {rfl,a2,rfl,n3.at_} .nil)
 .intro τ ys H3 I D H4 n4;obtain ⟨kvs,e,pk⟩:=I.ys;rw [OA,a5,O4 (Ov _)] at pk;rw [e] at n4;have a3:zj H2 H4:=I.same.trans n4.same;have a0:zj H H4:=s1.trans (s2.trans a3);have a8:Paired (fi H4) kvs us:=Paired.UN pk λp t r=>r.keep λr xs e=>n4.same _ _ e;have S:=a0 _ _ hl;ac_rfl;refine {{_,SqL.of S},fc.lst (xs:=[]) (λ_ τ ys H'=>ys=[]/\H'=H4) (λi τ ys H' I=>by rw [I.1];decide) (λi τ ys H' I=>SqL.of (by rw [I.2];exact S)) {rfl,rfl} (λN i v τ ys H' hv=>(by cases hv)) ?_};rintro b7 b6 H5 ⟨rfl,rfl⟩ D5 H6 n6;have av:=n6.same _ _ S;ac_rfl;refine {{_,SqL.of av},bu.lst (xs:=[]) (λ_ σ H'=>(∃t1 t2 t3 t4,σ=[some (.ref x),some (.ref l),some (.int mm),some (.ref qf),some (.ref D),some (.ref D5),t1,t2,t3,t4])/\H'=H6) {{_,_,_,_,rfl},rfl} (λi σ H' _ I=>SqL.of (by rw [I.2];exact av)) (λi x σ H' hx=>(by cases hx)) ?_};rintro σ H' ⟨⟨t1,t2,t3,t4,rfl⟩,rfl⟩;have F6:=((hF.same s2).same a3).same n6.same;obtain ⟨b9,e6⟩:=F6.ob;have b0:=n6.same _ _ n4.at_;have b1:Paired (fi H') kvs us:=Paired.UN a8 λp t r=>r.keep λr xs e=>n6.same _ _ e;erw [e6,sJ];have b8:ts.length=(uniq (aJ t ks)).length:=by rw [<- pm.length_eq,OA]
  refine {qf,bf,kf,t,ks,rfl,F6,'l','l',λll ns H7 s7 nl el a4 bL=>?_};have a6:ns=us.map (·.1):=xA bL so (a4.nodup_iff.mpr f9) J λy=>by rw [a4.mem_iff,(up.map (·.1)).mem_iff,pm.mem_iff]
  have a9:=s7 _ _ b0;have U:Paired (fi H7) kvs us:=Paired.UN b1 λp t r=>r.keep λr xs e=>s7 _ _ e;ac_rfl;rw [a6] at el;have ky:=jP U;have b4:=cH U;refine {{_,SqL.of el},aQ.lst (xs:=(us.map (·.1)).map V.int) (SbI H7 D us) (λi τ ys H' I=>?_) (λi τ ys H' I=>SqL.of (I.same _ _ el)) {{_,rfl},{[],rfl,.nil},zj.refl _} ?_ ?_}
  .obtain ⟨as,e,O⟩:=I.ys;have:=cH O;have h2:=Ro i us;rw [e,OA];exact cG 'l'
  .intro N i v τ ys H8 hv I hN;obtain ⟨t1,rfl⟩:=I.ex;obtain ⟨as,e,O⟩:=I.ys;rw [O0,O0] at hv;have hi:i<us.length:=by
    rcases Nat.lt_or_ge i us.length with h|h
    .exact h
    .rw [Q0 h] at hv;cases hv
   have Xm:=Os hi;rw [Xm] at hv;cases hv;have ai:i<kvs.length:=by lia
   obtain ⟨k1,a,k2,k3⟩:=dI U (Os ai) Xm;have bq:aH (ik kvs) (.inl us[i].1)=some (.ref a):=by
    refine qm (by rw [ky];exact J) ?_;rw [<- k1,<- k2];exact PV ai
   ac_rfl;refine {'d',λp1 H9 n9=>{_,.inl (n9.same _ _ (I.same _ _ a9)),_,bq,?_}};ac_rfl;refine .inr {_,n9.at_,_,n9.same _ _ (I.same _ _ k3),by show 3<=sizeLine;decide,λp2 H10 ax bP=>hN _ _ _ {{_,rfl},{as++[p2],by rw [e,PN];rfl,?_},I.same.trans (n9.same.trans ax)}};rw [Pz,Xm];exact gB (Paired.UN O λa t r=>ax _ _ (n9.same _ _ r)) (.cons bP .nil)
  .intro τ ys H8 I sp H9 n9;obtain ⟨bp,e,aI⟩:=I.ys;rw [OA,OA,O4 (Ov _)] at aI;rw [e] at n9;have b2:zj H7 H9:=I.same.trans n9.same;have aT:zj H' H9:=s7.trans b2;have G:zj H H9:=a0.trans (n6.same.trans aT);have S9:=hS.same G;obtain ⟨bt,e9⟩:=S9.ob;refine {bt,_,e9,ib,x,fx,b,k,d,t,ks,ts,n,m,rfl,S9,_,.inl (G _ _ hl),?_};ac_rfl;refine λy dy H10 Z=>{y,qf,bf,kf,sp,dy,n,mm,t,ks,bp,us,?_,Z.at_,(F6.same aT).same Z.same,.inl (Z.same _ _ n9.at_),Paired.UN aI λr v e=>.inl (Z.same _ _ (n9.same _ _ e)),{J,'l'},λfy b' k' d' a7 ba _ _ _ _ st _=>{rfl,?_}}
   .simp
   .exact q y fy b' k' d' us a7 (λc o e=>ba _ _ (zz (G _ _ e) Z.no) (Z.same _ _ (G _ _ e))) st up
theorem CU(F:bU s0 z)(h1:bU s1 o1)(h:dG z o1=some M):aG M.1.1/\bw M.1.2/\(M.2.1.map (·.1)).Perm (uniq (aJ M.1.1 M.1.2)):=by
 have go:∀{s:Tx}{N:MD},bU s (some N)->aG N.1.1/\bw N.1.2/\(N.2.1.map (·.1)).Perm (uniq (aJ N.1.1 N.1.2)):=λ{s N} h=>by
  obtain ⟨_,_,_,_,gm,gk,_,G⟩:=h;exact ⟨gm,gk,G⟩
 cases z with
 | none =>
  cases o1 with
  | none=>cases h
  | some b=>cases h;exact go h1
 | some a =>
  cases o1 with
  | none=>cases h;exact go F
  | some b =>
   have h:(if b.2.2.2>a.2.2.2 then b else a)=M:=O6.inj h;rw [<- h];split
   .exact go h1
   .exact go F
noncomputable def Ad(A:zh):Sp:=λvs H Q E=>∃(p wl sl:Addr)(n:Nat)(m c:Int)(s0 s1:Tx)(z o1:Option MD),vs=[.ref p]/\BkD A H p wl sl n m c s0 s1/\TB A H/\bU s0 z/\bU s1 o1 /\
 (∀M,dG z o1=some M->∀y F b k d ts H',zK H H'->TB A H'->aS A H' y F b k d M.1.1 M.1.2 ts M.2.2.1 (M.2.2.2+1)->ts.Perm M.2.1->Q (.ref y) H')/\(dG z o1=none->∀H',zK H H'->TB A H'->E (.ref A.wh) none H')
theorem pe:zx ["disk","marked","taken"] Xg (zo kJ):=fsc
theorem N4(F:Fun K "risen" "risen" kJ f fd)(T:Txt K mg A)(Y8:GX P w K mg base true 11 Wa Xg (qg A))(YS:GF P w K mg base true 3 V6 Xg (qO A))(Z6:GM P w K mg base true 1 A.State V9 Zf (iY A))(Z7:GM P w K mg base true 1 A.State Wb Zf (gq A))(YG:GF P w K mg base true 1 "rows_from" ["whole","number"] AJ)(ZJ:GF P w K mg base true 7 VX WA (sr A)):zq P w K mg base (CXW P w) true 12 f fd Xg (Ad A):=by
 refine F.oW pe λZ2 Ar outer s H vs Q E hr h=>?_;obtain ⟨p,wl,sl,n,m,c,s0,s1,o0,o1,rfl,D,tb,k0,k1,q,qe⟩:=h;have Th:=bA (cm:=true) (P:=P) (w:=w) (K:=K) (mg:=mg) (base:=base) (N:=["disk","marked","taken"]) (qual:="risen") (scope:=zo kJ) (f:=f) (cd:=Z2) (A:=Ar) (outer:=outer) (s:=s) (H:=H) (E:=E);refine {_,(W.h (zi (zC (i:=1) pe.nd rfl (OM rfl) (cXD (de Th Y8 hr rfl (clP (zd (zb 0) ze)))))
   (zi (zC (i:=2) pe.nd rfl (OM rfl) (caD (zQ YG hr rfl (clP (zd (caD (zQ YS hr rfl (clP (zd (zb 0) ze)))) (zd (m0D (zZ (clE (zb 1)) T.zk Z6 hr)) ze))))))
   (zm (zA (caD (zQ ZJ hr rfl (clP (zd (zb 1) (zd (zb 2) (zd (m0D (zZ (clE (zb 1)) T.zk Z7 hr)) ze))))))))))),?_}
 ac_rfl;refine {p,wl,sl,n,m,c,s0,s1,o0,o1,rfl,D,tb,k0,k1,λM G x H1 s1' z st=>?_,λG H1 s1' z=>{_,rfl,qe G H1 s1' z}};obtain ⟨_,gk,pm⟩:=CU k0 k1 G;ac_rfl;refine {p,wl,sl,n,m,c,s0,s1,rfl,D.Us s1',z,λl H2 s2 XI hl=>?_};obtain ⟨fx,b,k,d,J⟩:=st.Us s2;obtain ⟨dx,e2⟩:=J.ob;erw [e2,ib];refine {x,fx,b,k,d,_,_,_,_,_,rfl,J,?_};ac_rfl;refine {l,_,rfl,hl,λr H3 Z hr=>?_};have S3:=J.same Z;obtain ⟨Xd,e3⟩:=S3.ob;erw [e3,gO];refine {x,fx,b,k,d,_,_,_,_,_,rfl,S3,?_};ac_rfl;have kl:=gk.len;refine {x,fx,b,k,d,r,_,_,_,_,_,_,rfl,S3,hr,pm,'l',λy fy b' k' d' S H4 s4 O U=>?_};exact q M G y fy b' k' d' S H4 (s1'.trans (s2.trans ((zK.of Z).trans (.of s4)))) ((XI.same Z).same s4) O U
abbrev nO:Stmt:=top 63
theorem Ga:zx [] [] (zo nO):=fsc
def pM(A:zh):Sp:=λvs H Q _=>vs=[]/\∀x z b k d H',zj H H'->H x=none->H z=none->H b=none->H k=none->H d=none->aS A H' x z b k d [] [] [] 0 0->Q (.ref x) H'
theorem Lf(F:Fun K VT VT nO f fd)(T:Txt K mg A)(Ze:GC P w K mg base true 1 "Files" A.zw Zf (kI A))(Zc:GC P w K mg base true 5 "State" A.State Y9 (kC A)):zq P w K mg base CX0 true 7 f fd [] (pM A):=by
 refine F.o Ga λZ2 Ar outer s H vs Q E hr h=>?_;obtain ⟨rfl,q⟩:=h;refine {_,(W.h (zm (zA (gZ Zc hr rfl (zd (ni Ze hr rfl) (zd (aq ze) (zd zD (zd zD ze)))))))),?_};ac_rfl;refine λx dx H1 O=>{x,dx,rfl,O.at_,λb k H2 bt nb nk eb ek S ex=>{rfl,'d',λl H3 n3 _ y dy H4 z=>?_}};have J:∀c o,H1 c=some o->c≠x->H3 c=some o:=λc o e n=>n3.same _ _ (bt _ _ n e);have U:zj H H3:=λc o e=>J c o (O.same _ _ e) (zz e O.no);have hF:zS A H4 x b k [] []:={{dx,z.same _ _ (n3.same _ _ ex)},{{[],z.same _ _ (n3.same _ _ eb),.nil},by simp [names]},{[],z.same _ _ (n3.same _ _ ek),.nil},by simp [names],S};have G:zj H H4:=U.trans z.same;refine {y,x,b,k,l,dy,0,0,[],[],[],[],rfl,z.at_,hF,.inl (z.same _ _ n3.at_),.nil,{'z','d'},λfx b' k' d H5 Z n1 n2 n4 n5 st ai=>{rfl,?_}};exact q y fx b' k' d H5 (λc o e=>Z _ _ (zz (U _ _ e) z.no) (G _ _ e)) (U.free z.no) (G.free n1) (G.free n2) (G.free n4) (G.free n5) st
abbrev m4:Stmt:=zP (top 91) 10
abbrev l9:Stmt:=zP (top 91) 7
abbrev kr:Stmt:=zP (top 91) 9
abbrev j4:Stmt:=zP (top 91) 11
noncomputable def yG(A:zh):Sp:=λvs H Q _=>∃(p dx wl sl:Addr)(m c k:Int)(lf:Option Int)(st:Bool),vs=[.ref p,.int k]/\H p=some (.ins A.yz dx (zB m wl sl (c,lf,st)))/\Q .non (upd H p (.ins A.yz dx (zB m wl sl (c,some k,st))))
theorem HM:zx WB WB (zo m4):=fsc
theorem IH(F:Fun K "stop" "Disk.stop" m4 f fd)(T:Txt K mg A):zq P w K mg base CX0 true 1 f fd WB (yG A):=by
 refine F.o HM λG z outer s H vs Q E hr h=>?_;obtain ⟨p,dx,wl,sl,m,c,k,lf,st,rfl,h1,q⟩:=h;refine {_,(W.h (zm (sfD (ar T.tj T.Ux 'f' (clE (zb 1)))))),?_};erw [h1,xr];exact ⟨fj,q⟩
noncomputable def uE(A:zh):Sp:=λvs H Q _=>∃(p dx wl sl x:Addr)(cs:List Addr)(m c:Int)(k:Nat)(z:Str),vs=[.ref p,.int k,.str z]/\H p=some (.ins A.yz dx (zB m wl sl (c,none,false)))/\H wl=some (.lst (cs.map V.ref))/\cs[k]?=some x/\H x=some (.lst [])/\2<=m/\0<z.length/\z.length<=1000 /\
 ∀z',Q (.int 0) (upd (upd H p (.ins A.yz dx (zB m wl sl (c+z.length,none,false)))) x (.lst [.str z']))
theorem rn:zx Wg Wn (zo l9):=fsc
theorem Od(F:Fun K "write" "Disk.write" l9 f fd)(T:Txt K mg A)(ZX:GMX P w K mg base true 2 A.yz VS WD (mW A))(J:GMX P w K mg base true 1 A.yz V7 Zf (jw A)):zq P w K mg base (CXW P w) true 3 f fd Wn (uE A):=by
 refine F.oW rn λZ2 Z outer s H vs Q E hr h=>?_;obtain ⟨p,dx,wl,sl,x,cs,m,c,k,z,rfl,h1,hw,hk,hx,hm,z0,z1,q⟩:=h;have hu:_<cLine:=Ql (bB hr);have G:=bA (cm:=true) (P:=P) (w:=w) (K:=K) (mg:=mg) (base:=base) (N:=Wg) (qual:="Disk.write") (scope:=zo l9) (f:=f) (cd:=Z2) (A:=Z) (outer:=outer) (s:=s) (H:=H) (E:=E);have ha:atI (cs.map V.ref) (k:Int)=some (.ref x):=gP (by rw [O0,hk];rfl);have S:x≠p:=λz=>by rw [z,h1] at hx;cases hx
 refine {_,(W.h (zi (ae (aX (bc 'f' T.tj G J hr)))
   (zi (zC (i:=3) rn.nd rfl (OM rfl) (aW cq (fD (zO T.tj T.z3 'f')) (zb 1) (λ_ _=>rfl)))
   (zi (zC (i:=4) rn.nd rfl (OM rfl) (zM eW rfl T.UH PK (zd (zb 3) ze)))
   (zi (zW (tD (aP (clO (oE (eS hu))) (clE (zb 4)) (clE (fD (zO T.tj T.UM 'f'))) (aE _)))
   (zm cN)
   z7)
   (zi (ae (g9 (zb 3) (mXD (ig 'f' T.tj G ZX hr (clP (zd (zb 2) ze))))))
   (zi (ae (aX (bc 'f' T.tj G J hr)))
   (zm (zA (zb 4)))))))))),?_}
 erw [h1,fN];refine {p,dx,wl,sl,m,c,none,false,rfl,h1,λ_=>?_,nofun};erw [h1,hw,jj,ha,hx,A3];refine cy (λh=>absurd (of_decide_eq_true h) 'l') λ_=>?_;erw [h1,wc];refine {p,dx,wl,sl,m,c,none,false,z,rfl,h1,z0,'l',nofun,λH1 e1=>{λU=>absurd U (show ¬ ((z.length:Int)=0) by lia),λ_=>?_}};subst e1;have e0:decide (spn none (z.length:Int)<z.length)=false:=decide_eq_false (Sx _);rw [e0,map_none];erw [zg S,hx];refine {'d',?_};have O:upd (upd H p (.ins A.yz dx (zB m wl sl (c+spn none (z.length:Int),none,false)))) x (.lst [.str (hd z (spn none (z.length:Int)))]) p=some (.ins A.yz dx (zB m wl sl (c+spn none (z.length:Int),none,false))):=by rw [zg S.symm,zt]
 erw [O,fN];exact {p,dx,wl,sl,m,_,none,false,rfl,O,λ_=>q _,nofun}
noncomputable def Af(A:zh):Sp:=λvs H Q _=>∃(p dx wl sl x:Addr)(cs:List Addr)(m c:Int)(k:Nat)(xs:List V),vs=[.ref p,.int k]/\H p=some (.ins A.yz dx (zB m wl sl (c,none,false)))/\H wl=some (.lst (cs.map V.ref))/\cs[k]?=some x/\H x=some (.lst xs)/\xs.length<=1 /\
 Q .non (upd (upd H p (.ins A.yz dx (zB m wl sl (c+xs.length,none,false)))) x (.lst []))
theorem ma:zx Wh WE (zo kr):=fsc
theorem EY(F:Fun K "empty" "Disk.empty" kr f fd)(T:Txt K mg A)(ZA:GM P w K mg base true 1 A.yz "spend" WB (ng A))(G:GMX P w K mg base true 1 A.yz V7 Zf (jw A)):zq P w K mg base (CXW P w) true 2 f fd WE (Af A):=by
 refine F.oW ma λZ2 U outer s H vs Q E hr h=>?_;obtain ⟨p,dx,wl,sl,x,cs,m,c,k,xs,rfl,h1,hw,hk,hx,hl,q⟩:=h;have hu:_<cLine:=Ql (bB hr);have S:=bA (cm:=true) (P:=P) (w:=w) (K:=K) (mg:=mg) (base:=base) (N:=Wh) (qual:="Disk.empty") (scope:=zo kr) (f:=f) (cd:=Z2) (A:=U) (outer:=outer) (s:=s) (H:=H) (E:=E);have ha:atI (cs.map V.ref) (k:Int)=some (.ref x):=gP (by rw [O0,hk];rfl);have O:x≠p:=λz=>by rw [z,h1] at hx;cases hx
 refine {_,(W.h (zi (ae (aX (bc 'f' T.tj S G hr)))
   (zi (zC (i:=2) ma.nd rfl (OM rfl) (aW cq (fD (zO T.tj T.z3 'f')) (zb 1) (λ_ _=>rfl)))
   (zi (zC (i:=3) ma.nd rfl (OM rfl) (mD (cn 'f' T.tj ZA hr (clP (zd (zM eW rfl T.UH PK (zd (zb 2) ze)) ze)))))
   (zi (zW (cc (fD (zO T.tj T.J7 'f')))
   (zm (Jj (cF Q3.never (λ_=>rfl) (dF rfl T.Uy (zd (zb 3) ze)) (zJ (i:=4) ma.nd rfl (OM rfl))
   (zm cN))))
   (zm (ae (FI (zb 2)))))
   (zm (ae (aX (bc 'f' T.tj S G hr))))))))),?_}
 erw [h1,fN];refine {p,dx,wl,sl,m,c,none,false,rfl,h1,λ_=>?_,nofun};erw [h1,hw,jj,ha,Ag,hx];refine {p,dx,wl,sl,m,c,xs.length,none,false,rfl,h1,?_};have Z:decide (spn none (xs.length:Int)<xs.length)=false:=decide_eq_false (Sx _);rw [Z,map_none];erw [zt,uo,zg O,hx];have J:upd (upd H p (.ins A.yz dx (zB m wl sl (c+spn none (xs.length:Int),none,false)))) x (.lst []) p=some (.ins A.yz dx (zB m wl sl (c+spn none (xs.length:Int),none,false))):=by rw [zg O.symm,zt]
 erw [J,fN];exact {p,dx,wl,sl,m,_,none,false,rfl,J,λ_=>q,nofun}
structure CpI(H:Hp)(n i:Nat)(τ:L2.St)(ys:List V)(H':Hp):Prop where
 τ:∃t,τ=[t]
 ex:∃Z3:List Addr,ys=Z3.map V.ref/\Z3.length=i/\∀c∈Z3,H' c=some (.lst [])/\H c=none
 same:zj H H'
 le:i<=n
def tw(A:zh):Sp:=λvs H Q _=>∃(p wl sl:Addr)(n:Nat)(m c:Int)(lf:Option Int)(st:Bool)(s0 s1:Tx),vs=[.ref p]/\GkD A H p wl sl n m c lf st s0 s1/\2<=m/\m<=32/\∀x F z H',zj H H'->BkD A H' x F z n m c s0 s1->Q (.ref x) H'
theorem uh:zx Wj Zf (zo j4):=fsc
theorem Gh:bM { kind:=.function,names:=[(Ox ".0",.local),(Ox "texts",.local),(Ox "list",.globalImplicit)],isGenerator:=false,isCoroutine:=false,more:=[] } (zo j4).names Wj ["texts"] [none]=true:=by decide +kernel
theorem KP:(["texts"]:List Str).Nodup:=by decide +kernel
theorem G6(F:Fun K VY "Disk.copied" j4 f fd)(T:Txt K mg A)(Z5:GM P w K mg base true 1 A.yz VW Zf (lr A))(Yn:GC P w K mg base true 3 "Disk" A.yz XN (nK A)):zq P w K mg base CX0 true 5 f fd Zf (tw A):=by
 refine F.o uh λZ2 Ar outer s H vs Q E hr h=>?_;obtain ⟨p,wl,sl,n,m,c,lf,st,s0,s1,rfl,D,m0,m1,q⟩:=h;obtain ⟨dx,h1⟩:=D.ob;have n3:=D.n3;refine {_,(W.h (zi (zC (i:=1) uh.nd rfl (OM rfl) (gZ Yn hr rfl (zd (m0D (zZ 'f' T.tj Z5 hr)) (zd (fD (zO T.tj T.UM 'f')) ze))))
   (zi (sfD (ar T.tj T.z3 (clE (zb 1)) (clE (fe (λ_=>rfl) (ay.of Gh) (liD (cJ (clE (fD (zO T.tj T.z3 'f'))))) (λ_ _ _ _ _=>(zJ (i:=0) KP rfl (OM rfl))) (λ_ _ _ _ _=>cY) (λ_ _ _ _ _=>(bJ wB rfl T.eh boot_list (zd (zb 0) ze)))))))
   (zi (sfD (ar T.tj T.L0 (clE (zb 1)) (clE (bJ wB rfl T.eh boot_list (zd (fD (zO T.tj T.L0 'f')) ze)))))
   (zi (sfD (ar T.tj T.L3 (clE (zb 1)) (clE (fD (zO T.tj T.L3 'f')))))
   (zm (zA (zb 1)))))))),?_}
 erw [h1,jN];obtain ⟨a6,aT,ax,_⟩:=D.wr;refine {p,dx,wl,sl,m,c,lf,st,_,rfl,h1,aT,?_};rw [OA,ax];erw [h1,A3];refine λx XQ H2 Z=>{x,XQ,n,m,rfl,Z.at_,'l','l',m0,m1,λa0 J H3 a4 _ _ D3 _=>{rfl,?_}};have s3:zj H H3:=λb o e=>a4 b o (zz e Z.no) (Z.same b o e);have Dk:=D.same s3;obtain ⟨U,g3⟩:=D3.ob;obtain ⟨av,gk⟩:=Dk.ob;obtain ⟨Z3,w1,w2,w3⟩:=Dk.wr;have px:p≠x:=zz h1 Z.no;erw [gk,jj,cb];refine {{_,SqL.of w1},aQ.lst (xs:=Z3.map V.ref) (CpI H3 n) (λi τ ys H' I=>?_) (λi τ ys H' I=>SqL.of (I.same _ _ w1)) {{_,rfl},{[],rfl,rfl,'z'},zj.refl _,Pp _} ?_ ?_}
 .obtain ⟨cs,e,l,_⟩:=I.ex;have:=I.le;rw [e,OA,l];exact cG 'l'
 .intro N i v τ ys H' hi I hN;obtain ⟨t,rfl⟩:=I.τ;obtain ⟨cs,e,l,hc⟩:=I.ex;rw [O0] at hi;obtain ⟨b,G,rfl⟩:=Pf.mp hi;have a5:i<Z3.length:=(OJ.mp G).1;have aI:=I.same _ _ (w3 b (Pr G));erw [aI];refine λc2 H4 n4=>hN _ _ _ {{_,rfl},{cs++[c2],by rw [e,PN];rfl,by simp [l],λb G=>?_},I.same.trans n4.same,'l'};rcases Pi.mp G with G|G
  .exact {n4.same _ _ (hc b G).1,(hc b G).2}
  .rw [O3] at G;subst G;exact {n4.at_,I.same.free n4.no}
 .intro τ ys H4 I W H5 nW;obtain ⟨cs,e,l,hc⟩:=I.ex;rw [OA,w2] at l;have O:zj H3 H5:=I.same.trans nW.same;have g5:=O _ _ g3;have k5:=O _ _ gk;have w5:=nW.at_;rw [e] at w5;have pw:zG "written" (.ref W) (zB m a0 J (0,none,false))=zB m W J (0,none,false):=by kernel_rfl
  have pa:∀S:Addr,zG "at_sides" (.ref S) (zB m W J (0,none,false))=zB m W S (0,none,false):=λS=>by kernel_rfl
  have ai:(upd H5 x (.ins A.yz U (zB m W J (0,none,false)))) p=some (.ins A.yz av (zB m wl sl (c,lf,st))):=by rw [zg px];exact k5
  have a3:(upd H5 x (.ins A.yz U (zB m W J (0,none,false)))) sl=some (.lst [tv s0,tv s1]):=by rw [zg (zz D.sd Z.no)];exact O _ _ Dk.sd
  erw [g5,pw,ai,qi,a3];refine {fj,λS H6 n6=>?_};have x6:H6 x=some (.ins A.yz U (zB m W J (0,none,false))):=n6.same _ _ zt;have p6:=n6.same _ _ ai;have p7:(upd H6 x (.ins A.yz U (zB m W S (0,none,false)))) p=some (.ins A.yz av (zB m wl sl (c,lf,st))):=by rw [zg px];exact p6
  erw [x6,pa,p7,lP,zt,qq,dQ];have up:∀b o,b≠x->H5 b=some o->(upd H6 x (.ins A.yz U (zB m W S (c,none,false)))) b=some o:=λb o G h=>by rw [zg G];exact n6.same _ _ (by rw [zg G];exact h)
  refine {fj,fj,q x W S _ (λb o e=>up _ _ (zz e Z.no) (O _ _ (s3 _ _ e))) {⟨U,zt⟩,{cs,up _ _ (zz (I.same _ _ g3) nW.no).symm w5,l,λy hy=>up _ _ (λz=>?_) (nW.same _ _ (hc y hy).1)},n3,?_}}
  .have:=(hc y hy).2;rw [z,g3] at this;cases this
  .rw [zg (zz zt n6.no).symm];exact n6.at_
abbrev ph:Stmt:=zP (top 83) 1
abbrev rL:Stmt:=zP (top 83) 18
abbrev kO:Stmt:=zP (top 83) 6
abbrev jY:Stmt:=zP (top 83) 0
noncomputable def aw(p x:Addr)(b:Bool):List (Str×V):=[("own_disk",.ref p),("now",.ref x),("cold_rows",.int 0),("is_over",.bl b)]
theorem lF{p x:Addr}:(aw p x b).lookup ("now":Str)=some (.ref x):=by kernel_rfl
theorem yg{p x:Addr}:(aw p x b).lookup ("own_disk":Str)=some (.ref p):=by kernel_rfl
theorem KA{p x:Addr}:(aw p x b).lookup ("is_over":Str)=some (.bl b):=by kernel_rfl
theorem Jb{p x:Addr}:(aw p x b).lookup (VQ:Str)=none:=by kernel_rfl
theorem Lw{p x:Addr}:(aw p x b).lookup (V2:Str)=none:=by kernel_rfl
theorem KM{p x:Addr}:(aw p x b).lookup (V0:Str)=none:=by kernel_rfl
theorem yN{p x:Addr}:zG "is_over" (.bl c) (aw p x b)=aw p x c:=by kernel_rfl
theorem Mj{p x y:Addr}:zG "now" (.ref y) (aw p x b)=aw p y b:=by kernel_rfl
theorem vQ{p x:Addr}:zG "is_over" (.bl false) (zG "cold_rows" (.int 0) (zG "now" (.ref x) (zG "own_disk" (.ref p) [])))=aw p x false:=by kernel_rfl
theorem qG{p x:Addr}:(aw p x b).length<1000:=by show 4<1000;decide
noncomputable def ZM:Str:=bK 0 0 [] [] []
theorem jm{A:zh}{p sl:Addr}{fs:List (Str×V)}(G:H h=some (.ins C dx fs))(hp:H p=some (.ins A.yz J fd))(ld:fd.length=6)(hs:H sl=some (.lst xs))(lf:fs=[]\/∃q x b,fs=aw q x b)(k:∀a o,a≠h->a≠p->a≠sl->H a=some o->H' a=some o):FK A H H':=by
 intro a o F e;refine k a o (λz=>?_) (λz=>?_) (λz=>?_) e
 .rw [z,G] at e;rcases F with ⟨_,_,_,r⟩|⟨_,_,_,_,_,r⟩|⟨_,r⟩|⟨_,_,r⟩|⟨_,r⟩<;>subst r<;>injection e with e
  .injection e with _ _ e
   rcases lf with r|⟨_,_,_,r⟩<;>rw [r] at e
   .exact absurd (show (0:Nat)=2 from congrArg R8 e) 'd'
   .exact absurd (show (4:Nat)=2 from congrArg R8 e) 'd'
  .injection e with _ _ e
   rcases lf with r|⟨_,_,_,r⟩
   .rw [r] at e;exact absurd (show (0:Nat)=4 from congrArg R8 e) 'd'
   .rw [r] at e;injection e with e
    exact absurd (show ("own_disk":Str)="own_files" from congrArg Prod.fst e) (f!"")
  .cases e
  .cases e
  .cases e
 .rw [z,hp] at e;rcases F with ⟨_,_,_,r⟩|⟨_,_,_,_,_,r⟩|⟨_,r⟩|⟨_,_,r⟩|⟨_,r⟩<;>subst r<;>injection e with e
  .injection e with _ _ e
   exact absurd (show (6:Nat)=2 from ld.symm.trans (congrArg R8 e)) 'd'
  .injection e with _ _ e
   exact absurd (show (6:Nat)=4 from ld.symm.trans (congrArg R8 e)) 'd'
  .cases e
  .cases e
  .cases e
 .rw [z,hs] at e;rcases F with ⟨_,_,_,r⟩|⟨_,_,_,_,_,r⟩|⟨_,r⟩|⟨_,_,r⟩|⟨_,r⟩<;>subst r<;>cases e
theorem GkD.ex{A:zh}{h C dx p wl sl:Addr}{st:Bool}{fs:List (Str×V)}(D:GkD A H p wl sl n m c lf st s0 s1)(G:H h=some (.ins C dx fs))(J:h≠p)(k:∀a o,a≠h->H a=some o->H' a=some o):GkD A H' p wl sl n m c lf st s0 s1:=by
 obtain ⟨S,e⟩:=D.ob;obtain ⟨cs,F,O,U⟩:=D.wr;have ls:∀{a:Addr}{xs:List V},H a=some (.lst xs)->H' a=some (.lst xs):=λ{a xs} e=>k _ _ (λz=>by rw [z,G] at e;cases e) e;exact {{S,k _ _ J.symm e},{cs,ls F,O,λx hx=>ls (U x hx)},D.n3,ls D.sd}
noncomputable def jJ(C:Addr):Sp:=λvs H Q _=>∃(h dx p x:Addr),vs=[.ref h,.ref p,.ref x]/\H h=some (.ins C dx [])/\Q .non (upd H h (.ins C dx (aw p x false)))
theorem JI:zx Yc Yc (zo ph):=fsc
theorem Ld(F:Fun K VD Vx ph f fd)(T:Txt K mg A):zq P w K mg base CX0 true 1 f fd Yc (jJ A.L1):=by
 refine F.o JI λG z outer s H vs Q E hr h=>?_;obtain ⟨h,dx,p,x,rfl,e,q⟩:=h;refine {_,(W.h (zi (sfD (ar T.G2 T.UL 'f' (clE (zb 1))))
   (zi (sfD (ar T.G2 T.Uw 'f' (clE (zb 2))))
   (zi (sfD (ar T.G2 T.Vd 'f' (clE zD)))
   (zm (sfD (ar T.G2 T.Q2 'f' (clE cM)))))))),?_}
 erw [e,zt,dQ];exact {by show 0<1000;decide,by show 1<1000;decide,by show 2<1000;decide,by show 3<1000;decide,by rw [vQ];exact q}
noncomputable def uX(C:Addr):Sp:=λvs H Q _=>∃(h dx p x:Addr),vs=[.ref h]/\H h=some (.ins C dx (aw p x false))/\Q .non H
theorem IP:zx Zf Zf (zo rL):=fsc
theorem NP(F:Fun K VQ "House.refuse_if_over" rL f fd)(T:Txt K mg A):zq P w K mg base CX0 true 1 f fd Zf (uX A.L1):=by
 refine F.o IP λG z outer s H vs Q E hr h=>?_;obtain ⟨h,dx,p,x,rfl,e,q⟩:=h;refine {_,(W.h (zm (zW (cc (fD (zO T.G2 T.Q2 'f')))
   (zm cN)
   z7))),?_}
 erw [e,KA];exact q
def Ex3(h p sl:Addr)(H H':Hp):Prop:=∀a o,a≠h->a≠p->a≠sl->H a=some o->H' a=some o
noncomputable def vt(A:zh):Sp:=λvs H Q E=>∃(h dx p x z b k d wl sl:Addr)(n:Nat)(m:Int)(lf:Option Int)(st:Bool),vs=[.ref h]/\H h=some (.ins A.L1 dx (aw p x false))/\aS A H x z b k d [] [] [] 0 0/\GkD A H p wl sl n m 0 lf st none none/\h≠p/\(∀k,lf=some k->0<=k) /\
 (st=true->∀H',Ex3 h h h H H'->E (.ref A.vr) none H') /\
 (st=false->∀H',Ex3 h p sl H H'->GkD A H' p wl sl n m (spn lf ZM.length) (lf.map (· - spn lf ZM.length)) (decide (spn lf ZM.length<ZM.length)) (dJ ZM (spn lf ZM.length) none) none->(spn lf ZM.length<ZM.length->E (.ref A.vr) none H')/\(spn lf ZM.length=ZM.length->Q .non H'))
theorem gQ:aG []:={.nil,Pp _,(λn h=>by cases h),(λp h=>by cases h)}
theorem gp:bw []:={.nil,Pp _,(λn h=>by cases h),(λp h=>by cases h)}
theorem h6:eI [] 0 0:={(λt h=>by cases h),(λt h=>by cases h),'d','d','d'}
theorem mn:0<ZM.length/\ZM.length<=100000:=by
 obtain ⟨wd,wl⟩:=hX gQ gp h6;obtain ⟨O,G⟩:=jQ wd;obtain ⟨z,J⟩:=eP (tx (zI (aB 0 0 [] [] [])));have F:=pf z 'l';have S:ZM.length=(zI (aB 0 0 [] [] [])).length+(toString (cj (tx (zI (aB 0 0 [] [] [])))):Str).length+1:=by
  unfold ZM bK cO;rw [Qu,Qu,lh,show (";":Str).length=1 by decide]
 lia
theorem xH:zx ["self","number"] Zf (zo kO):=fsc
theorem Jp(F:Fun K V2 "House.mark" kO f fd)(T:Txt K mg A)(ZH:GM P w K mg base true 1 A.L1 VQ Zf (uX A.L1))(Z7:GM P w K mg base true 1 A.State Wb Zf (gq A))(Zs:GF P w K mg base true 7 Vz [V0] (pF A))(ZN:GMX P w K mg base true 3 A.yz "put_side" Wz (mT A))(ZJ:GF P w K mg base true 7 VX WA (sr A)):zq P w K mg base (CXW P w) true 8 f fd Zf (vt A):=by
 refine F.oW xH λZ2 Ar outer s H vs Q E hr h=>?_;obtain ⟨h,dx,p,x,fx,b,k,d,wl,sl,n,m,lf,st,rfl,O,S,D,WG,l0,qs,q⟩:=h;have Th:=bA (cm:=true) (P:=P) (w:=w) (K:=K) (mg:=mg) (base:=base) (N:=["self","number"]) (qual:="House.mark") (scope:=zo kO) (f:=f) (cd:=Z2) (A:=Ar) (outer:=outer) (s:=s) (H:=H) (E:=E);refine {_,(W.h (zi (ae (m0D (zZ 'f' T.G2 ZH hr)))
   (zi (zC (i:=1) xH.nd rfl (OM rfl) (m0D (zZ (clE (fD (zO T.G2 T.Uw 'f'))) T.zk Z7 hr)))
   (zi (sfD (ar T.G2 T.Q2 'f' (clE cM)))
   (zi (ae (mXD (ig (clE (fD (zO T.G2 T.UL 'f'))) T.tj Th ZN hr (clP (zd (zX (oI ia) (zb 1) zD) (zd (caD (zQ Zs hr rfl (clP (zd (fD (zO T.G2 T.Uw 'f')) ze)))) ze))))))
   (zi (sfD (ar T.G2 T.Q2 'f' (clE cM)))
   (zm (sfD (ar T.G2 T.Uw 'f' (clE (caD (zQ ZJ hr rfl (clP (zd (fD (zO T.G2 T.Uw 'f')) (zd (aq ze) (zd (zX cB (zb 1) zD) ze)))))))))))))))),?_}
 obtain ⟨dp,hp⟩:=D.ob;have Xj:h≠sl:=λz=>by have:=D.sd;rw [<- z,O] at this;cases this
 erw [O,Jb];refine {h,dx,p,x,rfl,O,?_};obtain ⟨a3,e0⟩:=S.ob;erw [O,lF,e0,gO];refine {x,fx,b,k,d,[],[],[],0,0,rfl,S,?_};erw [O,yN,qG,zt,yg];have e1:Ex3 h h h H (upd H h (.ins A.L1 dx (aw p x true))):=λa o G _ _ e=>by rw [zg G];exact e
 have f1:FK A H (upd H h (.ins A.L1 dx (aw p x true))):=jm O hp rfl D.sd (.inr {_,_,_,rfl}) λa o G _ _ e=>by rw [zg G];exact e
 generalize ax:upd H h (.ins A.L1 dx (aw p x true))=H1 at e1 f1;have Z:H1 h=some (.ins A.L1 dx (aw p x true)):=by rw [<- ax,zt]
 have S1:=S.mv f1;have D1:=D.ex (H':=H1) O WG λa o G e=>e1 a o G G G e;obtain ⟨a5,aT⟩:=D1.ob;erw [Z,lF,yg,aT,uq];refine {'d',x,fx,b,k,d,[],[],[],0,0,rfl,S1,gQ,gp,h6,λus H2 s2 up _=>?_};cases Re up.length_eq;have D2:=D1.same s2;have ai:=s2 _ _ Z;obtain ⟨a0,aI⟩:=D2.ob;refine {p,wl,sl,n,m,0,lf,st,none,none,0,_,rfl,D2,mn.1,mn.2,.inl rfl,l0,λhst=>{_,rfl,qs hst H2 λa o G U n3 e=>s2 _ _ (e1 a o G U n3 e)},λhst H3 k3 D3=>?_};have x3:Ex3 h p sl H H3:=λa o G U n3 e=>k3 a o U n3 (s2 _ _ (e1 a o G G G e));have q:=q hst;rw [if_pos rfl,if_pos rfl,Int.zero_add] at D3;refine {λlt=>{_,rfl,(q H3 x3 D3).1 lt},λeq=>?_};have J:=k3 _ _ WG Xj ai;have S3:=(S1.same s2).mv (jm ai aI rfl D2.sd (.inr {_,_,_,rfl}) λa o _ U n3 e=>k3 a o U n3 e);obtain ⟨a6,av⟩:=D3.ob;erw [J,yN,qG,zt,lF];have f4:FK A H3 (upd H3 h (.ins A.L1 dx (aw p x false))):=jm J av rfl D3.sd (.inr {_,_,_,rfl}) λa o G _ _ e=>by rw [zg G];exact e
 refine {'d',λl H5 n5 _=>{x,fx,b,k,d,l,[],[],[],0,0,_,rfl,(S3.mv f4).same n5.same,n5.at_,Uj.refl _,'d',λy fy b' k' d' a4 H6 s6 a7 _=>?_}};have e6:=s6 _ _ (n5.same _ _ (zt (H:=H3) (a:=h) (o:=.ins A.L1 dx (aw p x false))));erw [e6,Mj,qG];have k6:∀a o,a≠h->H3 a=some o->upd H6 h (.ins A.L1 dx (aw p y false)) a=some o:=λa o G e=>by rw [zg G];exact s6 _ _ (n5.same _ _ (by rw [zg G];exact e))
 exact (q _ (λa o G U n3 e=>k6 a o G (x3 a o G U n3 e)) (D3.ex J WG k6)).2 eq
noncomputable def sM(A:zh):Sp:=λvs H Q E=>∃(h dx p:Addr),vs=[.ref h,.ref p]/\H h=some (.ins A.L1 dx [])/\h≠p /\
 ((∃ z wl sl m c lf st, H p = some (.ins A.yz z (zB m wl sl (c, lf, st))) ∧ 0 < c ∧ E (.ref A.vx) none H) ∨
  ∃ wl sl n m lf st, GkD A H p wl sl n m 0 lf st none none ∧ (∀ k, lf = some k → 0 ≤ k) ∧ (st = true → ∀ H', Ex3 h h h H H' → E (.ref A.vr) none H') ∧
   (st = false → ∀ H', Ex3 h p sl H H' → GkD A H' p wl sl n m (spn lf ZM.length) (lf.map (· - spn lf ZM.length)) (decide (spn lf ZM.length < ZM.length)) (dJ ZM (spn lf ZM.length) none) none → (spn lf ZM.length < ZM.length → E (.ref A.vr) none H') ∧ (spn lf ZM.length = ZM.length → Q .non H')))
theorem D8:zx Xw Xw (zo jY):=fsc
theorem Cc(F:Fun K Wc "House.__init__" jY f fd)(T:Txt K mg A)(Zz:GM P w K mg base true 1 A.yz VE Zf (oh A))(Y2:GM P w K mg base true 1 A.L1 VD Yc (jJ A.L1))(ZE:GF P w K mg base true 7 VT [] (pM A))(YR:GMX P w K mg base true 8 A.L1 V2 Zf (vt A)):zq P w K mg base (CXW P w) true 9 f fd Xw (sM A):=by
 refine F.oW D8 λZ2 Ar outer s H vs Q E hr h=>?_;obtain ⟨h,dx,p,rfl,G,WG,q⟩:=h;have Th:=bA (cm:=true) (P:=P) (w:=w) (K:=K) (mg:=mg) (base:=base) (N:=Xw) (qual:="House.__init__") (scope:=zo jY) (f:=f) (cd:=Z2) (A:=Ar) (outer:=outer) (s:=s) (H:=H) (E:=E);refine {_,(W.h (zi (zW (tD (aP (clO (oI0 lZ)) (clE (m0D (zZ (clE (zb 1)) T.tj Zz hr))) (clE zD) (aE _)))
   (zm (dh rfl Th T.aT rfl T.aQ (zd zH ze)))
   z7)
   (zi (ae (mD (cn 'f' T.G2 Y2 hr (clP (zd (zb 1) (zd (vj ZE hr rfl) ze))))))
   (zm (ae (aX (bc 'f' T.G2 Th YR hr))))))),?_}
 rcases q with ⟨O,wl,sl,m,c,lf,st,hp,c0,qe⟩|⟨wl,sl,n,m,lf,st,D,l0,qs,q⟩
 .erw [hp,mR];refine {p,O,wl,sl,m,c,lf,st,rfl,hp,?_};ac_rfl;refine cy (λ_=>?_) (λh=>absurd (decide_eq_true c0) h);ac_rfl;exact {'d',qe}
 .obtain ⟨O,hp⟩:=D.ob;erw [hp,mR];refine {p,O,wl,sl,m,0,lf,st,rfl,hp,?_};ac_rfl;refine cy (λh=>absurd (of_decide_eq_true h) 'd') (λ_=>?_);have hb:([]:List (Str×V)).lookup (VD:Str)=none:=rfl;erw [G,hb];refine {rfl,λx fx b k d H1 s1 _ _ _ _ _ S1=>{h,dx,p,x,rfl,s1 _ _ G,?_}};have J:=s1 _ _ G;have Z:=D.same s1;obtain ⟨ai,U⟩:=Z.ob;have f1:FK A H1 (upd H1 h (.ins A.L1 dx (aw p x false))):=jm J U rfl Z.sd (.inl rfl) λa o z _ _ e=>by rw [zg z];exact e
  have k1:∀a o,a≠h->H a=some o->upd H1 h (.ins A.L1 dx (aw p x false)) a=some o:=λa o z e=>by rw [zg z];exact s1 _ _ e
  have e2:upd H1 h (.ins A.L1 dx (aw p x false)) h=some (.ins A.L1 dx (aw p x false)):=zt;erw [e2,Lw];refine {h,dx,p,x,fx,b,k,d,wl,sl,n,m,lf,st,rfl,e2,S1.mv f1,D.ex G WG k1,WG,l0,λhst H' e=>{_,rfl,qs hst H' λa o z S n3 ea=>e a o z S n3 (k1 a o z ea)},λhst H' e D'=>?_};obtain ⟨q1,q2⟩:=q hst H' (λa o z S n3 ea=>e a o z S n3 (k1 a o z ea)) D';exact {λlt=>{_,rfl,q1 lt},q2}
abbrev rK:Stmt:=zP (top 83) 1
abbrev nA:Stmt:=zP (top 83) 11
abbrev lV:Stmt:=zP (top 84) 0
abbrev me:Stmt:=top 85
theorem Ju:zx Yc Yc (zo rK):=fsc
theorem Er(F:Fun K VD Vx rK f fd)(T:Txt K mg A):zq P w K mg base CX0 true 1 f fd Yc (jJ A.zl):=by
 refine F.o Ju λG z outer s H vs Q E hr h=>?_;obtain ⟨h,dx,p,x,rfl,e,q⟩:=h;refine {_,(W.h (zi (sfD (ar T.Hx T.UR 'f' (clE (zb 1))))
   (zi (sfD (ar T.Hx T.UK 'f' (clE (zb 2))))
   (zi (sfD (ar T.Hx T.UO 'f' (clE zD)))
   (zm (sfD (ar T.Hx T.UU 'f' (clE cM)))))))),?_}
 erw [e,zt,dQ];exact {by show 0<1000;decide,by show 1<1000;decide,by show 2<1000;decide,by show 3<1000;decide,by rw [vQ];exact q}
noncomputable def ux(A:zh):Sp:=λvs H Q _=>∃(h dx p x:Addr),vs=[.ref h]/\H h=some (.ins A.zl dx (aw p x false))/\Q (.ref x) H
theorem Kp:zx Zf Zf (zo nA):=fsc
theorem CP(F:Fun K V0 "House.state" nA f fd)(T:Txt K mg A):zq P w K mg base CX0 true 1 f fd Zf (ux A):=by
 refine F.o Kp λG z outer s H vs Q E hr h=>?_;obtain ⟨h,dx,p,x,rfl,e,q⟩:=h;refine {_,(W.h (zm (zA (fD (zO T.Hx T.UK 'f'))))),?_};erw [e,lF];exact q
noncomputable def uO(A:zh):Sp:=λvs H Q E=>∃(h dx p wl sl:Addr)(n:Nat)(m c:Int)(s0 s1:Tx)(z o1:Option MD),vs=[.ref h,.ref p]/\H h=some (.ins A.zl dx [])/\h≠p/\BkD A H p wl sl n m c s0 s1/\TB A H/\bU s0 z/\bU s1 o1 /\
 (∀M,dG z o1=some M->∀y F b k d ts H',(∀a o,a≠h->(∀ps,o≠.tbl ps)->H a=some o->H' a=some o)->TB A H'->H' h=some (.ins A.zl dx (aw p y false))->aS A H' y F b k d M.1.1 M.1.2 ts M.2.2.1 (M.2.2.2+1)->Q .non H')/\(dG z o1=none->∀H',zK H H'->TB A H'->E (.ref A.wh) none H')
theorem JK:zx Xw Xw (zo lV):=fsc
theorem MC(F:Fun K Wc VO lV f fd)(T:Txt K mg A)(Zv:GM P w K mg base true 1 A.zl VD Yc (jJ A.zl))(XS:GX P w K mg base true 12 "risen" Xg (Ad A)):zq P w K mg base (CXW P w) true 13 f fd Xw (uO A):=by
 refine F.oW JK λZ2 Ar outer s H vs Q E hr h=>?_;obtain ⟨h,dx,p,wl,sl,n,m,c,s0,s1,o0,o1,rfl,hh,WG,D,tb,k0,k1,q,qe⟩:=h;have Th:=bA (cm:=true) (P:=P) (w:=w) (K:=K) (mg:=mg) (base:=base) (N:=Xw) (qual:=VO) (scope:=zo lV) (f:=f) (cd:=Z2) (A:=Ar) (outer:=outer) (s:=s) (H:=H) (E:=E);refine {_,(W.h (zm (ae (mD (cn 'f' T.Hx Zv hr (clP (zd (zb 1) (zd (cXD (de Th XS hr rfl (clP (zd (zb 1) ze)))) ze)))))))),?_};have hb:([]:List (Str×V)).lookup (VD:Str)=none:=rfl;erw [hh,hb];refine {p,wl,sl,n,m,c,s0,s1,o0,o1,rfl,D,tb,k0,k1,λM S y fy b k d ts H1 s1' J S1 _=>?_,λS H1 s1' J=>{_,rfl,qe S H1 s1' J}};have G:H1 h=some (.ins A.zl dx []):=s1' _ _ (λ_=>nofun) hh;refine {h,dx,p,y,rfl,G,?_};have D1:=D.Us s1';obtain ⟨dy,Z⟩:=D1.ob;have U:∀a o,a≠h->H1 a=some o->upd H1 h (.ins A.zl dx (aw p y false)) a=some o:=λa o O e=>by rw [zg O];exact e
 exact q M S y fy b k d ts _ (λa o O nt e=>U a o O (s1' a o nt e)) (J.keep (F:=[h]) (λa o e O=>U a o (λz=>O (by rw [z];exact O3.mpr rfl)) e) λa ha o e=>by
  rw [O3.mp ha,G] at e;cases e;exact {λ_=>nofun,λ_=>nofun}) zt (S1.mv (jm G Z rfl D1.sd (.inl rfl) λa o O _ _ e=>U a o O e))
noncomputable def rE(A:zh):Sp:=λvs H Q E=>∃(p wl sl:Addr)(n:Nat)(m c:Int)(s0 s1:Tx)(z o1:Option MD),vs=[.ref p]/\BkD A H p wl sl n m c s0 s1/\TB A H/\bU s0 z/\bU s1 o1 /\
 (∀M,dG z o1=some M->∀h dx y F b k d ts H',zK H H'->TB A H'->H' h=some (.ins A.zl dx (aw p y false))->aS A H' y F b k d M.1.1 M.1.2 ts M.2.2.1 (M.2.2.2+1)->Q (.ref h) H')/\(dG z o1=none->∀H',zK H H'->TB A H'->E (.ref A.wh) none H')
theorem Ml:zx Xg Xg (zo me):=fsc
theorem BI(F:Fun K VJ VJ me f fd)(T:Txt K mg A)(YQ:GCX P w K mg base true 13 "RisenHouse" A.zl Xw (uO A)):zq P w K mg base (CXW P w) true 15 f fd Xg (rE A):=by
 refine F.oW Ml λZ2 S outer s H vs Q E hr h=>?_;obtain ⟨p,wl,sl,n,m,c,s0,s1,U,o1,rfl,D,tb,k0,k1,q,qe⟩:=h;have Th:=bA (cm:=true) (P:=P) (w:=w) (K:=K) (mg:=mg) (base:=base) (N:=Xg) (qual:=VJ) (scope:=zo me) (f:=f) (cd:=Z2) (A:=S) (outer:=outer) (s:=s) (H:=H) (E:=E);refine {_,(W.h (zm (zA (yO Th YQ hr rfl (zd (zb 0) ze))))),?_};ac_rfl;refine λh dx H1 z=>?_;obtain ⟨dy,hp⟩:=D.ob;have O:=z.no;refine {h,dx,p,wl,sl,n,m,c,s0,s1,U,o1,rfl,z.at_,(zz hp O).symm,D.same z.same,tb.same z.same,k0,k1,λM J y fy b k d ts H2 s2 G Z S2=>{rfl,q M J h dx y fy b k d ts H2 (λa o nt e=>s2 a o (zz e O) nt (z.same _ _ e)) G Z S2},λJ H2 s2 G=>{_,rfl,qe J H2 ((zK.of z.same).trans s2) G}}
abbrev jM:Stmt:=top 95
theorem kg:1000<=sizeLine:=by decide
theorem ND:Q4 "ValueError"=some (.type "ValueError"):=by decide +kernel
theorem cg{K:Frag}{o:Obj}(he:H e=some (.frz o (.own 0)))(F:dS C o)(O:gL K C)(z:kitOne K (.ref C) u=some b)(G:ui c=some u)(q:Q (.bl b) H):j8 K [.ref e,c] H Q :=
 {_,_,_,_,_,rfl,G,.exc he F O,z,q}
structure KC(K:Frag)(A:zh)(C:Addr)(n:Nat):Prop where
 ec:gL K C
 lt:n<16
 cx:kitOne K (.ref C) (.type "ValueError")=some true
 eN:kitOne K (.ref C) (.ref A.bJ)=some (decide (0=n))
 et:kitOne K (.ref C) (.ref A.aL)=some (decide (1=n))
 e0:kitOne K (.ref C) (.ref A.Full)=some (decide (2=n))
 dO:kitOne K (.ref C) (.ref A.vr)=some (decide (3=n))
 er:kitOne K (.ref C) (.ref A.aK)=some (decide (4=n))
 dR:kitOne K (.ref C) (.ref A.U4)=some (decide (5=n))
 bC:kitOne K (.ref C) (.ref A.Uu)=some (decide (6=n))
 dQ:kitOne K (.ref C) (.ref A.U3)=some (decide (7=n))
 dV:kitOne K (.ref C) (.ref A.U6)=some (decide (8=n))
 eo:kitOne K (.ref C) (.ref A.wh)=some (decide (9=n))
 el:kitOne K (.ref C) (.ref A.aI)=some (decide (10=n))
 eZ:kitOne K (.ref C) (.ref A.d6)=some (decide (11=n))
 dh:kitOne K (.ref C) (.ref A.UD)=some (decide (12=n))
 dw:kitOne K (.ref C) (.ref A.vx)=some (decide (13=n))
 eu:kitOne K (.ref C) (.ref A.aM)=some (decide (14=n))
 dU:kitOne K (.ref C) (.ref A.U5)=some (decide (15=n))
noncomputable def fnd(n:Nat):List V:=[.bl (decide (0=n)),.bl (decide (1=n)),.bl (decide (2=n)),.bl (decide (3=n)),.bl (decide (4=n)),.bl (decide (5=n)),.bl (decide (6=n)),.bl (decide (7=n)),.bl (decide (8=n)),.bl (decide (9=n)),.bl (decide (10=n)),.bl (decide (11=n)),.bl (decide (12=n)),.bl (decide (13=n)),.bl (decide (14=n)),.bl (decide (15=n)),.bl false]
noncomputable def kwd:List V:=[.str "row",.str "disk",.str "full",.str "stopped",.str "file",.str "place",.str "held",.str "not held",.str V8,.str V2,.str "room",.str "gone",.str "closed",.str "blank",.str "deed",.str "house",.str "other"]
theorem Gn{n i:Nat}{y:V}(z:n<16)(h:(fnd n)[i]?=some y):y = .bl (decide (i=n)):=by
 have hi:i<17:=(OJ.mp h).1;have:i=0\/i=1\/i=2\/i=3\/i=4\/i=5\/i=6\/i=7\/i=8\/i=9\/i=10\/i=11\/i=12\/i=13\/i=14\/i=15\/i=16:=by omega
 rcases this with rfl|rfl|rfl|rfl|rfl|rfl|rfl|rfl|rfl|rfl|rfl|rfl|rfl|rfl|rfl|rfl|rfl
 all_goals first|(cases h;rfl)|(cases h;rw [decide_eq_false 'l'])
structure GZ(K:Frag)(H:Hp)(a b:Addr)(n i:Nat)(τ:L2.St)(zs:List V)(H':Hp):Prop where
 ex:∃t0 t1,τ=[t0,t1]
 zs:zs=if i<=n then [] else [kwd.getD n .non]
 same:zj H H'
 a:H' a=some (.lst kwd)
 b:H' b=some (.lst (fnd n))
def lE(K:Frag)(A:zh):Sp:=λvs H Q _=>∃(e C:Addr)(o:Obj)(n:Nat),vs=[.ref e]/\H e=some (.frz o (.own 0))/\dS C o/\KC K A C n/\∀(l:Addr)(H':Hp),zj H H'->H l=none->H' l=some (.lst [kwd.getD n .non])->Q (.ref l) H'
theorem gS:zx ["_law_e","_law_found","_law_words"] ["_law_e"] (zo jM):=fsc
theorem GL:bM { kind:=.function,names:=[(Ox ".0",.local),(Ox "_law_word",.local),(Ox "_law_told",.local)],isGenerator:=false,isCoroutine:=false,more:=[] } (zo jM).names ["_law_e","_law_found","_law_words"] ["_law_word","_law_told"] [none,none]=true:=by decide +kernel
theorem xP:(["_law_word","_law_told"]:List Str).Nodup:=by decide +kernel
theorem FA(F:Fun K VI VI jM f fd)(T:Txt K mg A):zq P w K mg base CX0 false 1 f fd ["_law_e"] (lE K A):=by
 refine F.o gS λZ2 Ar outer s H vs Q E hr h=>?_;obtain ⟨e,C,o,n,rfl,he,G,z,q⟩:=h;refine {_,(W.h (zi (zC (i:=1) gS.nd rfl (OM rfl) (aq (zd (zM bC rfl T.vl Pc (zd (zb 0) (zd (aK rfl T.eO) ze))) (zd (zM bC rfl T.vl Pc (zd (zb 0) (zd (aK rfl T.eB) ze))) (zd (zM bC rfl T.vl Pc (zd (zb 0) (zd (aK rfl T.e3) ze))) (zd (zM bC rfl T.vl Pc (zd (zb 0) (zd (aK rfl T.dY) ze))) ze))))))
   (zi (zC (i:=1) gS.nd rfl (OM rfl) (zX cB (zb 1) (aq (zd (zM bC rfl T.vl Pc (zd (zb 0) (zd (aK rfl T.eA) ze))) (zd (zM bC rfl T.vl Pc (zd (zb 0) (zd (aK rfl T.d0) ze))) (zd (zM bC rfl T.vl Pc (zd (zb 0) (zd (aK rfl T.bE) ze))) (zd (zM bC rfl T.vl Pc (zd (zb 0) (zd (aK rfl T.dZ) ze))) ze)))))))
   (zi (zC (i:=1) gS.nd rfl (OM rfl) (zX cB (zb 1) (aq (zd (zM bC rfl T.vl Pc (zd (zb 0) (zd (aK rfl T.d2) ze))) (zd (zM bC rfl T.vl Pc (zd (zb 0) (zd (aK rfl T.ez) ze))) (zd (zM bC rfl T.vl Pc (zd (zb 0) (zd (aK rfl T.ey) ze))) (zd (zM bC rfl T.vl Pc (zd (zb 0) (zd (aK rfl T.e2) ze))) ze)))))))
   (zi (zC (i:=1) gS.nd rfl (OM rfl) (zX cB (zb 1) (aq (zd (zM bC rfl T.vl Pc (zd (zb 0) (zd (aK rfl T.dj) ze))) (zd (zM bC rfl T.vl Pc (zd (zb 0) (zd (aK rfl T.dz) ze))) (zd (zM bC rfl T.vl Pc (zd (zb 0) (zd (aK rfl T.eC) ze))) (zd (zM bC rfl T.vl Pc (zd (zb 0) (zd (aK rfl T.d1) ze))) ze)))))))
   (zi (ae (g9 (zb 1) (ntD (wm (clE (zM bC rfl T.vl Pc (zd (zb 0) (zd (kM rfl T.cq ND (v:=.ty "ValueError") rfl) ze))))))))
   (zi (zC (i:=2) gS.nd rfl (OM rfl) (aq (oA zH zH zH zH (oA zH zH zH zH (oA zH zH zH zH ze)))))
   (zi (zC (i:=2) gS.nd rfl (OM rfl) (zX cB (zb 2) (aq (zd zH (zd zH (zd zH (zd zH (zd zH ze))))))))
   (zm (zA (fe (by intro h;exact nomatch h) (ay.of GL) (Dc rfl T.fa (zd (zb 2) (zd (zb 1) ze))) (λ_ _ _ _ _=>(lL (n:=2) (gsD (aM (zJ (i:=0) xP rfl (OM rfl)) (gsD (aM (zJ (i:=1) xP rfl (OM rfl)) eG)))))) (λ_ _ _ _ _=>(vM (JT (zb 1)))) (λ_ _ _ _ _=>(zb 0))))))))))))),?_}
 ac_rfl;refine cg he G z.ec z.eN rfl (cg he G z.ec z.et rfl (cg he G z.ec z.e0 rfl (cg he G z.ec z.dO rfl {'d',λp1 H1 n1 z1=>?_})));have he:=n1.same _ _ he;refine cg he G z.ec z.er rfl (cg he G z.ec z.dR rfl (cg he G z.ec z.bC rfl (cg he G z.ec z.dQ rfl {'d',λp2 H2 n2 z2=>?_})));have he:=n2.same _ _ he;refine {_,n2.same _ _ n1.at_,_,n2.at_,Pt (show 8<=1000 by decide) kg,λp3 H3 n3=>?_};have he:=n3.same _ _ he;refine cg he G z.ec z.dV rfl (cg he G z.ec z.eo rfl (cg he G z.ec z.el rfl (cg he G z.ec z.eZ rfl {'d',λp4 H4 Z z4=>?_})));have he:=Z.same _ _ he;refine {_,Z.same _ _ n3.at_,_,Z.at_,Pt (show 12<=1000 by decide) kg,λp5 H5 n5=>?_};have he:=n5.same _ _ he;refine cg he G z.ec z.dh rfl (cg he G z.ec z.dw rfl (cg he G z.ec z.eu rfl (cg he G z.ec z.dU rfl {'d',λp6 H6 U z6=>?_})));have he:=U.same _ _ he;refine {_,U.same _ _ n5.at_,_,U.at_,Pt (show 16<=1000 by decide) kg,λp7 H7 n7=>?_};have he:=n7.same _ _ he;refine {{_,n7.at_},cg he G z.ec z.cx rfl ?_};have s7:zj H H7:=n1.same.trans (n2.same.trans (n3.same.trans (Z.same.trans (n5.same.trans (U.same.trans n7.same)))));have f7:H p7=none:=(n1.same.trans (n2.same.trans (n3.same.trans (Z.same.trans (n5.same.trans U.same))))).free n7.no;erw [n7.at_];refine {O2 (show 16<1000 by decide) kg,'d',λp8 H8 n8 z8=>{'d',λp9 H9 n9 z9=>{_,n9.same _ _ n8.at_,_,n9.at_,'d',λS H10 O=>?_}}};have e1:H10 S=some (.lst kwd):=O.at_;have e2:H10 p7=some (.lst (fnd n)):=O.same _ _ (n9.same _ _ (n8.same _ _ zt));have aI:zj H H10:=λc ob e=>O.same _ _ (n9.same _ _ (n8.same _ _ (by rw [zg (zz e f7)];exact s7 c ob e)));refine {{_,SqL.of e1},{_,SqL.of e2},aQ.zip (xs:=kwd) (ys:=fnd n) rfl (GZ K H S p7 n) (λi τ zs H' I=>?_) (λi τ zs H' I=>{SqL.of I.a,SqL.of I.b}) {{_,_,rfl},(if_pos (Pp n)).symm,aI,e1,e2} ?_ ?_}
 .rw [I.zs];split<;>simp<;>decide
 .intro N i x y p τ zs H' hx hy I hp hN;obtain ⟨t0,t1,rfl⟩:=I.ex;have ax:=Gn z.lt hy;subst ax;have ai:kwd.getD i .non=x:=by rw [O5,hx];rfl
  refine {p,[x,.bl (decide (i=n))],rfl,SqT.of zt,rfl,?_};ac_rfl;have J:New H' p (.tup [x,.bl (decide (i=n))]) (upd H' p (.tup [x,.bl (decide (i=n))])):=.mk' hp;by_cases hi:i=n
  .rw [decide_eq_true hi] at J ⊢;ac_rfl;refine hN _ _ _ {{_,_,rfl},?_,I.same.trans J.same,J.same _ _ I.a,J.same _ _ I.b};rw [I.zs,if_pos 'l',if_neg 'l',<- hi,ai];rfl
  .rw [decide_eq_false hi] at J ⊢;ac_rfl;refine hN _ _ _ {{_,_,rfl},?_,I.same.trans J.same,J.same _ _ I.a,J.same _ _ I.b};rw [I.zs];by_cases h0:i<=n
   .rw [if_pos h0,if_pos 'l']
   .rw [if_neg h0,if_neg 'l']
 .intro τ zs H' I D av nD;refine q D av (I.same.trans nD.same) (I.same.free nD.no) ?_;rw [nD.at_,I.zs,if_neg (by have:=z.lt;simp [kwd,fnd];lia)]
theorem Txt.dg(T:Txt K mg A):KC K A A.vx 13:={T.di,'d',T.UW,T.av,T.Vw,T.aX,T.Vf,T.Vv,T.Vh,T.US,T.Vg,T.Vj,T.Vu,T.Vt,T.aW,T.U1,T.U8,T.aa,T.Vi}
theorem Txt.bg(T:Txt K mg A):KC K A A.vr 3:={T.dy,'d',T.U0,T.aU,T.ar,T.bp,T.Vo,T.aq,T.Vq,T.UV,T.Vp,T.Vs,T.ao,T.ai,T.bj,T.U7,T.Ve,T.au,T.Vr}
theorem Txt.dM(T:Txt K mg A):KC K A A.wh 9:={T.dX,'d',T.U9,T.bq,T.a5,T.bB,T.aw,T.a4,T.aB,T.U2,T.ax,T.aD,T.a3,T.a0,T.bA,T.Vk,T.ae,T.a6,T.aC}
abbrev sj:Stmt:=top 96
abbrev qC:Stmt:=top 97
noncomputable def qL(A:zh):Sp:=λvs H Q _=>∃(p:Addr),vs=[.ref p] /\
 ((∃ z wl sl m c lf st, H p = some (.ins A.yz z (zB m wl sl (c, lf, st))) ∧ 0 < c ∧ ∀ l H', zj H H' → H' l = some (.lst [.str "blank"]) → Q (.ref l) H') ∨
  ∃ wl sl n m lf st, GkD A H p wl sl n m 0 lf st none none ∧ (∀ k, lf = some k → 0 ≤ k) ∧ (st = true → ∀ l H', zj H H' → H' l = some (.lst [.str "stopped"]) → Q (.ref l) H') ∧
   (st = false → ∀ l H', (∀ a o, a ≠ p → a ≠ sl → H a = some o → H' a = some o) → GkD A H' p wl sl n m (spn lf ZM.length) (lf.map (· - spn lf ZM.length)) (decide (spn lf ZM.length < ZM.length)) (dJ ZM (spn lf ZM.length) none) none → H' l = some (.lst [.str (if spn lf ZM.length < ZM.length then "stopped" else "begun")]) → Q (.ref l) H'))
theorem kdI(k:KC K A C n)(q:∀z H',zj H3 H'->H' z=some (.lst [kwd.getD n .non])->R (.ref z) H')(he:H3 ea=none)(F:dS C oe):lE K A [.ref ea] (upd H3 ea (.frz oe (.own 0))) R E :=
 {ea,C,oe,n,rfl,zt,F,k,λl H' s _ e=>q l H' ((New.mk' (o:=.frz oe (.own 0)) he).same.trans s) e}
theorem kK:zx ["_law_disk","_law_told","_law_e"] Ws (zo sj):=fsc
theorem M4(F:Fun K "_law_begun" "_law_begun" sj f fd)(T:Txt K mg A)(XR:GCX P w K mg base true 9 "House" A.L1 Xw (sM A))(Zy:GF P w K mg base false 1 VI ["_law_e"] (lE K A)):zq P w K mg base CX0 true 11 f fd Ws (qL A):=by
 refine F.o kK λZ2 Ar outer s H vs Q E hr h=>?_;obtain ⟨p,rfl,q⟩:=h;refine {_,(W.h (zi (zC (i:=1) kK.nd rfl (OM rfl) (aq (zd zH ze)))
   (zi (xn (i:=2) rfl rfl {rfl,rfl} kK.nd rfl rfl T.Vb rfl T.Va (λGo Ex=>(zm (ae (yO ki XR hr rfl (zd (zb 0) ze))))) (λGo ea=>by
   have hr:=hr.mark (v:=some (.ref ea));exact (zm (zC (i:=1) kK.nd rfl (OM rfl) (caD (zQ Zy hr rfl (clP (zd (zb 2) ze))))))))
   (zm (zA (zb 1)))))),?_}
 erw [nR];refine {'d',λl H1 G _ h dx H2 z=>?_};obtain ⟨J,fs,hp⟩:∃J fs,H p=some (.ins A.yz J fs):=by
  rcases q with ⟨J,wl,sl,m,c,lf,st,hp,_⟩|⟨wl,sl,n,m,lf,st,D,_⟩
  .exact {J,_,hp}
  .exact D.ob.elim λJ e=>{J,_,e}
 have s1:=G.same;have WG:h≠p:=(zz (s1 _ _ hp) z.no).symm;have k2:∀{H3:Hp},(∀a o,a≠h->H2 a=some o->H3 a=some o)->zj H1 H3:=λ{H3} k a o e=>k a o (zz e z.no) (z.same _ _ e);refine {h,dx,p,rfl,z.at_,WG,?_};rcases q with ⟨J,wl,sl,m,c,lf,st,hp,c0,q⟩|⟨wl,sl,n,m,lf,st,D,l0,qs,q⟩
 .exact .inl {J,wl,sl,m,c,lf,st,z.same _ _ (s1 _ _ hp),c0,_,rfl,T.aT,T.cu,λea oe he S=>kdI T.dg (λO H' s' e=>q O H' (s1.trans (z.same.trans s')) e) he S}
 .have D2:=(D.same s1).same z.same;refine .inr {wl,sl,n,m,lf,st,D2,l0,λhst H3 U=>{_,rfl,T.Vm,T.aP,λea oe he S=>kdI T.bg (λO H' s' e=>qs hst O H' (s1.trans ((k2 λa o Z e=>U a o Z Z Z e).trans s')) e) he S},λhst H3 U D3=>?_};have x0:∀a o,a≠p->a≠sl->H a=some o->H3 a=some o:=λa o G ai e=>U a o (zz (s1 _ _ e) z.no) G ai (z.same _ _ (s1 _ _ e));have q:=q hst;refine {λlt=>{_,rfl,T.Vm,T.aP,λea oe he S=>kdI T.bg (λO H' s' e=>q O H' (λa o G z e=>s' _ _ (x0 a o G z e)) (D3.same s') (by rw [if_pos lt];exact e)) he S},λeq=>{rfl,q l H3 x0 D3 ?_}};rw [if_neg 'l'];exact U _ _ (zz G.at_ z.no) (zz hp G.no).symm (zz D.sd G.no).symm (z.same _ _ G.at_)
noncomputable def AX(A:zh):Sp:=λvs H Q _=>∃(p wl sl:Addr)(n:Nat)(m c:Int)(s0 s1:Tx)(z o1:Option MD),vs=[.ref p]/\BkD A H p wl sl n m c s0 s1/\TB A H/\bU s0 z/\bU s1 o1/\∀l H',zK H H'->TB A H'->H' l=some (.lst [.str (if dG z o1=none then V2 else "up")])->Q (.ref l) H'
theorem lI:zx ["_law_disk","_law_told","_law_e"] Ws (zo qC):=fsc
theorem Cj(F:Fun K "_law_up" "_law_up" qC f fd)(T:Txt K mg A)(Zl:GX P w K mg base true 15 VJ Xg (rE A))(U:GF P w K mg base false 1 VI ["_law_e"] (lE K A)):zq P w K mg base CX0 true 16 f fd Ws (AX A):=by
 refine F.o lI λZ2 Ar outer s H vs Q E hr h=>?_;obtain ⟨p,wl,sl,n,m,c,s0,s1,S,o1,rfl,D,tb,k0,k1,q⟩:=h;refine {_,(W.h (zi (zC (i:=1) lI.nd rfl (OM rfl) (aq (zd zH ze)))
   (zi (xn (i:=2) rfl rfl {rfl,rfl} lI.nd rfl rfl T.Vb rfl T.Va (λGo Ex=>(zm (ae (cXD (de ki Zl hr rfl (clP (zd (zb 0) ze))))))) (λGo ea=>by
   have hr:=hr.mark (v:=some (.ref ea));exact (zm (zC (i:=1) lI.nd rfl (OM rfl) (caD (zQ U hr rfl (clP (zd (zb 2) ze))))))))
   (zm (zA (zb 1)))))),?_}
 erw [nR];refine {'d',λl H1 z _=>{p,wl,sl,n,m,c,s0,s1,S,o1,rfl,D.same z.same,tb.same z.same,k0,k1,λM J h dx y fy b k d ts H2 s2 G _ _=>?_,λJ H2 s2 G=>{_,rfl,T.UC,T.dm,λea oe he Z=>kdI T.dM (λO H' s' e=>?_) he Z}}}
 .have e:=s2.list z.at_;refine q l H2 ((zK.of z.same).trans s2) G ?_;rw [if_neg (by rw [J];nofun)];exact e
 .refine q O H' ((zK.of z.same).trans (s2.trans (.of s'))) (G.same s') ?_;rw [if_pos J];exact e
abbrev rj:Stmt:=top 98
theorem GkD.e8{A:zh}{a p wl sl:Addr}{st:Bool}(D:GkD A H p wl sl n m c lf st s0 s1)(s:But a H H')(O:Pot H a):GkD A H' p wl sl n m c lf st s0 s1:=by
 obtain ⟨x,y,ea,_⟩:=O.ex;obtain ⟨dx,e⟩:=D.ob;obtain ⟨cs,F,J,G⟩:=D.wr;have sd:=D.sd;have n3:=D.n3;refine {{dx,s _ _ (λz=>by rw [z,ea] at e;cases e) e},{cs,s _ _ (λz=>?_) F,J,λv hv=>s _ _ (λz=>by have:=G v hv;rw [z,ea] at this;cases this) (G v hv)},n3,s _ _ (λz=>?_) sd}
 .rw [z,ea] at F;cases cs with
  | nil=>cases F
  | cons u cs=>cases F
 .rw [z,ea] at sd;injection sd with sd
  injection sd with sd
  injection sd with sd _
  cases s0<;>cases sd
structure Usd(A:zh)(H:Hp)(a p wl sl:Addr)(cs:List Addr)(m:Int)(H':Hp):Prop where
 ob:∃dx c,H' p=some (.ins A.yz dx (zB m wl sl (c,none,false)))/\0<c
 w:H' wl=some (.lst (cs.map V.ref))
 cl:∀x∈cs,∃xs,H' x=some (.lst xs)/\xs.length<=1
 kp:∀x o,x≠a->x≠p->x≠sl->x∉cs->H x=some o->H' x=some o
theorem Usd.set{A:zh}{a p wl sl x dx:Addr}(w:H' wl=some (.lst (cs.map V.ref)))(cl:∀x∈cs,∃xs,H' x=some (.lst xs)/\xs.length<=1)(kp:∀x o,x≠a->x≠p->x≠sl->x∉cs->H x=some o->H' x=some o)(ob:∃dx fs,H' p=some (.ins A.yz dx fs))(l3:3<=cs.length)(hx:x∈cs)(U:0<c)(Z:xs.length<=1):Usd A H a p wl sl cs m (upd (upd H' p (.ins A.yz dx (zB m wl sl (c,none,false)))) x (.lst xs)):=by
 obtain ⟨_,_,e⟩:=ob;have S:∀y∈cs,y≠p:=λy G z=>by obtain ⟨_,F,_⟩:=cl y G;rw [z,e] at F;cases F
 have wp:wl≠p:=λz=>by rw [z,e] at w;cases w
 have W:wl≠x:=λz=>by
  obtain ⟨ys,F,l2⟩:=cl x hx;rw [<- z,w] at F;injection F with F
  injection F with F
  rw [<- F,OA] at l2;lia
 refine {{dx,c,by rw [zg (S x hx).symm,zt],U},by rw [zg W,zg wp];exact w,λy G=>?_,λy o n1 J n3 O e=>?_}
 .by_cases z:y=x
  .exact {xs,by rw [z,zt],Z}
  .rw [zg z,zg (S y G)];exact cl y G
 .rw [zg (λz=>O (by rw [z];exact hx)),zg J];exact kp y o n1 J n3 O e
def Ap(A:zh):Sp:=λvs H Q _=>∃(a p wl sl:Addr)(n:Nat)(m:Int)(cs:List Addr),vs=[.ref a,.ref p]/\Pot H a/\BkD A H p wl sl n m 0 none none/\2<=m/\H wl=some (.lst (cs.map V.ref))/\∀H',Usd A H a p wl sl cs m H'->Q .non H'
structure UsI(A:zh)(H:Hp)(a p wl sl:Addr)(cs:List Addr)(m:Int)(wy:Int)(i:Nat)(σ:L2.St)(H':Hp):Prop where
 ex:∃t,σ=[some (.ref a),some (.ref p),some (.int wy),t]
 u:Usd A H a p wl sl cs m H'
theorem ow:zx ["_law_pot_here","_law_disk","_law_way","_law_stretch"] Wr (zo rj):=fsc
theorem Ek(F:Fun K "_law_used" "_law_used" rj f fd)(T:Txt K mg A)(Z0:GF P w K mg base true 1 VC Wy lN)(ZN:GMX P w K mg base true 3 A.yz "put_side" Wz (mT A))(Z5:GM P w K mg base true 1 A.yz VW Zf (lr A))(YO:GMX P w K mg base true 3 A.yz "write" Wn (uE A))(YN:GMX P w K mg base true 2 A.yz "empty" WE (Af A)):zq P w K mg base CX0 true 4 f fd Wr (Ap A):=by
 refine F.o ow λZ2 Ar outer s H vs Q E hr h=>?_;obtain ⟨a,p,wl,sl,n,m,cs,rfl,hP,D,m0,hw,q⟩:=h;have hu:_<cLine:=Ql (bB hr);have n3:=D.n3;have O:cs.length=n/\∀x∈cs,H x=some (.lst []):=by
  obtain ⟨cs',w1,w2,w3⟩:=D.wr;rw [hw] at w1;injection w1 with w1
  injection w1 with w1
  have e:cs=cs':=(List.map_inj_right (λx y h=>by injection h)).mp w1;rw [e];exact ⟨w2,w3⟩
 have ai:∀{b:Addr}{x y:V},H b=some (.lst [x,y])->wl≠b:=λ{b x y} e z=>by
  rw [<- z,hw] at e;injection e with e
  injection e with e
  have:=congrArg R8 e;rw [OA,O.1] at this;exact absurd (show n=2 from this) 'l'
 have av:∀{b:Addr}{x y:V},H b=some (.lst [x,y])->∀c∈cs,c≠b:=λ{b x y} e c hc z=>by
  have:=O.2 c hc;rw [z,e] at this;cases this
 obtain ⟨x0,y0,ea,_⟩:=hP.ex;obtain ⟨dp,hp⟩:=D.ob;have wa:=ai ea;have ws:=ai D.sd;have ca:=av ea;have cs':=av D.sd;have cp:∀c∈cs,c≠p:=λc hc z=>by have:=O.2 c hc;rw [z,hp] at this;cases this
 have wp:wl≠p:=λz=>by rw [z,hp] at hw;cases hw
 refine {_,(W.h (zi (zC (i:=2) ow.nd rfl (OM rfl) (caD (zQ Z0 hr rfl (clP (zd (zb 0) (zd zD ze))))))
   (zi (zW (tD (aP (clO (oE (eS hu))) (clE (zb 2)) (clE zD) (aE _)))
   (zm (ae (mXD (ig (clE (zb 1)) T.tj jZ ZN hr (clP (zd (caD (zQ Z0 hr rfl (clP (zd (zb 0) (zd zD ze))))) (zd zH ze)))))))
   (zm (ae (mXD (ig (clE (zb 1)) T.tj jZ YO hr (clP (zd (caD (zQ Z0 hr rfl (clP (zd (zb 0) (zd (m0D (zZ (clE (zb 1)) T.tj Z5 hr)) ze))))) (zd zH ze))))))))
   (zm (zW (tD (aP (clO (oE (eS hu))) (clE (zb 2)) (clE zD) (aE _)))
   (zm (cF Q3.never (λ_=>rfl) (dF rfl T.Uy (zd (m0D (zZ (clE (zb 1)) T.tj Z5 hr)) ze)) (zJ (i:=3) ow.nd rfl (OM rfl))
   (zm (ae (mXD (ig (clE (zb 1)) T.tj jZ YN hr (clP (zd (zb 3) ze))))))))
   z7))))),?_}
 ac_rfl;refine tkI hP 'd' 'd' λwy H1 Z P1 aT a0=>?_;have D1:=D.e8 Z hP;obtain ⟨Xn,e1⟩:=D1.ob;ac_rfl;refine cy (λh=>?_) (λh=>?_)
 .have h:=of_decide_eq_true h;refine {Xn,_,e1,uq,tkI P1 'd' 'd' λk H2 J P2 k0 k1=>{p,wl,sl,n,m,0,none,false,none,none,k,_,rfl,D1.e8 J P1,'d','d','l',nofun,nofun,λ_ H3 k3 D3=>{λlt=>absurd lt (Sx _),λ_=>?_}}};rw [show decide (spn none (("x":Str).length:Int)<(("x":Str).length:Int))=false from decide_eq_false (Sx _),map_none] at D3;refine cy (λh2=>absurd (of_decide_eq_true h2) 'l') λ_=>q H3 {?_,?_,λx hx=>{[],?_,Pp _},λx o n1 n2 n3 _ e=>k3 x o n2 n3 (J x o n1 (Z x o n1 e))}
  .obtain ⟨dx,e⟩:=D3.ob;exact {dx,_,e,'d'}
  .exact k3 _ _ wp ws (J _ _ wa (Z _ _ wa hw))
  .exact k3 _ _ (cp x hx) (cs' x hx) (J _ _ (ca x hx) (Z _ _ (ca x hx) (O.2 x hx)))
 .refine {Xn,_,e1,Nm,Xn,_,e1,jN,p,Xn,wl,sl,m,0,none,false,_,rfl,e1,Z _ _ wa hw,?_};rw [OA,O.1];refine tkI P1 'l' 'l' λk H2 J P2 k0 k1=>?_;obtain ⟨j,rfl⟩:=Int.eq_ofNat_of_zero_le k0;have hj:j<cs.length:=by rw [O.1];lia
  have D2:=D1.e8 J P1;obtain ⟨XQ,e2⟩:=D2.ob;have w2:=J _ _ wa (Z _ _ wa hw);have c2:∀x∈cs,H2 x=some (.lst []):=λx hx=>J _ _ (ca x hx) (Z _ _ (ca x hx) (O.2 x hx));have G:=PV hj;refine {p,XQ,wl,sl,cs[j],cs,m,0,j,_,rfl,e2,w2,Os hj,c2 _ G,m0,'d','d',λz'=>?_};have U:Usd A H a p wl sl cs m (upd (upd H2 p (.ins A.yz XQ (zB m wl sl (0+(("ab":Str).length:Int),none,false)))) cs[j] (.lst [.str z'])):=Usd.set w2 (λx hx=>{[],c2 x hx,Pp _}) (λx o n1 n2 n3 n4 e=>J x o n1 (Z x o n1 e)) {_,_,e2} 'l' G 'd' (Ov 1);generalize upd (upd H2 p (.ins A.yz XQ (zB m wl sl (0+(("ab":Str).length:Int),none,false)))) cs[j] (.lst [.str z'])=H3 at U;refine cy (λh2=>?_) (λ_=>q H3 U);obtain ⟨Xd,c3,e3,_⟩:=U.ob;refine {Xd,_,e3,jN,p,Xd,wl,sl,m,c3,none,false,_,rfl,e3,U.w,?_};ac_rfl;rw [OA,O.1];refine {'l','l',bu.rng (UsI A H a p wl sl cs m wy) {{_,rfl},U} ?_ ?_}
  .rintro i σ H4 hi ⟨⟨t,rfl⟩,S⟩;have ej:(0+(i:Int))=((i:Nat):Int):=by lia
   obtain ⟨ax,c4,e4,aI⟩:=S.ob;have Xe:i<cs.length:=by rw [O.1];lia
   have G:=PV Xe;obtain ⟨xs,hx,lx⟩:=S.cl _ G;erw [ej,e4,Dg];exact {p,ax,wl,sl,cs[i],cs,m,c4,i,xs,rfl,e4,S.w,Os Xe,hx,lx,{_,rfl},Usd.set S.w S.cl S.kp {_,_,e4} 'l' G 'l' (Pp _)}
  .rintro σ H4 ⟨⟨t,rfl⟩,S⟩;exact q H4 S
end
abbrev rm:Stmt:=top 99
structure One(z z':Str):Prop where
 a:asc z'=true
 l:z'.length<=z.length+1
 w:(wds z').length<=(wds z).length+1
 c:∃N:List Str,N.length<=2/\∀v∈wds z',v∈wds z\/v∈N
theorem EV(ha:asc z=true)(J:asc x=true)(U:x.length<=1){k:Nat}(e:sg z'=(sg z).take i++sg x++(sg z).drop (i+k)):One z z':=by
 have G:(sg z).take i++((sg z).drop i).take k++(sg z).drop (i+k)=sg z:=by
  rw [Pw,<- List.drop_drop,Q8,Q8]
 have hx:(sg x).length<=1:=by rw [aa];exact U
 have c1:(sg x).count 32<=(sg x).length:=List.count_le_length;refine {?_,?_,?_,?_}
 .rw [fK,Pg] at ha J ⊢;intro c F;rw [e] at F;rcases Pi.mp F with F|F
  .rcases Pi.mp F with F|F
   .exact ha c (RS F)
   .exact J c F
  .exact ha c (List.mem_of_mem_drop F)
 .have h1:=congrArg R8 e;have h2:=congrArg R8 G;simp only [Ph,aa] at h1 h2;rw [aa] at hx;lia
 .have h1:=congrArg (List.count 32) e;have h2:=congrArg (List.count 32) G;rw [Tq,Tq] at h1 h2;rw [iA,iA];lia
 .obtain ⟨N,W,S⟩:=Kl (c:=32) ((sg z).take i) (sg x) (((sg z).drop i).take k) ((sg z).drop (i+k)) hx;refine {N.map tx,by rw [OA];exact W,λv hv=>?_};rw [dk] at hv;obtain ⟨y,O,rfl⟩:=Po.mp hv;rw [e] at O;rcases S y O with h|h
  .left;rw [G] at h;rw [dk];exact Po.mpr {y,h,rfl}
  .exact .inr (Po.mpr {y,h,rfl})
theorem E5{t:Tab}(gm:aG t)(gk:bw ks)(gs:eI ts m n)(pm:(ts.map (·.1)).Perm (uniq (aJ t ks)))(few:ts.length<=7):asc (bK m n t ks ts)=true/\2<=(bK m n t ks ts).length/\(bK m n t ks ts).length<=30000/\(wds (bK m n t ks ts)).length<=1405/\∃N:List Str,N.length<=45/\Cov N (bK m n t ks ts):=by
 obtain ⟨wd,wl⟩:=hX gm gk gs;obtain ⟨b1,S⟩:=jQ wd;obtain ⟨O,m1⟩:=eP (tx (zI (aB m n t ks ts)));have ln:=pf O 'l';have F:=gA O 'l';have J:=E1 (W:=aB m n t ks ts) λv hv=>(wd v hv).no;have l2:(bK m n t ks ts).length=(zI (aB m n t ks ts)).length+(toString (cj (tx (zI (aB m n t ks ts)))):Str).length+1:=by
  unfold bK cO;rw [Qu,Qu,lh,show (";":Str).length=1 by decide]
 have l3:1<=(zI (aB m n t ks ts)).length:=by
  unfold aB zI;rw [PY,RN,Ph,Ph,QT];lia
 refine {?_,'l','l',by unfold bK;rw [J,Ph,QT];lia,SM++(ts.map λv=>(toString v.1:Str))++[(toString m:Str),(toString n:Str)],by simp [SM];lia,λv hv e=>?_}
 .unfold bK cO;rw [fK,ck,ck,bz,all_append,all_append,S,TH,O1];exact {Pg.mpr λc U=>decide_eq_true (by have:=F.dig c U;lia),f!""}
 .unfold bK at hv;rw [J] at hv;rcases Pi.mp hv with hv|hv
  .have G:∀y,y∈aJ t ks↔y∈ts.map (·.1):=λy=>by rw [pm.mem_iff,i7]
   refine BR (λv hv=>Pb _ (Pb _ hv)) gm gk gs (λy Z=>?_) (λu z=>(G _).mpr (Po.mpr {u,z,rfl})) 'z' 'z' 'l' v hv e;obtain ⟨u,z,rfl⟩:=Po.mp ((G y).mp Z);exact Pb _ (Oy _ (Po.mpr {u,z,rfl}))
  .rw [O3.mp hv,BB] at e;cases e
theorem One.fE(o:One z z')(h:z.length<=30000/\(wds z).length<=1405/\∃N:List Str,N.length<=45/\Cov N z):ZOk z':=by
 obtain ⟨h1,h2,N,J,F⟩:=h;obtain ⟨M,O,G⟩:=o.c;exact {o.a,by have:=o.l;lia,by have:=o.w;lia,N++M,by rw [Ph];lia,λv hv e=>(G v hv).elim (λk=>Pb _ (F v k e)) λk=>Oy _ k}
theorem SqL.Us{K:Frag}(s:zK H H')(h:SqL K H a xs):SqL K H' a xs:=by
 rcases h with (h|⟨o,h⟩)|h
 .exact .inl (.inl (s.list h))
 .exact .inl (.inr {o,s _ _ (λ_=>nofun) h})
 .exact .inr h
theorem u6{k:Nat}(r:zE c k A):A.units+(5+1)<cLine:=by have:=r.un;lia
theorem wR(z:Str):eqL [V.str z] [V.str z]=true:=j9 rfl λx hx b e=>by rw [O3.mp hx] at e;cases e
theorem jD(ha:H a=some (.lst [.str z]))(F:H b=some (.lst [.str z]))(q:Q (.bl false) H):gj true (.ref a) (.ref b) H Q:={_,_,ha,F,rfl,rfl,by rw [wR];exact q}
theorem wq{H:Hp}(ha:H a=some (.lst [.str z]))(F:H b=some (.lst [.str z]))(q:B):∃xs,H a=some (.lst xs)/\∃ys,H b=some (.lst ys)/\xs.all ah=true/\ys.all ah=true/\if (!eqL xs ys)=true then A else B:={_,ha,_,F,rfl,rfl,by rw [wR];exact q}
theorem sv(q:Q (.bl false) H):gj true (.int i) (.int i) H Q:=by
 show Q (.bl (!decide (i=i))) H;rw [decide_eq_true rfl];exact q
theorem GkD.Us{p wl sl:Addr}{st:Bool}(D:GkD A H p wl sl n m c lf st s0 s1)(s:zK H H'):GkD A H' p wl sl n m c lf st s0 s1:=D.mv λa o h e=>s a o (λps z=>by subst z;rcases h with ⟨_,_,_,h⟩|⟨_,h⟩<;>cases h) e
theorem sD:zF (names ([]:Tab))=[]:=(bR _).1.eq_nil
theorem DL:zF (names ([]:List (Str×Tab)))=[]:=(bR _).1.eq_nil
noncomputable def M0:MD:=((bG [] (zF (names ([]:Tab))),dn [] (zF (names ([]:List (Str×Tab))))),[],0,0)
theorem w6:ZOk ZM/\∀{k:Nat},k<ZM.length->ZOk (tx ((sg ZM).take k)):=by
 obtain ⟨J,U,F,z,G⟩:=E5 gQ gp h6 (Uj.refl _) (Pp _);refine {{J,Pt F 'd',Pt z 'd',G.elim λN h=>{N,'l',h.2}},λ{k} S=>?_};have O:One ZM (tx ((sg ZM).take k)):=EV (x:="") (i:=k) (k:=ZM.length) J (f!"") (Pp _) (by rw [bz,List.drop_of_length_le (by rw [aa];lia),show sg ("":Str)=[] from rfl,Qa,Qa]);exact O.fE ⟨F,z,G⟩
theorem JE{k:Int}(k0:0<=k)(k1:k<ZM.length):bU (dJ ZM k none) none:=by
 by_cases h:k=0
 .exact .inl (if_pos h)
 .exact .inr {_,if_neg h,w6.2 'l',Mp gQ gp h6 (show k.toNat<(sg ZM).length by rw [aa];lia)}
theorem uY:bU (dJ ZM ZM.length none) (some M0):=by
 have z:=mn.1;have e:dJ ZM ZM.length none=some ZM:=by
  unfold dJ hd;rw [if_neg 'l',O4 (by rw [aa];lia),fB]
 refine {ZM,e,w6.1,JQ gQ gp h6 (Uj.refl _) .nil,vF gQ,Cr gp,{.nil,'d'},?_};show Uj [] (uniq (aJ (bG [] (zF (names ([]:Tab)))) (dn [] (zF (names ([]:List (Str×Tab)))))));rw [sD,DL];exact .refl _
section
variable {P:OF}{w:OS}{K:Frag}{mg:Str->Option Value}{base:Heap}{A:zh}
structure JB(A:zh)(H0:Hp)(sc:V)(L:Int)(i:Nat)(σ:L2.St)(H':Hp):Prop where
 ex:∃t1 t2 t3 t4 t5 t6 t7,σ=[some sc,some (.int L),t1,t2,t3,t4,t5,t6,t7]
 same:zK H0 H'
 tb:TB A H'
def jT(t1 t2:Addr)(K:Frag):Sp:=λvs H Q _=>∃(a:Addr)(ns:List Int),vs=[.ref a]/\SqL K H a (ns.map V.int)/\ns.length<=63/\H t1=some (.tbl #[])/\H t2=some (.tbl #[])/\t1≠t2/\∀H',Q (.bl true) H'
theorem fu:zx ["_law_script","_law_many","_law_k","_law_pot_here","_law_disk","_law_signs","_law_is_told","_law_is_short","_law_state"] We (zo rm):=fsc
theorem xxI{H:Hp}{a:Addr}{xs:List V}{i:Int}{v:V}{R:V->Prop}(h:H a=some (.lst xs))(e:atI xs i=some v)(q:R v):∃xs,(H a=some (.lst xs)\/H a=some (.tup xs))/\∃v,atI xs i=some v/\R v:={_,.inl h,_,e,q}
theorem xxD{H:Hp}{a C dx:Addr}{fs:List (Str×V)}{k:Str}{R:Prop}(e:H a=some (.ins C dx fs))(h:fs.lookup k=none)(q:R):∃dx fs,H a=some (.ins C dx fs)/\fs.lookup k=none/\R:={dx,fs,e,h,q}
theorem xxB{H:Hp}{p wl sl:Addr}{m c:Int}{lf:Option Int}{st:Bool}{Q:VK}{E:XK}(e:∃dx,H p=some (.ins A.yz dx (zB m wl sl (c,lf,st))))(z:0<c)(q:∀l H',zj H H'->H' l=some (.lst [.str "blank"])->Q (.ref l) H'):qL A [.ref p] H Q E:=e.elim λdx e=>{p,rfl,.inl {dx,wl,sl,m,c,lf,st,e,z,q}}
theorem xxS{H:Hp}{p wl sl:Addr}{n:Nat}{m c:Int}{lf:Option Int}{st:Bool}{s0 s1:Tx}{Q:VK}{E:XK}(D:GkD A H p wl sl n m c lf st s0 s1)(q:Q (.int c) H):oh A [.ref p] H Q E:=D.ob.elim λdx e=>{p,dx,wl,sl,m,c,lf,st,rfl,e,q}
theorem xxP{H:Hp}{p wl sl:Addr}{n:Nat}{m c:Int}{lf:Option Int}{st:Bool}{s0 s1:Tx}{Q:VK}{E:XK}(D:GkD A H p wl sl n m c lf st s0 s1)(h:2<=m)(i:m<=32)(q:∀x F z H',zj H H'->BkD A H' x F z n m c s0 s1->Q (.ref x) H'):tw A [.ref p] H Q E:={p,wl,sl,n,m,c,lf,st,s0,s1,rfl,D,h,i,q}
theorem xxU{H:Hp}{p wl sl:Addr}{n:Nat}{m c:Int}{s0 s1:Tx}{z o1:Option MD}{Q:VK}{E:XK}(D:BkD A H p wl sl n m c s0 s1)(t:TB A H)(k0:bU s0 z)(k1:bU s1 o1)(q:∀l H',zK H H'->TB A H'->H' l=some (.lst [.str (if dG z o1=none then V2 else "up")])->Q (.ref l) H'):AX A [.ref p] H Q E:={p,wl,sl,n,m,c,s0,s1,z,o1,rfl,D,t,k0,k1,q}
theorem xxF{H:Hp}{x F b k d:Addr}{t:Tab}{ks:List (Str×Tab)}{ts:List T3}{n m:Int}{Q:VK}{E:XK}(S:aS A H x F b k d t ks ts n m)(q:∀q z k' H',zj H H'->H q=none->H z=none->H k'=none->zS A H' q z k' t ks->H' k'=H k->Q (.ref q) H'):jL A [.ref x] H Q E:={x,F,b,k,d,t,ks,ts,n,m,rfl,S,q}
theorem xxN{H:Hp}{p b k:Addr}{t:Tab}{ks:List (Str×Tab)}{Q:VK}{E:XK}(S:bW A H p b k t ks)(h:t.length<64)(q:∀l H',New H l (.lst ((zF (names t)).map V.str)) H'->Q (.ref l) H'):r8 A [.ref p] H Q E:={p,b,k,t,ks,rfl,S,h,q}
theorem xxM{H:Hp}{x F b k d:Addr}{t:Tab}{ks:List (Str×Tab)}{ts:List T3}{n m:Int}{Q:VK}{E:XK}(S:aS A H x F b k d t ks ts n m)(q:Q (.int n) H):iY A [.ref x] H Q E:={x,F,b,k,d,t,ks,ts,n,m,rfl,S,q}
theorem xxK{H:Hp}{x F b k d:Addr}{t:Tab}{ks:List (Str×Tab)}{ts:List T3}{n m:Int}{Q:VK}{E:XK}(S:aS A H x F b k d t ks ts n m)(q:Q (.int m) H):gq A [.ref x] H Q E:={x,F,b,k,d,t,ks,ts,n,m,rfl,S,q}
theorem xxT{H:Hp}{x F b k d:Addr}{t:Tab}{ks:List (Str×Tab)}{ts:List T3}{n m:Int}{Q:VK}{E:XK}(S:aS A H x F b k d t ks ts n m)(g:aG t)(h:bw ks)(i:eI ts m n)(q:∀us H',zj H H'->us.Perm ts->(us.map (·.1)).Pairwise (·<=·)->Q (.str (bK m n t ks us)) H'):pF A [.ref x] H Q E:={x,F,b,k,d,t,ks,ts,n,m,rfl,S,g,h,i,q}
theorem xxV{H:Hp}{p dx:Addr}{n m:Int}{Q:VK}{E:XK}(e:H p=some (.ins A.yz dx []))(h:3<=n)(i:n<=16)(j:2<=m)(k:m<=32)(q:∀wl sl H',But p H H'->H wl=none->H sl=none->BkD A H' p wl sl n.toNat m 0 none none->(∀cs:List Addr,H' wl=some (.lst (cs.map V.ref))->∀x∈cs,H x=none)->Q .non H'):nK A [.ref p,.int n,.int m] H Q E:={p,dx,n,m,rfl,e,h,i,j,k,q}
theorem xxC{H:Hp}{p wl sl:Addr}{n:Nat}{m:Int}{lf:Option Int}{Q:VK}{E:XK}(D:GkD A H p wl sl n m 0 lf false none none)(l:∀k,lf=some k->0<=k)(q:∀l H',(∀a o,a≠p->a≠sl->H a=some o->H' a=some o)->GkD A H' p wl sl n m (spn lf ZM.length) (lf.map (·-spn lf ZM.length)) (decide (spn lf ZM.length<ZM.length)) (dJ ZM (spn lf ZM.length) none) none->H' l=some (.lst [.str (if spn lf ZM.length<ZM.length then "stopped" else "begun")])->Q (.ref l) H'):qL A [.ref p] H Q E:={p,rfl,.inr {wl,sl,n,m,lf,false,D,l,nofun,λ_=>q}}
theorem xxL{H:Hp}{a:Addr}{xs:List V}{R:List V->Prop}(h:SqL K H a xs)(q:R xs):∃xs,(SqL K H a xs\/SqT K H a xs)/\R xs:={xs,.inl h,q}
theorem xxA{H:Hp}{a p wl sl:Addr}{n:Nat}{m:Int}{cs:List Addr}{Q:VK}{E:XK}(P:Pot H a)(D:BkD A H p wl sl n m 0 none none)(h:2<=m)(w:H wl=some (.lst (cs.map V.ref)))(q:∀H',Usd A H a p wl sl cs m H'->Q .non H'):Ap A [.ref a,.ref p] H Q E:={a,p,wl,sl,n,m,cs,rfl,P,D,h,w,q}
theorem Dj(F:Fun K "law" "law" rm f fd)(T:Txt K mg A)(ZE:GF P w K mg base true 7 VT [] (pM A))(Zs:GF P w K mg base true 7 Vz [V0] (pF A))(Yy:GF P w K mg base true 1 "_law_pot" Wm (m3 K))(Z0:GF P w K mg base true 1 VC Wy lN)(Yn:GC P w K mg base true 3 "Disk" A.yz XN (nK A))(YF:GF P w K mg base true 4 "_law_used" Wr (Ap A))(Zx:GF P w K mg base true 11 "_law_begun" Ws (qL A))(YE:GM P w K mg base true 1 A.yz "stop" WB (yG A))(Zz:GM P w K mg base true 1 A.yz VE Zf (oh A))(Zj:GM P w K mg base true 5 A.yz VY Zf (tw A))(Ym:GF P w K mg base true 16 "_law_up" Ws (AX A))(Zl:GX P w K mg base true 15 VJ Xg (rE A))(Zu:GM P w K mg base true 1 A.zl V0 Zf (ux A))(ZW:GM P w K mg base true 5 A.State V8 Zf (jL A))(ZG:GM P w K mg base true 1 A.zw "names" Zf (r8 A))(Z6:GM P w K mg base true 1 A.State V9 Zf (iY A))(Z7:GM P w K mg base true 1 A.State Wb Zf (gq A)):zq P w K mg base CX0 true 17 f fd We (jT A.UB A.Pv K):=by
 refine F.o fu λZ2 Ar outer s H vs Q E hr h=>?_;obtain ⟨sc,ns,rfl,hS,hl,eD,eM,ez,q⟩:=h;have hu:_<cLine:=Ql (bB hr);refine {_,(W.h (zi (zC (i:=1) fu.nd rfl (OM rfl) (zM eW rfl T.UH PK (zd (caD (zQ Zs hr rfl (clP (zd (vj ZE hr rfl) ze)))) ze)))
   (zi (cF Q3.never (λ_=>rfl) (dF rfl T.Uy (zd (zM (AD rfl) rfl T.eg boot_max (zd zD (zd (zM (vq rfl) rfl T.eR boot_min (zd zD (zd (zM oF rfl T.UH PK (zd (zb 0) ze)) ze))) ze))) ze)) (zJ (i:=2) fu.nd rfl (OM rfl))
   (zi (zC (i:=3) fu.nd rfl (OM rfl) (caD (zQ Yy hr rfl (clP (zd (zb 0) (zd (zb 2) ze))))))
   (zi (zC (i:=4) fu.nd rfl (OM rfl) (gZ Yn hr rfl (zd (zX cB zD (caD (zQ Z0 hr rfl (clP (zd (zb 3) (zd zD ze)))))) (zd (zX cB zD (caD (zQ Z0 hr rfl (clP (zd (zb 3) (zd zD ze)))))) ze))))
   (zm (zW (tD (aP (clO (oE (eS hu))) (clE (caD (zQ Z0 hr rfl (clP (zd (zb 3) (zd zD ze)))))) (clE zD) (aE _)))
   (zi (ae (caD (zQ YF hr rfl (clP (zd (zb 3) (zd (zb 4) ze))))))
   (zm (zW (tD (aP (clO (oE (ee hu))) (clE (caD (zQ Zx hr rfl (clP (zd (zb 4) ze))))) (clE (aq (zd zH ze))) (aE _)))
   (zm (zA cM))
   z7)))
   (zi (zC (i:=5) fu.nd rfl (OM rfl) (zX (oI0 j6) (zX cB (zb 1) zD) (caD (zQ Z0 hr rfl (clP (zd (zb 3) (zd (aW cq (aq (zd zD (zd (zX cB (zb 1) zD) ze))) (caD (zQ Z0 hr rfl (clP (zd (zb 3) (zd zD ze))))) (λ_ _=>rfl)) ze)))))))
   (zi (zC (i:=6) fu.nd rfl (OM rfl) (fV (oI0 lZ) (caD (zQ Z0 hr rfl (clP (zd (zb 3) (zd zD ze))))) zD (aE _)))
   (zi (wW (zC (i:=7) fu.nd rfl (OM rfl) (anD (mF (clE (zb 6)) (jh (fV (oI0 rX) (zb 5) (zb 1) (aE _)))))))
   (zi (wW (zW (cc (zb 6))
   (zm (ae (mD (cn (clE (zb 4)) T.tj YE hr (clP (zd (zb 5) ze))))))
   z7))
   (zi (zW (tD (aP (clO (oE (ee hu))) (clE (caD (zQ Zx hr rfl (clP (zd (zb 4) ze))))) (clE (aq (zd (aW cq (aq (zd zH (zd zH ze))) (bJ ju rfl T.bG boot_int (zd (zb 7) ze)) (λ_ _=>rfl)) ze))) (aE _)))
   (zm (zA cM))
   z7)
   (zi (zW (K0 (BW (cc (zb 7)) (GK (tD (aP (clO (oE (ee hu))) (clE (caD (zQ Zx hr rfl (clP (zd (zb 4) ze))))) (clE (aq (zd (aW cq (aq (zd zH (zd zH ze))) (bJ ju rfl T.bG boot_int (zd (fV (oI0 lZ) (zb 5) zD (aE _)) ze)) (λ_ _=>rfl)) ze))) (aE _))))))
   (zm (zA cM))
   z7)
   (zi (zW (tD (aP (clO (oE (ee hu))) (clE (m0D (zZ (clE (zb 4)) T.tj Zz hr))) (clE (aW cq (aq (zd (zb 1) (zd (zb 5) ze))) (bJ ju rfl T.bG boot_int (zd (zb 7) ze)) (λ_ _=>rfl))) (aE _)))
   (zm (zA cM))
   z7)
   (zi (zW (tD (aP (clO (oE (ee hu))) (clE (caD (zQ Ym hr rfl (clP (zd (m0D (zZ (clE (zb 4)) T.tj Zj hr)) ze))))) (clE (aq (zd (aW cq (aq (zd zH (zd zH ze))) (bJ ju rfl T.bG boot_int (zd (zb 7) ze)) (λ_ _=>rfl)) ze))) (aE _)))
   (zm (zA cM))
   z7)
   (zm (zW (dw (cc (zb 7)))
   (zi (zC (i:=8) fu.nd rfl (OM rfl) (m0D (zZ (clE (cXD (de jZ Zl hr rfl (clP (zd (m0D (zZ (clE (zb 4)) T.tj Zj hr)) ze))))) T.Hx Zu hr)))
   (zi (zW (tD (aP (clO (Jf (n:=5) (u6 hr))) (clE (dN (zd (m0D (zZ (clE (m0D (zZ (clE (zb 8)) T.zk ZW hr))) T.tr ZG hr)) (zd (m0D (zZ (clE (zb 8)) T.zk Z6 hr)) (zd (m0D (zZ (clE (zb 8)) T.zk Z7 hr)) ze))))) (clE (dN (zd (aq ze) (zd zD (zd zD ze))))) (aE _)))
   (zm (zA cM))
   z7)
   (zm (zW (tD (aP (clO (oE (ee hu))) (clE (caD (zQ Zx hr rfl (clP (zd (zb 4) ze))))) (clE (aq (zd zH ze))) (aE _)))
   (zm (zA cM))
   z7))))
   z7)))))))))))))))
   (zm (zA cM))))),?_}
 have e5:TB A H:={.inl eD,.inl eM,ez};ac_rfl;refine {rfl,λx fx b k d H1 s1 _ _ _ _ _ S1=>xxT S1 gQ gp h6 λus H2 s2 up _=>?_};cases Re up.length_eq;have eZ:bK 0 0 [] [] []=ZM:=rfl;obtain ⟨z0,z1⟩:=mn;have aI:zj H H2:=s1.trans s2;rw [eZ];have zs:ZM.length<=sizeLine:=bS (Pt z1 'd');erw [zs];refine xxL (SqL.Us (.of aI) hS) ?_;rw [OA];have hN:∃N:Nat,(if (if (ns.length:Int)<6 then (ns.length:Int) else 6)>2 then if (ns.length:Int)<6 then (ns.length:Int) else 6 else 2)=(N:Int)/\N<=6:=by
  by_cases h1:(ns.length:Int)<6
  .rw [if_pos h1];split
   .exact {ns.length,rfl,'l'}
   .exact {2,rfl,'d'}
  .rw [if_neg h1];exact {6,rfl,'d'}
 obtain ⟨N,eN,gr⟩:=hN;rw [eN,QG];refine {'l','l',bu.rng (JB A H (.ref sc) ZM.length) {{_,_,_,_,_,_,_,rfl},.of aI,e5.same aI} ?_ ?_}
 .rintro i σ H0 hi ⟨⟨t1,t2,t3,t4,t5,t6,t7,rfl⟩,a9,tb⟩;have ej:(0+(i:Int))=((i:Nat):Int):=by lia
  erw [ej];refine ptI (SqL.Us a9 hS) 'l' 'l' λa H1 c6 a0 P1=>?_;ac_rfl;refine tkI P1 'd' 'd' λr H2 b2 P2 r0 r1=>{a,31,rfl,P2,'d','d',λr' H3 b3 P3 f6 fL=>?_};ac_rfl;refine λp dx H4 n4=>xxV n4.at_ 'l' 'l' 'l' 'l' λwl sl H5 b5 c0 ei D5 ff=>{rfl,?_};have cD:zj H0 H4:=λx o e=>n4.same _ _ (b3 _ _ (zz e a0) (b2 _ _ (zz e a0) (c6 _ _ e)));have p0:H0 p=none:=by
   cases e:H0 p with
   | none=>rfl
   | some o =>
    have:=b3 _ _ (zz e a0) (b2 _ _ (zz e a0) (c6 _ _ e));rw [n4.no] at this;cases this
  have eT:zj H0 H5:=λx o e=>b5 _ _ (zz e p0) (cD _ _ e);have dt:H0 sl=none:=cD.free ei;have P5:Pot H5 a:=by
   obtain ⟨x,y,ea,er⟩:=P3.ex;exact {{x,y,b5 _ _ (zz ea n4.no) (n4.same _ _ ea),er}}
  obtain ⟨cs,w1,_,_⟩:=D5.wr;have e9:∀x∈cs,H0 x=none:=λx hx=>cD.free (ff cs w1 x hx);have wa:wl≠a:=λz=>by rw [z] at c0;obtain ⟨_,_,ea,_⟩:=P3.ex;rw [n4.same _ _ ea] at c0;cases c0
  refine tkI P5 'd' 'd' λr3 H6 b6 P6 g5 ft=>?_;have D6:=D5.e8 b6 P5;have dg:zj H0 H6:=λx o e=>b6 _ _ (zz e a0) (eT _ _ e);ac_rfl;refine cy (λh=>?_) (λh=>?_)
  .refine xxA P6 D6 'l' (b6 _ _ wa w1) λH7 U=>?_;have eu:zj H0 H7:=λx o e=>U.kp x o (zz e a0) (zz e p0) (zz e dt) (λhx=>by rw [e9 x hx] at e;cases e) (dg _ _ e);obtain ⟨e6,c7,e7,e1⟩:=U.ob;ac_rfl;refine xxB {e6,e7} e1 λl H8 s8 e8=>{'d',λp4 H9 n9 _=>jD (n9.same _ _ e8) n9.at_ ?_};have dc:zj H0 H9:=eu.trans (s8.trans n9.same);exact {{_,_,_,_,_,_,_,rfl},a9.trans (.of dc),tb.same dc}
  .refine {'d',λl4 H7 n7 _=>tkI (P6.same n7.same) 'd' 'd' λr4 H8 b8 P8 gi g4=>?_};have h4:=b8 _ _ (P6.ne n7.no) n7.at_;obtain ⟨X,eX,X0,X1⟩:∃X:Int,atI [V.int 4,V.int (ZM.length+3)] r4=some (.int X)/\0<X/\X<=ZM.length+3:=by
    have:r4=0\/r4=1:=by lia
    rcases this with rfl|rfl
    .exact {4,rfl,'d','l'}
    .exact {_,rfl,'l',Int.le_refl _}
   show mJ _ _ _ _;rw [yW];refine xxI h4 eX (tkI P8 X0 (Int.lt_of_le_of_lt X1 'l') λy H9 b9 P9 y0 y1=>?_);have d7:But a H6 H9:=(But.of n7.same).trans (b8.trans b9);ac_rfl;refine tkI P9 'd' 'd' λtt H10 d0 f3 gT gI=>?_;have a3:=D6.e8 (d7.trans d0) P6;have c5:zj H0 H10:=λx o e=>d0 _ _ (zz e a0) (d7 _ _ (zz e a0) (dg _ _ e));have g0:0<=(ZM.length:Int)+2-y:=by lia
   ac_rfl;generalize (ZM.length:Int)+2-y=gs at g0;generalize decide (tt>0)=tl;refine {λb0 H'=>H'=H10/\b0=[some (.ref sc),some (.int ZM.length),some (.int i),some (.ref a),some (.ref p),some (.int gs),some (.bl tl),some (.bl (tl&&decide (gs<ZM.length))),t7],?_,?_}
   .cases tl
    .ac_rfl;rfl
    .ac_rfl;rfl
   rintro _ _ ⟨rfl,rfl⟩;ac_rfl;refine {λb0 H'=>b0=[some (.ref sc),some (.int ZM.length),some (.int i),some (.ref a),some (.ref p),some (.int gs),some (.bl tl),some (.bl (tl&&decide (gs<ZM.length))),t7]/\zj H0 H'/\GkD A H' p wl sl (3+r).toNat (2+r') 0 (if tl then some gs else none) false none none,?_,?_}
   .cases tl
    .ac_rfl;exact ⟨c5,a3⟩
    .obtain ⟨dx,hp⟩:=a3.ob;erw [hp,B4];exact {p,dx,wl,sl,_,0,gs,none,false,rfl,hp,(λx o e=>by rw [zg (zz e p0)];exact c5 x o e),a3.put (λx o n1 _ e=>by rw [zg n1];exact e) zt (by rw [zg λz=>by have:=a3.sd;rw [z,hp] at this;cases this];exact a3.sd)}
   rintro _ fS ⟨rfl,fm,dT⟩;have hd:((tl&&decide (gs<ZM.length))=true/\spn (if tl then some gs else none) ZM.length=gs/\gs<ZM.length)\/((tl&&decide (gs<ZM.length))=false/\spn (if tl then some gs else none) ZM.length=ZM.length):=by
    cases tl with
    | false=>exact .inr {rfl,rfl}
    | true =>
     by_cases h:gs<ZM.length
     .exact .inl {by simpa using h,if_pos h,h}
     .exact .inr {by simpa using h,if_neg h}
   have l0:∀k,(if tl then some gs else none)=some k->0<=k:=by
    intro k hk;cases tl
    .cases hk
    .cases hk;exact g0
   generalize (if tl then some gs else none)=lf at hd l0 dT;generalize (tl&&decide (gs<ZM.length))=sh at hd;ac_rfl;refine xxC dT l0 λl H12 e2 bf ba=>?_;have aI:zj H0 H12:=λx o e=>e2 _ _ (zz e p0) (zz e dt) (fm _ _ e);rcases hd with ⟨rfl,ed,lt⟩|⟨rfl,ed⟩
   .rw [ed,if_pos lt] at ba;rw [ed,decide_eq_true lt] at bf;ac_rfl;refine {'d',λq1 eH S _=>xxI S.at_ rfl {'d',λq2 H14 J _=>wq (J.same _ _ (S.same _ _ ba)) J.at_ ?_}};have ax:=(bf.same S.same).same J.same;have cp:zj H0 H14:=aI.trans (S.same.trans J.same);have d1:∀R:VK,(∀l2 Z,zj H14 Z->Z l2=some (.lst [.str (if decide (0<gs)=true then "blank" else "stopped")])->R (.ref l2) Z)->qL A [.ref p] H14 R E0:=λR h=>by
     by_cases h0:0<gs
     .obtain ⟨dx,e⟩:=ax.ob;exact {p,rfl,.inl {dx,wl,sl,_,gs,_,true,e,h0,λl2 Z a6 WI=>h l2 Z a6 (by rw [if_pos (decide_eq_true h0)];exact WI)}}
     .have z:gs=0:=by lia
      subst z;refine {p,rfl,.inr {wl,sl,_,_,_,true,ax,λk hk=>?_,λ_ l2 Z a6 WI=>h l2 Z a6 WI,nofun}};obtain ⟨j,hj,rfl⟩:=Pf.mp hk;have:=l0 j hj;lia
    refine d1 _ λl2 Z a6 WI=>{'d',λq3 gC c2 _=>xxI (v:=.str (if decide (0<gs)=true then "blank" else "stopped")) c2.at_ (by split<;>rfl) {'d',λq4 H17 cv _=>jD (cv.same _ _ (c2.same _ _ WI)) cv.at_ ?_}};have a7:zj H14 H17:=a6.trans (c2.same.trans cv.same);have eg:=ax.same a7;have ek:zj H0 H17:=cp.trans a7;obtain ⟨dx,d2⟩:=eg.ob;show bD _ _;erw [d2,mR];refine xxS eg {'d',λq5 cu ai _=>xxI ai.at_ rfl (sv ?_)};have av:=eg.same ai.same;have aT:=ek.trans ai.same;obtain ⟨dx,cP⟩:=av.ob;show bD _ _;erw [cP,rF];refine xxP av 'l' 'l' λx2 wx sx eC a5 cC=>xxU (z:=none) (o1:=none) cC (tb.same (aT.trans a5)) (JE g0 lt) (.inl rfl) λl3 eo bL a4 bP=>{'d',λq6 ew O _=>xxI O.at_ rfl {'d',λq7 H22 G _=>jD (G.same _ _ (O.same _ _ bP)) G.at_ ?_}};exact {{_,_,_,_,_,_,_,rfl},a9.trans ((zK.of (aT.trans a5)).trans (bL.trans (.of (O.same.trans G.same)))),a4.same (O.same.trans G.same)}
   .rw [ed,if_neg (Sx _)] at ba;rw [ed] at bf;ac_rfl;refine {'d',λq1 eH S _=>xxI S.at_ rfl {'d',λq2 H14 J _=>wq (J.same _ _ (S.same _ _ ba)) J.at_ ?_}};have ax:=(bf.same S.same).same J.same;have cp:zj H0 H14:=aI.trans (S.same.trans J.same);obtain ⟨dx,eb⟩:=ax.ob;refine xxD eb mR (xxS ax {'d',λq5 cu ai _=>xxI ai.at_ rfl (sv ?_)});have av:=ax.same ai.same;have aT:=cp.trans ai.same;obtain ⟨dx,cP⟩:=av.ob;show bD _ _;erw [cP,rF];refine xxP av 'l' 'l' λx2 wx sx eC a5 cC=>xxU (z:=some M0) (o1:=none) cC (tb.same (aT.trans a5)) uY (.inl rfl) λl3 eo bL a4 bP=>{'d',λq6 ew O _=>xxI O.at_ rfl {'d',λq7 H22 G _=>jD (G.same _ _ (O.same _ _ bP)) G.at_ ?_}};have bx:zK cu H22:=(zK.of a5).trans (bL.trans (.of (O.same.trans G.same)));have d5:=a4.same (O.same.trans G.same);have d3:=av.Us bx;obtain ⟨dx,WK⟩:=d3.ob;show bD _ _;erw [WK,rF];refine xxP d3 'l' 'l' λx3 wy sy gu c3 el=>{x3,wy,sy,_,_,_,_,none,some M0,none,rfl,el,d5.same c3,uY,.inl rfl,λM hM h eU y fy b k d ts e3 fa ef df ct=>?_,λz=>nomatch z};cases hM;show aD _ _;erw [df,KM];refine {h,eU,x3,y,rfl,df,?_};obtain ⟨dy,ey⟩:=ct.ob;show aD _ _;erw [ey,i8];refine xxF ct λq' b' k' fF dp _ _ _ dV _=>?_;obtain ⟨dq,eq⟩:=dV.ob;show aD _ _;erw [eq,vm];have en:names M0.1.1=[]:=by
     show names (bG [] (zF (names ([]:Tab))))=[];rw [sD];rfl
    have fI:M0.1.1.length=0:=by
     have:=congrArg R8 en;unfold names at this;rwa [OA] at this
    refine xxN dV.r 'l' λet fv bp=>?_;have es:(zF (names M0.1.1)).map V.str=[]:=by rw [en,show zF ([]:List Str)=[] from (bR _).1.eq_nil];rfl
    rw [es] at bp;have b7:=(ct.same dp).same bp.same;obtain ⟨dK,c4⟩:=b7.ob;refine xxD c4 ib (xxM b7 (xxD c4 gO (xxK b7 ?_)));ac_rfl;refine {'d',λq8 f5 b1=>{'d',λq9 gd bq _=>{'d',λf7 H29 a8=>{_,a8.same _ _ (bq.same _ _ b1.at_),_,a8.at_,rfl,λj u v hu hv=>?_,?_}}}}
    .rcases j with _|_|_|j
     .cases hu;cases hv;exact .inr {et,q9,[],[],rfl,rfl,.inl {a8.same _ _ (bq.same _ _ (b1.same _ _ bp.at_)),a8.same _ _ bq.at_},rfl,nofun}
     .cases hu;cases hv;exact .inl {rfl,rfl}
     .cases hu;cases hv;exact .inl {rfl,rfl}
     .cases hu
    .have d4:zj e3 H29:=dp.trans (bp.same.trans (b1.same.trans (bq.same.trans a8.same)));have bt:zK cu H29:=bx.trans ((zK.of c3).trans (fa.trans (.of d4)));have ec:=ef.same d4;obtain ⟨dx,e4⟩:=(av.Us bt).ob;refine xxB {dx,e4} 'l' λl5 fw e0 eF=>{'d',λha H31 b4 _=>jD (b4.same _ _ eF) b4.at_ ?_};have da:zj H29 H31:=e0.trans b4.same;exact {{_,_,_,_,_,_,_,rfl},a9.trans ((zK.of aT).trans (bt.trans (.of da))),ec.same da}
 .rintro σ H' ⟨⟨t1,t2,t3,t4,t5,t6,t7,rfl⟩,_,_⟩;exact q H'
end
theorem all_mk{l:OpenLaw}{w:OS}{K:Frag}{h:Heap}{mg:Str->Option Value}{fa:Addr}{a0 a6 bq bp O a7 a4 bx bL ba J bP a9 bt S a8 bf aI XH ut v6 W XG ul b1 aT x07 b2 a3 x08:Addr}{pa e1 oL gi:Option Addr}{ra o2:Array (Option Value)}{hP kc e2 ec ro r6 pn eu qv rd:Value}{q4 j5 hM o5 hq hY hb fm n1 l0:Tok}(X:K.In h)(G:h.Ns OB mg)(d3:mg "law"=some (.ref fa))
  (ll:QE K OB "CleanError"=some (some (.ref a0)))
  (nu:QE K OB "NoRow"=some (some (.ref a6)))
  (kl:QE K OB "NoDisk"=some (some (.ref bq)))
  (hr:QE K OB "Full"=some (some (.ref bp)))
  (dp:QE K OB "Stopped"=some (some (.ref O)))
  (o1:QE K OB "NoFile"=some (some (.ref a7)))
  (da:QE K OB "NoPlace"=some (some (.ref a4)))
  (e6:QE K OB "HeldAlready"=some (some (.ref bx)))
  (hA:QE K OB "NotHeld"=some (some (.ref bL)))
  (hz:QE K OB "NoFiles"=some (some (.ref ba)))
  (nz:QE K OB "NoMark"=some (some (.ref J)))
  (ky:QE K OB "NoRoom"=some (some (.ref bP)))
  (mN:QE K OB "Gone"=some (some (.ref a9)))
  (k4:QE K OB "NotClosed"=some (some (.ref bt)))
  (qs:QE K OB "NotBlank"=some (some (.ref S)))
  (hk:QE K OB "NoDeed"=some (some (.ref a8)))
  (dq:QE K OB "NoHouse"=some (some (.ref bf)))
  (ri:QE K OB "NoPart"=some (some (.ref aI)))
  (cu:QE K OB "Words"=some (some (.ref XH)))
  (cp:QE K OB "Files"=some (some (.ref ut)))
  (b4:QE K OB "State"=some (some (.ref v6)))
  (cv:QE K OB "Disk"=some (some (.ref W)))
  (b8:QE K OB "House"=some (some (.ref XG)))
  (b3:QE K OB "RisenHouse"=some (some (.ref ul)))
  (n7:FnM K "is_whole" sq)
  (nc:FnM K VV se)
  (l2:FnM K VM lg)
  (js:FnM K VR qt)
  (c6:FnM K "is_name" mZ)
  (p3:zL K XH Wc "Words.__init__" rh)
  (gr:zL K XH VU "Words.take_word" jX)
  (ez:zL K XH V3 VF lJ)
  (en:zL K XH "take_name" "Words.take_name" jK)
  (mc:zL K XH VB "Words.is_at_end" qE)
  (pg:zL K XH "take_end" "Words.take_end" mz)
  (hC:zL K ut Wc "Files.__init__" nS)
  (hD:zL K ut "names" "Files.names" pN)
  (e7:zL K ut "many" "Files.many" oV)
  (sy:zL K ut V5 "Files.birth" qR)
  (nx:zL K ut "put" "Files.put" pR)
  (iv:zL K ut "held" "Files.held" rJ)
  (p8:zL K ut "of_held" "Files.of_held" om)
  (hB:zL K ut "living" "Files.living" iV)
  (q8:zL K ut VY "Files.copied" qr)
  (k6:zL K ut "bare" "Files.bare" mX)
  (n9:zL K ut "keep" "Files.keep" nH)
  (eX:zL K ut VP "Files.refuse_if_none" nN)
  (l4:zL K ut V1 "Files.refuse_if_not_held" qK)
  (fL:FnM K "files_text" rf)
  (p4:FnM K Vy mq)
  (d1:FnM K VH mM)
  (f3:FnM K VG lB)
  (oC:FnM K V4 mj)
  (eM:FnM K "sum_of" nh)
  (n5:FnM K "summed" qy)
  (qf:FnM K "body_of" rV)
  (hQ:zL K v6 Wc "State.__init__" kL)
  (kE:zL K v6 V8 "State.files" oO)
  (m2:zL K v6 VN "State.spots" lR)
  (q5:zL K v6 V9 "State.next_number" o3)
  (p0:zL K v6 Wb "State.mark_number" o6)
  (so:FnM K Vz k8)
  (eU:FnM K VA kj)
  (dt:FnM K "state_of" iL)
  (oc:FnM K VL jW)
  (e5:zL K W Wc "Disk.__init__" kD)
  (pw:zL K W VW "Disk.stretches" qD)
  (r9:zL K W "next_place" "Disk.next_place" pL)
  (kd:zL K W "side" "Disk.side" rH)
  (q6:zL K W VE "Disk.signs" pT)
  (l1:zL K W "write" "Disk.write" l9)
  (kn:zL K W "put_side" "Disk.put_side" lQ)
  (la:zL K W "empty" "Disk.empty" kr)
  (hy:zL K W "stop" "Disk.stop" m4)
  (f6:zL K W VY "Disk.copied" j4)
  (nT:zL K W V7 VZ ml)
  (c4:zL K W "spend" "Disk.spend" qB)
  (sa:zL K W VS "Disk.first_signs" kF)
  (ej:FnM K "rows_in" qF)
  (oa:QE K OB V6=some (some (.ref b1)))
  (hj:K.lookup b1=some {hP,pa,.func (fnOf V6 V6 (gD gH) (cS gH) (zo gH) .none kc e2 ec e1 (.ref aT) ro),ra})
  (f5:codeIn K (.ref aT) V6=true)
  (sI:tabIn K V6=some (aT,x07))
  (b6:Uo K aT x07=true)
  (p9:K.lookup x07=none)
  (b9:Ru K (.ref b1)=true)
  (d4:FnM K "mark_at" nE)
  (e9:QE K OB Wa=some (some (.ref b2)))
  (pl:K.lookup b2=some {r6,oL,.func (fnOf Wa Wa (gD eA) (cS eA) (zo eA) .none pn eu qv gi (.ref a3) rd),o2})
  (ly:codeIn K (.ref a3) Wa=true)
  (sU:tabIn K Wa=some (a3,x08))
  (cP:Uo K a3 x08=true)
  (p5:K.lookup x08=none)
  (cC:Ru K (.ref b2)=true)
  (r7:FnM K "rows_from" nr)
  (eF:FnM K VX iC)
  (h3:FnM K "risen" kJ)
  (qe:FnM K VT nO)
  (l3:zL K XG Wc "House.__init__" jY)
  (kb:zL K XG VD Vx ph)
  (sm:zL K XG V2 "House.mark" kO)
  (ei:zL K XG VQ "House.refuse_if_over" rL)
  (d0:zL K ul Wc VO lV)
  (hL:zL K ul VD Vx rK)
  (kp:zL K ul V0 "House.state" nA)
  (ov:FnM K VJ me)
  (lb:FnM K "_law_pot" rO)
  (fv:FnM K VC pW)
  (hN:FnM K VI jM)
  (ey:FnM K "_law_begun" sj)
  (mm:FnM K "_law_up" qC)
  (p6:FnM K "_law_used" rj)
  (rv:FnM K "law" rm)
  (e8:QE K OB "ValueError"=some none)
  (j0:QE K OB "abs"=some none)
  (df:QE K OB "all"=some none)
  (q2:QE K OB "bool"=some none)
  (hn:QE K OB "dict"=some none)
  (kv:QE K OB "divmod"=some none)
  (q3:QE K OB "enumerate"=some none)
  (ea:QE K OB "int"=some none)
  (r0:QE K OB "isinstance"=some none)
  (hF:QE K OB "len"=some none)
  (dg:QE K OB "list"=some none)
  (gI:QE K OB "max"=some none)
  (hE:QE K OB "min"=some none)
  (hH:QE K OB "ord"=some none)
  (n8:QE K OB "range"=some none)
  (qb:QE K OB "sorted"=some none)
  (q1:QE K OB "str"=some none)
  (sh:QE K OB "zip"=some none)
  (j2:QE K OB "FIGURES"=some (some (.str "0123456789" q4)))
  (nk:QE K OB "LETTERS"=some (some (.str "abcdefghijklmnopqrstuvwxyz" j5)))
  (n4:QE K OB "MOST_FIGURES"=some (some (.int 18 hM)))
  (ru:QE K OB "MOST_LETTERS"=some (some (.int 6 o5)))
  (pk:QE K OB "MODULUS"=some (some (.int 65521 hq)))
  (ob:QE K OB "FIRST_WORD"=some (some (.str V2 hY)))
  (ry:QE K OB "LEAST_STRETCHES"=some (some (.int 3 hb)))
  (eZ:QE K OB "MOST_STRETCHES"=some (some (.int 16 fm)))
  (gT:QE K OB "LEAST_PLACES"=some (some (.int 2 n1)))
  (l5:QE K OB "MOST_PLACES"=some (some (.int 32 l0)))
  (hK:excIn K a0 [.type "ValueError",.type "Exception",.type "BaseException",.type "object"] "ValueError.__new__"=true)
  (b7:excIn K J [.type "ValueError",.type "Exception",.type "BaseException",.type "object"] "ValueError.__new__"=true)
  (lj:excIn K aI [.type "ValueError",.type "Exception",.type "BaseException",.type "object"] "ValueError.__new__"=true)
  (cD:excIn K O [.type "ValueError",.type "Exception",.type "BaseException",.type "object"] "ValueError.__new__"=true)
  (ct:excIn K S [.type "ValueError",.type "Exception",.type "BaseException",.type "object"] "ValueError.__new__"=true)
  (nW:mroIn K J (.ref J)=some true)
  (g4:mroIn K aI (.ref aI)=some true)
  (ny:findIn K (.ref O) "__getattribute__"=some (some (.builtin "BaseException.__getattribute__")))
  (ko:findIn K (.ref O) "__getattr__"=some none)
  (gd:findIn K (.ref O) "__class__"=some (some (.builtin "object.__class__")))
  (fy:mroIn K O (.type "object")=some true)
  (ha:mroIn K O (.type "BaseException")=some true)
  (qk:mroIn K O (.ref a0)=some true)
  (pz:kitOne K (.ref O) (.type "ValueError")=some true)
  (rz:kitOne K (.ref O) (.ref a6)=some false)
  (hx:kitOne K (.ref O) (.ref bq)=some false)
  (g5:kitOne K (.ref O) (.ref bp)=some false)
  (hR:kitOne K (.ref O) (.ref O)=some true)
  (p1:kitOne K (.ref O) (.ref a7)=some false)
  (fF:kitOne K (.ref O) (.ref a4)=some false)
  (kz:kitOne K (.ref O) (.ref bx)=some false)
  (gC:kitOne K (.ref O) (.ref bL)=some false)
  (q7:kitOne K (.ref O) (.ref ba)=some false)
  (o4:kitOne K (.ref O) (.ref J)=some false)
  (hg:kitOne K (.ref O) (.ref bP)=some false)
  (dK:kitOne K (.ref O) (.ref a9)=some false)
  (f7:kitOne K (.ref O) (.ref bt)=some false)
  (rx:kitOne K (.ref O) (.ref S)=some false)
  (kk:kitOne K (.ref O) (.ref a8)=some false)
  (c2:kitOne K (.ref O) (.ref bf)=some false)
  (mu:kitOne K (.ref O) (.ref aI)=some false)
  (rl:findIn K (.ref S) "__getattribute__"=some (some (.builtin "BaseException.__getattribute__")))
  (et:findIn K (.ref S) "__getattr__"=some none)
  (fS:findIn K (.ref S) "__class__"=some (some (.builtin "object.__class__")))
  (hv:mroIn K S (.type "object")=some true)
  (kf:mroIn K S (.type "BaseException")=some true)
  (kx:mroIn K S (.ref a0)=some true)
  (hO:kitOne K (.ref S) (.type "ValueError")=some true)
  (sb:kitOne K (.ref S) (.ref a6)=some false)
  (h5:kitOne K (.ref S) (.ref bq)=some false)
  (rC:kitOne K (.ref S) (.ref bp)=some false)
  (hp:kitOne K (.ref S) (.ref O)=some false)
  (ih:kitOne K (.ref S) (.ref a7)=some false)
  (hS:kitOne K (.ref S) (.ref a4)=some false)
  (mC:kitOne K (.ref S) (.ref bx)=some false)
  (hI:kitOne K (.ref S) (.ref bL)=some false)
  (rb:kitOne K (.ref S) (.ref ba)=some false)
  (nI:kitOne K (.ref S) (.ref J)=some false)
  (qd:kitOne K (.ref S) (.ref bP)=some false)
  (l8:kitOne K (.ref S) (.ref a9)=some false)
  (ek:kitOne K (.ref S) (.ref bt)=some false)
  (hc:kitOne K (.ref S) (.ref S)=some true)
  (hs:kitOne K (.ref S) (.ref a8)=some false)
  (el:kitOne K (.ref S) (.ref bf)=some false)
  (e4:kitOne K (.ref S) (.ref aI)=some false)
  (mb:findIn K (.ref J) "__getattribute__"=some (some (.builtin "BaseException.__getattribute__")))
  (fw:findIn K (.ref J) "__getattr__"=some none)
  (kq:findIn K (.ref J) "__class__"=some (some (.builtin "object.__class__")))
  (eg:mroIn K J (.type "object")=some true)
  (n6:mroIn K J (.type "BaseException")=some true)
  (r3:mroIn K J (.ref a0)=some true)
  (dT:kitOne K (.ref J) (.type "ValueError")=some true)
  (rt:kitOne K (.ref J) (.ref a6)=some false)
  (ot:kitOne K (.ref J) (.ref bq)=some false)
  (c5:kitOne K (.ref J) (.ref bp)=some false)
  (h4:kitOne K (.ref J) (.ref O)=some false)
  (nq:kitOne K (.ref J) (.ref a7)=some false)
  (qn:kitOne K (.ref J) (.ref a4)=some false)
  (e3:kitOne K (.ref J) (.ref bx)=some false)
  (nY:kitOne K (.ref J) (.ref bL)=some false)
  (sx:kitOne K (.ref J) (.ref ba)=some false)
  (eH:kitOne K (.ref J) (.ref J)=some true)
  (oT:kitOne K (.ref J) (.ref bP)=some false)
  (r5:kitOne K (.ref J) (.ref a9)=some false)
  (rr:kitOne K (.ref J) (.ref bt)=some false)
  (l6:kitOne K (.ref J) (.ref S)=some false)
  (fx:kitOne K (.ref J) (.ref a8)=some false)
  (gu:kitOne K (.ref J) (.ref bf)=some false)
  (eb:kitOne K (.ref J) (.ref aI)=some false)
  (g0:R7 K XH RO=true)
  (r4:R1 K XH=true)
  (q0:Sk K XH=true)
  (ft:findIn K (.ref XH) "__setattr__"=some (some (.builtin "object.__setattr__")))
  (eT:SL K XH=true)
  (hl:Ru K (.ref XH)=true)
  (oj:findIn K (.ref XH) "taken"=some none)
  (j1:findIn K (.ref XH) "words"=some none)
  (lz:R7 K ut RO=true)
  (od:R1 K ut=true)
  (dV:Sk K ut=true)
  (lx:findIn K (.ref ut) "__setattr__"=some (some (.builtin "object.__setattr__")))
  (nD:SL K ut=true)
  (sA:Ru K (.ref ut)=true)
  (ff:findIn K (.ref ut) "births"=some none)
  (d2:findIn K (.ref ut) "kept"=some none)
  (eN:R7 K v6 RO=true)
  (oD:R1 K v6=true)
  (og:Sk K v6=true)
  (ed:findIn K (.ref v6) "__setattr__"=some (some (.builtin "object.__setattr__")))
  (ka:SL K v6=true)
  (p7:Ru K (.ref v6)=true)
  (n2:findIn K (.ref v6) "next_mark"=some none)
  (n3:findIn K (.ref v6) "next_row"=some none)
  (n0:findIn K (.ref v6) "own_files"=some none)
  (nd:findIn K (.ref v6) "spot_of"=some none)
  (dy:R7 K W RO=true)
  (m5:R1 K W=true)
  (j3:Sk K W=true)
  (eC:findIn K (.ref W) "__setattr__"=some (some (.builtin "object.__setattr__")))
  (fI:SL K W=true)
  (ef:Ru K (.ref W)=true)
  (nP:findIn K (.ref W) "at_sides"=some none)
  (er:findIn K (.ref W) "counted"=some none)
  (sd:findIn K (.ref W) "has_stopped"=some none)
  (c3:findIn K (.ref W) "left"=some none)
  (eo:findIn K (.ref W) "width"=some none)
  (d5:findIn K (.ref W) "written"=some none)
  (hh:R7 K XG RO=true)
  (c0:R1 K XG=true)
  (px:Sk K XG=true)
  (hW:findIn K (.ref XG) "__setattr__"=some (some (.builtin "object.__setattr__")))
  (c7:SL K XG=true)
  (ew:Ru K (.ref XG)=true)
  (dc:findIn K (.ref XG) "cold_rows"=some none)
  (d7:findIn K (.ref XG) "is_over"=some none)
  (m9:findIn K (.ref XG) "now"=some none)
  (r1:findIn K (.ref XG) "own_disk"=some none)
  (pD:R7 K ul RO=true)
  (q9:R1 K ul=true)
  (qa:Sk K ul=true)
  (r2:findIn K (.ref ul) "__setattr__"=some (some (.builtin "object.__setattr__")))
  (lp:SL K ul=true)
  (hu:Ru K (.ref ul)=true)
  (m1:findIn K (.ref ul) "own_disk"=some none)
  (ho:findIn K (.ref ul) "now"=some none)
  (e0:findIn K (.ref ul) "cold_rows"=some none)
  (eD:findIn K (.ref ul) "is_over"=some none) :
  ∃fd:OG,(∀(s:KE)(v:Value),BindsTo s fd {[v],[]} [("_law_script",v)])/\(∀T,T∈[x07,x08]->K.lookup T=none/\∃c,Uo K c T=true)/\∀base:Heap,K.In base->base.Ns OB mg->gn mg base->zq l.prog w K mg base CX0 true 17 fa fd We (jT x07 x08 K):=by
 obtain ⟨sF,a5,b5,b0⟩:=rv;have e:=d3.symm.trans (Qr X G b5);cases e;have ht:∀(s:KE)(v:Value),BindsTo s a5 {[v],[]} [("_law_script",v)]:=by obtain ⟨_,_,_,_,_,_,_,_,_,rfl,_⟩:=b0.ex;exact λs v=>.of_eq rfl
 have T:Txt K mg ⟨a0,a6,bq,bp,O,a7,a4,bx,bL,ba,J,bP,a9,bt,S,a8,bf,aI,XH,ut,v6,W,XG,ul,x07,x08⟩:={Qd X G e8,Qd X G j0,Qd X G df,Qd X G q2,Qd X G hn,Qd X G kv,Qd X G q3,Qd X G ea,Qd X G r0,Qd X G hF,Qd X G dg,Qd X G gI,Qd X G hE,Qd X G hH,Qd X G n8,Qd X G qb,Qd X G q1,Qd X G sh,{_,Qr X G j2,{_,rfl}},{_,Qr X G nk,{_,rfl}},{_,Qr X G n4,{_,rfl}},{_,Qr X G ru,{_,rfl}},{_,Qr X G pk,{_,rfl}},{_,Qr X G ob,{_,rfl}},{_,Qr X G ry,{_,rfl}},{_,Qr X G eZ,{_,rfl}},{_,Qr X G gT,{_,rfl}},{_,Qr X G l5,{_,rfl}},Qr X G ll,Qr X G nu,Qr X G kl,Qr X G hr,Qr X G dp,Qr X G o1,Qr X G da,Qr X G e6,Qr X G hA,Qr X G hz,Qr X G nz,Qr X G ky,Qr X G mN,Qr X G k4,Qr X G qs,Qr X G hk,Qr X G dq,Qr X G ri,Qr X G cu,Qr X G cp,Qr X G b4,Qr X G cv,Qr X G b8,Qr X G b3,hK,b7,lj,cD,ct,nW,g4,⟨cD,ny,ko,gd,fy,ha⟩,qk,pz,rz,hx,g5,hR,p1,fF,kz,gC,q7,o4,hg,dK,f7,rx,kk,c2,mu,⟨ct,rl,et,fS,hv,kf⟩,kx,hO,sb,h5,rC,hp,ih,hS,mC,hI,rb,nI,qd,l8,ek,hc,hs,el,e4,⟨b7,mb,fw,kq,eg,n6⟩,r3,dT,rt,ot,c5,h4,nq,qn,e3,nY,sx,eH,oT,r5,rr,l6,fx,gu,eb,⟨g0,r4,q0,ft⟩,oj,j1,⟨lz,od,dV,lx⟩,ff,d2,⟨eN,oD,og,ed⟩,n2,n3,n0,nd,⟨dy,m5,j3,eC⟩,nP,er,sd,c3,eo,d5,⟨hh,c0,px,hW⟩,dc,d7,m9,r1,⟨pD,q9,qa,r2⟩,m1,ho,e0,eD};have U:=Bg (st:=gH) hj f5 b9;have ax:=U.binds (ps:=Xg) fun|_,_,_,_,_,_,[_],_=>rfl;have z:=Bg (st:=eA) pl ly cC;have av:=z.binds (ps:=Xg) fun|_,_,_,_,_,_,[_],_=>rfl;refine {a5,ht,λT hT=>?_,λbase KB _ Xt=>?_}
 .simp only [OL,Pa,or_false] at hT;rcases hT with rfl|rfl
  .exact {p9,_,b6}
  .exact {p5,_,cP}
 have ai:eQ mg base (.ref aT) x07:={{aT,rfl,codeHd_of_K KB b6},Xt};have Z:eQ mg base (.ref a3) x08:={{a3,rfl,codeHd_of_K KB cP},Xt};have YA:=gf (w:=w) l.prog base true X G n7 (λ_ _ F=>LI F T) λ_ _ _ _ _ _=>u1 λ_=>rfl;have ZQ:=gf (w:=w) l.prog base true X G nc (λ_ _ F=>Dz F T YA) λ_ _ _ _ _ _=>u3 λ_ _ _=>rfl;have ZC:=gf (w:=w) l.prog base true X G l2 (λ_ _ F=>Jq F T) λ_ _ _ _ _ _=>u3 λ_ _ _=>rfl;have Yr:=gf (w:=w) l.prog base true X G c6 (λ_ _ F=>Nr F T ZC) λ_ _ _ _ _ _=>u1 λ_=>rfl;have Zn:=gf (w:=w) l.prog base true X G js (λ_ _ F=>Ec F T ZC) λ_ _ _ _ _ _=>u1 λ_=>rfl;have X8:=gf (w:=w) l.prog base true X G eM (λ_ _ F=>Dq F T) λ_ _ _ _ _ _=>u1 λ_=>rfl;have Y0:=gf (w:=w) l.prog base true X G n5 (λ_ _ F=>DQ F T X8) λ_ _ _ _ _ _=>u1 λ_=>rfl;have Yq:=gf (w:=w) l.prog base true X G qf (λ_ _ F=>JR F T Y0) λ_ _ _ _ _ _=>u1 λ_=>rfl;have Yy:=gf (w:=w) l.prog base true X G lb (λ_ _ F=>Ku F T) λ_ _ _ _ _ _=>u2 λ_ _=>rfl;have Z0:=gf (w:=w) l.prog base true X G fv (λ_ _ F=>K1 F T) λ_ _ _ _ _ _=>u2 λ_ _=>rfl;have Ze:=gc (w:=w) l.prog base true X G cp nD sA hC (λ_ _ F=>IK F T) λ_ _ _ _ _ _=>u1 λ_=>rfl;have ZG:=gm (w:=w) l.prog base true hD (λ_ _ F=>FD F T) λ_ _ _ _ _ _=>u1 λ_=>rfl;have ZS:=gm (w:=w) l.prog base true e7 (λ_ _ F=>K8 F T) λ_ _ _ _ _ _=>u2 λ_ _=>rfl;have ZI:=gm (w:=w) l.prog base true eX (λ_ _ F=>Jc F T) λ_ _ _ _ _ _=>u2 λ_ _=>rfl;have ZP:=gm (w:=w) l.prog base true l4 (λ_ _ F=>Jl F T) λ_ _ _ _ _ _=>u2 λ_ _=>rfl;have Y3:=gm (w:=w) l.prog base true sy (λ_ _ F=>KJ F T ZI ZS ZQ) λ_ _ _ _ _ _=>u3 λ_ _ _=>rfl;have YJ:=gm (w:=w) l.prog base true nx (λ_ _ F=>CD F T ZS ZQ) λ_ _ _ _ _ _=>u4 λ_ _ _ _=>rfl;have YX:=gm (w:=w) l.prog base true iv (λ_ _ F=>M9 F T) λ_ _ _ _ _ _=>u1 λ_=>rfl;have ZR:=gm (w:=w) l.prog base true k6 (λ_ _ F=>Na F T Ze) λ_ _ _ _ _ _=>u1 λ_=>rfl;have YW:=gm (w:=w) l.prog base true n9 (λ_ _ F=>Hr F T ZR) λ_ _ _ _ _ _=>u3 λ_ _ _=>rfl;have Zg:=gm (w:=w) l.prog base true p8 (λ_ _ F=>FM F T ZP ZR) λ_ _ _ _ _ _=>u2 λ_ _=>rfl;have ZK:=gm (w:=w) l.prog base true hB (λ_ _ F=>NA F T) λ_ _ _ _ _ _=>u1 λ_=>rfl;have ZL:=gm (w:=w) l.prog base true q8 (λ_ _ F=>CW F T ZR) λ_ _ _ _ _ _=>u1 λ_=>rfl;have Zc:=gc (w:=w) l.prog base true X G b4 ka p7 hQ (λ_ _ F=>JH F T ZL) λ_ _ _ _ _ _=>u5 λ_ _ _ _ _=>rfl;have ZW:=gm (w:=w) l.prog base true kE (λ_ _ F=>Cn F T ZL) λ_ _ _ _ _ _=>u1 λ_=>rfl;have Z6:=gm (w:=w) l.prog base true q5 (λ_ _ F=>Ni F T) λ_ _ _ _ _ _=>u1 λ_=>rfl;have Z7:=gm (w:=w) l.prog base true p0 (λ_ _ F=>JY F T) λ_ _ _ _ _ _=>u1 λ_=>rfl;have ZF:=gm (w:=w) l.prog base true m2 (λ_ _ F=>Lm F T) λ_ _ _ _ _ _=>u1 λ_=>rfl;have Zk:=gf (w:=w) l.prog base true X G p4 (λ_ _ F=>Ct F T ZG ZS Y3) λ_ _ _ _ _ _=>u1 λ_=>rfl;have YV:=gf (w:=w) l.prog base true X G fL (λ_ _ F=>NQ F T Zk YX Zg) λ_ _ _ _ _ _=>u1 λ_=>rfl;have ZU:=gm (w:=w) l.prog base true mc (λ_ _ F=>MI F T) λ_ _ _ _ _ _=>u1 λ_=>rfl;have Z4:=gmx (w:=w) l.prog base true gr (λ_ _ F=>Mu F T ZU) λ_ _ _ _ _ _=>u1 λ_=>rfl;have Z8:=gmx (w:=w) l.prog base true ez (λ_ _ F=>FW F T Z4 Zn) λ_ _ _ _ _ _=>u1 λ_=>rfl;have Zq:=gmx (w:=w) l.prog base true en (λ_ _ F=>Nq F T Z4 Yr) λ_ _ _ _ _ _=>u1 λ_=>rfl;have Zm:=gmx (w:=w) l.prog base true pg (λ_ _ F=>EH F T ZU) λ_ _ _ _ _ _=>u1 λ_=>rfl;have ZT:=gx (w:=w) l.prog base true X G oC (λ_ _ F=>Jm F T Zq) λ_ _ _ _ _ _=>u2 λ_ _=>rfl;have XT:=gc (w:=w) l.prog base true X G cu eT hl p3 (λ_ _ F=>Ma F T) λ_ _ _ _ _ _=>u2 λ_ _=>rfl;have Zd:=gx (w:=w) l.prog base true X G f3 (λ_ _ F=>HL F T Ze Z8 ZT YJ) λ_ _ _ _ _ _=>u1 λ_=>rfl;have YU:=gx (w:=w) l.prog base true X G d1 (λ_ _ F=>Nk F T Zd Z8 ZT YW) λ_ _ _ _ _ _=>u1 λ_=>rfl;have Zs:=gf (w:=w) l.prog base true X G so (λ_ _ F=>Cv F T ZF Z7 Z6 ZW YV Y0) λ_ _ _ _ _ _=>u1 λ_=>rfl;have YT:=gx (w:=w) l.prog base true X G oc (λ_ _ F=>Mq F T Z8) λ_ _ _ _ _ _=>u1 λ_=>rfl;have Yz:=gx (w:=w) l.prog base true X G dt (λ_ _ F=>Eu F T Z4 Z8 YU YT Zm ZK Zc) λ_ _ _ _ _ _=>u1 λ_=>rfl;have YH:=gx (w:=w) l.prog base true X G eU (λ_ _ F=>IZ F T Yq XT Yz) λ_ _ _ _ _ _=>u1 λ_=>rfl;have Yn:=gc (w:=w) l.prog base true X G cv fI ef e5 (λ_ _ F=>M6 F T ZQ) λ_ _ _ _ _ _=>u3 λ_ _ _=>rfl;have Z5:=gm (w:=w) l.prog base true pw (λ_ _ F=>EU F T) λ_ _ _ _ _ _=>u1 λ_=>rfl;have Zz:=gm (w:=w) l.prog base true q6 (λ_ _ F=>EL F T) λ_ _ _ _ _ _=>u1 λ_=>rfl;have Zp:=gm (w:=w) l.prog base true r9 (λ_ _ F=>Ir F T) λ_ _ _ _ _ _=>u2 λ_ _=>rfl;have YI:=gm (w:=w) l.prog base true kd (λ_ _ F=>Ej F T) λ_ _ _ _ _ _=>u2 λ_ _=>rfl;have Z9:=gmx (w:=w) l.prog base true nT (λ_ _ F=>NB F T) λ_ _ _ _ _ _=>u1 λ_=>rfl;have ZA:=gm (w:=w) l.prog base true c4 (λ_ _ F=>Oo F T) λ_ _ _ _ _ _=>u2 λ_ _=>rfl;have ZX:=gmx (w:=w) l.prog base true sa (λ_ _ F=>E9 F T ZA Z9) λ_ _ _ _ _ _=>u2 λ_ _=>rfl;have ZN:=gmx (w:=w) l.prog base true kn (λ_ _ F=>CY F T ZX Z9) λ_ _ _ _ _ _=>u3 λ_ _ _=>rfl;have Yp:=gf (w:=w) l.prog base true X G ej (λ_ _ F=>Dr F T Zp) λ_ _ _ _ _ _=>u2 λ_ _=>rfl;have YS:GF l.prog w K mg base true 3 V6 Xg (qO _):={_,_,Mb U rfl ai T Z5 Yp,Qr X G oa,b9,ax};have Yo:=gf (w:=w) l.prog base true X G d4 (λ_ _ F=>Kf F T YI YH) λ_ _ _ _ _ _=>u2 λ_ _=>rfl;have YG:=gf (w:=w) l.prog base true X G r7 (λ_ _ F=>Oj F T) λ_ _ _ _ _ _=>u2 λ_ _=>rfl;have Y8:GX l.prog w K mg base true 11 Wa Xg (qg _):={_,_,Ll z rfl Z T Yo Z7,Qr X G e9,cC,av};have ZJ:=gf (w:=w) l.prog base true X G eF (λ_ _ F=>Ng F T ZW ZF Z6 ZK Zc) λ_ _ _ _ _ _=>u3 λ_ _ _=>rfl;have XS:=gx (w:=w) l.prog base true X G h3 (λ_ _ F=>N4 F T Y8 YS Z6 Z7 YG ZJ) λ_ _ _ _ _ _=>u1 λ_=>rfl;have ZE:=gf (w:=w) l.prog base true X G qe (λ_ _ F=>Lf F T Ze Zc) fun|_,_,_,_,_,_,[],_=>rfl;have YE:=gm (w:=w) l.prog base true hy (λ_ _ F=>IH F T) λ_ _ _ _ _ _=>u2 λ_ _=>rfl;have YO:=gmx (w:=w) l.prog base true l1 (λ_ _ F=>Od F T ZX Z9) λ_ _ _ _ _ _=>u3 λ_ _ _=>rfl;have YN:=gmx (w:=w) l.prog base true la (λ_ _ F=>EY F T ZA Z9) λ_ _ _ _ _ _=>u2 λ_ _=>rfl;have Zj:=gm (w:=w) l.prog base true f6 (λ_ _ F=>G6 F T Z5 Yn) λ_ _ _ _ _ _=>u1 λ_=>rfl;have Y2:=gm (w:=w) l.prog base true kb (λ_ _ F=>Ld F T) λ_ _ _ _ _ _=>u3 λ_ _ _=>rfl;have ZH:=gm (w:=w) l.prog base true ei (λ_ _ F=>NP F T) λ_ _ _ _ _ _=>u1 λ_=>rfl;have YR:=gmx (w:=w) l.prog base true sm (λ_ _ F=>Jp F T ZH Z7 Zs ZN ZJ) λ_ _ _ _ _ _=>u1 λ_=>rfl;have XR:=gcx (w:=w) l.prog base true X G b8 c7 ew l3 (λ_ _ F=>Cc F T Zz Y2 ZE YR) λ_ _ _ _ _ _=>u2 λ_ _=>rfl;have Zv:=gm (w:=w) l.prog base true hL (λ_ _ F=>Er F T) λ_ _ _ _ _ _=>u3 λ_ _ _=>rfl;have Zu:=gm (w:=w) l.prog base true kp (λ_ _ F=>CP F T) λ_ _ _ _ _ _=>u1 λ_=>rfl;have YQ:=gcx (w:=w) l.prog base true X G b3 lp hu d0 (λ_ _ F=>MC F T Zv XS) λ_ _ _ _ _ _=>u2 λ_ _=>rfl;have Zl:=gx (w:=w) l.prog base true X G ov (λ_ _ F=>BI F T YQ) λ_ _ _ _ _ _=>u1 λ_=>rfl;have Zy:=gf (w:=w) l.prog base false X G hN (λ_ _ F=>FA F T) λ_ _ _ _ _ _=>u1 λ_=>rfl;have Zx:=gf (w:=w) l.prog base true X G ey (λ_ _ F=>M4 F T XR Zy) λ_ _ _ _ _ _=>u1 λ_=>rfl;have Ym:=gf (w:=w) l.prog base true X G mm (λ_ _ F=>Cj F T Zl Zy) λ_ _ _ _ _ _=>u1 λ_=>rfl;have YF:=gf (w:=w) l.prog base true X G p6 (λ_ _ F=>Ek F T Z0 ZN Z5 YO YN) λ_ _ _ _ _ _=>u2 λ_ _=>rfl;exact Dj b0 T ZE Zs Yy Z0 Yn YF Zx YE Zz Zj Ym Zl Zu ZW ZG Z6 Z7
theorem walk{l:OpenLaw}{W:OS->Heap->Prop}{d:DefRec}{K:Params->Frag}(x07 x08:Addr){ts:List Addr}(Z:l.most=some 63)(S:d.params.defaults=[])(hY:∀(w:OS)(h:Heap),W w h->(K w.params).In h/\∀T∈ts,h.get? T=some (tabObj #[]))(U:∀T,T∈ts->T∈[x07,x08])(G:∀T,T∈[x07,x08]->T∈ts)(hnd:([x07,x08]:List Addr).Nodup)(F:∀(w:OS)(mg:Str->Option Value)(J:Addr)(h:Heap),(K w.params).In h->h.Ns OB mg->mg d.name=some (.ref J) ->
   ∃fd:OG,(∀(s:KE)(u:Value),BindsTo s fd {[u],[]} [("_law_script",u)])/\(∀T,T∈[x07,x08]->(K w.params).lookup T=none/\∃c,Uo (K w.params) c T=true)/\∀base:Heap,(K w.params).In base->base.Ns OB mg->gn mg base->zq l.prog w (K w.params) mg base CX0 true 17 J fd We (jT x07 x08 (K w.params))):
  WalkO q XZ XP W l.row.toRowW d [] (λf vs=>PySem.call f vs) :=
 L2.walk_ofT (n:=63) (k:=17) (x:="_law_script") (CX:=λ_=>CX0) (sp:=λw=>jT x07 x08 (K w.params)) (ts:=ts) Z 'd' S {λ_=>rfl,'d','d',rfl} hY (λw mg J h a b c=>let ⟨fd,g1,g2,g3⟩:=F w mg J h a b c;{fd,g1,λT O=>g2 T (U T O),g3}) (λ_ H a ns hl O hS=>{a,ns,rfl,hS,hl,O _ (G _ 'z'),O _ (G _ 'z'),(by intro z;rw [z] at hnd;exact absurd hnd 'z'),λ_=>rfl}) λ_ _ _ _ _ z=>z
end K76
def PySem.W.Fast.cM:Nat:=0
def PySem.W.Fast.c1:Nat:=0
def PySem.W.Fast.cb:Nat:=0
def PySem.W.Fast.cN:Nat:=0
def PySem.W.Fast.c0:Nat:=0
def PySem.W.Fast.c9:Nat:=0
def PySem.W.Fast.bV:Nat:=0
def PySem.W.Fast.c8:Nat:=0
def PySem.W.Fast.bP:Nat:=0
def PySem.W.Fast.bS:Nat:=0
def PySem.W.Fast.cA:Nat:=0
def PySem.W.Fast.b0:Nat:=0
def PySem.W.Fast.cB:Nat:=0
def PySem.W.Fast.b7:Nat:=0
def PySem.W.Fast.cz:Nat:=0
def PySem.W.Fast.bX:Nat:=0
def PySem.W.Fast.bL:Nat:=0
def PySem.W.Fast.cK:Nat:=0
def PySem.W.Fast.cT:Nat:=0
def PySem.W.Fast.dc:Nat:=0
def PySem.W.Fast.ck:Nat:=0
def PySem.W.Fast.b4:Nat:=0
def PySem.W.Fast.b3:Nat:=0
def PySem.W.Fast.cI:Nat:=0
def PySem.W.Fast.cL:Nat:=0
def PySem.W.Fast.c5:Nat:=0
def PySem.W.Fast.cC:Nat:=0
def PySem.W.Fast.cn:Nat:=0
def PySem.W.Fast.da:Nat:=0
def PySem.W.Fast.cc:Nat:=0
def PySem.W.Fast.cj:Nat:=0
def PySem.W.Fast.bM:Nat:=0
def PySem.W.Fast.cD:Nat:=0
def PySem.W.Fast.cH:Nat:=0
def PySem.W.Fast.cW:Nat:=0
def PySem.W.Fast.cy:Nat:=0
def PySem.W.Fast.bR:Nat:=0
def PySem.W.Fast.cF:Nat:=0
def PySem.W.Fast.b9:Nat:=0
def PySem.W.Fast.cX:Nat:=0
def PySem.W.Fast.cY:Nat:=0
def PySem.W.Fast.c4:Nat:=0
def PySem.W.Fast.bN:Nat:=0
def PySem.W.Fast.bK:Nat:=0
def PySem.W.Fast.c3:Nat:=0
def PySem.W.Fast.b8:Nat:=0
def PySem.W.Fast.cP:Nat:=0
def PySem.W.Fast.cG:Nat:=0
def PySem.W.Fast.b2:Nat:=0
def PySem.W.Fast.cE:Nat:=0
def PySem.W.Fast.c2:Nat:=0
def PySem.W.Fast.cg:Nat:=0
def PySem.W.Fast.b1:Nat:=0
def PySem.W.Fast.cO:Nat:=0
def PySem.W.Fast.bY:Nat:=0
def PySem.W.Fast.b5:Nat:=0
def PySem.W.Fast.b6:Nat:=0
def PySem.W.Fast.c7:Nat:=0
def PySem.W.Fast.c6:Nat:=0
def PySem.W.Fast.bU:Nat:=0
def PySem.W.Fast.cJ:Nat:=0
structure PySem.W.Fast:Prop where(tw4902002659334427272 tw2775781672772614317 tw11675821273650164803 tw4481363659445077907 tw3129905718094484946 tw472593973665624701 tw14953270017714116111 tw753586641473207951 tw16332982934799983628 tw15930859108593778777 tw9514208670282424654 tw13965895211844330431 tw9496227342253884876 tw12389596425573646935 tw9796804608708583944 tw14475948721615187525 tw18012171240759870777 tw4999429660978613434 tw4256975405696089150 tw280887090058060949 tw10881426348322986814 tw13257571900127431919 tw13282783908141607265 tw5365628836588382169 tw4980793347312209113 tw1825673210980396847 tw9157404546334944515 tw10475272670227565487 tw434676943797115499 tw11479709638003227802 tw10964023360411964342 tw17770127839307076351 tw8385828229640393618 tw5792260012455600106 tw3821234136458586791 tw9907580118439552009 tw16291361064015655094 tw6852733381492807644 tw11852570079543295950 tw3419031387629995647 tw3284892373241134921 tw2321820233131997787 tw17323580816600464464 tw18054276516040186036 tw2683683546511801316 tw12164275819682647152 tw4386241163794249483 tw6095951308303416224 tw13584035431334304745 tw8010488421295996474 tw2708333672600854127 tw11349460525846656022 tw13773207416248079093 tw4408060941067391834 tw14459759935016100519 tw12936173789606145681 tw12609755722241400674 tw873244000250505731 tw1356409651421221209 tw15047711337053148278 tw5289927223407791564 tw9088756321615143888 tw10385871935792296266 tw14570068661917433898 tw1160882047448852515 tw2232881628216909417 tw13862882461973601544 tw3915914717825684460 tw11382646013277462727 tw7041831164750915378 tw5279143880456613311 tw3439364807390906539 tw14015657971303925560 tw3516675033790049464 tw7615061113339457949 tw3243025945791177919 tw4451600948454786466 tw15061888477967737656 tw9677025942801002132 tw1628689689933919598 tw14239774256893669429 tw17785769767241956138 tw5378009669847710190 tw14572691156579449555 tw14537418635751203728 tw5184533968320918790 tw12134042062604380726 tw16850449770969315068 tw6352923624630480135 tw2017880645139512517 tw5439831417821898348 tw4029873730723196735 tw15373559982170338950 tw2616344289258319896 tw14192445373486508291 tw4987323040203022294 tw7655255430965264036 tw16466452975933325250 tw16089272846518174484 tw4446025384609646434 tw16416666200153820673 tw1830703402100982149 tw10248985440564204952 tw15018198254468565540 tw16280119826976680666 tw10319876307061714442 tw8519787345959453205 tw5782279432239036220 tw7599992657638610542 tw117395774977638583 tw10907042776095258594 tw7476047820741197117 tw14501378097664778655 tw701209457987027040 tw13127351735417669451 tw7185300700569890355 tw17639852051264487480 tw489787125404281586 tw11982708160165724648 tw8701141338016804130 tw6791144897531462837 tw11212436011115899872 tw10217017909675523910 tw11128122751052961735 tw903430749172850099 tw793331405882070768 tw10948479182601865045 tw12006200698465703998 tw4105665787069349186 tw7356861385601853947 tw6461456378712477968 tw6051834355147036048 tw11792656361247213560 tw2089904699380612984 tw15299590503560887992 tw5201355237439447736 tw5011017457147788508 tw7899418709320550799 tw13570467486743447040 tw13633854596886159306 tw8252069620392201872 tw8530494281881451142 tw18094773528906164305 tw14742965894573896676 tw14193431086578479861 tw15827106179928793019 tw13069594534240173764 tw6307184306780686965 tw6263855410993163926 tw13391790953158516635 tw8348462778724528137 tw15329754579753804112 tw15407450028032261222 tw10164775419608510662 tw1042923768419806277 tw12305192052611813605 tw15392335713678502469 tw7926918563026484630 tw12478037222732730242 tw1404722168666582311 tw17984708857842226518 tw11121266870034374929 tw11169153297195657487 tw14585852316874447830 tw3619620716701513575 tw13167264432670907289 tw6232789352668258601 tw5975107010565819684 tw2789414584466656994 tw10062692539054229396 tw9681909479193709937 tw12651912767679256989 tw632305195127322717 tw10968311551523094876 tw16046566719746743789 tw9934847059486194240 tw10905756315112974736 tw7040880099433801439 tw4435134190505602908 tw17213903648792593894 tw12883165558923693110 tw13467539288786933907 tw9053578793689685050 tw6364282390757810173 tw7481600573458493726 tw18340464727385453808 tw4428525304739304904 tw12040650873356094081 tw12445955865131210203 tw10087333060379646918 tw338247448043208827 tw107490285675079810 tw8948191570426544231 tw15816133653847440038 tw8422047273492396352 tw7314624187635717994 tw11080402984996382064 tw295434190819186275 tw10765547737045122810 tw4651440994255375088 tw7576241897657335461 tw5766271432642216740 tw5377280387477589851 tw9291321032290530712 tw17739253774925244242 tw5631998455741424196 tw16047509120275678525 tw6900689066886189942 tw7178867220876758478 tw3006450762529265079 tw1963443353840472316 tw16700233969741796936 tw2520032804741230348 tw6896062138922774417 tw17927692264878243175 tw14065076832296472822 tw7696845048860190433 tw369513341265209145 tw1007482616651453469 tw2432390506711072574 tw10728711814530280288 tw6696323618707139960 tw11416190760097777753 tw8645158828397318456 tw7353230910145998777 tw5752319400938667497 tw10882360506014762272 tw12740259042221266432 tw17662083895506126424 tw9114310072478186051 tw8867878428117445585 tw12661131872877054710 tw10499269835572639686 tw9161126106905214965 tw6669817333526594207 tw11432447555665873699 tw4992811313585242732 tw12395682909023489937 tw3631022501187422184 tw18235588266441202603 tw5211767886964478994 tw3261112060263336543 tw7343785359911367326 tw5213827732146764716 tw394349211826598719 tw7604277493559369854 tw6330586448491566354 tw306389626087767403 tw2145889892543002946 tw13377125959467219763 tw11713404067419419037 tw10372602601234155072 tw6614370570199483607 tw509686399506608694 tw14401790650937238587 tw10324700649226802557 tw14878031136527687781 tw12803898162360538114 tw8769941810794850293 tw2915444445189303065 tw18216949768581485979 tw9995091097442787250 tw15698002082627652608 tw10683267831073885506 tw15874710999885201682 tw5659634028182967136 tw11660510835558425475 tw8370593078347659491 tw10196074483789732544 tw12304084802119725898 tw15688055073066879348 tw5463635130903233138 tw2368489790608343775 tw12571633807505923703 tw1413250615508340735 tw5373247275905074001 tw5051375369386366204 tw10631363294995412121 tw8677141263402254685 tw3148354262456802823 tw14348927008918853983 tw6845954852511394913 tw6515754969346877216 tw14578155055518821523 tw16638897977613297553 tw6492997665290519954 tw11962169244193849199 tw12950214690152600910 tw16045634430471869695 tw7896917780418907896 tw14821226860832226978 tw9673426301201844306 tw1267334981288164802 tw12095728055946043900 tw1183039490604455165 tw10202795468011966001 tw16820897129434275252 tw16380563086438339099 tw12695513156989500414 tw10020264094766150695 tw11284395231524456337 tw12636238348539631379 tw5479166318933729098 tw15865936607361286627 tw3148927940164727628 tw14094954836772190846 tw10579111723762984561 tw767807205396776408 tw6495803937304566591 tw5371036118648828406 tw13186098748055676903 tw13281617133129529821 tw7500301223314845911 tw3818390126298443500 tw4512713742628885420 tw9960852806722584090 tw347735801189699361 tw2677596258634161529 tw8789312975015750203 tw7806582085255364642 tw2091913962528660773 tw6508005294124958149 tw3998124560337540707 tw18300014851690447687 tw13794755050136447466 tw3360491147366473217 tw12805765793071646411 tw653083711111482419 tw2350613838081586919 tw8955104685996982493 tw7355338431674148412 tw9428655134024387929 tw9026869815896841841 tw5496944504677054170 tw4273649710877329233 tw2165151203580624826 tw1425036775769405264 tw11474118628973767867 tw2124245220259361551 tw13788888664212862867 tw18182194311670054235 tw11366214939673992020 tw10932393480869503920 tw5763577716961471116 tw15189352251424085316 tw13498064956921432407 tw17085132317830070311 tw11043355983252843038 tw219692869416278321 tw1169978956889663799 tw2049645919790251707 tw936503102128377465 tw14470541439072022031 tw5922614922095859492 tw13748667213599085431 tw8644224363167254472 tw6826312901976925433 tw10811259530844986763 tw2814568471538295575 tw5567314186591144119 tw2222994374756361370 tw17713587095821124139 tw18268115871722785522 tw12267110824079199953 tw17112063381699296768 tw16038465911986032367 tw13626588541718215372 tw12495246054341004793 tw6907599544259504193 tw14962939350748779303 tw14500582888286724655 tw12064806545264331799 tw17278414774316871090 tw7115433411137741938 tw10769506378072886590 tw8842867379597623231 tw7835492535224721044 tw17753749730710685703 tw16792845901012926829 tw2983903131629864535 tw4966296403544574101 tw4179178092205715249 tw3712490298826643963 tw12258839629955156551 tw2193501811553887755 tw16278359358729060942 tw15870556837591480952 tw8092591798826448703 tw6768626673885807558 tw7280862770312240801 tw2790679099837636847 tw5504220616711084706 tw17098469072008756718 tw7004211035736118100 tw11574299033815116923 tw5637168236788458989 tw15152000934313742824 tw15178542013318735585 tw2765524998213647480 tw11056189881920973500 tw15580338379163000295 tw4035544672576417272 tw8167894900911788873 tw4230502948670328105 tw14077956956847412825 tw7672383766457997135 tw7557598861613038009 tw4654286099618306097 tw37171804344075241 tw3365064448072172278 tw17871775225907213354 tw1748096474899082372 tw16875348257519879150 tw15917662574959310087 tw13049928461989714459 tw12071953835493903867 tw11853916920290269353 tw11458984154349124016 tw103518434584215807 tw16670386210800498195 tw13911436475204916564 tw14019178592393377036 tw5669833372921495246 tw6268712063565478740 tw16658665212996118878 tw1257664611099711954 tw14504593086631061866 tw10555819737442198841 tw3903986224227539709 tw12457329934275383778 tw15207289750873407399 tw4425047082977593778 tw3359373336368603961 tw3392716912223970195 tw12129926217302830280 tw6530668833386588224 tw47493854665390365 tw3898224835706795980 tw16994173025623379229 tw15255405694136917022 tw10520101136990995334 tw9077700554805160703 tw865682283935952608 tw3762114009603747843 tw5036974506268269318 tw17087991593100894189 tw16782568160638084119 tw1589892568050569107 tw13559461409294143236 tw5131363307704658302 tw5366820499689038105 tw399511928447549005 tw9157827396939711279 tw3498774049147759289 tw13924685093725606889 tw13619854844376154028 tw12353180580279691100 tw352270514632862841 tw9559880181938771316 tw2614280717340911719 tw14405374423283862399 tw3000451984572339750 tw3325494969093997416 tw15860780230050729024 tw16694044114350726126 tw1884311338267627474 tw13909979409633004628 tw14303093117613179855 tw1854734204162907331 tw16563478992141753990 tw15038157159755275215 tw14536256993728052295 tw7487236484238762962 tw12545807122876378959 tw2306431891519423111 tw15293111598482879504 tw1450691823035509379 tw6804779572659670646 tw3068378605097844380 tw10141159658997783055 tw4707116735850348825 tw2046509264550537140 tw1905716262601093450 tw17777208808293547776 tw16194275467023302498 tw13885954247998806251 tw9439438884040111207 tw16540825432388504665 tw1577263866066597553 tw120035200691558325 tw2556437238165292919 tw2257864330180744527 tw17403283638853928067 tw14922673830368834092 tw8538785004580874234 tw828096856361693581 tw6807775706689227839 tw4887690797685547666 tw3109326796942105973 tw13080586666115208161 tw5834902729690830926 tw10202316582742533659 tw8580311732814412509 tw7795384224570008889 tw7539650712155728328 tw4460930027041505093 tw9131818425995180119 tw842411850663819943 tw6639394103556195929 tw6341093478841001091 tw5098346306990887596 tw4736986560989338269 tw4520821677561515582 tw14817456349766701220 tw13881444031121211276 tw13015755237372250173 tw1156537734683642150 tw9924038630104114403 tw5233039583854912105 tw4290730438050834541 tw10246390139615992699 tw8747818812928659777 tw17384320621878949006 tw14863219909115399674 tw14524857253388642712 tw6699503104088844615 tw4792713690884167485 tw2787464465872849315 tw1856534767191254739 tw17944088350534040307 tw13525977391707759030 tw12775020864519314151 tw9722251095896942764 tw13162644425905712069 tw9699251405637005536 tw6761010628288804898 tw4259667585930355344 tw4258120107851099585 tw2970112171878039810 tw14400730000245601398 tw13587239101447948781 tw1343838016834453914 tw12745509970128893422 tw4631037316915310673 tw203264010634585915 tw10411949613239043646 tw10061157253078418262 tw3324766956528387826 tw13087134930399150968 tw11245103008819748697 tw9025567520232663163 tw7214157484766443184 tw4961707945352068164 tw4145597810700778487 tw12870080556388129988 tw12213103011062859723 tw1087003906979872773 tw6175983229159766072 tw8047866047072837067 tw16423788936613598969 tw2452681452054692144 tw17468111534409976565 tw3447341526340792643 tw3534693430815552678 tw9753847538332789967 tw6680638294930106107 tw1360981154771258782 tw12941467756224256827 tw14605933438686368685 tw6333127912455465551 tw17479327801101269176 tw4593332467993356297 tw17708479584019586503 tw1763715866636870215 tw14837249800383328251 tw15353747348527811545 tw11451083954028646417 tw17200778037578796893 tw7869096196403899310 tw5827789652801444881 tw7085176046420721020 tw14336439408238066091 tw5748915604376822609 tw12420185310614338173 tw902338937437245006 tw7242529345036785353 tw2209137297903497931 tw17264434895349562286 tw15991518831687986407 tw10814303434108559617 tw4857246322402342963 tw265594524678192774 tw2494334353395058943 tw17847148725827288481 tw16122645955889316650 tw757858939645633932 tw1752465792366022320 tw17125173036585450983 tw16995622620570332372 tw12314300059002671424 tw4514397482525838578 tw862720731073934711 tw2914935152499087666 tw17810520551591376473 tw17194146375780124731 tw12556958686941899042 tw11541370081676677705 tw2386367821343205080 tw16034657030813475043 tw15621484916605948316 tw16076305903091308769 tw1071558881669784214 tw5255906500368541127 tw17105211605828269175 tw15040922876511404996 tw3212098392890215153 tw2438554503285857125 tw16867525224580687950 tw14372365055656049169 tw370276175864803503 tw8311965528865715288 tw15037545153384022496 tw10305679272137450154 tw1644145706542928392 tw16189427672796042199 tw1690514461530525790 tw12485907388328897203 tw7049123642503906214 tw4941640535567910425 tw3755525074329211977 tw1230302829217024155 tw10625441410355454597 tw7727019403407730894 tw427137410812657080 tw15129310735405643269 tw7152598285197499061 tw6530314539301643700 tw3463634304883638377 tw12471675431990471008 tw10992765661280658789 tw9906612951400146853 tw17276640099945937413 tw9012161441511980404 tw3208549893491117627 tw3064944232175955978 tw8240145676172282742 tw814871538535920800 tw5252378151116627057 tw17960309609404951602 tw1728751056174077503 tw15941720517395367957 tw4314839370289752847 tw3083913457136116639 tw6673473097655992896 tw9553623779594716807 tw3704195648157830624 tw9198551685065113377 tw414397451201878463 tw18256573019204357026 tw15704548883319484742 tw1556400851529093124 tw10622003814846500450 tw6597277564581330246 tw11866839192567212366 tw8677186452264188802 tw18064740581574920454 tw13675125202163285092 tw9297581635084135163 tw15770128324781977573 tw8660360935501275789 tw8218663397078910468 tw2442176571496287666 tw4741802631144593232 tw3888894255684927753 tw10143129189421696706 tw763057660171124611 tw16547087975170876253 tw12659083592228710482 tw7667988557257833322 tw8240564238481715810 tw4965599712006786318 tw2159272153345151702 tw17693857967625521352 tw10944746527059005023 tw763732767130534766 tw10867882823482313334 tw9187900194408892476 tw6175598552439992390 tw16765567968440093601 tw16400293253983136330 tw15414912242608383376 tw12041068857245617195 tw17947373814536424391 tw16680493276930028068 tw6538937560422252062 tw5236326483123026558 tw18223993873087653732 tw17337656106807927232 tw9484278905783105943 tw7492918926390101206 tw10298003466112647387 tw3682721653960569857 tw8071796960415614183 tw6890620205690331311 tw4457212529689650235 tw17013241881550053081 tw14774959099037799918 tw9988652476189543970 tw457148035143801865 tw16675788102073321185 tw15786915739302464004 tw16273627788215689658 tw4385342883512087139 tw11130948123180517791 tw13509714645312485295 tw10948490679741273448 tw7297598914765736463 tw4907355919336483478 tw1768640515538900007 tw16530842575009244983 tw13376121249496053361 tw907735527923247443 tw17044794915102095329 tw7421254004596578169 tw3184150513565811087 tw8290705802459356049 tw4401665969681163646 tw18013238289445479713 tw14913597391769633911 tw7807427750446866954 tw15775117677332477412 tw12679071746903261579 tw10613998511686189734 tw8398527670031433440 tw6966816314747207205 tw13699300078436233962 tw13333190973493878995 tw16307822325818588820 tw15989809304395419460 tw15864732275076117132 tw15474730165688099127 tw13973333920200323195 tw8820172172208538907 tw7339780337561602414 tw6544216824780175521 tw4475695331268637756 tw3808991918587584268 tw3046494065184986382 tw18346590023626099262 tw16932618938536885232 tw15292607197916542106 tw15021989482801503440 tw14936081916838006174 tw14288891868906947359 tw14139336936283562254 tw13546751022540805186 tw13407961236763610732 tw11923478907080940513 tw16170674030043607164 tw4277131730784225809 tw3510154800025057370 tw9111007806752163990 tw7575910964786408602 tw6789110020450074092 tw2229600746465329511 tw15739262550230707979 tw12122351981764881427 tw12122251138931354453 tw7839593389402051914 tw3039926178000422149 tw2567614480633965308 tw17689667410604260004 tw15535148502870413507 tw14838513241834124166 tw12438081234295020244 tw6542645104247087468 tw606487123818762235 tw5702408638309076319 tw4668975330593504705 tw403057706667435694 tw3685511860865700379 tw2777572231571658404 tw2742479128747088598 tw2498136073769969885 tw18050555031538180016 tw1741679333319547387 tw1703524910293908931 tw17002627247126062774 tw16632417046852793684 tw15809877596192295586 tw15551790791187064151 tw13094150170131030552 tw11995345151081817440 tw2788540724047051406 tw12739325812050769989 tw227114412499313729 tw9341657561258850061 tw2811421928347320739 tw18179607580709410364 tw15010194071461016021 tw17818610318162859649 tw13015979549876806796 tw15217776865965985746 tw6458067232639459592 tw18414546838077323193 tw9246628000007813900 tw900004612595640886 tw8989852201110025995 tw8914386497511601709 tw875011111011061961 tw7683176691166021186 tw6096460502676606554 tw5294106435810968957 tw2110116184304745496 tw18439212546752622061 tw18188125346345297127 tw17932143203073794257 tw17366136204379755866 tw17256612003394441425 tw16679983180928510928 tw16543766035495373637 tw15546692485398758464 tw14670538609183584840 tw14513922747694972813 tw14308702186146985705 tw1392545376940389088 tw13378189145256513849 tw13208828498325774238 tw13034639782407118839 tw12484815088640186457 tw12241348676460763230 tw11119170716339130286 tw11048151059768070409 tw1101268791267730295 tw10356679821788403492 tw595666645424689774 tw12614156489913486485 tw11936239034399632421 tw4786686550851241382 tw9820638203109087384 tw9022211907762276918 tw8980970698374752583 tw8852144148168299873 tw821856579089055576 tw6546977607644971976 tw61234863892591607 tw611064608476433775 tw5002982879746275245 tw4756618231468263106 tw3765831691642542556 tw17946943527950658366 tw1744430087843475103 tw17046027101361661959 tw16717933286966459312 tw16473405712436638079 tw14420118242710407617 tw14388337963415837978 tw14358907141590417953 tw14341782964704484350 tw13176476037723365104 tw1284407960559955099 tw12426935774140864661 tw12226997292887802635 tw11457621697164184460 tw11396517232945186630 tw10311656520104463511 tw1394606137021159924 tw946966866762013262 tw8836758546519820366 tw8338041342962784523 tw7323211723156639005 tw6799250172128399614 tw6457071919269947458 tw5698794428160509383 tw5523581754828503399 tw546644903348199205 tw4428780194038181636 tw4040938998786349606 tw3942593901143952519 tw3216542885089601945 tw18180368213151174427 tw17637348041777427780 tw16093375111626913858 tw15887058051408540397 tw14679616550473479101 tw14209528839193983050 tw14144768434925099858 tw13233723801258791997 tw12440684682780452828 tw12270002576559010279 tw12240691548473405761 tw17267117388959248722 tw12099581222267075245:True)
open PySem PySem.W PyProof.Rows
set_option maxRecDepth 100000 in
set_option maxHeartbeats 0 in
theorem PySem.Challenge.cw_cleanrows_k76_houses_begun_holds : PySem.Challenge.rw_cleanrows_k76_houses_begun.Holds := by
 w_on;o_law;k_head;(case hw=>w_witness2)
 k_fill
 refine K76.walk 418 712 (l:=PySem.Challenge.rw_cleanrows_k76_houses_begun) rfl rfl (λw h Y=>{PySem.W.km_in_of Y,PySem.W.km_tabs_of Y}) 'd' 'd' 'd' ?F
 case F =>
  intro w mg fa h KX G hmg
  refine' K76.all_mk KX G hmg ..
  all_goals try refine' {_,_,?_,{{_,_,_,_,_,_,_,_,_,rfl,?_,?_},?_}}
  all_goals try refine' {_,_,?_,?_,{{_,_,_,_,_,_,_,_,_,rfl,?_,?_},?_}}
  all_goals first|k_is|kit_is|k_exc|rfl|decide +kernel|skip
