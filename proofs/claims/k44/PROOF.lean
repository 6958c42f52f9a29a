import PyProof.Rows.All
import Wide.All
import OpenK.KLine
import KE.RegKIsAll
import KE.KDictOf
import Wide.FinOn
import Lean
import PyProof.EqAt
import PyProof.EqKinds
import PyProof.TupleCall
import KE.KUnpack
import PyProof.NeKinds
import PyProof.EnumFor
import PyProof.EnumStmt
import PyProof.EnumMake
import PyProof.Draws
import PyProof.StrWalks
import PyProof.Rows.FStr
import PyProof.Rows.CallKw2
import PyProof.StrBlockL
import KE.KIntText
import PyProof.ConsumeWalk
import PyProof.StrBlockG
import PyProof.CallStr
import PyProof.Rows.Range3
import PyProof.MeetsDict
import PyProof.DictList
import PyProof.StrLawsChain
import PyProof.StrLawsNeg
import KE.IntTextLaws
import KE.IntTextText
import PyProof.CallFns
import PyProof.CompUse
import PyProof.DictWalks
import KE.KDictSum
import PyProof.FString5
import KE.KLam
import KE.KSortKey
import KE.KNestM
import PyProof.Rows.RuleN_abs
import PyProof.WalkInts
import KE.KMinKey
import KE.KSortTup
import PyProof.DictCompW
import PyProof.SetRoads
import PyProof.SetNew
import KE.KEqDict
import PyProof.ListRange
import KE.KRevSl
import KE.LcSums
import PySem.Challenge.RW_cleanrows_k44_whole_groups_or_nothing
open PySem renaming wpAny_bind->we,Shared->Ow,wpAny_pure->Oz,wpAny->OJ,mainGlobals->OK,Program->OL,FuncData->OP,model->OR,Builtin->OS,Around->O0,World->O1,Expr->O3,SetTable->O7,wpAny_holding->O9,starEach->Pb,boot_len->Pi,foldedSetIterable->Pj,wpAny_field->Po,wpAny_mono->Pp,wpAny_newObj_type->Pt,rawInt->PC,wpAny_call_entry->PK,wpAny_setField->PL,NameKind->P0,wpAny_callSpecial?_slot->P5,compareOp->P8,sizeLine_eq->Qa,eval->Qc,Spec->Qf,wpAny_seqItems->Qh,wpAny_standAt->Qi,intKind->Qo,PassesOwn->Qp,mem_of_lookup->Qq,wpAny_Call_Name_kw->Qu,attributeBase->QE,plainId_quiet->QH,wpAny_truthy_bool->QI,cellsFrom->QM,binaryOp->QP,wpAny_rule->QR,codeAny_mono->QS,codeAny->QT,wpAny_setState_of->QV,wpAny_updateSeq->QX,letOwnedTupleGo->QY,codeAny_builtin->Q0,assignEach->Q1,wpAny_Call_method_late->Q3,wpAny_tryCatch->Q8,wpAny_passesOwn->Re,wpAny_pyIter_list->Rg,wpAny_letGo->Rh,wpAny_askSetting->Rm,pyNext->Rn,pushCells->Ro,backTo->Rq,wpAny_setField_rec->Ru,tupleKind_room_in1->Rv,holding->Rx,bootBuiltins->Rz,wpAny_execs_nil->RB,pushCells_keeps->RC,standAt->RG,strIterType->RJ,setField->RK,closureFor->RM,IsPair->RV,call_meets->R0,builtinsNs->R1,sliceBounds->R4,pickOrder->R5,wpAny_typeOf->Sb,call_meetsIn->Si,intText?->Sj,wpAny_isInstance->Sm,typeIs_str->Sn,seqItems?->Sq,noteFrame->Sr,checkBuiltinCall->Ss,wpAny_attempt->Sx,comprehension->Sz,wpAny_loadName_local->SB,keywordEach->SD,codeAny_call_builtin->SE,firstIterPos->SN,tupleKind->SQ,swapsWith->SR,DictEntry->SV,wpAny_pyIter_tuple->SW,wpAny_call->SX,wpAny_Constant_int->SY,firstArgMember->S4,callWith->S5,bindArgs->S6,assign->S8,IsPart->Tf,wpAny_pyIter_strU->Tj,wpAny_of_eq->Tn,wpAny_newList->Ts,behindInMarks->Tu,assignInOrder->Tv,ExceptHandler->TF,Comprehension->TH,updateSeq->TK,raiseNew->TM,getMethod->TR,compTurn->TU,valueAt->T1,getItem->Ua,firstAsync->Ud,defaultsOf->Ue,argsOk->Ug,Result->Uh,Within->Ui
open List renaming getElem?_eq_getElem->KE,length_map->OB,getElem?_eq_some_iff->OE,mem_append_right->OG,mem_cons->OH,mem_cons_of_mem->OI,mem_singleton->ON,take_of_length_le->OQ,mem_cons_self->OT,getElem?_map->OV,mem_of_getElem?->OX,getD_eq_getElem?_getD->OY,size_toArray->OZ,take_add_one->O6,length_take->O8,length_append->Pa,not_mem_nil->Pc,map_cons->Pf,map_map->Pg,map_append->Ph,mem_append->Pk,all_eq_true->Py,mem_append_left->Pz,getElem?_append_left->PF,lookup->PH,getElem_of_mem->PM,getElem?_append_right->PP,length_cons->PQ,getElem_mem->Qb,append_nil->Qe,range->Qg,replicate->Qk,pairwise_cons->Ql,length_singleton->Qm,contains_iff_mem->Qn,drop_eq_nil_of_le->Qr,mem_map->Qt,map_congr_left->QA,nodup_cons->QJ,nodup_append->QK,getElem?_take_of_lt->QL,pairwise_iff_getElem->QN,getElem?_eq_none->QQ,drop_eq_getElem_cons->QU,append_assoc->QW,length_take_le'->QZ,take_append_drop->Q6,replicate_succ->Q9,getElem?_eq_none_iff->Rc,mem_of_mem_take->Rf,take_append_of_le_length->Rt,lookup_cons->RL,perm_ext_iff_of_nodup->RP,mem_of_mem_drop->RQ,pairwise_map->RR,foldl_append->RS,flatten_cons->RT,find?_cons->RZ,all_append->R3,mem_range->R6,length_drop->R8,length_eq_zero_iff->R9,getElem?_cons_succ->Sa,getElem?_toArray->Sl,zip_cons_cons->Sw,mem_filterMap->Sy,getElem?_set_ne->SG,eq_nil_of_length_eq_zero->SH,flatMap_append->SK,filterMap_cons->SL,length_range->SM,length_nil->S3,any_cons->Ta,length_eraseIdx_of_lt->Tc,getElem?_drop->Td,cons_append->Tp,nil_append->T7,length->T8,forIn_cons->Ub,foldl_cons->Uc,mem_filter->Ul,drop_zero->Uq,Perm->Us
open Nat renaming le_refl->Ox,lt_of_lt_of_le->Pd,ne_of_lt->Pr,lt_of_succ_lt->Px,lt_of_le_of_lt->PV,le_trans->PX,lt_irrefl->PY,zero_le->Qs,lt_succ_self->Ri,ne_of_gt->Rp,lt_succ_of_lt->RF,le_succ->Se,le_of_lt->Sf,lt_trans->SC,sub_self->SO,eq_zero_or_pos->Tb,not_lt->Tt,le_of_eq->TQ,not_lt_zero->Uj,min_eq_left->Uk,toDigits->Um
open PySem.Heap renaming get?_push_of_some->Oy,get?_push_size->OM,lt_size->O4,get?_update_other->O5,get?_update_self->PD,SameBut->Qy,size_push->QG
open PySem.Str renaming ofString->OA,length_append->Qz,empty->Sv
open PySem.W renaming Frag->OF,mg_none_of->Qv,kia_one->Qx,findIn->QF,mg_of->Q4,nsIn->Q7,keepIn->Sg,hasDictIn->SS,plainGet->S2,mroIn->Tw,plainOver->TN,of_hideAll->T4,instObj->T9,codeHdIn->Up,makesIn->Ur
open Or renaming inl->OO,inr->RU
open PySem.Value renaming ref->OU,none->Pw,int->Rr,bool->RN,str->SU,isInt->Tq
open Bool renaming false_ne_true->OW,and_eq_true->Pm,false_eq_true->Q5,eq_false_iff->Ry,eq_iff_iff->RE,or_false->RX,true_and->SA,false_and->Tg,not_eq_true'->T5
open Option renaming map_eq_some_iff->O2,some->Pn,bind_eq_some_iff->Su,isSome_iff_exists->To
open Ne renaming symm->Pe
open PySem.Txt renaming join->Pq,split->Pu,slice->P3,rfind->RY
open Array renaming getElem?_eq_some_iff->PN,getElem?_setIfInBounds_self_of_lt->PU,getElem?_toList->Qw,length_toList->QC,getElem?_eq_getElem->QO,getD_eq_getD_getElem?->Rb,toArray_toList->Sd,getElem?_setIfInBounds_ne->Sk
open PyProof.Rows renaming slot_tuple_getitem->PZ,envOfC->Ra,strKind->Rj,subscriptTail_builtinR->Rw,IntsAre->RA,boot_str->RD,callWith_type1->RH,AllBare->RI,size_push'->So,boot_sorted->SF,boot_isinstance->SJ,slot_tuple_getitem->SZ,assignInOrder_cons->S7,IsTup->Tr,seqObj->T2
open PySem.Obj renaming isFreed_of_fields->P9,data_mapFields->QD,cls_mapFields->RW,mapFields->R7,mapSeq->Uo
open Classical renaming byContradiction->Qd
open Int renaming toNat_natCast->Qj
open PySem.F renaming slot_dict_get->Rk,entry_dict_get->Sh,plainAttrs_dict->SI,slot_str_split->S0,plain_extend_loop->Ti,slot_dict_values->Tz,plain_list_iadd->TV,plainAttrs_list->TX,attr_ValueError->TY,args_dict_get_3->TZ
open PySem.PyData renaming keyHash->RO
open PySem.W (methodObj hideAll hideAll_get lookIn handedIn plainGet_of isFn takerIn emptyDict callWith_K cellsFrom_some fnOf codeIn excIn clsIn kla_obj tabObj kla_fn codeHd_of_K tabIn)
open List (of_mem_zip map_nil all_cons foldl Pairwise filter_cons range' map_id map map_drop)
open PySem.Heap (Ns UpToSlots ExtBut DictOf)
open Array (getD)
open Option (map_some getD_none isSome_some isSome_map bind_some)
open PySem.Value (float type builtin)
open PyProof.Rows (KeyOrd boot_abs)
open PySem.F (slot_tuple_add entry_tuple_add args_tuple_add_2 entry_str_split args_str_split_2 type_dict_get args_dict_get_2)
set_option bootstrap.genMatcherCode false
set_option compiler.extract_closed false
local macro_rules | `(f!$_)=>`(by decide +kernel)
local macro_rules | `({$x:term})=>`(⟨$x⟩) | `({$x:term,$xs:term,*})=>`(⟨$x,$xs,*⟩)
local macro_rules | `($c:char)=>match c.getChar with | 'l'=>`(by lia) | 'd'=>`(by decide) | 'z'=>`(by simp) | _=>Lean.Macro.throwUnsupported
set_option Elab.async false
set_option linter.all false
set_option autoImplicit true
set_option maxRecDepth 100000
namespace L2
open PySem PySem.Spec PyProof.Rows
abbrev Wq:PySem.Str:="files"
abbrev Wp:PySem.Str:="mark_number"
abbrev Wo:PySem.Str:="__init__"
abbrev Wn:PySem.Str:="next_number"
abbrev Wm:PySem.Str:="marked_state"
abbrev Wl:PySem.Str:="birth"
abbrev Wk:PySem.Str:="whole_rows"
abbrev Wj:PySem.Str:="refuse_if_stopped"
abbrev Wi:PySem.Str:="put"
abbrev Wh:PySem.Str:="_law_take"
abbrev Wg:PySem.Str:="take_number"
abbrev Wf:PySem.Str:="many"
abbrev We:PySem.Str:="is_number_text"
abbrev Wc:PySem.Str:="spots"
abbrev Wb:PySem.Str:="is_made_of"
abbrev Wa:PySem.Str:="take_later_name"
abbrev V9:PySem.Str:="_law_word"
abbrev V8:PySem.Str:="is_within"
abbrev V7:PySem.Str:="take_word"
abbrev V6:PySem.Str:="first_signs"
abbrev V5:PySem.Str:="refuse_if_none"
abbrev V4:PySem.Str:="is_group_whole"
abbrev V3:PySem.Str:="state_behind"
abbrev V2:PySem.Str:="is_at_end"
abbrev V1:PySem.Str:="part_text"
abbrev V0:PySem.Str:="read_mark"
abbrev VZ:PySem.Str:="read_part"
abbrev VY:PySem.Str:="is_of_group"
abbrev VX:PySem.Str:="_law_births"
abbrev VW:PySem.Str:="table_words"
abbrev Zj:List PySem.Str:=["_law_script","_law_k","_law_pot_here","_law_disk","_law_model","_law_name_here","_law_births_here","_law_rows","_law_many","_law_row","_law_behind","_law_text","_law_state","_law_living"]
abbrev YM:List PySem.Str:=["self"]
abbrev Yq:List PySem.Str:=["self","files","spots","next_number","mark_number"]
abbrev Ym:List PySem.Str:=["begun","taken","mark_number","files","spot_of","by_number","row","stretch","place","spots"]
abbrev Yl:List PySem.Str:=["_law_pot_here","_law_many"]
abbrev X6:List PySem.Str:=["text"]
abbrev X5:List PySem.Str:=["self","file"]
abbrev XW:List PySem.Str:=["text","signs","most"]
abbrev XU:List PySem.Str:=["birth","stretch","place"]
abbrev XI:List PySem.Str:=["_law_pot_here"]
abbrev XA:List PySem.Str:=["self","file","place","birth"]
abbrev Xz:List PySem.Str:=["value","least","most"]
abbrev Xy:List PySem.Str:=["self","stretches","places"]
abbrev Xw:List PySem.Str:=["words"]
abbrev Xh:List PySem.Str:=["self","text"]
abbrev Xe:List PySem.Str:=["self","file","place"]
abbrev Xb:List PySem.Str:=["self","stretch","place"]
abbrev WT:List PySem.Str:=["disk"]
abbrev WR:List PySem.Str:=["disk","stretch","place"]
abbrev WM:List PySem.Str:=["self","stretch","text"]
abbrev WL:List PySem.Str:=["begun","taken","mark_number"]
abbrev WK:List PySem.Str:=["_law_pot_here","_law_model"]
abbrev WJ:List PySem.Str:=["_law_state","_law_files","_law_found","_law_name_here"]
abbrev WI:List PySem.Str:=["_law_pot_here","_law_disk"]
abbrev WH:List PySem.Str:=["text","body"]
abbrev WG:List PySem.Str:=["kind","word"]
abbrev WE:List PySem.Str:=["words","mark_number","next_number","files","spots"]
abbrev WD:List PySem.Str:=["self","k","text"]
abbrev WC:List PySem.Str:=["state","spots","words","birth","stretch","place"]
abbrev WB:List PySem.Str:=["files"]
abbrev WA:List PySem.Str:=["self","stretch"]
abbrev Wz:List PySem.Str:=["number","number","end","name","number","word"]
abbrev Wy:List PySem.Str:=["disk","states","whole"]
abbrev Wx:List PySem.Str:=["_law_script","_law_k"]
abbrev Ww:List PySem.Str:=["a","b","zz","abcdef"]
abbrev Wv:List PySem.Str:=["_law_place","_law_files","_law_name_here"]
abbrev Wu:List PySem.Str:=["row","first"]
abbrev Wt:List PySem.Str:=["disk","side"]
abbrev Ws:List PySem.Str:=["_law_script"]
abbrev Wr:List PySem.Str:=["by_number","first"]
structure W(p:Prop):Prop where
 h:p
abbrev Key:=Sum Int Str
def eP:Key->Value->Bool
 | .inl k,v=>Tq k v
 | .inr x,v=>Value.isStrOf x v
def GJ(w:O1):Key->Int
 | .inl k=>hashInt k
 | .inr x=>hashStr w x
theorem de:∀{k:Key}{v:Value},eP k v=true->(∃i t,k=Sum.inl i/\v=Rr i t)\/(∃x t,k=Sum.inr x/\v=SU x t)
 | .inl i,v,h=>by
  obtain ⟨t,e⟩:=Value.isInt_shape (k:=i) (v:=v) h;exact .inl {i,t,rfl,e}
 | .inr x,v,h=>by
  obtain ⟨t,e⟩:=Value.isStrOf_shape (x:=x) (v:=v) h;exact .inr {x,t,rfl,e}
theorem GS(i:Int)(t:Tok):eP (.inl i) (.int i t)=true:=by simp [eP,Tq]
theorem Np(x:Str)(t:Tok):eP (.inr x) (.str x t)=true:=by simp [eP,Value.isStrOf]
theorem N6(a b:Int):decide ((Sum.inl a:Key)=Sum.inl b)=(a==b):=by
 by_cases e:a=b
 .subst e;simp
 .have h : ¬ (Sum.inl a:Key)=Sum.inl b:=λq=>e (Sum.inl.inj q);rw [decide_eq_false h];exact (beq_eq_false_iff_ne.mpr e).symm
theorem Nl(a b:Str):decide ((Sum.inr a:Key)=Sum.inr b)=decide (a=b):=by
 by_cases e:a=b
 .subst e;simp
 .have h : ¬ (Sum.inr a:Key)=Sum.inr b:=λq=>e (Sum.inr.inj q);rw [decide_eq_false h,decide_eq_false e]
theorem CV(a:Int)(b:Str):decide ((Sum.inl a:Key)=Sum.inr b)=false:=decide_eq_false (λq=>nomatch q)
theorem DS(a:Str)(b:Int):decide ((Sum.inr a:Key)=Sum.inl b)=false:=decide_eq_false (λq=>nomatch q)
def ax(prog:OL)(w:O1):PySem.KeyKind prog w Key where
 is:=eP
 hash:=GJ w
 inj:=λv a b F z=>by
  rcases de F with ⟨i,t,rfl,rfl⟩|⟨x,t,rfl,rfl⟩
  .rcases de z with ⟨j,u,rfl,e⟩|⟨y,u,rfl,e⟩
   .injection e with e1 _;rw [e1]
   .exact nomatch e
  .rcases de z with ⟨j,u,rfl,e⟩|⟨y,u,rfl,e⟩
   .exact nomatch e
   .injection e with e1 _;rw [e1]
 byValue:=λk v h=>by
  rcases de h with ⟨i,t,rfl,rfl⟩|⟨x,t,rfl,rfl⟩<;>rfl
 pyHash:=λhv h=>by
  rcases de hv with ⟨i,t,rfl,rfl⟩|⟨x,t,rfl,rfl⟩
  .exact wpAny_pyHash_int h
  .exact wpAny_pyHash_str h
 eqBool:=λG hv h=>by
  rcases de G with ⟨i,t,rfl,rfl⟩|⟨x,t,rfl,rfl⟩
  .rcases de hv with ⟨j,u,rfl,rfl⟩|⟨y,u,rfl,rfl⟩
   .rw [N6] at h;exact wpAny_eqBool_int h
   .rw [CV] at h;exact SeqAt.EqAt.int_str i t y u _ _ _ _ h
  .rcases de hv with ⟨j,u,rfl,rfl⟩|⟨y,u,rfl,rfl⟩
   .rw [DS] at h;exact SeqAt.EqAt.str_int x t j u _ _ _ _ h
   .rw [Nl] at h;exact wpAny_eqBool_str h
 «strs»:=λk x t v h=>by
  rcases de h with ⟨i,u,rfl,e⟩|⟨y,u,rfl,e⟩
  .exact nomatch e
  .injection e with e1 _
   subst e1;cases v<;>rfl
theorem Jv(prog:OL)(w:O1)(i:Int)(t:Tok):(ax prog w).is (.inl i) (.int i t)=true:=GS i t
theorem lU(prog:OL)(w:O1)(x:Str)(t:Tok):(ax prog w).is (.inr x) (.str x t)=true:=Np x t
inductive V where
 | non|bl (b:Bool)|int (i:Int)|str (x:Str)|byt (b:Array UInt8)|flt (b:UInt64)|ref (a:Addr)|ty (n:String)
 deriving DecidableEq
def zo:V->Value->Prop
 | .non,u=>u=Pw
 | .bl b,u=>u=RN b
 | .int i,u=>∃t,u=Rr i t
 | .str x,u=>∃t,u=SU x t
 | .byt b,u=>∃t,u=Value.bytes b t
 | .flt b,u=>∃t,u=float b t
 | .ref a,u=>u=OU a
 | .ty n,u=>u=type n
abbrev zt:List V->List Value->Prop:=Paired zo
theorem zt.length(r:zt xs us):xs.length=us.length:=Paired.length r
theorem zt.get:∀{xs:List V}{us:List Value}{i:Nat}{x:V},zt xs us->xs[i]?=some x->∃u,us[i]?=some u/\zo x u
 | _,_,_,_,.nil,e=>by simp at e
 | _,_,0,_,.cons r _,e=>by simp at e;subst e;exact {_,rfl,r}
 | _,_,i+1,x,.cons _ t,e=>by
  obtain ⟨u,h1,h2⟩:=zt.get (i:=i) (x:=x) t (by simpa using e);exact {u,by simpa using h1,h2}
theorem zt.set(r:zo x u):∀{xs:List V}{us:List Value}(i:Nat),zt xs us->zt (xs.set i x) (us.set i u)
 | _,_,_,.nil=>.nil
 | _,_,0,.cons _ t=>.cons r t
 | _,_,i+1,.cons q t=>.cons q (zt.set r i t)
theorem zt.append(h:zt xs us)(k:zt ys ws):zt (xs++ys) (us++ws):=by
 induction h with
 | nil=>exact k
 | cons r t z=>exact .cons r z
theorem zt.take:∀{xs:List V}{us:List Value}(n:Nat),zt xs us->zt (xs.take n) (us.take n)
 | _,_,0,_=>.nil
 | _,_,_+1,.nil=>.nil
 | _,_,n+1,.cons r t=>.cons r (zt.take n t)
theorem zt.drop:∀{xs:List V}{us:List Value}(n:Nat),zt xs us->zt (xs.drop n) (us.drop n)
 | _,_,0,r=>r
 | _,_,_+1,.nil=>.nil
 | _,_,n+1,.cons _ t=>zt.drop n t
def bU:Option V->Option Value->Prop
 | some v,some u=>zo v u
 | none,none=>True
 | _,_=>False
def KV{κ:Type}:List (κ×V)->List (κ×Value)->Prop:=Paired λ(p:κ×V)(q:κ×Value)=>p.1=q.1/\zo p.2 q.2
def kV:Key->V
 | .inl i=>.int i
 | .inr x=>.str x
inductive HO where
 | lst (xs:List V)
 | tup (xs:List V)
 | dK (kvs:List (Key×V))|dT (kvs:List (List Key×V))
 | set (S:Int->Bool) (n:Nat)
 | ins (C dx:Addr) (fs:List (Str×V))
 | own (x:Addr)
 | xd (fs:List (Str×V))
 | met (f x:Addr)
 | rng (lo hi:Int)
 | frz (o:Obj) (u:HO)
 | tbl (ps:Array Value)
 | ext (φ:Heap->Prop)
abbrev Hp:=Addr->Option HO
def upd(H:Hp)(a:Addr)(o:HO):Hp:=λb=>if b=a then some o else H b
theorem zu{o:HO}:upd H a o a=some o:=by unfold upd;rw [if_pos rfl]
theorem ze{o:HO}(h:b≠a):upd H a o b=H b:=by unfold upd;rw [if_neg h]
theorem gA{o u:HO}:upd (upd H a o) a u=upd H a u:=by
 funext b;unfold upd;split<;>rfl
theorem Jt{H:Hp}{o u:HO}(h:H a=some o)(h':H b=some u)(d:o≠u):a≠b:=by
 intro e;subst e;rw [h] at h';exact d (Pn.inj h')
theorem zz{H:Hp}{o:HO}(h:H a=some o)(h':H b=none):a≠b:=by
 intro e;subst e;rw [h] at h';cases h'
section
variable (P:OL) (w:O1)
def ae(H:Hp)(h:Heap)(a:Addr):HO->Prop
 | .lst xs=>xs.length<=sizeLine/\∃(its:List Value)(n:Nat),zt xs its/\h.get? a=some { cls:=.type "list",data:=.seq its.toArray n }
 | .tup xs=>xs.length<=sizeLine/\∃its:List Value,zt xs its/\Tr h a its.toArray
 | .dK kvs=>kvs.length<=sizeLine/\(a==sysModules)=false/\∃vs,KV kvs vs/\h.DictOf (ax P w) a vs
 | .dT kvs=>kvs.length<=sizeLine/\(a==sysModules)=false/\∃xs:List (List Key×Addr×Value),
   Paired (λ(p:List Key×V)(q:List Key×Addr×Value)=>p.1=q.1/\H q.2.1=some (.tup (p.1.map kV))/\zo p.2 q.2.2) kvs xs /\
   ∃o es ep,h.get? a=some o/\o.ExactDict/\o.data = .dict es ep/\es.toList=xs.map (entryOfKey (SQ (ax P w)))/\(xs.map (·.1)).Nodup
 | .set S n=>h.SetOf (intKind P w) a S n
 | .ins C dx fs=>H dx=some (.own a)/\fs.length<=1000/\dx≠a/\h.get? a=some (T9 C dx) /\
   ∃mA,h.Ns1 dx mA/\(∀f,bU (fs.lookup f) (mA f))/\Ui mA (fs.map (·.1))
 | .own _=>∃o,h.get? a=some o
 | .xd fs=>∃mA,h.Ns1 a mA/\∀f,bU (fs.lookup f) (mA f)
 | .rng lo hi=>∃t u v,h.get? a=some { cls:=.type "range",data:=.fields #[.int lo t,.int hi u,.int 1 v] }
 | .frz o u=>h.get? a=some o/\ae H h a u
 | .tbl ps=>h.get? a=some { cls:=.none,data:=.fields ps }
 | .met f x=>h.get? a=some (methodObj (.ref f) (.ref x))
 | .ext z=>z h/\(∃o,h.get? a=some o)/\∀h1 h2:Heap,z h1->(∀o,h1.get? a=some o->h2.get? a=some o)->z h2
def HOk(H:Hp)(h:Heap):Prop:=∀a o,H a=some o->ae P w H h a o
end
section
variable {P:OL}{w:O1}{H H':Hp}{h h':Heap}{a:Addr}{o:HO}
theorem ae.lt(x:ae P w H h a o):a<h.objs.size:=by
 cases o with
 | lst xs=>obtain ⟨_,_,_,_,e⟩:=x;exact O4 e
 | tup xs=>obtain ⟨_,_,_,p⟩:=x;exact p.lt
 | dK kvs=>obtain ⟨_,_,_,_,o,_,_,e,_⟩:=x;exact O4 e
 | dT kvs=>obtain ⟨_,_,_,_,o,_,_,e,_⟩:=x;exact O4 e
 | set S n=>obtain ⟨o,_,_,_,e,_⟩:=x;exact O4 e
 | ins C dx fs=>obtain ⟨_,_,_,e,_⟩:=x;exact O4 e
 | own y=>obtain ⟨_,e⟩:=x;exact O4 e
 | xd fs=>obtain ⟨_,⟨_,_,_,e,_⟩,_⟩:=x;exact O4 e
 | rng lo hi=>obtain ⟨_,_,_,e⟩:=x;exact O4 e
 | frz ob u=>obtain ⟨e,_⟩:=x;exact O4 e
 | tbl ps=>exact O4 (show h.get? a=some _ from x)
 | met f y=>exact O4 (show h.get? a=some _ from x)
 | ext z=>obtain ⟨_,⟨_,e⟩,_⟩:=x;exact O4 e
theorem Paired.wa{α β:Type}{F G:α->β->Prop}{z:List α}{l₂:List β}(h:Paired F z l₂)(f:∀a b,F a b->G a b):Paired G z l₂:=by
 induction h with
 | nil=>exact .nil
 | cons r t J=>exact .cons (f _ _ r) J
theorem ae.UE(x:ae P w H h a o)(k:∀b u,(b=a\/H b=some (.own a))->h.get? b=some u->h'.get? b=some u)
  (J:∀b,H b=some (.own a)->H' b=some (.own a)) (O:∀b xs,H b=some (.tup xs)->H' b=some (.tup xs)):ae P w H' h' a o:=by
 induction o with
 | lst xs=>obtain ⟨z,its,n,r,e⟩:=x;exact {z,its,n,r,k _ _ (.inl rfl) e}
 | tup xs=>obtain ⟨z,its,r,ob,e,c⟩:=x;exact {z,its,r,ob,k _ _ (.inl rfl) e,c}
 | dK kvs=>obtain ⟨z,y,vs,r,ob,es,ep,e,c⟩:=x;exact {z,y,vs,r,ob,es,ep,k _ _ (.inl rfl) e,c}
 | dT kvs =>
  obtain ⟨z,y,xs,r,ob,es,ep,e,c⟩:=x;exact {z,y,xs,Paired.wa r λp q z=>{z.1,O _ _ z.2.1,z.2.2},ob,es,ep,k _ _ (.inl rfl) e,c}
 | set S n=>obtain ⟨ob,es,ep,t,e,c⟩:=x;exact {ob,es,ep,t,k _ _ (.inl rfl) e,c}
 | ins C dx fs =>
  obtain ⟨d,z,ne,e,mA,⟨F,es,ep,G,c⟩,r⟩:=x;exact {J _ d,z,ne,k _ _ (.inl rfl) e,mA,{F,es,ep,k _ _ (.inr d) G,c},r}
 | own y=>obtain ⟨ob,e⟩:=x;exact {ob,k _ _ (.inl rfl) e}
 | xd fs=>obtain ⟨mA,⟨F,es,ep,e,c⟩,r⟩:=x;exact {mA,{F,es,ep,k _ _ (.inl rfl) e,c},r}
 | rng lo hi=>obtain ⟨t,u,v,e⟩:=x;exact {t,u,v,k _ _ (.inl rfl) e}
 | frz ob u U=>obtain ⟨e,q⟩:=x;exact {k _ _ (.inl rfl) e,U q}
 | tbl ps =>
  have e:h.get? a=some { cls:=.none,data:=.fields ps }:=x;show h'.get? a=some { cls:=.none,data:=.fields ps };exact k a _ (.inl rfl) e
 | met f y =>
  have e:h.get? a=some (methodObj (.ref f) (.ref y)):=x;show h'.get? a=some (methodObj (.ref f) (.ref y));exact k a _ (.inl rfl) e
 | ext W=>obtain ⟨p,⟨o,e⟩,st⟩:=x;exact {st _ _ p λo q=>k _ _ (.inl rfl) q,{o,k _ _ (.inl rfl) e},st}
theorem HOk.lt(x:HOk P w H h)(e:H a=some o):a<h.objs.size:=(x a o e).lt
theorem HOk.fresh(x:HOk P w H h)(e:h.objs.size<=a):H a=none:=by
 cases q:H a with
 | none=>rfl
 | some u=>exact absurd (Pd (x.lt q) e) (PY _)
theorem HOk.kept(x:HOk P w H h)(k:∀b u,h.get? b=some u->h'.get? b=some u):HOk P w H h':=λa o e =>
 (x a o e).UE (λb u _ q=>k b u q) (λ_ q=>q) λ_ _ q=>q
theorem HOk.laid(x:HOk P w H h)(k:∀b u,h.get? b=some u->h'.get? b=some u)(G:h.objs.size<=a)(new:ae P w (upd H a o) h' a o):HOk P w (upd H a o) h':=λb u e=>by
 have z:=x.fresh G;by_cases F:b=a
 .subst F;rw [zu] at e;cases e;exact new
 .rw [ze F] at e;exact (x b u e).UE (λc v _ q=>k c v q) (λc q=>by rw [ze (zz q z)];exact q) λc xs q=>by rw [ze (zz q z)];exact q
end
def Rd(H:Hp)(a:Addr)(u:HO):Prop:=H a=some u\/∃o,H a=some (.frz o u)
theorem Rd.ok(r:Rd H a u)(x:HOk P w H h):ae P w H h a u:=by
 rcases r with r|⟨o,r⟩
 .exact x a u r
 .obtain ⟨_,q⟩:=x a _ r;exact q
def Mut:Option HO->Prop
 | some (.lst _)=>True
 | some (.dK _)=>True
 | some (.dT _)=>True
 | some (.set _ _)=>True
 | some (.ins _ _ _)=>True
 | some (.ext _)=>True
 | _=>False
section
variable {P:OL}{w:O1}{H:Hp}{h h':Heap}{x e:Addr}{o':HO}
theorem HOk.write(ok:HOk P w H h)(U:Mut (H x))(Z:e=x\/H e=some (.own x))(k:∀b u,b≠e->h.get? b=some u->h'.get? b=some u)(W:∃u,h'.get? e=some u)
  (new:ae P w (upd H x o') h' x o'):HOk P w (upd H x o') h':=λb u q=>by
 have G:∀c y,H c=some (.own y)->c≠x:=λc y r z=>by subst z;rw [r] at U;exact U
 have J:∀c xs,H c=some (.tup xs)->c≠x:=λc xs r z=>by subst z;rw [r] at U;exact U
 by_cases O:b=x
 .subst O;rw [zu] at q;cases q;exact new
 .rw [ze O] at q;by_cases F:b=e
  .have q':H b=some (.own x):=by
    rcases Z with z|z
    .exact absurd (F.trans z) O
    .rw [F];exact z
   rw [q] at q';cases q';obtain ⟨v,hv⟩:=W;exact {v,by rw [F];exact hv}
  .refine (ok b u q).UE (λc v S r=>k c v ?_ r) (λc r=>by rw [ze (G c b r)];exact r) λc xs r=>by rw [ze (J c xs r)];exact r
   rcases S with rfl|S
   .exact F
   .rintro rfl;rcases Z with z|z
    .exact G c b S z
    .rw [S] at z;cases z;exact O rfl
end
structure Un(fs ex:List Addr)(H H':Hp)(h h':Heap):Prop where
 keep:∀b o,h.get? b=some o->H b=none->b∉fs->b∉ex->h'.get? b=some o
 slot:∀b o,h.get? b=some o->H b=none->b∈fs->b∉ex->∃sl,h'.get? b=some { o with slots:=sl }
 free:∀b o,h.get? b=some o->H b=none->b∉ex->H' b=none
 there:∀b o,h.get? b=some o->b∉ex->∃o',h'.get? b=some o'
 tups:∀b xs,H b=some (.tup xs)->H' b=some (.tup xs)
 frzs:∀b o u,H b=some (.frz o u)->H' b=some (.frz o u)
 tbls:∀b ps,H b=some (.tbl ps)->∃more,H' b=some (.tbl (ps++more))
section
variable {fs fs' ex ex':List Addr}{H H1 H2:Hp}{h h1 h2 h':Heap}{a x e:Addr}{o:HO}
theorem Un.any(u:Un fs ex H H1 h h1)(q:h.get? b=some ob)(n:H b=none)(hx:b∉ex):∃sl,h1.get? b=some { ob with slots:=sl }:=by
 by_cases z:b∈fs
 .exact u.slot b ob q n z hx
 .exact {ob.slots,u.keep b ob q n z hx}
theorem Un.trans(a:Un fs ex H H1 h h1)(b:Un fs ex H1 H2 h1 h2):Un fs ex H H2 h h2 where
 keep:=λc ob q n F hx=>b.keep c ob (a.keep c ob q n F hx) (a.free c ob q n hx) F hx
 slot:=λc ob q n F hx=>by
  obtain ⟨sl,z⟩:=a.slot c ob q n F hx;obtain ⟨J,G⟩:=b.slot c _ z (a.free c ob q n hx) F hx;exact ⟨J,G⟩
 free:=λc ob q n hx=>by
  obtain ⟨o',z⟩:=a.there c ob q hx;exact b.free c o' z (a.free c ob q n hx) hx
 there:=λc ob q hx=>by
  obtain ⟨o',z⟩:=a.there c ob q hx;exact b.there c o' z hx
 tups:=λc xs q=>b.tups c xs (a.tups c xs q)
 frzs:=λc ob xs q=>b.frzs c ob xs (a.frzs c ob xs q)
 tbls:=λc ps q=>by
  obtain ⟨O,z⟩:=a.tbls c ps q;obtain ⟨S,G⟩:=b.tbls c _ z;exact {O++S,by rw [G,Array.append_assoc]}
theorem Un.kept(k:∀b u,h.get? b=some u->h'.get? b=some u):Un fs ex H H h h' :=
 {λb ob q _ _ _=>k b ob q,λb ob q _ _ _=>{ob.slots,k b ob q},λ_ _ _ n _=>n,λb ob q _=>{ob,k b ob q},λ_ _ q=>q,λ_ _ _ q=>q,λ_ ps q=>{#[],by rw [q];simp}}
theorem Un.refl:Un fs ex H H h h:=Un.kept λ_ _ q=>q
theorem Un.laid(k:∀b u,h.get? b=some u->h'.get? b=some u)(F:h.objs.size<=a)(z:H a=none):Un fs ex H (upd H a o) h h' where
 keep:=λb u q _ _ _=>k b u q
 slot:=λb u q _ _ _=>{u.slots,k b u q}
 free:=λb u q n _=>by rw [ze (Pr (Pd (O4 q) F))];exact n
 there:=λb u q _=>{u,k b u q}
 tups:=λb xs q=>by rw [ze (zz q z)];exact q
 frzs:=λb u xs q=>by rw [ze (zz q z)];exact q
 tbls:=λb ps q=>{#[],by rw [ze (zz q z),q];simp}
theorem Un.write(G:Mut (H x))(S:e=x\/H e=some (.own x))(k:∀b u,b≠e->h.get? b=some u->h'.get? b=some u)(J:∃u,h'.get? e=some u):Un fs ex H (upd H x o) h h':=by
 have hx:∀b,H b=none->b≠x:=λb n z=>by subst z;rw [n] at G;exact G
 have O:∀b,H b=none->b≠e:=λb n z=>by
  subst z;rcases S with r|r
  .exact hx b n r
  .rw [n] at r;cases r
 have hm:∀b u,H b=some u->¬ Mut (some u)->b≠x:=λb u q nm z=>by subst z;rw [q] at G;exact nm G
 refine {λb u q n _ _=>k b u (O b n) q,λb u q n _ _=>{u.slots,k b u (O b n) q},λb u q n _=>by rw [ze (hx b n)];exact n,λb u q _=>?_,
  λb xs q=>by rw [ze (hm b _ q λz=>z)];exact q,λb u xs q=>by rw [ze (hm b _ q λz=>z)];exact q,λb ps q=>{#[],by rw [ze (hm b _ q λz=>z),q];simp}}
 by_cases F:b=e
 .subst F;exact J
 .exact {u,k b u F q}
end
def trk(h:Heap)(H:Hp):List Addr:=(Qg h.objs.size).filter λa=>(H a).isSome
def dN(h:Heap)(H:Hp):Heap:=hideAll h (trk h H)
theorem LA(h:Heap)(H:Hp):(dN h H).objs.size=h.objs.size:=PySem.W.hideAll_size _ _
theorem MV{o:Obj}(e:h.get? b=some o)(n:H b=none):(dN h H).get? b=some o :=
 hideAll_get _ e λhm=>by
  have q:(H b).isSome=true:=(Ul.mp hm).2;rw [n] at q;simp at q
theorem B5{o:Obj}(e:(dN h H).get? b=some o):h.get? b=some o/\H b=none:=by
 have F:h.get? b=some o:=T4 (trk h H) e;refine {F,?_};cases q:H b with
 | none=>rfl
 | some x =>
  have hm:b∈trk h H:=Ul.mpr {R6.mpr (O4 F),by simp [q]};have z:(dN h H).get? b=none:=PySem.W.hideAll_none (trk h H) hm;rw [z] at e;cases e
def gw(g h:Heap)(L:Addr):List (Addr×Obj):=(Qg h.objs.size).filterMap λa=>if a=L\/(g.get? a).isSome=true then none else (h.get? a).map λo=>(a,o)
theorem DR{o:Obj}(h1:a≠L)(h2:g.get? a=none)(h3:h.get? a=some o):(a,o)∈gw g h L :=
 Sy.mpr {a,R6.mpr (O4 h3),by simp [h1,h2,h3]}
theorem Fm{p:Addr×Obj}(G:p∈gw g h L):p.1≠L/\g.get? p.1=none/\h.get? p.1=some p.2:=by
 obtain ⟨b,_,e⟩:=Sy.mp G;split at e
 .cases e
 .rename_i F;cases q:h.get? b with
  | none=>rw [q] at e;simp at e
  | some u =>
   rw [q] at e;simp only [map_some,Pn.injEq] at e;subst e;refine {λz=>F (.inl z),?_,q};show g.get? b=none;cases r:g.get? b with
   | none=>rfl
   | some v=>exact (F (.inr (by simp [r]))).elim
theorem Ja:News g L h (gw g h L):=λp z=>let ⟨a,b,c⟩:=Fm z;⟨c,a,b⟩
structure Mod(K:OF)(mg:Str->Option Value)(base:Heap):Prop where
 bG:K.In base
 glob:base.Ns OK mg
 blt:∃mb,base.Ns R1 mb/\∀x:Str,x≠"__name__"->mb x=Rz x
 nolimit:base.NoLimit
def iA(A:O0)(H:Hp):Prop:=A.handled=none\/∃(a:Addr)(o:Obj)(vs:Array Value),A.handled=some (.ref a)/\H a=some (.frz o (.own 0))/\o.data = .fields vs/\vs[2]?=some .none/\∃C,o.cls = .ref C
theorem iA.same(x:iA A H)(k:∀b o u,H b=some (.frz o u)->H' b=some (.frz o u)):iA A H':=by
 rcases x with x|⟨a,o,vs,h1,h2,h3⟩
 .exact .inl x
 .exact .inr {a,o,vs,h1,k _ _ _ h2,h3}
structure Cx where
 prog:OL
 w:O1
 K:OF
 mg:Str->Option Value
 base:Heap
 A:O0
 N:List Str
 s₀:Ow
 H₀:Hp
 env:Env
 outer:List Env
 stack:List Env
 ex:List Addr
 fn:Str->Bool
 calm:Bool
 pn:List (Addr×Obj)
 xe:Value->Ow->Prop
def frs(l:List Env):List Addr:=l.filterMap (·.frame)
abbrev Cx.fs(X:Cx):List Addr:=frs X.outer
def Vis(sc:Scope)(x:Str):Prop:=sc.names.lookup x=some .local\/sc.names.lookup x=some .cell\/sc.names.lookup x=some .free
def Loc(sc:Scope)(x:Str):Prop:=sc.names.lookup x=some .local\/sc.names.lookup x=some .cell
def Jb(env:Env)(h:Heap)(m:Str->Option Value)(x:Str)(u:Value):Prop :=
 (env.kindOf x=some .local/\m x=some u)\/((env.kindOf x=some .cell\/env.kindOf x=some .free)/\∃c,env.cells.lookup x=some c/\h.IsCell c (some u))
structure Cx.Ok(X:Cx):Prop where
 mod:Mod X.K X.mg X.base
 kind:X.env.scope.kind = .function
 glob:X.env.globals=OK
 blt:X.env.builtins=R1
 above:X.s₀.heap.objs.size<=X.env.locals
 inj:∀x y c,X.env.cells.lookup x=some c->X.env.cells.lookup y=some c->x=y
 has:∀x,(X.env.kindOf x=some .cell\/X.env.kindOf x=some .free)->∃c,X.env.cells.lookup x=some c
 bJ:∀x c,X.fn x=true->X.env.cells.lookup x=some c->X.s₀.heap.objs.size<=c
 hd:X.calm=true->X.A.handled=none
 frames:X.A.frames=some X.stack
 bP:X.stack=X.outer\/(X.stack=X.env::X.outer/\X.env.frame=some X.env.locals)
 cw:∀b∈X.ex,b≠X.env.locals/\∀x c,X.env.cells.lookup x=some c->c≠b
 bs:∀b o,X.base.get? b=some o->X.s₀.heap.get? b=some o/\X.H₀ b=none
 aF:X.base.objs.size<=X.s₀.heap.objs.size
 az:∀b o,X.base.get? b=some o->b∉X.ex
 aD:∀b∈X.ex,b∉X.fs
 UF:X.s₀.heap.FunFrames X.base X.outer
 aY:∀b∈X.fs,X.H₀ b=none
structure Inv(X:Cx)(Go:List (Addr×Obj))(σ:List (Option V))(H:Hp)(s:Ow):Prop where
 ok:X.Ok
 os:s.os=X.s₀.os
 bare:RI s.gens
 base:Un X.fs X.ex X.H₀ H X.s₀.heap s.heap
 loc:∃m,s.heap.Ns X.env.locals m/\∀(i:Nat)(x:Str)(v:V),X.N[i]?=some x->σ[i]?=some (some v)->Vis X.env.scope x->∃u,zo v u/\Jb X.env s.heap m x u
 cell:∀x c,X.env.cells.lookup x=some c->∃v,s.heap.IsCell c v
 free:H X.env.locals=none
 z9:∀x c,X.env.cells.lookup x=some c->H c=none
 pin:∀p∈X.pn++Go,s.heap.get? p.1=some p.2/\H p.1=none/\p.1≠X.env.locals/\p.1∉X.fs/\∀v,p.2.data≠.cell v
 hok:HOk X.prog X.w H s.heap
 len:σ.length=X.N.length
 hdk:iA X.A H
section
variable {X:Cx}{Go:List (Addr×Obj)}{σ:List (Option V)}{H H':Hp}{s:Ow}{h':Heap}
theorem Cx.Ok.cE(ok:X.Ok){o:Obj}(e:X.base.get? b=some o):b∉X.fs:=λz=>by
 have:=(ok.UF.mem z).1;rw [e] at this;cases this
theorem Inv.bs(I:Inv X Go σ H s):∀b o,X.base.get? b=some o->s.heap.get? b=some o/\H b=none:=λb o e =>
 {I.base.keep b o (I.ok.bs b o e).1 (I.ok.bs b o e).2 (I.ok.cE e) (I.ok.az b o e),I.base.free b o (I.ok.bs b o e).1 (I.ok.bs b o e).2 (I.ok.az b o e)}
theorem Inv.bk(I:Inv X Go σ H s):∀b o,X.base.get? b=some o->s.heap.get? b=some o:=λb o e=>(I.bs b o e).1
theorem Inv.mod(I:Inv X Go σ H s):Mod X.K X.mg X.base:=I.ok.mod
theorem Inv.UB(I:Inv X Go σ H s):X.K.In s.heap:=I.ok.mod.bG.keeps I.bk
theorem Inv.fr(I:Inv X Go σ H s):∃m,Fr X.base X.env.locals s.heap m :=
 let ⟨m,hn,_⟩:=I.loc
 {m,hn,I.bk,PX I.ok.aF I.ok.above}
theorem Inv.lt(I:Inv X Go σ H s):X.env.locals<s.heap.objs.size:=let ⟨_,hn,_⟩:=I.loc;hn.lt
theorem Inv.sz(I:Inv X Go σ H s):X.s₀.heap.objs.size<=s.heap.objs.size:=PX I.ok.above (Sf I.lt)
theorem Inv.b4(I:Inv X Go σ H s)(h:s.heap.objs.size<=a):a∉X.fs:=λF=>by
 obtain ⟨_,o,z,_⟩:=I.ok.UF.mem F;exact absurd (Pd (O4 z) (PX I.sz h)) (PY _)
theorem Inv.cne(I:Inv X Go σ H s):∀x c,X.env.cells.lookup x=some c->c≠X.env.locals:=λx c e z=>by
 obtain ⟨v,o,G,hd⟩:=I.cell x c e;obtain ⟨m,⟨o',es,ep,J,F,_⟩,_⟩:=I.loc;rw [z,J] at G;cases G;rw [F] at hd;cases hd
theorem Inv.UF(I:Inv X Go σ H s):s.heap.FunFrames X.base X.outer:=by
 have all:∀(l:List Env),(∀b∈frs l,b∈X.fs)->X.s₀.heap.FunFrames X.base l->s.heap.FunFrames X.base l:=by
  intro l
  induction l with
  | nil=>intro _ _;trivial
  | cons env r W =>
   intro hs hl;obtain ⟨U,⟨L,o,hf,J,S,hd⟩,O⟩:=hl;have G:L∈X.fs:=hs L (by unfold frs;rw [SL,hf];exact OT);obtain ⟨sl,e⟩:=I.base.slot L o S (I.ok.aY L G) G λz=>I.ok.aD L z G;exact {U,{L,_,hf,J,e,hd},W (λb F=>hs b (by unfold frs;rw [SL,hf];exact OI _ F)) O}
 exact all X.outer (λ_ F=>F) I.ok.UF
theorem Inv.stack(I:Inv X Go σ H s):s.heap.FunFrames X.base X.stack:=by
 rcases I.ok.bP with e|⟨e,hf⟩
 .rw [e];exact I.UF
 .rw [e];obtain ⟨m,z,_⟩:=I.loc;refine .cons (by rw [I.ok.kind];decide) hf z ?_ I.UF;exact Heap.get?_none_of_le (PX I.ok.aF I.ok.above)
theorem Inv.UJ(I:Inv X Go σ H s):∀b∈frs X.stack,b∈X.env.locals::X.fs:=λb z=>by
 rcases I.ok.bP with e|⟨e,hf⟩
 .rw [e] at z;exact OI _ z
 .rw [e] at z;unfold frs at z;rw [SL,hf] at z;exact z
theorem Inv.Vw(I:Inv X Go σ H s):∀b∈frs X.stack,H b=none:=λb F=>by
 rcases OH.mp (I.UJ b F) with e|F
 .rw [e];exact I.free
 .obtain ⟨_,o,G,_⟩:=I.ok.UF.mem F;exact I.base.free b o G (I.ok.aY b F) λz=>I.ok.aD b z F
theorem Inv.step{ch:List Addr}(I:Inv X Go σ H s)(Xk:∀b∈ch,(b∈X.ex\/X.s₀.heap.objs.size<=b)/\b≠X.env.locals/\(∀x c,X.env.cells.lookup x=some c->c≠b)/\∀p∈X.pn++Go,p.1≠b)(keep:∀b o,b≠X.env.locals->b∉X.fs->b∉ch->s.heap.get? b=some o->H b=none->h'.get? b=some o)(slot:∀b o,b≠X.env.locals->b∈X.fs->b∉ch->s.heap.get? b=some o->H b=none->∃sl,h'.get? b=some { o with slots:=sl })(free:∀b o,b∉ch->s.heap.get? b=some o->H b=none->H' b=none)(there:∀b o,b∉ch->s.heap.get? b=some o->∃o',h'.get? b=some o')(tups:∀b xs,H b=some (.tup xs)->H' b=some (.tup xs))(frzs:∀b o u,H b=some (.frz o u)->H' b=some (.frz o u))(tbls:∀b ps,H b=some (.tbl ps)->∃more,H' b=some (.tbl (ps++more)))(ns:∀m,s.heap.Ns X.env.locals m->h'.Ns X.env.locals m)(hok:HOk X.prog X.w H' h')(hg:RI g'):
  Inv X Go σ H' { s with heap:=h',gens:=g',drawn:=d',toks:=t' }:=by
 have W:∀b o,X.s₀.heap.get? b=some o->b≠X.env.locals:=λb o e=>Pr (Pd (O4 e) I.ok.above);have J:∀b o,X.s₀.heap.get? b=some o->b∉X.ex->b∉ch:=λb o e hx S=>by
  rcases (Xk b S).1 with z|z
  .exact hx z
  .exact absurd (Pd (O4 e) z) (PY _)
 have F:∀x c,X.env.cells.lookup x=some c->∀v,s.heap.IsCell c v->h'.IsCell c v:=λx c e v ⟨o,U,hd⟩=>by
  have G:c∉ch:=λz=>(Xk c z).2.2.1 x c e rfl;by_cases hc:c∈X.fs
  .obtain ⟨sl,q⟩:=slot c o (I.cne x c e) hc G U (I.z9 x c e);exact {_,q,hd}
  .exact {o,keep c o (I.cne x c e) hc G U (I.z9 x c e),hd}
 refine {I.ok,I.os,hg,{λb o e n S hx=>?_,λb o e n S hx=>?_,λb o e n hx=>?_,λb o e hx=>?_,λb xs e=>tups b xs (I.base.tups b xs e),λb o xs e=>frzs b o xs (I.base.frzs b o xs e),λb ps e=>?_},?_,λx c e=>?_,?_,λx c e=>?_,λp hp=>?_,hok,I.len,I.hdk.same frzs}
 .exact keep b o (W b o e) S (J b o e hx) (I.base.keep b o e n S hx) (I.base.free b o e n hx)
 .obtain ⟨sl,O⟩:=I.base.slot b o e n S hx;obtain ⟨ab,Z⟩:=slot b _ (W b o e) S (J b o e hx) O (I.base.free b o e n hx);exact ⟨ab,Z⟩
 .obtain ⟨o',O⟩:=I.base.there b o e hx;exact free b o' (J b o e hx) O (I.base.free b o e n hx)
 .obtain ⟨o',O⟩:=I.base.there b o e hx;exact there b o' (J b o e hx) O
 .obtain ⟨m1,O⟩:=I.base.tbls b ps e;obtain ⟨m2,Z⟩:=tbls b _ O;exact {m1++m2,by rw [Z,Array.append_assoc]}
 .obtain ⟨m,hn,hl⟩:=I.loc;refine {m,ns m hn,λi x v O Z e3=>?_};obtain ⟨u,r,l⟩:=hl i x v O Z e3;refine {u,r,?_};rcases l with l|⟨k,c,e,z⟩
  .exact .inl l
  .exact .inr {k,c,e,F x c e _ z}
 .obtain ⟨v,z⟩:=I.cell x c e;exact {v,F x c e v z}
 .obtain ⟨m,⟨o,_,_,U,_⟩,_⟩:=I.loc;exact free _ o (λz=>(Xk _ z).2.1 rfl) U I.free
 .obtain ⟨v,o,U,hd⟩:=I.cell x c e;exact free c o (λz=>(Xk c z).2.2.1 x c e rfl) U (I.z9 x c e)
 .obtain ⟨e,n,ne,nf,d⟩:=I.pin p hp;have G:p.1∉ch:=λz=>(Xk p.1 z).2.2.2 p hp rfl;exact {keep p.1 p.2 ne nf G e n,free p.1 p.2 G e n,ne,nf,d}
theorem Inv.un(I:Inv X Go σ H s)(u:Un X.fs [] H H' s.heap h')(hok:HOk X.prog X.w H' h'):Inv X Go σ H' { s with heap:=h',toks:=t' }:=by
 obtain ⟨m,⟨o,es,ep,O,r⟩,_⟩:=id I.loc;obtain ⟨sl,U⟩:=u.any O I.free 'z';exact I.step (g':=s.gens) (d':=s.drawn) (ch:=[]) (λ_ z=>nomatch z) (λb o _ F _ e n=>u.keep b o e n F 'z') (λb o _ F _ e n=>u.slot b o e n F 'z') (λb o _ e n=>u.free b o e n 'z') (λb o _ e=>u.there b o e 'z') u.tups u.frzs u.tbls (λW hm=>by
  obtain ⟨o',S,G,J,r'⟩:=hm;rw [O] at J;cases J;exact {_,S,G,U,r'}) hok I.bare
theorem Inv.call(I:Inv X Go σ H s)(u:Un (frs X.stack) ch H H' s.heap h')(hok:HOk X.prog X.w H' h')(hg:RI g')(U:∀b∈ch,(b∈X.ex\/X.s₀.heap.objs.size<=b)/\b≠X.env.locals/\(∀x c,X.env.cells.lookup x=some c->c≠b)/\∀p∈X.pn++Go,p.1≠b):
  Inv X Go σ H' { s with heap:=h',gens:=g',drawn:=d',toks:=t' }:=by
 obtain ⟨m,⟨o,es,ep,S,r⟩,_⟩:=id I.loc;obtain ⟨sl,J⟩:=u.any S I.free λz=>(U _ z).2.1 rfl;exact I.step (ch:=ch) U (λb o J W F e n=>u.keep b o e n (λz=>(OH.mp (I.UJ b z)).elim J W) F) (λb o _ _ F e n=>u.any e n F) (λb o F e n=>u.free b o e n F) (λb o F e=>u.there b o e F) u.tups u.frzs u.tbls (λm' hm=>by
  obtain ⟨o',Z,G,O,r'⟩:=hm;rw [S] at O;cases O;exact {_,Z,G,J,r'}) hok hg
theorem Inv.turned(I:Inv X Go σ H s)(k:∀b o,b≠it->s.heap.get? b=some o->h'.get? b=some o)(O:H it=none)(J:it≠X.env.locals)(h1:it∈X.ex\/X.s₀.heap.objs.size<=it)(h2:∀x c,X.env.cells.lookup x=some c->c≠it)(h3:∀p∈X.pn++Go,p.1≠it):Inv X Go σ H { s with heap:=h',toks:=t' }:=by
 have G:∀b u,H b=some u->b≠it:=λb u e z=>by rw [z,O] at e;cases e
 refine I.step (g':=s.gens) (d':=s.drawn) (ch:=[it]) (λb S=>?_) (λb o _ _ F e _=>k b o (λz=>F (by simp [z])) e) (λb o _ _ F e _=>{o.slots,k b o (λz=>F (by simp [z])) e}) (λ_ _ _ _ n=>n)
  (λb o F e=>{o,k b o (λz=>F (by simp [z])) e}) (λ_ _ e=>e) (λ_ _ _ e=>e) (λb ps e=>{#[],by rw [e];simp}) (λm hm=>?_) (λb u e=>?_) I.bare
 .have e:b=it:=by simpa using S
  subst e;exact ⟨h1,J,h2,h3⟩
 .obtain ⟨o,es,ep,U,r⟩:=hm;exact {o,es,ep,k _ o (Pe J) U,r}
 .refine (I.hok b u e).UE (λc v F q=>k c v ?_ q) (λ_ q=>q) λ_ _ q=>q;rcases F with z|z
  .rw [z];exact G b u e
  .exact G c _ z
theorem Inv.tok(I:Inv X Go σ H s)(t:Nat):Inv X Go σ H { s with toks:=t }:=I.un (h':=s.heap) (t':=t) Un.refl I.hok
theorem Inv.kept(I:Inv X Go σ H s)(k:∀b u,s.heap.get? b=some u->h'.get? b=some u):Inv X Go σ H { s with heap:=h',toks:=t' }:=I.un (Un.kept k) (I.hok.kept k)
theorem Inv.laid{o:HO}(I:Inv X Go σ H s)(k:∀b u,s.heap.get? b=some u->h'.get? b=some u)(z:s.heap.objs.size<=a)(new:ae X.prog X.w (upd H a o) h' a o):
  Inv X Go σ (upd H a o) { s with heap:=h',toks:=t' }:=I.un (Un.laid k z (I.hok.fresh z)) (I.hok.laid k z new)
theorem Inv.write{o:HO}(I:Inv X Go σ H s)(F:Mut (H x))(G:e=x\/H e=some (.own x))(k:∀b u,b≠e->s.heap.get? b=some u->h'.get? b=some u)(z:∃u,h'.get? e=some u)(new:ae X.prog X.w (upd H x o) h' x o):Inv X Go σ (upd H x o) { s with heap:=h',toks:=t' }:=I.un (Un.write F G k z) (I.hok.write F G k z new)
theorem Inv.xy(I:Inv X Go σ H s)(h:∀p∈pins',s.heap.get? p.1=some p.2/\H p.1=none/\p.1≠X.env.locals/\p.1∉X.fs/\∀v,p.2.data≠.cell v):Inv X pins' σ H s :=
 {I.ok,I.os,I.bare,I.base,I.loc,I.cell,I.free,I.z9,λp F=>(Pk.mp F).elim (λz=>I.pin p (Pz _ z)) (h p),I.hok,I.len,I.hdk}
theorem xZ{N:List Str}(hN:N.Nodup){i j:Nat}(a:N[i]?=some x)(b:N[j]?=some x):i=j:=by
 obtain ⟨h1,z⟩:=OE.mp a;obtain ⟨h2,F⟩:=OE.mp b;exact (List.getElem_inj hN).mp (z.trans F.symm)
theorem N8(I:Inv X Go σ H s)(hN:X.N.Nodup)(hi:X.N[i]?=some x)(hx:Loc X.env.scope x)(r:zo v u)(h:∀s',Inv X Go (σ.set i (some v)) H s'->(∃a,Qy a s.heap s'.heap/\(a=X.env.locals\/X.env.cells.lookup x=some a))->Q () s')(hf:X.fn x=true\/X.env.scope.names.lookup x=some .local:=by first|exact .inl rfl|exact .inr rfl|assumption):OJ M A (storeName X.env x u) Q E s:=by
 obtain ⟨m,hn,hl⟩:=id I.loc;have ar:(X.env.scope.kind == .class||(X.env.scope.kind == .module&&X.env.locals != X.env.globals))=false:=by rw [I.ok.kind];rfl
 have S:i<σ.length:=by rw [I.len];exact (OE.mp hi).1
 have cne:=I.cne;have XD:∀{a:Addr}{h':Heap},(∃o,s.heap.get? a=some o/\H a=none)->Qy a s.heap h'->HOk X.prog X.w H h':=λ{a h'} ha hs b ob e=>by
  obtain ⟨_,_,J⟩:=ha;refine (I.hok b ob e).UE (λc w' G q=>(hs.2 c ?_).trans q) (λ_ q=>q) λ_ _ q=>q;rintro rfl;rcases G with rfl|G
  .rw [J] at e;cases e
  .rw [J] at G;cases G
 rcases hx with U|U
 .refine wpAny_storeName_local U hn (λh' aF hs=>?_) ar;obtain ⟨oL,_,_,Xp,_⟩:=id hn;refine h _ {I.ok,I.os,I.bare,{λb o e n hb hx=>?_,λb o e n hb hx=>?_,I.base.free,λb o e hx=>?_,I.base.tups,I.base.frzs,I.base.tbls},{_,aF,λj y v' F O e3=>?_},λy c e=>?_,I.free,I.z9,λp hp=>?_,XD ⟨oL,Xp,I.free⟩ hs,by simpa using I.len,I.hdk} {_,hs,.inl rfl}
  .exact (hs.2 b (Pr (Pd (O4 e) I.ok.above))).trans (I.base.keep b o e n hb hx)
  .obtain ⟨sl,F⟩:=I.base.slot b o e n hb hx;exact {sl,(hs.2 b (Pr (Pd (O4 e) I.ok.above))).trans F}
  .obtain ⟨o',F⟩:=I.base.there b o e hx;exact {o',(hs.2 b (Pr (Pd (O4 e) I.ok.above))).trans F}
  .by_cases W:j=i
   .subst W;rw [hi] at F;cases F;rw [List.getElem?_set_self S] at O;cases O;exact {u,r,.inl {U,'z'}}
   .rw [SG (Pe W)] at O;obtain ⟨u',r',q⟩:=hl j y v' F O e3;refine {u',r',?_};rcases q with ⟨k,e⟩|⟨k,c,e,z⟩
    .refine .inl {k,?_};have:y≠x:=λe=>W (xZ hN F (e ▸ hi));simp [this,e]
    .exact .inr {k,c,e,z.sameBut hs (cne y c e)}
  .obtain ⟨w',z⟩:=I.cell y c e;exact {w',z.sameBut hs (cne y c e)}
  .obtain ⟨e,n,ne,nf,d⟩:=I.pin p hp;exact {(hs.2 p.1 ne).trans e,n,ne,nf,d}
 .have Z:X.fn x=true:=by
   rcases hf with z|z
   .exact z
   .rw [z] at U;cases U
  obtain ⟨c,G⟩:=I.ok.has x (.inl U);obtain ⟨w',z⟩:=I.cell x c G;refine wpAny_storeName_cell I.ok.kind U G z (λh' X8 hs=>?_);obtain ⟨oc,ab,av⟩:=id z;refine h { s with heap:=h' } {I.ok,I.os,I.bare,{λb o e n hb hx=>?_,λb o e n hb hx=>?_,I.base.free,λb o e hx=>?_,I.base.tups,I.base.frzs,I.base.tbls},{m,hn.sameBut hs (Pe (cne x c G)),λj y v' F O e3=>?_},λy c' e=>?_,I.free,I.z9,λp hp=>?_,XD {oc,ab,I.z9 x c G} hs,by simpa using I.len,I.hdk} {c,hs,.inr G}
  .exact (hs.2 b (Pr (Pd (O4 e) (I.ok.bJ x c Z G)))).trans (I.base.keep b o e n hb hx)
  .obtain ⟨sl,F⟩:=I.base.slot b o e n hb hx;exact {sl,(hs.2 b (Pr (Pd (O4 e) (I.ok.bJ x c Z G)))).trans F}
  .obtain ⟨o',F⟩:=I.base.there b o e hx;exact {o',(hs.2 b (Pr (Pd (O4 e) (I.ok.bJ x c Z G)))).trans F}
  .by_cases W:j=i
   .subst W;rw [hi] at F;cases F;rw [List.getElem?_set_self S] at O;cases O;exact {u,r,.inr {.inl U,c,G,X8}}
   .rw [SG (Pe W)] at O;obtain ⟨u',r',q⟩:=hl j y v' F O e3;refine {u',r',?_};rcases q with q|⟨k,c',e,z'⟩
    .exact .inl q
    .refine .inr {k,c',e,z'.sameBut hs ?_};rintro rfl;exact W (xZ hN F (I.ok.inj _ _ _ e G ▸ hi))
  .by_cases ai:c'=c
   .subst ai;exact {_,X8}
   .obtain ⟨w2,z2⟩:=I.cell y c' e;exact {w2,z2.sameBut hs ai}
  .obtain ⟨e,n,ne,nf,d⟩:=I.pin p hp;refine {(hs.2 p.1 ?_).trans e,n,ne,nf,d};intro q;rw [q,ab] at e;have q':oc=p.2:=Pn.inj e;exact d w' (by rw [<- q'];exact av)
theorem ja(I:Inv X Go σ H s)(hN:X.N.Nodup)(hi:X.N[i]?=some x)(hx:Loc X.env.scope x)(r:zo v u)(h:∀s',Inv X Go (σ.set i (some v)) H s'->Q () s')(hf:X.fn x=true\/X.env.scope.names.lookup x=some .local:=by first|exact .inl rfl|exact .inr rfl|assumption):OJ M A (storeName X.env x u) Q E s :=
 N8 I hN hi hx r (λs' z _=>h s' z) hf
theorem Inv.aA(I:Inv X Go σ H s)(z:s'.os=s.os)(u:Un (frs X.stack) ch H H' s.heap s'.heap)(hok:HOk X.prog X.w H' s'.heap)(hg:RI s'.gens)(F:∀b∈ch,(b∈X.ex\/X.s₀.heap.objs.size<=b)/\b≠X.env.locals/\(∀x c,X.env.cells.lookup x=some c->c≠b)/\∀p∈X.pn++Go,p.1≠b):Inv X Go σ H' s':=by
 obtain ⟨h',g',d',t',o'⟩:=s';have e:o'=s.os:=z;subst e;exact I.call (g':=g') (t':=t') (d':=d') u hok hg F
end
abbrev XK:=Value->Option Addr->Hp->Prop
abbrev St:=List (Option V)
abbrev VK:=V->Hp->Prop
abbrev TE:=St->Hp->VK->Prop
abbrev TT:=St->Hp->(Bool->Hp->Prop)->Prop
abbrev TA:=St->Hp->(List V->Hp->Prop)->Prop
structure bb where
 nx:St->Hp->Prop
 rt:VK
 bk:St->Hp->Prop:=λ_ _=>False
 ct:St->Hp->Prop:=λ_ _=>False
abbrev TS:=bb->St->Hp->Prop
def EP(X:Cx)(Go:List (Addr×Obj))(σ:St)(Q:VK)(u:Value)(s':Ow):Prop:=∃v H',Inv X Go σ H' s'/\zo v u/\Q v H'
def TP(X:Cx)(Go:List (Addr×Obj))(σ:St)(Q:Bool->Hp->Prop)(b:Bool)(s':Ow):Prop:=∃H',Inv X Go σ H' s'/\Q b H'
def AP(X:Cx)(Go:List (Addr×Obj))(σ:St)(Q:List V->Hp->Prop)(us:List Value)(s':Ow):Prop:=∃vs H',Inv X Go σ H' s'/\zt vs us/\Q vs H'
def SP(X:Cx)(Go:List (Addr×Obj))(D:bb)(f:Flow)(s':Ow):Prop :=
 match f with
 | .next=>∃z H',Inv X Go z H' s'/\D.nx z H'
 | .brk=>∃z H',Inv X Go z H' s'/\D.bk z H'
 | .cont=>∃z H',Inv X Go z H' s'/\D.ct z H'
 | .ret u=>∃v z H',Inv X Go z H' s'/\zo v u/\D.rt v H'
def PE(X:Cx)(e:O3)(t:TE):Prop :=
 ∀(Go:List (Addr×Obj))(s:Ow)(σ:St)(H:Hp)(Q:VK),Inv X Go σ H s->t σ H Q->OJ (OR X.prog X.w) X.A (Qc e X.env) (EP X Go σ Q) X.xe s
def PT(X:Cx)(e:O3)(t:TT):Prop :=
 ∀(Go:List (Addr×Obj))(s:Ow)(σ:St)(H:Hp)(Q:Bool->Hp->Prop),Inv X Go σ H s->t σ H Q->OJ (OR X.prog X.w) X.A (isTrue e X.env (Qc e X.env)) (TP X Go σ Q) X.xe s
def PW(X:Cx)(e:O3)(t:TT):Prop :=
 ∀(z:Sem Value)(Go:List (Addr×Obj))(s:Ow)(σ:St)(H:Hp)(Q:Bool->Hp->Prop),Inv X Go σ H s->t σ H Q->OJ (OR X.prog X.w) X.A (isTrue e X.env z) (TP X Go σ Q) X.xe s
theorem PW.pt{t:TT}(h:PW X e t):PT X e t:=h _
def PA(X:Cx)(es:List O3)(t:TA):Prop :=
 ∀(pos:Pos)(Go:List (Addr×Obj))(s:Ow)(σ:St)(H:Hp)(Q:List V->Hp->Prop),Inv X Go σ H s->t σ H Q->OJ (OR X.prog X.w) X.A (spliced (Rq pos (Pb es X.env))) (AP X Go σ Q) X.xe s
def PS(X:Cx)(st:Stmt)(t:TS):Prop :=
 ∀(Go:List (Addr×Obj))(s:Ow)(σ:St)(H:Hp)(D:bb),Inv X Go σ H s->t D σ H->OJ (OR X.prog X.w) X.A (exec st X.env) (SP X Go D) X.xe s
def PSs(X:Cx)(st:List Stmt)(t:TS):Prop :=
 ∀(Go:List (Addr×Obj))(s:Ow)(σ:St)(H:Hp)(D:bb),Inv X Go σ H s->t D σ H->OJ (OR X.prog X.w) X.A (execs st X.env) (SP X Go D) X.xe s
theorem x2e{a b c:Prop}(f:a->b->c)(h:a/\b):c:=f h.1 h.2
theorem x3e{α:Sort _}{A B:α->Prop}{D:Prop}(f:∀x,A x->B x->D)(h:∃x,A x/\B x):D:=h.elim λx z=>f x z.1 z.2
theorem x4e{α β:Sort _}{A B:α->β->Prop}{D:Prop}(f:∀x y,A x y->B x y->D)(h:∃x y,A x y/\B x y):D:=h.elim λx=>x3e (f x)
theorem x5e{α β:Sort _}{A B C:α->β->Prop}{D:Prop}(f:∀x y,A x y->B x y->C x y->D)(h:∃x y,A x y/\B x y/\C x y):D:=h.elim λx=>x3e λy a=>x2e (f x y a)
theorem thn{α:Type}{t:Sem α}{Q z:α->Ow->Prop}(h:OJ M A t Q E s)(F:∀a s,Q a s->z a s):OJ M A t z E s:=Pp h F λ_ _ x=>x
section
variable {X:Cx}
def f9(i:Nat):TE:=λσ H Q=>∃v,σ[i]?=some (some v)/\Q v H
def tC(v:V):TE:=λ_ H Q=>Q v H
theorem Ku(hN:X.N[i]?=some x)(hv:Vis X.env.scope x)(hd:(x==("__debug__":Str))=false:=by decide)(hcd:(x==("__classdict__":Str))=false:=by decide):PE X (.Name x pos) (f9 i):=by
 intro Go s σ H Q I h;obtain ⟨v,e,h⟩:=h;obtain ⟨m,O,hl⟩:=I.loc;obtain ⟨u,r,l⟩:=hl i x v hN e hv;have F:EP X Go σ Q u s:=⟨v,H,I,r,h⟩;rcases l with ⟨z,hm⟩|⟨z,c,G,J⟩
 .exact wpAny_Name (SB I.ok.kind z O hm F) hd
 .rcases z with z|z
  .exact wpAny_Name (wpAny_loadName_cell I.ok.kind z G J F) hd
  .exact wpAny_Name (wpAny_loadName_free I.ok.kind z G J F hcd) hd
theorem yD{i j pos}:PE X (.Constant (.int i) j pos) (tC (.int i)):=λ_ _ _ H _ I h=>SY {.int i,H,I.tok _,{_,rfl},h}
theorem eG{b j pos}:W (PE X (.Constant (.bool b) j pos) (tC (.bl b))):={λ_ _ _ H _ I h=>Constant_bool {.bl b,H,I,rfl,h}}
theorem cE{j pos}:W (PE X (.Constant .none j pos) (tC .non)):={λ_ _ _ H _ I h=>Constant_none {.non,H,I,rfl,h}}
theorem zF{x j pos}:W (PE X (.Constant (.str x) j pos) (tC (.str x))):={λ_ _ _ H _ I h=>Calls.Constant_str {.str x,H,I.tok _,{_,rfl},h}}
def Gl(X:Cx)(x:Str):Prop:=X.env.kindOf x=some .globalImplicit
theorem gE(I:Inv X Go σ H s)(hg:Gl X x)(hm:X.mg x=some u)(h:Q u s)(hd:(x==("__debug__":Str))=false:=by decide):OJ (OR X.prog X.w) X.A (Qc (.Name x pos) X.env) Q E s :=
 Calls.Name_function_global I.ok.kind hg (Calls.loadGlobal_global (by rw [I.ok.glob];exact I.mod.glob.keeps I.bk) hm h) hd
theorem fQ(I:Inv X Go σ H s)(hg:Gl X x)(hm:X.mg x=none)(hv:Rz x=some u)(h:Q u s)(z:x≠"__name__":=by decide)(hd:(x==("__debug__":Str))=false:=by decide):OJ (OR X.prog X.w) X.A (Qc (.Name x pos) X.env) Q E s:=by
 obtain ⟨F,h1,h2⟩:=I.mod.blt;exact Calls.Name_function_global I.ok.kind hg (Calls.loadGlobal_builtin (by rw [I.ok.glob];exact I.mod.glob.keeps I.bk) hm (by rw [I.ok.blt];exact h1.keeps I.bk) ((h2 x z).trans hv) h) hd
theorem Ec(hg:Gl X x)(hm:X.mg x=some u)(r:zo v u)(hd:(x==("__debug__":Str))=false:=by decide):PE X (.Name x pos) (tC v) :=
 λ_ _ _ H _ I h=>gE I hg hm ⟨v,H,I,r,h⟩ hd
theorem jJ(hg:Gl X x)(hm:X.mg x=none)(hv:Rz x=some u)(r:zo v u)(z:x≠"__name__":=by decide)(hd:(x==("__debug__":Str))=false:=by decide):W (PE X (.Name x pos) (tC v)):={λ_ _ _ H _ I h=>fQ I hg hm hv ⟨v,H,I,r,h⟩ z hd}
variable {a b:O3}{ta tb:TE}{pos:Pos}
variable {tA tB':TT}{rest:List O3}
def uQ(t u:TT):TT:=λσ H Q=>t σ H λc H1=>if c=true then u σ H1 Q else Q false H1
def tOr(t u:TT):TT:=λσ H Q=>t σ H λc H1=>if c=true then Q true H1 else u σ H1 Q
def A6(t:TT):TT:=λσ H Q=>t σ H λc H1=>Q (!c) H1
theorem ju(z:W (PT X a tA)):W (PW X (.BoolOp .And [a] pos) tA):=by
 refine {?_};have z:=z.h;intro F Go s σ H Q I h;refine isTrue_and (thn (z Go s σ H Q I h) λc s1 e=>?_);cases c with
 | true=>exact isTrue_and_nil e
 | false=>exact e
theorem kS(z:W (PT X a tA)):W (PW X (.BoolOp .Or [a] pos) tA):=by
 refine {?_};have z:=z.h;intro F Go s σ H Q I h;refine isTrue_or (thn (z Go s σ H Q I h) λc s1 e=>?_);cases c with
 | false=>exact isTrue_or_nil e
 | true=>exact e
theorem je(z:W (PT X a tA))(F:W (PW X (.BoolOp .And (b::rest) pos) tB')):W (PW X (.BoolOp .And (a::b::rest) pos) (uQ tA tB')):=by
 refine {?_};have z:=z.h;have F:=F.h;intro O Go s σ H Q I h;refine isTrue_and (thn (z Go s σ H _ I h) λc s1=>x3e λH1 J G=>?_);cases c with
 | true=>exact F O Go s1 σ H1 Q J G
 | false=>exact ⟨H1,J,G⟩
theorem j4(z:W (PT X a tA))(F:W (PW X (.BoolOp .Or (b::rest) pos) tB')):W (PW X (.BoolOp .Or (a::b::rest) pos) (tOr tA tB')):=by
 refine {?_};have z:=z.h;have F:=F.h;intro O Go s σ H Q I h;refine isTrue_or (thn (z Go s σ H _ I h) λc s1=>x3e λH1 J G=>?_);cases c with
 | true=>exact ⟨H1,J,G⟩
 | false=>exact F O Go s1 σ H1 Q J G
theorem eE(z:W (PT X a tA)):W (PT X (.UnaryOp .Not a pos) (A6 tA)):=by
 refine {?_};have z:=z.h;intro Go s σ H Q I h;exact isTrue_not (z Go s σ H (λc H1=>Q (!c) H1) I h)
def n0(ta tb:TE):TE:=λσ H Q=>ta σ H λx H1=>∃c,x = .bl c/\if c=true then tb σ H1 Q else Q (.bl false) H1
def vR(ta tb:TE):TE:=λσ H Q=>ta σ H λx H1=>∃c,x = .bl c/\if c=true then Q (.bl true) H1 else tb σ H1 Q
def nR(ta:TE):TE:=λσ H Q=>ta σ H λx H1=>∃c,x = .bl c/\Q (.bl (!c)) H1
theorem jy{op}{t:TE}(h:W (PE X a t)):W (PE X (.BoolOp op [a] pos) t):=by refine {?_};have h:=h.h;exact λGo s σ H Q I hw=>BoolOp_one (h Go s σ H Q I hw)
theorem ji(F:W (PE X a ta))(G:W (PE X (.BoolOp .And (b::rest) pos) tb)):W (PE X (.BoolOp .And (a::b::rest) pos) (n0 ta tb)):=by
 refine {?_};have F:=F.h;have G:=G.h;intro Go s σ H Q I h;refine BoolOp_and (thn (F Go s σ H _ I h) λv s1=>x5e λx H1 J O z=>?_);obtain ⟨c,rfl,z⟩:=z;cases O;refine QI ?_;cases c with
 | true=>exact G Go s1 σ H1 Q J z
 | false=>exact {.bl false,H1,J,rfl,z}
theorem B6(F:W (PE X a ta))(G:W (PE X (.BoolOp .Or (b::rest) pos) tb)):W (PE X (.BoolOp .Or (a::b::rest) pos) (vR ta tb)):=by
 refine {?_};have F:=F.h;have G:=G.h;intro Go s σ H Q I h;refine BoolOp_or (thn (F Go s σ H _ I h) λv s1=>x5e λx H1 J O z=>?_);obtain ⟨c,rfl,z⟩:=z;cases O;refine QI ?_;cases c with
 | false=>exact G Go s1 σ H1 Q J z
 | true=>exact {.bl true,H1,J,rfl,z}
theorem Hb(z:W (PE X a ta)):W (PE X (.UnaryOp .Not a pos) (nR ta)):=by
 refine {?_};have z:=z.h;intro Go s σ H Q I h;refine UnaryOp_ (thn (z Go s σ H _ I h) λv s1=>x5e λx H1 J G F=>?_);obtain ⟨c,rfl,F⟩:=F;cases G;exact not_of (QI {.bl (!c),H1,J,rfl,F})
def tIf(t:TT)(ta tb:TE):TE:=λσ H Q=>t σ H λc H1=>if c=true then ta σ H1 Q else tb σ H1 Q
theorem lY(G:W (PT X c tA))(z:W (PE X a ta))(F:W (PE X b tb)):W (PE X (.IfExp c a b pos) (tIf tA ta tb)):=by
 refine {?_};have G:=G.h;have z:=z.h;have F:=F.h;intro Go s σ H Q I h;refine wpAny_IfExp (thn (G Go s σ H _ I h) λd s1=>x3e λH1 O J=>?_);cases d with
 | true=>exact z Go s1 σ H1 Q O J
 | false=>exact F Go s1 σ H1 Q O J
end
def SqL(K:OF)(H:Hp)(a:Addr)(xs:List V):Prop :=
 Rd H a (.lst xs) \/
  ∃(o:Obj)(its:Array Value)(n:Nat),K.lookup a=some o/\o.cls = .type "list"/\o.dict=none/\o.data = .seq its n/\its.size<=sizeLine/\zt xs its.toList
def SqT(K:OF)(H:Hp)(a:Addr)(xs:List V):Prop :=
 Rd H a (.tup xs) \/
  ∃(o:Obj)(its:Array Value)(n:Nat),K.lookup a=some o/\o.cls = .type "tuple"/\o.data = .seq its n/\its.size<=sizeLine/\zt xs its.toList
def Bo:Value->Option V
 | .none=>some .non
 | .bool b=>some (.bl b)
 | .int i _=>some (.int i)
 | .str x _=>some (.str x)
 | .bytes b _=>some (.byt b)
 | .float b _=>some (.flt b)
 | .ref a=>some (.ref a)
 | .type n=>some (.ty n)
 | _=>none
theorem zo.abs(r:zo x u):Bo u=some x:=by
 cases x with
 | non=>cases r;rfl
 | bl _=>cases r;rfl
 | int _=>obtain ⟨t,rfl⟩:=r;rfl
 | str _=>obtain ⟨t,rfl⟩:=r;rfl
 | byt _=>obtain ⟨t,rfl⟩:=r;rfl
 | flt _=>obtain ⟨t,rfl⟩:=r;rfl
 | ref _=>cases r;rfl
 | ty _=>cases r;rfl
theorem zo.inj(r:zo x u)(q:zo y u):x=y:=Pn.inj (r.abs.symm.trans q.abs)
theorem zt.inj(h:zt xs us):∀{ys:List V},zt ys us->xs=ys:=by
 induction h with
 | nil=>intro ys k;cases k;rfl
 | cons r t z =>
  intro ys k;cases k with
  | cons r' t'=>rw [r.inj r',z t']
section
variable {X:Cx}{Go:List (Addr×Obj)}{σ:St}{H:Hp}{s:Ow}{a:Addr}{xs ys:List V}
theorem SqL.of{K:OF}(h:H a=some (.lst xs)):SqL K H a xs:=.inl (.inl h)
theorem SqT.of{K:OF}(h:H a=some (.tup xs)):SqT K H a xs:=.inl (.inl h)
theorem Inv.list(I:Inv X Go σ H s)(h:SqL X.K H a xs):∃its:List Value,zt xs its/\PlainL s.heap a its.toArray/\xs.length<=sizeLine:=by
 rcases h with h|⟨o,its,n,F,G,hd,hs,hz,r⟩
 .obtain ⟨z,its,n,r,e⟩:=h.ok I.hok;exact {its,r,{_,n,e,rfl,rfl,rfl},z}
 .refine {its.toList,r,{o,n,I.UB a o F,G,hd,by simpa using hs},?_};have e:=r.length;simp only [QC] at e;lia
theorem Inv.tuple(I:Inv X Go σ H s)(h:SqT X.K H a xs):∃its:List Value,zt xs its/\Tr s.heap a its.toArray/\xs.length<=sizeLine:=by
 rcases h with h|⟨o,its,n,F,G,hs,hz,r⟩
 .obtain ⟨z,its,r,p⟩:=h.ok I.hok;exact ⟨its,r,p,z⟩
 .refine {its.toList,r,{o,I.UB a o F,G,n,by simpa using hs},?_};have e:=r.length;simp only [QC] at e;lia
theorem Inv.ax(I:Inv X Go σ H s)(h:SqL X.K H a xs)(h':SqL X.K H a ys):xs=ys:=by
 obtain ⟨its,r,⟨o,n,e,_,_,d⟩,_⟩:=I.list h;obtain ⟨its',r',⟨o',F,z,_,_,d'⟩,_⟩:=I.list h';rw [e] at z;cases z;rw [d] at d';injection d' with d1 _
 have:its=its':=by simpa using congrArg Array.toList d1
 subst this;exact r.inj r'
theorem Inv.UY(I:Inv X Go σ H s)(h:SqT X.K H a xs)(h':SqT X.K H a ys):xs=ys:=by
 obtain ⟨its,r,⟨o,e,_,n,d⟩,_⟩:=I.tuple h;obtain ⟨its',r',⟨o',z,_,F,d'⟩,_⟩:=I.tuple h';rw [e] at z;cases z;rw [d] at d';injection d' with d1 _
 have:its=its':=by simpa using congrArg Array.toList d1
 subst this;exact r.inj r'
end
abbrev Cx.UD(X:Cx)(E:Value->Ow->Prop):Cx:={ X with xe:=E }
abbrev Cx.bw(X:Cx):Cx:=X.UD λ_ _=>False
theorem Cx.Ok.UD{X:Cx}(ok:X.Ok)(E:Value->Ow->Prop):(X.UD E).Ok :=
 ⟨ok.mod,ok.kind,ok.glob,ok.blt,ok.above,ok.inj,ok.has,ok.bJ,ok.hd,ok.frames,ok.bP,ok.cw,ok.bs,ok.aF,ok.az,ok.aD,ok.UF,ok.aY⟩
theorem Cx.Ok.ri{X:Cx}(ok:(X.UD E).Ok):X.Ok :=
 ⟨ok.mod,ok.kind,ok.glob,ok.blt,ok.above,ok.inj,ok.has,ok.bJ,ok.hd,ok.frames,ok.bP,ok.cw,ok.bs,ok.aF,ok.az,ok.aD,ok.UF,ok.aY⟩
section
variable {X:Cx}{Go:List (Addr×Obj)}{σ:St}{H:Hp}{s:Ow}{E:Value->Ow->Prop}
theorem Inv.UD(I:Inv X Go σ H s)(E:Value->Ow->Prop):Inv (X.UD E) Go σ H s:={I.ok.UD E,I.os,I.bare,I.base,I.loc,I.cell,I.free,I.z9,I.pin,I.hok,I.len,I.hdk}
theorem Inv.ri(I:Inv (X.UD E) Go σ H s):Inv X Go σ H s:=⟨I.ok.ri,I.os,I.bare,I.base,I.loc,I.cell,I.free,I.z9,I.pin,I.hok,I.len,I.hdk⟩
theorem SP.ri(h:SP (X.UD E) Go D f s'):SP X Go D f s':=by
 cases f with
 | next=>obtain ⟨z,H',I,q⟩:=h;exact ⟨z,H',I.ri,q⟩
 | brk=>obtain ⟨z,H',I,q⟩:=h;exact ⟨z,H',I.ri,q⟩
 | cont=>obtain ⟨z,H',I,q⟩:=h;exact ⟨z,H',I.ri,q⟩
 | ret u=>obtain ⟨v,z,H',I,r,q⟩:=h;exact ⟨v,z,H',I.ri,r,q⟩
theorem PSs.bw{st:List Stmt}{t:TS}(h:PSs X.bw st t):PSs X st t:=λGo s σ H D I hw =>
 Pp (h Go s σ H D (I.UD _) hw) (λ_ _ q=>q.ri) λ_ _ z=>False.elim z
end
section
variable {X:Cx}{st:Stmt}{rest:List Stmt}{t u:TS}{e:O3}{te:TE}{pos:Pos}
def uJ:TS:=λD σ H=>D.nx σ H
def AY(t u:TS):TS:=λD σ H=>t { D with nx:=u D } σ H
theorem zR:W (PSs X [] uJ):={λ_ _ σ H _ I h=>RB {σ,H,I,h}}
theorem zg(h1:W (PS X st t))(h2:W (PSs X rest u)):W (PSs X (st::rest) (AY t u)):=by
 refine {?_};have h1:=h1.h;have h2:=h2.h;intro Go s σ H D I h;refine wpAny_execs_cons (thn (h1 Go s σ H { D with nx:=u D } I h) λf s1 q=>?_);cases f with
 | next =>
  obtain ⟨z,H',F,q⟩:=q;exact h2 Go s1 z H' D F q
 | ret v=>exact q
 | brk=>exact q
 | cont=>exact q
theorem zh(h1:W (PS X st t)):W (PSs X [st] t):=by
 refine {?_};have h1:=h1.h;intro Go s σ H D I h;refine wpAny_execs_cons (thn (h1 Go s σ H D I h) λf s1 q=>?_);cases f with
 | next=>exact RB q
 | ret v=>exact q
 | brk=>exact q
 | cont=>exact q
theorem Inv.quiet(I:Inv X Go σ H s):interactive X.env=false:=by simp [interactive,I.ok.kind]
def wV(te:TE):TS:=λD σ H=>te σ H λ_ H1=>D.nx σ H1
theorem aL(z:W (PE X e te))(hs:SR e none pos.line X.env=pure false:=by rfl):W (PS X (.Expr e pos) (wV te)):=by
 refine {?_};have z:=z.h;intro Go s σ H D I h;exact wpAny_Expr_any (thn (z Go s σ H _ I h) λv s1=>x5e λx H1 F J G=>{σ,H1,F,G}) I.quiet hs
def AH(te:TE):TS:=λD σ H=>te σ H D.rt
theorem zx(z:W (PE X e te)):W (PS X (.Return (some e) pos) (AH te)):=by
 refine {?_};have z:=z.h;intro Go s σ H D I h;exact wpAny_Return_some (thn (z Go s σ H _ I h) λv s1=>x5e λx H1 G F J=>{x,σ,H1,G,F,J})
def yS(c:TT)(t u:TS):TS:=λD σ H=>c σ H λb H1=>if b=true then t D σ H1 else u D σ H1
theorem zM(G:W (PT X c tc))(z:W (PSs X a t))(F:W (PSs X b u)):W (PS X (.If c a b pos) (yS tc t u)):=by
 refine {?_};have G:=G.h;have z:=z.h;have F:=F.h;intro Go s σ H D I h;refine wpAny_If (thn (G Go s σ H _ I h) λd s1=>x3e λH1 O J=>?_);cases d with
 | true=>exact z Go s1 σ H1 D O J
 | false=>exact F Go s1 σ H1 D O J
end
abbrev TG:=V->St->Hp->(St->Hp->Prop)->Prop
abbrev TGs:=List V->St->Hp->(St->Hp->Prop)->Prop
def PG(X:Cx)(z:O3)(t:TG):Prop :=
 ∀(Go:List (Addr×Obj))(s:Ow)(σ:St)(H:Hp)(v:V)(u:Value)(Q:St->Hp->Prop),Inv X Go σ H s->zo v u->t v σ H Q ->
  OJ (OR X.prog X.w) X.A (S8 z X.env u) (λ_ s'=>∃F H',Inv X Go F H' s'/\Q F H') X.xe s
def PGs(X:Cx)(ts:List O3)(t:TGs):Prop :=
 ∀(Go:List (Addr×Obj))(s:Ow)(σ:St)(H:Hp)(vs:List V)(us:List Value)(Q:St->Hp->Prop),Inv X Go σ H s->zt vs us->t vs σ H Q ->
  OJ (OR X.prog X.w) X.A (Tv ((Q1 ts X.env).map (·.2)) us) (λ_ s'=>∃z H',Inv X Go z H' s'/\Q z H') X.xe s
abbrev pH:=V->V->V->Hp->(Hp->Prop)->Prop
def mL(X:Cx)(t:pH):Prop :=
 ∀(Go:List (Addr×Obj))(s:Ow)(σ:St)(H:Hp)(o i v:V)(z F u:Value)(Q:Hp->Prop),Inv X Go σ H s->zo o z->zo i F->zo v u->t o i v H Q ->
  OJ (OR X.prog X.w) X.A (setItem z F u) (λ_ s'=>∃H',Inv X Go σ H' s'/\Q H') X.xe s
abbrev TIp:=V->V->Hp->VK->Prop
def PIp(X:Cx)(z:Operator)(t:TIp):Prop :=
 ∀(Go:List (Addr×Obj))(s:Ow)(σ:St)(H:Hp)(x y:V)(v u:Value)(Q:VK),Inv X Go σ H s->zo x v->zo y u->t x y H Q ->
  OJ (OR X.prog X.w) X.A (inplaceOp z v u) (EP X Go σ Q) X.xe s
section
variable {X:Cx}{pos:Pos}
def cN(i:Nat):TG:=λv σ H Q=>Q (σ.set i (some v)) H
theorem nQ(hN:X.N.Nodup)(hi:X.N[i]?=some x)(hx:Loc X.env.scope x)(hf:X.fn x=true\/X.env.scope.names.lookup x=some .local:=by first|exact .inl rfl|exact .inr rfl|assumption):PG X (.Name x pos) (cN i):=by
 intro Go s σ H v u Q I r h;exact wpAny_assign_Name (ja I hN hi hx r (λs' z=>{_,H,z,h}) hf)
def uL:TGs:=λvs σ H Q=>vs=[]/\Q σ H
def oB(t:TG)(u:TGs):TGs:=λvs σ H Q=>∃v r,vs=v::r/\t v σ H λz H'=>u r z H' Q
theorem dB:W (PGs X [] uL):=by
 refine {?_};intro Go s σ H vs us Q I r h;obtain ⟨e,h⟩:=h;subst e;cases r;exact assignInOrder_nil {σ,H,I,h}
theorem aE{t:TG}(h1:W (PG X e t))(h2:W (PGs X es u))(hs:(Q1 (e::es) X.env).map (·.2)=S8 e X.env::(Q1 es X.env).map (·.2):=by rfl):W (PGs X (e::es) (oB t u)):=by
 refine {?_};have h1:=h1.h;have h2:=h2.h;intro Go s σ H vs us Q I r h;obtain ⟨v,S,F,h⟩:=h;subst F;cases r with
 | cons r J =>
  rw [hs];refine S7 (thn (h1 Go s σ H _ _ _ I r h) λ_ s1=>x4e λz H1 O G=>?_);exact h2 Go s1 z H1 _ _ Q O J G
def nJ(K:OF)(n:Nat)(t:TGs):TG:=λv σ H Q=>∃a xs,v = .ref a/\SqT K H a xs/\xs.length=n/\t xs σ H Q
def yl(to ti:TE)(t:pH):TG:=λv σ H Q=>to σ H λo H1=>ti σ H1 λi H2=>t o i v H2 λH3=>Q σ H3
theorem fO{o i:O3}{to ti:TE}{t:pH}(G:W (PE X o to))(hi:W (PE X i ti))(hs:mL X t)
  (J:∀v,S8 (.Subscript o i pos) X.env v=(do
   let z<-Rx [v] (Qc o X.env)
   let F<-Rx [v,z] (Qc i X.env)
   RG pos
   Rx [v,z,F] (setItem z F v)
   release [v,z,F] []):=by intro _;rfl):W (PG X (.Subscript o i pos) (yl to ti t)):=by
 refine {?_};have G:=G.h;have hi:=hi.h;intro Go s σ H v u Q I r h;rw [J];refine we (O9 (thn (G Go s σ H _ I h) λz s1=>x5e λx H1 I1 r1 O=>?_));refine we (O9 (thn (hi Go s1 σ H1 _ I1 O) λF s2=>x5e λy H2 I2 U q2=>?_));refine we (Qi (we (O9 (thn (hs Go s2 σ H2 x y v z F u _ I2 r1 U r q2) λ_ s3=>x3e λH3 S Z=>?_))));exact wpAny_release {σ,H3,S,Z}
def gz(te:TE)(g:TG):TS:=λD σ H=>te σ H λx H1=>g x σ H1 D.nx
theorem eY(z:W (PE X e te))(hg:W (PG X tg g))(hs:swapsWithSole [tg] e pos.line X.env=pure false:=by rfl)(hw:swappedStores [tg] e X.env=pure none:=by rfl)(h1:(Q1 [tg] X.env).map (·.2)=[S8 tg X.env]:=by rfl):W (PS X (.Assign [tg] e pos) (gz te g)):=by
 refine {?_};have z:=z.h;have hg:=hg.h;intro Go s σ H D I h;refine wpAny_Assign_stores (thn (z Go s σ H _ I h) λv s1=>x5e λx H1 G F J=>?_) hs hw;rw [h1];exact thn (hg Go s1 σ H1 x v _ G F J) λ_ s2 q=>q
theorem zy(hN:X.N.Nodup)(hi:X.N[i]?=some x)(hx:Loc X.env.scope x)(z:W (PE X e te))(hs:SR e (some (.Name x Zt)) pos.line X.env=pure false:=by rfl)(hf:X.fn x=true\/X.env.scope.names.lookup x=some .local:=by first|exact .inl rfl|exact .inr rfl|assumption):W (PS X (.Assign [.Name x Zt] e pos) (gz te (cN i))):=by
 refine {?_};have z:=z.h;intro Go s σ H D I h;refine wpAny_Assign_Name (thn (z Go s σ H _ I h) λv s1=>x5e λy H1 J O F=>?_) hs;exact ja J hN hi hx O (λs2 G=>{_,H1,G,F}) hf
def p9(i j:Nat)(ta:TA):TS:=λD σ H=>ta σ H λvs H1=>∃v w,vs=[v,w]/\D.nx ((σ.set i (some v)).set j (some w)) H1
theorem IQ{z J pt:Pos}{kt k2 pt2}(hc:X.calm=true)(hN:X.N.Nodup)(hi:X.N[i]?=some x)(Z:X.N[j]?=some y)(O:i≠j)(hx:X.env.scope.names.lookup x=some .local)(U:X.env.scope.names.lookup y=some .local)(ha:PA X [a,b] ta)(hw:swappedStores [.Tuple [.Name x z,.Name y J] kt pt] (.Tuple [a,b] k2 pt2) X.env=pure (some [x,y]))(hs:swapsWithSole [.Tuple [.Name x z,.Name y J] kt pt] (.Tuple [a,b] k2 pt2) pos.line X.env=pure false:=by rfl):
  PS X (.Assign [.Tuple [.Name x z,.Name y J] kt pt] (.Tuple [a,b] k2 pt2) pos) (p9 i j ta):=by
 intro Go s σ H D I h;rw [exec_Assign_arm];refine we (Qi ?_);rw [hs];refine we (Oz ?_);rw [if_neg 'd'];refine we (Tuple_ (thn (ha _ Go s σ H _ I h) λus s1=>x5e λvs H1 I1 r1 F=>?_));obtain ⟨v,w,e1,F⟩:=F;subst e1;obtain ⟨u1,u2,rfl,rv,XM⟩:∃u1 u2,us=[u1,u2]/\zo v u1/\zo w u2:=by
  cases r1 with
  | cons p q =>
   cases q with
   | cons p' q' =>
    cases q';exact {_,_,rfl,p,p'}
 refine Pt ?_ (by show 2<=sizeLine;decide);have I2:Inv X Go σ H1 { s1 with heap:=s1.heap.push { cls:=.type "tuple",data:=.seq [u1,u2].toArray } }:=I1.kept (t':=s1.toks) λb o e=>Oy _ e;rw [hw];refine we (Oz ?_);show OJ (OR X.prog X.w) X.A (do rule "assign.swapped-stores";let items<-unpackItems (.ref s1.heap.objs.size) 2 none;Tv [λv=>bindName X.env y v,λv=>bindName X.env x v] items.reverse;pure Flow.next) _ _ _;refine we (QR (we (unpackItems_tuple (items:=#[u1,u2]) (I.ok.hd hc) (Tr.new s1.heap _) λh' G=>?_)));have W:=I2.kept (h':=h') (t':=s1.toks) λb o e=>G b o (Pr (O4 e)) e;show OJ _ _ (Tv [λv=>bindName X.env y v,λv=>bindName X.env x v] [u2,u1]>>=λ_=>pure Flow.next) _ _ _;refine we (S7 (wpAny_bindName (ja W hN Z (.inl U) XM (λs2 I4=>?_) (.inr U))));refine S7 (wpAny_bindName (ja I4 hN hi (.inl hx) rv (λs3 S=>assignInOrder_nil (Oz ?_)) (.inr hx)));rw [List.set_comm _ _ (Pe O)] at S;exact {_,H1,S,F}
def sY(i:Nat)(te:TE)(ti:TIp):TS:=λD σ H=>∃x,σ[i]?=some (some x)/\te σ H λy H1=>ti x y H1 λz H2=>D.nx (σ.set i (some z)) H2
theorem xq(hN:X.N.Nodup)(hi:X.N[i]?=some x)(hx:Loc X.env.scope x)(J:W (PE X e te))(ho:PIp X S ti)(hf:X.fn x=true\/X.env.scope.names.lookup x=some .local:=by first|exact .inl rfl|exact .inr rfl|assumption):W (PS X (.AugAssign (.Name x Zt) S e pos) (sY i te ti)):=by
 refine {?_};have J:=J.h;intro Go s σ H D I h;obtain ⟨v,e1,h⟩:=h;obtain ⟨m,Z,hl⟩:=I.loc;have O:Vis X.env.scope x:=by rcases hx with k|k;exact .inl k;exact .inr (.inl k)
 obtain ⟨u,r,l⟩:=hl i x v hi e1 O;refine wpAny_AugAssign_Name ?_;have go:OJ (OR X.prog X.w) X.A (Qc e X.env) (λw G=>OJ (OR X.prog X.w) X.A (inplaceOp S u w) (λr s₃=>OJ (OR X.prog X.w) X.A (storeName X.env x r) (λ_=>SP X Go D .next) X.xe s₃) X.xe G) X.xe s:=by
  refine thn (J Go s σ H _ I h) λw s1=>x5e λy H1 I1 r1 q1=>?_;refine thn (ho Go s1 σ H1 v y u w _ I1 r r1 q1) λz s2=>x5e λzv H2 I2 r2 q2=>?_;exact ja I2 hN hi hx r2 (λs3 U=>{_,H2,U,q2}) hf
 rcases l with ⟨F,hm⟩|⟨F,c,hc,XC⟩
 .exact SB I.ok.kind F Z hm go
 .rcases F with F|F
  .exact wpAny_loadName_cell I.ok.kind F hc XC go
  .rcases hx with k|k
   .have:X.env.scope.names.lookup x=some .free:=F;rw [k] at this;cases this
   .have:X.env.scope.names.lookup x=some .free:=F;rw [k] at this;cases this
def ipI(f:Int->Int->Int):TIp:=λx y H Q=>∃i j,x = .int i/\y = .int j/\Q (.int (f i j)) H
theorem AN:PIp X .Add (ipI λi j=>i+j):=by
 intro Go s σ H x y v u Q I z J h;obtain ⟨i,j,F,G,q⟩:=h;subst F;subst G;obtain ⟨t,rfl⟩:=z;obtain ⟨t',rfl⟩:=J;exact iadd_int {.int _,H,I.tok _,{_,rfl},q}
def wx(c:TT)(tb:TS):TS:=λD σ H=>∃W:Nat->St->Hp->Prop,(∃m,W m σ H)/\∀m σ H,W m σ H ->
 c σ H λb H1=>if b=true then ∃N:St->Hp->Prop,(∀z H',N z H'->∃F,F<m/\W F z H')/\tb { D with nx:=N,ct:=N,bk:=D.nx } σ H1 else D.nx σ H1
theorem On(hp:Qp (OR X.prog X.w) X.A X.env X.xe)(U:W (PT X c tc))(hb:W (PSs X ZW tb)):W (PS X (.While c ZW [] pos) (wx tc tb)):=by
 refine {?_};have U:=U.h;have hb:=hb.h;intro Go s σ H D I h;obtain ⟨W,⟨m0,w0⟩,YB⟩:=h;refine wpAny_While (codeAny_whileLoop (λn s'=>∃G H',Inv X Go G H' s'/\W n G H') ?_ m0 {σ,H,I,w0});rintro n s1 ⟨F,H1,I1,w1⟩;refine Re hp (thn (U Go s1 F H1 _ I1 (YB n F H1 w1)) λb s2=>x3e λH2 I2 O=>?_);cases b with
 | true =>
  obtain ⟨N,hN,O⟩:=O;rw [if_pos rfl];refine Re hp (thn (hb Go s2 F H2 _ I2 O) λf s3 J=>?_);cases f with
  | next =>
   obtain ⟨z,H3,S,n3⟩:=J;obtain ⟨m',hm,Z⟩:=hN z H3 n3;exact ⟨m',hm,z,H3,S,Z⟩
  | cont =>
   obtain ⟨z,H3,S,n3⟩:=J;obtain ⟨m',hm,Z⟩:=hN z H3 n3;exact ⟨m',hm,z,H3,S,Z⟩
  | brk=>exact J
  | ret v=>exact J
 | false =>
  rw [if_neg OW];exact RB ⟨F,H2,I2,O⟩
end
structure It where
 go:Nat->Hp->Prop
 aH:Nat->Hp->V->Hp->Prop
 stop:Nat->Hp->Prop
def aJ(X:Cx)(Go:List (Addr×Obj))(H:Hp)(b:Addr):Prop :=
 H b=none/\b≠X.env.locals/\b∉X.fs/\(b∈X.ex\/X.s₀.heap.objs.size<=b)/\(∀x c,X.env.cells.lookup x=some c->c≠b)/\∀p∈X.pn++Go,p.1≠b
theorem Inv.UL(I:Inv X Go σ H s)(F:s.heap.objs.size<=b)(J:H' b=none):aJ X Go H' b:=by
 refine {J,Rp (Pd I.lt F),I.b4 F,.inr (PX I.sz F),λx c e z=>?_,λp G z=>?_}
 .obtain ⟨v,q⟩:=I.cell x c e;exact absurd (Pd q.lt (by rw [z];exact F)) (PY _)
 .exact absurd (Pd (O4 (I.pin p G).1) (by rw [z];exact F)) (PY _)
structure dW(c:Bool)(P:OL)(w:O1)(K:OF)(tg:O3)(J:It)(fp:List Addr)(it:Addr)(tn:Nat->Heap->Prop):Prop where
 mem:it∈fp
 obj:∀i h,tn i h->∀b∈fp,∃o,h.get? b=some o/\∀v,o.data≠.cell v
 keep:∀i h h',tn i h->(∀b∈fp,∀o,h.get? b=some o->h'.get? b=some o)->tn i h'
 item:∀(X:Cx),X.prog=P->X.w=w->X.K=K->(c=true->X.calm=true)->∀(i:Nat)(Go:List (Addr×Obj))(s:Ow)(σ:St)(H:Hp)(E:Value->Ow->Prop),Inv X Go σ H s->(∀b∈fp,aJ X Go H b)->tn i s.heap->J.go i H ->
  OJ (OR P w) X.A (Rn (.ref it)) (λr s1=>∃u,r=some u /\
   OJ (OR P w) X.A (QY tg (.ref it) u) (λ_ s2=>∃x H',Inv X Go σ H' s2/\zo x u/\J.aH i H x H'/\tn (i+1) s2.heap/\∀b∈fp,H' b=none) E s1) E s
 done:∀(X:Cx),X.prog=P->X.w=w->X.K=K->(c=true->X.calm=true)->∀(i:Nat)(Go:List (Addr×Obj))(s:Ow)(σ:St)(H:Hp)(E:Value->Ow->Prop),Inv X Go σ H s->(∀b∈fp,aJ X Go H b)->tn i s.heap->J.stop i H ->
  OJ (OR P w) X.A (Rn (.ref it)) (λr s1=>r=none/\Inv X Go σ H s1) E s
 self:∀(A:O0)(i:Nat)(s:Ow)(Q:Value->Ow->Prop)(E:Value->Ow->Prop),tn i s.heap->Q (.ref it) s->OJ (OR P w) A (pyIter (.ref it)) Q E s
abbrev TI:=St->Hp->(It->Hp->Prop)->Prop
def PIE(c:Bool)(X:Cx)(Go:List (Addr×Obj))(σ:St)(tg:O3)(R:It->Hp->Prop)(z:Value)(s2:Ow):Prop :=
 ∃(it:Addr)(fp:List Addr)(tn:Nat->Heap->Prop)(J:It)(H':Hp),z = .ref it/\Inv X Go σ H' s2/\dW c X.prog X.w X.K tg J fp it tn/\tn 0 s2.heap/\(∀b∈fp,aJ X Go H' b)/\R J H'
def PIc(c:Bool)(X:Cx)(tg iter:O3)(wi:TI):Prop :=
 ∀(Go:List (Addr×Obj))(s:Ow)(σ:St)(H:Hp)(R:It->Hp->Prop),Inv X Go σ H s->wi σ H R ->
  OJ (OR X.prog X.w) X.A (Qc iter X.env) (λv s1=>OJ (OR X.prog X.w) X.A (pyIter v) (PIE c X Go σ tg R) X.xe s1) X.xe s
abbrev PI:=PIc true
theorem hG{o:Obj}(F:s.heap.get? it=some o)(J:o.cls = .type n)(hd:o.data = .fields vs)(G:["enumerate","zip","dict_itemiterator","dict_reverseitemiterator","odict_iterator","itertools.zip_longest","itertools.pairwise"].contains n=false)(z:Q () s):OJ M A (QY tg (.ref it) u) Q E s:=by
 unfold QY;cases tg<;>first
  | exact Oz z
  | (cases u<;>first
    | exact Oz z
    | (refine we (wpAny_load F ?_)
       rw [J, hd];show OJ M A (if (["enumerate", "zip", "dict_itemiterator", "dict_reverseitemiterator", "odict_iterator", "itertools.zip_longest", "itertools.pairwise"].contains n && vs[0]? == some (PC _)) = true then _ else _) Q E s;rw [if_neg (by intro h; rw [G, Tg] at h; cases h)];exact Oz z))
def Itl(K:OF)(a:Addr):It :=
 {λi H=>∃xs x,SqL K H a xs/\xs[i]?=some x,λi H x H'=>H'=H/\∀xs,SqL K H a xs->xs[i]?=some x,λi H=>∃xs,SqL K H a xs/\xs.length<=i}
def Itt(K:OF)(a:Addr):It :=
 {λi H=>∃xs x,SqT K H a xs/\xs[i]?=some x,λi H x H'=>H'=H/\∀xs,SqT K H a xs->xs[i]?=some x,λi H=>∃xs,SqT K H a xs/\xs.length<=i}
def Itr(lo:Int)(n:Nat):It:={λi _=>i<n,λi H x H'=>H'=H/\x = .int (lo+i),λi _=>n<=i}
theorem wX{P:OL}{w:O1}{K:OF}{tg:O3}(a it:Addr):dW true P w K tg (Itl K a) [it] it (λi h=>h.IsListIter it a i) where
 mem:=by simp
 obj:=λi h st b F=>by
  have e:b=it:=by simpa using F
  subst e;obtain ⟨o,e,c,d⟩:=st;exact {o,e,λv z=>by rw [d] at z;cases z}
 keep:=λi h h' st k=>st.at λo e=>k it 'z' o e
 item:=by
  intro X W hw J hc i Go s σ H E I hf st hg;subst W hw J;obtain ⟨xs,x,G,hx⟩:=hg;obtain ⟨its,U,p,hz⟩:=I.list G;obtain ⟨u,hu,ru⟩:=U.get hx;obtain ⟨f0,Z,f2,O,f4,S⟩:=hf it 'z';refine wpAny_pyNext_list_item st p.isList (x:=u) (by simpa using hu) λh' Yw sb=>?_;have I1:Inv X Go σ H { s with heap:=h' }:=I.turned (t':=s.toks) (λb o F e=>(sb.2 b F).trans e) f0 Z O f4 S;obtain ⟨o,e,c,d⟩:=id Yw;exact {u,rfl,hG (s:={ s with heap:=h' }) e c d 'd' {x,H,I1,ru,{rfl,λys hy=>by rw [I.ax hy G];exact hx},Yw,λb F=>(hf b F).1}}
 done:=by
  intro X W hw J hc i Go s σ H E I hf st hg;subst W hw J;obtain ⟨xs,G,hx⟩:=hg;obtain ⟨its,U,p,hz⟩:=I.list G;obtain ⟨f0,Z,f2,O,f4,S⟩:=hf it 'z';have hl:=U.length;exact wpAny_pyNext_list_end (I.ok.hd (hc rfl)) st p.isList (by simp;lia) λh' eb=>{rfl,I.turned (t':=s.toks) (λb o F e=>eb b o F e) f0 Z O f4 S}
 self:=λ_ _ _ _ _ st h=>wpAny_pyIter_listiter st h
theorem An{P:OL}{w:O1}{K:OF}{tg:O3}(a it:Addr):dW true P w K tg (Itt K a) [it] it (λi h=>h.IsTupleIter it a i) where
 mem:=by simp
 obj:=λi h st b F=>by
  have e:b=it:=by simpa using F
  subst e;obtain ⟨o,e,c,d⟩:=st;exact {o,e,λv z=>by rw [d] at z;cases z}
 keep:=λi h h' st k=>st.at λo e=>k it 'z' o e
 item:=by
  intro X W hw J hc i Go s σ H E I hf st hg;subst W hw J;obtain ⟨xs,x,G,hx⟩:=hg;obtain ⟨its,U,p,hz⟩:=I.tuple G;obtain ⟨u,hu,ru⟩:=U.get hx;obtain ⟨f0,Z,f2,O,f4,S⟩:=hf it 'z';refine wpAny_pyNext_tuple_item st (show s.heap.IsTuple a its.toArray from p) (x:=u) (by simpa using hu) λh' Yw sb=>?_;have I1:Inv X Go σ H { s with heap:=h' }:=I.turned (t':=s.toks) (λb o F e=>(sb.2 b F).trans e) f0 Z O f4 S;obtain ⟨o,e,c,d⟩:=id Yw;exact {u,rfl,hG (s:={ s with heap:=h' }) e c d 'd' {x,H,I1,ru,{rfl,λys hy=>by rw [I.UY hy G];exact hx},Yw,λb F=>(hf b F).1}}
 done:=by
  intro X W hw J hc i Go s σ H E I hf st hg;subst W hw J;obtain ⟨xs,G,hx⟩:=hg;obtain ⟨its,U,p,hz⟩:=I.tuple G;obtain ⟨f0,Z,f2,O,f4,S⟩:=hf it 'z';have hl:=U.length;exact wpAny_pyNext_tuple_end (I.ok.hd (hc rfl)) st (show s.heap.IsTuple a its.toArray from p) (by simp;lia) λh' eb=>{rfl,I.turned (t':=s.toks) (λb o F e=>eb b o F e) f0 Z O f4 S}
 self:=λ_ _ _ _ _ st h=>wpAny_pyIter_tupleiter st h
theorem JW{P:OL}{w:O1}{K:OF}{tg:O3}(it:Addr)(lo:Int)(n:Nat):dW true P w K tg (Itr lo n) [it] it (λi h=>IsRangeIter h it (lo+(i:Nat)*1) ((n:Int)-(i:Nat)) 1) where
 mem:=by simp
 obj:=λi h st b F=>by
  have e:b=it:=by simpa using F
  subst e;exact {_,st,λv z=>by
   have z':Data.fields _=Data.cell v:=z;cases z'}
 keep:=λi h h' st k=>k it 'z' _ st
 item:=by
  intro X Z hw J G i Go s σ H E I hf st hg;subst Z hw J;obtain ⟨f0,U,f2,O,f4,S⟩:=hf it 'z';have W:=Walks.range (prog:=X.prog) (w:=X.w) (I.ok.hd (G rfl)) it lo 1 n;refine W.item i s _ _ hg st λv h' tk hv Yw kk=>?_;obtain ⟨t,rfl⟩:=hv;have I1:Inv X Go σ H { s with heap:=h',toks:=tk }:=I.turned (λb o F e=>kk b o (by simpa using F) e) f0 U O f4 S;refine {_,rfl,hG (s:={ s with heap:=h',toks:=tk }) (n:="range_iterator") Yw rfl rfl 'd' {.int (lo+i),H,I1,{t,?_},{rfl,rfl},Yw,λb F=>(hf b F).1}};rw [Int.mul_one]
 done:=by
  intro X Z hw J G i Go s σ H E I hf st hg;subst Z hw J;obtain ⟨f0,U,f2,O,f4,S⟩:=hf it 'z';exact wpAny_pyNext_range_end (I.ok.hd (G rfl)) st (by have:n<=i:=hg;lia) λh' eb=>{rfl,I.turned (t':=s.toks) (λb o F e=>eb b o F e) f0 U O f4 S}
 self:=λ_ _ _ _ _ st h=>wpAny_pyIter_rangeiter st h
section
variable {X:Cx}{tg:O3}
def qp(K:OF)(tl:TE):TI:=λσ H R=>tl σ H λx H1=>∃a,x = .ref a/\(∃xs,SqL K H1 a xs)/\R (Itl K a) H1
def jv(K:OF)(tl:TE):TI:=λσ H R=>tl σ H λx H1=>∃a,x = .ref a/\(∃xs,SqT K H1 a xs)/\R (Itt K a) H1
theorem bJ(hl:W (PE X l tl)):W (PI X tg l (qp X.K tl)):=by
 refine {?_};have hl:=hl.h;intro Go s σ H R I h;refine thn (hl Go s σ H _ I h) λv s1=>x5e λx H1 z O G=>?_;obtain ⟨a,e,⟨xs,F⟩,q⟩:=G;subst e;cases O;obtain ⟨its,S,p,hz⟩:=z.list F;refine Rg p.isList ?_;refine {s1.heap.objs.size,[s1.heap.objs.size],_,_,H1,rfl,z.kept (t':=s1.toks) λb o e=>Oy _ e,wX a _,{_,OM _ rfl,rfl,rfl},λb J=>?_,q};have e:b=s1.heap.objs.size:=by simpa using J
 subst e;exact z.UL (Ox _) (z.hok.fresh (Ox _))
theorem A0(hl:PE X l tl):PI X tg l (jv X.K tl):=by
 intro Go s σ H R I h;refine thn (hl Go s σ H _ I h) λv s1=>x5e λx H1 z O G=>?_;obtain ⟨a,e,⟨xs,F⟩,q⟩:=G;subst e;cases O;obtain ⟨its,S,p,hz⟩:=z.tuple F;refine SW (show s1.heap.IsTuple a its.toArray from p) ?_;refine {s1.heap.objs.size,[s1.heap.objs.size],_,_,H1,rfl,z.kept (t':=s1.toks) λb o e=>Oy _ e,An a _,{_,OM _ rfl,rfl,rfl},λb J=>?_,q};have e:b=s1.heap.objs.size:=by simpa using J
 subst e;exact z.UL (Ox _) (z.hok.fresh (Ox _))
theorem Gs{lo hi:Int}{t u v:Tok}(I:Inv X Go σ H s)(h1 : -(2 ^ 62)<=lo)(h2:lo<2 ^ 62)(h3 : -(2 ^ 62)<=hi)(h4:hi<2 ^ 62)(q:R (Itr lo (hi-lo).toNat) H):OJ (OR X.prog X.w) X.A (pyIter (.ref s.heap.objs.size)) (PIE true X Go σ tg R) E { s with heap:=s.heap.push { cls:=.type "range",data:=.fields #[.int lo t,.int hi u,.int 1 v] },toks:=tk }:=by
 refine wpAny_pyIter_range (IsRange.new ..) (small_one h1 h2 h3 h4) ?_;have z:Inv X Go σ H { s with heap:=s.heap.push { cls:=.type "range",data:=.fields #[.int lo t,.int hi u,.int 1 v] },toks:=tk }:=I.kept λb o e=>Oy _ e;refine {(s.heap.push { cls:=.type "range",data:=.fields #[.int lo t,.int hi u,.int 1 v] }).objs.size,[(s.heap.push { cls:=.type "range",data:=.fields #[.int lo t,.int hi u,.int 1 v] }).objs.size],_,_,H,rfl,
  z.kept (t':=tk) λb o e=>Oy _ e,JW _ lo (hi-lo).toNat,?_,λb J=>?_,q}
 .have F:lo+((0:Nat):Int)*1=lo:=by simp
  have G:(((hi-lo).toNat:Nat):Int)-((0:Nat):Int)=OS.Range.rangeSize lo hi 1:=by rw [rangeSize_one];split<;>lia
  show IsRangeIter _ _ (lo+((0:Nat):Int)*1) ((((hi-lo).toNat:Nat):Int)-((0:Nat):Int)) 1;rw [F,G];exact OM _ rfl
 .have e:b=(s.heap.push { cls:=.type "range",data:=.fields #[.int lo t,.int hi u,.int 1 v] }).objs.size:=by simpa using J
  subst e;exact z.UL (Ox _) (z.hok.fresh (Ox _))
def qY(ta:TA):TI:=λσ H R=>ta σ H λvs H1=>∃j:Int,vs=[.int j]/\-(2 ^ 62)<=j/\j<2 ^ 62/\R (Itr 0 j.toNat) H1
theorem JV{p pos:Pos}(hg:Gl X "range")(hm:X.mg "range"=none)(F:PA X [a] ta)(hs:Pb [a] X.env=[(false,Qc a X.env)]:=by rfl):PI X tg (.Call (.Name "range" p) [a] [] pos) (qY ta):=by
 intro Go s σ H R I h;refine Call_ (fQ I hg hm boot_range (RH (thn (F pos Go s σ H _ I h) λus s1=>x5e λvs H1 J S z=>?_) hs rfl));obtain ⟨j,e,z,O,q⟩:=z;subst e;cases S with
 | cons r G =>
  cases G;obtain ⟨t,rfl⟩:=r;exact call_range_1 (Gs J 'l' 'l' z O (by simpa using q))
def yE(wi:TI)(g:TG)(tb:TS):TS:=λD σ H=>wi σ H λJ H1=>∃W:Nat->Nat->St->Hp->Prop,(∃m,W 0 m σ H1)/\∀i m σ H,W i m σ H ->
 (J.stop i H/\D.nx σ H)\/(J.go i H/\∃N:St->Hp->Prop,(∀z H',N z H'->∃G,G<m/\W (i+1) G z H')/\∀x H',J.aH i H x H'->g x σ H' λF H2=>tb { D with nx:=N,ct:=N,bk:=D.nx } F H2)
def eL(fp:List Addr)(h:Heap):List (Addr×Obj):=fp.filterMap λb=>(h.get? b).map λo=>(b,o)
theorem c9{o:Obj}(z:b∈fp)(e:h.get? b=some o):(b,o)∈eL fp h:=Sy.mpr {b,z,by rw [e];rfl}
theorem pe{p:Addr×Obj}(z:p∈eL fp h):p.1∈fp/\h.get? p.1=some p.2:=by
 obtain ⟨b,F,e⟩:=Sy.mp z;cases q:h.get? b with
 | none=>rw [q] at e;cases e
 | some o =>
  rw [q] at e;have G:(b,o)=p:=Pn.inj e;subst G;exact ⟨F,q⟩
theorem Inv.pinned(I:Inv X Go σ H s)(hf:∀b∈fp,aJ X Go H b)(S:∀b∈fp,∃o,s.heap.get? b=some o/\∀v,o.data≠.cell v):Inv X (Go++eL fp s.heap) σ H s :=
 I.xy λp O=>(Pk.mp O).elim (λz=>I.pin p (OG _ z)) λz=>by
  obtain ⟨F,e⟩:=pe z;obtain ⟨f0,U,J,_⟩:=hf p.1 F;obtain ⟨o,G,d⟩:=S p.1 F;rw [e] at G;cases G;exact ⟨e,f0,U,J,d⟩
theorem Inv.q0{Go pl:List (Addr×Obj)}(I:Inv X (Go++pl) σ H s):Inv X Go σ H s:=I.xy λp z=>I.pin p (OG _ (Pz _ z))
theorem bG(hp:Qp (OR X.prog X.w) X.A X.env X.xe)(hc:c=true->X.calm=true)(hi:W (PIc c X tg iter wi))(hg:W (PG X tg g))(F:W (PSs X ZW tb))(hs:∀x,Pj iter X.env x=pure x:=by intro _;rfl):W (PS X (.For tg iter ZW [] pos) (yE wi g tb)):=by
 refine {?_};have hi:=hi.h;have hg:=hg.h;have F:=F.h;intro Go s σ H D I h;refine wpAny_For (thn (hi Go s σ H _ I h) λv s1 h1=>thn h1 λaI s2 h2=>?_) hs;obtain ⟨it,fp,tn,J,H2,e,I2,T,XB,f2,W,⟨m0,w0⟩,YB⟩:=h2;subst e;have O:∀{H':Hp},(∀b∈fp,H' b=none)->∀b∈fp,aJ X Go H' b:=λhn b F=>{hn b F,(f2 b F).2};refine codeAny_forLoop_any (λn s'=>∃i G H',Inv X Go G H' s'/\tn i s'.heap/\(∀b∈fp,H' b=none)/\W i n G H') ?_ m0 {0,σ,H2,I2,XB,λb F=>(f2 b F).1,w0};rintro n s3 ⟨i,S,H3,I3,ai,ar,w3⟩;rcases YB i n S H3 w3 with ⟨stop,qn⟩|⟨go,N,hN,step⟩
 .refine Re hp (thn (T.done X rfl rfl rfl hc i Go s3 S H3 X.xe I3 (O ar) ai stop) λr s4=>x2e λhr I4=>?_);subst hr;exact RB ⟨S,H3,I4,qn⟩
 .refine Re hp (thn (T.item X rfl rfl rfl hc i Go s3 S H3 X.xe I3 (O ar) ai go) λr s4=>x3e λu hr h4=>?_);subst hr;refine Re hp (thn h4 λ_ s5=>x5e λx H5 I5 r5 Yo=>?_);obtain ⟨y5,ab,aF⟩:=Yo;have aH:=I5.pinned (O aF) (T.obj _ _ ab);refine Re hp (thn (hg _ s5 S H5 x u _ aH r5 (step x H5 y5)) λ_ s6=>x4e λav H6 I6 q6=>?_);refine Re hp (thn (F _ s6 av H6 _ I6 q6) λf s7 Z=>?_);have again:∀{z:St}{H7:Hp},Inv X (Go++eL fp s5.heap) z H7 s7->N z H7->∃m,m<n/\∃i G H',Inv X Go G H' s7/\tn i s7.heap/\(∀b∈fp,H' b=none)/\W i m G H':=λ{z H7} U n7=>by
   obtain ⟨m',hm,w7⟩:=hN z H7 n7;refine {m',hm,i+1,z,H7,U.q0,T.keep _ _ _ ab λb F o e=>(U.pin (b,o) (OG _ (OG _ (c9 F e)))).1,λb F=>?_,w7};obtain ⟨o,e,d⟩:=T.obj _ _ ab b F;exact (U.pin (b,o) (OG _ (OG _ (c9 F e)))).2.1
  cases f with
  | next=>obtain ⟨z,H7,U,n7⟩:=Z;exact again U n7
  | cont=>obtain ⟨z,H7,U,n7⟩:=Z;exact again U n7
  | brk=>obtain ⟨z,H7,U,Z⟩:=Z;exact ⟨z,H7,U.q0,Z⟩
  | ret v=>obtain ⟨x7,z,H7,U,r7,Z⟩:=Z;exact ⟨x7,z,H7,U.q0,r7,Z⟩
end
theorem MQ{K:OF}{g:TG}{tb:TS}{D:bb}(z:Nat->St->Hp->Prop)(U:z 0 σ H)(hl:∀i σ H,i<=xs.length->z i σ H->SqL K H a xs)(hs:∀i x σ H,xs[i]?=some x->z i σ H->g x σ H λG H2=>tb { D with nx:=z (i+1),ct:=z (i+1),bk:=D.nx } G H2)(hd:∀σ H,z xs.length σ H->D.nx σ H):
  ∃W:Nat->Nat->St->Hp->Prop,(∃m,W 0 m σ H)/\∀i m σ H,W i m σ H ->
   ((Itl K a).stop i H/\D.nx σ H)\/((Itl K a).go i H/\∃N:St->Hp->Prop,(∀F H',N F H'->∃O,O<m/\W (i+1) O F H')/\∀x H',(Itl K a).aH i H x H'->g x σ H' λG H2=>tb { D with nx:=N,ct:=N,bk:=D.nx } G H2):=by
 refine {λi m σ H=>m=xs.length-i/\i<=xs.length/\z i σ H,{xs.length,'z',Qs _,U},?_};rintro i m σ H ⟨rfl,hi,p⟩;have q:=hl i σ H hi p;by_cases J:i<xs.length
 .refine .inr {{xs,xs[i],q,by simp [J]},z (i+1),λF H' S=>{xs.length-(i+1),'l',rfl,J,S},λx H' y=>?_};obtain ⟨e,y⟩:=y;subst e;exact hs i x σ _ (y xs q) p
 .have e:i=xs.length:=by lia
  subst e;exact .inl {{xs,q,Ox _},hd σ H p}
theorem Nq{lo:Int}{g:TG}{tb:TS}{D:bb}(F:Nat->St->Hp->Prop)(U:F 0 σ H)(hs:∀i σ H,i<n->F i σ H->g (.int (lo+i)) σ H λG H2=>tb { D with nx:=F (i+1),ct:=F (i+1),bk:=D.nx } G H2)(hd:∀σ H,F n σ H->D.nx σ H):
  ∃W:Nat->Nat->St->Hp->Prop,(∃m,W 0 m σ H)/\∀i m σ H,W i m σ H ->
   ((Itr lo n).stop i H/\D.nx σ H)\/((Itr lo n).go i H/\∃N:St->Hp->Prop,(∀z H',N z H'->∃O,O<m/\W (i+1) O z H')/\∀x H',(Itr lo n).aH i H x H'->g x σ H' λG H2=>tb { D with nx:=N,ct:=N,bk:=D.nx } G H2):=by
 refine {λi m σ H=>m=n-i/\i<=n/\F i σ H,{n,'z',Qs _,U},?_};rintro i m σ H ⟨rfl,hi,p⟩;by_cases J:i<n
 .refine .inr {J,F (i+1),λz H' S=>{n-(i+1),'l',rfl,J,S},λx H' y=>?_};obtain ⟨e,y⟩:=y;subst e y;exact hs i σ _ J p
 .have e:i=n:=by lia
  subst e;exact .inl {Ox _,hd σ H p}
abbrev R2:=V->V->Hp->VK->Prop
def OpR(X:Cx)(f:Value->Value->Sem Value)(r:R2):Prop :=
 ∀(Go:List (Addr×Obj))(s:Ow)(σ:St)(H:Hp)(x y:V)(v u:Value)(Q:VK),Inv X Go σ H s->zo x v->zo y u->r x y H Q ->
  OJ (OR X.prog X.w) X.A (f v u) (EP X Go σ Q) X.xe s
def UnR(X:Cx)(f:Value->Sem Value)(r:V->Hp->VK->Prop):Prop :=
 ∀(Go:List (Addr×Obj))(s:Ow)(σ:St)(H:Hp)(x:V)(v:Value)(Q:VK),Inv X Go σ H s->zo x v->r x H Q ->
  OJ (OR X.prog X.w) X.A (f v) (EP X Go σ Q) X.xe s
def zO(X:Cx)(f:Value)(r:List V->Hp->VK->Prop):Prop :=
 ∀(Go:List (Addr×Obj))(s:Ow)(σ:St)(H:Hp)(xs:List V)(us:List Value)(Q:VK),Inv X Go σ H s->zt xs us->r xs H Q ->
  OJ (OR X.prog X.w) X.A (call f us) (EP X Go σ Q) X.xe s
def DV(X:Cx)(r:V->Hp->(Bool->Hp->Prop)->Prop):Prop :=
 ∀(Go:List (Addr×Obj))(s:Ow)(σ:St)(H:Hp)(x:V)(v:Value)(Q:Bool->Hp->Prop),Inv X Go σ H s->zo x v->r x H Q ->
  OJ (OR X.prog X.w) X.A (truthy v) (TP X Go σ Q) X.xe s
def tOp(r:R2)(ta tb:TE):TE:=λσ H Q=>ta σ H λx H1=>tb σ H1 λy H2=>r x y H2 Q
def tUn(r:V->Hp->VK->Prop)(ta:TE):TE:=λσ H Q=>ta σ H λx H1=>r x H1 Q
def rI(C:Int->Int->Prop)(g:Int->Int->V):R2:=λx y H Q=>∃i j,x = .int i/\y = .int j/\C i j/\Q (g i j) H
def rI0(g:Int->Int->V):R2:=λx y H Q=>∃i j,x = .int i/\y = .int j/\Q (g i j) H
def rU(g:Int->V):V->Hp->VK->Prop:=λx H Q=>∃i,x = .int i/\Q (g i) H
section
variable {X:Cx}{a b c:O3}{ta tb tc:TE}{pos:Pos}
theorem mR(G:PE X a ta)(J:PE X b tb){R:V->V->Hp->Prop}(I:Inv X Go σ H s)(h:ta σ H λx H1=>tb σ H1 λy H2=>R x y H2){f:Value->Value->Sem Value}(hf:∀v u s2 x y H2,Inv X Go σ H2 s2->zo x v->zo y u->R x y H2->OJ (OR X.prog X.w) X.A (f v u) Q X.xe s2):
  OJ (OR X.prog X.w) X.A (Qc a X.env) (λv s₁=>OJ (OR X.prog X.w) X.A (Qc b X.env) (λu z=>OJ (OR X.prog X.w) X.A (f v u) Q X.xe z) X.xe s₁) X.xe s:=by
 refine thn (G Go s σ H _ I h) λv s1=>x5e λx H1 U Z F=>?_;refine thn (J Go s1 σ H1 _ U F) λu s2=>x5e λy H2 S O W=>?_;exact hf v u s2 x y H2 S Z O W
theorem zJ(J:OpR X (QP G) r)(z:W (PE X a ta))(F:W (PE X b tb)):W (PE X (.BinOp a G b pos) (tOp r ta tb)):=by
 refine {?_};have z:=z.h;have F:=F.h;intro Go s σ H Q I h;exact wpAny_BinOp (mR z F I h λv u s2 x y H2 O U S q=>J Go s2 σ H2 x y v u Q O U S q)
theorem Bf(J:UnR X (unaryOp F) r)(z:W (PE X a ta)):W (PE X (.UnaryOp F a pos) (tUn r ta)):=by
 refine {?_};have z:=z.h;intro Go s σ H Q I h;exact UnaryOp_ (thn (z Go s σ H _ I h) λv s1=>x5e λx H1 O S G=>J Go s1 σ H1 x v Q O S G)
theorem opI{g:Int->Int->Int}(rule:∀(i j:Int)(t u:Tok)(s:Ow)(Q:Value->Ow->Prop)(E:Value->Ow->Prop),C i j->Q (.int (g i j) s.toks) { s with toks:=s.toks+1 }->OJ (OR X.prog X.w) X.A (f (.int i t) (.int j u)) Q E s):
  OpR X f (rI C λi j=>.int (g i j)):=by
 intro Go s σ H x y v u Q I F z h;obtain ⟨i,j,rfl,rfl,G,q⟩:=h;obtain ⟨t,rfl⟩:=F;obtain ⟨t',rfl⟩:=z;exact rule i j t t' s _ _ G {.int (g i j),H,I.tok _,{_,rfl},q}
theorem xw{g:Int->Int->Int}(rule:∀(i j:Int)(t u:Tok)(s:Ow)(Q:Value->Ow->Prop)(E:Value->Ow->Prop),Q (.int (g i j) s.toks) { s with toks:=s.toks+1 }->OJ (OR X.prog X.w) X.A (f (.int i t) (.int j u)) Q E s):
  OpR X f (rI0 λi j=>.int (g i j)):=by
 intro Go s σ H x y v u Q I F z h;obtain ⟨i,j,rfl,rfl,q⟩:=h;obtain ⟨t,rfl⟩:=F;obtain ⟨t',rfl⟩:=z;exact rule i j t t' s _ _ {.int (g i j),H,I.tok _,{_,rfl},q}
theorem mP{g:Int->Int->Bool}(rule:∀(i j:Int)(t u:Tok)(s:Ow)(Q:Value->Ow->Prop)(E:Value->Ow->Prop),Q (.bool (g i j)) s->OJ (OR X.prog X.w) X.A (f (.int i t) (.int j u)) Q E s):
  OpR X f (rI0 λi j=>.bl (g i j)):=by
 intro Go s σ H x y v u Q I F z h;obtain ⟨i,j,rfl,rfl,q⟩:=h;obtain ⟨t,rfl⟩:=F;obtain ⟨t',rfl⟩:=z;exact rule i j t t' s _ _ {.bl (g i j),H,I,rfl,q}
def MS(i j:Int):Prop:=0<j/\j<1073741824
def Cq(i j:Int):Prop:=0<=j/\j<=1000000/\i.natAbs<2 ^ 64
def hZ(i j:Int):Prop:=(-(2 ^ 64)<i/\i<2 ^ 64)\/(-(2 ^ 64)<j/\j<2 ^ 64)
theorem hZ.ok(h:hZ i j):IntMulOk i j:=by
 rcases h with ⟨h1,h2⟩|⟨h1,h2⟩
 .exact .of_left (intBits_le_64 h1 h2)
 .exact .of_right (intBits_le_64 h1 h2)
theorem GQ:OpR X (QP .Add) (rI0 λi j=>.int (i+j)):=xw λ_ _ _ _ _ _ _ q=>add_int q
theorem jg:OpR X (QP .Sub) (rI0 λi j=>.int (i-j)):=xw λ_ _ _ _ _ _ _ q=>sub_int q
theorem FW:OpR X (QP .Mult) (rI hZ λi j=>.int (i*j)):=opI λ_ _ _ _ _ _ _ z q=>mul_int q z.ok
theorem Ki:OpR X (QP .FloorDiv) (rI MS λi j=>.int (i / j)):=opI λi j _ _ _ _ _ z q=>by
 have h1:(0:Int)<j:=z.1;have h2:j<1073741824:=z.2;exact floordiv_int 'l' (by rw [Int.fdiv_eq_ediv_of_nonneg i 'l'];exact q) (.inl (PyProof.noPylong_small 'l'))
theorem iO:OpR X (QP .Mod) (rI (λ_ j=>0<j) λi j=>.int (i % j)):=opI λi j _ _ _ _ _ z q=>by
 have h1:(0:Int)<j:=z;exact mod_int' 'l' (by rw [Int.fmod_eq_emod_of_nonneg i 'l'];exact q)
theorem C0:OpR X (QP .Pow) (rI Cq λi j=>.int (i ^ j.toNat)):=opI λ_ _ _ _ _ _ _ z q=>pow_int_small z.1 z.2.1 z.2.2 q
theorem unI{g:Int->Int}(rule:∀(i:Int)(t:Tok)(s:Ow)(Q:Value->Ow->Prop)(E:Value->Ow->Prop),Q (.int (g i) s.toks) { s with toks:=s.toks+1 }->OJ (OR X.prog X.w) X.A (f (.int i t)) Q E s):
  UnR X f (rU λi=>.int (g i)):=by
 intro Go s σ H x v Q I z h;obtain ⟨i,rfl,q⟩:=h;obtain ⟨t,rfl⟩:=z;exact rule i t s _ _ {.int (g i),H,I.tok _,{_,rfl},q}
theorem yK:UnR X (unaryOp .USub) (rU λi=>.int (-i)):=unI λ_ _ _ _ _ q=>neg_int q
def gZ:V->V->Bool
 | .non,.non=>true | .non,.int _=>true | .int _,.non=>true | .non,.bl _=>true | .bl _,.non=>true | .non,.str _=>true | .str _,.non=>true
 | .int _,.int _=>true | .bl _,.bl _=>true | .str _,.str _=>true | .byt _,.byt _=>true
 | .int _,.str _=>true | .str _,.int _=>true | .bl _,.str _=>true | .str _,.bl _=>true
 | _,_=>false
def rEq:R2:=λx y H Q=>gZ x y=true/\Q (.bl (decide (x=y))) H
def rNe:R2:=λx y H Q=>gZ x y=true/\Q (.bl (!decide (x=y))) H
theorem xc:decide (V.int i=V.int j)=(i==j):=by
 rw [RE];simp
theorem yY:decide (V.bl i=V.bl j)=(i==j):=by
 rw [RE];simp
theorem wH:decide (V.str i=V.str j)=(i==j):=by
 rw [RE];simp
theorem uk:decide (V.byt i=V.byt j)=(i.toList==j.toList):=by
 rw [RE];cases i;cases j;simp
theorem af{k k':Bool}(I:Inv X Go σ H s)(q:Q (.bl k) H)(e:k=k'):EP X Go σ Q (.bool k') s:=by
 subst e;exact {.bl k,H,I,rfl,q}
theorem NY:OpR X (P8 .Eq) rEq:=by
 intro Go s σ H x y v u Q I F z h;obtain ⟨hs,q⟩:=h;cases x with
 | non =>
  cases F;cases y with
  | non=>cases z;exact PySem.EqNone.eq_none_none (af I q 'z')
  | bl j=>cases z;exact PySem.EqNone.eq_none_bool (af I q 'z')
  | int j=>obtain ⟨t',rfl⟩:=z;exact PySem.EqNone.eq_none_int (af I q 'z')
  | str j=>obtain ⟨t',rfl⟩:=z;exact PySem.EqNone.eq_none_str (af I q 'z')
  | _=>exact absurd (show false=true from hs) OW
 | bl i =>
  cases F;cases y with
  | non=>cases z;exact PySem.EqNone.eq_bool_none (af I q 'z')
  | bl j=>cases z;exact eq_bool (af I q yY)
  | str j=>obtain ⟨t',rfl⟩:=z;exact PySem.EqMixed.eq_bool_str (af I q 'z')
  | _=>exact absurd (show false=true from hs) OW
 | int i =>
  obtain ⟨t,rfl⟩:=F;cases y with
  | non=>cases z;exact PySem.EqNone.eq_int_none (af I q 'z')
  | int j=>obtain ⟨t',rfl⟩:=z;exact eq_int (af I q xc)
  | str j=>obtain ⟨t',rfl⟩:=z;exact PySem.EqMixed.eq_int_str (af I q 'z')
  | _=>exact absurd (show false=true from hs) OW
 | str i =>
  obtain ⟨t,rfl⟩:=F;cases y with
  | non=>cases z;exact PySem.EqNone.eq_str_none (af I q 'z')
  | bl j=>cases z;exact PySem.EqMixed.eq_str_bool (af I q 'z')
  | int j=>obtain ⟨t',rfl⟩:=z;exact PySem.EqMixed.eq_str_int (af I q 'z')
  | str j=>obtain ⟨t',rfl⟩:=z;exact eq_str (af I q wH)
  | _=>exact absurd (show false=true from hs) OW
 | byt i =>
  obtain ⟨t,rfl⟩:=F;cases y with
  | byt j=>obtain ⟨t',rfl⟩:=z;exact PySem.W.eq_bytes (af I q uk)
  | _=>exact absurd (show false=true from hs) OW
 | _=>cases y<;>exact absurd (show false=true from hs) OW
theorem MX:OpR X (P8 .NotEq) rNe:=by
 intro Go s σ H x y v u Q I F z h;obtain ⟨hs,q⟩:=h;cases x with
 | non =>
  cases F;cases y with
  | non=>cases z;exact PySem.EqNone.ne_none_none (af I q 'z')
  | bl j=>cases z;exact PySem.EqNone.ne_none_bool (af I q 'z')
  | int j=>obtain ⟨t',rfl⟩:=z;exact PySem.EqNone.ne_none_int (af I q 'z')
  | str j=>obtain ⟨t',rfl⟩:=z;exact PySem.EqNone.ne_none_str (af I q 'z')
  | _=>exact absurd (show false=true from hs) OW
 | bl i =>
  cases F;cases y with
  | non=>cases z;exact PySem.EqNone.ne_bool_none (af I q 'z')
  | bl j=>cases z;exact ne_bool (af I q (congrArg not yY))
  | str j=>obtain ⟨t',rfl⟩:=z;exact PySem.EqMixed.ne_bool_str (af I q 'z')
  | _=>exact absurd (show false=true from hs) OW
 | int i =>
  obtain ⟨t,rfl⟩:=F;cases y with
  | non=>cases z;exact PySem.EqNone.ne_int_none (af I q 'z')
  | int j=>obtain ⟨t',rfl⟩:=z;exact ne_int (af I q (congrArg not xc))
  | str j=>obtain ⟨t',rfl⟩:=z;exact PySem.EqMixed.ne_int_str (af I q 'z')
  | _=>exact absurd (show false=true from hs) OW
 | str i =>
  obtain ⟨t,rfl⟩:=F;cases y with
  | non=>cases z;exact PySem.EqNone.ne_str_none (af I q 'z')
  | bl j=>cases z;exact PySem.EqMixed.ne_str_bool (af I q 'z')
  | int j=>obtain ⟨t',rfl⟩:=z;exact PySem.EqMixed.ne_str_int (af I q 'z')
  | str j=>obtain ⟨t',rfl⟩:=z;exact ne_str (af I q (congrArg not wH))
  | _=>exact absurd (show false=true from hs) OW
 | byt i =>
  obtain ⟨t,rfl⟩:=F;cases y with
  | byt j=>obtain ⟨t',rfl⟩:=z;exact PySem.W.ne_bytes (af I q (congrArg not uk))
  | _=>exact absurd (show false=true from hs) OW
 | _=>cases y<;>exact absurd (show false=true from hs) OW
theorem kQ:OpR X (P8 .Lt) (rI0 λi j=>.bl (decide (i<j))):=mP λ_ _ _ _ _ _ _ q=>lt_int q
theorem iQ:OpR X (P8 .LtE) (rI0 λi j=>.bl (decide (i<=j))):=mP λ_ _ _ _ _ _ _ q=>le_int q
theorem FQ:OpR X (P8 .Gt) (rI0 λi j=>.bl (decide (j<i))):=mP λ_ _ _ _ _ _ _ q=>gt_int q
theorem KP:OpR X (P8 .In) (λx y H Q=>∃i j,x = .str i/\y = .str j/\Q (.bl (!(OS.Str.occurrences j i 0 j.length 1).isEmpty)) H):=by
 intro Go s σ H x y v u Q I F z h;obtain ⟨i,j,rfl,rfl,q⟩:=h;obtain ⟨t,rfl⟩:=F;obtain ⟨t',rfl⟩:=z;exact in_str (af I q rfl)
theorem JM:OpR X (P8 .Is) (λx y H Q=>y = .non/\Q (.bl (decide (x = .non))) H):=by
 intro Go s σ H x y v u Q I z F h;obtain ⟨rfl,q⟩:=h;cases F;refine is_none_gen (af I q ?_);cases x<;>first
  | (cases z;rfl)
  | (obtain ⟨t,rfl⟩:=z;rfl)
theorem EF:OpR X (P8 .IsNot) (λx y H Q=>y = .non/\Q (.bl (!decide (x = .non))) H):=by
 intro Go s σ H x y v u Q I z F h;obtain ⟨rfl,q⟩:=h;cases F;refine isnot_none_gen (af I q ?_);cases x<;>first
  | (cases z;rfl)
  | (obtain ⟨t,rfl⟩:=z;rfl)
theorem OpR.or(h:OpR X f r)(h':OpR X f r'):OpR X f (λx y H Q=>r x y H Q\/r' x y H Q):=by
 intro Go s σ H x y v u Q I F z q;rcases q with q|q
 .exact h Go s σ H x y v u Q I F z q
 .exact h' Go s σ H x y v u Q I F z q
theorem zK(b:O3)(h:z≠.In:=by decide)(h2:z≠.NotIn:=by decide):Tu z b=false:=by
 have F:(z==CmpOp.In)=false:=by cases z<;>first|rfl|exact absurd rfl h
 have G:(z==CmpOp.NotIn)=false:=by cases z<;>first|rfl|exact absurd rfl h2
 cases b<;>simp [Tu,F,G]
theorem eA(J:OpR X (P8 G) r)(z:W (PE X a ta))(F:W (PE X b tb))(hm:Tu G b=false):W (PE X (.Compare a [G] [b] pos) (tOp r ta tb)):=by
 refine {?_};have z:=z.h;have F:=F.h;intro Go s σ H Q I h;exact wpAny_Compare1 (mR z F I h λv u s2 x y H2 O U S q=>J Go s2 σ H2 x y v u Q O U S q) hm
def oJ(t:TE):TT:=λσ H Q=>t σ H λx H'=>∃k,x = .bl k/\Q k H'
theorem zS(ho:OpR X (P8 J) r)(F:W (PE X a ta))(G:W (PE X b tb))(hm:Tu J b=false):W (PT X (.Compare a [J] [b] pos) (oJ (tOp r ta tb))):=by
 refine {?_};have F:=F.h;have G:=G.h;intro Go s σ H Q I h;refine wpAny_isTrue_Compare1 (thn (F Go s σ H _ I h) λv s1=>x5e λx H1 I1 r1 S=>thn (G Go s1 σ H1 _ I1 S) λu s2=>x5e λy H2 I2 Z q2 =>
  thn (ho Go s2 σ H2 x y v u _ I2 r1 Z q2) λc s3=>x5e λz H3 U r3 O=>?_) hm
 obtain ⟨k,e,q3⟩:=O;subst e;cases r3;exact QI ⟨H3,U,q3⟩
def AL(r r':R2)(ta tb tc:TE):TE:=λσ H Q=>ta σ H λx H1=>tb σ H1 λy H2=>r x y H2 λz H3=>∃k,z = .bl k /\
 (if k=true then tc σ H3 λw' H4=>r' y w' H4 Q else Q (.bl false) H3)
theorem xE(ho:OpR X (P8 J) r)(Yp:OpR X (P8 F) r')(S:W (PE X a ta))(U:W (PE X b tb))(G:W (PE X c tc))(hm:lastMarks [J,F] [b,c]=false:=by with_unfolding_all rfl):W (PE X (.Compare a [J,F] [b,c] pos) (AL r r' ta tb tc)):=by
 refine {?_};have S:=S.h;have U:=U.h;have G:=G.h;intro Go s σ H Q I h;refine Compare_chain (thn (S Go s σ H _ I h) λv s1=>x5e λx H1 I1 r1 q1=>chain_link (thn (U Go s1 σ H1 _ I1 q1) λu s2=>x5e λy H2 I2 r2 q2 =>
  thn (ho Go s2 σ H2 x y v u _ I2 r1 r2 q2) λd s3=>x5e λz H3 Z r3 O=>?_)) hm
 obtain ⟨k,e,q3⟩:=O;subst e;cases r3;refine QI ?_;cases k with
 | false=>exact ite_ff {.bl false,H3,Z,rfl,q3}
 | true=>exact ite_tt (chain_last (thn (G Go s3 σ H3 _ Z q3) λw' s4=>x5e λz' H4 I4 r4 q4=>Yp Go s4 σ H4 y z' u w' Q I4 r2 r4 q4))
def fY(K:OF)(x:V)(H:Hp)(k:Bool):Prop :=
 match x with
 | .non=>k=false
 | .bl b=>k=b
 | .int i=>k=(i != 0)
 | .str y=>y.length<=sizeLine/\k=((y.length:Int) != 0)
 | .byt y=>y.size<=sizeLine/\k=((y.size:Int) != 0)
 | .ref p=>(∃xs,SqL K H p xs/\k = !xs.isEmpty)\/(∃xs,SqT K H p xs/\k = !xs.isEmpty)\/∃kvs,H p=some (.dK kvs)/\k = !kvs.isEmpty
 | _=>False
theorem Ef{κ:Type}{kvs:List (κ×V)}{vs:List (κ×Value)}(r:KV kvs vs):(!vs.isEmpty) = !kvs.isEmpty:=by
 cases r<;>rfl
theorem xh(r:zt xs its):(!its.toArray.isEmpty) = !xs.isEmpty:=by
 cases r<;>simp
theorem gj:(sizeLine:Nat)<2 ^ 63:=by rw [Qa];decide
theorem LJ:DV X (λx H Q=>∃k,fY X.K x H k/\Q k H):=by
 intro Go s σ H x v Q I F h;obtain ⟨k,e,q⟩:=h;have hl:=gj;have hs:sizeLine=16777216:=Qa;cases x with
 | non =>
  cases F;have z:k=false:=e;subst z;exact truthy_none ⟨H,I,q⟩
 | bl b =>
  cases F;have z:k=b:=e;subst z;exact QI ⟨H,I,q⟩
 | int i =>
  obtain ⟨t,rfl⟩:=F;have z:k=(i != 0):=e;subst z;exact PySem.P.truthy_int ⟨H,I,q⟩
 | str y =>
  obtain ⟨t,rfl⟩:=F;obtain ⟨O,z⟩:y.length<=sizeLine/\k=((y.length:Int) != 0):=e;subst z;exact PySem.P.truthy_str 'l' {H,I.tok _,q}
 | byt y =>
  obtain ⟨t,rfl⟩:=F;obtain ⟨O,z⟩:y.size<=sizeLine/\k=((y.size:Int) != 0):=e;subst z;exact PySem.W.truthy_bytes 'l' {H,I.tok _,q}
 | ref p =>
  cases F;have z:(∃xs,SqL X.K H p xs/\k = !xs.isEmpty)\/(∃xs,SqT X.K H p xs/\k = !xs.isEmpty)\/∃kvs,H p=some (.dK kvs)/\k = !kvs.isEmpty:=e;rcases z with ⟨xs,hx,z⟩|⟨xs,hx,z⟩|⟨kvs,hx,z⟩
  .subst z;obtain ⟨its,r,pl,hz⟩:=I.list hx;have G:=r.length;exact wpAny_truthy_list pl.isList (by simp only [OZ];lia) {H,I.tok _,by rw [xh r];exact q}
  .subst z;obtain ⟨its,r,pl,hz⟩:=I.tuple hx;have G:=r.length;exact truthy_tuple pl (by simp only [OZ];lia) {H,I.tok _,by rw [xh r];exact q}
  .subst z;obtain ⟨hz,J,vs,r,m⟩:kvs.length<=sizeLine/\(p==sysModules)=false/\∃vs,KV kvs vs/\s.heap.DictOf (ax X.prog X.w) p vs:=I.hok p _ hx;have G:kvs.length=vs.length:=Paired.length r;exact wpAny_truthy_dict J m 'l' {H,I.tok _,by rw [Ef r];exact q}
 | _=>exact (show False from e).elim
theorem IZ(G:PE X a ta)(J:∀z,isTrue a X.env z=(do let v<-z;RG a.pos;Rx [v] (truthy v))) :
  PT X a (λσ H Q=>ta σ H λx H'=>∃k,fY X.K x H' k/\Q k H'):=by
 intro Go s σ H Q I h;exact isTrue_plain (thn (G Go s σ H _ I h) λv s1=>x5e λx H1 O S F=>LJ Go s1 σ H1 x v Q O S F) (J _)
theorem El:OpR X (QP .Add) (λx y H Q=>∃i j,x = .str i/\y = .str j/\i.length+j.length<=sizeLine/\Q (.str (i++j)) H):=by
 intro Go s σ H x y v u Q I F z h;obtain ⟨i,j,rfl,rfl,hz,q⟩:=h;obtain ⟨t,rfl⟩:=F;obtain ⟨t',rfl⟩:=z;exact add_str (λt' tk=>{.str (i++j),H,I.tok _,{_,rfl},q}) hz
theorem ck(r:zt [x] us):∃u,us=[u]/\zo x u:=by
 cases r with
 | cons z F=>cases F;exact {_,rfl,z}
theorem nr(r:zt [x,y] us):∃u w',us=[u,w']/\zo x u/\zo y w':=by
 cases r with
 | cons z J =>
  cases J with
  | cons F G=>cases G;exact {_,_,rfl,z,F}
theorem G5(F:X.calm=true):zO X (.builtin "max") (λxs H Q=>∃i j,xs=[.int i,.int j]/\Q (.int (if j>i then j else i)) H):=by
 intro Go s σ H xs us Q I r h;obtain ⟨i,j,rfl,q⟩:=h;obtain ⟨u,w',rfl,⟨t,rfl⟩,⟨t',rfl⟩⟩:=nr r;refine max_two_ints (I.ok.hd F) λh' tk k=>{_,H,I.kept k,?_,q};by_cases z:j>i
 .rw [if_pos z,if_pos z];exact {_,rfl}
 .rw [if_neg z,if_neg z];exact {_,rfl}
theorem Oe(F:X.calm=true):zO X (.builtin "min") (λxs H Q=>∃i j,xs=[.int i,.int j]/\Q (.int (if j<i then j else i)) H):=by
 intro Go s σ H xs us Q I r h;obtain ⟨i,j,rfl,q⟩:=h;obtain ⟨u,w',rfl,⟨t,rfl⟩,⟨t',rfl⟩⟩:=nr r;refine min_two_ints (I.ok.hd F) λh' tk k=>{_,H,I.kept k,?_,q};by_cases z:j<i
 .rw [if_pos z,if_pos z];exact {_,rfl}
 .rw [if_neg z,if_neg z];exact {_,rfl}
theorem FJ:zO X (.type "int") (λxs H Q=>(∃i,xs=[.int i]/\Q (.int i) H)\/∃k,xs=[.bl k]/\Q (.int (if k then 1 else 0)) H):=by
 intro Go s σ H xs us Q I r h;rcases h with ⟨i,rfl,q⟩|⟨k,rfl,q⟩
 .obtain ⟨u,rfl,t,rfl⟩:=ck r;exact call_int_int {.int i,H,I,{_,rfl},q}
 .obtain ⟨u,rfl,z⟩:=ck r;cases z;exact call_int_bool {.int (if k then 1 else 0),H,I.tok _,{_,rfl},q}
theorem Bw:zO X (.type "str") (λxs H Q=>∃i,xs=[.int i]/\i.natAbs.log2<1920/\Q (.str (toString i)) H):=by
 intro Go s σ H xs us Q I r h;obtain ⟨i,rfl,hz,q⟩:=h;obtain ⟨u,rfl,t,rfl⟩:=ck r;exact PySem.P.str_of_int hz {.str _,H,I.tok _,{_,rfl},q}
theorem CM:zO X (.builtin "ord") (λxs H Q=>∃x,xs=[.str x]/\x.length=1/\Q (.int (x.cps.getD 0 0:Nat)) H):=by
 intro Go s σ H xs us Q I r h;obtain ⟨x,rfl,hz,q⟩:=h;obtain ⟨u,rfl,t,rfl⟩:=ck r;exact ord_of_one hz {.int _,H,I.tok _,{_,rfl},q}
end
structure gn(h:Heap)(x dx C:Addr)(mA:Str->Option Value):Prop where
 obj:h.get? x=some (T9 C dx)
 ns:h.Ns1 dx mA
 ne:dx≠x
theorem BV{h:Heap}(n:h.Ns1 dx mA):∃F,h.get? dx=some F/\∀name,lookIn name F=some (mA name):=by
 obtain ⟨o,es,ep,G,hd,O,_,hm⟩:=n;refine {o,G,λname=>?_};have e:=hm name;unfold nsFind findBy at e;rw [<- Array.find?_toList] at e;unfold lookIn;rw [hd];dsimp only;split
 .rename_i y q;rw [q] at e;exact congrArg some e
 .rename_i q;rw [q] at e;have a:es.toList.any (·.refKey)=false:=by
   rw [List.any_eq_false];intro y U;obtain ⟨z,t,S⟩:=O y (Array.mem_toList_iff.mp U);simp [SV.refKey,S]
  have J : ¬ es.toList.any (·.refKey)=true:=by rw [a];exact OW
  rw [if_neg J];exact congrArg some e
theorem gn.look(I:gn h x dx C mA):∃z,PySem.W.InstAt h x (T9 C dx) C (some z)/\∀name,lookIn name z=some (mA name) :=
 let ⟨z,ho,hl⟩:=BV I.ns
 {z,{I.obj,rfl,rfl,ho},hl}
section
variable {prog:OL}{w:O1}{A:O0}{E:Value->Ow->Prop}{s:Ow}{K:OF}{x dx C f:Addr}{mA:Str->Option Value}{name:Str}{v:Value}
theorem JF(X:K.In s.heap)(I:gn s.heap x dx C mA)(hg:S2 K C name=true)(O:SS K C=true)(G:QF K (.ref C) name=some none)(hv:mA name=some v)(F:handedIn v=true)(h:Q v { s with toks:=s.toks+1 }):
  OJ (OR prog w) A (getAttr (.ref x) name z) Q E s:=by
 obtain ⟨S,J,hl⟩:=I.look;exact PySem.W.get_value X J (plainGet_of hg).1 (PySem.W.findObj_own O G rfl (by rw [hl,hv])) F h
theorem Jo{pl:Sem Bool}(X:K.In s.heap)(I:gn s.heap x dx C mA)(hg:S2 K C name=true)(hf:QF K (.ref C) name=some (some (.ref f)))(z:isFn K (.ref f)=true)(hv:mA name=none)(h:Q (.ref f,[.ref x]) s):
  OJ (OR prog w) A (TR (.ref x) name pl) Q E s:=by
 obtain ⟨F,J,hl⟩:=I.look;exact PySem.W.method_fn X J (plainGet_of hg).1 (plainGet_of hg).2 hf (beq_iff_eq.mp z) (by show (lookIn name F).map (·.isSome)=some false;rw [hl,hv];rfl) h
theorem Mb(X:K.In s.heap)(I:gn s.heap x dx C mA)(hs:QF K (.ref C) "__setattr__"=some (some (.builtin "object.__setattr__")))(Z:TN K C=true)(ht:takerIn K C name=some none)(hh:SS K C=true)(hw:Ui mA ns)(hsz:ns.length<=sizeLine)(h:∀h',gn h' x dx C (λy=>if y=name then some v else mA y)->Qy dx s.heap h'->Q () { s with heap:=h',toks:=s.toks+2 }):
  OJ (OR prog w) A (setAttr (.ref x) name v) Q E s:=by
 obtain ⟨od,J,hl⟩:=I.look;refine PySem.W.set_plain X J hs (PySem.W.osa_open (s:={ s with toks:=s.toks+1 }) (r:=none) X J Z ht λb=>?_);obtain ⟨cd,hc,O⟩:=PySem.W.any_some hh;have hx:s.heap.get? x=some {.ref C,some dx,.plain,#[]}:=I.obj;refine we (Oz (we (we (wpAny_loadPart hx (we (PySem.W.Looks.here (s:={ s with toks:=s.toks+1 }) (PySem.W.looks_clsIn X hc) ?_))))));rw [O];refine Oz (a:=some dx) (we (Oz (we ?_)));refine wpAny_nsSet1 (s:={ s with toks:=s.toks+1 }) I.ns λh' z U=>?_;obtain ⟨oD,ab,ai,F,S,G⟩:=z.count (Ui.cons name v hw);refine we (wpAny_lookBehind F (by rw [S];exact pastItsLine_dict (PX G (by rw [PQ];lia))) ?_);exact Oz (h _ {(U.2 _ (Pe I.ne)).trans I.obj,z,I.ne} U)
theorem Gq(X:K.In s.heap)(hm:Ur K C=true)(hi:QF K (.ref C) Wo=some (some (.ref f)))(hf:PySem.W.typeIn K (.ref f)=some (.type "function"))(h:QT (OR prog w) (A.under (.builtin "type.__call__" {.ref C::vs,kw})) (.call (.ref f) {.ref (s.heap.objs.size+1)::vs,kw}) (PySem.W.InitBack (s.heap.objs.size+1) R)
   { s with heap:=(s.heap.push emptyDict).push (T9 C s.heap.objs.size) }):
  QT (OR prog w) A (.call (.ref C) ⟨vs,kw⟩) R s:=by
 obtain ⟨z,g,d,t,os⟩:=s;exact PySem.W.make_core (PySem.W.makes_of X hm) (PySem.W.looks_findIn X hi) (λself=>PySem.W.bind_fn X self hf) (.inl rfl) h
end
def zG(f:Str)(v:V):List (Str×V)->List (Str×V)
 | []=>[(f,v)]
 | (g,x)::r=>if g=f then (g,v)::r else (g,x)::zG f v r
theorem tO(f g:Str)(v:V):∀fs:List (Str×V),(zG f v fs).lookup g=if g=f then some v else fs.lookup g
 | []=>by
  show PH g [(f,v)]=_;by_cases h:g=f
  .have z:(g==f)=true:=beq_iff_eq.mpr h;simp only [PH,z,if_pos h]
  .have z:(g==f)=false:=beq_eq_false_iff_ne.mpr h;simp only [PH,z,if_neg h]
 | (k,x)::r=>by
  have G:=tO f g v r;rw [show zG f v ((k,x)::r)=(if k=f then (k,v)::r else (k,x)::zG f v r) from rfl];by_cases F:k=f
  .rw [if_pos F];by_cases h:g=k
   .have z:(g==k)=true:=beq_iff_eq.mpr h;simp only [PH,z,if_pos (h.trans F)]
   .have z:(g==k)=false:=beq_eq_false_iff_ne.mpr h;simp only [PH,z,if_neg (λe:g=f=>h (e.trans F.symm))]
  .rw [if_neg F];by_cases h:g=k
   .have z:(g==k)=true:=beq_iff_eq.mpr h;simp only [PH,z,if_neg (λe:g=f=>F (h.symm.trans e))]
   .have z:(g==k)=false:=beq_eq_false_iff_ne.mpr h;simp only [PH,z];exact G
theorem mW(f:Str)(v:V):∀fs:List (Str×V),f∈(zG f v fs).map (·.1)/\∀g,g∈fs.map (·.1)->g∈(zG f v fs).map (·.1)
 | []=>{by simp [zG],λg h=>by simp at h}
 | (k,x)::r=>by
  obtain ⟨i1,i2⟩:=mW f v r;rw [show zG f v ((k,x)::r)=(if k=f then (k,v)::r else (k,x)::zG f v r) from rfl];by_cases z:k=f
  .rw [if_pos z];subst z;exact {'z',λg h=>by simpa using h}
  .rw [if_neg z];refine {?_,λg h=>?_}
   .rw [Pf];exact OI _ i1
   .rw [Pf] at h ⊢;rcases OH.mp h with e|e
    .exact OH.mpr (.inl e)
    .exact OI _ (i2 g e)
theorem yV(f:Str)(v:V):∀fs:List (Str×V),(zG f v fs).length<=fs.length+1
 | []=>by simp [zG]
 | (k,x)::r=>by
  have F:=yV f v r;rw [show zG f v ((k,x)::r)=(if k=f then (k,v)::r else (k,x)::zG f v r) from rfl];by_cases z:k=f
  .rw [if_pos z,PQ,PQ];lia
  .rw [if_neg z,PQ,PQ];lia
theorem bU.some_of{o:Option Value}(r:bU (some v) o):∃u,o=some u/\zo v u:=by
 cases o with
 | none=>exact (show False from r).elim
 | some u=>exact {u,rfl,r}
theorem bU.none_of{o:Option Value}(r:bU none o):o=none:=by
 cases o with
 | none=>rfl
 | some u=>exact (show False from r).elim
theorem ID(r:zo v u):handedIn u=true:=by
 cases v with
 | non=>cases (show u=Pw from r);rfl
 | bl b=>cases (show u=RN b from r);rfl
 | int i=>obtain ⟨t,e⟩:=(show ∃t,u=Rr i t from r);cases e;rfl
 | str x=>obtain ⟨t,e⟩:=(show ∃t,u=SU x t from r);cases e;rfl
 | byt b=>obtain ⟨t,e⟩:=(show ∃t,u=Value.bytes b t from r);cases e;rfl
 | flt b=>obtain ⟨t,e⟩:=(show ∃t,u=float b t from r);cases e;rfl
 | ref a=>cases (show u=OU a from r);rfl
 | ty n=>cases (show u=type n from r);rfl
section
variable {P:OL}{w:O1}{H H':Hp}{h h':Heap}{a C dx:Addr}{fs fs':List (Str×V)}
theorem jQ(hok:HOk P w H h)(e:H a=some (.ins C dx fs)):∃mA,gn h a dx C mA/\(∀f,bU (fs.lookup f) (mA f))/\Ui mA (fs.map (·.1))/\fs.length<=1000/\H dx=some (.own a):=by
 obtain ⟨d,z,ne,ob,mA,n,r,q⟩:=(show ae P w H h a (.ins C dx fs) from hok a _ e);exact {mA,⟨ob,n,ne⟩,r,q,z,d}
end
structure Cls(K:OF)(C:Addr):Prop where
 pg:S2 K C Sv=true
 hd:SS K C=true
 po:TN K C=true
 sa:QF K (.ref C) "__setattr__"=some (some (.builtin "object.__setattr__"))
theorem Cls.get{K:OF}(c:Cls K C)(f:Str):S2 K C f=true:=c.pg
def bu(K:OF)(C:Addr)(f:Str):Prop:=QF K (.ref C) f=some none
theorem bu.b0{K:OF}(n:bu K C f):takerIn K C f=some none:=by
 unfold takerIn;rw [show QF K (.ref C) f=some none from n];rfl
structure lD(K:OF)(C:Addr)(m:Str)(f:Addr):Prop where
 at_:QF K (.ref C) m=some (some (.ref f))
 fn:isFn K (.ref f)=true
 kp:Sg K (.ref f)=true
section
variable {X:Cx}{Go:List (Addr×Obj)}{σ:St}{H:Hp}{s:Ow}{a C dx:Addr}{fs:List (Str×V)}{f:Str}{v:V}{A:O0}{E:Value->Ow->Prop}
theorem AJ(I:Inv X Go σ H s)(e:H a=some (.ins C dx fs))(c:Cls X.K C)(n:bu X.K C f)(l:fs.lookup f=some v)(h:∀u s',Inv X Go σ H s'->zo v u->Q u s'):OJ (OR X.prog X.w) A (getAttr (.ref a) f b) Q E s:=by
 obtain ⟨mA,O,r,_,_,_⟩:=jQ I.hok e;obtain ⟨u,F,z⟩:=bU.some_of (v:=v) (o:=mA f) (by rw [<- l];exact r f);exact JF I.UB O (c.get f) c.hd n F (ID z) (h u _ (I.tok _) z)
theorem vw{pl:Sem Bool}(I:Inv X Go σ H s)(e:H a=some (.ins C dx fs))(c:Cls X.K C)(k:lD X.K C m g)(l:fs.lookup m=none)(h:Q (.ref g,[.ref a]) s):OJ (OR X.prog X.w) A (TR (.ref a) m pl) Q E s:=by
 obtain ⟨mA,O,r,_,_,_⟩:=jQ I.hok e;have z:mA m=none:=bU.none_of (by rw [<- l];exact r m);exact Jo I.UB O (c.get m) k.at_ k.fn z h
theorem xO(I:Inv X Go σ H s)(e:H a=some (.ins C dx fs))(c:Cls X.K C)(n:bu X.K C f)(hl:fs.length<1000)(J:zo y u)(h:∀s',Inv X Go σ (upd H a (.ins C dx (zG f y fs))) s'->Q () s'):OJ (OR X.prog X.w) A (setAttr (.ref a) f u) Q E s:=by
 obtain ⟨mA,O,r,wi,_,G⟩:=jQ I.hok e;have hz:(fs.map (·.1)).length<=sizeLine:=by rw [OB,Qa];lia
 refine Mb I.UB O c.sa c.po n.b0 c.hd wi hz λh' F sb=>h _ ?_;have hd:∃o,h'.get? dx=some o:=let ⟨o,_,_,e',_⟩:=F.ns;⟨o,e'⟩;refine I.write (x:=a) (e:=dx) (by rw [e];exact True.intro) (.inr G) (λb q S z=>(sb.2 b S).trans z) hd ?_;refine {by rw [ze O.ne];exact G,?_,O.ne,F.obj,_,F.ns,λg=>?_,λg hg=>?_}
 .have:=yV f y fs;lia
 .show bU ((zG f y fs).lookup g) (if g=f then some u else mA g);rw [tO];by_cases q:g=f
  .rw [if_pos q,if_pos q];exact J
  .rw [if_neg q,if_neg q];exact r g
 .by_cases q:g=f
  .rw [q];exact (mW f y fs).1
  .refine (mW f y fs).2 g (wi g λz=>hg ?_);show (if g=f then some u else mA g)=none;rw [if_neg q];exact z
theorem Inv.made(I:Inv X Go σ H s):Inv X Go σ (upd (upd H s.heap.objs.size (.own (s.heap.objs.size+1))) (s.heap.objs.size+1) (.ins C s.heap.objs.size []))
  { s with heap:=(s.heap.push emptyDict).push (T9 C s.heap.objs.size) }:=by
 have z:(s.heap.push emptyDict).get? s.heap.objs.size=some emptyDict:=OM s.heap rfl;have F:((s.heap.push emptyDict).push (T9 C s.heap.objs.size)).get? (s.heap.objs.size+1)=some (T9 C s.heap.objs.size):=by
  have:=OM (s.heap.push emptyDict) (o:=T9 C s.heap.objs.size) rfl;rwa [QG] at this
 have J:(s.heap.push emptyDict).Ns s.heap.objs.size (λ_=>none):={emptyDict,#[],_,z,rfl,(λe G=>absurd G 'z'),λ_=>rfl};have O:=I.laid (a:=s.heap.objs.size) (o:=.own (s.heap.objs.size+1)) (h':=s.heap.push emptyDict) (t':=s.toks) (λb u q=>Oy _ q) (Ox _) {_,z};refine O.laid (a:=s.heap.objs.size+1) (o:=.ins C s.heap.objs.size []) (t':=s.toks) (λb u q=>Oy _ q) (TQ (QG _ _)) ?_;have ne:s.heap.objs.size≠s.heap.objs.size+1:=Pr (Ri _);refine {by rw [ze ne,zu],Qs _,ne,F,λ_=>none,(Heap.Ns1.of_empty J).at λo q=>Oy _ q,λ_=>True.intro,λy S=>absurd rfl S}
theorem DN{f:Str}{s:Ow}(z:QE e f env (Qc e env)=Qc e env)(h:OJ (OR prog w) A (Qc e env) (λo s₁=>OJ (OR prog w) A (getAttr o f true) Q E s₁) E s):OJ (OR prog w) A (Qc (.Attribute e f pos) env) Q E s :=
 Attribute_any_ h (by rw [arm_eval_Attribute,z])
end
def ni(X:Cx)(F:Operator)(z:V->V->Hp->VK->Prop):Prop :=
 ∀(Go:List (Addr×Obj))(s:Ow)(σ:St)(H:Hp)(x y:V)(u v:Value)(Q:VK),Inv X Go σ H s->zo x u->zo y v->z x y H Q->OJ (OR X.prog X.w) X.A (inplaceOp F u v) (EP X Go σ Q) X.xe s
section
variable {X:Cx}{o e ZF:O3}{f:Str}{pos Zt tpos:Pos}{ta tv:TE}
def ou:V->V->Hp->VK->Prop:=λx y H Q=>∃i j,x = .int i/\y = .int j/\Q (.int (i+j)) H
def sL:V->V->Hp->VK->Prop:=λx y H Q=>∃i j,x = .int i/\y = .int j/\Q (.int (i-j)) H
theorem xt:ni X .Add ou:=by
 rintro Go s σ H x y u v Q I F z ⟨i,j,rfl,rfl,q⟩;obtain ⟨t,rfl⟩:=(show ∃t,u=Rr i t from F);obtain ⟨t',rfl⟩:=(show ∃t',v=Rr j t' from z);exact PyProof.Rows.iadd_int {.int (i+j),H,I.tok _,{_,rfl},q}
theorem HV:ni X .Sub sL:=by
 rintro Go s σ H x y u v Q I F z ⟨i,j,rfl,rfl,q⟩;obtain ⟨t,rfl⟩:=(show ∃t,u=Rr i t from F);obtain ⟨t',rfl⟩:=(show ∃t',v=Rr j t' from z);exact PyProof.Rows.isub_int {.int (i-j),H,I.tok _,{_,rfl},q}
end
section
variable {X:Cx}{Go:List (Addr×Obj)}{σ:St}{H:Hp}{s:Ow}{A:O0}{E:Value->Ow->Prop}{Q:Value->Ow->Prop}{c:Value}{b:Bool}
inductive cR(K:OF)(H:Hp):V->Value->Prop where
 | non:cR K H .non (.type "NoneType")
 | bl (x:Bool):cR K H (.bl x) (.type "bool")
 | int (i:Int):cR K H (.int i) (.type "int")
 | str (x:Str):cR K H (.str x) (.type "str")
 | flt (x:UInt64):cR K H (.flt x) (.type "float")
 | lst {a:Addr}{xs:List V} (e:H a=some (.lst xs)):cR K H (.ref a) (.type "list")
 | frz {a:Addr}{o:Obj}{xs:List V} (e:H a=some (.frz o (.lst xs))):cR K H (.ref a) (.type "list")
 | tup {a:Addr}{xs:List V} (e:H a=some (.tup xs)):cR K H (.ref a) (.type "tuple")
 | dK {a:Addr}{kvs:List (Key×V)} (e:H a=some (.dK kvs)):cR K H (.ref a) (.type "dict")
 | dT {a:Addr}{kvs:List (List Key×V)} (e:H a=some (.dT kvs)):cR K H (.ref a) (.type "dict")
 | ins {a C dx:Addr}{fs:List (Str×V)} (e:H a=some (.ins C dx fs)) (cl:Cls K C) (ha:QF K (.ref C) "__class__"=some (some (.builtin "object.__class__")))
   (hn:PySem.W.specialIn K (.builtin "object.__class__") "__get__"=some (some (.builtin "getset_descriptor.__get__"))) (htk:PySem.W.takesIn K (.builtin "object.__class__")=some true)
   (hm:Tw K C (.type "object")=some true):cR K H (.ref a) (.ref C)
theorem HE{u t:Value}(I:Inv X Go σ H s)(F:zo x u)(ty:cR X.K H x t)(e:PySem.W.kitOne X.K t c=some b)(h:∀tk,Q (.bool b) { s with toks:=tk }):
  OJ (OR X.prog X.w) A (call (.builtin "isinstance") [u,c]) Q E s:=by
 cases ty with
 | non=>cases (show u=Pw from F);exact Qx PySem.W.kitx_none I.UB True.intro e (λz=>nomatch z) h
 | bl y=>cases (show u=RN y from F);exact Qx PySem.W.kitx_bool I.UB True.intro e (λz=>nomatch z) h
 | int i=>obtain ⟨t,q⟩:=(show ∃t,u=Rr i t from F);cases q;exact Qx PySem.W.kitx_int I.UB True.intro e (λz=>nomatch z) h
 | str y=>obtain ⟨t,q⟩:=(show ∃t,u=SU y t from F);cases q;exact Qx PySem.W.kitx_str I.UB True.intro e (λz=>nomatch z) h
 | flt y=>obtain ⟨t,q⟩:=(show ∃t,u=float y t from F);cases q;exact Qx PySem.W.kitx_float I.UB True.intro e (λz=>nomatch z) h
 | @lst a xs ea =>
  cases (show u=OU a from F);obtain ⟨_,_,n,_,h1⟩:=(show ae X.prog X.w H s.heap a (.lst xs) from I.hok a _ ea);exact Qx PySem.W.kitx_list I.UB {_,h1,rfl} e (λz=>nomatch z) h
 | @frz a ob xs ea =>
  cases (show u=OU a from F);obtain ⟨_,_,_,n,_,h1⟩:=(show ae X.prog X.w H s.heap a (.frz ob (.lst xs)) from I.hok a _ ea);exact Qx PySem.W.kitx_list I.UB {_,h1,rfl} e (λz=>nomatch z) h
 | @tup a xs ea =>
  cases (show u=OU a from F);obtain ⟨_,_,_,p⟩:=(show ae X.prog X.w H s.heap a (.tup xs) from I.hok a _ ea);obtain ⟨o,h1,h2,_⟩:=p;exact Qx PySem.W.kitx_tuple I.UB ⟨o,h1,h2⟩ e (λz=>nomatch z) h
 | @dK a kvs ea =>
  cases (show u=OU a from F);obtain ⟨_,_,vs,_,p⟩:=(show ae X.prog X.w H s.heap a (.dK kvs) from I.hok a _ ea);obtain ⟨o,es,ep,h1,h2,_⟩:=p;exact Qx PySem.W.kitx_dict I.UB ⟨o,h1,h2.1⟩ e (λz=>nomatch z) h
 | @dT a kvs ea =>
  cases (show u=OU a from F);obtain ⟨_,_,xs,_,o,es,ep,h1,h2,_⟩:=(show ae X.prog X.w H s.heap a (.dT kvs) from I.hok a _ ea);exact Qx PySem.W.kitx_dict I.UB ⟨o,h1,h2.1⟩ e (λz=>nomatch z) h
 | @ins a C dx fs ea cl S U G hm =>
  cases (show u=OU a from F);obtain ⟨mA,O,_⟩:=jQ I.hok ea;obtain ⟨Z,J,_⟩:=O.look;exact Qx (PySem.W.kitx_own (cl.get _) cl.hd S U G hm) I.UB J e (λz=>nomatch z) h
end
structure zE(c:Bool)(k:Nat)(A:O0):Prop where
 hd:c=true->A.handled=none
 dp:A.depth+3*k+5<recursionLimit
 un:A.units+16*k+200<cLine
 gd:A.guards=some []
theorem zE.mono{j k:Nat}(r:zE c k A)(h:j<=k):zE c j A:={r.hd,by have:=r.dp;lia,by have:=r.un;lia,r.gd}
theorem zE.deeper{k:Nat}(r:zE c (k+1) A)(env:Env):zE c k (A.deeper env) :=
 {r.hd,by have:=r.dp;show A.depth+1+3*k+5<_;lia,by have:=r.un;show A.units+3+16*k+200<_;lia,by first|exact r.gd|simpa [O0.deeper,O0.under,Code.isGuard] using r.gd}
theorem zE.in1{k:Nat}(r:zE c (k+1) A):zE c k A.in1 :=
 {r.hd,by have:=r.dp;show A.depth+3*k+5<_;lia,by have:=r.un;show A.units+1+16*k+200<_;lia,r.gd}
theorem L9{A:O0}:(A.under (.builtin "type.__call__" {.ref C::us,kw})).depth=A.depth+1:=by
 first|rfl|simp [O0.under,Code.weight,Code.isCreation,Code.isGuard,Code.isCaller,Code.frames,Code.isFrame,guardIds]
theorem Nx{A:O0}:(A.under (.builtin "type.__call__" {.ref C::us,kw})).units=A.units+1:=by
 first|rfl|simp [O0.under,Code.cUnits,Code.frames,Code.isFrame]
theorem zE.make{k:Nat}(r:zE c (k+1) A)(C:Addr)(us:List Value)(kw:List (Str×Value)):zE c k (A.under (.builtin "type.__call__" {.ref C::us,kw})) :=
 {r.hd,by have:=r.dp;rw [L9];lia,by have:=r.un;rw [Nx];lia,by first|exact r.gd|simpa [O0.under,Code.isGuard,guardIds] using r.gd}
theorem zE.depth{k:Nat}(r:zE c k A):A.depth<recursionLimit:=by have:=r.dp;lia
theorem zE.units{k:Nat}(r:zE c k A):A.units+64<cLine:=by have:=r.un;lia
def dr:TA:=λ_ H Q=>Q [] H
def kH(ta:TE)(z:TA):TA:=λσ H Q=>ta σ H λx H1=>z σ H1 λxs H2=>Q (x::xs) H2
section
variable {X:Cx}{e:O3}{es:List O3}{te:TE}{t:TA}{pos:Pos}
theorem fz:PA X [] dr:=λ_ _ _ _ H Q I h=>Calls.spliced_nil {[],H,I,.nil,h}
theorem fu(F:PE X e te)(J:PA X es t)(hs:Pb (e::es) X.env=(false,Qc e X.env)::Pb es X.env:=by rfl):PA X (e::es) (kH te t):=by
 intro pos Go s σ H Q I h;rw [hs];show OJ _ _ (spliced ((false,Qc e X.env)::Rq pos (Pb es X.env))) _ _ s;refine Calls.spliced_cons (thn (F Go s σ H _ I h) λu s1=>x5e λx H1 S W z=>?_);exact thn (J pos Go s1 σ H1 _ S z) λus s2=>x5e λxs H2 O G U=>{x::xs,H2,O,.cons W G,U}
def EV(t:TA):TE:=λσ H Q=>t σ H λxs H1=>xs.length<=sizeLine/\∀p,H1 p=none->Q (.ref p) (upd H1 p (.tup xs))
theorem ER{x1}(h:PA X es t):PE X (.Tuple es x1 pos) (EV t):=by
 intro Go s σ H Q I G;refine wpAny_Tuple_spliced (thn (h pos Go s σ H _ I G) λus s1=>x5e λxs H1 F r=>x2e λz q=>{by rw [<- r.length];exact z,?_});have hf:H1 s1.heap.objs.size=none:=F.hok.fresh (Ox _);refine {.ref s1.heap.objs.size,upd H1 s1.heap.objs.size (.tup xs),F.laid (t':=s1.toks) (λb u e=>Oy _ e) (Ox _) ?_,rfl,q _ hf};exact {z,us,r,{_,OM _ rfl,rfl,_,rfl}}
end
abbrev Sp:=List V->Hp->VK->XK->Prop
abbrev CXT:=List Env->Hp->Ow->XK->Value->Ow->Prop
structure fR(P:OL)(w:O1)(K:OF)(mg:Str->Option Value)(base:Heap)(A:O0)(outer:List Env)(s:Ow)(H:Hp):Prop where
 frames:A.frames=some outer
 hdk:iA A H
 mod:Mod K mg base
 bs:∀b o,base.get? b=some o->s.heap.get? b=some o/\H b=none
 aF:base.objs.size<=s.heap.objs.size
 UF:s.heap.FunFrames base outer
 aY:∀b∈frs outer,H b=none
 hok:HOk P w H s.heap
 bare:RI s.gens
def CE(outer:List Env)(P:OL)(w:O1)(H:Hp)(s:Ow)(Q:VK)(u:Value)(s':Ow):Prop :=
 ∃v H',s'.os=s.os/\RI s'.gens/\Un (frs outer) [] H H' s.heap s'.heap/\HOk P w H' s'.heap/\zo v u/\Q v H'
def CR(CX:CXT)(outer:List Env)(P:OL)(w:O1)(H:Hp)(s:Ow)(Q:VK)(E:XK)(r:Uh)(s':Ow):Prop :=
 match r with
 | .ok (.ret u)=>CE outer P w H s Q u s'
 | .ok _=>False
 | .error e=>CX outer H s E e s'
structure zp(P:OL)(w:O1)(K:OF)(mg:Str->Option Value)(base:Heap)(CX:CXT)(c:Bool)(k:Nat)(f:Addr)(fd:OP)(ps:List Str)(sp:Sp):Prop where
 len:∀vs H Q E,sp vs H Q E->vs.length=ps.length
 run:∀(A:O0)(outer:List Env)(s:Ow)(H:Hp)(args:Args)(us:List Value)(vs:List V)(Q:VK)(E:XK),zE c k A->fR P w K mg base A outer s H->BindsTo s fd args (ps.zip us)->zt vs us->sp vs H Q E ->
  QT (OR P w) A (.call (.ref f) args) (CR CX outer P w H s Q E) s
theorem fR.make{K:OF}(e:fR P w K mg base A outer s H)(C:Addr)(us:List Value)(kw:List (Str×Value)):
  fR P w K mg base (A.under (.builtin "type.__call__" {.ref C::us,kw})) outer s H:={by first|exact e.frames|(simpa [O0.under,Code.envs,Code.isFrame,pushEnvs] using e.frames),e.hdk,e.mod,e.bs,e.aF,e.UF,e.aY,e.hok,e.bare}
section
variable {X:Cx}{Go:List (Addr×Obj)}{σ:St}{H:Hp}{s s':Ow}
theorem Inv.a3(I:Inv X Go σ H s):fR X.prog X.w X.K X.mg X.base X.A X.stack s H :=
 {I.ok.frames,I.hdk,I.ok.mod,I.bs,PX I.ok.aF I.sz,I.stack,I.Vw,I.hok,I.bare}
theorem Inv.after(I:Inv X Go σ H s)(h:CE X.stack X.prog X.w H s Q u s'):EP X Go σ Q u s':=by
 obtain ⟨v,H',os,bare,un,hok,r,q⟩:=h;obtain ⟨G,g,d,t,F⟩:=s';obtain rfl:F=s.os:=os;exact {v,H',I.call (h':=G) (g':=g) (d':=d) (t':=t) (ch:=[]) un hok bare (λb z=>absurd z 'z'),r,q}
end
def mx(sp:Sp)(YY:List V)(E:XK)(t:TA):TE:=λσ H Q=>t σ H λvs H1=>sp (vs++YY) H1 Q E
def fP(C:Addr)(m:Str)(sp:Sp)(YY:List V)(E:XK)(ta:TE)(t:TA):TE:=λσ H Q=>ta σ H λx H1=>∃a dx fs,x = .ref a/\H1 a=some (.ins C dx fs)/\fs.lookup m=none /\
 t σ H1 λvs H2=>sp (x::(vs++YY)) H2 Q E
def Af(C:Addr)(sp:Sp)(YY:List V)(E:XK)(t:TA):TE:=λσ H Q=>t σ H λvs H1=>∀x dx,H1 x=none->H1 dx=none->dx≠x ->
 sp (.ref x::(vs++YY)) (upd (upd H1 dx (.own x)) x (.ins C dx [])) (λv H2=>v = .non/\Q (.ref x) H2) E
def cx(K:OF)(fd:OP)(ps:List Str)(ds:List Value):Prop :=
 ∀(s:Ow)(us:List Value),K.In s.heap->(us++ds).length=ps.length->BindsTo s fd {us,[]} (ps.zip (us++ds))
theorem cx.all{K:OF}(h:∀us:List Value,us.length=ps.length->S6 fd {us,[]}=pure (ps.zip us)):cx K fd ps []:=λs us _ hl=>by
 rw [Qe] at hl ⊢;exact .of_eq (h us hl)
def fC(CX:CXT)(X:Cx)(E:XK):Prop:=∀(Go:List (Addr×Obj))(σ:St)(H:Hp)(s:Ow)(e:Value)(s':Ow),Inv X Go σ H s->CX X.stack H s E e s'->X.xe e s'
section
variable {X:Cx}{CX:CXT}{cm:Bool}{k:Nat}{f C:Addr}{fd:OP}{ps:List Str}{sp:Sp}{YY:List V}{ds:List Value}{E:XK}{x m:Str}{p pos ZU:Pos}{e o:O3}{es:List O3}{ta:TE}{t:TA}
theorem pj(F:zp X.prog X.w X.K X.mg X.base CX cm k f fd ps sp)(J:zE cm k X.A)(O:cx X.K fd ps ds)(hd:zt YY ds)(hx:fC CX X E)(I:Inv X Go σ H s)(r:zt vs us)(h:sp (vs++YY) H Q E):OJ (OR X.prog X.w) X.A (call (.ref f) us) (EP X Go σ Q) X.xe s:=by
 have G:zt (vs++YY) (us++ds):=r.append hd;have hl:(us++ds).length=ps.length:=by rw [<- G.length];exact F.len _ _ _ _ h
 refine SX (QS (F.run X.A X.stack s H {us,[]} (us++ds) (vs++YY) Q E J I.a3 (O s us I.UB hl) G h) λr s' z=>?_);cases r with
 | error e=>exact hx Go σ H s e s' I z
 | ok fl =>
  cases fl with
  | ret u=>exact I.after z
  | next=>exact False.elim z
  | brk=>exact False.elim z
  | cont=>exact False.elim z
theorem M9(F:zp X.prog X.w X.K X.mg X.base CX cm k f fd ps sp)(S:zE cm k X.A)(hg:Gl X x)(hm:X.mg x=some (.ref f))(W:Sg X.K (.ref f)=true)(O:cx X.K fd ps ds)(hd:zt YY ds)(hx:fC CX X E)
  (G:PA X (e::es) t) (U:(x==("__debug__":Str))=false:=by decide) (J:Pb (e::es) X.env=(false,Qc e X.env)::Pb es X.env:=by rfl) (Z:(Rq pos (Pb es X.env)).any (·.1)=false:=by rfl) :
  PE X (.Call (.Name x p) (e::es) [] pos) (mx sp YY E t):=by
 intro Go s σ H Q I h;refine Qu (gE I hg hm ?_ U);refine callWith_K (h₀:=X.base) I.ok.mod.bG W (thn (G pos Go s σ H _ I h) λus s1=>x5e λvs H1 z r q=>{z.UB,?_}) J Z;exact pj F S O hd hx z r q
theorem Lc{pl:Sem Bool}(Z:PE X o ta)(c:Cls X.K C)(hm:lD X.K C m f)(F:zp X.prog X.w X.K X.mg X.base CX cm k f fd ps sp)(hr:zE cm k X.A)(U:cx X.K fd ps ds)(hd:zt YY ds)(hx:fC CX X E)(S:PA X (e::es) t)
  (hst:Pb (e::es) X.env=(false,Qc e X.env)::Pb es X.env:=by rfl) (Yc:(Rq pos (Pb es X.env)).any (·.1)=false:=by rfl)
  (ht:Qc (.Call (.Attribute o m ZU) (e::es) [] pos) X.env=(do
   let O<-Qc o X.env
   RG ZU.atName
   let (f,first)<-Rx [O] (TR O m pl)
   S5 pos f first (Rq pos (Pb (e::es) X.env)) (backToKw pos (SD [] X.env))):=by rfl) :
  PE X (.Call (.Attribute o m ZU) (e::es) [] pos) (fP C m sp YY E ta t):=by
 intro Go s σ H Q I h;refine PySem.W.methodCall_KW (pl:=pl) (thn (Z Go s σ H _ I h) λu s1=>x5e λx H1 J rx z=>?_) ht;obtain ⟨a,dx,fs,ex,ea,l,q⟩:=z;subst ex;obtain rfl:u=OU a:=rx;refine vw J ea c hm l ?_;refine callWith_K (first:=[.ref a]) (h₀:=X.base) I.ok.mod.bG hm.kp (thn (S pos Go s1 σ H1 _ J q) λus s2=>x5e λvs H2 G r q2=>{G.UB,?_}) hst Yc;exact pj (us:=.ref a::us) (vs:=.ref a::vs) F hr U hd hx G (.cons rfl r) q2
theorem FV{pl:Sem Bool}(O:PE X o ta)(c:Cls X.K C)(hm:lD X.K C m f)(F:zp X.prog X.w X.K X.mg X.base CX cm k f fd ps sp)(U:zE cm k X.A)(S:cx X.K fd ps ds)(hd:zt YY ds)(hx:fC CX X E)
  (Z:Qc (.Call (.Attribute o m ZU) [] [] pos) X.env=(do
   let J<-Qc o X.env
   RG ZU.atName
   let (f,first)<-Rx [J] (TR J m pl)
   S5 pos f first (Rq pos (Pb [] X.env)) (backToKw pos (SD [] X.env))):=by rfl) :
  PE X (.Call (.Attribute o m ZU) [] [] pos) (fP C m sp YY E ta dr):=by
 intro Go s σ H Q I h;refine PySem.W.methodCall_KW (pl:=pl) (thn (O Go s σ H _ I h) λu s1=>x5e λx H1 G rx z=>?_) Z;obtain ⟨a,dx,fs,ex,ea,l,q⟩:=z;subst ex;obtain rfl:u=OU a:=rx;refine vw G ea c hm l ?_;exact PySem.W.callWith_K0 (first:=[.ref a]) G.UB hm.kp (pj (us:=[.ref a]) (vs:=[.ref a]) F U S hd hx G (.cons rfl .nil) q)
structure Mk(K:OF)(C f:Addr):Prop where
 makes:Ur K C=true
 init:QF K (.ref C) Wo=some (some (.ref f))
 fn:isFn K (.ref f)=true
 kp:Sg K (.ref C)=true
theorem sW(M:Mk X.K C f)(F:zp X.prog X.w X.K X.mg X.base CX cm k f fd ps sp)(U:zE cm (k+1) X.A)(W:cx X.K fd ps ds)(hd:zt YY ds)(hx:fC CX X E)(I:Inv X Go σ H s)(r:zt vs us)(h:∀x dx,H x=none->H dx=none->dx≠x->sp (.ref x::(vs++YY)) (upd (upd H dx (.own x)) x (.ins C dx [])) (λv H2=>v = .non/\Q (.ref x) H2) E):
  OJ (OR X.prog X.w) X.A (call (.ref C) us) (EP X Go σ Q) X.xe s:=by
 have J:=h (s.heap.objs.size+1) s.heap.objs.size (I.hok.fresh (Se _)) (I.hok.fresh (Ox _)) (Pr (Ri _));have G:=Inv.made (C:=C) I;have O:zt (V.ref (s.heap.objs.size+1)::(vs++YY)) (OU (s.heap.objs.size+1)::(us++ds)):=.cons rfl (r.append hd);have hl:(OU (s.heap.objs.size+1)::us++ds).length=ps.length:=by
  have e:=O.length;rw [F.len _ _ _ _ J] at e;exact e.symm
 refine SX (Gq (f:=f) I.UB M.makes M.init (beq_iff_eq.mp M.fn) (QS (F.run _ X.stack _ _ {OU (s.heap.objs.size+1)::us,[]} (OU (s.heap.objs.size+1)::(us++ds)) _ _ E (U.make C us [])
  (G.a3.make C us []) (W _ (OU (s.heap.objs.size+1)::us) G.UB hl) O J) λr s' z=>?_))
 cases r with
 | error e=>exact hx Go σ _ _ e s' G z
 | ok fl =>
  cases fl with
  | ret u =>
   obtain ⟨v,H',S,rv,ev,Z⟩:=G.after z;subst ev;exact {rv,{V.ref (s.heap.objs.size+1),H',S,rfl,Z}}
  | next=>exact False.elim z
  | brk=>exact False.elim z
  | cont=>exact False.elim z
theorem Gm(M:Mk X.K C f)(F:zp X.prog X.w X.K X.mg X.base CX cm k f fd ps sp)(S:zE cm (k+1) X.A)(hg:Gl X x)(hm:X.mg x=some (.ref C))(O:cx X.K fd ps ds)(hd:zt YY ds)(hx:fC CX X E)
  (G:PA X (e::es) t) (U:(x==("__debug__":Str))=false:=by decide) (J:Pb (e::es) X.env=(false,Qc e X.env)::Pb es X.env:=by rfl) (W:(Rq pos (Pb es X.env)).any (·.1)=false:=by rfl) :
  PE X (.Call (.Name x p) (e::es) [] pos) (Af C sp YY E t):=by
 intro Go s σ H Q I h;refine Qu (gE I hg hm ?_ U);refine callWith_K (h₀:=X.base) I.ok.mod.bG M.kp (thn (G pos Go s σ H _ I h) λus s1=>x5e λvs H1 z r q=>{z.UB,?_}) J W;exact sW M F S O hd hx z r q
theorem IE(M:Mk X.K C f)(F:zp X.prog X.w X.K X.mg X.base CX cm k f fd ps sp)(z:zE cm (k+1) X.A)(hg:Gl X x)(hm:X.mg x=some (.ref C))(J:cx X.K fd ps ds)(hd:zt YY ds)(hx:fC CX X E)
  (G:(x==("__debug__":Str))=false:=by decide):PE X (.Call (.Name x p) [] [] pos) (Af C sp YY E dr):=by
 intro Go s σ H Q I h;refine Qu (gE I hg hm ?_ G);exact PySem.W.callWith_K0 I.UB M.kp (sW (us:=[]) M F z J hd hx I .nil h)
end
structure zw(N P:List Str)(sc:Scope):Prop where
 kind:sc.kind = .function
 co:sc.isCoroutine=false
 gen:sc.isGenerator=false
 nd:N.Nodup
 pre:N.take P.length=P
 par:∀x∈P,sc.names.lookup x=some .local\/sc.names.lookup x=some .cell
 bx:∀y∈sc.names,y.2≠.free
theorem yZ{kindOf:Str->Option P0}:∀{binds:List (Str×Value)}{m:Str->Option Value},(∀v,(x,v)∉binds)->bindL kindOf binds m x=m x
 | [],_,_=>rfl
 | (n,v)::r,m,h=>by
  unfold bindL;rw [yZ λw hw=>h w (OI _ hw)];split
  .have:x≠n:=by rintro rfl;exact h v OT
   simp [this]
  .rfl
theorem xV{kindOf:Str->Option P0}:∀{binds:List (Str×Value)}{m:Str->Option Value},(∀v,(x,v)∉binds)->bindC kindOf binds m x=m x
 | [],_,_=>rfl
 | (n,v)::r,m,h=>by
  unfold bindC;rw [xV λw hw=>h w (OI _ hw)];split
  .rfl
  .have:x≠n:=by rintro rfl;exact h v OT
   simp [this]
theorem Ac{kindOf:Str->Option P0}:∀{P:List Str}{vs:List Value}{i:Nat}{m:Str->Option Value},P.Nodup->P[i]?=some x->vs[i]?=some v->kindOf x=some .local ->
  bindL kindOf (P.zip vs) m x=some v
 | [],_,_,_,_,h,_,_=>by simp at h
 | _::_,[],_,_,_,_,h,_=>by simp at h
 | p::P,w::vs,0,m,nd,h1,h2,z=>by
  simp at h1 h2;subst h1;subst h2;show bindL kindOf ((p,w)::P.zip vs) m p=_;unfold bindL;rw [yZ λv hv=>(QJ.mp nd).1 (of_mem_zip hv).1,if_pos z];simp
 | p::P,w::vs,i+1,m,nd,h1,h2,z=>by
  show bindL kindOf ((p,w)::P.zip vs) m x=_;unfold bindL;exact Ac (i:=i) (QJ.mp nd).2 (by simpa using h1) (by simpa using h2) z
theorem vX{kindOf:Str->Option P0}:∀{P:List Str}{vs:List Value}{i:Nat}{m:Str->Option Value},P.Nodup->P[i]?=some x->vs[i]?=some v->kindOf x≠some .local ->
  bindC kindOf (P.zip vs) m x=some v
 | [],_,_,_,_,h,_,_=>by simp at h
 | _::_,[],_,_,_,_,h,_=>by simp at h
 | p::P,w::vs,0,m,nd,h1,h2,z=>by
  simp at h1 h2;subst h1;subst h2;show bindC kindOf ((p,w)::P.zip vs) m p=_;unfold bindC;rw [xV λv hv=>(QJ.mp nd).1 (of_mem_zip hv).1,if_neg z];simp
 | p::P,w::vs,i+1,m,nd,h1,h2,z=>by
  show bindC kindOf ((p,w)::P.zip vs) m x=_;unfold bindC;exact vX (i:=i) (QJ.mp nd).2 (by simpa using h1) (by simpa using h2) z
def start(N:List Str)(vs:List V):St:=vs.map some++Qk (N.length-vs.length) none
def bR(CX:CXT)(cm:Bool)(P:OL)(w:O1)(K:OF)(mg:Str->Option Value)(base:Heap)(N:List Str)(qual:Str)(scope:Scope)(f:Addr)(cd:Value)(A:O0)(outer:List Env)(s:Ow)(H:Hp)(E:XK):Cx where
 prog:=P
 w:=w
 K:=K
 mg:=mg
 base:=base
 A:=A.deeper (Ra qual scope s.heap.objs.size f cd)
 N:=N
 s₀:=s
 H₀:=H
 env:=Ra qual scope s.heap.objs.size f cd
 outer:=outer
 stack:=Ra qual scope s.heap.objs.size f cd::outer
 ex:=[]
 calm:=cm
 fn:=λ_=>true
 pn:=[]
 xe:=λe s'=>OJ (OR P w) (A.deeper (Ra qual scope s.heap.objs.size f cd)) (leaving (Ra qual scope s.heap.objs.size f cd) e) (λ_ z=>CX outer H s E e z) (λF z=>CX outer H s E F z) s'
theorem Ao{sc:Scope}(h:sc.names.lookup x=some .cell):∃c,(QM n sc.names []).lookup x=some c:=by
 have q:=cellsFrom_some sc.names n [] (.inl h);exact To.mp q
theorem wg{K:OF}(S:zw N ps scope)(hd:cm=true->A.handled=none)(F:fR P w K mg base A outer s H)(hl:vs.length=ps.length)(r:zt vs us)(x:InCallC s s.heap.objs.size (bindL (Ra qual scope s.heap.objs.size f cd).kindOf (ps.zip us) λ_=>none) (QM (s.heap.objs.size+1) scope.names []) (bindC (Ra qual scope s.heap.objs.size f cd).kindOf (ps.zip us) λ_=>none) s1):
  Inv (bR CX cm P w K mg base N qual scope f cd A outer s H E) [] (start N vs) H s1:=by
 have Yc:ps.length<=N.length:=by have:=congrArg T8 S.pre;rw [O8] at this;lia
 obtain ⟨h1,tk,rfl,Z⟩:=x.done;have G:∀b:Addr,b∉(bR CX cm P w K mg base N qual scope f cd A outer s H E).ex:=λb z=>absurd (show b∈([]:List Addr) from z) 'z';refine {{F.mod,S.kind,rfl,rfl,Ox _,λy z c h1 h2=>?_,λy J=>?_,λy c _ h=>?_,hd,O0.frames_deeper F.frames,.inr {rfl,rfl},λb z=>absurd z (G b),F.bs,F.aF,λb _ _=>G b,λb z=>absurd z (G b),F.UF,F.aY},
  rfl,F.bare,Un.kept Z,{_,x.toInCall.ns,λi y v h1 h2 h3=>?_},λy c h=>{_,x.cell y c h},F.hok.fresh (Ox _),λy c h=>?_,λp O=>absurd (show p∈([]:List (Addr×Obj)) from O) 'z',F.hok.kept Z,?_,F.hdk}
 .exact name_of_addr x.apart (Qq h1) (Qq h2)
 .have J:scope.names.lookup y=some .cell\/scope.names.lookup y=some .free:=J;rcases J with J|J
  .exact Ao J
  .exact absurd rfl (S.bx _ (Qq J))
 .exact Sf (x.above y c (Qq h))
 .have hi:i<vs.length:=by
   unfold start at h2;by_cases hi:i<vs.length
   .exact hi
   .rw [PP (by simpa using hi)] at h2;rw [List.getElem?_replicate] at h2;split at h2<;>cases h2
  have ha:vs[i]?=some v:=by
   unfold start at h2;rw [PF (by simpa using hi),OV] at h2;cases e:vs[i]? with
   | none=>rw [e] at h2;cases h2
   | some a=>rw [e] at h2;cases h2;rfl
  obtain ⟨u,W,rv⟩:=r.get ha;have O:ps[i]?=some y:=by
   rw [<- S.pre,QL 'l'];exact h1
  have U:ps.Nodup:=by rw [<- S.pre];exact S.nd.sublist (List.take_sublist _ _)
  refine {u,rv,?_};rcases S.par y (OX O) with k|k
  .exact .inl {k,Ac U O W k}
  .obtain ⟨c,e⟩:=Ao (n:=s.heap.objs.size+1) k;refine .inr {.inl k,c,e,?_};have q:=x.cell y c e;rw [vX U O W (by show scope.names.lookup y≠_;rw [k];decide)] at q;exact q
 .exact F.hok.fresh (Sf (x.above y c (Qq h)))
 .unfold start;show _=N.length;rw [Pa,OB,List.length_replicate];lia
theorem m8{K:OF}{k:Nat}{dV kV Ye pm F ct oc:Value}(lk:K.lookup f=some {oc,od,.func (fnOf name qual Z1 ZW scope dV kV Ye pm an F ct),U})(hcd:codeIn K F qual=true)(S:zw N ps scope)(len:∀vs H Q E,sp vs H Q E->vs.length=ps.length)(Zd:∀(A:O0)(outer:List Env)(s:Ow)(H:Hp)(vs:List V)(Q:VK)(E:XK),zE cm k (A.deeper (Ra qual scope s.heap.objs.size f F))->sp vs H Q E ->
   ∃t,PSs (bR CX cm P w K mg base N qual scope f F A outer s H E) ZW t/\t { nx:=λ_ H'=>Q .non H',rt:=Q } (start N vs) H):
  zp P w K mg base CX cm (k+1) f (fnOf name qual Z1 ZW scope dV kV Ye pm an F ct) ps sp:=by
 refine {len,λA outer s H args us vs Q E Z G hb r Xj=>?_};have hl:=len _ _ _ _ Xj;have KX:K.In s.heap:=G.mod.bG.keeps λb o e=>(G.bs b o e).1;have ab:s.heap.NoLimit:=G.mod.nolimit.keeps λb o e=>(G.bs b o e).1;have Yv:∀y∈ps.zip us,scope.names.lookup y.1=some .local\/(scope.names.lookup y.1=some .cell/\((QM (s.heap.objs.size+1) scope.names []).lookup y.1).isSome=true):=λ⟨n,v⟩ hy=>by
  rcases S.par n (of_mem_zip hy).1 with q|q
  .exact .inl q
  .exact .inr {q,cellsFrom_some _ _ _ (.inl q)}
 refine codeAny_call_function Z.depth (KX _ _ lk) rfl S.co S.gen rfl (PySem.W.codeRec_of KX hcd) (hb _ _ _ _ ?_);refine wpAny_newFunctionEnv_cells S.kind Yv λenv he s1 x=>?_;subst he;refine {ab.keeps x.toInCall.keep,codeAny_func ?_};obtain ⟨t,ht,hq⟩:=Zd A outer s H vs Q E (Z.deeper _) Xj;have I:Inv (bR CX cm P w K mg base N qual scope f F A outer s H E) [] (start N vs) H s1:=wg S Z.hd G hl r x;refine Pp (ht [] s1 (start N vs) H _ I hq) (λfl s' hs=>?_) λe s' hs=>hs;have Zq:∀{z:St}{H':Hp}{v:V}{u:Value},Inv (bR CX cm P w K mg base N qual scope f F A outer s H E) [] z H' s'->zo v u->Q v H'->CE outer P w H s Q u s' :=
  λ{z H' v u} J O q=>⟨v,H',J.os,J.bare,J.base,J.hok,O,q⟩
 cases fl with
 | ret u =>
  obtain ⟨v,z,H',J,O,q⟩:=hs;exact Zq J O q
 | next =>
  obtain ⟨z,H',J,q⟩:=hs;exact Zq (v:=V.non) (u:=Pw) J rfl q
 | brk =>
  obtain ⟨_,_,_,q⟩:=hs;exact False.elim q
 | cont =>
  obtain ⟨_,_,_,q⟩:=hs;exact False.elim q
section
variable {X:Cx}{x:Str}{p pos:Pos}{e:O3}{es:List O3}{t:TA}{id T:String}{r:List V->Hp->VK->Prop}
def tCB(r:List V->Hp->VK->Prop)(t:TA):TE:=λσ H Q=>t σ H λvs H1=>r vs H1 Q
theorem Mc(O:zO X (.builtin id) r)(hg:Gl X x)(hm:X.mg x=none)(hv:Rz x=some (.builtin id))(F:PA X (e::es) t)(G:x≠"__name__":=by decide)(S:(x==("__debug__":Str))=false:=by decide)
  (J:Pb (e::es) X.env=(false,Qc e X.env)::Pb es X.env:=by rfl) (W:(Rq pos (Pb es X.env)).any (·.1)=false:=by rfl):PE X (.Call (.Name x p) (e::es) [] pos) (tCB r t):=by
 intro Go s σ H Q I h;refine Qu (fQ I hg hm hv ?_ G S);exact PyProof.Rows.callWith_builtin1 (thn (F pos Go s σ H _ I h) λus s1=>x5e λvs H1 U Z z=>O Go s1 σ H1 vs us Q U Z z) J W
theorem Cb(O:zO X (.type T) r)(hg:Gl X x)(hm:X.mg x=none)(hv:Rz x=some (.type T))(F:PA X (e::es) t)(G:x≠"__name__":=by decide)(S:(x==("__debug__":Str))=false:=by decide)
  (J:Pb (e::es) X.env=(false,Qc e X.env)::Pb es X.env:=by rfl) (W:(Rq pos (Pb es X.env)).any (·.1)=false:=by rfl):PE X (.Call (.Name x p) (e::es) [] pos) (tCB r t):=by
 intro Go s σ H Q I h;refine Qu (fQ I hg hm hv ?_ G S);exact RH (thn (F pos Go s σ H _ I h) λus s1=>x5e λvs H1 U Z z=>O Go s1 σ H1 vs us Q U Z z) J W
end
end L2
namespace HT
open PySem PyProof.Rows
section
variable {prog:OL}{w:O1}{A:O0}{E:Value->Ow->Prop}{s:Ow}
theorem cat_tup{t b:Addr}(ht:Tr s.heap t vs.toArray)(hb:Tr s.heap b ws.toArray)(hv:vs≠[])(h1:ws=[]->Q (.ref t) s)(h2:ws≠[]->Q (.ref s.heap.objs.size) { s with heap:=s.heap.push { cls:=.type "tuple",data:=.seq (vs++ws).toArray } })(hsz:vs.length+ws.length<=sizeLine):OJ (OR prog w) A (QP .Add (.ref t) (.ref b)) Q E s:=by
 obtain ⟨⟨cls,dd,data,sl⟩,S,U,n,hd⟩:=id ht;obtain ⟨⟨W,F,data2,J⟩,z,G,Z,O⟩:=id hb;simp only at U hd G O;subst U hd G O;have e:vs.toArray++ws.toArray=(vs++ws).toArray:=by simp
 by_cases hw:ws=[]
 .exact concat_meets {_,S,rfl} {_,z,rfl} noFill_tuple_add seq_tuple_add slot_tuple_add entry_tuple_add (args_tuple_add_2 _ _)
   (tuple_addW1 t b vs.toArray ws.toArray n Z dd F sl J (by simpa using hv) (by simp [hw])) {S,z,h1 hw}
 .refine concat_meets {_,S,rfl} {_,z,rfl} noFill_tuple_add seq_tuple_add slot_tuple_add entry_tuple_add (args_tuple_add_2 _ _)
   (tuple_addW2 t b vs.toArray ws.toArray n Z dd F sl J (by simpa using hv) (by simpa using hw) (by rw [OZ,OZ];exact hsz)) {S,z,?_}
  rw [e];exact h2 hw
def sIx(n d:Nat):Option Int->Nat
 | none=>d
 | some v=>if v<0 then (v+(n:Int)).toNat else min v.toNat n
theorem KS(n d:Nat)(hd:d<=n)(o:Option Int):sIx n d o<=n:=by
 cases o with
 | none=>exact hd
 | some v =>
  show (if v<0 then (v+(n:Int)).toNat else min v.toNat n)<=n;by_cases hv:v<0
  .rw [if_pos hv];lia
  .rw [if_neg hv];exact Nat.min_le_right _ _
theorem Bh(v:Int)(n d:Nat):(if v<0 then max (v+(n:Int)) 0 else min v (n:Int))=((sIx n d (some v):Nat):Int):=by
 show (if v<0 then max (v+(n:Int)) 0 else min v (n:Int))=(((if v<0 then (v+(n:Int)).toNat else min v.toNat n):Nat):Int);by_cases hv:v<0
 .simp only [if_pos hv];lia
 .simp only [if_neg hv];lia
theorem DA(lo hi:Option Int)(n:Nat):OS.Slice.sliceAdjust lo hi 1 (n:Int)=(((sIx n 0 lo:Nat):Int),((sIx n n hi:Nat):Int)):=by
 have h1 : ¬ ((1:Int)<0):=by lia
 unfold OS.Slice.sliceAdjust;simp only [h1,if_false];refine Prod.ext ?_ ?_
 .cases lo with
  | none=>rfl
  | some v=>exact Bh v n 0
 .cases hi with
  | none=>rfl
  | some v=>exact Bh v n n
theorem FM(i j:Nat):OS.Slice.slicePlaces (i:Int) (j:Int) 1=j-i:=by
 unfold OS.Slice.slicePlaces;have h1:(1:Int)>0:=by lia
 simp only [h1,if_true,Int.ediv_one];split<;>lia
theorem u6{o:Option Int}(p:Tf v o)(h:Q o s):OJ (OR prog w) A (OS.Slice.slicePartIndex v) Q E s:=by
 cases p with
 | none=>exact slicePart_none h
 | int i t=>exact slicePart_int h
theorem tJ{sl:Addr}{G J:Value}{lo hi:Option Int}{n:Nat}{Q:Int×Int×Nat->Ow->Prop}(hs:s.heap.IsSliceOf sl G J .none)(pl:Tf G lo)(O:Tf J hi)
  (h:Q (((sIx n 0 lo:Nat):Int),1,sIx n n hi-sIx n 0 lo) s):OJ (OR prog w) A (OS.Slice.sliceApplied (.ref sl) (pure (n:Int))) Q E s:=by
 obtain ⟨os,z,S,F⟩:=id hs;unfold OS.Slice.sliceApplied OS.Slice.sliceFields;refine we (we (Po z F (x:=G) rfl (we (Po z F (x:=J) rfl (we (Po z F (x:=.none) rfl (Oz ?_)))))));refine we (slicePart_none ?_);show OJ _ _ (if ((1:Int)==0)=true then _ else _) _ _ s;rw [if_neg 'd'];refine we (u6 pl (we (u6 O (we (Oz ?_)))));show OJ _ _ (match OS.Slice.sliceAdjust lo hi 1 (n:Int) with|(lo,hi)=>pure (lo,(1:Int),OS.Slice.slicePlaces lo hi 1)) _ _ s;rw [DA lo hi n];show OJ _ _ (pure (((sIx n 0 lo:Nat):Int),(1:Int),OS.Slice.slicePlaces ((sIx n 0 lo:Nat):Int) ((sIx n n hi:Nat):Int) 1)) _ _ s;rw [FM];exact Oz h
theorem Bu(xs:Array Value)(i k:Nat):((Qg k).filterMap λ(m:Nat)=>xs[((i:Int)+(m:Int)*1).toNat]?).toArray=((xs.toList.drop i).take k).toArray:=by
 have e:(λ(m:Nat)=>xs[((i:Int)+(m:Int)*1).toNat]?)=λm=>xs[i+m]?:=by
  funext m;have:((i:Int)+(m:Int)*1).toNat=i+m:=by lia
  rw [this]
 rw [e];have:=pick_run xs i k;rw [List.filterMap_map] at this;have z:((λx=>xs[x]?)∘λx=>i+x)=λm=>xs[i+m]?:=rfl;rw [z] at this;rw [this]
theorem getItem_tuple_cut{t sl:Addr}{W:Value}{lo hi:Option Int}(F:Tr s.heap t items)(hs:s.heap.IsSliceOf sl U W .none)(pl:Tf U lo)(Z:Tf W hi)(hw : ¬ (sIx items.size 0 lo=0/\sIx items.size items.size hi=items.size))(h:Q (.ref s.heap.objs.size) { s with heap:=s.heap.push { cls:=.type "tuple",data:=.seq ((items.toList.drop (sIx items.size 0 lo)).take (sIx items.size items.size hi-sIx items.size 0 lo)).toArray } })(hsz:items.size<=sizeLine):OJ (OR prog w) A (Ua (.ref t) (.ref sl)) Q E s:=by
 have z:sizeOk (.seq ((items.toList.drop (sIx items.size 0 lo)).take (sIx items.size items.size hi-sIx items.size 0 lo)).toArray):=by
  show ((items.toList.drop (sIx items.size 0 lo)).take (sIx items.size items.size hi-sIx items.size 0 lo)).toArray.size<=sizeLine;rw [OZ,O8,R8,QC];lia
 have hj:sIx items.size items.size hi<=items.size:=KS _ _ (Ox _) hi;obtain ⟨os,G,O,ab⟩:=id hs;have S:s.TypeIs (.ref sl) "slice":=⟨os,G,O⟩;unfold Ua
 try with_reducible refine O9 ?_
 first|refine we (Oz ?_)|skip
 refine we (wpAny_sequenceKey F.typeIs 'd' ?_);refine we (P5 (name:=OA "__getitem__") F.typeIs PZ
  (PK PZ F.typeIs entry_tuple_getitem ?_ (args_tuple_getitem _ _)))
 show OJ _ _ (OS.Tuple.tupleItemsOf (.ref t)>>=_) _ _ s;refine we (tupleItemsOf_ F ?_);refine we (Sb S ?_);rw [if_pos 'd'];refine we (tJ hs pl Z ?_);have J : ¬ ((((sIx items.size 0 lo:Nat):Int)==0&&(1:Int)==1&&(sIx items.size items.size hi-sIx items.size 0 lo)==items.size)=true):=by
  intro q;rw [Pm,Pm] at q;have q1:((sIx items.size 0 lo:Nat):Int)=0:=eq_of_beq q.1.1;have q2:sIx items.size items.size hi-sIx items.size 0 lo=items.size:=eq_of_beq q.2;exact hw {'l','l'}
 show OJ _ _ (if (((sIx items.size 0 lo:Nat):Int)==0&&(1:Int)==1&&(sIx items.size items.size hi-sIx items.size 0 lo)==items.size)=true then _ else _) _ _ s;rw [if_neg J,Bu]
 first
  | exact we (m:=OS.Tuple.tupleExact _) (Pt (Oz {_,rfl,Oz h}) z)
  | exact we (m:=OS.Tuple.tupleExact _) (Pt (we (Oz (Oz {_,rfl,Oz h}))) z)
  | exact we (we (m:=OS.Tuple.tupleExact _) (Pt (Oz (Oz {_,rfl,Oz h})) z))
  | exact we (we (m:=OS.Tuple.tupleExact _) (Pt (Oz {_,rfl,Oz h}) z))
end
end HT
namespace L2
open PySem PySem.Spec PyProof.Rows
abbrev TO:=St->Hp->(Option Int->Hp->Prop)->Prop
def PO(X:Cx)(e:Option O3)(t:TO):Prop :=
 ∀(Go:List (Addr×Obj))(s:Ow)(σ:St)(H:Hp)(Q:Option Int->Hp->Prop),Inv X Go σ H s->t σ H Q ->
  OJ (OR X.prog X.w) X.A (evalPart e X.env) (λu s'=>∃o H',Inv X Go σ H' s'/\Tf u o/\Q o H') X.xe s
def Bc:TO:=λ_ H Q=>Q none H
def tf(t:TE):TO:=λσ H Q=>t σ H λx H1=>∃i,x = .int i/\Q (some i) H1
theorem LG:∀{us:List Value},zt (ns.map V.int) us->RA us ns:=by
 induction ns with
 | nil=>intro us r;rw [map_nil] at r;cases r;exact .nil
 | cons n ns F =>
  intro us r;rw [Pf] at r;cases r with
  | cons z G =>
   obtain ⟨t,e⟩:=z;subst e;exact .cons n t (F G)
section
variable {X:Cx}{e:O3}{te:TE}{lo hi:Option O3}{tl th:TO}{pos p2:Pos}
theorem dF:W (PO X none Bc):=by
 refine {?_};intro Go s σ H Q I h;rw [evalPart_none];exact Oz {none,H,I,.none,h}
theorem dG(h:W (PE X e te)):W (PO X (some e) (tf te)):=by
 refine {?_};have h:=h.h;intro Go s σ H Q I hw;rw [evalPart_some];refine thn (h Go s σ H _ I hw) λu s1=>x5e λx H1 F z G=>?_;obtain ⟨i,rfl,q⟩:=G;obtain ⟨t,rfl⟩:=z;exact {some i,H1,F,.int i t,q}
def SlR(X:Cx)(r:V->Option Int->Option Int->Hp->VK->Prop):Prop :=
 ∀(Go:List (Addr×Obj))(s:Ow)(σ:St)(H:Hp)(x:V)(v z F:Value)(lo hi:Option Int)(sl:Addr)(Q:VK),Inv X Go σ H s->zo x v->s.heap.IsSliceOf sl z F .none->Tf z lo->Tf F hi->r x lo hi H Q ->
  ∃T id,typeLookup (.type T) "__getitem__"=pure (some (.builtin id))/\s.TypeIs v T/\OJ (OR X.prog X.w) X.A (Ua v (.ref sl)) (EP X Go σ Q) X.xe s
theorem SlR.or(h:SlR X r)(h':SlR X r'):SlR X (λx lo hi H Q=>r x lo hi H Q\/r' x lo hi H Q):=by
 intro Go s σ H x v z J lo hi sl Q I G hs pl F q;rcases q with q|q
 .exact h Go s σ H x v z J lo hi sl Q I G hs pl F q
 .exact h' Go s σ H x v z J lo hi sl Q I G hs pl F q
def tSl(r:V->Option Int->Option Int->Hp->VK->Prop)(te:TE)(tl th:TO):TE:=λσ H Q=>te σ H λx H1=>tl σ H1 λl H2=>th σ H2 λu H3=>r x l u H3 Q
theorem dA(hr:SlR X r)(J:W (PE X e te))(hl:W (PO X lo tl))(O:W (PO X hi th)):W (PE X (.Subscript e (.Slice lo hi none p2) pos) (tSl r te tl th)):=by
 refine {?_};have J:=J.h;have hl:=hl.h;have O:=O.h;intro Go s σ H Q I h;refine Subscript_ (thn (J Go s σ H _ I h) λv s1=>x5e λx H1 I1 r1 U=>?_);refine wpAny_Slice (thn (hl Go s1 σ H1 _ I1 U) λF s2=>x5e λl H2 I2 pl q2=>thn (O Go s2 σ H2 _ I2 q2) λG z=>x5e λu H3 Z S q3=>?_);rw [evalPart_none];refine Oz ?_;have I4:Inv X Go σ H3 { z with heap:=z.heap.push { cls:=.type "slice",data:=.fields #[F,G,.none] } }:=Z.kept (t':=z.toks) λb ob q=>Oy _ q;obtain ⟨T,id,hT,ht,hg⟩:=hr Go { z with heap:=z.heap.push { cls:=.type "slice",data:=.fields #[F,G,.none] } } σ H3 x v F G l u z.heap.objs.size Q I4 r1 (Heap.IsSliceOf.new ..) pl S q3;show OJ (OR X.prog X.w) X.A (subscriptTail e (.Slice lo hi none p2) v (.ref z.heap.objs.size)) (EP X Go σ Q) X.xe { z with heap:=z.heap.push { cls:=.type "slice",data:=.fields #[F,G,.none] } };exact tail_any (ops:=[.ref z.heap.objs.size,v]) ht hT hg (by with_unfolding_all rfl)
def bj(xs:List V)(lo hi:Option Int):List V:=(xs.drop (HT.sIx xs.length 0 lo)).take (HT.sIx xs.length xs.length hi-HT.sIx xs.length 0 lo)
theorem uo(xs:List V)(lo hi:Option Int):(bj xs lo hi).length<=xs.length:=by
 unfold bj;rw [O8,R8];lia
def FS(K:OF):V->Option Int->Option Int->Hp->VK->Prop:=λx lo hi H Q=>∃a xs,x = .ref a/\SqT K H a xs /\
 ¬ (HT.sIx xs.length 0 lo=0/\HT.sIx xs.length xs.length hi=xs.length)/\∀p,H p=none->Q (.ref p) (upd H p (.tup (bj xs lo hi)))
theorem CA:SlR X (FS X.K):=by
 intro Go s σ H x v O S lo hi sl Q I J hs pl G h;obtain ⟨a,xs,rfl,hx,hw,q⟩:=h;cases J;obtain ⟨its,r,F,hz⟩:=I.tuple hx;have z:its.toArray.size=xs.length:=by rw [OZ];exact r.length.symm
 refine {"tuple",_,PZ.lookup,F.typeIs,?_};refine HT.getItem_tuple_cut F hs pl G (by rw [z];exact hw) ?_ (by rw [z];exact hz);rw [z];refine {.ref s.heap.objs.size,_,I.laid (t':=s.toks) (o:=.tup (bj xs lo hi)) (λb ob q=>Oy _ q) (Ox _) ?_,rfl,q _ (I.hok.fresh (Ox _))};exact {PX (uo xs lo hi) hz,_,(r.drop (HT.sIx xs.length 0 lo)).take (HT.sIx xs.length xs.length hi-HT.sIx xs.length 0 lo),Tr.new _ _}
def Hq(K:OF):R2:=λx y H Q=>∃a b xs ys,x = .ref a/\y = .ref b/\SqT K H a xs/\SqT K H b ys/\xs≠[]/\xs.length+ys.length<=sizeLine /\
 (ys=[]->Q (.ref a) H)/\(ys≠[]->∀p,H p=none->Q (.ref p) (upd H p (.tup (xs++ys))))
theorem zt.UP(r:zt xs us):us=[]↔xs=[]:=by
 cases r with
 | nil=>simp
 | cons _ _=>simp
theorem MR:OpR X (QP .Add) (Hq X.K):=by
 intro Go s σ H x y v u Q I rx Z h;obtain ⟨a,b,xs,ys,rfl,rfl,O,U,hx,hz,S,W⟩:=h;cases rx;cases Z;obtain ⟨its,G,J,_⟩:=I.tuple O;obtain ⟨Yb,F,p2,_⟩:=I.tuple U;refine HT.cat_tup J p2 (λz=>hx (G.UP.mp z)) (λz=>{.ref a,H,I,rfl,S (F.UP.mp z)}) (λz=>?_) (by rw [<- G.length,<- F.length];exact hz);refine {.ref s.heap.objs.size,_,I.laid (t':=s.toks) (o:=.tup (xs++ys)) (λb ob q=>Oy _ q) (Ox _) ?_,rfl,W (λw=>z (F.UP.mpr w)) _ (I.hok.fresh (Ox _))};exact {by rw [Pa];exact hz,_,G.append F,Tr.new _ _}
end
def ixN(n:Nat)(i:Int):Option Nat:=if 0<=i then (if i<n then some i.toNat else none) else if -(n:Int)<=i then some (i+n).toNat else none
def atI{α:Type}(xs:List α)(i:Int):Option α:=(ixN xs.length i).bind λj=>xs[j]?
theorem Au(h:ixN n i=some j):seqIndex? i n=some j/\j<n/\-(n:Int)<=i/\i<n:=by
 unfold ixN at h;by_cases z:0<=i
 .rw [if_pos z] at h;by_cases h1:i<n
  .rw [if_pos h1] at h;have e:i.toNat=j:=Pn.inj h;exact {by rw [seqIndex_of z h1,e],'l','l',h1}
  .rw [if_neg h1] at h;cases h
 .rw [if_neg z] at h;by_cases h1 : -(n:Int)<=i
  .rw [if_pos h1] at h;have e:(i+n).toNat=j:=Pn.inj h;exact {by rw [seqIndex_neg 'l' h1,e],'l',h1,'l'}
  .rw [if_neg h1] at h;cases h
theorem mT{α:Type}{xs:List α}{v:α}(h:atI xs i=some v):∃j,seqIndex? i xs.length=some j/\xs[j]?=some v/\j<xs.length/\-(xs.length:Int)<=i/\i<xs.length:=by
 unfold atI at h;cases e:ixN xs.length i with
 | none=>rw [e] at h;cases h
 | some j =>
  rw [e] at h;obtain ⟨h1,h2,h3,h4⟩:=Au e;exact ⟨j,h1,h,h2,h3,h4⟩
theorem ee{α:Type}{xs:List α}{j:Nat}{v:α}(h:xs[j]?=some v):atI xs (j:Int)=some v:=by
 have z:j<xs.length:=(OE.mp h).1;have e:ixN xs.length (j:Int)=some j:=by
  unfold ixN;rw [if_pos 'l',if_pos 'l'];simp
 unfold atI;rw [e];exact h
def N5(b:O3):Prop:=∀o i,subscripted b false o i=operate [o,i] (Ua o i)
def IxR(X:Cx)(r:R2):Prop :=
 ∀(ZF z:O3)(Go:List (Addr×Obj))(s:Ow)(σ:St)(H:Hp)(x y:V)(v u:Value)(Q:VK),Inv X Go σ H s->zo x v->zo y u->r x y H Q ->
  subscripted z false v u=operate [v,u] (Ua v u)->OJ (OR X.prog X.w) X.A (subscriptTail ZF z v u) (EP X Go σ Q) X.xe s
def MtR(X:Cx)(id:String)(r:V->List V->Hp->VK->Prop):Prop :=
 ∀(Go:List (Addr×Obj))(s:Ow)(σ:St)(H:Hp)(x:V)(xs:List V)(v:Value)(us:List Value)(Q:VK),Inv X Go σ H s->zo x v->zt xs us->r x xs H Q ->
  OJ (OR X.prog X.w) X.A (call (.builtin id) (v::us)) (EP X Go σ Q) X.xe s
section
variable {X:Cx}{a b:O3}{ta tb:TE}{pos:Pos}
theorem IxR.or(h:IxR X r)(h':IxR X r'):IxR X (λx y H Q=>r x y H Q\/r' x y H Q):=by
 intro ZF G Go s σ H x y v u Q I F z q hs;rcases q with q|q
 .exact h ZF G Go s σ H x y v u Q I F z q hs
 .exact h' ZF G Go s σ H x y v u Q I F z q hs
theorem zL(G:IxR X r)(z:W (PE X a ta))(F:W (PE X b tb))(hs:N5 b):W (PE X (.Subscript a b pos) (tOp r ta tb)):=by
 refine {?_};have z:=z.h;have F:=F.h;intro Go s σ H Q I h;exact Subscript_ (mR z F I h λv u s2 x y H2 J S O q=>G a b Go s2 σ H2 x y v u Q J S O q (hs _ _))
def wc(K:OF):R2:=λx y H Q=>∃p xs i v,x = .ref p/\y = .int i/\SqL K H p xs/\atI xs i=some v/\Q v H
def AE(K:OF):R2:=λx y H Q=>∃p xs i v,x = .ref p/\y = .int i/\SqT K H p xs/\atI xs i=some v/\Q v H
def uW:R2:=λx y H Q=>∃z i c,x = .str z/\y = .int i/\z.length<=sizeLine/\atI z.cps.toList i=some c/\Q (.str {#[c]}) H
theorem vZ:IxR X (wc X.K):=by
 intro ZF Y0 Go s σ H x y v u Q I rx Z h hs;obtain ⟨p,xs,i,z,rfl,rfl,S,U,q⟩:=h;cases rx;obtain ⟨t,rfl⟩:=Z;obtain ⟨its,r,pl,hz⟩:=I.list S;obtain ⟨j,h1,h2,h3,h4,W⟩:=mT U;obtain ⟨w,G,XM⟩:=r.get h2;have hl:=r.length;have hn:=gj;have J:EP X Go σ Q w s:=⟨z,H,I,XM,q⟩;by_cases O:0<=i
 .have F:i.toNat=j:=by
   rw [seqIndex_of O W] at h1;exact Pn.inj h1
  exact item_listR pl.isList O 'l' (by rw [F];simpa using G) J hs
 .have F:(i+(its.toArray.size:Int)).toNat=j:=by
   rw [seqIndex_neg 'l' h4] at h1;rw [OZ,<- hl];exact Pn.inj h1
  exact Rw (x:=w) pl.isList.typeIs slot_list_getitem.lookup
   (wpAny_getItem_list_neg (Q:=λr s'=>r=w/\EP X Go σ Q r s') pl.isList 'l' (by rw [OZ]<;>lia) 'l' (by rw [F];simpa using G) {rfl,J}) hs
theorem Ek:IxR X (AE X.K):=by
 intro ZF Y0 Go s σ H x y v u Q I S O h hs;obtain ⟨p,xs,i,z,rfl,rfl,F,G,q⟩:=h;cases S;obtain ⟨t,rfl⟩:=O;obtain ⟨its,r,pl,hz⟩:=I.tuple F;obtain ⟨j,h1,h2,h3,h4,h5⟩:=mT G;obtain ⟨w,J,U⟩:=r.get h2;have hl:=r.length;have Z:=gj;have W:EP X Go σ Q w s:=⟨z,H,I,U,q⟩;exact Rw (x:=w) pl.typeIs SZ.lookup
  (getItem_tuple (j:=j) (Q:=λr s'=>r=w/\EP X Go σ Q r s') pl 'l' 'l' (by rw [OZ,<- hl];exact h1) (by simpa using J) {rfl,W}) hs
theorem HP:IxR X uW:=by
 intro ZF Z Go s σ H x y v u Q I U S h hs;obtain ⟨z,i,c,rfl,rfl,hz,J,q⟩:=h;obtain ⟨t,rfl⟩:=U;obtain ⟨t',rfl⟩:=S;obtain ⟨j,h1,h2,h3,h4,O⟩:=mT J;have hl:z.cps.toList.length=z.length:=by simp [Str.length]
 rw [hl] at h1 h4 O;have W:=gj;exact tail_any (Sn s z t) slot_str_getitem.lookup (getItem_str (c:=c) (by
  have F:decide (i < -(2 ^ 63:Int))=false:=decide_eq_false 'l';have G:decide (i ≥ 2 ^ 63)=false:=decide_eq_false 'l';rw [F,G,RX]) (by rw [h1];simpa using h2) {.str {#[c]},H,I.tok _,{_,rfl},q}) hs
def rIx(K:OF):R2:=λx y H Q=>wc K x y H Q\/AE K x y H Q\/uW x y H Q
theorem Fp:IxR X (rIx X.K):=vZ.or (Ek.or HP)
theorem Jx(its:List Value)(n j:Nat)(u:Value):Uo (·.setIfInBounds j u) { cls:=.type "list",data:=.seq its.toArray n }={ cls:=.type "list",data:=.seq (its.set j u).toArray n }:=by
 simp [Uo]
theorem Inv.lst{Go:List (Addr×Obj)}{σ:St}{H:Hp}{s:Ow}{p:Addr}{xs:List V}(I:Inv X Go σ H s)(h:H p=some (.lst xs)) :
  ∃(its:List Value)(n:Nat),zt xs its/\s.heap.get? p=some { cls:=.type "list",data:=.seq its.toArray n }/\xs.length<=sizeLine:=by
 obtain ⟨z,its,n,r,e⟩:=I.hok p _ h;exact ⟨its,n,r,e,z⟩
theorem Inv.bF{p:Addr}{its its':List Value}(I:Inv X Go σ H s)(h:H p=some (.lst xs))(F:s.heap.get? p=some { cls:=.type "list",data:=.seq its.toArray n })(hf:f { cls:=.type "list",data:=.seq its.toArray n }={ cls:=.type "list",data:=.seq its'.toArray z })(r:zt ys its')(hz:ys.length<=sizeLine)(t:Nat):
  Inv X Go σ (upd H p (.lst ys)) { s with heap:=s.heap.update p f,toks:=t }:=by
 have e:(s.heap.update p f).get? p=some { cls:=.type "list",data:=.seq its'.toArray z }:=by
  rw [PD f F (by rw [hf]<;>rfl),hf]
 refine I.write (x:=p) (e:=p) (by rw [h];trivial) (.inl rfl) (λb u G q=>(O5 _ _ (Pe G)).trans q) {_,e} ?_;exact ⟨hz,its',z,r,e⟩
def oO:V->V->V->Hp->(Hp->Prop)->Prop:=λo i v H Q=>∃p xs k j,o = .ref p/\i = .int k/\H p=some (.lst xs)/\ixN xs.length k=some j/\Q (upd H p (.lst (xs.set j v)))
theorem jW:mL X oO:=by
 intro Go s σ H o i v ov iv u Q I S U rv h;obtain ⟨p,xs,k,j,rfl,rfl,G,Z,q⟩:=h;cases S;obtain ⟨t,rfl⟩:=U;obtain ⟨its,n,r,z,hz⟩:=I.lst G;obtain ⟨h1,h2,h3,h4⟩:=Au Z;have hl:=r.length;have hn:=gj;have J:Inv X Go σ (upd H p (.lst (xs.set j v))) { s with heap:=s.heap.update p (Uo (·.setIfInBounds j u)) } :=
  I.bF G z (Jx its n j u) (r.set rv j) (by rw [List.length_set];exact hz) s.toks
 by_cases O:0<=k
 .have F:k.toNat=j:=by
   rw [seqIndex_of O h4] at h1;exact Pn.inj h1
  exact PySem.W.ki_setAt z O 'l' (by rw [OZ,<- hl];exact h4) (by rw [F];exact {_,J,q})
 .have F:(k+(its.toArray.size:Int)).toNat=j:=by
   rw [seqIndex_neg 'l' h3] at h1;rw [OZ,<- hl];exact Pn.inj h1
  exact PySem.W.ki_setBack z 'l' (by rw [OZ,<- hl];exact h3) 'l' (by rw [F];exact {_,J,q})
theorem En(lo hi:Option Int)(n:Nat):(R4 lo hi none n).1=((HT.sIx n 0 lo:Nat):Int)/\(R4 lo hi none n).2.1=((HT.sIx n n hi:Nat):Int)/\(R4 lo hi none n).2.2=1:=by
 refine {?_,?_,rfl}
 .cases lo with
  | none=>simp [R4,HT.sIx]
  | some i =>
   simp only [R4,HT.sIx,getD_none,show (1:Int)>0 by decide,if_true];by_cases h:i<0
   .simp only [h,if_true]<;>lia
   .simp only [h,if_false]<;>lia
 .cases hi with
  | none=>simp [R4,HT.sIx]
  | some i =>
   simp only [R4,HT.sIx,getD_none,show (1:Int)>0 by decide,if_true];by_cases h:i<0
   .simp only [h,if_true]<;>lia
   .simp only [h,if_false]<;>lia
theorem Kl(its:List Value)(lo hi:Option Int):slicePick its.toArray lo hi none=((its.drop (HT.sIx its.length 0 lo)).take (HT.sIx its.length its.length hi-HT.sIx its.length 0 lo)).toArray:=by
 obtain ⟨h1,h2,h3⟩:=En lo hi its.toArray.size;unfold slicePick;rw [h1,h2,h3];simp only [sliceRange_one,pick_run,OZ]<;>rfl
def IP(K:OF):V->Option Int->Option Int->Hp->VK->Prop:=λx lo hi H Q=>∃a xs,x = .ref a/\SqL K H a xs/\∀p,H p=none->Q (.ref p) (upd H p (.lst (bj xs lo hi)))
theorem Lk:SlR X (IP X.K):=by
 intro Go s σ H x v O S lo hi sl Q I G hs pl F h;obtain ⟨a,xs,rfl,hx,q⟩:=h;cases G;obtain ⟨its,r,z,hz⟩:=I.list hx;have J:=r.length;refine {"list",_,slot_list_getitem.lookup,z.isList.typeIs,?_};refine wpAny_getItem_list_slice z.isList hs pl F .none 'z' ?_ (by rw [OZ]<;>lia);rw [Kl,<- J];refine {.ref s.heap.objs.size,_,I.laid (t':=s.toks) (o:=.lst (bj xs lo hi)) (λb ob q=>Oy _ q) (Ox _) ?_,rfl,q _ (I.hok.fresh (Ox _))};exact {PX (uo xs lo hi) hz,_,0,(r.drop (HT.sIx xs.length 0 lo)).take (HT.sIx xs.length xs.length hi-HT.sIx xs.length 0 lo),OM _ rfl}
def ah:V->Bool
 | .non=>true
 | .bl _=>true
 | .int _=>true
 | .str _=>true
 | _=>false
def eqV:V->V->Bool
 | .non,.non=>true
 | .bl a,.bl b=>a==b
 | .bl a,.int b=>(if a then 1 else 0)==b
 | .int a,.bl b=>a==(if b then 1 else 0)
 | .int a,.int b=>a==b
 | .str a,.str b=>a==b
 | _,_=>false
theorem ki(G:zo y u)(z:zo x v)(J:ah y=true)(F:ah x=true):SeqAt.EqAt A s u v (eqV y x):=by
 cases y with
 | non =>
  cases G;cases x with
  | non=>cases z;exact SeqAt.EqAt.same _
  | bl b=>cases z;exact SeqAt.EqAt.none_bool b
  | int b=>obtain ⟨t,rfl⟩:=z;exact SeqAt.EqAt.none_int b t
  | str b=>obtain ⟨t,rfl⟩:=z;exact SeqAt.EqAt.none_str b t
  | _=>exact absurd (show false=true from F) OW
 | bl a =>
  cases G;cases x with
  | non=>cases z;exact SeqAt.EqAt.bool_none a
  | bl b=>cases z;exact SeqAt.EqAt.bool_bool a b
  | int b=>obtain ⟨t,rfl⟩:=z;exact SeqAt.EqAt.bool_int a b t
  | str b=>obtain ⟨t,rfl⟩:=z;exact SeqAt.EqAt.bool_str a b t
  | _=>exact absurd (show false=true from F) OW
 | int a =>
  obtain ⟨t',rfl⟩:=G;cases x with
  | non=>cases z;exact SeqAt.EqAt.int_none a t'
  | bl b=>cases z;exact SeqAt.EqAt.int_bool a t' b
  | int b=>obtain ⟨t,rfl⟩:=z;exact SeqAt.EqAt.int_int a t' b t
  | str b=>obtain ⟨t,rfl⟩:=z;exact SeqAt.EqAt.int_str a t' b t
  | _=>exact absurd (show false=true from F) OW
 | str a =>
  obtain ⟨t',rfl⟩:=G;cases x with
  | non=>cases z;exact SeqAt.EqAt.str_none a t'
  | bl b=>cases z;exact SeqAt.EqAt.str_bool a t' b
  | int b=>obtain ⟨t,rfl⟩:=z;exact SeqAt.EqAt.str_int a t' b t
  | str b=>obtain ⟨t,rfl⟩:=z;exact SeqAt.EqAt.str_str a t' b t
  | _=>exact absurd (show false=true from F) OW
 | _=>exact absurd (show false=true from J) OW
def eqU(x:V)(u:Value):Bool:=match u with
 | .none=>eqV .non x
 | .bool b=>eqV (.bl b) x
 | .int i _=>eqV (.int i) x
 | .str z _=>eqV (.str z) x
 | _=>false
theorem tS(r:zo y u)(f:ah y=true):eqU x u=eqV y x:=by
 cases y with
 | non=>cases r;rfl
 | bl b=>cases r;rfl
 | int i=>obtain ⟨t,rfl⟩:=r;rfl
 | str z=>obtain ⟨t,rfl⟩:=r;rfl
 | _=>exact absurd (show false=true from f) OW
theorem vh(h:zt xs us)(f:xs.all ah=true):us.any (eqU x)=xs.any λy=>eqV y x:=by
 induction h with
 | nil=>rfl
 | cons r t z =>
  rw [all_cons,Pm] at f;rw [Ta,Ta,tS r f.1,z f.2]
theorem oM(G:zo x v)(F:ah x=true):∀{xs:List V}{us:List Value},zt xs us->xs.all ah=true->∀u∈us,SeqAt.EqAt A s u v (eqU x u)
 | _,_,.nil,_=>λu z=>by cases z
 | y::xs,u::us,.cons r t,f=>λJ z=>by
  rw [all_cons,Pm] at f;rcases OH.mp z with rfl|z
  .rw [tS r f.1];exact ki r G f.1 F
  .exact oM G F t f.2 J z
def inV(x:V)(xs:List V):Bool:=xs.any λy=>eqV y x
def rIn(K:OF)(neg:Bool):R2:=λx y H Q=>∃p xs,y = .ref p/\(SqL K H p xs\/SqT K H p xs)/\ah x=true/\xs.all ah=true/\Q (.bl (if neg then !inV x xs else inV x xs)) H
theorem HW:OpR X (P8 .In) (rIn X.K false):=by
 intro Go s σ H x y v u Q I G J h;obtain ⟨p,xs,rfl,z,F,fs,q⟩:=h;cases J;rcases z with z|z
 .obtain ⟨its,r,pl,hz⟩:=I.list z;refine SeqAt.in_listAt (eqU x) pl.isList (λw hw=>oM G F r fs w (by simpa using hw)) {.bl _,H,I,rfl,?_};rw [show its.toArray.any (eqU x)=its.any (eqU x) by simp,vh r fs];exact q
 .obtain ⟨its,r,pl,hz⟩:=I.tuple z;refine SeqAt.in_tupleAt (eqU x) pl (λw hw=>oM G F r fs w (by simpa using hw)) {.bl _,H,I,rfl,?_};rw [show its.toArray.any (eqU x)=its.any (eqU x) by simp,vh r fs];exact q
theorem jN:zO X (.builtin "len") (λxs H Q=>∃p ys,xs=[.ref p]/\(SqL X.K H p ys\/SqT X.K H p ys)/\Q (.int ys.length) H):=by
 intro Go s σ H xs us Q I r h;obtain ⟨p,ys,rfl,z,q⟩:=h;obtain ⟨u,rfl,G⟩:=ck r;cases G;have J:=gj;rcases z with z|z
 .obtain ⟨its,r',pl,hz⟩:=I.list z;have F:=r'.length;exact Calls.call_len_list pl.isList (by simp only [OZ]<;>lia) {.int ys.length,H,I.tok _,{s.toks+1,by rw [OZ,F]},q}
 .obtain ⟨its,r',pl,hz⟩:=I.tuple z;have F:=r'.length;exact len_tuple pl (by simp only [OZ]<;>lia) {.int ys.length,H,I.tok _,{s.toks+1,by rw [OZ,F]},q}
theorem IA:zO X (.builtin "len") (λxs H Q=>∃z,xs=[.str z]/\z.length<=sizeLine/\Q (.int z.length) H):=by
 intro Go s σ H xs us Q I r h;obtain ⟨z,rfl,hz,q⟩:=h;obtain ⟨u,rfl,t,rfl⟩:=ck r;have F:=gj;exact len_str 'l' {.int z.length,H,I.tok _,{_,rfl},q}
theorem zO.or(h:zO X f r)(h':zO X f r'):zO X f (λxs H Q=>r xs H Q\/r' xs H Q):=by
 intro Go s σ H xs us Q I rs q;rcases q with q|q
 .exact h Go s σ H xs us Q I rs q
 .exact h' Go s σ H xs us Q I rs q
theorem Ka:zO X (.type "list") (λxs H Q=>∃p ys,xs=[.ref p]/\(SqL X.K H p ys\/SqT X.K H p ys)/\∀l,H l=none->Q (.ref l) (upd H l (.lst ys))):=by
 intro Go s σ H xs us Q I r h;obtain ⟨p,ys,rfl,z,q⟩:=h;obtain ⟨u,rfl,O⟩:=ck r;cases O;have J:∀(its:List Value),zt ys its->ys.length<=sizeLine->∀(h':Heap)(c':Nat),(∀b o',s.heap.get? b=some o'->h'.get? b=some o') ->
   h'.get? s.heap.objs.size=some { cls:=.type "list",dict:=none,data:=.seq its.toArray c',slots:=#[] }->EP X Go σ Q (.ref s.heap.objs.size) { s with heap:=h' }:=λits r' hz h' c' kp e =>
  {.ref s.heap.objs.size,_,I.laid (t':=s.toks) kp (Ox _) (show ae X.prog X.w _ h' _ (.lst ys) from ⟨hz,its,c',r',e⟩),rfl,q _ (I.hok.fresh (Ox _))}
 rcases z with z|z
 .obtain ⟨its,r',pl,hz⟩:=I.list z;have S:=r'.length;obtain ⟨o,G,F,n,hd⟩:=pl.isList;exact call_list_seq p (.inl rfl) G F hd (λh' c' kp e=>J its r' hz h' c' kp e) (by simp only [OZ]<;>lia)
 .obtain ⟨its,r',pl,hz⟩:=I.tuple z;have S:=r'.length;obtain ⟨o,G,F,n,hd⟩:=pl;exact call_list_seq p (.inr rfl) G F hd (λh' c' kp e=>J its r' hz h' c' kp e) (by simp only [OZ]<;>lia)
theorem KC:zO X (.type "tuple") (λxs H Q=>∃p ys,xs=[.ref p]/\((SqL X.K H p ys/\∀l,H l=none->Q (.ref l) (upd H l (.tup ys)))\/(SqT X.K H p ys/\Q (.ref p) H))):=by
 intro Go s σ H xs us Q I r h;obtain ⟨p,ys,rfl,h⟩:=h;obtain ⟨u,rfl,J⟩:=ck r;cases J;rcases h with ⟨z,q⟩|⟨z,q⟩
 .obtain ⟨its,r',pl,hz⟩:=I.list z;have O:=r'.length;refine call_tuple_list pl.isList (λh' kp=>?_) (by simp only [OZ]<;>lia);have F:Inv X Go σ H { s with heap:=h' }:=I.kept (t':=s.toks) kp;have G:Inv X Go σ (upd H h'.objs.size (.tup ys)) { s with heap:=h'.push { cls:=.type "tuple",data:=.seq its.toArray } } :=
   F.laid (t':=s.toks) (λb o e=>Oy _ e) (Ox _) (show ae X.prog X.w _ _ _ (.tup ys) from {hz,its,r',Tr.new _ _})
  exact {.ref h'.objs.size,_,G,rfl,q _ (F.hok.fresh (Ox _))}
 .obtain ⟨its,r',pl,hz⟩:=I.tuple z;exact call_tuple_same pl {.ref p,H,I,rfl,q}
def tyV(K:OF)(T:String)(x:V)(H:Hp):Prop:=match x with
 | .str _=>T="str"
 | .int _=>T="int"
 | .ref p=>(T="list"/\∃xs,SqL K H p xs)\/(T="tuple"/\∃o,K.lookup p=some o/\o.cls = .type "tuple"/\o.dict=none) \/
   (T="dict"/\((∃kvs,H p=some (.dK kvs))\/∃kvs,H p=some (.dT kvs)))\/(T="set"/\∃S n,H p=some (.set S n))
 | _=>False
theorem lR(I:Inv X Go σ H s)(r:zo x v)(ty:tyV X.K T x H):
  s.TypeIs v T/\∀a,v = .ref a->∃ob,s.heap.get? a=some ob/\ob.dict=none:=by
 cases x with
 | str z =>
  obtain ⟨t,rfl⟩:=r;cases (show T="str" from ty);exact {Sn s z t,λ_ e=>nomatch e}
 | int i =>
  obtain ⟨t,rfl⟩:=r;cases (show T="int" from ty);exact {typeIs_int s i t,λ_ e=>nomatch e}
 | ref p =>
  cases r;rcases ty with ⟨rfl,xs,J⟩|⟨rfl,o,F,O,hd⟩|⟨rfl,F⟩|⟨rfl,S,n,F⟩
  .obtain ⟨its,_,pl,_⟩:=I.list J;refine {pl.isList.typeIs,λa e=>?_};cases e;obtain ⟨o,n,e,c,hd,_⟩:=pl;exact ⟨o,e,hd⟩
  .refine {{o,I.UB p o F,O},λa e=>?_};cases e;exact {o,I.UB _ o F,hd}
  .have z:∃o,s.heap.get? p=some o/\o.ExactDict:=by
    rcases F with ⟨kvs,F⟩|⟨kvs,F⟩
    .obtain ⟨_,_,_,_,o,_,_,e,ex,_⟩:=I.hok p _ F;exact ⟨o,e,ex⟩
    .obtain ⟨_,_,_,_,o,_,_,e,ex,_⟩:=I.hok p _ F;exact ⟨o,e,ex⟩
   obtain ⟨o,e,ex⟩:=z;refine {⟨o,e,ex.1⟩,λa G=>?_};cases G;exact ⟨o,e,ex.2.1⟩
  .obtain ⟨o,_,_,_,e,ex,_⟩:=I.hok p _ F;refine {⟨o,e,ex.1⟩,λa G=>?_};cases G;exact ⟨o,e,ex.2.1⟩
 | _=>exact False.elim ty
variable {o e:O3}{es:List O3}{to:TE}{t:TA}{name:Str}{ZU cpos:Pos}{T id:String}{r:V->List V->Hp->VK->Prop}
end
def MtM(X:Cx)(id:String)(r:V->List V->Hp->VK->Prop):Prop :=
 ∀(Go:List (Addr×Obj))(s:Ow)(σ:St)(H:Hp)(x:V)(xs:List V)(v:Value)(us:List Value)(Q:VK),Inv X Go σ H s->zo x v->zt xs us->r x xs H Q ->
  OJ (OR X.prog X.w) X.A (call (.builtin id) (v::us)) (EP X Go σ Q) X.xe s
theorem Ft{α β:Type}{F:α->β->Prop}{x:α}{xs:List α}{us:List β}(h:Paired F (x::xs) us):∃u ws,us=u::ws/\F x u/\Paired F xs ws:=by
 cases h with
 | cons r t=>exact {_,_,rfl,r,t}
theorem KO{α β:Type}{F:α->β->Prop}{us:List β}(h:Paired F [] us):us=[]:=by cases h;rfl
theorem zt.one(h:zt [x] us):∃u,us=[u]/\zo x u:=by
 obtain ⟨u,ws,rfl,r,t⟩:=Ft h;cases KO t;exact {_,rfl,r}
def dj(k:V->Prop):List V->Prop
 | [y]=>k y
 | _=>False
theorem dj.ex{k:V->Prop}(h:dj k vs):∃y,vs=[y]/\k y:=by
 cases vs with
 | nil=>exact h.elim
 | cons y t =>
  cases t with
  | nil=>exact {y,rfl,h}
  | cons _ _=>exact h.elim
theorem zt.rep(h:zt xs us):∀k:Nat,zt (Qk k xs).flatten (Qk k us).flatten
 | 0=>.nil
 | k+1=>by
  rw [Q9,Q9,RT,RT];exact zt.append h (zt.rep h k)
theorem vf(its:List Value):∀(k:Nat)(ZT:List Value),
  foldl (λz G=>z++G) ZT.toArray (Qk k its.toArray)=(ZT++(Qk k its).flatten).toArray
 | 0,ZT=>by simp
 | k+1,ZT=>by
  have e:ZT.toArray++its.toArray=(ZT++its).toArray:=by simp
  have F:(ZT++its)++(Qk k its).flatten=ZT++(Qk (k+1) its).flatten:=by
   rw [Q9,RT,QW]
  rw [<- F,<- vf its k (ZT++its),<- e,Q9,Uc]
section
variable {X:Cx}{Go:List (Addr×Obj)}{σ:St}{H:Hp}{s:Ow}{l b:Addr}{xs ys zs:List V}
theorem Inv.cc{its its':List Value}(I:Inv X Go σ H s)(z:H l=some (.lst xs))(e:s.heap.get? l=some { cls:=.type "list",data:=.seq its.toArray n })(hf:f its.toArray=its'.toArray)(hv:zt ys its')(hz:ys.length<=sizeLine):
  Inv X Go σ (upd H l (.lst ys)) { s with heap:=s.heap.update l (Uo f),toks:=t' }:=by
 have q:=PySem.IsL.update e f;rw [hf] at q;refine I.write (x:=l) (e:=l) (by rw [z];exact trivial) (.inl rfl) (λb' u F G=>(O5 s.heap (Uo f) (Pe F)).trans G) {_,q} ?_;exact {hz,its',_,hv,q}
theorem Inv.cf(I:Inv X Go σ H s)(hv:zt ys its)(hz:ys.length<=sizeLine):
  Inv X Go σ (upd H s.heap.objs.size (.lst ys)) { s with heap:=s.heap.push { cls:=.type "list",data:=.seq its.toArray },toks:=t' } :=
 I.laid (λ_ _ q=>Oy _ q) (Ox _) {hz,its,0,hv,OM _ rfl}
theorem Inv.fresh(I:Inv X Go σ H s):H s.heap.objs.size=none:=I.hok.fresh (Ox _)
theorem Inv.aC(I:Inv X Go σ H s)(F:H l=some (.lst xs)):xs.length<=sizeLine/\∃(its:List Value)(n:Nat),zt xs its/\xs.length=its.length/\s.heap.get? l=some { cls:=.type "list",data:=.seq its.toArray n }:=by
 obtain ⟨z,its,n,r,e⟩:=I.hok l _ F;exact ⟨z,its,n,r,r.length,e⟩
theorem vm(h:n<=sizeLine):OS.List.listTooLong n=false:=by
 unfold OS.List.listTooLong;exact decide_eq_false 'l'
end
section
variable {X:Cx}
def Dh:V->List V->Hp->VK->Prop:=λx vs H Q=>∃l xs y,x = .ref l/\vs=[y]/\H l=some (.lst xs)/\xs.length<sizeLine/\Q .non (upd H l (.lst (xs++[y])))
theorem Ep:MtM X "list.append" Dh:=by
 intro Go s σ H x vs v us Q I O S h;obtain ⟨l,xs,y,rfl,rfl,G,hz,q⟩:=h;cases O;obtain ⟨u,rfl,J⟩:=S.one;obtain ⟨z,its,n,r,hl,e⟩:=I.aC G;refine R0 F.slot_list_append {_,e,rfl} F.entry_list_append (F.args_list_append_2 _ _) (PySem.list_append l its.toArray n u (by rw [OZ];lia)) {e,?_};refine {.non,_,I.cc (its':=its++[u]) G e 'z' (r.append (.cons J .nil)) ?_,rfl,q};rw [Pa,Qm];lia
def Kt:V->List V->Hp->VK->Prop:=λx vs H Q=>∃l b xs zs,x = .ref l/\vs=[.ref b]/\H l=some (.lst xs)/\H b=some (.lst zs)/\xs.length+zs.length<=sizeLine/\Q .non (upd H l (.lst (xs++zs)))
theorem HX:MtM X "list.extend" Kt:=by
 intro Go s σ H x vs v us Q I rx rv h;obtain ⟨l,b,xs,zs,rfl,rfl,J,hB,hz,q⟩:=h;cases rx;obtain ⟨u,rfl,U⟩:=rv.one;cases U;obtain ⟨z,its,n,r,hl,e⟩:=I.aC J;obtain ⟨z2,G,Z,S,Yd,O⟩:=I.aC hB;have hsz:its.toArray.size+G.toArray.size<=sizeLine:=by rw [OZ,OZ];lia
 have W : ¬ (!its.toArray.isEmpty&&OS.List.listTooLong (its.toArray.size+G.toArray.size))=true:=by
  rw [vm hsz,Bool.and_false];exact OW
 refine R0 F.slot_list_extend {_,e,rfl} F.entry_list_extend (F.args_list_extend_2 _ _)
  (AutoSeq1.list_extend_list_list_0 l its.toArray n b G.toArray Z W (by rw [OZ];lia) 'l') {e,O,?_}
 refine {.non,_,I.cc (its':=its++G) J e 'z' (r.append S) ?_,rfl,q};rw [Pa];lia
def BN:R2:=λx y H Q=>∃l b xs zs,x = .ref l/\y = .ref b/\H l=some (.lst xs)/\H b=some (.lst zs)/\xs.length+zs.length<=sizeLine/\∀p,H p=none->Q (.ref p) (upd H p (.lst (xs++zs)))
theorem NP:OpR X (QP .Add) BN:=by
 intro Go s σ H x y v u Q I U S h;obtain ⟨l,b,xs,zs,rfl,rfl,O,W,hz,q⟩:=h;cases U;cases S;obtain ⟨z,its,n,r,hl,e⟩:=I.aC O;obtain ⟨Z,F,n2,J,Yd,G⟩:=I.aC W;refine PySem.P.add_list e G ?_ (by rw [OZ,OZ];lia);have ea:its.toArray++F.toArray=(its++F).toArray:=by simp
 rw [ea];exact {.ref _,_,I.cf (t':=s.toks) (r.append J) (by rw [Pa];lia),rfl,q _ I.fresh}
def Ff:R2:=λx y H Q=>∃l k xs,x = .ref l/\y = .int k/\H l=some (.lst xs)/\-(2 ^ 63)<=k/\k<2 ^ 63/\xs.length*k.toNat<=sizeLine /\
 ∀p,H p=none->Q (.ref p) (upd H p (.lst (Qk k.toNat xs).flatten))
theorem Nj{α:Type}(xs:List α)(k:Nat):(Qk k xs).flatten.length=k*xs.length:=by
 induction k with
 | zero=>simp
 | succ k z=>rw [Q9,RT,Pa,z,Nat.succ_mul,Nat.add_comm]
theorem JQ:OpR X (QP .Mult) Ff:=by
 intro Go s σ H x y v u Q I rx ry h;obtain ⟨l,k,xs,rfl,rfl,hH,h1,h2,hz,q⟩:=h;cases rx;obtain ⟨t,rfl⟩:=ry;obtain ⟨z,its,n,r,hl,e⟩:=I.aC hH;have ZZ:its.toArray.size*k.toNat<=sizeLine:=by rw [OZ,<- hl];exact hz
 have G : ¬ its.toArray.size*k.toNat>(2 ^ 63-1) / 8:=by
  have:(sizeLine:Nat)<=(2 ^ 63-1) / 8:=by decide
  lia
 have J : ¬ (!OS.List.listFitsIndex k)=true:=by
  rw [fitsIndex_both h1 h2];exact OW
 have Z : ¬ OS.List.listTooLong (its.toArray.size*k.toNat)=true:=by
  rw [vm ZZ];exact OW
 have O:foldl (λS W=>S++W) #[] (Qk (if its.toArray.isEmpty=true then 0 else k.toNat) its.toArray)=(Qk k.toNat its).flatten.toArray:=by
  have f0:∀m:Nat,foldl (λS W=>S++W) #[] (Qk m its.toArray)=(Qk m its).flatten.toArray:=λm=>by
   have:=vf its m [];rw [T7] at this;exact this
  rw [f0];cases its with
  | nil=>simp
  | cons a r'=>rw [if_neg 'z']
 refine wpAny_binaryOp_repeat_ref (T:="list") (U:="int") 'd' {_,e,rfl} (λs'=>typeIs_int s' k t) noFill_list_mul F.fills_int_mul F.slot_int_rmul repeat_list F.slot_int_index.lookup
  (R0 F.slot_int_rmul (typeIs_int s k t) F.entry_int_rmul (F.args_int_rmul_2 _ _) (int___rmul___int_list k t l its.toArray n)
   {e,rfl,{_,e,rfl},R0 F.slot_list_mul {_,e,rfl} F.entry_list_mul (F.args_list_mul_2 _ _) (AutoListH.list___mul___list_int_3 l its.toArray n k t J G Z) {e,?_}})
 rw [O];exact {.ref _,_,I.cf (t':=s.toks) (r.rep k.toNat) (by rw [Nj,Nat.mul_comm];exact hz),rfl,q _ I.fresh}
end
end L2
namespace Att
open PySem PySem.W PySem.Calls PyProof.Rows
theorem IS:∀(ns:List Int)(vs:List Value),WellAll P h vs (ns.map WData.int)->RA vs ns:=by
 intro ns
 induction ns with
 | nil =>
  intro vs w;rw [map_nil] at w;cases w;exact .nil
 | cons n ns z =>
  intro vs w;rw [Pf] at w;cases w with
  | cons a b =>
   cases a;exact .cons _ _ (z _ b)
theorem ML{l:OpenLaw}(O:l.most=some n){vals:List Value}(z:l.row.toRowW.claim.pre args=true)(hwl:WellAll P h vals args):
  ∃a vs ns,vals=[OU a]/\args=[WData.list (ns.map WData.int)]/\h.get? a=some { cls:=.type "list",data:=.seq vs.toArray }/\RA vs ns/\ns.length<=n:=by
 have G:WShape.hasAll [] args [.list .int]=true:=(pre_splitW z).1;have J:l.pre.holds [] { args:=args }=true:=(pre_splitW z).2;obtain ⟨d,r,rfl,h1,h2⟩:=hasAllW_cons G;obtain rfl:=hasAllW_nil h2;obtain ⟨xs,rfl,h3⟩:=hasW_list h1;obtain ⟨ns,rfl⟩:=items_int h3;have ZZ:ns.length<=n:=by
  unfold OpenLaw.pre at J;have h4:(WTm.not (.lt (.lit (.int (n:Int))) (.len (.arg 0)))).holds [] { args:=[.list (ns.map .int)] }=true:=by
   have h4:=(holds_andW J).1;rw [O] at h4;exact h4
  have F:=condW_of h4 (w_not (w_lt w_lit (w_len_list (w_arg rfl))));rw [OB] at F;refine Nat.le_of_not_lt λq=>?_;have Z:(n:Int)<((ns.length:Nat):Int):=by lia
  first
   | (rw [decide_eq_true Z] at F;exact absurd F 'd')
   | (simp at F;lia)
 cases hwl with
 | cons w1 S =>
  cases S;cases w1 with
  | list U W=>exact {_,_,ns,rfl,rfl,U,IS ns _ W,ZZ}
theorem K2(l:OpenLaw)(args:List WData):l.row.toRowW.claim.post args (.bool true) args=true :=
 postW_of (r:=l.row.toRowW) (X:=(true==true))
  (show WShape.has [] (.bool true) .bool=true by first|rfl|decide|simp [WShape.has,WShape.arms,WShape.armsAll])
  (show (WTm.eq .res (.lit (.bool true))).value [] { args:=args,res:=some (.bool true),after:=args }=some (.bool (true==true)) from w_eq_bool (w_res rfl) w_lit) rfl
theorem attach_call{l:OpenLaw}{d:DefRec}(hn:l.most=some n)(U:d.params.defaults=[])(call:∀(w:O1)(s₀ s₁:Ow)(mg O:Str->Option Value)(F:Addr)(o:Obj)(pm cd W:Value)(a:Addr)(vs:List Value)(ns:List Int),
   Ground q Z [] XP w s₀ mg O s₁.heap->YP w s₁.heap ->
   s₁.heap.get? F=some o->o.data = .func (docDef d.name d.params d.body d.scope pm cd W)->s₁.heap.CodeRec cd d.name->mg d.name=some (.ref F) ->
   s₁.heap.get? a=some { cls:=.type "list",data:=.seq vs.toArray }->RA vs ns->ns.length<=n->s₁.gens = #[] ->
   QT (OR l.prog w) callerA (.call (.ref F) {[.ref a],[]}) (λr s'=>r = .ok (.ret (.bool true))/\OldK s₁.heap s'.heap/\s'.os=s₁.os/\RI s'.gens) s₁):
  WalkO q Z XP YP l.row.toRowW d [] (λf vs=>PySem.call f vs):=by
 intro w s₀ s₁ mg O G Y F o pm cd W dV kV ho hd hcd hD S hg args vals as J ab ar hwl ai;obtain rfl:dV = .none:=Dflts.none hD U;obtain rfl:kV = .none:=Dflts.noKw hD;obtain ⟨a,vs,ns,rfl,rfl,z,W9,ZZ⟩:=ML hn J hwl;refine enter_call (QS (call w s₀ s₁ mg O F o pm cd W a vs ns G Y ho (fd_plain hd) hcd S z W9 ZZ hg) λr s' hq=>?_);obtain ⟨rfl,h2,h3,h4⟩:=hq;exact {.inl {.bool true,.bool true,[],rfl,λ_=>rfl,.bool true,K2 l _,λ_=>{Pairwise.nil,λ_ hm=>(nomatch hm)}},h2,h3,h4}
end Att
namespace L2
open PySem PySem.Spec PyProof.Rows
theorem ml(h:RA vs ns):zt (ns.map V.int) vs:=by
 induction h with
 | nil=>exact .nil
 | cons n t h z=>exact .cons {t,rfl} z
def ay(s:Stmt)(j:Nat):Stmt:=match s with
 | .ClassDef _ _ _ z _ _ _ _ _ _ _=>z.getD j (.Pass {0,0,0,0})
 | _=>.Pass {0,0,0,0}
def gB(s:Stmt):Arguments:=match s with
 | .FunctionDef _ a _ _ _ _ _ _ _ _=>a
 | _=>{ posonlyargs:=[],args:=[],vararg:=none,kwonlyargs:=[],kw_defaults:=[],kwarg:=none,defaults:=[] }
def cZ(s:Stmt):List Stmt:=match s with
 | .FunctionDef _ _ b _ _ _ _ _ _ _=>b
 | _=>[]
def zk(s:Stmt):Scope:=match s with
 | .FunctionDef _ _ _ _ _ _ sc _ _ _=>sc
 | _=>{ kind:=.function,names:=[],isGenerator:=false,isCoroutine:=false }
abbrev CX0:CXT:=λ_ _ _ _ _ _=>False
abbrev E0:XK:=λ_ _ _=>False
theorem jA:fC CX0 X E0:=λ_ _ _ _ _ _ _ h=>h.elim
structure Fun(K:OF)(x qual:Str)(st:Stmt)(f:Addr)(fd:OP):Prop where
 ex:∃(oc:Value)(od:Option Addr)(kV Ye pm:Value)(an:Option Addr)(Z0 ct:Value)(osl:Array (Option Value)),
  fd=fnOf x qual (gB st) (cZ st) (zk st) .none kV Ye pm an Z0 ct/\K.lookup f=some {oc,od,.func fd,osl}/\codeIn K Z0 qual=true
 kp:Sg K (.ref f)=true
section
variable {P:OL}{w:O1}{K:OF}{mg:Str->Option Value}{base:Heap}
theorem Fun.ok{st:Stmt}{k:Nat}(F:Fun K x qual st f fd)(S:zw N ps (zk st))(len:∀vs H Q E,sp vs H Q E->vs.length=ps.length)(G:∀(z:Value)(A:O0)(outer:List Env)(s:Ow)(H:Hp)(vs:List V)(Q:VK)(E:XK),zE cm k (A.deeper (Ra qual (zk st) s.heap.objs.size f z))->sp vs H Q E ->
   ∃t,PSs (bR CX0 cm P w K mg base N qual (zk st) f z A outer s H E).bw (cZ st) t/\t { nx:=λ_ H'=>Q .non H',rt:=Q } (start N vs) H):zp P w K mg base CX0 cm (k+1) f fd ps sp:=by
 obtain ⟨oc,od,kV,Z,pm,W,z,ct,O,rfl,lk,hcd⟩:=F.ex;refine m8 lk hcd S len λA outer s H vs Q E J U=>?_;obtain ⟨t,h,q⟩:=G z A outer s H vs Q E J U;exact ⟨t,h.bw,q⟩
theorem Fun.binds{st:Stmt}(F:Fun K x qual st f fd)(h:∀(kV J pm:Value)(G:Option Addr)(z ct:Value)(us:List Value),us.length=ps.length->S6 (fnOf x qual (gB st) (cZ st) (zk st) .none kV J pm G z ct) {us,[]}=pure (ps.zip us)):cx K fd ps []:=by
 obtain ⟨oc,S,kV,J,pm,G,z,ct,O,rfl,lk,hcd⟩:=F.ex;exact .all (h kV J pm G z ct)
theorem ym{st:Stmt}{kV J pm F ct:Value}(l:K.lookup f=some {oc,O,.func (fnOf x qual (gB st) (cZ st) (zk st) .none kV J pm G F ct),z})(c:codeIn K F qual=true)(k:Sg K (.ref f)=true):Fun K x qual st f (fnOf x qual (gB st) (cZ st) (zk st) .none kV J pm G F ct):={{oc,O,kV,J,pm,G,F,ct,z,rfl,l,c},k}
end
theorem zT{k:Nat}(z:zE c k A):A.units+1<cLine:=PV (Nat.add_le_add_left (by decide:1<=64) _) z.units
section
variable {X:Cx}
theorem pv(i:Nat)(hN:X.N[i]?=some x:=by rfl)(hv:Vis X.env.scope x:=by first|exact OO rfl|exact RU (OO rfl)|exact RU (RU rfl))(hd:(x==("__debug__":Str))=false:=by decide)(hcd:(x==("__classdict__":Str))=false:=by decide):PE X (.Name x pos) (f9 i):=Ku hN hv hd hcd
end
theorem vI{A B:Prop}(h:B):if false=true then A else B:=by
 rw [if_neg OW];exact h
theorem oR{A B:Prop}(h:A):if true=true then A else B:=by
 rw [if_pos rfl];exact h
theorem aY{c A B:Prop} [Decidable c] (h1:c->A) (h2 : ¬ c->B):if c then A else B:=by
 by_cases h:c
 .rw [if_pos h];exact h1 h
 .rw [if_neg h];exact h2 h
def zi(H H':Hp):Prop:=∀b o,H b=some o->H' b=some o
theorem zi.refl(H:Hp):zi H H:=λ_ _ h=>h
theorem zi.trans(a:zi H H1)(b:zi H1 H2):zi H H2:=λc o h=>b c o (a c o h)
theorem zi.free(e:zi H H')(h:H' l=Option.none):H l=Option.none:=by
 cases q:H l with
 | none=>rfl
 | some o =>
  rw [e l o q] at h;cases h
end L2
set_option maxHeartbeats 4000000
namespace L2
open PySem PySem.Spec PyProof.Rows
def cF(cells:List (Str×Addr)):List (Str×P0)->List (Str×Addr)->List (Str×Addr)
 | [],cs=>cs
 | (n,k)::r,cs=>cF cells r (if k == .free then (match cells.lookup n with|some c=>(n,c)::cs|none=>cs) else cs)
theorem yQ(h:∀y∈scope.names,y.2 = .free->∃c,env.cells.lookup y.1=some c):RM scope env=pure (cF env.cells scope.names []):=by
 simp only [RM];have all:∀(l:List (Str×P0))(cs:List (Str×Addr)),(∀y∈l,y.2 = .free->∃c,env.cells.lookup y.1=some c) ->
   (forIn l cs λ(x:Str×P0)(r:List (Str×Addr))=>match x with|(name,kind)=>if (kind==P0.free)=true then do let a<-cellOf env name;pure (ForInStep.yield ((name,a)::r)) else pure (ForInStep.yield r):Sem (List (Str×Addr)))=pure (cF env.cells l cs):=by
  intro l
  induction l with
  | nil=>intro cs _;rfl
  | cons y r J =>
   intro cs F;obtain ⟨n,k⟩:=y;rw [Ub];by_cases G:k = .free
   .subst G;obtain ⟨c,S⟩:=F (n,.free) OT rfl;have U:env.cells.lookup n=some c:=S;simp only [cellOf,U,cF,beq_self_eq_true,if_true];exact J _ λz hz=>F z (OI _ hz)
   .have O:(k==P0.free)=false:=by simpa using G
    simp only [cF,O,Q5,if_false];exact J _ λz hz=>F z (OI _ hz)
 have e:=all scope.names [] h;show (do let cs<-forIn scope.names [] _;pure cs)=_
 first
  | (rw [bind_pure];exact e)
  | exact e
  | (simpa using e)
theorem uf:∀{l:List (Str×P0)}{cs:List (Str×Addr)}{x:Str}{c:Addr},(cF cells l cs).lookup x=some c->cs.lookup x=some c\/(cells.lookup x=some c/\(x,P0.free)∈l)
 | [],_,_,_,h=>.inl h
 | (n,k)::r,cs,x,c,h=>by
  unfold cF at h;rcases uf h with h|⟨h1,h2⟩
  .by_cases F:k = .free
   .subst F;simp only [beq_self_eq_true,if_true] at h;cases e:cells.lookup n with
    | none=>rw [e] at h;exact .inl h
    | some c' =>
     rw [e] at h;simp only [RL] at h;by_cases hx:x=n
     .subst hx;simp only [beq_self_eq_true] at h;cases h;exact .inr ⟨e,OT⟩
     .have z:(x==n)=false:=by simpa using hx
      rw [z] at h;exact .inl h
   .have z:(k==P0.free)=false:=by simpa using F
    rw [z] at h;exact .inl h
  .exact .inr {h1,OI _ h2}
theorem yg:∀{l:List (Str×P0)}{cs:List (Str×Addr)}{x:Str},(cs.lookup x).isSome=true->((cF cells l cs).lookup x).isSome=true
 | [],_,_,h=>h
 | (n,k)::r,cs,x,h=>by
  unfold cF;refine yg ?_;split
  .split
   .simp only [RL];split
    .rfl
    .exact h
   .exact h
  .exact h
theorem xn:∀{l:List (Str×P0)}{cs:List (Str×Addr)}{x:Str}{c:Addr},(x,P0.free)∈l->cells.lookup x=some c->((cF cells l cs).lookup x).isSome=true
 | (n,k)::r,cs,x,c,hm,z=>by
  unfold cF;rcases OH.mp hm with e|hm
  .cases e;refine yg ?_;simp only [beq_self_eq_true,if_true,z,RL];rfl
  .exact xn hm z
theorem lZ:∀(names:List (Str×P0))(n:Nat)(ZT:List (Str×Addr)),QM n names ZT=QM n names []++ZT
 | [],_,_=>rfl
 | (x,k)::r,n,ZT=>by
  unfold QM;split
  .rw [lZ r (n+1) ((x,n)::ZT),lZ r (n+1) [(x,n)],QW];rfl
  .exact lZ r n ZT
theorem nj:∀{names:List (Str×P0)}{n:Nat}{ZT:List (Str×Addr)},(x,c)∈QM n names ZT->(x,c)∈ZT\/(x,P0.cell)∈names
 | [],_,_,h=>.inl h
 | (y,k)::r,n,ZT,h=>by
  unfold QM at h;split at h
  .next hk =>
   rcases nj h with h|h
   .rcases OH.mp h with e|h
    .cases e;rw [eq_of_beq hk];exact .inr OT
    .exact .inl h
   .exact .inr (OI _ h)
  .rcases nj h with h|h
   .exact .inl h
   .exact .inr (OI _ h)
theorem kJ:∀{names:List (Str×P0)}{n:Nat}{ZT:List (Str×Addr)},(ZT.lookup x).isSome=true->((QM n names ZT).lookup x).isSome=true
 | [],_,_,h=>h
 | (y,k)::r,n,ZT,h=>by
  unfold QM;split
  .refine kJ ?_;rw [RL];cases x==y with
   | true=>rfl
   | false=>exact h
  .exact kJ h
theorem oS:∀{names:List (Str×P0)}{n:Nat}{ZT:List (Str×Addr)},(x,P0.cell)∈names->((QM n names ZT).lookup x).isSome=true
 | (y,k)::r,n,ZT,h=>by
  unfold QM;rcases OH.mp h with e|h
  .cases e;rw [if_pos 'd'];exact kJ (by rw [RL,beq_self_eq_true];rfl)
  .split
   .exact oS h
   .exact oS h
def fE(cells:List (Str×Addr))(sc:Scope)(C:Addr):List (Str×Addr):=QM (C+1) sc.names (cF cells sc.names [])
structure jn(cells:List (Str×Addr))(sc:Scope)(C:Addr)(h:Heap):Prop where
 aL:∀x c,(fE cells sc C).lookup x=some c->(C<c/\h.IsCell c none/\(x,P0.cell)∈sc.names)\/(cells.lookup x=some c/\(x,P0.free)∈sc.names)
 inj:∀x y c,(fE cells sc C).lookup x=some c->(fE cells sc C).lookup y=some c->C<c->x=y\/(cells.lookup x=some c\/cells.lookup y=some c)
theorem tq:∀{a b:List (Str×Addr)},(a++b).lookup x=(a.lookup x).or (b.lookup x)
 | [],b=>rfl
 | (y,c)::r,b=>by
  rw [Tp,RL,RL];cases x==y with
  | true=>rfl
  | false=>exact tq
theorem jn.mk'(z:h.objs.size=C+1):jn cells sc C (Ro h sc.names):=by
 have ok:=cellsFrom_ok sc.names h (C+1) [] {λ_ _ hm=>(nomatch hm),Pairwise.nil} (TQ z.symm);rw [z] at ok;have sp:∀x c,(fE cells sc C).lookup x=some c->(x,c)∈QM (C+1) sc.names []\/(cells.lookup x=some c/\(x,P0.free)∈sc.names):=λx c h=>by
  unfold fE at h;rw [lZ,tq] at h;cases e:(QM (C+1) sc.names []).lookup x with
  | some d=>rw [e] at h;cases h;exact .inl (Qq e)
  | none =>
   rw [e] at h;rcases uf (show (cF cells sc.names []).lookup x=some c from h) with h|h
   .cases h
   .exact .inr h
 refine {λx c h=>?_,λx y c h1 h2 _=>?_}
 .rcases sp x c h with h|h
  .refine .inl {(ok.empty x c h).2,(ok.empty x c h).1,?_};rcases nj h with h|h
   .cases h
   .exact h
  .exact .inr h
 .rcases sp x c h1 with a|a
  .rcases sp y c h2 with b|b
   .exact .inl (PySem.name_of_addr ok.apart a b)
   .exact .inr (.inr b.1)
  .exact .inr (.inl a.1)
theorem xf{code:Value}(O:Q (newEnv scope s.heap.objs.size G (QM (s.heap.objs.size+1) scope.names J) qual z code (some outer) R1) { s with heap:=Ro (s.heap.push { cls:=.type "dict",data:=.dict #[] }) scope.names }):
  OJ M A (newFunctionEnv scope G J [] qual z code (some outer)) Q E s:=by
 simp only [newFunctionEnv,isSome_some,if_true];refine we (wpAny_alloc ?_);refine we (wpAny_layCells _ (λname kind cells=>by cases F:kind==P0.cell<;>simp [F]) _ _ _ _ ?_);rw [show ({ s with heap:=s.heap.push { cls:=.type "dict",data:=.dict #[] } }:Ow).heap.objs.size=s.heap.objs.size+1 from QG ..];exact we (Oz (Oz O))
def bq(sc:Scope)(names:List (Str×P0))(N N':List Str)(ix:List (Option Nat)):Bool :=
 sc.kind == .function&&sc.names.all (λy=>(y.2 != .cell||sc.names.lookup y.1==some .cell)&&(y.2 != .local||sc.names.lookup y.1==some .local)&&(y.2 != .free||(names.lookup y.1==some .cell&&sc.names.lookup y.1==some .free)) ) &&
 ix.length==N'.length&&(Qg ix.length).all (λi=>match ix.getD i none with
  | none=>true
  | some j=>(match N'[i]?,N[j]? with|some x,some y=>x==y&&sc.names.lookup x==some .free|_,_=>false))
def cz(ix:List (Option Nat))(σ:St):St:=ix.map λo=>o.bind λj=>(σ[j]?).join
structure zY(X:Cx)(sc:Scope)(N':List Str)(ix:List (Option Nat)):Prop where
 kind:sc.kind = .function
 cell:∀y∈sc.names,y.2 = .cell->sc.names.lookup y.1=some .cell
 names:∀y∈sc.names,y.2 = .local->sc.names.lookup y.1=some .local
 free:∀y∈sc.names,y.2 = .free->X.env.kindOf y.1=some .cell/\sc.names.lookup y.1=some .free
 len:ix.length=N'.length
 at_:∀(i j:Nat),ix[i]?=some (some j)->∃x,N'[i]?=some x/\X.N[j]?=some x/\sc.names.lookup x=some .free
theorem zY.of(h:bq sc X.env.scope.names X.N N' ix=true):zY X sc N' ix:=by
 unfold bq at h;simp only [Pm,Py] at h;obtain ⟨⟨⟨h1,h2⟩,h3⟩,h4⟩:=h;refine {by simpa using h1,λy F z=>?_,λy F z=>?_,λy F z=>?_,by simpa using h3,λi j e=>?_}
 .have q:=(h2 y F).1.1;rw [z] at q;simpa using q
 .have q:=(h2 y F).1.2;rw [z] at q;simpa using q
 .have q:=(h2 y F).2;rw [z] at q;simp only [bne_self_eq_false,Bool.false_or,Pm,beq_iff_eq] at q;exact q
 .have hi:i<ix.length:=(OE.mp e).1;have:=h4 i (R6.mpr hi);have O:ix.getD i none=some j:=by rw [OY,e];rfl
  rw [O] at this;dsimp only at this;cases G:N'[i]? with
  | none=>rw [G] at this;simp at this
  | some x =>
   cases J:X.N[j]? with
   | none=>rw [G,J] at this;simp at this
   | some y =>
    rw [G,J] at this;simp only [Pm,beq_iff_eq] at this;exact {x,rfl,by rw [this.1],this.2}
def zA(X:Cx)(sc:Scope)(N':List Str)(Go:List (Addr×Obj))(C:Addr)(fp:List Addr)(s:Ow)(H:Hp):Cx :=
 { X with N:=N',s₀:=s,H₀:=H,env:=compEnvC sc (fE X.env.cells sc C) C X.env,outer:=X.stack,stack:=X.stack,ex:=fp,fn:=λx=>sc.names.lookup x==some .cell,pn:=X.pn++Go,xe:=λ_ _=>False }
theorem HOk.add{o:HO}(x:HOk P w H h)(z:H D=none)(new:ae P w (upd H D o) h D o):HOk P w (upd H D o) h:=λb u e=>by
 by_cases F:b=D
 .subst F;rw [zu] at e;cases e;exact new
 .rw [ze F] at e;exact (x b u e).UE (λ_ _ _ q=>q) (λc q=>by rw [ze (zz q z)];exact q) λc xs q=>by rw [ze (zz q z)];exact q
theorem HOk.but(x:HOk P w H h)(F:H C=none)(k:∀b u,b≠C->h.get? b=some u->h'.get? b=some u):HOk P w H h':=λb u e =>
 (x b u e).UE (λc v G q=>k c v (by
  rcases G with z|z
  .rw [z];exact zz e F
  .exact zz z F) q) (λ_ q=>q) λ_ _ q=>q
theorem Ni(G:env.scope.kind = .function)(hf:∀y∈sc.names,y.2 = .free->env.kindOf y.1=some .cell):
  ∀x,(relabel sc env).names.lookup x=(sc.names.lookup x).map λk=>if k == .free then .cell else k:=by
 intro x;have em:(relabel sc env).names=sc.names.map λy=>(y.1,if y.2 == .free then P0.cell else y.2):=by
  show sc.names.map _=_;refine QA λy J=>?_;obtain ⟨n,k⟩:=y;by_cases z:k = .free
  .subst z;have e:env.kindOf n=some .cell:=hf (n,.free) J rfl;simp [G,e]
  .have F:(k==P0.free)=false:=by simpa using z
   simp [F]
 rw [em];generalize sc.names=l
 induction l with
 | nil=>rfl
 | cons y r O =>
  obtain ⟨n,k⟩:=y;simp only [Pf,RL];cases x==n with
  | true=>rfl
  | false=>exact O
section
variable {X:Cx}{sc:Scope}{N':List Str}{ix:List (Option Nat)}
theorem BZ{i:Nat}(h:(cz ix σ)[i]?=some (some v)):∃j,ix[i]?=some (some j)/\σ[j]?=some (some v):=by
 unfold cz at h;rw [OV] at h;cases e:ix[i]? with
 | none=>rw [e] at h;cases h
 | some o =>
  rw [e] at h;have h':(o.bind λj=>(σ[j]?).join)=some v:=Pn.inj h;cases o with
  | none=>cases h'
  | some j =>
   have F:(σ[j]?).join=some v:=h';cases G:σ[j]? with
   | none=>rw [G] at F;cases F
   | some z =>
    rw [G] at F;have:z=some v:=F;exact {j,rfl,by rw [G,this]}
theorem xr(I:Inv X Go σ H s)(L:zY X sc N' ix)(f:∀b∈fp,aJ X Go H b)(fl:∀b∈fp,b<s.heap.objs.size)(S:s.heap.objs.size<=C)(ab:h₁.Ns C m)(old:∀b o,s.heap.get? b=some o->h₁.get? b=some o)(own:jn X.env.cells sc C h₁):
  Inv (zA X sc N' Go C fp s H) [] (cz ix σ) H { s with heap:=h₁,toks:=tk }:=by
 have lt:∀{x c},X.env.cells.lookup x=some c->¬ C<c:=λ{x c} h=>by
  obtain ⟨_,q⟩:=I.cell x c h;have:=q.lt;lia
 have rl:=Ni (sc:=sc) (env:=X.env) I.ok.kind λy hy G=>(L.free y hy G).1;have J:∀x,sc.names.lookup x=some .free->∃c,(fE X.env.cells sc C).lookup x=some c/\X.env.cells.lookup x=some c:=λx hx=>by
  have hm:(x,P0.free)∈sc.names:=Qq hx;obtain ⟨c,hc⟩:=I.ok.has x (.inl (L.free _ hm rfl).1);obtain ⟨c',U⟩:=To.mp (kJ (names:=sc.names) (n:=C+1) (xn (cs:=[]) hm hc));rcases own.aL x c' U with a|a
  .have:=L.cell _ a.2.2 rfl;rw [hx] at this;cases this
  .exact ⟨c',U,a.1⟩
 refine {{I.ok.mod,L.kind,I.ok.glob,I.ok.blt,S,λx y c h1 h2=>?_,λx hx=>?_,λx c h h'=>?_,I.ok.hd,I.ok.frames,.inl rfl,λb O=>{Pr (Pd (fl b O) S),λx c h=>?_},
   I.bs,PX I.ok.aF I.sz,λb o e O=>?_,λb O z=>?_,I.stack,I.Vw},rfl,I.bare,Un.kept old,{m,ab,λi x v e1 e2 e3=>?_},λx c h=>?_,I.hok.fresh S,λx c h=>?_,λp hp=>?_,I.hok.kept old,?_,I.hdk}
 .rcases own.aL x c h1 with a|a<;>rcases own.aL y c h2 with b|b
  .rcases own.inj x y c h1 h2 a.1 with e|e|e
   .exact e
   .exact absurd a.1 (lt e)
   .exact absurd a.1 (lt e)
  .exact absurd a.1 (lt b.1)
  .exact absurd b.1 (lt a.1)
  .exact I.ok.inj x y c a.1 b.1
 .have F:(relabel sc X.env).names.lookup x=some .cell\/(relabel sc X.env).names.lookup x=some .free:=hx;rw [rl x] at F;cases e:sc.names.lookup x with
  | none=>rw [e] at F;simp at F
  | some k =>
   have G:k = .free\/k = .cell:=by
    cases k with
    | free=>exact .inl rfl
    | cell=>exact .inr rfl
    | _=>rw [e] at F;revert F;decide
   rcases G with G|G
   .subst G;obtain ⟨c,h1,_⟩:=J x e;exact ⟨c,h1⟩
   .subst G;exact To.mp (oS (Qq e))
 .rcases own.aL x c h' with a|a
  .exact PX S (Sf a.1)
  .have:=(L.free _ a.2 rfl).2;have h:(sc.names.lookup x==some .cell)=true:=h;rw [this] at h;exact absurd h 'd'
 .rcases own.aL x c h with a|a
  .have:=fl b O;have:=a.1;exact λz=>by subst z;lia
  .exact (f b O).2.2.2.2.1 x c a.1
 .rcases (f b O).2.2.2.1 with z|z
  .exact I.ok.az b o e z
  .exact absurd (Pd (O4 (I.ok.bs b o e).1) z) (PY _)
 .rcases OH.mp (I.UJ b z) with e|e
  .exact (f b O).2.1 e
  .exact (f b O).2.2.1 e
 .obtain ⟨j,hj,hv⟩:=BZ e2;obtain ⟨y,n1,n2,n3⟩:=L.at_ i j hj;have ai:x=y:=Pn.inj ((show N'[i]?=some x from e1).symm.trans n1);subst ai;obtain ⟨c,c1,c2⟩:=J x n3;have kf:=(L.free _ (Qq n3) rfl).1;obtain ⟨m0,ar,hl⟩:=I.loc;obtain ⟨u,r,l⟩:=hl j x v n2 hv (.inr (.inl kf));refine {u,r,.inr {.inl ?_,c,c1,?_}}
  .show (relabel sc X.env).names.lookup x=some .cell;rw [rl x,n3];rfl
  .rcases l with ⟨G,_⟩|⟨_,c',U,z⟩
   .have W:X.env.kindOf x=some .cell:=kf;rw [G] at W;cases W
   .rw [c2] at U;cases U;obtain ⟨oc,ho,hd⟩:=z;exact {oc,old _ _ ho,hd}
 .rcases own.aL x c h with a|a
  .exact {_,a.2.1}
  .obtain ⟨v,oc,ho,hd⟩:=I.cell x c a.1;exact {v,oc,old _ _ ho,hd}
 .rcases own.aL x c h with a|a
  .exact I.hok.fresh (PX S (Sf a.1))
  .exact I.z9 x c a.1
 .have Z:p∈X.pn++Go:=by
   have:p∈(X.pn++Go)++[]:=hp;simpa using this
  obtain ⟨a,b,c,d,e⟩:=I.pin p Z;exact {old _ _ a,b,Pr (Pd (O4 a) S),λz=>(OH.mp (I.UJ p.1 z)).elim c d,e}
 .show (cz ix σ).length=N'.length;unfold cz;rw [OB,L.len]
end
def PTs(X:Cx)(z:List O3)(t:TT):Prop :=
 ∀(Go:List (Addr×Obj))(s:Ow)(σ:St)(H:Hp)(Q:Bool->Hp->Prop),Inv X Go σ H s->t σ H Q ->
  OJ (OR X.prog X.w) X.A (forIn z true λc r=>if r=true then do let ok<-isTrue c X.env (Qc c X.env);pure (ForInStep.yield ok) else pure (ForInStep.yield r)) (TP X Go σ Q) X.xe s
def kM:TT:=λ_ H Q=>Q true H
theorem bW:W (PTs X [] kM):={λ_ _ _ H _ I h=>wpAny_tests_nil ⟨H,I,h⟩}
theorem Le{t:TT}(h:W (PT X c t)):W (PTs X [c] t):=by refine {?_};have h:=h.h;exact λGo s σ H Q I q=>wpAny_tests_one (h Go s σ H Q I q)
theorem Fy{e tg iter : O3}{Zy : List O3}(hct : (∀ B : O0, B.under (.compLoop e 0 it ZT env) = B) ∧ (OR prog w).den (.compLoop e 0 it ZT env) = Sem.onRaise (do
      RG iter.pos
      match ← Rn it with
      | none => pure (.done .next)
      | some v =>
        QY tg it v
        S8 tg env v
        let mut ok := true
        for c in Zy do
          if ok then ok ← isTrue c env (Qc c env)
        if ok then
          em
        again (.compLoop e 0 it ZT env)) (fun x => do Sr x env; theTreesLotGoes x))(I:Nat->Ow->Prop)(Z:∀n s,I n s->OJ (OR prog w) A (Rn it) (λr s₁=>match r with
   | none=>R (.ok .next) s₁
   | some v=>OJ (OR prog w) A (QY tg it v) (λ_ F=>OJ (OR prog w) A (S8 tg env v) (λ_ O =>
     OJ (OR prog w) A (forIn Zy true λc r=>if r=true then do let ok<-isTrue c env (Qc c env);pure (ForInStep.yield ok) else pure (ForInStep.yield r)) (λok s₃ =>
      if ok=true then OJ (OR prog w) A em (λ_ G=>∃m,m<n/\I m G) (λ_ _=>False) s₃
      else ∃m,m<n/\I m s₃) (λ_ _=>False) O) (λ_ _=>False) F) (λ_ _=>False) s₁) (λ_ _=>False) s)(n:Nat)(h:I n s):QT (OR prog w) A (.compLoop e 0 it ZT env) R s:=by
 refine codeAny_loop rfl I (λn s hI=>?_) n h;rw [hct.1,hct.2];refine wpAny_noted (Pp (E:=λ_ _=>False) ?_ (λ_ _ q=>q) λ_ _ z=>z.elim);refine we (Qi (we (Pp (Z n s hI) (λr s₁ h₁=>?_) λ_ _ h'=>h')));cases r with
 | none=>exact Oz h₁
 | some v =>
  refine we (Pp h₁ (λ_ F S=>?_) λ_ _ h'=>h');refine we (Pp S (λ_ O W=>we (Pp W (λok s₃ J=>?_) λ_ _ h'=>h')) λ_ _ h'=>h');cases ok with
  | false=>exact Oz {rfl,J}
  | true=>exact we (Pp J (λ_ G U=>Oz {rfl,U}) λ_ _ h'=>h')
def tLC(ix:List (Option Nat))(wi:TI)(g:TG)(tt:TT)(te:TE):TE:=λσ H Q=>wi σ H λJ H1=>∃W:Nat->Nat->St->List V->Hp->Prop,(∃m,W 0 m (cz ix σ) [] H1)/\∀i m τ ys H2,W i m τ ys H2->ys.length<sizeLine /\
 ((J.stop i H2 ∧ ∀ D, H2 D = none → D ≠ sysModules → Q (.ref D) (upd H2 D (.lst ys))) ∨
  (J.go i H2 ∧ ∀ x H3, J.aH i H2 x H3 → g x τ H3 fun z H4 => tt z H4 fun ok H5 => if ok = true then te z H5 fun y H6 => ∃ F, F < m ∧ W (i + 1) F z (ys ++ [y]) H6 else ∃ F, F < m ∧ W (i + 1) F z ys H5))
theorem ux{α:Type}{Q:VK}{em:Addr->Env->Sem Unit}(len:α->Nat)(ho:α->HO)(a0:α)(At:α->Obj->Prop)(tm:(α->Hp->Prop)->α->St->Hp->Prop)(Xi:clausesOf e=[{tg,iter,Zy,0}])(hsz:sizeOk dt)(cn:∀it D env,(∀B:O0,B.under (.compLoop e 0 it (.ref D) env)=B)/\(OR X.prog X.w).den (.compLoop e 0 it (.ref D) env)=Sem.onRaise (do
   RG iter.pos
   match<-Rn it with
   | none=>pure (.done .next)
   | some v =>
    QY tg it v
    S8 tg env v
    let mut ok:=true
    for c in Zy do
     if ok then ok<-isTrue c env (Qc c env)
    if ok then
     em D env
    again (.compLoop e 0 it (.ref D) env)) (λx=>do Sr x env;theTreesLotGoes x))(hst:∀{A:O0}{R:Uh->Ow->Prop}{s:Ow}{it ZT:Value}{env:Env},QT (OR X.prog X.w) A (.compLoop e 0 it ZT env) R s->OJ (OR X.prog X.w) A (pyIter it) (λcP s'=>QT (OR X.prog X.w) A (.compLoop e 0 cP ZT env) R s') (notedBy (OR X.prog X.w) A env λx s'=>R (.error x) s') s->QT (OR X.prog X.w) A (.compStart e 0 it ZT env) R s)(h0:At a0 { cls:=.type T,dict:=none,data:=dt })(YK:({ cls:=.type T,dict:=none,data:=dt }:Obj).isFreed=false)(aT:∀{ys o},At ys o->∀v,o.data≠.cell v)(a7:∀{ys o H' h D},At ys o->len ys<sizeLine->D≠sysModules->h.get? D=some o->ae X.prog X.w H' h D (ho ys))(b7:∀Go C fp s H pins' s8 τ H8 ys ob D (K:α->Hp->Prop),Inv (zA X sc N' Go C fp s H) pins' τ H8 s8->tm K ys τ H8->At ys ob->len ys<sizeLine->(D,ob)∈pins' ->
   OJ (OR X.prog X.w) X.A (em D (zA X sc N' Go C fp s H).env) (λ_ s'=>∃s9 bx H9 ar h' tk,s'={ s9 with heap:=h',toks:=tk }/\K bx H9/\Inv (zA X sc N' Go C fp s H) pins' τ H9 s9/\At bx ar/\h'.get? D=some ar/\Qy D s9.heap h') (λ_ _=>False) s8)(hc:c=true->X.calm=true)(L:zY X sc N' ix)(hi:PIc c X tg iter wi)(hg:∀Go C fp s H,PG (zA X sc N' Go C fp s H) tg g)(ht:∀Go C fp s H,PTs (zA X sc N' Go C fp s H) Zy tt)(hs:∀x,Pj iter X.env x=pure x)(I:Inv X Go σ H s)(h:wi σ H λJ H1=>∃W:Nat->Nat->St->α->Hp->Prop,(∃m,W 0 m (cz ix σ) a0 H1)/\∀i m τ ys H2,W i m τ ys H2->len ys<sizeLine /\
   ((J.stop i H2 ∧ ∀ D, H2 D = none → D ≠ sysModules → Q (.ref D) (upd H2 D (ho ys))) ∨
    (J.go i H2 ∧ ∀ x H3, J.aH i H2 x H3 → g x τ H3 fun aF H4 => tt aF H4 fun ok H5 => if ok = true then tm (fun zs H6 => ∃ m', m' < m ∧ W (i + 1) m' aF zs H6) ys aF H5 else ∃ m', m' < m ∧ W (i + 1) m' aF ys H5)))(kk:∀(C D:Addr)(oC:Obj)(H':Hp)(s5:Ow)(m5:Str->Option Value),Inv X (Go++[(C,oC)]) σ H' s5->(∀{G:Heap},G.get? C=some oC->G.Ns C m5)->(∀{bg:St}{a5:Hp}{s':Ow}{h':Heap},Inv X Go bg a5 s'->a5 C=none->Qy C s'.heap h'->Inv X Go bg a5 { s' with heap:=h' })->Q (.ref D) H'->compPost (OR X.prog X.w) X.A X.xe use R (.ref D) C (.ok .next) s5):
  OJ (OR X.prog X.w) X.A (Sz e sc X.env (SN [{tg,iter,Zy,0}] pos) (newObj (.type T) dt none) (Ud [{tg,iter,Zy,0}]) (firstIter [{tg,iter,Zy,0}] X.env) use) R X.xe s:=by
 have W8:RM sc X.env=pure (cF X.env.cells sc.names []):=yQ λy hy hk=>I.ok.has y.1 (.inl (L.free y hy hk).1);refine wpAny_comprehension_free (use:=use) Xi hs W8 L.kind L.names (thn (hi Go s σ H _ I h) λv s1 h1=>thn h1 λc4 s2 h2=>?_);obtain ⟨it,fp,tn,J,H2,e,Z,T',XB,f2,W,⟨m0,w0⟩,YB⟩:=h2;subst e;refine Pt (xf ?_) hsz;dsimp only;generalize a4:s2.heap.push { cls:=.type T,dict:=none,data:=dt }=G2;have hC:G2.objs.size=s2.heap.objs.size+1:=by rw [<- a4,QG]
 have bh:s2.heap.objs.size≠G2.objs.size:=by rw [hC];exact Pr (Ri _)
 have Ya:s2.heap.objs.size<=G2.objs.size:=by rw [hC];exact Se _
 have below:∀b,b<s2.heap.objs.size->b≠G2.objs.size/\b≠s2.heap.objs.size:=λb F=>{by rw [hC];exact Pr (RF F),Pr F};have old:∀b o,s2.heap.get? b=some o->(Ro (G2.push { cls:=.type "dict",data:=.dict #[] }) sc.names).get? b=some o:=λb o e=>RC _ _ _ _ (Oy _ (a4 ▸ Oy _ e));have W7:(Ro (G2.push { cls:=.type "dict",data:=.dict #[] }) sc.names).Ns G2.objs.size λ_=>none:=(Ns.new G2 (.type "dict")).keeps (RC _ _);have own:jn X.env.cells sc G2.objs.size (Ro (G2.push { cls:=.type "dict",data:=.dict #[] }) sc.names):=.mk' (QG ..);have Zs:(Ro (G2.push { cls:=.type "dict",data:=.dict #[] }) sc.names).get? s2.heap.objs.size=some { cls:=.type T,dict:=none,data:=dt }:=RC _ _ _ _ (Oy _ (a4 ▸ OM _ YK));generalize Ro (G2.push { cls:=.type "dict",data:=.dict #[] }) sc.names=h₁ at old W7 own Zs ⊢;have fl:∀b∈fp,b<s2.heap.objs.size:=λb F=>by
  obtain ⟨o,e,_⟩:=T'.obj 0 _ XB b F;exact O4 e
 have X9:s2.heap.objs.size∉fp:=λz=>PY _ (fl _ z);generalize S:s2.heap.objs.size=D at *
 generalize c6:G2.objs.size=C at *
 have a9:tn 0 h₁:=T'.keep _ _ _ XB λb _ o e=>old b o e;have I3:Inv (zA X sc N' Go C fp s2 H2) [] (cz ix σ) H2 { s2 with heap:=h₁ }:=xr (tk:=s2.toks) Z L f2 (λb F=>by rw [S];exact fl b F) (by rw [S];exact Ya) W7 old own;have D0:H2 D=none:=Z.hok.fresh (TQ S);have fD:∀{H':Hp},H' D=none->aJ (zA X sc N' Go C fp s2 H2) [] H' D:=λ{H'} hn=>by
  refine {hn,bh,λz=>?_,.inr (TQ S),λx c hx z=>?_,λp G z=>?_}
  .obtain ⟨_,o,ho,_⟩:=Z.stack.mem (show D∈frs X.stack from z);exact absurd (O4 ho) (by rw [S];exact PY _)
  .rcases own.aL x c hx with a|a
   .have:=a.1;rw [z] at this;exact absurd this (Tt.mpr Ya)
   .obtain ⟨v,q⟩:=Z.cell x c a.1;have:=q.lt;rw [z,S] at this;exact PY _ this
  .have b0:p∈X.pn++Go:=by
    have:p∈(X.pn++Go)++[]:=G;simpa using this
   have:=O4 (Z.pin p b0).1;rw [z,S] at this;exact PY _ this
 have fF:∀{H':Hp},(∀b∈fp,H' b=none)->∀b∈fp,aJ (zA X sc N' Go C fp s2 H2) [] H' b:=λ{H'} hn b F=>by
  obtain ⟨_,g1,g2,g3,g4,g5⟩:=f2 b F;refine {hn b F,(below b (fl b F)).1,λz=>?_,.inl F,λx c hx=>?_,λp G=>g5 p ?_}
  .rcases OH.mp (Z.UJ b z) with e|e
   .exact g1 e
   .exact g2 e
  .rcases own.aL x c hx with a|a
   .have:=a.1;have:=fl b F;exact λz=>by subst z;lia
   .exact g4 x c a.1
  .have:p∈(X.pn++Go)++[]:=G;simpa using this
 have aI:∀s₃:Ow,s₃={ s2 with heap:=h₁ } ->
   QT (OR X.prog X.w) X.A (.compLoop e 0 (.ref it) (.ref D) (compEnvC sc (fE X.env.cells sc C) C X.env))
    (compPost (OR X.prog X.w) X.A X.xe use R (.ref D) C) s₃:=by
  rintro s₃ rfl;refine Fy (cn _ _ _) (λn s'=>∃i τ ys H',Inv (zA X sc N' Go C fp s2 H2) [] τ H' s'/\tn i s'.heap/\(∀b∈fp,H' b=none)/\H' D=none/\(∃ob,At ys ob/\s'.heap.get? D=some ob)/\W i n τ ys H')
   ?_ m0 {0,_,a0,H2,I3,a9,λb F=>(f2 b F).1,D0,{_,h0,Zs},w0}
  rintro n s4 ⟨i,τ,ys,H4,I4,bP,a8,O,⟨ob,av,dg⟩,w4⟩;obtain ⟨ZZ,step⟩:=YB i n τ ys H4 w4;rcases step with ⟨stop,Zq⟩|⟨go,step⟩
  .refine thn (T'.done (zA X sc N' Go C fp s2 H2) rfl rfl rfl hc i [(D,ob)] s4 τ H4 (λ_ _=>False) (I4.xy λp G=>?_) (λb F=>?_) bP stop) λr s5=>x2e λhr I5=>?_
   .have e:p=(D,ob):=by simpa using G
    subst e;obtain ⟨g0,g1,g2,_⟩:=fD O;exact {dg,g0,g1,g2,aT av}
   .obtain ⟨g0,g1,g2,g3,g4,g5⟩:=fF a8 b F;refine {g0,g1,g2,g3,g4,λp G=>?_};rcases Pk.mp G with z|z
    .exact g5 p (Pz _ z)
    .have e:p=(D,ob):=by simpa using z
     subst e;exact λq=>X9 (by have q':D=b:=q;rw [q'];exact F)
   .subst hr;have cD:=(I5.pin (D,_) (OG _ (ON.mpr rfl))).1;obtain ⟨m5,cC,_⟩:=id I5.loc;have ZH:∀b o,s2.heap.get? b=some o->b≠C/\b≠D:=λb o e=>by
     have:=O4 e;rw [S] at this;exact below b this
    have bL:D≠sysModules:=by have h:OK<s2.heap.objs.size:=(Z.mod.glob.keeps Z.bk).lt;rw [S] at h;exact Rp (SC 'd' h)
    have U:=I5.base;have IX:Inv X Go σ (upd H4 D (ho ys)) s5:=by
     refine Z.aA (s':=s5) (ch:=fp) I5.os {λb o e n F hx=>U.keep b o e n F hx,λb o e n F hx=>U.slot b o e n F hx,λb o e n hx=>?_,λb o e hx=>U.there b o e hx,λb xs e=>?_,λb o u e=>?_,λb ps e=>?_} ?_ I5.bare (λb F=>?_)
     .rw [ze (ZH b o e).2];exact U.free b o e n hx
     .have q:=U.tups b xs e;rw [ze (zz q O)];exact q
     .have q:=U.frzs b o u e;rw [ze (zz q O)];exact q
     .obtain ⟨more,q⟩:=U.tbls b ps e;exact {more,by rw [ze (zz q O)];exact q}
     .exact I5.hok.add O (a7 av ZZ bL cD)
     .obtain ⟨_,g1,g2,g3,g4,g5⟩:=f2 b F;exact ⟨g3,g1,g4,g5⟩
    obtain ⟨oC,b8,cv,gC,rC⟩:=id cC;have a6:∀v,oC.data≠.cell v:=λv z=>by rw [rC.1] at z;cases z
    have bf:C≠D:=Pe bh;have HC:upd H4 D (ho ys) C=none:=by rw [ze bf];exact I5.free
    have aH:C≠X.env.locals:=λz=>by
     have:=Z.lt;rw [<- z,S] at this;exact absurd (Pd this Ya) (PY _)
    have ct:C∉X.fs:=Z.b4 (by rw [S];exact Ya);have b5:=IX.xy (pins':=Go++[(C,oC)]) λp G=>by
     rcases Pk.mp G with z|z
     .exact IX.pin p (OG _ z)
     .rw [ON.mp z];exact ⟨gC,HC,aH,ct,a6⟩
    refine kk C D oC _ s5 m5 b5 (λe=>⟨oC,b8,cv,e,rC⟩) (λ{da H6 s6 h'} I7 c2 Xo=>I7.turned (t':=s6.toks) (it:=C) (λb o F e=>(Xo.2 b F).trans e) c2 aH (.inr (PX Z.sz (by rw [S];exact Ya))) (λx c hx z=>?_) (λp G z=>?_)) (Zq D O bL)
    .obtain ⟨v,q⟩:=Z.cell x c hx;have:=q.lt;rw [z,S] at this;exact absurd (Pd this Ya) (PY _)
    .have:=O4 (Z.pin p G).1;rw [z,S] at this;exact absurd (Pd this Ya) (PY _)
  .refine thn (T'.item (zA X sc N' Go C fp s2 H2) rfl rfl rfl hc i [(D,ob)] s4 τ H4 (λ_ _=>False) (I4.xy λp G=>?_) (λb F=>?_) bP go) λr s5=>x3e λu hr h5=>?_
   .have e:p=(D,ob):=by simpa using G
    subst e;obtain ⟨g0,g1,g2,_⟩:=fD O;exact {dg,g0,g1,g2,aT av}
   .obtain ⟨g0,g1,g2,g3,g4,g5⟩:=fF a8 b F;refine {g0,g1,g2,g3,g4,λp G=>?_};rcases Pk.mp G with z|z
    .exact g5 p (Pz _ z)
    .have e:p=(D,ob):=by simpa using z
     subst e;exact λq=>X9 (by have q':D=b:=q;rw [q'];exact F)
   .subst hr;refine thn h5 λ_ s6=>x5e λx H6 I6 r6 Yo=>?_;obtain ⟨y6,a3,cc⟩:=Yo;obtain ⟨ai,b9,_⟩:=I6.pin (D,_) (OG _ (ON.mpr rfl));have bt:H6 D=none:=b9;have ba:∀b∈D::fp,aJ (zA X sc N' Go C fp s2 H2) [] H6 b:=λb F=>by
     rcases OH.mp F with z|z
     .subst z;exact fD bt
     .exact fF cc b z
    have bp:∀b∈D::fp,∃o,s6.heap.get? b=some o/\∀v,o.data≠.cell v:=λb F=>by
     rcases OH.mp F with z|z
     .subst z;exact {_,ai,aT av}
     .exact T'.obj _ _ a3 b z
    have c3:=(I6.q0 (Go:=[])).pinned ba bp;refine thn (hg Go C fp s2 H2 _ s6 τ H6 x u _ c3 r6 (step x H6 y6)) λ_ s7=>x4e λab H7 I7 q7=>?_;refine thn (ht Go C fp s2 H2 _ s7 ab H7 _ I7 q7) λok s8=>x3e λH8 I8 q8=>?_;have back:∀{s9:Ow}{H9:Hp},Inv (zA X sc N' Go C fp s2 H2) ([]++eL (D::fp) s6.heap) ab H9 s9->s9.heap.get? D=some ob/\H9 D=none/\tn (i+1) s9.heap/\∀b∈fp,H9 b=none:=λ{s9 H9} I9=>by
     have pin:∀b o,b∈D::fp->s6.heap.get? b=some o->s9.heap.get? b=some o/\H9 b=none:=λb o F e=>by
      have q:=I9.pin (b,o) (OG _ (OG _ (c9 F e)));exact ⟨q.1,q.2.1⟩
     refine {(pin D _ OT ai).1,(pin D _ OT ai).2,T'.keep _ _ _ a3 λb F o e=>(pin b o (OI _ F) e).1,λb F=>?_};obtain ⟨o,e,_⟩:=T'.obj _ _ a3 b F;exact (pin b o (OI _ F) e).2
    cases ok with
    | false =>
     obtain ⟨b1,b2,b3,b4⟩:=back I8;simp only [Q5,if_false] at q8 ⊢;obtain ⟨m',hm,w'⟩:=q8;exact {m',hm,i+1,ab,ys,H8,I8.q0,b3,b4,b2,⟨ob,av,b1⟩,w'}
    | true =>
     simp only [if_true] at q8 ⊢;refine thn (b7 Go C fp s2 H2 _ s8 ab H8 ys ob D _ I8 q8 av ZZ (OG _ (c9 OT ai))) λ_ s'=>?_;rintro ⟨s9,zs,H9,ar,c5,tk,rfl,⟨m',hm,w'⟩,I9,cp,b6,sb⟩;obtain ⟨b1,b2,b3,b4⟩:=back I9;obtain ⟨_,g1,_,g3,g4,g5⟩:=fD b2;exact {m',hm,i+1,ab,zs,H9,(I9.q0 (Go:=[])).turned (t':=tk) (λb o F e=>(sb.2 b F).trans e) b2 g1 g3 g4 g5,T'.keep _ _ _ b3 λb F o e=>(sb.2 b λq=>X9 (by rw [<- q];exact F)).trans e,b4,b2,⟨ar,cp,b6⟩,w'}
 exact hst (aI _ rfl) (T'.self _ 0 _ _ _ a9 (aI _ rfl))
theorem yf(hc:c=true->X.calm=true)(L:zY X sc N' ix)(hi:PIc c X tg iter wi)(hg:∀Go C fp s H,PG (zA X sc N' Go C fp s H) tg g)(ht:∀Go C fp s H,PTs (zA X sc N' Go C fp s H) G tt)(he:∀Go C fp s H,PE (zA X sc N' Go C fp s H) Zc te)(hs:∀x,Pj iter X.env x=pure x)(I:Inv X Go σ H s)(h:tLC ix wi g tt te σ H Q)(kk:∀(C D:Addr)(oC:Obj)(H':Hp)(s5:Ow)(m5:Str->Option Value),Inv X (Go++[(C,oC)]) σ H' s5->(∀{W:Heap},W.get? C=some oC->W.Ns C m5)->(∀{J:St}{F:Hp}{s':Ow}{h':Heap},Inv X Go J F s'->F C=none->Qy C s'.heap h'->Inv X Go J F { s' with heap:=h' })->Q (.ref D) H'->compPost (OR X.prog X.w) X.A X.xe use R (.ref D) C (.ok .next) s5):
  OJ (OR X.prog X.w) X.A (Sz (.ListComp Zc [{tg,iter,G,0}] sc pos) sc X.env (SN [{tg,iter,G,0}] pos) (newList []) (Ud [{tg,iter,G,0}]) (firstIter [{tg,iter,G,0}] X.env) use) R X.xe s:=by
 refine ux (e:=.ListComp Zc [{tg,iter,G,0}] sc pos) (em:=λD env=>do let _<-call (.builtin "list.append") [.ref D,<- Qc Zc env]) (T:="list") (dt:=.seq ([]:List Value).toArray) T8 HO.lst [] (λys o=>∃its k,zt ys its/\o={ cls:=.type "list",data:=.seq its.toArray k }) (λK ys τ H=>te τ H λy H'=>K (ys++[y]) H') rfl (by size_fits) (λ_ _ _=>{λ_=>rfl,rfl}) codeAny_compStart_list {[],0,.nil,rfl} rfl ?_ ?_ ?_ hc L hi hg ht hs I h kk
 .rintro ys o ⟨its,k,_,rfl⟩ v z;cases z
 .rintro ys o H' h D ⟨its,k,S,rfl⟩ hl _ e;exact {Sf hl,its,k,S,e}
 .rintro Go C fp s H pins' s8 τ H8 ys ob D K I8 q8 ⟨its,k,S,rfl⟩ hl hD;refine we (thn (he Go C fp s H _ s8 τ H8 _ I8 q8) λy s9=>x5e λyv H9 Z r9 w'=>?_);have el:its.toArray.size<=sizeLine:=by
   have:=S.length;simp only [OZ];lia
  refine we (append_at (hsz:=el) (Z.pin _ (OG _ hD)).1 λU sb O=>Oz {s9,_,H9,_,U,s9.toks,rfl,w',Z,{its++[y],k+1,S.append (.cons r9 .nil),rfl},?_,sb});rw [O];simp
theorem cX(hc:c=true->X.calm=true)(L:zY X sc N' ix)(hi:W (PIc c X tg iter wi))(hg:∀Go C fp s H,W (PG (zA X sc N' Go C fp s H) tg g))(U:∀Go C fp s H,W (PTs (zA X sc N' Go C fp s H) Zy tt))(S:∀Go C fp s H,W (PE (zA X sc N' Go C fp s H) Zc te))(hs:∀x,Pj iter X.env x=pure x:=by intro _;rfl):W (PE X (.ListComp Zc [{tg,iter,Zy,0}] sc pos) (tLC ix wi g tt te)):=by
 refine {?_};have hi:=hi.h;have hg:=λF G z J O=>(hg F G z J O).h;have U:=λF G z J O=>(U F G z J O).h;have S:=λF G z J O=>(S F G z J O).h;intro Go s σ H Q I h;rw [eval_ListComp];refine yf (use:=none) hc L hi hg U S hs I h λC D oC H' s5 m5 IX ns tu q=>?_;obtain ⟨p6,Z,_⟩:=IX.pin (C,oC) (OG _ (OG _ (ON.mpr rfl)));exact {m5,ns p6,λh' Xo=>{.ref D,H',tu (IX.xy λp hp=>IX.pin p (OG _ (Pz _ hp))) Z Xo,rfl,q}}
structure bH(B:Heap)(l:List Env)(e:Addr)(cls fl:Value)(h:Heap):Prop where
 stays:B.StaysIn h
 new:B.get? e=none
 frames:h.FunFrames B l
 obj:∃oe vs,h.get? e=some oe/\oe.cls=cls/\oe.dict=none/\oe.data = .fields vs/\2<vs.size/\vs[2]?=some .none /\
  (vs[1]?=some .none\/∃T oT ts,vs[1]?=some (.ref T)/\B.get? T=none/\T≠e/\h.get? T=some oT/\oT.data = .fields ts/\ts[3]?=some fl)
section
variable {M:Model}{A:O0}{E:Value->Ow->Prop}{s:Ow}{B:Heap}{env:Env}{outer l:List Env}{L e:Addr}{cls fl:Value}
theorem xp(o:Obj)(f:Array Value->Array Value):(o.mapFields f).dict=o.dict:=by
 obtain ⟨c,d,dt,sl⟩:=o;cases dt<;>rfl
theorem yT(YK:A.frames=some (env::outer))(hf:env.frame=some L)(st:B.StaysIn s.heap)(W:B.get? e=none)(hl:s.heap.FunFrames B (env::outer))(G:s.heap.get? e=some oe)(hc:oe.cls=cls)(YC:oe.dict=none)(hd:oe.data = .fields vs)(hz:2<vs.size)(h2:vs[2]?=some .none)(k:∀h',bH B (env::outer) e cls (PC L) h'->s.heap.UpToSlots h'->Q () { s with heap:=h' }):
  OJ M A (do let a<-frameOf env;let pl<-entryPlaceOf L O;let b<-EntryCells.newEntry head a .none (PC L) .none pl;RK (.ref e) 1 b) Q E s:=by
 have J:e∉(env::outer).filterMap (·.frame):=λz=>by
  obtain ⟨_,o,ho,F⟩:=hl.mem z;rw [G] at ho;cases ho;exact F vs hd
 refine we (wpAny_frameOf_fun YK hl hf λg only=>?_);obtain ⟨_,same,slots⟩:=only;refine we (wpAny_entryPlaceOf λpl Yc=>?_);have key:∀(tb:Obj)(ts:Array Value),tb.data = .fields ts->ts[3]?=some (PC L)->OJ M A (RK (.ref e) 1 (.ref g.objs.size)) Q E { s with heap:=g.push tb }:=by
  intro tb ts td t3;have U:g.get? e=some oe:=(same e J).trans G;have Z:(g.push tb).get? e=some oe:=Oy _ U;have hT:(g.push tb).get? g.objs.size=some tb:=OM _ (by rw [P9 td]);have S:g.objs.size≠e:=Rp (O4 U);have fresh:B.get? g.objs.size=none:=by
   cases q:B.get? g.objs.size with
   | none=>rfl
   | some o =>
    obtain ⟨sl,z⟩:=slots _ o (st _ o q);exact absurd (O4 z) (PY _)
  have up:∀b o,b≠e->g.get? b=some o->((g.push tb).update e (R7 (·.setIfInBounds 1 (.ref g.objs.size)))).get? b=some o:=λb o hb q =>
   (O5 _ _ (Pe hb)).trans (Oy _ q)
  have W6:∀b o,s.heap.get? b=some o->(∀ws,o.data≠.fields ws)->b≠e:=λb o q F z=>by
   rw [z,G] at q;cases q;exact F vs hd
  have dd:=QD hd (·.setIfInBounds 1 (OU g.objs.size));refine PL Z hd 'l' (k _ {λb o q=>?_,W,?_,?_} λb o q F=>?_)
  .refine up b o (λz=>by rw [z,W] at q;cases q) ((same b λz=>?_).trans (st b o q));rw [(hl.mem z).1] at q;cases q
  .refine hl.of_keeps λb o q F=>?_;obtain ⟨sl,z⟩:=slots b o q;exact {_,up b _ (W6 b o q F) z,rfl}
  .refine {_,_,PD _ Z (P9 dd),(RW _ _).trans hc,(xp _ _).trans YC,dd,by simpa using hz,by rw [Sk 'd'];exact h2,.inr {g.objs.size,tb,ts,?_,fresh,S,?_,td,t3}}
   .rw [PU 'l']
   .rw [O5 _ _ (Pe S)];exact hT
  .obtain ⟨sl,z⟩:=slots b o q;exact {sl,up b _ (W6 b o q F) z}
 unfold EntryCells.newEntry newFields;refine we (Pt ?_ (Yc.sizeOk5 _ _ _ _ _));exact key _ _ rfl 'z'
theorem sT(YK:A.frames=some (env::outer))(hf:env.frame=some L)(x:bH B (env::outer) e cls fl s.heap)(k:∀h',bH B (env::outer) e cls (PC L) h'->s.heap.UpToSlots h'->Q () { s with heap:=h' }):OJ M A (Sr (.ref e) env) Q E s:=by
 obtain ⟨st,W,hl,oe,vs,G,Z,U,hd,hz,h2,h1⟩:=x;unfold Sr;simp only [hf];rcases h1 with h1|⟨T,oT,ts,h1,nT,Te,S,dT,t3⟩
 .refine we (Po G hd h1 ?_);rw [if_neg (show ¬ ((Pw != Pw)=true) by decide)];exact yT YK hf st W hl G Z U hd hz h2 k
 .refine we (Po G hd h1 ?_);rw [if_pos (show (OU T != Pw)=true by simp)];refine we (Po S dT t3 ?_);by_cases J:fl=PC L
  .subst J;rw [if_pos (show (PC L==PC L)=true by simp)];exact Oz (k s.heap {st,W,hl,oe,vs,G,Z,U,hd,hz,h2,.inr ⟨T,oT,ts,h1,nT,Te,S,dT,t3⟩} (UpToSlots.refl _))
  .rw [if_neg (show ¬ ((fl==PC L)=true) by simpa using J)];refine we (PL S dT (PN.mp t3).1 ?_);have O:∀b,b≠T->(s.heap.update T (R7 (·.setIfInBounds 3 Pw))).get? b=s.heap.get? b:=λb hb=>O5 _ _ (Pe hb);have Yn:∀b o,s.heap.get? b=some o->(∀ws,o.data≠.fields ws)->b≠T:=λb o q F z=>by
    rw [z,S] at q;cases q;exact F ts dT
   refine yT (B:=B) (cls:=cls) YK hf (λb o q=>?_) W (hl.of_keeps λb o q F=>{o,(O b (Yn b o q F)).trans q,rfl}) ((O e (Pe Te)).trans G) Z U hd hz h2 λh' y up=>k h' y λb o q F=>up b o ((O b (Yn b o q F)).trans q) F;exact (O b λz=>by rw [z,nT] at q;cases q).trans (st b o q)
theorem oz(x:bH B l e cls fl s.heap)(k:∀h',bH B l e cls .none h'->s.heap.UpToSlots h'->Q () { s with heap:=h' }):OJ M A (setFlight (.ref e) none) Q E s:=by
 obtain ⟨st,W,hl,oe,vs,J,Z,U,hd,hz,h2,h1⟩:=x;unfold setFlight;rcases h1 with h1|⟨T,oT,ts,h1,nT,Te,S,dT,t3⟩
 .refine we (Po J hd h1 ?_);rw [if_neg (show ¬ ((Pw != Pw)=true) by decide)];exact Oz (k s.heap {st,W,hl,oe,vs,J,Z,U,hd,hz,h2,.inl h1} (UpToSlots.refl _))
 .refine we (Po J hd h1 ?_);rw [if_pos (show (OU T != Pw)=true by simp)];have F:3<ts.size:=(PN.mp t3).1;have dd:=QD dT (·.setIfInBounds 3 Pw);have O:∀b,b≠T->(s.heap.update T (R7 (·.setIfInBounds 3 Pw))).get? b=s.heap.get? b:=λb hb=>O5 _ _ (Pe hb);have Yn:∀b o,s.heap.get? b=some o->(∀ws,o.data≠.fields ws)->b≠T:=λb o q G z=>by
   rw [z,S] at q;cases q;exact G ts dT
  refine PL S dT F (k _ {λb o q=>(O b λz=>by rw [z,nT] at q;cases q).trans (st b o q),W,hl.of_keeps λb o q G=>{o,(O b (Yn b o q G)).trans q,rfl},oe,vs,(O e (Pe Te)).trans J,Z,U,hd,hz,h2,
   .inr {T,_,_,h1,nT,Te,PD _ S (P9 dd),dd,?_}} λb o q G=>{o.slots,(O b (Yn b o q G)).trans q})
  rw [PU F]
theorem JB(F:A.frames=some (env::outer))(hf:env.frame=some L)(x:bH B (env::outer) e cls fl s.heap)(k:∀h',bH B outer e cls .none h'->s.heap.UpToSlots h'->Q () { s with heap:=h' }):OJ M A (leaving env (.ref e)) Q E s:=by
 unfold leaving;refine we (sT F hf x λh1 y u1=>oz (s:={ s with heap:=h1 }) y λh2 z u2=>?_);obtain ⟨a,b,⟨_,_,c⟩,d⟩:=z;exact k h2 ⟨a,b,c,d⟩ (u1.trans u2)
end
def CXW(P:OL)(w:O1):CXT:=λouter H s E e s'=>∃(ea C:Addr)(B:Heap)(H':Hp)(z:Ow),e = .ref ea/\bH B outer ea (.ref C) .none s'.heap/\Un (frs outer) [] H H' s.heap z.heap/\HOk P w H' z.heap /\
 z.os=s.os/\RI z.gens/\s'.os=s.os/\RI s'.gens/\(∀b o,z.heap.get? b=some o->b∉frs outer->B.get? b=some o)/\z.heap.UpToSlots s'.heap/\E (.ref C) none H'
def dw(X:Cx)(Ex:Addr->St->Hp->Prop):Prop:=∀(Go:List (Addr×Obj))(σ:St)(H:Hp)(z:Ow)(ea C:Addr)(B:Heap)(fl:Value)(s':Ow),Inv X Go σ H z->bH B X.stack ea (.ref C) fl s'.heap->s'.os=z.os->RI s'.gens ->
 (∀b o,z.heap.get? b=some o->b∉frs X.stack->B.get? b=some o)->z.heap.UpToSlots s'.heap->Ex C σ H->X.xe (.ref ea) s'
theorem kB{K:OF}:
  dw (bR (CXW P w) cm P w K mg base N qual scope f cd A outer s H E) (λC _ H'=>E (.ref C) none H'):=by
 intro Go σ H' G ea C B fl s' I x os bare hB up q;have ff:A.frames=some outer:=by
  have:=I.ok.frames;cases h:A.frames with
  | none =>
   have z:(A.deeper (Ra qual scope s.heap.objs.size f cd)).frames=none:=by
    first|(show (A.frames.map _)=none;rw [h];rfl)|simp [O0.deeper,O0.under,h]
   rw [show (bR (CXW P w) cm P w K mg base N qual scope f cd A outer s H E).A=A.deeper (Ra qual scope s.heap.objs.size f cd) from rfl,z] at this;cases this
  | some l =>
   have z:=O0.frames_deeper (env:=Ra qual scope s.heap.objs.size f cd) h;rw [show (bR (CXW P w) cm P w K mg base N qual scope f cd A outer s H E).A=A.deeper (Ra qual scope s.heap.objs.size f cd) from rfl,z] at this;have:=Pn.inj this;exact congrArg some (List.cons.inj this).2
 show OJ (OR P w) (A.deeper (Ra qual scope s.heap.objs.size f cd)) (leaving (Ra qual scope s.heap.objs.size f cd) (.ref ea)) _ _ s';refine JB (L:=s.heap.objs.size) (O0.frames_deeper ff) rfl x λh' y u=>?_;have J:∀b o,b≠s.heap.objs.size->G.heap.get? b=some o->(hideAll G.heap [s.heap.objs.size]).get? b=some o:=λb o F e=>hideAll_get _ e (by simpa using F);have U:=I.base;have lt:∀b o,s.heap.get? b=some o->b≠s.heap.objs.size:=λb o e=>Pr (O4 e);have nl:∀b:Addr,b∉(bR (CXW P w) cm P w K mg base N qual scope f cd A outer s H E).ex:=λb z=>absurd (show b∈([]:List Addr) from z) 'z';refine {ea,C,B,H',{ G with heap:=hideAll G.heap [s.heap.objs.size] },rfl,y,{λb o e n F _=>J b o (lt b o e) (U.keep b o e n F (nl b)),λb o e n F _=>?_,λb o e n _=>U.free b o e n (nl b),λb o e _=>?_,U.tups,U.frzs,U.tbls},
  I.hok.but (C:=s.heap.objs.size) I.free J,I.os,I.bare,os.trans I.os,bare,λb o e F=>?_,λb o e nf=>?_,q}
 .obtain ⟨sl,z⟩:=U.slot b o e n F (nl b);exact {sl,J b _ (lt b o e) z}
 .obtain ⟨o',z⟩:=U.there b o e (nl b);exact {o',J b _ (lt b o e) z}
 .have Z:=T4 _ e;refine hB b o Z λz=>?_;have S:b∈s.heap.objs.size::frs outer:=z;rcases OH.mp S with r|r
  .rw [r] at e;have O:(hideAll G.heap [s.heap.objs.size]).get? s.heap.objs.size=none:=PySem.W.hideAll_none _ 'z';exact absurd (O.symm.trans e) 'z'
  .exact F r
 .exact (up.trans u) b o (T4 _ e) nf
def XE(Ex:Addr->St->Hp->Prop)(σ:St):XK:=λc _ H'=>∃C,c = .ref C/\Ex C σ H'
def kK(sp:Sp)(YY:List V)(Ex:Addr->St->Hp->Prop)(t:TA):TE:=λσ H Q=>t σ H λvs H1=>sp (vs++YY) H1 Q (XE Ex σ)
section
variable {X:Cx}{cm:Bool}{k:Nat}{f C:Addr}{fd:OP}{ps:List Str}{sp:Sp}{YY:List V}{ds:List Value}{Ex:Addr->St->Hp->Prop}{x m:Str}{p pos ZU:Pos}{e o:O3}{es:List O3}{ta:TE}{t:TA}
theorem dw.of(T:dw X Ex)(I:Inv X Go σ H s)(h:CXW X.prog X.w X.stack H s (XE Ex σ) v s'):X.xe v s':=by
 obtain ⟨ea,C,B,H',O,rfl,y,un,hok,os,bare,G,F,S,up,U,J,q⟩:=h;cases J;exact T Go σ H' O ea C B .none s' (I.aA os un hok bare λb z=>absurd z 'z') y (G.trans os.symm) F S up q
theorem Bv(T:dw X Ex)(F:zp X.prog X.w X.K X.mg X.base (CXW X.prog X.w) cm k f fd ps sp)(J:zE cm k X.A)(O:cx X.K fd ps ds)(hd:zt YY ds)(I:Inv X Go σ H s)(r:zt vs us)(h:sp (vs++YY) H Q (XE Ex σ)):OJ (OR X.prog X.w) X.A (call (.ref f) us) (EP X Go σ Q) X.xe s:=by
 have G:zt (vs++YY) (us++ds):=r.append hd;have hl:(us++ds).length=ps.length:=by rw [<- G.length];exact F.len _ _ _ _ h
 refine SX (QS (F.run X.A X.stack s H {us,[]} (us++ds) (vs++YY) Q (XE Ex σ) J I.a3 (O s us I.UB hl) G h) λr s' z=>?_);cases r with
 | error v=>exact T.of I z
 | ok fl =>
  cases fl with
  | ret u=>exact I.after z
  | next=>exact False.elim z
  | brk=>exact False.elim z
  | cont=>exact False.elim z
theorem KH(T:dw X Ex)(F:zp X.prog X.w X.K X.mg X.base (CXW X.prog X.w) cm k f fd ps sp)(S:zE cm k X.A)(hg:Gl X x)(hm:X.mg x=some (.ref f))(W:Sg X.K (.ref f)=true)(O:cx X.K fd ps ds)(hd:zt YY ds)
  (G:PA X (e::es) t) (U:(x==("__debug__":Str))=false:=by decide) (J:Pb (e::es) X.env=(false,Qc e X.env)::Pb es X.env:=by rfl) (Z:(Rq pos (Pb es X.env)).any (·.1)=false:=by rfl) :
  PE X (.Call (.Name x p) (e::es) [] pos) (kK sp YY Ex t):=by
 intro Go s σ H Q I h;refine Qu (gE I hg hm ?_ U);refine callWith_K (h₀:=X.base) I.ok.mod.bG W (thn (G pos Go s σ H _ I h) λus s1=>x5e λvs H1 z r q=>{z.UB,?_}) J Z;exact Bv T F S O hd z r q
end
theorem Fun.cH{K:OF}{st:Stmt}{k:Nat}(F:Fun K x qual st f fd)(S:zw N ps (zk st))(len:∀vs H Q E,sp vs H Q E->vs.length=ps.length)(G:∀(z:Value)(A:O0)(outer:List Env)(s:Ow)(H:Hp)(vs:List V)(Q:VK)(E:XK),zE cm k (A.deeper (Ra qual (zk st) s.heap.objs.size f z))->sp vs H Q E ->
   ∃t,PSs (bR (CXW P w) cm P w K mg base N qual (zk st) f z A outer s H E) (cZ st) t/\t { nx:=λ_ H'=>Q .non H',rt:=Q } (start N vs) H):zp P w K mg base (CXW P w) cm (k+1) f fd ps sp:=by
 obtain ⟨oc,od,kV,Z,pm,W,z,ct,O,rfl,lk,hcd⟩:=F.ex;exact m8 lk hcd S len λA outer s H vs Q E J U=>G z A outer s H vs Q E J U
def bmV:List Value:=[.type "ValueError",.type "Exception",.type "BaseException",.type "object"]
def cO(K:OF)(C:Addr):Prop:=excIn K C bmV "ValueError.__new__"=true
structure pO(h:Heap)(C:Addr)(mro:List Value):Prop where
 ex:∃bm N nm q bs hdct sn sub ab col dd k0 k1 k2 k3 k5 mN,mro = .ref C::bm/\h.get? C=some (excClassObj nm q C N bs bm hdct sn sub ab col dd k0 k1 k2 k3 k5 "ValueError.__new__")/\h.Ns N mN/\mN Wo=none/\OwnTail h bmV bm
theorem cO.obj{K:OF}(x:cO K C)(X:K.In h):∃cd,clsIn K C=some cd/\pO h C cd.mro:=by
 unfold cO excIn at x;split at x
 .rename_i dd cd sl look;have U:clsIn K C=some cd:=by
   unfold clsIn;rw [look]
  refine {cd,U,?_};split at x
  .rename_i C' bm k0 k1 k2 k3 n k5 em es;simp only [Pm,beq_iff_eq,T5] at x;obtain ⟨⟨⟨⟨⟨c1,Z⟩,J⟩,S⟩,z⟩,G⟩:=x;subst c1 Z;obtain ⟨O,a2,a3,a4,a5,a6,a7,a8,a9,F,ab⟩:=cd;dsimp only at em J z G ⊢;subst em J;obtain ⟨sl⟩:=sl;dsimp only at es;subst es;exact {bm,a4,O,a5,a2,a6,a7,a8,a9,F,dd,k0,k1,k2,k3,k5,_,rfl,X _ _ look,.of_isNs (PySem.W.isNs_of_in X z),PySem.W.nsMap_none_of_in X z G,PySem.W.tail_of_in X S}
  .cases x
 .cases x
def qT(C:Addr)(Ex:Addr->St->Hp->Prop)(t:TA):TS:=λ_ σ H=>t σ H λvs H1=>vs.length<=sizeLine/\Ex C σ H1
theorem Ir{t:TA}(hc:X.calm=true)(T:dw X Ex)(O:cO X.K C)(hg:Gl X x)(hm:X.mg x=some (.ref C))(U:PA X (e::es) t)(YZ:(x==("__debug__":Str))=false:=by decide)(hst:Pb (e::es) X.env=(false,Qc e X.env)::Pb es X.env:=by rfl)(Yc:(Rq cpos (Pb es X.env)).any (·.1)=false:=by rfl):
  PS X (.Raise (some (.Call (.Name x np) (e::es) [] cpos)) none pos) (qT C Ex t):=by
 intro Go s σ H D I h;obtain ⟨cd,_,⟨bm,N,nm,q,bs,hdct,sn,sub,ab,col,dd,k0,k1,k2,k3,k5,mN,em,hC,hN,S,TL⟩⟩:=O.obj I.ok.mod.bG;refine wpAny_Raise_call_subT (C:=C) (nm:=nm) (q:=q) (N:=N) (bs:=bs) (bm:=bm) (hdct:=hdct) (sn:=sn) (sub:=sub) (ab:=ab) (col:=col) (dd:=dd) (k0:=k0) (k1:=k1) (k2:=k2) (k3:=k3) (k5:=k5) (mN:=mN) PySem.F.excBase_ValueError (TL.hasType 'd') (I.ok.hd hc)
  (by rw [hst];show (false||(Rq cpos (Pb es X.env)).any (·.1))=false;rw [Yc];rfl) S (gE I hg hm {rfl,?_} YZ)
 have hA:=U cpos Go s σ H _ I h;rw [hst] at hA ⊢;refine Calls.evalArgs_plain (thn hA λus s2=>x5e λvs H2 J r2=>x2e λhz q2=>{rfl,by rw [<- r2.length];exact hz,J.bk _ _ hC,hN.keeps J.bk,TL.keeps J.bk,λh' ea G=>?_});obtain ⟨tt,he,ai,_⟩:=G.there;have Z:∀env∈X.stack,∀a,env.frame=some a->a∈frs X.stack:=λenv hm a U=>Sy.mpr ⟨env,hm,U⟩;refine T Go σ H2 s2 ea C (hideAll s2.heap (frs X.stack)) .none { s2 with heap:=h' } J {λb o e=>G.keeps b o (T4 _ e),?_,?_,?_} rfl J.bare (λb o e hb=>hideAll_get _ e hb) (λb o e _=>{o.slots,G.keeps b o e}) q2
 .cases z:(hideAll s2.heap (frs X.stack)).get? ea with
  | none=>rfl
  | some o =>
   have:=T4 _ z;rw [G.new] at this;cases this
 .exact (PySem.W.funFrames_hide J.stack Z).of_keeps λb o e _=>{o,G.keeps b o e,rfl}
 .exact {_,_,he,rfl,rfl,rfl,'z',rfl,.inl rfl}
section
variable {M:Model}{A:O0}{E:Value->Ow->Prop}
theorem N2{d:Drawn}{t:Nat}{os:OsState}{O mD:List Value}(OC:pO h C O)(OD:pO h D mD)(W:h.get? e=some oe)(z:oe.cls = .ref C)(Xn:O.contains (.ref D)=true)(hq:Q true ⟨h,g,d,t,os⟩):OJ M A (excMatches (.ref e) (.ref D)) Q E ⟨h,g,d,t,os⟩:=by
 obtain ⟨bm,N,nm,q,bs,hdct,sn,sub,ab,col,dd,k0,k1,k2,k3,k5,mN,rfl,hC,_,_,TC⟩:=OC;obtain ⟨G,N',av,q',ar,F,aF,J,Z,S,aH,j0,j1,j2,j3,j5,ai,rfl,U,_,_,TD⟩:=OD;have b1:(OU D::G).contains (.type "BaseException")=true:=by
  rw [List.contains_cons,TD.hasType (X:="BaseException") (b:=true) 'd',Bool.or_true]
 have b2:=tc_notTuple;unfold excMatches
 repeat (first|(with_reducible refine wpAny_loadPart_at W ?_;rw [z])|with_reducible refine wpAny_loadPart_at U ?_|(with_reducible refine wpAny_isSubtype_exc U ?_;rw [b1])|(with_reducible refine wpAny_isSubtype_exc hC ?_;rw [Xn])|wp_step)
 exact hq
end
theorem ae.ex{o:HO}(x:ae P w H h a o):∃ob,h.get? a=some ob:=by
 cases o with
 | lst xs=>obtain ⟨_,_,_,_,e⟩:=x;exact {_,e}
 | tup xs=>obtain ⟨_,_,_,o,e,_⟩:=x;exact {_,e}
 | dK kvs=>obtain ⟨_,_,_,_,o,_,_,e,_⟩:=x;exact {_,e}
 | dT kvs=>obtain ⟨_,_,_,_,o,_,_,e,_⟩:=x;exact {_,e}
 | set S n=>obtain ⟨o,_,_,_,e,_⟩:=x;exact {_,e}
 | ins C dx fs=>obtain ⟨_,_,_,e,_⟩:=x;exact {_,e}
 | own y=>exact x
 | xd fs=>obtain ⟨_,⟨_,_,_,e,_⟩,_⟩:=x;exact {_,e}
 | rng lo hi=>obtain ⟨_,_,_,e⟩:=x;exact {_,e}
 | frz ob u=>exact {_,x.1}
 | tbl ps=>exact {_,x}
 | met f y=>exact {_,x}
 | ext z=>exact x.2.1
abbrev cxP(X:Cx)(Go:List (Addr×Obj)):Cx:={ X with pn:=X.pn++Go }
theorem Cx.Ok.p(ok:X.Ok)(Go:List (Addr×Obj)):(cxP X Go).Ok :=
 ⟨ok.mod,ok.kind,ok.glob,ok.blt,ok.above,ok.inj,ok.has,ok.bJ,ok.hd,ok.frames,ok.bP,ok.cw,ok.bs,ok.aF,ok.az,ok.aD,ok.UF,ok.aY⟩
theorem Inv.p(I:Inv X Go σ H s):Inv (cxP X Go) [] σ H s :=
 {I.ok.p Go,I.os,I.bare,I.base,I.loc,I.cell,I.free,I.z9,λp z=>I.pin p (by have h:p∈(X.pn++Go)++[]:=z;simpa using h),I.hok,I.len,I.hdk}
theorem Inv.a8(ok:X.Ok)(I:Inv (cxP X Go) [] σ H s):Inv X Go σ H s :=
 {ok,I.os,I.bare,I.base,I.loc,I.cell,I.free,I.z9,λp z=>I.pin p (by show p∈(X.pn++Go)++[];simpa using z),I.hok,I.len,I.hdk}
abbrev iH(X:Cx)(Go:List (Addr×Obj))(Ex:Addr->St->Hp->Prop):Cx:=(cxP X Go).UD λe s'=>∃(ea C:Addr)(B:Heap)(H':Hp)(fl:Value)(σ:St)(z:Ow),e = .ref ea/\Inv (cxP X Go) [] σ H' z/\bH B X.stack ea (.ref C) fl s'.heap /\
 s'.os=z.os/\RI s'.gens/\(∀b o,z.heap.get? b=some o->b∉frs X.stack->B.get? b=some o)/\z.heap.UpToSlots s'.heap/\Ex C σ H'
theorem uP:dw (iH X Go Ex) Ex:=λps σ H F ea C B fl s' I y os bare G up q =>
 {ea,C,B,H,fl,σ,F,rfl,(I.ri.xy λp z=>(nomatch z)),y,os,bare,G,up,q}
abbrev jb(X:Cx)(Go:List (Addr×Obj))(ea:Addr):Cx:={ X with pn:=X.pn++Go,A:=X.A.mark (some (.ref ea)),calm:=false,xe:=λ_ _=>False }
def lG(C:Addr)(o:Obj):Prop:=o.cls = .ref C/\o.dict=none/\∃vs,o.data = .fields vs
theorem uZ(XZ:X.ex=[])(I:Inv (cxP X Go) [] σ H O)(y:bH B X.stack ea (.ref C) fl s'.heap)(os:s'.os=O.os)(bare:RI s'.gens)(hB:∀b o,O.heap.get? b=some o->b∉frs X.stack->B.get? b=some o)(up:O.heap.UpToSlots s'.heap):
  H ea=none/\∃oe,lG C oe/\s'.heap.get? ea=some oe/\Inv (jb X Go ea) [] σ (upd H ea (.frz oe (.own 0))) s':=by
 obtain ⟨st,hn,hl,oe,vs,U,hc,YC,hd,hz,h2,h1⟩:=y;have ai:ea∉frs X.stack:=λz=>by
  obtain ⟨_,o,S,nf⟩:=hl.mem z;rw [U] at S;cases S;exact nf vs hd
 have new:O.heap.get? ea=none:=by
  cases q:O.heap.get? ea with
  | none=>rfl
  | some o =>
   have:=hB _ o q ai;rw [hn] at this;cases this
 have Z:H ea=none:=by
  cases q:H ea with
  | none=>rfl
  | some u =>
   obtain ⟨ob,z⟩:=(I.hok ea u q).ex;rw [new] at z;cases z
 have keep:∀b o,O.heap.get? b=some o->b∉frs X.stack->s'.heap.get? b=some o:=λb o e J=>st b o (hB b o e J);have slot:∀b o,O.heap.get? b=some o->b∈frs X.stack->∃sl,s'.heap.get? b=some { o with slots:=sl }:=λb o e J=>by
  obtain ⟨_,o',W,nf⟩:=I.stack.mem (show b∈(cxP X Go).stack.filterMap (·.frame) from J);rw [e] at W;cases W;exact up b o e nf
 have F:Inv (cxP X Go) [] σ H s':=I.aA (ch:=[]) os {λb o e _ J _=>keep b o e J,λb o e _ J _=>slot b o e J,λ_ _ _ n _=>n,λb o e _=>?_,λ_ _ e=>e,λ_ _ _ e=>e,λb ps e=>{#[],by rw [e];simp}}
  (λb u e=>(I.hok b u e).UE (λc v hc q=>keep c v q λz=>?_) (λ_ q=>q) λ_ _ q=>q) bare λb z=>absurd z 'z'
 .have ab:ea≠X.env.locals:=λz=>by
   obtain ⟨m,⟨o,es,ep,S,G,_⟩,_⟩:=F.loc;have W:s'.heap.get? ea=some o:=by rw [z];exact S
   rw [U] at W;cases W;rw [hd] at G;cases G
  refine {Z,oe,⟨hc,YC,vs,hd⟩,U,{{F.ok.mod,F.ok.kind,F.ok.glob,F.ok.blt,F.ok.above,F.ok.inj,F.ok.has,F.ok.bJ,λz=>(nomatch z),F.ok.frames,F.ok.bP,F.ok.cw,F.ok.bs,F.ok.aF,F.ok.az,F.ok.aD,F.ok.UF,F.ok.aY},F.os,F.bare,
   {F.base.keep,F.base.slot,λb o e n hx=>?_,F.base.there,λb xs e=>?_,λb o u e=>?_,λb ps e=>?_},F.loc,F.cell,?_,λx c e=>?_,λp hp=>?_,F.hok.add Z ⟨U,oe,U⟩,F.len,.inr {ea,oe,vs,rfl,zu,hd,h2,C,hc}}}
  .obtain ⟨o',z⟩:=I.base.there b o e hx;rw [ze (λw=>by rw [w,new] at z;cases z)];exact F.base.free b o e n hx
  .have z:=F.base.tups b xs e;rw [ze (zz z Z)];exact z
  .have z:=F.base.frzs b o u e;rw [ze (zz z Z)];exact z
  .obtain ⟨more,z⟩:=F.base.tbls b ps e;exact {more,by rw [ze (zz z Z)];exact z}
  .rw [ze (Pe ab)];exact F.free
  .have nc:c≠ea:=λw=>by
    obtain ⟨v,o,S,G⟩:=F.cell x c e;rw [w,U] at S;cases S;rw [hd] at G;cases G
   rw [ze nc];exact F.z9 x c e
  .obtain ⟨a,b,c,d,f⟩:=F.pin p hp;refine {a,?_,c,d,f};rw [ze λw=>?_]
   .exact b
   .have:=(I.pin p hp).1;rw [w,new] at this;cases this
 .by_cases J:b∈frs X.stack
  .obtain ⟨sl,z⟩:=slot b o e J;exact {_,z}
  .exact {o,keep b o e J}
 .have zf:H c=none:=I.Vw c z;rcases hc with w|w
  .rw [w] at zf;rw [zf] at e;cases e
  .rw [zf] at w;cases w
theorem Inv.UO(ok:X.Ok)(z:X.A.handled=none)(I:Inv (jb X Go ea) [] σ H s):Inv X Go σ H s :=
 {ok,I.os,I.bare,I.base,I.loc,I.cell,I.free,I.z9,λp F=>I.pin p (by show p∈(X.pn++Go)++[];simpa using F),I.hok,I.len,.inl z}
end L2
namespace L2
open PySem PySem.Spec PyProof.Rows PySem.W
section
variable {prog:OL}{w:O1}{A:O0}{E:Value->Ow->Prop}{K:Frag}{h:Heap}{g:Array GenState}{d:Drawn}{t:Nat}{os:OsState}{e C:Addr}{oe:Obj}
theorem EK(X:K.In h)(I:InstAt h e oe C none)(O:findIn K (.ref C) "__class__"=some (some (.builtin "object.__class__")))(hm:mroIn K C (.type "object")=some true)(z:Q (.done (.ret (.ref C))) ⟨h,g,d,t,os⟩):OJ (OR prog w) A (OS.«object.__getattribute__» {[.ref e,.str "__class__" tk],[]}) Q E ⟨h,g,d,t,os⟩:=by
 have J:=I.type (M:=OR prog w);have G:=looks_findIn (M:=OR prog w) X O;have U:=F.typeOf_object_class;have S:=F.slot_gs_get.lookup;have W:=F.slot_gs_set.lookup
 repeat (any_goals (first|assumption|with_reducible refine J.at ?_|with_reducible refine G.at ?_|wp_step))
 exact class_get (s:=⟨h,g,d,t,os⟩) X I hm (Oz z)
theorem IW(X:K.In h)(I:InstAt h e oe C none)(J:mroIn K C (.type "BaseException")=some true)(G:Q () ⟨h,g,d,t,os⟩):
  OJ (OR prog w) A (Ss "BaseException.__getattribute__" {[.ref e,z],[]}) Q E ⟨h,g,d,t,os⟩:=by
 have O:=I.type (M:=OR prog w);have U:=looks_mroIn (M:=OR prog w) X J;have c1:builtinKind "BaseException.__getattribute__"=some .slot:=by decide +kernel
 have S:splitId "BaseException.__getattribute__"=some ("BaseException","__getattribute__"):=by decide +kernel
 have W:=F.args_bexc_ga (.ref e) z;simp only [Ss,c1,S];refine we ?_;unfold isInstance
 repeat (first|with_reducible refine O.at ?_|with_reducible refine U.at ?_|wp_step)
 exact G
theorem Nb(X:K.In h)(I:InstAt h e oe C none)(U:findIn K (.ref C) "__getattribute__"=some (some (.builtin "BaseException.__getattribute__")))(z:findIn K (.ref C) "__getattr__"=some none)(O:findIn K (.ref C) "__class__"=some (some (.builtin "object.__class__")))(hm:mroIn K C (.type "object")=some true)(G:mroIn K C (.type "BaseException")=some true)(Z:Q (some (.ref C)) {h,g,d,t+1,os}):
  OJ (OR prog w) A (getAttr? (.ref e) "__class__") Q E ⟨h,g,d,t,os⟩:=by
 have J:=I.type (M:=OR prog w);have S:=looks_findIn (M:=OR prog w) X U;have L2:=looks_findIn (M:=OR prog w) X z;have f4:=TY.ga.bind (.ref e);have W:(builtin "BaseException.__getattribute__" == builtin "object.__getattribute__")=false:=by decide +kernel
 have x1:(onTheHeap (OU C)&&builtin "BaseException.__getattribute__" == builtin "object.__getattribute__")=false:=by rw [W];rfl
 have x0:(false&&onTheHeap (builtin "BaseException.__getattribute__"))=false:=rfl;unfold getAttr? getAttrBy?;refine we (wpAny_mkText (we (Sx ?_)))
 repeat (any_goals (first|assumption|with_reducible refine J.at ?_|with_reducible refine S.at ?_|with_reducible refine L2.at ?_|wp_step))
 refine SE TY.ga.plain F.entry_bexc_ga (IW X I G (EK X I O hm ?_))
 repeat (any_goals (first|assumption|wp_step))
structure Ay(K:Frag)(C:Addr):Prop where
 err:cO K C
 ga:findIn K (.ref C) "__getattribute__"=some (some (.builtin "BaseException.__getattribute__"))
 gr:findIn K (.ref C) "__getattr__"=some none
 cl:findIn K (.ref C) "__class__"=some (some (.builtin "object.__class__"))
 ob:mroIn K C (.type "object")=some true
 ba:mroIn K C (.type "BaseException")=some true
theorem B1(O:Ay K C):KitX K (.ref e) (.ref C) (λh=>InstAt h e oe C none) where
 ty:=λ_ _ _ I=>I.type
 it:=λM h X I=>by
  obtain ⟨cd,_,⟨bm,N,nm,q,bs,hdct,sn,sub,ab,col,dd,k0,k1,k2,k3,k5,mN,_,F,_⟩⟩:=O.err.obj X;intro Z W U s' k S;unfold isType loadHead;exact we (wpAny_loadPart (k _ _ F) (Oz S))
 ne:=λh tp dd its n sl X G=>by
  obtain ⟨cd,_,⟨bm,N,nm,q,bs,hdct,sn,sub,ab,col,d1,k0,k1,k2,k3,k5,mN,_,F,_⟩⟩:=O.err.obj X;refine Ry.mpr λz=>?_;have J:C=tp:=OU.inj (beq_iff_eq.mp z);subst J;have wd:=congrArg Obj.data (Pn.inj (F.symm.trans G));cases wd
 ca:=λ{prog w A E Q s} X I k=>by
  obtain ⟨h,g,d,t,os⟩:=s;exact Nb X I O.ga O.gr O.cl O.ob O.ba k
end
def Gn:V->Option Value
 | .ref a=>some (.ref a)
 | .ty n=>some (.type n)
 | _=>none
inductive TyX(K:Frag)(H:Hp):V->Value->Prop where
 | of {x:V}{t:Value} (h:cR K H x t):TyX K H x t
 | exc {a C:Addr}{o:Obj} (e:H a=some (.frz o (.own 0))) (ho:lG C o) (O:Ay K C):TyX K H (.ref a) (.ref C)
def HB(K:Frag):List V->Hp->VK->Prop:=λxs H Q=>∃x c t u b,xs=[x,c]/\Gn c=some u/\TyX K H x t/\kitOne K t u=some b/\Q (.bl b) H
theorem jC:zO X (.builtin "isinstance") (HB X.K):=by
 intro Go s σ H xs us Q I r h;obtain ⟨x,c,t,u,b,rfl,F,ty,U,q⟩:=h;cases r with
 | cons W G =>
  cases G with
  | cons S G =>
   cases G;rename_i v1 v2;have Z:v2=u:=by
    cases c with
    | ref a=>cases F;exact S
    | ty n=>cases F;exact S
    | _=>cases F
   subst Z;cases ty with
   | of ty=>exact HE I W ty U λtk=>{.bl b,H,I.tok tk,rfl,q}
   | exc e ho O =>
    rename_i a C o;obtain rfl:v1=OU a:=W;obtain ⟨z,_⟩:=I.hok a _ e;obtain ⟨c1,c2,vs,c3⟩:=ho;have J:InstAt s.heap a o C none:={z,c1,by unfold notCls;rw [c3],by rw [c2];trivial};exact kia_one (B1 O) I.UB J U (λw=>nomatch w) λtk=>{.bl b,H,I.tok tk,rfl,q}
end L2
namespace L2
open PySem PySem.Spec PyProof.Rows
def Hnd(A:O0)(h:Heap):Prop:=A.handled=none\/∃(a:Addr)(o:Obj)(vs:Array Value),A.handled=some (.ref a)/\h.get? a=some o/\o.data = .fields vs/\vs[2]?=some .none/\∃C,o.cls = .ref C
theorem Inv.hnd(I:Inv X Go σ H s):Hnd X.A s.heap:=by
 rcases I.hdk with h|⟨a,o,vs,h1,h2,h3⟩
 .exact .inl h
 .exact .inr {a,o,vs,h1,(I.hok a _ h2).1,h3}
theorem Hnd.keeps(x:Hnd A h)(k:∀b o,(∃C,o.cls = .ref C)->h.get? b=some o->h'.get? b=some o):Hnd A h':=by
 rcases x with x|⟨a,o,vs,h1,h2,h3,h4,z⟩
 .exact .inl x
 .exact .inr {a,o,vs,h1,k a o z h2,h3,h4,z}
theorem Mw:entryFor table "proto.unchain"=some OS.«proto.unchain»:=entryFor_of_tree (by kernel_rfl)
section
variable {prog:OL}{w:O1}{A:O0}{E:Value->Ow->Prop}{s:Ow}
theorem Ga{α:Type}{Q:α->Ow->Prop}(G:Hnd A s.heap)(F:s.heap.get? e=some oe)(hd:oe.data = .fields ws)(hz:2<ws.size)(O:∀C,oe.cls≠.ref C)(k:∀h',Qy e s.heap h'->(∃o,h'.get? e=some o/\o.cls=oe.cls)->E (.ref e) { s with heap:=h' }):OJ (OR prog w) A (TM (.ref e):Sem α) Q E s:=by
 unfold TM;refine we (wpAny_handled ?_);rcases G with G|⟨a,o,vs,h1,h2,h3,h4,C,J⟩
 .rw [G];exact we (Oz (wpAny_throw (k s.heap (Qy.refl _ _) {oe,F,rfl})))
 .rw [h1];have ne:a≠e:=λz=>by rw [z,F] at h2;cases h2;exact O C J
  dsimp only;rw [if_pos (show (OU a != OU e)=true by simpa using ne)];refine we (O9 (wpAny_runValue (Q0 Mw ?_)));refine we (m:=field (.ref a) 2) (Po h2 h3 h4 ?_);rw [if_pos (show (Pw==Pw)=true by rfl)];refine Oz (we ?_);show OJ _ _ (RK (.ref e) 2 (.ref a)) _ _ _;have dd:=QD hd (·.setIfInBounds 2 (OU a));exact PL F hd hz (wpAny_throw (k _ (Qy.update ..) {_,PD _ F (P9 dd),RW _ _}))
theorem AW{α:Type}{Q:α->Ow->Prop}(J:Hnd A s.heap)(k:∀h' e,(∀b o,s.heap.get? b=some o->h'.get? b=some o)->(∃o,h'.get? e=some o/\o.cls = .type "StopIteration")->E (.ref e) { s with heap:=h' }) :
  OJ (OR prog w) A (newExc (.type "StopIteration") []>>=λe=>(TM e:Sem α)) Q E s:=by
 refine we ?_;simp only [newExc,newTuple];refine we (Pt (we (m:=S4 _ _) (Tn (a:=Pw) (by first|rfl|(simp only [S4];rfl)) (Pt ?_ (by size_fits)))) (by size_fits));have old:∀(G F:Obj) b o,s.heap.get? b=some o->((s.heap.push G).push F).get? b=some o:=λG F b o q=>Oy _ (Oy _ q);refine Ga (J.keeps λb o _ q=>old _ _ b o q) (OM _ rfl) rfl (by simp;lia) (λC z=>by cases z) λh' sb=>x3e λo g c=>k h' _ (λb o q=>?_) ⟨o,g,c⟩;refine (sb.2 b (λz=>?_)).trans (old _ _ b o q);have:=O4 q;rw [z,QG] at this;exact absurd (Px this) (PY _)
theorem MA{it t:Addr}(hh:Hnd A s.heap)(S:s.heap.IsTupleIter it t i)(ht:s.heap.IsTuple t items)(hx:items[i]?=none)(k:∀h',ExtBut it s.heap h'->Q none { s with heap:=h' }):OJ (OR prog w) A (Rn (.ref it)) Q E s:=by
 obtain ⟨o,G,hc,hd⟩:=id S;obtain ⟨ol,O,_,nl,J⟩:=ht;unfold Rn;refine we (Sx (P5 (name:=OA "__next__") S.typeIs F.slot_tuple_iterator_next (PK F.slot_tuple_iterator_next S.typeIs F.entry_tuple_iterator_next ?_ (F.args_tuple_iterator_next_1 _))));refine we (m:=field (.ref it) 0) (Po G hd (x:=.ref t) rfl ?_);rw [if_neg (show ¬ ((OU t==Pw)=true) by simp)];refine we (m:=field (.ref it) 1) (Po G hd (x:=.int i 0) rfl (we (m:=Sq (.ref t)) (Qh O J ?_)));simp only [Qj,hx];refine we (QR (we (PL G hd 'z' ?_)));refine AW (hh.keeps λb q W e=>(O5 _ _ λz=>?_).trans e) λh' e up=>x3e λo' g' c' =>
  we (Sm (T:="StopIteration") (b:=true) ⟨o',g',c'⟩ isSubtype_stop (Oz (k h' λb q Z z=>up b q ((O5 _ _ (Pe Z)).trans z))))
 obtain ⟨C,U⟩:=W;rw [<- z,G] at e;cases e;rw [hc] at U;cases U
theorem Gv{x1}{t:Addr}(hh:Hnd A s.heap)(G:Tr s.heap t items)(Z:(Q1 O env).length=items.size)(F:(Q1 O env).findIdx? (·.1)=none)(h:∀h',ExtBut s.heap.objs.size s.heap h'->OJ (OR prog w) A (Tv ((Q1 O env).map (·.2)) items.toList) Q E { s with heap:=h' }):OJ (OR prog w) A (S8 (.Tuple O x1 pos) env (.ref t)) Q E s:=by
 have lt:t≠s.heap.objs.size:=by obtain ⟨o,ho,_⟩:=G;exact Pr (O4 ho)
 have all:List.take items.size (List.drop 0 items.toList)=items.toList:=by rw [Uq];exact OQ 'z'
 have XY:OJ (OR prog w) A (unpackItems (.ref t) items.size none) (λvs s'=>∃h',vs=items.toList/\s'={ s with heap:=h' }/\ExtBut s.heap.objs.size s.heap h') E s:=by
  unfold unpackItems;refine we ?_;unfold notIterableAtAll;refine we (wpAny_specialOf G.typeIs slot_tuple_iter.lookup (Oz ?_));simp only [Q5,if_false];refine we (O9 (iter_tuple G (we (O9 (draw_tuple lt items.size 0 _ _ {_,OM _ rfl,rfl,rfl} (G.push _) 'l' λh1 U s1=>?_)))));rw [all,if_neg 'z'];have t1:Tr h1 t items:=(G.push _).extBut s1.extBut lt;have up1:∀b o,b≠s.heap.objs.size->s.heap.get? b=some o->h1.get? b=some o:=λb o J e=>s1.extBut b o J (Oy _ e);refine we (O9 (MA (s:={ s with heap:=h1 }) (hh.keeps λb o _ e=>up1 b o (Pr (O4 e)) e) U t1 'z' λh2 S=>?_));simp only [Option.isSome_none,Q5,if_false];exact Oz {h2,rfl,rfl,λb o J e=>S b o J (up1 b o J e)}
 rw [assign_Tuple];refine we (Qi ?_);unfold unpack;rw [F,Z];refine we (O9 (Pp XY (λvs s'=>x3e λh' W=>x2e λS x=>?_) λ_ _ z=>z));subst W S;exact h h' x
end
theorem uq{k:Nat}{t:TGs}(h:PGs X es t)(hl:(Q1 es X.env).length=n:=by rfl)(hst:(Q1 es X.env).findIdx? (·.1)=none:=by rfl):PG X (.Tuple es k pos) (nJ X.K n t):=by
 intro Go s σ H v u Q I r q;obtain ⟨a,xs,rfl,hx,J,q⟩:=q;obtain rfl:u=OU a:=r;obtain ⟨its,z,G,hz⟩:=I.tuple hx;refine Gv I.hnd G (by rw [hl,<- J,z.length];simp) hst λh' ex=>?_;have F:Inv X Go σ H { s with heap:=h' }:=I.kept (t':=s.toks) λb o e=>ex b o (Pr (O4 e)) e;have:=h Go { s with heap:=h' } σ H xs its Q F z q;simpa using this
def eqL(xs ys:List V):Bool:=xs.length==ys.length&&(Qg xs.length).all λi=>eqV (xs.getD i .non) (ys.getD i .non)
theorem lC:∀{xs:List V},xs.all ah=true->(∀x∈xs,∀b,x≠.byt b)->eqL xs xs=true:=by
 intro xs h _;unfold eqL;rw [beq_self_eq_true,SA,Py];intro i hi;have z:=R6.mp hi;have hm:xs[i]∈xs:=Qb z;have:=Py.mp h _ hm;rw [OY,KE z,Option.getD_some];cases e:xs[i] with
 | non=>rfl
 | bl b=>simp [eqV]
 | int j=>simp [eqV]
 | str x=>simp [eqV]
 | _=>rw [e] at this;cases this
section
variable {X:Cx}
def wu(K:OF)(neg:Bool):R2:=λx y H Q=>∃a b xs ys,x = .ref a/\y = .ref b/\SqL K H a xs/\SqL K H b ys/\xs.all ah=true/\ys.all ah=true/\Q (.bl (if neg then !eqL xs ys else eqL xs ys)) H
theorem vO(I:Inv X Go σ H s)(ha:SqL X.K H a xs)(hb:SqL X.K H b ys)(fx:xs.all ah=true)(fy:ys.all ah=true):
  ∃is F:List Value,s.heap.IsList a is.toArray/\s.heap.IsList b F.toArray/\xs.length=is.length/\ys.length=F.length/\∀(A:O0)(j:Nat)(h1:j<is.toArray.size)(h2:j<F.toArray.size),SeqAt.EqAt A s is.toArray[j] F.toArray[j] (eqV (xs.getD j .non) (ys.getD j .non)):=by
 obtain ⟨is,J,Z,_⟩:=I.list ha;obtain ⟨F,G,p2,_⟩:=I.list hb;refine {is,F,Z.isList,p2.isList,J.length,G.length,λA j h1 h2=>?_};have l1:=J.length;have l2:=G.length;simp only [OZ] at h1 h2;have S:xs[j]?=some (xs.getD j .non):=by rw [OY,KE 'l'];rfl
 have U:ys[j]?=some (ys.getD j .non):=by rw [OY,KE 'l'];rfl
 obtain ⟨u,g1,q1⟩:=J.get S;obtain ⟨v,O,q2⟩:=G.get U;rw [KE h1] at g1;rw [KE h2] at O;have f1:=Py.mp fx _ (OX S);have W:=Py.mp fy _ (OX U);have z:=ki (A:=A) (s:=s) q1 q2 f1 W;have w1:is.toArray[j]=u:=by simpa using Pn.inj g1
 have w2:F.toArray[j]=v:=by simpa using Pn.inj O
 rw [w1,w2];exact z
theorem MF(F:X.A.units<cLine):OpR X (P8 .Eq) (wu X.K false):=by
 intro Go s σ H x y v u Q I rx ry h;obtain ⟨a,b,xs,ys,rfl,rfl,S,Z,fx,U,q⟩:=h;cases rx;cases ry;obtain ⟨is,W,z,p2,J,G,eq⟩:=vO I S Z fx U;by_cases hz:is.toArray.size=W.toArray.size
 .refine SeqAt.eq_listAt z p2 hz F (λj h1 h2=>eq _ j h1 h2) {.bl _,H,I,rfl,?_};have e:eqL xs ys=(Qg is.toArray.size).all λj=>eqV (xs.getD j .non) (ys.getD j .non):=by
   unfold eqL;simp only [OZ] at hz ⊢;rw [J,G,hz];simp
  rw [<- e];exact q
 .refine SeqAt.eq_list_lengthsAt z p2 (by simpa using hz) F {.bl false,H,I,rfl,?_};have e:eqL xs ys=false:=by
   unfold eqL;have:(xs.length==ys.length)=false:=by simp only [OZ] at hz;rw [J,G];simpa using hz
   rw [this,Tg]
  have O:Q (.bl (eqL xs ys)) H:=q;rw [e] at O;exact O
theorem N4(G:X.A.units<cLine):OpR X (P8 .NotEq) (wu X.K true):=by
 intro Go s σ H x y v u Q I rx ry h;obtain ⟨a,b,xs,ys,rfl,rfl,S,Z,fx,U,q⟩:=h;cases rx;cases ry;obtain ⟨is,W,F,p2,O,J,eq⟩:=vO I S Z fx U;have z:Q (.bl (!eqL xs ys)) H:=q;by_cases hz:is.toArray.size=W.toArray.size
 .refine SeqAt.RcNeAt.lists F p2 hz G (λj h1 h2=>eq _ j h1 h2) _ _ _ _ {.bl _,H,I,rfl,?_};have e:eqL xs ys=(Qg is.toArray.size).all λj=>eqV (xs.getD j .non) (ys.getD j .non):=by
   unfold eqL;simp only [OZ] at hz ⊢;rw [O,J,hz];simp
  rw [<- e];exact z
 .refine SeqAt.RcNeAt.lists_lengths F p2 (by simpa using hz) G _ _ _ _ {.bl true,H,I,rfl,?_};have e:eqL xs ys=false:=by
   unfold eqL;have:(xs.length==ys.length)=false:=by simp only [OZ] at hz;rw [O,J];simpa using hz
   rw [this,Tg]
  rw [e] at z;exact z
theorem Inv.big(I:Inv X Go σ H s):sysModules<s.heap.objs.size:=by
 have h:OK<s.heap.objs.size:=(I.mod.glob.keeps I.bk).lt;exact SC 'd' h
def BL:TE:=λ_ H Q=>∀p,H p=none->Q (.ref p) (upd H p (.dK []))
theorem IT:PE X (.Dict [] [] pos) BL:=λGo s σ H Q I h =>
 wpAny_Dict_empty {.ref s.heap.objs.size,_,I.laid (a:=s.heap.objs.size) (o:=.dK []) (t':=s.toks) (λ_ _ q=>Oy _ q) (Ox _) {Qs _,beq_eq_false_iff_ne.mpr (Pe (Pr I.big)),[],.nil,DictOf.new s.heap},rfl,h _ (I.hok.fresh (Ox _))}
theorem zE.mark{k:Nat}(r:zE c k A):zE false k (A.mark v):={λh=>(nomatch h),r.dp,r.un,r.gd}
def aS:O3->Bool
 | .Starred _ _=>false
 | _=>true
theorem dP(h:aS e=true):Pb (e::es) env=(false,Qc e env)::Pb es env:=by
 cases e<;>first|rfl|(exact absurd (show false=true from h) OW)
def dJ(es:List O3):Bool:=es.all aS
theorem vD:∀{es:List O3}(h:dJ es=true),(Pb es env).any (·.1)=false
 | [],_=>rfl
 | e::es,h=>by
  unfold dJ at h;rw [all_cons,Pm] at h;rw [dP h.1,Ta,vD h.2];rfl
theorem gk(h:dJ es=true):(Rq pos (Pb es env)).any (·.1)=false:=by
 have q:=vD (env:=env) h;unfold Rq;rw [List.any_map];exact q
theorem eR(h:aS e=true):Pb [e] env=[(false,Qc e env)]:=(dP h).trans rfl
theorem zc{t:TA}(F:W (PE X e te))(z:W (PA X es t))(G:aS e=true:=by rfl):W (PA X (e::es) (kH te t)):=by refine {?_};have F:=F.h;have z:=z.h;exact fu F z (dP G)
theorem zQ{id:String}{t:TA}{p pos:Pos}(O:zO X (.builtin id) r)(hg:Gl X x)(hm:X.mg x=none)(hv:Rz x=some (.builtin id))(z:W (PA X (e::es) t))(G:aS e=true:=by rfl)(F:dJ es=true:=by rfl)(J:x≠"__name__":=by decide)(S:(x==("__debug__":Str))=false:=by decide):W (PE X (.Call (.Name x p) (e::es) [] pos) (tCB r t)):=by refine {?_};have z:=z.h;exact Mc O hg hm hv z J S (dP G) (gk F)
theorem bF{t:TA}{p pos:Pos}(O:zO X (.type T) r)(hg:Gl X x)(hm:X.mg x=none)(hv:Rz x=some (.type T))(z:W (PA X (e::es) t))(G:aS e=true:=by rfl)(F:dJ es=true:=by rfl)(J:x≠"__name__":=by decide)(S:(x==("__debug__":Str))=false:=by decide):W (PE X (.Call (.Name x p) (e::es) [] pos) (tCB r t)):=by refine {?_};have z:=z.h;exact Cb O hg hm hv z J S (dP G) (gk F)
theorem cT{p pos:Pos}(hg:Gl X "range")(hm:X.mg "range"=none)(z:W (PA X [a] ta))(F:aS a=true:=by rfl):W (PIc true X tg (.Call (.Name "range" p) [a] [] pos) (qY ta)):=by refine {?_};have z:=z.h;exact JV hg hm z (eR F)
theorem lO{t:TA}(J:X.calm=true)(T:dw X Ex)(O:cO X.K C)(hg:Gl X x)(hm:X.mg x=some (.ref C))(z:W (PA X (e::es) t))(G:aS e=true:=by rfl)(F:dJ es=true:=by rfl)(S:(x==("__debug__":Str))=false:=by decide):W (PS X (.Raise (some (.Call (.Name x U) (e::es) [] cpos)) none pos) (qT C Ex t)):=by refine {?_};have z:=z.h;exact Ir J T O hg hm z S (dP G) (gk F)
structure New(H:Hp)(p:Addr)(o:HO)(H':Hp):Prop where
 no:H p=none
 at_:H' p=some o
 same:zi H H'
theorem New.mk'{p:Addr}{o:HO}(h:H p=none):New H p o (upd H p o):={h,zu,λb u e=>by rw [ze (zz e h)];exact e}
def x9(t:TA):TE:=λσ H Q=>t σ H λxs H1=>xs.length<=sizeLine/\∀p H2,New H1 p (.lst xs) H2->p≠sysModules->Q (.ref p) H2
theorem bw{t:TA}(h:W (PA X es t)):W (PE X (.List es pos) (x9 t)):=by
 refine {?_};have h:=h.h;intro Go s σ H Q I G;refine wpAny_List_spliced (thn (h pos Go s σ H _ I G) λus s1=>x5e λxs H1 F r=>x2e λz q=>{by rw [<- r.length];exact z,?_});have hf:H1 s1.heap.objs.size=none:=F.hok.fresh (Ox _);refine {.ref s1.heap.objs.size,upd H1 s1.heap.objs.size (.lst xs),F.laid (t':=s1.toks) (λb u e=>Oy _ e) (Ox _) ?_,rfl,q _ _ (.mk' hf) (Rp F.big)};exact {z,us,0,r,OM _ rfl}
def A7(t:TA):TE:=λσ H Q=>t σ H λxs H1=>xs.length<=sizeLine/\∀p H2,New H1 p (.tup xs) H2->Q (.ref p) H2
theorem vS{t:TA}(hw:∀xs H,R xs H->R' xs H)(h:PA X es t)(pos:Pos)(Go:List (Addr×Obj))(s:Ow)(σ:St)(H:Hp)(I:Inv X Go σ H s)(q:t σ H R):
  OJ (OR X.prog X.w) X.A (spliced (Rq pos (Pb es X.env))) (AP X Go σ R') X.xe s :=
 thn (h pos Go s σ H R I q) λ_ _=>x5e λvs H' a b c=>{vs,H',a,b,hw _ _ c}
theorem bS{t:TA}{x1}(h:W (PA X es t)):W (PE X (.Tuple es x1 pos) (A7 t)):=by
 refine {?_};have h:=h.h;have h':PA X es (λσ H Q=>∃R:List V->Hp->Prop,t σ H R/\∀xs H,R xs H->Q xs H):=λpos Go s σ H Q I=>x3e λR q hw=>vS hw h pos Go s σ H I q;intro Go s σ H Q I F;exact ER h' Go s σ H Q I {_,F,λxs H1=>x2e λz q=>{z,λp G=>q p _ (.mk' G)}}
def yJ:TE:=λ_ H Q=>∀p H2,New H p (.dK []) H2->Q (.ref p) H2
theorem o8:W (PE X (.Dict [] [] pos) yJ):={λGo s σ H Q I h=>IT Go s σ H Q I λp z=>h p _ (.mk' z)}
end
def uR(v:V)(q:Addr->Prop):Prop:=∃a,v = .ref a/\q a
def AK(to te:TE):TE:=λσ H Q=>to σ H λx H1=>uR x λl=>(∃xs,H1 l=some (.lst xs))/\te σ H1 λy H2=>∃xs,H2 l=some (.lst xs)/\xs.length<sizeLine/\Q .non (upd H2 l (.lst (xs++[y])))
section
variable {X:Cx}
theorem OpR.weak(h:OpR X f r)(hw:∀x y H Q,r' x y H Q->r x y H Q):OpR X f r' :=
 λGo s σ H x y v u Q I F z q=>h Go s σ H x y v u Q I F z (hw x y H Q q)
theorem zO.weak(h:zO X f r)(hw:∀xs H Q,r' xs H Q->r xs H Q):zO X f r' :=
 λGo s σ H xs us Q I rs q=>h Go s σ H xs us Q I rs (hw xs H Q q)
theorem IxR.weak(h:IxR X r)(hw:∀x y H Q,r' x y H Q->r x y H Q):IxR X r' :=
 λZF G Go s σ H x y v u Q I F z q hs=>h ZF G Go s σ H x y v u Q I F z (hw x y H Q q) hs
def dI:R2:=λx y H Q=>(∃i j,x = .int i/\y = .int j/\Q (.int (i+j)) H)\/(∃i j,x = .str i/\y = .str j/\i.length+j.length<=sizeLine/\Q (.str (i++j)) H) \/
 (∃l b xs zs,x = .ref l/\y = .ref b/\H l=some (.lst xs)/\H b=some (.lst zs)/\xs.length+zs.length<=sizeLine/\∀p H2,New H p (.lst (xs++zs)) H2->Q (.ref p) H2)
theorem qg:OpR X (QP .Add) dI:=GQ.or (El.or (NP.weak λx y H Q h=>by
 obtain ⟨l,b,xs,zs,G,F,h1,h2,h3,h4⟩:=h;exact {l,b,xs,zs,G,F,h1,h2,h3,λp z=>h4 p _ (.mk' z)}))
def fJ:R2:=λx y H Q=>(∃i j,x = .int i/\y = .int j/\hZ i j/\Q (.int (i*j)) H) \/
 (∃l k xs,x = .ref l/\y = .int k/\H l=some (.lst xs)/\-(2 ^ 63)<=k/\k<2 ^ 63/\xs.length*k.toNat<=sizeLine/\∀p H2,New H p (.lst (Qk k.toNat xs).flatten) H2->Q (.ref p) H2)
theorem JY:OpR X (QP .Mult) fJ:=FW.or (JQ.weak λx y H Q h=>by
 obtain ⟨l,k,xs,J,G,h1,h2,h3,z,h4⟩:=h;exact {l,k,xs,J,G,h1,h2,h3,z,λp F=>h4 p _ (.mk' F)})
def uIx:R2:=λx y H Q=>(∃p xs i v,x = .ref p/\y = .int i/\H p=some (.lst xs)/\atI xs i=some v/\Q v H) \/
 (∃p xs i v,x = .ref p/\y = .int i/\H p=some (.tup xs)/\atI xs i=some v/\Q v H)\/(∃z i c,x = .str z/\y = .int i/\z.length<=sizeLine/\atI z.cps.toList i=some c/\Q (.str {#[c]}) H)
theorem oh:IxR X uIx:=Fp.weak λx y H Q h=>by
 rcases h with ⟨p,xs,i,v,z,F,h,r⟩|⟨p,xs,i,v,z,F,h,r⟩|h
 .exact .inl {p,xs,i,v,z,F,SqL.of h,r}
 .exact .inr (.inl {p,xs,i,v,z,F,SqT.of h,r})
 .exact .inr (.inr h)
def lA:List V->Hp->VK->Prop:=λxs H Q=>(∃p ys,xs=[.ref p]/\H p=some (.lst ys)/\Q (.int ys.length) H)\/(∃p ys,xs=[.ref p]/\H p=some (.tup ys)/\Q (.int ys.length) H) \/
 (∃z,xs=[.str z]/\z.length<=sizeLine/\Q (.int z.length) H)
theorem iV:zO X (.builtin "len") lA:=(jN.or IA).weak λxs H Q h=>by
 rcases h with ⟨p,ys,e,h,q⟩|⟨p,ys,e,h,q⟩|h
 .exact .inl {p,ys,e,.inl (SqL.of h),q}
 .exact .inl {p,ys,e,.inr (SqT.of h),q}
 .exact .inr h
def uEq(neg:Bool):R2:=λx y H Q=>(gZ x y=true/\Q (.bl (if neg then !decide (x=y) else decide (x=y))) H) \/
 (∃a b xs ys,x = .ref a/\y = .ref b/\H a=some (.lst xs)/\H b=some (.lst ys)/\xs.all ah=true/\ys.all ah=true/\Q (.bl (if neg then !eqL xs ys else eqL xs ys)) H)
theorem aU(G:X.A.units<cLine):OpR X (P8 .Eq) (uEq false):=(NY.or (MF G)).weak λx y H Q h=>by
 rcases h with h|⟨a,b,xs,ys,z,F,h1,h2,r⟩
 .exact .inl {h.1,by simpa using h.2}
 .exact .inr {a,b,xs,ys,z,F,SqL.of h1,SqL.of h2,r}
theorem eO(G:X.A.units<cLine):OpR X (P8 .NotEq) (uEq true):=(MX.or (N4 G)).weak λx y H Q h=>by
 rcases h with h|⟨a,b,xs,ys,z,F,h1,h2,r⟩
 .exact .inl {h.1,by simpa using h.2}
 .exact .inr {a,b,xs,ys,z,F,SqL.of h1,SqL.of h2,r}
def xM(K:OF)(ta:TE):TT:=λσ H Q=>ta σ H λx H'=>∃k,fY K x H' k/\Q k H'
theorem bE(z:W (PE X a ta))(G:∀F,isTrue a X.env F=(do let v<-F;RG a.pos;Rx [v] (truthy v)):=by intro _;rfl):W (PT X a (xM X.K ta)):=by refine {?_};have z:=z.h;exact IZ z G
def mJ(C:Addr)(ta:TE)(f:Str):TE:=λσ H Q=>ta σ H λx H1=>∃a dx fs v,x = .ref a/\H1 a=some (.ins C dx fs)/\fs.lookup f=some v/\Q v H1
theorem az(c:Cls X.K C)(n:bu X.K C f)(z:W (PE X e ta))(F:QE e f X.env (Qc e X.env)=Qc e X.env:=by rfl):W (PE X (.Attribute e f pos) (mJ C ta f)):=by
 refine {?_};have z:=z.h;intro Go s σ H Q I h;refine DN F (thn (z Go s σ H _ I h) λu s1=>x5e λx H1 S U O=>?_);obtain ⟨a,dx,fs,v,ex,ea,l,q⟩:=O;subst ex;obtain rfl:u=OU a:=U;exact AJ S ea c n l λZ s2 J G=>⟨v,H1,J,G,q⟩
def jU(C:Addr)(ta tv:TE)(f:Str):TS:=λD σ H=>tv σ H λy H1=>ta σ H1 λx H2=>∃a dx fs,x = .ref a/\H2 a=some (.ins C dx fs)/\fs.length<1000/\D.nx σ (upd H2 a (.ins C dx (zG f y fs)))
theorem cq{o ZF:O3}{ta tv:TE}(c:Cls X.K C)(n:bu X.K C f)(z:W (PE X o ta))(hv:W (PE X ZF tv))(hs:SR ZF (some (.Attribute o f Zt)) pos.line X.env=pure false:=by rfl):W (PS X (.Assign [.Attribute o f Zt] ZF pos) (jU C ta tv f)):=by
 refine {?_};have z:=z.h;have hv:=hv.h;intro Go s σ H D I h;refine plainObj_wpAny_Assign_Attribute (thn (hv Go s σ H _ I h) λu s1=>x5e λy H1 O U q=>thn (z Go s1 σ H1 _ O q) λS s2=>x5e λx H2 J rx F=>?_) hs;obtain ⟨a,dx,fs,ex,ea,l,Z⟩:=F;subst ex;obtain rfl:S=OU a:=rx;exact xO J ea c n l U λs3 G=>{σ,_,G,Z}
structure GF(P:OL)(w:O1)(K:OF)(mg:Str->Option Value)(base:Heap)(cm:Bool)(k:Nat)(x:Str)(ps:List Str)(sp:Sp):Prop where
 ex:∃(f:Addr)(fd:OP),zp P w K mg base CX0 cm k f fd ps sp/\mg x=some (.ref f)/\Sg K (.ref f)=true/\cx K fd ps []
structure GX(P:OL)(w:O1)(K:OF)(mg:Str->Option Value)(base:Heap)(cm:Bool)(k:Nat)(x:Str)(ps:List Str)(sp:Sp):Prop where
 ex:∃(f:Addr)(fd:OP),zp P w K mg base (CXW P w) cm k f fd ps sp/\mg x=some (.ref f)/\Sg K (.ref f)=true/\cx K fd ps []
structure GM(P:OL)(w:O1)(K:OF)(mg:Str->Option Value)(base:Heap)(cm:Bool)(k:Nat)(C:Addr)(m:Str)(ps:List Str)(sp:Sp):Prop where
 ex:∃(f:Addr)(fd:OP),zp P w K mg base CX0 cm k f fd ps sp/\lD K C m f/\cx K fd ps []
structure GC(P:OL)(w:O1)(K:OF)(mg:Str->Option Value)(base:Heap)(cm:Bool)(k:Nat)(x:Str)(C:Addr)(ps:List Str)(sp:Sp):Prop where
 ex:∃(f:Addr)(fd:OP),zp P w K mg base CX0 cm k f fd ps sp/\mg x=some (.ref C)/\Mk K C f/\cx K fd ps []
variable {cm:Bool}{k j:Nat}{x m:Str}{C:Addr}{ps:List Str}{sp:Sp}{e o:O3}{es:List O3}{t:TA}{ta:TE}{p pos ZU:Pos}{Ex:Addr->St->Hp->Prop}
theorem zB(G:GF X.prog X.w X.K X.mg X.base cm j x ps sp)(U:zE cm k X.A)(hg:Gl X x)(z:W (PA X (e::es) t))(hj:j<=k:=by decide)(Z:(x==("__debug__":Str))=false:=by decide)(O:aS e=true:=by rfl)(J:dJ es=true:=by rfl):W (PE X (.Call (.Name x p) (e::es) [] pos) (mx sp [] E0 t)):=by
 refine {?_};have z:=z.h;obtain ⟨f,fd,F,hm,hk,S⟩:=G.ex;exact M9 F (U.mono hj) hg hm hk S .nil jA z Z (dP O) (gk J)
theorem mf(T:dw X Ex)(G:GX X.prog X.w X.K X.mg X.base cm j x ps sp)(U:zE cm k X.A)(hg:Gl X x)(z:W (PA X (e::es) t))(hj:j<=k:=by decide)(Z:(x==("__debug__":Str))=false:=by decide)(O:aS e=true:=by rfl)(J:dJ es=true:=by rfl):W (PE X (.Call (.Name x p) (e::es) [] pos) (kK sp [] Ex t)):=by
 refine {?_};have z:=z.h;obtain ⟨f,fd,F,hm,hk,S⟩:=G.ex;exact KH T F (U.mono hj) hg hm hk S .nil z Z (dP O) (gk J)
theorem bc{pl:Sem Bool}(J:W (PE X o ta))(c:Cls X.K C)(G:GM X.prog X.w X.K X.mg X.base cm j C m ps sp)(hr:zE cm k X.A)(z:W (PA X (e::es) t))(hj:j<=k:=by decide)
  (U:aS e=true:=by rfl) (S:dJ es=true:=by rfl)
  (ht:Qc (.Call (.Attribute o m ZU) (e::es) [] pos) X.env=(do
   let O<-Qc o X.env
   RG ZU.atName
   let (f,first)<-Rx [O] (TR O m pl)
   S5 pos f first (Rq pos (Pb (e::es) X.env)) (backToKw pos (SD [] X.env))):=by rfl):W (PE X (.Call (.Attribute o m ZU) (e::es) [] pos) (fP C m sp [] E0 ta t)):=by
 refine {?_};have J:=J.h;have z:=z.h;obtain ⟨f,fd,F,hm,Z⟩:=G.ex;exact Lc J c hm F (hr.mono hj) Z .nil jA z (dP U) (gk S) ht
theorem zH{pl:Sem Bool}(z:W (PE X o ta))(c:Cls X.K C)(G:GM X.prog X.w X.K X.mg X.base cm j C m ps sp)(S:zE cm k X.A)(Z:j<=k:=by decide)
  (U:Qc (.Call (.Attribute o m ZU) [] [] pos) X.env=(do
   let J<-Qc o X.env
   RG ZU.atName
   let (f,first)<-Rx [J] (TR J m pl)
   S5 pos f first (Rq pos (Pb [] X.env)) (backToKw pos (SD [] X.env))):=by rfl):W (PE X (.Call (.Attribute o m ZU) [] [] pos) (fP C m sp [] E0 ta dr)):=by
 refine {?_};have z:=z.h;obtain ⟨f,fd,F,hm,O⟩:=G.ex;exact FV z c hm F (S.mono Z) O .nil jA U
structure qF(H:Hp)(C x dx:Addr)(H':Hp):Prop where
 no:H x=none
 nod:H dx=none
 ne:dx≠x
 at_:H' x=some (.ins C dx [])
 own:H' dx=some (.own x)
 same:zi H H'
theorem qF.mk'{C x dx:Addr}(h:H x=none)(hd:H dx=none)(ne:dx≠x):qF H C x dx (upd (upd H dx (.own x)) x (.ins C dx [])) :=
 {h,hd,ne,zu,by rw [ze ne,zu],λb u e=>by rw [ze (zz e h),ze (zz e hd)];exact e}
def jV(C:Addr)(sp:Sp)(t:TA):TE:=λσ H Q=>t σ H λvs H1=>∀x dx H2,qF H1 C x dx H2->sp (.ref x::vs) H2 (λv H3=>v = .non/\Q (.ref x) H3) E0
theorem PA.any{es:List O3}{t:TA}(h:PA X es t):PA X es (λσ H Q=>∃R:List V->Hp->Prop,t σ H R/\∀xs H,R xs H->Q xs H):=λpos Go s σ H Q I=>x3e λR q hw=>vS hw h pos Go s σ H I q
theorem jz(G:GC X.prog X.w X.K X.mg X.base cm j x C ps sp)(U:zE cm k X.A)(hg:Gl X x)(z:W (PA X (e::es) t))(hj:j+1<=k:=by decide)(Z:(x==("__debug__":Str))=false:=by decide)(O:aS e=true:=by rfl)(J:dJ es=true:=by rfl):W (PE X (.Call (.Name x p) (e::es) [] pos) (jV C sp t)):=by
 refine {?_};have z:=z.h;obtain ⟨f,fd,F,hm,M,S⟩:=G.ex;intro Go s σ H Q I h;exact Gm M F (U.mono hj) hg hm S .nil jA z.any Z (dP O) (gk J) Go s σ H Q I {_,h,λvs H1 q x dx hx hd ne=>by rw [Qe];exact q x dx _ (.mk' hx hd ne)}
theorem Ah{pos:Pos}(hg:Gl X x)(hm:∃u,X.mg x=some u/\zo v u)(hd:(x==("__debug__":Str))=false:=by decide):PE X (.Name x pos) (tC v):=by
 obtain ⟨u,hm,r⟩:=hm;exact Ec hg hm r hd
theorem eZ{o e:O3}{to te:TE}{ZU cpos:Pos}(G:W (PE X o to))(z:W (PE X e te))
  (Zl:QE o "append" X.env (Qc o X.env)=Qc o X.env:=by rfl)
  (Zk:(ZU.endLine==cpos.line)=true:=by rfl) (hp:aS e=true:=by rfl):W (PE X (.Call (.Attribute o "append" ZU) [e] [] cpos) (AK to te)):=by
 refine {?_};have G:=G.h;have z:=z.h;intro Go s σ H Q I h;have hs:Pb [e] X.env=[(false,Qc e X.env)]:=eR hp;refine Q3 Zl (by rw [hs];rfl) Zk rfl (thn (G Go s σ H _ I h) λv s1=>x5e λx H1 Z r1 U=>?_);obtain ⟨l,ex,⟨xs,hx⟩,q1⟩:=U;subst ex;obtain ⟨h1,h2⟩:=lR (T:="list") Z r1 (.inl {rfl,xs,SqL.of hx});refine {"list","list.append",TX,PySem.F.slot_list_append,PySem.F.type_list_append,h1,h2,?_};rw [hs];refine Calls.callWith_builtin rfl (Calls.evalArgs_plain ?_);have hA:=fu z fz (hs:=hs) cpos Go s1 σ H1 (λys H2=>dj (λy=>∃xs,H2 l=some (.lst xs)/\xs.length<sizeLine/\Q .non (upd H2 l (.lst (xs++[y])))) ys) Z q1;rw [hs] at hA;refine thn hA λus s2=>x5e λvs H2 I2 r2 S=>?_;obtain ⟨y,rfl,O,J,Yd,S⟩:=dj.ex S;exact Ep Go s2 σ H2 (.ref l) [y] v us Q I2 r1 r2 {l,O,y,rfl,rfl,J,Yd,S}
end
section
variable {X:Cx}
def eJ:List V->Hp->VK->Prop:=λxs H Q=>(∃i,xs=[.int i]/\Q (.int i) H)\/∃k,xs=[.bl k]/\Q (.int (if k then 1 else 0)) H
theorem II:zO X (.type "int") eJ:=FJ
def gq:List V->Hp->VK->Prop:=λxs H Q=>∃i,xs=[.int i]/\i.natAbs.log2<1920/\Q (.str (toString i)) H
theorem Kk:zO X (.type "str") gq:=Bw
theorem Hd:eJ [.int i] H Q=Q (.int i) H:=by simp [eJ]
theorem CY{k:Bool}:eJ [.bl k] H Q=Q (.int (if k then 1 else 0)) H:=by simp [eJ]
theorem Ml:gq [.int i] H Q=(i.natAbs.log2<1920/\Q (.str (toString i)) H):=by simp [gq]
def qB:List V->Hp->VK->Prop:=λxs H Q=>∃i j,xs=[.int i,.int j]/\Q (.int (if j>i then j else i)) H
def v9:List V->Hp->VK->Prop:=λxs H Q=>∃i j,xs=[.int i,.int j]/\Q (.int (if j<i then j else i)) H
theorem Ct(z:X.calm=true):zO X (.builtin "max") qB:=G5 z
theorem wm(z:X.calm=true):zO X (.builtin "min") v9:=Oe z
theorem qU:qB [.int i,.int j] H Q=Q (.int (if j>i then j else i)) H:=by
 apply propext;constructor
 .rintro ⟨a,b,e,q⟩;cases e;exact q
 .exact λq=>{i,j,rfl,q}
theorem Mt:v9 [.int i,.int j] H Q=Q (.int (if j<i then j else i)) H:=by
 apply propext;constructor
 .rintro ⟨a,b,e,q⟩;cases e;exact q
 .exact λq=>{i,j,rfl,q}
end
section
variable {Y:Cx}{sc:Scope}{N':List Str}{Go:List (Addr×Obj)}{D:Addr}{fp:List Addr}{s:Ow}{H:Hp}
theorem mI{k:Nat}{t:TGs}(h:W (PGs (zA Y sc N' Go D fp s H) es t))(hl:(Q1 es (zA Y sc N' Go D fp s H).env).length=n:=by rfl)(hst:(Q1 es (zA Y sc N' Go D fp s H).env).findIdx? (·.1)=none:=by rfl):W (PG (zA Y sc N' Go D fp s H) (.Tuple es k pos) (nJ Y.K n t)):=by refine {?_};have h:=h.h;exact uq h hl hst
end
theorem BK{t:TG}:oB t u (v::r) σ H Q=t v σ H λz H'=>u r z H' Q:=by
 apply propext;constructor
 .rintro ⟨v,r,e,h⟩;cases e;exact h
 .exact λh=>{v,r,rfl,h}
theorem CH:uL [] σ H Q=Q σ H:=by
 apply propext;constructor
 .exact λh=>h.2
 .exact λh=>{rfl,h}
section
variable {H:Hp}{Q:VK}{i j:Int}{x y:Str}{a b:Addr}{K:OF}{g:Int->Int->V}{C:Int->Int->Prop}{k c:Bool}{QB:Bool->Hp->Prop}
theorem Aw:dI (.int i) (.int j) H Q=Q (.int (i+j)) H:=by simp [dI]
theorem xK:dI (.str x) (.str y) H Q=(x.length+y.length<=sizeLine/\Q (.str (x++y)) H):=by simp [dI]
theorem oq:dI (.ref a) (.ref b) H Q = ∃xs zs,H a=some (.lst xs)/\H b=some (.lst zs)/\xs.length+zs.length<=sizeLine/\∀p H2,New H p (.lst (xs++zs)) H2->Q (.ref p) H2:=by simp [dI]
theorem vB:fJ (.int i) (.int j) H Q=(hZ i j/\Q (.int (i*j)) H):=by simp [fJ]
theorem LP:fJ (.ref a) (.int i) H Q = ∃xs,H a=some (.lst xs)/\-(2 ^ 63)<=i/\i<2 ^ 63/\xs.length*i.toNat<=sizeLine/\∀p H2,New H p (.lst (Qk i.toNat xs).flatten) H2->Q (.ref p) H2:=by simp [fJ]
theorem jX:uIx (.ref a) (.int i) H Q = ∃xs,(H a=some (.lst xs)\/H a=some (.tup xs))/\∃v,atI xs i=some v/\Q v H:=by
 apply propext;constructor
 .rintro (⟨p,xs,i,v,F,G,h,r⟩|⟨p,xs,i,v,F,G,h,r⟩|⟨z,i,c,e,_⟩)
  .cases F;cases G;exact {xs,.inl h,v,r}
  .cases F;cases G;exact {xs,.inr h,v,r}
  .cases e
 .rintro ⟨xs,h|h,v,r⟩
  .exact .inl {_,xs,_,v,rfl,rfl,h,r}
  .exact .inr (.inl {_,xs,_,v,rfl,rfl,h,r})
theorem y7:uIx (.str x) (.int i) H Q=(x.length<=sizeLine/\∃c,atI x.cps.toList i=some c/\Q (.str {#[c]}) H):=by simp [uIx]
theorem rJ:lA [.ref a] H Q = ∃ys,(H a=some (.lst ys)\/H a=some (.tup ys))/\Q (.int ys.length) H:=by
 apply propext;constructor
 .rintro (⟨p,xs,F,h,r⟩|⟨p,xs,F,h,r⟩|⟨z,e,_⟩)
  .cases F;exact {xs,.inl h,r}
  .cases F;exact {xs,.inr h,r}
  .cases e
 .rintro ⟨xs,h|h,r⟩
  .exact .inl {_,xs,rfl,h,r}
  .exact .inr (.inl {_,xs,rfl,h,r})
theorem AD:lA [.str x] H Q=(x.length<=sizeLine/\Q (.int x.length) H):=by simp [lA]
theorem Ey:rI C g (.int i) (.int j) H Q=(C i j/\Q (g i j) H):=by simp [rI]
theorem AM:rI0 g (.int i) (.int j) H Q=Q (g i j) H:=by simp [rI0]
theorem Nt{g:Int->V}:rU g (.int i) H Q=Q (g i) H:=by simp [rU]
theorem yM:uEq c (.int i) (.int j) H Q=Q (.bl (if c then !decide (i=j) else decide (i=j))) H:=by simp [uEq,gZ]
theorem wG:uEq c (.str x) (.str y) H Q=Q (.bl (if c then !decide (x=y) else decide (x=y))) H:=by simp [uEq,gZ]
theorem ui:uEq c (.bl k) (.bl k') H Q=Q (.bl (if c then !decide (k=k') else decide (k=k'))) H:=by simp [uEq,gZ]
theorem wo:uEq c (.ref a) (.ref b) H Q = ∃xs ys,H a=some (.lst xs)/\H b=some (.lst ys)/\xs.all ah=true/\ys.all ah=true/\Q (.bl (if c then !eqL xs ys else eqL xs ys)) H:=by simp [uEq,gZ]
def fW(K:OF)(v:V)(H:Hp)(Q:Bool->Hp->Prop):Prop:=∃k,fY K v H k/\Q k H
theorem Md:fW K (.bl k) H QB=QB k H:=by simp [fW,fY]
theorem Nz:fW K .non H QB=QB false H:=by simp [fW,fY]
theorem Gb:fW K (.int i) H QB=QB (i != 0) H:=by simp [fW,fY]
theorem CO:xM K ta σ H QB=ta σ H λx H'=>fW K x H' QB:=rfl
def uB(v:V)(q:Bool->Prop):Prop:=∃c,v = .bl c/\q c
theorem DD:uB (.bl k) q=q k:=by simp [uB]
theorem Fb{t:TE}:oJ t σ H QB=t σ H λx H1=>uB x λc=>QB c H1:=rfl
theorem Gh{t u:TE}:n0 t u σ H Q=t σ H λx H1=>uB x λc=>if c=true then u σ H1 Q else Q (.bl false) H1:=rfl
theorem Et{t u:TE}:vR t u σ H Q=t σ H λx H1=>uB x λc=>if c=true then Q (.bl true) H1 else u σ H1 Q:=rfl
theorem FA{t:TE}:nR t σ H Q=t σ H λx H1=>uB x λc=>Q (.bl (!c)) H1:=rfl
theorem KI:AL r r' ta tb tc σ H Q=ta σ H λx H1=>tb σ H1 λy H2=>r x y H2 λz H3=>uB z λk=>if k=true then tc σ H3 λw' H4=>r' y w' H4 Q else Q (.bl false) H3:=rfl
theorem sQ:uR (.ref a) q=q a:=by simp [uR]
theorem Nr{C:Addr}:mJ C ta f σ H Q=ta σ H λx H1=>uR x λa=>∃dx fs v,H1 a=some (.ins C dx fs)/\fs.lookup f=some v/\Q v H1:=by
 unfold mJ uR;congr;funext x H1;apply propext;constructor
 .rintro ⟨a,dx,fs,v,h1,h2,h3,h4⟩;exact ⟨a,h1,dx,fs,v,h2,h3,h4⟩
 .rintro ⟨a,h1,dx,fs,v,h2,h3,h4⟩;exact ⟨a,dx,fs,v,h1,h2,h3,h4⟩
theorem HR{C:Addr}{ta tv:TE}:jU C ta tv f D σ H=tv σ H λy H1=>ta σ H1 λx H2=>uR x λa=>∃dx fs,H2 a=some (.ins C dx fs)/\fs.length<1000/\D.nx σ (upd H2 a (.ins C dx (zG f y fs))):=by
 unfold jU uR;congr;funext x H1;congr;funext x2 H2;apply propext;constructor
 .rintro ⟨a,dx,fs,h1,h2,h3,h4⟩;exact ⟨a,h1,dx,fs,h2,h3,h4⟩
 .rintro ⟨a,h1,dx,fs,h2,h3,h4⟩;exact ⟨a,dx,fs,h1,h2,h3,h4⟩
theorem IJ{C:Addr}{t:TA}:fP C m sp YY E ta t σ H Q=ta σ H λx H1=>uR x λa=>∃dx fs,H1 a=some (.ins C dx fs)/\fs.lookup m=none/\t σ H1 λvs H2=>sp (.ref a::(vs++YY)) H2 Q E:=by
 unfold fP uR;congr;funext x H1;apply propext;constructor
 .rintro ⟨a,dx,fs,rfl,h2,h3,h4⟩;exact {a,rfl,dx,fs,h2,h3,h4}
 .rintro ⟨a,rfl,dx,fs,h2,h3,h4⟩;exact {a,dx,fs,rfl,h2,h3,h4}
end
section
variable {K:OF}{g:TG}{tb:TS}{D:bb}{σ:St}{H:Hp}{ta:TA}{tl:TE}{wi:TI}{R:It->Hp->Prop}{j:Int}{tt:TT}{te:TE}{ix:List (Option Nat)}{Q:VK}
def aC(J:It)(g:TG)(tb:TS)(D:bb)(σ:St)(H:Hp):Prop:=∃W:Nat->Nat->St->Hp->Prop,(∃m,W 0 m σ H)/\∀i m σ H,W i m σ H ->
 (J.stop i H/\D.nx σ H)\/(J.go i H/\∃N:St->Hp->Prop,(∀z H',N z H'->∃G,G<m/\W (i+1) G z H')/\∀x H',J.aH i H x H'->g x σ H' λF H2=>tb { D with nx:=N,ct:=N,bk:=D.nx } F H2)
theorem BF:yE wi g tb D σ H=wi σ H λJ H1=>aC J g tb D σ H1:=rfl
def uI1(vs:List V)(q:Int->Prop):Prop:=∃j,vs=[.int j]/\q j
theorem Hk:uI1 [.int j] q=q j:=by simp [uI1]
theorem Lg:qY ta σ H R=ta σ H λvs H1=>uI1 vs λj=>-(2 ^ 62)<=j/\j<2 ^ 62/\R (Itr 0 j.toNat) H1:=rfl
theorem Di:qp K tl σ H R=tl σ H λx H1=>uR x λa=>(∃xs,SqL K H1 a xs)/\R (Itl K a) H1:=rfl
theorem Ck:jv K tl σ H R=tl σ H λx H1=>uR x λa=>(∃xs,SqT K H1 a xs)/\R (Itt K a) H1:=rfl
def uR2(vs:List V)(q:Addr->Addr->Prop):Prop:=∃a b,vs=[.ref a,.ref b]/\q a b
theorem J9:uR2 [.ref a,.ref b] q=q a b:=by
 apply propext;constructor
 .rintro ⟨c,d,e,h⟩;cases e;exact h
 .exact λh=>{a,b,rfl,h}
def aN(J:It)(g:TG)(tt:TT)(te:TE)(τ:St)(H:Hp)(Q:VK):Prop:=∃W:Nat->Nat->St->List V->Hp->Prop,(∃m,W 0 m τ [] H)/\∀i m τ ys H2,W i m τ ys H2->ys.length<sizeLine /\
 ((J.stop i H2 ∧ ∀ D, H2 D = none → D ≠ sysModules → Q (.ref D) (upd H2 D (.lst ys))) ∨
  (J.go i H2 ∧ ∀ x H3, J.aH i H2 x H3 → g x τ H3 fun z H4 => tt z H4 fun ok H5 => if ok = true then te z H5 fun y H6 => ∃ F, F < m ∧ W (i + 1) F z (ys ++ [y]) H6 else ∃ F, F < m ∧ W (i + 1) F z ys H5))
theorem Cv:tLC ix wi g tt te σ H Q=wi σ H λJ H1=>aN J g tt te (cz ix σ) H1 Q:=rfl
theorem aC.rng{lo:Int}(z:Nat->St->Hp->Prop)(G:z 0 σ H)(hs:∀i σ H,i<n->z i σ H->g (.int (lo+i)) σ H λF H2=>tb { D with nx:=z (i+1),ct:=z (i+1),bk:=D.nx } F H2)(hd:∀σ H,z n σ H->D.nx σ H):aC (Itr lo n) g tb D σ H:=Nq z G hs hd
theorem aC.lst{a:Addr}{xs:List V}(z:Nat->St->Hp->Prop)(G:z 0 σ H)(hl:∀i σ H,i<=xs.length->z i σ H->SqL K H a xs)
  (hs:∀i x σ H,xs[i]?=some x->z i σ H->g x σ H λF H2=>tb { D with nx:=z (i+1),ct:=z (i+1),bk:=D.nx } F H2) (hd:∀σ H,z xs.length σ H->D.nx σ H):aC (Itl K a) g tb D σ H:=MQ z G hl hs hd
def eK(N:St->List V->Hp->Prop)(ys:List V)(z:St)(te:TE)(ok:Bool)(H5:Hp):Prop:=if ok=true then te z H5 λy H6=>N z (ys++[y]) H6 else N z ys H5
theorem KA:eK N ys τ te true H=te τ H λy H6=>N τ (ys++[y]) H6:=rfl
theorem MW:eK N ys τ te false H=N τ ys H:=rfl
theorem aN.rng{lo:Int}(F:Nat->St->List V->Hp->Prop)(hz:∀i τ ys H,F i τ ys H->ys.length<sizeLine)(S:F 0 τ [] H)(hs:∀(N:St->List V->Hp->Prop) i τ ys H,i<n->F i τ ys H->(∀τ ys H,F (i+1) τ ys H->N τ ys H)->g (.int (lo+i)) τ H λz H4=>tt z H4 λok H5=>eK N ys z te ok H5)(hd:∀τ ys H,F n τ ys H->∀D H',New H D (.lst ys) H'->Q (.ref D) H'):aN (Itr lo n) g tt te τ H Q:=by
 refine {λi m τ ys H=>m=n-i/\i<=n/\F i τ ys H,{n,'z',Qs _,S},?_};rintro i m τ ys H2 ⟨rfl,hi,p⟩;refine {hz i τ ys H2 p,?_};by_cases G:i<n
 .refine .inr {G,λx H' y=>?_};obtain ⟨e,y⟩:=y;subst e y;exact hs (λz ys H=>∃J,J<n-i/\J=n-(i+1)/\i+1<=n/\F (i+1) z ys H) i τ ys _ G p λz zs H q=>{n-(i+1),'l',rfl,G,q}
 .have e:i=n:=by lia
  subst e;exact .inl {Ox _,λD O _=>hd τ ys H2 p D _ (.mk' O)}
end
section
variable {X:Cx}
def mh:V->Option Int->Option Int->Hp->VK->Prop:=λx lo hi H Q=>∃z,x = .str z/\z.length<=sizeLine/\Q (.str (Txt.slice z lo hi)) H
theorem B7{h:Heap}{lo hi:Option Int}(hs:h.IsSliceOf sl z G .none)(pl:Tf z lo)(F:Tf G hi):∃l u:Option (Int×Tok),h.IsSlice sl l u none/\l.map (·.1)=lo/\u.map (·.1)=hi:=by
 obtain ⟨o,h1,h2,h3⟩:=hs;cases pl with
 | none =>
  cases F with
  | none=>exact {none,none,⟨o,h1,h2,h3⟩,rfl,rfl}
  | int j t=>exact {none,some (j,t),⟨o,h1,h2,h3⟩,rfl,rfl}
 | int i t' =>
  cases F with
  | none=>exact {some (i,t'),none,⟨o,h1,h2,h3⟩,rfl,rfl}
  | int j t=>exact {some (i,t'),some (j,t),⟨o,h1,h2,h3⟩,rfl,rfl}
theorem LU:SlR X mh:=by
 intro Go s σ H x v W Z lo hi sl Q I U hs pl G h;obtain ⟨z,rfl,hz,q⟩:=h;obtain ⟨t,rfl⟩:=U;obtain ⟨l,u,S,J,O⟩:=B7 hs pl G;subst J O;exact {"str",_,F.slot_str_getitem.lookup,Sn _ _ _,wpAny_getItem_str_slice (l:=l) (u:=u) (st:=none) S rfl
  (post_val_or_str {PX (Txt.slice_le z _ _) hz,λt' k=>{.str _,H,I.tok k,{_,rfl},q}})}
def uSl:V->Option Int->Option Int->Hp->VK->Prop:=λx lo hi H Q=>(∃a xs,x = .ref a/\H a=some (.lst xs)/\∀p H2,New H p (.lst (bj xs lo hi)) H2->Q (.ref p) H2)\/mh x lo hi H Q
theorem SlR.weak(h:SlR X r)(hw:∀x l u H Q,r' x l u H Q->r x l u H Q):SlR X r' :=
 λGo s σ H x v z J lo hi sl Q I G hs pl F q=>h Go s σ H x v z J lo hi sl Q I G hs pl F (hw _ _ _ _ _ q)
theorem dU:SlR X uSl:=((Lk (X:=X)).or LU).weak λx l u H Q h=>by
 rcases h with ⟨a,xs,e,h,q⟩|h
 .exact .inl {a,xs,e,SqL.of h,λp z=>q p _ (.mk' z)}
 .exact .inr h
def rZ(v:V)(q:Int->Prop):Prop:=∃i,v = .int i/\q i
theorem NV:rZ (.int i) q=q i:=by simp [rZ]
theorem MN{t:TE}:tf t σ H Q=t σ H λx H1=>rZ x λi=>Q (some i) H1:=rfl
theorem yp{lo hi:Option Int}:uSl (.str z) lo hi H Q=(z.length<=sizeLine/\Q (.str (Txt.slice z lo hi)) H):=by simp [uSl,mh]
theorem AC{lo hi:Option Int}:uSl (.ref a) lo hi H Q = ∃xs,H a=some (.lst xs)/\∀p H2,New H p (.lst (bj xs lo hi)) H2->Q (.ref p) H2:=by simp [uSl,mh]
theorem G0:∀{us:List Value},zt (ys.map V.str) us->StrsAre us ys:=by
 induction ys with
 | nil=>intro us r;rw [map_nil] at r;cases r;exact .nil
 | cons n ns F =>
  intro us r;rw [Pf] at r;cases r with
  | cons z G =>
   obtain ⟨t,e⟩:=z;subst e;exact .cons n t (F G)
def jf:V->List V->Hp->VK->Prop:=λx vs H Q=>∃z p ys,x = .str z/\vs=[.ref p]/\H p=some (.lst (ys.map V.str))/\(ys.map (·.length)).sum+ys.length*z.length<=16777216/\Q (.str (Txt.join z ys)) H
theorem Cf:MtR X "str.join" jf:=by
 intro Go s σ H x xs v us Q I S rs h;obtain ⟨z,p,ys,rfl,rfl,F,hz,q⟩:=h;obtain ⟨t,rfl⟩:=S;cases rs with
 | cons O J =>
  cases J;cases (show _=OU p from O);obtain ⟨its,r,G,_⟩:=I.list (SqL.of (K:=X.K) F);exact join_list G.isList (by simpa using G0 r) hz λt' k=>{.str _,H,I.tok k,{_,rfl},q}
def jw(z:Str)(n:Nat):Str:={((Qk n z.cps.toList).flatten).toArray}
theorem AQ{α:Type}(l:List α):∀(n:Nat)(ZT:List α),foldl (λz F:Array α=>z++F) ZT.toArray (Qk n l.toArray)=(ZT++(Qk n l).flatten).toArray
 | 0,ZT=>by simp
 | n+1,ZT=>by
  rw [Q9,Uc,List.append_toArray,AQ l n (ZT++l)];simp [Q9]
theorem HY(z:Str)(n:Nat):({(Qk n z.cps).foldl (·++·) #[]}:Str)=jw z n:=by
 have h:=AQ z.cps.toList n [];unfold jw;congr 1
theorem iY{α:Type}(l:List α):∀n:Nat,((Qk n l).flatten).length=l.length*n
 | 0=>by simp
 | n+1=>by rw [Q9,RT,Pa,iY l n,Nat.mul_succ];lia
theorem LH(z:Str)(n:Nat):(jw z n).length=z.length*n:=by
 show (((Qk n z.cps.toList).flatten).toArray).size=_;rw [OZ,iY];rfl
def jl:R2:=λx y H Q=>∃z n,x = .str z/\y = .int n/\1<n/\n<2 ^ 31/\z.length≠0/\z.length*n.toNat<=sizeLine/\Q (.str (jw z n.toNat)) H
theorem C8:OpR X (QP .Mult) jl:=by
 intro Go s σ H x y v u Q I J G h;obtain ⟨z,n,rfl,rfl,h1,h2,h3,h4,q⟩:=h;obtain ⟨t,rfl⟩:=J;obtain ⟨t',rfl⟩:=G;have hs:sizeLine=16777216:=Qa;have O:(n==1||z.length==0)=false:=by
  rw [Bool.or_eq_false_iff];exact {beq_eq_false_iff_ne.mpr 'l',beq_eq_false_iff_ne.mpr h3}
 have hz:z.length<=16777216:=by
  have:z.length*1<=z.length*n.toNat:=Nat.mul_le_mul_left _ 'l';lia
 refine PySem.P.mul_str ?_ ?_ ?_ ?_
 .rw [decide_eq_false (show ¬ n < -(2 ^ 63:Int) by lia),decide_eq_false (show ¬ n ≥ 2 ^ 63 by lia)];rfl
 .intro _ _ F;have:(16777216:Int)<=(2 ^ 63-1) / n:=Int.le_ediv_of_mul_le 'l' 'l';lia
 .intro _ _;exact decide_eq_false 'l'
 .rw [if_neg (show ¬ n<1 by lia),if_neg (by rw [O];exact OW),HY];exact {by rw [LH];lia,{.str _,H,I.tok _,{_,rfl},q}}
theorem Ax{p:Addr}{k:Int}:oO (.ref p) (.int k) v H Q = ∃xs j,H p=some (.lst xs)/\ixN xs.length k=some j/\Q (upd H p (.lst (xs.set j v))):=by
 apply propext;constructor
 .rintro ⟨G,xs,k',j,z,F,h⟩;cases z;cases F;exact ⟨xs,j,h⟩
 .rintro ⟨xs,j,h⟩;exact {p,xs,k,j,rfl,rfl,h}
def Be:List V->Hp->VK->Prop:=λxs H Q=>∃p ys,xs=[.ref p]/\(H p=some (.lst ys)\/H p=some (.tup ys))/\∀l H2,New H l (.lst ys) H2->Q (.ref l) H2
theorem K6:zO X (.type "list") Be:=Ka.weak λxs H Q h=>by
 obtain ⟨p,ys,e,h1,q⟩:=h;exact {p,ys,e,h1.elim (λh=>.inl (SqL.of h)) (λh=>.inr (SqT.of h)),λl hl=>q l _ (.mk' hl)}
theorem ua:Be [.ref a] H Q = ∃ys,(H a=some (.lst ys)\/H a=some (.tup ys))/\∀l H2,New H l (.lst ys) H2->Q (.ref l) H2:=by
 apply propext;constructor
 .rintro ⟨p,ys,e,h⟩;cases e;exact ⟨ys,h⟩
 .rintro ⟨ys,h⟩;exact {a,ys,rfl,h}
theorem mq{p:Addr}:jf (.str z) [.ref p] H Q = ∃ys:List Str,H p=some (.lst (ys.map V.str))/\(ys.map (·.length)).sum+ys.length*z.length<=16777216/\Q (.str (Txt.join z ys)) H:=by
 apply propext;constructor
 .rintro ⟨O,J,ys,F,G,h⟩;cases F;cases G;exact ⟨ys,h⟩
 .rintro ⟨ys,h⟩;exact {z,p,ys,rfl,rfl,h}
end
section
variable {K:OF}{g:TG}{tb:TS}{D:bb}{σ:St}{H:Hp}{ta:TA}{R:It->Hp->Prop}
def uR1(vs:List V)(q:Addr->Prop):Prop:=∃a,vs=[.ref a]/\q a
theorem eI:uR1 [.ref a] q=q a:=by
 apply propext;constructor
 .rintro ⟨c,e,h⟩;cases e;exact h
 .exact λh=>{a,rfl,h}
end
section
variable {X:Cx}
def A5(C:Addr)(ta tv:TE)(G:V->V->Hp->VK->Prop)(f:Str):TS:=λD σ H=>ta σ H λx H1=>uR x λa=>∃dx fs v,H1 a=some (.ins C dx fs)/\fs.lookup f=some v /\
 tv σ H1 λy H2=>G v y H2 λz H3=>∃F fs',H3 a=some (.ins C F fs')/\fs'.length<1000/\D.nx σ (upd H3 a (.ins C F (zG f z fs')))
theorem qJ{o ZF:O3}{ta tv:TE}(c:Cls X.K C)(n:bu X.K C f)(G:W (PE X o ta))(hv:W (PE X ZF tv))(F:ni X O S):W (PS X (.AugAssign (.Attribute o f tpos) O ZF pos) (A5 C ta tv S f)):=by
 refine {?_};have G:=G.h;have hv:=hv.h;intro Go s σ H D I h;refine wpAny_AugAssign_AttributeAny (thn (G Go s σ H _ I h) λov s1=>x5e λx H1 I1 rx Yo=>?_);obtain ⟨a,ex,dx,fs,v,ea,l,q⟩:=Yo;subst ex;obtain rfl:ov=OU a:=rx;refine AJ I1 ea c n l λu s2 I2 ru=>thn (hv Go s2 σ H1 _ I2 q) λw3 s3=>x5e λy H2 Z ry q3=>thn (F Go s3 σ H2 v y u w3 _ Z ru ry q3) λw4 s4=>x5e λz H3 I4 rz U=>?_;obtain ⟨ab,fs',J,l',q4⟩:=U;exact xO I4 J c n l' rz λs5 I5=>{σ,_,I5,q4}
theorem Og:ou (.int i) (.int j) H Q=Q (.int (i+j)) H:=by simp [ou]
theorem Js:sL (.int i) (.int j) H Q=Q (.int (i-j)) H:=by simp [sL]
def dX(neg:Bool):R2:=λx y H Q=>y = .non/\Q (.bl (if neg then !decide (x = .non) else decide (x = .non))) H
theorem pQ:OpR X (P8 .Is) (dX false):=JM.weak λx y H Q h=>{h.1,by simpa using h.2}
theorem jH:OpR X (P8 .IsNot) (dX true):=EF.weak λx y H Q h=>{h.1,by simpa using h.2}
theorem Dt:dX c .non .non H Q=Q (.bl (if c then false else true)) H:=by simp [dX]
theorem Hg:dX c (.int i) .non H Q=Q (.bl (if c then true else false)) H:=by simp [dX]
def gD:R2:=λx y H Q=>fJ x y H Q\/jl x y H Q
theorem kq:OpR X (QP .Mult) gD:=JY.or C8
theorem NN:gD (.int i) (.int j) H Q=(hZ i j/\Q (.int (i*j)) H):=by simp [gD,vB,jl]
theorem BG:gD (.ref a) (.int i) H Q=fJ (.ref a) (.int i) H Q:=by simp [gD,jl]
theorem NH:gD (.str z) (.int i) H Q=(1<i/\i<2 ^ 31/\z.length≠0/\z.length*i.toNat<=sizeLine/\Q (.str (jw z i.toNat)) H):=by
 simp [gD,fJ,jl]
def uS(v:V)(q:Str->Prop):Prop:=∃z,v = .str z/\q z
theorem pY:uS (.str z) q=q z:=by simp [uS]
def x6(to te:TE):TE:=λσ H Q=>to σ H λx H1=>uS x λz=>te σ H1 λy H2=>jf (.str z) [y] H2 Q
theorem jG{o e:O3}{to te:TE}(J:W (PE X o to))(G:W (PE X e te))(Zl:QE o "join" X.env (Qc o X.env)=Qc o X.env:=by rfl)(Zk:(ZU.endLine==cpos.line)=true:=by rfl)(hp:aS e=true:=by rfl):W (PE X (.Call (.Attribute o "join" ZU) [e] [] cpos) (x6 to te)):=by
 refine {?_};have J:=J.h;have G:=G.h;intro Go s σ H Q I h;have hs:Pb [e] X.env=[(false,Qc e X.env)]:=eR hp;refine Q3 Zl (by rw [hs];rfl) Zk rfl (thn (J Go s σ H _ I h) λv s1=>x5e λx H1 U r1 S=>?_);obtain ⟨z,ex,q1⟩:=S;subst ex;obtain ⟨h1,h2⟩:=lR (T:="str") U r1 rfl;refine {"str","str.join",PySem.F.plainAttrs_str,PySem.F.slot_str_join,PySem.F.type_str_join,h1,h2,?_};rw [hs];refine Calls.callWith_builtin rfl (Calls.evalArgs_plain ?_);have Z:=fu G fz (hs:=hs) cpos Go s1 σ H1 (λys H2=>dj (λy=>jf (.str z) [y] H2 Q) ys) U q1;rw [hs] at Z;refine thn Z λus s2=>x5e λvs H2 I2 r2 O=>?_;obtain ⟨y,rfl,O⟩:=dj.ex O;exact Cf Go s2 σ H2 (.str z) [y] v us Q I2 r1 r2 O
end
section
variable {K:OF}{g:TG}{tb:TS}{D:bb}{σ:St}{H:Hp}{ta:TA}{tl:TE}{wi:TI}{R:It->Hp->Prop}{j:Int}{tt:TT}{te:TE}{ix:List (Option Nat)}{Q:VK}
theorem aN.lst{a:Addr}{xs:List V}{τ:St}(F:Nat->St->List V->Hp->Prop)(hz:∀i τ ys H,F i τ ys H->ys.length<sizeLine)(O:∀i τ ys H,F i τ ys H->SqL K H a xs)(U:F 0 τ [] H)
  (hs:∀(N:St->List V->Hp->Prop) i x τ ys H,xs[i]?=some x->F i τ ys H->(∀τ ys H,F (i+1) τ ys H->N τ ys H)->g x τ H λz H4=>tt z H4 λok H5=>eK N ys z te ok H5) (hd:∀τ ys H,F xs.length τ ys H->∀D H',New H D (.lst ys) H'->Q (.ref D) H'):aN (Itl K a) g tt te τ H Q:=by
 refine {λi m τ ys H=>m=xs.length-i/\i<=xs.length/\F i τ ys H,{xs.length,'z',Qs _,U},?_};rintro i m τ ys H2 ⟨rfl,hi,p⟩;refine {hz i τ ys H2 p,?_};have q:=O i τ ys H2 p;by_cases G:i<xs.length
 .refine .inr {{xs,xs[i],q,by simp [G]},λx H' y=>?_};obtain ⟨e,y⟩:=y;subst e;exact hs (λz ys H=>∃J,J<xs.length-i/\J=xs.length-(i+1)/\i+1<=xs.length/\F (i+1) z ys H) i x τ ys _ (y xs q) p λz zs H q=>{xs.length-(i+1),'l',rfl,G,q}
 .have e:i=xs.length:=by lia
  subst e;exact .inl {{xs,q,Ox _},λD S _=>hd τ ys H2 p D _ (.mk' S)}
def uM(t:TS):TS:=λD σ H=>∃z:St->Hp->Prop,t { D with nx:=z } σ H/\∀F H',z F H'->D.nx F H'
theorem hU{st:Stmt}{t:TS}(h:W (PS X st t)):W (PS X st (uM t)):=by
 refine {?_};have h:=h.h;exact λGo s σ H D I hw=>by
  obtain ⟨F,h1,h2⟩:=hw;refine thn (h Go s σ H _ I h1) λf s1 q=>?_;cases f with
  | next=>obtain ⟨z,H',G,q⟩:=q;exact {z,H',G,h2 _ _ q}
  | ret v=>exact q
  | brk=>exact q
  | cont=>exact q
theorem kC{t:TS}{D:bb}{σ:St}{H:Hp}:uM t D σ H = ∃z:St->Hp->Prop,t { D with nx:=z } σ H/\∀F H',z F H'->D.nx F H':=rfl
end
section
variable {X:Cx}
theorem zd  : W (PA X [] dr):=⟨fz ⟩
theorem zm(i:Nat)(hN:X.N[i]?=some x:=by rfl)(hv:Vis X.env.scope x:=by first|exact OO rfl|exact RU (OO rfl)|exact RU (RU rfl))(hd:(x==("__debug__":Str))=false:=by decide)(hcd:(x==("__classdict__":Str))=false:=by decide):W (PE X (.Name x pos) (f9 i)):={pv (i:=i) (hN:=hN) (hv:=hv) (hd:=hd) (hcd:=hcd)}
theorem cL(hg:Gl X x)(hm:∃u,X.mg x=some u/\zo v u)(hd:(x==("__debug__":Str))=false:=by decide):W (PE X (.Name x pos) (tC v)):={Ah (hg:=hg) (hm:=hm) (hd:=hd)}
theorem zq{i j pos}:W (PE X (.Constant (.int i) j pos) (tC (.int i))):=⟨yD ⟩
theorem zC(hN:X.N.Nodup)(hi:X.N[i]?=some x)(hx:Loc X.env.scope x)(hf:X.fn x=true\/X.env.scope.names.lookup x=some .local:=by first|exact .inl rfl|exact .inr rfl|assumption):W (PG X (.Name x pos) (cN i)):={nQ (hN:=hN) (hi:=hi) (hx:=hx) (hf:=hf)}
theorem fV{X:Cx}{k:Nat}{t:TGs}(h:W (PGs X es t))(hl:(Q1 es X.env).length=n:=by rfl)(hst:(Q1 es X.env).findIdx? (·.1)=none:=by rfl):W (PG X (.Tuple es k pos) (nJ X.K n t)):={uq (h:=h.h) (hl:=hl) (hst:=hst)}
theorem ME(hl:W (PE X l tl)):W (PI X tg l (jv X.K tl)):={A0 (hl:=hl.h)}
theorem eX{t:TT}(h:W (PW X e t)):W (PT X e t):={PW.pt h.h}
end
def asc(z:Str):Bool:=z.cps.all (· < 128)
def Its(z:Str):It:={λi _=>i<z.cps.size,λi H x H'=>H'=H/\∃c,z.cps[i]?=some c/\x = .str {#[c]},λi _=>z.cps.size<=i}
theorem NZ{P:OL}{w:O1}{K:OF}{tg:O3}(z:Str)(it:Addr):dW true P w K tg (Its z) [it] it (λi h=>∃t,h.IsStrIter it "str_ascii_iterator" z t i) where
 mem:=by simp
 obj:=λi h st b F=>by
  have e:b=it:=by simpa using F
  subst e;obtain ⟨t,o,e,c,d⟩:=st;exact {o,e,λv z=>by rw [d] at z;cases z}
 keep:=λi h h' st k=>by
  obtain ⟨t,o,e,r⟩:=st;exact {t,o,k it 'z' o e,r}
 item:=by
  intro X U hw G Z i Go s σ H E I hf st hg;subst U hw G;obtain ⟨t,st⟩:=st;obtain ⟨f0,S,f2,J,W,O⟩:=hf it 'z';have hi:i<z.cps.size:=hg;refine wpAny_pyNext_ascii_item st (c:=z.cps[i]) (by simp [hi]) λh' Yw sb=>?_;have I1:Inv X Go σ H { s with heap:=h',toks:=s.toks+1 }:=I.turned (λb o F e=>(sb.2 b F).trans e) f0 S J W O;obtain ⟨o,e,c,d⟩:=id Yw;exact {_,rfl,hG (s:={ s with heap:=h',toks:=s.toks+1 }) e c d 'd' {.str {#[z.cps[i]]},H,I1,{_,rfl},{rfl,_,by simp [hi],rfl},⟨t,Yw⟩,λb F=>(hf b F).1}}
 done:=by
  intro X U hw G Z i Go s σ H E I hf st hg;subst U hw G;obtain ⟨t,st⟩:=st;obtain ⟨f0,S,f2,J,W,O⟩:=hf it 'z';have hi:z.cps.size<=i:=hg;exact wpAny_pyNext_ascii_end (I.ok.hd (Z rfl)) st (by simp [hi]) λh' eb=>{rfl,I.turned (t':=s.toks) (λb o F e=>eb b o F e) f0 S J W O}
 self:=λ_ _ _ _ _ st h=>by
  obtain ⟨t,st⟩:=st;exact wpAny_pyIter_striter_ascii st h
section
variable {X:Cx}{tg:O3}
def A1(tl:TE):TI:=λσ H R=>tl σ H λx H1=>uS x λz=>asc z=true/\R (Its z) H1
theorem IY:A1 tl σ H R=tl σ H λx H1=>uS x λz=>asc z=true/\R (Its z) H1:=rfl
theorem Gr(hl:W (PE X l tl)):W (PIc true X tg l (A1 tl)):=by
 refine {?_};have hl:=hl.h;intro Go s σ H R I h;refine thn (hl Go s σ H _ I h) λv s1=>x5e λx H1 F S G=>?_;obtain ⟨z,e,J,q⟩:=G;subst e;obtain ⟨t,rfl⟩:=S;refine wpAny_pyIter_ascii J ?_;refine {s1.heap.objs.size,[s1.heap.objs.size],_,_,H1,rfl,F.kept (t':=s1.toks) λb o e=>Oy _ e,NZ z _,{t,_,OM _ rfl,rfl,rfl},λb O=>?_,q};have e:b=s1.heap.objs.size:=by simpa using O
 subst e;exact F.UL (Ox _) (F.hok.fresh (Ox _))
end
theorem Draws.later{prog:OL}{w:O1}{A:O0}{it:Addr}{fp:List Addr}{n k:Nat}{P:Nat->Value->Prop}{St:Nat->Heap->Prop}(D:Draws prog w A it fp n P St) :
  Draws prog w A it fp (n+k) (λi v=>P (i-k) v) (λi h=>k<=i/\St (i-k) h) where
 live:=λ_ _ st=>D.live _ _ st.2
 frame:=λ_ _ _ st G=>{st.1,D.frame _ _ _ st.2 G}
 item:=λi s Q E hi st F=>D.item (i-k) s Q E (by have:=st.1;lia) st.2 λx h' tk p z sb=>F x h' tk p {by have:=st.1;lia,by
  have e:i+1-k=i-k+1:=by have:=st.1;lia
  rw [e];exact z} sb
 done:=λs Q E st J=>D.done s Q E (by
  have e:n+k-k=n:=by lia
  have:=st.2;rwa [e] at this) J
def jm(z:Str)(k:Nat):It :=
 {λi _=>i<z.cps.size,λi H v H'=>∃T c,H T=none/\v = .ref T/\z.cps[i]?=some c/\H'=upd H T (.tup [.int ((i:Nat)+k:Nat),.str {#[c]}]),λi _=>i=z.cps.size}
structure Jk(e it:Addr)(z:Str)(k i:Nat)(h:Heap):Prop where
 en:∃old,IsEnum h e it ((i+k:Nat):Int) old
 a:∃t,h.IsStrIter it "str_ascii_iterator" z t i
theorem M8{P:OL}{w:O1}{K:OF}{Yu:List O3}{kk:Nat}{tp:Pos}{z:Str}{k:Nat}{e it:Addr}(Ys:e≠it) :
  dW true P w K (.Tuple Yu kk tp) (jm z k) [e,it] e (Jk e it z k) where
 mem:=by simp
 obj:=λi h st b F=>by
  obtain ⟨⟨old,J⟩,⟨t,o4,G,_,d4⟩⟩:=st;simp only [OH,Pc,or_false] at F;rcases F with rfl|rfl
  .exact {_,J,λv q=>nomatch q}
  .exact {_,G,λv q=>by rw [d4] at q;cases q}
 keep:=λi h h' st k=>by
  obtain ⟨⟨old,J⟩,⟨t,o,G,r⟩⟩:=st;exact {{old,k _ 'z' _ J},t,o,k _ 'z' o G,r}
 item:=by
  intro X hP hw hK S i Go s σ H E I hf st hg;subst hP hw hK;obtain ⟨⟨old,J⟩,⟨t,G⟩⟩:=st;have hi:i<z.cps.size:=hg;have W0:=I.ok.hd (S rfl);have D:=Draws.later (k:=k) (Draws.strAscii (prog:=X.prog) (w:=X.w) (A:=X.A.in1) W0 it z t);refine wpAny_pyNext_enum_itemD D J (i:=i+k) {'l',by rw [Nat.add_sub_cancel];exact G} 'l' Ys (by simpa using Ys) λx h' tk px b1 W b3 b4 b5=>?_;obtain ⟨c,u,Z,rfl⟩:=px;rw [Nat.add_sub_cancel] at Z;refine {_,rfl,wpAny_letOwnedTupleGo_enum (s:={ s with heap:=h',toks:=tk+1 }) b1 λh2 c1 c2=>?_};have ab:e<s.heap.objs.size:=O4 J;have nz:s.heap.objs.size≠e:=Rp ab;have all:∀c o,c≠e->c≠it->s.heap.get? c=some o->h2.get? c=some o:=λc o n1 n2 q=>c2.extBut c o n1 (b5 c o n1 n2 q);have tT:h2.get? s.heap.objs.size=some { cls:=.type "tuple",data:=.seq #[.int ((i+k:Nat):Int) tk,.str {#[c]} u] }:=c2.extBut _ _ nz b3;have YK:H s.heap.objs.size=none:=I.hok.fresh (Ox _);have ai:HOk X.prog X.w H h2:=λb u U=>by
   refine (I.hok b u U).UE (λc v S q=>?_) (λ_ q=>q) λ_ _ q=>q;have O:∀d∈[e,it],c≠d:=λd hd w=>by
    have fd:=(hf d hd).1;rcases S with k|k
    .rw [k] at w;rw [w,fd] at U;cases U
    .rw [w,fd] at k;cases k
   exact all c v (O e 'z') (O it 'z') q
  have ar:∀b o,s.heap.get? b=some o->b≠s.heap.objs.size:=λb o e=>Pr (O4 e);have I2:Inv X Go σ (upd H s.heap.objs.size (.tup [.int ((i+k:Nat):Int),.str {#[c]}])) { s with heap:=h2,toks:=tk+1 }:=by
   refine I.step (g':=s.gens) (d':=s.drawn) (t':=tk+1) (ch:=[e,it]) (λb F=>?_) (λb o _ _ F q _=>?_) (λb o _ _ F q _=>?_) (λb o _ q n=>?_) (λb o F q=>?_) (λb ps q=>?_) (λb o u q=>?_) (λb ps q=>?_) (λm hm=>?_) (ai.add YK ?_) I.bare
   .obtain ⟨f0,f1,f2,f3,f4,f5⟩:=hf b F;exact ⟨f3,f1,f4,f5⟩
   .simp only [OH,Pc,or_false,not_or] at F;exact all b o F.1 F.2 q
   .simp only [OH,Pc,or_false,not_or] at F;exact {o.slots,all b o F.1 F.2 q}
   .rw [ze (ar b o q)];exact n
   .simp only [OH,Pc,or_false,not_or] at F;exact {o,all b o F.1 F.2 q}
   .rw [ze (zz q YK)];exact q
   .rw [ze (zz q YK)];exact q
   .exact {#[],by rw [ze (zz q YK),q];simp}
   .obtain ⟨o,es,ep,ho,r⟩:=hm;exact {o,es,ep,all _ o (Pe (hf e 'z').2.1) (Pe (hf it 'z').2.1) ho,r}
   .exact {by show 2<=sizeLine;decide,[.int ((i+k:Nat):Int) tk,.str {#[c]} u],.cons {_,rfl} (.cons {_,rfl} .nil),{_,tT,rfl,_,rfl}}
  refine {.ref s.heap.objs.size,_,I2,rfl,{_,c,YK,rfl,Z,rfl},?_,λb F=>?_}
  .obtain ⟨_,W⟩:=W;have e1:i+k+1-k=i+1:=by lia
   rw [e1] at W;obtain ⟨o,W,r⟩:=W;have e3:((i+1+k:Nat):Int)=((i+k:Nat):Int)+1:=by lia
   refine {?_,t,o,c2.extBut _ _ (Pe Ys) W,r};rw [e3];exact {_,c1}
  .have ne:b≠s.heap.objs.size:=λq=>by
    have:b<s.heap.objs.size:=by
     simp only [OH,Pc,or_false] at F;obtain ⟨o4,G,_⟩:=G;rcases F with rfl|rfl
     .exact ab
     .exact O4 G
    exact absurd (q ▸ this) (PY _)
   rw [ze ne];exact (hf b F).1
 done:=by
  intro X hP hw hK S i Go s σ H E I hf st hg;subst hP hw hK;obtain ⟨⟨old,J⟩,⟨t,G⟩⟩:=st;have hi:i=z.cps.size:=hg;have W0:=I.ok.hd (S rfl);have D:=Draws.strAscii (prog:=X.prog) (w:=X.w) (A:=X.A.in1) W0 it z t;rw [hi] at G;refine wpAny_pyNext_enum_endD D J G λh' up=>{rfl,?_};refine I.step (g':=s.gens) (d':=s.drawn) (t':=s.toks) (ch:=[it]) (λb F=>?_) (λb o _ _ F q _=>?_) (λb o _ _ F q _=>?_) (λ_ _ _ _ n=>n) (λb o F q=>?_) (λ_ _ q=>q) (λ_ _ _ q=>q) (λb ps q=>{#[],by rw [q];simp}) (λm hm=>?_) (λb u U=>?_) I.bare
  .have Xx:b∈[e,it]:=by simp only [OH,Pc,or_false] at F ⊢;exact .inr F
   obtain ⟨f0,f1,f2,f3,f4,f5⟩:=hf b Xx;exact ⟨f3,f1,f4,f5⟩
  .simp only [OH,Pc,or_false] at F;exact up b o F q
  .simp only [OH,Pc,or_false] at F;exact {o.slots,up b o F q}
  .simp only [OH,Pc,or_false] at F;exact {o,up b o F q}
  .obtain ⟨o,es,ep,ho,r⟩:=hm;exact {o,es,ep,up _ o (Pe (hf it 'z').2.1) ho,r}
  .refine (I.hok b u U).UE (λc v S q=>?_) (λ_ q=>q) λ_ _ q=>q;have O:c≠it:=λw=>by
    have fd:=(hf it 'z').1;rcases S with k|k
    .rw [k] at w;rw [w,fd] at U;cases U
    .rw [w,fd] at k;cases k
   exact up c v O q
 self:=λ_ _ _ _ _ st h=>by
  obtain ⟨old,J⟩:=st.en;exact wpAny_pyIter_enum J h
section
variable {prog:OL}{w:O1}{A:O0}{E:Value->Ow->Prop}{s:Ow}
theorem F0(a b:Value):checkTypeCall "enumerate" {[a],[(OA "start",b)]}=pure ():=by kernel_rfl
theorem C9(a b:Value):Ss "enumerate.__new__" {[.type "enumerate",a],[(OA "start",b)]}=pure ():=by kernel_rfl
theorem Ic(o a b:Value):Ug "object.__init__" {[o,a],[(OA "start",b)]}:=by
 unfold Ug;kernel_rfl
theorem NX (x : Str) (t u : Tok) : Meets (OS.«enumerate.__new__» {[.type "enumerate", .str x t], [(OA "start", .int 1 u)]}) (fun _ R s =>
      R (.ok (.ret (.ref (s.heap.push { cls := .type (RJ x), data := .fields #[.str x t, .int 0 0] }).objs.size)))
        { s with heap := (s.heap.push { cls := .type (RJ x), data := .fields #[.str x t, .int 0 0] }).push { cls := .type "enumerate", data := .fields #[.none, .bool false, .ref s.heap.objs.size, PC 1, .none, .none] } }) :=
 .of_wp λprog w A R s h=>by
  obtain ⟨F,g,d,tk,os⟩:=s;have z:=sub_enumerate
  wp_walk
  refine wpAny_stack_any λst=>Oz ?_;split
  .rename_i c _ _ _ _ _;cases (c==type "enumerate")
   .wp_walk using Tj
    exact {_,rfl,h}
   .wp_walk using Tj
    exact {_,rfl,h}
  .wp_walk using Tj
   exact {_,rfl,h}
theorem C6(hl:typeLookup (.type T) Wo=pure (some (.builtin "object.__init__")))(hm:Bind.madeBy (.type T)=pure (some z))(G:(some z != some "object.__new__")=true):Meets (OS.«object.__init__» {[self,a],kws}) (λ_ R s=>s.TypeIs self T/\R (.ok (.ret .none)) s):=by
 refine Meets.of_wp λprog w A R s=>x2e λJ F=>?_
 repeat (any_goals (first|assumption|wp_step))
 exact {_,rfl,F}
theorem Hu(z:TypeCalled T U "object.__init__")(Ys:(some U != some "object.__new__")=true)(ar:checkTypeCall T {[a],kws}=pure ())(ab:Ss U {[.type T,a],kws}=pure ())(hok:∀obj,Ug "object.__init__" {[obj,a],kws})(G:entryFor table U=some Bn)(g:Meets (Bn {[.type T,a],kws}) S)(h:S A.in1 (wants (λobj s₁=>s₁.TypeIs obj T/\Q obj s₁) E) s):OJ (OR prog w) A (call (.type T) [a] kws) Q E s:=by
 obtain ⟨c,tl,ai⟩:=z.mro;have W:=z.made;have Xn:=z.sub;refine SX (A:=A) (codeAny_of_tree (A:=A) ?_);show OJ (OR prog w) _ (callAny (.type T) _) _ _ _;refine Oz {Code.quiet_builtin _ (f!""),Q0 (A:=A) F.entry_type_call ?_};rw [O0.under_plain (weight_type_call_type T [a] kws) (units_type_call_type T [a] kws)];have k1:=z.notType;have k2:=z.canCreate
 repeat (any_goals (first|assumption|wp_step))
 refine QS (SE z.plain G (Tn ab (g prog w A.in1 _ s h))) λr s1 O=>?_;cases r with
 | error e=>exact O
 | ok fl =>
  cases fl with
  | ret obj =>
   have av:=z.init.lookup;have aF:=z.init.bind obj;have hT:=O.1
   repeat (any_goals (first|assumption|wp_step))
   refine QS (SE z.init.plain F.entry_object_init (z.init.check _ _ _ _ _ _ _ _ O.1 (hok obj) (C6 z.init.lookup z.made Ys prog w A.in1 (wants (λr s2=>r = .none/\Q obj s2) E) s1 {O.1,rfl,O.2}))) λr2 s2 J=>?_;cases r2 with
   | error e=>exact J
   | ok Z =>
    cases Z with
    | ret r =>
     obtain ⟨rfl,hq⟩:=J
     repeat (any_goals (first|assumption|wp_step))
    | _=>exact J.elim
  | _=>exact O.elim
theorem GB{t u:Tok}(h:∀h',IsEnum h' (s.heap.objs.size+1) s.heap.objs.size 1 .none->h'.IsStrIter s.heap.objs.size (RJ x) x t 0->h'.objs.size=s.heap.objs.size+2->(∀b o,s.heap.get? b=some o->h'.get? b=some o)->Q (.ref (s.heap.objs.size+1)) { s with heap:=h' }):
  OJ (OR prog w) A (call (.type "enumerate") [.str x t] [(OA "start",.int 1 u)]) Q E s:=by
 refine Hu F.called_enumerate 'd' (F0 _ _) (C9 _ _) (λobj=>Ic obj _ _) F.entry_enumerate_new (NX x t u) ?_;have hz:(s.heap.push { cls:=.type (RJ x),data:=.fields #[.str x t,.int 0 0] }).objs.size=s.heap.objs.size+1:=QG ..;show _/\_;rw [hz];have z:IsEnum ((s.heap.push { cls:=.type (RJ x),data:=.fields #[.str x t,.int 0 0] }).push { cls:=.type "enumerate",data:=.fields #[.none,.bool false,.ref s.heap.objs.size,PC 1,.none,.none] }) (s.heap.objs.size+1) s.heap.objs.size 1 .none:=by
  have q:=OM (s.heap.push { cls:=.type (RJ x),data:=.fields #[.str x t,.int 0 0] }) (o:={ cls:=.type "enumerate",data:=.fields #[.none,.bool false,.ref s.heap.objs.size,PC 1,.none,.none] }) rfl;rw [hz] at q;exact q
 exact {{_,z,rfl},h _ z {_,Oy _ (OM _ rfl),rfl,rfl} (by rw [QG,hz]) λb o y=>Oy _ (Oy _ y)}
theorem BR(J:args.any (·.1)=false)(F:z.any (·.1.isNone)=false)(h:OJ M A (evalArgs (.type T) true args z) (λa s1=>OJ M A (call (.type T) a.pos a.kw) Q E s1) E s):OJ M A (S5 pos (.type T) [] args z) Q E s:=by
 unfold S5;refine we (O9 (Pp h (λa s1 h1=>we (Qi ?_)) λ_ _ x=>x));simp only [J,F,RX];exact we (Oz (we (Pp h1 (λr s2 G=>we (O9 (wpAny_point (Oz G)))) λ_ _ x=>x)))
end
section
variable {X:Cx}
def yO(k:Nat)(ta:TE):TI:=λσ H R=>ta σ H λx H1=>uS x λz=>asc z=true/\R (jm z k) H1
theorem FH{k:Nat}:yO k ta σ H R=ta σ H λx H1=>uS x λz=>asc z=true/\R (jm z k) H1:=rfl
theorem MK(h:asc z=true):RJ z="str_ascii_iterator":=by
 unfold RJ;rw [show z.cps.all (· < 128)=true from h];rfl
theorem Gy{tp p pos kp cp:Pos}(hg:Gl X "enumerate")(hm:X.mg "enumerate"=none)(J:W (PE X a ta))(hp:aS a=true:=by rfl):W (PIc true X (.Tuple Yu kk tp) (.Call (.Name "enumerate" p) [a] [{some (OA "start"),.Constant (.int 1) j cp,kp}] pos) (yO 1 ta)):=by
 refine {?_};have J:=J.h;intro Go s σ H R I h;have hs:Pb [a] X.env=[(false,Qc a X.env)]:=eR hp;have hA:=fu J fz (hs:=hs) pos Go s σ H (λys H2=>dj (λy=>uS y λz=>asc z=true/\R (jm z 1) H2) ys) I h;refine Qu (fQ I hg hm boot_enumerate (BR (by rw [hs];rfl) rfl ?_));rw [hs] at hA ⊢;refine evalArgs_kwB rfl (thn hA λus s1=>x5e λvs H1 I1 r1 q1=>kws_cons (thn (yD Go s1 σ H1 (λv H=>v = .int 1/\H=H1) I1 {rfl,rfl}) λw2 s2=>x5e λy2 H2 O r2 Yo=>kws_nil ?_));obtain ⟨F,G⟩:=Yo;subst F G;obtain ⟨t2,rfl⟩:=r2;obtain ⟨y,rfl,z,ey,hz,q⟩:=dj.ex q1;subst ey;cases r1 with
 | cons r rr =>
  cases rr;obtain ⟨t,rfl⟩:=r;refine GB (s:=s2) λh' U S a6 a7=>wpAny_pyIter_enum (s:={ s2 with heap:=h' }) U ?_;rw [MK hz] at S;refine {_,_,_,_,H2,rfl,O.kept (t':=s2.toks) a7,M8 (Nat.succ_ne_self _),{{_,U},t,S},λb Z=>?_,q};have le:s2.heap.objs.size<=b:=by
   simp only [OH,Pc,or_false] at Z;rcases Z with rfl|rfl
   .exact Se _
   .exact Ox _
  exact O.UL le (O.hok.fresh le)
end
section
variable {K:OF}{g:TG}{tb:TS}{D:bb}{σ:St}{H:Hp}{tt:TT}{te:TE}{Q:VK}
theorem aC.cj{k:Nat}(F:Nat->St->Hp->Prop)(Z:F 0 σ H)(hs:∀i c p σ H,z.cps[i]?=some c->F i σ H->H p=none->g (.ref p) σ (upd H p (.tup [.int ((i+k:Nat):Int),.str {#[c]}])) λG H2=>tb { D with nx:=F (i+1),ct:=F (i+1),bk:=D.nx } G H2)(hd:∀σ H,F z.cps.size σ H->D.nx σ H):aC (jm z k) g tb D σ H:=by
 refine {λi m σ H=>m=z.cps.size-i/\i<=z.cps.size/\F i σ H,{z.cps.size,'z',Qs _,Z},?_};rintro i m σ H ⟨rfl,hi,p⟩;by_cases J:i<z.cps.size
 .refine .inr {J,F (i+1),λU H' W=>{z.cps.size-(i+1),'l',rfl,J,W},λx H' y=>?_};obtain ⟨T,c,S,rfl,O,rfl⟩:=y;exact hs i c T σ _ O p S
 .have e:i=z.cps.size:=by lia
  subst e;exact .inl {rfl,hd σ H p}
theorem aN.str(G:Nat->St->List V->Hp->Prop)(hz:∀i τ ys H,G i τ ys H->ys.length<sizeLine)(W:G 0 τ [] H)(hs:∀(N:St->List V->Hp->Prop) i c τ ys H,z.cps[i]?=some c->G i τ ys H->(∀τ ys H,G (i+1) τ ys H->N τ ys H)->g (.str {#[c]}) τ H λF H4=>tt F H4 λok H5=>eK N ys F te ok H5)(hd:∀τ ys H,G z.cps.size τ ys H->∀D H',New H D (.lst ys) H'->Q (.ref D) H'):aN (Its z) g tt te τ H Q:=by
 refine {λi m τ ys H=>m=z.cps.size-i/\i<=z.cps.size/\G i τ ys H,{z.cps.size,'z',Qs _,W},?_};rintro i m τ ys H2 ⟨rfl,hi,p⟩;refine {hz i τ ys H2 p,?_};by_cases J:i<z.cps.size
 .refine .inr {J,λx H' y=>?_};obtain ⟨e,c,S,rfl⟩:=y;subst e;exact hs (λF ys H=>∃O,O<z.cps.size-i/\O=z.cps.size-(i+1)/\i+1<=z.cps.size/\G (i+1) F ys H) i c τ ys _ S p λF zs H q=>{z.cps.size-(i+1),'l',rfl,J,q}
 .have e:i=z.cps.size:=by lia
  subst e;exact .inl {Ox _,λD U _=>hd τ ys H2 p D _ (.mk' U)}
end
section
variable {X:Cx}
def uj:List V->Hp->VK->Prop:=λxs H Q=>uR1 xs λp=>∃bs:List Bool,H p=some (.lst (bs.map V.bl))/\Q (.bl (bs.all id)) H
theorem Nh{bs:List Bool}:∀{us:List Value},zt (bs.map V.bl) us->us=bs.map RN:=by
 induction bs with
 | nil=>intro us r;rw [map_nil] at r;cases r;rfl
 | cons b bs F =>
  intro us r;rw [Pf] at r;cases r with
  | cons z G=>rw [show _=RN b from z,F G];rfl
theorem Fl(O:X.calm=true):zO X (.builtin "all") uj:=by
 intro Go s σ H xs us Q I r h;obtain ⟨p,rfl,bs,G,q⟩:=h;cases r with
 | cons Z S =>
  cases S;cases (show _=OU p from Z);obtain ⟨its,W,pl,_⟩:=I.list (SqL.of (K:=X.K) G);have e:=Nh W;subst e;have F:p≠s.heap.objs.size:=by obtain ⟨o,e,_⟩:=pl.isList;exact Pr (O4 e)
  refine call_all_walk (Rg pl.isList ?_);have hl:∀k:Nat,k=bs.length->(Qg k).all (λi=>bs.getD i true)=bs.all id:=by
   intro k e;subst e;rw [RE,Py,Py];constructor
   .intro h x hx;obtain ⟨i,hi,rfl⟩:=PM hx;have:=h i (R6.mpr hi);rw [OY,KE hi] at this;exact this
   .intro h i hi;have hi:=R6.mp hi;rw [OY,KE hi];exact h _ (Qb hi)
  refine {s.heap.objs.size,_,_,_,_,_,λi=>bs.getD i true,rfl,Walks.list (prog:=X.prog) (w:=X.w) (A:=X.A.in1) (show X.A.in1.handled=none from I.ok.hd O) s.heap.objs.size p F (bs.map RN).toArray,{{_,OM _ rfl,rfl,rfl},pl.isList.push _},?_,λh' tk kp=>?_}
  .intro i v s2 U E2 hv z;have hv:(bs.map RN)[i]?=some v:=by simpa using hv
   rw [OV] at hv;cases e:bs[i]? with
   | none=>rw [e] at hv;cases hv
   | some b =>
    rw [e] at hv;cases hv;have J:bs.getD i true=b:=by rw [OY,e];rfl
    have z:U (bs.getD i true) s2:=z;rw [J] at z;exact Oz z
  .refine {.bl _,H,I.kept (t':=tk) λb o e=>kp b o ?_ (Oy _ e),rfl,?_}
   .simpa using Pr (O4 e)
   .rw [hl _ 'z'];exact q
theorem DE{p:Addr}:uj [.ref p] H Q = ∃bs:List Bool,H p=some (.lst (bs.map V.bl))/\Q (.bl (bs.all id)) H:=eI
def uIn:R2:=λx y H Q=>(∃i j,x = .str i/\y = .str j/\Q (.bl (!(OS.Str.occurrences j i 0 j.length 1).isEmpty)) H)\/∃p xs,y = .ref p/\(H p=some (.lst xs)\/H p=some (.tup xs))/\ah x=true/\xs.all ah=true/\Q (.bl (inV x xs)) H
theorem Am(G:X.A.units<cLine):OpR X (P8 .In) uIn:=(KP.or HW).weak λx y H Q h=>by
 rcases h with h|⟨p,xs,e,h,F,z,q⟩
 .exact .inl h
 .exact .inr {p,xs,e,h.elim (λh=>.inl (SqL.of h)) (λh=>.inr (SqT.of h)),F,z,by simpa using q}
theorem G6:uIn (.str x) (.str y) H Q=Q (.bl (!(OS.Str.occurrences y x 0 y.length 1).isEmpty)) H:=by simp [uIn]
theorem Hy{p:Addr}:uIn x (.ref p) H Q = ∃xs,(H p=some (.lst xs)\/H p=some (.tup xs))/\ah x=true/\xs.all ah=true/\Q (.bl (inV x xs)) H:=by simp [uIn]
def uM1(to te:TE)(r:Str->V->Hp->VK->Prop):TE:=λσ H Q=>to σ H λx H1=>uS x λz=>te σ H1 λy H2=>r z y H2 Q
theorem Kr{to te:TE}:uM1 to te r σ H Q=to σ H λx H1=>uS x λz=>te σ H1 λy H2=>r z y H2 Q:=rfl
theorem xN{o e:O3}{to te:TE}{id:String}(G:Slot "str" m id)(Xc:typeOf (.builtin id)=pure (.type "method_descriptor"))(hr:∀(Go:List (Addr×Obj))(s:Ow)(σ:St)(H:Hp)(z:Str)(y:V)(t:Tok)(v:Value)(Q:VK),Inv X Go σ H s->zo y v->r z y H Q->OJ (OR X.prog X.w) X.A (call (.builtin id) [.str z t,v]) (λu s1=>∃x H',Inv X Go σ H' s1/\zo x u/\Q x H') X.xe s)(ho:PE X o to)(he:PE X e te)(Zl:QE o m X.env (Qc o X.env)=Qc o X.env:=by rfl)(Zk:(ZU.endLine==cpos.line)=true:=by rfl)(W:aS e=true:=by rfl):
  PE X (.Call (.Attribute o m ZU) [e] [] cpos) (uM1 to te r):=by
 intro Go s σ H Q I h;have hs:Pb [e] X.env=[(false,Qc e X.env)]:=eR W;refine Q3 Zl (by rw [hs];rfl) Zk rfl (thn (ho Go s σ H _ I h) λv s1=>x5e λx H1 O U Yo=>?_);obtain ⟨z,ex,Z⟩:=Yo;subst ex;obtain ⟨h1,h2⟩:=lR (T:="str") O U rfl;refine {"str",id,PySem.F.plainAttrs_str,G,Xc,h1,h2,?_};rw [hs];refine Calls.callWith_builtin rfl (Calls.evalArgs_plain ?_);have S:=fu he fz (hs:=hs) cpos Go s1 σ H1 (λys H2=>dj (λy=>r z y H2 Q) ys) O Z;rw [hs] at S;refine thn S λus s2=>x5e λvs H2 I2 r2 J=>?_;obtain ⟨t,rfl⟩:=U;obtain ⟨y,rfl,J⟩:=dj.ex J;obtain ⟨_,rfl,ry⟩:=zt.one r2;exact hr Go s2 σ H2 z y t _ Q I2 ry J
def xP:Str->V->Hp->VK->Prop:=λz y H Q=>uS y λq=>Q (.int (RY z q)) H
theorem GW{o e:O3}{to te:TE}(J:W (PE X o to))(G:W (PE X e te))(Z:QE o "rfind" X.env (Qc o X.env)=Qc o X.env:=by rfl)(S:(ZU.endLine==cpos.line)=true:=by rfl)(O:aS e=true:=by rfl):W (PE X (.Call (.Attribute o "rfind" ZU) [e] [] cpos) (uM1 to te xP)):=by
 refine {?_};have J:=J.h;have G:=G.h;exact
  xN PySem.F.slot_str_rfind PySem.F.type_str_rfind (λGo s σ H z y t v Q I U q=>by
   obtain ⟨w,rfl,q⟩:=q;obtain ⟨u,rfl⟩:=U;exact R0 PySem.F.slot_str_rfind (Sn _ _ _) PySem.F.entry_str_rfind (PySem.F.args_str_rfind_2 _ _) (gives_str_rfind z w t u).meets {.int _,H,I.tok _,{_,rfl},q}) J G Z S O
theorem HI:xP z (.str q) H Q=Q (.int (RY z q)) H:=pY
theorem u9:∀(k:Nat)(ys:List Str),zt (ys.map V.str) (strsFrom k ys)
 | _,[]=>.nil
 | k,y::ys=>.cons {k,rfl} (u9 (k+1) ys)
def wz:Str->V->Hp->VK->Prop:=λz y H Q=>uS y λq=>(q.length==0)=false/\z.length<sizeLine/\(Pu z q).length<=sizeLine/\∀p H2,New H p (.lst ((Pu z q).map V.str)) H2->Q (.ref p) H2
theorem qL{o e:O3}{to te:TE}(S:W (PE X o to))(O:W (PE X e te))(Zl:QE o "split" X.env (Qc o X.env)=Qc o X.env:=by rfl)(Zk:(ZU.endLine==cpos.line)=true:=by rfl)(Z:aS e=true:=by rfl):W (PE X (.Call (.Attribute o "split" ZU) [e] [] cpos) (uM1 to te wz)):=by
 refine {?_};have S:=S.h;have O:=O.h;exact
  xN S0 PySem.F.type_str_split (λGo s σ H z y t v Q I ry q=>by
   obtain ⟨w,rfl,hw,hz,J,q⟩:=q;obtain ⟨u,rfl⟩:=ry;have G:∀(ys:List Str)(us:List Value)(k:Nat),ys=Pu z w->zt (ys.map V.str) us->∃x H',Inv X Go σ H' { s with heap:=s.heap.push { cls:=.type "list",data:=.seq us.toArray },toks:=k }/\zo x (.ref s.heap.objs.size)/\Q x H':=λys us k e U=>by
    subst e;have hl:=U.length;rw [OB] at hl;exact {.ref s.heap.objs.size,_,I.laid (t':=k) (o:=.lst _) (λb ob q=>Oy _ q) (Ox _) {by rw [OB];exact J,us,0,U,OM _ rfl},rfl,q _ _ (.mk' (I.hok.fresh (Ox _)))}
   cases h1:(decide (z.length<w.length)||decide (OS.Str.strKind z<OS.Str.strKind w))
   .cases hf:(OS.Str.occurrences z w 0 z.length (z.length+1)).isEmpty
    .have es:Pu z w=OS.Str.partsBetween z (OS.Str.occurrences z w 0 z.length (z.length+1)) w.length:=(if_neg (ne_true_of_eq_false h1)).trans (if_neg (ne_true_of_eq_false hf));rw [es] at J;exact R0 S0 (Sn _ _ _) entry_str_split (args_str_split_2 _ _) (meets_str_split_sep z w t u h1 hw hf (Sf hz) J) (G _ _ _ es.symm (u9 _ _))
    .exact R0 S0 (Sn _ _ _) entry_str_split (args_str_split_2 _ _) (meets_str_split_not_found z w t u h1 hw hf) (G [z] [.str z t] s.toks ((if_neg (ne_true_of_eq_false h1)).trans (if_pos hf)).symm (.cons {t,rfl} .nil))
   .exact R0 S0 (Sn _ _ _) entry_str_split (args_str_split_2 _ _) (meets_str_split_cannot_occur z w t u h1) (G [z] [.str z t] s.toks (if_pos h1).symm (.cons {t,rfl} .nil))) S O Zl Zk Z
theorem KL:wz z (.str q) H Q=((q.length==0)=false/\z.length<sizeLine/\(Pu z q).length<=sizeLine/\∀p H2,New H p (.lst ((Pu z q).map V.str)) H2->Q (.ref p) H2):=pY
def vi(te:TE):TE:=λσ H Q=>te σ H λx H1=>(∃z,x = .str z/\z.length<=sizeLine/\Q (.str z) H1)\/∃i,x = .int i/\i.natAbs.log2<1920/\Q (.str (toString i)) H1
def i9:V->Hp->VK->Prop:=λx H1 Q=>(∃z,x = .str z/\z.length<=sizeLine/\Q (.str z) H1)\/∃i,x = .int i/\i.natAbs.log2<1920/\Q (.str (toString i)) H1
theorem GV:vi te σ H Q=te σ H λx H1=>i9 x H1 Q:=rfl
theorem IU:i9 (.str z) H Q=(z.length<=sizeLine/\Q (.str z) H):=by simp [i9]
theorem Hm:i9 (.int i) H Q=(i.natAbs.log2<1920/\Q (.str (toString i)) H):=by simp [i9]
theorem sU(F:W (PE X e te)):W (PE X (.FormattedValue e (-1) none pos) (vi te)):=by
 refine {?_};have F:=F.h;intro Go s σ H Q I h;refine FormattedValue_plain (thn (F Go s σ H _ I h) λv s1=>x5e λx H1 J G O=>?_);rcases O with ⟨z,rfl,hz,q⟩|⟨i,rfl,hi,q⟩
 .obtain ⟨t,rfl⟩:=G;exact formatField_str (λt' tk=>{.str z,H1,J.tok _,{_,rfl},q}) hz
 .obtain ⟨t,rfl⟩:=G;exact formatField_int_small hi {.str _,H1,J.tok _,{_,rfl},q}
abbrev TJ:=Str->TE
def PJ(X:Cx)(es:List O3)(z:TJ):Prop:=∀(out:Str)(Go:List (Addr×Obj))(s:Ow)(σ:St)(H:Hp)(Q:VK),Inv X Go σ H s->z out σ H Q ->
 OJ (OR X.prog X.w) X.A (joinParts out (evalEach es X.env)) (λu s1=>∃x H',Inv X Go σ H' s1/\zo x u/\Q x H') X.xe s
def tM:TJ:=λout _ H Q=>out.length<=sizeLine/\Q (.str out) H
def xG(te:TE)(z:TJ):TJ:=λout σ H Q=>te σ H λx H1=>uS x λy=>(out++y).length<=sizeLine/\z (out++y) σ H1 Q
theorem Fo:W (PJ X [] tM):={λout Go s σ H Q I h=>joinParts_nil {.str out,H,I.tok _,{_,rfl},h.2} h.1}
theorem mQ(z:W (PE X e te))(F:W (PJ X es G)):W (PJ X (e::es) (xG te G)):=by
 refine {?_};have z:=z.h;have F:=F.h;exact λout Go s σ H Q I h=>by
  refine joinParts_cons (thn (z Go s σ H _ I h) λv s1=>x5e λx H1 O U J=>?_);obtain ⟨y,rfl,S,q⟩:=J;obtain ⟨t,rfl⟩:=U;exact {S,F _ Go s1 σ H1 Q O q}
def wN(z:TJ):TE:=z Sv
theorem IR:wN z=z Sv:=rfl
theorem Gx(h:W (PJ X (e::F::es) z)):W (PE X (.JoinedStr (e::F::es) pos) (wN z)):=by refine {?_};have h:=h.h;exact λGo s σ H Q I q=>JoinedStr_many (h Sv Go s σ H Q I q)
def gK:List V->Hp->VK->Prop:=λxs H Q=>eJ xs H Q\/∃z n,xs=[.str z]/\z.length<=640/\Sj z=some n/\Q (.int n) H
theorem vF:zO X (.type "int") gK:=by
 intro Go s σ H xs us Q I r h;rcases h with h|⟨z,n,rfl,hl,G,q⟩
 .exact II Go s σ H xs us Q I r h
 .cases r with
  | cons F J =>
   cases J;obtain ⟨t,rfl⟩:=F;exact PySem.W.KIN.call_text G hl {.int n,H,I.tok _,{_,rfl},q}
theorem Cz:gK [.int i] H Q=Q (.int i) H:=by simp [gK,eJ]
theorem GZ{k:Bool}:gK [.bl k] H Q=Q (.int (if k then 1 else 0)) H:=by simp [gK,eJ]
theorem FD:gK [.str z] H Q = ∃n,z.length<=640/\Sj z=some n/\Q (.int n) H:=by simp [gK,eJ]
def gU:List V->Hp->VK->Prop:=λxs H Q=>gq xs H Q\/∃z,xs=[.str z]/\Q (.str z) H
theorem dv:zO X (.type "str") gU:=by
 intro Go s σ H xs us Q I r h;rcases h with h|⟨z,rfl,q⟩
 .exact Kk Go s σ H xs us Q I r h
 .cases r with
  | cons F G =>
   cases G;obtain ⟨t,rfl⟩:=F;exact PySem.P.str_of_str {.str z,H,I,{_,rfl},q}
theorem vP:gU [.int i] H Q=(i.natAbs.log2<1920/\Q (.str (toString i)) H):=by simp [gU,gq]
theorem tN:gU [.str z] H Q=Q (.str z) H:=by simp [gU,gq]
def yu:List V->Hp->VK->Prop:=λxs H Q=>uR1 xs λp=>∃ys,H p=some (.lst ys)/\∀l H2,New H l (.tup ys) H2->Q (.ref l) H2
theorem Hc:zO X (.type "tuple") yu:=KC.weak λxs H Q h=>by
 obtain ⟨p,e,ys,h1,q⟩:=h;exact {p,ys,e,.inl {SqL.of h1,λl hl=>q l _ (.mk' hl)}}
theorem Km{p:Addr}:yu [.ref p] H Q = ∃ys,H p=some (.lst ys)/\∀l H2,New H l (.tup ys) H2->Q (.ref l) H2:=eI
def qC:List V->Hp->VK->Prop:=λxs H Q=>∃x,xs=[.str x]/\x.length=1/\Q (.int (x.cps.getD 0 0:Nat)) H
theorem Dv:zO X (.builtin "ord") qC:=CM
theorem LL:qC [.str x] H Q=(x.length=1/\Q (.int (x.cps.getD 0 0:Nat)) H):=by simp [qC]
inductive jo(w:O1):List SV->List (Str×Addr)->Prop
 | nil:jo w [] []
 | cons {k:Str}{t:Tok}{r:Addr}{es:List SV}{kvs:List (Str×Addr)}:jo w es kvs->jo w ({ hash:=RO w.params k,key:=.str k t,val:=.ref r }::es) ((k,r)::kvs)
structure kj(w:O1)(K:OF)(a:Addr)(kvs:List (Str×Addr)):Prop where
 ex:∃es n,K.lookup a=some { cls:=.type "dict",dict:=none,data:=.dict es n,slots:=#[] }/\jo w es.toList kvs
 nd:(kvs.map (·.1)).Nodup
 ns:(a==sysModules)=false
def fc(kvs:List (Str×Addr))(z:Str):V:=match kvs.find? (λp=>p.1=z) with|some p=>.ref p.2|none=>.non
theorem AF:∀{es:List SV}{kvs:List (Str×Addr)},jo w es kvs->PySem.Pairs (ax P w) es (kvs.map λp=>(Sum.inr p.1,OU p.2))/\∀e∈es,∃k,(ax P w).is k e.key=true/\e.hash=(ax P w).hash k
 | _,_,.nil=>{.nil,λe z=>by cases z}
 | _,_,.cons (k:=k) (t:=t) h=>by
  obtain ⟨h1,h2⟩:=AF (P:=P) h;refine {.cons (lU P w k t) rfl h1,λe z=>?_};rcases OH.mp z with rfl|z
  .exact {Sum.inr k,lU P w k t,rfl}
  .exact h2 e z
theorem kj.dictOf{K:OF}{h:Heap}(D:kj w K a kvs)(G:∀o,K.lookup a=some o->h.get? a=some o):h.DictOf (ax P w) a (kvs.map λp=>(Sum.inr p.1,OU p.2)):=by
 obtain ⟨es,n,h1,h2⟩:=D.ex;obtain ⟨F,p2⟩:=AF (P:=P) h2;refine {_,es,n,G _ h1,{rfl,rfl,rfl},rfl,λe J=>p2 e (by simpa using J),F,?_};rw [Pg];have e:((λp:Key×Value=>p.1)∘λp:Str×Addr=>((Sum.inr p.1:Key),OU p.2))=(λz:Str=>(Sum.inr z:Key))∘(λp:Str×Addr=>p.1):=rfl;rw [e,<- Pg];exact Pairwise.map _ (λx y q z=>q (Sum.inr.inj z)) D.nd
def yy(kvs:List (Str×Addr))(te:TE):TE:=λσ H Q=>te σ H λy H1=>uS y λz=>Q (fc kvs z) H1
theorem Ge:yy kvs te σ H Q=te σ H λy H1=>uS y λz=>Q (fc kvs z) H1:=rfl
theorem Hl:zo (fc kvs z) ((PySem.valueAt (kvs.map λp=>((Sum.inr p.1:Key),OU p.2)) (Sum.inr z)).getD .none):=by
 unfold fc PySem.valueAt;rw [List.find?_map];have e:((λF:Key×Value=>decide (F.1=Sum.inr z))∘λp:Str×Addr=>((Sum.inr p.1:Key),OU p.2))=λp:Str×Addr=>decide (p.1=z):=by
  funext p;simp
 rw [e];cases kvs.find? (λp=>decide (p.1=z)) with
 | none=>rfl
 | some p=>rfl
theorem Ov(hg:Gl X x)(hm:X.mg x=some (.ref a))(D:kj X.w X.K a kvs)(J:W (PE X e te))(Zl:QE (.Name x G) "get" X.env (Qc (.Name x G) X.env)=Qc (.Name x G) X.env:=by rfl)(Zk:(ZU.endLine==cpos.line)=true:=by rfl)(hp:aS e=true:=by rfl)(hd:(x==("__debug__":Str))=false:=by decide):W (PE X (.Call (.Attribute (.Name x G) "get" ZU) [e] [] cpos) (yy kvs te)):=by
 refine {?_};have J:=J.h;intro Go s σ H Q I h;have hs:Pb [e] X.env=[(false,Qc e X.env)]:=eR hp;refine Q3 Zl (by rw [hs];rfl) Zk rfl (thn (Ah (v:=.ref a) hg {_,hm,rfl} hd Go s σ H (λv H1=>v = .ref a/\H1=H) I {rfl,rfl}) λv s1=>x5e λx1 H1 Z r1 Yo=>?_);obtain ⟨ex,eH⟩:=Yo;subst ex eH;cases r1;have dd:=D.dictOf (P:=X.prog) (h:=s1.heap) λo O=>Z.UB a o O;refine {"dict","dict.get",SI,Rk,type_dict_get,dd.typeIs,λb q=>?_,?_}
 .cases q;obtain ⟨ob,_,_,h1,h2,_⟩:=dd;exact ⟨ob,h1,h2.2.1⟩
 rw [hs];refine Calls.callWith_builtin rfl (Calls.evalArgs_plain ?_);have hA:=fu J fz (hs:=hs) cpos Go s1 σ H1 (λys H2=>dj (λy=>uS y λz=>Q (fc kvs z) H2) ys) Z h;rw [hs] at hA;refine thn hA λus s2=>x5e λvs H2 U r2 S=>?_;obtain ⟨y,rfl,S⟩:=dj.ex S;obtain ⟨_,rfl,ry⟩:=zt.one r2;obtain ⟨z,ey,q⟩:=S;subst ey;obtain ⟨t,rfl⟩:=ry;have F:=D.dictOf (P:=X.prog) (h:=s2.heap) λo O=>U.UB a o O;refine Si Rk F.typeIs Sh (args_dict_get_2 _ _) (meets_dict_get (ax X.prog X.w) a (lU X.prog X.w z t) D.ns) {_,F.mapOf,?_};exact {fc kvs z,H2,U.tok _,Hl,q}
end
section
variable {prog:OL}{w:O1}{A:O0}{E:Value->Ow->Prop}{s:Ow}
theorem xj{h h':Heap}(x:h.IsTuple l xs)(k:∀o,h.get? l=some o->h'.get? l=some o):h'.IsTuple l xs:=by
 obtain ⟨o,e,r⟩:=x;exact {o,k o e,r}
theorem My{it t:Addr}(O:s.heap.IsTupleIter it t i)(U:s.heap.IsTuple t items)(hx:items[i]?=some x)(k:∀h',h'.IsTupleIter it t (i+1)->Qy it s.heap h'->Q x { s with heap:=h' }):OJ (OR prog w) A (OS.SmallTypes.nextOf (.ref it)) Q E s:=by
 obtain ⟨o,z,S,hd⟩:=id O;obtain ⟨W,J,_,nl,G⟩:=U;unfold OS.SmallTypes.nextOf;refine we (P5 (name:=OA "__next__") O.typeIs F.slot_tuple_iterator_next (PK F.slot_tuple_iterator_next O.typeIs F.entry_tuple_iterator_next ?_ (F.args_tuple_iterator_next_1 _)));refine we (m:=field (.ref it) 0) (Po z hd (x:=.ref t) rfl ?_);rw [if_neg (show ¬ ((OU t==Pw)=true) by simp)];refine we (m:=field (.ref it) 1) (Po z hd (x:=.int i 0) rfl (we (m:=Sq (.ref t)) (Qh J G ?_)));simp only [Qj,hx];refine we (m:=RK _ _ _) (PL z hd 'z' (Oz {x,rfl,Oz (k _ ?_ (Qy.update ..))}));refine {_,PD _ z (P9 (QD hd _)),(RW ..).trans S,?_};rw [QD hd];simp [PC]
theorem G1{it t:Addr}(hh:Hnd A s.heap)(S:s.heap.IsTupleIter it t i)(ht:s.heap.IsTuple t items)(hx:items[i]?=none)(k:∀h' e,ExtBut it s.heap h'->(∃o,h'.get? e=some o/\o.cls = .type "StopIteration")->E (.ref e) { s with heap:=h' }):OJ (OR prog w) A (OS.SmallTypes.nextOf (.ref it)) Q E s:=by
 obtain ⟨o,G,hc,hd⟩:=id S;obtain ⟨ol,O,_,nl,J⟩:=ht;unfold OS.SmallTypes.nextOf;refine we (P5 (name:=OA "__next__") S.typeIs F.slot_tuple_iterator_next (PK F.slot_tuple_iterator_next S.typeIs F.entry_tuple_iterator_next ?_ (F.args_tuple_iterator_next_1 _)));refine we (m:=field (.ref it) 0) (Po G hd (x:=.ref t) rfl ?_);rw [if_neg (show ¬ ((OU t==Pw)=true) by simp)];refine we (m:=field (.ref it) 1) (Po G hd (x:=.int i 0) rfl (we (m:=Sq (.ref t)) (Qh O J ?_)));simp only [Qj,hx];refine we (QR (we (PL G hd 'z' ?_)));refine AW (hh.keeps λb q W e=>(O5 _ _ λz=>?_).trans e) λh' e up st=>k h' e (λb q Z z=>up b q ((O5 _ _ (Pe Z)).trans z)) st;obtain ⟨C,U⟩:=W;rw [<- z,G] at e;cases e;rw [hc] at U;cases U
theorem NJ{z TI TO i1 i2 J O:Addr}(D:ZipApart z TI TO i1 i2 J O)(hz:IsZip s.heap z TI TO .none)(ai:RV s.heap TI (.ref i1) (.ref i2))(ab:RV s.heap TO a b)(h1:s.heap.IsTupleIter i1 J k1)(h2:s.heap.IsListIter i2 O k2)(WZ:s.heap.IsTuple J xs)(Yd:s.heap.IsList O ys)(hx:xs[k1]?=some x)(hy:ys[k2]?=some y)(k:∀h',IsZip h' z TI TO (PC s.heap.objs.size)->RV h' TO x y->h'.IsTupleIter i1 J (k1+1)->h'.IsListIter i2 O (k2+1)->RV h' s.heap.objs.size x y->h'.objs.size=s.heap.objs.size+1 ->
   (∀c o,c≠z->c≠TO->c≠i1->c≠i2->s.heap.get? c=some o->h'.get? c=some o)->Q (some (.ref s.heap.objs.size)) { s with heap:=h' }):OJ (OR prog w) A (Rn (.ref z)) Q E s:=by
 have hT:s.TypeIs (.ref z) "zip":={_,hz,rfl};have XY:∀(Q':Value->Ow->Prop)(E':Value->Ow->Prop),(∀h',IsZip h' z TI TO (PC s.heap.objs.size)->RV h' TO x y->h'.IsTupleIter i1 J (k1+1)->h'.IsListIter i2 O (k2+1)->RV h' s.heap.objs.size x y->h'.objs.size=s.heap.objs.size+1 ->
   (∀c o,c≠z->c≠TO->c≠i1->c≠i2->s.heap.get? c=some o->h'.get? c=some o)->Q' (.ref s.heap.objs.size) { s with heap:=h' }) ->
   OJ (OR prog w) A.in1 (OS.«zip.__next__» {[.ref z],[]}) (λZq s'=>∃v,Zq = .done (.ret v)/\Q' v s') E' s:=by
  intro Q' E' kk;refine we (m:=field (.ref z) 2) (Po hz rfl (x:=.bool false) rfl (we (m:=field (.ref z) 3) (Po hz rfl (x:=.ref TI) rfl (we (Qh ai rfl (we (m:=OS.SmallTypes.ownedTupleIsFree (.ref z)) ?_))))));unfold OS.SmallTypes.ownedTupleIsFree;refine we (Po hz rfl (x:=.none) rfl (Oz ?_));simp only [if_true];refine we (QR (we (Po hz rfl (x:=.ref TO) rfl (we (Ru hz 'z' λg1 z1 s1=>?_)))))
  replace z1:IsZip g1 z TI TO .ellipsis:=z1
  refine we ?_;simp only [List.zipIdx_cons,List.zipIdx_nil,Ub,List.forIn_nil];refine we (we (wpAny_onRaise (we (m:=OS.SmallTypes.nextOf (.ref i1)) ?_)));refine My (s:={ s with heap:=g1 }) (h1.at λo e=>s1.extBut _ o D.i1z e) (xj WZ λo e=>s1.extBut _ o D.l1z e) hx λg2 a2 s2=>Oz ?_;have t2:RV g2 TO a b:=s2.extBut _ _ D.TOi1 (s1.extBut _ _ D.TOz ab);refine we (Qh t2 rfl (we (wpAny_updateSeq_pair t2 λg3 t3 S=>?_)))
  replace t3:RV g3 TO x b:=t3
  refine we (Rh (Oz (we (we (wpAny_onRaise (we (m:=OS.SmallTypes.nextOf (.ref i2)) ?_))))));refine wpAny_nextOf_list_item (((h2.extBut s1.extBut D.i2z).extBut s2.extBut D.i12.symm).extBut S.extBut D.TOi2.symm) (((Yd.extBut s1.extBut D.l2z).extBut s2.extBut D.l2i1).extBut S.extBut D.l2TO) hy λg4 b4 Z=>Oz ?_;have t4:RV g4 TO x b:=Z.extBut _ _ D.TOi2 t3;refine we (Qh t4 rfl (we (wpAny_updateSeq_pair t4 λG t5 s5=>?_)))
  replace t5:RV G TO x y:=t5
  refine we (Rh (Oz (Oz (we (Qh t5 rfl (we (wpAny_newTuple ?_)))))));have sz:G.objs.size=s.heap.objs.size:=by rw [s5.1,Z.1,S.1,s2.1,s1.1]
  have z5:IsZip G z TI TO .ellipsis:=s5.extBut _ _ D.TOz.symm (Z.extBut _ _ D.i2z.symm (S.extBut _ _ D.TOz.symm (s2.extBut _ _ D.i1z.symm z1)));have old:∀c o,c≠z->c≠TO->c≠i1->c≠i2->s.heap.get? c=some o->G.get? c=some o:=λc o c1 c2 c3 c4 e=>s5.extBut _ _ c2 (Z.extBut _ _ c4 (S.extBut _ _ c2 (s2.extBut _ _ c3 (s1.extBut _ _ c1 e))));have a5:G.IsTupleIter i1 J (k1+1):=a2.at λo e=>s5.extBut _ _ D.TOi1.symm (Z.extBut _ _ D.i12 (S.extBut _ _ D.TOi1.symm e));have b5:G.IsListIter i2 O (k2+1):=b4.extBut s5.extBut D.TOi2.symm;have W:z<G.objs.size:=O4 z5;refine we (m:=OS.SmallTypes.ownedTupleHandOut (.ref z) (.ref G.objs.size)) ?_;unfold OS.SmallTypes.ownedTupleHandOut;have z6:IsZip (G.push { cls:=.type "tuple",data:=.seq #[x,y] }) z TI TO .ellipsis:=Oy _ z5;refine we (Ru z6 'z' λg7 z7 s7=>?_)
  replace z7:IsZip g7 z TI TO (PC G.objs.size):=z7
  refine Ru z7 'z' λg8 z8 s8=>?_
  replace z8:IsZip g8 z TI TO (PC G.objs.size):=z8
  have up:∀c o,c≠z->G.get? c=some o->g8.get? c=some o:=λc o c1 e=>s8.extBut _ _ c1 (s7.extBut _ _ c1 (Oy _ e));have t8:RV g8 G.objs.size x y:=s8.extBut _ _ (Rp W) (s7.extBut _ _ (Rp W) (OM _ rfl));have U:g8.objs.size=G.objs.size+1:=by rw [s8.1,s7.1,QG]
  rw [sz] at z8 t8 U;refine Oz {_,rfl,?_};show Q' (.ref G.objs.size) _;rw [sz];exact kk g8 z8 (up _ _ D.TOz t5) (a5.at λo e=>up _ o D.i1z e) (b5.at λo e=>up _ o D.i2z e) t8 U λc o c1 c2 c3 c4 e=>up c o c1 (old c o c1 c2 c3 c4 e)
 unfold Rn;exact we (Sx (P5 (name:=OA "__next__") hT F.slot_zip_next (PK F.slot_zip_next hT F.entry_zip_next (XY _ _ λh' q1 q2 q3 q4 q5 q6 q7=>Oz (k h' q1 q2 q3 q4 q5 q6 q7)) (F.args_zip_next_1 _))))
theorem Ib{z TI TO i1 i2 G l2:Addr}(hh:Hnd A s.heap)(D:ZipApart z TI TO i1 i2 G l2)(hz:IsZip s.heap z TI TO .none)(O:RV s.heap TI (.ref i1) (.ref i2))(ab:RV s.heap TO a b)(h1:s.heap.IsTupleIter i1 G k1)(WZ:s.heap.IsTuple G xs)(hx:xs[k1]?=none)(k:∀h',(∀c o,c≠z->c≠i1->s.heap.get? c=some o->h'.get? c=some o)->Q none { s with heap:=h' }):OJ (OR prog w) A (Rn (.ref z)) Q E s:=by
 have hT:s.TypeIs (.ref z) "zip":={_,hz,rfl};have XY:∀(Q':Fin->Ow->Prop)(U:Value->Ow->Prop),(∀h' e,(∀c o,c≠z->c≠i1->s.heap.get? c=some o->h'.get? c=some o)->(∃o,h'.get? e=some o/\o.cls = .type "StopIteration")->U (.ref e) { s with heap:=h' }) ->
   OJ (OR prog w) A.in1 (OS.«zip.__next__» {[.ref z],[]}) Q' U s:=by
  intro Q' U kE;refine we (m:=field (.ref z) 2) (Po hz rfl (x:=.bool false) rfl (we (m:=field (.ref z) 3) (Po hz rfl (x:=.ref TI) rfl (we (Qh O rfl (we (m:=OS.SmallTypes.ownedTupleIsFree (.ref z)) ?_))))));unfold OS.SmallTypes.ownedTupleIsFree;refine we (Po hz rfl (x:=.none) rfl (Oz ?_));simp only [if_true];refine we (QR (we (Po hz rfl (x:=.ref TO) rfl (we (Ru hz 'z' λg1 z1 s1=>?_)))));refine we ?_;simp only [List.zipIdx_cons,List.zipIdx_nil,Ub,List.forIn_nil];refine we (we (wpAny_onRaise (we (m:=OS.SmallTypes.nextOf (.ref i1)) ?_)));have S:Hnd A.in1 g1:=Hnd.keeps (h:=s.heap) hh λc o ⟨C,hC⟩ e=>s1.extBut c o (λq=>by rw [q,hz] at e;cases e;cases hC) e;refine G1 (s:={ s with heap:=g1 }) S (h1.at λo e=>s1.extBut _ o D.i1z e) (xj WZ λo e=>s1.extBut _ o D.l1z e) hx λg2 e s2 st=>?_;obtain ⟨oe,J,W⟩:=st;have Z:IsZip g2 z TI TO .ellipsis:=s2 _ _ D.i1z.symm z1;have ez:e≠z:=λq=>by rw [q,Z] at J;cases J;simp at W
  exact Ru Z 'z' λg3 _ s3=>kE g3 e (λc o c1 c2 q=>s3.extBut _ _ c1 (s2 _ _ c2 (s1.extBut _ _ c1 q))) {oe,s3.extBut _ _ ez J,W}
 unfold Rn;refine we (Sx (P5 (name:=OA "__next__") hT F.slot_zip_next (PK F.slot_zip_next hT F.entry_zip_next (XY _ _ λh' e up st=>?_) (F.args_zip_next_1 _))));obtain ⟨o,g,c⟩:=st;exact we (Sm (T:="StopIteration") (b:=true) ⟨o,g,c⟩ isSubtype_stop (Oz (k h' up)))
end
abbrev zT1(h:Heap)(z:Addr):Heap:=h.push { cls:=.type "tuple_iterator",data:=.fields #[.ref z,.int 0 0] }
abbrev zT2(h:Heap)(z F:Addr):Heap:=(zT1 h z).push { cls:=.type "list_iterator",data:=.fields #[.ref F,.int 0 0] }
abbrev zT3(h:Heap)(z F:Addr):Heap:=(zT2 h z F).push { cls:=.type "tuple",data:=.seq #[.ref h.objs.size,.ref (zT1 h z).objs.size] }
abbrev zT4(h:Heap)(z F:Addr):Heap:=(zT3 h z F).push { cls:=.type "tuple",data:=.seq #[.none,.none] }
abbrev zT5(h:Heap)(z F:Addr):Heap:=(zT4 h z F).push { cls:=.type "zip",data:=.fields #[.none,.bool false,.bool false,.ref (zT2 h z F).objs.size,.ref (zT3 h z F).objs.size] }
theorem G9(z F:Addr)(xs ys:Array Value):Meets (OS.«zip.__new__» {[.type "zip",.ref z,.ref F],[]}) (λ_ R s=>s.heap.IsTuple z xs/\s.heap.IsList F ys/\R (.ok (.ret (.ref (zT4 s.heap z F).objs.size))) { s with heap:=zT5 s.heap z F }) :=
 .of_wp λprog w A R s h=>by
  obtain ⟨O,g,d,tk,os⟩:=s;obtain ⟨S,U,h⟩:=h;have W:=sub_zip;have G:Heap.IsTuple (Ow.heap ⟨O,g,d,tk,os⟩) z xs:=S;have J:Heap.IsList (Ow.heap {O.push { cls:=.type "tuple_iterator",data:=.fields #[.ref z,.int 0 0] },g,d,tk,os}) F ys:=Heap.IsList.push U _
  wp_walk using SW G,Rg J
  exact {_,rfl,h}
section
variable {prog:OL}{w:O1}{A:O0}{E:Value->Ow->Prop}{s:Ow}
theorem K4(WZ:s.heap.IsTuple z xs)(Yd:s.heap.IsList G ys)(h:∀h',IsZip h' (s.heap.objs.size+4) (s.heap.objs.size+2) (s.heap.objs.size+3) .none->RV h' (s.heap.objs.size+2) (.ref s.heap.objs.size) (.ref (s.heap.objs.size+1)) ->
   RV h' (s.heap.objs.size+3) .none .none->h'.IsTupleIter s.heap.objs.size z 0->h'.IsListIter (s.heap.objs.size+1) G 0->h'.objs.size=s.heap.objs.size+5 ->
   (∀c o,s.heap.get? c=some o->h'.get? c=some o)->Q (.ref (s.heap.objs.size+4)) { s with heap:=h' }):OJ (OR prog w) A (call (.type "zip") [.ref z,.ref G]) Q E s:=by
 refine callType_new F.called_zip 'd' (F.typeCall_zip_2 _ _) (F.newCall_zip_2 _ _) (λobj=>F.args_object_init_3 obj _ _) F.entry_zip_new (G9 z G xs ys) {WZ,Yd,?_};have S:(zT1 s.heap z).objs.size=s.heap.objs.size+1:=QG ..;have O:(zT2 s.heap z G).objs.size=s.heap.objs.size+2:=by rw [QG,S]
 have U:(zT3 s.heap z G).objs.size=s.heap.objs.size+3:=by rw [QG,O]
 have W:(zT4 s.heap z G).objs.size=s.heap.objs.size+4:=by rw [QG,U]
 have z5:(zT5 s.heap z G).objs.size=s.heap.objs.size+5:=by rw [QG,W]
 have J:(zT5 s.heap z G).get? (zT4 s.heap z G).objs.size=some _:=OM _ rfl;have g4:(zT5 s.heap z G).get? (zT3 s.heap z G).objs.size=some _:=Oy _ (OM _ rfl);have Z:(zT5 s.heap z G).get? (zT2 s.heap z G).objs.size=some _:=Oy _ (Oy _ (OM _ rfl));have g2:(zT5 s.heap z G).get? (zT1 s.heap z).objs.size=some _:=Oy _ (Oy _ (Oy _ (OM _ rfl)));have g1:(zT5 s.heap z G).get? s.heap.objs.size=some _:=Oy _ (Oy _ (Oy _ (Oy _ (OM _ rfl))));show _/\_;rw [O,U,W] at J;rw [S,O] at Z;rw [U] at g4;rw [S] at g2;rw [W];refine {{_,J,rfl},h _ J Z g4 {_,g1,rfl,rfl} {_,g2,rfl,rfl} z5 λc o x=>?_};exact Oy _ (Oy _ (Oy _ (Oy _ (Oy _ x))))
end
def kZ(K:OF)(a b:Addr):It :=
 {λi H=>∃xs ys x y,SqT K H a xs/\SqL K H b ys/\xs[i]?=some x/\ys[i]?=some y,λi H v H'=>∃T x y,H T=none/\v = .ref T/\H'=upd H T (.tup [x,y])/\(∀xs,SqT K H a xs->xs[i]?=some x)/\∀ys,SqL K H b ys->ys[i]?=some y,
  λi H=>∃xs ys,SqT K H a xs/\SqL K H b ys/\xs.length<=i}
structure mE(z TI TO i1 i2 l1 l2:Addr)(i:Nat)(h:Heap):Prop where
 z:IsZip h z TI TO .none
 ti:RV h TI (.ref i1) (.ref i2)
 to:∃a b,RV h TO a b
 a:h.IsTupleIter i1 l1 i
 b:h.IsListIter i2 l2 i
theorem mE.keep{z TI TO i1 i2 G F:Addr}(x:mE z TI TO i1 i2 G F i h)(k:∀b∈[z,TI,TO,i1,i2],∀o,h.get? b=some o->h'.get? b=some o):mE z TI TO i1 i2 G F i h':=by
 obtain ⟨J,U,⟨u,v,O⟩,S,W⟩:=x;exact {k _ 'z' _ J,k _ 'z' _ U,{u,v,k _ 'z' _ O},S.at λo e=>k _ 'z' o e,W.at λo e=>k _ 'z' o e}
theorem JI{P:OL}{w:O1}{K:OF}{Yu:List O3}{kk:Nat}{tp:Pos}{l1 l2 z TI TO i1 i2:Addr}(D:ZipApart z TI TO i1 i2 l1 l2) :
  dW false P w K (.Tuple Yu kk tp) (kZ K l1 l2) [z,TI,TO,i1,i2] z (mE z TI TO i1 i2 l1 l2) where
 mem:=by simp
 obj:=λi h st b F=>by
  obtain ⟨a1,O,⟨u,v,a3⟩,⟨o4,J,_,d4⟩,⟨o5,U,_,d5⟩⟩:=st;simp only [OH,Pc,or_false] at F;rcases F with rfl|rfl|rfl|rfl|rfl
  .exact {_,a1,λv q=>nomatch q}
  .exact {_,O,λv q=>nomatch q}
  .exact {_,a3,λv q=>nomatch q}
  .exact {_,J,λv q=>by rw [d4] at q;cases q}
  .exact {_,U,λv q=>by rw [d5] at q;cases q}
 keep:=λi h h' st k=>st.keep k
 item:=by
  intro X hP hw hK hc i Go s σ H E I hf st hg;subst hP hw hK;obtain ⟨xs,ys,x,y,G,S,hx,hy⟩:=hg;obtain ⟨a0,Z,p1,aF⟩:=I.tuple G;obtain ⟨a8,a6,p2,a7⟩:=I.list S;obtain ⟨u1,ar,aH⟩:=Z.get hx;obtain ⟨u2,aI,aT⟩:=a6.get hy;obtain ⟨a1,O,⟨u,v,a3⟩,J,U⟩:=st;refine NJ D a1 O a3 J U p1 p2.isList (x:=u1) (y:=u2) (by simpa using ar) (by simpa using aI) λh' b1 b2 b3 b4 b5 b6 b7=>?_;refine {_,rfl,wpAny_letOwnedTupleGo_zip (s:={ s with heap:=h' }) b1 λh2 c1 c2=>?_};have ab:z<s.heap.objs.size:=O4 a1;have nz:s.heap.objs.size≠z:=Rp ab;have all:∀c o,c≠z->c≠TO->c≠i1->c≠i2->s.heap.get? c=some o->h2.get? c=some o:=λc o n1 n2 n3 n4 e=>c2.extBut c o n1 (b7 c o n1 n2 n3 n4 e);have tT:h2.get? s.heap.objs.size=some { cls:=.type "tuple",data:=.seq #[u1,u2] }:=c2.extBut _ _ nz b5;have YK:H s.heap.objs.size=none:=I.hok.fresh (Ox _);have ai:HOk X.prog X.w H h2:=λb u e=>by
   refine (I.hok b u e).UE (λc v hc q=>?_) (λ_ q=>q) λ_ _ q=>q;have W:∀d∈[z,TI,TO,i1,i2],c≠d:=λd hd w=>by
    have fd:=(hf d hd).1;rcases hc with k|k
    .rw [k] at w;rw [w,fd] at e;cases e
    .rw [w,fd] at k;cases k
   exact all c v (W z 'z') (W TO 'z') (W i1 'z') (W i2 'z') q
  have av:∀b o,s.heap.get? b=some o->b≠s.heap.objs.size:=λb o e=>Pr (O4 e);have I2:Inv X Go σ (upd H s.heap.objs.size (.tup [x,y])) { s with heap:=h2 }:=by
   refine I.step (g':=s.gens) (d':=s.drawn) (t':=s.toks) (ch:=[z,TO,i1,i2]) (λb F=>?_) (λb o _ _ F e _=>?_) (λb o _ _ F e _=>?_) (λb o _ e n=>?_) (λb o F e=>?_) (λb ps e=>?_) (λb o u e=>?_) (λb ps e=>?_) (λm hm=>?_) (ai.add YK ?_) I.bare
   .have Xx:b∈[z,TI,TO,i1,i2]:=by simp only [OH,Pc,or_false] at F ⊢;rcases F with h|h|h|h<;>simp [h]
    obtain ⟨f0,f1,f2,f3,f4,f5⟩:=hf b Xx;exact ⟨f3,f1,f4,f5⟩
   .simp only [OH,Pc,or_false,not_or] at F;exact all b o F.1 F.2.1 F.2.2.1 F.2.2.2 e
   .simp only [OH,Pc,or_false,not_or] at F;exact {o.slots,all b o F.1 F.2.1 F.2.2.1 F.2.2.2 e}
   .rw [ze (av b o e)];exact n
   .simp only [OH,Pc,or_false,not_or] at F;exact {o,all b o F.1 F.2.1 F.2.2.1 F.2.2.2 e}
   .rw [ze (zz e YK)];exact e
   .rw [ze (zz e YK)];exact e
   .exact {#[],by rw [ze (zz e YK),e];simp}
   .obtain ⟨o,es,ep,ho,r⟩:=hm;exact {o,es,ep,all _ o (Pe (hf z 'z').2.1) (Pe (hf TO 'z').2.1) (Pe (hf i1 'z').2.1) (Pe (hf i2 'z').2.1) ho,r}
   .exact {by show 2<=sizeLine;decide,[u1,u2],.cons aH (.cons aT .nil),{_,tT,rfl,_,rfl}}
  refine {.ref s.heap.objs.size,_,I2,rfl,{_,x,y,YK,rfl,rfl,λzs hz=>by rw [I.UY hz G];exact hx,λzs hz=>by rw [I.ax hz S];exact hy},?_,λb F=>?_}
  .exact {c1,c2.extBut _ _ D.TIz (b7 _ _ D.TIz D.TITO D.TIi1 D.TIi2 O),{u1,u2,c2.extBut _ _ D.TOz b2},b3.at λo e=>c2.extBut _ o D.i1z e,b4.extBut c2.extBut D.i2z}
  .have ne:b≠s.heap.objs.size:=λq=>by
    have:b<s.heap.objs.size:=by
     simp only [OH,Pc,or_false] at F;obtain ⟨o4,J,_⟩:=J;obtain ⟨o5,U,_⟩:=U;rcases F with rfl|rfl|rfl|rfl|rfl
     .exact ab
     .exact O4 O
     .exact O4 a3
     .exact O4 J
     .exact O4 U
    exact absurd (q ▸ this) (PY _)
   rw [ze ne];exact (hf b F).1
 done:=by
  intro X hP hw hK hc i Go s σ H E I hf st hg;subst hP hw hK;obtain ⟨xs,ys,G,S,hx⟩:=hg;obtain ⟨a0,Z,p1,aF⟩:=I.tuple G;have hl:=Z.length;obtain ⟨a1,O,⟨u,v,a3⟩,J,U⟩:=st;refine Ib I.hnd D a1 O a3 J p1 (by simp;lia) λh' up=>{rfl,?_};refine I.step (g':=s.gens) (d':=s.drawn) (t':=s.toks) (ch:=[z,i1]) (λb F=>?_) (λb o _ _ F e _=>?_) (λb o _ _ F e _=>?_) (λ_ _ _ _ n=>n) (λb o F e=>?_) (λ_ _ e=>e) (λ_ _ _ e=>e) (λb ps e=>{#[],by rw [e];simp}) (λm hm=>?_) (λb u e=>?_) I.bare
  .have Xx:b∈[z,TI,TO,i1,i2]:=by simp only [OH,Pc,or_false] at F ⊢;rcases F with h|h<;>simp [h]
   obtain ⟨f0,f1,f2,f3,f4,f5⟩:=hf b Xx;exact ⟨f3,f1,f4,f5⟩
  .simp only [OH,Pc,or_false,not_or] at F;exact up b o F.1 F.2 e
  .simp only [OH,Pc,or_false,not_or] at F;exact {o.slots,up b o F.1 F.2 e}
  .simp only [OH,Pc,or_false,not_or] at F;exact {o,up b o F.1 F.2 e}
  .obtain ⟨o,es,ep,ho,r⟩:=hm;exact {o,es,ep,up _ o (Pe (hf z 'z').2.1) (Pe (hf i1 'z').2.1) ho,r}
  .refine (I.hok b u e).UE (λc v hc q=>?_) (λ_ q=>q) λ_ _ q=>q;have W:∀d∈[z,TI,TO,i1,i2],c≠d:=λd hd w=>by
    have fd:=(hf d hd).1;rcases hc with k|k
    .rw [k] at w;rw [w,fd] at e;cases e
    .rw [w,fd] at k;cases k
   exact up c v (W z 'z') (W i1 'z') q
 self:=λ_ _ _ _ _ st h=>wpAny_pyIter_zip st.z h
section
variable {X:Cx}
def Al(K:OF)(ta:TA):TI:=λσ H R=>ta σ H λvs H1=>∃a b,vs=[.ref a,.ref b]/\(∃xs,SqT K H1 a xs)/\(∃ys,SqL K H1 b ys)/\R (kZ K a b) H1
theorem BA{tp p pos:Pos}(hg:Gl X "zip")(hm:X.mg "zip"=none)(G:W (PA X [a,b] ta))(hs:Pb [a,b] X.env=[(false,Qc a X.env),(false,Qc b X.env)]:=by rfl)(Xc:Pb [b] X.env=[(false,Qc b X.env)]:=by rfl):W (PIc false X (.Tuple Yu kk tp) (.Call (.Name "zip" p) [a,b] [] pos) (Al X.K ta)):=by
 refine {?_};have G:=G.h;intro Go s σ H R I h;refine Call_ (fQ I hg hm boot_zip (RH (thn (G pos Go s σ H _ I h) λus s1=>x5e λvs H1 z r1 q1=>?_) (by rw [hs,Xc]) (by rw [Xc];rfl)));obtain ⟨U,l2,e,⟨xs,h1⟩,⟨ys,h2⟩,q⟩:=q1;subst e;cases r1 with
 | cons r O =>
  cases O with
  | cons r' O =>
   cases O;cases (show _=OU U from r);cases (show _=OU l2 from r');obtain ⟨ai,av,S,_⟩:=z.tuple h1;obtain ⟨ab,ar,p2,_⟩:=z.list h2;have F:U<s1.heap.objs.size:=by obtain ⟨o,e,_⟩:=S;exact O4 e
   have J:l2<s1.heap.objs.size:=by obtain ⟨o,e,_⟩:=p2.isList;exact O4 e
   refine K4 S p2.isList λh' Z a2 a3 a4 a5 a6 a7=>wpAny_pyIter_zip (s:={ s1 with heap:=h' }) Z ?_;refine {_,_,_,_,H1,rfl,z.kept (t':=s1.toks) a7,JI (zipApart_new F J),{Z,a2,{_,_,a3},a4,a5},λb hb=>?_,q};have le:s1.heap.objs.size<=b:=by
    simp only [OH,Pc,or_false] at hb;rcases hb with rfl|rfl|rfl|rfl|rfl<;>lia
   exact z.UL le (z.hok.fresh le)
end
section
variable {K:OF}{g:TG}{tb:TS}{D:bb}{σ:St}{H:Hp}{ta:TA}{R:It->Hp->Prop}
theorem IK:Al K ta σ H R=ta σ H λvs H1=>uR2 vs λa b=>(∃xs,SqT K H1 a xs)/\(∃ys,SqL K H1 b ys)/\R (kZ K a b) H1:=by
 apply propext;constructor
 .intro h;exact h
 .intro h;exact h
theorem aC.cz(S:xs.length=ys.length)(z:Nat->St->Hp->Prop)(h0:z 0 σ H)(hl:∀i σ H,i<=xs.length->z i σ H->SqT K H a xs/\SqL K H b ys)(hs:∀i x y p σ H,xs[i]?=some x->ys[i]?=some y->z i σ H->H p=none->g (.ref p) σ (upd H p (.tup [x,y])) λO H2=>tb { D with nx:=z (i+1),ct:=z (i+1),bk:=D.nx } O H2)(hd:∀σ H,z xs.length σ H->D.nx σ H):aC (kZ K a b) g tb D σ H:=by
 refine {λi m σ H=>m=xs.length-i/\i<=xs.length/\z i σ H,{xs.length,'z',Qs _,h0},?_};rintro i m σ H ⟨rfl,hi,p⟩;obtain ⟨F,J⟩:=hl i σ H hi p;by_cases G:i<xs.length
 .refine .inr {{xs,ys,xs[i],ys[i]''l',F,J,by simp [G],by simp [S ▸ G]},z (i+1),λW H' p'=>{xs.length-(i+1),'l',rfl,G,p'},λv H' y=>?_};obtain ⟨T,x,y,U,rfl,rfl,hx,Z⟩:=y;exact hs i x y T σ _ (hx xs F) (Z ys J) p U
 .have e:i=xs.length:=by lia
  subst e;exact .inl {{xs,ys,F,J,Ox _},hd σ H p}
end
def tx(l:List Nat):Str:=⟨l.toArray⟩
def sg(z:Str):List Nat:=z.cps.toList
theorem cj(l:List Nat):sg (tx l)=l:=by simp [sg,tx]
theorem dO(z:Str):tx (sg z)=z:=by cases z;simp [sg,tx]
theorem iL(h:sg a=sg b):a=b:=by rw [<- dO a,h,dO]
theorem bX(a b:Str):sg (a++b)=sg a++sg b:=by simp [sg,Str.cps_append]
theorem zV(z:Str):(sg z).length=z.length:=by simp [sg,Str.length]
theorem fU(l:List Nat):(tx l).length=l.length:=by simp [tx,Str.length]
def c1(c:Nat):Str:={#[c]}
theorem kL:StrLaws.At x (c1 c) x.length i↔(sg x)[i]?=some c:=by
 unfold StrLaws.At;rw [StrLaws.subAt_eq];show i+1<=x.length/\((((sg x).drop i).take 1)==[c])=true↔_;rw [<- zV x];constructor
 .rintro ⟨h1,h2⟩;have h2:=eq_of_beq h2;rw [KE 'l'];have h3:((sg x).drop i).take 1=[(sg x)[i]''l']:=by
   rw [QU 'l'];rfl
  rw [h3] at h2;injection h2 with h2 _
  rw [h2]
 .intro h;obtain ⟨h1,h2⟩:=OE.mp h;refine {'l',?_};rw [QU h1,h2];simp
theorem DY(y:Str)(c:Nat):(!(OS.Str.occurrences y {#[c]} 0 y.length 1).isEmpty)=(sg y).contains c:=by
 rcases StrLaws.occ_head y (c1 c) 1 (Ox _) with ⟨h,F⟩|⟨i,r,h,z,_⟩
 .rw [show OS.Str.occurrences y {#[c]} 0 y.length 1=[] from h];symm;show (sg y).contains c=false;rw [Ry];intro G;obtain ⟨i,hi,e⟩:=PM (Qn.mp G);exact F i (kL.mpr (by rw [KE hi,e]))
 .rw [show OS.Str.occurrences y {#[c]} 0 y.length 1=i::r from h];symm;exact Qn.mpr (OX (kL.mp z))
def aP(c:Nat):List Nat->List (List Nat)
 | []=>[[]]
 | x::t=>if x=c then []::aP c t else match aP c t with
  | []=>[[x]]
  | h::r=>(x::h)::r
def fB(p:List Nat):List (List Nat)->List (List Nat)
 | []=>[p]
 | h::r=>(p++h)::r
theorem gL(c:Nat):∀l,∃h r,aP c l=h::r
 | []=>{_,_,rfl}
 | x::t=>by
  unfold aP;split
  .exact {_,_,rfl}
  .obtain ⟨h,r,e⟩:=gL c t;rw [e];exact {_,_,rfl}
theorem iP(c x:Nat)(t:List Nat)(h:x≠c):aP c (x::t)=fB [x] (aP c t):=by
 obtain ⟨a,r,e⟩:=gL c t;show (if x=c then _ else _)=_;rw [if_neg h,e];rfl
theorem Bx(p q:List Nat)(l:List (List Nat)):fB p (fB q l)=fB (p++q) l:=by
 cases l<;>simp [fB]
theorem rR(s:Str)(c hi F:Nat):∀(l:List Nat)(st:Array Nat×Nat),(∀i∈l,st.2<=i)->l.Pairwise (· < ·)->st.1.size+l.length<=F ->
  (forIn l st (StrLaws.occBody s (c1 c) hi F)).run.fst.toList=st.1.toList++l.filter λi=>decide (i+1<=hi)&&OS.Str.subAt s (c1 c) i
 | [],st,_,_,_=>by simp
 | a::l,st,h1,h2,h3=>by
  rw [Ub];unfold StrLaws.occBody;have O:=h1 a (OT ..);rw [Ql] at h2;simp only [PQ] at h3;split
  .rename_i z;have J:=rR s c hi F l (st.1.push a,a+(c1 c).length) (λi hi=>by have:=h2.1 i hi;show a+1<=i;lia) h2.2 (by simp;lia);have G:(decide (a+1<=hi)&&OS.Str.subAt s (c1 c) a)=true:=by rw [Pm];exact {decide_eq_true z.1.2,z.2}
   rw [filter_cons,G,if_pos rfl];refine Eq.trans J ?_;simp
  .rename_i z;have J:=rR s c hi F l st (λi hi=>h1 i (OI _ hi)) h2.2 'l';have G:(decide (a+1<=hi)&&OS.Str.subAt s (c1 c) a)=false:=by
    rw [Ry];intro h;rw [Pm] at h;exact z {{{'l',O},of_decide_eq_true h.1},h.2}
   rw [filter_cons,G,if_neg 'z'];exact J
theorem uD(x:Str)(c:Nat):OS.Str.occurrences x (c1 c) 0 x.length (x.length+1)=(range' 0 (x.length+1)).filter λi=>(sg x)[i]? == some c:=by
 rw [StrLaws.occ_eq];rw [rR x c x.length (x.length+1) _ _ (λ_ _=>Qs _) (List.pairwise_lt_range' (s:=0) (n:=x.length+1-0)) 'z'];simp only [T7,Nat.sub_zero];refine List.filter_congr λi _=>?_;rw [RE];have:=kL (x:=x) (c:=c) (i:=i);unfold StrLaws.At at this;rw [Pm,decide_eq_true_eq,beq_iff_eq];exact this
theorem qH(x:Str)(c:Nat):∀(k a i:Nat),i+k=x.length->a<=i->StrLaws.partsFrom x 1 a ((range' i (k+1)).filter λi=>(sg x)[i]? == some c)=(fB (((sg x).drop a).take (i-a)) (aP c ((sg x).drop i))).map tx
 | 0,a,i,h,J=>by
  have hl:=zV x;have G:(sg x)[i]?=none:=QQ 'l';have O:(sg x).drop i=[]:=Qr 'l';have S:(range' i (0+1)).filter (λi=>(sg x)[i]? == some c)=[]:=by
   show List.filter _ [i]=[];rw [filter_cons,G];rfl
  rw [O,S];show [OS.Str.strSub x a x.length]=[tx _];refine congrArg (·::[]) (iL ?_);rw [cj];show (OS.Str.strSub x a x.length).cps.toList=_;rw [StrLaws.strSub_toList,show x.length=i by lia];simp [aP,sg]
 | k+1,a,i,h,J=>by
  have hl:=zV x;have hi:i<(sg x).length:=by lia
  have F:(sg x)[i]?=some ((sg x)[i]):=KE hi;have U:(sg x).drop i=(sg x)[i]::(sg x).drop (i+1):=QU hi;rw [List.range'_succ,filter_cons,F,U];by_cases z:(sg x)[i]=c
  .rw [if_pos (by simp [z])];have ih:=qH x c k (i+1) (i+1) 'l' (Ox _);show OS.Str.strSub x a i::StrLaws.partsFrom x 1 (i+1) _=_;rw [ih];have Z:aP c ((sg x)[i]::(sg x).drop (i+1))=[]::aP c ((sg x).drop (i+1)):=by
    show (if _=c then _ else _)=_;rw [if_pos z]
   rw [Z];obtain ⟨p,r,e⟩:=gL c ((sg x).drop (i+1));rw [e];simp only [SO,List.take_zero,fB,T7,Qe,Pf];refine congrArg (·::_) (iL ?_);rw [cj];exact StrLaws.strSub_toList x a i
  .rw [if_neg (by simp [z])];rw [qH x c k a (i+1) 'l' 'l',iP c _ _ z,Bx];have W:((sg x).drop a).take (i+1-a)=((sg x).drop a).take (i-a)++[(sg x)[i]]:=by
    rw [show i+1-a=(i-a)+1 by lia,O6];congr 1;rw [Td,show a+(i-a)=i by lia,F];rfl
   rw [W]
theorem uu:∀{l:List Nat},c∉l->aP c l=[l]
 | [],_=>rfl
 | x::t,h=>by
  rw [OH,not_or] at h;rw [iP c x t (Pe h.1),uu h.2];rfl
theorem l4(x:Str)(O:c<128):Pu x (c1 c)=(aP c (sg x)).map tx:=by
 have J:OS.Str.strKind (c1 c)=1:=by
  unfold OS.Str.strKind;rw [if_pos];show (#[c]:Array Nat).all (· < 256)=true;simp;lia
 have z : ¬ OS.Str.strKind x<OS.Str.strKind (c1 c):=by
  rw [J];unfold OS.Str.strKind;split<;>(try split)<;>lia
 have F:c∉sg x->[x]=(aP c (sg x)).map tx:=λh=>by rw [uu h];show [x]=[tx (sg x)];rw [dO]
 unfold Pu;split
 .rename_i h;rw [decide_eq_false z,RX,decide_eq_true_eq] at h;have h:x.length<1:=h;rw [<- zV] at h;refine F ?_;have G:sg x=[]:=SH 'l';rw [G];exact Pc
 .split
  .rename_i h;refine F λhm=>?_;obtain ⟨i,hi,e⟩:=PM hm;rw [uD] at h;have:i∈(range' 0 (x.length+1)).filter λi=>(sg x)[i]? == some c:=by
    rw [Ul];refine {?_,by rw [KE hi,e];simp};rw [List.mem_range'_1];rw [zV] at hi;lia
   rw [List.isEmpty_iff.mp h] at this;exact absurd this Pc
  .rw [StrLaws.partsBetween_eq,uD];show StrLaws.partsFrom x 1 0 _=_;rw [qH x c x.length 0 0 'l' (Ox _)];simp only [SO,List.take_zero,Uq];obtain ⟨h,r,e⟩:=gL c (sg x);rw [e];rfl
theorem i4:∀(w:List Nat)(ws:List (List Nat)),(∀v∈w::ws,c∉v)->aP c (w++(ws.map (c::·)).flatten)=w::ws
 | [],[],_=>rfl
 | [],v::ws,h=>by
  have F:=i4 v ws λu z=>h u (OI _ z);show aP c (c::(v++(ws.map (c::·)).flatten))=_;show (if c=c then _ else _)=_;rw [if_pos rfl,F]
 | x::w,ws,h=>by
  have hx:=h _ (OT ..);rw [OH,not_or] at hx;have F:=i4 w ws λu z=>by
   rcases OH.mp z with rfl|z
   .exact hx.2
   .exact h u (OI _ z)
  show aP c (x::(w++(ws.map (c::·)).flatten))=_;rw [iP c x _ (Pe hx.1),F];rfl
theorem o6(x:Str)(c hi:Nat):∀(l:List Nat)(st:Option Nat),(forIn l st (λi r=>if (decide (i+(c1 c).length<=hi)&&OS.Str.subAt x (c1 c) i)=true then (pure (ForInStep.yield (some i)):Id _) else pure (ForInStep.yield r))).run =
  l.foldl (λZT i=>if (decide (i+1<=hi)&&OS.Str.subAt x (c1 c) i)=true then some i else ZT) st
 | [],st=>rfl
 | a::l,st=>by
  rw [Ub,Uc];show _=l.foldl _ (if (decide (a+(c1 c).length<=hi)&&OS.Str.subAt x (c1 c) a)=true then some a else st);split
  .exact o6 x c hi l _
  .exact o6 x c hi l _
theorem uG(x:Str)(c:Nat):OS.Str.lastOccurrence x (c1 c) 0 x.length=(range' 0 (x.length+1)).foldl (λZT i=>if (sg x)[i]?=some c then some i else ZT) none:=by
 have e:OS.Str.lastOccurrence x (c1 c) 0 x.length=(forIn (range' 0 (x.length+1)) none (λi r=>if (decide (i+(c1 c).length<=x.length)&&OS.Str.subAt x (c1 c) i)=true then (pure (ForInStep.yield (some i)):Id _) else pure (ForInStep.yield r))).run:=by
  unfold OS.Str.lastOccurrence;simp
 rw [e,o6];congr 1;funext ZT i;have:=kL (x:=x) (c:=c) (i:=i);unfold StrLaws.At at this;by_cases h:(sg x)[i]?=some c
 .rw [if_pos h,if_pos];rw [Pm,decide_eq_true_eq];exact this.mpr h
 .rw [if_neg h,if_neg];intro q;rw [Pm,decide_eq_true_eq] at q;exact h (this.mp q)
theorem rm{p:Nat->Prop} [DecidablePred p]:∀(l:List Nat)(a:Option Nat),(∀i∈l,¬ p i)->l.foldl (λZT i=>if p i then some i else ZT) a=a
 | [],_,_=>rfl
 | x::l,a,h=>by
  rw [Uc,if_neg (h x (OT ..))];exact rm l a λi hi=>h i (OI _ hi)
theorem FB(h:sg x=a++c::b)(F:c∉b):RY x (c1 c)=a.length:=by
 have hl:x.length=a.length+(b.length+1):=by rw [<- zV,h];simp
 have e:OS.Str.lastOccurrence x (c1 c) 0 x.length=some a.length:=by
  rw [uG,show x.length+1=a.length+((b.length+1)+1) by lia,<- List.range'_append_1,RS,List.range'_succ,Uc];rw [if_pos (by rw [h];simp),Nat.zero_add];refine rm (p:=λi=>(sg x)[i]?=some c) _ _ λi hi=>?_;rw [List.mem_range'_1] at hi;intro q;rw [h,PP 'l'] at q;obtain ⟨j,z⟩:∃j,i-a.length=j+1:={i-a.length-1,'l'};rw [z,Sa] at q;exact F (OX q)
 show (match OS.Str.lastOccurrence x (c1 c) 0 x.length with|some i=>(i:Int)|none=>-1)=_;rw [e]
theorem Dr(h:c∉sg x):RY x (c1 c) = -1:=by
 have e:OS.Str.lastOccurrence x (c1 c) 0 x.length=none:=by
  rw [uG];exact rm (p:=λi=>(sg x)[i]?=some c) _ _ λi _ q=>h (OX q)
 show (match OS.Str.lastOccurrence x (c1 c) 0 x.length with|some i=>(i:Int)|none=>-1)=_;rw [e]
theorem mi(h:j<=(sg x).length):P3 x none (some (j:Int))=tx ((sg x).take j):=by
 have e:=StrLaws.sliceText_to (x:=x) (j:=(j:Int)) {'l',by simpa [sg] using h};refine Eq.trans (show P3 x none (some (j:Int))=StrLaws.sliceText x none (some (j:Int)) from rfl) (e.trans ?_);show tx _=tx _;simp [sg]
theorem oU(h:0<(sg x).length):P3 x none (some (-1))=tx ((sg x).dropLast):=by
 rw [zV] at h;have e:=StrLaws.sliceText_to_neg (x:=x) (j:=-1) 'l' 'l';refine Eq.trans (show P3 x none (some (-1))=StrLaws.sliceText x none (some (-1)) from rfl) (e.trans ?_);show tx _=tx _;rw [List.dropLast_eq_take,zV,Uq,show (-1+(x.length:Int)-0).toNat=x.length-1 by lia];rfl
theorem iF(m:Nat):sg (toString ((m:Nat):Int):Str)=(Um 10 m).map Char.toNat:=PySem.W.KIN.signs_num m
section
variable {X:Cx}{tg:O3}
def rX(K:OF)(tl:TE):TI:=λσ H R=>tl σ H λx H1=>uR x λa=>(∃xs,SqL K H1 a xs/\R (Itl K a) H1)\/∃xs,SqT K H1 a xs/\R (Itt K a) H1
theorem Nc{K:OF}:rX K tl σ H R=tl σ H λx H1=>uR x λa=>(∃xs,SqL K H1 a xs/\R (Itl K a) H1)\/∃xs,SqT K H1 a xs/\R (Itt K a) H1:=rfl
theorem EH(hl:PE X l tl):PIc true X tg l (rX X.K tl):=by
 intro Go s σ H R I h;refine thn (hl Go s σ H _ I h) λv s1=>x5e λx H1 z S G=>?_;obtain ⟨a,e,G⟩:=G;subst e;cases S;rcases G with ⟨xs,F,q⟩|⟨xs,F,q⟩
 .obtain ⟨its,O,p,hz⟩:=z.list F;refine Rg p.isList {s1.heap.objs.size,[s1.heap.objs.size],_,_,H1,rfl,z.kept (t':=s1.toks) λb o e=>Oy _ e,wX a _,{_,OM _ rfl,rfl,rfl},λb J=>?_,q};have e:b=s1.heap.objs.size:=by simpa using J
  subst e;exact z.UL (Ox _) (z.hok.fresh (Ox _))
 .obtain ⟨its,O,p,hz⟩:=z.tuple F;refine SW (show s1.heap.IsTuple a its.toArray from p) {s1.heap.objs.size,[s1.heap.objs.size],_,_,H1,rfl,z.kept (t':=s1.toks) λb o e=>Oy _ e,An a _,{_,OM _ rfl,rfl,rfl},λb J=>?_,q};have e:b=s1.heap.objs.size:=by simpa using J
  subst e;exact z.UL (Ox _) (z.hok.fresh (Ox _))
theorem CJ(hl:W (PE X l tl)):W (PIc true X tg l (rX X.K tl)):={EH hl.h}
end
section
variable {K:OF}{g:TG}{tt:TT}{te:TE}{H:Hp}{Q:VK}{R:It->Hp->Prop}
theorem aN.tup{a:Addr}{xs:List V}{τ:St}(F:Nat->St->List V->Hp->Prop)(hz:∀i τ ys H,F i τ ys H->ys.length<sizeLine)(O:∀i τ ys H,F i τ ys H->SqT K H a xs)(U:F 0 τ [] H)
  (hs:∀(N:St->List V->Hp->Prop) i x τ ys H,xs[i]?=some x->F i τ ys H->(∀τ ys H,F (i+1) τ ys H->N τ ys H)->g x τ H λz H4=>tt z H4 λok H5=>eK N ys z te ok H5) (hd:∀τ ys H,F xs.length τ ys H->∀D H',New H D (.lst ys) H'->Q (.ref D) H'):aN (Itt K a) g tt te τ H Q:=by
 refine {λi m τ ys H=>m=xs.length-i/\i<=xs.length/\F i τ ys H,{xs.length,'z',Qs _,U},?_};rintro i m τ ys H2 ⟨rfl,hi,p⟩;refine {hz i τ ys H2 p,?_};have q:=O i τ ys H2 p;by_cases G:i<xs.length
 .refine .inr {{xs,xs[i],q,by simp [G]},λx H' y=>?_};obtain ⟨e,y⟩:=y;subst e;exact hs (λz ys H=>∃J,J<xs.length-i/\J=xs.length-(i+1)/\i+1<=xs.length/\F (i+1) z ys H) i x τ ys _ (y xs q) p λz zs H q=>{xs.length-(i+1),'l',rfl,G,q}
 .have e:i=xs.length:=by lia
  subst e;exact .inl {{xs,q,Ox _},λD S _=>hd τ ys H2 p D _ (.mk' S)}
theorem NC{H:Hp}{Q:VK}:dX c (.ref a) .non H Q=Q (.bl (if c then true else false)) H:=by simp [dX]
theorem DZ{H:Hp}{Q:VK}:dX c (.str a) .non H Q=Q (.bl (if c then true else false)) H:=by simp [dX]
theorem cJ(z:Str):asc z=(sg z).all (· < 128):=by simp [asc,sg]
end
def um(h:Heap)(e:Addr):Prop:=∃oe vs T,h.get? e=some oe/\oe.data = .fields vs/\vs[1]?=some (OU T)
section
variable {M:Model}{A:O0}{E:Value->Ow->Prop}{s:Ow}{B:Heap}{env:Env}{outer l:List Env}{L e:Addr}{cls fl:Value}
theorem Ad(YK:A.frames=some (env::outer))(hf:env.frame=some L)(st:B.StaysIn s.heap)(Z:B.get? e=none)(hl:s.heap.FunFrames B (env::outer))(J:s.heap.get? e=some oe)(hc:oe.cls=cls)(YC:oe.dict=none)(hd:oe.data = .fields vs)(hz:2<vs.size)(h2:vs[2]?=some .none)(k:∀h',bH B (env::outer) e cls (PC L) h'->um h' e->s.heap.UpToSlots h'->Q () { s with heap:=h' }):
  OJ M A (do let a<-frameOf env;let pl<-entryPlaceOf L S;let b<-EntryCells.newEntry head a .none (PC L) .none pl;RK (.ref e) 1 b) Q E s:=by
 have O:e∉(env::outer).filterMap (·.frame):=λz=>by
  obtain ⟨_,o,ho,F⟩:=hl.mem z;rw [J] at ho;cases ho;exact F vs hd
 refine we (wpAny_frameOf_fun YK hl hf λg only=>?_);obtain ⟨_,same,slots⟩:=only;refine we (wpAny_entryPlaceOf λpl Yc=>?_);have key:∀(tb:Obj)(ts:Array Value),tb.data = .fields ts->ts[3]?=some (PC L)->OJ M A (RK (.ref e) 1 (.ref g.objs.size)) Q E { s with heap:=g.push tb }:=by
  intro tb ts td t3;have W:g.get? e=some oe:=(same e O).trans J;have G:(g.push tb).get? e=some oe:=Oy _ W;have hT:(g.push tb).get? g.objs.size=some tb:=OM _ (by rw [P9 td]);have U:g.objs.size≠e:=Rp (O4 W);have fresh:B.get? g.objs.size=none:=by
   cases q:B.get? g.objs.size with
   | none=>rfl
   | some o =>
    obtain ⟨sl,z⟩:=slots _ o (st _ o q);exact absurd (O4 z) (PY _)
  have up:∀b o,b≠e->g.get? b=some o->((g.push tb).update e (R7 (·.setIfInBounds 1 (.ref g.objs.size)))).get? b=some o:=λb o hb q =>
   (O5 _ _ (Pe hb)).trans (Oy _ q)
  have W6:∀b o,s.heap.get? b=some o->(∀ws,o.data≠.fields ws)->b≠e:=λb o q F z=>by
   rw [z,J] at q;cases q;exact F vs hd
  have dd:=QD hd (·.setIfInBounds 1 (OU g.objs.size));refine PL G hd 'l' (k _ {λb o q=>?_,Z,?_,?_} {_,_,g.objs.size,PD _ G (P9 dd),dd,by rw [PU 'l']} λb o q F=>?_)
  .refine up b o (λz=>by rw [z,Z] at q;cases q) ((same b λz=>?_).trans (st b o q));rw [(hl.mem z).1] at q;cases q
  .refine hl.of_keeps λb o q F=>?_;obtain ⟨sl,z⟩:=slots b o q;exact {_,up b _ (W6 b o q F) z,rfl}
  .refine {_,_,PD _ G (P9 dd),(RW _ _).trans hc,(xp _ _).trans YC,dd,by simpa using hz,by rw [Sk 'd'];exact h2,.inr {g.objs.size,tb,ts,?_,fresh,U,?_,td,t3}}
   .rw [PU 'l']
   .rw [O5 _ _ (Pe U)];exact hT
  .obtain ⟨sl,z⟩:=slots b o q;exact {sl,up b _ (W6 b o q F) z}
 unfold EntryCells.newEntry newFields;refine we (Pt ?_ (Yc.sizeOk5 _ _ _ _ _));exact key _ _ rfl 'z'
theorem E1(YK:A.frames=some (env::outer))(hf:env.frame=some L)(x:bH B (env::outer) e cls fl s.heap)(k:∀h',bH B (env::outer) e cls (PC L) h'->um h' e->s.heap.UpToSlots h'->Q () { s with heap:=h' }):OJ M A (Sr (.ref e) env) Q E s:=by
 obtain ⟨st,W,hl,oe,vs,F,Z,U,hd,hz,h2,h1⟩:=x;unfold Sr;simp only [hf];rcases h1 with h1|⟨T,oT,ts,h1,nT,Te,O,dT,t3⟩
 .refine we (Po F hd h1 ?_);rw [if_neg (show ¬ ((Pw != Pw)=true) by decide)];exact Ad YK hf st W hl F Z U hd hz h2 k
 .refine we (Po F hd h1 ?_);rw [if_pos (show (OU T != Pw)=true by simp)];refine we (Po O dT t3 ?_);by_cases J:fl=PC L
  .subst J;rw [if_pos (show (PC L==PC L)=true by simp)];exact Oz (k s.heap {st,W,hl,oe,vs,F,Z,U,hd,hz,h2,.inr ⟨T,oT,ts,h1,nT,Te,O,dT,t3⟩} ⟨oe,vs,T,F,hd,h1⟩ (UpToSlots.refl _))
  .rw [if_neg (show ¬ ((fl==PC L)=true) by simpa using J)];refine we (PL O dT (PN.mp t3).1 ?_);have S:∀b,b≠T->(s.heap.update T (R7 (·.setIfInBounds 3 Pw))).get? b=s.heap.get? b:=λb hb=>O5 _ _ (Pe hb);have Yn:∀b o,s.heap.get? b=some o->(∀ws,o.data≠.fields ws)->b≠T:=λb o q G z=>by
    rw [z,O] at q;cases q;exact G ts dT
   refine Ad (B:=B) (cls:=cls) YK hf (λb o q=>?_) W (hl.of_keeps λb o q G=>{o,(S b (Yn b o q G)).trans q,rfl}) ((S e (Pe Te)).trans F) Z U hd hz h2 λh' y ht up=>k h' y ht λb o q G=>up b o ((S b (Yn b o q G)).trans q) G;exact (S b λz=>by rw [z,nT] at q;cases q).trans (st b o q)
theorem GY(x:bH B l e cls fl s.heap)(k:∀h',bH B l e cls (PC L) h'->s.heap.UpToSlots h'->Q () { s with heap:=h' }):OJ M A (setFlight (.ref e) (some L)) Q E s:=by
 obtain ⟨st,W,hl,oe,vs,J,Z,U,hd,hz,h2,h1⟩:=x;unfold setFlight;rcases h1 with h1|⟨T,oT,ts,h1,nT,Te,S,dT,t3⟩
 .refine we (Po J hd h1 ?_);rw [if_neg (show ¬ ((Pw != Pw)=true) by decide)];exact Oz (k s.heap {st,W,hl,oe,vs,J,Z,U,hd,hz,h2,.inl h1} (UpToSlots.refl _))
 .refine we (Po J hd h1 ?_);rw [if_pos (show (OU T != Pw)=true by simp)];have F:3<ts.size:=(PN.mp t3).1;have dd:=QD dT (·.setIfInBounds 3 (PC L));have O:∀b,b≠T->(s.heap.update T (R7 (·.setIfInBounds 3 (PC L)))).get? b=s.heap.get? b:=λb hb=>O5 _ _ (Pe hb);have Yn:∀b o,s.heap.get? b=some o->(∀ws,o.data≠.fields ws)->b≠T:=λb o q G z=>by
   rw [z,S] at q;cases q;exact G ts dT
  refine PL S dT F (k _ {λb o q=>(O b λz=>by rw [z,nT] at q;cases q).trans (st b o q),W,hl.of_keeps λb o q G=>{o,(O b (Yn b o q G)).trans q,rfl},oe,vs,(O e (Pe Te)).trans J,Z,U,hd,hz,h2,
   .inr {T,_,_,h1,nT,Te,PD _ S (P9 dd),dd,?_}} λb o q G=>{o.slots,(O b (Yn b o q G)).trans q})
  rw [PU F]
end
def vK(X:Cx)(Ex:Addr->St->Hp->Prop):Value->Ow->Prop:=λe s'=>∃(ea C:Addr)(B:Heap)(H':Hp)(fl:Value)(σ:St)(z:Ow)(Go:List (Addr×Obj)),e = .ref ea/\Inv X Go σ H' z/\bH B X.stack ea (.ref C) fl s'.heap /\
 s'.os=z.os/\RI s'.gens/\(∀b o,z.heap.get? b=some o->b∉frs X.stack->B.get? b=some o)/\z.heap.UpToSlots s'.heap/\Ex C σ H'
abbrev cxF(X:Cx)(Ex:Addr->St->Hp->Prop):Cx:=X.UD (vK X Ex)
theorem FF:dw (cxF X Ex) Ex:=λps σ H z ea C B fl s' I y os bare F up q =>
 {ea,C,B,H,fl,σ,z,ps,rfl,I.ri,y,os,bare,F,up,q}
theorem Kn(hst:X.stack=X.env::X.outer)(G:X.Ok->X.A.frames=some (X.env::X.outer))(F:X.env.frame=some L):Qp (OR X.prog X.w) X.A X.env (vK X Ex):=by
 rintro e s' ⟨ea,C,B,H',fl,σ,W,Go,rfl,I,y,os,bare,Z,up,q⟩;have fr:=G I.ok;rw [hst] at y;refine E1 fr F y λh1 S J u1=>?_;obtain ⟨oe,vs,T,g1,U,O⟩:=J;refine we (Po g1 U O ?_);rw [if_neg (show ¬ ((OU T==Pw)=true) by simp)];rw [F];refine GY (s:={ s' with heap:=h1 }) S λh2 z u2=>?_;rw [<- hst] at z;exact {ea,C,B,H',_,σ,W,Go,rfl,I,z,os,bare,Z,(up.trans u1).trans u2,q}
theorem PS.cL{st:Stmt}{t:TS}(T:dw X Ex)(h:PS (cxF X Ex) st t):PS X st t:=λGo s σ H D I hw =>
 Pp (h Go s σ H D (I.UD _) hw) (λ_ _ q=>q.ri) <| by
  rintro e s' ⟨ea,C,B,H',fl,z,J,ps,F,G,y,os,bare,O,up,q⟩;subst F;exact T ps z H' J ea C B fl s' G y os bare O up q
theorem DC{st:Stmt}{t:TS}(T:dw X Ex)(h:W (PS (cxF X Ex) st t)):W (PS X st t):={PS.cL T h.h}
section
variable {X:Cx}
def gR:List V->Hp->VK->Prop:=λxs H Q=>gU xs H Q\/∃b:Bool,xs=[.bl b]/\Q (.str (if b then "True" else "False")) H
theorem MT:zO X (.type "str") gR:=by
 intro Go s σ H xs us Q I r h;rcases h with h|⟨b,rfl,q⟩
 .exact dv Go s σ H xs us Q I r h
 .cases r with
  | cons z F =>
   cases F;cases (show _=RN b from z);exact PySem.P.str_of_bool {.str _,H,I.tok _,{_,by cases b<;>rfl},q}
theorem J0:gR [.int i] H Q=(i.natAbs.log2<1920/\Q (.str (toString i)) H):=by simp [gR,vP]
theorem De:gR [.str z] H Q=Q (.str z) H:=by simp [gR,tN]
theorem Hi:gR [.bl b] H Q=Q (.str (if b then "True" else "False")) H:=by simp [gR,gU,gq]
end
theorem BM(ai:X.N.Nodup)(ar:X.N[i0]?=some z)(G:Loc X.env.scope z)(hc:c=true->X.calm=true)(L:zY X sc N' ix)(hi:PIc c X tg iter wi)(hg:∀Go C fp s H,PG (zA X sc N' Go C fp s H) tg g)(ht:∀Go C fp s H,PTs (zA X sc N' Go C fp s H) F tt)(he:∀Go C fp s H,PE (zA X sc N' Go C fp s H) Zc te)(hs:∀x,Pj iter X.env x=pure x:=by intro _;rfl)(J:SR (.ListComp Zc [{tg,iter,F,0}] sc pos) (some (.Name z Zt)) S.line X.env=pure true:=by rfl)(ab:X.fn z=true\/X.env.scope.names.lookup z=some .local:=by first|exact .inl rfl|exact .inr rfl|assumption):
  PS X (.Assign [.Name z Zt] (.ListComp Zc [{tg,iter,F,0}] sc pos) S) (gz (tLC ix wi g tt te) (cN i0)):=by
 intro Go s σ H Z I h;rw [exec_Assign_Name_used z Zt _ S J];refine we (Qi (we ?_));rw [arm_evalThenUse_ListComp];show OJ (OR X.prog X.w) X.A (Sz (.ListComp Zc [{tg,iter,F,0}] sc pos) sc X.env (SN [{tg,iter,F,0}] pos) (newList []) (Ud [{tg,iter,F,0}]) (firstIter [{tg,iter,F,0}] X.env) (some (S8 (.Name z Zt) X.env))>>=λ_=>pure ()) _ _ _;refine we (yf hc L hi hg ht he hs I h λC D oC H' s5 m5 IX ns tu q=>?_);refine thn (nQ ai ar G ab (Go++[(C,oC)]) s5 σ H' (.ref D) (.ref D) Z.nx IX rfl q) λ_ s6=>x4e λW H6 O q6=>?_;obtain ⟨p6,U,_⟩:=O.pin (C,oC) (OG _ (OG _ (ON.mpr rfl)));exact {m5,ns p6,λh' Xo=>Oz (Oz {W,H6,tu (O.xy λp hp=>O.pin p (OG _ (Pz _ hp))) U Xo,q6})}
theorem nC(U:X.N.Nodup)(S:X.N[i0]?=some z)(F:Loc X.env.scope z)(hc:c=true->X.calm=true)(L:zY X sc N' ix)(hi:W (PIc c X tg iter wi))(hg:∀Go C fp s H,W (PG (zA X sc N' Go C fp s H) tg g))(ht:∀Go C fp s H,W (PTs (zA X sc N' Go C fp s H) J tt))(he:∀Go C fp s H,W (PE (zA X sc N' Go C fp s H) Zc te))(hs:∀x,Pj iter X.env x=pure x:=by intro _;rfl)(G:SR (.ListComp Zc [{tg,iter,J,0}] sc pos) (some (.Name z Zt)) Z.line X.env=pure true:=by rfl)(O:X.fn z=true\/X.env.scope.names.lookup z=some .local:=by first|exact .inl rfl|exact .inr rfl|assumption):
  W (PS X (.Assign [.Name z Zt] (.ListComp Zc [{tg,iter,J,0}] sc pos) Z) (gz (tLC ix wi g tt te) (cN i0))) :=
 {BM U S F hc L hi.h (λa b c d e=>(hg a b c d e).h) (λa b c d e=>(ht a b c d e).h) (λa b c d e=>(he a b c d e).h) hs G O}
section
variable {κ:Type} [DecidableEq κ]
def ag(kvs:List (κ×V))(k:κ):Option V:=(kvs.find? λz=>decide (z.1=k)).map (·.2)
def aA(kvs:List (κ×V))(k:κ)(v:V):List (κ×V) :=
 if (kvs.any λz=>decide (z.1=k))=true then kvs.map (λz=>if z.1=k then (z.1,v) else z) else kvs++[(k,v)]
theorem iT{p:κ×V}{k:κ}(e:p.1=k):ag (p::r) k=some p.2:=by simp [ag,RZ,e]
theorem h9{p:κ×V}{k:κ}(e : ¬ p.1=k):ag (p::r) k=ag r k:=by simp [ag,RZ,e]
theorem sv(k:κ):∀kvs:List (κ×V),(kvs.any λz=>decide (z.1=k))=(ag kvs k).isSome
 | []=>rfl
 | p::r=>by
  rw [Ta];by_cases e:p.1=k
  .simp only [iT e,decide_eq_true e,Bool.true_or,isSome_some]
  .rw [h9 e,decide_eq_false e,Bool.false_or];exact sv k r
theorem pU(kvs:List (κ×V))(k:κ)(v:V):(aA kvs k v).length<=kvs.length+1:=by
 unfold aA;split
 .rw [OB];lia
 .rw [Pa,PQ,S3];lia
theorem bU.UK{o:Option V}(r:bU o u):o.isSome=u.isSome:=by
 cases o with
 | none=>cases u with
  | none=>rfl
  | some _=>exact (show False from r).elim
 | some _=>cases u with
  | none=>exact (show False from r).elim
  | some _=>rfl
theorem bU.getD{o:Option V}{d:V}(r:bU o u)(z:zo d d'):zo (o.getD d) (u.getD d'):=by
 cases o with
 | none=>cases u with
  | none=>exact z
  | some _=>exact (show False from r).elim
 | some _=>cases u with
  | none=>exact (show False from r).elim
  | some _=>exact r
theorem KV.val(r:KV kvs vs)(k:κ):bU (ag kvs k) (T1 vs k):=by
 unfold KV at r
 induction r with
 | nil=>exact True.intro
 | @cons p q ps G h t J =>
  obtain ⟨h1,h2⟩:=h;by_cases e:p.1=k
  .have F:q.1=k:=h1.symm.trans e;have b:T1 (q::G) k=some q.2:=by simp [T1,RZ,F]
   rw [iT e,b];exact h2
  .have F : ¬ q.1=k:=λz=>e (h1.trans z);have b:T1 (q::G) k=T1 G k:=by simp [T1,RZ,F]
   rw [h9 e,b];exact J
theorem KV.any(r:KV kvs vs)(k:κ):(kvs.any λz=>decide (z.1=k))=vs.any λz=>decide (z.1=k):=by
 unfold KV at r
 induction r with
 | nil=>rfl
 | cons h t F=>rw [Ta,Ta,F,h.1]
theorem KV.bq(r:KV kvs vs)(k:κ)(G:zo y u):
  KV (kvs.map λF=>if F.1=k then (F.1,y) else F) (vs.map λF=>if F.1=k then (F.1,u) else F):=by
 unfold KV at r ⊢
 induction r with
 | nil=>exact .nil
 | @cons p q ps O h t J =>
  rw [Pf,Pf];refine .cons ?_ J;obtain ⟨h1,h2⟩:=h;by_cases e:p.1=k
  .rw [if_pos e,if_pos (h1.symm.trans e)];exact ⟨h1,G⟩
  .rw [if_neg e,if_neg (λz=>e (h1.trans z))];exact ⟨h1,h2⟩
theorem KV.put(r:KV kvs vs)(k:κ)(z:zo y u):KV (aA kvs k y) (stored vs k u):=by
 unfold aA stored;rw [r.any k];by_cases e:(vs.any λF=>decide (F.1=k))=true
 .rw [if_pos e,if_pos e];exact r.bq k z
 .rw [if_neg e,if_neg e];exact Paired.snoc r {rfl,z}
theorem KV.length{kvs:List (κ×V)}{vs:List (κ×Value)}(r:KV kvs vs):kvs.length=vs.length:=Paired.length r
end
theorem fN{k:Key}(r:zo (kV k) u):(ax P w).is k u=true:=by
 cases k with
 | inl i=>obtain ⟨t,e⟩:=(show ∃t,u=Rr i t from r);subst e;exact Jv P w i t
 | inr x=>obtain ⟨t,e⟩:=(show ∃t,u=SU x t from r);subst e;exact lU P w x t
theorem uF:∀{ks:List Key}{us:List Value},zt (ks.map kV) us->ItemsAre (ax P w) ks us
 | [],_,r=>by rw [map_nil] at r;cases r;exact .nil
 | k::ks,_,r=>by
  rw [Pf] at r;cases r with
  | cons h t=>exact .cons (fN h) (uF t)
abbrev KT(H:Hp):List (List Key×V)->List (List Key×Addr×Value)->Prop:=Paired λp q=>p.1=q.1/\H q.2.1=some (.tup (p.1.map kV))/\zo p.2 q.2.2
theorem KT.val(r:KT H kvs xs)(k:List Key):bU (ag kvs k) ((atKey xs k).map (·.2)):=by
 induction r with
 | nil=>exact True.intro
 | @cons p q ps G h t J =>
  obtain ⟨h1,_,h2⟩:=h;by_cases e:p.1=k
  .have F:q.1=k:=h1.symm.trans e;have b:atKey (q::G) k=some q.2:=by simp [atKey,RZ,F]
   rw [iT e,b];exact h2
  .have F : ¬ q.1=k:=λz=>e (h1.trans z);have b:atKey (q::G) k=atKey G k:=by simp [atKey,RZ,F]
   rw [h9 e,b];exact J
theorem KT.bq(r:KT H kvs xs)(k:List Key)(G:zo y u):
  KT H (kvs.map λF=>if F.1=k then (F.1,y) else F) (xs.map (putAt k u)):=by
 induction r with
 | nil=>exact .nil
 | @cons p q ps O h t J =>
  rw [Pf,Pf];refine .cons ?_ J;obtain ⟨h1,h2,h3⟩:=h;unfold putAt;by_cases e:p.1=k
  .rw [if_pos e,if_pos (h1.symm.trans e)];exact ⟨h1,h2,G⟩
  .rw [if_neg e,if_neg (λz=>e (h1.trans z))];exact ⟨h1,h2,h3⟩
theorem KT.put(r:KT H kvs xs)(k:List Key)(F:H b=some (.tup (k.map kV)))(z:zo y u):
  KT H (aA kvs k y) (storedH xs k b u):=by
 have e:(kvs.any λG=>decide (G.1=k))=(atKey xs k).isSome:=by
  rw [sv,(r.val k).UK,isSome_map]
 unfold aA storedH;rw [e];by_cases q:(atKey xs k).isSome=true
 .rw [if_pos q,if_pos q];exact r.bq k z
 .rw [if_neg q,if_neg q];exact Paired.snoc r {rfl,F,z}
theorem KT.keeps(r:KT H kvs xs)(F:∀b ys,H b=some (.tup ys)->H' b=some (.tup ys)):KT H' kvs xs :=
 Paired.wa r λ_ _ z=>{z.1,F _ _ z.2.1,z.2.2}
section
variable {P:OL}{w:O1}{H:Hp}{h:Heap}{a:Addr}
theorem AR(ok:HOk P w H h)(e:Rd H a u):ae P w H h a u:=e.ok ok
theorem c8(ok:HOk P w H h)(e:Rd H a (.dK kvs)):kvs.length<=sizeLine/\(a==sysModules)=false/\∃vs,KV kvs vs/\h.DictOf (ax P w) a vs :=
 show ae P w H h a (.dK kvs) from AR ok e
theorem qt(ok:HOk P w H h)(e:H a=some (.dK kvs)):kvs.length<=sizeLine/\(a==sysModules)=false/\∃vs,KV kvs vs/\h.DictOf (ax P w) a vs:=c8 ok (.inl e)
theorem hX(ok:HOk P w H h)(e:H a=some (.tup (ks.map kV))):(SQ (ax P w)).is h ks a:=by
 obtain ⟨_,its,r,o,h1,h2,n,h3⟩:=(show ae P w H h a (.tup (ks.map kV)) from ok a _ e);exact {o,its.toArray,n,h1,h2,h3,by simpa using uF r}
theorem gN(ok:HOk P w H h)(e:Rd H a (.dT kvs)):kvs.length<=sizeLine/\(a==sysModules)=false /\
  ∃xs,KT H kvs xs/\h.DictOfH (SQ (ax P w)) a xs:=by
 obtain ⟨z,y,xs,r,o,es,ep,h1,h2,h3,h4,G⟩:=(show ae P w H h a (.dT kvs) from AR ok e);refine {z,y,xs,r,o,es,ep,h1,h2,h3,h4,λx hx=>?_,G};have all:∀{l:List (List Key×V)}{m:List (List Key×Addr×Value)},KT H l m->∀x∈m,(SQ (ax P w)).is h x.1 x.2.1:=by
  intro l m q
  induction q with
  | nil=>intro x hx;exact nomatch hx
  | @cons p q ps O F t J =>
   intro x hx;rcases OH.mp hx with e|hx
   .subst e;exact hX ok (by rw [<- F.1];exact F.2.1)
   .exact J x hx
 exact all r x hx
theorem HK(ok:HOk P w H h)(e:H a=some (.dT kvs)):kvs.length<=sizeLine/\(a==sysModules)=false /\
  ∃xs,KT H kvs xs/\h.DictOfH (SQ (ax P w)) a xs:=gN ok (.inl e)
end
def d9(H:Hp)(a:Addr)(y:V)(r:Option V):Prop :=
 (∃kvs k,Rd H a (.dK kvs)/\y=kV k/\r=ag kvs k)\/∃kvs k b,Rd H a (.dT kvs)/\y = .ref b/\H b=some (.tup (k.map kV))/\r=ag kvs k
def jd(H:Hp)(a:Addr)(y v:V)(H':Hp):Prop :=
 (∃kvs k,H a=some (.dK kvs)/\y=kV k/\kvs.length<sizeLine/\H'=upd H a (.dK (aA kvs k v))) \/
 ∃kvs k b,H a=some (.dT kvs)/\y = .ref b/\H b=some (.tup (k.map kV))/\kvs.length<sizeLine/\H'=upd H a (.dT (aA kvs k v))
theorem d9.k{k:Key}(e:H a=some (.dK kvs)):d9 H a (kV k) (ag kvs k):=.inl {kvs,k,.inl e,rfl,rfl}
theorem d9.t{k:List Key}(e:H a=some (.dT kvs))(z:H b=some (.tup (k.map kV))):d9 H a (.ref b) (ag kvs k):=.inr {kvs,k,b,.inl e,rfl,z,rfl}
theorem jd.k{k:Key}(e:H a=some (.dK kvs))(hl:kvs.length<sizeLine):jd H a (kV k) v (upd H a (.dK (aA kvs k v))):=.inl {kvs,k,e,rfl,hl,rfl}
theorem jd.t{k:List Key}(e:H a=some (.dT kvs))(z:H b=some (.tup (k.map kV)))(hl:kvs.length<sizeLine):
  jd H a (.ref b) v (upd H a (.dT (aA kvs k v))):=.inr {kvs,k,b,e,rfl,z,hl,rfl}
section
variable {X:Cx}{Go:List (Addr×Obj)}{σ:St}{H:Hp}{s:Ow}{a:Addr}{y v:V}{u r:Value}{o:Option V}{A:O0}{E:Value->Ow->Prop}
theorem BJ(Z:A.units+1<cLine)(I:Inv X Go σ H s)(g:d9 H a y (some v))(S:zo y u)(h:∀w' s',Inv X Go σ H s'->zo v w'->Q w' s'):
  OJ (OR X.prog X.w) A (Ua (.ref a) u) Q E s:=by
 rcases g with ⟨kvs,k,e,F,l⟩|⟨kvs,k,b,e,F,W,l⟩
 .subst F;obtain ⟨z,hd,vs,G,dd⟩:=c8 I.hok e;obtain ⟨w',hw,O⟩:=bU.some_of (v:=v) (o:=T1 vs k) (by rw [l];exact G.val k);exact wpAny_getItem_of (fN S) dd.mapOf hw (h w' _ (I.tok _) O)
 .subst F;cases (show u=OU b from S);obtain ⟨z,hd,xs,G,dd⟩:=gN I.hok e;obtain ⟨w',hw,O⟩:=bU.some_of (v:=v) (o:=(atKey xs k).map (·.2)) (by rw [l];exact G.val k);obtain ⟨p,U,J⟩:=O2.mp hw;refine wpAny_getItem_heap (Rv Z) (hX I.hok W) dd U ?_;rw [J];exact h w' _ (I.tok _) O
theorem Fe(S:A.units+1<cLine)(I:Inv X Go σ H s)(g:d9 H a y o)(J:zo y u)(h:∀s',Inv X Go σ H s'->Q (.bool (!o.isSome)) s'):
  OJ (OR X.prog X.w) A (P8 .NotIn u (.ref a)) Q E s:=by
 rcases g with ⟨kvs,k,e,F,l⟩|⟨kvs,k,b,e,F,O,l⟩
 .subst F;obtain ⟨z,hd,vs,G,dd⟩:=c8 I.hok e;refine wpAny_notIn_of (fN J) hd dd.mapOf ?_;rw [<- (G.val k).UK,<- l];exact h _ (I.tok _)
 .subst F;cases (show u=OU b from J);obtain ⟨z,hd,xs,G,dd⟩:=gN I.hok e;refine wpAny_notIn_heap (Rv S) (hX I.hok O) hd dd ?_;have q:=(G.val k).UK;rw [isSome_map] at q;rw [<- q,<- l];exact h _ (I.tok _)
theorem nv(I:Inv X Go σ H s)(F:Mut (H a))(hs:Qy a s.heap h')(G:∃q,h'.get? a=some q)(new:ae X.prog X.w (upd H a ob) h' a ob):
  Inv X Go σ (upd H a ob) { s with heap:=h',toks:=t' } :=
 I.write (x:=a) (e:=a) F (.inl rfl) (λb q J z=>(hs.2 b J).trans z) G new
theorem se(z:kvs.length<=sizeLine)(hd:(a==sysModules)=false)(F:KV kvs vs)(dd:h'.DictOf (ax P w) a vs):
  ae P w H' h' a (.dK kvs):=⟨z,hd,vs,F,dd⟩
theorem NI(hu:A.units+1<cLine)(I:Inv X Go σ H s)(g:jd H a y v H')(Z:zo y u)(rv:zo v r)(h:∀s',Inv X Go σ H' s'->Q () s'):
  OJ (OR X.prog X.w) A (setItem (.ref a) u r) Q E s:=by
 rcases g with ⟨kvs,k,e,S,l,O⟩|⟨kvs,k,b,e,S,W,l,O⟩
 .subst S O;obtain ⟨z,hd,vs,G,dd⟩:=qt I.hok e;have hz:vs.length<=sizeLine:=by rw [<- G.length];exact z
  have hl:(aA kvs k v).length<=sizeLine:=by have:=pU kvs k v;lia
  refine wpAny_setItem_pairs (hsz:=hz) (fN Z) dd λh' F hs=>h _ ?_;have he:∃q,h'.get? a=some q:=let ⟨q,_,_,J,_⟩:=F;⟨q,J⟩;exact nv I (by rw [e];exact True.intro) hs he (se hl hd (G.put k rv) F)
 .subst S O;cases (show u=OU b from Z);obtain ⟨z,hd,xs,G,dd⟩:=HK I.hok e;have hz:xs.length<=sizeLine:=by rw [<- Paired.length G];exact z
  have hl:(aA kvs k v).length<=sizeLine:=by have:=pU kvs k v;lia
  refine wpAny_setItem_heap (hsz:=hz) (Rv hu) (hX I.hok W) dd λh' F hs=>h _ ?_;obtain ⟨q,es,ep,J,h2,h3,h4,_,h5⟩:=F;refine nv I (by rw [e];exact True.intro) hs ⟨q,J⟩ {hl,hd,_,(G.put k W rv).keeps λc ys U=>?_,q,es,ep,J,h2,h3,h4,h5};rw [ze (Jt U e (λz=>nomatch z))];exact U
end
theorem xW{o:Option V}(I:Inv X Go σ H s)(g:d9 H a y o):s.TypeIs (.ref a) "dict":=by
 rcases g with ⟨kvs,k,e,_,_⟩|⟨kvs,k,b,e,_,_,_⟩
 .obtain ⟨_,_,vs,_,dd⟩:=c8 I.hok e;exact dd.typeIs
 .obtain ⟨_,_,xs,_,dd⟩:=gN I.hok e;exact dd.typeIs
theorem Jy(h:Heap)(z:sysModules<h.objs.size):ae P w H (h.push { cls:=.type "dict",data:=.dict #[] }) h.objs.size (.dK []) :=
 {Qs _,beq_eq_false_iff_ne.mpr (Pe (Pr z)),[],.nil,DictOf.new h}
def rg:List (TE×TE)->St->Hp->(List (V×V)->Hp->Prop)->Prop
 | [],_,H,Q=>Q [] H
 | (tk,tv)::r,σ,H,Q=>tk σ H λx H1=>tv σ H1 λy H2=>rg r σ H2 λps H3=>Q ((x,y)::ps) H3
abbrev VV:List (V×V)->List (Value×Value)->Prop:=Paired λp q=>zo p.1 q.1/\zo p.2 q.2
def PPs(X:Cx)(pos:Pos)(F:List (Option O3))(G:List O3)(z:List (TE×TE)):Prop :=
 ∀(Go:List (Addr×Obj))(s:Ow)(σ:St)(H:Hp)(Q:List (V×V)->Hp->Prop),Inv X Go σ H s->rg z σ H Q ->
  OJ (OR X.prog X.w) X.A (evalPairs (pairTrees F G X.env pos)) (λvs s'=>∃ps H',Inv X Go σ H' s'/\VV ps vs/\Q ps H') X.xe s
theorem HS:PPs X pos [] [] []:=λGo s σ H Q I h=>pairTrees_nil_walk {[],H,I,.nil,h}
theorem CC{k v:O3}{tk tv:TE}(U:PE X k tk)(hv:PE X v tv)(J:PPs X pos ks vs z):
  PPs X pos (some k::ks) (v::vs) ((tk,tv)::z):=λGo s σ H Q I h =>
 pairTrees_cons_walk (thn (U Go s σ H _ I h) λu s1=>x5e λx H1 Z rx F=>thn (hv Go s1 σ H1 _ Z F) λw2 s2=>x5e λy H2 W ry q2 =>
  thn (J Go s2 σ H2 _ W q2) λws s3=>x5e λps H3 G S O=>{(x,y)::ps,H3,G,.cons ⟨rx,ry⟩ S,O})
def hV(kvs more:List (Key×V)):List (Key×V):=more.foldl (λZT z=>aA ZT z.1 z.2) kvs
theorem KV.merge:∀{more:List (Key×V)}{rs:List (Key×Value)}{kvs:List (Key×V)}{vs:List (Key×Value)},KV more rs->KV kvs vs->KV (hV kvs more) (merged vs rs):=by
 intro more rs kvs vs r;unfold KV at r
 induction r generalizing kvs vs with
 | nil=>intro q;exact q
 | @cons p q ps G h t z =>
  intro F;have e:KV (aA kvs p.1 p.2) (stored vs q.1 q.2):=by
   have:=F.put p.1 h.2;rw [<- h.1];exact this
  exact z e
theorem wC:∀(more kvs:List (Key×V)),(hV kvs more).length<=kvs.length+more.length
 | [],kvs=>by show kvs.length<=kvs.length+0;lia
 | p::r,kvs=>by
  have h1:=wC r (aA kvs p.1 p.2);have h2:=pU kvs p.1 p.2;show (hV (aA kvs p.1 p.2) r).length<=_;rw [PQ];lia
theorem A9:∀{kvs:List (Key×V)}{ws:List (Value×Value)},VV (kvs.map λz=>(kV z.1,z.2)) ws->∃rs,Carries (ax P w) ws rs/\KV kvs rs
 | [],_,r=>by rw [map_nil] at r;cases r;exact {[],True.intro,.nil}
 | p::kvs,_,r=>by
  rw [Pf] at r;cases r with
  | @cons a b as bs h t =>
   obtain ⟨rs,c,q⟩:=A9 (P:=P) (w:=w) t;obtain ⟨G,F⟩:=b;exact {(p.1,F)::rs,{fN h.1,rfl,c},.cons {rfl,h.2} q}
def Lx(z:List (TE×TE)):TE:=λσ H Q=>∀p,H p=none->rg z σ (upd H p (.dK [])) λps H2=>H2 p=some (.dK [])/\∃kvs:List (Key×V),ps=kvs.map (λF=>(kV F.1,F.2))/\kvs.length<=15/\Q (.ref p) (upd H2 p (.dK (hV [] kvs)))
theorem NT(h:PPs X pos F S J)(Xa:F.all (·.isSome)=true)(hl:F.length=S.length)(h0:F≠[])(O:F.length<=15):PE X (.Dict F S pos) (Lx J):=by
 intro Go s σ H Q I q;have Z:=I.hok.fresh (Ox s.heap.objs.size);have I1:=I.laid (a:=s.heap.objs.size) (o:=.dK []) (h':=s.heap.push { cls:=.type "dict",data:=.dict #[] }) (t':=s.toks) (λ_ _ q=>Oy _ q) (Ox _) (Jy s.heap I.big);refine wpAny_Dict_walk (knd:=ax X.prog X.w) Xa hl h0 O (thn (h Go _ σ _ _ I1 (q _ Z)) λws s2=>x5e λps H2 W Zu U=>?_);obtain ⟨e,kvs,ep,lk,q2⟩:=U;subst ep;obtain ⟨rs,c,rk⟩:=A9 (P:=X.prog) (w:=X.w) Zu;obtain ⟨z,hd,ab,r0,dd⟩:=qt W.hok e;cases r0;refine {rs,c,dd,λh' G hs=>{.ref s.heap.objs.size,_,?_,rfl,q2}};have hz:(hV [] kvs).length<=sizeLine:=by
  have h1:=wC kvs [];rw [S3] at h1;rw [Qa];lia
 have he:∃q,h'.get? s.heap.objs.size=some q:=let ⟨q,_,_,hq,_⟩:=G;⟨q,hq⟩;exact nv W (by rw [e];exact True.intro) hs he (se hz hd (rk.merge .nil) G)
structure M1(X:Cx)(o:O3)(m:Str)(ZU:Pos)(e:O3)(cpos:Pos):Prop where
 base:QE o m X.env (Qc o X.env)=Qc o X.env
 few:((Rq cpos (Pb [e] X.env)).all (λx=>!x.1)&&(backToKw cpos (SD [] X.env)).all (λx=>x.1.isSome)
  && decide (([e]:List O3).length+([]:List Keyword).length+(if ([]:List Keyword).isEmpty then 0 else 1)<30))=true
 line:(ZU.endLine==cpos.line)=true
 trees:Rq cpos (Pb [e] X.env)=[(false,Qc e X.env)]
structure M2(X:Cx)(o:O3)(m:Str)(ZU:Pos)(e f:O3)(cpos:Pos):Prop where
 base:QE o m X.env (Qc o X.env)=Qc o X.env
 few:((Rq cpos (Pb [e,f] X.env)).all (λx=>!x.1)&&(backToKw cpos (SD [] X.env)).all (λx=>x.1.isSome)
  && decide (([e,f]:List O3).length+([]:List Keyword).length+(if ([]:List Keyword).isEmpty then 0 else 1)<30))=true
 line:(ZU.endLine==cpos.line)=true
 trees:Rq cpos (Pb [e,f] X.env)=[(false,Qc e X.env),(false,Qc f X.env)]
def IsD(H:Hp)(a:Addr):Prop:=(∃kvs,Rd H a (.dK kvs))\/∃kvs,Rd H a (.dT kvs)
theorem m3(I:Inv X Go σ H s)(d:IsD H a):
  s.TypeIs (.ref a) "dict"/\(∀b,OU a = .ref b->∃ob,s.heap.get? b=some ob/\ob.dict=none)/\(a==sysModules)=false:=by
 rcases d with ⟨kvs,e⟩|⟨kvs,e⟩
 .obtain ⟨_,hd,vs,_,dd⟩:=c8 I.hok e;refine {dd.typeIs,λb q=>?_,hd};cases q;obtain ⟨ob,_,_,h1,h2,_⟩:=dd;exact ⟨ob,h1,h2.2.1⟩
 .obtain ⟨_,hd,xs,_,dd⟩:=gN I.hok e;refine {dd.typeIs,λb q=>?_,hd};cases q;obtain ⟨ob,_,_,h1,h2,_⟩:=dd;exact ⟨ob,h1,h2.2.1⟩
section
variable {X:Cx}{Go:List (Addr×Obj)}{σ:St}{H:Hp}{s:Ow}{a:Addr}{y d:V}{u r:Value}{o:Option V}{A:O0}{E:Value->Ow->Prop}
theorem C2(S:A.units+1<cLine)(I:Inv X Go σ H s)(g:d9 H a y o)(J:zo y u)(h:∀w' s',Inv X Go σ H s'->zo (o.getD .non) w'->Q w' s'):
  OJ (OR X.prog X.w) A (call (.builtin "dict.get") [.ref a,u]) Q E s:=by
 rcases g with ⟨kvs,k,e,F,l⟩|⟨kvs,k,b,e,F,O,l⟩
 .subst F;obtain ⟨z,hd,vs,G,dd⟩:=c8 I.hok e;refine Si Rk dd.typeIs Sh (args_dict_get_2 _ _) (meets_dict_get (ax X.prog X.w) a (fN J) hd) {_,dd.mapOf,h _ _ (I.tok _) ?_};rw [l];exact (G.val k).getD rfl
 .subst F;cases (show u=OU b from J);obtain ⟨z,hd,xs,G,dd⟩:=gN I.hok e;refine Si Rk dd.typeIs Sh (args_dict_get_2 _ _) (meetsH_dict_get (SQ (ax X.prog X.w)) a b hd) {Rv S,k,xs,hX I.hok O,dd,h _ _ (I.tok _) ?_};rw [l];exact (G.val k).getD rfl
theorem Mh(U:A.units+1<cLine)(I:Inv X Go σ H s)(g:d9 H a y o)(J:zo y u)(O:zo d r)(h:∀w' s',Inv X Go σ H s'->zo (o.getD d) w'->Q w' s'):
  OJ (OR X.prog X.w) A (call (.builtin "dict.get") [.ref a,u,r]) Q E s:=by
 rcases g with ⟨kvs,k,e,F,l⟩|⟨kvs,k,b,e,F,S,l⟩
 .subst F;obtain ⟨z,hd,vs,G,dd⟩:=c8 I.hok e;refine Si Rk dd.typeIs Sh (TZ _ _ _) (meets_dict_get_default (ax X.prog X.w) a (fN J) hd r) {_,dd.mapOf,h _ _ (I.tok _) ?_};rw [l];exact (G.val k).getD O
 .subst F;cases (show u=OU b from J);obtain ⟨z,hd,xs,G,dd⟩:=gN I.hok e;refine Si Rk dd.typeIs Sh (TZ _ _ _) (meetsH_dict_get_default (SQ (ax X.prog X.w)) a b hd r) {Rv U,k,xs,hX I.hok S,dd,h _ _ (I.tok _) ?_};rw [l];exact (G.val k).getD O
end
section
variable {X:Cx}{Go:List (Addr×Obj)}{σ:St}{H:Hp}{s:Ow}{a:Addr}{kvs:List (Key×V)}{A:O0}{E:Value->Ow->Prop}
theorem EC(I:Inv X Go σ H s)(e:Rd H a (.dK kvs))(h:∀p s',H p=none->Inv X Go σ (upd H p (.dK kvs)) s'->Q (.ref p) s'):OJ (OR X.prog X.w) A (call (.type "dict") [.ref a]) Q E s:=by
 obtain ⟨z,hd,vs,J,dd⟩:=c8 I.hok e;refine kt_call_dict hd dd (by rw [<- J.length];exact z) λh' F hs=>?_;refine h _ _ (I.hok.fresh (Ox _)) (I.laid (a:=s.heap.objs.size) (o:=.dK kvs) (t':=s.toks) (λb q G=>?_) (Ox _) (se z (beq_eq_false_iff_ne.mpr (Pe (Pr I.big))) J F));exact (hs.2 b (Pr (O4 G))).trans (Oy _ G)
end
section
variable {X:Cx}{Go:List (Addr×Obj)}{σ:St}{H:Hp}{s:Ow}{a:Addr}{o:Obj}{kvs:List (Key×V)}
theorem Inv.swap(I:Inv X Go σ H s)(e:H a=some G)(h1:∀x,G≠.own x)(h2:∀xs,G≠.tup xs)(h3:∀ob,G≠.frz ob (.own 0))(h4:∀ps,G≠.tbl ps)(h5:∀ob u,X.H₀ a≠some (.frz ob u))(new:∀H',ae X.prog X.w H' s.heap a S):Inv X Go σ (upd H a S) s:=by
 have ne:∀b,H b=none->b≠a:=λb n z=>by subst z;rw [e] at n;cases n
 have J:∀b,H b=none->upd H a S b=none:=λb n=>by rw [ze (ne b n)];exact n
 refine {I.ok,I.os,I.bare,{I.base.keep,I.base.slot,λb ob q n hx=>J b (I.base.free b ob q n hx),I.base.there,λb xs q=>?_,λb ob u q=>?_,λb ps q=>?_},I.loc,I.cell,J _ I.free,λx c q=>J c (I.z9 x c q),λp W=>?_,λb u q=>?_,I.len,?_}
 .have z:=I.base.tups b xs q;rw [ze (λy=>by subst y;rw [e] at z;cases z;exact h2 _ rfl)];exact z
 .by_cases F:b=a
  .subst F;exact absurd q (h5 ob u)
  .rw [ze F];exact I.base.frzs b ob u q
 .obtain ⟨more,z⟩:=I.base.tbls b ps q;exact {more,by rw [ze (λy=>by subst y;rw [e] at z;cases z;exact h4 _ rfl)];exact z}
 .obtain ⟨U,p2,p3⟩:=I.pin p W;exact {U,J _ p2,p3}
 .by_cases F:b=a
  .subst F;rw [zu] at q;cases q;exact new _
  .rw [ze F] at q;exact (I.hok b u q).UE (λc z _ y=>y) (λc z=>by rw [ze (λy=>by subst y;rw [e] at z;cases z;exact h1 _ rfl)];exact z) (λc xs z=>by rw [ze (λy=>by subst y;rw [e] at z;cases z;exact h2 _ rfl)];exact z)
 .rcases I.hdk with z|⟨b,ob,vs,Z,O,q3⟩
  .exact .inl z
  .exact .inr {b,ob,vs,Z,by rw [ze (λy=>by subst y;rw [e] at O;cases O;exact h3 _ rfl)];exact O,q3}
theorem Inv.freeze(I:Inv X Go σ H s)(e:H a=some (.dK kvs)):(∀ob u,X.H₀ a≠some (.frz ob u))/\∃o,Inv X Go σ (upd H a (.frz o (.dK kvs))) s:=by
 have F:∀ob u,X.H₀ a≠some (.frz ob u):=λob u q=>by
  have z:=I.base.frzs a ob u q;rw [e] at z;cases z
 refine {F,?_};obtain ⟨z,hd,vs,J,dd⟩:=qt I.hok e;obtain ⟨o,es,ep,G,r⟩:=id dd;exact {o,I.swap e (λ_ q=>nomatch q) (λ_ q=>nomatch q) (λ_ q=>nomatch q) (λ_ q=>nomatch q) F λH'=>⟨G,z,hd,vs,J,dd⟩}
theorem Inv.Vt(I:Inv X Go σ H s)(e:H a=some (.frz o (.dK kvs)))(F:∀ob u,X.H₀ a≠some (.frz ob u)):Inv X Go σ (upd H a (.dK kvs)) s:=by
 obtain ⟨G,z⟩:=I.hok a _ e;exact I.swap e (λ_ q=>nomatch q) (λ_ q=>nomatch q) (λ_ q=>by injection q with _ q;cases q) (λ_ q=>nomatch q) F λH'=>z
end
def fi(a:Addr)(kvs:List (Key×V))(H:Hp)(R:Hp->Prop):Prop:=∃o,H a=some (.frz o (.dK kvs))/\R (upd H a (.dK kvs))
def bb.Vt(D:bb)(a:Addr)(kvs:List (Key×V)):bb:={λσ H=>fi a kvs H (D.nx σ),λv H=>fi a kvs H (D.rt v),λσ H=>fi a kvs H (D.bk σ),λσ H=>fi a kvs H (D.ct σ)}
def tFz(t:TS):TS:=λD σ H=>∃a kvs,H a=some (.dK kvs)/\∀o,t (D.Vt a kvs) σ (upd H a (.frz o (.dK kvs)))
def uA(t:TE):TE:=λσ H Q=>∃a kvs,H a=some (.dK kvs)/\∀o,t σ (upd H a (.frz o (.dK kvs))) λv H'=>fi a kvs H' (Q v)
theorem DT{st:Stmt}{t:TS}(h:W (PS X st t)):W (PS X st (tFz t)):=by
 refine {?_};have h:=h.h;rintro Go s σ H D I ⟨a,kvs,e,q⟩;obtain ⟨O,o,S⟩:=I.freeze e;refine thn (h Go s σ _ _ S (q o)) λf s' z=>?_;cases f with
 | next=>obtain ⟨F,H',J,o',G,d⟩:=z;exact {F,_,J.Vt G O,d}
 | brk=>obtain ⟨F,H',J,o',G,d⟩:=z;exact {F,_,J.Vt G O,d}
 | cont=>obtain ⟨F,H',J,o',G,d⟩:=z;exact {F,_,J.Vt G O,d}
 | ret u=>obtain ⟨v,F,H',J,r,o',G,d⟩:=z;exact {v,F,_,J.Vt G O,r,d}
theorem GK{t:TE}(h:W (PE X e t)):W (PE X e (uA t)):=by
 refine {?_};have h:=h.h;rintro Go s σ H Q I ⟨a,kvs,e,q⟩;obtain ⟨F,o,G⟩:=I.freeze e;refine thn (h Go s σ _ _ G (q o)) λu s' z=>?_;obtain ⟨v,H',O,r,o',J,d⟩:=z;exact {v,_,O.Vt J F,r,d}
theorem KV.at(r:KV kvs vs):∀{i:Nat}{p:Key×V},kvs[i]?=some p->∃u,vs[i]?=some (p.1,u)/\zo p.2 u:=by
 induction r with
 | nil=>intro i p h;simp at h
 | @cons x y l m r t z =>
  intro i p h;cases i with
  | zero =>
   have e:x=p:=by simpa using h
   subst e;exact {y.2,by rw [r.1];rfl,r.2}
  | succ i=>exact z (by simpa using h)
def Itd(a:Addr)(o:Obj)(kvs:List (Key×V)):It:={λi H=>H a=some (.frz o (.dK kvs))/\i<kvs.length,λi H x H'=>H'=H/\∃p,kvs[i]?=some p/\x=kV p.1,λi H=>H a=some (.frz o (.dK kvs))/\kvs.length<=i}
def Itw(a:Addr)(o:Obj)(kvs:List (Key×V)):It:={λi H=>H a=some (.frz o (.dK kvs))/\i<kvs.length,λi H x H'=>H'=H/\∃p,kvs[i]?=some p/\x=p.2,λi H=>H a=some (.frz o (.dK kvs))/\kvs.length<=i}
theorem iq{o:Obj}(I:Inv X Go σ H s)(e:H a=some (.frz o (.dK kvs)))(hd:o.data = .dict es ep):
  (a==sysModules)=false/\∃vs,KV kvs vs/\s.heap.DictAt (ax X.prog X.w) a vs ep/\vs.length=kvs.length:=by
 obtain ⟨J,z,hm,vs,O,o',W,U,G,S,F,r⟩:=I.hok a _ e;rw [J] at G;cases G;rw [hd] at F;cases F;exact {hm,vs,O,⟨o,es,J,S,hd,r⟩,O.length.symm}
theorem Ak{o:Obj}(I:Inv X Go σ H s)(e:H a=some (.frz o (.dK kvs))):∃es ep,o.data = .dict es ep:=by
 obtain ⟨J,z,hm,vs,U,o',W,O,G,S,F,r⟩:=I.hok a _ e;rw [J] at G;cases G;exact {_,_,F}
theorem NU{P:OL}{w:O1}{K:OF}{tg:O3}(a it:Addr){o:Obj}{kvs:List (Key×V)}{es:Array SV}{ep:Nat}(hd:o.data = .dict es ep):dW true P w K tg (Itd a o kvs) [it] it (λi h=>h.IsKeyIter it a i kvs.length ep) where
 mem:=by simp
 obj:=λi h st b F=>by
  have e:b=it:=by simpa using F
  subst e;obtain ⟨o,e,c,d⟩:=st;exact {o,e,λv z=>by rw [d] at z;cases z}
 keep:=λi h h' st k=>st.at λo e=>k it 'z' o e
 item:=by
  intro X S hw hK hc i Go s σ H E I hf st hg;subst S hw hK;obtain ⟨U,hi⟩:=hg;obtain ⟨hm,vs,Zu,dd,hl⟩:=iq I U hd;obtain ⟨p,hp⟩:∃p,kvs[i]?=some p:={kvs[i],by simp [hi]};obtain ⟨u,hu,ru⟩:=Zu.at hp;obtain ⟨f0,f1,f2,G,f4,Z⟩:=hf it 'z';rw [<- hl] at st;refine wpAny_pyNext_dict_item st dd hu λkey h' hk O sb=>?_;rw [hl] at O;have I1:Inv X Go σ H { s with heap:=h' }:=I.turned (t':=s.toks) (λb o F e=>(sb.2 b F).trans e) f0 f1 G f4 Z;have rk:zo (kV p.1) key:=by
   rcases de (show eP p.1 key=true from hk) with ⟨j,t,J,W⟩|⟨x,t,J,W⟩
   .rw [J,W];exact {t,rfl}
   .rw [J,W];exact {t,rfl}
  obtain ⟨o,e,c,d⟩:=id O;exact {key,rfl,hG (s:={ s with heap:=h' }) e c d 'd' {kV p.1,H,I1,rk,{rfl,p,hp,rfl},O,λb F=>(hf b F).1}}
 done:=by
  intro X S hw hK hc i Go s σ H E I hf st hg;subst S hw hK;obtain ⟨U,hi⟩:=hg;obtain ⟨hm,vs,Zu,dd,hl⟩:=iq I U hd;obtain ⟨f0,f1,f2,G,f4,Z⟩:=hf it 'z';rw [<- hl] at st;exact wpAny_pyNext_dict_end (I.ok.hd (hc rfl)) st dd (QQ 'l') λh' eb=>{rfl,I.turned (t':=s.toks) (λb o F e=>eb b o F e) f0 f1 G f4 Z}
 self:=λ_ _ _ _ _ st h=>wpAny_pyIter_keyiter st h
theorem DK{P:OL}{w:O1}{K:OF}{tg:O3}(a it:Addr){o:Obj}{kvs:List (Key×V)}{es:Array SV}{ep:Nat}(hd:o.data = .dict es ep):dW true P w K tg (Itw a o kvs) [it] it (λi h=>h.IsValIter it a i kvs.length ep) where
 mem:=by simp
 obj:=λi h st b F=>by
  have e:b=it:=by simpa using F
  subst e;obtain ⟨o,e,c,d⟩:=st;exact {o,e,λv z=>by rw [d] at z;cases z}
 keep:=λi h h' st k=>st.at λo e=>k it 'z' o e
 item:=by
  intro X Z hw J hc i Go s σ H E I hf st hg;subst Z hw J;obtain ⟨G,hi⟩:=hg;obtain ⟨hm,vs,Zu,dd,hl⟩:=iq I G hd;obtain ⟨p,hp⟩:∃p,kvs[i]?=some p:={kvs[i],by simp [hi]};obtain ⟨u,hu,ru⟩:=Zu.at hp;obtain ⟨f0,W,f2,S,f4,U⟩:=hf it 'z';rw [<- hl] at st;refine wpAny_pyNext_values_item st dd hu λh' O sb=>?_;rw [hl] at O;have I1:Inv X Go σ H { s with heap:=h' }:=I.turned (t':=s.toks) (λb o F e=>(sb.2 b F).trans e) f0 W S f4 U;obtain ⟨o,e,c,d⟩:=id O;exact {u,rfl,hG (s:={ s with heap:=h' }) e c d 'd' {p.2,H,I1,ru,{rfl,p,hp,rfl},O,λb F=>(hf b F).1}}
 done:=by
  intro X Z hw J hc i Go s σ H E I hf st hg;subst Z hw J;obtain ⟨G,hi⟩:=hg;obtain ⟨hm,vs,Zu,dd,hl⟩:=iq I G hd;obtain ⟨f0,W,f2,S,f4,U⟩:=hf it 'z';rw [<- hl] at st;exact wpAny_pyNext_values_end (I.ok.hd (hc rfl)) st dd (QQ 'l') λh' eb=>{rfl,I.turned (t':=s.toks) (λb o F e=>eb b o F e) f0 W S f4 U}
 self:=λ_ _ _ _ _ st h=>wpAny_pyIter_valiter st h
section
variable {X:Cx}{tg:O3}
def oo(tl:TE):TI:=λσ H R=>tl σ H λx H1=>∃a o kvs,x = .ref a/\H1 a=some (.frz o (.dK kvs))/\R (Itd a o kvs) H1
def pE(tl:TE):TI:=λσ H R=>tl σ H λx H1=>∃a o kvs,x = .ref a/\H1 a=some (.frz o (.dK kvs))/\R (Itw a o kvs) H1
theorem Ik(hl:W (PE X l tl)):W (PI X tg l (oo tl)):=by
 refine {?_};have hl:=hl.h;intro Go s σ H R I h;refine thn (hl Go s σ H _ I h) λv s1=>x5e λx H1 z O G=>?_;obtain ⟨a,o,kvs,e,F,q⟩:=G;subst e;cases O;obtain ⟨es,ep,hd⟩:=Ak z F;obtain ⟨hm,vs,S,dd,hl⟩:=iq z F hd;refine wpAny_pyIter_dict hm dd ?_;rw [hl];refine {s1.heap.objs.size,[s1.heap.objs.size],_,_,H1,rfl,z.kept (t':=s1.toks) λb o e=>Oy _ e,NU a _ hd,{_,OM _ rfl,rfl,rfl},λb J=>?_,q};have e:b=s1.heap.objs.size:=by simpa using J
 subst e;exact z.UL (Ox _) (z.hok.fresh (Ox _))
theorem vj(J:W (PE X l tl))(Zl:QE l "values" X.env (Qc l X.env)=Qc l X.env:=by rfl)(U:(ZU.endLine==cpos.line)=true:=by rfl):W (PI X tg (.Call (.Attribute l "values" ZU) [] [] cpos) (pE tl)):=by
 refine {?_};have J:=J.h;intro Go s σ H R I h;refine wpAny_Call_method0_late Zl U (thn (J Go s σ H _ I h) λv s1=>x5e λx H1 z r1 Z=>?_);obtain ⟨a,o,kvs,ex,G,q⟩:=Z;subst ex;cases r1;obtain ⟨es,ep,hd⟩:=Ak z G;obtain ⟨hm,vs,Zu,dd,hl⟩:=iq z G hd;obtain ⟨t1,t2,_⟩:=m3 z (.inl {kvs,.inr ⟨o,G⟩});refine {"dict","dict.values",SI,Tz,PySem.F.type_dict_values,t1,t2,Calls.callWith_builtin rfl (PySem.evalArgs_none ?_)};refine Si Tz dd.dictOf.typeIs PySem.F.entry_dict_values (PySem.F.args_dict_values_1 _) (meets_dict_values (ax X.prog X.w) a hm) {⟨vs,dd.dictOf⟩,?_};have hv:(s1.heap.push { cls:=.type "dict_values",data:=.fields #[.ref a] }).IsValuesView s1.heap.objs.size a:={_,OM _ rfl,rfl,rfl};refine wpAny_pyIter_values (s:={ s1 with heap:=s1.heap.push { cls:=.type "dict_values",data:=.fields #[.ref a] } }) hv (dd.push _) ?_;rw [hl];have O:Inv X Go σ H1 { s1 with heap:=s1.heap.push { cls:=.type "dict_values",data:=.fields #[.ref a] } }:=z.kept (t':=s1.toks) λb o e=>Oy _ e;refine {_,[_],_,_,H1,rfl,O.kept (t':=s1.toks) λb o e=>Oy _ e,DK a _ hd,{_,OM _ rfl,rfl,rfl},λb S=>?_,q};have e:=ON.mp S;subst e;exact O.UL (Ox _) (O.hok.fresh (Ox _))
end
def uK(y:V)(q:Key->Prop):Prop:=∃k,y=kV k/\q k
theorem NR:uK (.str z) q=q (.inr z):=by
 apply propext;constructor
 .rintro ⟨k,e,h⟩;cases k with
  | inl i=>cases e
  | inr x=>cases e;exact h
 .exact λh=>{.inr z,rfl,h}
theorem Dz:uK (.int i) q=q (.inl i):=by
 apply propext;constructor
 .rintro ⟨k,e,h⟩;cases k with
  | inl i=>cases e;exact h
  | inr x=>cases e
 .exact λh=>{.inl i,rfl,h}
section
variable {X:Cx}
def mj:R2:=λx y H Q=>∃a k kvs v,x = .ref a/\y=kV k/\Rd H a (.dK kvs)/\ag kvs k=some v/\Q v H
theorem fZ(U:X.A.units+1<cLine):IxR X mj:=by
 intro ZF W Go s σ H x y v u Q I rx Z h hs;obtain ⟨a,k,kvs,z,rfl,rfl,J,S,q⟩:=h;obtain rfl:v=OU a:=rx;have g:d9 H a (kV k) (some z):=.inl {kvs,k,J,rfl,S.symm};unfold subscriptTail;refine we ?_;rw [getitemInPython_of_ne (xW I g).not_modules];refine we (wpAny_specialOf (xW I g) PySem.F.slot_dict_getitem.lookup ?_);have G:OJ (OR X.prog X.w) X.A (subscripted W false (.ref a) u) (λr s₃=>OJ (OR X.prog X.w) X.A (letTemporaryGo ZF (.ref a) r>>=λ_=>pure r) (EP X Go σ Q) X.xe s₃) X.xe s:=by
  rw [hs];exact wpAny_operating (BJ U I g Z λw' s3 O XM=>we (wpAny_letTemporaryGo (Oz ⟨z,H,O,XM,q⟩)))
 first
  | exact Oz (we G)
  | exact we (Oz (we G))
  | exact we G
def mU(c:Bool):R2:=λy x H Q=>∃a k kvs,x = .ref a/\y=kV k/\Rd H a (.dK kvs)/\Q (.bl (if c then !(ag kvs k).isSome else (ag kvs k).isSome)) H
theorem GL(G:X.A.units+1<cLine):OpR X (P8 .NotIn) (mU true):=by
 intro Go s σ H x y v u Q I O J h;obtain ⟨a,k,kvs,rfl,rfl,z,q⟩:=h;obtain rfl:u=OU a:=J;exact Fe G I (.inl {kvs,k,z,rfl,rfl}) O λS F=>{.bl (!(ag kvs k).isSome),H,F,rfl,q}
theorem IV{p:Addr}:mU c (.str x) (.ref p) H Q = ∃kvs,Rd H p (.dK kvs)/\Q (.bl (if c then !(ag kvs (.inr x)).isSome else (ag kvs (.inr x)).isSome)) H:=by
 apply propext;constructor
 .rintro ⟨a,k,kvs,F,z,h,q⟩;cases F;cases k with
  | inl i=>cases z
  | inr x=>cases z;exact ⟨kvs,h,q⟩
 .rintro ⟨kvs,h,q⟩;exact {p,.inr x,kvs,rfl,rfl,h,q}
def mG:V->V->V->Hp->(Hp->Prop)->Prop:=λo i v H Q=>oO o i v H Q\/∃a k kvs,o = .ref a/\i=kV k/\H a=some (.dK kvs)/\kvs.length<sizeLine/\Q (upd H a (.dK (aA kvs k v)))
theorem iK(O:X.A.units+1<cLine):mL X mG:=by
 intro Go s σ H o i v G S u Q I z F J h;rcases h with h|⟨a,k,kvs,rfl,rfl,e,l,q⟩
 .exact jW Go s σ H o i v G S u Q I z F J h
 .obtain rfl:G=OU a:=z;exact NI O I (.inl {kvs,k,e,rfl,l,rfl}) F J λs' U=>{_,U,q}
theorem Ll:mG (.ref a) (.str z) v H Q = ∃kvs,H a=some (.dK kvs)/\kvs.length<sizeLine/\Q (upd H a (.dK (aA kvs (.inr z) v))):=by
 apply propext;constructor
 .rintro (⟨_,_,_,_,_,e,_⟩|⟨J,k,kvs,G,F,h,l,q⟩)
  .cases e
  .cases G;cases k with
   | inl i=>cases F
   | inr x=>cases F;exact ⟨kvs,h,l,q⟩
 .rintro ⟨kvs,h,l,q⟩;exact .inr {a,.inr z,kvs,rfl,rfl,h,l,q}
theorem MJ:mG (.ref a) (.int i) v H Q=((∃xs j,H a=some (.lst xs)/\ixN xs.length i=some j/\Q (upd H a (.lst (xs.set j v))))\/∃kvs,H a=some (.dK kvs)/\kvs.length<sizeLine/\Q (upd H a (.dK (aA kvs (.inl i) v)))):=by
 apply propext;unfold mG;rw [Ax];constructor
 .rintro (h|⟨G,k,kvs,F,z,h,l,q⟩)
  .exact .inl h
  .cases F;cases k with
   | inl i=>cases z;exact .inr ⟨kvs,h,l,q⟩
   | inr x=>cases z
 .rintro (h|⟨kvs,h,l,q⟩)
  .exact .inl h
  .exact .inr {a,.inl i,kvs,rfl,rfl,h,l,q}
def As(td ty tx:TE):TE:=λσ H Q=>td σ H λx H1=>uR x λa=>(∃kvs,Rd H1 a (.dK kvs))/\ty σ H1 λy H2=>tx σ H2 λz H3=>uK y λk=>∃kvs,Rd H3 a (.dK kvs)/\Q ((ag kvs k).getD z) H3
theorem KR{td ty tx:TE}:As td ty tx σ H Q=td σ H λx H1=>uR x λa=>(∃kvs,Rd H1 a (.dK kvs))/\ty σ H1 λy H2=>tx σ H2 λz H3=>uK y λk=>∃kvs,Rd H3 a (.dK kvs)/\Q ((ag kvs k).getD z) H3:=rfl
theorem rL{o e f:O3}{td ty tx:TE}(hu:X.A.units+1<cLine)(G:W (PE X o td))(F:W (PE X e ty))(hf:W (PE X f tx))(m:M2 X o "get" ZU e f cpos:=by exact {rfl,rfl,rfl,rfl}):W (PE X (.Call (.Attribute o "get" ZU) [e,f] [] cpos) (As td ty tx)):=by
 refine {?_};have G:=G.h;have F:=F.h;have hf:=hf.h;intro Go s σ H Q I h;refine wpAny_Call_method m.base m.few m.line SI Rk type_dict_get (thn (G Go s σ H _ I h) λu s1=>x5e λx H1 O rx S=>?_);obtain ⟨a,ex,d,q1⟩:=S;subst ex;obtain rfl:u=OU a:=rx;obtain ⟨t1,t2,_⟩:=m3 O (.inl d);refine {t1,t2,?_};rw [m.trees];refine Calls.callWith_builtin rfl (Calls.evalArgs_plain (Calls.spliced_cons (thn (F Go s1 σ H1 _ O q1) λiv s2=>x5e λy H2 I2 ry q2 =>
  Calls.spliced_cons (thn (hf Go s2 σ H2 _ I2 q2) λfv s3=>x5e λz H3 U rz J=>Calls.spliced_nil ?_))))
 obtain ⟨k,ey,kvs,g,Z⟩:=J;subst ey;exact Mh hu U (.inl {kvs,k,g,rfl,rfl}) ry rz λw' s4 I4 XM=>{_,H3,I4,XM,Z}
end
end L2
namespace L2
open PySem PySem.Spec PyProof.Rows PySem.W PySem.Calls
def leS(a b:Str):Prop:=ltCps b.cps.toList a.cps.toList=false
theorem wq(h1:leS a b)(h2:leS b a):a=b:=by
 unfold leS at h1 h2;rw [ltCps_eq] at h1 h2;exact iL (Rj.total a.cps.toList b.cps.toList h2 h1)
theorem xm:∀{l:List Str},sortedS l=true->l.Pairwise leS:=by
 have key:∀(r:List Str)(x:Str),risingS x r=true->(x::r).Pairwise leS:=by
  intro r
  induction r with
  | nil=>intro x _;simp
  | cons y r S =>
   intro x h;have h':(!ltCps y.cps.toList x.cps.toList&&risingS y r)=true:=h;rw [Pm,T5] at h';have F:=S y h'.2;refine Ql.mpr {λz hz=>?_,F};rcases OH.mp hz with rfl|hz
   .exact h'.1
   .have G:=(Ql.mp F).1 z hz;unfold leS at G ⊢;have J:=h'.1;rw [ltCps_eq] at G J ⊢;exact KeyOrd.kle_trans (O:=Rj.toKeyOrd) J G
 intro l h;cases l with
 | nil=>exact .nil
 | cons x r=>exact key r x h
theorem tX:∀{l m:List Str},l.Perm m->l.Pairwise leS->m.Pairwise leS->l=m
 | [],m,p,_,_=>(Us.nil_eq p)
 | x::l,[],p,_,_=>absurd p.length_eq 'z'
 | x::l,y::m,p,hl,hm=>by
  have e:x=y:=by
   have h1:x∈y::m:=p.mem_iff.mp (OT ..);have h2:y∈x::l:=p.mem_iff.mpr (OT ..);rcases OH.mp h1 with e|h1
   .exact e
   .rcases OH.mp h2 with e|h2
    .exact e.symm
    .exact wq ((Ql.mp hl).1 y h2) ((Ql.mp hm).1 x h1)
  subst e;rw [tX ((List.perm_cons x).mp p) (Ql.mp hl).2 (Ql.mp hm).2]
open Classical in
noncomputable def zN(ks:List Str):List Str:=if h:∃z:List Str,z.Perm ks/\sortedS z=true then h.choose else ks
theorem vc(p:z.Perm ks)(h:sortedS z=true):z=zN ks:=by
 have ex:∃z:List Str,z.Perm ks/\sortedS z=true:=⟨z,p,h⟩;unfold zN;rw [dif_pos ex];exact tX (p.trans ex.choose_spec.1.symm) (xm h) (xm ex.choose_spec.2)
section
variable {X:Cx}
def ue:List V->Hp->VK->Prop:=λxs H Q=>uR1 xs λa=>∃kvs,Rd H a (.dK kvs)/\∀p H2,New H p (.dK kvs) H2->Q (.ref p) H2
theorem HJ:ue [.ref a] H Q = ∃kvs,Rd H a (.dK kvs)/\∀p H2,New H p (.dK kvs) H2->Q (.ref p) H2:=eI
theorem wB:zO X (.type "dict") ue:=by
 intro Go s σ H xs us Q I r h;obtain ⟨a,rfl,kvs,F,q⟩:=h;obtain ⟨u,rfl,z⟩:=ck r;cases z;exact EC I F λp s' G J=>{.ref p,_,J,rfl,q _ _ (.mk' G)}
def sk(kvs:List (Str×V)):List (Key×V):=kvs.map λp=>(.inr p.1,p.2)
def xF:List V->Hp->VK->Prop:=λxs H Q=>uR1 xs λa=>∃kvs:List (Str×V),Rd H a (.dK (sk kvs))/\kvs.length<64/\∀p H2,New H p (.lst ((zN (kvs.map (·.1))).map V.str)) H2->Q (.ref p) H2
theorem NB:xF [.ref a] H Q = ∃kvs:List (Str×V),Rd H a (.dK (sk kvs))/\kvs.length<64/\∀p H2,New H p (.lst ((zN (kvs.map (·.1))).map V.str)) H2->Q (.ref p) H2:=eI
theorem ve:∀{vs:List Value}{z:List Str},vs.length=z.length->(∀(j:Nat)(v:Value),vs[j]?=some v->∃t,v=SU (z.getD j "") t)->StrsAre vs z
 | [],[],_,_=>.nil
 | [],_::_,h,_=>absurd h 'z'
 | _::_,[],h,_=>absurd h 'z'
 | v::vs,x::z,h,f=>by
  obtain ⟨t,e⟩:=f 0 v rfl;have F:v=SU x t:=e;rw [F];exact .cons x t (ve (by simpa using h) λj u G=>f (j+1) u G)
theorem A3:∀{vs:List Value}{z:List Str},StrsAre vs z->zt (z.map V.str) vs
 | _,_,.nil=>.nil
 | _,_,.cons x t h=>.cons {t,rfl} (A3 h)
theorem tK(hc:X.calm=true):zO X (.builtin "sorted") xF:=by
 intro Go s σ H xs us Q I r h;obtain ⟨a,rfl,kvs,hq,XO,q⟩:=h;obtain ⟨u,rfl,ru⟩:=ck r;cases ru;obtain ⟨z,hd,vs,Zu,dd⟩:=c8 I.hok hq;obtain ⟨ep,S⟩:=dd.dictAt;have ZZ:vs.length=kvs.length:=by rw [<- Zu.length];simp [sk]
 refine call_function_entry kind_sorted plain_sorted entry_sorted (args_sorted1 _) ?_;unfold OS.«sorted»
 refine we (m:=checkCount "sorted" 1 1 _) (Oz ?_);refine we (kdu_collect (A:=X.A.in1) (kdl_dict (knd:=ax X.prog X.w) (kvs:=vs) (ep:=ep) hd) (I.ok.hd hc) S (by rw [ZZ,Qa];lia) λh' tk ZT W Zs=>?_);have hl:ZT.toList.length=kvs.length:=by rw [QC,<- ZZ];exact Zs.1
 have Z:StrsAre ZT.toList (kvs.map (·.1)):=ve (by rw [hl,OB]) λj v hv=>by
  obtain ⟨k,x,hx,W⟩:=Zs.2 j v (by rw [<- Qw];exact hv);have hj:j<vs.length:=(OE.mp hx).1;have F:j<kvs.length:=by lia
  have G:(sk kvs)[j]?=some (.inr kvs[j].1,kvs[j].2):=by simp [sk,F]
  obtain ⟨u',WY,_⟩:=Zu.at G;rw [hx] at WY;cases WY;rcases de (show eP (Sum.inr kvs[j].1) v=true from W) with ⟨i,t,J,G⟩|⟨y,t,J,G⟩
  .cases J
  .cases J;exact {t,by rw [G,OY,OV,KE F];rfl}
 have I1:Inv X Go σ H { s with heap:=h',toks:=tk }:=I.kept W;refine we (Ts ?_ (by rw [hl,Qa];lia));have U:(h'.push (T2 "list" ZT.toList.toArray 0)).get? h'.objs.size=some (T2 "list" ZT.toList.toArray 0):=OM _ rfl;refine we (O9 (PK slot_list_sort {_,U,rfl} entry_list_sort (list_sort_treeK strKind_oneLt U Z.keysOf (λab ai rest e=>keyKind_strs (by rw [<- e];exact Z)) (by rw [hl];exact XO) λYw a1 a2=>{_,rfl,?_}) (args_list_sort _)));obtain ⟨ar,b1,b2,b3⟩:=sorted_out_str Z a1 a2;have e3:=vc b2 b3;subst e3;obtain ⟨c,O⟩:=sortedHeap_at (vs:=ZT.toList) (out:=(arrOf Yw).map (·.2)) U;refine Oz {_,rfl,.ref h'.objs.size,upd H h'.objs.size (.lst ((zN (kvs.map (·.1))).map V.str)),I1.laid (a:=h'.objs.size) (t':=tk) (λb o e=>?_) (Ox _) {?_,((arrOf Yw).map (·.2)).toList,c,A3 b1,by rw [Sd];exact O},rfl,q _ _ (.mk' (I1.hok.fresh (Ox _)))}
 .have hb:b<h'.objs.size:=O4 e;rw [sortedHeap_old (Pr hb) (by rw [So];exact RF hb)];exact Oy _ e
 .have:=b2.length_eq;rw [OB,this,OB,Qa];lia
theorem yx:∀{xs:List V}{us:List Value},xs.length=us.length->(∀(j:Nat)(u:Value),us[j]?=some u->∃x,xs[j]?=some x/\zo x u)->zt xs us
 | [],[],_,_=>.nil
 | [],_::_,h,_=>absurd h 'z'
 | _::_,[],h,_=>absurd h 'z'
 | x::xs,u::us,h,f=>by
  obtain ⟨y,e,r⟩:=f 0 u rfl;cases e;exact .cons r (yx (by simpa using h) λj w hw=>f (j+1) w hw)
end
end L2
namespace HT
open PySem PySem.Spec PyProof.Rows PySem.Calls
section
variable {prog:OL}{w:O1}{A:O0}{E:Value->Ow->Prop}{s:Ow}
theorem getItem_tuple_whole{t sl:Addr}{lo hi:Option Int}(z:Tr s.heap t items)(hs:s.heap.IsSliceOf sl S vu .none)(pl:Tf S lo)(pu:Tf vu hi)(h0:sIx items.size 0 lo=0)(h1:sIx items.size items.size hi=items.size)(h:Q (.ref t) s):OJ (OR prog w) A (Ua (.ref t) (.ref sl)) Q E s:=by
 obtain ⟨os,G,J,ab⟩:=id hs;have O:s.TypeIs (.ref sl) "slice":=⟨os,G,J⟩;unfold Ua
 try with_reducible refine O9 ?_
 first|refine we (Oz ?_)|skip
 refine we (wpAny_sequenceKey z.typeIs 'd' ?_);refine we (P5 (name:=OA "__getitem__") z.typeIs PZ
  (PK PZ z.typeIs entry_tuple_getitem ?_ (args_tuple_getitem _ _)))
 show OJ _ _ (OS.Tuple.tupleItemsOf (.ref t)>>=_) _ _ s;refine we (tupleItemsOf_ z ?_);refine we (Sb O ?_);rw [if_pos 'd'];refine we (tJ hs pl pu ?_);have F:(((sIx items.size 0 lo:Nat):Int)==0&&(1:Int)==1&&(sIx items.size items.size hi-sIx items.size 0 lo)==items.size)=true:=by
  rw [h0,h1];simp
 show OJ _ _ (if (((sIx items.size 0 lo:Nat):Int)==0&&(1:Int)==1&&(sIx items.size items.size hi-sIx items.size 0 lo)==items.size)=true then _ else _) _ _ s;rw [if_pos F];have XZ:∀{R:Bool->Ow->Prop}{Z:O0}{W:Value->Ow->Prop},R true s->OJ (OR prog w) Z (OS.Tuple.tupleIsExact (.ref t)) R W s:=λ{R Z W} U=>by
  unfold OS.Tuple.tupleIsExact
  first
   | exact we (Sb z.typeIs (Oz U))
   | exact wpAny_map (Sb z.typeIs U)
 refine we (XZ ?_)
 first
  | exact we (QR (we (Oz (Oz ⟨_,rfl,Oz h⟩))))
  | exact we (QR (Oz ⟨_,rfl,Oz h⟩))
  | exact we (QR (we (Oz ⟨_,rfl,Oz h⟩)))
end
end HT
namespace L2
open PySem PySem.Spec PyProof.Rows PySem.W PySem.Calls
section
variable {X:Cx}
def i6:V->Option Int->Option Int->Hp->VK->Prop:=λx lo hi H Q=>uSl x lo hi H Q\/∃a xs,x = .ref a/\H a=some (.tup xs)/\∀p H2,zi H H2->H2 p=some (.tup (bj xs lo hi))->Q (.ref p) H2
theorem tB:SlR X i6:=by
 intro Go s σ H x v G O lo hi sl Q I F hs pl z h;rcases h with h|⟨a,xs,rfl,hx,q⟩
 .exact dU Go s σ H x v G O lo hi sl Q I F hs pl z h
 .by_cases hw:HT.sIx xs.length 0 lo=0/\HT.sIx xs.length xs.length hi=xs.length
  .cases F;obtain ⟨its,r,J,hz⟩:=I.tuple (SqT.of hx);have S:its.toArray.size=xs.length:=by rw [OZ];exact r.length.symm
   refine {"tuple",_,PZ.lookup,J.typeIs,?_};refine HT.getItem_tuple_whole J hs pl z (by rw [S];exact hw.1) (by rw [S];exact hw.2) {.ref a,H,I,rfl,q a H (zi.refl _) ?_};rw [hx];unfold bj;rw [hw.1,hw.2];simp
  .exact CA Go s σ H _ v G O lo hi sl Q I F hs pl z {a,xs,rfl,SqT.of hx,hw,λp U=>q p _ (New.mk' (o:=.tup (bj xs lo hi)) U).same zu}
theorem LY{lo hi:Option Int}:i6 (.str z) lo hi H Q=(z.length<=sizeLine/\Q (.str (Txt.slice z lo hi)) H):=by simp [i6,yp]
theorem G8{lo hi:Option Int}:i6 (.ref a) lo hi H Q=((∃xs,H a=some (.lst xs)/\∀p H2,New H p (.lst (bj xs lo hi)) H2->Q (.ref p) H2)\/∃xs,H a=some (.tup xs)/\∀p H2,zi H H2->H2 p=some (.tup (bj xs lo hi))->Q (.ref p) H2):=by
 unfold i6;rw [AC];apply propext;constructor
 .rintro (h|⟨z,xs,e,h⟩)
  .exact .inl h
  .cases e;exact .inr ⟨xs,h⟩
 .rintro (h|⟨xs,h⟩)
  .exact .inl h
  .exact .inr {a,xs,rfl,h}
def iI:R2:=λx y H Q=>∃a b xs ys,x = .ref a/\y = .ref b/\H a=some (.tup xs)/\H b=some (.tup ys)/\xs.length+ys.length<=sizeLine/\∀p H2,zi H H2->H2 p=some (.tup (xs++ys))->Q (.ref p) H2
theorem Dg:OpR X (QP .Add) iI:=by
 intro Go s σ H x y v u Q I rx ry h;obtain ⟨a,b,xs,ys,rfl,rfl,J,S,hz,q⟩:=h;by_cases hx:xs=[]
 .cases rx;cases ry;obtain ⟨its,r1,p1,_⟩:=I.tuple (SqT.of J);obtain ⟨Yb,r2,p2,_⟩:=I.tuple (SqT.of S);obtain ⟨⟨cls,dd,data,sl⟩,Z,W,n,hd⟩:=id p1;obtain ⟨⟨ab,O,data2,U⟩,z,F,n2,G⟩:=id p2;simp only at W hd F G;subst W hd F G;have hi:its=[]:=r1.UP.mpr hx;exact concat_meets {_,Z,rfl} {_,z,rfl} noFill_tuple_add seq_tuple_add slot_tuple_add entry_tuple_add (args_tuple_add_2 _ _)
   (tuple_addW0 a b its.toArray Yb.toArray n n2 dd O sl U (by simp [hi])) {Z,z,{.ref b,H,I,rfl,q b H (zi.refl _) (by rw [S,hx];rfl)}}
 .exact MR Go s σ H _ _ v u Q I rx ry {a,b,xs,ys,rfl,rfl,SqT.of J,SqT.of S,hx,hz,λe=>q a H (zi.refl _) (by rw [J,e,Qe]),λ_ p hp=>q p _ (New.mk' (o:=.tup (xs++ys)) hp).same zu}
def fX:R2:=λx y H Q=>dI x y H Q\/iI x y H Q
theorem h7:OpR X (QP .Add) fX:=qg.or Dg
theorem NG:fX (.int i) (.int j) H Q=Q (.int (i+j)) H:=by simp [fX,iI,dI]
theorem Iq:fX (.str i) (.str j) H Q=(i.length+j.length<=sizeLine/\Q (.str (i++j)) H):=by simp [fX,iI,dI]
theorem BX:fX (.ref a) (.ref b) H Q=((∃xs zs,H a=some (.lst xs)/\H b=some (.lst zs)/\xs.length+zs.length<=sizeLine/\∀p H2,New H p (.lst (xs++zs)) H2->Q (.ref p) H2) \/
  ∃xs ys,H a=some (.tup xs)/\H b=some (.tup ys)/\xs.length+ys.length<=sizeLine/\∀p H2,zi H H2->H2 p=some (.tup (xs++ys))->Q (.ref p) H2):=by
 unfold fX;rw [oq];apply propext;constructor
 .rintro (h|⟨G,b',xs,ys,z,F,h⟩)
  .exact .inl h
  .cases z;cases F;exact .inr ⟨xs,ys,h⟩
 .rintro (h|⟨xs,ys,h⟩)
  .exact .inl h
  .exact .inr {a,b,xs,ys,rfl,rfl,h}
def tF:List V->Hp->VK->Prop:=λxs H Q=>∃i j,xs=[.int i,.int j]/\(0<j/\j<2 ^ 64)/\∀p H2,New H p (.tup [.int (i / j),.int (i % j)]) H2->Q (.ref p) H2
theorem BE:tF [.int i,.int j] H Q=((0<j/\j<2 ^ 64)/\∀p H2,New H p (.tup [.int (i / j),.int (i % j)]) H2->Q (.ref p) H2):=by
 apply propext;constructor
 .rintro ⟨z,F,e,h⟩;cases e;exact h
 .exact λh=>{i,j,rfl,h}
theorem LZ:zO X (.builtin "divmod") tF:=by
 intro Go s σ H xs us Q I r h;obtain ⟨i,j,rfl,⟨h1,h2⟩,q⟩:=h;obtain ⟨u,w',rfl,⟨t,rfl⟩,⟨t',rfl⟩⟩:=nr r;have z:j.natAbs.log2<9000:=by
  have:j.natAbs.log2<64:=(Nat.log2_lt 'l').mpr 'l';lia
 refine divmod_int 'l' ?_ (.inl (PyProof.noPylong_of_log2 z));rw [Int.fdiv_eq_ediv_of_nonneg i 'l',Int.fmod_eq_emod_of_nonneg i 'l'];have F:H s.heap.objs.size=none:=I.hok.fresh (Ox _);refine {.ref s.heap.objs.size,_,?_,rfl,q _ _ (.mk' F)};refine I.laid (λb o e=>Oy _ e) (Ox _) {by simp only [PQ,S3];rw [Qa];decide,[.int (i / j) s.toks,.int (i % j) (s.toks+1)],.cons {_,rfl} (.cons {_,rfl} .nil),?_};exact {_,OM s.heap rfl,rfl,0,rfl}
def jk:R2:=λx y H Q=>rI0 (λi j=>.bl (decide (i<=j))) x y H Q\/∃i j,x = .str i/\y = .str j/\Q (.bl (!decide (j.cps.toList<i.cps.toList))) H
theorem Jw:OpR X (P8 .LtE) jk:=iQ.or (by
 intro Go s σ H x y v u Q I F z h;obtain ⟨i,j,rfl,rfl,q⟩:=h;obtain ⟨t,rfl⟩:=F;obtain ⟨t',rfl⟩:=z;exact PySem.P.le_str (af I q rfl))
theorem La:jk (.int i) (.int j) H Q=Q (.bl (decide (i<=j))) H:=by simp [jk,rI0]
theorem N0:jk (.str i) (.str j) H Q=Q (.bl (!decide (j.cps.toList<i.cps.toList))) H:=by simp [jk,rI0]
def xA:TS:=λ_ _ _=>False
theorem aW{st:Stmt}:W (PS X st xA):={λ_ _ _ _ _ _ h=>h.elim}
def vo(to te:TE):TE:=λσ H Q=>to σ H λx H1=>uR x λl=>(∃xs,H1 l=some (.lst xs))/\te σ H1 λy H2=>uR y λb=>∃xs zs,H2 l=some (.lst xs)/\H2 b=some (.lst zs)/\xs.length+zs.length<=sizeLine/\Q .non (upd H2 l (.lst (xs++zs)))
theorem GE{to te:TE}:vo to te σ H Q=to σ H λx H1=>uR x λl=>(∃xs,H1 l=some (.lst xs))/\te σ H1 λy H2=>uR y λb=>∃xs zs,H2 l=some (.lst xs)/\H2 b=some (.lst zs)/\xs.length+zs.length<=sizeLine/\Q .non (upd H2 l (.lst (xs++zs))):=rfl
theorem iG{o e:O3}{to te:TE}(G:W (PE X o to))(z:W (PE X e te))(Zl:QE o "extend" X.env (Qc o X.env)=Qc o X.env:=by rfl)(Zk:(ZU.endLine==cpos.line)=true:=by rfl)(Z:aS e=true:=by rfl):W (PE X (.Call (.Attribute o "extend" ZU) [e] [] cpos) (vo to te)):=by
 refine {?_};have G:=G.h;have z:=z.h;intro Go s σ H Q I h;have hs:Pb [e] X.env=[(false,Qc e X.env)]:=eR Z;refine Q3 Zl (by rw [hs];rfl) Zk rfl (thn (G Go s σ H _ I h) λv s1=>x5e λx H1 O S Yo=>?_);obtain ⟨l,ex,⟨xs,hx⟩,q1⟩:=Yo;subst ex;obtain ⟨h1,h2⟩:=lR (T:="list") O S (.inl {rfl,xs,SqL.of hx});refine {"list","list.extend",TX,PySem.F.slot_list_extend,PySem.F.type_list_extend,h1,h2,?_};rw [hs];refine Calls.callWith_builtin rfl (Calls.evalArgs_plain ?_);refine Calls.spliced_cons (thn (z Go s1 σ H1 _ O q1) λu s2=>x5e λy H2 I2 r2 U=>Calls.spliced_nil ?_);obtain ⟨b,ey,J,zs,hl,hb,hz,q⟩:=U;subst ey;exact HX Go s2 σ H2 (.ref l) [.ref b] v [u] Q I2 S (.cons r2 .nil) {l,b,J,zs,rfl,rfl,hl,hb,hz,q}
end
section
variable {K:OF}{g:TG}{tb:TS}{D:bb}{σ:St}{H:Hp}{tl:TE}{R:It->Hp->Prop}{tt:TT}{te:TE}{Q:VK}{a:Addr}{o:Obj}{kvs:List (Key×V)}
theorem Hv:oo tl σ H R=tl σ H λx H1=>uR x λa=>∃o kvs,H1 a=some (.frz o (.dK kvs))/\R (Itd a o kvs) H1:=by
 unfold oo uR;congr;funext x H1;apply propext;constructor
 .rintro ⟨a,o,kvs,e,h⟩;exact ⟨a,e,o,kvs,h⟩
 .rintro ⟨a,e,o,kvs,h⟩;exact ⟨a,o,kvs,e,h⟩
theorem MO:pE tl σ H R=tl σ H λx H1=>uR x λa=>∃o kvs,H1 a=some (.frz o (.dK kvs))/\R (Itw a o kvs) H1:=by
 unfold pE uR;congr;funext x H1;apply propext;constructor
 .rintro ⟨a,o,kvs,e,h⟩;exact ⟨a,e,o,kvs,h⟩
 .rintro ⟨a,e,o,kvs,h⟩;exact ⟨a,o,kvs,e,h⟩
theorem aC.ck(F:Nat->St->Hp->Prop)(U:F 0 σ H)(hl:∀i σ H,i<=kvs.length->F i σ H->H a=some (.frz o (.dK kvs)))
  (hs:∀i p σ H,kvs[i]?=some p->F i σ H->g (kV p.1) σ H λG H2=>tb { D with nx:=F (i+1),ct:=F (i+1),bk:=D.nx } G H2) (hd:∀σ H,F kvs.length σ H->D.nx σ H):aC (Itd a o kvs) g tb D σ H:=by
 refine {λi m σ H=>m=kvs.length-i/\i<=kvs.length/\F i σ H,{kvs.length,'z',Qs _,U},?_};rintro i m σ H ⟨rfl,hi,p⟩;have q:=hl i σ H hi p;by_cases J:i<kvs.length
 .refine .inr {⟨q,J⟩,F (i+1),λO H' S=>{kvs.length-(i+1),'l',rfl,J,S},λx H' y=>?_};obtain ⟨e,z,hz,ex⟩:=y;subst e ex;exact hs i z σ _ hz p
 .have e:i=kvs.length:=by lia
  subst e;exact .inl {{q,Ox _},hd σ H p}
theorem FN{t:TS}:tFz t D σ H = ∃a kvs,H a=some (.dK kvs)/\∀o,t (D.Vt a kvs) σ (upd H a (.frz o (.dK kvs))):=rfl
theorem CN{t:TE}:uA t σ H Q = ∃a kvs,H a=some (.dK kvs)/\∀o,t σ (upd H a (.frz o (.dK kvs))) λv H'=>fi a kvs H' (Q v):=rfl
end
end L2
namespace L2
open PySem PySem.Spec PyProof.Rows
section
variable {α β:Type}
def look(t:List (Str×α))(n:Str):Option α:=(t.find? λp=>decide (p.1=n)).map (·.2)
def ak(t:List (Str×α))(n:Str)(a:α):List (Str×α):=if (look t n).isSome then t.map λp=>if p.1=n then (p.1,a) else p else t++[(n,a)]
def names(t:List (Str×α)):List Str:=t.map (·.1)
theorem yW:look ([]:List (Str×α)) n=none:=rfl
theorem bM{p:Str×α}{t:List (Str×α)}:look (p::t) n=if p.1=n then some p.2 else look t n:=by
 unfold look;by_cases h:p.1=n
 .rw [List.find?_cons_of_pos (by simpa using h),if_pos h];rfl
 .rw [List.find?_cons_of_neg (by simpa using h),if_neg h]
theorem rW{t:List (Str×α)}(h:look t n=some a):(n,a)∈t:=by
 induction t with
 | nil=>cases h
 | cons p t z =>
  rw [bM] at h;by_cases e:p.1=n
  .rw [if_pos e] at h;cases h;subst e;exact OT ..
  .rw [if_neg e] at h;exact OI _ (z h)
theorem dY{t:List (Str×α)}:look t n=none↔n∉names t:=by
 induction t with
 | nil=>simp [look,names]
 | cons p t z =>
  rw [bM];by_cases e:p.1=n
  .rw [if_pos e];simp [names,e]
  .rw [if_neg e,z];simp [names];exact λ_=>λh=>e h.symm
theorem tP{t:List (Str×α)}(nd:(names t).Nodup)(h:(n,a)∈t):look t n=some a:=by
 induction t with
 | nil=>cases h
 | cons p t F =>
  rw [bM];have z:p.1∉names t/\(names t).Nodup:=QJ.mp nd;rcases OH.mp h with e|h
  .rw [<- e,if_pos rfl]
  .have:p.1≠n:=λe=>z.1 (by rw [e];exact List.mem_map_of_mem (f:=(·.1)) h);rw [if_neg this];exact F z.2 h
theorem Mn{t:List (Str×α)}:names (ak t n a)=if (look t n).isSome then names t else names t++[n]:=by
 unfold ak names;by_cases h:(look t n).isSome
 .rw [if_pos h,if_pos h,Pg];refine QA λp _=>?_;show (if p.1=n then (p.1,a) else p).1=p.1;split<;>rfl
 .rw [if_neg h,if_neg h,Ph];rfl
theorem nY{t:List (Str×α)}(nd:(names t).Nodup):(names (ak t n a)).Nodup:=by
 rw [Mn];by_cases h:(look t n).isSome
 .rw [if_pos h];exact nd
 .rw [if_neg h];have:look t n=none:=by simpa using h
  rw [dY] at this;rw [QK];refine {nd,'z',λx hx y z e=>?_};have:y=n:=by simpa using z
  subst this;subst e;contradiction
theorem Gu{t:List (Str×α)}:look (t.map λp=>if p.1=n then (p.1,a) else p) m=if m=n then (if (look t n).isSome then some a else none) else look t m:=by
 induction t with
 | nil=>by_cases h:m=n<;>simp [look,h]
 | cons p t F =>
  rw [Pf,bM,F,bM,bM];by_cases e:p.1=n
  .rw [if_pos e,if_pos e];show (if p.1=m then some a else _)=_;by_cases h:m=n
   .rw [if_pos (by rw [e,h]),if_pos h];rfl
   .rw [if_neg (λz=>h (by rw [<- z,e])),if_neg h,if_neg h,if_neg (λz=>h (by rw [<- z,e]))]
  .rw [if_neg e,if_neg e];by_cases h:m=n
   .rw [if_pos h,if_pos h,if_neg (λz=>e (by rw [z,h]))]
   .rw [if_neg h,if_neg h]
theorem Im{t u:List (Str×α)}:look (t++u) m=(look t m).or (look u m):=by
 induction t with
 | nil=>simp [yW]
 | cons p t z =>
  rw [Tp,bM,bM,z];by_cases h:p.1=m
  .rw [if_pos h,if_pos h];rfl
  .rw [if_neg h,if_neg h]
theorem fe{t:List (Str×α)}:look (ak t n a) m=if m=n then some a else look t m:=by
 unfold ak;by_cases h:(look t n).isSome
 .rw [if_pos h,Gu,if_pos h]
 .rw [if_neg h,Im,bM];have F:look t n=none:=by simpa using h
  by_cases e:m=n
  .rw [if_pos e,e,F,if_pos rfl];rfl
  .rw [if_neg e,if_neg (λz=>e z.symm),yW,Option.or_none]
def bY(t u:List (Str×α)):Prop:=∀n,look t n=look u n
theorem bY.names{t u:List (Str×α)}(h:bY t u)(G:(names t).Nodup)(J:(L2.names u).Nodup):(L2.names t).Perm (L2.names u):=by
 refine (RP G J).mpr λn=>?_;have h1:=h n;constructor
 .intro F;refine Qd λz=>?_;rw [dY.mpr z] at h1;exact dY.mp h1 F
 .intro F;refine Qd λz=>?_;rw [dY.mpr z] at h1;exact dY.mp h1.symm F
def Dct(R:V->α->Prop):List (Str×V)->List (Str×α)->Prop:=Paired λp q=>p.1=q.1/\R p.2 q.2
theorem Dct.names{t:List (Str×α)}(h:Dct R kvs t):kvs.map (·.1)=L2.names t:=by
 induction h with
 | nil=>rfl
 | @cons p q l m r _ z=>show p.1::l.map (·.1)=q.1::m.map (·.1);rw [r.1,z];rfl
theorem Dct.length{t:List (Str×α)}(h:Dct R kvs t):kvs.length=t.length:=Paired.length h
theorem Dct.imp{t:List (Str×α)}(h:Dct R kvs t)(f:∀v a,R v a->S v a):Dct S kvs t:=Paired.wa h λp q z=>{z.1,f _ _ z.2}
theorem Dct.look{t:List (Str×α)}(h:Dct R kvs t)(n:Str):(∃v a,L2.look kvs n=some v/\L2.look t n=some a/\R v a)\/(L2.look kvs n=none/\L2.look t n=none):=by
 induction h with
 | nil=>exact .inr {rfl,rfl}
 | cons r _ z =>
  rw [bM,bM,<- r.1];split
  .exact .inl {_,_,rfl,rfl,r.2}
  .exact z
theorem Dct.put{t:List (Str×α)}(h:Dct R kvs t)(n:Str)(r:R v a):Dct R (ak kvs n v) (ak t n a):=by
 have hs:(L2.look kvs n).isSome=(L2.look t n).isSome:=by
  rcases h.look n with ⟨v,a,F,G,_⟩|⟨F,G⟩<;>rw [F,G]<;>rfl
 have hm:Dct R (kvs.map λp=>if p.1=n then (p.1,v) else p) (t.map λp=>if p.1=n then (p.1,a) else p):=by
  clear hs
  induction h with
  | nil=>exact .nil
  | @cons p q _ _ r' _ z =>
   refine .cons ?_ z;show (if p.1=n then (p.1,v) else p).1=(if q.1=n then (q.1,a) else q).1/\R (if p.1=n then (p.1,v) else p).2 (if q.1=n then (q.1,a) else q).2;by_cases e:p.1=n
   .rw [if_pos e,if_pos (by rw [<- r'.1];exact e)];exact ⟨r'.1,r⟩
   .rw [if_neg e,if_neg (by rw [<- r'.1];exact e)];exact r'
 have J:Dct R (kvs++[(n,v)]) (t++[(n,a)]):=by
  clear hs hm
  induction h with
  | nil=>exact .cons {rfl,r} .nil
  | cons r' _ z=>exact .cons r' z
 unfold ak;rw [hs];split
 .exact hm
 .exact J
theorem Dct.at{t:List (Str×α)}(h:Dct R kvs t):∀{i:Nat}{p:Str×V},kvs[i]?=some p->∃a,t[i]?=some (p.1,a)/\R p.2 a:=by
 induction h with
 | nil=>intro i p e;simp at e
 | @cons x y _ _ r _ F =>
  intro i p e;cases i with
  | zero =>
   have z:x=p:=by simpa using e
   subst z;exact {y.2,by rw [r.1];rfl,r.2}
  | succ i=>exact F (by simpa using e)
end
theorem dR:ag (sk kvs) (.inr n)=look kvs n:=by
 induction kvs with
 | nil=>rfl
 | cons p t F =>
  rw [bM];by_cases e:p.1=n
  .rw [if_pos e];exact iT (show (Sum.inr p.1:Key)=Sum.inr n by rw [e])
  .rw [if_neg e,<- F];exact h9 (λz=>e (by injection z))
theorem jI:aA (sk kvs) (.inr n) v=sk (ak kvs n v):=by
 unfold aA ak;have hs:((sk kvs).any λz=>decide (z.1 = .inr n))=(look kvs n).isSome:=by rw [sv,dR]
 rw [hs];split
 .unfold sk;rw [Pg,Pg];refine QA λp _=>?_;by_cases e:p.1=n
  .simp [e]
  .simp [e]
 .simp [sk]
theorem Ji:mj (.ref a) (.str z) H Q = ∃kvs,Rd H a (.dK kvs)/\∃v,ag kvs (.inr z)=some v/\Q v H:=by
 apply propext;constructor
 .rintro ⟨J,k,kvs,v,G,F,h1,h2,q⟩;cases G;cases k with
  | inl i=>cases F
  | inr x=>cases F;exact ⟨kvs,h1,v,h2,q⟩
 .rintro ⟨kvs,h1,v,h2,q⟩;exact {a,.inr z,kvs,v,rfl,rfl,h1,h2,q}
theorem JS:iI (.ref a) (.ref b) H Q = ∃xs ys,H a=some (.tup xs)/\H b=some (.tup ys)/\xs.length+ys.length<=sizeLine/\∀p H2,zi H H2->H2 p=some (.tup (xs++ys))->Q (.ref p) H2:=by
 apply propext;constructor
 .rintro ⟨G,b',xs,ys,z,F,h⟩;cases z;cases F;exact ⟨xs,ys,h⟩
 .rintro ⟨xs,ys,h⟩;exact {a,b,xs,ys,rfl,rfl,h}
theorem KU{k j:Nat}{p pos:Pos}(G:GC X.prog X.w X.K X.mg X.base cm j x C ps sp)(z:zE cm k X.A)(hg:Gl X x)(O:j+1<=k:=by decide)(J:(x==("__debug__":Str))=false:=by decide):
  PE X (.Call (.Name x p) [] [] pos) (jV C sp dr):=by
 obtain ⟨f,fd,F,hm,M,S⟩:=G.ex;intro Go s σ H Q I h;exact IE M F (z.mono O) hg hm S .nil jA J Go s σ H Q I (λy dx hx hd ne=>h y dx _ (.mk' hx hd ne))
theorem oZ{k j:Nat}{p pos:Pos}(G:GC X.prog X.w X.K X.mg X.base cm j x C ps sp)(z:zE cm k X.A)(hg:Gl X x)(J:j+1<=k:=by decide)(F:(x==("__debug__":Str))=false:=by decide):
  W (PE X (.Call (.Name x p) [] [] pos) (jV C sp dr)):={KU G z hg J F}
theorem iy:(sk kvs).length=kvs.length:=by simp [sk]
theorem Iw(O:∀Go,PSs (iH X Go λ_ _ _=>False) G tb):PS X (.Try G (h₀::hs) [] [] pos) tb:=by
 intro Go s σ H Z I h;refine wpAny_Try_except (Pp (O Go [] s σ H Z (I.p.UD _) h) (λf s1 q=>?_) λe s1 q=>?_)
 .cases f with
  | next =>
   obtain ⟨z,H',J,q⟩:=q;exact RB {z,H',Inv.a8 I.ok J.ri,q}
  | brk=>obtain ⟨z,H',J,q⟩:=q;exact {z,H',Inv.a8 I.ok J.ri,q}
  | cont=>obtain ⟨z,H',J,q⟩:=q;exact {z,H',Inv.a8 I.ok J.ri,q}
  | ret u=>obtain ⟨v,z,H',J,r,q⟩:=q;exact {v,z,H',Inv.a8 I.ok J.ri,r,q}
 .obtain ⟨ea,C,B,H',fl,z,S,rfl,J,y,os,bare,U,up,F⟩:=q;exact F.elim
theorem Mo(F:∀Go,W (PSs (iH X Go λ_ _ _=>False) z tb)):W (PS X (.Try z (h₀::hs) [] [] pos) tb):={Iw λGo=>(F Go).h}
section
variable {M:Model}{A:O0}{E:Value->Ow->Prop}{s:Ow}
theorem wQ{id:String}(J:args.any (·.1)=false)(F:z.any (·.1.isNone)=false)(h:OJ M A (evalArgs (.builtin id) true args z) (λa s1=>OJ M A (call (.builtin id) a.pos a.kw) Q E s1) E s):OJ M A (S5 pos (.builtin id) [] args z) Q E s:=by
 unfold S5;refine we (O9 (Pp h (λa s1 h1=>we (Qi ?_)) λ_ _ x=>x));simp only [J,F,RX];exact we (Oz (we (Pp h1 (λr s2 G=>we (O9 (wpAny_point (Oz G)))) λ_ _ x=>x)))
end
theorem GU{k:Int}{t:Tok}(W:env.scope.kind = .function)(hl:env.kindOf x=some .local)(O:s.heap.Ns env.locals m)(hm:m x=some (.ref a))(z:Tr s.heap a its)(G:its[0]?=some (.ref r))(F:Tr s.heap r ks)(h1:ks[1]?=some (.int k t))(hd:(x==("__debug__":Str))=false)(q:∀tk,Q (.int k t) { s with toks:=tk }):OJ (OR prog w) A (Qc (.Subscript (.Subscript (.Name x J) (.Constant (.int 0) Z p2) U) (.Constant (.int 1) S p4) p5) env) Q E s:=by
 refine Subscript_ (Subscript_ (wpAny_Name (SB W hl O hm ?_) hd));refine SY ?_;have s0:0<its.size:=(PN.mp G).1;have s1:1<ks.size:=(PN.mp h1).1;refine Rw (x:=.ref r) (T:="tuple") z.typeIs SZ.lookup (getItem_tuple (j:=0) z 'd' 'd' (by simp [seqIndex?,s0]) G {rfl,?_});refine SY ?_;exact Rw (x:=.int k t) (T:="tuple") F.typeIs SZ.lookup (getItem_tuple (j:=1) F 'd' 'd' (by simp [seqIndex?];lia) h1 {rfl,q _})
def bV(pos:Pos)(qual:Str)(H:Hp)(P:Addr):Prop :=
 H P=some (.tbl #[])\/∃c' oc vs t,H P=some (.tbl #[PC pos.line,PC pos.col,.ref c'])/\H c'=some (.frz oc (.own 0))/\oc.data = .fields vs/\vs[1]?=some (.str qual t)
structure eV(mg:Str->Option Value)(base:Heap)(Z0:Value)(P:Addr):Prop where
 cd:∃c,Z0 = .ref c/\PySem.W.CodeHd base c P
 bt:∃bm o,mg "__builtins__"=some (.ref bm)/\bm≠R1/\bm≠OK/\base.get? bm=some o/\o.cls = .type "module"/\o.dict=some R1/\o.data = .plain
def gY(H H':Hp)(P:Addr):Prop:=∀a o,a≠P->H a=some o->H' a=some o
theorem sZ(LB:eV X.mg X.base X.env.code P)(X4:Ue Z1 X.env=([],[]))(Xi:RM scope X.env=pure [])(I:Inv X Go σ H s)(hT:bV pos (X.env.qual++"<lambda>") H P)(h:∀(f c':Addr)(O:Value)(h':Heap)(tk:Nat)(H':Hp),f+1=h'.objs.size->s.heap.objs.size<=f->h'.CodeRec (.ref c') (X.env.qual++"<lambda>") ->
   h'.get? f=some (kla_obj "<lambda>" (X.env.qual++"<lambda>") Z1 ZW scope [] ((X.mg "__name__").getD .none) c' O)->bV pos (X.env.qual++"<lambda>") H' P->gY H H' P->Inv X Go σ H' { s with heap:=h',toks:=tk }->(H' f=none/\∃oc vs t,H' c'=some (.frz oc (.own 0))/\oc.data = .fields vs/\vs[1]?=some (.str (X.env.qual++"<lambda>") t))->Q (.ref f) { s with heap:=h',toks:=tk }):
  OJ (OR X.prog X.w) X.A (Qc (.Lambda Z1 ZW scope pos) X.env) Q E s:=by
 refine PySem.W.kla_eval X4 ?_;obtain ⟨c,hc,C⟩:=LB.cd;obtain ⟨bm,ob,b1,b2,b3,b4,b5,b6,b7⟩:=LB.bt;obtain ⟨og,a5,a4,eg,a3⟩:=id I.ok.mod.glob;have aH:s.heap.Ns OK X.mg:=I.ok.mod.glob.keeps I.bk;have ai:∀{b:Addr}{o:Obj}{u:HO},X.base.get? b=some o->H P=some u->b≠P:=λe F z=>by
  have:=(I.bs _ _ e).2;rw [z,F] at this;cases this
 rcases hT with F|⟨c',oc,vs,t,F,X8,hd,hv⟩
 .have J:s.heap.get? P=some (tabObj #[]):=I.hok P _ F;refine PySem.W.kla_makeFunction (mg:=X.mg) Xi I.ok.glob aH hc (C.keeps I.bk) J trivial rfl (ai eg F) {bm,ob,b1,b2,b3,ai b4 F,I.bk _ _ b4,b5,b6,b7} λc' O h' tk hx WX ZH ar aF=>?_;obtain ⟨a0,oc,vs,t,e2,Z,hd,hv⟩:=ar;cases e2;have av:P<s.heap.objs.size:=O4 J;have cP:c'≠P:=λz=>by rw [z] at WX;exact absurd av (Tt.mpr WX)
  have S:∀{b:Addr}{u:HO},H b=some u->b≠c':=λe z=>by
   have:=I.hok.lt e;rw [z] at this;exact absurd this (Tt.mpr WX)
  have aI:∀{b:Addr}{u:Obj},s.heap.get? b=some u->b≠c':=λe z=>by
   have:=O4 e;rw [z] at this;exact absurd this (Tt.mpr WX)
  have kp:∀b o,b≠P->s.heap.get? b=some o->(h'.push (kla_obj "<lambda>" (X.env.qual++"<lambda>") Z1 ZW scope [] ((X.mg "__name__").getD .none) c' O)).get? b=some o:=λb o n e=>Oy _ (hx b o n e)
  let H':Hp:=upd (upd H P (.tbl #[PC pos.line,PC pos.col,.ref c'])) c' (.frz oc (.own 0))
  have G:∀b,b≠P->b≠c'->H' b=H b:=λb n1 n2=>by show upd _ c' _ b=H b;rw [ze n2,ze n1]
  have ab:H' P=some (.tbl #[PC pos.line,PC pos.col,.ref c']):=by show upd _ c' _ P=_;rw [ze (Pe cP),zu]
  have U:H' c'=some (.frz oc (.own 0)):=zu;have nP:∀b,H b=none->b≠P:=λb e z=>by rw [z,F] at e;cases e
  have ext:∀b u,H b=some u->(∀ps,u≠.tbl ps)->H' b=some u:=λb u e n=>by rw [G b (λz=>by rw [z,F] at e;cases e;exact n _ rfl) (S e)];exact e
  have un:Un X.fs [] H H' s.heap (h'.push (kla_obj "<lambda>" (X.env.qual++"<lambda>") Z1 ZW scope [] ((X.mg "__name__").getD .none) c' O)):=by
   refine {λb o e n _ _=>kp b o (nP b n) e,λb o e n _ _=>{o.slots,kp b o (nP b n) e},λb o e n _=>by rw [G b (nP b n) (aI e)];exact n,λb o e _=>?_,λb xs e=>ext b _ e λ_=>nofun,λb o u e=>ext b _ e λ_=>nofun,λb ps e=>?_}
   .by_cases z:b=P
    .exact {_,by rw [z];exact Oy _ aF}
    .exact {o,kp b o z e}
   .by_cases z:b=P
    .rw [z,F] at e;cases e;exact {#[PC pos.line,PC pos.col,.ref c'],by rw [z,ab];simp}
    .exact {#[],by rw [G b z (S e),e];simp}
  have hok:HOk X.prog X.w H' (h'.push (kla_obj "<lambda>" (X.env.qual++"<lambda>") Z1 ZW scope [] ((X.mg "__name__").getD .none) c' O)):=λa o e=>by
   by_cases z1:a=c'
   .rw [z1,U] at e;cases e;rw [z1];exact {Oy _ Z,{_,Oy _ Z}}
   .by_cases z2:a=P
    .rw [z2,ab] at e;cases e;rw [z2];show Heap.get? _ P=_;exact Oy _ aF
    .rw [G a z2 z1] at e;refine (I.hok a o e).UE (λb u hb q=>kp b u ?_ q) (λb q=>ext b _ q λ_=>nofun) λb xs q=>ext b _ q λ_=>nofun;rcases hb with rfl|hb
     .exact z2
     .intro z;rw [z,F] at hb;cases hb
  refine h h'.objs.size c' O _ tk H' (by rw [So]) (Sf (PV WX ZH)) {c',oc,vs,t,rfl,Oy _ Z,hd,hv} (OM _ rfl) (.inr ⟨c',oc,vs,t,ab,U,hd,hv⟩) (λa o n e=>by rw [G a n (S e)];exact e) (I.un un hok) {by rw [G _ (λz=>by rw [<- z] at av;lia) (λz=>by rw [z] at ZH;lia)];exact I.hok.fresh 'l',oc,vs,t,U,hd,hv}
 .have J:s.heap.get? P=some (tabObj #[PC pos.line,PC pos.col,.ref c']):=I.hok P _ F;have aT:s.heap.get? c'=some oc:=(I.hok c' _ X8).1;refine PySem.W.kla_makeFunctionHit (mg:=X.mg) (cv:=.ref c') Xi I.ok.glob aH hc (C.keeps I.bk) J ?_ ?_ {bm,ob,b1,b2,b3,ai b4 F,I.bk _ _ b4,b5,b6,b7} λO h' tk hk hsz=>?_
  .exact trivial
  .simp [codeAmong,PC]
  .exact h h'.objs.size c' O _ tk H (by rw [So]) hsz {c',oc,vs,t,rfl,Oy _ (hk _ _ aT),hd,hv} (OM _ rfl) (.inr ⟨c',oc,vs,t,F,X8,hd,hv⟩) (λ_ _ _ e=>e) (I.kept λb o e=>Oy _ (hk b o e)) {I.hok.fresh hsz,oc,vs,t,X8,hd,hv}
def pM(H:Hp)(a:Addr)(k:Int):Prop:=∃r rest y ys,H a=some (.tup (.ref r::rest))/\H r=some (.tup (y::.int k::ys))
def gh(P:Addr)(pos:Pos)(qual:Str)(v:V)(H1:Hp)(Q:VK):Prop:=uR v λl=>∃(as:List Addr)(ks:List Int),H1 l=some (.lst (as.map V.ref))/\bV pos qual H1 P/\as.length<64/\Paired (pM H1) as ks /\
 ∀(D:Addr)(zs:List (Int×Addr))(H2:Hp),gY H1 H2 P->bV pos qual H2 P->H1 D=none->D≠P->D≠sysModules->H2 D=some (.lst (zs.map λz=>V.ref z.2))->zs.Perm (ks.zip as)->zs.Pairwise (λp q=>p.1<=q.1)->Q (.ref D) H2
def ql(P:Addr)(pos:Pos)(qual:Str)(ta:TE):TE:=λσ H Q=>ta σ H λv H1=>gh P pos qual v H1 Q
theorem Bl:ql P pos qual ta σ H Q=ta σ H λv H1=>gh P pos qual v H1 Q:=rfl
theorem Mp:gh P pos qual (.ref l) H1 Q = ∃(as:List Addr)(ks:List Int),H1 l=some (.lst (as.map V.ref))/\bV pos qual H1 P/\as.length<64/\Paired (pM H1) as ks /\
 ∀(D:Addr)(zs:List (Int×Addr))(H2:Hp),gY H1 H2 P->bV pos qual H2 P->H1 D=none->D≠P->D≠sysModules->H2 D=some (.lst (zs.map λz=>V.ref z.2))->zs.Perm (ks.zip as)->zs.Pairwise (λp q=>p.1<=q.1)->Q (.ref D) H2:=sQ
theorem Kx{as:List Addr}(h:zt (as.map V.ref) its):its=as.map OU:=by
 induction as generalizing its with
 | nil=>cases h;rfl
 | cons a as z =>
  cases h with
  | cons r F=>rw [z F,show _=OU a from r];rfl
theorem Fn(as:List Addr):zt (as.map V.ref) (as.map OU):=by
 induction as with
 | nil=>exact .nil
 | cons a as z=>exact .cons rfl z
theorem Mr(h:ps.Perm (l.map λz=>(z.1,OU z.2))):∃zs:List (Int×Addr),zs.Perm l/\ps=zs.map λz=>(z.1,OU z.2):=by
 let g:Int×Value->Int×Addr:=λp=>(p.1,match p.2 with | .ref a=>a|_=>0)
 have G:(l.map λz=>(z.1,OU z.2)).map g=l:=by
  rw [Pg];have:(g∘λz:Int×Addr=>(z.1,OU z.2))=id:=rfl;rw [this,map_id]
 refine {ps.map g,by have:=h.map g;rw [G] at this;exact this,?_};rw [Pg];have:∀p∈ps,((λz:Int×Addr=>(z.1,OU z.2))∘g) p=p:=λp F=>by
  obtain ⟨z,_,rfl⟩:=Qt.mp (h.mem_iff.mp F);rfl
 exact (map_id ps).symm.trans (QA λp F=>(this p F).symm)
theorem tG:∀(ks:List Int)(as:List Addr),ks.zip (as.map OU)=(ks.zip as).map λz=>(z.1,OU z.2)
 | [],_=>rfl
 | _::_,[]=>rfl
 | k::ks,a::as=>by rw [Pf,Sw,Sw,Pf,tG ks as]
theorem cf{α β:Type}{R:α->β->Prop}:∀{l:List α}{m:List β},Paired R l m->∀{i:Nat}{a:α}{b:β},l[i]?=some a->m[i]?=some b->R a b
 | _,_,.nil,i,a,b,h,_=>by simp at h
 | _,_,.cons r t,0,a,b,h,h'=>by
  simp at h h';subst h h';exact r
 | _,_,.cons r t,i+1,a,b,h,h'=>cf t (by simpa using h) (by simpa using h')
theorem aO{α β:Type}{R:α->β->Prop}{l:List α}{m:List β}(h:Paired R l m):l.length=m.length:=Paired.length h
theorem JA{k:Nat}{p pos Zb kp p1 p2 p3 p4 p5:Pos}(LB:eV X.mg X.base X.env.code P)(hr:zE cm k X.A)(hg:Gl X "sorted")(hm:X.mg "sorted"=none)(ha:PE X a ta)(X4:Ue Z1 X.env=([],[]))(Xi:RM scope X.env=pure [])(YF:∀(q:Str)(pm cd ct v:Value),S6 (kla_fn "<lambda>" q Z1 (.Subscript (.Subscript (.Name x p1) (.Constant (.int 0) j1 p2) p3) (.Constant (.int 1) j2 p4) p5) scope [] pm cd ct) {[v],[]}=pure [(x,v)])(WW:scope.names=[(x,.local)])(Yv:scope.kind = .function)(bg:scope.isCoroutine=false)(aH:scope.isGenerator=false)(hp:aS a=true:=by rfl)(YZ:(x==("__debug__":Str))=false:=by decide):
  PE X (.Call (.Name "sorted" p) [a] [{some (OA "key"),.Lambda Z1 (.Subscript (.Subscript (.Name x p1) (.Constant (.int 0) j1 p2) p3) (.Constant (.int 1) j2 p4) p5) scope Zb,kp}] pos) (ql P Zb (X.env.qual++"<lambda>") ta):=by
 intro Go s σ H Q I h;have hs:Pb [a] X.env=[(false,Qc a X.env)]:=eR hp;have hA:=fu ha fz (hs:=hs) pos Go s σ H (λys H1=>∃y,ys=[y]/\gh P Zb (X.env.qual++"<lambda>") y H1 Q) I (by
  show ta σ H λx H1=>∃y,[x]=[y]/\gh P Zb (X.env.qual++"<lambda>") y H1 Q;have e:(λ(x:V)(H1:Hp)=>∃y,[x]=[y]/\gh P Zb (X.env.qual++"<lambda>") y H1 Q)=λv H1=>gh P Zb (X.env.qual++"<lambda>") v H1 Q:=by
   funext x H1;apply propext;constructor
   .rintro ⟨y,e,h⟩;cases e;exact h
   .exact λh=>{x,rfl,h}
  rw [e];exact h)
 refine Qu (fQ I hg hm SF (wQ (by rw [hs];rfl) rfl ?_));rw [hs] at hA ⊢;refine evalArgs_kwB rfl (thn hA λus s1=>x5e λvs H1 I1 r1 q1=>kws_cons ?_);obtain ⟨y,rfl,l,rfl,as,ks,hl,hT,XO,hK,q⟩:=q1
 .cases r1 with
  | cons r rr =>
   cases rr;cases r;refine sZ LB X4 Xi I1 hT λf c' Xv h2 tk H2 hsz WX hcd hf a5 hL O _=>kws_nil ?_;have a6:l≠P:=λz=>by
    rcases hT with G|⟨_,_,_,_,G,_⟩ <;> · rw [z,G] at hl;cases hl
   have Yd:=hL _ _ a6 hl;obtain ⟨its,rv,⟨o,n,e1,e2,e3,e4⟩,hz⟩:=O.list (SqL.of Yd);have aT:=Kx rv;subst aT;obtain ⟨m,F⟩:=O.fr;have ba:=aO hK;have XH:∀b o,h2.get? b=some o->b≠X.env.locals->X.base.get? b=none->(b,o)∈gw X.base h2 X.env.locals:=λb o e n1 n2=>DR n1 n2 e;refine PyProof.Rows.ksk_sorted (b:=false) (kz:=ks) (f:=.ref f) (h₀:=X.base) (L:=X.env.locals) (news:=gw X.base h2 X.env.locals) F Ja (vs:=as.map OU) (l:=l) ⟨o,e1,e2,n,e4⟩ (by rw [OB];exact ba.symm) (by rw [OB];exact XO) (PyProof.Rows.ksk_s1 _ _) (λx=>PyProof.Rows.ksk_l1 _ _) (λx=>PyProof.Rows.ksk_t1 _ _) (λi v k' hv Yt h3 aI own U N3=>?_) λD h3 aI out c U N3 lt ko=>?_
   .have Z:∀b o,b≠X.env.locals->h2.get? b=some o->h3.get? b=some o:=λb o n e=>by
     cases S:X.base.get? b with
     | some u =>
      have:=F.keep b u S;rw [show h2.get? b=some u from this] at e;cases e;exact U.keep b _ S
     | none=>exact (N3 (b,o) (Pz _ (XH b o e n S))).1
    rw [OV] at hv;obtain ⟨ai,bf,rfl⟩:=O2.mp hv;obtain ⟨r,rest,y,ys,k1,k2⟩:=cf hK bf Yt;have tt:∀{b xs},H1 b=some (.tup xs)->∃its,zt xs its/\Tr h3 b its.toArray:=λ{b xs} e=>by
     have bP:b≠P:=λz=>by
      rcases hT with G|⟨_,_,_,_,G,_⟩ <;> · rw [z,G] at e;cases e
     have e2:=hL _ _ bP e;obtain ⟨_,its,rv,ob,g1,g2⟩:=O.hok b _ e2;have bL:b≠X.env.locals:=λz=>by rw [z,O.free] at e2;cases e2
     exact {its,rv,ob,Z _ _ bL g1,g2}
    obtain ⟨b0,bp,t1⟩:=tt k1;obtain ⟨b2,bh,t2⟩:=tt k2;cases bp with
    | cons ra _ =>
    cases ra;cases bh with
    | cons rb rc =>
    cases rc with
    | cons rd _ =>
    obtain ⟨ar,rfl⟩:=rd;have fL:f≠X.env.locals:=λz=>by
     have:=I1.lt;rw [<- z] at this;exact absurd this (Tt.mpr WX)
    have a7:=Z _ _ fL hf;have av:h3.CodeRec (.ref c') (X.env.qual++"<lambda>"):=by
     obtain ⟨c2,oc,vs,t,e,g1,g2,g3⟩:=hcd;refine {c2,oc,vs,t,e,Z _ _ (λz=>?_) g1,g2,g3};obtain ⟨m',⟨ol,es,ep,el,a4,_⟩,_⟩:=id O.loc;rw [z] at g1;rw [show h2.get? X.env.locals=some ol from el] at g1;cases g1;rw [g2] at a4;cases a4
    refine SX (PySem.W.kla_callFunE (by show X.A.depth<recursionLimit;exact hr.depth) a7 rfl bg aH rfl av ?_);rw [YF];refine Oz (wpAny_newFunctionEnv (λy hy=>?_) (λy hy=>?_) (λh4 bx Xo=>?_) Yv)
    .rw [WW,ON] at hy;rw [hy];nofun
    .rw [ON] at hy;rw [hy];show scope.names.lookup x=_;rw [WW];simp [PH]
    .have k4:∀b o,h3.get? b=some o->h4.get? b=some o:=λb o e=>Xo.extBut b o (Pr (O4 e)) (Oy _ e);refine {(I.ok.mod.nolimit.keeps U.keep).keeps k4,PySem.W.kla_codeExpr ?_};refine GU (m:=λy=>([(x,OU ai)]:List (Str×Value)).reverse.lookup y) (a:=ai) (r:=r) (k:=k') (t:=ar) Yv ?_ bx (by simp [PH]) (its:=(OU r::_).toArray) {t1.choose,k4 _ _ t1.choose_spec.1,t1.choose_spec.2} 'z' (ks:=(_::Rr k' ar::_).toArray) {t2.choose,k4 _ _ t2.choose_spec.1,t2.choose_spec.2} 'z' YZ λb1=>?_
     .show scope.names.lookup x=_;rw [WW];simp [PH]
     .exact PyProof.Rows.KskEnd.intro (news':=gw X.base h2 X.env.locals++own) {U.ns.keeps k4,λb o e=>k4 _ _ (U.keep b o e),U.above} (λp hp=>{k4 _ _ (N3 p hp).1,(N3 p hp).2}) λ_ h=>h
   .obtain ⟨ps,aF,a9,a8⟩:=ko;rw [tG] at aF;obtain ⟨zs,a3,rfl⟩:=Mr aF;have fm:(f,kla_obj "<lambda>" (X.env.qual++"<lambda>") Z1 (.Subscript (.Subscript (.Name x p1) (.Constant (.int 0) j1 p2) p3) (.Constant (.int 1) j2 p4) p5) scope [] ((X.mg "__name__").getD .none) c' Xv)∈gw X.base h2 X.env.locals:=XH _ _ hf (λz=>by
     have:=I1.lt;rw [<- z] at this;exact absurd this (Tt.mpr WX)) (by
     cases S:X.base.get? f with
     | none=>rfl
     | some u =>
      have:=O4 (I1.bk _ _ S);exact absurd this (Tt.mpr WX))
    have ab:h2.objs.size<=D:=by have:=lt _ fm;rw [<- hsz];exact this
    have D2:H2 D=none:=O.hok.fresh ab;have DP:D≠P:=λz=>by
     rcases a5 with G|⟨_,_,_,_,G,_⟩ <;> · rw [z,G] at D2;cases D2
    have D1:H1 D=none:=by
     cases qd:H1 D with
     | none=>rfl
     | some u=>rw [hL _ _ DP qd] at D2;cases D2
    have eo:out=((zs.map (·.2)).map OU).toArray:=by
     apply Array.toList_inj.mp;rw [a9];simp
    have lz:zs.length<=as.length:=by rw [a3.length_eq,List.length_zip];lia
    have Z:∀b o,b≠X.env.locals->h2.get? b=some o->h3.get? b=some o:=λb o hb e=>by
     cases S:X.base.get? b with
     | some u =>
      have:=F.keep b u S;rw [show h2.get? b=some u from this] at e;cases e;exact U.keep b _ S
     | none=>exact (N3 (b,o) (OI _ (XH b o e hb S))).1
    have J:∀{b:Addr}{u:HO},H2 b=some u->b≠D:=λe z=>by rw [z,D2] at e;cases e
    have a0:∀{b:Addr}{u:HO},H2 b=some u->b≠X.env.locals:=λe z=>by rw [z,O.free] at e;cases e
    have hm:(zs.map λz:Int×Addr=>V.ref z.2)=(zs.map (·.2)).map V.ref:=by rw [Pg];rfl
    have new:ae X.prog X.w (upd H2 D (.lst (zs.map λz:Int×Addr=>V.ref z.2))) h3 D (.lst (zs.map λz:Int×Addr=>V.ref z.2)):={by rw [OB,Qa];lia,(zs.map (·.2)).map OU,c,by rw [hm];exact Fn _,by rw [<- eo];exact (N3 _ (OT ..)).1};refine {.ref D,upd H2 D (.lst (zs.map λz:Int×Addr=>V.ref z.2)),?_,rfl,q D zs _ (λb u n e=>by rw [ze (λz=>by rw [z,D1] at e;cases e)];exact hL _ _ n e) ?_ D1 DP (Rp (Pd O.big ab)) zu a3 ?_}
    .refine O.step (h':=h3) (g':=s1.gens) (d':=s1.drawn) (t':=aI) (ch:=[]) (λ_ z=>nomatch z) (λb o n _ _ e _=>Z b o n e) (λb o n _ _ e _=>{o.slots,Z b o n e}) (λb o _ e n=>?_) (λb o _ e=>?_) (λb xs e=>by rw [ze (J e)];exact e) (λb o u e=>by rw [ze (J e)];exact e) (λb ps e=>{#[],by rw [ze (J e),e];simp}) (λm' bt=>?_) (λb u e=>?_) O.bare
     .rw [ze (λz=>?_)]
      .exact n
      .have:=O4 e;rw [z] at this;exact absurd this (Tt.mpr ab)
     .by_cases hb:b=X.env.locals
      .obtain ⟨o1,_,_,g1,_⟩:=U.ns;exact {o1,by rw [hb];exact g1}
      .exact {o,Z b o hb e}
     .have e1:=bt.eq_nsMap;have e2:=F.ns.eq_nsMap;have:m'=m:=e1.trans e2.symm;rw [this];exact U.ns
     .by_cases z:b=D
      .rw [z,zu] at e;cases e;rw [z];exact new
      .rw [ze z] at e;refine (O.hok b u e).UE (λc v hc q=>Z c v ?_ q) (λc q=>by rw [ze (J q)];exact q) λc xs q=>by rw [ze (J q)];exact q
       rcases hc with rfl|hc
       .exact a0 e
       .exact a0 hc
    .rcases a5 with G|⟨c1,oc,vs,t,G,hc,hr⟩
     .exact .inl (by rw [ze (Pe DP)];exact G)
     .exact .inr {c1,oc,vs,t,by rw [ze (Pe DP)];exact G,by rw [ze (λz=>by rw [<- z,hc] at D2;cases D2)];exact hc,hr}
    .have:=RR.mp a8;exact this.imp λh=>by simpa using h
def gM(mg:Str->Option Value)(base:Heap):Prop:=∃bm o,mg "__builtins__"=some (.ref bm)/\bm≠R1/\bm≠OK/\base.get? bm=some o/\o.cls = .type "module"/\o.dict=some R1/\o.data = .plain
theorem Ld{K:OF}{k:Nat}{ts:List Addr}(Z:∀T∈ts,s₁.heap.get? T=some (tabObj #[]))(hC:∀T∈ts,K.lookup T=none/\∃c,Up K c T=true)(a0:gM mg s₁.heap)(KX:K.In s₁.heap)(aF:s₁.heap.Ns OK mg)(G:s₁.heap.Ns R1 mb)(a3:∀x:Str,x≠"__name__"->mb x=Rz x)(aH:s₁.heap.NoLimit)(hg:s₁.gens = #[])(ha:s₁.heap.get? a=some { cls:=.type "list",data:=.seq vs.toArray })(hi:RA vs ns)(hl:ns.length<=sizeLine)(hr:zE true k callerA)(F:∀base:Heap,K.In base->base.Ns OK mg->gM mg base->zp P w K mg base CX true k fa fd [x] sp)(YF:∀(s:Ow)(u:Value),BindsTo s fd {[u],[]} [(x,u)])(Xj:∀H:Hp,(∀T∈ts,H T=some (.tbl #[]))->SqL K H a (ns.map V.int)->sp [.ref a] H (λv _=>v = .bl true) λ_ _ _=>False)(aI:∀H e s',CX [] H s₁ (λ_ _ _=>False) e s'->False):
  QT (OR P w) callerA (.call (.ref fa) {[.ref a],[]}) (λr s'=>r = .ok (.ret (.bool true))/\OldK s₁.heap s'.heap/\s'.os=s₁.os/\RI s'.gens) s₁:=by
 have rv:=ml hi;have ai:=hi.length;have aT:a∉ts:=λh=>by have:=Z a h;rw [ha] at this;cases this
 have XY:∀H:Hp,(∀b,H b=none\/(∃o xs,H b=some (.frz o (.lst xs)))\/(b∈ts/\H b=some (.tbl #[])))->(∀T∈ts,H T=some (.tbl #[]))->SqL K H a (ns.map V.int)->HOk P w H s₁.heap->(∀b,H b≠none->b=a\/b∈ts)->(H a≠none->K.lookup a=none) ->
   QT (OR P w) callerA (.call (.ref fa) {[.ref a],[]}) (λr s'=>r = .ok (.ret (.bool true))/\OldK s₁.heap s'.heap/\s'.os=s₁.os/\RI s'.gens) s₁:=by
  intro H hO ab hS hok hA hK;have J:∀{b:Addr}{o:Obj},s₁.heap.get? b=some o->H b=none->(dN s₁.heap H).get? b=some o:=λe n=>MV e n;have av:∀{b:Addr}{o:Obj},s₁.heap.get? b=some o->(∀xs n,o.data≠.seq xs n)->(∀ps,o.data≠.fields ps)->H b=none:=λ{b o} e d1 d2=>by
   cases q:H b with
   | none=>rfl
   | some u =>
    rcases hA b (by rw [q];simp) with e'|e'
    .subst e';rw [ha] at e;cases e;exact absurd rfl (d1 _ _)
    .rw [Z b e'] at e;cases e;exact absurd rfl (d2 _)
  have S:∀{b:Addr}{m:Str->Option Value},s₁.heap.Ns b m->(dN s₁.heap H).Ns b m:=λ{b m} ⟨o,es,ep,e,d,r⟩=>{o,es,ep,J e (av e (λ_ _=>by rw [d];nofun) (λ_=>by rw [d];nofun)),d,r};have ar:K.In (dN s₁.heap H):=λb o e=>J (KX b o e) (by
   cases q:H b with
   | none=>rfl
   | some u =>
    rcases hA b (by rw [q];simp) with e'|e'
    .subst e';rw [hK (by rw [q];simp)] at e;cases e
    .rw [(hC b e').1] at e;cases e)
  have hM:Mod K mg (dN s₁.heap H):={ar,S aF,{mb,S G,a3},let ⟨mc,h1,h2⟩:=aH;{mc,S h1,h2}};have hB:gM mg (dN s₁.heap H):=let ⟨bm,o,b1,b2,b3,b4,b5,b6,b7⟩:=a0;{bm,o,b1,b2,b3,J b4 (av b4 (λ_ _=>by rw [b7];nofun) (λ_=>by rw [b7];nofun)),b5,b6,b7};have e0:fR P w K mg (dN s₁.heap H) callerA [] s₁ H:={rfl,.inl rfl,hM,λb o e=>B5 e,TQ (LA _ _),trivial,λb G=>absurd (show b∈([]:List Addr) from G) 'z',hok,.of_eq hg};refine QS ((F _ ar (S aF) hB).run callerA [] s₁ H {[.ref a],[]} [.ref a] [.ref a] _ _ hr e0 (YF s₁ (.ref a)) (.cons rfl .nil) (Xj H ab hS)) λr s' h=>?_;cases r with
  | error e=>exact (aI H e s' h).elim
  | ok fl =>
   cases fl with
   | next=>exact False.elim h
   | brk=>exact False.elim h
   | cont=>exact False.elim h
   | ret u =>
    obtain ⟨v,H',os,bare,un,U,r',q⟩:=h;have q':v = .bl true:=q;subst q';obtain rfl:u=RN true:=r';have W:∀b,b∈ts->∃more:Array Value,s'.heap.get? b=some (tabObj (#[]++more)):=λb G=>by
     obtain ⟨more,z⟩:=un.tbls b #[] (ab b G);exact {more,U b _ z}
    refine {rfl,{λb o e=>?_,λb o e=>un.there b o e 'z'},os,bare};cases q:H b with
    | none=>exact .inl (un.keep b o e q (by intro z;exact absurd (show b∈([]:List Addr) from z) 'z') 'z')
    | some u =>
     rcases hO b with z|⟨ob,xs,z⟩|⟨G,z⟩
     .rw [q] at z;cases z
     .have z2:=un.frzs b ob _ z;obtain ⟨e1,_⟩:=hok b _ z;obtain ⟨e2,_⟩:=U b _ z2;rw [e] at e1;cases e1;exact .inl e2
     .obtain ⟨more,g⟩:=W b G;have e2:=Z b G;rw [e] at e2;cases e2;obtain ⟨_,c,hc⟩:=hC b G;exact .inr (.inl {((codeHd_of_K KX hc).tab (Z b G)).isCodeTable,rfl,#[],more,rfl,g})
 cases hk:K.lookup a with
 | some o =>
  have e:=KX a o hk;rw [ha] at e;cases e;refine XY (λb=>if b∈ts then some (.tbl #[]) else none) (λb=>?_) (λT h=>if_pos h) (.inr {_,vs.toArray,_,hk,rfl,rfl,rfl,by rw [OZ,ai];exact hl,by simpa using rv}) (λb u z=>?_) (λb z=>?_) λz=>absurd (if_neg aT) z
  .by_cases G:b∈ts
   .exact .inr (.inr {G,if_pos G})
   .exact .inl (if_neg G)
  .by_cases G:b∈ts
   .have z':=(if_pos G).symm.trans z;cases z';exact Z b G
   .have z':=(if_neg G).symm.trans z;cases z'
  .by_cases G:b∈ts
   .exact .inr G
   .exact absurd (if_neg G) z
 | none =>
  refine XY (λb=>if b=a then some (.frz { cls:=.type "list",data:=.seq vs.toArray } (.lst (ns.map V.int))) else if b∈ts then some (.tbl #[]) else none) (λb=>?_) (λT h=>?_) (.inl (.inr {{ cls:=.type "list",data:=.seq vs.toArray },if_pos rfl})) (λb u z=>?_) (λb z=>?_) λ_=>hk
  .by_cases G:b=a
   .exact .inr (.inl {_,_,if_pos G})
   .by_cases O:b∈ts
    .exact .inr (.inr {O,by rw [if_neg G,if_pos O]})
    .exact .inl (by rw [if_neg G,if_neg O])
  .rw [if_neg (λz=>aT (by rw [<- z];exact h)),if_pos h]
  .by_cases G:b=a
   .have z':=(if_pos G).symm.trans z;cases z';subst G;exact {ha,by rw [OB];exact hl,vs,_,rv,ha}
   .have z1:=(if_neg G).symm.trans z;by_cases O:b∈ts
    .have z2:=(if_pos O).symm.trans z1;cases z2;exact Z b O
    .have z2:=(if_neg O).symm.trans z1;cases z2
  .by_cases G:b=a
   .exact .inl G
   .by_cases O:b∈ts
    .exact .inr O
    .exact absurd (show (if b=a then _ else if b∈ts then _ else none)=none by rw [if_neg G,if_neg O]) z
theorem walk_ofT{l:PySem.W.OpenLaw}{n k:Nat}{d:DefRec}{K:Params->OF}{CX:O1->CXT}{sp:O1->Sp}{ts:List Addr}(hn:l.most=some n)(ar:n<=sizeLine)(ab:d.params.defaults=[])(hr:zE true k callerA)(hY:∀(w:O1)(h:Heap),YP w h->(K w.params).In h/\∀T∈ts,h.get? T=some (tabObj #[]))(F:∀(w:O1)(mg:Str->Option Value)(O:Addr)(h:Heap),(K w.params).In h->h.Ns OK mg->mg d.name=some (.ref O) ->
   ∃fd:OP,(∀(s:Ow)(u:Value),BindsTo s fd {[u],[]} [(x,u)])/\(∀T∈ts,(K w.params).lookup T=none/\∃c,Up (K w.params) c T=true) /\
    ∀base:Heap,(K w.params).In base->base.Ns OK mg->gM mg base->zp l.prog w (K w.params) mg base (CX w) true k O fd [x] (sp w))(Xj:∀(w:O1)(H:Hp)(a:Addr)(ns:List Int),ns.length<=n->(∀T∈ts,H T=some (.tbl #[]))->SqL (K w.params) H a (ns.map V.int)->sp w [.ref a] H (λv _=>v = .bl true) λ_ _ _=>False)(Z:∀(w:O1)(H:Hp)(s:Ow)(e:Value)(s':Ow),CX w [] H s (λ_ _ _=>False) e s'->False):
  PySem.W.WalkO q X7 XP YP l.row.toRowW d [] (λf vs=>PySem.call f vs):=by
 refine Att.attach_call hn ab λw s₀ s₁ mg mb O o pm cd Ye a vs ns G Y ho hd hcd U J W9 ZZ hg=>?_;obtain ⟨KX,hT⟩:=hY w _ Y;obtain ⟨fd,hb,hC,hF⟩:=F w mg O _ KX G.T.g U;have ai:gM mg s₁.heap:=by
  obtain ⟨bm,ob,b1,b2,b3,b4,b5,b6⟩:=G.T.bmain;refine {bm,ob,b1,b2,λz=>?_,b3,b4,b5,b6};obtain ⟨og,es,ep,eg,S,_⟩:=G.T.g;rw [z,eg] at b3;cases b3;rw [S] at b6;cases b6
 exact Ld hT hC ai KX G.T.g G.T.b G.T.builtins G.T.nolimit hg J W9 (PX ZZ ar) hr hF hb (λH hO hS=>Xj w H a ns ZZ hO hS) λH e s'=>Z w H s₁ e s'
theorem Fun.cJ{K:OF}{st:Stmt}{k:Nat}(F:Fun K x qual st f fd)(G:fd.code = .ref c)(S:zw N ps (zk st))(len:∀vs H Q E,sp vs H Q E->vs.length=ps.length)(z:∀(A:O0)(outer:List Env)(s:Ow)(H:Hp)(vs:List V)(Q:VK)(E:XK),zE cm k (A.deeper (Ra qual (zk st) s.heap.objs.size f (.ref c)))->sp vs H Q E ->
   ∃t,PSs (bR CX0 cm P w K mg base N qual (zk st) f (.ref c) A outer s H E).bw (cZ st) t/\t { nx:=λ_ H'=>Q .non H',rt:=Q } (start N vs) H):zp P w K mg base CX0 cm (k+1) f fd ps sp:=by
 obtain ⟨oc,od,kV,Ye,pm,Z,O,ct,U,rfl,lk,hcd⟩:=F.ex;have e:O = .ref c:=G;subst e;refine m8 lk hcd S len λA outer s H vs Q E J W=>?_;obtain ⟨t,h,q⟩:=z A outer s H vs Q E J W;exact ⟨t,h.bw,q⟩
section
variable {X:Cx}
theorem CG{k:Nat}{p pos Zb kp J p2 Z p4 S:Pos}(LB:eV X.mg X.base X.env.code P)(hr:zE cm k X.A)(hg:Gl X "sorted")(hm:X.mg "sorted"=none)(ha:W (PE X a ta))(X4:Ue F X.env=([],[]))(Xi:RM scope X.env=pure [])(YF:∀(q:Str)(pm cd ct v:Value),S6 (kla_fn "<lambda>" q F (.Subscript (.Subscript (.Name x J) (.Constant (.int 0) O p2) Z) (.Constant (.int 1) U p4) S) scope [] pm cd ct) {[v],[]}=pure [(x,v)])(WW:scope.names=[(x,.local)])(Yv:scope.kind = .function)(G:scope.isCoroutine=false)(z:scope.isGenerator=false)(hp:aS a=true:=by rfl)(YZ:(x==("__debug__":Str))=false:=by decide):
  W (PE X (.Call (.Name "sorted" p) [a] [{some (OA "key"),.Lambda F (.Subscript (.Subscript (.Name x J) (.Constant (.int 0) O p2) Z) (.Constant (.int 1) U p4) S) scope Zb,kp}] pos) (ql P Zb (X.env.qual++"<lambda>") ta)):={JA LB hr hg hm ha.h X4 Xi YF WW Yv G z hp YZ}
def rE(K:OF)(D:Addr)(tb:(Addr->St->Hp->Prop)->TS)(ts:TS):TS:=λZ σ H =>
 tb (λC z H'=>cO K C/\Tw K C (.ref D)=some true/\∀ea oe,H' ea=none->lG C oe->ts Z z (upd H' ea (.frz oe (.own 0)))) Z σ H
theorem MI{ai:Pos}(hc:X.calm=true)(XZ:X.ex=[])(XG:X.stack=X.env::X.outer/\X.env.frame=some X.env.locals)(OD:cO X.K D)(hg:Gl X x)(hm:X.mg x=some (.ref D))(hb:∀Go Ex,PSs (iH X Go Ex) ZW (tb Ex))(hs:∀Go ea,PSs (jb X Go ea) (G::XT) ts)(YZ:(x==("__debug__":Str))=false:=by decide):
  PS X (.Try ZW [.ExceptHandler (some (.Name x np)) none (G::XT) ai] [] [] pos) (rE X.K D tb ts):=by
 intro Go s σ H Z I h;have hh:X.A.handled=none:=I.ok.hd hc;refine wpAny_Try_except (Pp (hb Go _ [] s σ H Z (I.p.UD _) h) (λf s1 q=>?_) λe s1 q=>?_)
 .cases f with
  | next =>
   obtain ⟨F,H',J,q⟩:=q;exact RB {F,H',Inv.a8 I.ok J.ri,q}
  | brk=>obtain ⟨F,H',J,q⟩:=q;exact {F,H',Inv.a8 I.ok J.ri,q}
  | cont=>obtain ⟨F,H',J,q⟩:=q;exact {F,H',Inv.a8 I.ok J.ri,q}
  | ret u=>obtain ⟨v,F,H',J,r,q⟩:=q;exact {v,F,H',Inv.a8 I.ok J.ri,r,q}
 .obtain ⟨ea,C,B,H',fl,F,sI,rfl,J,y,os,bare,hB,up,OC,sub,W⟩:=q;have fr:X.A.frames=some (X.env::X.outer):=by rw [I.ok.frames,XG.1]
  rw [XG.1] at y;refine sT fr XG.2 y λh2 y2 u2=>oz (s:={ s1 with heap:=h2 }) y2 λh3 y3 u3=>?_;have aF:bH B X.stack ea (.ref C) .none h3:=by rw [XG.1];exact y3
  have ab:=(up.trans u2).trans u3;obtain ⟨_,aT,c3,g3,J3⟩:=uZ (s':={ s1 with heap:=h3 }) XZ J aF os bare hB ab;obtain ⟨av,cC,eC⟩:=OC.obj J3.UB;obtain ⟨a0,cD,eD⟩:=OD.obj J3.UB;have Xn:av.mro.contains (.ref D)=true:=by
   unfold Tw at sub;rw [cC] at sub;simp only [bind_some] at sub;split at sub
   .cases sub
   .exact Pn.inj sub
  refine wpAny_handleBy_cons (codeAny_handlers_test (gE (X:=jb X Go ea) J3 hg hm ?_ YZ)) (by intro q;cases q);refine N2 (h:=h3) (g:=s1.gens) (d:=s1.drawn) (t:=s1.toks) (os:=s1.os) eC eD g3 c3.1 Xn ?_;refine codeAny_handlers_suite ?_;refine oz (s:={ s1 with heap:=h3 }) y3 λh4 y4 u4=>?_;have aH:bH B X.stack ea (.ref C) .none h4:=by rw [XG.1];exact y4
  obtain ⟨ar,aI,c4,g4,J4⟩:=uZ (s':={ s1 with heap:=h4 }) XZ J aH os bare hB (ab.trans u4);refine Pp (hs Go ea [] _ _ _ _ J4 (W ea aI ar c4)) (λf s6 q6=>?_) λ_ _ z=>z.elim;cases f with
  | next=>obtain ⟨O,H7,U,S⟩:=q6;exact {_,_,Inv.UO I.ok hh U,S}
  | brk=>obtain ⟨O,H7,U,S⟩:=q6;exact {_,_,Inv.UO I.ok hh U,S}
  | cont=>obtain ⟨O,H7,U,S⟩:=q6;exact {_,_,Inv.UO I.ok hh U,S}
  | ret u=>obtain ⟨v,O,H7,U,r7,S⟩:=q6;exact {v,_,_,Inv.UO I.ok hh U,r7,S}
theorem tW(S:X.calm=true)(XZ:X.ex=[])(XG:X.stack=X.env::X.outer/\X.env.frame=some X.env.locals)(Z:cO X.K D)(hg:Gl X x)(hm:X.mg x=some (.ref D))(O:∀Go Ex,W (PSs (iH X Go Ex) J (tb Ex)))(hs:∀Go ea,W (PSs (jb X Go ea) (z::G) ts))(U:(x==("__debug__":Str))=false:=by decide):
  W (PS X (.Try J [.ExceptHandler (some (.Name x np)) none (z::G) F] [] [] pos) (rE X.K D tb ts)):={MI S XZ XG Z hg hm (λGo Ex=>(O Go Ex).h) (λGo ea=>(hs Go ea).h) U}
theorem Gw{K:OF}:rE K D tb ts Z σ H=tb (λC z H'=>cO K C/\Tw K C (.ref D)=some true/\∀ea oe,H' ea=none->lG C oe->ts Z z (upd H' ea (.frz oe (.own 0)))) Z σ H:=rfl
def pC:List V->Hp->VK->Prop:=λxs H Q=>∃i,xs=[.int i]/\Q (.int (if i<0 then -i else i)) H
theorem Ky:pC [.int i] H Q=Q (.int (if i<0 then -i else i)) H:=by simp [pC]
theorem vz:zO X (.builtin "abs") pC:=by
 intro Go s σ H xs us Q I r h;obtain ⟨i,rfl,q⟩:=h;obtain ⟨u,rfl,t,rfl⟩:=ck r;exact call_abs_int λu tk=>{.int _,H,I.tok tk,{_,rfl},q}
end
theorem Nn{p:Addr}:mU c (.int i) (.ref p) H Q = ∃kvs,Rd H p (.dK kvs)/\Q (.bl (if c then !(ag kvs (.inl i)).isSome else (ag kvs (.inl i)).isSome)) H:=by
 apply propext;constructor
 .rintro ⟨a,k,kvs,F,z,h,q⟩;cases F;cases k with
  | inl i=>cases z;exact ⟨kvs,h,q⟩
  | inr x=>cases z
 .rintro ⟨kvs,h,q⟩;exact {p,.inl i,kvs,rfl,rfl,h,q}
def fA(f:Nat->Int):Nat->Option Int
 | 0=>none
 | j+1=>some (match fA f j with|none=>f j|some m=>if f j>m then f j else m)
def mF:Option Int->Array Value->Prop|none,its=>its = #[]|some m,its=>∃t,its = #[.int m t,.int m t]
def nV(d:Value):Option Int->Value->Prop|none,v=>v=d|some m,v=>∃t,v = .int m t
section
variable {prog:OL}{w:O1}{A:O0}{E:Value->Ow->Prop}{s:Ow}
theorem GO{fp wr:List Addr}{St:Nat->Heap->Prop}{d:Value}(W:Walks prog w A.in1 I fp wr n P St)(f:Nat->Int)(hv:∀i v,P i v->∃t,v = .int (f i) t)(S:Addr)(aF:S∉fp)(aI:0<n\/kw=[(OA "default",d)]):
  ∀(k j:Nat)(s:Ow)(c:Nat)(its:Array Value),n-j=k->j<=n->St j s.heap->mF (fA f j) its ->
  s.heap.get? S=some { cls:=.type "list",dict:=none,data:=.seq its c,slots:=#[] } ->
  (∀v h' tk,nV d (fA f n) v->(∀b o,b∉wr->b≠S->s.heap.get? b=some o->h'.get? b=some o)->R (.ok (.ret v)) { s with heap:=h',toks:=tk }) ->
  QT (OR prog w) A (.builtin "max.loop" {[.ref I,.none,.ref S],kw}) R s:=by
 have aH:S∉wr:=λh=>aF (W.sub _ h);have YX:(toString "max"++toString ".loop":String)="max.loop":=by decide
 intro k
 induction k with
 | zero =>
  intro j s c its hk hj hst hC hS hR;have ai:j=n:=by lia
  refine Q0 F.entry_max_loop ?_;rw [O0.under_plainId F.plain_max_loop _];show OJ _ A.in1 (Sq (.ref S)>>=_) _ _ s;refine we (Qh hS rfl ?_);show OJ _ A.in1 (tryCatch (Rn (.ref I)) _>>=_) _ _ s;refine we (Q8 (W.done s _ _ (ai ▸ hst) λh' tk Yt=>?_));have YL:=Yt S _ aH hS;rw [ai] at hC;cases hb:fA f n with
  | none =>
   rw [hb] at hC hR;cases (show its = #[] from hC);have h0 : ¬ 0<n:=λz=>by
    cases n with
    | zero=>lia
    | succ m=>cases hb
   rcases aI with z|rfl
   .exact absurd z h0
   show OJ _ A.in1 (rule _>>=_) _ _ _;exact we (QR (Oz (hR d _ tk rfl λb o G _ e=>Yt b o G e)))
  | some m =>
   rw [hb] at hC hR;obtain ⟨t,rfl⟩:=hC;show OJ _ A.in1 (TK S (λ_=>#[])>>=_) _ _ _;refine we (QX YL rfl (we (Rh (Oz ?_))));exact hR _ _ tk {t,rfl} λb o G Xg e=>(O5 _ _ (Pe Xg)).trans (Yt b o G e)
 | succ k ih =>
  intro j s c its hk hj hst hC hS hR;have ZH:j<n:=by lia
  refine Q0 F.entry_max_loop ?_;rw [O0.under_plainId F.plain_max_loop _];show OJ _ A.in1 (Sq (.ref S)>>=_) _ _ s;refine we (Qh hS rfl ?_);show OJ _ A.in1 (tryCatch (Rn (.ref I)) _>>=_) _ _ s;refine we (Q8 (W.item j s _ _ ZH hst λv h' tk hP ab Yt=>?_));have YL:=Yt S _ aH hS;obtain ⟨t,rfl⟩:=hv j v hP;have U:∀{b o}{g:Array Value->Array Value},b≠S->h'.get? b=some o->(h'.update S (Uo g)).get? b=some o:=λn e=>(O5 _ _ (Pe n)).trans e;have av:∀{g:Array Value->Array Value},St (j+1) (h'.update S (Uo g)):=λ{g}=>W.frame _ _ _ ab λb hb o e=>U (λz=>aF (z ▸ hb)) e;cases hb:fA f j with
  | none =>
   rw [hb] at hC;cases (show its = #[] from hC);show OJ _ A.in1 (TK S (λ_=>#[.int (f j) t,.int (f j) t])>>=_) _ _ _;refine we (QX YL rfl ?_);rw [YX];refine Oz {QH F.plain_max_loop _,ih (j+1) _ _ _ 'l' ZH av ?_ (PD _ YL rfl) λv' h2 Z O J=>?_}
   .show mF (some _) _;rw [hb];exact {t,rfl}
   .exact hR v' h2 Z O λb o G Xg e=>J b o G Xg (U Xg (Yt b o G e))
  | some m =>
   rw [hb] at hC;obtain ⟨u,rfl⟩:=hC;show OJ _ A.in1 (tryCatch (Rx [.int (f j) t,.int (f j) t] (richCompare .Gt (.int (f j) t) (.int m u)>>=_)) _>>=_) _ _ _;obtain ⟨bt,XN,ar⟩:∃bt:Nat->Nat->Bool,bt 0 1=decide (f j>m)/\CmpOf prog w A.in1 .Gt (λi v=>(i=0/\v = .int (f j) t)\/(i=1/\v = .int m u)) bt:={_,rfl,CmpOf.ints_gt (λi=>if i=0 then f j else m) λi v h=>by rcases h with ⟨rfl,rfl⟩|⟨rfl,rfl⟩<;>exact {_,rfl}};refine we (Q8 (O9 (we (ar 0 1 _ _ _ _ _ (.inl {rfl,rfl}) (.inr {rfl,rfl}) ?_))));refine we (O9 (QI ?_));refine we (Rh (Oz ?_));by_cases hg:f j>m
   .rw [XN,decide_eq_true hg];simp only [if_true];refine we (QX YL rfl (we (Rh ?_)));rw [YX];refine Oz {QH F.plain_max_loop _,ih (j+1) _ _ _ 'l' ZH av ?_ (PD _ YL rfl) λv' h2 Z O J=>?_}
    .show mF (some _) _;rw [hb];simp only [if_pos hg];exact {t,rfl}
    .exact hR v' h2 Z O λb o G Xg e=>J b o G Xg (U Xg (Yt b o G e))
   .rw [XN,decide_eq_false hg];simp only [Q5,if_false];refine we (Rh ?_);rw [YX];refine Oz {QH F.plain_max_loop _,ih (j+1) _ _ _ 'l' ZH ab ?_ YL λv' h2 Z O J=>?_}
    .show mF (some _) _;rw [hb];simp only [if_neg hg];exact {u,rfl}
    .exact hR v' h2 Z O λb o G Xg e=>J b o G Xg (Yt b o G e)
theorem Kd(a d:Value):Ug "max" {[a],[(OA "default",d)]}:=by unfold Ug;kernel_rfl
theorem FG{d:Value}(hh:A.handled=none)(hl:s.heap.IsList l its)(hv:∀(i:Nat) v,its[i]?=some v->∃t,v = .int (f i) t)(G:(0<its.size/\kw=[])\/kw=[(OA "default",d)])(h:∀v h' tk,nV d (fA f its.size) v->(∀b o,s.heap.get? b=some o->h'.get? b=some o)->Q v { s with heap:=h',toks:=tk }):
  OJ (OR prog w) A (call (.builtin "max") [.ref l] kw) Q E s:=by
 have YX:(toString "max"++toString ".loop":String)="max.loop":=by decide
 have Z:l<s.heap.objs.size:=by obtain ⟨_,e,_⟩:=hl;exact O4 e
 have W:Ug "max" {[.ref l],kw}:=by
  rcases G with ⟨_,rfl⟩|rfl
  .exact F.args_max1 _
  .exact Kd _ _
 refine PyProof.Rows.kmk_tree F.kind_max F.plain_max F.entry_max W ?_;obtain ⟨J,S,hdk⟩:∃J:Option Value,OS.Builtins.bindParams "max" ["key","default"] 0 ⟨[],kw⟩=pure [none,J]/\(J.toList.map λd=>((OA "default":Str),d))=kw:=by
  rcases G with ⟨_,rfl⟩|rfl
  .exact {none,rfl,rfl}
  .exact {some d,rfl,rfl}
 show OJ _ A.in1 (OS.Builtins.bindParams "max" ["key","default"] 0 {[],kw}>>=_) _ _ s;refine we (Tn S ?_);refine we (Oz ?_);refine we (Rg hl ?_);refine we (Pt ?_);rw [YX];have U:(s.heap.push { cls:=.type "list_iterator",data:=.fields #[.ref l,.int 0 0] }).objs.size=s.heap.objs.size+1:=So ..;have O:l≠s.heap.objs.size:=Pr Z;refine Oz {QH F.plain_max_loop _,?_};show QT _ A (.builtin "max.loop" {[_,.none,_],J.toList.map λd=>((OA "default":Str),d)}) _ _;rw [hdk];refine GO (Walks.list (A:=A.in1) hh _ l O its) f hv _ (λhm=>?_) (G.imp (·.1) id) _ 0 _ _ #[] rfl (Qs _) {{_,Oy _ (OM _ rfl),rfl,rfl},(hl.push _).push _} rfl (OM _ rfl) λv h' tk hr hk=>?_
 .rcases OH.mp hm with e|hm
  .rw [U] at e;exact absurd e (Rp (Ri _))
  .rcases OH.mp hm with e|hm
   .rw [U] at e;exact absurd (e ▸ RF Z) (PY _)
   .cases hm
 .refine h v h' tk hr λb o e=>hk b o (λhm=>?_) (λz=>?_) (Oy _ (Oy _ e))
  .rcases OH.mp hm with e1|hm
   .exact absurd (e1 ▸ O4 e) (PY _)
   .cases hm
  .have:=O4 e;rw [z,U] at this;exact absurd this (Tt.mpr (Se _))
end
section
variable {X:Cx}
def oi:Option Int->V|none=>.non|some m=>.int m
def qy:List V->Hp->VK->Prop:=λxs H Q=>qB xs H Q\/∃(l:Addr)(ks:List Int),xs=[.ref l]/\H l=some (.lst (ks.map V.int))/\0<ks.length/\Q (oi (fA (λi=>ks.getD i 0) ks.length)) H
theorem KJ{ks:List Int}(r:zt (ks.map V.int) its):∀(i:Nat) v,its.toArray[i]?=some v->∃t,v = .int (ks.getD i 0) t:=by
 intro i v h;rw [<- Qw] at h
 replace h:its[i]?=some v:=h
 induction ks generalizing its i with
 | nil=>cases r;simp at h
 | cons k ks z =>
  cases r with
  | cons r F =>
   cases i with
   | zero=>obtain ⟨t,rfl⟩:=r;simp at h;subst h;exact {t,rfl}
   | succ i=>exact z F i (by simpa using h)
theorem Br{o:Option Int}(h:nV .none o v):zo (oi o) v:=by
 cases o with
 | none=>cases (show v = .none from h);rfl
 | some m=>obtain ⟨t,rfl⟩:=h;exact {_,rfl}
theorem vq(z:X.calm=true):zO X (.builtin "max") qy:=by
 intro Go s σ H xs us Q I r h;rcases h with h|⟨l,ks,rfl,hl,U,q⟩
 .exact Ct z Go s σ H xs us Q I r h
 .obtain ⟨u,rfl,O⟩:=ck r;cases O;obtain ⟨its,F,p,hz⟩:=I.list (SqL.of (K:=X.K) hl);have G:=F.length;rw [OB] at G;refine FG (d:=.none) (f:=λi=>ks.getD i 0) (I.ok.hd z) p.isList (KJ F) (.inl {by rw [OZ];lia,rfl}) λv h' tk J S=>{_,H,I.kept S,Br J,?_};rw [OZ,<- G];exact q
theorem Ds:qy [.int i,.int j] H Q=Q (.int (if j>i then j else i)) H:=by
 apply propext;constructor
 .rintro (h|⟨l,ks,e,_⟩)
  .rw [qU] at h;exact h
  .cases e
 .exact λq=>.inl (by rw [qU];exact q)
theorem Hr:qy [.ref l] H Q = ∃ks:List Int,H l=some (.lst (ks.map V.int))/\0<ks.length/\Q (oi (fA (λi=>ks.getD i 0) ks.length)) H:=by
 apply propext;constructor
 .rintro (⟨i,j,e,_⟩|⟨z,ks,e,h⟩)
  .cases e
  .cases e;exact ⟨ks,h⟩
 .rintro ⟨ks,h⟩;exact .inr {l,ks,rfl,h}
end
end L2
namespace L2
open PySem PySem.Spec PyProof.Rows PySem.W
end L2
namespace L2
open PySem PySem.Spec PyProof.Rows
def tDC(ix:List (Option Nat))(wi:TI)(g:TG)(tt:TT)(tk tv:TE):TE:=λσ H Q=>wi σ H λJ H1=>∃W:Nat->Nat->St->List (Key×V)->Hp->Prop,(∃m,W 0 m (cz ix σ) [] H1)/\∀i m τ ys H2,W i m τ ys H2->ys.length<sizeLine /\
 ((J.stop i H2 ∧ ∀ D, H2 D = none → D ≠ sysModules → Q (.ref D) (upd H2 D (.dK ys))) ∨
  (J.go i H2 ∧ ∀ x H3, J.aH i H2 x H3 → g x τ H3 fun F H4 => tt F H4 fun ok H5 => if ok = true then tk F H5 fun y H6 => tv F H6 fun z H7 => uK y fun k => ∃ G, G < m ∧ W (i + 1) G F (aA ys k z) H7 else ∃ G, G < m ∧ W (i + 1) G F ys H5))
theorem w6{tk tv:TE}(hc:c=true->X.calm=true)(L:zY X sc N' ix)(hi:PIc c X tg iter wi)(hg:∀Go C fp s H,PG (zA X sc N' Go C fp s H) tg g)(ht:∀Go C fp s H,PTs (zA X sc N' Go C fp s H) G tt)(hk:∀Go C fp s H,PE (zA X sc N' Go C fp s H) Z tk)(hv:∀Go C fp s H,PE (zA X sc N' Go C fp s H) J tv)(hs:∀x,Pj iter X.env x=pure x)(I:Inv X Go σ H s)(h:tDC ix wi g tt tk tv σ H Q)(kk:∀(C D:Addr)(oC:Obj)(H':Hp)(s5:Ow)(m5:Str->Option Value),Inv X (Go++[(C,oC)]) σ H' s5->(∀{hp:Heap},hp.get? C=some oC->hp.Ns C m5)->(∀{U:St}{F:Hp}{s':Ow}{h':Heap},Inv X Go U F s'->F C=none->Qy C s'.heap h'->Inv X Go U F { s' with heap:=h' })->Q (.ref D) H'->compPost (OR X.prog X.w) X.A X.xe use R (.ref D) C (.ok .next) s5):
  OJ (OR X.prog X.w) X.A (Sz (.DictComp Z J [{tg,iter,G,0}] sc pos) sc X.env (SN [{tg,iter,G,0}] pos) newDict (Ud [{tg,iter,G,0}]) (firstIter [{tg,iter,G,0}] X.env) use) R X.xe s:=by
 refine ux (e:=.DictComp Z J [{tg,iter,G,0}] sc pos) (em:=λD env=>do
  let kv<-Qc Z env
  let vv<-Rx [kv] (Qc J env)
  RG { Z.pos with endLine:=J.pos.endLine,endCol:=J.pos.endCol }
  Rx [kv,vv] (dictSet D kv vv)) (T:="dict") (dt:=.dict #[]) T8 HO.dK [] (λys o=>∃vs es ep,KV ys vs/\o.ExactDict/\o.data = .dict es ep/\KeysOf (ax X.prog X.w) es/\Pairs (ax X.prog X.w) es.toList vs/\(vs.map (·.1)).Nodup) (λK ys τ H=>tk τ H λy H6=>tv τ H6 λz H7=>uK y λk=>K (aA ys k z) H7) rfl (by size_fits) (λ_ _ _=>{λ_=>rfl,rfl}) codeAny_compStart_dict ?_ rfl ?_ ?_ ?_ hc L hi hg ht hs I h kk
 .obtain ⟨o,es,ep,e,r⟩:=DictOf.new (knd:=ax X.prog X.w) s.heap;rw [OM _ rfl] at e;cases e;exact {[],es,ep,.nil,r}
 .rintro ys o ⟨vs,es,ep,_,_,d,_⟩ v z;rw [d] at z;cases z
 .rintro ys o H' h D ⟨vs,es,ep,rv,dx,r⟩ hl n e;exact {Sf hl,by simpa using n,vs,rv,o,es,ep,e,dx,r}
 .rintro Go C fp s H pins' s8 τ H8 ys ob D K I8 q8 ⟨vs,es,ep,rv,r⟩ hl hD;refine we (thn (hk Go C fp s H _ s8 τ H8 _ I8 q8) λy s9=>x5e λyv H9 I9 r9 q9=>we (O9 (thn (hv Go C fp s H _ s9 τ H9 _ I9 q9) λz S=>x5e λzv ai W ab XJ=>?_)));obtain ⟨kk,ek,w'⟩:=XJ;subst ek;have lv:vs.length<sizeLine:=by rw [<- rv.length];exact hl
  refine we (Qi (O9 (wpAny_dictSet_pairs (hsz:=Sf lv) (fN r9) {ob,es,ep,(W.pin _ (OG _ hD)).1,r} λaF O sb=>?_)));obtain ⟨o2,av,ar,e2,r2⟩:=O;exact {S,_,ai,o2,aF,S.toks+1,rfl,w',W,{_,av,ar,rv.put kk ab,r2},e2,sb}
theorem DL{tk tv:TE}(U:c=true->X.calm=true)(L:zY X sc N' ix)(hi:PIc c X tg iter wi)(hg:∀Go C fp s H,PG (zA X sc N' Go C fp s H) tg g)(W:∀Go C fp s H,PTs (zA X sc N' Go C fp s H) G tt)(Z:∀Go C fp s H,PE (zA X sc N' Go C fp s H) J tk)(hv:∀Go C fp s H,PE (zA X sc N' Go C fp s H) O tv)(hs:∀x,Pj iter X.env x=pure x:=by intro _;rfl):PE X (.DictComp J O [{tg,iter,G,0}] sc pos) (tDC ix wi g tt tk tv):=by
 intro Go s σ H Q I h;rw [arm_eval_DictComp];refine w6 (use:=none) U L hi hg W Z hv hs I h λC D oC H' s5 m5 F ns tu q=>?_;obtain ⟨p6,z,_⟩:=F.pin (C,oC) (OG _ (OG _ (ON.mpr rfl)));exact {m5,ns p6,λh' Xo=>{.ref D,H',tu (F.xy λp S=>F.pin p (OG _ (Pz _ S))) z Xo,rfl,q}}
end L2
namespace L2
open PySem PySem.Spec PyProof.Rows PySem.W PySem.Calls
section
variable {X:Cx}
def ik(kvs:List (Int×V)):List (Key×V):=kvs.map λp=>(.inl p.1,p.2)
def yH:List V->Hp->VK->Prop:=λxs H Q=>uR1 xs λa=>∃kvs:List (Int×V),Rd H a (.dK (ik kvs))/\kvs.length<64/\∀p (ns:List Int) H2,New H p (.lst (ns.map V.int)) H2->ns.Perm (kvs.map (·.1))->ns.Pairwise (·<=·)->Q (.ref p) H2
theorem FR:yH [.ref a] H Q = ∃kvs:List (Int×V),Rd H a (.dK (ik kvs))/\kvs.length<64/\∀p (ns:List Int) H2,New H p (.lst (ns.map V.int)) H2->ns.Perm (kvs.map (·.1))->ns.Pairwise (·<=·)->Q (.ref p) H2:=eI
theorem wK:∀{vs:List Value}{ns:List Int},vs.length=ns.length->(∀(j:Nat)(v:Value),vs[j]?=some v->∃t,v=Rr (ns.getD j 0) t)->RA vs ns
 | [],[],_,_=>.nil
 | [],_::_,h,_=>absurd h 'z'
 | _::_,[],h,_=>absurd h 'z'
 | v::vs,x::ns,h,f=>by
  obtain ⟨t,e⟩:=f 0 v rfl;have z:v=Rr x t:=e;rw [z];exact .cons x t (wK (by simpa using h) λj u F=>f (j+1) u F)
theorem Bm(hc:X.calm=true):zO X (.builtin "sorted") yH:=by
 intro Go s σ H xs us Q I r h;obtain ⟨a,rfl,kvs,hq,XO,q⟩:=h;obtain ⟨u,rfl,ru⟩:=ck r;cases ru;obtain ⟨z,hd,vs,Zu,dd⟩:=c8 I.hok hq;obtain ⟨ep,S⟩:=dd.dictAt;have ZZ:vs.length=kvs.length:=by rw [<- Zu.length];simp [ik]
 refine call_function_entry kind_sorted plain_sorted entry_sorted (args_sorted1 _) ?_;unfold OS.«sorted»
 refine we (m:=checkCount "sorted" 1 1 _) (Oz (we (kdu_collect (A:=X.A.in1) (kdl_dict (knd:=ax X.prog X.w) (kvs:=vs) (ep:=ep) hd) (I.ok.hd hc) S (by rw [ZZ,Qa];lia) λh' tk ZT W Zs=>?_)));have hl:ZT.toList.length=kvs.length:=by rw [QC,<- ZZ];exact Zs.1
 have hS:RA ZT.toList (kvs.map (·.1)):=wK (by rw [hl,OB]) λj v hv=>by
  obtain ⟨k,x,hx,W⟩:=Zs.2 j v (by rw [<- Qw];exact hv);have hj:j<vs.length:=(OE.mp hx).1;have F:j<kvs.length:=by lia
  have G:(ik kvs)[j]?=some (.inl kvs[j].1,kvs[j].2):=by simp [ik,F]
  obtain ⟨u',WY,_⟩:=Zu.at G;rw [hx] at WY;cases WY;rcases de (show eP (Sum.inl kvs[j].1) v=true from W) with ⟨i,t,J,G⟩|⟨y,t,J,G⟩
  .cases J;exact {t,by rw [G,OY,OV,KE F];rfl}
  .cases J
 have I1:Inv X Go σ H { s with heap:=h',toks:=tk }:=I.kept W;refine we (Ts ?_ (by rw [hl,Qa];lia));have U:(h'.push (T2 "list" ZT.toList.toArray 0)).get? h'.objs.size=some (T2 "list" ZT.toList.toArray 0):=OM _ rfl;refine we (O9 (PK slot_list_sort {_,U,rfl} entry_list_sort (list_sort_tree U hS (by rw [hl];exact XO) λout Yr b1 Z b3=>{_,rfl,?_}) (args_list_sort _)));obtain ⟨c,O⟩:=sortedHeap_at (vs:=ZT.toList) (out:=out) U;refine Oz {_,rfl,.ref h'.objs.size,upd H h'.objs.size (.lst (Yr.map V.int)),I1.laid (a:=h'.objs.size) (t':=tk) (λb o e=>?_) (Ox _) {?_,out.toList,c,ml b1,by rw [Sd];exact O},rfl,q _ Yr _ (.mk' (I1.hok.fresh (Ox _))) Z b3}
 .have hb:b<h'.objs.size:=O4 e;rw [sortedHeap_old (Pr hb) (by rw [So];exact RF hb)];exact Oy _ e
 .have:=Z.length_eq;rw [OB,this,OB,Qa];lia
end
theorem yL{tk tv:TE}(J:c=true->X.calm=true)(L:zY X sc N' ix)(hi:W (PIc c X tg iter wi))(hg:∀Go C fp s H,W (PG (zA X sc N' Go C fp s H) tg g))(O:∀Go C fp s H,W (PTs (zA X sc N' Go C fp s H) z tt))(S:∀Go C fp s H,W (PE (zA X sc N' Go C fp s H) F tk))(hv:∀Go C fp s H,W (PE (zA X sc N' Go C fp s H) G tv))(hs:∀x,Pj iter X.env x=pure x:=by intro _;rfl):W (PE X (.DictComp F G [{tg,iter,z,0}] sc pos) (tDC ix wi g tt tk tv)):={DL J L hi.h (λa b c d e=>(hg a b c d e).h) (λa b c d e=>(O a b c d e).h) (λa b c d e=>(S a b c d e).h) (λa b c d e=>(hv a b c d e).h) hs}
theorem Dy:mj (.ref a) (.int i) H Q = ∃kvs,Rd H a (.dK kvs)/\∃v,ag kvs (.inl i)=some v/\Q v H:=by
 apply propext;constructor
 .rintro ⟨G,k,kvs,v,F,z,h1,h2,q⟩;cases F;cases k with
  | inl j=>cases z;exact ⟨kvs,h1,v,h2,q⟩
  | inr x=>cases z
 .rintro ⟨kvs,h1,v,h2,q⟩;exact {a,.inl i,kvs,v,rfl,rfl,h1,h2,q}
section
variable {K:OF}{g:TG}{tt:TT}{te tk tv:TE}{σ:St}{H:Hp}{wi:TI}{ix:List (Option Nat)}{Q:VK}
def ig(J:It)(g:TG)(tt:TT)(tk tv:TE)(τ:St)(H:Hp)(Q:VK):Prop:=∃W:Nat->Nat->St->List (Key×V)->Hp->Prop,(∃m,W 0 m τ [] H)/\∀i m τ ys H2,W i m τ ys H2->ys.length<sizeLine /\
 ((J.stop i H2 ∧ ∀ D, H2 D = none → D ≠ sysModules → Q (.ref D) (upd H2 D (.dK ys))) ∨
  (J.go i H2 ∧ ∀ x H3, J.aH i H2 x H3 → g x τ H3 fun F H4 => tt F H4 fun ok H5 => if ok = true then tk F H5 fun y H6 => tv F H6 fun z H7 => uK y fun k => ∃ G, G < m ∧ W (i + 1) G F (aA ys k z) H7 else ∃ G, G < m ∧ W (i + 1) G F ys H5))
theorem HQ:tDC ix wi g tt tk tv σ H Q=wi σ H λJ H1=>ig J g tt tk tv (cz ix σ) H1 Q:=rfl
def oa(N:St->List (Key×V)->Hp->Prop)(ys:List (Key×V))(F:St)(tk tv:TE)(ok:Bool)(H5:Hp):Prop:=if ok=true then tk F H5 λy H6=>tv F H6 λz H7=>uK y λk=>N F (aA ys k z) H7 else N F ys H5
theorem HN:oa N ys τ tk tv true H=tk τ H λy H6=>tv τ H6 λz H7=>uK y λk=>N τ (aA ys k z) H7:=rfl
theorem HG:oa N ys τ tk tv false H=N τ ys H:=rfl
theorem ig.lst{a:Addr}{xs:List V}{τ:St}(F:Nat->St->List (Key×V)->Hp->Prop)(hz:∀i τ ys H,F i τ ys H->ys.length<sizeLine)(O:∀i τ ys H,F i τ ys H->SqL K H a xs)(U:F 0 τ [] H)
  (hs:∀(N:St->List (Key×V)->Hp->Prop) i x τ ys H,xs[i]?=some x->F i τ ys H->(∀τ ys H,F (i+1) τ ys H->N τ ys H)->g x τ H λz H4=>tt z H4 λok H5=>oa N ys z tk tv ok H5) (hd:∀τ ys H,F xs.length τ ys H->∀D H',New H D (.dK ys) H'->Q (.ref D) H'):ig (Itl K a) g tt tk tv τ H Q:=by
 refine {λi m τ ys H=>m=xs.length-i/\i<=xs.length/\F i τ ys H,{xs.length,'z',Qs _,U},?_};rintro i m τ ys H2 ⟨rfl,hi,p⟩;refine {hz i τ ys H2 p,?_};have q:=O i τ ys H2 p;by_cases G:i<xs.length
 .refine .inr {{xs,xs[i],q,by simp [G]},λx H' y=>?_};obtain ⟨e,y⟩:=y;subst e;exact hs (λz ys H=>∃J,J<xs.length-i/\J=xs.length-(i+1)/\i+1<=xs.length/\F (i+1) z ys H) i x τ ys _ (y xs q) p λz zs H q=>{xs.length-(i+1),'l',rfl,G,q}
 .have e:i=xs.length:=by lia
  subst e;exact .inl {{xs,q,Ox _},λD S _=>hd τ ys H2 p D _ (.mk' S)}
end
end L2
namespace L2
open PySem PySem.Spec PyProof.Rows
def Ris(xs:Array Nat):Prop:=∀i j,i<j->j<xs.size->xs.getD i 0<xs.getD j 0
theorem Du{xs:Array Nat}(h:i<xs.size):xs.getD i a=xs.getD i b:=by simp [getD,h]
structure wD(xs:Array Nat)(j b:Nat):Prop where
 le:b<=xs.size
 lo:∀i,i<b->xs.getD i 0<j
 hi:∀i,b<=i->i<xs.size->j<=xs.getD i 0
theorem sM(r:Ris xs):∀(f lo hi:Nat),lo<=hi->hi<=xs.size->hi<=lo+f->(∀i,i<lo->xs.getD i 0<j)->(∀i,hi<=i->i<xs.size->j<=xs.getD i 0)->wD xs j (O7.below.go xs j f lo hi)
 | 0,lo,hi,h1,h2,h3,a,b=>by
  have e:lo=hi:=by lia
  subst e;exact ⟨h2,a,b⟩
 | f+1,lo,hi,h1,h2,h3,a,b=>by
  unfold O7.below.go;split
  .rename_i h;have hm:(lo+hi) / 2<xs.size:=by lia
   dsimp only;rw [Du (a:=j) (b:=0) hm];by_cases c:xs.getD ((lo+hi) / 2) 0<j
   .rw [if_pos c];refine sM r f ((lo+hi) / 2+1) hi 'l' h2 'l' (λi z=>?_) b;by_cases e:i=(lo+hi) / 2
    .subst e;exact c
    .have F:i<(lo+hi) / 2:=by lia
     exact SC (r i ((lo+hi) / 2) F hm) c
   .rw [if_neg c];refine sM r f lo ((lo+hi) / 2) 'l' 'l' 'l' a λi z hs=>?_;by_cases e:i=(lo+hi) / 2
    .subst e;lia
    .have F:(lo+hi) / 2<i:=by lia
     have:=r ((lo+hi) / 2) i F hs;lia
  .have e:lo=hi:=by lia
   subst e;exact ⟨h2,a,b⟩
theorem pW(r:Ris xs)(j:Nat):wD xs j (O7.below xs j):=sM r _ _ _ (Qs _) (Ox _) 'l' (λi h=>by lia) λi h1 h2=>by lia
theorem xu{p x i:Nat}(z:p<=xs.size):(O7.insertAt xs p x).getD i 0=if i<p then xs.getD i 0 else if i=p then x else xs.getD (i-1) 0:=by
 have hl:(xs.toList.take p).length=p:=by rw [O8,QC];lia
 rw [Rb,<- Qw,O7.toList_insertAt];by_cases h:i<p
 .rw [if_pos h,PF 'l',QL h,Qw,Rb]
 .rw [if_neg h,PP 'l',hl];by_cases e:i=p
  .rw [if_pos e,e,SO];rfl
  .rw [if_neg e,show i-p=(i-1-p)+1 by lia,Sa,Td,Qw,Rb];congr 2;lia
theorem Ho{p x:Nat}:(O7.insertAt xs p x).size=xs.size+1:=by
 have:=(O7.insertAt_perm xs p x).length_eq;simpa using this
theorem NF(r:Ris xs)(hn : ¬ xs[O7.below xs j]?=some j):Ris (O7.insertAt xs (O7.below xs j) j):=by
 have B:=pW r j;generalize O7.below xs j=p at B hn;have F:=B.le;intro a b J O;rw [Ho] at O;rw [xu F,xu F];have G:∀i,p<=i->i<xs.size->j<xs.getD i 0:=λi h1 h2=>by
  have h3:=B.hi i h1 h2;by_cases e:i=p
  .subst e;rcases Nat.lt_or_eq_of_le h3 with z|z
   .exact z
   .exact absurd (by rw [QO h2]; have : xs.getD i 0 = xs[i] := by simp [getD, h2]
                     rw [z, this]) hn
  .have:=r p i 'l' h2;have:=B.hi p (Ox _) 'l';lia
 by_cases h1:b<p
 .rw [if_pos h1,if_pos 'l'];exact r a b J 'l'
 .rw [if_neg h1];by_cases h2:b=p
  .rw [if_pos h2,if_pos 'l'];exact B.lo a 'l'
  .rw [if_neg h2];by_cases h3:a<p
   .rw [if_pos h3];exact SC (B.lo a h3) (G (b-1) 'l' 'l')
   .rw [if_neg h3];by_cases h4:a=p
    .rw [if_pos h4];exact G (b-1) 'l' 'l'
    .rw [if_neg h4];exact r (a-1) (b-1) 'l' 'l'
structure cS(bt:Bool)(t:O7):Prop where
 led:t.led = !bt
 cK:t.dummies = #[]
 ris:Ris t.place
theorem uT:O7.has #[] j=false:=by simp [O7.has]
theorem Gg(n:Nat):Ris (Array.range n):=λi j h G=>by
 have F:j<n:=by simpa using G
 have z:i<n:=by lia
 simp [getD,z,F,h]
theorem jY{t:O7}(h:cS bt t)(n:Nat):cS bt (t.standIn n):={h.led,rfl,Gg n}
theorem LS{t:O7}(h:cS bt t)(n:Nat):cS bt (t.orStandIn n):=by
 unfold O7.orStandIn;split
 .exact h
 .exact jY h n
theorem LM{t:O7}(h:t.dummies = #[])(j:Nat):(t.slot j = .empty/\¬ t.place[O7.below t.place j]?=some j)\/∃i,t.slot j = .live i:=by
 unfold O7.slot;dsimp only;split
 .exact .inr {_,rfl}
 .rename_i z;rw [h,uT];exact .inl {rfl,by simpa using z}
theorem Bb{t:O7}(hd:t.dummies = #[]):∀(f:Nat)(p:O7.Probe)(j:Nat)(d:Option Nat),p.dummy=none->O7.probe.go t g h f p=some (.empty j d)->d=none/\¬ t.place[O7.below t.place j]?=some j
 | 0,p,j,d,_,e=>by cases e
 | f+1,p,j,d,F,e=>by
  have z:∀q:O7.Probe,(t.advance q).dummy=q.dummy:=λq=>by
   unfold O7.advance;split
   .rfl
   .rfl
  unfold O7.probe.go at e;rcases LM hd p.j with ⟨h1,h2⟩|⟨i,h1⟩
  .rw [h1] at e;cases e;exact ⟨F,h2⟩
  .rw [h1] at e;dsimp only at e;split at e
   .cases e
   .exact Bb hd f _ j d (by rw [z];exact F) e
theorem GN{t:O7}(h:cS bt t)(es:Array (Int×Value))(z:Int)(x:Value):cS bt (layNew t es z x).2.1:=by
 unfold layNew;split
 .rename_i slot wd e;refine LS ?_ _;unfold O7.freeSlot at e;split at e
  .rename_i j d F;obtain ⟨rfl,G⟩:=Bb h.cK _ _ _ _ rfl F;cases e;refine {h.led,?_,NF h.ris G};show (if O7.has t.dummies j=true then _ else t.dummies) = #[];rw [h.cK,uT];rfl
  .cases e
 .exact jY h _
theorem NQ{t:O7}(h:cS bt t)(es:Array (Int×Value))(n:Nat):cS bt (relayAll t es n).2.1:=by
 unfold relayAll;split
 .rename_i t' G e;dsimp only;split
  .unfold O7.relaid O7.laid at e;obtain ⟨owner,_,e⟩:=Su.mp e;cases e;refine {h.led,rfl,λi j z F=>?_};have U:(((Qg (O7.sizeAbove n-1+1)).filterMap λj=>(owner.getD j none).map (j,·)).map (·.1)).Pairwise (· < ·):=by
    rw [RR];refine Pairwise.filterMap _ (λa W J b O b' S=>?_) List.pairwise_lt_range;obtain ⟨_,_,rfl⟩:=O2.mp O;obtain ⟨_,_,rfl⟩:=O2.mp S;exact J
   rw [OZ] at F;have:=QN.mp U i j 'l' F z;rw [Rb,Rb,Sl,Sl,KE F,KE (SC z F)];exact this
  .exact jY h _
 .exact jY h _
def btW(w:O1):Bool:=w.params.followText "set-order"
def dZ(e:Int×Value):Int:=numOf e.2
structure zZ(prog:OL)(w:O1)(h:Heap)(a:Addr)(ns:List Int):Prop where
 ex:∃o es ep t,h.get? a=some o/\o.ExactSet/\o.data = .set es ep t/\ElemsOf (Qo prog w) es.toList/\t.fits es.size=true/\cS (btW w) t/\(es.toList.map dZ).Perm ns
 few:ns.length<4000
section
variable {prog:OL}{w:O1}{A:O0}{E:Value->Ow->Prop}{s:Ow}
theorem zZ.size{h:Heap}{a:Addr}{ns:List Int}{es:Array (Int×Value)}(p:(es.toList.map dZ).Perm ns):es.size=ns.length:=by
 have:=p.length_eq;rw [OB,QC] at this;exact this
theorem zZ.at(x:zZ prog w h a ns)(k:∀o,h.get? a=some o->h'.get? a=some o):zZ prog w h' a ns :=
 let ⟨o,es,ep,t,ho,r⟩:=x.ex;{{o,es,ep,t,k o ho,r},x.few}
theorem pJ(h:(Qo prog w).is n v=true):∃t,v = .int n t:=by
 cases v with
 | int m t =>
  have e:(m==n)=true:=by simpa [Qo,Tq] using h
  have e:m=n:=by simpa using e
  exact {t,by rw [e]}
 | _=>exact absurd h (by simp [Qo,Tq])
theorem Jc(n:Int)(t:Tok):(Qo prog w).is n (.int n t)=true:=by simp [Qo,Tq]
theorem EZ(h:∀o,zZ prog w (s.heap.push o) s.heap.objs.size []->(∀v,o.data≠.cell v)->Q (.ref s.heap.objs.size) { s with heap:=s.heap.push o }):
  OJ (OR prog w) A (newSet (.type "set")) Q E s:=by
 unfold newSet setsByText;refine we (we (Rm (Oz ?_)));dsimp only;simp only [newObj];refine we (wpAny_alloc (Oz (h _ {{_,#[],0,_,OM _ rfl,{rfl,rfl,rfl},rfl,λe G=>by simp at G,by rfl,{rfl,rfl,λi j _ F=>by simp [O7.fresh] at F},Us.refl _},'d'} λv z=>by cases z)))
theorem uC{h:Heap}{o:Obj}{t:O7}(F:h.get? a=some o)(hd:o.data = .set es ep t)(z:Array (Int×Value))(t':O7):
  (h.update a (Obj.putSet z t')).get? a=some { o with data:=.set z (ep+1) t' }:=by
 have:=PD (Obj.putSet z t') F (by rw [putSet_of z t' hd];rfl);rw [putSet_of z t' hd] at this;exact this
theorem Mq(hS:zZ prog w s.heap a ns)(hr:ns.length<3000)(h:∀h' b,Qy a s.heap h'->zZ prog w h' a (if n∈ns then ns else ns++[n])->Q b { s with heap:=h',toks:=s.toks+1 }):
  OJ (OR prog w) A (setAdd a (.int n tk)) Q E s:=by
 obtain ⟨o,es,ep,t,ho,XZ,hd,G,hf,gt,pm⟩:=hS.ex;have hsz:=zZ.size (h:=s.heap) (a:=a) pm;have hb:es.size<scanBound:=by rw [hsz];exact SC hr 'd'
 have Xd:=Jc (prog:=prog) (w:=w) n tk;unfold setAdd;refine O9 (we ((Qo prog w).pyHash Xd ?_));have Zq:∀h',Qy a s.heap h'->zZ prog w h' a (if n∈ns then ns else ns++[n])->∀b:Bool,Q b { s with heap:=h',toks:=s.toks+1 }:=λh' sb YL b=>h h' b sb YL;unfold setAddHashed setAddHashedIn;refine O9 (we (QV (s:={ s with toks:=s.toks+1 }) ho hd hf ?_));dsimp only;rw [byScan_of (x:=.int n tk) rfl hb G];simp only [↓reduceIte];unfold setAddByScan;refine we (we (QR (we (wpAny_setScan_of (s:={ s with toks:=s.toks+1 }) Xd ho hd hf G ?_))));cases ar:List.findIdx? (λe=>(Qo prog w).is n e.2) es.toList with
 | some j =>
  dsimp only;obtain ⟨hj,av,_⟩:=List.findIdx?_eq_some_iff_getElem.mp ar;have O:n∈ns:=by
   refine pm.mem_iff.mp (Qt.mpr {_,Qb hj,?_});obtain ⟨t',e⟩:=pJ av;show numOf (es.toList[j]).2=n;rw [e];rfl
  refine Oz (Oz ?_);have:=Zq s.heap (Qy.refl a s.heap) (by rw [if_pos O];exact hS) false;exact this
 | none =>
  dsimp only;have aF:n∉ns:=λO=>by
   obtain ⟨e,he,ev⟩:=Qt.mp (pm.mem_iff.mpr O);obtain ⟨⟨k,hk,_⟩,_⟩:=G e he;obtain ⟨t',e2⟩:=pJ hk;have:k=n:=by rw [<- ev];show k=numOf e.2;rw [e2];rfl
   subst this;have:=List.findIdx?_eq_none_iff.mp ar e he;rw [hk] at this;cases this
  rw [if_neg aF] at Zq;have XS:=layNew_perm t es ((Qo prog w).hash n) (.int n tk);have Xu:=layNew_fits t es ((Qo prog w).hash n) (.int n tk);have Xt:=GN gt es ((Qo prog w).hash n) (.int n tk);generalize hL:layNew t es ((Qo prog w).hash n) (.int n tk)=L at XS Xu Xt ⊢;obtain ⟨z,t1,WU,aI⟩:=L;dsimp only at XS Xu Xt ⊢;rw [Array.toList_push] at XS;have ai:ElemsOf (Qo prog w) z.toList:=(G.push Xd rfl).perm XS;have Z:(z.toList.map dZ).Perm (ns++[n]):=by
   have:=XS.map dZ;rw [Ph] at this;exact this.trans (pm.append (Us.refl _))
  have ab:z.size=ns.length+1:=by have:=zZ.size (h:=s.heap) (a:=a) Z;simpa using this
  have mk:∀{h':Heap}{F:Array (Int×Value)}{t2:O7}{e:Nat},h'.get? a=some { o with data:=.set F e t2 }->F.toList.Perm z.toList->t2.fits F.size=true->cS (btW w) t2->zZ prog w h' a (ns++[n]):=λ{h' F t2 e} Yp p f g=>{{_,F,e,t2,Yp,XZ,rfl,ai.perm p,f,g,(p.map dZ).trans Z},by rw [Pa,Qm];lia};have big:z.size<=sizeLine:=fits_of_scanBound (by rw [ab];exact PV (Nat.succ_le_of_lt hr) 'd');have W:∀(b:Bool){s₁:Ow}{Q':Unit->Ow->Prop},Q' () s₁->OJ (OR prog w) A (match b with|true=>rule "set.scan.the-table-gave-way" | false=>pure ()) Q' E s₁:=λb s₁ Q' hq=>by cases b<;>first|exact Oz hq|exact QR hq
  refine we (W _ ?_);have tail:∀(t2:O7),t2.fits z.size=true->cS (btW w) t2->OJ (OR prog w) A (do
    storeSet a z t2
    if (!WU&&t2.tooFull)=true then do
      (match (relayAll t2 z (O7.grown z.size)).2.2 with|true=>rule "set.scan.the-table-gave-way" | false=>pure ())
      storeSet a (relayAll t2 z (O7.grown z.size)).1 (relayAll t2 z (O7.grown z.size)).2.1
      pure (some true)
     else pure (some true)) (λr s'=>r=some true/\∃h',Qy a s.heap h'/\zZ prog w h' a (ns++[n])/\s'={ s with heap:=h',toks:=s.toks+1 }) E { s with toks:=s.toks+1 }:=λt2 f2 g2=>by
   refine we (wpAny_storeSet_of (s:={ s with toks:=s.toks+1 }) ho hd ?_ big);have S:=uC ho hd z t2;have J:=Qy.update s.heap a (Obj.putSet z t2);split
   .have hp:=relayAll_perm t2 z (O7.grown z.size);have YK:=relayAll_fits t2 z (O7.grown z.size);have U:=NQ g2 z (O7.grown z.size);generalize aT:relayAll t2 z (O7.grown z.size)=Rl at hp YK U ⊢;obtain ⟨F,t3,aH⟩:=Rl;dsimp only at hp YK U ⊢;have hsz:F.size=z.size:=by rw [<- QC,hp.length_eq,QC]
    refine we (W _ ?_);refine we (wpAny_storeSet_of S rfl ?_ (by rw [hsz];exact big));exact Oz {rfl,_,J.trans (Qy.update _ a _),mk (uC S rfl F t3) hp YK U,rfl}
   .exact Oz {rfl,_,J,mk S (Us.refl _) f2 g2,rfl}
  split
  .refine we ?_;rw [hashByValue_scannable 8 rfl];refine Oz ?_
   try simp only [↓reduceIte]
   refine Pp (tail t1 Xu Xt) ?_ (λ_ _ q=>q);rintro r s' ⟨rfl,h',sb,YL,rfl⟩;dsimp only;exact Oz (Zq h' sb YL true)
  .refine we (Oz ?_)
   try simp only [↓reduceIte]
   refine Pp (tail t1 Xu Xt) ?_ (λ_ _ q=>q);rintro r s' ⟨rfl,h',sb,YL,rfl⟩;dsimp only;exact Oz (Zq h' sb YL true)
theorem add_int(z:zZ prog w s.heap a ns)(G:ns.length<3000)(h:∀h',Qy a s.heap h'->zZ prog w h' a (if n∈ns then ns else ns++[n])->Q .none { s with heap:=h',toks:=s.toks+1 }):
  OJ (OR prog w) A (call (.builtin "set.add") [.ref a,.int n tk]) Q E s:=by
 obtain ⟨o,es,ep,t,J,S,hd,_⟩:=z.ex;have typ:s.TypeIs (.ref a) "set":=⟨o,J,S.1⟩;refine PK F.slot_set_add typ F.entry_set_add ?_ (F.args_set_add_2 _ _);unfold OS.«set.add» OS.Frozenset.oneOther
 simp only [List.isEmpty_nil,bind_assoc];unfold OS.Frozenset.addrOf;refine we (Oz (we (Oz (we (Mq z G λh' b sb O=>Oz {_,rfl,h h' sb O})))))
end
def inB(e:O3)(d:Nat)(iter:O3)(ZT:Value)(env:Env):Sem Unit:=do
 let x<-Qc iter env
 RG iter.pos
 let x<-Pj iter env x
 let _<-runOwn (.compStart e d (<- Rx [x] (pyIter x)) ZT env) env
def emB(Zc:O3)(ZT:Value)(env:Env):Sem Unit:=do
 let v<-Qc Zc env
 RG Zc.pos
 let _<-call (.builtin "set.add") [ZT,v]
def eh(e:O3)(d:Nat)(tg iter:O3)(z:Sem Unit)(it ZT:Value)(env:Env):Sem Fin:=do
 RG iter.pos
 match<-Rn it with
 | none=>pure (.done .next)
 | some v =>
  QY tg it v
  S8 tg env v
  z
  again (.compLoop e d it ZT env)
section
variable {Zc t0 i0 t1 i1 t2 i2:O3}{sc:Scope}{pos:Pos}{it ZT:Value}{env:Env}
theorem E6(z:e = .SetComp Zc [{t0,i0,[],0},{t1,i1,[],0},{t2,i2,[],0}] sc pos):TU e 0 it ZT env=eh e 0 t0 i0 (inB e 1 i1 ZT env) it ZT env:=by
 subst z;unfold eh inB;simp only [bind_assoc];rfl
theorem Jg(z:e = .SetComp Zc [{t0,i0,[],0},{t1,i1,[],0},{t2,i2,[],0}] sc pos):TU e 1 it ZT env=eh e 1 t1 i1 (inB e 2 i2 ZT env) it ZT env:=by
 subst z;unfold eh inB;simp only [bind_assoc];rfl
theorem KZ(z:e = .SetComp Zc [{t0,i0,[],0},{t1,i1,[],0},{t2,i2,[],0}] sc pos):TU e 2 it ZT env=eh e 2 t2 i2 (emB Zc ZT env) it ZT env:=by
 subst z;unfold eh emB;rfl
theorem xg(G:e = .SetComp Zc gs sc pos){d:Nat}(hd:(clausesOf e)[d]?=some {tg,iter,[],0})(F:QT (OR prog w) A (.compLoop e d it ZT env) R s)(h:OJ (OR prog w) A (pyIter it) (λz s'=>QT (OR prog w) A (.compLoop e d z ZT env) R s') (notedBy (OR prog w) A env λx s'=>R (.error x) s') s):
  QT (OR prog w) A (.compStart e d it ZT env) R s:=by
 subst G;refine codeAny_of_tree ?_;show OJ _ A ((compStart _ d it ZT env).onRaise (λx=>do Sr x env;RG theWindowsPlace)) _ _ s;refine wpAny_notedAt ?_;unfold compStart;rw [hd];show OJ _ A (ask>>=_) _ _ s;refine we (Rm (wpAny_ite ?_));split
 .first
   | exact we (Oz (Oz (And.intro rfl F)))
   | exact Oz (And.intro rfl F)
 .first
   | exact we (QR (we (Qi (we (Pp h (λz s' h'=>Oz (And.intro rfl h')) λ_ _ x=>x)))))
   | (refine we (QR ?_);show OJ _ _ (RG iter.pos>>=_) _ _ s;exact we (Qi (we (Pp h (λz s' h'=>Oz (And.intro rfl h')) λ_ _ x=>x))))
theorem IH(W:e = .SetComp Zc gs sc pos){d:Nat}(Z:TU e d it ZT env=eh e d tg iter U it ZT env)(I:Nat->Ow->Prop)(YB:∀n s,I n s->OJ (OR prog w) A (Rn it) (λr s₁=>match r with
   | none=>R (.ok .next) s₁
   | some v=>OJ (OR prog w) A (QY tg it v) (λ_ F=>OJ (OR prog w) A (S8 tg env v) (λ_ G =>
     OJ (OR prog w) A U (λ_ s₃=>∃m,m<n/\I m s₃) (λ_ _=>False) G) (λ_ _=>False) F) (λ_ _=>False) s₁) (λ_ _=>False) s)(n:Nat)(h:I n s):QT (OR prog w) A (.compLoop e d it ZT env) R s:=by
 subst W;refine codeAny_loop rfl I (λn s hI=>?_) n h;show OJ _ A ((TU _ d it ZT env).onRaise (λx=>do Sr x env;theTreesLotGoes x)) _ _ s;refine wpAny_noted (Pp (E:=λ_ _=>False) ?_ (λ_ _ q=>q) λ_ _ z=>z.elim);rw [Z];unfold eh;refine we (Qi (we (Pp (YB n s hI) (λr s₁ h₁=>?_) λ_ _ h'=>h')));cases r with
 | none=>exact Oz h₁
 | some v =>
  refine we (Pp h₁ (λ_ F J=>?_) λ_ _ h'=>h');exact we (Pp J (λ_ G S=>we (Pp S (λok s₃ O=>Oz {rfl,O}) λ_ _ h'=>h')) λ_ _ h'=>h')
end
abbrev TB:=St->List Int->Hp->(St->List Int->Hp->Prop)->Prop
def aM(ns:List Int)(n:Int):List Int:=if n∈ns then ns else ns++[n]
def BP(X:Cx)(D:Addr)(Go:List (Addr×Obj))(Q:St->List Int->Hp->Prop)(s':Ow):Prop :=
 ∃σ ns H,Inv X Go σ H s'/\H D=none/\zZ X.prog X.w s'.heap D ns/\Q σ ns H
def PB(X:Cx)(D:Addr)(m:Sem Unit)(tb:TB):Prop :=
 ∀(Go:List (Addr×Obj))(s:Ow)(σ:St)(H:Hp)(ns:List Int)(Q:St->List Int->Hp->Prop),Inv X Go σ H s->aJ X Go H D->zZ X.prog X.w s.heap D ns->tb σ ns H Q ->
  OJ (OR X.prog X.w) X.A m (λ_ s'=>BP X D Go Q s') (λ_ _=>False) s
theorem aJ.to(f:aJ X Go H b)(h:H' b=none):aJ X Go H' b:=⟨h,f.2⟩
theorem aJ.more{Go pl:List (Addr×Obj)}(f:aJ X Go H b)(h:∀p∈pl,p.1≠b):aJ X (Go++pl) H b :=
 {f.1,f.2.1,f.2.2.1,f.2.2.2.1,f.2.2.2.2.1,λp F=>by
  rcases Pk.mp F with z|z
  .exact f.2.2.2.2.2 p (Pz _ z)
  .rcases Pk.mp z with z|z
   .exact f.2.2.2.2.2 p (OG _ z)
   .exact h p z}
theorem zZ.obj(x:zZ P w h D ns):∃o,h.get? D=some o/\∀v,o.data≠.cell v:=by
 obtain ⟨o,es,ep,t,F,_,hd,_⟩:=x.ex;exact {o,F,λv z=>by rw [hd] at z;cases z}
section
variable {X:Cx}{D:Addr}
theorem Inv.holds{o:Obj}(I:Inv X Go σ H s)(f:aJ X Go H D)(F:s.heap.get? D=some o)(J:∀v,o.data≠.cell v):Inv X (Go++[(D,o)]) σ H s :=
 I.xy λp G=>(Pk.mp G).elim (λz=>I.pin p (OG _ z)) λz=>by
  have e:p=(D,o):=by simpa using z
  subst e;exact ⟨F,f.1,f.2.1,f.2.2.1,J⟩
theorem Inv.held{o:Obj}(I:Inv X (Go++[(D,o)]) σ H s):s.heap.get? D=some o/\H D=none :=
 let q:=I.pin (D,o) (OG _ (OG _ (ON.mpr rfl)));⟨q.1,q.2.1⟩
def gv(te:TE):TB:=λσ ns H Q=>te σ H λv H1=>∃n,v = .int n/\ns.length<3000/\Q σ (aM ns n) H1
theorem M6(hx:X.xe=λ_ _=>False)(Z:PE X Zc te):PB X D (emB Zc (.ref D) X.env) (gv te):=by
 intro Go s σ H ns Q I f S h;obtain ⟨o,J,W⟩:=S.obj;unfold emB;have:=Z (Go++[(D,o)]) s σ H _ (I.holds f J W) h;rw [hx] at this;refine we (thn this λv s1=>x5e λx H1 O r1 Yo=>?_);obtain ⟨n,e,hl,q⟩:=Yo;subst e;obtain ⟨tk,rfl⟩:=r1;obtain ⟨F,z⟩:=O.held;have G:zZ X.prog X.w s1.heap D ns:=S.at λo' e=>by rw [J] at e;cases e;exact F
 refine we (Qi (we (add_int G hl λh' sb YL=>Oz ?_)));obtain ⟨_,g1,_,g3,g4,U⟩:=f.to z;exact {σ,_,H1,(O.q0 (Go:=Go)).turned (t':=s1.toks+1) (λb o hb e=>(sb.2 b hb).trans e) z g1 g3 g4 U,z,YL,q}
def lV(W:Nat->Nat->St->List Int->Hp->Prop)(J:It)(g:TG)(tb:TB)(Fin:St->List Int->Hp->Prop):Prop :=
 ∀i m τ ns H2,W i m τ ns H2->(J.stop i H2/\Fin τ ns H2)\/(J.go i H2/\∀x H3,J.aH i H2 x H3->g x τ H3 λz H4=>tb z ns H4 λG F H5=>∃O,O<m/\W (i+1) O G F H5)
def gP(wi:TI)(g:TG)(tb:TB):TB:=λσ ns H Q=>wi σ H λJ H1=>∃W:Nat->Nat->St->List Int->Hp->Prop,(∃m,W 0 m σ ns H1)/\lV W J g tb Q
theorem tL{d:Nat}{W:Nat->Nat->St->List Int->Hp->Prop}{Fin:St->List Int->Hp->Prop}(he:e = .SetComp Zc gs sc pos)(ht:TU e d (.ref it) (.ref D) X.env=eh e d tg iter ZW (.ref it) (.ref D) X.env)(hx:X.xe=λ_ _=>False)(hc:c=true->X.calm=true)(hg:PG X tg g)(F:PB X D ZW tb)(T:dW c X.prog X.w X.K tg J fp it tn)(X9:D∉fp)(step:lV W J g tb Fin)(I:Inv X Go σ H s)(st:tn 0 s.heap)(ff:∀b∈fp,aJ X Go H b)(fD:aJ X Go H D)(hS:zZ X.prog X.w s.heap D ns)(w0:W 0 m σ ns H):
  QT (OR X.prog X.w) X.A (.compLoop e d (.ref it) (.ref D) X.env) (λr s'=>r = .ok .next/\∃av Yr H',Inv X Go av H' s'/\(∀b∈fp,H' b=none)/\H' D=none/\zZ X.prog X.w s'.heap D Yr/\Fin av Yr H') s:=by
 refine IH he ht (λn s'=>∃i τ ys H',Inv X Go τ H' s'/\tn i s'.heap/\(∀b∈fp,H' b=none)/\H' D=none/\zZ X.prog X.w s'.heap D ys/\W i n τ ys H') ?_ m {0,σ,ns,H,I,st,λb F=>(ff b F).1,fD.1,hS,w0};rintro n s4 ⟨i,τ,ys,H4,I4,aF,a0,aH,Z,w4⟩;obtain ⟨ob,dg,ar⟩:=Z.obj;have ai:=I4.holds (fD.to aH) dg ar;have ab:∀b∈fp,aJ X (Go++[(D,ob)]) H4 b:=λb F=>((ff b F).to (a0 b F)).more λp hp=>by
  have e:p=(D,ob):=by simpa using hp
  subst e;exact λq=>X9 (by have q':D=b:=q;rw [q'];exact F)
 rcases step i n τ ys H4 w4 with ⟨stop,Zq⟩|⟨go,step⟩
 .refine thn (T.done X rfl rfl rfl hc i (Go++[(D,ob)]) s4 τ H4 (λ_ _=>False) ai ab aF stop) λr s5=>x2e λhr I5=>?_;subst hr;exact {rfl,τ,ys,H4,I5.q0,a0,aH,Z.at λo' e=>by rw [dg] at e;cases e;exact I5.held.1,Zq}
 .refine thn (T.item X rfl rfl rfl hc i (Go++[(D,ob)]) s4 τ H4 (λ_ _=>False) ai ab aF go) λr s5=>x3e λu hr h5=>?_;subst hr;refine thn h5 λ_ s6=>x5e λx H6 I6 r6 XJ=>?_;obtain ⟨y6,S,a7⟩:=XJ;obtain ⟨U,bt⟩:=I6.held;have a4:∀b∈D::fp,aJ X Go H6 b:=λb F=>by
   rcases OH.mp F with z|z
   .subst z;exact fD.to bt
   .exact (ff b z).to (a7 b z)
  have a3:∀b∈D::fp,∃o,s6.heap.get? b=some o/\∀v,o.data≠.cell v:=λb F=>by
   rcases OH.mp F with z|z
   .subst z;exact {_,U,ar}
   .exact T.obj _ _ S b z
  have bp:=(I6.q0 (Go:=Go)).pinned a4 a3;have aI:=hg _ s6 τ H6 x u _ bp r6 (step x H6 y6);rw [hx] at aI;refine thn aI λ_ s7=>x4e λaT H7 I7 q7=>?_;have G:∀b o,b∈D::fp->s6.heap.get? b=some o->s7.heap.get? b=some o/\H7 b=none:=λb o F e=>by
   have q:=I7.pin (b,o) (OG _ (OG _ (c9 F e)));exact ⟨q.1,q.2.1⟩
  have a8:Inv X (Go++eL fp s6.heap) aT H7 s7:=I7.xy λp hp=>I7.pin p (OG _ ((Pk.mp hp).elim (λz=>Pz _ z) λz=>OG _ (by
   obtain ⟨z1,z2⟩:=pe z;exact c9 (OI _ z1) z2)))
  have bh:aJ X (Go++eL fp s6.heap) H7 D:=(fD.to (G D _ OT U).2).more λp hp z=>X9 (by rw [<- z];exact (pe hp).1);have a5:zZ X.prog X.w s7.heap D ys:=Z.at λo' e=>by rw [dg] at e;cases e;exact (G D _ OT U).1
  refine thn (F _ s7 aT H7 ys _ a8 bh a5 q7) λ_ s8 bg=>?_;obtain ⟨ba,bf,H8,I8,a6,a9,m',hm,w'⟩:=bg;have O:∀b o,b∈fp->s6.heap.get? b=some o->s8.heap.get? b=some o/\H8 b=none:=λb o F e=>by
   have q:=I8.pin (b,o) (OG _ (OG _ (c9 F e)));exact ⟨q.1,q.2.1⟩
  refine {m',hm,i+1,ba,bf,H8,I8.q0,T.keep _ _ _ S λb F o e=>(O b o F e).1,λb F=>?_,a6,a9,w'};obtain ⟨o,e,_⟩:=T.obj _ _ S b F;exact (O b o F e).2
theorem pb_loop{d:Nat}(he:e = .SetComp Zc gs sc pos)(hd:(clausesOf e)[d]?=some {tg,iter,[],0})(ht:∀it,TU e d (.ref it) (.ref D) X.env=eh e d tg iter ZW (.ref it) (.ref D) X.env)(hx:X.xe=λ_ _=>False)(hm:X.A.mark none=X.A)(hc:c=true->X.calm=true)(hi:PIc c X tg iter wi)(hg:PG X tg g)(U:PB X D ZW tb)(hs:∀x,Pj iter X.env x=pure x):PB X D (inB e d iter (.ref D) X.env) (gP wi g tb):=by
 intro Go s σ H ns Q I f hS h;obtain ⟨o,ho,hn⟩:=hS.obj;unfold inB;have F:=hi (Go++[(D,o)]) s σ H _ (I.holds f ho hn) h;rw [hx] at F;refine we (thn F λv s1 h1=>we (Qi ?_));rw [hs];refine we (Oz (we (O9 (thn h1 λai s2 h2=>?_))));obtain ⟨it,fp,tn,J,H2,e',I2,T,XB,f2,W,⟨m0,w0⟩,step⟩:=h2;subst e';obtain ⟨O,Z⟩:=I2.held;have X9:D∉fp:=λz=>(f2 D z).2.2.2.2.2 (D,o) (OG _ (OG _ (ON.mpr rfl))) rfl;have G:zZ X.prog X.w s2.heap D ns:=hS.at λo' e=>by rw [ho] at e;cases e;exact O
 have ff:∀b∈fp,aJ X Go H2 b:=λb U=>by
  obtain ⟨g0,g1,g2,g3,g4,g5⟩:=f2 b U;exact {g0,g1,g2,g3,g4,λp hp=>g5 p ((Pk.mp hp).elim (Pz _) λz=>OG _ (Pz _ z))}
 have L:=tL he (ht it) hx hc hg U T X9 step (I2.q0 (Go:=Go)) XB ff (f.to Z) G w0;refine we (wpAny_runOwn ?_);rw [hm];have L':=QS L (R':=λr s'=>match r with | .ok f=>OJ (OR X.prog X.w) X.A (pure ()) (λ_ s'=>BP X D Go Q s') (λ_ _=>False) s' | .error e=>cameBackBy (OR X.prog X.w) X.A X.env (λ_ _=>False) e s') λr s' ab=>by
  obtain ⟨hr,S,Yr,H',a,b,c,d,q⟩:=ab;subst hr;exact Oz ⟨S,Yr,H',a,c,d,q⟩
 exact xg he hd L' (T.self _ 0 _ _ _ XB L')
def lq(tb:TB):TB:=λσ ns H Q=>tb σ ns H Q\/∃a kvs,H a=some (.dK kvs)/\∀o,tb σ ns (upd H a (.frz o (.dK kvs))) λz F H'=>fi a kvs H' (Q z F)
theorem K5(h:PB X D m tb):PB X D m (lq tb):=by
 intro Go s σ H ns Q I f S F;rcases F with F|⟨a,kvs,e,q⟩
 .exact h Go s σ H ns Q I f S F
 obtain ⟨h5,o,I'⟩:=I.freeze e;have U:D≠a:=λz=>by have:=f.1;rw [z,e] at this;cases this
 refine thn (h Go s σ _ ns _ I' (f.to (by rw [ze U];exact f.1)) S (q o)) λ_ s1 G=>?_;obtain ⟨O,J,H1,I1,d1,S1,o1,W,Z⟩:=G;exact {O,J,_,I1.Vt W h5,by rw [ze U];exact d1,S1,Z}
end
def gJ(P:OL)(w:O1)(D:Addr)(ns:List Int):HO:=.ext λh=>zZ P w h D ns
theorem Mf(x:zZ P w h D ns):ae P w H h D (gJ P w D ns) :=
 {x,let ⟨o,e,_⟩:=x.obj;⟨o,e⟩,λh1 h2 z k=>z.at k}
theorem CF(x:HOk P w H h)(e:H D=some (gJ P w D ns)):zZ P w h D ns:=(x D _ e).1
def tSC(P:OL)(w:O1)(ix:List (Option Nat))(wi:TI)(g:TG)(tb:TB):TE:=λσ H Q=>wi σ H λJ H1=>∃W:Nat->Nat->St->List Int->Hp->Prop,(∃m,W 0 m (cz ix σ) [] H1) /\
 lV W J g tb λ_ ns H2=>∀D,H2 D=none->D≠sysModules->Q (.ref D) (upd H2 D (gJ P w D ns))
theorem CL{c c1 c2:Bool}(hc:c=true->X.calm=true)(aH:c1=true->X.calm=true)(a5:c2=true->X.calm=true)(L:zY X sc N' ix)(hi:PIc c X t0 i0 wi)(hg:∀Go C fp s H,PG (zA X sc N' Go C fp s H) t0 g)(a0:∀Go C fp s H,PIc c1 (zA X sc N' Go C fp s H) t1 i1 w1)(a3:∀Go C fp s H,PG (zA X sc N' Go C fp s H) t1 g1)(a9:∀Go C fp s H,PIc c2 (zA X sc N' Go C fp s H) t2 i2 w2)(a7:∀Go C fp s H,PG (zA X sc N' Go C fp s H) t2 g2)(he:∀Go C fp s H,PE (zA X sc N' Go C fp s H) Zc te)(hs:∀x,Pj i0 X.env x=pure x:=by intro _;rfl)(aT:∀env x,Pj i1 env x=pure x:=by intro _ _;rfl)(Xc:∀env x,Pj i2 env x=pure x:=by intro _ _;rfl):
  PE X (.SetComp Zc [{t0,i0,[],0},{t1,i1,[],0},{t2,i2,[],0}] sc pos) (tSC X.prog X.w ix wi g (lq (gP w1 g1 (gP w2 g2 (gv te))))):=by
 intro Go s σ H Q I h;rw [arm_eval_SetComp];have W8:RM sc X.env=pure (cF X.env.cells sc.names []):=yQ λy hy hk=>I.ok.has y.1 (.inl (L.free y hy hk).1);refine wpAny_comprehension_free (use:=none) rfl hs W8 L.kind L.names (thn (hi Go s σ H _ I h) λv s1 h1=>thn h1 λbg s2 h2=>?_);obtain ⟨it,fp,tn,J,H2,e,I2,T,XB,f2,W,⟨m0,w0⟩,YB⟩:=h2;subst e;refine EZ λon ab ba=>xf ?_;dsimp only;generalize aF:s2.heap.push on=G at ab ⊢;have hC:G.objs.size=s2.heap.objs.size+1:=by rw [<- aF,QG]
 have av:s2.heap.objs.size≠G.objs.size:=by rw [hC];exact Pr (Ri _)
 have Ya:s2.heap.objs.size<=G.objs.size:=by rw [hC];exact Se _
 have below:∀b,b<s2.heap.objs.size->b≠G.objs.size/\b≠s2.heap.objs.size:=λb F=>{by rw [hC];exact Pr (RF F),Pr F};have old:∀b o,s2.heap.get? b=some o->(Ro (G.push { cls:=.type "dict",data:=.dict #[] }) sc.names).get? b=some o:=λb o e=>RC _ _ _ _ (Oy _ (aF ▸ Oy _ e));have W7:(Ro (G.push { cls:=.type "dict",data:=.dict #[] }) sc.names).Ns G.objs.size λ_=>none:=(Ns.new G (.type "dict")).keeps (RC _ _);have own:jn X.env.cells sc G.objs.size (Ro (G.push { cls:=.type "dict",data:=.dict #[] }) sc.names):=.mk' (QG ..);have Zs:zZ X.prog X.w (Ro (G.push { cls:=.type "dict",data:=.dict #[] }) sc.names) s2.heap.objs.size []:=ab.at λo e=>RC _ _ _ _ (Oy _ e);generalize Ro (G.push { cls:=.type "dict",data:=.dict #[] }) sc.names=h₁ at old W7 own Zs ⊢;have fl:∀b∈fp,b<s2.heap.objs.size:=λb F=>by
  obtain ⟨o,e,_⟩:=T.obj 0 _ XB b F;exact O4 e
 have X9:s2.heap.objs.size∉fp:=λz=>PY _ (fl _ z);generalize hD:s2.heap.objs.size=D at *
 generalize bp:G.objs.size=C at *
 have ar:tn 0 h₁:=T.keep _ _ _ XB λb _ o e=>old b o e;have I3:Inv (zA X sc N' Go C fp s2 H2) [] (cz ix σ) H2 { s2 with heap:=h₁ }:=xr (tk:=s2.toks) I2 L f2 (λb F=>by rw [hD];exact fl b F) (by rw [hD];exact Ya) W7 old own;have D0:H2 D=none:=I2.hok.fresh (TQ hD);have fD:aJ (zA X sc N' Go C fp s2 H2) [] H2 D:=by
  refine {D0,av,λz=>?_,.inr (TQ hD),λx c hx z=>?_,λp hp z=>?_}
  .obtain ⟨_,o,ho,_⟩:=I2.stack.mem (show D∈frs X.stack from z);exact absurd (O4 ho) (by rw [hD];exact PY _)
  .rcases own.aL x c hx with a|a
   .have:=a.1;rw [z] at this;exact absurd this (Tt.mpr Ya)
   .obtain ⟨v,q⟩:=I2.cell x c a.1;have:=q.lt;rw [z,hD] at this;exact PY _ this
  .have a4:p∈X.pn++Go:=by
    have:p∈(X.pn++Go)++[]:=hp;simpa using this
   have:=O4 (I2.pin p a4).1;rw [z,hD] at this;exact PY _ this
 have fF:∀b∈fp,aJ (zA X sc N' Go C fp s2 H2) [] H2 b:=λb F=>by
  obtain ⟨g0,g1,g2,g3,g4,g5⟩:=f2 b F;refine {g0,(below b (fl b F)).1,λz=>?_,.inl F,λx c hx=>?_,λp hp=>g5 p ?_}
  .rcases OH.mp (I2.UJ b z) with e|e
   .exact g1 e
   .exact g2 e
  .rcases own.aL x c hx with a|a
   .have:=a.1;have:=fl b F;exact λz=>by subst z;lia
   .exact g4 x c a.1
  .have:p∈(X.pn++Go)++[]:=hp;simpa using this
 generalize Z:O3.SetComp Zc [{t0,i0,[],0},{t1,i1,[],0},{t2,i2,[],0}] sc pos=E;have F:=K5 <| pb_loop (X:=zA X sc N' Go C fp s2 H2) (D:=D) (c:=c1) Z.symm (d:=1) (by rw [<- Z];rfl) (λ_=>Jg Z.symm) rfl rfl aH (a0 Go C fp s2 H2) (a3 Go C fp s2 H2) (pb_loop (c:=c2) Z.symm (d:=2) (by rw [<- Z];rfl) (λ_=>KZ Z.symm) rfl rfl a5 (a9 Go C fp s2 H2) (a7 Go C fp s2 H2) (M6 rfl (he Go C fp s2 H2)) (Xc _)) (aT _);have ai:=tL (X:=zA X sc N' Go C fp s2 H2) Z.symm (E6 Z.symm) rfl hc (hg Go C fp s2 H2) F T X9 YB I3 ar fF fD Zs w0;have O:=QS ai (R':=compPost (OR X.prog X.w) X.A X.xe none (EP X Go σ Q) (.ref D) C) λr s5 Yo=>by
  obtain ⟨hr,bf,ns,H5,I5,bh,S,aI,Zq⟩:=Yo;subst hr;obtain ⟨m5,a8,_⟩:=id I5.loc;refine {m5,a8,λh' Xo=>?_};have kb:∀b u,b≠C->s5.heap.get? b=some u->h'.get? b=some u:=λb u F e=>(Xo.2 b F).trans e;have ZH:∀b o,s2.heap.get? b=some o->b≠C/\b≠D:=λb o e=>by
   have:=O4 e;rw [hD] at this;exact below b this
  have a6:D≠sysModules:=by have h:OK<s2.heap.objs.size:=(I2.mod.glob.keeps I2.bk).lt;rw [hD] at h;exact Rp (SC 'd' h)
  have U:=I5.base;refine {.ref D,upd H5 D (gJ X.prog X.w D ns),I2.aA (s':={ s5 with heap:=h' }) (ch:=fp) I5.os {λb o e n F hx=>kb b o (ZH b o e).1 (U.keep b o e n F hx),λb o e n F hx=>?_,λb o e n hx=>?_,λb o e hx=>?_,λb xs e=>?_,λb o u e=>?_,λb ps e=>?_} ?_ I5.bare (λb F=>?_),rfl,Zq D S a6}
  .obtain ⟨sl,q⟩:=U.slot b o e n F hx;exact {sl,kb b _ (ZH b o e).1 q}
  .rw [ze (ZH b o e).2];exact U.free b o e n hx
  .obtain ⟨o',q⟩:=U.there b o e hx;exact {o',kb b _ (ZH b o e).1 q}
  .have q:=U.tups b xs e;rw [ze (zz q S)];exact q
  .have q:=U.frzs b o u e;rw [ze (zz q S)];exact q
  .obtain ⟨more,q⟩:=U.tbls b ps e;exact {more,by rw [ze (zz q S)];exact q}
  .exact (I5.hok.but I5.free kb).add S (Mf (aI.at λo e=>kb D o av e))
  .obtain ⟨_,g1,g2,g3,g4,g5⟩:=f2 b F;exact ⟨g3,g1,g4,g5⟩
 exact xg Z.symm (by rw [<- Z];rfl) O (T.self _ 0 _ _ _ ar O)
theorem AO:Manifest.owners.lookup (String.ofList ['r','o','t','a','r','e','t','i','_','t','e','s'].reverse)=some Manifest.sig_set_iterator:=by kernel_rfl
theorem jt:Slot "set_iterator" "__next__" "set_iterator.__next__" :=
 .of (owner:="set_iterator") (n:="__next__") (by rw [typeLookup_type,builtinLookup_eq_fast];kernel_rfl) (f!"") (f!"") (f!"")
  (by first|exact .inl (f!"")|exact .inr (f!"")) (by rw [isSubtype_type];kernel_rfl)
theorem Hz:entryFor table "set_iterator.__next__"=some OS.«set_iterator.__next__»:=entryFor_of_tree (by kernel_rfl)
theorem IF(a:Value):Ug "set_iterator.__next__" {[a],[]}:=by
 unfold Ug;rw [signature?_of (id:="set_iterator.__next__") (n:=['_','_','t','x','e','n','_','_']) (o:=['r','o','t','a','r','e','t','i','_','t','e','s']) (by kernel_rfl) AO];kernel_rfl
theorem xR:Slot "set_iterator" "__iter__" "set_iterator.__iter__" :=
 .of (owner:="set_iterator") (n:="__iter__") (by rw [typeLookup_type,builtinLookup_eq_fast];kernel_rfl) (f!"") (f!"") (f!"")
  (by first|exact .inl (f!"")|exact .inr (f!"")) (by rw [isSubtype_type];kernel_rfl)
theorem Dc:entryFor table "set_iterator.__iter__"=some OS.«dict_keyiterator.__iter__»:=entryFor_alias (id':="dict_keyiterator.__iter__") (by kernel_rfl) rfl (f!"") (by kernel_rfl)
theorem Fd(a:Value):Ug "set_iterator.__iter__" {[a],[]}:=by
 unfold Ug;rw [signature?_of (id:="set_iterator.__iter__") (n:=['_','_','r','e','t','i','_','_']) (o:=['r','o','t','a','r','e','t','i','_','t','e','s']) (by kernel_rfl) AO];kernel_rfl
theorem Cs:entryFor table "set.__iter__"=some OS.«frozenset.__iter__»:=entryFor_alias (id':="frozenset.__iter__") (by kernel_rfl) rfl (f!"") (by kernel_rfl)
section
variable {prog:OL}{w:O1}{A:O0}{E:Value->Ow->Prop}{s:Ow}
theorem Lz(F:n≠0)(h:∀i d,i<n->Q i { s with drawn:=d }):OJ (OR prog w) A (choose z n) Q E s:=by
 intro Γ p G;unfold choose;rw [Sem.wp_choose];exact {F,h _ _ (Nat.mod_lt _ (Nat.pos_of_ne_zero F))}
theorem qZ{α:Type}:∀{xs:List α}{i:Nat}(h:i<xs.length),(xs[i]::xs.eraseIdx i).Perm xs
 | x::xs,0,h=>Us.refl _
 | x::xs,i+1,h=>by
  have:=qZ (xs:=xs) (i:=i) (by simpa using h);exact (Us.swap _ _ _).trans (this.cons x)
theorem wZ{α:Type}:∀(n:Nat)(xs:List α)(s:Ow)(Q:List α->Ow->Prop),xs.length=n->(∀l d,l.Perm xs->Q l { s with drawn:=d })->OJ (OR prog w) A (drawOrder n xs) Q E s
 | 0,xs,s,Q,hl,h=>by
  have:xs=[]:=R9.mp hl;subst this;exact Oz (h [] s.drawn (Us.refl _))
 | n+1,[],s,Q,hl,h=>by cases hl
 | n+1,x::xs,s,Q,hl,h=>by
  unfold drawOrder;refine we (Lz 'z' λi d hi=>?_);rw [KE hi];dsimp only;have le:((x::xs).eraseIdx i).length=n:=by rw [Tc hi];simpa using hl
  refine we (wZ n _ _ _ le λl d' p=>Oz ?_);exact h _ _ ((p.cons _).trans (qZ hi))
def itO(a:Addr)(n ep:Nat)(first:Value)(i:Nat):Obj:={ cls:=.type "set_iterator",data:=.fields #[first,.int i 0,.ref a,.int n 0,.int ep 0] }
structure SIt(h:Heap)(I a:Addr)(n ep:Nat)(first:Value)(i:Nat):Prop where
 ex:∃o,h.get? I=some o/\o.cls = .type "set_iterator"/\o.data = .fields #[first,.int i 0,.ref a,.int n 0,.int ep 0]
theorem SIt.at(x:SIt h I a n ep first i)(k:∀o,h.get? I=some o->h'.get? I=some o):SIt h' I a n ep first i:=let ⟨o,ho,r⟩:=x.ex;{{o,k o ho,r}}
theorem SIt.typ(x:SIt s.heap I a n ep first i):s.TypeIs (.ref I) "set_iterator":=let ⟨o,ho,hc,_⟩:=x.ex;⟨o,ho,hc⟩
section
variable {a:Addr}{o:Obj}{es:Array (Int×Value)}{ep:Nat}{t:O7}
theorem HL(z:s.heap.get? a=some o)(U:o.ExactSet)(hd:o.data = .set es ep t)(hf:t.fits es.size=true)(hz:es.size<=sizeLine)(h1:(btW w=true\/t.plain=true\/es.size<=1)->Q (.ref s.heap.objs.size) { s with heap:=s.heap.push (itO a es.size ep (.int 0 0) 0) })(h2:∀(ps:List Nat) d,btW w=false->ps.Perm (Qg es.size)->Q (.ref (s.heap.objs.size+1)) { s with heap:=(s.heap.push { cls:=.type "tuple",data:=.seq (ps.map λ(i:Nat)=>PC i).toArray }).push (itO a es.size ep (.ref s.heap.objs.size) 0),drawn:=d }):
  OJ (OR prog w) A (pyIter (.ref a)) Q E s:=by
 have G:s.TypeIs (.ref a) "set":=⟨o,z,U.1⟩;refine wpAny_pyIter_slot G F.slot_set_iter (PK F.slot_set_iter G Cs ?_ (F.args_set_iter_1 _));unfold OS.«frozenset.__iter__» OS.Frozenset.slot0 slotArgs
 simp only [List.isEmpty_nil,Bool.not_true,Q5,↓reduceIte,bind_assoc,S3,bne_self_eq_false];unfold OS.Frozenset.addrOf OS.Frozenset.sizeOf;refine we (Oz ?_)
 try dsimp only
 refine we (Oz ?_);refine we (we (wpAny_setEntries_of z hd hf (Oz ?_)));unfold setDrawn;refine we (we (QV z hd hf ?_));dsimp only;unfold setsByText;refine we (we (Rm (Oz (Oz ?_))));show OJ _ _ (if (!btW w&&(!t.plain&&decide (es.size>1)))=true then _ else _) _ _ _;by_cases c:(!btW w&&(!t.plain&&decide (es.size>1)))=true
 .rw [if_pos c];simp only [Pm,T5,decide_eq_true_eq] at c;refine we (wZ es.size _ s _ SM λps d pm=>we (wpAny_newTuple ?_ (by rw [OB,pm.length_eq,SM];exact hz)));have S:((s.heap.push { cls:=.type "tuple",data:=.seq (ps.map λ(i:Nat)=>PC i).toArray }).get? a)=some o:=Oy _ z;unfold setEpoch;refine we (we (QV S hd hf (Oz ?_)));refine we (Pt (Oz {_,rfl,"set_iterator",_,{_,OM _ rfl,rfl},jt.lookup,?_}));have:=h2 ps d c.1 pm;rw [<- QG] at this;exact this
 .rw [if_neg c];have c':btW w=true\/t.plain=true\/es.size<=1:=by
   cases J:btW w
   .cases O:t.plain
    .rw [J,O] at c;right;right;simpa using c
    .right;left;rfl
   .left;rfl
  refine we (Oz ?_);unfold setEpoch;refine we (we (QV z hd hf (Oz ?_)));exact we (Pt (Oz {_,rfl,"set_iterator",_,{_,OM _ rfl,rfl},jt.lookup,h1 c'}))
def cA(w:O1)(a:Addr)(es:Array (Int×Value))(ep:Nat):Array (Int×Value):=if btW w=true then R5 (w.params.setOrder a ep) es else es
theorem BB{k i:Nat}(O:s.heap.get? a=some o)(hd:o.data = .set es ep t)(hf:t.fits es.size=true)(g:cS (btW w) t)(c:btW w=true\/t.plain=true\/es.size<=1)(U:btW w=false->O7.below t.place k=i)(h1:∀e k',(cA w a es ep)[i]?=some e->(btW w=false->O7.below t.place k'=i+1)->Q (some (e.2,k')) s)(h2:(cA w a es ep)[i]?=none->Q none s):
  OJ (OR prog w) A (setNext a k i ep) Q E s:=by
 unfold setNext;refine we (QV O hd hf ?_);dsimp only;unfold setsByText;refine we (we (Rm (Oz ?_)));show OJ _ _ (if btW w=true then _ else _) _ _ _;have Yc:t.place.size=es.size:=by
  unfold O7.fits at hf;simp only [Pm,beq_iff_eq] at hf;exact hf.1
 cases F:btW w
 .rw [if_neg OW];have W:t.plain=true\/es.size<=1:=c.resolve_left (by rw [F];exact OW);show OJ _ _ (if (!t.plain&&decide (es.size>1))=true then _ else _) _ _ _;rw [if_neg (show ¬ ((!t.plain&&decide (es.size>1))=true) from by
   simp only [Pm,T5,decide_eq_true_eq,not_and];intro h3;rcases W with h4|h4
   .rw [h3] at h4;cases h4
   .lia)]
  have G:t.led=true:=by rw [g.led,F];rfl
  have J:cA w a es ep=es:=by unfold cA;rw [if_neg (by rw [F];exact OW)]
  rw [J] at h1 h2;refine we ?_;show OJ _ _ (if (!t.led && !es.isEmpty)=true then _ else _) _ _ _;rw [if_neg (show ¬ ((!t.led && !es.isEmpty)=true) from by rw [G];simp)];refine Oz (Oz ?_);rw [U F];cases e:es[i]? with
  | none=>exact h2 e
  | some x =>
   have hi:i<es.size:=(PN.mp e).1;have S:t.place[i]?=some t.place[i]:=QO 'l';rw [S];refine h1 x _ e λ_=>?_;have B:=pW g.ris (t.place[i]+1);have Z:t.place.getD i 0=t.place[i]:=by simp [getD,show i<t.place.size by lia]
   have lo:i<O7.below t.place (t.place[i]+1):=by
    rcases Nat.lt_or_ge i (O7.below t.place (t.place[i]+1)) with z|z
    .exact z
    .have:=B.hi i z 'l';lia
   rcases Nat.lt_or_ge (i+1) (O7.below t.place (t.place[i]+1)) with z|z
   .have l1:=B.lo (i+1) z;have l2:=g.ris i (i+1) 'l' (by have:=B.le;lia);lia
   .lia
 .rw [if_pos rfl];rw [if_neg 'z'];unfold setWalk;refine we (we (QV O hd hf ?_));dsimp only;unfold setsByText;refine we (we (Rm (Oz ?_)));show OJ _ _ (if btW w=true then _ else _) _ _ _;rw [if_pos F];refine we (Rm (Oz (Oz ?_)));have J:cA w a es ep=R5 (w.params.setOrder a ep) es:=by unfold cA;rw [if_pos F]
  rw [J] at h1 h2;show Q (((R5 (w.params.setOrder a ep) es)[i]?).map λe=>(e.2,k)) s;cases e:(R5 (w.params.setOrder a ep) es)[i]? with
  | none=>exact h2 e
  | some x=>exact h1 x k e λz=>by rw [F] at z;cases z
end
end
section
variable {prog:OL}{w:O1}{A:O0}{E:Value->Ow->Prop}{s:Ow}
variable {a I:Addr}{o:Obj}{es:Array (Int×Value)}{ep:Nat}{t:O7}{i:Nat}
theorem SIt.b2{n k':Nat}(x:SIt s.heap I a n ep first i):∀h':Heap,h'=s.heap.update I (R7 (·.setIfInBounds 0 (PC k')))->SIt h' I a n ep (.int k' 0) i/\Qy I s.heap h':=λh' e=>by
 subst e;obtain ⟨o,z,F,hd⟩:=x.ex;exact {{{_,PD _ z (P9 (QD hd _)),(RW ..).trans F,by rw [QD hd];simp [PC]}},Qy.update ..}
theorem SIt.b1(x:SIt s.heap I a n ep first i):∀h':Heap,h'=s.heap.update I (R7 (·.setIfInBounds 1 (PC ((i:Int)+1))))->SIt h' I a n ep first (i+1)/\Qy I s.heap h':=λh' e=>by
 subst e;obtain ⟨o,z,F,hd⟩:=x.ex;exact {{{_,PD _ z (P9 (QD hd _)),(RW ..).trans F,by rw [QD hd];simp [PC]}},Qy.update ..}
theorem yA(G:SIt s.heap I a es.size ep first i)(S:s.heap.get? a=some o)(hd:o.data = .set es ep t)(hf:t.fits es.size=true)(h:OJ (OR prog w) A.in1 (match first with
   | .int slot _=>do
    match<-setNext a slot.toNat i ep with
    | some (x,next) =>
     RK (.ref I) 0 (PC next)
     RK (.ref I) 1 (PC ((i:Int)+1))
     ret x
    | none=>RK (.ref I) 2 .none;TM (<- newExc (.type "StopIteration") [])
   | _=>do
    let some places<-Sq first|unsupported "internal:set_iterator"
    match places[i]? with
    | some (.int z _) =>
     let x<-setNextDrawn a z.toNat ep
     RK (.ref I) 1 (PC ((i:Int)+1))
     ret x
    | some _=>unsupported "internal:set_iterator"
    | none=>RK (.ref I) 0 (PC 0);RK (.ref I) 2 .none;TM (<- newExc (.type "StopIteration") []))
   (λJ s'=>∃v,J = .done (.ret v)/\Q (some v) s') (λe s'=>OJ (OR prog w) A (do if<-isInstance e (.type "StopIteration") then pure none else throw e) Q E s') s):
  OJ (OR prog w) A (Rn (.ref I)) Q E s:=by
 obtain ⟨oi,F,U,O⟩:=G.ex;unfold Rn;refine we (Sx (P5 (name:=OA "__next__") G.typ jt (PK jt G.typ Hz ?_ (IF _))));unfold OS.«set_iterator.__next__»
 refine we (Oz ?_);refine we (wpAny_fieldsOf F O ?_);dsimp only;refine we (wpAny_setEntries_of S hd hf ?_);rw [if_neg 'z'];simp only [Qj];refine Pp h ?_ ?_
 .rintro J s' ⟨v,rfl,q⟩;exact {_,rfl,Oz q}
 .intro e s' q;exact q
theorem yC(z:A.handled=none)(F:ExtBut I s.heap h1)(J:∀h',ExtBut I s.heap h'->Q none { s with heap:=h' }):
  OJ (OR prog w) A.in1 (do TM (<- newExc (.type "StopIteration") []):Sem Fin) (λG s'=>∃v,G = .done (.ret v)/\Q (some v) s') (λe s'=>OJ (OR prog w) A (do if<-isInstance e (.type "StopIteration") then pure none else throw e) Q E s') { s with heap:=h1 }:=by
 refine we ?_;simp only [newExc,newTuple];refine we (Pt ?_ (by size_fits));refine we (m:=S4 _ _) (Tn (a:=Pw) (by first|rfl|(simp only [S4];rfl)) ?_);refine Pt ?_ (by size_fits);simp only [TM];refine we (wpAny_handled ?_);rw [show A.in1.handled=none from z];refine we (Oz (wpAny_throw ?_));refine we (Sm (T:="StopIteration") (b:=true) {_,OM _ rfl,rfl} isSubtype_stop ?_);exact Oz (J _ ((F.push _).push _))
theorem w9{k:Nat}(hh:A.handled=none)(F:SIt s.heap I a es.size ep (.int k 0) i)(ho:s.heap.get? a=some o)(hd:o.data = .set es ep t)(hf:t.fits es.size=true)(g:cS (btW w) t)(c:btW w=true\/t.plain=true\/es.size<=1)(hb:btW w=false->O7.below t.place k=i)(h1:∀e k' h',(cA w a es ep)[i]?=some e->(btW w=false->O7.below t.place k'=i+1)->SIt h' I a es.size ep (.int k' 0) (i+1)->Qy I s.heap h'->Q (some e.2) { s with heap:=h' })(h2:(cA w a es ep)[i]?=none->∀h',ExtBut I s.heap h'->Q none { s with heap:=h' }):OJ (OR prog w) A (Rn (.ref I)) Q E s:=by
 refine yA F ho hd hf ?_;dsimp only;refine we (BB ho hd hf g c (by simpa using hb) (λe k' O Yt=>?_) λO=>?_)
 .dsimp only;obtain ⟨oi,z,S,G⟩:=F.ex;refine we (PL z G 'z' ?_);obtain ⟨x1,W⟩:=F.b2 (k':=k') _ rfl;obtain ⟨oj,Z,ab,U⟩:=x1.ex;refine we (PL Z U 'z' ?_);obtain ⟨x2,J⟩:=SIt.b1 (s:={ s with heap:=s.heap.update I (R7 (·.setIfInBounds 0 (PC k'))) }) x1 _ rfl;exact Oz {_,rfl,h1 e k' _ O Yt x2 (W.trans J)}
 .dsimp only;obtain ⟨oi,z,S,G⟩:=F.ex;refine we (PL z G 'z' ?_);exact yC hh (Qy.update ..).extBut (h2 O)
theorem vG{ps:List Nat}(hh:A.handled=none)(F:SIt s.heap I a es.size ep (.ref T) i)(ho:s.heap.get? a=some o)(hd:o.data = .set es ep t)(hf:t.fits es.size=true)(hT:s.heap.get? T=some ot)(J:ot.data = .seq (ps.map λ(i:Nat)=>PC i).toArray c)(pm:ps.Perm (Qg es.size))(h1:∀p e h',ps[i]?=some p->es[p]?=some e->SIt h' I a es.size ep (.ref T) (i+1)->Qy I s.heap h'->Q (some e.2) { s with heap:=h' })(h2:ps[i]?=none->∀h',ExtBut I s.heap h'->Q none { s with heap:=h' }):OJ (OR prog w) A (Rn (.ref I)) Q E s:=by
 refine yA F ho hd hf ?_;dsimp only;refine we (Qh hT J ?_);dsimp only;obtain ⟨oi,z,ai,W⟩:=F.ex;rw [Sl,OV];cases e:ps[i]? with
 | none =>
  dsimp only [Option.map_none];refine we (PL z W 'z' ?_);obtain ⟨x1,S⟩:=F.b2 (k':=0) _ rfl;obtain ⟨oj,O,ab,G⟩:=x1.ex;refine we (PL O G 'z' ?_);exact yC (s:=s) (I:=I) hh (S.trans (Qy.update ..)).extBut (h2 e)
 | some p =>
  have hp:p<es.size:=by
   have:=pm.mem_iff.mp (OX e);simpa using this
  have Z:es[p]?=some es[p]:=QO hp;dsimp only [map_some,PC];unfold setNextDrawn;refine we (we (QV ho hd hf ?_));dsimp only;rw [if_neg 'z',Qj,Z];refine Oz ?_;refine we (PL z W 'z' ?_);obtain ⟨x2,U⟩:=F.b1 _ rfl;exact Oz {_,rfl,h1 p es[p] _ e Z x2 U}
theorem uw(z:SIt s.heap I a n ep first i)(h:Q (.ref I) s):OJ (OR prog w) A (pyIter (.ref I)) Q E s:=by
 refine wpAny_pyIter_slot z.typ xR (PK xR z.typ Dc ?_ (Fd _));show OJ _ _ (ret (.ref I)) _ _ s;exact Oz {_,rfl,"set_iterator",_,z.typ,jt.lookup,h}
end
theorem AX{α:Type}(nx:Nat->Nat):∀(f k:Nat)(left:List α)(out:Array α),left.length=f->(R5.go nx f k left out).toList.Perm (out.toList++left)
 | 0,k,left,out,h=>by
  have:left=[]:=R9.mp h;subst this;unfold R5.go;simp
 | f+1,k,left,out,h=>by
  have z:0<left.length:=by lia
  have hi:nx k % left.length<left.length:=Nat.mod_lt _ z;unfold R5.go;rw [KE hi];dsimp only;refine (AX nx f (k+1) _ _ (by rw [Tc hi,h];rfl)).trans ?_;rw [Array.toList_push,QW];exact Us.append_left _ (qZ hi)
theorem BS{α:Type}(nx:Nat->Nat)(xs:Array α):(R5 nx xs).toList.Perm xs.toList:=by
 have:=AX nx xs.size 0 xs.toList #[] 'z';unfold R5;simpa using this
theorem Ms:(cA w a es ep).toList.Perm es.toList:=by
 unfold cA;split
 .exact BS _ _
 .exact Us.refl _
theorem sN:∀{l:List (Int×Value)},ElemsOf (Qo prog w) l->RA (l.map (·.2)) (l.map dZ)
 | [],_=>.nil
 | e::l,h=>by
  obtain ⟨⟨k,z,_⟩,_⟩:=h e OT;obtain ⟨t,F⟩:=pJ z;have:=sN (l:=l) λx hx=>h x (OI _ hx);show RA (e.2::_) (numOf e.2::_);rw [F];exact .cons _ _ this
structure N7(prog:OL)(w:O1)(A:O0)(h0 h:Heap)(a I:Addr)(ns:List Int):Prop where
 new:h0.objs.size<=I
 old:∀b o,h0.get? b=some o->h.get? b=some o
 ex:∃(L:List Value)(ms:List Int)(fp:List Addr)(St:Nat->Heap->Prop),RA L ms/\ms.Perm ns/\(∀b∈fp,b=a\/h0.objs.size<=b)/\Walks prog w A I fp [I] L.length (λi v=>L[i]?=some v) St/\St 0 h
section
variable {prog:OL}{w:O1}{A:O0}{E:Value->Ow->Prop}{s:Ow}
theorem E7(hh:A.handled=none)(hS:zZ prog w s.heap a ns)(h:∀I h' d,N7 prog w A s.heap h' a I ns->Q (.ref I) { s with heap:=h',drawn:=d }):OJ (OR prog w) A (pyIter (.ref a)) Q E s:=by
 obtain ⟨o,es,ep,t,ho,XZ,hd,ai,hf,gt,pm⟩:=hS.ex;have hsz:=zZ.size (h:=s.heap) (a:=a) pm;have hz:es.size<=sizeLine:=by rw [hsz,Qa];have:=hS.few;lia
 have W:=O4 ho;refine HL ho XZ hd hf hz (λc=>?_) λps d XN pp=>?_
 .have op:=Ms (w:=w) (a:=a) (es:=es) (ep:=ep);have Z:=ai.perm op;have U:(cA w a es ep).toList.length=es.size:=by rw [op.length_eq,QC]
  have O:∀i,(cA w a es ep)[i]?=(cA w a es ep).toList[i]?:=λi=>(Qw).symm;have:=h s.heap.objs.size (s.heap.push (itO a es.size ep (.int 0 0) 0)) s.drawn {Ox _,λb o e=>Oy _ e,(cA w a es ep).toList.map (·.2),(cA w a es ep).toList.map dZ,[s.heap.objs.size,a],λi h=>(∃k:Nat,SIt h s.heap.objs.size a es.size ep (.int k 0) i/\(btW w=false->O7.below t.place k=i))/\h.get? a=some o,sN Z,(op.map dZ).trans pm,λb F=>?_,?_,?_}
  .exact this
  .simp only [OH,Pc,or_false] at F;rcases F with rfl|rfl
   .exact .inr (Ox _)
   .exact .inl rfl
  .have aI:a≠s.heap.objs.size:=Pr W;refine {λb F=>?_,λi h h' st hk=>?_,λi s' Q E hi st S=>?_,λs' Q E st S=>?_,λi s' Q E st S=>?_}
   .simp at F;simp [F]
   .obtain ⟨⟨k,x,F⟩,J⟩:=st;exact {{k,x.at λo e=>hk _ 'z' o e,F},hk a 'z' o J}
   .obtain ⟨⟨k,x,F⟩,J⟩:=st;rw [OB,U] at hi;refine w9 hh x J hd hf gt c F (λe k' h' G Yt x' sb=>?_) λG=>?_
    .refine S _ h' s'.toks ?_ {⟨k',x',Yt⟩,sb.extBut a _ aI J} λb o F e=>sb.extBut b o (λz=>F (by simp [z])) e;rw [OV,<- O,G];rfl
    .rw [O] at G;exact absurd (Rc.mp G) 'l'
   .obtain ⟨⟨k,x,F⟩,J⟩:=st;rw [OB,U] at x F;refine w9 hh x J hd hf gt c F (λe k' h' G Yt x' sb=>?_) λG h' eb=>?_
    .rw [O] at G;exact absurd (OE.mp G).1 'l'
    .exact S h' s'.toks λb o F e=>eb b o (λz=>F (by simp [z])) e
   .obtain ⟨⟨k,x,F⟩,J⟩:=st;exact uw x S
  .exact {{0,{{_,OM _ rfl,rfl,rfl}},λ_=>by
    have B:=pW gt.ris 0;rcases Tb (O7.below t.place 0) with z|z
    .exact z
    .exact absurd (B.lo 0 z) (Uj _)},Oy _ ho}
 .have ar:s.heap.objs.size=s.heap.objs.size:=rfl
  let f:Nat->Int×Value:=λp=>es.getD p (0,.none)
  have ab:∀p,p<es.size->es[p]?=some (f p):=λp hp=>by rw [QO hp];simp [f,getD,hp]
  have op:(ps.map f).Perm es.toList:=by
   have e:(Qg es.size).map f=es.toList:=by
    apply List.ext_getElem?;intro i;rw [OV,show es.toList[i]?=es[i]? from Qw];by_cases hi:i<es.size
    .rw [List.getElem?_range hi,ab i hi];rfl
    .rw [Array.getElem?_eq_none 'l',QQ (by simpa using hi)];rfl
   rw [<- e];exact pp.map f
  have Z:=ai.perm op;have U:ps.length=es.size:=by rw [pp.length_eq,SM]
  have:=h (s.heap.objs.size+1) ((s.heap.push { cls:=.type "tuple",data:=.seq (ps.map λ(i:Nat)=>PC i).toArray }).push (itO a es.size ep (.ref s.heap.objs.size) 0)) d {Se _,λb o e=>Oy _ (Oy _ e),(ps.map f).map (·.2),(ps.map f).map dZ,[s.heap.objs.size+1,a,s.heap.objs.size],λi h=>SIt h (s.heap.objs.size+1) a es.size ep (.ref s.heap.objs.size) i/\h.get? a=some o/\h.get? s.heap.objs.size=some { cls:=.type "tuple",data:=.seq (ps.map λ(i:Nat)=>PC i).toArray },sN Z,(op.map dZ).trans pm,λb F=>?_,?_,?_}
  .exact this
  .simp only [OH,Pc,or_false] at F;rcases F with rfl|rfl|rfl
   .exact .inr (Se _)
   .exact .inl rfl
   .exact .inr (Ox _)
  .have aI:a≠s.heap.objs.size+1:=Pr (RF W);have tI:s.heap.objs.size≠s.heap.objs.size+1:=Pr (Ri _);refine {λb F=>?_,λi h h' st hk=>?_,λi s' Q E hi st S=>?_,λs' Q E st S=>?_,λi s' Q E st S=>?_}
   .simp at F;simp [F]
   .obtain ⟨x,J,ht⟩:=st;exact {x.at λo e=>hk _ 'z' o e,hk a 'z' o J,hk _ 'z' _ ht}
   .obtain ⟨x,J,ht⟩:=st;rw [OB,OB] at hi;refine vG hh x J hd hf ht rfl pp (λp e h' hp G x' sb=>?_) λG=>?_
    .refine S _ h' s'.toks ?_ {x',sb.extBut a _ aI J,sb.extBut _ _ tI ht} λb o F e=>sb.extBut b o (λz=>F (by simp [z])) e;have Yc:p<es.size:=(PN.mp G).1;rw [ab p Yc] at G;cases G;rw [OV,OV,hp];rfl
    .exact absurd (Rc.mp G) 'l'
   .obtain ⟨x,J,ht⟩:=st;rw [OB,OB] at x;refine vG hh x J hd hf ht rfl pp (λp e h' hp G x' sb=>?_) λG h' eb=>?_
    .exact absurd (OE.mp hp).1 'l'
    .exact S h' s'.toks λb o F e=>eb b o (λz=>F (by simp [z])) e
   .exact uw st.1 S
  .refine {{{itO a es.size ep (.ref s.heap.objs.size) 0,?_,rfl,rfl}},Oy _ (Oy _ ho),Oy _ (OM _ rfl)};have:=OM (s.heap.push { cls:=.type "tuple",data:=.seq (ps.map λ(i:Nat)=>PC i).toArray }) (o:=itO a es.size ep (.ref s.heap.objs.size) 0) rfl;rw [QG] at this;exact this
theorem BC(G:s.TypeIs (.ref a) "set")(h:Q false s):OJ (OR prog w) A (OS.List.listLengthHint (.ref a)) Q E s:=by
 unfold OS.List.listLengthHint;refine we (wpAny_specialOf G PySem.F.slot_set_len.lookup ?_);generalize O:("set.__len__":String)=J
 wp_delta
 rw [show splitId J=some ("set","__len__") from by subst O;decide +kernel];subst O;refine we (Sm (T:="set") (b:=true) G (by rw [isSubtype_type];kernel_rfl) ?_);refine wpAny_ite_split (λz=>absurd z 'd') (λ_=>?_);refine wpAny_ite_split (λ_=>?_) (λz=>absurd (f!"") z);refine we (Sb G ?_);exact Oz h
theorem zZ.typ(x:zZ prog w s.heap a ns):s.TypeIs (.ref a) "set":=let ⟨o,_,_,_,ho,XZ,_⟩:=x.ex;⟨o,ho,XZ.1⟩
theorem JK(h:ItemsOf (λi v=>L[i]?=some v) ZT L.length):ZT.toList=L:=by
 apply List.ext_getElem?;intro i;by_cases hi:i<L.length
 .have hs:i<ZT.size:=by rw [h.1];exact hi
  have e:ZT[i]?=some ZT[i]:=QO hs;rw [Qw,e,h.2 i _ e]
 .rw [Qw,Array.getElem?_eq_none (by rw [h.1];lia),QQ 'l']
theorem Dm(hh:A.handled=none)(hS:zZ prog w s.heap a ns)(ar:S≠a)(res:Value)(U:Nat)(hl:s.heap.get? S=some { cls:=.type "list",data:=.seq #[] U })(hR:∀h' tk d YE c' ms,(∀b o,b≠S->s.heap.get? b=some o->h'.get? b=some o)->h'.get? S=some { cls:=.type "list",dict:=none,data:=.seq YE c',slots:=#[] }->RA YE.toList ms->ms.Perm ns->R (.ok (.ret res)) { s with heap:=h',toks:=tk,drawn:=d }):
  OJ (OR prog w) A.in1 (OS.List.listExtendWith (.ref S) (.ref a) res)
   (λZq s'=>match Zq with | .done f=>R (.ok f) s' | .again c'=>c'.quiet=true/\QT (OR prog w) A c' R s') (λe s'=>R (.error e) s') s:=by
 unfold OS.List.listExtendWith;refine we (Sb (T:="set") hS.typ ?_);have h1:OS.List.listSameRef (.ref S) (.ref a)=false:=by simp [OS.List.listSameRef,ar]
 have n1:(type "set" == type "list")=false:=by decide
 have n2:(type "set" == type "tuple")=false:=by decide
 simp only [h1,n1,n2,RX,Q5,if_false];refine we (E7 hh hS λI h2 d Z=>?_);obtain ⟨L,ms,fp,St,hL,hp,av,W,st⟩:=Z.ex;have ZZ:L.length<=sizeLine:=by
  have e1:L.length=ms.length:=by
   clear W st hp
   induction hL with
   | nil=>rfl
   | cons _ _ _ ih=>simp [ih]
  rw [e1,hp.length_eq,Qa];have:=hS.few;lia
 have O:=O4 hl;have ai:S∉fp:=λz=>by
  rcases av S z with q|q
  .exact ar q
  .exact PY _ (Pd O q)
 have aF:S≠I:=Pr (Pd O Z.new);have key:∀(h:Heap)(J tk:Nat),St 0 h->(∀b o,b≠S->s.heap.get? b=some o->h.get? b=some o) ->
   h.get? S=some { cls:=.type "list",data:=.seq #[] J }->QT (OR prog w) A (.builtin "list.extend.loop" {[.ref S,.ref I,res],[]}) R { s with heap:=h,toks:=tk,drawn:=d }:=by
  intro h J tk hst hk F;refine codeAny_extend_loopS W.toS ZZ S ai res L.length 0 _ #[] J rfl (Qs _) hst F (ItemsOf.nil _) λs' YE c' hm YL Zs=>?_;rw [Moved.eq_with hm];refine hR s'.heap s'.toks d YE c' ms (λb o hb e=>hm.heap b o (λXR=>?_) (hk b o hb e)) YL (by rw [JK Zs];exact hL) hp;rcases OH.mp XR with e'|XR
  .exact hb e'
  .have e3:=ON.mp XR;exact absurd (O4 e) (by rw [e3];exact Tt.mpr Z.new)
 have F:=Z.old _ _ hl;refine we (O9 (BC (zZ.typ (s:={ s with heap:=h2,drawn:=d }) (hS.at λo e=>Z.old _ _ e)) ?_));refine wpAny_ite_split (λ_=>?_) (λ_=>Oz {QH Ti _,key _ U _ st (λb o _ e=>Z.old _ _ e) F});refine we (QR ?_);refine we ?_;show OJ _ _ (TK S (·.push .none)>>=λ_=>TK S (·.pop)) _ _ _;refine we (QX F rfl ?_);have G:=PD (Uo (·.push Pw)) F rfl;refine QX (hz:=by seq_fits) G rfl ?_;have ab:=PD (Uo (·.pop)) G rfl;refine Oz {QH Ti _,key _ _ _ ?_ (λb o hb e=>?_) ab}
 .refine W.frame 0 _ _ st λb hb o e=>?_;have Xg:b≠S:=λh=>ai (h ▸ hb);exact (O5 _ _ (Pe Xg)).trans ((O5 _ _ (Pe Xg)).trans e)
 .exact (O5 _ _ (Pe hb)).trans ((O5 _ _ (Pe hb)).trans (Z.old _ _ e))
theorem Gc(hh:A.handled=none)(hS:zZ prog w s.heap a ns)(h:∀(h':Heap)(tk:Nat) d (ZT:List Value) z,(∀b o,s.heap.get? b=some o->h'.get? b=some o)->RA ZT z->z.Perm ns->R ZT { s with heap:=h',toks:=tk,drawn:=d }):
  OJ (OR prog w) A (collect (.ref a)) R E s:=by
 have ZH:a<s.heap.objs.size:=let ⟨o,e,_⟩:=hS.obj;O4 e;unfold collect;refine we (wpAny_runValue (Q0 entry_proto_collect' ?_));rw [O0.under_plainId PySem.F.plain_proto_collect _];show OJ _ A.in1 (newList []>>=λl=>again (.builtin "list.__iadd__" {[l,.ref a],[]})) _ _ s;refine we (Pt ?_);refine Oz {QH TV _,Q0 entry_list_iadd' ?_};rw [O0.under_plainId TV _];have G:(s.heap.push { cls:=.type "list",data:=.seq ([]:List Value).toArray }).get? s.heap.objs.size=some { cls:=.type "list",data:=.seq #[] }:=OM _ rfl;show OJ _ A.in1 (OS.List.listExtendWith (.ref s.heap.objs.size) (.ref a) (.ref s.heap.objs.size)) _ _ _;have key:=Dm (A:=A) (s:={ s with heap:=s.heap.push { cls:=.type "list",data:=.seq ([]:List Value).toArray } })
  (R:=λ(q:Uh)(s':Ow)=>∃(h':Heap)(tk:Nat)(d:Drawn)(J:Array Value)(c':Nat)(z:List Int),q = .ok (.ret (.ref s.heap.objs.size))/\s'={ s with heap:=h',toks:=tk,drawn:=d } /\
   (∀b o,s.heap.get? b=some o->h'.get? b=some o)/\h'.get? s.heap.objs.size=some { cls:=.type "list",dict:=none,data:=.seq J c',slots:=#[] }/\RA J.toList z/\z.Perm ns)
  hh (hS.at λo e=>Oy _ e) (Rp ZH) (.ref s.heap.objs.size) 0 G
  (λh' tk d J c' z S U W O=>{h',tk,d,J,c',z,rfl,rfl,λb o e=>S b o (Pr (O4 e)) (Oy _ e),U,W,O})
 refine Pp key (λZq s' x=>?_) λe s' x=>?_
 .cases Zq with
  | done f =>
   obtain ⟨h',tk,d,J,c',z,e,rfl,S,U,W,O⟩:=x;cases e;show OJ _ A (load s.heap.objs.size>>=_) _ _ _;refine we (wpAny_load U ?_);exact Oz (h h' tk d _ z S W O)
  | again Z =>
   refine {x.1,QS x.2 λq ab y=>?_};obtain ⟨h',tk,d,J,c',z,rfl,rfl,S,U,W,O⟩:=y;show OJ _ A (load s.heap.objs.size>>=_) _ _ _;refine we (wpAny_load U ?_);exact Oz (h h' tk d _ z S W O)
 .obtain ⟨_,_,_,_,_,_,e',_⟩:=x;cases e'
end
end L2
namespace L2
open PySem PySem.Spec PyProof.Rows PySem.W PySem.Calls
def Ap(P:OL)(w:O1):List V->Hp->VK->Prop:=λxs H Q=>uR1 xs λa=>∃z:List Int,H a=some (gJ P w a z)/\z.length<64/\∀p (ns:List Int) H2,New H p (.lst (ns.map V.int)) H2->ns.Perm z->ns.Pairwise (·<=·)->Q (.ref p) H2
theorem NO:Ap P w [.ref a] H Q = ∃z:List Int,H a=some (gJ P w a z)/\z.length<64/\∀p (ns:List Int) H2,New H p (.lst (ns.map V.int)) H2->ns.Perm z->ns.Pairwise (·<=·)->Q (.ref p) H2:=eI
theorem IG(h:RA vs ns):vs.length=ns.length:=by
 induction h with
 | nil=>rfl
 | cons _ _ _ z=>simp [z]
theorem Inv.drew{d:Drawn}(I:Inv X Go σ H s):Inv X Go σ H { s with drawn:=d }:=⟨I.ok,I.os,I.bare,I.base,I.loc,I.cell,I.free,I.z9,I.pin,I.hok,I.len,I.hdk⟩
section
variable {X:Cx}
theorem Fz(hc:X.calm=true):zO X (.builtin "sorted") (Ap X.prog X.w):=by
 intro Go s σ H xs us Q I r h;obtain ⟨a,rfl,Z,W,XO,q⟩:=h;obtain ⟨u,rfl,ru⟩:=ck r;cases ru;have hS:=CF I.hok W;refine call_function_entry kind_sorted plain_sorted entry_sorted (args_sorted1 _) ?_;unfold OS.«sorted»
 refine we (m:=checkCount "sorted" 1 1 _) (Oz (we (Gc (A:=X.A.in1) (I.ok.hd hc) hS λh' tk d ZT ns hk S pm=>?_)));have hl:ZT.length=Z.length:=by rw [IG S,pm.length_eq]
 have O:Inv X Go σ H { s with heap:=h',toks:=tk,drawn:=d }:=(I.kept (t':=tk) hk).drew;refine we (Ts ?_ (by rw [hl,Qa];lia));have F:(h'.push (T2 "list" ZT.toArray 0)).get? h'.objs.size=some (T2 "list" ZT.toArray 0):=OM _ rfl;refine we (O9 (PK slot_list_sort {_,F,rfl} entry_list_sort (list_sort_tree F S (by rw [hl];exact XO) λout U b1 J b3=>{_,rfl,?_}) (args_list_sort _)));obtain ⟨c,z⟩:=sortedHeap_at (vs:=ZT) (out:=out) F;refine Oz {_,rfl,.ref h'.objs.size,upd H h'.objs.size (.lst (U.map V.int)),O.laid (a:=h'.objs.size) (t':=tk) (λb o e=>?_) (Ox _) {?_,out.toList,c,ml b1,by rw [Sd];exact z},rfl,q _ U _ (.mk' (O.hok.fresh (Ox _))) (J.trans pm) b3}
 .have G:b<h'.objs.size:=O4 e;rw [sortedHeap_old (Pr G) (by rw [So];exact RF G)];exact Oy _ e
 .have:=J.length_eq;rw [OB,this,pm.length_eq,Qa];lia
end
theorem EU{c c1 c2:Bool}(hc:c=true->X.calm=true)(z:c1=true->X.calm=true)(O:c2=true->X.calm=true)(L:zY X sc N' ix)(hi:W (PIc c X t0 i0 wi))(hg:∀Go C fp s H,W (PG (zA X sc N' Go C fp s H) t0 g))(J:∀Go C fp s H,W (PIc c1 (zA X sc N' Go C fp s H) t1 i1 w1))(U:∀Go C fp s H,W (PG (zA X sc N' Go C fp s H) t1 g1))(S:∀Go C fp s H,W (PIc c2 (zA X sc N' Go C fp s H) t2 i2 Z))(F:∀Go C fp s H,W (PG (zA X sc N' Go C fp s H) t2 g2))(he:∀Go C fp s H,W (PE (zA X sc N' Go C fp s H) Zc te))(hs:∀x,Pj i0 X.env x=pure x:=by intro _;rfl)(G:∀env x,Pj i1 env x=pure x:=by intro _ _;rfl)(Xc:∀env x,Pj i2 env x=pure x:=by intro _ _;rfl):
  W (PE X (.SetComp Zc [{t0,i0,[],0},{t1,i1,[],0},{t2,i2,[],0}] sc pos) (tSC X.prog X.w ix wi g (lq (gP w1 g1 (gP Z g2 (gv te)))))) :=
 {CL hc z O L hi.h (λa b c d e=>(hg a b c d e).h) (λa b c d e=>(J a b c d e).h) (λa b c d e=>(U a b c d e).h) (λa b c d e=>(S a b c d e).h) (λa b c d e=>(F a b c d e).h) (λa b c d e=>(he a b c d e).h) hs G Xc}
section
variable {prog:OL}{w:O1}{A:O0}{E:Value->Ow->Prop}{s:Ow}
def cY(ns:List Int):List Int:=ns.foldl aM []
end
theorem oK:∀{ns:List Int}{its:List Value},zt (ns.map V.int) its->RA its ns
 | [],_,h=>by cases h;exact .nil
 | n::ns,_,h=>by
  cases h with
  | cons r z =>
   obtain ⟨t,rfl⟩:=r;exact .cons n t (oK z)
theorem BQ{n k:Int}:k∈aM z n↔k∈z\/k=n:=by
 unfold aM;split
 .rename_i h;constructor
  .exact .inl
  .rintro (h'|rfl)
   .exact h'
   .exact h
 .simp
theorem Fg(h:F.Nodup):(aM F n).Nodup:=by
 unfold aM;split
 .exact h
 .rename_i J;rw [QK];refine {h,'z',λa G b O=>?_};have e:b=n:=by simpa using O
  subst e;exact λz=>J (z ▸ G)
theorem AZ{k:Int}:∀{ns z:List Int},k∈ns.foldl aM z↔k∈z\/k∈ns
 | [],z=>by simp
 | n::ns,z=>by
  show k∈ns.foldl aM (aM z n)↔_;rw [AZ,BQ,OH,or_assoc]
theorem AS:∀{ns z:List Int},z.Nodup->(ns.foldl aM z).Nodup
 | [],z,h=>h
 | n::ns,z,h=>AS (ns:=ns) (Fg h)
theorem fK{k:Int}:k∈cY ns↔k∈ns:=by
 unfold cY;rw [AZ];simp
theorem cK:(cY ns).Nodup:=AS List.nodup_nil
theorem kW{xs ys:List Int}(hx:xs.Pairwise (·<=·))(F:ys.Pairwise (·<=·))(nx:xs.Nodup)(z:ys.Nodup)(h:∀k,k∈xs↔k∈ys):xs=ys:=by
 have p:xs.Perm ys:=(RP nx z).mpr h;exact p.eq_of_pairwise (λa b _ _ h1 h2=>Int.le_antisymm h1 h2) hx F
end L2
namespace L2
open PySem PySem.Spec PyProof.Rows
def uN(v:V)(k:Int->Prop):Prop:=match v with | .int n=>k n|_=>False
theorem MH{k:Int->Prop}:uN (.int n) k=k n:=rfl
def cW(J:It)(g:TG)(tb:TB)(σ:St)(ns:List Int)(H:Hp)(Q:St->List Int->Hp->Prop):Prop:=∃W:Nat->Nat->St->List Int->Hp->Prop,(∃m,W 0 m σ ns H)/\lV W J g tb Q
section
variable {P:OL}{w:O1}{K:OF}{ix:List (Option Nat)}{wi:TI}{g:TG}{tb:TB}{te:TE}{σ:St}{ns:List Int}{H:Hp}{Q:St->List Int->Hp->Prop}{R:VK}
theorem Gj:tSC P w ix wi g tb σ H R=wi σ H λJ H1=>cW J g tb (cz ix σ) [] H1 λ_ ns H2=>∀D,H2 D=none->D≠sysModules->R (.ref D) (upd H2 D (gJ P w D ns)):=rfl
theorem Do:gP wi g tb σ ns H Q=wi σ H λJ H1=>cW J g tb σ ns H1 Q:=rfl
theorem CP:lq tb σ ns H Q=(tb σ ns H Q\/∃a kvs,H a=some (.dK kvs)/\∀o,tb σ ns (upd H a (.frz o (.dK kvs))) λz F H'=>fi a kvs H' (Q z F)):=rfl
theorem Gd:gv te σ ns H Q=te σ H λv H1=>uN v λn=>ns.length<3000/\Q σ (aM ns n) H1:=by
 unfold gv;congr 1;funext v H1;apply propext;constructor
 .rintro ⟨n,rfl,h⟩;exact h
 .intro h;cases v with
  | int n=>exact {n,rfl,h}
  | _=>exact h.elim
theorem cW.lst{a:Addr}{xs:List V}(F:Nat->St->List Int->Hp->Prop)(O:∀i τ ns H,F i τ ns H->SqL K H a xs)(S:F 0 σ ns H)
  (hs:∀(N:St->List Int->Hp->Prop) i x τ ns H,xs[i]?=some x->F i τ ns H->(∀τ ns H,F (i+1) τ ns H->N τ ns H)->g x τ H λz H4=>tb z ns H4 N) (hd:∀τ ns H,F xs.length τ ns H->Q τ ns H):cW (Itl K a) g tb σ ns H Q:=by
 refine {λi m τ ns H=>m=xs.length-i/\i<=xs.length/\F i τ ns H,{xs.length,'z',Qs _,S},?_};rintro i m τ ys H2 ⟨rfl,hi,p⟩;have q:=O i τ ys H2 p;by_cases G:i<xs.length
 .refine .inr {{xs,xs[i],q,by simp [G]},λx H' y=>?_};obtain ⟨e,y⟩:=y;subst e;exact hs (λz ys H=>∃J,J<xs.length-i/\J=xs.length-(i+1)/\i+1<=xs.length/\F (i+1) z ys H) i x τ ys _ (y xs q) p λz zs H q=>{xs.length-(i+1),'l',rfl,G,q}
 .have e:i=xs.length:=by lia
  subst e;exact .inl {{xs,q,Ox _},hd τ ys H2 p}
theorem cW.tup{a:Addr}{xs:List V}(F:Nat->St->List Int->Hp->Prop)(O:∀i τ ns H,F i τ ns H->SqT K H a xs)(S:F 0 σ ns H)
  (hs:∀(N:St->List Int->Hp->Prop) i x τ ns H,xs[i]?=some x->F i τ ns H->(∀τ ns H,F (i+1) τ ns H->N τ ns H)->g x τ H λz H4=>tb z ns H4 N) (hd:∀τ ns H,F xs.length τ ns H->Q τ ns H):cW (Itt K a) g tb σ ns H Q:=by
 refine {λi m τ ns H=>m=xs.length-i/\i<=xs.length/\F i τ ns H,{xs.length,'z',Qs _,S},?_};rintro i m τ ys H2 ⟨rfl,hi,p⟩;have q:=O i τ ys H2 p;by_cases G:i<xs.length
 .refine .inr {{xs,xs[i],q,by simp [G]},λx H' y=>?_};obtain ⟨e,y⟩:=y;subst e;exact hs (λz ys H=>∃J,J<xs.length-i/\J=xs.length-(i+1)/\i+1<=xs.length/\F (i+1) z ys H) i x τ ys _ (y xs q) p λz zs H q=>{xs.length-(i+1),'l',rfl,G,q}
 .have e:i=xs.length:=by lia
  subst e;exact .inl {{xs,q,Ox _},hd τ ys H2 p}
theorem cW.vals{o:Obj}(G:Nat->St->List Int->Hp->Prop)(S:∀i τ ns H,G i τ ns H->H a=some (.frz o (.dK kvs)))(U:G 0 σ ns H)(hs:∀(N:St->List Int->Hp->Prop) i p τ ns H,kvs[i]?=some p->G i τ ns H->(∀τ ns H,G (i+1) τ ns H->N τ ns H)->g p.2 τ H λF H4=>tb F ns H4 N)(hd:∀τ ns H,G kvs.length τ ns H->Q τ ns H):cW (Itw a o kvs) g tb σ ns H Q:=by
 refine {λi m τ ns H=>m=kvs.length-i/\i<=kvs.length/\G i τ ns H,{kvs.length,'z',Qs _,U},?_};rintro i m τ ys H2 ⟨rfl,hi,p⟩;have q:=S i τ ys H2 p;by_cases J:i<kvs.length
 .refine .inr {⟨q,J⟩,λx H' y=>?_};obtain ⟨e,z,hz,ex⟩:=y;subst e ex;exact hs (λF ys H=>∃O,O<kvs.length-i/\O=kvs.length-(i+1)/\i+1<=kvs.length/\G (i+1) F ys H) i z τ ys _ hz p λF zs H q=>{kvs.length-(i+1),'l',rfl,J,q}
 .have e:i=kvs.length:=by lia
  subst e;exact .inl {{q,Ox _},hd τ ys H2 p}
theorem aN.vals{o:Obj}(G:Nat->St->List V->Hp->Prop)(hz:∀i τ ys H,G i τ ys H->ys.length<sizeLine)(S:∀i τ ys H,G i τ ys H->H a=some (.frz o (.dK kvs)))(W:G 0 τ [] H)(hs:∀(N:St->List V->Hp->Prop) i p τ ys H,kvs[i]?=some p->G i τ ys H->(∀τ ys H,G (i+1) τ ys H->N τ ys H)->g p.2 τ H λF H4=>tt F H4 λok H5=>eK N ys F te ok H5)(hd:∀τ ys H,G kvs.length τ ys H->∀D H',New H D (.lst ys) H'->R (.ref D) H'):aN (Itw a o kvs) g tt te τ H R:=by
 refine {λi m τ ys H=>m=kvs.length-i/\i<=kvs.length/\G i τ ys H,{kvs.length,'z',Qs _,W},?_};rintro i m τ ys H2 ⟨rfl,hi,p⟩;refine {hz i τ ys H2 p,?_};have q:=S i τ ys H2 p;by_cases J:i<kvs.length
 .refine .inr {⟨q,J⟩,λx H' y=>?_};obtain ⟨e,z,hz,ex⟩:=y;subst e ex;exact hs (λF ys H=>∃O,O<kvs.length-i/\O=kvs.length-(i+1)/\i+1<=kvs.length/\G (i+1) F ys H) i z τ ys _ hz p λF zs H q=>{kvs.length-(i+1),'l',rfl,J,q}
 .have e:i=kvs.length:=by lia
  subst e;exact .inl {{q,Ox _},λD U _=>hd τ ys H2 p D _ (.mk' U)}
theorem FL{H:Hp}(hl:W (PE (zA X sc N' Go C fp s H) l tl)):W (PIc true (zA X sc N' Go C fp s H) tg l (jv X.K tl)):={A0 (hl:=hl.h)}
end
section
variable {X:Cx}
def wY(td ty:TE):TE:=λσ H Q=>td σ H λx H1=>uR x λa=>(∃kvs,Rd H1 a (.dK kvs))/\ty σ H1 λy H2=>uK y λk=>∃kvs,Rd H2 a (.dK kvs)/\Q ((ag kvs k).getD .non) H2
theorem Fi:wY td ty σ H Q=td σ H λx H1=>uR x λa=>(∃kvs,Rd H1 a (.dK kvs))/\ty σ H1 λy H2=>uK y λk=>∃kvs,Rd H2 a (.dK kvs)/\Q ((ag kvs k).getD .non) H2:=rfl
theorem DJ{o e:O3}(U:X.A.units+1<cLine)(F:W (PE X o td))(z:W (PE X e ty))(m:M1 X o "get" ZU e cpos:=by exact {rfl,rfl,rfl,rfl}):W (PE X (.Call (.Attribute o "get" ZU) [e] [] cpos) (wY td ty)):=by
 refine {?_};have F:=F.h;have z:=z.h;intro Go s σ H Q I h;refine wpAny_Call_method m.base m.few m.line SI Rk type_dict_get (thn (F Go s σ H _ I h) λu s1=>x5e λx H1 G rx Yo=>?_);obtain ⟨a,ex,d,O⟩:=Yo;subst ex;obtain rfl:u=OU a:=rx;obtain ⟨t1,t2,_⟩:=m3 G (.inl d);refine {t1,t2,?_};rw [m.trees];refine Calls.callWith_builtin rfl (Calls.evalArgs_plain (Calls.spliced_cons (thn (z Go s1 σ H1 _ G O) λiv s2=>x5e λy H2 Z ry J=>Calls.spliced_nil ?_)));obtain ⟨k,S,kvs,g,q2⟩:=J;subst S;exact C2 U Z (.inl {kvs,k,g,rfl,rfl}) ry λw' s4 I4 XM=>{_,H2,I4,XM,q2}
def Bd:List V->Hp->VK->Prop:=λxs H Q=>∃j:Int,xs=[.int j]/\∀p H2,New H p (.rng 0 j) H2->Q (.ref p) H2
theorem Cw:Bd [.int j] H Q = ∀p H2,New H p (.rng 0 j) H2->Q (.ref p) H2:=by
 apply propext;constructor
 .rintro ⟨z,e,h⟩;cases e;exact h
 .exact λh=>{j,rfl,h}
theorem LV:zO X (.type "range") Bd:=by
 intro Go s σ H xs us Q I r h;obtain ⟨j,rfl,q⟩:=h;obtain ⟨u,rfl,z⟩:=ck r;obtain ⟨t,rfl⟩:=z;refine call_range_1 ?_;exact {.ref s.heap.objs.size,upd H s.heap.objs.size (.rng 0 j),I.laid (a:=s.heap.objs.size) (t':=s.toks+1+1) (λb o e=>Oy _ e) (Ox _) {_,_,_,OM _ rfl},rfl,q _ _ (.mk' (I.hok.fresh (Ox _)))}
def xT:List V->Hp->VK->Prop:=λxs H Q=>uR1 xs λr=>∃n:Nat,H r=some (.rng 0 n)/\n<=1000000/\∀p H2,New H p (.lst ((Qg n).map λ(i:Nat)=>V.int i)) H2->Q (.ref p) H2
theorem LC:xT [.ref r] H Q = ∃n:Nat,H r=some (.rng 0 n)/\n<=1000000/\∀p H2,New H p (.lst ((Qg n).map λ(i:Nat)=>V.int i)) H2->Q (.ref p) H2:=eI
theorem KD(S:X.calm=true):zO X (.type "list") xT:=by
 intro Go s σ H xs us Q I r h;obtain ⟨a,rfl,n,O,z,q⟩:=h;obtain ⟨u,rfl,U⟩:=ck r;cases U;obtain ⟨t,u,v,e⟩:=I.hok a _ O;refine call_list_range (n:=n) (I.ok.hd S) e ?_ ?_ (PX z 'd') λh' tk G c' W YL J=>?_
 .exact small_one 'l' 'l' 'l' 'l'
 .rw [rangeSize_one];split<;>lia
 have hl:G.toList.length=n:=by rw [QC];exact J.1
 refine {.ref s.heap.objs.size,upd H s.heap.objs.size (.lst ((Qg n).map λ(i:Nat)=>V.int i)),I.laid (a:=s.heap.objs.size) (t':=tk) W (Ox _) {by rw [OB,SM];exact PX z 'd',G.toList,c',yx ?_ λj u F=>?_,by rw [Sd];exact YL},rfl,q _ _ (.mk' (I.hok.fresh (Ox _)))}
 .rw [OB,SM,hl]
 .obtain ⟨t',rfl⟩:=J.2 j u (by rw [<- Qw];exact F);have Z:j<n:=by rw [<- hl];exact (OE.mp F).1
  refine {V.int j,by rw [OV,List.getElem?_range Z];rfl,t',?_};congr 1;lia
def EqR(H:Hp)(x y:V)(b:Bool):Prop:=∃p q zs ws,x = .ref p/\y = .ref q/\H p=some (.tup zs)/\H q=some (.tup ws)/\zs.all ah=true/\ws.all ah=true/\b=eqL zs ws
theorem EqR.at(I:Inv X Go σ H s)(h:EqR H x y b)(rx:zo x u)(ry:zo y v)(hu:A.units<cLine):SeqAt.EqAt A s u v b:=by
 obtain ⟨p,q,xs,ys,rfl,rfl,ha,O,J,fy,rfl⟩:=h;cases rx;cases ry;by_cases G:p=q
 .subst G;rw [ha] at O;cases O;rw [lC J λx hx b e=>by have:=Py.mp J x hx;rw [e] at this;cases this];exact SeqAt.EqAt.same _
 obtain ⟨is,U,p1,_⟩:=I.tuple (SqT.of (K:=X.K) ha);obtain ⟨F,S,p2,_⟩:=I.tuple (SqT.of (K:=X.K) O);have l1:=U.length;have l2:=S.length;have z:=SeqAt.RcAt.tuples (A:=A) (e:=λj=>eqV (xs.getD j .non) (ys.getD j .non)) p1 p2 hu λj h1 h2=>by
  simp only [OZ] at h1 h2;have Z:xs[j]?=some (xs.getD j .non):=by rw [OY,KE 'l'];rfl
  have e2:ys[j]?=some (ys.getD j .non):=by rw [OY,KE 'l'];rfl
  obtain ⟨u,g1,q1⟩:=U.get Z;obtain ⟨v,W,q2⟩:=S.get e2;rw [KE h1] at g1;rw [KE h2] at W;have w1:is.toArray[j]=u:=by simpa using Pn.inj g1
  have w2:F.toArray[j]=v:=by simpa using Pn.inj W
  rw [w1,w2];exact ki q1 q2 (Py.mp J _ (OX Z)) (Py.mp fy _ (OX e2))
 have e:eqL xs ys=((Qg (min is.toArray.size F.toArray.size)).all (λj=>eqV (xs.getD j .non) (ys.getD j .non))&&is.toArray.size==F.toArray.size):=by
  unfold eqL;simp only [OZ];rw [l1,l2];by_cases hz:is.length=F.length
  .rw [hz];simp
  .have z:(is.length==F.length)=false:=by simpa using hz
   rw [z,Tg,Bool.and_false]
 rw [e];exact .of_refs G z
theorem BH{z F pt:Pos}{kt k2 pt2}(O:X.calm=true)(hN:X.N.Nodup)(hi:X.N[i]?=some x)(S:X.N[j]?=some y)(G:i≠j)(hx:X.env.scope.names.lookup x=some .local)(U:X.env.scope.names.lookup y=some .local)(J:W (PA X [a,b] ta))(hw:swappedStores [.Tuple [.Name x z,.Name y F] kt pt] (.Tuple [a,b] k2 pt2) X.env=pure (some [x,y]))(hs:swapsWithSole [.Tuple [.Name x z,.Name y F] kt pt] (.Tuple [a,b] k2 pt2) pos.line X.env=pure false:=by rfl):
  W (PS X (.Assign [.Tuple [.Name x z,.Name y F] kt pt] (.Tuple [a,b] k2 pt2) pos) (p9 i j ta)):={IQ O hN hi S G hx U J.h hw hs}
theorem Cy:p9 i j ta D σ H=ta σ H λvs H1=>∃v w,vs=[v,w]/\D.nx ((σ.set i (some v)).set j (some w)) H1:=rfl
end
theorem EW{α β:Type}{f:α->β}{a:α}{l:List α}:(a::l).map f=f a::l.map f:=rfl
theorem Oh{α β:Type}{f:α->β}:([]:List α).map f=[]:=rfl
theorem Lm:(!true)=false:=rfl
theorem Kv:(!false)=true:=rfl
theorem fsc(a:sc.kind = .function:=by rfl)(b:sc.isCoroutine=false:=by rfl)(c:sc.isGenerator=false:=by rfl)(d:N.Nodup:=by decide +kernel)(e:N.take P.length=P:=by rfl)(f:∀x∈P,sc.names.lookup x=some .local\/sc.names.lookup x=some .cell:=by decide +kernel)(g:∀y∈sc.names,y.2≠.free:=by decide +kernel):zw N P sc:=⟨a,b,c,d,e,f,g⟩
abbrev FnM(K:OF)(x:Str)(st:Stmt):Prop:=∃f fd,Q7 K OK x=some (some (.ref f))/\Fun K x x st f fd
abbrev aq(K:OF)(C:Addr)(m q:Str)(st:Stmt):Prop:=∃f fd,QF K (.ref C) m=some (some (.ref f))/\isFn K (.ref f)=true/\Fun K m q st f fd
theorem u1{α:Type}{p:List α->Prop}(h:∀a,p [a]):∀us,us.length=1->p us
 | [a],_=>h a
theorem u2{α:Type}{p:List α->Prop}(h:∀a b,p [a,b]):∀us,us.length=2->p us
 | [a,b],_=>h a b
theorem u3{α:Type}{p:List α->Prop}(h:∀a b c,p [a,b,c]):∀us,us.length=3->p us
 | [a,b,c],_=>h a b c
theorem u4{α:Type}{p:List α->Prop}(h:∀a b c d,p [a,b,c,d]):∀us,us.length=4->p us
 | [a,b,c,d],_=>h a b c d
theorem u5{α:Type}{p:List α->Prop}(h:∀a b c d e,p [a,b,c,d,e]):∀us,us.length=5->p us
 | [a,b,c,d,e],_=>h a b c d e
section
variable {w:O1}{K:OF}{mg:Str->Option Value}{h:Heap}{k:Nat}{x q:Str}{C:Addr}{ps:List Str}{sp:Sp}{st:Stmt} (P:OL) (base:Heap) (cm:Bool)
abbrev BdA(x q:Str)(st:Stmt)(ps:List Str):Prop:=∀(kV F pm:Value)(G:Option Addr)(z ct:Value)(us:List Value),us.length=ps.length->S6 (fnOf x q (gB st) (cZ st) (zk st) .none kV F pm G z ct) {us,[]}=pure (ps.zip us)
theorem gf(X:K.In h)(G:h.Ns OK mg)(m:FnM K x st)(o:∀f fd,Fun K x x st f fd->zp P w K mg base CX0 cm k f fd ps sp)(b:BdA x x st ps):GF P w K mg base cm k x ps sp:=let ⟨f,fd,a,F⟩:=m;{f,fd,o f fd F,Q4 X G a,F.kp,F.binds b}
theorem gx(X:K.In h)(G:h.Ns OK mg)(m:FnM K x st)(o:∀f fd,Fun K x x st f fd->zp P w K mg base (CXW P w) cm k f fd ps sp)(b:BdA x x st ps):GX P w K mg base cm k x ps sp:=let ⟨f,fd,a,F⟩:=m;{f,fd,o f fd F,Q4 X G a,F.kp,F.binds b}
theorem gm(m:aq K C x q st)(o:∀f fd,Fun K x q st f fd->zp P w K mg base CX0 cm k f fd ps sp)(b:BdA x q st ps):GM P w K mg base cm k C x ps sp:=let ⟨f,fd,a,i,F⟩:=m;{f,fd,o f fd F,⟨a,i,F.kp⟩,F.binds b}
theorem gc(X:K.In h)(G:h.Ns OK mg)(c:Q7 K OK x=some (some (.ref C)))(mk:Ur K C=true)(z:Sg K (.ref C)=true)(m:aq K C Wo q st)(o:∀f fd,Fun K Wo q st f fd->zp P w K mg base CX0 cm k f fd ps sp)(b:BdA Wo q st ps):GC P w K mg base cm k x C ps sp:=let ⟨f,fd,a,i,F⟩:=m;{f,fd,o f fd F,Q4 X G c,⟨mk,a,i,z⟩,F.binds b}
end
def gW(i:Nat):TE:=λσ H Q=>match σ[i]? with|some (some v)=>Q v H|_=>False
def rID(C:Int->Int->Prop)(g:Int->Int->V):R2:=λx y H Q=>match x,y with | .int i,.int j=>C i j/\Q (g i j) H|_,_=>False
def Az(g:Int->Int->V):R2:=λx y H Q=>match x,y with | .int i,.int j=>Q (g i j) H|_,_=>False
section
variable {X:Cx}{f:Value->Value->Sem Value}{C:Int->Int->Prop}{g:Int->Int->V}
theorem pvD(i:Nat)(hN:X.N[i]?=some x:=by rfl)(hv:Vis X.env.scope x:=by first|exact OO rfl|exact RU (OO rfl)|exact RU (RU rfl))(hd:(x==("__debug__":Str))=false:=by decide)(hcd:(x==("__classdict__":Str))=false:=by decide):PE X (.Name x pos) (gW i):=λGo s σ H Q I h=>pv i hN hv hd hcd Go s σ H Q I (by
 unfold gW at h;split at h
 .exact {_,by assumption,h}
 .exact h.elim)
theorem zb(i:Nat)(hN:X.N[i]?=some x:=by rfl)(hv:Vis X.env.scope x:=by first|exact OO rfl|exact RU (OO rfl)|exact RU (RU rfl))(hd:(x==("__debug__":Str))=false:=by decide)(hcd:(x==("__classdict__":Str))=false:=by decide):W (PE X (.Name x pos) (gW i)):={pvD i hN hv hd hcd}
theorem oI(h:OpR X f (rI C g)):OpR X f (rID C g):=h.weak λx y H Q q=>by
 cases x<;>cases y<;>first|exact q.elim|exact {_,_,rfl,rfl,q}
theorem oI0(h:OpR X f (rI0 g)):OpR X f (Az g):=h.weak λx y H Q q=>by
 cases x<;>cases y<;>first|exact q.elim|exact {_,_,rfl,rfl,q}
end
section
variable {i j:Int}{H:Hp}{Q:VK}{C:Int->Int->Prop}{g:Int->Int->V}
theorem Bt:rID C g (.int i) (.int j) H Q=(C i j/\Q (g i j) H):=rfl
theorem Jm:Az g (.int i) (.int j) H Q=Q (g i j) H:=rfl
end
abbrev clT(t:TE):TE:=λσ H Q=>∃R:VK,t σ H R/\∀v H,R v H->Q v H
abbrev clR(r:R2):R2:=λx y H Q=>∃R:VK,r x y H R/\∀v H,R v H->Q v H
abbrev clA(t:TA):TA:=λσ H Q=>∃R:List V->Hp->Prop,t σ H R/\∀v H,R v H->Q v H
def bD(v:V)(q:Bool->Prop):Prop:=match v with | .bl c=>q c|_=>False
def aD(v:V)(q:Addr->Prop):Prop:=match v with | .ref a=>q a|_=>False
theorem Nd:bD (.bl c) q=q c:=rfl
theorem HF:aD (.ref a) q=q a:=rfl
theorem bD.ex(h:bD v q):∃c,v = .bl c/\q c:=by
 cases v<;>first|exact {_,rfl,h}|exact h.elim
theorem aD.ex(h:aD v q):∃a,v = .ref a/\q a:=by
 cases v<;>first|exact {_,rfl,h}|exact h.elim
def vn(t:TE):TT:=λσ H Q=>t σ H λx H1=>bD x λc=>Q c H1
def yR(ta tb:TE):TE:=λσ H Q=>ta σ H λx H1=>bD x λc=>if c=true then tb σ H1 Q else Q (.bl false) H1
def yN(ta:TE):TE:=λσ H Q=>ta σ H λx H1=>bD x λc=>Q (.bl (!c)) H1
def lJ(C:Addr)(m:Str)(sp:Sp)(E:XK)(ta:TE)(t:TA):TE:=λσ H Q=>ta σ H λx H1=>aD x λa=>∃dx fs,H1 a=some (.ins C dx fs)/\fs.lookup m=none/\t σ H1 λvs H2=>sp (.ref a::vs) H2 Q E
def m6(sp:Sp)(E:XK)(t:TA):TE:=λσ H Q=>t σ H λvs H1=>sp vs H1 Q E
def wb(sp:Sp)(Ex:Addr->St->Hp->Prop)(t:TA):TE:=λσ H Q=>t σ H λvs H1=>sp vs H1 Q (XE Ex σ)
def uH(C:Addr)(ta:TE)(f:Str):TE:=λσ H Q=>ta σ H λx H1=>aD x λa=>∃dx fs v,H1 a=some (.ins C dx fs)/\fs.lookup f=some v/\Q v H1
def x8(C:Addr)(ta tv:TE)(f:Str):TS:=λD σ H=>tv σ H λy H1=>ta σ H1 λx H2=>aD x λa=>∃dx fs,H2 a=some (.ins C dx fs)/\fs.length<1000/\D.nx σ (upd H2 a (.ins C dx (zG f y fs)))
def yt(K:OF)(tl:TE):TI:=λσ H R=>tl σ H λx H1=>aD x λa=>(∃xs,SqL K H1 a xs)/\R (Itl K a) H1
def wA(t:TG)(u:TGs):TGs:=λvs σ H Q=>match vs with|v::r=>t v σ H λz H'=>u r z H' Q|[]=>False
theorem Ce{t:TG}:wA t u (v::r) σ H Q=t v σ H λz H'=>u r z H' Q:=rfl
def qS:R2:=λx y H Q=>match x,y with
 | .ref a,.int i=>∃xs,(H a=some (.lst xs)\/H a=some (.tup xs))/\∃v,atI xs i=some v/\Q v H
 | .str x,.int i=>x.length<=sizeLine/\∃c,atI x.cps.toList i=some c/\Q (.str {#[c]}) H
 | _,_=>False
def pA:List V->Hp->VK->Prop:=λxs H Q=>match xs with
 | [.ref a]=>∃ys,(H a=some (.lst ys)\/H a=some (.tup ys))/\Q (.int ys.length) H
 | [.str x]=>x.length<=sizeLine/\Q (.int x.length) H
 | _=>False
def iM(c:Bool):R2:=λx y H Q=>match x,y with
 | .int i,.int j=>Q (.bl (if c then !decide (i=j) else decide (i=j))) H
 | .str i,.str j=>Q (.bl (if c then !decide (i=j) else decide (i=j))) H
 | .bl i,.bl j=>Q (.bl (if c then !decide (i=j) else decide (i=j))) H
 | .ref a,.ref b=>∃xs ys,H a=some (.lst xs)/\H b=some (.lst ys)/\xs.all ah=true/\ys.all ah=true/\Q (.bl (if c then !eqL xs ys else eqL xs ys)) H
 | _,_=>False
def hJ:R2:=λx y H Q=>match x,y with
 | .int i,.int j=>Q (.int (i+j)) H
 | .str x,.str y=>x.length+y.length<=sizeLine/\Q (.str (x++y)) H
 | .ref a,.ref b=>∃xs zs,H a=some (.lst xs)/\H b=some (.lst zs)/\xs.length+zs.length<=sizeLine/\∀p H2,New H p (.lst (xs++zs)) H2->Q (.ref p) H2
 | _,_=>False
section
variable {H:Hp}{Q:VK}{i j:Int}{x y:Str}{a b:Addr}{k k' c:Bool}
theorem Ke:qS (.ref a) (.int i) H Q = ∃xs,(H a=some (.lst xs)\/H a=some (.tup xs))/\∃v,atI xs i=some v/\Q v H:=rfl
theorem DW:qS (.str x) (.int i) H Q=(x.length<=sizeLine/\∃c,atI x.cps.toList i=some c/\Q (.str {#[c]}) H):=rfl
theorem Nm:pA [.ref a] H Q = ∃ys,(H a=some (.lst ys)\/H a=some (.tup ys))/\Q (.int ys.length) H:=rfl
theorem Jf:pA [.str x] H Q=(x.length<=sizeLine/\Q (.int x.length) H):=rfl
theorem JZ:iM c (.int i) (.int j) H Q=Q (.bl (if c then !decide (i=j) else decide (i=j))) H:=rfl
theorem JX:iM c (.str x) (.str y) H Q=Q (.bl (if c then !decide (x=y) else decide (x=y))) H:=rfl
theorem JR:iM c (.bl k) (.bl k') H Q=Q (.bl (if c then !decide (k=k') else decide (k=k'))) H:=rfl
theorem IB:iM c (.ref a) (.ref b) H Q = ∃xs ys,H a=some (.lst xs)/\H b=some (.lst ys)/\xs.all ah=true/\ys.all ah=true/\Q (.bl (if c then !eqL xs ys else eqL xs ys)) H:=rfl
theorem NW:hJ (.int i) (.int j) H Q=Q (.int (i+j)) H:=rfl
theorem Kg:hJ (.str x) (.str y) H Q=(x.length+y.length<=sizeLine/\Q (.str (x++y)) H):=rfl
theorem KM:hJ (.ref a) (.ref b) H Q = ∃xs zs,H a=some (.lst xs)/\H b=some (.lst zs)/\xs.length+zs.length<=sizeLine/\∀p H2,New H p (.lst (xs++zs)) H2->Q (.ref p) H2:=rfl
end
section
variable {X:Cx}{e:O3}{es:List O3}{st:Stmt}{t ta tb tv:TE}{tA:TA}{r:R2}{f:Value->Value->Sem Value}{C:Addr}{m:Str}{sp:Sp}{E:XK}{Ex:Addr->St->Hp->Prop}{c:Bool}
theorem clE(h:W (PE X e t)):W (PE X e (clT t)):={λGo s σ H Q I=>x3e λR q hw=>thn (h.h Go s σ H R I q) λ_ _=>x5e λv H' a b c=>{v,H',a,b,hw _ _ c}}
theorem clO(h:OpR X f r):OpR X f (clR r):=λGo s σ H x y v u Q I F z=>x3e λR q hw=>thn (h Go s σ H x y v u R I F z q) λ_ _=>x5e λv H' a b c=>{v,H',a,b,hw _ _ c}
theorem clP(h:W (PA X es tA)):W (PA X es (clA tA)):=⟨h.h.any⟩
theorem peD(h:W (PE X e t))(w:∀σ H Q,t' σ H Q->t σ H Q):W (PE X e t'):={λGo s σ H Q I q=>h.h Go s σ H Q I (w σ H Q q)}
theorem tD(h:W (PT X e (oJ (tOp (clR r) (clT ta) (clT tb))))):W (PT X e (vn (tOp r ta tb))):={λGo s σ H Q I q=>h.h Go s σ H Q I {_,q,λx H1 G=>{_,G,λy H2 J=>{_,J,λz H3 F=>F.ex}}}}
theorem anD(h:W (PE X e (n0 (clT ta) tb))):W (PE X e (yR ta tb)):=peD h λσ H Q q=>{_,q,λx H1 z=>z.ex}
theorem ntD(h:W (PE X e (nR (clT ta)))):W (PE X e (yN ta)):=peD h λσ H Q q=>{_,q,λx H1 z=>z.ex}
theorem mD(h:W (PE X e (fP C m sp [] E (clT ta) (clA tA)))):W (PE X e (lJ C m sp E ta tA)):=peD h λσ H Q q=>{_,q,λx H1 F=>by
 obtain ⟨a,rfl,dx,fs,h1,h2,G⟩:=F.ex;exact {a,dx,fs,rfl,h1,h2,_,G,λvs H2 z=>by dsimp only;rw [Qe];exact z}}
theorem m0D(h:W (PE X e (fP C m sp [] E (clT ta) dr))):W (PE X e (lJ C m sp E ta dr)):=peD h λσ H Q q=>{_,q,λx H1 F=>by
 obtain ⟨a,rfl,dx,fs,h1,h2,z⟩:=F.ex;exact {a,dx,fs,rfl,h1,h2,z}}
theorem caD(h:W (PE X e (mx sp [] E (clA tA)))):W (PE X e (m6 sp E tA)):=peD h λσ H Q q=>{_,q,λvs H2 z=>by dsimp only;rw [Qe];exact z}
theorem cXD(h:W (PE X e (kK sp [] Ex (clA tA)))):W (PE X e (wb sp Ex tA)):=peD h λσ H Q q=>{_,q,λvs H2 z=>by dsimp only;rw [Qe];exact z}
theorem fD(h:W (PE X e (mJ C (clT ta) m))):W (PE X e (uH C ta m)):=peD h λσ H Q q=>{_,q,λx H1 F=>by
 obtain ⟨a,rfl,dx,fs,v,z⟩:=F.ex;exact {a,dx,fs,v,rfl,z}}
theorem sfD(h:W (PS X st (jU C (clT ta) (clT tv) m))):W (PS X st (x8 C ta tv m)):={λGo s σ H D I q=>h.h Go s σ H D I {_,q,λy H1 F=>{_,F,λx H2 G=>by
 obtain ⟨a,rfl,dx,fs,z⟩:=G.ex;exact {a,dx,fs,rfl,z}}}}
theorem liD(h:W (PIc c X tg e (qp X.K (clT ta)))):W (PIc c X tg e (yt X.K ta)):={λGo s σ H R I q=>h.h Go s σ H R I {_,q,λx H1 z=>z.ex}}
theorem gsD(h:W (PGs X ts (oB g u))):W (PGs X ts (wA g u)):={λGo s σ H vs us Q I z q=>h.h Go s σ H vs us Q I z (by cases vs with|nil=>exact q.elim|cons v r=>exact {v,r,rfl,q})}
theorem zX:IxR X qS:=oh.weak λx y H Q h=>by
 cases x<;>cases y<;>first|exact h.elim|skip
 .rename_i a i;exact (y7 (x:=a) (i:=i)).mpr h
 .rename_i a i;exact (jX (a:=a) (i:=i)).mpr h
theorem cu:zO X (.builtin "len") pA:=iV.weak λxs H Q h=>by
 match xs,h with
 | [.ref a],h=>exact (rJ (a:=a)).mpr h
 | [.str x],h=>exact (AD (x:=x)).mpr h
theorem oE{f:Value->Value->Sem Value}(h:OpR X f (uEq c)):OpR X f (iM c):=h.weak λx y H Q h=>by
 cases x<;>cases y<;>first|exact h.elim|exact yM.mpr h|exact wG.mpr h|exact ui.mpr h|exact wo.mpr h
theorem aX:OpR X (QP .Add) hJ:=qg.weak λx y H Q h=>by
 cases x<;>cases y<;>first|exact h.elim|exact Aw.mpr h|exact xK.mpr h|exact oq.mpr h
end
end L2
namespace HT
open PySem PyProof.Rows
end HT
namespace L2
open PySem PySem.Spec PyProof.Rows
section
variable {X:Cx}
def uU:List V->Hp->VK->Prop:=λxs H Q=>uR1 xs λa=>∃ns:List Int,H a=some (.lst (ns.map V.int))/\ns.length<64/\∀p (z:List Int) H2,New H p (.lst (z.map V.int)) H2->z.Perm ns->z.Pairwise (·<=·)->Q (.ref p) H2
theorem NK:uU [.ref a] H Q = ∃ns:List Int,H a=some (.lst (ns.map V.int))/\ns.length<64/\∀p (z:List Int) H2,New H p (.lst (z.map V.int)) H2->z.Perm ns->z.Pairwise (·<=·)->Q (.ref p) H2:=eI
theorem GD:zO X (.builtin "sorted") uU:=by
 intro Go s σ H xs us Q I r h;obtain ⟨a,rfl,ns,hl,XO,q⟩:=h;obtain ⟨u,rfl,U⟩:=ck r;cases U;obtain ⟨its,G,⟨o,n,J,O,e3,Z⟩,hz⟩:=I.list (SqL.of hl);refine PyProof.Rows.sorted_ints (vs:=its) ⟨o,J,O,n,Z⟩ (LG G) (by rw [<- G.length,OB];exact XO) λout z b1 F W=>?_;obtain ⟨e,S⟩:=sortedAll_at s.heap its out;refine {.ref (s.heap.objs.size+1),upd H (s.heap.objs.size+1) (.lst (z.map V.int)),I.laid (t':=s.toks) (λb o e=>sortedAll_old e) (Se _) {by rw [OB,F.length_eq,Qa];lia,out.toList,e,ml b1,by rw [Sd];exact S},rfl,q _ z _ (.mk' (I.hok.fresh (Se _))) F W}
end
section
variable {P:OL}{w:O1}{K:OF}{mg:Str->Option Value}{base:Heap}{x qual:Str}{st:Stmt}{f:Addr}{fd:OP}{N ps:List Str}{cm:Bool}{k:Nat}{sp:Sp}
theorem Fun.o(F:Fun K x qual st f fd)(S:zw N ps (zk st))
  (G:∀(z:Value)(A:O0)(outer:List Env)(s:Ow)(H:Hp)(vs:List V)(Q:VK)(E:XK),zE cm k (A.deeper (Ra qual (zk st) s.heap.objs.size f z))->sp vs H Q E ->
   ∃t,PSs (bR CX0 cm P w K mg base N qual (zk st) f z A outer s H E).bw (cZ st) t/\t { nx:=λ_ H'=>Q .non H',rt:=Q } (start N vs) H)
  (len:∀vs H Q E,sp vs H Q E->vs.length=ps.length:=by intro _ _ _ _ h;repeat (first|(obtain ⟨rfl,_⟩:=h;rfl)|(obtain ⟨_,h⟩:=h))):zp P w K mg base CX0 cm (k+1) f fd ps sp:=F.ok S len G
theorem Fun.oW(F:Fun K x qual st f fd)(S:zw N ps (zk st))
  (G:∀(z:Value)(A:O0)(outer:List Env)(s:Ow)(H:Hp)(vs:List V)(Q:VK)(E:XK),zE cm k (A.deeper (Ra qual (zk st) s.heap.objs.size f z))->sp vs H Q E ->
   ∃t,PSs (bR (CXW P w) cm P w K mg base N qual (zk st) f z A outer s H E) (cZ st) t/\t { nx:=λ_ H'=>Q .non H',rt:=Q } (start N vs) H)
  (len:∀vs H Q E,sp vs H Q E->vs.length=ps.length:=by intro _ _ _ _ h;repeat (first|(obtain ⟨rfl,_⟩:=h;rfl)|(obtain ⟨_,h⟩:=h))):zp P w K mg base (CXW P w) cm (k+1) f fd ps sp:=F.cH S len G
end
end L2
namespace HT
open PySem PyProof.Rows
end HT
namespace L2
open PySem PySem.Spec PyProof.Rows
section
variable {X:Cx}
def EqD:Nat->Hp->V->V->Prop
 | 0,_,p,q=>p=q/\ah p=true
 | n+1,H,p,q=>(p=q/\ah p=true)\/∃a b xs ys,p = .ref a/\q = .ref b/\((H a=some (.lst xs)/\H b=some (.lst ys))\/(H a=some (.tup xs)/\H b=some (.tup ys)))/\xs.length=ys.length/\∀(j:Nat) x y,xs[j]?=some x->ys[j]?=some y->EqD n H x y
theorem yr(f:ah x=true)(J:zo x u)(F:zo x v):SeqAt.EqAt A s u v true:=by
 have e:eqV x x=true:=by
  have:=lC (xs:=[x]) (by rw [all_cons,f];rfl) λy G b z=>by rw [ON.mp G] at z;rw [z] at f;cases f
  unfold eqL at this;simpa using this
 rw [<- e];exact ki J F f f
theorem EqD.at(I:Inv X Go σ H s):∀(n:Nat){x y:V}{u v:Value}{A:O0},EqD n H x y->zo x u->zo y v->A.units+n<cLine->SeqAt.EqAt A s u v true
 | 0,x,y,u,v,A,h,U,W,S=>by
  obtain ⟨rfl,f⟩:=h;exact yr f U W
 | n+1,x,y,u,v,A,h,U,W,S=>by
  rcases h with ⟨rfl,f⟩|⟨a,b,xs,ys,rfl,rfl,hh,hl,he⟩
  .exact yr f U W
  cases U;cases W;by_cases WV:a=b
  .subst WV;exact SeqAt.EqAt.same _
  have ab:A.in1.units+n<cLine:=PV (by first|exact Ox _|(show A.units+n<=A.units+(n+1);exact Se _)|(simp [O0.in1];lia)) S;have O:∀{is F:List Value},zt xs is->zt ys F->∀j (h1:j<is.toArray.size) (h2:j<F.toArray.size),SeqAt.EqAt A.in1 s is.toArray[j] F.toArray[j] true:=λ{is F} J G j h1 h2=>by
   have l1:=J.length;have l2:=G.length;simp only [OZ] at h1 h2;have e1:xs[j]?=some (xs[j]''l'):=KE _;have e2:ys[j]?=some (ys[j]''l'):=KE _;obtain ⟨u,g1,q1⟩:=J.get e1;obtain ⟨v,g2,q2⟩:=G.get e2;rw [KE h1] at g1;rw [KE h2] at g2;have w1:is.toArray[j]=u:=by simpa using Pn.inj g1
   have w2:F.toArray[j]=v:=by simpa using Pn.inj g2
   rw [w1,w2];exact EqD.at I n (he j _ _ e1 e2) q1 q2 ab
  rcases hh with ⟨ha,hb⟩|⟨ha,hb⟩
  .obtain ⟨is,J,Z,_⟩:=I.list (SqL.of (K:=X.K) ha);obtain ⟨F,G,p2,_⟩:=I.list (SqL.of (K:=X.K) hb);have z:=SeqAt.RcAt.lists (A:=A) (e:=λ_=>true) Z.isList p2.isList (by have:=J.length;have:=G.length;simp only [OZ];lia) (PV (Nat.le_add_right ..) S) (O J G);have e:(Qg is.toArray.size).all (λ_=>true)=true:=by simp
   rw [e] at z;exact .of_refs WV z
  .obtain ⟨is,J,Z,_⟩:=I.tuple (SqT.of (K:=X.K) ha);obtain ⟨F,G,p2,_⟩:=I.tuple (SqT.of (K:=X.K) hb);have z:=SeqAt.RcAt.tuples (A:=A) (e:=λ_=>true) Z p2 (PV (Nat.le_add_right ..) S) (O J G);have e:((Qg (min is.toArray.size F.toArray.size)).all (λ_=>true)&&is.toArray.size==F.toArray.size)=true:=by have:=J.length;have:=G.length;simp;lia
   rw [e] at z;exact .of_refs WV z
end
theorem Lu{K:OF}{k:Nat}(z:zE cm (k+1) A)(F:fR P w K mg base A outer s H)(ho:s.heap.get? f=some (kla_obj "<lambda>" qual Z1 O scope [] pm c' Z))(hcd:s.heap.CodeRec (.ref c') qual)(S:zw [x] [x] scope)(hb:S6 (kla_fn "<lambda>" qual Z1 O scope [] pm (.ref c') Z) {[u],[]}=pure [(x,u)])(r:zo v u)(Zd:zE cm k (A.deeper (Ra qual scope s.heap.objs.size f (.ref c')))->PE (bR CX0 cm P w K mg base [x] qual scope f (.ref c') A outer s H E) O te)(h:te [some v] H Q):
  QT (OR P w) A (.call (.ref f) {[u],[]}) (CR CX0 outer P w H s Q E) s:=by
 have G:s.heap.NoLimit:=F.mod.nolimit.keeps λb o e=>(F.bs b o e).1;have Yv:∀y∈[x].zip [u],scope.names.lookup y.1=some .local\/(scope.names.lookup y.1=some .cell/\((QM (s.heap.objs.size+1) scope.names []).lookup y.1).isSome=true):=λ⟨n,v⟩ hy=>by
  rcases S.par n (of_mem_zip hy).1 with q|q
  .exact .inl q
  .exact .inr {q,cellsFrom_some _ _ _ (.inl q)}
 refine PySem.W.kla_callFunE z.depth ho rfl S.co S.gen rfl hcd ?_;rw [hb];refine Oz (wpAny_newFunctionEnv_cells S.kind Yv λenv he s1 U=>?_);subst he;refine {G.keeps U.toInCall.keep,PySem.W.kla_codeExpr ?_};have I:Inv (bR CX0 cm P w K mg base [x] qual scope f (.ref c') A outer s H E) [] (start [x] [v]) H s1:=wg (us:=[u]) S z.hd F rfl (.cons r .nil) U;refine Pp (Zd (z.deeper _) [] s1 _ H Q I h) (λu' s' hs=>?_) λe s' hs=>hs;obtain ⟨v',H',J,rv,q⟩:=hs;exact ⟨v',H',J.os,J.bare,J.base,J.hok,rv,q⟩
def cH(z:Nat->Int):Nat->Nat
 | 0=>0
 | j+1=>if z (j+1)>z (cH z j) then j+1 else cH z j
def Fc(as:List Addr)(z:Nat->Int):Nat->Array Value->Prop
 | 0,its=>its = #[]
 | j+1,its=>∃a t,as[cH z j]?=some a/\its = #[.ref a,.int (z (cH z j)) t]
theorem GR(G:Nat->Int)(hc:X.calm=true)(hl:H l=some (.lst (as.map V.ref)))(Z:S≠I)(h0:0<as.length)(fI:aJ X Go H I)(fS:aJ X Go H S)(YB:∀(i:Nat) a,as[i]?=some a->∀(s:Ow)(ps:List (Addr×Obj)),Inv X (Go++ps) σ H s->OJ (OR X.prog X.w) X.A.in1 (call (.ref q) [.ref a]) (EP X (Go++ps) σ λv H'=>v = .int (G i)/\H'=H) (λ_ _=>False) s)(hR:∀a s',Inv X Go σ H s'->as[cH G (as.length-1)]?=some a->R (.ok (.ret (.ref a))) s'):
  ∀(r j:Nat)(s:Ow)(c:Nat)(its:Array Value),as.length-j=r->j<=as.length->Inv X Go σ H s->s.heap.IsListIter I l j->Fc as G j its->s.heap.get? S=some (T2 "list" its c) ->
   QT (OR X.prog X.w) X.A (.builtin "max.loop" {[.ref I,.ref q,.ref S],[]}) R s:=by
 have YX:(toString "max"++toString ".loop":String)="max.loop":=by decide
 have hh:X.Ok->X.A.in1.handled=none:=λok=>ok.hd hc;have O:∀{s:Ow}{h':Heap}{b:Addr}{t:Nat},aJ X Go H b->Inv X Go σ H s->(∀d o,d≠b->s.heap.get? d=some o->h'.get? d=some o)->Inv X Go σ H { s with heap:=h',toks:=t }:=λ{s h' b t} f I k=>I.turned k f.1 f.2.1 f.2.2.2.1 f.2.2.2.2.1 f.2.2.2.2.2;intro r
 induction r with
 | zero =>
  intro j s c its hr hj Iv YN hC hS;obtain ⟨vs,rv,p,hz⟩:=Iv.list (SqL.of (K:=X.K) hl);have lv:=rv.length;rw [OB] at lv;cases j with
  | zero=>lia
  | succ j =>
  have aF:j+1=as.length:=by lia
  obtain ⟨a,t,ha,rfl⟩:=hC;refine Q0 F.entry_max_loop ?_;rw [O0.under_plainId F.plain_max_loop _];show OJ _ X.A.in1 (Sq (.ref S)>>=_) _ _ _;refine we (Qh hS rfl ?_);show OJ _ X.A.in1 (tryCatch (Rn (.ref I)) _>>=_) _ _ _;refine we (Q8 (wpAny_pyNext_list_end (hh Iv.ok) YN p.isList (by simp;lia) λh' eb=>?_));have I1:Inv X Go σ H { s with heap:=h' }:=O (t:=s.toks) fI Iv eb;have YL:=eb S _ Z hS;show OJ _ X.A.in1 (TK S (λ_=>#[])>>=_) _ _ _;refine we (QX YL rfl (we (Rh (Oz ?_))));refine hR a _ (O (s:={ s with heap:=h' }) fS I1 λd o nd e=>(O5 _ _ (Pe nd)).trans e) ?_;rw [<- aF];exact ha
 | succ r ih =>
  intro j s c its hr hj Iv YN hC hS;obtain ⟨vs,rv,p,hz⟩:=Iv.list (SqL.of (K:=X.K) hl);have ZH:j<as.length:=by lia
  have W:as[j]?=some as[j]:=KE ZH;obtain ⟨u,hu,ru⟩:=rv.get (show (as.map V.ref)[j]?=some (V.ref as[j]) by rw [OV,W];rfl);cases ru;refine Q0 F.entry_max_loop ?_;rw [O0.under_plainId F.plain_max_loop _];show OJ _ X.A.in1 (Sq (.ref S)>>=_) _ _ _;refine we (Qh hS rfl ?_);show OJ _ X.A.in1 (tryCatch (Rn (.ref I)) _>>=_) _ _ _;refine we (Q8 (wpAny_pyNext_list_item YN p.isList (x:=.ref as[j]) (by simpa using hu) λh' Yw sb=>?_));have I1:Inv X Go σ H { s with heap:=h' }:=O (t:=s.toks) fI Iv λd o nd e=>(sb.2 d nd).trans e;have YL:h'.get? S=some (T2 "list" its c):=(sb.2 S Z).trans hS;obtain ⟨oI,ai,ar,U⟩:=id Yw;have I2:=I1.pinned (fp:=[S,I]) (λb hb=>(OH.mp hb).elim (λz=>by rw [z];exact fS) λz=>by rw [ON.mp z];exact fI) (λb hb=>by
   rcases OH.mp hb with rfl|hb
   .exact {_,YL,λ_=>nofun}
   .rw [ON.mp hb];exact {_,ai,λv z=>by rw [U] at z;cases z})
  have key:=YB j _ W _ _ I2;have back:∀{s2:Ow}{ps},ps=eL [S,I] h'->Inv X (Go++ps) σ H s2->Inv X Go σ H s2/\s2.heap.get? S=some (T2 "list" its c)/\s2.heap.IsListIter I l (j+1):=λ{s2 ps} e J=>by
   subst e;exact {J.q0,(J.pin (S,_) (OG _ (OG _ (c9 'z' YL)))).1,oI,(J.pin (I,oI) (OG _ (OG _ (c9 'z' ai)))).1,ar,U}
  cases j with
  | zero =>
   cases (show its = #[] from hC);show OJ _ X.A.in1 (tryCatch (Rx [.ref as[0]] (call (.ref q) [.ref as[0]])) _>>=_) _ _ _;refine we (Q8 (O9 (Pp key (λx s2 he=>?_) λ_ _ hF=>hF.elim)));obtain ⟨v,H',J,av,rfl,rfl⟩:=he;obtain ⟨t2,rfl⟩:=av;obtain ⟨J1,g1,g2⟩:=back rfl J;show OJ _ X.A.in1 (TK S (λ_=>#[.ref as[0],.int (G 0) t2])>>=_) _ _ _;refine we (QX g1 rfl ?_);rw [YX];exact Oz {QH F.plain_max_loop _,ih 1 _ _ _ 'l' 'l' (O fS J1 λd o nd e=>(O5 _ _ (Pe nd)).trans e) {oI,(O5 _ _ Z).trans (by obtain ⟨o2,e1,e2,e3⟩:=g2;exact (J.pin (I,oI) (OG _ (OG _ (c9 'z' ai)))).1),ar,U} {_,t2,W,rfl} (get?_update_seq g1 _)}
  | succ j =>
   obtain ⟨ab,tb,WV,rfl⟩:=hC;show OJ _ X.A.in1 (tryCatch (Rx [.ref as[j+1]] (call (.ref q) [.ref as[j+1]])) _>>=_) _ _ _;refine we (Q8 (O9 (Pp key (λx s2 he=>?_) λ_ _ hF=>hF.elim)));obtain ⟨v,H',J,av,rfl,rfl⟩:=he;obtain ⟨t2,rfl⟩:=av;obtain ⟨J1,g1,g2⟩:=back rfl J;have gI:=(J.pin (I,oI) (OG _ (OG _ (c9 'z' ai)))).1;show OJ _ X.A.in1 (tryCatch (Rx [.ref as[j+1],.int (G (j+1)) t2] (richCompare .Gt (.int (G (j+1)) t2) (.int (G (cH G j)) tb)>>=_)) _>>=_) _ _ _;refine we (Q8 (O9 (we (CmpOf.ints_gt (prog:=X.prog) (w:=X.w) (A:=X.A.in1) (P:=λi v=>∃t,v = .int (G i) t) G (λi v h=>h) (j+1) (cH G j) _ _ _ _ _ {t2,rfl} {tb,rfl} ?_))));refine we (O9 (QI ?_));refine we (Rh (Oz ?_));by_cases Xx:G (j+1)>G (cH G j)
   .simp only [Xx,decide_true,if_true];refine we (QX g1 rfl (we (Rh ?_)));rw [YX];exact Oz {QH F.plain_max_loop _,ih (j+1+1) _ _ _ 'l' 'l' (O fS J1 λd o nd e=>(O5 _ _ (Pe nd)).trans e) {oI,(O5 _ _ Z).trans gI,ar,U} {as[j+1],t2,by unfold cH;rw [if_pos Xx];exact W,by rw [show cH G (j+1)=j+1 from if_pos Xx]} (get?_update_seq g1 _)}
   .simp only [Xx,decide_false,Q5,if_false];refine we (Rh ?_);rw [YX];exact Oz {QH F.plain_max_loop _,ih (j+1+1) _ _ _ 'l' 'l' J1 g2 {ab,tb,by unfold cH;rw [if_neg Xx];exact WV,by rw [show cH G (j+1)=cH G j from if_neg Xx]} g1}
def fT(P:Addr)(pos:Pos)(qual:Str)(te:TE)(v:V)(H1:Hp)(Q:VK):Prop:=uR v λl=>∃(as:List Addr)(z:Nat->Int),H1 l=some (.lst (as.map V.ref))/\0<as.length/\bV pos qual H1 P /\
 ∀H2,gY H1 H2 P->bV pos qual H2 P->(∀(i:Nat) a,as[i]?=some a->te [some (.ref a)] H2 λv H'=>v = .int (z i)/\H'=H2)/\∀a,as[cH z (as.length-1)]?=some a->Q (.ref a) H2
theorem yi:fT P pos qual te (.ref l) H1 Q = ∃(as:List Addr)(z:Nat->Int),H1 l=some (.lst (as.map V.ref))/\0<as.length/\bV pos qual H1 P /\
 ∀H2,gY H1 H2 P->bV pos qual H2 P->(∀(i:Nat) a,as[i]?=some a->te [some (.ref a)] H2 λv H'=>v = .int (z i)/\H'=H2)/\∀a,as[cH z (as.length-1)]?=some a->Q (.ref a) H2:=sQ
def sr(P:Addr)(pos:Pos)(qual:Str)(te ta:TE):TE:=λσ H Q=>ta σ H λv H1=>fT P pos qual te v H1 Q
theorem Mj:sr P pos qual te ta σ H Q=ta σ H λv H1=>fT P pos qual te v H1 Q:=rfl
theorem Io{k:Nat}{p pos J kp:Pos}(LB:eV X.mg X.base X.env.code P)(hc:X.calm=true)(hr:zE cm (k+2) X.A)(hg:Gl X "max")(hm:X.mg "max"=none)(ha:PE X a ta)(X4:Ue Z1 X.env=([],[]))(Xi:RM scope X.env=pure [])(YF:∀(q:Str)(pm cd ct v:Value),S6 (kla_fn "<lambda>" q Z1 ZW scope [] pm cd ct) {[v],[]}=pure [(x,v)])(S:zw [x] [x] scope)(Zd:∀(A:O0)(outer:List Env)(s:Ow)(H:Hp)(E:XK)(f c':Addr),zE cm k (A.deeper (Ra (X.env.qual++"<lambda>") scope s.heap.objs.size f (.ref c')))->PE (bR CX0 cm X.prog X.w X.K X.mg X.base [x] (X.env.qual++"<lambda>") scope f (.ref c') A outer s H E) ZW te)(hp:aS a=true:=by rfl):
  PE X (.Call (.Name "max" p) [a] [{some (OA "key"),.Lambda Z1 ZW scope J,kp}] pos) (sr P J (X.env.qual++"<lambda>") te ta):=by
 intro Go s σ H Q I h;have YX:(toString "max"++toString ".loop":String)="max.loop":=by decide
 have hs:Pb [a] X.env=[(false,Qc a X.env)]:=eR hp;have hA:=fu ha fz (hs:=hs) pos Go s σ H (λys H1=>∃y,ys=[y]/\fT P J (X.env.qual++"<lambda>") te y H1 Q) I (by
  show ta σ H λx H1=>∃y,[x]=[y]/\fT P J (X.env.qual++"<lambda>") te y H1 Q;have e:(λ(x:V)(H1:Hp)=>∃y,[x]=[y]/\fT P J (X.env.qual++"<lambda>") te y H1 Q)=λv H1=>fT P J (X.env.qual++"<lambda>") te v H1 Q:=by
   funext x H1;apply propext;constructor
   .rintro ⟨y,e,h⟩;cases e;exact h
   .exact λh=>{x,rfl,h}
  rw [e];exact h)
 refine Qu (fQ I hg hm boot_max (wQ (by rw [hs];rfl) rfl ?_));rw [hs] at hA ⊢;refine evalArgs_kwB rfl (thn hA λus s1=>x5e λvs H1 I1 r1 q1=>kws_cons ?_);obtain ⟨y,rfl,l,rfl,as,kf,hl,h0,hT,q⟩:=q1;cases r1 with
 | cons r rr =>
  cases rr;cases r;refine sZ LB X4 Xi I1 hT λf c' Xv h2 tk H2 hsz WX hcd hf aF hL W fr=>kws_nil ?_;obtain ⟨ar,oc,ws,t,c1,c2,c3⟩:=fr;have ai:l≠P:=λz=>by
   rcases hT with hP|⟨_,_,_,_,hP,_⟩ <;> · rw [z,hP] at hl;cases hl
  have Yd:=hL _ _ ai hl;obtain ⟨q1,q2⟩:=q H2 hL aF;obtain ⟨its,rv,pl,hz⟩:=W.list (SqL.of (K:=X.K) Yd);have Ip:=W.pinned (fp:=[f]) (λb hb=>by rw [ON.mp hb];exact I1.UL WX ar) (λb hb=>by rw [ON.mp hb];exact {_,hf,λ_=>nofun});refine kmk_tree F.kind_max F.plain_max F.entry_max (kmk_max_key _ _) ?_;show OJ _ X.A.in1 (OS.Builtins.bindParams "max" ["key","default"] 0 {[],[(OA "key",.ref f)]}>>=_) _ _ _;refine we (Tn (show OS.Builtins.bindParams "max" ["key","default"] 0 {[],[(OA "key",.ref f)]}=pure [some (.ref f),none] from rfl) ?_);refine we (Oz ?_);refine we (Rg pl.isList ?_);refine we (Ts ?_ (Qs _));rw [YX];have hS:(h2.push { cls:=.type "list_iterator",data:=.fields #[.ref l,.int 0 0] }).objs.size=h2.objs.size+1:=So ..;have I3:=Ip.kept (h':=(h2.push { cls:=.type "list_iterator",data:=.fields #[.ref l,.int 0 0] }).push (T2 "list" #[] 0)) (t':=tk) λb u e=>Oy _ (Oy _ e);refine Oz {QH F.plain_max_loop _,GR (as:=as) (Go:=Go++eL [f] h2) (σ:=σ) (H:=H2) (l:=l) kf hc Yd (by show _≠h2.objs.size;rw [hS];exact Rp (Ri _)) h0 (Ip.UL (Ox _) (W.hok.fresh (Ox _))) (Ip.UL (by rw [hS];exact Se _) (W.hok.fresh (by rw [hS];exact Se _))) (λi a Z s5 ps O=>?_) (λa s5 O av=>{.ref a,H2,O.q0,rfl,q2 a av}) _ 0 _ _ _ rfl (Qs _) I3 {_,Oy _ (OM _ rfl),rfl,rfl} rfl (OM _ rfl)};have ho:=(O.pin (f,_) (OG _ (Pz _ (OG _ (c9 'z' hf))))).1;have ab:=(O.hok c' _ c1).1;have G:=O.a3;refine SX (QS (Lu (k:=k) (E:=λ_ _ _=>False) (Q:=λv H'=>v = .int (kf i)/\H'=H2) hr.in1 ⟨G.frames,G.hdk,G.mod,G.bs,G.aF,G.UF,G.aY,G.hok,G.bare⟩ ho {c',oc,ws,t,rfl,ab,c2,c3} S (YF _ _ _ _ _) (v:=.ref a) rfl (Zd _ _ _ _ _ _ _) (q1 i a Z)) λr s6 U=>?_);cases r with
  | error e=>exact U
  | ok fl =>
   cases fl with
   | ret u=>exact O.after U
   | next=>exact False.elim U
   | brk=>exact False.elim U
   | cont=>exact False.elim U
theorem Iz{k:Nat}{p pos G kp:Pos}(LB:eV X.mg X.base X.env.code P)(Z:X.calm=true)(hr:zE cm (k+2) X.A)(hg:Gl X "max")(hm:X.mg "max"=none)(U:W (PE X a ta))(X4:Ue F X.env=([],[]))(Xi:RM scope X.env=pure [])(YF:∀(q:Str)(pm cd ct v:Value),S6 (kla_fn "<lambda>" q F z scope [] pm cd ct) {[v],[]}=pure [(x,v)])(S:zw [x] [x] scope)(J:∀(A:O0)(outer:List Env)(s:Ow)(H:Hp)(E:XK)(f c':Addr),zE cm k (A.deeper (Ra (X.env.qual++"<lambda>") scope s.heap.objs.size f (.ref c')))->W (PE (bR CX0 cm X.prog X.w X.K X.mg X.base [x] (X.env.qual++"<lambda>") scope f (.ref c') A outer s H E) z te))(O:aS a=true:=by rfl):
  W (PE X (.Call (.Name "max" p) [a] [{some (OA "key"),.Lambda F z scope G,kp}] pos) (sr P G (X.env.qual++"<lambda>") te ta)):={Io LB Z hr hg hm U.h X4 Xi YF S (λA o s H E f c r=>(J A o s H E f c r).h) O}
theorem DB{W:Pos}{tk tv:TE}(av:X.N.Nodup)(aF:X.N[i0]?=some z)(O:Loc X.env.scope z)(hc:c=true->X.calm=true)(L:zY X sc N' ix)(hi:PIc c X tg iter wi)(hg:∀Go C fp s H,PG (zA X sc N' Go C fp s H) tg g)(ht:∀Go C fp s H,PTs (zA X sc N' Go C fp s H) F tt)(hk:∀Go C fp s H,PE (zA X sc N' Go C fp s H) J tk)(hv:∀Go C fp s H,PE (zA X sc N' Go C fp s H) G tv)(hs:∀x,Pj iter X.env x=pure x:=by intro _;rfl)(S:SR (.DictComp J G [{tg,iter,F,0}] sc pos) (some (.Name z Zt)) W.line X.env=pure true:=by rfl)(ar:X.fn z=true\/X.env.scope.names.lookup z=some .local:=by first|exact .inl rfl|exact .inr rfl|assumption):
  PS X (.Assign [.Name z Zt] (.DictComp J G [{tg,iter,F,0}] sc pos) W) (gz (tDC ix wi g tt tk tv) (cN i0)):=by
 intro Go s σ H Z I h;rw [exec_Assign_Name_used z Zt _ W S];refine we (Qi (we ?_));rw [arm_evalThenUse_DictComp];show OJ (OR X.prog X.w) X.A (Sz (.DictComp J G [{tg,iter,F,0}] sc pos) sc X.env (SN [{tg,iter,F,0}] pos) newDict (Ud [{tg,iter,F,0}]) (firstIter [{tg,iter,F,0}] X.env) (some (S8 (.Name z Zt) X.env))>>=λ_=>pure ()) _ _ _;refine we (w6 hc L hi hg ht hk hv hs I h λC D oC H' s5 m5 IX ns tu q=>?_);refine thn (nQ av aF O ar (Go++[(C,oC)]) s5 σ H' (.ref D) (.ref D) Z.nx IX rfl q) λ_ s6=>x4e λai H6 U q6=>?_;obtain ⟨p6,ab,_⟩:=U.pin (C,oC) (OG _ (OG _ (ON.mpr rfl)));exact {m5,ns p6,λh' Xo=>Oz (Oz {ai,H6,tu (U.xy λp hp=>U.pin p (OG _ (Pz _ hp))) ab Xo,q6})}
theorem Jh{tk tv:TE}(ab:X.N.Nodup)(U:X.N[i0]?=some z)(F:Loc X.env.scope z)(hc:c=true->X.calm=true)(L:zY X sc N' ix)(hi:W (PIc c X tg iter wi))(hg:∀Go C fp s H,W (PG (zA X sc N' Go C fp s H) tg g))(ht:∀Go C fp s H,W (PTs (zA X sc N' Go C fp s H) J tt))(hk:∀Go C fp s H,W (PE (zA X sc N' Go C fp s H) S tk))(hv:∀Go C fp s H,W (PE (zA X sc N' Go C fp s H) Z tv))(hs:∀x,Pj iter X.env x=pure x:=by intro _;rfl)(G:SR (.DictComp S Z [{tg,iter,J,0}] sc pos) (some (.Name z Zt)) YA.line X.env=pure true:=by rfl)(O:X.fn z=true\/X.env.scope.names.lookup z=some .local:=by first|exact .inl rfl|exact .inr rfl|assumption):
  W (PS X (.Assign [.Name z Zt] (.DictComp S Z [{tg,iter,J,0}] sc pos) YA) (gz (tDC ix wi g tt tk tv) (cN i0))) :=
 {DB ab U F hc L hi.h (λa b c d e=>(hg a b c d e).h) (λa b c d e=>(ht a b c d e).h) (λa b c d e=>(hk a b c d e).h) (λa b c d e=>(hv a b c d e).h) hs G O}
def EqT(H:Hp)(d d':Addr):Prop:=∃kvs z,H d=some (.dK (sk kvs))/\H d'=some (.dK (sk z))/\kvs.length=z.length/\∀n v,(n,v)∈kvs->∃F,look z n=some F/\∃(a b:Addr)(l:List Int),v = .ref a/\F = .ref b/\H a=some (.lst (l.map V.int))/\H b=some (.lst (l.map V.int))
section
variable {X:Cx}{Go:List (Addr×Obj)}{σ:St}{H:Hp}{s:Ow}{A:O0}
theorem vN(I:Inv X Go σ H s)(Z:KV (sk Yk) F)(hu:A.in1.units+64<cLine):∀{kvs:List (Str×V)}{vs:List (Key×Value)},KV (sk kvs) vs->(∀n v,(n,v)∈kvs->∃G,look Yk n=some G/\∃(a b:Addr)(l:List Int),v = .ref a/\G = .ref b/\H a=some (.lst (l.map V.int))/\H b=some (.lst (l.map V.int)))->PySem.W.KeqHits A.in1 s F vs true
 | [],vs,r,_=>by cases r;exact .nil
 | (n,v)::kvs,vs,r,h=>by
  cases r with
  | @cons _ q _ vs S r =>
   obtain ⟨k,u⟩:=q;obtain ⟨e,J⟩:=S;have e:(Sum.inr n:Key)=k:=e;subst e;obtain ⟨G,U,a,b,l,rfl,rfl,ha,hb⟩:=h n v (OT ..);have hv:=Z.val (.inr n);rw [dR,U] at hv;cases O:T1 F (.inr n) with
   | none=>rw [O] at hv;exact hv.elim
   | some y =>
    rw [O] at hv;have J:u = .ref a:=J;have hv:y = .ref b:=hv;subst J hv;obtain ⟨is,S,p1,_⟩:=I.list (SqL.of (K:=X.K) ha);obtain ⟨js,r2,p2,_⟩:=I.list (SqL.of (K:=X.K) hb);have z:=PySem.W.keq_ints (A:=A) p1.isList (oK S) p2.isList (oK r2) hu;rw [decide_eq_true rfl] at z;exact .hit (e:=true) (b:=true) O z (vN I Z hu r λn v hm=>h n v (OI _ hm))
def va:R2:=λx y H Q=>∃d d',x = .ref d/\y = .ref d'/\EqT H d d'/\Q (.bl false) H
theorem CU{d d':Addr}{H:Hp}:va (.ref d) (.ref d') H Q=(EqT H d d'/\Q (.bl false) H):=by
 apply propext;constructor
 .rintro ⟨G,b',z,F,h⟩;cases z;cases F;exact h
 .exact λh=>{_,_,rfl,rfl,h}
theorem zE.cA{k:Nat}{A:O0}(r:zE c k A):A.units+100<cLine:=by have:=r.un;lia
theorem Kp(hu:X.A.units+100<cLine):OpR X (P8 .NotEq) va:=by
 intro Go s σ H x y v u Q I rx ry h;obtain ⟨d,d',rfl,rfl,⟨kvs,Yk,Z,e2,hl,h⟩,q⟩:=h;cases rx;cases ry;obtain ⟨z,hd,vs,S,dd⟩:=c8 I.hok (.inl Z);obtain ⟨z2,J,G,U,F⟩:=c8 I.hok (.inl e2);have ll:vs.length=G.length:=by
  rw [<- S.length,<- U.length];unfold sk;rw [OB,OB];exact hl
 have O:∀n,n<=70->X.A.units+n<cLine:=λn hn=>PV (Nat.add_le_add_left (PX hn 'd') _) hu;refine PySem.W.keq_ne (r:=true) hd J dd F (O 0 'd') (λ_=>vN I U (O 65 'd') S h) {.bl false,H,I,?_,q};rw [ll];simp;rfl
end
section
variable {X:Cx}
def tD1(z:Str)(tv:TE):TE:=λσ H Q=>∀p,H p=none->tv σ (upd H p (.dK [])) λy H2=>H2 p=some (.dK [])/\Q (.ref p) (upd H2 p (.dK (sk [(z,y)])))
theorem Hj{tv:TE}:tD1 z tv σ H Q = ∀p,H p=none->tv σ (upd H p (.dK [])) λy H2=>H2 p=some (.dK [])/\Q (.ref p) (upd H2 p (.dK (sk [(z,y)]))):=rfl
theorem Dn{k v:O3}{tv:TE}(O:PE X k (tC (.str z)))(hv:PE X v tv):PE X (.Dict [some k] [v] pos) (tD1 z tv):=by
 intro Go s σ H Q I h;refine NT (CC O hv HS) rfl rfl 'z' (show 1<=15 by decide) Go s σ H Q I λp J=>?_;have e:(λ(y:V)(H2:Hp)=>H2 p=some (.dK [])/\Q (.ref p) (upd H2 p (.dK (sk [(z,y)]))))=λy H2=>(H2 p=some (.dK [])/\∃kvs:List (Key×V),[(V.str z,y)]=kvs.map (λF=>(kV F.1,F.2))/\kvs.length<=15/\Q (.ref p) (upd H2 p (.dK (hV [] kvs)))):=by
  funext y H2;apply propext;constructor
  .exact λ⟨a,b⟩=>{a,[(.inr z,y)],rfl,(show 1<=15 by decide),b}
  .rintro ⟨a,kvs,e,_,b⟩;refine {a,?_};cases kvs with
   | nil=>exact absurd (congrArg T8 e) 'z'
   | cons q kvs =>
    cases kvs with
    | cons _ _=>exact absurd (congrArg T8 e) 'z'
    | nil =>
     obtain ⟨k,v⟩:=q;injection e with e _
     injection e with G e2
     subst e2;cases k with
     | inl n=>cases G
     | inr n=>cases G;exact b
 have:=h p J;rw [e] at this;exact this
theorem Bs{k v:O3}{tv:TE}(F:W (PE X k (tC (.str z))))(hv:W (PE X v tv)):W (PE X (.Dict [some k] [v] pos) (tD1 z tv)):={Dn F.h hv.h}
end
end L2
namespace K44
open PySem PySem.Spec PyProof.Rows L2
open PySem.W (Frag OpenLaw WalkO findIn mroIn)
local macro_rules | `(tactic| erw [$ls,*])=>do
 let l<-("f9 tC uQ tOr A6 tIf uJ AY wV AH yS cN CH BK gz sY ipI tOp tUn dr kH A7 x9 yJ mx jV kK tCB qT Aw xK oq vB LP jX y7 rJ AD Ey AM Nt yM wG ui wo Hd CY Ml qU Mt Md Nz Gb CO DD Fb Gh Et FA KI sQ Nr HR IJ AK BF Hk Lg Di Ck J9 Cv KA MW cz bind_some Option.bind_none Option.join_some kM and_assoc exists_and_left exists_and_right exists_eq_left' exists_eq_left exists_eq exists_eq' exists_eq_right exists_eq_right' and_true true_and and_false false_and or_false false_or exists_false exists_const Pn.injEq V.int.injEq V.str.injEq V.ref.injEq V.bl.injEq V.ty.injEq HO.lst.injEq HO.tup.injEq HO.ins.injEq List.cons.injEq reduceCtorEq reduceIte Q5 List.getElem?_cons_zero Sa List.set_cons_zero List.set_cons_succ T7 Tp Qe PQ S3 L2.start EW Oh Qk Nat.reduceSub Nat.reduceAdd Lm Kv A5 Og Js Dt Hg NN BG NH yp AC tSl Bc MN NV Ax yl ua x6 pY mq eI IY FH IK G6 Hy Kr HI KL GV IU Hm tM xG IR Cz GZ FD vP tN Km LL DE Ge Nc NC DZ J0 De Hi Ji IV Ll MJ NR Dz KR HJ NB LY G8 NG Iq BX JS BE La N0 GE Hv MO FN CN xA Bl Mp Gw Ky Nn Ds Hr FR Dy HQ HN HG NO Gj Do CP Gd MH Fi Cw LC Cy gW Bt Jm vn yR yN lJ m6 wb uH x8 yt Nd HF Ce Ke DW Nm Jf JZ JX JR IB NW Kg KM NK Mj yi CU Hj".splitOn " ").toArray.mapM fun s=>`(Lean.Parser.Tactic.simpLemma|$(Lean.mkIdent s.toName):ident)
 let k<-ls.getElems.mapM fun s=>match s with
  | `(Lean.Parser.Tactic.rwRule|$t:term)=>`(Lean.Parser.Tactic.simpLemma|$t:term)
  | _=>Lean.Macro.throwUnsupported
 let l:=l++k
 `(tactic| try simp only [$l,*])
local macro_rules | `(tactic| ac_rfl)=>`(tactic| erw [])
def top(i:Nat):Stmt:=PySem.Challenge.pw_cleanrows_k44_whole_groups_or_nothing.main.body.getD i (.Pass {0,0,0,0})
structure zj where
 UV:Addr
 UT:Addr
 bN:Addr
 Full:Addr
 a5:Addr
 bM:Addr
 a7:Addr
 ay:Addr
 a6:Addr
 UU:Addr
 bL:Addr
 Words:Addr
 qv:Addr
 State:Addr
 qx:Addr
 Da:Addr
 vl:Addr
 bo:Addr
 Uz:Addr
 UA:Addr
 Uv:Addr
 Uw:Addr
 Q2:Addr
structure Txt(w:O1)(K:Frag)(mg:Str->Option Value)(A:zj):Prop where
 aU:mg "PARTS"=some (.ref A.bo)
 a4:kj w K A.bo [(Wi,A.Uz),("cut",A.UA),("hold",A.Uv),("free",A.Uw),("carry",A.Q2)]
 ar:∀H:Hp,SqT K H A.Uz [.str "number",.str "number",.str "end",.str "name",.str "number",.str "word"]
 au:∀H:Hp,SqT K H A.UA [.str "number",.str "name",.str "number"]
 Vu:∀H:Hp,SqT K H A.Uv [.str "number",.str "name"]
 Vv:∀H:Hp,SqT K H A.Uw [.str "number",.str "name"]
 UW:∀H:Hp,SqT K H A.Q2 [.str "number",.str "number",.str "word"]
 bj:mg "abs"=none
 b7:mg "all"=none
 aS:mg "bool"=none
 aQ:mg "dict"=none
 aP:mg "divmod"=none
 av:mg "enumerate"=none
 aO:mg "int"=none
 J7:mg "isinstance"=none
 tj:mg "len"=none
 aN:mg "list"=none
 aM:mg "max"=none
 bc:mg "min"=none
 b6:mg "ord"=none
 ro:mg "range"=none
 Uu:mg "sorted"=none
 Ut:mg "str"=none
 a0:mg "tuple"=none
 b5:mg "zip"=none
 U1:∃u,mg "FIGURES"=some u/\zo (.str "0123456789") u
 U0:∃u,mg "LETTERS"=some u/\zo (.str "abcdefghijklmnopqrstuvwxyz") u
 UR:∃u,mg "MOST_FIGURES"=some u/\zo (.int 18) u
 UQ:∃u,mg "MOST_LETTERS"=some u/\zo (.int 6) u
 Vx:∃u,mg "MOST_SIGNS"=some u/\zo (.int 20) u
 aE:∃u,mg "MODULUS"=some u/\zo (.int 65521) u
 UI:∃u,mg "FIRST_WORD"=some u/\zo (.str "mark") u
 UH:∃u,mg "LEAST_STRETCHES"=some u/\zo (.int 3) u
 UN:∃u,mg "MOST_STRETCHES"=some u/\zo (.int 16) u
 US:∃u,mg "LEAST_PLACES"=some u/\zo (.int 2) u
 UX:∃u,mg "MOST_PLACES"=some u/\zo (.int 32) u
 aX:mg "CleanError"=some (.ref A.UV)
 UG:mg "NoRow"=some (.ref A.UT)
 bU:mg "NoDisk"=some (.ref A.bN)
 cp:mg "Full"=some (.ref A.Full)
 bA:mg "Stopped"=some (.ref A.a5)
 bS:mg "NoFile"=some (.ref A.bM)
 bE:mg "NoPlace"=some (.ref A.a7)
 aW:mg "HeldAlready"=some (.ref A.ay)
 bD:mg "NotHeld"=some (.ref A.a6)
 UZ:mg "NoMark"=some (.ref A.UU)
 bR:mg "NoPart"=some (.ref A.bL)
 b8:mg "Words"=some (.ref A.Words)
 cb:mg "Files"=some (.ref A.qv)
 b9:mg "State"=some (.ref A.State)
 cq:mg "Disk"=some (.ref A.qx)
 aZ:cO K A.UV
 Uy:cO K A.UT
 UM:cO K A.UU
 aT:mroIn K A.UT (.ref A.UT)=some true
 aB:mroIn K A.UU (.ref A.UU)=some true
 qr:Cls K A.Words
 yz:bu K A.Words "taken"
 L0:bu K A.Words "words"
 pw:Cls K A.qv
 qb:bu K A.qv "births"
 wh:bu K A.qv "kept"
 qs:Cls K A.State
 L4:bu K A.State "next_mark"
 Pv:bu K A.State "next_row"
 L1:bu K A.State "own_files"
 z3:bu K A.State "spot_of"
 pL:Cls K A.qx
 z4:bu K A.qx "at_sides"
 Ux:bu K A.qx "counted"
 vx:bu K A.qx "has_stopped"
 Hx:bu K A.qx "left"
 UC:bu K A.qx "width"
 rn:bu K A.qx "written"
theorem B9:(("taken":Str) == "words")=false:=by decide +kernel
theorem BY:(("words":Str) == "taken")=false:=by decide +kernel
theorem xv:(("words":Str)="taken")=False:=by simpa using BY
theorem Fx:(("births":Str) == "kept")=false:=by decide +kernel
theorem EG:(("kept":Str) == "births")=false:=by decide +kernel
theorem xY:(("births":Str)="kept")=False:=by simpa using Fx
theorem LN:(("next_mark":Str) == "next_row")=false:=by decide +kernel
theorem Gp:(("next_mark":Str) == "own_files")=false:=by decide +kernel
theorem Jd:(("next_mark":Str) == "spot_of")=false:=by decide +kernel
theorem Ie:(("next_row":Str) == "next_mark")=false:=by decide +kernel
theorem Nw:(("next_row":Str) == "own_files")=false:=by decide +kernel
theorem Ez:(("next_row":Str) == "spot_of")=false:=by decide +kernel
theorem Me:(("own_files":Str) == "next_mark")=false:=by decide +kernel
theorem DO:(("own_files":Str) == "next_row")=false:=by decide +kernel
theorem Mu:(("own_files":Str) == "spot_of")=false:=by decide +kernel
theorem Gf:(("spot_of":Str) == "next_mark")=false:=by decide +kernel
theorem FZ:(("spot_of":Str) == "next_row")=false:=by decide +kernel
theorem NS:(("spot_of":Str) == "own_files")=false:=by decide +kernel
theorem Mi:((Wq:Str) == "next_mark")=false:=by decide +kernel
theorem HZ:((Wq:Str) == "next_row")=false:=by decide +kernel
theorem Oi:((Wq:Str) == "own_files")=false:=by decide +kernel
theorem DF:((Wq:Str) == "spot_of")=false:=by decide +kernel
theorem NL:((Wc:Str) == "next_mark")=false:=by decide +kernel
theorem B0:((Wc:Str) == "next_row")=false:=by decide +kernel
theorem MP:((Wc:Str) == "own_files")=false:=by decide +kernel
theorem Lv:((Wc:Str) == "spot_of")=false:=by decide +kernel
theorem Dj:((Wn:Str) == "next_mark")=false:=by decide +kernel
theorem Bp:((Wn:Str) == "next_row")=false:=by decide +kernel
theorem Ig:((Wn:Str) == "own_files")=false:=by decide +kernel
theorem EN:((Wn:Str) == "spot_of")=false:=by decide +kernel
theorem MU:((Wp:Str) == "next_mark")=false:=by decide +kernel
theorem Cd:((Wp:Str) == "next_row")=false:=by decide +kernel
theorem Ma:((Wp:Str) == "own_files")=false:=by decide +kernel
theorem G4:((Wp:Str) == "spot_of")=false:=by decide +kernel
theorem ET:(("next_row":Str)="next_mark")=False:=by simpa using Ie
theorem Kw:(("own_files":Str)="next_mark")=False:=by simpa using Me
theorem A8:(("own_files":Str)="next_row")=False:=by simpa using DO
theorem mX:(("own_files":Str)="spot_of")=False:=by simpa using Mu
theorem IC:(("spot_of":Str)="next_mark")=False:=by simpa using Gf
theorem xU:(("spot_of":Str)="next_row")=False:=by simpa using FZ
def dH:Nat->List Nat->Nat
 | _,[]=>0
 | k,c::l=>c*k+dH (k+1) l
def cb(z:Str):Int:=((dH 1 (sg z) % 65521:Nat):Int)
def cM(z:Str):Str:=z++(toString (cb z):Str)++";"
def aZ(z y:Str)(m:Int):Bool:=decide (1<=(z.length:Int))&&decide ((z.length:Int)<=m)&&(sg z).all λc=>(sg y).contains c
def FIG:Str:="0123456789"
def LET:Str:="abcdefghijklmnopqrstuvwxyz"
def cw(z:Str):Bool:=aZ z FIG 18&&(decide (z="0") || !decide (tx ((sg z).take 1)="0"))
def bB(z:Str):Bool:=aZ z LET 6
def dh(z:Str):Bool:=aZ z (LET++FIG) 20
def bA(k z:Str):Option V :=
 if k="number"/\cw z=true then some (.int ((Sj z).getD 0))
 else if k="end"/\(z="0"\/z="1") then some (.bl (decide (z="1")))
 else if k="name"/\bB z=true then some (.str z)
 else if k="word"/\dh z=true then some (.str z)
 else none
def gX(z:Str):Option (List Str) :=
 if z=Wi then some Wz
 else if z="cut" then some ["number","name","number"]
 else if z="hold" then some ["number","name"]
 else if z="free" then some ["number","name"]
 else if z="carry" then some ["number","number","word"]
 else none
def bz:List Str->List Str->Option (List V)
 | k::ks,z::zs=>(bA k z).bind λv=>(bz ks zs).map (v::·)
 | _,_=>some []
def fg(ws:List Str):Option (List V):=match ws with
 | []=>none
 | w::zs=>(gX w).bind λks=>if zs.length=ks.length then (bz ks zs).map (.str w::·) else none
def cU(z:Str):Str:=P3 z none (some (RY z (c1 32)+1))
def dC(z:Str):Option Str:=if z=cM (cU z) then some (cU z) else none
def br(z:Str):Option (List V):=(dC z).bind λb=>fg (Pu (P3 b none (some (-1))) (c1 32))
def aR:V->Str
 | .bl b=>if b then "1" else "0"
 | .int i=>toString i
 | .str z=>z
 | _=>""
inductive dD:V->Prop
 | bl (b:Bool):dD (.bl b)
 | int (i:Int):0<=i->i<10 ^ 18->dD (.int i)
 | str (z:Str):asc z=true->z.length<=100->dD (.str z)
def aa(xs:List V):List Nat:=(xs.map λv=>sg (aR v)++[32]).flatten
def aj(xs:List V):Str:=cM (tx (aa xs))
def kN:Sp:=λvs H Q _=>∃z y m,vs=[.str z,.str y,.int m]/\asc z=true/\z.length<=100000/\∀H',zi H H'->Q (.bl (aZ z y m)) H'
def fH(p:Str->Bool):Sp:=λvs H Q _=>∃z,vs=[.str z]/\asc z=true/\z.length<=100000/\∀H',zi H H'->Q (.bl (p z)) H'
def yI:Sp:=λvs H Q _=>∃z,vs=[.str z]/\asc z=true/\z.length<=100000/\∀H',zi H H'->Q (.int (cb z)) H'
def iX:Sp:=λvs H Q _=>∃z,vs=[.str z]/\asc z=true/\z.length<=100000/\∀H',zi H H'->Q (.str (cM z)) H'
def jS(o:Option Str):V:=match o with|some b=>.str b|none=>.non
def pd:Sp:=λvs H Q _=>(∃z,vs=[.str z]/\asc z=true/\z.length<=100000/\∀H',zi H H'->Q (jS (dC z)) H')\/vs=[.non]/\Q .non H
def sJ:Sp:=λvs H Q _=>∃v,vs=[v]/\dD v/\Q (.str (aR v)) H
def pF:Sp:=λvs H Q _=>∃a xs,vs=[.ref a]/\(H a=some (.lst xs)\/H a=some (.tup xs))/\xs.length<=10/\(∀v∈xs,dD v)/\∀H',zi H H'->Q (.str (aj xs)) H'
def wI(A:zj):Sp:=λvs H Q E=>∃k z,vs=[.str k,.str z]/\asc z=true/\z.length<=100000/\∀H',zi H H'->(∀v,bA k z=some v->Q v H')/\(bA k z=none->E (.ref A.UT) none H')
def Ai(A:zj):Sp:=λvs H Q E=>∃a ws,vs=[.ref a]/\H a=some (.lst (ws.map V.str))/\ws≠[]/\ws.length<=100001/\(∀z∈ws,asc z=true/\z.length<=100000) /\
 (∀xs,fg ws=some xs->∀p H',zi H H'->H' p=some (.tup xs)->Q (.ref p) H')/\(fg ws=none->∀H',zi H H'->E (.ref A.UT) none H')
def yj(A:zj):Sp:=λvs H Q E=>∃z,vs=[.str z]/\asc z=true/\z.length<=100000 /\
 (∀xs,br z=some xs->∀p H',zi H H'->H' p=some (.tup xs)->Q (.ref p) H')/\(br z=none->∀H',zi H H'->E (.ref A.UT) none H')
theorem aQ(h:n<=1000000):n<=sizeLine:=PX h 'd'
theorem aB(h:n<=1000000):n<sizeLine:=PV h 'd'
abbrev j7:Stmt:=top 20
abbrev nE:Stmt:=top 21
abbrev oV:Stmt:=top 22
abbrev pB:Stmt:=top 23
section
variable {P:OL}{w:O1}{K:Frag}{mg:Str->Option Value}{base:Heap}{A:zj}
structure JG(H:Hp)(z y:Str)(i:Nat)(τ:L2.St)(ys:List V)(H':Hp):Prop where
 ex:∃t,τ=[t,some (V.str y)]
 ys:ys=(((sg z).take i).map λc=>(sg y).contains c).map V.bl
 same:H'=H
theorem Of:zw XW XW (zk j7):=fsc
theorem MD:bq { kind:=.function,names:=[(OA ".0",.local),(OA "sign",.local),(OA "signs",.free)],isGenerator:=false,isCoroutine:=false,more:=[] } (zk j7).names XW ["sign","signs"] [none,some 1]=true:=by decide +kernel
theorem E5:(["sign","signs"]:List Str).Nodup:=by decide +kernel
theorem MG(F:Fun K Wb Wb j7 f fd)(T:Txt w K mg A):zp P w K mg base CX0 true 1 f fd XW kN:=by
 refine F.o Of λZ0 Ar outer s H vs Q E S h=>?_;obtain ⟨z,y,m,rfl,J,hz,q⟩:=h;have U:_<cLine:=Px (zT S);refine {_,(W.h (zh (zx (anD (ji (clE (xE (oI0 iQ) (oI0 iQ) zq (zQ cu rfl T.tj Pi (zc (zb 0) zd)) (zb 2))) (jy (zQ (Fl rfl) rfl T.b7 boot_all (zc (cX (λ_=>rfl) (zY.of MD) (Gr (zb 0)) (λ_ _ _ _ _=>(zC (i:=0) E5 rfl (OO rfl))) (λ_ _ _ _ _=>bW) (λ_ _ _ _ _=>(eA (Am U) (zb 0) (zb 1) rfl))) zd)))))))),?_};erw [aQ (PX hz 'd')];refine aY (λh1=>aY (λh2=>?_) λh2=>?_) λh1=>?_
 .refine {J,aN.str (JG H z y) (λi τ ys H' I=>?_) {{_,rfl},'z',rfl} ?_ ?_}
  .rw [I.ys,OB,OB,O8];exact aB (by rw [zV];lia)
  .intro N i c τ ys H' O I hN;obtain ⟨t,rfl⟩:=I.ex;ac_rfl;rw [DY];have Z:(sg z)[i]?=some c:=by simpa [sg] using O
   exact hN _ _ _ {{_,rfl},by rw [I.ys,O6,Z];simp,I.same}
  .intro τ ys H' I p H2 G;ac_rfl;refine {_,by rw [G.at_,I.ys],?_};have hs:zi H H2:=by have:=G.same;rw [I.same] at this;exact this
   have e:aZ z y m=(((sg z).take z.cps.size).map λc=>(sg y).contains c).all id:=by
    unfold aZ;rw [h1,h2,OQ (by rw [zV];exact Ox _),List.all_map];rfl
   rw [<- e];exact q H2 hs
 .have e:aZ z y m=false:=by unfold aZ;rw [Ry.mpr h2];simp
  rw [<- e];exact q H (zi.refl _)
 .have e:aZ z y m=false:=by unfold aZ;rw [Ry.mpr h1];simp
  rw [<- e];exact q H (zi.refl _)
theorem Ei:zw X6 X6 (zk oV):=fsc
theorem B4(F:Fun K "is_name" "is_name" oV f fd)(T:Txt w K mg A)(J:GF P w K mg base true 1 Wb XW kN):zp P w K mg base CX0 true 2 f fd X6 (fH bB):=by
 refine F.o Ei λS U outer s H vs Q E O h=>?_;obtain ⟨z,rfl,G,hz,q⟩:=h;refine {_,(W.h (zh (zx (caD (zB J O rfl (clP (zc (zb 0) (zc (cL rfl T.U0) (zc (cL rfl T.UQ) zd))))))))),?_};ac_rfl;exact {z,_,_,rfl,G,hz,q}
theorem Jz:zw X6 X6 (zk pB):=fsc
theorem JO(F:Fun K "is_word" "is_word" pB f fd)(T:Txt w K mg A)(J:GF P w K mg base true 1 Wb XW kN):zp P w K mg base CX0 true 2 f fd X6 (fH dh):=by
 refine F.o Jz λS U outer s H vs Q E O h=>?_;obtain ⟨z,rfl,G,hz,q⟩:=h;refine {_,(W.h (zh (zx (caD (zB J O rfl (clP (zc (zb 0) (zc (zJ aX (cL rfl T.U0) (cL rfl T.U1)) (zc (cL rfl T.Vx) zd))))))))),?_};ac_rfl;exact {'d',z,_,_,rfl,G,hz,q}
theorem L8:zw X6 X6 (zk nE):=fsc
theorem ED(F:Fun K We We nE f fd)(T:Txt w K mg A)(S:GF P w K mg base true 1 Wb XW kN):zp P w K mg base CX0 true 2 f fd X6 (fH cw):=by
 refine F.o L8 λZ Ar outer s H vs Q E J h=>?_;obtain ⟨z,rfl,O,hz,q⟩:=h;have G:_<cLine:=Px (zT J);refine {_,(W.h (zg (zM (eE (bE (caD (zB S J rfl (clP (zc (zb 0) (zc (cL rfl T.U1) (zc (cL rfl T.UR) zd))))))))
   (zh (zx eG))
   zR)
   (zh (zx (B6 (eA (oE (aU G)) (zb 0) zF (zK _)) (jy (eA (oE (eO G)) (zL zX (zb 0) zq (λ_ _=>rfl)) zF (zK _)))))))),?_}
 ac_rfl;refine {z,_,_,rfl,O,hz,λH1 s1=>?_};erw [aQ (PX hz 'd')];refine aY (λh1=>?_) λh1=>?_
 .have e:cw z=false:=by
   unfold cw FIG;rw [show aZ z "0123456789" 18=false by simpa using h1];rfl
  rw [<- e];exact q H1 s1
 .have h1:aZ z "0123456789" 18=true:=by simpa using h1
  refine aY (λh2=>?_) λh2=>?_
  .have e:cw z=true:=by
    unfold cw FIG;rw [h1,h2];rfl
   rw [<- e];exact q H1 s1
  .have hl:0<(sg z).length:=by
    rw [zV];unfold aZ at h1;rw [Pm,Pm,decide_eq_true_eq] at h1;lia
   have U:(sg z).take 1=[(sg z)[0]]:=by
    generalize sg z=l at hl;cases l with
    | nil=>cases hl
    | cons x l=>rfl
   refine {(sg z)[0],ee (xs:=sg z) (j:=0) (KE hl),?_};have e:cw z = !decide (({ cps:=#[(sg z)[0]] }:Str)="0"):=by
    unfold cw FIG;rw [h1,Ry.mpr h2,U];rfl
   rw [<- e];exact q H1 s1
abbrev rB:Stmt:=top 33
abbrev kI:Stmt:=top 32
abbrev oY:Stmt:=top 29
abbrev p8:Stmt:=top 30
abbrev nA:Stmt:=top 31
theorem yo:∀(k:Nat)(a b:List Nat),dH k (a++b)=dH k a+dH (k+a.length) b
 | k,[],b=>by simp [dH]
 | k,c::a,b=>by
  show c*k+dH (k+1) (a++b)=c*k+dH (k+1) a+_;rw [yo (k+1) a b,PQ,show k+1+a.length=k+(a.length+1) by lia];lia
structure Ea(H:Hp)(z:Str)(i:Nat)(σ:L2.St)(H':Hp):Prop where
 ex:∃a b,σ=[some (V.str z),some (.int (dH 1 ((sg z).take i):Nat)),a,b]
 same:zi H H'
theorem i7:zw ["text","total","place","sign"] X6 (zk oY):=fsc
theorem Es(F:Fun K "sum_of" "sum_of" oY f fd)(T:Txt w K mg A):zp P w K mg base CX0 true 1 f fd X6 yI:=by
 refine F.o i7 λZ0 Ar outer s H vs Q E hr h=>?_;obtain ⟨z,rfl,G,hz,q⟩:=h;refine {_,(W.h (zg (zy (i:=1) i7.nd rfl (OO rfl) zq)
   (zg (bG Qp.never (λ_=>rfl) (Gy rfl T.av (zb 0)) (fV (n:=2) (gsD (aE (zC (i:=2) i7.nd rfl (OO rfl)) (gsD (aE (zC (i:=3) i7.nd rfl (OO rfl)) dB)))))
   (zh (xq (i:=1) i7.nd rfl (OO rfl) (zJ kq (zQ Dv rfl T.b6 boot_ord (zc (zb 3) zd)) (zb 2)) AN)))
   (zh (zx (zJ (oI iO) (zb 1) (cL rfl T.aE))))))),?_}
 ac_rfl;refine {G,aC.cj (Ea H z) {{_,_,rfl},zi.refl _} ?_ ?_}
 .rintro i c p σ H' U ⟨⟨a,b,rfl⟩,J⟩ S;have O:(sg z)[i]?=some c:=by simpa [sg] using U
  ac_rfl;refine {p,_,rfl,SqT.of zu,rfl,?_};ac_rfl;refine {rfl,.inl {by simp;lia,?_},{{some (.int ((i+1:Nat):Int)),some (.str {#[c]}),?_},?_}}
  .have Z:c<128:=by
    have h3:=OX O;rw [cJ] at G;simpa using Py.mp G c h3
   simp;lia
  .rw [O6,O,yo];have hi:i<(sg z).length:=(OE.mp O).1;rw [O8,Uk 'l'];simp [dH];rw [Int.add_comm 1 (i:Int)]
  .exact J.trans λb o e=>by rw [ze (zz e S)];exact e
 .rintro σ H' ⟨⟨a,b,rfl⟩,J⟩;ac_rfl;refine {'d',?_};have e:cb z=((dH 1 ((sg z).take z.cps.size):Nat):Int) % 65521:=by
   unfold cb;rw [OQ (by rw [zV];exact Ox _)];lia
  rw [<- e];exact q H' J
theorem r8:(" ":Str)=c1 32:=by decide +kernel
theorem cQ(h:n<2 ^ 64):n.log2<1920:=by
 by_cases z:n=0
 .subst z;decide
 .exact SC ((Nat.log2_lt z).mpr h) 'd'
theorem gS(z:Str):0<=cb z/\cb z<65521:=by unfold cb;lia
theorem AI(m:Nat)(h:0<m):∃c r,(Um 10 m).map Char.toNat=c::r/\49<=c:=by
 induction m using Nat.strongRecOn with
 | _ m z =>
  by_cases h1:m<10
  .rw [Nat.toDigits_of_lt_base h1];refine {_,[],rfl,?_};have:∀d:Nat,d<10->0<d->49<=(Nat.digitChar d).toNat:=by decide
   exact this m h1 h
  .have hm:m % 10<10:=Nat.mod_lt m 'd';have t:Um 10 (m / 10)++Um 10 (m % 10)=Um 10 (10*(m / 10)+m % 10):=Nat.toDigits_append_toDigits 'd' 'l' hm;rw [Nat.div_add_mod] at t;obtain ⟨c,r,e,F⟩:=z (m / 10) 'l' 'l';rw [<- t,Ph,e];exact {c,_,rfl,F}
structure Ko(i:Int):Prop where
 dig:∀c∈sg (toString i:Str),48<=c/\c<=57
 one:1<=(sg (toString i:Str)).length
 most:(sg (toString i:Str)).length<=18
 back:Sj (toString i:Str)=some i
 head:(toString i:Str)="0"\/∃c r,sg (toString i:Str)=c::r/\49<=c
theorem d6(S:0<=i)(h1:i<10 ^ 18):Ko i:=by
 obtain ⟨m,rfl⟩:=Int.eq_ofNat_of_zero_le S;have hd:∀c∈sg (toString ((m:Nat):Int):Str),48<=c/\c<=57:=by
  intro c F;rw [iF] at F;obtain ⟨ch,O,e⟩:=Qt.mp F;have r:=Nat.isDigit_of_mem_toDigits 'd' 'd' O;rw [<- e];exact PyProof.Rows.digit_range r
 have G:1<=(sg (toString ((m:Nat):Int):Str)).length:=by
  rcases Tb m with h|h
  .rw [h,iF];decide
  .obtain ⟨c,r,e,_⟩:=AI m h;rw [iF,e];simp
 have hl:(sg (toString ((m:Nat):Int):Str)).length<=18:=by
  have e:(Nat.repr m).length<=18:=(Nat.length_repr_le_iff 'd').mpr 'l';rw [zV];show (OA (toString ((m:Nat):Int))).length<=18;rw [PySem.ofString_length];exact e
 refine {hd,G,hl,?_,?_}
 .have e:=intText_digits (x:=(toString ((m:Nat):Int):Str)) hd (λz=>by rw [show sg (toString ((m:Nat):Int):Str)=[] from z] at G;cases G) (by rw [<- zV];lia);have J:(toString ((m:Nat):Int):Str).cps.toList=(Um 10 m).map Char.toNat:=iF m;rw [J,PySem.W.KIN.val_back] at e;exact e
 .rcases Tb m with h|h
  .left;rw [h];rfl
  .obtain ⟨c,r,e,F⟩:=AI m h;exact .inr {c,r,by rw [iF,e],F}
theorem qa{i:Int}(z:0<=i)(h1:i<10 ^ 18):(toString i:Str).length<=19:=by
 have e:=int_text_length_le10 (a:=i) (k:=18) 'd' 'l';show (OA (toString i)).length<=19;rw [PySem.ofString_length];exact e
theorem K9:zw ["body"] ["body"] (zk p8):=fsc
theorem JN(F:Fun K "summed" "summed" p8 f fd)(T:Txt w K mg A)(U:GF P w K mg base true 1 "sum_of" X6 yI):zp P w K mg base CX0 true 2 f fd ["body"] iX:=by
 refine F.o K9 λZ0 Ar outer s H vs Q E O h=>?_;obtain ⟨z,rfl,J,hz,q⟩:=h;refine {_,(W.h (zh (zx (Gx (mQ (sU (zb 0)) (mQ (sU (caD (zB U O rfl (clP (zc (zb 0) zd))))) (mQ zF Fo))))))),?_};ac_rfl;have hs:=gS z;have Z:=qa hs.1 'l';refine {aQ 'l',by rw [Str.empty_append];exact aQ 'l',z,rfl,J,hz,λH' s1=>?_};ac_rfl;rw [Str.empty_append];have S:(z++(toString (cb z):Str)).length<=1000000:=by rw [Qz];lia
 have G:(z++(toString (cb z):Str)++";").length<=1000000:=by
  rw [Qz,Qz];have:(";":Str).length=1:=by decide
  lia
 exact {cQ 'l',aQ S,aQ G,aQ G,q H' s1}
theorem lP(l:List Nat):asc (tx l)=l.all (· < 128):=by rw [cJ,cj]
theorem kg(h:asc z=true)(hl:∀c∈l,c∈sg z):asc (tx l)=true:=by
 rw [lP,Py];rw [cJ,Py] at h;exact λc F=>h c (hl c F)
theorem wO(c:Nat):∀l:List Nat,c∈l->∃a b,l=a++c::b/\c∉b
 | [],h=>by cases h
 | x::l,h=>by
  by_cases hm:c∈l
  .obtain ⟨a,b,e,z⟩:=wO c l hm;exact {x::a,b,by rw [e];rfl,z}
  .rcases OH.mp h with e|e
   .exact {[],l,by rw [e];rfl,hm}
   .exact absurd e hm
theorem yP(h:sg z=a++32::b)(F:32∉b):cU z=tx (a++[32]):=by
 unfold cU;rw [FB h F];have e:((a.length:Int)+1)=((a.length+1:Nat):Int):=by lia
 rw [e,mi (by rw [h];simp),h];congr 1;rw [show a++32::b=(a++[32])++b by simp,List.take_left' 'z']
theorem KF(h:32∉sg z):cU z=tx []:=by
 unfold cU;rw [Dr h];exact mi (j:=0) (Qs _)
theorem wt(h:asc z=true):asc (cU z)=true/\(cU z).length<=z.length:=by
 refine {?_,PySem.Txt.slice_le _ _ _};by_cases hm:32∈sg z
 .obtain ⟨a,b,e,F⟩:=wO 32 _ hm;rw [yP e F];refine kg h λc G=>?_;rw [e,show a++32::b=(a++[32])++b by simp];exact Pz _ G
 .rw [KF hm,lP];rfl
theorem xI:zw WH X6 (zk nA):=fsc
theorem Hs(F:Fun K "body_of" "body_of" nA f fd)(T:Txt w K mg A)(O:GF P w K mg base true 2 "summed" ["body"] iX):zp P w K mg base CX0 true 3 f fd X6 pd:=by
 refine F.ok xI (λvs H Q E h=>?_) (λZ0 Ar outer s H vs Q E J h=>?_)
 .rcases h with ⟨z,rfl,_⟩|⟨rfl,_⟩<;>rfl
 .have U:_<cLine:=Px (zT J);refine {_,(W.h (zg (zM (eE (bE (zQ jC rfl T.J7 SJ (zc (zb 0) (zc (jJ rfl T.Ut RD (v:=.ty "str") rfl) zd)))))
   (zh (zx cE))
   zR)
   (zg (zy (i:=1) xI.nd rfl (OO rfl) (dA dU (zb 0) dF (dG (zJ aX (GW (zb 0) zF) zq))))
   (zh (zx (lY (tD (zS (clO (oE (aU U))) (clE (zb 0)) (clE (caD (zB O J rfl (clP (zc (zb 1) zd))))) (zK _))) (zb 1) cE)))))),?_}
  rcases h with ⟨z,rfl,S,hz,q⟩|⟨rfl,q⟩
  case inr =>
   ac_rfl;refine {_,_,_,_,_,rfl,rfl,.of .non,rfl,?_};ac_rfl;exact q
  ac_rfl;refine {_,_,_,_,_,rfl,rfl,.of (.str z),rfl,?_};erw [aQ (PX hz 'd'),r8];obtain ⟨Z,b2⟩:=wt S;refine {cU z,rfl,Z,'l',λH' s1=>?_};ac_rfl;have G:=q H' s1;refine aY (λh=>?_) λh=>?_
  .have e:dC z=some (cU z):=if_pos (of_decide_eq_true h);rw [e] at G;exact G
  .have e:dC z=none:=if_neg λx=>h (decide_eq_true x);rw [e] at G;exact G
theorem rH:∀ys:List Str,sg (Pq "" ys)=(ys.map sg).flatten:=by
 intro ys;have e:Pq "" ys=Str.join "" ys:=StrLaws.glued_eq_join "" ys;rw [e]
 induction ys with
 | nil=>rfl
 | cons y ys z =>
  cases ys with
  | nil=>show sg y=_;simp
  | cons x ys =>
   have z:=z (StrLaws.glued_eq_join "" _);show sg (y++""++Str.join "" (x::ys))=_;rw [bX,bX,z];have:sg ("":Str)=[]:=by decide
   rw [this];simp
theorem Aa(h:dD v):(aR v).length<=100/\asc (aR v)=true:=by
 cases h with
 | bl b=>cases b<;>exact {'d',by rw [cJ];decide}
 | int i G h1 =>
  have F:=d6 G h1;refine {by show (toString i:Str).length<=100;rw [<- zV];have:=F.most;lia,?_};show asc (toString i:Str)=true;rw [cJ,Py];exact λc O=>decide_eq_true (by have:=F.dig c O;lia)
 | str z J hz=>exact ⟨hz,J⟩
theorem rj:∀{xs:List V},(∀v∈xs,dD v)->(aa xs).length<=101*xs.length/\(aa xs).all (· < 128)=true
 | [],_=>{by simp [aa],rfl}
 | v::xs,h=>by
  obtain ⟨h1,h2⟩:=rj (xs:=xs) λu F=>h u (OI _ F);obtain ⟨z,p2⟩:=Aa (h v (OT ..));have e:aa (v::xs)=sg (aR v)++[32]++aa xs:=by simp [aa]
  rw [e];rw [<- zV] at z;rw [cJ] at p2;refine {by simp;lia,?_};rw [R3,R3,p2,h2];rfl
theorem JJ:zw ["part"] ["part"] (zk rB):=fsc
theorem DU(F:Fun K V1 V1 rB f fd)(T:Txt w K mg A):zp P w K mg base CX0 cm 1 f fd ["part"] sJ:=by
 refine F.o JJ λO S outer s H vs Q E J h=>?_;obtain ⟨v,rfl,hv,q⟩:=h;refine {_,(W.h (zg (zM (bE (zQ jC rfl T.J7 SJ (zc (zb 0) (zc (jJ rfl T.aS boot_bool (v:=.ty "bool") rfl) zd))))
   (zh (zx (lY (bE (zb 0)) zF zF)))
   zR)
   (zh (zx (bF MT rfl T.Ut RD (zc (zb 0) zd)))))),?_}
 ac_rfl;cases hv with
 | bl b =>
  refine {_,_,_,_,_,rfl,rfl,.of (.bl b),rfl,?_};ac_rfl;cases b with
  | true=>exact oR q
  | false=>exact vI q
 | int i U h1 =>
  refine {_,_,_,_,_,rfl,rfl,.of (.int i),rfl,?_};ac_rfl;exact {cQ 'l',q}
 | str z G hz =>
  refine {_,_,_,_,_,rfl,rfl,.of (.str z),rfl,?_};ac_rfl;exact q
structure iu(H:Hp)(xs:List V)(i:Nat)(τ:L2.St)(ys:List V)(H':Hp):Prop where
 ex:∃t,τ=[t]
 ys:ys=((xs.take i).map λv=>aR v++" ").map V.str
 same:H'=H
theorem Na:zw ["row"] ["row"] (zk kI):=fsc
theorem HM:bq { kind:=.function,names:=[(OA ".0",.local),(OA "part",.local),(OA "part_text",.globalImplicit)],isGenerator:=false,isCoroutine:=false,more:=[] } (zk kI).names ["row"] ["part"] [none]=true:=by decide +kernel
theorem GI:(["part"]:List Str).Nodup:=by decide +kernel
theorem CQ(F:Fun K "row_text" "row_text" kI f fd)(T:Txt w K mg A)(ZD:GF P w K mg base true 2 "summed" ["body"] iX)(YW:GF P w K mg base true 1 V1 ["part"] sJ):zp P w K mg base CX0 true 3 f fd ["row"] pF:=by
 refine F.o Na λZ0 Ar outer s H vs Q E U h=>?_;obtain ⟨a,xs,rfl,z,hx,S,q⟩:=h;refine {_,(W.h (zh (zx (caD (zB ZD U rfl (clP (zc (jG zF (cX (λ_=>rfl) (zY.of HM) (CJ (zb 0)) (λ_ _ _ _ _=>(zC (i:=0) GI rfl (OO rfl))) (λ_ _ _ _ _=>bW) (λ_ _ _ _ _=>(zJ aX (caD (zB YW U rfl (clP (zc (zb 0) zd)))) zF)))) zd))))))),?_};ac_rfl;have O:(" ":Str).length=1:=by decide
 have step:∀(N:L2.St->List V->Hp->Prop)(i:Nat)(x:V)(τ:L2.St)(ys:List V)(H':Hp),xs[i]?=some x->iu H xs i τ ys H'->(∀τ ys H3,iu H xs (i+1) τ ys H3->N τ ys H3)->cN 0 x τ H' λJ H4=>kM J H4 λok H5=>eK N ys J (tOp hJ (m6 sJ E0 (kH (gW 0) dr)) (tC (V.str " "))) ok H5:=by
  intro N i x τ ys H' G I hN;obtain ⟨t,rfl⟩:=I.ex;have hv:=S x (OX G);ac_rfl;refine {x,rfl,hv,?_};ac_rfl;refine {?_,hN _ _ _ {{_,rfl},by rw [I.ys,O6,G];simp,I.same}};rw [O];exact aQ (by have:=(Aa hv).1;lia)
 have done:∀(τ:L2.St)(ys:List V)(H':Hp),iu H xs xs.length τ ys H'->∀D H2,New H' D (.lst ys) H2->jf (V.str "") [.ref D] H2 λx H1=>iX [x] H1 Q E0:=by
  intro τ ys H' I D H2 Z;rw [mq];have Xa:xs.take xs.length=xs:=OQ (Ox _);have e:Pq "" (xs.map λv=>aR v++" ")=tx (aa xs):=by
   refine iL ?_;rw [rH,cj,Pg];unfold aa;congr 1;refine QA λv _=>?_;show sg (aR v++" ")=_;rw [bX];rfl
  obtain ⟨l1,l2⟩:=rj S;refine {xs.map λv=>aR v++" ",by rw [Z.at_,I.ys,Xa],?_,tx (aa xs),by rw [e],by rw [lP];exact l2,by rw [fU];lia,λH3 s3=>q H3 ?_}
  .have es:((xs.map λv=>aR v++" ").map (·.length)).sum=(aa xs).length:=by
    unfold aa;rw [List.length_flatten,Pg,Pg];congr 1;refine QA λv _=>?_;show (aR v++" ").length=(sg (aR v)++[32]).length;rw [Qz,Pa,zV];rfl
   rw [es,show ("":Str).length=0 by decide];lia
  .have:=Z.same;rw [I.same] at this;exact this.trans s3
 have sml:∀i τ ys H',iu H xs i τ ys H'->ys.length<sizeLine:=λi τ ys H' I=>by
  rw [I.ys,OB,OB,O8];exact aB 'l'
 rcases z with z|z
 .exact .inl {{_,SqL.of z},aN.lst (xs:=xs) (iu H xs) sml (λi τ ys H' I=>SqL.of (by rw [I.same];exact z)) {{_,rfl},'z',rfl} step done}
 .exact .inr {{_,SqT.of z},aN.tup (xs:=xs) (iu H xs) sml (λi τ ys H' I=>SqT.of (by rw [I.same];exact z)) {{_,rfl},'z',rfl} step done}
abbrev mn:Stmt:=top 36
abbrev j9:Stmt:=top 35
abbrev lF:Stmt:=top 34
theorem JD(h:cw z=true):∃n,Sj z=some n/\z.length<=640:=by
 unfold cw aZ at h;rw [Pm,Pm,Pm,decide_eq_true_eq,decide_eq_true_eq] at h;obtain ⟨⟨⟨h1,h2⟩,h3⟩,_⟩:=h;have hl:z.length<=18:=by lia
 have hd:∀c∈sg z,48<=c/\c<=57:=by
  intro c F;have:=Py.mp h3 c F;have hf:sg FIG=[48,49,50,51,52,53,54,55,56,57]:=by decide
  rw [hf] at this;have:=Qn.mp this;simp only [OH,Pc,or_false] at this;omega
 refine {_,intText_digits (x:=z) hd (λe=>?_) 'l','l'};have:z.length=0:=by rw [<- zV];rw [show sg z=[] from e];rfl
 lia
theorem J2:zw WG WG (zk mn):=fsc
theorem Ot(F:Fun K VZ VZ mn f fd)(T:Txt w K mg A)(ZQ:GF P w K mg base true 2 We X6 (fH cw))(Zn:GF P w K mg base true 2 "is_name" X6 (fH bB))(Yz:GF P w K mg base true 2 "is_word" X6 (fH dh)):
  zp P w K mg base (CXW P w) true 3 f fd WG (wI A):=by
 refine F.oW J2 λZ0 Ar outer s H vs Q E U h=>?_;obtain ⟨k,z,rfl,Z,hz,q⟩:=h;have O:_<cLine:=Px (zT U);have Th:=kB (cm:=true) (P:=P) (w:=w) (K:=K) (mg:=mg) (base:=base) (N:=WG) (qual:=VZ) (scope:=zk mn) (f:=f) (cd:=Z0) (A:=Ar) (outer:=outer) (s:=s) (H:=H) (E:=E);refine {_,(W.h (zg (hU (zM (eX (je (tD (zS (clO (oE (aU O))) (clE (zb 0)) (clE zF) (zK _))) (ju (bE (caD (zB ZQ U rfl (clP (zc (zb 1) zd))))))))
   (zh (zx (bF vF rfl T.aO boot_int (zc (zb 1) zd))))
   zR))
   (zg (hU (zM (eX (je (tD (zS (clO (oE (aU O))) (clE (zb 0)) (clE zF) (zK _))) (ju (tD (zS (clO (Am O)) (clE (zb 1)) (clE (bS (zc zF (zc zF zd)))) rfl)))))
   (zh (zx (eA (oE (aU O)) (zb 1) zF (zK _))))
   zR))
   (zg (hU (zM (eX (je (tD (zS (clO (oE (aU O))) (clE (zb 0)) (clE zF) (zK _))) (ju (bE (caD (zB Zn U rfl (clP (zc (zb 1) zd))))))))
   (zh (zx (zb 1)))
   zR))
   (zg (zM (eX (je (tD (zS (clO (oE (aU O))) (clE (zb 0)) (clE zF) (zK _))) (ju (bE (caD (zB Yz U rfl (clP (zc (zb 1) zd))))))))
   (zh (zx (zb 1)))
   zR)
   (zh (lO rfl Th T.Uy rfl T.UG (zc zF zd)))))))),?_}
 erw [kC];refine {λG H'=>G=[some (.str k),some (.str z)]/\zi H H'/\¬ (k="number"/\cw z=true),?_,?_}
 .refine aY (λh1=>?_) λh1=>{rfl,zi.refl _,λx=>h1 (decide_eq_true x.1)};refine {z,rfl,Z,hz,λH1 s1=>?_};ac_rfl;refine aY (λh2=>?_) λh2=>{s1,λx=>h2 x.2};obtain ⟨n,hn,hl⟩:=JD h2;refine {hl,n,hn,(q H1 s1).1 _ ?_};unfold bA;rw [if_pos {of_decide_eq_true h1,h2},hn];rfl
 rintro G H1 ⟨rfl,s1,n1⟩;erw [kC];refine {λG H'=>G=[some (.str k),some (.str z)]/\zi H H'/\¬ (k="end"/\(z="0"\/z="1")),?_,?_}
 .refine aY (λh1=>?_) λh1=>{rfl,s1,λx=>h1 (decide_eq_true x.1)};refine {'d',λp H2 J=>{_,.inr J.at_,rfl,rfl,?_}};have e:inV (V.str z) [V.str "0",V.str "1"]=true↔(z="0"\/z="1"):=by
   unfold inV;rw [Ta,Ta,List.any_nil,RX,Bool.or_eq_true];have e3:∀a:Str,eqV (V.str a) (V.str z)=true↔z=a:=λa=>by
    show (a==z)=true↔_;rw [beq_iff_eq];exact eq_comm
   rw [e3,e3]
  refine aY (λh2=>?_) λh2=>{rfl,s1.trans J.same,λx=>h2 (e.mpr x.2)};refine (q H2 (s1.trans J.same)).1 _ ?_;unfold bA;rw [if_neg n1,if_pos {of_decide_eq_true h1,e.mp h2}]
 rintro G H2 ⟨rfl,s2,J⟩;erw [kC];refine {λG H'=>G=[some (.str k),some (.str z)]/\zi H H'/\¬ (k="name"/\bB z=true),?_,?_}
 .refine aY (λh1=>?_) λh1=>{rfl,s2,λx=>h1 (decide_eq_true x.1)};refine {z,rfl,Z,hz,λH3 S=>?_};ac_rfl;refine aY (λh2=>?_) λh2=>{s2.trans S,λx=>h2 x.2};refine (q H3 (s2.trans S)).1 _ ?_;unfold bA;rw [if_neg n1,if_neg J,if_pos {of_decide_eq_true h1,h2}]
 rintro G H3 ⟨rfl,S,n3⟩;ac_rfl;refine aY (λh1=>?_) λh1=>?_
 .refine {z,rfl,Z,hz,λH4 s4=>?_};ac_rfl;refine aY (λh2=>?_) λh2=>?_
  .refine (q H4 (S.trans s4)).1 _ ?_;unfold bA;rw [if_neg n1,if_neg J,if_neg n3,if_pos {of_decide_eq_true h1,h2}]
  .refine {'d',(q H4 (S.trans s4)).2 ?_};unfold bA;rw [if_neg n1,if_neg J,if_neg n3,if_neg λx=>h2 x.2]
 .refine {'d',(q H3 S).2 ?_};unfold bA;rw [if_neg n1,if_neg J,if_neg n3,if_neg λx=>h1 (decide_eq_true x.1)]
theorem He(T:Txt w K mg A)(z:Str):(fc [(Wi,A.Uz),("cut",A.UA),("hold",A.Uv),("free",A.Uw),("carry",A.Q2)] z = .non/\gX z=none) \/
  ∃p ks,fc [(Wi,A.Uz),("cut",A.UA),("hold",A.Uv),("free",A.Uw),("carry",A.Q2)] z = .ref p/\gX z=some ks/\ks.length<=10/\∀H:Hp,SqT K H p (ks.map V.str):=by
 unfold fc gX;simp only [RZ,List.find?_nil];by_cases h1:z=Wi
 .rw [if_pos h1,decide_eq_true h1.symm];exact .inr {_,_,rfl,rfl,'d',T.ar}
 rw [if_neg h1,decide_eq_false (Pe h1)];by_cases h2:z="cut"
 .rw [if_pos h2,decide_eq_true h2.symm];exact .inr {_,_,rfl,rfl,'d',T.au}
 rw [if_neg h2,decide_eq_false (Pe h2)];by_cases h3:z="hold"
 .rw [if_pos h3,decide_eq_true h3.symm];exact .inr {_,_,rfl,rfl,'d',T.Vu}
 rw [if_neg h3,decide_eq_false (Pe h3)];by_cases h4:z="free"
 .rw [if_pos h4,decide_eq_true h4.symm];exact .inr {_,_,rfl,rfl,'d',T.Vv}
 rw [if_neg h4,decide_eq_false (Pe h4)];by_cases F:z="carry"
 .rw [if_pos F,decide_eq_true F.symm];exact .inr {_,_,rfl,rfl,'d',T.UW}
 rw [if_neg F,decide_eq_false (Pe F)];exact .inl {rfl,rfl}
theorem kP:∀{ks zs:List Str}(ks' F:List Str),ks.length=zs.length->bz (ks++ks') (zs++F)=(bz ks zs).bind λvs=>(bz ks' F).map (vs++·)
 | [],[],ks',F,_=>by simp [bz]
 | k::ks,z::zs,ks',F,h=>by
  have G:=kP (ks:=ks) (zs:=zs) ks' F (by simpa using h);show (bA k z).bind (λv=>(bz (ks++ks') (zs++F)).map (v::·))=((bA k z).bind λv=>(bz ks zs).map (v::·)).bind _;rw [G];cases bA k z with
  | none=>rfl
  | some v =>
   cases bz ks zs with
   | none=>rfl
   | some vs =>
    show ((bz ks' F).map (vs++·)).map (v::·)=(bz ks' F).map ((v::vs)++·);rw [Option.map_map];rfl
 | [],z::zs,_,_,h=>by cases h
 | k::ks,[],_,_,h=>by cases h
theorem jq(z:Str)(zs:List Str):fg (z::zs)=(gX z).bind λks=>if zs.length=ks.length then (bz ks zs).map (.str z::·) else none:=rfl
theorem BI:bj (x::l) (some 1) none=l:=by
 have z:HT.sIx (x::l).length 0 (some 1)=1:=by simp [HT.sIx]
 have F:HT.sIx (x::l).length (x::l).length none=l.length+1:=by simp [HT.sIx]
 unfold bj;rw [z,F];simp
structure E4(H:Hp)(a p r b:Addr)(z:Str)(ks zs:List Str)(i:Nat)(σ:L2.St)(H':Hp):Prop where
 ex:∃k' z',σ=[some (V.ref a),some (.ref p),some (.ref r),k',z']
 same:zi H H'
 row:∃vs,H' r=some (.lst (.str z::vs))/\bz (ks.take i) (zs.take i)=some vs/\vs.length=i
 words:H' b=some (.lst (zs.map V.str))
 ne:H r=none/\H b=none/\r≠b
theorem jc:zw ["words","kinds","row","kind","word"] Xw (zk j9):=fsc
theorem Ej(F:Fun K "row_of" "row_of" j9 f fd)(T:Txt w K mg A)(YV:GX P w K mg base true 3 VZ WG (wI A)):zp P w K mg base (CXW P w) true 4 f fd Xw (Ai A):=by
 refine F.oW jc λZ0 Ar outer s H vs Q E hr h=>?_;obtain ⟨a,ws,rfl,hH,Ys,hl,hw,q,qn⟩:=h;have hu:_<cLine:=Px (zT hr);have Th:=kB (cm:=true) (P:=P) (w:=w) (K:=K) (mg:=mg) (base:=base) (N:=["words","kinds","row","kind","word"]) (qual:="row_of") (scope:=zk j9) (f:=f) (cd:=Z0) (A:=Ar) (outer:=outer) (s:=s) (H:=H) (E:=E);obtain ⟨z,zs,rfl⟩:=List.exists_cons_of_ne_nil Ys;have e0:atI (V.str z::map V.str zs) 0=some (.str z):=ee (j:=0) rfl;refine {_,(W.h (zg (zy (i:=1) jc.nd rfl (OO rfl) (Ov rfl T.aU T.a4 (zL zX (zb 0) zq (λ_ _=>rfl))))
   (zg (zM (eX (j4 (tD (zS (clO pQ) (clE (zb 1)) (clE cE) (zK _))) (kS (tD (zS (clO (oE (eO hu))) (clE (zQ cu rfl T.tj Pi (zc (zb 0) zd))) (clE (zJ aX (zQ jN rfl T.tj Pi (zc (zb 1) zd)) zq)) (zK _))))))
   (zh (lO rfl Th T.Uy rfl T.UG (zc zF zd)))
   zR)
   (zg (zy (i:=2) jc.nd rfl (OO rfl) (bw (zc (zL zX (zb 0) zq (λ_ _=>rfl)) zd)))
   (zg (DC Th (bG (Kn rfl (λok=>ok.frames) rfl) (by intro h;exact nomatch h) (BA rfl T.b5 (zc (zb 1) (zc (dA dU (zb 0) (dG zq) dF) zd))) (fV (n:=2) (gsD (aE (zC (i:=3) jc.nd rfl (OO rfl)) (gsD (aE (zC (i:=4) jc.nd rfl (OO rfl)) dB)))))
   (zh (aL (eZ (zb 2) (cXD (mf FF YV hr rfl (clP (zc (zb 3) (zc (zb 4) zd))))))))))
   (zh (zx (bF Hc rfl T.a0 boot_tuple (zc (zb 2) zd))))))))),?_}
 erw [hH,e0];rcases He T z with ⟨g1,g2⟩|⟨p,ks,g1,g2,g4,g3⟩
 .erw [g1];exact {'d',qn (by rw [jq,g2];rfl) H (zi.refl _)}
 erw [g1,hH];refine {_,.inr (g3 H),?_};have Yd:(!decide ((((map V.str zs).length+1:Nat):Int)=((map V.str ks).length:Int)+1))=true↔zs.length≠ks.length:=by
  rw [OB,OB];simp;lia
 refine aY (λh=>?_) λh=>?_
 .refine {'d',qn ?_ H (zi.refl _)};rw [jq,g2];show (if zs.length=ks.length then _ else _)=_;rw [if_neg (Yd.mp h)]
 have ZZ:ks.length=zs.length:=by
  refine Qd λhx=>h (Yd.mpr λx=>hx x.symm)
 have G:fg (z::zs)=(bz ks zs).map (.str z::·):=by
  rw [jq,g2];show (if zs.length=ks.length then _ else _)=_;rw [if_pos ZZ.symm]
 refine {_,e0,'d',λr H1 n1 _=>{_,n1.same _ _ hH,λb H2 J=>?_}};have s2:zi H H2:=n1.same.trans J.same;have er:=J.same _ _ n1.at_;have eb:=J.at_;rw [Pf,BI] at eb;have U:r≠b:=λx=>by rw [x] at n1;have:=n1.at_;rw [J.no] at this;cases this
 refine {{_,g3 H2},{_,SqL.of eb},aC.cz (xs:=ks.map V.str) (ys:=zs.map V.str) (by rw [OB,OB];exact ZZ) (E4 H a p r b z ks zs) {{_,_,rfl},s2,{[],er,by simp [bz],rfl},eb,n1.no,n1.same.free J.no,U} (λi σ H' _ I=>{g3 H',SqL.of I.words}) ?_ ?_}
 .intro i x y t σ H' hx hy I ht;obtain ⟨k',z',rfl⟩:=I.ex;rw [OV] at hx hy;obtain ⟨k,hk,rfl⟩:=O2.mp hx;obtain ⟨u,WY,rfl⟩:=O2.mp hy;obtain ⟨vs,hv,O,Z⟩:=I.row;have hm:=hw u (OI _ (OX WY));ac_rfl;refine {t,_,rfl,SqT.of zu,rfl,?_};have ar:r≠t:=λx=>by rw [x] at hv;rw [ht] at hv;cases hv
  have XN:b≠t:=λx=>by have:=I.words;rw [x,ht] at this;cases this
  have S:upd H' t (.tup [.str k,.str u]) r=some (.lst (.str z::vs)):=by rw [ze ar];exact hv
  erw [S];have st:zi H (upd H' t (.tup [.str k,.str u])):=λc o e=>by
   have:=I.same c o e;rw [ze (zz this ht)];exact this
  have hi:i<ks.length:=(OE.mp hk).1;have ta:(ks.take i).length=(zs.take i).length:=by rw [O8,O8,ZZ]
  have tk:ks.take (i+1)=ks.take i++[k]:=by rw [O6,hk];rfl
  have tz:zs.take (i+1)=zs.take i++[u]:=by rw [O6,WY];rfl
  refine {k,u,rfl,hm.1,hm.2,λH3 s3=>{λv X3=>?_,λX3=>?_}}
  .have ab:H3 r=some (.lst (.str z::vs)):=s3 _ _ S;have ai:H3 b=some (.lst (zs.map V.str)):=s3 _ _ (by rw [ze XN];exact I.words);refine {_,ab,by simp;exact aB 'l',{{_,_,rfl},λc o e=>?_,{vs++[v],by rw [zu];rfl,?_,by simp [Z]},by rw [ze (Pe U)];exact ai,I.ne}}
   .rw [ze (zz e I.ne.1)];exact s3 _ _ (st c o e)
   .rw [tk,tz,kP _ _ ta,O];show (bz [k] [u]).map (vs++·)=_;simp [bz,X3]
  .refine {_,rfl,qn ?_ H3 (st.trans s3)};have e1:bz ks zs=none:=by
    have k1:ks=ks.take (i+1)++ks.drop (i+1):=(Q6 _ _).symm;have z1:zs=zs.take (i+1)++zs.drop (i+1):=(Q6 _ _).symm;rw [k1,z1,kP _ _ (by rw [O8,O8,ZZ]),tk,tz,kP _ _ ta,O];simp [bz,X3]
   rw [G,e1];rfl
 .rintro σ H' I;obtain ⟨k',z',rfl⟩:=I.ex;obtain ⟨vs,hv,O,Z⟩:=I.row;erw [hv];intro l H2 J;rw [OB,OQ (Ox _),OQ 'l'] at O;exact q _ (by rw [G,O];rfl) l H2 (I.same.trans J.same) J.at_
theorem kX:∀{l:List Nat}{w:List Nat},w∈aP c l->∀x∈w,x∈l
 | [],w,h,x,hx=>by
  rw [show aP c []=[[]] from rfl,ON] at h;rw [h] at hx;cases hx
 | y::l,w,h,x,hx=>by
  by_cases z:y=c
  .rw [show aP c (y::l)=[]::aP c l from if_pos z] at h;rcases OH.mp h with e|h
   .rw [e] at hx;cases hx
   .exact OI _ (kX h x hx)
  .rw [iP c y l z] at h;obtain ⟨a,r,e⟩:=gL c l;rw [e] at h;rcases OH.mp h with G|h
   .rw [G] at hx;rcases OH.mp hx with F|hx
    .rw [F];exact OT ..
    .exact OI _ (kX (l:=l) (w:=a) (by rw [e];exact OT ..) x hx)
   .exact OI _ (kX (l:=l) (by rw [e];exact OI _ h) x hx)
theorem vp(c:Nat):∀l:List Nat,(aP c l).length<=l.length+1/\∀w∈aP c l,w.length<=l.length
 | []=>{by simp [aP],by simp [aP]}
 | y::l=>by
  obtain ⟨h1,h2⟩:=vp c l;by_cases z:y=c
  .rw [show aP c (y::l)=[]::aP c l from if_pos z];refine {by simp;lia,λw hw=>?_};rcases OH.mp hw with e|hw
   .rw [e];simp
   .have:=h2 w hw;simp;lia
  .rw [iP c y l z];obtain ⟨a,r,e⟩:=gL c l;rw [e] at h1 h2 ⊢;refine {by simpa [fB] using Nat.le_succ_of_le h1,λw hw=>?_};rcases OH.mp hw with F|hw
   .have:=h2 a (OT ..);rw [F];simp;lia
   .have:=h2 w (OI _ hw);simp;lia
theorem A4:zw WH X6 (zk lF):=fsc
theorem LD(F:Fun K "read_row" "read_row" lF f fd)(T:Txt w K mg A)(Zm:GF P w K mg base true 3 "body_of" X6 pd)(Yi:GX P w K mg base true 4 "row_of" Xw (Ai A)):zp P w K mg base (CXW P w) true 5 f fd X6 (yj A):=by
 refine F.oW A4 λZ0 Ar outer s H vs Q E hr h=>?_;have S:=kB (cm:=true) (P:=P) (w:=w) (K:=K) (mg:=mg) (base:=base) (N:=WH) (qual:="read_row") (scope:=zk lF) (f:=f) (cd:=Z0) (A:=Ar) (outer:=outer) (s:=s) (H:=H) (E:=E);refine {_,(W.h (zg (zy (i:=1) A4.nd rfl (OO rfl) (caD (zB Zm hr rfl (clP (zc (zb 0) zd)))))
   (zg (zM (tD (zS (clO pQ) (clE (zb 1)) (clE cE) (zK _)))
   (zh (lO rfl S T.Uy rfl T.UG (zc zF zd)))
   zR)
   (zh (zx (cXD (mf S Yi hr rfl (clP (zc (qL (dA dU (zb 1) dF (dG (Bf yK zq))) zF) zd))))))))),?_}
 obtain ⟨z,rfl,ha,hz,q,Z⟩:=h;ac_rfl;refine .inl {z,rfl,ha,hz,λH1 s1=>?_};cases G:dC z with
 | none =>
  erw [jS];exact {'d',Z (by unfold br;rw [G];rfl) H1 s1}
 | some b =>
  have eb:b=cU z:=by
   unfold dC at G;split at G
   .exact (Pn.inj G).symm
   .cases G
  obtain ⟨b1,U⟩:=wt ha;rw [<- eb] at b1 U;have hs:br z=fg (Pu (P3 b none (some (-1))) (c1 32)):=by unfold br;rw [G];rfl
  have b3:(P3 b none (some (-1))).length<=b.length:=PySem.Txt.slice_le _ _ _;erw [jS,r8,aQ (PX (PX U hz) 'd')];generalize hy:P3 b none (some (-1))=y at *
  have ya:asc y=true:=by
   by_cases h0:0<(sg b).length
   .rw [oU h0] at hy;rw [<- hy];exact kg b1 λc hc=>(List.dropLast_sublist _).subset hc
   .rw [zV] at h0;have:sg y=[]:=SH (by rw [zV];lia);rw [cJ,this];rfl
  have es:=l4 y (c:=32) 'd';obtain ⟨l1,l2⟩:=vp 32 (sg y);rw [zV] at l1;refine {'d',aB 'l',by rw [es,OB];exact aQ 'l',λp H2 J=>?_};refine {p,Pu y (c1 32),rfl,J.at_,?_,by rw [es,OB];lia,λu hu=>?_,λxs hx p3 H3 O h3=>q xs (by rw [hs];exact hx) p3 H3 ((s1.trans J.same).trans O) h3,λhx H3 O=>{_,rfl,Z (by rw [hs];exact hx) H3 ((s1.trans J.same).trans O)}}
  .rw [es];obtain ⟨a,r,e⟩:=gL 32 (sg y);rw [e];simp
  .rw [es] at hu;obtain ⟨v,hv,rfl⟩:=Qt.mp hu;refine {kg ya (kX hv),?_};rw [fU];have:=l2 v hv;rw [zV] at this;lia
end
def gF(i:Int):Prop:=0<=i/\i<10 ^ 18
structure PR where
 n:Int
 g:Int
 e:Bool
 f:Str
 p:Int
 w:Str
def PR.row(r:PR):List V:=[.str Wi,.int r.n,.int r.g,.bl r.e,.str r.f,.int r.p,.str r.w]
structure PR.Ok(r:PR):Prop where
 n:gF r.n
 g:gF r.g
 p:gF r.p
 f:bB r.f=true
 w:dh r.w=true
theorem Kj(h:∀c∈sg z,c∈sg y)(h1:1<=z.length)(h2:(z.length:Int)<=m):aZ z y m=true:=by
 unfold aZ;rw [decide_eq_true (show (1:Int)<=z.length by lia),decide_eq_true h2];rw [SA,SA,Py];exact λc F=>Qn.mpr (h c F)
theorem xD(hl:∃a,l=a++[32]):cU (cM (tx l))=tx l:=by
 obtain ⟨a,rfl⟩:=hl;have F:=d6 (gS (tx (a++[32]))).1 (by have:=(gS (tx (a++[32]))).2;lia);have e:sg (cM (tx (a++[32])))=a++32::(sg (toString (cb (tx (a++[32]))):Str)++[59]):=by
  unfold cM;rw [bX,bX,cj];simp;decide +kernel
 refine yP e λh=>?_;rcases Pk.mp h with h|h
 .have:=F.dig 32 h;lia
 .simp at h
def Pl(l:List Nat):Prop:=32∉l/\59∉l
theorem uY(h:aZ z y m=true)(F:Pl (sg y)):Pl (sg z):=by
 unfold aZ at h;rw [Pm] at h;exact {λhz=>F.1 (Qn.mp (Py.mp h.2 32 hz)),λhz=>F.2 (Qn.mp (Py.mp h.2 59 hz))}
theorem yw(h:bB z=true):Pl (sg z):=uY h {f!"",f!""}
theorem uI(h:dh z=true):Pl (sg z):=uY h {f!"",f!""}
theorem fG(h:gF i):Pl (sg (toString i:Str)):={λhz=>by
 have:=(d6 h.1 h.2).dig 32 hz;lia,λhz=>by
 have:=(d6 h.1 h.2).dig 59 hz;lia}
theorem wW(h:aZ z y m=true)(F:∀c∈sg y,c<128)(hm:m<=100):asc z=true/\z.length<=100:=by
 unfold aZ at h;rw [Pm,Pm,decide_eq_true_eq,decide_eq_true_eq] at h;refine {?_,'l'};rw [cJ,Py];exact λc G=>decide_eq_true (F c (Qn.mp (Py.mp h.2 c G)))
theorem Ob(h:bB z=true):dD (.str z):=by
 obtain ⟨a,b⟩:=wW h (f!"") 'd';exact .str z a b
theorem C5(h:dh z=true):dD (.str z):=by
 obtain ⟨a,b⟩:=wW h (f!"") 'd';exact .str z a b
theorem qI(h:gF i):dD (.int i):=.int i h.1 h.2
theorem Ab(h:gF i):cw (toString i:Str)=true:=by
 have F:=d6 h.1 h.2;unfold cw;rw [Pm];constructor
 .refine Kj (λc z=>?_) (by rw [<- zV];exact F.one) (by rw [<- zV];have:=F.most;lia);have hf:sg FIG=[48,49,50,51,52,53,54,55,56,57]:=by decide
  rw [hf];have:=F.dig c z;simp;lia
 .rcases F.head with h|⟨c,r,e,z⟩
  .rw [decide_eq_true h];rfl
  .rw [e];have : ¬ tx (List.take 1 (c::r))=("0":Str):=λx=>by
    have:=congrArg sg x;rw [cj] at this;have G:sg ("0":Str)=[48]:=by decide
    rw [G] at this;injection this with h1 _
    lia
   rw [decide_eq_false this];simp
theorem ox(h:gF i):bA "number" (toString i:Str)=some (.int i):=by
 unfold bA;rw [if_pos {rfl,Ab h},(d6 h.1 h.2).back];rfl
theorem Lj(h:bB z=true):bA "name" z=some (.str z):=by
 unfold bA;rw [if_neg (λx=>absurd x.1 (f!"")),if_neg (λx=>absurd x.1 (f!"")),if_pos {rfl,h}]
theorem Os(h:dh z=true):bA "word" z=some (.str z):=by
 unfold bA;rw [if_neg (λx=>absurd x.1 (f!"")),if_neg (λx=>absurd x.1 (f!"")),if_neg (λx=>absurd x.1 (f!"")),if_pos {rfl,h}]
theorem Lb(b:Bool):bA "end" (aR (.bl b))=some (.bl b):=by cases b<;>decide +kernel
theorem Om(F:∀u∈v::xs,32∉sg (aR u)):br (aj (v::xs))=fg ((v::xs).map aR):=by
 have G:∀l:List V,aa l=(l.map λu=>sg (aR u)++[32]).flatten:=λl=>rfl;have U:∀(u:V)(l:List V),aa (u::l)=sg (aR u)++32::aa l:=λu l=>by simp [aa]
 have key:∀(u:V)(l:List V),aa (u::l)=sg (aR u)++((l.map λt=>sg (aR t)).map (32::·)).flatten++[32]:=by
  intro u l
  induction l generalizing u with
  | nil=>simp [aa]
  | cons t l S =>
   rw [U u (t::l),S t];simp
 have J:cU (aj (v::xs))=tx (aa (v::xs)):=xD {_,key v xs};have hs:dC (aj (v::xs))=some (tx (aa (v::xs))):=by
  unfold dC;rw [J];exact if_pos rfl
 unfold br;rw [hs];show fg (Pu (P3 (tx (aa (v::xs))) none (some (-1))) (c1 32))=_;rw [oU (by rw [cj,key,Pa];exact Pd 'd' (Nat.le_add_left _ _)),cj,key,List.dropLast_concat,l4 _ 'd',cj,i4]
 .congr 1;rw [Pf,Pg,Pf,dO];congr 1
 .intro u z;rcases OH.mp z with rfl|z
  .exact F v (OT ..)
  .obtain ⟨t,O,rfl⟩:=Qt.mp z;exact F t (OI _ O)
theorem PR.Ok.no{r:PR}(h:r.Ok):∀u∈r.row,Pl (sg (aR u)):=by
 simp only [PR.row,OH,Pc,or_false];rintro u (rfl|rfl|rfl|rfl|rfl|rfl|rfl)
 .exact {f!"",f!""}
 .exact fG h.n
 .exact fG h.g
 .cases r.e<;>exact {'d','d'}
 .exact yw h.f
 .exact fG h.p
 .exact uI h.w
theorem PR.Ok.read{r:PR}(h:r.Ok):br (aj r.row)=some r.row:=by
 unfold PR.row;rw [Om λu F=>(h.no u F).1];have z:gX Wi=some (Wz:List Str):=by decide +kernel
 show fg [(Wi:Str),(toString r.n:Str),(toString r.g:Str),aR (.bl r.e),r.f,(toString r.p:Str),r.w]=_;rw [jq,z];simp only [bind_some,PQ,S3,if_true,bz,ox h.n,ox h.g,Lb,Lj h.f,ox h.p,Os h.w,map_some]
theorem PR.Ok.parts{r:PR}(h:r.Ok):∀v∈r.row,dD v:=by
 simp only [PR.row,OH,Pc,or_false];rintro u (rfl|rfl|rfl|rfl|rfl|rfl|rfl)
 .exact .str _ (by rw [cJ];decide +kernel) 'd'
 .exact qI h.n
 .exact qI h.g
 .exact .bl _
 .exact Ob h.f
 .exact qI h.p
 .exact C5 h.w
theorem PR.Ok.last{r:PR}(h:r.Ok):∃l,sg (aj r.row)=l++[59]/\59∉l:=by
 refine {aa r.row++sg (toString (cb (tx (aa r.row))):Str),by unfold aj cM;rw [bX,bX,cj];rfl,λz=>?_};rcases Pk.mp z with z|z
 .obtain ⟨m,hm,hz⟩:=List.mem_flatten.mp z;obtain ⟨u,F,rfl⟩:=Qt.mp hm;rcases Pk.mp hz with hz|hz
  .exact (h.no u F).2 hz
  .exact absurd (ON.mp hz) 'd'
 .have b:=gS (tx (aa r.row));exact (fG {b.1,'l'}).2 z
theorem PR.Ok.cC{r:PR}(h:r.Ok){k:Nat}(z:k<(aj r.row).length):br (tx ((sg (aj r.row)).take k))=none:=by
 obtain ⟨l,e,no⟩:=h.last;have hl:k<=l.length:=by rw [<- zV,e,Pa,Qm] at z;lia
 unfold br dC;split
 .rename_i hz;have h2:=congrArg sg hz;rw [cj] at h2;have:(59:Nat)∈(sg (aj r.row)).take k:=by rw [h2];unfold cM;rw [bX,bX];exact OG _ (show (59:Nat)∈sg (";":Str) by decide)
  rw [e,Rt hl] at this;exact absurd (Rf this) no
 .rfl
abbrev qe:Stmt:=top 18
abbrev mK:Stmt:=top 19
def il(i a b:Int):Bool:=decide (a<=i)&&decide (i<=b)
def vL:Sp:=λvs H Q _=>∃i,vs=[.int i]/\Q (.bl true) H
def kG:Sp:=λvs H Q _=>∃i a b,vs=[.int i,.int a,.int b]/\Q (.bl (il i a b)) H
def But(b:Addr)(H H':Hp):Prop:=∀a o,a≠b->H a=some o->H' a=some o
theorem But.of(s:zi H H'):But b H H':=λa o _ e=>s a o e
theorem But.trans(x:But b H H1)(y:But b H1 H2):But b H H2:=λa o n e=>y a o n (x a o n e)
theorem But.upd{b:Addr}{H:Hp}{o:HO}:But b H (upd H b o):=λa u n e=>by rw [ze n];exact e
section
variable {P:OL}{w:O1}{K:Frag}{mg:Str->Option Value}{base:Heap}{A:zj}
theorem Ci:zw ["value"] ["value"] (zk qe):=fsc
theorem GT(F:Fun K "is_whole" "is_whole" qe f fd)(T:Txt w K mg A):zp P w K mg base CX0 true 1 f fd ["value"] vL:=by
 refine F.o Ci λG J outer s H vs Q E z h=>?_;obtain ⟨i,rfl,q⟩:=h;refine {_,(W.h (zh (zx (anD (ji (clE (zQ jC rfl T.J7 SJ (zc (zb 0) (zc (jJ rfl T.aO boot_int (v:=.ty "int") rfl) zd)))) (jy (ntD (Hb (clE (zQ jC rfl T.J7 SJ (zc (zb 0) (zc (jJ rfl T.aS boot_bool (v:=.ty "bool") rfl) zd)))))))))))),?_};ac_rfl;refine {_,_,_,_,_,rfl,rfl,.of (.int i),rfl,?_};dsimp only [bD];exact oR {_,_,_,_,_,rfl,rfl,.of (.int i),rfl,q}
theorem HH:zw Xz Xz (zk mK):=fsc
theorem Ca(F:Fun K V8 V8 mK f fd)(T:Txt w K mg A)(G:GF P w K mg base true 1 "is_whole" ["value"] vL):zp P w K mg base CX0 true 2 f fd Xz kG:=by
 refine F.o HH λJ O outer s H vs Q E z h=>?_;obtain ⟨i,a,b,rfl,q⟩:=h;refine {_,(W.h (zh (zx (anD (ji (clE (caD (zB G z rfl (clP (zc (zb 0) zd))))) (jy (xE (oI0 iQ) (oI0 iQ) (zb 1) (zb 0) (zb 2)))))))),?_};ac_rfl;refine {i,rfl,?_};dsimp only [bD];refine oR ?_;ac_rfl;refine aY (λh=>?_) (λh=>?_)
 .have e:il i a b=decide (i<=b):=by show (decide (a<=i)&&_)=_;rw [h];rfl
  rw [<- e];exact q
 .have e:il i a b=false:=by show (decide (a<=i)&&_)=_;rw [Ry.mpr h];rfl
  rw [<- e];exact q
end
abbrev j6:Stmt:=ay (top 71) 0
abbrev sC:Stmt:=ay (top 71) 1
abbrev qD:Stmt:=ay (top 71) 3
abbrev qE:Stmt:=ay (top 71) 4
abbrev sG:Stmt:=ay (top 71) 5
abbrev pT:Stmt:=ay (top 71) 7
abbrev oG:Stmt:=ay (top 71) 8
abbrev nH:Stmt:=ay (top 71) 12
abbrev rA:Stmt:=ay (top 71) 13
abbrev rS:Stmt:=ay (top 71) 14
abbrev Tx:=Option Str
def tv:Tx->V|none=>.non|some z=>.str z
def zW(m:Int)(wl sl:Addr)(c:Int):List (Str×V):=[("width",.int m),("written",.ref wl),("at_sides",.ref sl),("counted",.int c),("left",.non),("has_stopped",.bl false)]
structure DM where
 rows:List (List Str)
 sd:Tx
structure DkA(A:zj)(H:Hp)(p wl sl:Addr)(cells:List Addr)(m:Int)(d:DM):Prop where
 ob:∃dx c,H p=some (.ins A.qx dx (zW m wl sl c))
 w:H wl=some (.lst (cells.map V.ref))
 len:cells.length=d.rows.length
 at_:∀i c,cells[i]?=some c->H c=some (.lst ((d.rows.getD i []).map V.str))
 sd:H sl=some (.lst [tv d.sd,.non])
 nd:(p::wl::sl::cells).Nodup
def ao(F:List Addr)(H H':Hp):Prop:=∀b o,H b=some o->b∉F->H' b=some o
theorem ao.trans(a:ao F H H1)(b:ao F H1 H2):ao F H H2:=λc o h z=>b c o (a c o h z) z
section
variable {A:zj}{H H':Hp}{p wl sl:Addr}{cells:List Addr}{m c:Int}{d:DM}
theorem DkA.mv(D:DkA A H p wl sl cells m d)(k:∀a o,((∃C dx fs,o = .ins C dx fs)\/∃xs,o = .lst xs)->H a=some o->H' a=some o):DkA A H' p wl sl cells m d:=by
 obtain ⟨dx,c,e⟩:=D.ob;exact {{dx,c,k _ _ (.inl {_,_,_,rfl}) e},k _ _ (.inr {_,rfl}) D.w,D.len,λi c h=>k _ _ (.inr {_,rfl}) (D.at_ i c h),k _ _ (.inr {_,rfl}) D.sd,D.nd}
theorem DkA.same(D:DkA A H p wl sl cells m d)(k:zi H H'):DkA A H' p wl sl cells m d:=D.mv λa o _ e=>k a o e
theorem DkA.keep(D:DkA A H p wl sl cells m d)(k:ao F H H')(z:∀x∈p::wl::sl::cells,x∉F):DkA A H' p wl sl cells m d:=by
 obtain ⟨dx,c,h⟩:=D.ob;exact {{dx,c,k _ _ h (z _ 'z')},k _ _ D.w (z _ 'z'),D.len,λi c G=>k _ _ (D.at_ i c G) (z c (by simp [OX G])),k _ _ D.sd (z _ 'z'),D.nd}
theorem DkA.cell(D:DkA A H p wl sl cells m d){k:Nat}(F:k<d.rows.length):∃c,cells[k]?=some c/\atI (cells.map V.ref) (k:Int)=some (.ref c)/\H c=some (.lst ((d.rows.getD k []).map V.str)):=by
 have z:k<cells.length:=by rw [D.len];exact F
 exact {cells[k],KE z,ee (by rw [OV,KE z];rfl),D.at_ k _ (KE z)}
theorem FX:(zW m wl sl c).lookup ("width":Str)=some (.int m):=by kernel_rfl
theorem jE:(zW m wl sl c).lookup ("written":Str)=some (.ref wl):=by kernel_rfl
theorem AV:(zW m wl sl c).lookup ("at_sides":Str)=some (.ref sl):=by kernel_rfl
theorem NA:(zW m wl sl c).lookup ("counted":Str)=some (.int c):=by kernel_rfl
theorem Dd:(zW m wl sl c).lookup ("left":Str)=some .non:=by kernel_rfl
theorem BD:(zW m wl sl c).lookup ("has_stopped":Str)=some (.bl false):=by kernel_rfl
theorem Ly:zG "counted" (.int x) (zW m wl sl c)=zW m wl sl x:=by kernel_rfl
theorem Lf:zG "has_stopped" (.bl false) (zW m wl sl c)=zW m wl sl c:=by kernel_rfl
theorem AG:(zW m wl sl c).length<1000:=by show 6<1000;decide
end
theorem EJ:(zW m wl sl d).lookup ("stretches":Str)=none:=by kernel_rfl
theorem C1:(zW m wl sl d).lookup ("next_place":Str)=none:=by kernel_rfl
theorem ud:(zW m wl sl d).lookup ("told":Str)=none:=by kernel_rfl
theorem G7:(zW m wl sl d).lookup ("side":Str)=none:=by kernel_rfl
theorem jB:(zW m wl sl d).lookup ("write":Str)=none:=by kernel_rfl
theorem MM:(zW m wl sl d).lookup ("put_side":Str)=none:=by kernel_rfl
theorem jM:(zW m wl sl d).lookup (Wj:Str)=none:=by kernel_rfl
theorem LF:(zW m wl sl d).lookup ("spend":Str)=none:=by kernel_rfl
theorem tZ:(zW m wl sl d).lookup (V6:Str)=none:=by kernel_rfl
section
variable {P:OL}{w:O1}{K:Frag}{mg:Str->Option Value}{base:Heap}{A:zj}
def y9(A:zj):Sp:=λvs H Q _=>∃(p dx:Addr)(m:Int),vs=[.ref p,.int 3,.int m]/\H p=some (.ins A.qx dx [])/\2<=m/\m<=32 /\
 ∀(wl sl:Addr)(cells:List Addr)(H':Hp),DkA A H' p wl sl cells m {[[],[],[]],none}->But p H H'->(∀x∈wl::sl::cells,H x=none)->Q .non H'
structure Li(H:Hp)(i:Nat)(τ:L2.St)(ys:List V)(H':Hp):Prop where
 τ:∃t,τ=[t]
 ex:∃cells:List Addr,ys=cells.map V.ref/\cells.length=i/\(∀c∈cells,H' c=some (.lst [])/\H c=none)/\cells.Nodup
 same:zi H H'
 le:i<=3
theorem KW:zw Xy Xy (zk j6):=fsc
theorem Gz:bq { kind:=.function,names:=[(OA ".0",.local),(OA "number",.local)],isGenerator:=false,isCoroutine:=false,more:=[] } (zk j6).names Xy ["number"] [none]=true:=by decide +kernel
theorem Bj:(["number"]:List Str).Nodup:=by decide +kernel
theorem Ii(F:Fun K Wo "Disk.__init__" j6 f fd)(T:Txt w K mg A)(ZR:GF P w K mg base true 2 V8 Xz kG):zp P w K mg base CX0 true 3 f fd Xy (y9 A):=by
 refine F.o KW λZ0 Ar outer s H vs Q E hr h=>?_;obtain ⟨p,dx,m,rfl,hp,m0,m1,q⟩:=h;have h1:il 3 3 16=true:=rfl;have h2:il m 2 32=true:=by show (decide _&&decide _)=true;rw [decide_eq_true m0,decide_eq_true m1];rfl
 refine {_,(W.h (zg (zM (eE (bE (caD (zB ZR hr rfl (clP (zc (zb 1) (zc (cL rfl T.UH) (zc (cL rfl T.UN) zd))))))))
   (zh aW)
   zR)
   (zg (zM (eE (bE (caD (zB ZR hr rfl (clP (zc (zb 2) (zc (cL rfl T.US) (zc (cL rfl T.UX) zd))))))))
   (zh aW)
   zR)
   (zg (sfD (cq T.pL T.UC (clE (zb 0)) (clE (zb 2))))
   (zg (sfD (cq T.pL T.rn (clE (zb 0)) (clE (cX (λ_=>rfl) (zY.of Gz) (cT rfl T.ro (zc (zb 1) zd)) (λ_ _ _ _ _=>(zC (i:=0) Bj rfl (OO rfl))) (λ_ _ _ _ _=>bW) (λ_ _ _ _ _=>(bw zd))))))
   (zg (sfD (cq T.pL T.z4 (clE (zb 0)) (clE (bw (zc cE (zc cE zd))))))
   (zg (sfD (cq T.pL T.Ux (clE (zb 0)) (clE zq)))
   (zg (sfD (cq T.pL T.Hx (clE (zb 0)) (clE cE)))
   (zh (sfD (cq T.pL T.vx (clE (zb 0)) (clE eG)))))))))))),?_}
 ac_rfl;refine {3,3,16,rfl,?_};erw [h1];refine {m,2,32,rfl,?_};erw [h2,hp,zu,zG,cz];refine {'d','d','d',aN.rng (Li (upd H p (.ins A.qx dx [("width",.int m)]))) (λi τ ys H' I=>?_) {{_,rfl},{[],rfl,rfl,'z',List.nodup_nil},zi.refl _,'d'} ?_ ?_}
 .obtain ⟨cells,e,l,_⟩:=I.ex;have:=I.le;rw [e,OB,l];exact aB 'l'
 .intro N i τ ys H' hi I hN;obtain ⟨t,rfl⟩:=I.τ;obtain ⟨cells,e,l,O,Z⟩:=I.ex;ac_rfl;refine {'d',λc H2 n2 _=>hN _ _ _ {{_,rfl},{cells++[c],by rw [e,Ph];rfl,by simp [l],λb G=>?_,?_},I.same.trans n2.same,hi}}
  .rcases Pk.mp G with G|G
   .exact {n2.same _ _ (O b G).1,(O b G).2}
   .rw [ON] at G;subst G;exact {n2.at_,I.same.free n2.no}
  .refine QK.mpr {Z,'z',λa ha b G=>?_};rw [ON] at G;subst G;exact zz (O a ha).1 n2.no
 .intro τ ys H1 I D H2 U;obtain ⟨cells,e,l,O,Z⟩:=I.ex;have e1:H2 p=some (.ins A.qx dx [("width",.int m)]):=U.same _ _ (I.same _ _ zu);have w1:zG "written" (.ref D) [(("width":Str),V.int m)]=[(("width":Str),V.int m),("written",.ref D)]:=by kernel_rfl
  refine {dx,_,e1,by show 1<1000;decide,'d',λs1 H3 n3 _=>?_};rw [w1] at n3;have e3:H3 p=some (.ins A.qx dx [("width",.int m),("written",.ref D)]):=n3.same _ _ zu;have w2:zG "at_sides" (.ref s1) [(("width":Str),V.int m),("written",.ref D)]=[(("width":Str),V.int m),("written",.ref D),("at_sides",.ref s1)]:=by kernel_rfl
  have w3:zG "counted" (.int 0) [(("width":Str),V.int m),("written",.ref D),("at_sides",.ref s1)]=[(("width":Str),V.int m),("written",.ref D),("at_sides",.ref s1),("counted",.int 0)]:=by kernel_rfl
  have w4:zG "left" .non [(("width":Str),V.int m),("written",.ref D),("at_sides",.ref s1),("counted",.int 0)]=[(("width":Str),V.int m),("written",.ref D),("at_sides",.ref s1),("counted",.int 0),("left",.non)]:=by kernel_rfl
  have w5:zG "has_stopped" (.bl false) [(("width":Str),V.int m),("written",.ref D),("at_sides",.ref s1),("counted",.int 0),("left",.non)]=zW m D s1 0:=by kernel_rfl
  refine {dx,_,e3,?_};rw [w2,w3,w4,w5,gA,gA,gA];refine {by show 2<1000;decide,by show 3<1000;decide,by show 4<1000;decide,by show 5<1000;decide,?_};have pD:D≠p:=λz=>by have:=U.no;rw [z,I.same _ _ zu] at this;cases this
  have ps:s1≠p:=λz=>by have:=n3.no;rw [z,zu] at this;cases this
  have k2:∀b o,b≠p->H2 b=some o->upd H3 p (.ins A.qx dx (zW m D s1 0)) b=some o:=λb o G h=>by rw [ze G];exact n3.same _ _ (by rw [ze G];exact h)
  have k0:∀b o,b≠p->H b=some o->H2 b=some o:=λb o G h=>U.same _ _ (I.same _ _ (by rw [ze G];exact h));have J:=U.at_;rw [e] at J;have l3:cells.length=3:=l;have fr:∀b,b≠p->H2 b=none->H b=none:=λb G h=>by
   cases eb:H b with
   | none=>rfl
   | some o=>rw [k0 b o G eb] at h;cases h
  have cp:∀x∈cells,x≠p:=λx hx z=>by have:=(O x hx).2;rw [z,zu] at this;cases this
  have S:H2 s1=none:=by have:=n3.no;rw [ze ps] at this;exact this
  have D0:H1 D=none:=U.no;have fD:H D=none:=by
   cases eb:H D with
   | none=>rfl
   | some o=>have:=I.same D o (by rw [ze pD];exact eb);rw [D0] at this;cases this
  refine q D s1 cells _ {{dx,0,zu},k2 _ _ pD J,l3,λi x hx=>?_,by rw [ze ps];exact n3.at_,?_} (λb o G h=>k2 b o G (k0 b o G h)) λx hx=>?_
  .have hm:=OX hx;have hi:i<3:=by rw [<- l3];exact (OE.mp hx).1
   have:(([[],[],[]]:List (List Str)).getD i [])=[]:=by
    match i,hi with
    | 0,_=>rfl
    | 1,_=>rfl
    | 2,_=>rfl
   rw [show (DM.mk [[],[],[]] none).rows=[[],[],[]] from rfl,this];exact k2 _ _ (cp x hm) (U.same _ _ (O x hm).1)
  .have cs:∀x∈cells,H2 x=some (.lst []):=λx hx=>U.same _ _ (O x hx).1;refine QJ.mpr {λz=>?_,QJ.mpr {λz=>?_,QJ.mpr {λz=>?_,Z}}}
   .rcases OH.mp z with z|z
    .exact pD z.symm
    .rcases OH.mp z with z|z
     .exact ps z.symm
     .exact cp _ z rfl
   .rcases OH.mp z with z|z
    .rw [z,S] at J;cases J
    .have:=(O _ z).1;rw [D0] at this;cases this
   .have:=cs _ z;rw [S] at this;cases this
  .rcases OH.mp hx with rfl|hx
   .exact fD
   .rcases OH.mp hx with rfl|hx
    .exact fr _ ps S
    .have:=(O x hx).2;rw [ze (cp x hx)] at this;exact this
def vy(A:zj):Sp:=λvs H Q _=>∃(p wl sl:Addr)(cells:List Addr)(m:Int)(d:DM),vs=[.ref p]/\DkA A H p wl sl cells m d/\Q (.int d.rows.length) H
def x5(A:zj):Sp:=λvs H Q _=>∃(p wl sl:Addr)(cells:List Addr)(m:Int)(d:DM)(k:Nat),vs=[.ref p,.int k]/\DkA A H p wl sl cells m d/\k<d.rows.length/\Q (.int (d.rows.getD k []).length) H
def w8(A:zj):Sp:=λvs H Q _=>∃(p wl sl:Addr)(cells:List Addr)(m:Int)(d:DM)(k:Int),vs=[.ref p,.int k]/\DkA A H p wl sl cells m d/\((k=0/\Q (tv d.sd) H)\/(k=1/\Q .non H))
def qV(A:zj):Sp:=λvs H Q _=>∃(p wl sl:Addr)(cells:List Addr)(m:Int)(d:DM)(k j:Nat)(z:Str),vs=[.ref p,.int k,.int j]/\DkA A H p wl sl cells m d/\(d.rows.getD k [])[j]?=some z/\Q (.str z) H
theorem GH:zw YM YM (zk sC):=fsc
theorem Fj(F:Fun K "stretches" "Disk.stretches" sC f fd)(T:Txt w K mg A):zp P w K mg base CX0 true 1 f fd YM (vy A):=by
 refine F.o GH λG J outer s H vs Q E z h=>?_;obtain ⟨p,wl,sl,cells,m,d,rfl,D,q⟩:=h;obtain ⟨dx,c,h1⟩:=D.ob;refine {_,(W.h (zh (zx (zQ cu rfl T.tj Pi (zc (fD (az T.pL T.rn (clE (zb 0)))) zd))))),?_};erw [h1,D.w,jE,OB,D.len];exact q
theorem JP:zw WA WA (zk qD):=fsc
theorem KQ(F:Fun K "next_place" "Disk.next_place" qD f fd)(T:Txt w K mg A):zp P w K mg base CX0 true 1 f fd WA (x5 A):=by
 refine F.o JP λS U outer s H vs Q E O h=>?_;obtain ⟨p,wl,sl,cells,m,d,k,rfl,D,G,q⟩:=h;obtain ⟨dx,c,h1⟩:=D.ob;obtain ⟨x,_,z,J⟩:=D.cell G;refine {_,(W.h (zh (zx (zQ cu rfl T.tj Pi (zc (zL zX (fD (az T.pL T.rn (clE (zb 0)))) (zb 1) (λ_ _=>rfl)) zd))))),?_};erw [h1,D.w,jE,z,J,OB];exact q
theorem xk:zw ["self","stretch","place","texts"] Xb (zk qE):=fsc
theorem Gk(F:Fun K "told" "Disk.told" qE f fd)(T:Txt w K mg A):zp P w K mg base CX0 true 1 f fd Xb (qV A):=by
 refine F.o xk λU Ar outer s H vs Q E S h=>?_;obtain ⟨p,wl,sl,cells,m,d,k,j,z,rfl,D,hz,q⟩:=h;have J:k<d.rows.length:=by
  refine Qd λh=>?_;rw [OY,QQ (Nat.le_of_not_lt h)] at hz;cases hz
 obtain ⟨dx,c,h1⟩:=D.ob;obtain ⟨x,_,G,O⟩:=D.cell J;have Z:=(OE.mp hz).1;have e:decide ((j:Int)<((d.rows.getD k []).length:Nat))=true:=decide_eq_true 'l';refine {_,(W.h (zg (zy (i:=3) xk.nd rfl (OO rfl) (zL zX (fD (az T.pL T.rn (clE (zb 0)))) (zb 1) (λ_ _=>rfl)))
   (zh (zx (lY (tD (zS (clO (oI0 kQ)) (clE (zb 2)) (clE (zQ cu rfl T.tj Pi (zc (zb 3) zd))) (zK _))) (zL zX (zb 3) (zb 2) (λ_ _=>rfl)) cE))))),?_}
 erw [h1,D.w,jE,G,O,OB,e];exact {_,ee (by rw [OV,hz];rfl),q}
theorem Je:zw ["self","k"] ["self","k"] (zk sG):=fsc
theorem BW(F:Fun K "side" "Disk.side" sG f fd)(T:Txt w K mg A):zp P w K mg base CX0 true 1 f fd ["self","k"] (w8 A):=by
 refine F.o Je λG J outer s H vs Q E z h=>?_;obtain ⟨p,wl,sl,cells,m,d,k,rfl,D,q⟩:=h;obtain ⟨dx,c,h1⟩:=D.ob;refine {_,(W.h (zh (zx (zL zX (fD (az T.pL T.z4 (clE (zb 0)))) (zb 1) (λ_ _=>rfl))))),?_};erw [h1,AV,D.sd];rcases q with ⟨rfl,q⟩|⟨rfl,q⟩
 .exact {_,rfl,q}
 .exact {_,rfl,q}
def jL(A:zj):Sp:=λvs H Q _=>∃(p dx wl sl:Addr)(m c:Int),vs=[.ref p]/\H p=some (.ins A.qx dx (zW m wl sl c))/\Q .non H
def uX(A:zj):Sp:=λvs H Q _=>∃(p dx wl sl:Addr)(m c n:Int),vs=[.ref p,.int n]/\H p=some (.ins A.qx dx (zW m wl sl c))/\Q (.int n) (upd H p (.ins A.qx dx (zW m wl sl (c+n))))
def nN(A:zj):Sp:=λvs H Q _=>∃(p dx wl sl:Addr)(m c:Int)(z:Str),vs=[.ref p,.str z]/\H p=some (.ins A.qx dx (zW m wl sl c))/\0<z.length/\z.length<=100000/\Q (.str z) (upd H p (.ins A.qx dx (zW m wl sl (c+z.length))))
theorem I0:zw YM YM (zk nH):=fsc
theorem DX(F:Fun K Wj "Disk.refuse_if_stopped" nH f fd)(T:Txt w K mg A):zp P w K mg base CX0 true 1 f fd YM (jL A):=by
 refine F.o I0 λG J outer s H vs Q E z h=>?_;obtain ⟨p,dx,wl,sl,m,c,rfl,h1,q⟩:=h;refine {_,(W.h (zh (zM (bE (fD (az T.pL T.vx (clE (zb 0)))))
   (zh aW)
   zR))),?_}
 erw [h1,BD];exact q
theorem qm:zw ["self",Wf,"done"] ["self",Wf] (zk rA):=fsc
theorem Fh(F:Fun K "spend" "Disk.spend" rA f fd)(T:Txt w K mg A):zp P w K mg base CX0 true 1 f fd ["self",Wf] (uX A):=by
 refine F.o qm λG J outer s H vs Q E z h=>?_;obtain ⟨p,dx,wl,sl,m,c,n,rfl,h1,q⟩:=h;refine {_,(W.h (zg (zy (i:=2) qm.nd rfl (OO rfl) (zb 1))
   (zg (zM (tD (zS (clO jH) (clE (fD (az T.pL T.Hx (clE (zb 0))))) (clE cE) (zK _)))
   (zg (zy (i:=2) qm.nd rfl (OO rfl) (zQ (wm rfl) rfl T.bc boot_min (zc (zb 1) (zc (fD (az T.pL T.Hx (clE (zb 0)))) zd))))
   (zh (qJ T.pL T.Hx (zb 0) (zb 2) HV)))
   zR)
   (zg (qJ T.pL T.Ux (zb 0) (zb 2) xt)
   (zg (sfD (cq T.pL T.vx (clE (zb 0)) (clE (eA (oI0 kQ) (zb 2) (zb 1) (zK _)))))
   (zh (zx (zb 2)))))))),?_}
 have e:decide (n<n)=false:=by simp
 erw [h1,Dd,NA,zu,gA,Ly,e,Lf];exact ⟨AG,AG,q⟩
theorem yq:zw ["self","text","done"] Xh (zk rS):=fsc
theorem JC(F:Fun K V6 "Disk.first_signs" rS f fd)(T:Txt w K mg A)(J:GM P w K mg base true 1 A.qx "spend" ["self",Wf] (uX A))(S:GM P w K mg base true 1 A.qx Wj YM (jL A)):zp P w K mg base CX0 true 2 f fd Xh (nN A):=by
 refine F.o yq λU Z outer s H vs Q E G h=>?_;obtain ⟨p,dx,wl,sl,m,c,z,rfl,h1,z0,z1,q⟩:=h;have O:_<cLine:=Px (zT G);refine {_,(W.h (zg (zy (i:=2) yq.nd rfl (OO rfl) (mD (bc (clE (zb 0)) T.pL J G (clP (zc (zQ cu rfl T.tj Pi (zc (zb 1) zd)) zd)))))
   (zg (zM (tD (zS (clO (oE (aU O))) (clE (zb 2)) (clE zq) (zK _)))
   (zh (aL (m0D (zH (clE (zb 0)) T.pL S G))))
   zR)
   (zh (zx (dA dU (zb 1) dF (dG (zb 2)))))))),?_}
 erw [h1,LF];refine {aQ 'l',p,dx,wl,sl,m,c,z.length,rfl,h1,?_};have e:decide ((z.length:Int)=0)=false:=by simp;lia
 erw [e];have es:P3 z none (some (z.length:Int))=z:=by rw [mi (by rw [zV];exact Ox _),<- zV,OQ (Ox _),dO]
 rw [es];exact {aQ 'l',q}
theorem DkA.obj{p wl sl dx:Addr}{d:DM}(D:DkA A H p wl sl cells m d):DkA A (upd H p (.ins A.qx dx (zW m wl sl c))) p wl sl cells m d:=by
 have F:=QJ.mp D.nd;have ne:∀b∈wl::sl::cells,b≠p:=λb G z=>F.1 (by rw [<- z];exact G);exact {⟨dx,c,zu⟩,by rw [ze (ne wl 'z')];exact D.w,D.len,λi x hx=>by rw [ze (ne x (by simp [OX hx]))];exact D.at_ i x hx,by rw [ze (ne sl 'z')];exact D.sd,D.nd}
theorem DkA.bp{p wl sl c:Addr}{d:DM}{k:Nat}(D:DkA A H p wl sl cells m d)(G:cells[k]?=some c):DkA A (upd H c (.lst (r.map V.str))) p wl sl cells m {d.rows.set k r,d.sd}:=by
 have hm:=OX G;have nd:=D.nd;simp only [QJ,OH,not_or] at nd;obtain ⟨⟨n1,n2,W⟩,⟨n4,U⟩,n6,n7⟩:=nd;obtain ⟨dx,cn,h⟩:=D.ob;have Z:k<d.rows.length:=by rw [<- D.len];exact (OE.mp G).1
 refine {{dx,cn,by rw [ze (λz=>W (by rw [z];exact hm))];exact h},by rw [ze (λz=>U (by rw [z];exact hm))];exact D.w,by rw [List.length_set];exact D.len,λi b F=>?_,by rw [ze (λz=>n6 (by rw [z];exact hm))];exact D.sd,D.nd};by_cases hi:i=k
 .subst hi;rw [G] at F;cases F;rw [zu];simp [OY,Z]
 .have J:b≠c:=λz=>by
   subst z;obtain ⟨i1,O⟩:=OE.mp F;obtain ⟨i2,S⟩:=OE.mp G;exact hi ((List.getElem_inj n7).mp (O.trans S.symm))
  rw [ze J,D.at_ i b F];simp [OY,SG (Pe hi)]
def DM.add(d:DM)(k:Nat)(z:Str):DM:={d.rows.set k (d.rows.getD k []++[z]),d.sd}
def pV(A:zj):Sp:=λvs H Q _=>∃(p wl sl:Addr)(cells:List Addr)(m:Int)(d:DM)(k:Nat)(z:Str),vs=[.ref p,.int k,.str z]/\DkA A H p wl sl cells m d/\k<d.rows.length/\((d.rows.getD k []).length:Int)<m/\m<=32/\0<z.length/\z.length<=100000 /\
 ∀H',DkA A H' p wl sl cells m (d.add k z)->ao (p::wl::sl::cells) H H'->Q (.int (d.rows.getD k []).length) H'
def vQ(A:zj):Sp:=λvs H Q _=>∃(p wl sl:Addr)(cells:List Addr)(m:Int)(d:DM)(z:Str),vs=[.ref p,.int 0,.str z]/\DkA A H p wl sl cells m d/\0<z.length/\z.length<=100000 /\
 ∀H',DkA A H' p wl sl cells m {d.rows,some z}->ao (p::wl::sl::cells) H H'->Q .non H'
theorem sy:zw ["self","stretch","text","texts","place"] WM (zk pT):=fsc
theorem EL(F:Fun K "write" "Disk.write" pT f fd)(T:Txt w K mg A)(ZY:GM P w K mg base true 2 A.qx V6 Xh (nN A))(Z8:GM P w K mg base true 1 A.qx Wj YM (jL A)):zp P w K mg base CX0 true 3 f fd WM (pV A):=by
 refine F.o sy λZ0 Ar outer s H vs Q E J h=>?_;obtain ⟨p,wl,sl,cells,m,d,k,z,rfl,D,hk,hf,ab,z0,z1,q⟩:=h;have hu:_<cLine:=Px (zT J);obtain ⟨dx,O,h1⟩:=D.ob;obtain ⟨c,Z,ha,hH⟩:=D.cell hk;have hm:=OX Z;refine {_,(W.h (zg (aL (m0D (zH (clE (zb 0)) T.pL Z8 J)))
   (zg (zy (i:=3) sy.nd rfl (OO rfl) (zL zX (fD (az T.pL T.rn (clE (zb 0)))) (zb 1) (λ_ _=>rfl)))
   (zg (zy (i:=4) sy.nd rfl (OO rfl) (zQ cu rfl T.tj Pi (zc (zb 3) zd)))
   (zg (zM (tD (zS (clO (oE (aU hu))) (clE (zb 4)) (clE (fD (az T.pL T.UC (clE (zb 0))))) (zK _)))
   (zh aW)
   zR)
   (zg (aL (eZ (zb 3) (mD (bc (clE (zb 0)) T.pL ZY J (clP (zc (zb 2) zd))))))
   (zg (aL (m0D (zH (clE (zb 0)) T.pL Z8 J)))
   (zh (zx (zb 4)))))))))),?_}
 erw [h1,jM];refine {p,dx,wl,sl,m,O,rfl,h1,?_};have e:decide (((d.rows.getD k []).length:Int)=m)=false:=decide_eq_false 'l';erw [h1,D.w,jE,FX,ha,hH,OB,e,tZ];refine {p,dx,wl,sl,m,O,z,rfl,h1,z0,z1,?_};have D1:=D.obj (dx:=dx) (c:=O+z.length);have g1:=D1.at_ k c Z;have U:=D1.bp (r:=d.rows.getD k []++[z]) Z;rw [Ph] at U;obtain ⟨Xm,S,G⟩:=U.ob;have G:upd (upd H p (.ins A.qx dx (zW m wl sl (O+z.length)))) c (.lst ((d.rows.getD k []).map V.str++[.str z])) p=_:=G;erw [g1,G,jM];refine {by rw [OB];exact aB 'l',p,Xm,wl,sl,m,S,rfl,G,?_};ac_rfl;refine q _ U λb o hb hn=>?_;rw [ze (λz=>hn (by rw [z];simp [hm])),ze (λz=>hn (by rw [z];simp))];exact hb
theorem Bz:zw WD WD (zk oG):=fsc
theorem E8(F:Fun K "put_side" "Disk.put_side" oG f fd)(T:Txt w K mg A)(ZY:GM P w K mg base true 2 A.qx V6 Xh (nN A))(Z:GM P w K mg base true 1 A.qx Wj YM (jL A)):zp P w K mg base CX0 true 3 f fd WD (vQ A):=by
 refine F.o Bz λZ0 Ar outer s H vs Q E S h=>?_;obtain ⟨p,wl,sl,cells,m,d,z,rfl,D,z0,z1,q⟩:=h;obtain ⟨dx,G,h1⟩:=D.ob;refine {_,(W.h (zg (aL (m0D (zH (clE (zb 0)) T.pL Z S)))
   (zg (eY (mD (bc (clE (zb 0)) T.pL ZY S (clP (zc (zb 2) zd)))) (fO (fD (az T.pL T.z4 (clE (zb 0)))) (zb 1) jW))
   (zh (aL (m0D (zH (clE (zb 0)) T.pL Z S))))))),?_}
 erw [h1,jM];refine {p,dx,wl,sl,m,G,rfl,h1,?_};erw [h1,tZ];refine {p,dx,wl,sl,m,G,z,rfl,h1,z0,z1,?_};have J:=D.obj (dx:=dx) (c:=G+z.length);erw [zu,AV];have nd:=D.nd;simp only [QJ,OH,not_or] at nd;obtain ⟨⟨n1,n2,n3⟩,⟨n4,n5⟩,n6,n7⟩:=nd;have O:upd (upd H p (.ins A.qx dx (zW m wl sl (G+z.length)))) sl (.lst [.str z,.non]) p=some (.ins A.qx dx (zW m wl sl (G+z.length))):=by rw [ze n2,zu]
 refine {_,J.sd,0,rfl,dx,_,O,jM,p,dx,wl,sl,m,_,rfl,O,?_};refine q _ {{dx,_,O},by rw [ze n4];exact J.w,J.len,λi x hx=>by rw [ze (λz=>n6 (by rw [<- z];exact OX hx))];exact J.at_ i x hx,zu,J.nd} λb o hb U=>?_;rw [ze (λz=>U (by rw [z];simp)),ze (λz=>U (by rw [z];simp))];exact hb
end
abbrev gg:Stmt:=top 40
abbrev mZ:Stmt:=top 38
abbrev rV:Stmt:=top 39
structure j8(d:DM):Prop where
 ok:∀r∈d.rows,r.length<=32/\∀z∈r,asc z=true/\z.length<=1000
 len:d.rows.length<=16
abbrev Tri:=List V×Nat×Nat
def FO:List V->Int|_::.int k::_=>k|_=>0
def one(o:Option (List V))(k j:Nat):List Tri:=match o with|some row=>[(row,k,j)]|none=>[]
theorem B8(o:Option (List V))(k j:Nat):(one o k j).length<=1:=by cases o<;>simp [one]
def rIn(l:List Str)(k:Nat):Nat->List Tri
 | 0=>[]
 | j+1=>rIn l k j++one (br (l.getD j "")) k j
def wU(rows:List (List Str)):Nat->List Tri
 | 0=>[]
 | i+1=>wU rows i++rIn (rows.getD i []) i (rows.getD i []).length
def ip(H:Hp)(a:Addr)(t:Tri):Prop:=∃r,H a=some (.tup [.ref r,.int t.2.1,.int t.2.2])/\H r=some (.tup t.1)
def bO(H:Hp)(as:List Addr)(ts:List Tri):Prop:=Paired (ip H) as ts
def zI(H H':Hp):Prop:=∀a o,(∀ps,o≠.tbl ps)->H a=some o->H' a=some o
theorem zI.of(s:zi H H'):zI H H':=λa o _ e=>s a o e
theorem zI.refl:zI H H:=λ_ _ _ e=>e
theorem zI.trans(x:zI H H1)(y:zI H1 H2):zI H H2:=λa o n e=>y a o n (x a o n e)
theorem zI.cg(x:gY H H' P)(h:H P=some (.tbl ps)):zI H H':=λa o n e=>x a o (λz=>by subst z;rw [h] at e;cases e;exact n _ rfl) e
theorem zI.lam(x:gY H H' P)(h:bV pos q H P):zI H H':=by
 rcases h with h|⟨_,_,_,_,h,_⟩
 .exact zI.cg x h
 .exact zI.cg x h
theorem zI.list(s:zI H H')(h:H a=some (.lst xs)):H' a=some (.lst xs):=s _ _ (λ_=>nofun) h
theorem zI.tup{H H':Hp}(s:zI H H'){a:Addr}{xs:List V}(h:H a=some (.tup xs)):H' a=some (.tup xs):=s _ _ (λ_=>nofun) h
theorem DkA.vr{p wl sl:Addr}{d:DM}(D:DkA A H p wl sl cells m d)(s:zI H H'):DkA A H' p wl sl cells m d:=D.mv λa o h e=>s a o (λps z=>by subst z;rcases h with ⟨_,_,_,h⟩|⟨_,h⟩<;>cases h) e
theorem ip.vr{t:Tri}(h:ip H a t)(s:zI H H'):ip H' a t:=let ⟨r,e1,e2⟩:=h;{r,s.tup e1,s.tup e2}
theorem bO.vr(h:bO H as ts)(s:zI H H'):bO H' as ts:=Paired.wa h λ_ _ r=>r.vr s
theorem bO.same(h:bO H as ts)(s:zi H H'):bO H' as ts:=h.vr (.of s)
theorem di{α β:Type}{R:α->β->Prop}{J F:List α}{z G:List β}(h1:Paired R J z)(h2:Paired R F G):Paired R (J++F) (z++G):=by
 induction h1 with
 | nil=>exact h2
 | cons r _ O=>exact .cons r O
theorem C3{row:List V}(h:br z=some row):∃y k ys,row = .str y::.int k::ys:=by
 unfold br at h;obtain ⟨b,_,h⟩:=Su.mp h;cases e:Pu (P3 b none (some (-1))) (c1 32) with
 | nil=>rw [e] at h;cases h
 | cons w ws =>
  rw [e,jq] at h;obtain ⟨ks,F,h⟩:=Su.mp h;split at h
  .obtain ⟨vs,hv,rfl⟩:=O2.mp h;have:∃ks',ks=("number":Str)::ks':=by
    unfold gX at F;split at F
    .cases F;exact {_,rfl}
    .split at F
     .cases F;exact {_,rfl}
     .split at F
      .cases F;exact {_,rfl}
      .split at F
       .cases F;exact {_,rfl}
       .split at F
        .cases F;exact {_,rfl}
        .cases F
   obtain ⟨ks',rfl⟩:=this;cases ws with
   | nil=>rename_i hl;cases hl
   | cons z zs =>
    have G:(bA "number" z).bind (λv=>(bz ks' zs).map (v::·))=some vs:=hv;obtain ⟨v,h1,h2⟩:=Su.mp G;obtain ⟨J,_,rfl⟩:=O2.mp h2;have:∃k,v = .int k:=by
     unfold bA at h1;by_cases hz:cw z=true
     .rw [if_pos {rfl,hz}] at h1;cases h1;exact {_,rfl}
     .rw [if_neg (λq=>hz q.2),if_neg (λq=>absurd q.1 'd'),if_neg (λq=>absurd q.1 'd'),if_neg (λq=>absurd q.1 'd')] at h1;cases h1
    obtain ⟨k,rfl⟩:=this;exact {w,k,J,rfl}
  .cases h
theorem Kh{α:Type}{l:List α}{x:α}(h:j<l.length):l.getD j x∈l:=by
 rw [OY,KE h];exact Qb h
section
variable {P:OL}{w:O1}{K:Frag}{mg:Str->Option Value}{base:Heap}{A:zj}
def xS(A:zj):Sp:=λvs H Q _=>∃(p wl sl:Addr)(cells:List Addr)(m:Int)(d:DM)(k j:Nat)(z:Str),vs=[.ref p,.int k,.int j]/\DkA A H p wl sl cells m d/\(d.rows.getD k [])[j]?=some z/\asc z=true/\z.length<=1000 /\
 (∀row,br z=some row->∀r H',zi H H'->H' r=some (.tup row)->Q (.ref r) H')/\(br z=none->∀H',zi H H'->Q .non H')
theorem Oc:zw WR WR (zk mZ):=fsc
theorem Ol(F:Fun K "row_at" "row_at" mZ f fd)(T:Txt w K mg A)(ZE:GM P w K mg base true 1 A.qx "told" Xb (qV A))(U:GX P w K mg base true 5 "read_row" X6 (yj A)):zp P w K mg base CX0 true 7 f fd WR (xS A):=by
 refine F.o Oc λZ0 Ar outer s H vs Q E G h=>?_;obtain ⟨p,wl,sl,cells,m,d,k,j,z,rfl,D,hz,J,a2,O,q2⟩:=h;refine {_,(W.h (zh (tW rfl rfl {rfl,rfl} T.Uy rfl T.UG (λGo Ex=>(zh (zx (cXD (mf uP U G rfl (clP (zc (mD (bc (clE (zb 0)) T.pL ZE G (clP (zc (zb 1) (zc (zb 2) zd))))) zd))))))) (λGo ea=>by
   have G:=G.mark (v:=some (.ref ea));exact (zh (zx cE)))))),?_}
 obtain ⟨dx,c,h1⟩:=D.ob;erw [h1,ud];refine {p,wl,sl,cells,m,d,k,j,z,rfl,D,hz,z,rfl,J,'l',O,λS H1 s1=>{_,rfl,T.Uy,T.aT,λea oe Z _=>q2 S _ λa o e=>by rw [ze (zz (s1 _ _ e) Z)];exact s1 _ _ e}}
def vb(A:zj):Sp:=λvs H Q _=>∃(p wl sl:Addr)(cells:List Addr)(m:Int)(d:DM)(k:Nat),vs=[.ref p,.int k]/\DkA A H p wl sl cells m d/\j8 d/\k<d.rows.length /\
 ∀l as H',zi H H'->H l=none->H' l=some (.lst (as.map V.ref))->bO H' as (rIn (d.rows.getD k []) k (d.rows.getD k []).length)->Q (.ref l) H'
structure Mx(H:Hp)(p l:Addr)(k:Nat)(r:List Str)(j:Nat)(σ:L2.St)(H':Hp):Prop where
 ex:∃t1 t2,σ=[some (V.ref p),some (.int k),some (.ref l),t1,t2]
 same:zi H H'
 no:H l=none
 ls:∃as:List Addr,H' l=some (.lst (as.map V.ref))/\bO H' as (rIn r k j)/\as.length<=j
theorem l6:zw ["disk","stretch","found","place","row"] ["disk","stretch"] (zk rV):=fsc
theorem By(F:Fun K "rows_in" "rows_in" rV f fd)(T:Txt w K mg A)(ZC:GM P w K mg base true 1 A.qx "next_place" WA (x5 A))(Yh:GF P w K mg base true 7 "row_at" WR (xS A)):zp P w K mg base CX0 true 8 f fd ["disk","stretch"] (vb A):=by
 refine F.o l6 λZ0 Ar outer s H vs Q E hr h=>?_;obtain ⟨p,wl,sl,cells,m,d,k,rfl,D,tx,hk,q⟩:=h;refine {_,(W.h (zg (zy (i:=2) l6.nd rfl (OO rfl) (bw zd))
   (zg (bG Qp.never (λ_=>rfl) (cT rfl T.ro (zc (mD (bc (clE (zb 0)) T.pL ZC hr (clP (zc (zb 1) zd)))) zd)) (zC (i:=3) l6.nd rfl (OO rfl))
   (zg (zy (i:=4) l6.nd rfl (OO rfl) (caD (zB Yh hr rfl (clP (zc (zb 0) (zc (zb 1) (zc (zb 3) zd)))))))
   (zh (zM (tD (zS (clO jH) (clE (zb 4)) (clE cE) (zK _)))
   (zh (aL (eZ (zb 2) (bS (zc (zb 4) (zc (zb 1) (zc (zb 3) zd)))))))
   zR))))
   (zh (zx (zb 2)))))),?_}
 have Z:d.rows.getD k []∈d.rows:=by rw [OY,KE hk];exact Qb hk
 have ai:=(tx.ok _ Z).1;ac_rfl;refine {'d',λl H1 n1 _=>?_};have D1:=D.same n1.same;obtain ⟨dx,c,h1⟩:=D1.ob;erw [h1,C1];refine {p,wl,sl,cells,m,d,k,rfl,D1,hk,?_};ac_rfl;have er:(((d.rows.getD k []).length:Nat):Int).toNat=(d.rows.getD k []).length:=by lia
 rw [er];refine {'l','l',aC.rng (Mx H p l k (d.rows.getD k [])) {{_,_,rfl},n1.same,n1.no,[],n1.at_,.nil,Ox _} ?_ ?_}
 .rintro j σ H2 hj ⟨⟨t1,t2,rfl⟩,U,S,as,hl,ht,ha⟩;have ej:(0+(j:Int))=((j:Nat):Int):=by lia
  have hz:(d.rows.getD k [])[j]?=some (d.rows.getD k [])[j]:=KE hj;obtain ⟨za,zl⟩:=(tx.ok _ Z).2 _ (Qb hj);have eg:(d.rows.getD k []).getD j ""=(d.rows.getD k [])[j]:=by rw [OY,hz];rfl
  erw [ej];refine {p,wl,sl,cells,m,d,k,j,_,rfl,D.same U,hz,za,zl,λrow O r H3 J h3=>?_,λhn H3 J=>?_}
  .have G:=J _ _ hl;erw [G];refine {'d',λa H4 n4=>?_};have ab:=n4.same _ _ G;erw [ab];have al:a≠l:=λz=>by have:=n4.no;rw [z,G] at this;cases this
   have rl:r≠l:=λz=>by rw [z,G] at h3;cases h3
   refine {by rw [OB];exact aB 'l',{_,_,rfl},λc o e=>?_,S,as++[a],by rw [zu];simp,?_,by simp;lia}
   .rw [ze (zz e S)];exact n4.same _ _ (J _ _ (U _ _ e))
   .have e1:rIn (d.rows.getD k []) k (j+1)=rIn (d.rows.getD k []) k j++[(row,k,j)]:=by
     show rIn _ k j++_=_;rw [eg,O];rfl
    rw [e1];refine di (Paired.wa ht λx t ⟨r',g1,g2⟩=>?_) (.cons {r,?_,?_} .nil)
    .refine {r',?_,?_}
     .rw [ze (λz=>by rw [z,hl] at g1;cases g1)];exact n4.same _ _ (J _ _ g1)
     .rw [ze (λz=>by rw [z,hl] at g2;cases g2)];exact n4.same _ _ (J _ _ g2)
    .rw [ze al];exact n4.at_
    .rw [ze rl];exact n4.same _ _ h3
  .ac_rfl;refine {{_,_,rfl},U.trans J,S,as,J _ _ hl,?_,'l'};have e1:rIn (d.rows.getD k []) k (j+1)=rIn (d.rows.getD k []) k j:=by
    show rIn _ k j++_=_;rw [eg,hn];exact Qe _
   rw [e1];exact bO.same ht J
 .rintro σ H2 ⟨⟨t1,t2,rfl⟩,U,S,as,hl,ht,ha⟩;ac_rfl;exact q l as H2 U S hl ht
end
def zP(t:Tri):Int:=FO t.1
theorem DH{α β:Type}{f:α->β}{zs m:List β}(h:zs.Perm m):∀{L:List α},m=L.map f->∃G:List α,G.Perm L/\zs=G.map f:=by
 induction h with
 | nil=>intro L e;cases L with
  | nil=>exact {[],.nil,rfl}
  | cons a L=>cases e
 | cons x _ U =>
  intro L e;cases L with
  | nil=>cases e
  | cons a L =>
   rw [Pf] at e;injection e with F z
   obtain ⟨G,p,rfl⟩:=U z;exact {a::G,p.cons a,by rw [Pf,F]}
 | swap x y l =>
  intro L e;cases L with
  | nil=>cases e
  | cons a L =>
   cases L with
   | nil=>rw [Pf] at e;injection e with _ z;cases z
   | cons b L =>
    rw [Pf,Pf] at e;injection e with F z
    injection z with z e3
    exact {b::a::L,.swap ..,by rw [Pf,Pf,F,z,e3]}
 | trans _ _ J O =>
  intro L e;obtain ⟨W,S,F⟩:=O e;obtain ⟨L2,p2,z⟩:=J F;exact {L2,p2.trans S,z}
theorem wJ:∀{l m:List Tri},l.Perm m->l.Pairwise (λa b=>zP a<zP b)->m.Pairwise (λa b=>zP a<zP b)->l=m
 | [],m,p,_,_=>(Us.nil_eq p)
 | a::l,[],p,_,_=>by have:=p.length_eq;cases this
 | a::l,b::m,p,h1,h2=>by
  obtain ⟨g1,J⟩:=Ql.mp h1;obtain ⟨k1,k2⟩:=Ql.mp h2;have e:a=b:=by
   refine Qd λne=>?_;have F:a∈b::m:=p.mem_iff.mp (OT ..);have G:b∈a::l:=p.mem_iff.mpr (OT ..);rcases OH.mp F with z|F
   .exact ne z
   .rcases OH.mp G with z|G
    .exact ne z.symm
    .have:=k1 a F;have:=g1 b G;lia
  subst e;rw [wJ (Us.cons_inv p) J k2]
theorem vY{l:List Tri}(nd:(l.map zP).Nodup)(h:l.Pairwise (λa b=>zP a<=zP b)):l.Pairwise (λa b=>zP a<zP b) :=
 (h.and (RR.mp nd)).imp λ⟨h1,h2⟩=>by lia
open Classical in
noncomputable def i8(U:List Tri):List Tri:=if h:∃ts:List Tri,ts.Perm U/\ts.Pairwise (λa b=>zP a<=zP b) then h.choose else U
theorem wL(nd:(U.map zP).Nodup)(p:ts.Perm U)(h:ts.Pairwise (λa b=>zP a<=zP b)):ts=i8 U:=by
 have ex:∃ts:List Tri,ts.Perm U/\ts.Pairwise (λa b=>zP a<=zP b):=⟨ts,p,h⟩;unfold i8;rw [dif_pos ex];have n1:(ts.map zP).Nodup:=(p.map zP).nodup_iff.mpr nd;have z:(ex.choose.map zP).Nodup:=(ex.choose_spec.1.map zP).nodup_iff.mpr nd;exact wJ (p.trans ex.choose_spec.1.symm) (vY n1 h) (vY z ex.choose_spec.2)
def lpW:Pos:={141,29,141,50}
def lpM:Pos:={324,26,324,59}
def qW:Str:=(Ra Wk (zk gg) 0 0 .none).qual++"<lambda>"
abbrev eU:Stmt:=top 59
def qM:Str:=(Ra Wm (zk eU) 0 0 .none).qual++"<lambda>"
structure TB(A:zj)(H:Hp):Prop where
 w:bV lpW qW H A.Da
 l:bV lpM qM H A.vl
 ne:A.Da≠A.vl
theorem A2(h:bV pos q H P):∃ps,H P=some (.tbl ps):=by
 rcases h with h|⟨_,_,_,_,h,_⟩<;>exact {_,h}
theorem kh(h:bV pos q H P)(k:∀a o,H a=some o->(a=P\/∀ps,o≠.tbl ps)->H' a=some o):bV pos q H' P:=by
 rcases h with h|⟨c,oc,vs,t,h1,h2,h3⟩
 .exact .inl (k _ _ h (.inl rfl))
 .exact .inr {c,oc,vs,t,k _ _ h1 (.inl rfl),k _ _ h2 (.inr λps z=>by cases z),h3}
theorem TB.same(h:TB A H)(s:zi H H'):TB A H':={kh h.w λa o e _=>s a o e,kh h.l λa o e _=>s a o e,h.ne}
theorem TB.keep(h:TB A H)(k:ao F H H')(G:∀x∈F,∀o,H x=some o->(∀ps,o≠.tbl ps)/\∀oc,o≠.frz oc (.own 0)):TB A H':=by
 have go:∀{pos q P},bV pos q H P->bV pos q H' P:=λ{pos q P} h=>by
  rcases h with h|⟨c,oc,vs,t,h1,h2,h3⟩
  .exact .inl (k _ _ h λz=>(G _ z _ h).1 _ rfl)
  .exact .inr {c,oc,vs,t,k _ _ h1 λz=>(G _ z _ h1).1 _ rfl,k _ _ h2 λz=>(G _ z _ h2).2 _ rfl,h3}
 exact {go h.w,go h.l,h.ne}
section
variable {P:OL}{w:O1}{K:Frag}{mg:Str->Option Value}{base:Heap}{A:zj}
def nU(d:DM):List Tri:=wU d.rows d.rows.length
structure Em(H:Hp)(p l:Addr)(d:DM)(i:Nat)(σ:L2.St)(H':Hp):Prop where
 ex:∃t1,σ=[some (V.ref p),some (.ref l),t1]
 same:zi H H'
 no:H l=none
 ls:∃as:List Addr,H' l=some (.lst (as.map V.ref))/\bO H' as (wU d.rows i)/\as.length<=32*i
theorem vT{k:Nat}:∀{j:Nat}{t:Tri},t∈rIn l k j->∃y n ys,t.1 = .str y::.int n::ys
 | 0,t,h=>by cases h
 | j+1,t,h=>by
  rcases Pk.mp h with h|h
  .exact vT h
  .cases z:br (l.getD j "") with
   | none=>rw [z] at h;cases h
   | some row =>
    rw [z] at h;have h:t=(row,k,j):=ON.mp h;rw [h];exact C3 z
theorem pG{rows:List (List Str)}:∀{i:Nat}{t:Tri},t∈wU rows i->∃y n ys,t.1 = .str y::.int n::ys
 | 0,t,h=>by cases h
 | i+1,t,h=>by
  rcases Pk.mp h with h|h
  .exact pG h
  .exact vT h
theorem LQ(h:bO H as ts)(F:∀t∈ts,∃y n ys,t.1 = .str y::.int n::ys):Paired (pM H) as (ts.map zP):=by
 induction h with
 | nil=>exact .nil
 | @cons a t _ _ r _ S =>
  refine .cons ?_ (S λt h=>F t (OI _ h));obtain ⟨y,n,ys,e⟩:=F t (OT ..);obtain ⟨O,G,z⟩:=r;rw [e] at z;have J:zP t=n:=by unfold zP;rw [e];rfl
  rw [J];exact {O,_,_,_,G,z}
theorem JT{zs:List (Int×Addr)}(h:bO H as ts)(p:zs.Perm ((ts.map zP).zip as))(hs:zs.Pairwise (λp q=>p.1<=q.1))(nd:(ts.map zP).Nodup):bO H (zs.map (·.2)) (i8 ts):=by
 have hl:=aO h;have J:(ts.map zP).zip as=(as.zip ts).map λq=>(zP q.2,q.1):=by
  clear p nd
  induction h with
  | nil=>rfl
  | cons r _ F=>rw [Pf,Sw,Sw,Pf,F (Paired.length ‹_›)]
 obtain ⟨L,G,rfl⟩:=DH p J;have O:(as.zip ts).map (·.2)=ts:=List.map_snd_zip 'l';have hm:∀q∈as.zip ts,ip H q.1 q.2:=by
  clear p G J O hs nd hl
  induction h with
  | nil=>intro q z;cases z
  | cons r _ F =>
   intro q z;rw [Sw] at z;rcases OH.mp z with rfl|z
   .exact r
   .exact F q z
 have U:L.map (·.2)=i8 ts:=wL nd (by have:=G.map (·.2);rw [O] at this;exact this) (by
  have:=RR.mp hs;exact RR.mpr this)
 rw [<- U,Pg];have:∀M:List (Addr×Tri),(∀q∈M,ip H q.1 q.2)->bO H (M.map ((·.2)∘λq=>(zP q.2,q.1))) (M.map (·.2)):=λM=>by
  induction M with
  | nil=>exact λ_=>.nil
  | cons q M F=>exact λh=>.cons (h q (OT ..)) (F λr S=>h r (OI _ S))
 exact this L λq z=>hm q (G.mem_iff.mp z)
def nG(A:zj):Sp:=λvs H Q _=>∃(p wl sl:Addr)(cells:List Addr)(m:Int)(d:DM),vs=[.ref p]/\DkA A H p wl sl cells m d/\j8 d/\((nU d).map zP).Nodup/\(nU d).length<64/\TB A H /\
 ∀l as H',zI H H'->TB A H'->H l=none->l≠sysModules->H' l=some (.lst (as.map V.ref))->bO H' as (i8 (nU d))->Q (.ref l) H'
theorem qA:zw ["disk","found","stretch"] WT (zk gg):=fsc
theorem EB(F:Fun K Wk Wk gg f fd)(hc:fd.code = .ref c)(LB:eV mg base (.ref c) A.Da)(T:Txt w K mg A)(Zx:GM P w K mg base true 1 A.qx "stretches" YM (vy A))(Yy:GF P w K mg base true 8 "rows_in" ["disk","stretch"] (vb A)):zp P w K mg base CX0 true 9 f fd WT (nG A):=by
 refine F.cJ hc qA (λvs H Q E h=>?_) (λAr outer s H vs Q E hr h=>?_)
 .obtain ⟨p,wl,sl,cells,m,d,rfl,_⟩:=h;rfl
 .obtain ⟨p,wl,sl,cells,m,d,rfl,D,tx,nd,XO,tb,q⟩:=h;refine {_,(W.h (zg (zy (i:=1) qA.nd rfl (OO rfl) (bw zd))
   (zg (bG Qp.never (λ_=>rfl) (cT rfl T.ro (zc (m0D (zH (clE (zb 0)) T.pL Zx hr)) zd)) (zC (i:=2) qA.nd rfl (OO rfl))
   (zh (aL (iG (zb 1) (caD (zB Yy hr rfl (clP (zc (zb 0) (zc (zb 2) zd)))))))))
   (zh (zx (CG LB hr rfl T.Uu (zb 1) rfl rfl (λ_ _ _ _ _=>rfl) rfl rfl rfl rfl)))))),?_}
  have ai:=tx.len;ac_rfl;refine {'d',λl H1 n1 _=>?_};have D1:=D.same n1.same;obtain ⟨dx,c,h1⟩:=D1.ob;erw [h1,EJ];refine {p,wl,sl,cells,m,d,rfl,D1,?_};ac_rfl;have er:((d.rows.length:Nat):Int).toNat=d.rows.length:=by lia
  rw [er];refine {'l','l',aC.rng (Em H p l d) {{_,rfl},n1.same,n1.no,[],n1.at_,.nil,Ox _} ?_ ?_}
  .rintro i σ H2 hi ⟨⟨t1,rfl⟩,O,ln,as,hl,S,ha⟩;have ej:(0+(i:Int))=((i:Nat):Int):=by lia
   erw [hl,ej];refine {p,wl,sl,cells,m,d,i,rfl,D.same O,tx,hi,λl2 bs H3 J n3 h3 t3=>?_};have U:=J _ _ hl;have hb:bs.length<=32:=by
    have e1:=aO t3;have e2:∀(r:List Str) k j,(rIn r k j).length<=j:=λr k j=>by
     induction j with
     | zero=>exact Ox _
     | succ j ih=>show (rIn r k j++_).length<=_;rw [Pa];have:=B8 (br (r.getD j "")) k j;lia
    have:=e2 (d.rows.getD i []) i (d.rows.getD i []).length;have:=(tx.ok _ (Kh (x:=[]) hi)).1;lia
   erw [U,h3];refine {by rw [OB,OB];exact aQ 'l',{_,rfl},λc o e=>?_,ln,as++bs,by rw [zu];simp,?_,by simp;lia}
   .rw [ze (zz e ln)];exact J _ _ (O _ _ e)
   .have up:∀{b xs},H3 b=some (.tup xs)->upd H3 l (.lst (map V.ref as++map V.ref bs)) b=some (.tup xs):=λ{b xs} e=>by rw [ze (λz=>by rw [z,U] at e;cases e)];exact e
    exact di (Paired.wa S λx t ⟨r',g1,g2⟩=>{r',up (J _ _ g1),up (J _ _ g2)}) (Paired.wa t3 λx t ⟨r',g1,g2⟩=>{r',up g1,up g2})
  .rintro σ H2 ⟨⟨t1,rfl⟩,O,ln,as,hl,S,ha⟩;ac_rfl;have ZZ:=aO S;have G:=tb.same O;refine {as,hl,G.w,by rw [ZZ];exact XO,(nU d).map zP,LQ S λt h=>pG h,λD2 zs H3 L3 T3 f3 ar Z e3 pz sz=>?_};have J:zI H2 H3:=zI.lam L3 G.w;have ab:TB A H3:={T3,kh G.l λa o e h=>L3 a o (λz=>?_) e,G.ne}
   .refine q D2 (zs.map (·.2)) H3 ((zI.of O).trans J) ab (O.free f3) Z (by rw [e3,Pg];rfl) ((JT S pz sz nd).vr J)
   .obtain ⟨ps,XX⟩:=A2 G.w;rcases h with h|h
    .exact G.ne (z.symm.trans h)
    .rw [z,XX] at e;cases e;exact h _ rfl
end
theorem Kq(a b:Str):leS a b\/leS b a:=by
 unfold leS;rw [ltCps_eq,ltCps_eq];by_cases h:Rj.blt b.cps.toList a.cps.toList=true
 .exact .inr (KeyOrd.klt_asymm (O:=Rj.toKeyOrd) h)
 .exact .inl (by simpa using h)
theorem Nk(h1:leS a b)(h2:leS b c):leS a c:=by
 unfold leS at *
 rw [ltCps_eq] at *
 exact KeyOrd.kle_trans (O:=Rj.toKeyOrd) h1 h2
theorem uv(x:Str):∀l:List Str,l.Pairwise leS->∃m:List Str,m.Perm (x::l)/\m.Pairwise leS
 | [],_=>{[x],Us.refl _,'z'}
 | y::l,h=>by
  rcases Kq x y with hx|hx
  .refine {x::y::l,Us.refl _,Ql.mpr {λz hz=>?_,h}};rcases OH.mp hz with rfl|hz
   .exact hx
   .exact Nk hx ((Ql.mp h).1 z hz)
  .obtain ⟨m,p,hm⟩:=uv x l (Ql.mp h).2;refine {y::m,(Us.cons y p).trans (Us.swap x y l),Ql.mpr {λz hz=>?_,hm}};rcases OH.mp (p.mem_iff.mp hz) with rfl|hz
   .exact hx
   .exact (Ql.mp h).1 z hz
theorem uz:∀ks:List Str,∃z:List Str,z.Perm ks/\z.Pairwise leS
 | []=>{[],Us.refl _,.nil}
 | x::ks=>by
  obtain ⟨z,p,h⟩:=uz ks;obtain ⟨m,p2,h2⟩:=uv x z h;exact {m,p2.trans (Us.cons x p),h2}
theorem cy(ks:List Str):(zN ks).Perm ks/\(zN ks).Pairwise leS:=by
 obtain ⟨z,p,h⟩:=uz ks;have e:=vc p (sortedS_of_pairwise z h);rw [<- e];exact ⟨p,h⟩
theorem sq{α:Type}{t u:List (Str×α)}(h:bY t u)(z:(names t).Nodup)(F:(names u).Nodup):t.length=u.length:=by
 have:=(h.names z F).length_eq;simpa [names] using this
abbrev rT:Stmt:=ay (top 42) 0
abbrev rQ:Stmt:=ay (top 42) 1
abbrev oF:Stmt:=ay (top 42) 2
abbrev sD:Stmt:=ay (top 42) 14
abbrev Tab:=List (Str×List Int)
def fj(H:Hp)(v:V)(l:List Int):Prop:=∃p,v = .ref p/\H p=some (.tup (l.map V.int))
def aV(f d:Addr)(n m:Int):List (Str×V):=[("own_files",.ref f),("spot_of",.ref d),("next_row",.int n),("next_mark",.int m)]
def aK(b k:Addr):List (Str×V):=[("births",.ref b),("kept",.ref k)]
structure zU(A:zj)(H:Hp)(p b k:Addr)(t:Tab):Prop where
 ob:∃dx,H p=some (.ins A.qv dx (aK b k))
 ex:∃kvs,H b=some (.dK (sk kvs))/\Dct (fj H) kvs t
 nd:(names t).Nodup
 kept:H k=some (.dK (sk []))
 ne:b≠k
def FK(A:zj)(H H':Hp):Prop:=∀a o,((∃dx b k,o = .ins A.qv dx (aK b k))\/(∃dx f d n m,o = .ins A.State dx (aV f d n m))\/(∃kvs,o = .dK kvs)\/∃xs,o = .tup xs)->H a=some o->H' a=some o
theorem FK.of(s:zi H H'):FK A H H':=λa o _ e=>s a o e
theorem FK.t(s:FK A H H')(e:H a=some (.tup xs)):H' a=some (.tup xs):=s _ _ (.inr (.inr (.inr {_,rfl}))) e
theorem FK.d(s:FK A H H')(e:H a=some (.dK kvs)):H' a=some (.dK kvs):=s _ _ (.inr (.inr (.inl {_,rfl}))) e
theorem FK.ck(s:FK A H H'){t:Tab}(d:Dct (fj H) kvs t):Dct (fj H') kvs t:=d.imp λv a r=>r.elim λp h=>{p,h.1,s.t h.2}
theorem FK.trans(x:FK A H H1)(y:FK A H1 H2):FK A H H2:=λa o h e=>y a o h (x a o h e)
theorem zU.mv{p b k:Addr}{t:Tab}(h:zU A H p b k t)(s:FK A H H'):zU A H' p b k t:=by
 obtain ⟨dx,e⟩:=h.ob;obtain ⟨kvs,z,d⟩:=h.ex;exact {{dx,s _ _ (.inl {_,_,_,rfl}) e},{kvs,s.d z,s.ck d},h.nd,s.d h.kept,h.ne}
theorem zU.same{p b k:Addr}{t:Tab}(h:zU A H p b k t)(s:zi H H'):zU A H' p b k t:=h.mv (.of s)
theorem zU.setB{p b k:Addr}{t t':Tab}(h:zU A H p b k t)(d':Dct (fj H) G t')(nd:(names t').Nodup):zU A (upd H b (.dK (sk G))) p b k t':=by
 obtain ⟨dx,F⟩:=h.ob;obtain ⟨kvs,J,_⟩:=h.ex;exact {{dx,by rw [ze (λz=>by rw [z,J] at F;cases F)];exact F},{G,zu,d'.imp λv a r=>r.elim λp h=>{p,h.1,by rw [ze (λz=>by rw [z,J] at h;cases h.2)];exact h.2}},nd,by rw [ze (Pe h.ne)];exact h.kept,h.ne}
section
variable {P:OL}{w:O1}{K:Frag}{mg:Str->Option Value}{base:Heap}{A:zj}{b k:Addr}
theorem du:(aK b k).lookup ("births":Str)=some (.ref b):=by simp only [aK,PH,beq_self_eq_true]
theorem l8:(aK b k).lookup ("kept":Str)=some (.ref k):=by simp only [aK,PH,beq_self_eq_true,EG]
theorem xi:(aK b k).lookup ("names":Str)=none:=by kernel_rfl
theorem ie:(aK b k).lookup (Wf:Str)=none:=by kernel_rfl
theorem lN:(aK b k).lookup (Wl:Str)=none:=by kernel_rfl
theorem rh:(aK b k).lookup (Wi:Str)=none:=by kernel_rfl
theorem BO:(aK b k).lookup ("held":Str)=none:=by kernel_rfl
theorem AU:(aK b k).lookup ("living":Str)=none:=by kernel_rfl
theorem xa:(aK b k).lookup ("copied":Str)=none:=by kernel_rfl
theorem Jr:(aK b k).lookup ("bare":Str)=none:=by kernel_rfl
theorem vA:(aK b k).lookup (V5:Str)=none:=by kernel_rfl
def jF(A:zj):Sp:=λvs H Q _=>∃(p dx:Addr),vs=[.ref p]/\H p=some (.ins A.qv dx [])/\∀b k H',But p H H'->H b=none->H k=none->H' p=some (.ins A.qv dx (aK b k))->zU A H' p b k []->Q .non H'
theorem DQ:zw YM YM (zk rT):=fsc
theorem FE(F:Fun K Wo "Files.__init__" rT f fd)(T:Txt w K mg A):zp P w K mg base CX0 true 1 f fd YM (jF A):=by
 refine F.o DQ λZ0 Ar outer s H vs Q E Z h=>?_;obtain ⟨p,dx,rfl,O,q⟩:=h;refine {_,(W.h (zg (cq T.pw T.qb (zm 0) o8)
   (zh (cq T.pw T.wh (zm 0) o8)))),?_}
 ac_rfl;refine λb H1 n1=>{dx,[],n1.same _ _ O,'d',λk H2 G=>{dx,_,G.same _ _ zu,by show 1<1000;decide,?_}};have J:b≠p:=λz=>by have:=n1.no;rw [z,O] at this;cases this
 have kp:k≠p:=λz=>by have:=G.no;rw [z,zu] at this;cases this
 have k1:H1 k=none:=by have:=G.no;rw [ze kp] at this;exact this
 have U:zG ("kept":Str) (V.ref k) (zG ("births":Str) (V.ref b) [])=aK b k:=by simp only [zG,aK,xY,if_false]
 have S:H2 b=some (.dK []):=G.same _ _ (by rw [ze J];exact n1.at_);rw [U];refine q b k _ (λa o n e=>?_) n1.no (n1.same.free k1) zu {⟨dx,zu⟩,{[],by rw [ze J];exact S,.nil},by simp [names],by rw [ze kp];exact G.at_,λz=>?_}
 .rw [ze n];exact G.same _ _ (by rw [ze n];exact n1.same _ _ e)
 .have:=G.no;rw [<- z,ze J,n1.at_] at this;cases this
def qR(A:zj):Sp:=λvs H Q _=>∃(p b k:Addr)(t:Tab),vs=[.ref p]/\zU A H p b k t/\t.length<64/\∀l H',New H l (.lst ((zN (names t)).map V.str)) H'->Q (.ref l) H'
theorem KY:zw YM YM (zk rQ):=fsc
theorem Lr(F:Fun K "names" "Files.names" rQ f fd)(T:Txt w K mg A):zp P w K mg base CX0 true 1 f fd YM (qR A):=by
 refine F.o KY λS U outer s H vs Q E O h=>?_;obtain ⟨p,b,k,t,rfl,z,hl,q⟩:=h;refine {_,(W.h (zh (zx (zQ (tK rfl) rfl T.Uu SF (zc (az T.pw T.qb (zm 0)) zd))))),?_};obtain ⟨dx,G⟩:=z.ob;obtain ⟨kvs,J,d⟩:=z.ex;erw [G,du];refine {kvs,.inl J,by rw [d.length];exact hl,?_};rw [d.names];exact q
def lk(t:Tab)(n:Str):List Int:=(look t n).getD []
def iE(A:zj):Sp:=λvs H Q _=>∃(p b k:Addr)(t:Tab)(n:Str),vs=[.ref p,.str n]/\zU A H p b k t/\∀H',zi H H'->Q (.int (lk t n).length) H'
theorem Births.get{t:Tab}(d:Dct (fj H) kvs t)(n:Str){p:Addr}(s:zi H H')(G:H' p=some (.tup [])):∃a,(look kvs n).getD (.ref p) = .ref a/\H' a=some (.tup ((lk t n).map V.int)):=by
 rcases d.look n with ⟨v,l,z,F,a,O,J⟩|⟨z,F⟩
 .exact {a,by rw [z,O];rfl,by unfold lk;rw [F];exact s _ _ J}
 .exact {p,by rw [z];rfl,by unfold lk;rw [F];exact G}
theorem EA:zw X5 X5 (zk oF):=fsc
theorem CW(F:Fun K Wf "Files.many" oF f fd)(T:Txt w K mg A):zp P w K mg base CX0 true 1 f fd X5 (iE A):=by
 refine F.o EA λZ Ar outer s H vs Q E U h=>?_;obtain ⟨p,b,k,t,n,rfl,J,q⟩:=h;refine {_,(W.h (zh (zx (zQ iV rfl T.tj Pi (zc (rL (zT U) (az T.pw T.qb (zm 0)) (zm 1) (bS zd)) zd))))),?_};obtain ⟨dx,O⟩:=J.ob;obtain ⟨kvs,G,d⟩:=J.ex;erw [O,du];refine {{_,.inl G},Qs _,λp' H2 z=>{_,.inl (z.same _ _ G),?_}};obtain ⟨a,ea,S⟩:=Births.get d n z.same z.at_;rw [dR,ea,rJ];exact {_,.inr S,by rw [OB];exact q H2 z.same}
def ye(A:zj):Sp:=λvs H Q _=>∃(p b k:Addr)(t:Tab)(n:Str),vs=[.ref p,.str n]/\zU A H p b k t/\(look t n).isSome=true/\Q .non H
theorem Ks:zw X5 X5 (zk sD):=fsc
theorem CS(F:Fun K V5 "Files.refuse_if_none" sD f fd)(T:Txt w K mg A):zp P w K mg base CX0 true 1 f fd X5 (ye A):=by
 refine F.o Ks λU Z outer s H vs Q E S h=>?_;obtain ⟨p,b,k,t,n,rfl,O,J,q⟩:=h;refine {_,(W.h (zh (zM (zS (GL (zT S)) (zm 1) (az T.pw T.qb (zm 0)) rfl)
   (zh aW)
   zR))),?_}
 obtain ⟨dx,z⟩:=O.ob;obtain ⟨kvs,G,d⟩:=O.ex;erw [z,du];refine {_,.inl G,?_};have:(look kvs n).isSome=true:=by
  rcases d.look n with ⟨v,l,z,G,_⟩|⟨z,G⟩
  .rw [z];rfl
  .rw [G] at J;cases J
 rw [dR,this];exact vI q
abbrev nO:Stmt:=ay (top 42) 3
abbrev qw:Stmt:=ay (top 42) 4
theorem Aj{i a b:Int}(h1:a<=i)(h2:i<=b):il i a b=true:=by
 show (decide (a<=i)&&decide (i<=b))=true;rw [decide_eq_true h1,decide_eq_true h2];rfl
theorem ph(G:0<=i)(h1:i<=xs.length):bj xs none (some i)=xs.take i.toNat:=by
 have z:HT.sIx xs.length 0 none=0:=rfl;have F:HT.sIx xs.length xs.length (some i)=i.toNat:=by
  unfold HT.sIx;simp only;split<;>lia
 unfold bj;rw [z,F];simp
theorem tE{i:Int}(G:0<=i)(h1:i<=xs.length+1):bj xs (some i) none=xs.drop i.toNat:=by
 have z:HT.sIx xs.length xs.length none=xs.length:=rfl;have F:HT.sIx xs.length 0 (some i)=min i.toNat xs.length:=by
  unfold HT.sIx;simp only;split<;>lia
 unfold bj;rw [z,F];by_cases h:i.toNat<=xs.length
 .rw [Uk h,OQ (by rw [R8];lia)]
 .rw [Nat.min_eq_right 'l',Qr (Ox _),Qr 'l'];simp
def si(A:zj):Sp:=λvs H Q _=>∃(p b k:Addr)(t:Tab)(n:Str)(l:List Int)(i:Int),vs=[.ref p,.str n,.int i]/\zU A H p b k t/\look t n=some l/\0<=i/\i<l.length/\∀H',zi H H'->Q (.int (l.getD i.toNat 0)) H'
theorem Lo:zw Xe Xe (zk nO):=fsc
theorem JH(F:Fun K Wl "Files.birth" nO f fd)(T:Txt w K mg A)(ZK:GM P w K mg base true 1 A.qv V5 X5 (ye A))(Z3:GM P w K mg base true 1 A.qv Wf X5 (iE A))(ZR:GF P w K mg base true 2 V8 Xz kG):zp P w K mg base CX0 true 4 f fd Xe (si A):=by
 refine F.o Lo λZ0 Ar outer s H vs Q E S h=>?_;obtain ⟨p,b,k,t,n,l,i,rfl,O,J,i0,i1,q⟩:=h;refine {_,(W.h (zg (aL (bc (zm 0) T.pw ZK S (zc (zm 1) zd)))
   (zg (zM (eE (bE (zB ZR S rfl (zc (zm 2) (zc zq (zc (zJ jg (bc (zm 0) T.pw Z3 S (zc (zm 1) zd)) zq) zd))))))
   (zh aW)
   zR)
   (zh (zx (zL oh (zL (fZ (zT S)) (az T.pw T.qb (zm 0)) (zm 1) (λ_ _=>rfl)) (zm 2) (λ_ _=>rfl))))))),?_}
 obtain ⟨dx,e1⟩:=O.ob;erw [e1,du,vA,ie];refine {p,b,k,t,n,rfl,O,by rw [J];rfl,?_};erw [e1,du,vA,ie];refine {p,b,k,t,n,rfl,O,λH1 s1=>?_};have Z:=O.same s1;obtain ⟨ab,U⟩:=Z.ob;obtain ⟨kvs,e2,d⟩:=Z.ex;have el:lk t n=l:=by unfold lk;rw [J];rfl
 ac_rfl;refine {_,_,_,rfl,?_};rw [Aj i0 (by rw [el];lia)];erw [U,du];refine {_,.inl e2,?_};rcases d.look n with ⟨v,l',d1,G,a,ev,ha⟩|⟨_,G⟩
 .rw [J] at G;cases G;subst ev;refine {.ref a,by rw [dR];exact d1,?_};rw [jX];have hi:i.toNat<l.length:=by lia
  refine {_,.inr ha,.int (l.getD i.toNat 0),?_,q H1 s1};have z:atI (l.map V.int) ((i.toNat:Nat):Int)=some (.int (l[i.toNat])):=ee (by rw [OV,KE hi];rfl);rw [show ((i.toNat:Nat):Int)=i by lia] at z;rw [z,OY,KE hi];rfl
 .rw [J] at G;cases G
def ke(A:zj):Sp:=λvs H Q _=>∃(p b k:Addr)(t:Tab)(n:Str)(i x:Int),vs=[.ref p,.str n,.int i,.int x]/\zU A H p b k t/\0<=i/\i<=(lk t n).length/\(lk t n).length<=4000/\t.length<=4000 /\
 ∀H',But b H H'->zU A H' p b k (ak t n ((lk t n).take i.toNat++[x]++(lk t n).drop (i.toNat+1)))->Q .non H'
theorem yB:zw ["self","file","place",Wl,"births"] XA (zk qw):=fsc
theorem Fw(F:Fun K Wi "Files.put" qw f fd)(T:Txt w K mg A)(Z3:GM P w K mg base true 1 A.qv Wf X5 (iE A))(ZR:GF P w K mg base true 2 V8 Xz kG):zp P w K mg base CX0 true 4 f fd XA (ke A):=by
 refine F.o yB λZ0 Ar outer s H vs Q E O h=>?_;obtain ⟨p,b,k,t,n,i,x,rfl,J,i0,i1,l1,t1,q⟩:=h;refine {_,(W.h (zg (zM (eE (bE (zB ZR O rfl (zc (zm 2) (zc zq (zc (bc (zm 0) T.pw Z3 O (zc (zm 1) zd)) zd))))))
   (zh aW)
   zR)
   (zg (zy (i:=4) yB.nd rfl (OO rfl) (rL (zT O) (az T.pw T.qb (zm 0)) (zm 1) (bS zd)))
   (zh (eY (zJ h7 (zJ h7 (dA tB (zm 4) dF (dG (zm 2))) (bS (zc (zm 3) zd))) (dA tB (zm 4) (dG (zJ h7 (zm 2) zq)) dF)) (fO (az T.pw T.qb (zm 0)) (zm 1) (iK (zT O)))))))),?_}
 obtain ⟨dx,e1⟩:=J.ob;erw [e1,du,ie];refine {p,b,k,t,n,rfl,J,λH1 s1=>?_};have S:=J.same s1;obtain ⟨ar,ab⟩:=S.ob;obtain ⟨kvs,Z,d⟩:=S.ex;ac_rfl;refine {_,_,_,rfl,?_};rw [Aj i0 i1];erw [ab,du];refine {{_,.inl Z},Qs _,λp1 H2 z=>{_,.inl (z.same _ _ Z),?_}};obtain ⟨a,ea,ha⟩:=Births.get d n z.same z.at_;rw [dR,ea];erw [ha];intro p2 H3 s3 e3;refine {'d',λp3 H4 n4=>?_};rw [ph i0 (by rw [OB];exact i1)] at e3;have big:∀n:Nat,n<=100000->n<=sizeLine:=λn h=>PX h 'd';refine .inr {_,n4.same _ _ e3,_,n4.at_,big _ (by simp;lia),λp4 H5 s5 e5=>?_};have ai:=s5 _ _ (n4.same _ _ (s3 _ _ ha));refine .inr {_,ai,λp6 H6 s6 e6=>?_};rw [tE 'l' (by rw [OB];lia)] at e6;refine .inr {_,s6 _ _ e5,_,e6,big _ (by simp;lia),λp7 H7 s7 e7=>?_};have G:zi H1 H7:=((((z.same.trans s3).trans n4.same).trans s5).trans s6).trans s7;have F7:=S.same G;obtain ⟨av,U⟩:=F7.ob;erw [U,du];refine {_,G _ _ Z,by rw [iy,d.length];exact PV t1 'd',?_};rw [jI];have et:(i+1).toNat=i.toNat+1:=by lia
 have d7:Dct (fj H7) kvs t:=(FK.of (A:=A) G).ck d;have r7:fj H7 (.ref p7) ((lk t n).take i.toNat++[x]++(lk t n).drop (i.toNat+1)):={p7,rfl,by rw [e7,et];simp [List.map_take,map_drop]};exact q _ (λc o nc e=>by rw [ze nc];exact G _ _ (s1 _ _ e)) (F7.setB (d7.put n r7) (nY J.nd))
abbrev mV:Stmt:=ay (top 42) 8
abbrev o3:Stmt:=ay (top 42) 12
abbrev qq:Stmt:=ay (top 42) 11
def tH(A:zj):Sp:=λvs H Q _=>∃(p b k:Addr)(t:Tab),vs=[.ref p]/\zU A H p b k t/\∀l H',New H l (.lst []) H'->Q (.ref l) H'
theorem KG:zw YM YM (zk mV):=fsc
theorem M0(F:Fun K "held" "Files.held" mV f fd)(T:Txt w K mg A):zp P w K mg base CX0 true 1 f fd YM (tH A):=by
 refine F.o KG λO S outer s H vs Q E J h=>?_;obtain ⟨p,b,k,t,rfl,z,q⟩:=h;refine {_,(W.h (zh (zx (zQ (tK rfl) rfl T.Uu SF (zc (az T.pw T.wh (zm 0)) zd))))),?_};obtain ⟨dx,G⟩:=z.ob;erw [G,l8];refine {[],.inl z.kept,'d',λl H' n=>q l H' ?_};have e:zN (([]:List (Str×V)).map (·.1))=[]:=R9.mp (by rw [(cy _).1.length_eq];rfl);rw [e] at n;exact n
def iz(A:zj):Sp:=λvs H Q _=>∃(p b k:Addr)(t:Tab),vs=[.ref p]/\zU A H p b k t/\∀q b' k' H',zi H H'->H b'=none->H k'=none->H q=none->zU A H' q b' k' t->Q (.ref q) H'
theorem wM:zw ["self","other"] YM (zk o3):=fsc
theorem Ew(F:Fun K "bare" "Files.bare" o3 f fd)(T:Txt w K mg A)(Zp:GC P w K mg base true 1 "Files" A.qv YM (jF A)):zp P w K mg base CX0 true 3 f fd YM (iz A):=by
 refine F.o wM λZ0 Ar outer s H vs Q E hr h=>?_;obtain ⟨p,b,k,t,rfl,hF,q⟩:=h;refine {_,(W.h (zg (zy (i:=1) wM.nd rfl (OO rfl) (oZ Zp hr rfl))
   (zg (cq T.pw T.qb (zm 1) (bF wB rfl T.aQ boot_dict (zc (az T.pw T.qb (zm 0)) zd)))
   (zh (zx (zm 1)))))),?_}
 obtain ⟨dx,e1⟩:=hF.ob;obtain ⟨kvs,e2,d⟩:=hF.ex;erw [e1,du];refine λx O H2 G=>{x,O,rfl,G.at_,λb1 k1 H3 s3 nb S ex F3=>{rfl,?_}};have px:∀c o,H c=some o->c≠x:=λc o e z=>by have:=G.no;rw [<- z,e] at this;cases this
 have U:zi H H3:=λc o e=>s3 c o (px c o e) (G.same c o e);have ai:=U _ _ e1;erw [ai,du];refine {_,.inl (U _ _ e2),λJ H4 n4=>{O,_,n4.same _ _ ex,by show 2<1000;decide,?_}};have eF:zG ("births":Str) (V.ref J) (aK b1 k1)=aK J k1:=by simp only [zG,aK,if_true]
 rw [eF];have Z:J≠x:=λz=>by have:=n4.no;rw [z,ex] at this;cases this
 have ab:k1≠x:=λz=>by rw [z] at S;rw [G.at_] at S;cases S
 have ar:J≠k1:=λz=>by have:=n4.no;rw [z,F3.kept] at this;cases this
 have sF:zi H (upd H4 x (.ins A.qv O (aK J k1))):=λc o e=>by rw [ze (px c o e)];exact n4.same _ _ (U c o e)
 exact q x J k1 _ sF (U.free n4.no) (G.same.free S) G.no {⟨O,zu⟩,{kvs,by rw [ze Z];exact n4.at_,(FK.of (A:=A) sF).ck d},hF.nd,by rw [ze ab];exact n4.same _ _ F3.kept,ar}
theorem vd:zw ["self","other"] YM (zk qq):=fsc
theorem Mz(F:Fun K "copied" "Files.copied" qq f fd)(T:Txt w K mg A)(Y9:GM P w K mg base true 3 A.qv "bare" YM (iz A)):zp P w K mg base CX0 true 4 f fd YM (iz A):=by
 refine F.o vd λZ0 Ar outer s H vs Q E hr h=>?_;obtain ⟨p,b,k,t,rfl,Z,q⟩:=h;refine {_,(W.h (zg (zy (i:=1) vd.nd rfl (OO rfl) (zH (zm 0) T.pw Y9 hr))
   (zg (cq T.pw T.wh (zm 1) (bF wB rfl T.aQ boot_dict (zc (az T.pw T.wh (zm 0)) zd)))
   (zh (zx (zm 1)))))),?_}
 obtain ⟨dx,e1⟩:=Z.ob;erw [e1,Jr];refine {p,b,k,t,rfl,Z,λx b' k' H1 s1 nb nk nx hB=>?_};obtain ⟨O,G⟩:=hB.ob;have F1:=Z.same s1;obtain ⟨ar,ai⟩:=F1.ob;erw [ai,l8];refine {_,.inl F1.kept,λkd H2 J=>{O,_,J.same _ _ G,by show 2<1000;decide,?_}};have eF:zG ("kept":Str) (V.ref kd) (aK b' k')=aK b' kd:=by simp only [zG,aK,xY,if_false,if_true]
 rw [eF];have px:∀c o,H c=some o->c≠x:=λc o e=>zz e nx;have sA:zi H (upd H2 x (.ins A.qv O (aK b' kd))):=λa o e=>by rw [ze (px a o e)];exact J.same _ _ (s1 _ _ e)
 have ab:kd≠x:=λz=>by have:=J.no;rw [z,G] at this;cases this
 obtain ⟨kvs,S,dd⟩:=hB.ex;have bx:b'≠x:=λz=>by rw [z,G] at S;cases S
 have U:b'≠kd:=λz=>by have:=J.no;rw [<- z,S] at this;cases this
 exact q x b' kd _ sA nb (s1.free J.no) nx {⟨O,zu⟩,{kvs,by rw [ze bx];exact J.same _ _ S,dd.imp λv l ⟨a,ea,ha⟩=>{a,ea,by rw [ze (λz=>by rw [z,G] at ha;cases ha)];exact J.same _ _ ha}},hB.nd,by rw [ze ab];exact J.at_,U}
end
abbrev iZ:Stmt:=ay (top 42) 10
def zD(t:Tab):List Int:=t.flatMap (·.2)
theorem N9{o:HO}(e:H a=some o):upd H a o=H:=funext λb=>by
 by_cases z:b=a
 .subst z;rw [zu,e]
 .rw [ze z]
section
variable {P:OL}{w:O1}{K:Frag}{mg:Str->Option Value}{base:Heap}{A:zj}
theorem Bk:ns.length<=(aM ns n).length:=by
 unfold aM;split
 .exact Ox _
 .simp
theorem qo:∀{l ns:List Int},ns.length<=(l.foldl aM ns).length
 | [],ns=>Ox _
 | n::l,ns=>PX (Bk (n:=n)) (qo (l:=l) (ns:=aM ns n))
theorem LW{l ns:List Int}:((l.take i).foldl aM ns).length<=(l.foldl aM ns).length:=by
 have h:=qo (l:=l.drop i) (ns:=(l.take i).foldl aM ns);rw [<- RS,Q6] at h;exact h
theorem Mv{l ns:List Int}(h:l[i]?=some n):(l.take (i+1)).foldl aM ns=aM ((l.take i).foldl aM ns) n:=by
 rw [O6,h,RS];rfl
theorem E3{l:List Int}(h:G a=some (.tup (l.map V.int)))(few:(l.foldl aM ns).length<3000)(hN:∀F,N [x,y,F] (l.foldl aM ns) G):
  cW (Itt K a) (cN 2) (gv (f9 2)) [x,y,z] ns G N:=by
 refine cW.tup (xs:=l.map V.int) (λi τ O H'=>H'=G/\(∃F,τ=[x,y,F])/\O=(l.take i).foldl aM ns) (λi τ ns H ⟨e,_⟩=>e ▸ .inl (.inl h)) {rfl,{z,rfl},rfl} ?_ ?_
 .rintro N' i v τ O H' hv ⟨rfl,⟨F,rfl⟩,rfl⟩ J;rw [OV] at hv;obtain ⟨n,S,rfl⟩:=O2.mp hv;ac_rfl;exact {PV LW few,J _ _ _ {rfl,{_,rfl},(Mv S).symm}}
 .rintro τ O H' ⟨rfl,⟨F,rfl⟩,rfl⟩;rw [OB,OQ (Ox _)];exact hN F
theorem m7{u:Tab}{p:Str×List Int}(h:u[i]?=some p):zD (u.take (i+1))=zD (u.take i)++p.2:=by
 unfold zD;rw [O6,h,SK];simp
theorem yU:∃r,zD u=zD (u.take i)++r:={zD (u.drop i),by unfold zD;rw [<- SK,Q6]}
theorem Ny{d:Addr}{o:Obj}(h:J d=some (.frz o (.dK (sk kvs))))(dc:Dct (fj J) kvs u)(few:((zD u).foldl aM ns).length<3000)(hN:∀G F,N [x,G,F] ((zD u).foldl aM ns) J):
  cW (Itw d o (sk kvs)) (cN 1) (gP (jv K (f9 1)) (cN 2) (gv (f9 2))) [x,y,z] ns J N:=by
 have hl:=dc.length;refine cW.vals (λi τ W H'=>H'=J/\(∃G F,τ=[x,G,F])/\W=(zD (u.take i)).foldl aM ns) (λi τ ns H ⟨e,_⟩=>e ▸ h) {rfl,{y,z,rfl},rfl} ?_ ?_
 .rintro N' i p τ W H' O ⟨rfl,⟨G,F,rfl⟩,rfl⟩ U;obtain ⟨pv,S,rfl⟩:∃pv,kvs[i]?=some pv/\p=(.inr pv.1,pv.2):=by
   unfold sk at O;rw [OV] at O;obtain ⟨pv,e1,e2⟩:=O2.mp O;exact ⟨pv,e1,e2.symm⟩
  obtain ⟨l,hu,a,ea,Z⟩:=Dct.at dc S;erw [ea];have fw:(l.foldl aM ((zD (u.take i)).foldl aM ns)).length<3000:=by
   have hs:=m7 hu;rw [<- RS,<- hs];obtain ⟨r,e⟩:=yU (u:=u) (i:=i+1);rw [e,RS] at few;exact PV qo few
  refine {{_,.inl (.inl Z)},E3 Z fw λz2=>U _ _ _ {rfl,{_,_,rfl},?_}};have hs:=m7 hu;rw [<- RS,<- hs]
 .rintro τ W H' ⟨rfl,⟨G,F,rfl⟩,rfl⟩;have e:(sk kvs).length=u.length:=by rw [<- hl];simp [sk]
  rw [e,OQ (Ox _)];exact hN G F
structure OuI(H4:Hp)(t:Tab)(i:Nat)(τ:L2.St)(ns:List Int)(H':Hp):Prop where
 ex:∃x y z,τ=[x,y,z]
 ns:ns=if i=0 then [] else cY (zD t)
 same:H'=H4
def qi(A:zj):Sp:=λvs H Q _=>∃(p b k:Addr)(t:Tab),vs=[.ref p]/\zU A H p b k t/\(cY (zD t)).length<64 /\
 ∀l (ns:List Int) H',zi H H'->H l=none->H' l=some (.lst (ns.map V.int))->ns.Perm (cY (zD t))->ns.Pairwise (·<=·)->Q (.ref l) H'
theorem vC:zw ["self","tables"] YM (zk iZ):=fsc
theorem FI:bq { kind:=.function,names:=[(OA ".0",.local),(OA "files",.local)],isGenerator:=false,isCoroutine:=false,more:=[] } (zk iZ).names ["self","tables"] WB [none]=true:=by decide +kernel
theorem B2:(WB:List Str).Nodup:=by decide +kernel
theorem Cu:bq { kind:=.function,names:=[(OA ".0",.local),(OA "table",.local),(OA "births",.local),(OA "birth",.local)],isGenerator:=false,isCoroutine:=false,more:=[] } (zk iZ).names ["self","tables"] ["table","births",Wl] [none,none,none]=true:=by decide +kernel
theorem rG:(["table","births",Wl]:List Str).Nodup:=by decide +kernel
theorem Gi(F:Fun K "living" "Files.living" iZ f fd)(T:Txt w K mg A):zp P w K mg base CX0 true 1 f fd YM (qi A):=by
 refine F.o vC λZ0 Ar outer s H vs Q E hr h=>?_;obtain ⟨p,b,k,t,rfl,hF,XO,q⟩:=h;refine {_,(W.h (zg (zy (i:=1) vC.nd rfl (OO rfl) (zJ qg (bw (zc (az T.pw T.qb (zm 0)) zd)) (GK (cX (λ_=>rfl) (zY.of FI) (vj (az T.pw T.wh (zm 0))) (λ_ _ _ _ _=>(zC (i:=0) B2 rfl (OO rfl))) (λ_ _ _ _ _=>bW) (λ_ _ _ _ _=>(az T.pw T.qb (zm 0)))))))
   (zh (zx (zQ (Fz rfl) rfl T.Uu SF (zc (EU (λ_=>rfl) (λ_=>rfl) (λ_=>rfl) (zY.of Cu) (bJ (zm 1)) (λ_ _ _ _ _=>(zC (i:=0) rG rfl (OO rfl))) (λ_ _ _ _ _=>(vj (zm 0))) (λ_ _ _ _ _=>(zC (i:=1) rG rfl (OO rfl))) (λ_ _ _ _ _=>(FL (zm 1))) (λ_ _ _ _ _=>(zC (i:=2) rG rfl (OO rfl))) (λ_ _ _ _ _=>(zm 2))) zd)))))),?_}
 obtain ⟨dx,S⟩:=hF.ob;have e2:=hF.kept;erw [S,du,l8];refine {'d',λlb H1 n1 ar=>{k,sk [],n1.same _ _ e2,λo=>?_}};have ab:=n1.same _ _ e2;have pk:p≠k:=λz=>by rw [z,e2] at S;cases S
 have hf:upd H1 k (.frz o (.dK (sk []))) p=some (.ins A.qv dx (aK b k)):=by rw [ze pk];exact n1.same _ _ S
 erw [hf,l8];refine {o,sk [],zu,aN.vals (λ_ τ ys H'=>(∃t1,τ=[t1])/\ys=[]/\H'=upd H1 k (.frz o (.dK (sk [])))) (λi τ ys H' I=>by rw [I.2.1];decide) (λi τ ys H' I=>by rw [I.2.2];exact zu) {{_,rfl},rfl,rfl} (λN i pv τ ys H' hp=>(by cases hp)) ?_};rintro τ ys H' ⟨⟨t1,rfl⟩,rfl,rfl⟩ D H2 O;have hz:H2 k=some (.frz o (.dK (sk []))):=O.same _ _ zu;refine {o,hz,?_};have U:zi H1 (upd H2 k (.dK (sk []))):=λc u G=>by
  by_cases z:c=k
  .subst z;rw [ab] at G;cases G;exact zu
  .rw [ze z];exact O.same _ _ (by rw [ze z];exact G)
 have Dk:D≠k:=λz=>by have:=O.no;rw [z,zu] at this;cases this
 have hD:upd H2 k (.dK (sk [])) D=some (.lst []):=by rw [ze Dk];exact O.at_
 have J:=U _ _ n1.at_;have F3:=hF.same (n1.same.trans U);generalize upd H2 k (.dK (sk []))=H3 at U hD J F3;ac_rfl;refine {[.ref b],J,[],hD,(show 1<=sizeLine by decide),λtl H4 n4=>{{_,.inl (.inl n4.at_)},?_}};have F4:=F3.same n4.same;obtain ⟨kvs,e,dc⟩:=F4.ex;refine cW.lst (xs:=[.ref b]) (OuI H4 t) (λi τ ns H' I=>.inl (.inl (by rw [I.same];exact n4.at_))) {{_,_,_,rfl},rfl,rfl} ?_ ?_
 .intro N i v τ ns H' hv I hN;obtain ⟨x,y,z,rfl⟩:=I.ex;cases I.same;have hi:i=0:=by have:=(OE.mp hv).1;simp at this;exact this
  subst hi;cases hv;cases I.ns;ac_rfl;refine .inr {b,sk kvs,e,λo'=>{o',sk kvs,zu,Ny zu (dc.imp λv l ⟨a,ea,ha⟩=>{a,ea,by rw [ze (λz=>by rw [z,e] at ha;cases ha)];exact ha}) (SC XO 'd') λy' z'=>{o',zu,hN _ _ _ {{_,_,_,rfl},rfl,?_}}}};rw [gA];exact N9 e
 .intro τ ns H' I D' ai _;cases I.same;have en:ns=cY (zD t):=I.ns;subst en;refine {_,zu,XO,λl Yr H5 Z pm so=>?_};have sA:∀{o:HO},zi H (upd H4 D' o):=λ{o} c u G=>by
   have h1:=n4.same _ _ (U _ _ (n1.same _ _ G));rw [ze (λz=>by rw [z,ai] at h1;cases h1)];exact h1
  exact q l Yr H5 (sA.trans Z.same) (sA.free Z.no) Z.at_ pm so
end
abbrev ma:Stmt:=ay (top 50) 0
abbrev su:Stmt:=ay (top 50) 1
abbrev lM:Stmt:=ay (top 50) 2
abbrev mO:Stmt:=ay (top 50) 4
abbrev nW:Stmt:=ay (top 50) 5
def bN{α:Type}(l:List (Int×α))(n:Int)(a:α):List (Int×α):=if n∈l.map (·.1) then l.map (λp=>if p.1=n then (p.1,a) else p) else l++[(n,a)]
theorem yh:((ik kvs).any λF=>decide (F.1=(.inl n:Key)))=true↔n∈kvs.map (·.1):=by
 unfold ik;rw [List.any_map,List.any_eq_true];constructor
 .rintro ⟨p,z,h⟩;have h:(Sum.inl p.1:Key) = .inl n:=of_decide_eq_true h;cases h;exact Qt.mpr {p,z,rfl}
 .intro h;obtain ⟨p,z,rfl⟩:=Qt.mp h;exact {p,z,'z'}
theorem jO:aA (ik kvs) (.inl n) v=ik (bN kvs n v):=by
 unfold aA bN;by_cases h:n∈kvs.map (·.1)
 .rw [if_pos (yh.mpr h),if_pos h];unfold ik;rw [Pg,Pg];refine QA λp _=>?_;show (if (Sum.inl p.1:Key) = .inl n then _ else _)=_;by_cases e:p.1=n
  .rw [if_pos (by rw [e])];show _=(Sum.inl (if p.1=n then (p.1,v) else p).1,(if p.1=n then (p.1,v) else p).2);rw [if_pos e]
  .rw [if_neg (λz=>e (by cases z;rfl))];show _=(Sum.inl (if p.1=n then (p.1,v) else p).1,(if p.1=n then (p.1,v) else p).2);rw [if_neg e]
 .rw [if_neg (λz=>h (yh.mp z)),if_neg h];unfold ik;rw [Ph];rfl
theorem kr:∀{kvs:List (Int×V)},(kvs.map (·.1)).Nodup->(n,v)∈kvs->ag (ik kvs) (.inl n)=some v
 | [],_,h=>by cases h
 | p::kvs,nd,h=>by
  have F:=QJ.mp nd;show ag ((Sum.inl p.1,p.2)::ik kvs) (.inl n)=_;rcases OH.mp h with e|h
  .rw [<- e];exact iT rfl
  .have ne : ¬ (Sum.inl p.1:Key) = .inl n:=λz=>by
    cases z;exact F.1 (Qt.mpr {_,h,rfl})
   rw [h9 ne];exact kr F.2 h
theorem jT:(ik kvs).length=kvs.length:=by simp [ik]
abbrev T3:=Int×Int×Int
def c7(H:Hp)(p:Int×V)(t:T3):Prop:=p.1=t.1/\∃a,p.2 = .ref a/\H a=some (.tup [.int t.2.1,.int t.2.2])
def eM(H:Hp)(a:Addr)(t:T3):Prop:=H a=some (.tup [.int t.1,.int t.2.1,.int t.2.2])
structure oN(ts:List T3):Prop where
 nd:(ts.map (·.1)).Nodup
 few:ts.length<40
structure bI(A:zj)(H:Hp)(x fx b k d:Addr)(t:Tab)(ts:List T3)(n m:Int):Prop where
 ob:∃dx,H x=some (.ins A.State dx (aV fx d n m))
 files:zU A H fx b k t
 a9:∃kvs,H d=some (.dK (ik kvs))/\Paired (c7 H) kvs ts
 ok:oN ts
theorem c7.keep{p:Int×V}{t:T3}(h:c7 H p t)(k:∀r xs,H r=some (.tup xs)->H' r=some (.tup xs)):c7 H' p t:=let ⟨e,a,e2,e3⟩:=h;{e,a,e2,k _ _ e3}
theorem bI.mv{x z b k d:Addr}{t:Tab}(h:bI A H x z b k d t ts n m)(s:FK A H H'):bI A H' x z b k d t ts n m :=
 let ⟨dx,e⟩:=h.ob;let ⟨kvs,e2,p⟩:=h.a9;{{dx,s _ _ (.inr (.inl {_,_,_,_,_,rfl})) e},h.files.mv s,{kvs,s.d e2,Paired.wa p λ_ _ r=>r.keep λ_ _ e=>s.t e},h.ok}
theorem bI.same{x z b k d:Addr}{t:Tab}(h:bI A H x z b k d t ts n m)(s:zi H H'):bI A H' x z b k d t ts n m:=h.mv (.of s)
theorem iJ(h:Paired (c7 H) kvs ts):kvs.map (·.1)=ts.map (·.1):=by
 induction h with
 | nil=>rfl
 | cons r _ z=>rw [Pf,Pf,z,r.1]
section
variable {P:OL}{w:O1}{K:Frag}{mg:Str->Option Value}{base:Heap}{A:zj}{b k f d:Addr}{n m:Int}
theorem Lh:(aV f d n m).lookup ("own_files":Str)=some (.ref f):=by simp only [aV,PH,beq_self_eq_true]
theorem tU:(aV f d n m).lookup ("spot_of":Str)=some (.ref d):=by simp only [aV,PH,beq_self_eq_true,NS]
theorem FT:(aV f d n m).lookup ("next_row":Str)=some (.int n):=by simp only [aV,PH,beq_self_eq_true,Nw,Ez]
theorem K7:(aV f d n m).lookup ("next_mark":Str)=some (.int m):=by simp only [aV,PH,beq_self_eq_true,Gp,Jd,LN]
theorem kO:(aV f d n m).lookup (Wc:Str)=none:=by simp only [aV,PH,MP,Lv,B0,NL]
theorem i5:(aV f d n m).lookup (Wq:Str)=none:=by simp only [aV,PH,Oi,DF,HZ,Mi]
theorem ir:(aV f d n m).lookup (Wn:Str)=none:=by simp only [aV,PH,Ig,EN,Bp,Dj]
theorem g9:(aV f d n m).lookup (Wp:Str)=none:=by simp only [aV,PH,Ma,G4,Cd,MU]
structure DcI(H:Hp)(ts:List T3)(i:Nat)(τ:L2.St)(ys:List (Key×V))(H':Hp):Prop where
 ex:∃t1 t2 t3,τ=[t1,t2,t3]
 ys:∃kvs,ys=ik kvs/\Paired (c7 H') kvs (ts.take i)
 same:zi H H'
def kT(A:zj):Sp:=λvs H Q _=>∃(x p b k sl dx:Addr)(n m:Int)(t:Tab)(as:List Addr)(ts:List T3),vs=[.ref x,.ref p,.ref sl,.int n,.int m]/\H x=some (.ins A.State dx [])/\zU A H p b k t/\H sl=some (.lst (as.map V.ref))/\Paired (eM H) as ts/\oN ts /\
 ∀z b' k' d H',But x H H'->bI A H' x z b' k' d t ts n m->Q .non H'
theorem Ou:zw Yq Yq (zk ma):=fsc
theorem Cc:bq { kind:=.function,names:=[(OA ".0",.local),(OA "birth",.local),(OA "stretch",.local),(OA "place",.local)],isGenerator:=false,isCoroutine:=false,more:=[] } (zk ma).names Yq XU [none,none,none]=true:=by decide +kernel
theorem om:(XU:List Str).Nodup:=by decide +kernel
theorem Ls{f:Addr}(F:Fun K Wo "State.__init__" ma f fd)(T:Txt w K mg A)(ZM:GM P w K mg base true 4 A.qv "copied" YM (iz A)):zp P w K mg base CX0 true 5 f fd Yq (kT A):=by
 refine F.o Ou λZ0 Ar outer s H vs Q E hr h=>?_;obtain ⟨x,p,b,k,sl,dx,n,m,t,as,ts,rfl,hx,hF,hs,hp,ok,q⟩:=h;refine {_,(W.h (zg (cq T.qs T.L1 (zm 0) (zH (zm 1) T.pw ZM hr))
   (zg (cq T.qs T.z3 (zm 0) (yL (λ_=>rfl) (zY.of Cc) (bJ (zm 2)) (λ_ _ _ _ _=>(mI (n:=3) (aE (zC (i:=0) om rfl (OO rfl)) (aE (zC (i:=1) om rfl (OO rfl)) (aE (zC (i:=2) om rfl (OO rfl)) dB))))) (λ_ _ _ _ _=>bW) (λ_ _ _ _ _=>(zm 0)) (λ_ _ _ _ _=>(bS (zc (zm 1) (zc (zm 2) zd))))))
   (zg (cq T.qs T.Pv (zm 0) (zm 3))
   (zh (cq T.qs T.L4 (zm 0) (zm 4))))))),?_}
 obtain ⟨av,e1⟩:=hF.ob;erw [e1,xa];refine {p,b,k,t,rfl,hF,λJ b1 k1 H1 s1 nb nk nq G=>{dx,[],s1 _ _ hx,'d',?_}};have U:∀{o:HO}{r:Addr}{u:HO},(∀C dx fs,u≠.ins C dx fs)->H1 r=some u->upd H1 x o r=some u:=λ{o r u} hu e=>by rw [ze (λz=>by rw [z,s1 _ _ hx] at e;exact hu _ _ _ (Pn.inj e).symm)];exact e
 have ZZ:=aO hp;have S:=U (o:=.ins A.State dx (zG "own_files" (V.ref J) [])) (λ_ _ _ z=>HO.noConfusion z) (s1 _ _ hs);refine {{_,SqL.of S},ig.lst (xs:=as.map V.ref) (DcI (upd H1 x (.ins A.State dx (zG "own_files" (V.ref J) []))) ts) (λi τ ys H' I=>?_) (λi τ ys H' I=>SqL.of (I.same _ _ S)) {{_,_,_,rfl},{[],rfl,.nil},zi.refl _} ?_ ?_}
 .obtain ⟨kvs,e,O⟩:=I.ys;have:=aO O;have h2:=QZ i ts;have:=ok.few;rw [e,jT];exact aB 'l'
 .intro N i v τ ys H' hv I hN;obtain ⟨t1,t2,t3,rfl⟩:=I.ex;obtain ⟨kvs,e,O⟩:=I.ys;rw [OV] at hv;obtain ⟨a,ha,rfl⟩:=O2.mp hv;have hi:i<ts.length:=by rw [<- ZZ];exact (OE.mp ha).1
  have Yg:ts[i]?=some ts[i]:=KE hi;refine {a,_,rfl,SqT.of (I.same _ _ (U (λ_ _ _ z=>HO.noConfusion z) (s1 _ _ (cf hp ha Yg)))),rfl,?_};ac_rfl;refine {'d',λa2 H2 n2=>hN _ _ _ {{_,_,_,rfl},{kvs++[(ts[i].1,.ref a2)],?_,?_},I.same.trans n2.same}}
  .have ai:ts[i].1∉kvs.map (·.1):=by
    rw [iJ O];have nd:=ok.nd;rw [<- Q6 i ts,Ph,QU hi,Pf] at nd;exact λz=>(QK.mp nd).2.2 _ z _ (OT ..) rfl
   rw [e,jO];unfold bN;rw [if_neg ai]
  .rw [O6,Yg];exact di (Paired.wa O λp t r=>r.keep λr xs e=>n2.same _ _ e) (.cons {rfl,a2,rfl,n2.at_} .nil)
 .intro τ ys H3 I D H4 n4;obtain ⟨kvs,e,O⟩:=I.ys;rw [OB,ZZ,OQ (Ox _)] at O;rw [e] at n4;have x4:=n4.same _ _ (I.same _ _ zu);refine {dx,_,x4,by show 1<1000;decide,dx,_,zu,by simp only [zG,mX,if_false];show 2<1000;decide,dx,_,zu,by simp only [zG,mX,A8,xU,if_false];show 3<1000;decide,?_};rw [gA,gA];have eF:zG ("next_mark":Str) (V.int m) (zG "next_row" (V.int n) (zG "spot_of" (V.ref D) (zG "own_files" (V.ref J) [])))=aV J D n m:=by
   simp only [zG,aV,mX,A8,xU,Kw,IC,ET,if_false]
  rw [eF];have Dx:D≠x:=λz=>by have:=n4.no;rw [z,I.same _ _ zu] at this;cases this
  have bt:But x H1 (upd H4 x (.ins A.State dx (aV J D n m))):=λc u nc e=>by
   rw [ze nc];exact n4.same _ _ (I.same _ _ (by rw [ze nc];exact e))
  have tk:∀{r:Addr}{u:HO},(∀fs,u≠.ins A.State dx fs)->H1 r=some u->upd H4 x (.ins A.State dx (aV J D n m)) r=some u:=λ{r u} hu e=>bt _ _ (λz=>by rw [z,s1 _ _ hx] at e;exact hu _ (Pn.inj e).symm) e;obtain ⟨Z,f1⟩:=G.ob;obtain ⟨ar,f2,f3⟩:=G.ex;have fx:J≠x:=λz=>by rw [z,hx] at nq;cases nq
  have ab:∀{r:Addr}{xs:List V},H3 r=some (.tup xs)->upd H4 x (.ins A.State dx (aV J D n m)) r=some (.tup xs):=λ{r xs} e=>by
   rw [ze (λz=>by rw [z,I.same _ _ zu] at e;cases e)];exact n4.same _ _ e
  exact q J b1 k1 D _ (λa o na ea=>bt _ _ na (s1 _ _ ea)) {⟨dx,zu⟩,{{Z,bt _ _ fx f1},{ar,tk (λ_ z=>HO.noConfusion z) f2,f3.imp λv l ⟨a,ea,ha⟩=>{a,ea,tk (λ_ z=>HO.noConfusion z) ha}},G.nd,tk (λ_ z=>HO.noConfusion z) G.kept,G.ne},{kvs,by rw [ze Dx];exact n4.at_,Paired.wa O λp t r=>r.keep λr xs e=>ab e},ok}
end
def cI(ts:List T3)(n:Int):T3:=(ts.find? λt=>decide (t.1=n)).getD (0,0,0)
theorem h8(nd:(ts.map (·.1)).Nodup){t:T3}(h:t∈ts):cI ts t.1=t:=by
 unfold cI
 induction ts with
 | nil=>cases h
 | cons u ts G =>
  obtain ⟨n1,F⟩:=QJ.mp nd;rw [RZ];rcases OH.mp h with rfl|h
  .rw [decide_eq_true rfl];rfl
  .have ne : ¬ u.1=t.1:=λz=>n1 (by show u.1∈_;rw [z];exact Qt.mpr {t,h,rfl});rw [decide_eq_false ne];exact G F h
theorem IL{ts:List T3}(nd:(ts.map (·.1)).Nodup):(ts.map (·.1)).map (cI ts)=ts:=by
 rw [Pg];have:∀us:List T3,(∀u∈us,u∈ts)->us.map (cI ts∘(·.1))=us:=λus h=>by
  induction us with
  | nil=>rfl
  | cons u us z=>rw [Pf,z λv hv=>h v (OI _ hv)];show cI ts u.1::us=_;rw [h8 nd (h u (OT ..))]
 exact this ts λ_ h=>h
section
variable {P:OL}{w:O1}{K:Frag}{mg:Str->Option Value}{base:Heap}{A:zj}
def me(A:zj):Sp:=λvs H Q _=>∃(x z b k d:Addr)(t:Tab)(ts:List T3)(n m:Int),vs=[.ref x]/\bI A H x z b k d t ts n m /\
 ∀q b' k' H',zi H H'->H b'=none->H k'=none->H q=none->zU A H' q b' k' t->Q (.ref q) H'
theorem Fq:zw YM YM (zk su):=fsc
theorem C7(F:Fun K Wq "State.files" su f fd)(T:Txt w K mg A)(J:GM P w K mg base true 4 A.qv "copied" YM (iz A)):zp P w K mg base CX0 true 5 f fd YM (me A):=by
 refine F.o Fq λZ0 Ar outer s H vs Q E S h=>?_;obtain ⟨x,U,b,k,d,t,ts,n,m,rfl,z,q⟩:=h;refine {_,(W.h (zh (zx (zH (az T.qs T.L1 (zm 0)) T.pw J S)))),?_};obtain ⟨dx,G⟩:=z.ob;obtain ⟨Z,O⟩:=z.files.ob;erw [G,O,Lh,xa];exact {U,b,k,t,rfl,z.files,q}
def jr(A:zj):Sp:=λvs H Q _=>∃(x z b k d:Addr)(t:Tab)(ts:List T3)(n m:Int),vs=[.ref x]/\bI A H x z b k d t ts n m/\Q (.int n) H
theorem EE:zw YM YM (zk mO):=fsc
theorem Eb(F:Fun K Wn "State.next_number" mO f fd)(T:Txt w K mg A):zp P w K mg base CX0 true 1 f fd YM (jr A):=by
 refine F.o EE λS U outer s H vs Q E J h=>?_;obtain ⟨x,O,b,k,d,t,ts,n,m,rfl,G,q⟩:=h;refine {_,(W.h (zh (zx (az T.qs T.Pv (zm 0))))),?_};obtain ⟨dx,z⟩:=G.ob;erw [z,FT];exact q
def iw(A:zj):Sp:=λvs H Q _=>∃(x z b k d:Addr)(t:Tab)(ts:List T3)(n m:Int),vs=[.ref x]/\bI A H x z b k d t ts n m/\Q (.int m) H
theorem Cg:zw YM YM (zk nW):=fsc
theorem MZ(F:Fun K Wp "State.mark_number" nW f fd)(T:Txt w K mg A):zp P w K mg base CX0 true 1 f fd YM (iw A):=by
 refine F.o Cg λS U outer s H vs Q E J h=>?_;obtain ⟨x,O,b,k,d,t,ts,n,m,rfl,G,q⟩:=h;refine {_,(W.h (zh (zx (az T.qs T.L4 (zm 0))))),?_};obtain ⟨dx,z⟩:=G.ob;erw [z,K7];exact q
def kA(A:zj):Sp:=λvs H Q _=>∃(x z b k d:Addr)(t:Tab)(ts:List T3)(n m:Int),vs=[.ref x]/\bI A H x z b k d t ts n m /\
 ∀l as ts' H',zi H H'->H l=none->H' l=some (.lst (as.map V.ref))->Paired (eM H') as ts'->ts'.Perm ts->(ts'.map (·.1)).Pairwise (·<=·)->Q (.ref l) H'
structure SpI(H:Hp)(x:Addr)(ts:List T3)(ns:List Int)(i:Nat)(τ:L2.St)(ys:List V)(H':Hp):Prop where
 ex:∃t1,τ=[t1,some (.ref x)]
 ys:∃as:List Addr,ys=as.map V.ref/\Paired (eM H') as ((ns.take i).map (cI ts))
 same:zi H H'
theorem M5:zw YM YM (zk lM):=fsc
theorem KN:bq { kind:=.function,names:=[(OA ".0",.local),(OA "birth",.local),(OA "self",.free)],isGenerator:=false,isCoroutine:=false,more:=[] } (zk lM).names YM [Wl,"self"] [none,some 0]=true:=by decide +kernel
theorem Lq:([Wl,"self"]:List Str).Nodup:=by decide +kernel
theorem EI(F:Fun K Wc "State.spots" lM f fd)(T:Txt w K mg A):zp P w K mg base CX0 true 1 f fd YM (kA A):=by
 refine F.o M5 λZ0 Ar outer s H vs Q E hr h=>?_;obtain ⟨x,fx,b,k,d,t,ts,n,m,rfl,hS,q⟩:=h;refine {_,(W.h (zh (zx (cX (λ_=>rfl) (zY.of KN) (bJ (zQ (Bm rfl) rfl T.Uu SF (zc (az T.qs T.z3 (zm 0)) zd))) (λ_ _ _ _ _=>(zC (i:=0) Lq rfl (OO rfl))) (λ_ _ _ _ _=>bW) (λ_ _ _ _ _=>(zJ h7 (bS (zc (zm 0) zd)) (zL (fZ (zT hr)) (az T.qs T.z3 (zm 1)) (zm 0) (λ_ _=>rfl)))))))),?_};obtain ⟨dx,e1⟩:=hS.ob;obtain ⟨kvs,e2,Z⟩:=hS.a9;have ok:=hS.ok;have lk:=aO Z;have ky:=iJ Z;erw [e1,tU];refine {kvs,.inl e2,by rw [lk];have:=ok.few;lia,λp ns H1 n1 pm so=>?_};rw [ky] at pm;have aH:ns.length=ts.length:=by rw [pm.length_eq,OB]
 refine {{_,SqL.of n1.at_},aN.lst (xs:=ns.map V.int) (SpI H1 x ts ns) (λi τ ys H' I=>?_) (λi τ ys H' I=>SqL.of (I.same _ _ n1.at_)) {{_,rfl},{[],rfl,.nil},zi.refl _} ?_ ?_}
 .obtain ⟨as,e,G⟩:=I.ys;have:=aO G;rw [OB] at this;have h2:=QZ i ns;have:=ok.few;rw [e,OB];exact aB 'l'
 .intro N i v τ ys H' hv I hN;obtain ⟨t1,rfl⟩:=I.ex;obtain ⟨as,e,G⟩:=I.ys;rw [OV] at hv;obtain ⟨nb,O,rfl⟩:=O2.mp hv;have av:=I.same _ _ (n1.same _ _ e1);have ai:=I.same _ _ (n1.same _ _ e2);obtain ⟨t,U,et⟩:=Qt.mp (pm.mem_iff.mp (OX O));obtain ⟨j,hj,ej⟩:=PM U;have J:j<kvs.length:=by rw [lk];exact hj
  obtain ⟨s1,a,s2,s3⟩:=cf Z (KE J) (KE hj);rw [ej] at s1 s3;have aF:ag (ik kvs) (.inl nb)=some (.ref a):=by
   refine kr (by rw [ky];exact ok.nd) ?_;rw [<- et,<- s1,<- s2];exact Qb J
  ac_rfl;refine {'d',λp1 H2 z=>?_};have ab:=z.same _ _ av;erw [ab,tU];refine {_,.inl (z.same _ _ ai),_,aF,?_};ac_rfl;refine .inr {_,z.at_,_,z.same _ _ (I.same _ _ (n1.same _ _ s3)),by show 3<=sizeLine;decide,λp2 H3 S ar=>hN _ _ _ {{_,rfl},{as++[p2],by rw [e,Ph];rfl,?_},I.same.trans (z.same.trans S)}};rw [O6,O,Ph];refine di (Paired.wa G λa t r=>S _ _ (z.same _ _ r)) (.cons ?_ .nil);show H3 p2=_;rw [ar,<- et,h8 ok.nd U];rfl
 .intro τ ys H' I D H2 z;obtain ⟨as,e,G⟩:=I.ys;rw [OB,OQ (Ox _)] at G;rw [e] at z;have Xf:=pm.map (cI ts);rw [IL ok.nd] at Xf;refine q D as _ H2 ((n1.same.trans I.same).trans z.same) ((n1.same.trans I.same).free z.no) z.at_ (Paired.wa G λa t r=>z.same _ _ r) Xf ?_;rw [Pg,show ns.map ((λx=>x.1)∘cI ts)=ns from ?_]
  .exact so
  .refine (QA λn hn=>?_).trans (map_id ns);obtain ⟨t,U,rfl⟩:=Qt.mp (pm.mem_iff.mp hn);show (cI ts t.1).1=t.1;rw [h8 ok.nd U]
end
abbrev kR:Stmt:=top 45
abbrev qz:Stmt:=top 44
theorem nX{α:Type}{t:List (Str×α)}{a:α}:(ak t n a).length<=t.length+1:=by
 unfold ak;split<;>simp
structure cB(t:Tab):Prop where
 nd:(names t).Nodup
 len:t.length<=16
 nm:∀n∈names t,bB n=true
 ls:∀p∈t,1<=p.2.length/\p.2.length<=16/\∀x∈p.2,0<=x/\x<10 ^ 18
def bC(t:Tab)(zs:List Str):List Str:=zs.flatMap λn=>n::(toString ((lk t n).length:Int):Str)::(lk t n).map λx=>(toString x:Str)
noncomputable def eQ(t:Tab):List Str:=(toString (t.length:Int):Str)::bC t (zN (names t))
theorem Ba{t:Tab}{zs:List Str}(h:zs[i]?=some n):bC t (zs.take (i+1))=bC t (zs.take i)++[n,(toString ((lk t n).length:Int):Str)]++(lk t n).map λx=>(toString x:Str):=by
 unfold bC;rw [O6,h];simp
section
variable {P:OL}{w:O1}{K:Frag}{mg:Str->Option Value}{base:Heap}{A:zj}{b k:Addr}
theorem cB.lk{t:Tab}(h:cB t)(z:n∈names t):∃l,look t n=some l/\K44.lk t n=l/\1<=l.length/\l.length<=16/\∀x∈l,0<=x/\x<10 ^ 18:=by
 cases e:look t n with
 | none=>exact absurd z (dY.mp e)
 | some l=>exact {l,rfl,by unfold K44.lk;rw [e];rfl,h.ls _ (rW e)}
structure K8(H:Hp)(p nl wl:Addr)(t:Tab)(i:Nat)(σ:L2.St)(H':Hp):Prop where
 ex:∃t1 t2,σ=[some (V.ref p),some (.ref nl),some (.ref wl),t1,t2]
 same:zi H H'
 hnl:H' nl=some (.lst ((zN (names t)).map V.str))
 hwl:H' wl=some (.lst (((toString (t.length:Int):Str)::bC t ((zN (names t)).take i)).map V.str))
 no:H wl=none
 ne:nl≠wl
 sz:(bC t ((zN (names t)).take i)).length<=18*i
 le:i<=16
structure TWc(H:Hp)(p:Addr)(n:Str)(l:List Int)(i:Nat)(τ:L2.St)(ys:List V)(H':Hp):Prop where
 ex:∃t,τ=[t,some (V.ref p),some (.str n)]
 ys:ys=((l.take i).map λx=>(toString x:Str)).map V.str
 same:zi H H'
 le:i<=16
def tR(A:zj):Sp:=λvs H Q _=>∃(p b k:Addr)(t:Tab),vs=[.ref p]/\zU A H p b k t/\cB t/\∀l H',zi H H'->H l=none->H' l=some (.lst ((eQ t).map V.str))->Q (.ref l) H'
theorem jj:zw [Wq,"names","words","name",Wf] WB (zk kR):=fsc
theorem CD:bq { kind:=.function,names:=[(OA ".0",.local),(OA "place",.local),(OA "str",.globalImplicit),(OA "files",.free),(OA "name",.free)],isGenerator:=false,isCoroutine:=false,more:=[] } (zk kR).names [Wq,"names","words","name",Wf] ["place",Wq,"name"] [none,some 0,some 3]=true:=by decide +kernel
theorem Df:(["place",Wq,"name"]:List Str).Nodup:=by decide +kernel
theorem Dl(F:Fun K VW VW kR f fd)(T:Txt w K mg A)(ZJ:GM P w K mg base true 1 A.qv "names" YM (qR A))(Z3:GM P w K mg base true 1 A.qv Wf X5 (iE A))(ZI:GM P w K mg base true 4 A.qv Wl Xe (si A)):zp P w K mg base CX0 true 5 f fd WB (tR A):=by
 refine F.o jj λZ0 Ar outer s H vs Q E hr h=>?_;obtain ⟨p,b,k,t,rfl,hF,gm,q⟩:=h;refine {_,(W.h (zg (zy (i:=1) jj.nd rfl (OO rfl) (zH (zm 0) T.pw ZJ hr))
   (zg (zy (i:=2) jj.nd rfl (OO rfl) (bw (zc (bF dv rfl T.Ut RD (zc (zQ iV rfl T.tj Pi (zc (zm 1) zd)) zd)) zd)))
   (zg (bG Qp.never (λ_=>rfl) (bJ (zm 1)) (zC (i:=3) jj.nd rfl (RU rfl))
   (zg (zy (i:=4) jj.nd rfl (OO rfl) (bc (zm 0) T.pw Z3 hr (zc (zm 3) zd)))
   (zg (aL (iG (zm 2) (bw (zc (zm 3) (zc (bF dv rfl T.Ut RD (zc (zm 4) zd)) zd)))))
   (zh (aL (iG (zm 2) (cX (λ_=>rfl) (zY.of CD) (cT rfl T.ro (zc (zm 4) zd)) (λ_ _ _ _ _=>(zC (i:=0) Df rfl (OO rfl))) (λ_ _ _ _ _=>bW) (λ_ _ _ _ _=>(bF dv rfl T.Ut RD (zc (bc (zm 1) T.pw ZI hr (zc (zm 2) (zc (zm 0) zd))) zd))))))))))
   (zh (zx (zm 2))))))),?_}
 obtain ⟨dx,e1⟩:=hF.ob;have gl:=gm.len;erw [e1,xi,ie,lN];refine {p,b,k,t,rfl,hF,'l',λnl H1 n1=>?_};erw [n1.at_];have sl:(zN (names t)).length=t.length:=by rw [(cy _).1.length_eq];simp [names]
 rw [OB,sl];refine {cQ 'l','d',λwl H2 O _=>{{_,SqL.of (O.same _ _ n1.at_)},?_}};have J:H wl=none:=n1.same.free O.no;have S:nl≠wl:=λz=>by have:=O.no;rw [<- z,n1.at_] at this;cases this
 refine aC.lst (xs:=(zN (names t)).map V.str) (K8 H p nl wl t) {{_,_,rfl},n1.same.trans O.same,O.same _ _ n1.at_,by rw [O.at_];rfl,J,S,by simp [bC],'l'} (λi σ H' _ I=>SqL.of I.hnl) ?_ ?_
 .rintro i x σ H' hx ⟨⟨t1,t2,rfl⟩,sm,hnl,hwl,J,S,sz,le⟩;rw [OV] at hx;obtain ⟨n,hn,rfl⟩:=O2.mp hx;obtain ⟨l,hl,el,l1,l2,lx⟩:=gm.lk ((cy _).1.mem_iff.mp (OX hn));have F':=hF.same sm;obtain ⟨aI,av⟩:=F'.ob;erw [av,ie,lN];refine {p,b,k,t,n,rfl,F',λH3 s3=>?_};have F3:=F'.same s3;obtain ⟨a0,a3⟩:=F3.ob;have ab:=s3 _ _ hwl;erw [ab];have hi:i<(zN (names t)).length:=(OE.mp hn).1;rw [el];refine {cQ 'l','d',λp1 H4 n4 _=>{_,n4.same _ _ ab,_,n4.at_,aQ (by simp;lia),{_,zu},'l','l',?_}};have ai:zi H H4:=(sm.trans s3).trans n4.same;have s5:∀o,zi H (upd H4 wl o):=λo c u Z=>by rw [ze (zz Z J)];exact ai c u Z
  refine aN.rng (TWc _ p n l) (λj τ ys H6 I=>?_) {{_,rfl},'z',zi.refl _,'l'} ?_ ?_
  .rw [I.ys,OB,OB,O8];exact aB (by have:=I.le;lia)
  .intro N j τ ys H6 hj I hN;obtain ⟨tt,rfl⟩:=I.ex;have F6:=hF.same ((s5 _).trans I.same);obtain ⟨aT,aF⟩:=F6.ob;have G:j<l.length:=by lia
   erw [aF,lN];refine {p,b,k,t,n,l,_,rfl,F6,hl,'l','l',λH7 s7=>?_};have ej:(0+(j:Int)).toNat=j:=by lia
   have eg:l.getD j 0=l[j]:=by rw [OY,KE G];rfl
   have hx:=lx l[j] (Qb G);rw [ej,eg];ac_rfl;refine {cQ 'l',hN _ _ _ {{_,rfl},?_,I.same.trans s7,'l'}};rw [I.ys,O6,KE G,Ph,Ph];rfl
  .intro τ ys H6 I D H7 U;have ar:=U.same _ _ (I.same _ _ zu);have aH:H7 nl=some (.lst ((zN (names t)).map V.str)):=U.same _ _ (I.same _ _ (by rw [ze S];exact n4.same _ _ (s3 _ _ hnl)));have Dw:D≠wl:=λz=>by have:=U.no;rw [z,I.same _ _ zu] at this;cases this
   erw [ar,U.at_];have ly:ys.length<=16:=by rw [I.ys,OB,OB,O8];lia
   refine {aQ (by simp;lia),{_,_,rfl},λc u Z=>?_,by rw [ze S];exact aH,?_,J,S,?_,'l'}
   .rw [ze (zz Z J)];exact U.same _ _ (I.same _ _ (s5 _ _ _ Z))
   .rw [zu,Ba hn,I.ys,el];have:l.take ((l.length:Nat):Int).toNat=l:=OQ 'l';rw [this];simp
   .rw [Ba hn,el];simp;lia
 .rintro σ H' ⟨⟨t1,t2,rfl⟩,sm,hnl,hwl,J,S,sz,le⟩;ac_rfl;refine q wl H' sm J ?_;rw [hwl,OB,OQ (Ox _)];rfl
structure Wd(z:Str):Prop where
 a:asc z=true
 most:z.length<=20
 no:32∉sg z
 n9:59∉sg z
theorem c0{i:Int}(G:0<=i)(h1:i<10 ^ 18):Wd (toString i:Str):=by
 have F:=d6 G h1;refine {?_,by rw [<- zV];have:=F.most;lia,λh=>(by have:=F.dig 32 h;lia),λh=>by have:=F.dig 59 h;lia};rw [cJ,Py];exact λc z=>decide_eq_true (by have:=F.dig c z;lia)
theorem qc(h:bB z=true):Wd z:=by
 unfold bB aZ at h;rw [Pm,Pm,decide_eq_true_eq,decide_eq_true_eq,Py] at h;have hl:∀c∈sg LET,c<128/\c≠32/\c≠59:=by decide +kernel
 refine {?_,'l',λhz=>(hl 32 (Qn.mp (h.2 32 hz))).2.1 rfl,λhz=>(hl 59 (Qn.mp (h.2 59 hz))).2.2 rfl};rw [cJ,Py];exact λc F=>decide_eq_true (hl c (Qn.mp (h.2 c F))).1
theorem tw{t:Tab}(gm:cB t):∀{zs:List Str},(∀n∈zs,n∈names t)->(∀z∈bC t zs,Wd z)/\(bC t zs).length<=18*zs.length
 | [],_=>by simp [bC]
 | n::zs,h=>by
  obtain ⟨i1,i2⟩:=tw gm (zs:=zs) λm hm=>h m (OI _ hm);obtain ⟨l,hl,G,J,O,F⟩:=gm.lk (h n (OT ..));have e:bC t (n::zs)=(n::(toString ((lk t n).length:Int):Str)::(lk t n).map λx=>(toString x:Str))++bC t zs:=by simp [bC]
  rw [e,G];refine {λz hz=>?_,by simp;lia};rcases Pk.mp hz with hz|hz
  .rcases OH.mp hz with rfl|hz
   .exact qc (gm.nm _ (h _ (OT ..)))
   .rcases OH.mp hz with rfl|hz
    .exact c0 'l' 'l'
    .obtain ⟨x,hx,rfl⟩:=Qt.mp hz;exact c0 (F x hx).1 (F x hx).2
  .exact i1 z hz
theorem xx{t:Tab}(gm:cB t):(∀z∈eQ t,Wd z)/\(eQ t).length<=289:=by
 have hl:=gm.len;obtain ⟨i1,i2⟩:=tw gm (zs:=zN (names t)) λn F=>(cy _).1.mem_iff.mp F;have sl:(zN (names t)).length=t.length:=by rw [(cy _).1.length_eq];simp [names]
 unfold eQ;refine {λz hz=>?_,by simp;lia};rcases OH.mp hz with rfl|hz
 .exact c0 'l' 'l'
 .exact i1 z hz
noncomputable def cg(t:Tab):List Str:=eQ t++[(toString (0:Int):Str)]
noncomputable def dq(t:Tab):Str:=Pq " " (cg t)
theorem sj{t:Tab}(gm:cB t):(∀z∈cg t,Wd z)/\(cg t).length<=300:=by
 obtain ⟨F,G⟩:=xx gm;unfold cg;refine {λz hz=>?_,by simp;lia};rcases Pk.mp hz with hz|hz
 .exact F z hz
 .rw [ON.mp hz];exact c0 (i:=0) 'd' 'd'
theorem Ln{zs:List Str}(h:∀z∈zs,Wd z)(hl:zs.length<=2000):(zs.map (·.length)).sum+zs.length*(" ":Str).length<=16777216:=by
 have:∀l:List Str,(∀z∈l,Wd z)->(l.map (·.length)).sum<=20*l.length:=by
  intro l
  induction l with
  | nil=>simp
  | cons z l G =>
   intro h;have h1:=(h z (OT ..)).most;have h2:=G λy F=>h y (OI _ F);rw [Pf,List.sum_cons,PQ];lia
 have:=this zs h;rw [show (" ":Str).length=1 by decide];lia
def xH(A:zj):Sp:=λvs H Q _=>∃(p b k:Addr)(t:Tab),vs=[.ref p]/\zU A H p b k t/\cB t/\∀H',zi H H'->Q (.str (dq t)) H'
theorem kY:zw [Wq,"words","held","name"] WB (zk qz):=fsc
theorem EM(F:Fun K "files_text" "files_text" qz f fd)(T:Txt w K mg A)(Zg:GF P w K mg base true 5 VW WB (tR A))(Y8:GM P w K mg base true 1 A.qv "held" YM (tH A)):zp P w K mg base CX0 true 6 f fd WB (xH A):=by
 refine F.o kY λZ0 Ar outer s H vs Q E Z h=>?_;obtain ⟨p,b,k,t,rfl,U,gm,q⟩:=h;refine {_,(W.h (zg (zy (i:=1) kY.nd rfl (OO rfl) (zB Zg Z rfl (zc (zm 0) zd)))
   (zg (zy (i:=2) kY.nd rfl (OO rfl) (zH (zm 0) T.pw Y8 Z))
   (zg (aL (eZ (zm 1) (bF dv rfl T.Ut RD (zc (zQ iV rfl T.tj Pi (zc (zm 2) zd)) zd))))
   (zg (bG Qp.never (λ_=>rfl) (bJ (zm 2)) (zC (i:=3) kY.nd rfl (OO rfl))
   (zg aW
   (zh aW)))
   (zh (zx (jG zF (zm 1))))))))),?_}
 ac_rfl;refine {p,b,k,t,rfl,U,gm,λwl H1 s1 wn ew=>?_};have F1:=U.same s1;obtain ⟨dx,e1⟩:=F1.ob;erw [e1,BO];refine {p,b,k,t,rfl,F1,λnl H2 J=>?_};have O:=J.same _ _ ew;have G:=J.at_;erw [O,G];have ab:=(xx gm).2;have nw:nl≠wl:=λz=>by have:=J.no;rw [z,ew] at this;cases this
 obtain ⟨w1,w2⟩:=sj gm;have em:(eQ t).map V.str++[V.str (toString ((0:Nat):Int):Str)]=(cg t).map V.str:=by unfold cg;rw [Ph];rfl
 rw [em];refine {cQ 'd',aB (by simp;lia),{_,SqL.of (by rw [ze nw];exact G)},aC.lst (xs:=[]) (λ_ σ H'=>(∃t1,σ=[some (V.ref p),some (.ref wl),some (.ref nl),t1])/\H'=upd H2 wl (.lst ((cg t).map V.str))) {{_,rfl},rfl} (λi σ H' _ I=>by rw [I.2];exact SqL.of (by rw [ze nw];exact G)) (λi x σ H' hx=>(by cases hx)) ?_};rintro σ H' ⟨⟨t1,rfl⟩,rfl⟩;ac_rfl;exact {cg t,zu,Ln w1 'l',q _ λc u S=>by rw [ze (zz S wn)];exact J.same _ _ (s1 _ _ S)}
end
abbrev pI:Stmt:=ay (top 25) 5
abbrev nL:Stmt:=ay (top 25) 1
abbrev rF:Stmt:=ay (top 25) 2
abbrev nB:Stmt:=ay (top 25) 3
abbrev sx:Stmt:=ay (top 25) 6
abbrev qN:Stmt:=top 48
def bZ(wl:Addr)(i:Int):List (Str×V):=[("words",.ref wl),("taken",.int i)]
structure aw(A:zj)(H:Hp)(p:Addr)(ws:List Str):Prop where
 ex:∃(dx wl:Addr)(pre:List Str),H p=some (.ins A.Words dx (bZ wl pre.length))/\H wl=some (.lst ((pre++ws).map V.str))/\(pre++ws).length<=2000/\pre++ws≠[]
theorem aw.same{p:Addr}(h:aw A H p ws)(s:zi H H'):aw A H' p ws:=let ⟨dx,wl,pre,e1,e2,r⟩:=h.ex;{{dx,wl,pre,s _ _ e1,s _ _ e2,r}}
theorem aw.but{p b:Addr}(h:aw A H p ws)(s:But b H H')(F:∃kvs,H b=some (.dK kvs)):aw A H' p ws:=by
 obtain ⟨dx,wl,pre,G,J,r⟩:=h.ex;obtain ⟨kvs,F⟩:=F;exact {{dx,wl,pre,s _ _ (λz=>by subst z;rw [G] at F;cases F) G,s _ _ (λz=>by subst z;rw [J] at F;cases F) J,r}}
section
variable {P:OL}{w:O1}{K:Frag}{mg:Str->Option Value}{base:Heap}{A:zj}{wl:Addr}{i:Int}
theorem xb:(bZ wl i).lookup ("words":Str)=some (.ref wl):=by simp only [bZ,PH,beq_self_eq_true]
theorem pZ:(bZ wl i).lookup ("taken":Str)=some (.int i):=by simp only [bZ,PH,beq_self_eq_true,B9]
theorem qP:(bZ wl i).lookup (V7:Str)=none:=by kernel_rfl
theorem d8:(bZ wl i).lookup (Wg:Str)=none:=by kernel_rfl
theorem ND:(bZ wl i).lookup ("take_name":Str)=none:=by kernel_rfl
theorem sX:(bZ wl i).lookup (V2:Str)=none:=by kernel_rfl
theorem Mg:(bZ wl i).lookup ("take_end":Str)=none:=by kernel_rfl
def rK(A:zj):Sp:=λvs H Q _=>∃(p:Addr)(ws:List Str),vs=[.ref p]/\aw A H p ws/\Q (.bl (decide (ws=[]))) H
theorem MC:zw YM YM (zk pI):=fsc
theorem GP(F:Fun K V2 "Words.is_at_end" pI f fd)(T:Txt w K mg A):zp P w K mg base CX0 true 1 f fd YM (rK A):=by
 refine F.o MC λZ Ar outer s H vs Q E S h=>?_;obtain ⟨p,ws,rfl,U,q⟩:=h;have O:_<cLine:=Px (zT S);refine {_,(W.h (zh (zx (eA (aU O) (az T.qr T.yz (zm 0)) (zQ iV rfl T.tj Pi (zc (az T.qr T.L0 (zm 0)) zd)) (zK _))))),?_};obtain ⟨dx,wl,pre,G,J,r⟩:=U.ex;erw [G,J,xb,pZ];have e:decide ((pre.length:Int)=((map V.str (pre++ws)).length:Nat))=decide (ws=[]):=by
  rw [OB,Pa];cases ws with
  | nil=>simp
  | cons z ws=>simp;lia
 rw [e];exact q
def k6(A:zj):Sp:=λvs H Q _=>∃(p:Addr)(z:Str)(ws:List Str),vs=[.ref p]/\aw A H p (z::ws)/\∀H',But p H H'->aw A H' p ws->Q (.str z) H'
theorem J5:zw YM YM (zk nL):=fsc
theorem E9(F:Fun K V7 "Words.take_word" nL f fd)(T:Txt w K mg A)(Z:GM P w K mg base true 1 A.Words V2 YM (rK A)):zp P w K mg base CX0 true 2 f fd YM (k6 A):=by
 refine F.o J5 λZ0 Ar outer s H vs Q E hr h=>?_;obtain ⟨p,z,ws,rfl,S,q⟩:=h;refine {_,(W.h (zg (zM (bE (zH (zm 0) T.qr Z hr))
   (zh aW)
   zR)
   (zg (qJ T.qr T.yz (zm 0) zq xt)
   (zh (zx (zL oh (az T.qr T.L0 (zm 0)) (zJ jg (az T.qr T.yz (zm 0)) zq) (λ_ _=>rfl))))))),?_}
 obtain ⟨dx,wl,pre,J,G,r⟩:=S.ex;erw [J,sX];refine {p,z::ws,rfl,S,?_};have O:wl≠p:=λy=>by rw [y,J] at G;cases G
 erw [J,pZ,List.cons_ne_nil,decide_false];have eF:zG ("taken":Str) (V.int ((pre.length:Int)+1)) (bZ wl pre.length)=bZ wl ((pre.length:Int)+1):=by simp only [zG,bZ,xv,if_false,if_true]
 rw [eF];refine {by show 2<1000;decide,dx,_,zu,_,xb,dx,_,zu,_,pZ,?_};rw [AM,jX];have U:(pre.length:Int)+1-1=((pre.length:Nat):Int):=by lia
 refine {_,.inl (by rw [ze O];exact G),.str z,by rw [U];exact ee 'z',q _ But.upd {{dx,wl,pre++[z],?_,?_,?_}}}
 .rw [zu];simp
 .rw [ze O,G];simp
 .simpa using r
def iD(A:zj):Sp:=λvs H Q _=>∃(p:Addr)(i:Int)(ws:List Str),vs=[.ref p]/\aw A H p ((toString i:Str)::ws)/\0<=i/\i<10 ^ 18/\∀H',But p H H'->aw A H' p ws->Q (.int i) H'
theorem y8:zw ["self","word"] YM (zk rF):=fsc
theorem Cm(F:Fun K Wg "Words.take_number" rF f fd)(T:Txt w K mg A)(U:GM P w K mg base true 2 A.Words V7 YM (k6 A))(S:GF P w K mg base true 2 We X6 (fH cw)):zp P w K mg base CX0 true 3 f fd YM (iD A):=by
 refine F.o y8 λZ0 Ar outer s H vs Q E G h=>?_;obtain ⟨p,i,ws,rfl,J,i0,i1,q⟩:=h;refine {_,(W.h (zg (zy (i:=1) y8.nd rfl (OO rfl) (zH (zm 0) T.qr U G))
   (zg (zM (eE (bE (zB S G rfl (zc (zm 1) zd))))
   (zh aW)
   zR)
   (zh (zx (bF vF rfl T.aO boot_int (zc (zm 1) zd))))))),?_}
 obtain ⟨dx,wl,pre,O,e2,r⟩:=J.ex;erw [O,qP];refine {p,_,ws,rfl,J,λH1 Z z=>?_};have wd:=c0 i0 i1;ac_rfl;refine {_,rfl,wd.a,by have:=wd.most;lia,λH2 s2=>?_};rw [Ab ⟨i0,i1⟩];ac_rfl;exact {by rw [<- zV];have:=(d6 i0 i1).most;lia,i,(d6 i0 i1).back,q H2 (Z.trans (But.of s2)) (z.same s2)}
def yX(A:zj):Sp:=λvs H Q _=>∃(p:Addr)(z:Str)(ws:List Str),vs=[.ref p]/\aw A H p (z::ws)/\bB z=true/\∀H',But p H H'->aw A H' p ws->Q (.str z) H'
theorem xl:zw ["self","word"] YM (zk nB):=fsc
theorem Kz(F:Fun K "take_name" "Words.take_name" nB f fd)(T:Txt w K mg A)(Z:GM P w K mg base true 2 A.Words V7 YM (k6 A))(U:GF P w K mg base true 2 "is_name" X6 (fH bB)):zp P w K mg base CX0 true 3 f fd YM (yX A):=by
 refine F.o xl λZ0 Ar outer s H vs Q E J h=>?_;obtain ⟨p,z,ws,rfl,O,hz,q⟩:=h;refine {_,(W.h (zg (zy (i:=1) xl.nd rfl (OO rfl) (zH (zm 0) T.qr Z J))
   (zg (zM (eE (bE (zB U J rfl (zc (zm 1) zd))))
   (zh aW)
   zR)
   (zh (zx (zm 1)))))),?_}
 obtain ⟨dx,wl,pre,S,e2,r⟩:=O.ex;erw [S,qP];refine {p,z,ws,rfl,O,λH1 b1 G=>?_};have wd:=qc hz;ac_rfl;refine {_,rfl,wd.a,by have:=wd.most;lia,λH2 s2=>?_};rw [hz];ac_rfl;exact q H2 (b1.trans (But.of s2)) (G.same s2)
def Ag(A:zj):Sp:=λvs H Q _=>∃(p:Addr),vs=[.ref p]/\aw A H p []/\Q .non H
theorem Jq:zw YM YM (zk sx):=fsc
theorem Kb(F:Fun K "take_end" "Words.take_end" sx f fd)(T:Txt w K mg A)(J:GM P w K mg base true 1 A.Words V2 YM (rK A)):zp P w K mg base CX0 true 2 f fd YM (Ag A):=by
 refine F.o Jq λU Z outer s H vs Q E O h=>?_;obtain ⟨p,rfl,z,q⟩:=h;refine {_,(W.h (zh (zM (eE (bE (zH (zm 0) T.qr J O)))
   (zh aW)
   zR))),?_}
 obtain ⟨dx,wl,pre,G,S,r⟩:=z.ex;erw [G,sX];refine {p,[],rfl,z,?_};erw [decide_true];exact q
def uh(A:zj):Sp:=λvs H Q _=>∃(p:Addr)(y z:Str)(ws:List Str),vs=[.ref p,.str y]/\aw A H p (z::ws)/\bB z=true/\y.cps.toList<z.cps.toList/\∀H',But p H H'->aw A H' p ws->Q (.str z) H'
theorem Ae:zw ["words","name","later"] ["words","name"] (zk qN):=fsc
theorem HA(F:Fun K Wa Wa qN f fd)(T:Txt w K mg A)(U:GM P w K mg base true 3 A.Words "take_name" YM (yX A)):zp P w K mg base CX0 true 4 f fd ["words","name"] (uh A):=by
 refine F.o Ae λZ0 Ar outer s H vs Q E S h=>?_;obtain ⟨p,y,z,ws,rfl,J,hz,lt,q⟩:=h;refine {_,(W.h (zg (zy (i:=2) Ae.nd rfl (OO rfl) (zH (zm 0) T.qr U S))
   (zg (zM (zS Jw (zm 2) (zm 1) (zK _))
   (zh aW)
   zR)
   (zh (zx (zm 2)))))),?_}
 obtain ⟨dx,wl,pre,O,e2,r⟩:=J.ex;erw [O,ND];refine {p,z,ws,rfl,J,hz,λH1 Z G=>?_};ac_rfl;rw [decide_eq_true lt];ac_rfl;exact q H1 Z G
end
abbrev pq:Stmt:=ay (top 25) 0
theorem nK:∀(v:Str)(ws:List Str),sg (Pq " " (v::ws))=sg v++((ws.map sg).map (32::·)).flatten:=by
 intro v ws;have e:Pq " " (v::ws)=Str.join " " (v::ws):=StrLaws.glued_eq_join " " (v::ws);rw [e]
 induction ws generalizing v with
 | nil=>show sg v=_;simp
 | cons x ws z =>
  have z:=z x (StrLaws.glued_eq_join " " _);show sg (v++" "++Str.join " " (x::ws))=_;rw [bX,bX,z];have:sg (" ":Str)=[32]:=by decide
  rw [this];simp
theorem FU(h:∀z∈v::ws,Wd z):Pu (Pq " " (v::ws)) " "=v::ws:=by
 have e:=l4 (Pq " " (v::ws)) (c:=32) 'd';have J:=i4 (c:=32) (sg v) (ws.map sg) (λx hx=>by
  rcases OH.mp hx with rfl|hx
  .exact (h v (OT ..)).no
  .obtain ⟨y,O,rfl⟩:=Qt.mp hx;exact (h y (OI _ O)).no)
 rw [nK] at e;have G:=e.trans (congrArg (map tx) J);have F:Pu (Pq " " (v::ws)) " "=Pu (Pq " " (v::ws)) (c1 32):=congrArg (Pu (Pq " " (v::ws))) (show (" ":Str)=c1 32 from by decide);rw [F,G,Pf,dO,Pg];congr 1;have:(tx∘sg)=id:=funext λz=>dO z;rw [this,map_id]
theorem iY:∀ws:List Str,(∀z∈ws,Wd z)->(((ws.map sg).map (32::·)).flatten).length<=21*ws.length
 | [],_=>by simp
 | z::ws,h=>by
  have h1:=(h z (OT ..)).most;have h2:=iY ws λy F=>h y (OI _ F);rw [Pf,Pf,RT,Pa,PQ,PQ,zV];lia
theorem vk(h:∀z∈v::ws,Wd z):(Pq " " (v::ws)).length<=21*(ws.length+1):=by
 have h1:=(h v (OT ..)).most;have h2:=iY ws λy F=>h y (OI _ F);rw [<- zV,nK,Pa,zV];lia
section
variable {P:OL}{w:O1}{K:Frag}{mg:Str->Option Value}{base:Heap}{A:zj}
def wk(A:zj):Sp:=λvs H Q _=>∃(p dx:Addr)(v:Str)(ws:List Str),vs=[.ref p,.str (Pq " " (v::ws))]/\H p=some (.ins A.Words dx [])/\(∀z∈v::ws,Wd z)/\ws.length<=1900/\∀H',But p H H'->aw A H' p (v::ws)->Q .non H'
theorem FC:zw Xh Xh (zk pq):=fsc
theorem Lp(F:Fun K Wo "Words.__init__" pq f fd)(T:Txt w K mg A):zp P w K mg base CX0 true 1 f fd Xh (wk A):=by
 refine F.o FC λZ Ar outer s H vs Q E U h=>?_;obtain ⟨p,dx,v,ws,rfl,J,hw,hl,q⟩:=h;refine {_,(W.h (zg (cq T.qr T.L0 (zm 0) (qL (zm 1) zF))
   (zh (cq T.qr T.yz (zm 0) zq)))),?_}
 have hm:=vk hw;ac_rfl;rw [FU hw];refine {'d',aB 'l',aQ (by simp;lia),λl H2 G=>{dx,[],G.same _ _ J,'d',dx,_,zu,by show 1<1000;decide,?_}};have S:zG ("taken":Str) (V.int 0) (zG ("words":Str) (V.ref l) [])=bZ l 0:=by simp only [zG,bZ,xv,if_false]
 rw [S];have O:l≠p:=λz=>by have:=G.no;rw [z,J] at this;cases this
 exact q _ (λa o n e=>by rw [ze n,ze n];exact G.same _ _ e) {{dx,l,[],by rw [zu];rfl,by rw [ze O,ze O];exact G.at_,by simp;lia,'z'}}
abbrev o7:Stmt:=top 47
theorem CT(h:leS a b)(n:a≠b):a.cps.toList<b.cps.toList:=by
 refine Qd λz=>n (wq h ?_);unfold leS;rw [<- lt_meets,decide_eq_false z]
theorem Il(nd:ks.Nodup):(zN ks).Pairwise (λa b=>a.cps.toList<b.cps.toList) :=
 ((cy ks).2.and ((cy ks).1.nodup_iff.mpr nd)).imp λh=>CT h.1 h.2
theorem CZ(h:bB z=true):1<=z.length:=by
 unfold bB aZ at h;rw [Pm,Pm,decide_eq_true_eq] at h;lia
def pX(zs:List Str):Nat->Str
 | 0=>""
 | i+1=>zs.getD i ""
theorem K1(h:zs.Pairwise (λa b=>a.cps.toList<b.cps.toList))(F:zs[i]?=some n)(h1:1<=n.length):(pX zs i).cps.toList<n.cps.toList:=by
 cases i with
 | zero =>
  have z:("":Str).cps.toList=[]:=by decide
  show ("":Str).cps.toList<n.cps.toList;rw [z];have hl:1<=n.cps.toList.length:=by rw [show n.cps.toList=sg n from rfl,zV];exact h1
  cases e:n.cps.toList with
  | nil=>rw [e] at hl;cases hl
  | cons c r=>exact List.nil_lt_cons c r
 | succ i =>
  obtain ⟨hi,e⟩:=OE.mp F;have:=QN.mp h i (i+1) 'l' hi 'l';show (zs.getD i "").cps.toList<n.cps.toList;rw [OY,KE 'l',<- e];exact this
theorem Ee(z:zs[i]?=some n):pX zs (i+1)=n:=by
 show zs.getD i ""=n;rw [OY,z];rfl
theorem vt{α:Type}{zs:List α}{n m:α}(h:zs[i]?=some n):m∈zs.take (i+1)↔m∈zs.take i\/m=n:=by
 rw [O6,h];simp
theorem xo{α:Type}{zs:List α}(nd:zs.Nodup){n:α}(h:zs[i]?=some n):n∉zs.take i:=by
 have h1:(zs.take (i+1)).Nodup:=nd.sublist (List.take_sublist _ _);rw [O6,h,QK] at h1;intro z;exact h1.2.2 n z n 'z' rfl
theorem jR{α:Type}{zs:List α}{n:α}(h:zs[i]?=some n):zs.drop i=n::zs.drop (i+1):=by
 obtain ⟨hi,e⟩:=OE.mp h;rw [QU hi,e]
theorem Ij{t:Tab}{zs:List Str}(h:zs[i]?=some n):bC t (zs.drop i)=n::(toString ((lk t n).length:Int):Str)::(((lk t n).map λx=>(toString x:Str))++bC t (zs.drop (i+1))):=by
 rw [jR h];simp [bC]
theorem BU{b k wl:Addr}:aK b k≠bZ wl i:=by
 intro h;have h1:(aK b k).map (·.1)=(bZ wl i).map (·.1):=by rw [h]
 have h2:("births":Str)=("words":Str):=by injection h1
 exact absurd h2 'd'
theorem But.fresh{p b:Addr}(x:But p H H1)(y:But b H1 H2)(n:H b=none):But p H H2:=λa o F e=>y a o (λz=>by rw [<- z,e] at n;cases n) (x a o F e)
theorem aw.fk{p:Addr}(h:aw A H p ws)(s:But p H H'):FK A H H':=λa o hs e=>s a o (λz=>by
 obtain ⟨F,wl,pre,G,_⟩:=h.ex;rw [z,G] at e;rcases hs with ⟨_,_,_,rfl⟩|⟨_,_,_,_,_,rfl⟩|⟨_,rfl⟩|⟨_,rfl⟩
 .injection e with e;injection e with _ _ e;exact BU e.symm
 .injection e with e;injection e with _ _ e;have:=congrArg T8 e;exact absurd this (show ¬ 2=4 by decide)
 .cases e
 .cases e) e
structure Cp(A:zj)(H:Hp)(p q b k:Addr)(t:Tab)(zs rest:List Str)(i:Nat)(σ:L2.St)(H':Hp):Prop where
 ex:∃t1 t2 t3,σ=[some (V.ref p),some (.ref q),some (.str (pX zs i)),t1,t2,t3]
 but:But p H H'
 wd:aw A H' p (bC t (zs.drop i)++rest)
 fl:∃u,zU A H' q b k u/\(∀m,look u m=if m∈zs.take i then look t m else none)/\u.length<=16*i
structure ES(A:zj)(H:Hp)(p q b k:Addr)(n:Str)(l:List Int)(u:Tab)(rest:List Str)(j:Nat)(σ:L2.St)(H':Hp):Prop where
 ex:∃t1 t3,σ=[some (V.ref p),some (.ref q),some (.str n),t1,some (.int l.length),t3]
 but:But p H H'
 wd:aw A H' p (((l.drop j).map λx=>(toString x:Str))++rest)
 fl:∃u',zU A H' q b k u'/\lk u' n=l.take j/\(∀m,m≠n->look u' m=look u m)/\(0<j->look u' n=some (l.take j))/\u'.length<=u.length+j
def Aq(A:zj):Sp:=λvs H Q _=>∃(p:Addr)(t:Tab)(rest:List Str),vs=[.ref p]/\aw A H p (eQ t++rest)/\cB t/\∀q b k u H',But p H H'->H q=none->H b=none->H k=none->zU A H' q b k u->bY u t->aw A H' p rest->Q (.ref q) H'
theorem gQ:zw ["words",Wq,"name","number",Wf,"place"] Xw (zk o7):=fsc
theorem Ng(F:Fun K "take_table" "take_table" o7 f fd)(T:Txt w K mg A)(Zp:GC P w K mg base true 1 "Files" A.qv YM (jF A))(Z9:GM P w K mg base true 3 A.Words Wg YM (iD A))(Zz:GF P w K mg base true 4 Wa ["words","name"] (uh A))(ZP:GM P w K mg base true 4 A.qv Wi XA (ke A)):zp P w K mg base CX0 true 5 f fd Xw (Aq A):=by
 refine F.o gQ λZ0 Ar outer s H vs Q E hr h=>?_;obtain ⟨p,t,rest,rfl,hW,gm,q⟩:=h;have hu:_<cLine:=Px (zT hr);refine {_,(W.h (zg (zy (i:=1) gQ.nd rfl (OO rfl) (oZ Zp hr rfl))
   (zg (zy (i:=2) gQ.nd rfl (OO rfl) zF)
   (zg (bG Qp.never (λ_=>rfl) (cT rfl T.ro (zc (zH (zm 0) T.qr Z9 hr) zd)) (zC (i:=3) gQ.nd rfl (OO rfl))
   (zg (zy (i:=2) gQ.nd rfl (OO rfl) (zB Zz hr rfl (zc (zm 0) (zc (zm 2) zd))))
   (zg (zy (i:=4) gQ.nd rfl (OO rfl) (zH (zm 0) T.qr Z9 hr))
   (zg (zM (zS (aU hu) (zm 4) zq (zK _))
   (zh aW)
   zR)
   (zh (bG Qp.never (λ_=>rfl) (cT rfl T.ro (zc (zm 4) zd)) (zC (i:=5) gQ.nd rfl (OO rfl))
   (zh (aL (bc (zm 1) T.pw ZP hr (zc (zm 2) (zc (zm 5) (zc (zH (zm 0) T.qr Z9 hr) zd))))))))))))
   (zh (zx (zm 1))))))),?_}
 have gl:=gm.len;ac_rfl;refine λx Xm H2 nI=>{x,Xm,rfl,nI.at_,λb1 k1 H3 s3 nb nk ex F3=>{rfl,?_}};have px:∀c o,H c=some o->c≠x:=λc o e z=>by have:=nI.no;rw [<- z,e] at this;cases this
 have Xl:zi H H3:=λc o e=>s3 c o (px c o e) (nI.same c o e);have b0:H b1=none:=nI.same.free nb;have k0:H k1=none:=nI.same.free nk;have W3:=hW.same Xl;obtain ⟨dx,wl,pre,e1,e2,r⟩:=W3.ex;erw [e1,d8];refine {p,t.length,bC t (zN (names t))++rest,rfl,W3,'l','l',λH4 b4 a7=>?_};have F4:=F3.mv (W3.fk b4);ac_rfl;have sl:(zN (names t)).length=t.length:=by rw [(cy _).1.length_eq];simp [names]
 have ris:=Il gm.nd;have a6:(zN (names t)).Nodup:=(cy _).1.nodup_iff.mpr gm.nd;have el:((t.length:Nat):Int).toNat=(zN (names t)).length:=by rw [sl];lia
 rw [el];have a3:But p H H4:=(But.of Xl).trans b4;refine {'l','l',aC.rng (Cp A H p x b1 k1 t (zN (names t)) rest) {{_,_,_,rfl},a3,a7,{[],F4,by simp [look],'z'}} ?_ ?_}
 .rintro i σ H' hi ⟨⟨t1,t2,t3,rfl⟩,bt,G,u,U,J,aI⟩;have S:(zN (names t))[i]?=some (zN (names t))[i]:=KE hi;generalize (zN (names t))[i]=n at S;have XR:=(cy _).1.mem_iff.mp (OX S);obtain ⟨l,hl,el,l1,l2,lx⟩:=gm.lk XR;have aH:=gm.nm n XR;rw [Ij S,el] at G;ac_rfl;refine {p,_,n,_,rfl,G,aH,K1 ris S (CZ aH),λH5 b5 Z=>?_};have F5:=U.mv (G.fk b5);obtain ⟨bP,bL,bh,a9,_⟩:=Z.ex;erw [a9,d8];refine {p,l.length,_,rfl,Z,'l','l',λH6 b6 bf=>?_};have F6:=F5.mv (Z.fk b6);have aT:decide ((l.length:Int)=0)=false:=decide_eq_false 'l';erw [aT];have ba:((l.length:Nat):Int).toNat=l.length:=by lia
  rw [ba];have nu:look u n=none:=by rw [J,if_neg (xo a6 S)]
  refine {'l','l',aC.rng (ES A H p x b1 k1 n l u (bC t ((zN (names t)).drop (i+1))++rest)) {{_,_,rfl},(bt.trans b5).trans b6,by simpa using bf,u,F6,by unfold lk;rw [nu];rfl,λ_ _=>rfl,λz=>absurd z 'l','l'} ?_ ?_}
  .rintro j σ H' hj ⟨⟨t1,t3,rfl⟩,bt,G,u',U,O,ai,aF,av⟩;obtain ⟨b3,a5⟩:=U.ob;obtain ⟨bp,bx,bg,a8,_⟩:=G.ex;have ab:l[j]?=some l[j]:=KE hj;have ar:=lx l[j] (Qb hj);generalize l[j]=y at ab ar;rw [jR ab] at G;erw [a5,a8,rh,d8];refine {p,y,_,rfl,G,ar.1,ar.2,λH8 b8 a4=>?_};have F8:=U.mv (G.fk b8);have ej:(0+(j:Int)).toNat=j:=by lia
   refine {x,b1,k1,u',n,_,y,rfl,F8,'l',?_,?_,?_,λH9 b9 F9=>?_}
   .rw [O,O8];lia
   .rw [O,O8];lia
   .lia
   .rw [ej,O,Qr (by rw [O8];lia),List.take_take,Nat.min_self,Qe] at F9;have et:l.take j++[y]=l.take (j+1):=by rw [O6,ab];rfl
    rw [et] at F9;obtain ⟨b2,a0,_⟩:=F8.ex;refine {{_,_,rfl},(bt.trans b8).fresh b9 b0,a4.but b9 {_,a0},_,F9,?_,λm hm=>?_,λ_=>?_,?_}
    .unfold lk;rw [fe,if_pos rfl];rfl
    .rw [fe,if_neg hm];exact ai m hm
    .rw [fe,if_pos rfl]
    .have:=nX (t:=u') (n:=n) (a:=l.take (j+1));lia
  .rintro σ H' ⟨⟨t1,t3,rfl⟩,bt,G,u',U,O,ai,aF,av⟩;have h3:=aF 'l';rw [OQ (Ox _)] at h3;refine {{_,_,_,by rw [Ee S]},bt,by simpa using G,u',U,λm=>?_,'l'};by_cases hm:m=n
   .rw [hm,h3,if_pos ((vt S).mpr (.inr rfl)),hl]
   .rw [ai m hm,J];have:m∈(zN (names t)).take (i+1)↔m∈(zN (names t)).take i:=by rw [vt S];simp [hm]
    simp only [this]
 .rintro σ H' ⟨⟨t1,t2,t3,rfl⟩,bt,G,u,U,J,aI⟩;ac_rfl;rw [Qr (Ox _)] at G;refine q x b1 k1 u H' bt nI.no b0 k0 U (λm=>?_) (by simpa [bC] using G);rw [J,OQ (Ox _)];by_cases hm:m∈zN (names t)
  .rw [if_pos hm]
  .rw [if_neg hm];exact (dY.mpr λz=>hm ((cy _).1.mem_iff.mpr z)).symm
abbrev qO:Stmt:=top 46
theorem But.gone{p:Addr}(x:But p H H')(n:H p=none):zi H H':=λa o e=>x a o (λz=>by rw [<- z,e] at n;cases n) e
def tQ(A:zj):Sp:=λvs H Q _=>∃(p:Addr)(t:Tab)(rest:List Str),vs=[.ref p]/\aw A H p (cg t++rest)/\cB t/\∀q b k u H',But p H H'->H q=none->H b=none->H k=none->zU A H' q b k u->bY u t->aw A H' p rest->Q (.ref q) H'
theorem jP:zw ["words",Wq,"name","number"] Xw (zk qO):=fsc
theorem Iu(F:Fun K "take_files" "take_files" qO f fd)(T:Txt w K mg A)(Y7:GF P w K mg base true 5 "take_table" Xw (Aq A))(Z9:GM P w K mg base true 3 A.Words Wg YM (iD A)):zp P w K mg base CX0 true 6 f fd Xw (tQ A):=by
 refine F.o jP λZ0 Ar outer s H vs Q E S h=>?_;obtain ⟨p,t,rest,rfl,O,gm,q⟩:=h;have Z:cg t++rest=eQ t++((toString (0:Int):Str)::rest):=by unfold cg;simp
 rw [Z] at O;refine {_,(W.h (zg (zy (i:=1) jP.nd rfl (OO rfl) (zB Y7 S rfl (zc (zm 0) zd)))
   (zg (zy (i:=2) jP.nd rfl (OO rfl) zF)
   (zg (bG Qp.never (λ_=>rfl) (cT rfl T.ro (zc (zH (zm 0) T.qr Z9 S) zd)) (zC (i:=3) jP.nd rfl (OO rfl))
   (zg aW
   (zh aW)))
   (zh (zx (zm 1))))))),?_}
 ac_rfl;refine {p,t,_,rfl,O,gm,λx b1 k1 u0 H3 J x0 b0 k0 F3 al G=>?_};obtain ⟨dx,wl,pre,e1,e2,r⟩:=G.ex;erw [e1,d8];refine {p,0,rest,rfl,G,'d','d',λH4 U z=>?_};ac_rfl;refine {'d','d',aC.rng (λ_ σ H'=>(∃t1,σ=[some (V.ref p),some (.ref x),some (.str ""),t1])/\H'=H4) {{_,rfl},rfl} (λi σ H' hi=>absurd hi (Uj _)) ?_};rintro σ H' ⟨⟨t1,rfl⟩,rfl⟩;ac_rfl;exact q x b1 k1 u0 H' (J.trans U) x0 b0 k0 (F3.mv (G.fk U)) al z
theorem Fu(t:Tab):∃v ws,cg t=v::ws:={_,_,by unfold cg eQ;rw [Tp]}
abbrev lE:Stmt:=top 53
def sO(ts:List T3):Prop:=∀t∈ts,(0<=t.2.1/\t.2.1<512)/\0<=t.2.2/\t.2.2<512
def au(ws:List Str):List Nat:=(ws.map λz=>sg z++[32]).flatten
def bK(ts:List T3):List Str:=ts.flatMap λt=>[(toString t.1:Str),(toString t.2.1:Str),(toString t.2.2:Str)]
noncomputable def bo(m n:Int)(t:Tab)(ts:List T3):List Str:="mark"::(toString m:Str)::(toString n:Str)::(cg t++(toString (ts.length:Int):Str)::bK ts)
noncomputable def aG(m n:Int)(t:Tab)(ts:List T3):Str:=cM (tx (au (bo m n t ts)))
structure gO(ts:List T3)(m n:Int):Prop where
 b:∀t∈ts,0<=t.1/\t.1<10 ^ 18
 r:sO ts
 few:ts.length<40
 m:0<=m/\m<10 ^ 18
 n:0<=n/\n<10 ^ 18
theorem mr(a b:List Str):au (a++b)=au a++au b:=by unfold au;rw [Ph,List.flatten_append]
theorem Av(v:Str)(ws:List Str):sg (Pq " " (v::ws))++[32]=au (v::ws):=by
 rw [nK];have:∀ws:List Str,((ws.map sg).map (32::·)).flatten++[32]=32::au ws:=by
  intro ws
  induction ws with
  | nil=>rfl
  | cons z ws F =>
   show (32::sg z++((ws.map sg).map (32::·)).flatten)++[32]=32::((sg z++[32])++au ws);rw [QW,F];simp
 rw [QW,this];show _=(sg v++[32])++au ws;simp
theorem ow:∀{ws:List Str},(∀z∈ws,Wd z)->(au ws).length<=21*ws.length/\(au ws).all (· < 128)=true
 | [],_=>{by simp [au],rfl}
 | z::ws,h=>by
  obtain ⟨h1,h2⟩:=ow (ws:=ws) λu G=>h u (OI _ G);have hz:=h z (OT ..);have e:au (z::ws)=sg z++[32]++au ws:=by simp [au]
  have F:=hz.most;have p2:=hz.a;rw [e];rw [<- zV] at F;rw [cJ] at p2;refine {by simp;lia,?_};rw [R3,R3,p2,h2];rfl
theorem lI:∀{ts:List T3},(∀t∈ts,0<=t.1/\t.1<10 ^ 18)->sO ts->(∀z∈bK ts,Wd z)/\(bK ts).length=3*ts.length
 | [],_,_=>by simp [bK]
 | t::ts,h,r=>by
  obtain ⟨i1,i2⟩:=lI (ts:=ts) (λu F=>h u (OI _ F)) (λu F=>r u (OI _ F));have h1:=h t (OT ..);have h2:=r t (OT ..);have e:bK (t::ts)=[(toString t.1:Str),(toString t.2.1:Str),(toString t.2.2:Str)]++bK ts:=by simp [bK]
  rw [e];refine {λz hz=>?_,by simp;lia};rcases Pk.mp hz with hz|hz
  .simp only [OH,Pc,or_false] at hz;rcases hz with rfl|rfl|rfl
   .exact c0 h1.1 'l'
   .exact c0 h2.1.1 'l'
   .exact c0 h2.2.1 'l'
  .exact i1 z hz
theorem jZ{t:Tab}(gm:cB t)(gs:gO ts m n):(∀z∈bo m n t ts,Wd z)/\(bo m n t ts).length<=1400:=by
 obtain ⟨F,G⟩:=sj gm;obtain ⟨s1,s2⟩:=lI gs.b gs.r;have few:=gs.few;refine {λz hz=>?_,by unfold bo;simp;lia};unfold bo at hz;rcases OH.mp hz with rfl|hz
 .exact qc (f!"")
 rcases OH.mp hz with rfl|hz
 .exact c0 gs.m.1 gs.m.2
 rcases OH.mp hz with rfl|hz
 .exact c0 gs.n.1 gs.n.2
 rcases Pk.mp hz with hz|hz
 .exact F z hz
 rcases OH.mp hz with rfl|hz
 .exact c0 'l' 'l'
 .exact s1 z hz
theorem Jj{ts:List T3}{t:T3}(h:ts[i]?=some t):bK (ts.take (i+1))=bK (ts.take i)++[(toString t.1:Str),(toString t.2.1:Str),(toString t.2.2:Str)]:=by
 unfold bK;rw [O6,h,SK];simp
def d3(m n:Int)(z:Str)(l:Int)(ts:List T3):List Str:=[("mark":Str),(toString m:Str),(toString n:Str),z,(toString l:Str)]++bK ts
theorem Nv{t:Tab}(gm:cB t)(gs:gO ts m n):((d3 m n (dq t) ts.length ts).length<=200/\∀z∈d3 m n (dq t) ts.length ts,z.length<=100000)/\au (d3 m n (dq t) ts.length ts)=au (bo m n t ts):=by
 obtain ⟨G,J⟩:=sj gm;obtain ⟨s1,s2⟩:=lI gs.b gs.r;obtain ⟨U,_⟩:=jZ gm gs;obtain ⟨v,ws,ea⟩:=Fu t;have few:=gs.few;refine {{by unfold d3;simp;lia,λz hz=>?_},?_}
 .by_cases F:z=dq t
  .rw [F];unfold dq;rw [ea] at G J ⊢;have:=vk G;simp only [PQ] at J;lia
  .have:z∈bo m n t ts:=by
    unfold d3 at hz;unfold bo;simp only [Tp,T7,OH,Pk] at hz ⊢;rcases hz with h|h|h|h|h|h<;>simp_all
   have:=(U z this).most;lia
 .have O:bo m n t ts=[("mark":Str),(toString m:Str),(toString n:Str)]++(cg t++([(toString (ts.length:Int):Str)]++bK ts)):=rfl;have S:d3 m n (dq t) ts.length ts=[("mark":Str),(toString m:Str),(toString n:Str)]++([dq t]++([(toString (ts.length:Int):Str)]++bK ts)):=rfl;rw [O,S,mr,mr _ (cg t++_),mr [dq t],mr (cg t)];congr 2;unfold dq;rw [ea];refine Eq.trans ?_ (Av v ws);simp [au]
structure MtI(H:Hp)(x sl wl:Addr)(pm:List T3->List Str)(us:List T3)(i:Nat)(σ:L2.St)(H':Hp):Prop where
 ex:∃t1 t2 t3,σ=[some (V.ref x),some (.ref sl),some (.ref wl),t1,t2,t3]
 hw:H' wl=some (.lst ((pm (us.take i)).map V.str))
 same:∀c o,c≠wl->H c=some o->H' c=some o
structure MtC(H:Hp)(ws:List Str)(i:Nat)(τ:L2.St)(ys:List V)(H':Hp):Prop where
 ex:∃t,τ=[t]
 ys:ys=((ws.take i).map λz:Str=>z++(" ":Str)).map V.str
 same:zi H H'
theorem Dq(l:List Str):((l.map λz:Str=>z++(" ":Str)).map (·.length)).sum=(au l).length:=by
 unfold au;rw [List.length_flatten,Pg,Pg];congr 1;refine QA λv _=>?_;show (v++(" ":Str)).length=(sg v++[32]).length;rw [Qz,Pa,zV];rfl
theorem EO(l:List Str):Pq "" (l.map λz:Str=>z++(" ":Str))=tx (au l):=by
 refine iL ?_;rw [rH,cj,Pg];unfold au;congr 1;refine QA λv _=>?_;show sg (v++(" ":Str))=_;rw [bX];rfl
theorem DG(hl:∀z∈ws,z.length<=100000):∀(N:L2.St->List V->Hp->Prop)(i:Nat)(v:V)(τ:L2.St)(ys:List V)(H':Hp),(ws.map V.str)[i]?=some v->MtC H5 ws i τ ys H'->(∀τ ys H,MtC H5 ws (i+1) τ ys H->N τ ys H)->cN 0 v τ H' λF H4=>kM F H4 λok H5=>eK N ys F (tOp hJ (gW 0) (tC (V.str " "))) ok H5:=by
 intro N i v τ ys H' hv I hN;obtain ⟨t1,rfl⟩:=I.ex;rw [OV] at hv;obtain ⟨z,hz,rfl⟩:=O2.mp hv;have hl:=hl z (OX hz);ac_rfl;refine {?_,hN _ _ _ {{_,rfl},?_,I.same}}
 .rw [show (" ":Str).length=1 by decide];exact aQ 'l'
 .rw [I.ys,O6,hz];simp
def AB(A:zj):Sp:=λvs H Q _=>∃(x z b k d:Addr)(t:Tab)(ts:List T3)(n m:Int),vs=[.ref x]/\bI A H x z b k d t ts n m/\cB t/\gO ts m n /\
 ∀us H',zi H H'->us.Perm ts->(us.map (·.1)).Pairwise (·<=·)->Q (.str (aG m n t us)) H'
theorem h6:zw WC ["state"] (zk lE):=fsc
theorem K3:bq { kind:=.function,names:=[(OA ".0",.local),(OA "word",.local)],isGenerator:=false,isCoroutine:=false,more:=[] } (zk lE).names WC ["word"] [none]=true:=by decide +kernel
theorem JU:(["word"]:List Str).Nodup:=by decide +kernel
theorem Nu(F:Fun K "mark_text" "mark_text" lE f fd)(T:Txt w K mg A)(Z2:GM P w K mg base true 1 A.State Wc YM (kA A))(Z7:GM P w K mg base true 1 A.State Wp YM (iw A))(Z6:GM P w K mg base true 1 A.State Wn YM (jr A))(ZX:GM P w K mg base true 5 A.State Wq YM (me A))(Y6:GF P w K mg base true 6 "files_text" WB (xH A))(ZD:GF P w K mg base true 2 "summed" ["body"] iX):zp P w K mg base CX0 true 7 f fd ["state"] (AB A):=by
 refine F.o h6 λZ0 Ar outer s H vs Q E hr h=>?_;obtain ⟨x,fx,b,k,d,t,ts,n,m,rfl,hS,gm,gs,q⟩:=h;refine {_,(W.h (zg (zy (i:=1) h6.nd rfl (OO rfl) (m0D (zH (clE (zb 0)) T.qs Z2 hr)))
   (zg (zy (i:=2) h6.nd rfl (OO rfl) (bw (zc (cL rfl T.UI) (zc (bF dv rfl T.Ut RD (zc (m0D (zH (clE (zb 0)) T.qs Z7 hr)) zd)) (zc (bF dv rfl T.Ut RD (zc (m0D (zH (clE (zb 0)) T.qs Z6 hr)) zd)) (zc (caD (zB Y6 hr rfl (clP (zc (m0D (zH (clE (zb 0)) T.qs ZX hr)) zd)))) zd))))))
   (zg (aL (eZ (zb 2) (bF dv rfl T.Ut RD (zc (zQ cu rfl T.tj Pi (zc (zb 1) zd)) zd))))
   (zg (bG Qp.never (λ_=>rfl) (liD (bJ (clE (zb 1)))) (fV (n:=3) (gsD (aE (zC (i:=3) h6.nd rfl (OO rfl)) (gsD (aE (zC (i:=4) h6.nd rfl (OO rfl)) (gsD (aE (zC (i:=5) h6.nd rfl (OO rfl)) dB)))))))
   (zh (aL (iG (zb 2) (bw (zc (bF dv rfl T.Ut RD (zc (zb 3) zd)) (zc (bF dv rfl T.Ut RD (zc (zb 4) zd)) (zc (bF dv rfl T.Ut RD (zc (zb 5) zd)) zd))))))))
   (zh (zx (caD (zB ZD hr rfl (clP (zc (jG zF (cX (λ_=>rfl) (zY.of K3) (liD (bJ (clE (zb 2)))) (λ_ _ _ _ _=>(zC (i:=0) JU rfl (OO rfl))) (λ_ _ _ _ _=>bW) (λ_ _ _ _ _=>(zJ aX (zb 0) zF)))) zd))))))))))),?_}
 obtain ⟨dx,e1⟩:=hS.ob;erw [e1,kO];refine {x,fx,b,k,d,t,ts,n,m,rfl,hS,λsl as us H1 s1 aH WS pr pm so=>?_};have S1:=hS.same s1;obtain ⟨aF,O⟩:=S1.ob;erw [O,g9,ir,i5];refine {x,fx,b,k,d,t,ts,n,m,rfl,S1,?_};have hm:=gs.m;have hn:=gs.n;erw [O,g9,ir,i5];refine {cQ 'l',x,fx,b,k,d,t,ts,n,m,rfl,S1,?_};erw [O,g9,ir,i5];refine {cQ 'l',x,fx,b,k,d,t,ts,n,m,rfl,S1,λq' b' k' H2 s2 nb nk nq F2=>{q',b',k',t,rfl,F2,gm,λH3 s3=>?_}};have G:=s3 _ _ (s2 _ _ WS);have av:=pm.length_eq;have S:=aO pr;have few:=gs.few;refine {'d',λwl H4 n4 _=>{{_,n4.at_},_,.inl (n4.same _ _ G),?_}};rw [OB,S];have U:H1 wl=none:=(s2.trans s3).free n4.no;have ab:sl≠wl:=zz WS U;have ar:∀{H':Hp},(∀c o,c≠wl->H4 c=some o->H' c=some o)->Paired (eM H') as us:=λ{H'} k'=>Paired.wa pr λr u e=>k' _ _ (zz e U) (n4.same _ _ (s3 _ _ (s2 _ _ e)));have ai:∀{H':Hp},(∀c o,c≠wl->H4 c=some o->H' c=some o)->H' sl=some (.lst (as.map V.ref)):=λ{H'} k'=>k' _ _ ab (n4.same _ _ G);refine {cQ 'l',_,n4.at_,aB 'z',{_,SqL.of (by rw [ze ab];exact n4.same _ _ G)},aC.lst (xs:=as.map V.ref) (MtI H4 x sl wl (d3 m n (dq t) us.length) us) {{_,_,_,rfl},by rw [zu];rfl,λc o nc e=>by rw [ze nc];exact e} (λi σ H' _ I=>SqL.of (ai I.same)) ?_ ?_}
 .rintro i v σ H5 hv ⟨⟨t1,t2,t3,rfl⟩,hw,k5⟩;rw [OV] at hv;obtain ⟨r,X3,rfl⟩:=O2.mp hv;have hi:i<us.length:=by rw [<- S];exact (OE.mp X3).1
  have Z:us[i]?=some us[i]:=KE hi;have g1:=cf (ar k5) X3 Z;have ub:=gs.b us[i] (pm.mem_iff.mp (Qb hi));have ur:=gs.r us[i] (pm.mem_iff.mp (Qb hi));generalize us[i]=u at Z g1 ub ur;refine {r,_,rfl,SqT.of g1,rfl,?_};erw [hw];refine {cQ 'l',cQ 'l',cQ 'l','d',λp H6 n6 _=>{_,n6.same _ _ hw,_,n6.at_,aQ ?_,{_,_,_,rfl},?_,λc o nc e=>by rw [ze nc];exact n6.same _ _ (k5 _ _ nc e)}}
  .have h1:=(lI (ts:=us.take i) (λt J=>gs.b t (pm.mem_iff.mp (Rf J))) (λt J=>gs.r t (pm.mem_iff.mp (Rf J)))).2;rw [O8] at h1;rw [OB];unfold d3;simp;lia
  .rw [zu];unfold d3;rw [Jj Z];simp
 .rintro σ H5 ⟨⟨t1,t2,t3,rfl⟩,hw,k5⟩;rw [OB,S,OQ (Ox _)] at hw;erw [hw];have gu:gO us m n:={λt J=>gs.b t (pm.mem_iff.mp J),λt J=>gs.r t (pm.mem_iff.mp J),'l',gs.m,gs.n};obtain ⟨p1,p2⟩:=Nv gm gu;obtain ⟨m1,m2⟩:=jZ gm gu;obtain ⟨b1,b2⟩:=ow m1;generalize d3 m n (dq t) us.length us=ws at hw p1 p2;refine {{_,SqL.of hw},aN.lst (xs:=ws.map V.str) (MtC H5 ws) (λi τ ys H' I=>?_) (λi τ ys H' I=>SqL.of (I.same _ _ hw)) {{_,rfl},'z',zi.refl _} (DG p1.2) ?_}
  .rw [I.ys,OB,OB,O8];exact aB 'l'
  .intro τ ys H6 I D H7 n7;rw [mq];have ey:=I.ys;rw [OB,OQ (Ox _)] at ey;refine {ws.map λz:Str=>z++(" ":Str),by rw [n7.at_,ey],?_,tx (au (bo m n t us)),?_,by rw [lP];exact b2,by rw [fU];lia,λH8 s8=>?_}
   .rw [Dq,p2,show ("":Str).length=0 by decide];lia
   .rw [EO,p2]
   .have s7:∀c o,c≠wl->H4 c=some o->H8 c=some o:=λc o nc e=>s8 _ _ (n7.same _ _ (I.same _ _ (k5 _ _ nc e)));exact q us H8 (λc o e=>s7 _ _ (zz (s1 _ _ e) U) (n4.same _ _ (s3 _ _ (s2 _ _ (s1 _ _ e))))) pm so
abbrev oP:Stmt:=top 56
abbrev mw:Stmt:=top 55
abbrev jK:Stmt:=top 54
theorem mz:∀{xs L:List Int},xs.Nodup->(∀y∈xs,y∈L)->xs.length<=L.length
 | [],_,_,_=>Qs _
 | x::xs,L,nd,s=>by
  have F:=QJ.mp nd;have hx:x∈L:=s x OT;have h1:=mz (xs:=xs) (L:=L.erase x) F.2 λy G=>(List.mem_erase_of_ne (λz:y=x=>F.1 (by rw [<- z];exact G))).mpr (s y (OI _ G));rw [List.length_erase_of_mem hx] at h1;have:=List.length_pos_of_mem hx;rw [PQ];lia
theorem iC{t:Tab}:y∈zD t↔∃p∈t,y∈p.2:=by unfold zD;exact List.mem_flatMap
theorem iN{zs:List Int}:(zs.map V.int).all ah=true:=by simp [ah]
theorem tV(zs:List Int):eqL (zs.map V.int) (zs.map V.int)=true:=lC iN λx hx b e=>by
 obtain ⟨y,_,rfl⟩:=Qt.mp hx;cases e
theorem iS{t u:Tab}(F:bY t u)(G:(names t).Nodup)(h:y∈zD t):y∈zD u:=by
 obtain ⟨p,z,J⟩:=iC.mp h;have e:=tP G (show (p.1,p.2)∈t from z);rw [F] at e;exact iC.mpr {_,rW e,J}
theorem Cn{ts:List T3}{t:T3}(h:ts[i]?=some t):bK (ts.drop i)=(toString t.1:Str)::(toString t.2.1:Str)::(toString t.2.2:Str)::bK (ts.drop (i+1)):=by
 rw [jR h];simp [bK]
theorem aw.cF{p sl:Addr}{as:List Addr}(h:aw A H p ws)(s:But sl H H')(hs:H sl=some (.lst (as.map V.ref))):aw A H' p ws:=by
 obtain ⟨dx,wl,pre,F,G,O,J⟩:=h.ex;refine {{dx,wl,pre,s _ _ (λz=>by subst z;rw [F] at hs;cases hs) F,s _ _ (λz=>?_) G,O,J}};subst z;rw [G] at hs;cases e:pre++ws with
 | nil=>exact J e
 | cons y ys =>
  rw [e] at hs;cases as with
  | nil=>cases hs
  | cons a as=>cases hs
structure TsI(A:zj)(H:Hp)(p sl:Addr)(ts:List T3)(rest:List Str)(i:Nat)(σ:L2.St)(H':Hp):Prop where
 ex:∃t1 t2 t3,σ=[some (V.ref p),some (.ref sl),t1,t2,t3]
 but:But p H H'
 wd:aw A H' p (bK (ts.drop i)++rest)
 sp:∃as,H' sl=some (.lst (as.map V.ref))/\Paired (eM H') as (ts.take i)
def vM(A:zj):Sp:=λvs H Q _=>∃(p:Addr)(ts:List T3)(rest:List Str),vs=[.ref p]/\aw A H p ((toString (ts.length:Int):Str)::(bK ts++rest))/\(∀t∈ts,0<=t.1/\t.1<10 ^ 18)/\sO ts/\ts.length<40 /\
 ∀l as H',But p H H'->H l=none->H' l=some (.lst (as.map V.ref))->Paired (eM H') as ts->aw A H' p rest->Q (.ref l) H'
theorem iW:zw ["words",Wc,"number",Wl,"stretch"] Xw (zk oP):=fsc
theorem CI(F:Fun K "take_spots" "take_spots" oP f fd)(T:Txt w K mg A)(Z9:GM P w K mg base true 3 A.Words Wg YM (iD A)):zp P w K mg base CX0 true 4 f fd Xw (vM A):=by
 refine F.o iW λZ0 Ar outer s H vs Q E hr h=>?_;obtain ⟨p,ts,rest,rfl,hW,hb,X3,few,q⟩:=h;refine {_,(W.h (zg (zy (i:=1) iW.nd rfl (OO rfl) (bw zd))
   (zg (bG Qp.never (λ_=>rfl) (cT rfl T.ro (zc (m0D (zH (clE (zb 0)) T.qr Z9 hr)) zd)) (zC (i:=2) iW.nd rfl (OO rfl))
   (zg (zy (i:=3) iW.nd rfl (OO rfl) (m0D (zH (clE (zb 0)) T.qr Z9 hr)))
   (zg (zy (i:=4) iW.nd rfl (OO rfl) (m0D (zH (clE (zb 0)) T.qr Z9 hr)))
   (zh (aL (eZ (zb 1) (bS (zc (zb 3) (zc (zb 4) (zc (m0D (zH (clE (zb 0)) T.qr Z9 hr)) zd))))))))))
   (zh (zx (zb 1)))))),?_}
 ac_rfl;refine {'d',λsl H1 n1 _=>?_};have W1:=hW.same n1.same;obtain ⟨dx,wl,pre,e1,_⟩:=W1.ex;erw [e1,d8];refine {p,ts.length,_,rfl,W1,'l','l',λH2 b2 W2=>?_};have U:sl≠p:=λz=>by have:=n1.at_;rw [z,e1] at this;cases this
 have WS:H2 sl=some (.lst (([]:List Addr).map V.ref)):=b2 _ _ U n1.at_;ac_rfl;rw [Qj];refine {'l','l',aC.rng (TsI A H p sl ts rest) {{_,_,_,rfl},(But.of n1.same).trans b2,W2,[],WS,.nil} ?_ ?_}
 .rintro i σ H' hi ⟨⟨t1,t2,t3,rfl⟩,bt,Z,as,has,pr⟩;have Yg:ts[i]?=some ts[i]:=KE hi;have ub:=hb ts[i] (Qb hi);have ur:=X3 ts[i] (Qb hi);generalize ts[i]=u at Yg ub ur;rw [Cn Yg] at Z;obtain ⟨a0,aT,ar,e3,_⟩:=Z.ex;erw [e3,d8];refine {p,u.1,_,rfl,Z,ub.1,'l',λH3 b3 W3=>?_};obtain ⟨aH,av,ab,e4,_⟩:=W3.ex;erw [e4,d8];refine {p,u.2.1,_,rfl,W3,ur.1.1,'l',λH4 b4 W4=>?_};obtain ⟨aI,aF,ai,e5,_⟩:=W4.ex;have S:But p H' H4:=b3.trans b4;have J:=S _ _ U has;erw [e5,d8,J];refine {p,u.2.2,_,rfl,W4,ur.2.1,'l',λH5 b5 W5=>{'d',λtp H6 n6=>?_}};have G:=n6.same _ _ (b5 _ _ U J);have la:=aO pr;rw [O8] at la;have O:∀{r:Addr}{xs:List V}{o:HO},H6 r=some (.tup xs)->upd H6 sl o r=some (.tup xs):=λ{r xs o} e=>by
   rw [ze (λz=>by rw [z,G] at e;cases e)];exact e
  refine {_,G,by rw [OB];exact aB 'l',{_,_,_,rfl},λc o nc e=>?_,(W5.same n6.same).cF But.upd G,as++[tp],by rw [zu,Ph];rfl,?_}
  .rw [ze (λz=>by rw [z,n1.no] at e;cases e)];exact n6.same _ _ (b5 _ _ nc (S _ _ nc (bt _ _ nc e)))
  .rw [O6,Yg];refine di (Paired.wa pr λr v e=>O (n6.same _ _ (b5 _ _ ?_ (S _ _ ?_ e)))) (.cons (O n6.at_) .nil)
   .exact λz=>by have e:H' r=_:=e;rw [z,e3] at e;cases e
   .exact λz=>by have e:H' r=_:=e;rw [z,e3] at e;cases e
 .rintro σ H' ⟨⟨t1,t2,t3,rfl⟩,bt,Z,as,has,pr⟩;rw [OQ (Ox _)] at pr;rw [Qr (Ox _)] at Z;ac_rfl;exact q sl as H' bt n1.no has pr Z
structure SoI(H:Hp)(ts:List T3)(i:Nat)(τ:L2.St)(ys:List V)(H':Hp):Prop where
 ex:∃t1 t2 t3,τ=[t1,t2,t3]
 ys:ys=((ts.take i).map (·.1)).map V.int
 same:zi H H'
structure dM(t:Tab)(ts:List T3)(n m:Int):Prop where
 gm:cB t
 gs:gO ts m n
 pm:(ts.map (·.1)).Perm (cY (zD t))
 so:(ts.map (·.1)).Pairwise (·<=·)
def u7(A:zj):Sp:=λvs H Q _=>∃(p:Addr)(t:Tab)(ts:List T3)(n m:Int),vs=[.ref p]/\aw A H p (bo m n t ts)/\dM t ts n m /\
 ∀x z b k d u H',But p H H'->bI A H' x z b k d u ts n (m+1)->bY u t->Q (.ref x) H'
theorem iR:zw WE Xw (zk mw):=fsc
theorem Jp:bq { kind:=.function,names:=[(OA ".0",.local),(OA "birth",.local),(OA "stretch",.local),(OA "place",.local)],isGenerator:=false,isCoroutine:=false,more:=[] } (zk mw).names WE XU [none,none,none]=true:=by decide +kernel
theorem sH:(XU:List Str).Nodup:=by decide +kernel
theorem Ia(F:Fun K "state_of" "state_of" mw f fd)(T:Txt w K mg A)(Z4:GM P w K mg base true 2 A.Words V7 YM (k6 A))(Z9:GM P w K mg base true 3 A.Words Wg YM (iD A))(Y5:GF P w K mg base true 6 "take_files" Xw (tQ A))(Y4:GF P w K mg base true 4 "take_spots" Xw (vM A))(Zw:GM P w K mg base true 2 A.Words "take_end" YM (Ag A))(ZL:GM P w K mg base true 1 A.qv "living" YM (qi A))(Zo:GC P w K mg base true 5 "State" A.State Yq (kT A)):zp P w K mg base CX0 true 7 f fd Xw (u7 A):=by
 refine F.o iR λZ0 Ar outer s H vs Q E z h=>?_;obtain ⟨p,t,ts,n,m,rfl,hW,to,q⟩:=h;have hu:_<cLine:=Px (zT z);refine {_,(W.h (zg (zM (tD (zS (clO (oE (eO hu))) (clE (m0D (zH (clE (zb 0)) T.qr Z4 z))) (clE (cL rfl T.UI)) (zK _)))
   (zh aW)
   zR)
   (zg (zy (i:=1) iR.nd rfl (OO rfl) (m0D (zH (clE (zb 0)) T.qr Z9 z)))
   (zg (zy (i:=2) iR.nd rfl (OO rfl) (m0D (zH (clE (zb 0)) T.qr Z9 z)))
   (zg (zy (i:=3) iR.nd rfl (OO rfl) (caD (zB Y5 z rfl (clP (zc (zb 0) zd)))))
   (zg (zy (i:=4) iR.nd rfl (OO rfl) (caD (zB Y4 z rfl (clP (zc (zb 0) zd)))))
   (zg (aL (m0D (zH (clE (zb 0)) T.qr Zw z)))
   (zg (zM (tD (zS (clO (oE (eO hu))) (clE (cX (λ_=>rfl) (zY.of Jp) (liD (bJ (clE (zb 4)))) (λ_ _ _ _ _=>(mI (n:=3) (gsD (aE (zC (i:=0) sH rfl (OO rfl)) (gsD (aE (zC (i:=1) sH rfl (OO rfl)) (gsD (aE (zC (i:=2) sH rfl (OO rfl)) dB)))))))) (λ_ _ _ _ _=>bW) (λ_ _ _ _ _=>(zb 0)))) (clE (m0D (zH (clE (zb 3)) T.pw ZL z))) (zK _)))
   (zh aW)
   zR)
   (zh (zx (jz Zo z rfl (zc (zb 3) (zc (zb 4) (zc (zb 2) (zc (zJ aX (zb 1) zq) zd))))))))))))))),?_}
 obtain ⟨dx,wl,pre,e1,_⟩:=hW.ex;have hm:=to.gs.m;have hn:=to.gs.n;have few:=to.gs.few;erw [e1,qP];refine {p,_,_,rfl,hW,λH1 b1 W1=>?_};obtain ⟨a7,a9,a0,ar,_⟩:=W1.ex;erw [ar,d8];refine {p,m,_,rfl,W1,hm.1,hm.2,λH2 b2 W2=>?_};obtain ⟨Xm,a8,a3,ai,_⟩:=W2.ex;erw [ai,d8];refine {p,n,_,rfl,W2,hn.1,hn.2,λH3 b3 W3=>?_};ac_rfl;refine {p,t,(toString (ts.length:Int):Str)::(bK ts++[]),rfl,by rw [Qe];exact W3,to.gm,λfq b k u H4 b4 _ _ _ F4 al W4=>?_};ac_rfl;refine {p,ts,[],rfl,W4,to.gs.b,to.gs.r,few,λsl as H5 b5 ba WS pr W5=>?_};have F5:=F4.mv (W4.fk b5);obtain ⟨a6,a5,a4,aT,_⟩:=W5.ex;erw [aT,Mg];refine {p,rfl,W5,?_};ac_rfl;have O:=aO pr;refine {{_,SqL.of WS},aN.lst (xs:=as.map V.ref) (SoI H5 ts) (λi τ ys H' I=>by rw [I.ys,OB,OB,O8];exact aB 'l') (λi τ ys H' I=>SqL.of (I.same _ _ WS)) {{_,_,_,rfl},rfl,zi.refl _} ?_ ?_}
 .intro N i v τ ys H' hv I hN;obtain ⟨t1,t2,t3,rfl⟩:=I.ex;rw [OV] at hv;obtain ⟨r,X3,rfl⟩:=O2.mp hv;have hi:i<ts.length:=by rw [<- O];exact (OE.mp X3).1
  have Yg:ts[i]?=some ts[i]:=KE hi;have g1:=I.same _ _ (cf pr X3 Yg);refine {r,_,rfl,SqT.of g1,rfl,?_};ac_rfl;refine hN _ _ _ {{_,_,_,rfl},?_,I.same};rw [I.ys,O6,Yg,Ph,Ph];rfl
 .intro τ ys H6 I D H7 n7;have ey:=I.ys;rw [OB,O,OQ (Ox _)] at ey;rw [ey] at n7;have G:zi H5 H7:=I.same.trans n7.same;have F7:=F5.same G;obtain ⟨aH,aF⟩:=F7.ob;have mem:∀y,y∈zD u↔y∈zD t:=λy=>{iS al F7.nd,iS (λn=>(al n).symm) to.gm.nd};have WZ:(cY (zD u)).length<=(cY (zD t)).length:=mz cK λy hy=>fK.mpr ((mem y).mp (fK.mp hy));have Yd:=to.pm.length_eq;rw [OB] at Yd;refine {aH,_,aF,AU,fq,b,k,u,rfl,F7,'l',λl ns H8 Z nl el pm so=>?_};have en:ns=ts.map (·.1):=kW so to.so (pm.nodup_iff.mpr cK) (to.pm.nodup_iff.mpr cK) λy=>by rw [pm.mem_iff,to.pm.mem_iff,fK,fK];exact mem y
  subst en;have av:=Z _ _ n7.at_;erw [av,el];refine {iN,iN,?_};rw [tV,if_neg 'z'];intro x dx H9 J;have F8:=F7.same Z;have U:zi H5 H9:=(G.trans Z).trans J.same;refine {x,fq,b,k,sl,dx,n,m+1,u,as,ts,rfl,J.at_,F8.same J.same,U _ _ WS,Paired.wa pr λr v e=>U _ _ e,{to.pm.nodup_iff.mpr cK,few},λfx b' k' d' aI ab st=>{rfl,?_}};refine q x fx b' k' d' u aI (λc o S e=>?_) st al;have e5:=G _ _ (b5 _ _ S (b4 _ _ S (b3 _ _ S (b2 _ _ S (b1 _ _ S e)))));have e8:=Z _ _ e5;exact ab _ _ (zz e8 J.no) (J.same _ _ e8)
theorem dM.text{t:Tab}(to:dM t ts n m):asc (aG m n t ts)=true/\(aG m n t ts).length<=100000/\0<(aG m n t ts).length/\dC (aG m n t ts)=some (tx (au (bo m n t ts)))/\(tx (au (bo m n t ts))).length<=100000/\∃v ws,bo m n t ts=v::ws/\P3 (tx (au (bo m n t ts))) none (some (-1))=Pq " " (v::ws):=by
 obtain ⟨G,S⟩:=jZ to.gm to.gs;obtain ⟨U,F⟩:=ow G;obtain ⟨v,ws,ea⟩:∃v ws,bo m n t ts=v::ws:={_,_,rfl};have key:au (bo m n t ts)=sg (Pq " " (v::ws))++[32]:=by rw [ea];exact (Av v ws).symm
 have hs:=gS (tx (au (bo m n t ts)));have J:=qa hs.1 'l';have z:=(c0 hs.1 'l').a;have O:(aG m n t ts).length=(au (bo m n t ts)).length+(toString (cb (tx (au (bo m n t ts)))):Str).length+1:=by
  unfold aG cM;rw [Qz,Qz,fU,show (";":Str).length=1 by decide]
 refine {?_,'l','l',?_,by rw [fU];lia,v,ws,ea,?_}
 .unfold aG cM;rw [cJ] at z ⊢;rw [bX,bX,cj,R3,R3,F,z];decide +kernel
 .unfold dC aG;rw [xD {_,key}];exact if_pos rfl
 .rw [oU (by rw [cj,key,Pa];exact Pd 'd' (Nat.le_add_left _ _)),cj,key,List.dropLast_concat,dO]
def wj(A:zj):Sp:=λvs H Q E=>(vs=[.non]/\E (.ref A.UU) none H)\/∃(t:Tab)(ts:List T3)(n m:Int),vs=[.str (aG m n t ts)]/\dM t ts n m /\
 ∀x z b k d u H',zi H H'->bI A H' x z b k d u ts n (m+1)->bY u t->Q (.ref x) H'
theorem vU:zw WH X6 (zk jK):=fsc
theorem Oo(F:Fun K V0 V0 jK f fd)(T:Txt w K mg A)(U:GF P w K mg base true 3 "body_of" X6 pd)(X2:GC P w K mg base true 1 "Words" A.Words Xh (wk A))(YH:GF P w K mg base true 7 "state_of" Xw (u7 A)):zp P w K mg base (CXW P w) true 8 f fd X6 (wj A):=by
 refine F.cH vU (λvs H Q E h=>?_) (λZ0 Ar outer s H vs Q E J h=>?_)
 .rcases h with ⟨rfl,_⟩|⟨t,ts,n,m,rfl,_⟩<;>rfl
 .have Z:=kB (cm:=true) (P:=P) (w:=w) (K:=K) (mg:=mg) (base:=base) (N:=WH) (qual:=V0) (scope:=zk jK) (f:=f) (cd:=Z0) (A:=Ar) (outer:=outer) (s:=s) (H:=H) (E:=E);refine {_,(W.h (zg (zy (i:=1) vU.nd rfl (OO rfl) (caD (zB U J rfl (clP (zc (zb 0) zd)))))
   (zg (zM (tD (zS (clO pQ) (clE (zb 1)) (clE cE) (zK _)))
   (zh (lO rfl Z T.UM rfl T.UZ (zc zF zd)))
   zR)
   (zh (Mo (λGo=>(zh (zx (caD (zB YH J rfl (clP (zc (jz X2 J rfl (zc (dA dU (zb 1) dF (dG (Bf yK zq))) zd)) zd)))))))))))),?_}
  rcases h with ⟨rfl,q⟩|⟨t,ts,n,m,rfl,to,q⟩
  .ac_rfl;refine .inr {rfl,?_};ac_rfl;exact {'d',q}
  obtain ⟨S,O⟩:=jZ to.gm to.gs;obtain ⟨a1,a2,_,hb,b2,v,ws,ea,es⟩:=to.text;ac_rfl;refine .inl {_,rfl,a1,a2,λH1 s1=>?_};rw [hb];have eo:jS (some (tx (au (bo m n t ts)))) = .str (tx (au (bo m n t ts))):=rfl;rw [eo];erw [es];refine {aQ 'l',λx dx H2 z=>?_};rw [ea] at S O;refine {x,dx,v,ws,rfl,z.at_,S,by simp only [PQ] at O;lia,λH3 b3 G=>{rfl,x,t,ts,n,m,rfl,by rw [ea];exact G,to,λy fx b k d u H4 b4 st al=>?_}};exact q y fx b k d u H4 (s1.trans ((((But.of z.same).trans b3).trans b4).gone z.no)) st al
abbrev mM:Stmt:=top 73
abbrev sh:Stmt:=top 74
abbrev qk:Stmt:=top 75
abbrev lQ:Stmt:=top 76
theorem l9{α:Type}{xs:List α}{i:Int}(G:0<=i)(h1:i<xs.length):∃v,atI xs i=some v/\v∈xs:=by
 have F:i.toNat<xs.length:=by lia
 have z:atI xs ((i.toNat:Nat):Int)=some xs[i.toNat]:=ee (KE F);rw [show ((i.toNat:Nat):Int)=i by lia] at z;exact {_,z,Qb F}
theorem uV{a b:V}:atI [a,b] 0=some a:=rfl
theorem uy{a b:V}:atI [a,b] 1=some b:=rfl
theorem N1:ixN 2 0=some 0:=rfl
theorem Cr:ixN 2 1=some 1:=rfl
structure Pot(H:Hp)(a:Addr):Prop where
 ex:∃x y:Int,H a=some (.lst [.int x,.int y])/\0<=x/\0<=y/\y<2147483647
theorem Pot.same(h:Pot H a)(s:zi H H'):Pot H' a:=let ⟨x,y,e,r⟩:=h.ex;{{x,y,s _ _ e,r}}
theorem Pot.ne(h:Pot H a)(n:H l=none):l≠a:=λz=>by
 obtain ⟨x,y,e,_⟩:=h.ex;rw [z,e] at n;cases n
def oH(K:Frag):Sp:=λvs H Q _=>∃(a:Addr)(ns:List Int)(k:Int),vs=[.ref a,.int k]/\SqL K H a (ns.map V.int)/\0<=k/\k<=100/\∀l H',zi H H'->H l=none->Pot H' l->Q (.ref l) H'
theorem ptI{K:Frag}{ns:List Int}{k:Int}(h:SqL K H a (ns.map V.int))(z:0<=k)(h1:k<=100)(q:∀l H',zi H H'->H l=none->Pot H' l->Q (.ref l) H'):oH K [.ref a,.int k] H Q E:={a,ns,k,rfl,h,z,h1,q}
theorem qK:zw ["_law_script","_law_k","_law_cell"] Wx (zk mM):=fsc
theorem J6(F:Fun K "_law_pot" "_law_pot" mM f fd)(T:Txt w K mg A):zp P w K mg base CX0 true 1 f fd Wx (oH K):=by
 refine F.o qK λZ0 Ar outer s H vs Q E hr h=>?_;obtain ⟨a,ns,k,rfl,O,U,S,q⟩:=h;refine {_,(W.h (zg (zy (i:=2) qK.nd rfl (OO rfl) (zJ aX (zJ kq zq (zb 1)) zq))
   (zg (zM (tD (zS (clO (oI0 kQ)) (clE (zb 1)) (clE (zQ jN rfl T.tj Pi (zc (zb 0) zd))) (zK _)))
   (zh (zy (i:=2) qK.nd rfl (OO rfl) (zL vZ (zb 0) (zb 1) (λ_ _=>rfl))))
   zR)
   (zh (zx (bw (zc (zQ (vq rfl) rfl T.aM boot_max (zc zq (zc (zJ (oI0 jg) (zQ vz rfl T.bj boot_abs (zc (zb 2) zd)) (zJ (oI C0) zq zq)) zd))) (zc (zJ aX (zJ (oI iO) (zQ vz rfl T.bj boot_abs (zc (zb 2) zd)) zq) zq) zd)))))))),?_}
 ac_rfl;have J:∀(z:Int) l H2,New H l (.lst [.int (if z-10 ^ Int.toNat 18>0 then z-10 ^ Int.toNat 18 else 0),.int (z % 2147483579+1)]) H2->Q (.ref l) H2:=λz l H2 G=>q l H2 G.same G.no {{_,_,G.at_,by split<;>lia,'l','l'}};refine {.inl {'l','l'},_,.inl O,?_};rw [OB];refine aY (λh=>?_) (λh=>?_)
 .have h':k<(ns.length:Int):=of_decide_eq_true h;obtain ⟨v,Z,hv⟩:=l9 (xs:=ns.map V.int) U (by simpa using h');obtain ⟨z,hz,rfl⟩:=Qt.mp hv;refine {a,ns.map V.int,k,_,rfl,rfl,O,Z,?_};ac_rfl;exact {{'d','d','d'},'d','d',λl H2 G _=>J _ l H2 G}
 .ac_rfl;exact {{'d','d','d'},'d','d',λl H2 G _=>J _ l H2 G}
def gH:Sp:=λvs H Q _=>∃(a:Addr)(m:Int),vs=[.ref a,.int m]/\Pot H a/\0<m/\m<2 ^ 64/\∀(r:Int) H',But a H H'->Pot H' a->0<=r->r<m->Q (.int r) H'
theorem tkI(G:Pot H a)(F:0<m)(z:m<2 ^ 64)(q:∀(r:Int) H',But a H H'->Pot H' a->0<=r->r<m->Q (.int r) H'):gH [.ref a,.int m] H Q E:={a,m,rfl,G,F,z,q}
theorem uc:zw ["_law_pot_here","_law_many","_law_digit"] Yl (zk sh):=fsc
theorem EX(F:Fun K Wh Wh sh f fd)(T:Txt w K mg A):zp P w K mg base CX0 true 1 f fd Yl gH:=by
 refine F.o uc λZ0 Ar outer s H vs Q E hr h=>?_;obtain ⟨a,m,rfl,⟨x,y,e,S,y0,y1⟩,z,U,q⟩:=h;refine {_,(W.h (zg (zM (tD (zS (clO (oI0 FQ)) (clE (zL zX (zb 0) zq (λ_ _=>rfl))) (clE zq) (zK _)))
   (zg (eY (zQ LZ rfl T.aP boot_divmod (zc (zL zX (zb 0) zq (λ_ _=>rfl)) (zc (zb 1) zd))) (fV (n:=2) (gsD (aE (fO (zb 0) zq jW) (gsD (aE (zC (i:=2) uc.nd rfl (OO rfl)) dB))))))
   (zh (zx (zb 2))))
   zR)
   (zg (eY (zJ (oI iO) (zJ aX (zJ kq (zL zX (zb 0) zq (λ_ _=>rfl)) zq) zq) zq) (fO (zb 0) zq jW))
   (zh (zx (zJ (oI iO) (zJ (oI Ki) (zJ (oI iO) (zJ kq (zL zX (zb 0) zq (λ_ _=>rfl)) (zL zX (zb 0) zq (λ_ _=>rfl))) zq) zq) (zb 1))))))),?_}
 erw [e,uV,uy];refine aY (λh=>?_) (λh=>?_)
 .refine {z,U,λp H2 J=>{p,_,rfl,SqT.of J.at_,rfl,?_}};have Z:=J.same _ _ e;erw [Z,N1,uV];refine q _ _ (λc o O G=>by rw [ze O];exact J.same _ _ G) {{_,_,zu,Int.ediv_nonneg S 'l',y0,y1}} (Int.emod_nonneg _ 'l') (Int.emod_lt_of_pos _ z)
 .erw [Cr,zu,uy];refine {.inr {'d','d'},'d',.inl {'l','l'},'d',{'d','d'},z,q _ _ (λc o O G=>by rw [ze O];exact G) {{_,_,zu,S,'l','l'}} (Int.emod_nonneg _ 'l') (Int.emod_lt_of_pos _ z)}
def vW:Sp:=λvs H Q _=>∃(a:Addr),vs=[.ref a]/\Pot H a/\∀z H',But a H H'->Pot H' a->z∈(Ww:List Str)->Q (.str z) H'
theorem Oq:zw XI XI (zk qk):=fsc
theorem LK(F:Fun K "_law_name" "_law_name" qk f fd)(T:Txt w K mg A)(O:GF P w K mg base true 1 Wh Yl gH):zp P w K mg base CX0 true 2 f fd XI vW:=by
 refine F.o Oq λZ0 Ar outer s H vs Q E Z h=>?_;obtain ⟨a,rfl,J,q⟩:=h;refine {_,(W.h (zh (zx (zL zX (bw (zc zF (zc zF (zc zF (zc zF zd))))) (caD (zB O Z rfl (clP (zc (zb 0) (zc zq zd))))) (λ_ _=>rfl))))),?_};ac_rfl;refine {'d',λl H1 n1 _=>{a,4,rfl,J.same n1.same,'d','d',λr H2 bt G U r1=>?_}};obtain ⟨v,ev,hv⟩:=l9 (xs:=[V.str "a",V.str "b",V.str "zz",V.str "abcdef"]) U (by simpa using r1);have S:=bt _ _ (J.ne n1.no) n1.at_;erw [S,ev];have hz:∃z:Str,v = .str z/\z∈(Ww:List Str):=by
  simp only [OH,Pc,or_false] at hv;rcases hv with rfl|rfl|rfl|rfl<;>exact {_,rfl,'z'}
 obtain ⟨z,rfl,hz⟩:=hz;exact q z H2 (λc o nc e=>bt _ _ nc (n1.same _ _ e)) G hz
structure WdI(H:Hp)(a:Addr)(i:Nat)(τ:L2.St)(ys:List V)(H':Hp):Prop where
 ex:∃t,τ=[t,some (.ref a)]
 ys:∃cs:List Nat,ys=(cs.map c1).map V.str/\cs.length=i/\∀c∈cs,c∈sg (LET++FIG)
 but:But a H H'
 pot:Pot H' a
 le:i<=20
def mH:Sp:=λvs H Q _=>∃(a:Addr),vs=[.ref a]/\Pot H a/\∀z H',But a H H'->Pot H' a->dh z=true->Q (.str z) H'
theorem uO:zw Yl XI (zk lQ):=fsc
theorem Hw:bq { kind:=.function,names:=[(OA ".0",.local),(OA "_law_k",.local),(OA "_law_take",.globalImplicit),(OA "_law_pot_here",.free)],isGenerator:=false,isCoroutine:=false,more:=[] } (zk lQ).names Yl ["_law_k","_law_pot_here"] [none,some 0]=true:=by decide +kernel
theorem G3:(["_law_k","_law_pot_here"]:List Str).Nodup:=by decide +kernel
theorem Fv(F:Fun K V9 V9 lQ f fd)(T:Txt w K mg A)(Z5:GF P w K mg base true 1 Wh Yl gH):zp P w K mg base CX0 true 2 f fd XI mH:=by
 refine F.o uO λZ0 Ar outer s H vs Q E hr h=>?_;obtain ⟨a,rfl,hP,q⟩:=h;refine {_,(W.h (zg (zy (i:=1) uO.nd rfl (OO rfl) (zL zX (bw (zc zq (zc zq (zc zq zd)))) (caD (zB Z5 hr rfl (clP (zc (zb 0) (zc zq zd))))) (λ_ _=>rfl)))
   (zh (zx (jG zF (cX (λ_=>rfl) (zY.of Hw) (cT rfl T.ro (zc (zb 1) zd)) (λ_ _ _ _ _=>(zC (i:=0) G3 rfl (OO rfl))) (λ_ _ _ _ _=>bW) (λ_ _ _ _ _=>(zL zX zF (caD (zB Z5 hr rfl (clP (zc (zb 1) (zc zq zd))))) (λ_ _=>rfl))))))))),?_}
 ac_rfl;refine {'d',λl H1 n1 _=>{a,3,rfl,hP.same n1.same,'d','d',λr H2 bt ab O r1=>?_}};obtain ⟨v,ev,hv⟩:=l9 (xs:=[V.int 1,V.int 3,V.int 20]) O (by simpa using r1);have e2:=bt _ _ (hP.ne n1.no) n1.at_;have hz:∃m:Nat,v = .int m/\1<=m/\m<=20:=by
  simp only [OH,Pc,or_false] at hv;rcases hv with rfl|rfl|rfl
  .exact {1,rfl,'d','d'}
  .exact {3,rfl,'d','d'}
  .exact {20,rfl,'d','d'}
 obtain ⟨m,rfl,m1,m2⟩:=hz;erw [e2,ev];rw [Qj];have G:LET++FIG=("abcdefghijklmnopqrstuvwxyz0123456789":Str):=by decide +kernel
 refine {'l','l',aN.rng (WdI H2 a) (λi τ ys H' I=>?_) {{_,rfl},{[],rfl,rfl,nofun},λ_ _ _ e=>e,ab,'l'} ?_ ?_}
 .obtain ⟨cs,rfl,e,_⟩:=I.ys;have:=I.le;rw [OB,OB,e];exact aB 'l'
 .intro N i τ ys H' hi I hN;obtain ⟨t,rfl⟩:=I.ex;obtain ⟨cs,rfl,e,hm⟩:=I.ys;ac_rfl;refine {a,36,rfl,I.pot,'d','d',λr H3 b3 S O r1=>?_};obtain ⟨c,ec,J⟩:=l9 (xs:=(Str.cps "abcdefghijklmnopqrstuvwxyz0123456789").toList) (i:=r) O (by show r<((36:Nat):Int);lia);ac_rfl;refine {'d',c,ec,hN _ _ _ {{_,rfl},{cs++[c],by simp [c1],by simp [e],λy z=>?_},I.but.trans b3,S,'l'}};rcases Pk.mp z with z|z
  .exact hm y z
  .rw [ON.mp z,G];exact J
 .intro τ ys H' I D H3 Z;obtain ⟨cs,rfl,e,hm⟩:=I.ys;rw [mq];have sm:∀l:List Nat,(l.map ((λx:Str=>x.length)∘c1)).sum=l.length:=λl=>by
   induction l with
   | nil=>rfl
   | cons a l U=>rw [Pf,List.sum_cons,U];show 1+_=_;simp;lia
  refine {cs.map c1,Z.at_,?_,q _ H3 (λb o nb eb=>Z.same _ _ (I.but _ _ nb (bt _ _ nb (n1.same _ _ eb)))) (I.pot.same Z.same) ?_}
  .rw [Pg,show ("":Str).length=0 by decide,Nat.mul_zero,Nat.add_zero,sm];lia
  .have ej:sg (Pq "" (cs.map c1))=cs:=by
    rw [rH,Pg];have:∀l:List Nat,(l.map (sg∘c1)).flatten=l:=λl=>by
     induction l with
     | nil=>rfl
     | cons a l U=>rw [Pf,RT,U];rfl
    exact this cs
   have el:(Pq "" (cs.map c1)).length=cs.length:=(show (Pq "" (cs.map c1)).length=(sg (Pq "" (cs.map c1))).length from QC.symm).trans (by rw [ej]);unfold dh aZ;rw [el,ej,decide_eq_true 'l',decide_eq_true 'l',SA,SA,Py];exact λc J=>Qn.mpr (hm c J)
abbrev rq:Stmt:=top 60
def gy(A:zj)(H:Hp)(x:Addr)(t:Tab)(ts:List T3)(n m:Int):Prop:=∃z b k d u,bI A H x z b k d u ts n m/\bY u t
theorem FK.ofT{A:zj}(s:zI H H'):FK A H H':=λa o h e=>s a o (λps z=>by subst z;rcases h with ⟨_,_,_,h⟩|⟨_,_,_,_,_,h⟩|⟨_,h⟩|⟨_,h⟩<;>cases h) e
theorem gy.vr{A:zj}{t:Tab}(h:gy A H x t ts n m)(s:zI H H'):gy A H' x t ts n m:=let ⟨fx,b,k,d,u,h,al⟩:=h;{fx,b,k,d,u,h.mv (.ofT s),al}
def wF(A:zj):Sp:=λvs H Q _=>∃(p wl sl:Addr)(cells:List Addr)(w:Int)(d:DM)(k:Int)(t:Tab)(ts:List T3)(n m:Int),vs=[.ref p,.int k]/\DkA A H p wl sl cells w d/\d.sd=some (aG m n t ts)/\dM t ts n m/\((k=0/\∀x H',zi H H'->gy A H' x t ts n (m+1)->Q (.ref x) H')\/(k=1/\∀H',zi H H'->Q .non H'))
theorem Ht:zw Wt Wt (zk rq):=fsc
theorem Er(F:Fun K "mark_at" "mark_at" rq f fd)(T:Txt w K mg A)(G:GM P w K mg base true 1 A.qx "side" ["self","k"] (w8 A))(U:GX P w K mg base true 8 V0 X6 (wj A)):zp P w K mg base CX0 true 10 f fd Wt (wF A):=by
 refine F.o Ht λZ Ar outer s H vs Q E z h=>?_;obtain ⟨p,wl,sl,cells,w,d,k,t,ts,n,m,rfl,D,hs,to,q⟩:=h;refine {_,(W.h (zh (tW rfl rfl {rfl,rfl} T.UM rfl T.UZ (λGo Ex=>(zh (zx (cXD (mf uP U z rfl (clP (zc (mD (bc (clE (zb 0)) T.pL G z (clP (zc (zb 1) zd)))) zd))))))) (λGo ea=>by
   have z:=z.mark (v:=some (.ref ea));exact (zh (zx cE)))))),?_}
 obtain ⟨dx,c,h1⟩:=D.ob;erw [h1,G7];refine {p,wl,sl,cells,w,d,k,rfl,D,?_};rcases q with ⟨rfl,q⟩|⟨rfl,q⟩
 .exact .inl {rfl,.inr {t,ts,n,m,by rw [hs];rfl,to,λx O b k d u H' s st S=>q x H' s ⟨O,b,k,d,u,st,S⟩}}
 .exact .inr {rfl,.inl {rfl,_,rfl,T.UM,T.aB,λea oe J _=>q _ λa o e=>by rw [ze (zz e J)];exact e}}
structure MsI(A:zj)(H:Hp)(p:Addr)(t:Tab)(ts:List T3)(n m:Int)(i:Nat)(τ:L2.St)(ys:List V)(H':Hp):Prop where
 ex:∃t,τ=[t,some (.ref p)]
 ys:(i=0/\ys=[])\/∃x,gy A H' x t ts n m/\((i=1/\ys=[.ref x])\/(i=2/\ys=[.ref x,.non]))
 same:zi H H'
structure WhI(H:Hp)(vs:List V)(i:Nat)(τ:L2.St)(ys:List V)(H':Hp):Prop where
 ex:∃t,τ=[t]
 ys:ys=(vs.take i).filter (· != .non)
 same:H'=H
def oX(A:zj):Sp:=λvs H Q _=>∃(p wl sl:Addr)(cells:List Addr)(w:Int)(d:DM)(t:Tab)(ts:List T3)(n m:Int),vs=[.ref p]/\DkA A H p wl sl cells w d/\TB A H/\d.sd=some (aG m n t ts)/\dM t ts n m/\∀x H',zI H H'->TB A H'->gy A H' x t ts n (m+1)->Q (.ref x) H'
theorem pR:zw Wy WT (zk eU):=fsc
theorem Bq:bq { kind:=.function,names:=[(OA ".0",.local),(OA "side",.local),(OA "mark_at",.globalImplicit),(OA "disk",.free)],isGenerator:=false,isCoroutine:=false,more:=[] } (zk eU).names Wy ["side","disk"] [none,some 0]=true:=by decide +kernel
theorem Ih:(["side","disk"]:List Str).Nodup:=by decide +kernel
theorem Mm:bq { kind:=.function,names:=[(OA ".0",.local),(OA "state",.local)],isGenerator:=false,isCoroutine:=false,more:=[] } (zk eU).names Wy ["state"] [none]=true:=by decide +kernel
theorem Hn:(["state"]:List Str).Nodup:=by decide +kernel
theorem D3(F:Fun K Wm Wm eU f fd)(hc:fd.code = .ref c)(LB:eV mg base (.ref c) A.vl)(T:Txt w K mg A)(Yx:GF P w K mg base true 10 "mark_at" Wt (wF A))(Z7:GM P w K mg base true 1 A.State Wp YM (iw A)):zp P w K mg base CX0 true 11 f fd WT (oX A):=by
 refine F.cJ hc pR (λvs H Q E h=>?_) (λAr outer s H vs Q E Z h=>?_)
 .obtain ⟨p,wl,sl,cells,w,d,t,ts,n,m,rfl,_⟩:=h;rfl
 .obtain ⟨p,wl,sl,cells,w,d,t,ts,n,m,rfl,D,tb,hs,to,q⟩:=h;refine {_,(W.h (zg (nC (i0:=1) pR.nd rfl (OO rfl) (λ_=>rfl) (zY.of Bq) (ME (bS (zc zq (zc zq zd)))) (λ_ _ _ _ _=>(zC (i:=0) Ih rfl (OO rfl))) (λ_ _ _ _ _=>bW) (λ_ _ _ _ _=>(caD (zB Yx Z rfl (clP (zc (zb 1) (zc (zb 0) zd)))))))
   (zg (nC (i0:=2) pR.nd rfl (OO rfl) (λ_=>rfl) (zY.of Mm) (liD (bJ (clE (zb 1)))) (λ_ _ _ _ _=>(zC (i:=0) Hn rfl (OO rfl))) (λ_ _ _ _ _=>(Le (tD (zS (clO jH) (clE (zb 0)) (clE cE) (zK _))))) (λ_ _ _ _ _=>(zb 0)))
   (zg (zM (eE (bE (zb 2)))
   (zh aW)
   zR)
   (zh (zx (Iz LB rfl Z rfl T.aM (zb 2) rfl rfl (λ_ _ _ _ _=>rfl) {rfl,rfl,rfl,'d',rfl,'d','d'} (λ_ _ _ _ _ _ _ Z=>(m0D (zH (clE (zb 0)) T.qs Z7 Z)))))))))),?_}
  ac_rfl;refine {'d',λtp H1 n1=>{{_,SqT.of n1.at_},aN.tup (xs:=[.int 0,.int 1]) (MsI A H1 p t ts n (m+1)) (λi τ ys H' I=>?_) (λi τ ys H' I=>SqT.of (I.same _ _ n1.at_)) {{_,rfl},.inl {rfl,rfl},zi.refl _} ?_ ?_}}
  .refine PV (show ys.length<=2 from ?_) 'd';rcases I.ys with ⟨_,e⟩|⟨x,_,⟨_,e⟩|⟨_,e⟩⟩<;>rw [e]<;>simp
  .intro N i v τ ys H' hv I hN;obtain ⟨t0,rfl⟩:=I.ex;have D':=(D.same n1.same).same I.same;rcases I.ys with ⟨rfl,rfl⟩|⟨x,st,⟨rfl,rfl⟩|⟨rfl,rfl⟩⟩
   .cases hv;ac_rfl;exact {p,wl,sl,cells,w,d,0,t,ts,n,m,rfl,D',hs,to,.inl {rfl,λx H2 s2 st=>hN _ _ _ {{_,rfl},.inr {x,st,.inl {rfl,rfl}},I.same.trans s2}}}
   .cases hv;ac_rfl;exact {p,wl,sl,cells,w,d,1,t,ts,n,m,rfl,D',hs,to,.inr {rfl,λH2 s2=>hN _ _ _ {{_,rfl},.inr {x,st.vr (.of s2),.inr {rfl,rfl}},I.same.trans s2}}}
   .cases hv
  .intro τ ys H2 I av H3 J;obtain ⟨x,st,ey⟩:∃x,gy A H2 x t ts n (m+1)/\ys=[.ref x,.non]:=by
    rcases I.ys with ⟨z,_⟩|⟨x,st,⟨z,_⟩|⟨_,e⟩⟩
    .cases z
    .cases z
    .exact ⟨x,st,e⟩
   rw [ey] at J;have Xl:zI H H3:=(zI.of n1.same).trans ((zI.of I.same).trans (.of J.same));have ar:=((tb.same n1.same).same I.same).same J.same;have ai:=st.vr (.of J.same);ac_rfl;refine {{_,SqL.of J.at_},aN.lst (xs:=[.ref x,.non]) (WhI H3 [.ref x,.non]) (λi τ ys H' I=>?_) (λi τ ys H' I=>SqL.of (by rw [I.same];exact J.at_)) {{_,rfl},rfl,rfl} ?_ ?_}
   .rw [I.ys];refine PV (PX (List.length_filter_le _ _) (QZ _ _)) (show 2<sizeLine by decide)
   .intro N i v τ ys H' hv I hN;obtain ⟨t0,rfl⟩:=I.ex;have et:=O6 (l:=[V.ref x,.non]) (i:=i);rw [hv] at et;rcases OH.mp (OX hv) with rfl|z
    .ac_rfl;refine hN _ _ _ {{_,rfl},?_,I.same};rw [et,List.filter_append,I.ys];rfl
    .cases ON.mp z;ac_rfl;refine hN _ _ _ {{_,rfl},?_,I.same};rw [et,List.filter_append,I.ys];exact (Qe _).symm
   .intro τ ys H4 I ab H5 O;have e4:=I.same;subst e4;have ey:ys=[.ref x]:=I.ys;rw [ey] at O;have U:zI H4 H5:=.of O.same;have G:=ar.same O.same;have S:=ai.vr U;refine {true,.inl {_,SqL.of O.at_,rfl},?_};show fT A.vl lpM qM (lJ A.State Wp (iw A) E0 (gW 0) dr) (.ref ab) H5 Q;rw [yi];refine {[x],λ_=>m+1,O.at_,Nat.one_pos,G.l,λH6 L6 T6=>{λi a ha=>?_,λa ha=>?_}}
    .have ea:a=x:=by
      cases i with
      | zero=>exact (Pn.inj ha).symm
      | succ i=>cases ha
     subst ea;obtain ⟨fx,b,k,dd,u,st,_⟩:=S.vr (zI.lam L6 G.l);obtain ⟨dx,e⟩:=st.ob;erw [e,g9];exact {a,fx,b,k,dd,u,ts,n,m+1,rfl,st,rfl,rfl}
    .have ea:a=x:=(Pn.inj ha).symm;subst ea;exact q a H6 (Xl.trans (U.trans (zI.lam L6 G.l))) {kh G.w λa o e h=>L6 a o (λz=>by
      obtain ⟨ps,XX⟩:=A2 G.l;rcases h with h|h
      .exact G.ne (h.symm.trans z)
      .rw [z,XX] at e;cases e;exact h _ rfl) e,T6,G.ne} (S.vr (zI.lam L6 G.l))
abbrev rY:Stmt:=top 61
abbrev qQ:Stmt:=top 64
abbrev sP:Stmt:=top 63
def bQ(us:List Tri)(n:Int):Nat->List Tri
 | 0=>[]
 | i+1=>bQ us n i++match us[i]? with|some t=>if zP t=n+(bQ us n i).length then [t] else []|none=>[]
theorem vH(us:List Tri)(n:Int):∀i,(bQ us n i).length<=i
 | 0=>Ox _
 | i+1=>by
  have:=vH us n i;unfold bQ;rw [Pa];split
  .split<;>simp<;>lia
  .simp;lia
def gwL(g:Int):List PR->Bool
 | []=>false
 | r::rs=>if r.g=g then (if r.e=true then true else gwL g rs) else false
def my(H:Hp)(p:Int×V)(r:PR):Prop:=p.1=r.n/\∃a,p.2 = .ref a/\H a=some (.tup r.row)
theorem PR.cy{r:PR}:atI r.row 0=some (.str Wi):=rfl
theorem PR.cG{r:PR}:atI r.row 1=some (.int r.n):=rfl
theorem PR.at2{r:PR}:atI r.row 2=some (.int r.g):=rfl
theorem PR.cQ{r:PR}:atI r.row 3=some (.bl r.e):=rfl
theorem PR.cP{r:PR}:atI r.row 4=some (.str r.f):=rfl
theorem PR.cN{r:PR}:atI r.row 5=some (.int r.p):=rfl
def nM(n:Int)(rs:List PR):Prop:=∀(i:Nat) r,rs[i]?=some r->r.n=n+i
structure RfI(H:Hp)(l:Addr)(n:Int)(r:Addr)(us:List Tri)(i:Nat)(σ:L2.St)(H':Hp):Prop where
 ex:∃t1 t2 t3,σ=[some (V.ref l),some (.int n),some (.ref r),t1,t2,t3]
 same:zi H H'
 no:H r=none
 ls:∃bs:List Addr,H' r=some (.lst (bs.map V.ref))/\bO H' bs (bQ us n i)
def AA:Sp:=λvs H Q _=>∃(l:Addr)(n:Int)(as:List Addr)(us:List Tri),vs=[.ref l,.int n]/\H l=some (.lst (as.map V.ref))/\bO H as us/\(∀t∈us,∃y n ys,t.1 = .str y::.int n::ys)/\us.length<=100 /\
 ∀r bs H',zi H H'->H' r=some (.lst (bs.map V.ref))->bO H' bs (bQ us n us.length)->Q (.ref r) H'
theorem jh:zw ["whole","number","taken","row","stretch","place"] ["whole","number"] (zk rY):=fsc
theorem MY(F:Fun K "rows_from" "rows_from" rY f fd)(T:Txt w K mg A):zp P w K mg base CX0 true 1 f fd ["whole","number"] AA:=by
 refine F.o jh λZ0 Ar outer s H vs Q E hr h=>?_;obtain ⟨l,n,as,us,rfl,hl,ht,hk,few,q⟩:=h;have hu:_<cLine:=Px (zT hr);have ZZ:=aO ht;refine {_,(W.h (zg (zy (i:=2) jh.nd rfl (OO rfl) (bw zd))
   (zg (bG Qp.never (λ_=>rfl) (liD (bJ (clE (zb 0)))) (fV (n:=3) (gsD (aE (zC (i:=3) jh.nd rfl (OO rfl)) (gsD (aE (zC (i:=4) jh.nd rfl (OO rfl)) (gsD (aE (zC (i:=5) jh.nd rfl (OO rfl)) dB)))))))
   (zh (zM (tD (zS (clO (oE (aU hu))) (clE (zL zX (zb 3) zq (λ_ _=>rfl))) (clE (zJ aX (zb 1) (zQ cu rfl T.tj Pi (zc (zb 2) zd)))) (zK _)))
   (zh (aL (eZ (zb 2) (bS (zc (zb 3) (zc (zb 4) (zc (zb 5) zd)))))))
   zR)))
   (zh (zx (zb 2)))))),?_}
 ac_rfl;refine {'d',λr H1 n1 _=>?_};refine {{_,SqL.of (n1.same _ _ hl)},aC.lst (xs:=as.map V.ref) (RfI H l n r us) {{_,_,_,rfl},n1.same,n1.no,[],n1.at_,.nil} (λi σ H' _ I=>SqL.of (I.same _ _ hl)) ?_ ?_}
 .rintro i x σ H' hx ⟨⟨t1,t2,t3,rfl⟩,O,U,bs,J,tb⟩;rw [OV] at hx;obtain ⟨a,ha,rfl⟩:=O2.mp hx;have hi:i<us.length:=by rw [<- ZZ];exact (OE.mp ha).1
  have Z:us[i]?=some us[i]:=KE hi;have es:bQ us n (i+1)=bQ us n i++if zP us[i]=n+(bQ us n i).length then [us[i]] else []:=by
   show bQ us n i++_=_;rw [Z]
  generalize us[i]=t at Z es;obtain ⟨ra,e1,e2⟩:=(cf ht ha Z).vr (.of O);obtain ⟨y,k,ys,et⟩:=hk t (OX Z);have ek:zP t=k:=by unfold zP;rw [et];rfl
  rw [et] at e2;refine {a,_,rfl,SqT.of e1,rfl,?_};have ix:atI (V.str y::V.int k::ys) 1=some (V.int k):=ee (j:=1) 'z';have lb:=aO tb;have ll:=vH us n i;erw [e2,ix,J];rw [OB,lb];refine aY (λh=>?_) (λh=>?_)
  .have Yt:=of_decide_eq_true h;ac_rfl;refine {'d',λtp H3 G=>?_};have S:=G.same _ _ J;erw [S];refine {by rw [OB];exact aB 'l',{_,_,_,rfl},λc o e=>?_,U,bs++[tp],by rw [zu];simp,?_}
   .rw [ze (zz e U)];exact G.same _ _ (O _ _ e)
   .rw [es,if_pos (by rw [ek,Yt])];have up:∀{b xs},H3 b=some (.tup xs)->upd H3 r (.lst (bs.map V.ref++[.ref tp])) b=some (.tup xs):=λ{b xs} e=>by rw [ze (λz=>by rw [z,S] at e;cases e)];exact e
    exact di (Paired.wa tb λx t ⟨r',g1,g2⟩=>{r',up (G.same _ _ g1),up (G.same _ _ g2)}) (.cons {ra,up G.at_,up (G.same _ _ (by rw [et];exact e2))} .nil)
  .refine {{_,_,_,rfl},O,U,bs,J,?_};rw [es,if_neg (λz=>h (decide_eq_true (by rw [<- ek,z])))];exact (Qe (bQ us n i)).symm ▸ tb
 .rintro σ H' ⟨⟨t1,t2,t3,rfl⟩,O,U,bs,J,tb⟩;ac_rfl;rw [OB,ZZ] at tb;exact q r bs H' O J tb
def xB:Sp:=λvs H Q _=>∃(v:V)(g:Int),vs=[v,.int g]/\((v = .non/\Q (.bl false) H)\/∃(a:Addr)(r:PR),v = .ref a/\H a=some (.tup r.row)/\Q (.bl (decide (r.g=g))) H)
theorem DI:zw Wu Wu (zk qQ):=fsc
theorem Lw(F:Fun K VY VY qQ f fd)(T:Txt w K mg A):zp P w K mg base CX0 true 1 f fd Wu xB:=by
 refine F.o DI λO S outer s H vs Q E J h=>?_;obtain ⟨v,g,rfl,h⟩:=h;have z:_<cLine:=Px (zT J);refine {_,(W.h (zh (zx (anD (ji (clE (eA jH (zb 0) cE (zK _))) (anD (ji (clE (eA (oE (aU z)) (zL zX (zb 0) zq (λ_ _=>rfl)) zF (zK _))) (jy (eA (oE (aU z)) (zL zX (zb 0) zq (λ_ _=>rfl)) (zb 1) (zK _)))))))))),?_};rcases h with ⟨rfl,q⟩|⟨a,r,rfl,G,q⟩
 .ac_rfl;exact q
 .erw [G,PR.cy,PR.at2];exact q
theorem HD(h:Paired (my H) kvs rs)(c:nM n rs){j:Nat}:(∃r a,rs[j]?=some r/\H a=some (.tup r.row)/\ag (ik kvs) (.inl (n+j))=some (.ref a))\/rs[j]?=none/\ag (ik kvs) (.inl (n+j))=none:=by
 have F:kvs.map (·.1)=rs.map (·.n):=by
  clear c
  induction h with
  | nil=>rfl
  | cons r _ J=>rw [Pf,Pf,J,r.1]
 have hl:=aO h;cases e:rs[j]? with
 | none =>
  refine .inr {rfl,?_};have:n+(j:Int)∉kvs.map (·.1):=λz=>by
   rw [F] at z;obtain ⟨r,Z,er⟩:=Qt.mp z;obtain ⟨i,hi,S⟩:=PM Z;have:=c i r (by rw [KE hi,S]);have G:=Rc.mp e;lia
  clear h hl F e
  induction kvs with
  | nil=>rfl
  | cons p kvs J =>
   rw [Pf,OH,not_or] at this;show ag ((Sum.inl p.1,p.2)::ik kvs) _=_;rw [h9 (λz=>this.1 (Sum.inl.inj z).symm)];exact J this.2
 | some r =>
  have G:j<kvs.length:=by rw [hl];exact (OE.mp e).1
  obtain ⟨U,a,W,e3⟩:=cf h (KE G) e;refine .inl {r,a,rfl,e3,kr ?_ ?_}
  .rw [F];refine QN.mpr λi k hi O ab=>?_;rw [List.getElem_map,List.getElem_map];rw [OB] at hi O;have h1:=c i _ (KE hi);have h2:=c k _ (KE O);intro z;lia
  .rw [<- c j r e,<- U,<- W];exact Qb G
structure GwI(H:Hp)(d:Addr)(g n:Int)(rs:List PR)(R:Bool)(m:Nat)(σ:L2.St)(H':Hp):Prop where
 ex:∃j:Nat,m+j=rs.length/\σ=[some (V.ref d),some (.int g),some (.int (n+j))]/\gwL g (rs.drop j)=R
 same:H'=H
def wR:Sp:=λvs H Q _=>∃(d:Addr)(n:Int)(j:Nat)(kvs:List (Int×V))(rs:List PR),vs=[.ref d,.int (n+j)]/\H d=some (.dK (ik kvs))/\Paired (my H) kvs rs/\nM n rs/\j<=rs.length/\Q (.bl (gwL (n+j) (rs.drop j))) H
theorem pf:zw ["by_number","first","number"] Wr (zk sP):=fsc
theorem IM(F:Fun K V4 V4 sP f fd)(T:Txt w K mg A)(Z:GF P w K mg base true 1 VY Wu xB):zp P w K mg base CX0 true 2 f fd Wr wR:=by
 refine F.o pf λZ0 Ar outer s H vs Q E J h=>?_;obtain ⟨d,n,z,kvs,rs,rfl,hd,U,c,ab,q⟩:=h;have hu:_<cLine:=Px (zT J);refine {_,(W.h (zg (zy (i:=2) pf.nd rfl (OO rfl) (zb 1))
   (zg (On Qp.never (bE (caD (zB Z J rfl (clP (zc (DJ (zT J) (zb 0) (zb 2)) (zc (zb 1) zd))))))
   (zg (zM (bE (zL zX (zL (fZ (zT J)) (zb 0) (zb 2) (λ_ _=>rfl)) zq (λ_ _=>rfl)))
   (zh (zx eG))
   zR)
   (zh (xq (i:=2) pf.nd rfl (OO rfl) zq AN))))
   (zh (zx eG))))),?_}
 ac_rfl;unfold wx;refine {GwI H d (n+z) n rs (gwL (n+z) (rs.drop z)),{rs.length-z,{z,'l',rfl,rfl},rfl},?_};rintro m σ H' ⟨⟨j,hm,rfl,hg⟩,rfl⟩;ac_rfl;refine {{_,.inl hd},_,.inl hd,?_};rcases HD U c (j:=j) with ⟨r,a,G,S,O⟩|⟨G,O⟩
 .rw [O];have ed:rs.drop j=r::rs.drop (j+1):=jR G;rw [ed] at hg;have hg:(if r.g=n+z then (if r.e=true then true else gwL (n+z) (rs.drop (j+1))) else false)=gwL (n+z) (rs.drop z):=hg;have hj:=(OE.mp G).1;refine {_,_,rfl,.inr {a,r,rfl,S,?_}};by_cases h1:r.g=n+z
  .rw [decide_eq_true h1];ac_rfl;refine {GwI H' d (n+z) n rs (gwL (n+z) (rs.drop z)) (m-1),λai ar h=>{m-1,'l',h},_,.inl hd,_,O,?_};rw [if_pos h1] at hg;erw [S,PR.cQ];refine aY (λh=>?_) (λh=>?_)
   .rw [if_pos h] at hg;rw [hg];exact q
   .rw [if_neg h] at hg;exact {{j+1,'l',by rw [Int.natCast_add,<- Int.add_assoc];rfl,hg},rfl}
  .rw [decide_eq_false h1];rw [if_neg h1] at hg;ac_rfl;rw [hg];exact q
 .rw [O];rw [Qr (Rc.mp G)] at hg;refine {_,_,rfl,.inl {rfl,?_}};ac_rfl;have hg:false=_:=hg;rw [hg];exact q
abbrev rN:Stmt:=top 65
abbrev ic:Stmt:=top 62
abbrev nh:Stmt:=top 58
def dE(u:Tab)(r:PR):Tab:=ak u r.f ((lk u r.f).take r.p.toNat++[r.n]++(lk u r.f).drop (r.p.toNat+1))
abbrev Tk:=PR×Nat×Nat
def trq(q:Tk):Tri:=(q.1.row,q.2)
def isD(n:Int)(ps:List Tk)(r:PR):Bool:=gwL r.g ((ps.map (·.1)).drop (r.g-n).toNat)
def sbT(n:Int)(ps:List Tk)(u:Tab):Nat->Tab
 | 0=>u
 | i+1=>match ps[i]? with|some q=>if isD n ps q.1=true then dE (sbT n ps u i) q.1 else sbT n ps u i|none=>sbT n ps u i
def sbS(ps:List Tk)(ts:List T3):Nat->List T3
 | 0=>ts
 | i+1=>match ps[i]? with|some q=>bN (sbS ps ts i) q.1.n ((q.2.1:Int),(q.2.2:Int))|none=>sbS ps ts i
structure pK(n:Int)(ps:List Tk)(u:Tab)(ts:List T3):Prop where
 few:ps.length<=20
 cons:nM n (ps.map (·.1))
 g:∀q∈ps,n<=q.1.g/\q.1.g<=n+ps.length
 put:∀i q,ps[i]?=some q->isD n ps q.1=true->0<=q.1.p/\q.1.p<=((lk (sbT n ps u i) q.1.f).length:Int)/\(lk (sbT n ps u i) q.1.f).length<=4000
 len:u.length<=100
 live:∀y∈zD (sbT n ps u ps.length),y∈(sbS ps ts ps.length).map (·.1)
 sml:ts.length+ps.length<40
 ts:oN ts
theorem Eo{α:Type}{l:List (Int×α)}{a:α}:(bN l n a).length<=l.length+1:=by unfold bN;split<;>simp
theorem Eu{α:Type}{l:List (Int×α)}{a:α}(h:(l.map (·.1)).Nodup):((bN l n a).map (·.1)).Nodup:=by
 unfold bN;split
 .rw [Pg];rw [show ((λx=>x.1)∘λp:Int×α=>if p.1=n then (p.1,a) else p)=λp=>p.1 from funext λp=>by show (if p.1=n then (p.1,a) else p).1=_;split<;>rfl];exact h
 .rw [Ph];exact QK.mpr {h,'z',λx hx y F z=>by rw [ON.mp F] at z;subst z;contradiction}
theorem LO(h:Paired (c7 H) kvs ts)(r:c7 H (n,v) (n,x)):Paired (c7 H) (bN kvs n v) (bN ts n x):=by
 have G:=iJ h;unfold bN;rw [G];split
 .rename_i hm;clear G hm
  induction h with
  | nil=>exact .nil
  | @cons p t _ _ F _ J =>
   rw [Pf,Pf];refine .cons ?_ J;by_cases z:t.1=n
   .rw [if_pos z,if_pos (F.1.trans z)];exact ⟨F.1,r.2⟩
   .rw [if_neg z,if_neg (λy=>z (F.1.symm.trans y))];exact F
 .exact di h (.cons r .nil)
theorem oy:∀i,(sbS ps ts i).length<=ts.length+i
 | 0=>Ox _
 | i+1=>by
  have:=oy (ps:=ps) (ts:=ts) i;unfold sbS;split
  .exact PX Eo 'l'
  .lia
theorem rM(h:(ts.map (·.1)).Nodup):∀i,((sbS ps ts i).map (·.1)).Nodup
 | 0=>h
 | i+1=>by
  unfold sbS;split
  .exact Eu (rM h i)
  .exact rM h i
theorem sf:∀i,(sbT n ps u i).length<=u.length+i
 | 0=>Ox _
 | i+1=>by
  have:=sf (n:=n) (ps:=ps) (u:=u) i;unfold sbT;split
  .split
   .exact PX nX 'l'
   .lia
  .lia
theorem zU.bX{A:zj}{p b k D:Addr}{t:Tab}{o:HO}(h:zU A H p b k t)(G:H D=some (.dK kvs))(n1:D≠b)(O:k≠D):zU A (upd H D o) p b k t:=by
 obtain ⟨dx,e⟩:=h.ob;obtain ⟨U,J,d⟩:=h.ex;exact {{dx,by rw [ze (λz=>by rw [z,G] at e;cases e)];exact e},{U,by rw [ze n1.symm];exact J,d.imp λv a ⟨p,S,F⟩=>{p,S,by rw [ze (λz=>by rw [z,G] at F;cases F)];exact F}},h.nd,by rw [ze O];exact h.kept,h.ne}
def Bi(A:zj):Sp:=λvs H Q _=>∃(p b k a:Addr)(u:Tab)(r:PR),vs=[.ref p,.ref a]/\zU A H p b k u/\H a=some (.tup r.row)/\0<=r.p/\r.p<=(lk u r.f).length/\(lk u r.f).length<=4000/\u.length<=4000/\∀H',But b H H'->zU A H' p b k (dE u r)->Q .non H'
theorem yn:zw [Wq,"row","kind","number"] [Wq,"row"] (zk rN):=fsc
theorem Eg(F:Fun K "do_row" "do_row" rN f fd)(T:Txt w K mg A)(U:GM P w K mg base true 4 A.qv Wi XA (ke A)):zp P w K mg base CX0 true 5 f fd [Wq,"row"] (Bi A):=by
 refine F.o yn λZ0 Ar outer s H vs Q E J h=>?_;obtain ⟨p,b,k,a,u,r,rfl,G,S,h0,h1,h2,h3,q⟩:=h;have z:_<cLine:=Px (zT J);refine {_,(W.h (zg (BH (i:=2) (j:=3) rfl yn.nd rfl rfl 'd' rfl rfl (zc (zL zX (zb 1) zq (λ_ _=>rfl)) (zc (zL zX (zb 1) zq (λ_ _=>rfl)) zd)) rfl)
   (zh (zM (tD (zS (clO (oE (aU z))) (clE (zb 2)) (clE zF) (zK _)))
   (zh (aL (mD (bc (clE (zb 0)) T.pw U J (clP (zc (zL zX (zb 1) zq (λ_ _=>rfl)) (zc (zL zX (zb 1) zq (λ_ _=>rfl)) (zc (zb 3) zd))))))))
   (zh (zM (tD (zS (clO (oE (aU z))) (clE (zb 2)) (clE zF) (zK _)))
   (zh aW)
   (zh (zM (tD (zS (clO (oE (aU z))) (clE (zb 2)) (clE zF) (zK _)))
   (zh aW)
   (zh (zM (tD (zS (clO (oE (aU z))) (clE (zb 2)) (clE zF) (zK _)))
   (zh aW)
   zR)))))))))),?_}
 obtain ⟨dx,O⟩:=G.ob;erw [S,PR.cy,PR.cG,PR.cP,PR.cN,O,rh];exact {p,b,k,u,r.f,r.p,r.n,rfl,G,h0,h1,h2,h3,λH' b' Z=>q H' b' Z}
structure Kc(H:Hp)(rs:List PR)(i:Nat)(τ:L2.St)(ys:List (Key×V))(H':Hp):Prop where
 ex:∃t1 t2 t3,τ=[t1,t2,t3]
 ys:∃kvs,ys=ik kvs/\Paired (my H') kvs (rs.take i)
 same:zi H H'
structure SlI(A:zj)(H H6:Hp)(x l qf D D5 bf kf:Addr)(mm n:Int)(ps:List Tk)(u:Tab)(ts:List T3)(i:Nat)(σ:L2.St)(H':Hp):Prop where
 ex:∃t1 t2 t3 t4,σ=[some (V.ref x),some (.ref l),some (.int mm),some (.ref qf),some (.ref D),some (.ref D5),t1,t2,t3,t4]
 same:zi H H'
 fl:zU A H' qf bf kf (sbT n ps u i)
 sp:∃kvs,H' D=some (.dK (ik kvs))/\Paired (c7 H') kvs (sbS ps ts i)
 by_:∃kvs,H' D5=some (.dK (ik kvs))/\Paired (my H') kvs (ps.map (·.1))
 ne:D≠bf/\D5≠bf/\D5≠D/\kf≠D/\H D=none/\H bf=none
structure SbI(H:Hp)(D:Addr)(us:List T3)(i:Nat)(τ:L2.St)(ys:List V)(H':Hp):Prop where
 ex:∃t,τ=[t,some (.ref D)]
 ys:∃as:List Addr,ys=as.map V.ref/\Paired (eM H') as (us.take i)
 same:zi H H'
def ug(A:zj):Sp:=λvs H Q _=>∃(x F b k d l:Addr)(u:Tab)(ts:List T3)(n m z:Int)(as:List Addr)(ps:List Tk),vs=[.ref x,.ref l,.int z]/\bI A H x F b k d u ts n m/\H l=some (.lst (as.map V.ref))/\bO H as (ps.map trq)/\(∀ts':List T3,ts'.Perm ts->pK n ps u ts') /\
 ∀y G b' k' d' (ts' us:List T3) H',zi H H'->us.Perm ts->bI A H' y G b' k' d' (sbT n ps u ps.length) ts' (n+ps.length) z->(∀t∈ts',t∈sbS ps us ps.length)->(ts'.map (·.1)).Perm (cY (zD (sbT n ps u ps.length)))->(ts'.map (·.1)).Pairwise (·<=·)->Q (.ref y) H'
theorem fM:zw Ym WL (zk ic):=fsc
theorem CB:bq { kind:=.function,names:=[(OA ".0",.local),(OA "birth",.local),(OA "stretch",.local),(OA "place",.local)],isGenerator:=false,isCoroutine:=false,more:=[] } (zk ic).names Ym XU [none,none,none]=true:=by decide +kernel
theorem oA:(XU:List Str).Nodup:=by decide +kernel
theorem Oa:bq { kind:=.function,names:=[(OA ".0",.local),(OA "row",.local),(OA "stretch",.local),(OA "place",.local)],isGenerator:=false,isCoroutine:=false,more:=[] } (zk ic).names Ym ["row","stretch","place"] [none,none,none]=true:=by decide +kernel
theorem rP:(["row","stretch","place"]:List Str).Nodup:=by decide +kernel
theorem L7:bq { kind:=.function,names:=[(OA ".0",.local),(OA "birth",.local),(OA "spot_of",.free)],isGenerator:=false,isCoroutine:=false,more:=[] } (zk ic).names Ym [Wl,"spot_of"] [none,some 4]=true:=by decide +kernel
theorem Ed:([Wl,"spot_of"]:List Str).Nodup:=by decide +kernel
theorem GG(F:Fun K V3 V3 ic f fd)(T:Txt w K mg A)(ZX:GM P w K mg base true 5 A.State Wq YM (me A))(Z2:GM P w K mg base true 1 A.State Wc YM (kA A))(Zv:GF P w K mg base true 2 V4 Wr wR)(Yf:GF P w K mg base true 5 "do_row" [Wq,"row"] (Bi A))(Z6:GM P w K mg base true 1 A.State Wn YM (jr A))(ZL:GM P w K mg base true 1 A.qv "living" YM (qi A))(Zo:GC P w K mg base true 5 "State" A.State Yq (kT A)):zp P w K mg base CX0 true 7 f fd WL (ug A):=by
 refine F.o fM λZ0 Ar outer s H vs Q E hr h=>?_;obtain ⟨x,fx,b,k,d,l,u,ts,n,m,mm,as,ps,rfl,hS,hl,tl,ok,q⟩:=h;have hu:_<cLine:=Px (zT hr);refine {_,(W.h (zg (zy (i:=3) fM.nd rfl (OO rfl) (m0D (zH (clE (zb 0)) T.qs ZX hr)))
   (zg (zy (i:=4) fM.nd rfl (RU rfl) (yL (λ_=>rfl) (zY.of CB) (liD (bJ (clE (m0D (zH (clE (zb 0)) T.qs Z2 hr))))) (λ_ _ _ _ _=>(mI (n:=3) (gsD (aE (zC (i:=0) oA rfl (OO rfl)) (gsD (aE (zC (i:=1) oA rfl (OO rfl)) (gsD (aE (zC (i:=2) oA rfl (OO rfl)) dB)))))))) (λ_ _ _ _ _=>bW) (λ_ _ _ _ _=>(zb 0)) (λ_ _ _ _ _=>(bS (zc (zb 1) (zc (zb 2) zd))))))
   (zg (Jh (i0:=5) fM.nd rfl (OO rfl) (λ_=>rfl) (zY.of Oa) (liD (bJ (clE (zb 1)))) (λ_ _ _ _ _=>(mI (n:=3) (gsD (aE (zC (i:=0) rP rfl (OO rfl)) (gsD (aE (zC (i:=1) rP rfl (OO rfl)) (gsD (aE (zC (i:=2) rP rfl (OO rfl)) dB)))))))) (λ_ _ _ _ _=>bW) (λ_ _ _ _ _=>(zL zX (zb 0) zq (λ_ _=>rfl))) (λ_ _ _ _ _=>(zb 0)))
   (zg (bG Qp.never (λ_=>rfl) (liD (bJ (clE (zb 1)))) (fV (n:=3) (gsD (aE (zC (i:=6) fM.nd rfl (OO rfl)) (gsD (aE (zC (i:=7) fM.nd rfl (OO rfl)) (gsD (aE (zC (i:=8) fM.nd rfl (OO rfl)) dB)))))))
   (zg (zM (eX (j4 (tD (zS (clO (oE (eO hu))) (clE (zL zX (zb 6) zq (λ_ _=>rfl))) (clE zF) (zK _))) (kS (bE (caD (zB Zv hr rfl (clP (zc (zb 5) (zc (zL zX (zb 6) zq (λ_ _=>rfl)) zd)))))))))
   (zh (aL (caD (zB Yf hr rfl (clP (zc (zb 3) (zc (zb 6) zd)))))))
   zR)
   (zh (eY (bS (zc (zb 7) (zc (zb 8) zd))) (fO (zb 4) (lY (tD (zS (clO (oE (aU hu))) (clE (zL zX (zb 6) zq (λ_ _=>rfl))) (clE zF) (zK _))) (zL zX (zb 6) zq (λ_ _=>rfl)) (zL zX (zb 6) zq (λ_ _=>rfl))) (iK (zT hr)))))))
   (zg (nC (i0:=9) fM.nd rfl (OO rfl) (λ_=>rfl) (zY.of L7) (liD (bJ (clE (m0D (zH (clE (zb 3)) T.pw ZL hr))))) (λ_ _ _ _ _=>(zC (i:=0) Ed rfl (OO rfl))) (λ_ _ _ _ _=>bW) (λ_ _ _ _ _=>(zJ h7 (bS (zc (zb 0) zd)) (zL (fZ (zT hr)) (zb 1) (zb 0) (λ_ _=>rfl)))))
   (zh (zx (jz Zo hr rfl (zc (zb 3) (zc (zb 9) (zc (zJ h7 (m0D (zH (clE (zb 0)) T.qs Z6 hr)) (zQ cu rfl T.tj Pi (zc (zb 1) zd))) (zc (zb 2) zd))))))))))))),?_}
 obtain ⟨dx,e1⟩:=hS.ob;erw [e1,i5];refine {x,fx,b,k,d,u,ts,n,m,rfl,hS,λqf bf kf H1 s1 nb nk nq hF=>?_};have S1:=hS.same s1;have cP:=s1 _ _ e1;erw [cP,kO];refine {x,fx,b,k,d,u,ts,n,m,rfl,S1,λsl ct us H2 s2 df WS pr up so=>?_};have O:=ok us up;ac_rfl;have bt:=aO pr;have few:=O.ts.few;refine {{_,SqL.of WS},ig.lst (xs:=ct.map V.ref) (DcI H2 us) (λi τ ys H' I=>?_) (λi τ ys H' I=>SqL.of (I.same _ _ WS)) {{_,_,_,rfl},{[],rfl,.nil},zi.refl _} ?_ ?_}
 .obtain ⟨kvs,e,pr⟩:=I.ys;have:=aO pr;have h2:=QZ i us;rw [e,jT];exact aB 'l'
 .intro N i v τ ys H' hv I hN;obtain ⟨t1,t2,t3,rfl⟩:=I.ex;obtain ⟨kvs,e,U⟩:=I.ys;rw [OV] at hv;obtain ⟨a,ha,rfl⟩:=O2.mp hv;have hi:i<us.length:=by rw [<- bt];exact (OE.mp ha).1
  have Yg:us[i]?=some us[i]:=KE hi;refine {a,_,rfl,SqT.of (I.same _ _ (cf pr ha Yg)),rfl,?_};ac_rfl;refine {'d',λa2 H3 n3=>hN _ _ _ {{_,_,_,rfl},{kvs++[(us[i].1,.ref a2)],?_,?_},I.same.trans n3.same}}
  .have a4:us[i].1∉kvs.map (·.1):=by
    rw [iJ U];have nd:=O.ts.nd;rw [<- Q6 i us,Ph,QU hi,Pf] at nd;exact λz=>(QK.mp nd).2.2 _ z _ (OT ..) rfl
   rw [e,jO];unfold bN;rw [if_neg a4]
  .rw [O6,Yg];exact di (Paired.wa U λp t r=>r.keep λr xs e=>n3.same _ _ e) (.cons {rfl,a2,rfl,n3.at_} .nil)
 .intro τ ys H3 I D H4 n4;obtain ⟨kvs,e,U⟩:=I.ys;rw [OB,bt,OQ (Ox _)] at U;rw [e] at n4;have ai:zi H2 H4:=I.same.trans n4.same;have aT:zi H H4:=s1.trans (s2.trans ai);have c3:Paired (c7 H4) kvs us:=Paired.wa U λp t r=>r.keep λr xs e=>n4.same _ _ e;have b3:=aT _ _ hl;have J:=aO tl;rw [OB] at J;have dc:=O.few;ac_rfl;refine {{_,SqL.of b3},ig.lst (xs:=as.map V.ref) (Kc H4 (ps.map (·.1))) (λi τ ys H' I=>?_) (λi τ ys H' I=>SqL.of (I.same _ _ b3)) {{_,_,_,rfl},{[],rfl,.nil},zi.refl _} ?_ ?_}
  .obtain ⟨kvs,e,pr⟩:=I.ys;have:=aO pr;have h2:=QZ i (ps.map (·.1));rw [OB] at h2;rw [e,jT];exact aB 'l'
  .intro N i v τ ys H' hv I hN;obtain ⟨t1,t2,t3,rfl⟩:=I.ex;obtain ⟨ab,e,S⟩:=I.ys;rw [OV] at hv;obtain ⟨a,ha,rfl⟩:=O2.mp hv;have hi:i<ps.length:=by rw [<- J];exact (OE.mp ha).1
   have Z:ps[i]?=some ps[i]:=KE hi;generalize ps[i]=G at Z;obtain ⟨ra,g1,g2⟩:=(cf tl ha (show (ps.map trq)[i]?=some (trq G) by rw [OV,Z];rfl)).vr (.of (aT.trans I.same));have g2:H' ra=some (.tup G.1.row):=g2;refine {a,_,rfl,SqT.of g1,rfl,?_};erw [g2,PR.cG];refine hN _ _ _ {{_,_,_,rfl},{ab++[(G.1.n,.ref ra)],?_,?_},I.same}
   .have a4:G.1.n∉ab.map (·.1):=λz=>by
     obtain ⟨p,hp,ep⟩:=Qt.mp z;obtain ⟨j,hj,ej⟩:=PM hp;have b4:j<((ps.map (·.1)).take i).length:=by rw [<- aO S];exact hj
     have r5:=(cf S (KE hj) (KE b4)).1;rw [ej,ep,List.getElem_take] at r5;rw [O8] at b4;have c1:=O.cons j _ (KE 'l');have c2:=O.cons i G.1 (by rw [OV,Z];rfl);lia
    rw [e,jO];unfold bN;rw [if_neg a4]
   .rw [O6,OV,Z];exact di S (.cons {rfl,ra,rfl,g2} .nil)
  .intro dg dk H5 I5 D5 H6 n6;obtain ⟨ab,e5,S⟩:=I5.ys;rw [OB,J,<- OB (as:=ps) (f:=(·.1)),OQ (Ox _)] at S;rw [e5] at n6;have aI:zi H4 H6:=I5.same.trans n6.same;have a7:zi H H6:=aT.trans aI;have cC:=a7 _ _ hl;have F6:=((hF.same s2).same ai).same aI;obtain ⟨dm,a9,_⟩:=hF.ex;have b5:=n4.at_;have D0:H1 D=none:=(s2.trans I.same).free n4.no;have bP:H4 D5=none:=I5.same.free n6.no;have bg:=hF.kept;have dp:=ai _ _ (s2 _ _ bg);ac_rfl;refine {{_,SqL.of cC},aC.lst (xs:=as.map V.ref) (SlI A H H6 x l qf D D5 bf kf mm n ps u us) {{_,_,_,_,rfl},a7,F6,{kvs,aI _ _ b5,Paired.wa c3 λp t r=>r.keep λr xs e=>aI _ _ e},{ab,n6.at_,Paired.wa S λp t ⟨r1,a,r2,r3⟩=>{r1,a,r2,n6.same _ _ r3}},(zz a9 D0).symm,(zz (ai _ _ (s2 _ _ a9)) bP).symm,(zz b5 bP).symm,zz bg D0,s1.free D0,nb} (λi σ H' _ I=>SqL.of (I.same _ _ hl)) ?_ ?_}
   .rintro i v σ H' hv ⟨⟨t1,t2,t3,t4,rfl⟩,sm,fl,⟨kv,hD,U⟩,⟨kb,hB,pb⟩,n1,n2,n3,n4,n5,n7⟩;rw [OV] at hv;obtain ⟨a,ha,rfl⟩:=O2.mp hv;have hi:i<ps.length:=by rw [<- J];exact (OE.mp ha).1
    have Z:ps[i]?=some ps[i]:=KE hi;generalize ps[i]=G at Z;obtain ⟨ra,g1,g2⟩:=(cf tl ha (show (ps.map trq)[i]?=some (trq G) by rw [OV,Z];rfl)).vr (.of sm);have g2:H' ra=some (.tup G.1.row):=g2;obtain ⟨ga,gb⟩:=O.g G (OX Z);have eg:G.1.g=n+((G.1.g-n).toNat:Nat):=by lia
    have ed:gwL (n+((G.1.g-n).toNat:Nat)) ((ps.map (·.1)).drop (G.1.g-n).toNat)=isD n ps G.1:=by rw [<- eg];rfl
    refine {a,_,rfl,SqT.of g1,rfl,?_};erw [g2,PR.cy,PR.at2];refine {D5,n,(G.1.g-n).toNat,kb,_,by rw [<- eg],hB,pb,O.cons,by rw [OB];lia,?_};rw [ed];have eS:sbS ps us (i+1)=bN (sbS ps us i) G.1.n ((G.2.1:Int),(G.2.2:Int)):=by show (match ps[i]? with|some q=>_|none=>_)=_;rw [Z]
    have eT:sbT n ps u (i+1)=if isD n ps G.1=true then dE (sbT n ps u i) G.1 else sbT n ps u i:=by show (match ps[i]? with|some q=>_|none=>_)=_;rw [Z]
    have lS:=oy (ps:=ps) (ts:=us) i;have lk:=aO U;obtain ⟨da,c4,_⟩:=fl.ex;by_cases hd:isD n ps G.1=true
    case' pos =>
     rw [hd];obtain ⟨p0,p1,p2⟩:=O.put i G Z hd;have tl:=sf (n:=n) (ps:=ps) (u:=u) i;have ul:=O.len;ac_rfl;refine {qf,bf,kf,ra,_,G.1,rfl,fl,g2,p0,p1,p2,'l',λH7 b7 F7=>?_};rw [<- (eT.trans (if_pos hd):sbT n ps u (i+1)=_)] at F7;have ba:zi H H7:=λc o e=>b7 _ _ (zz e n7) (sm _ _ e);have ar:∀{r:Addr}{xs:List V},H' r=some (.tup xs)->H7 r=some (.tup xs):=λ{r xs} e=>b7 _ _ (λz=>by rw [z,c4] at e;cases e) e;have aH:=b7 _ _ n1 hD;have bh:=b7 _ _ n2 hB
    case' neg =>
     rw [Ry.mpr hd];ac_rfl;have F7:=fl;rw [<- (eT.trans (if_neg hd):sbT n ps u (i+1)=_)] at F7;have ba:=sm;have ar:∀{r:Addr}{xs:List V},H' r=some (.tup xs)->H' r=some (.tup xs):=λ{r xs} e=>e;have aH:=hD;have bh:=hB
    all_goals
     refine {'d',λtp H8 n8=>?_};have cn:=n8.same _ _ (ar g2);have a0:=n8.same _ _ aH;have a3:∀{r:Addr}{xs:List V},H8 r=some (.tup xs)->upd H8 D (.dK (ik (bN kv G.1.n (.ref tp)))) r=some (.tup xs):=λ{r xs} e=>by rw [ze (λz=>by rw [z,a0] at e;cases e)];exact e
     erw [cn,PR.cy,PR.cG];refine .inr {_,a0,by rw [jT,lk];exact PV (show _<=1000 by lia) 'd',?_};rw [jO];refine {{_,_,_,_,rfl},λc o e=>by rw [ze (zz e n5)];exact n8.same _ _ (ba _ _ e),(F7.same n8.same).bX a0 n1 n4,{_,zu,?_},{kb,by rw [ze n3];exact n8.same _ _ bh,Paired.wa pb λp t ⟨r1,a,r2,r3⟩=>{r1,a,r2,a3 (n8.same _ _ (ar r3))}},n1,n2,n3,n4,n5,n7};rw [eS];exact LO (Paired.wa U λp t r=>r.keep λr xs e=>a3 (n8.same _ _ (ar e))) {rfl,tp,rfl,a3 n8.at_}
   .rintro σ H' ⟨⟨t1,t2,t3,t4,rfl⟩,sm,fl,⟨kv,hD,U⟩,⟨kb,hB,pb⟩,n1,n2,n3,n4,n5,n7⟩;rw [OB,J] at fl U;obtain ⟨dd,ef⟩:=fl.ob;erw [ef,AU];have lS:=oy (ps:=ps) (ts:=us) ps.length;have sml:=O.sml;have nS:=rM (ps:=ps) O.ts.nd ps.length;have a6:(cY (zD (sbT n ps u ps.length))).length<=(sbS ps us ps.length).length:=by
     have:=mz (L:=(sbS ps us ps.length).map (·.1)) cK λy hy=>O.live y (fK.mp hy);rwa [OB] at this
    have live:=O.live;generalize bL:sbS ps us ps.length=tsm at lS nS a6 live U;refine {qf,bf,kf,_,rfl,fl,'l',λll ns H7 s7 nl el av cv=>?_};have dn:ns.length<=tsm.length:=by rw [av.length_eq];exact a6
    have hm:∀y∈ns,∃t∈tsm,t.1=y:=λy hy=>Qt.mp (live y (fK.mp (av.mem_iff.mp hy)));have ek:(ns.map (cI tsm)).map (·.1)=ns:=by
     rw [Pg];refine (QA λy hy=>?_).trans (map_id ns);obtain ⟨t,ht,rfl⟩:=hm y hy;show (cI tsm t.1).1=t.1;rw [h8 nS ht]
    have aH:=s7 _ _ hD;have a5:Paired (c7 H7) kv tsm:=Paired.wa U λp t r=>r.keep λr xs e=>s7 _ _ e;have cc:=aO a5;ac_rfl;refine {{_,SqL.of el},aN.lst (xs:=ns.map V.int) (SbI H7 D (ns.map (cI tsm))) (λi τ ys H' I=>?_) (λi τ ys H' I=>SqL.of (I.same _ _ el)) {{_,rfl},{[],rfl,.nil},zi.refl _} ?_ ?_}
    .obtain ⟨as,e,pr⟩:=I.ys;have:=aO pr;have h2:=QZ i (ns.map (cI tsm));rw [OB] at h2;rw [e,OB];exact aB 'l'
    .intro N i v τ ys H8 hv I hN;obtain ⟨t1,rfl⟩:=I.ex;obtain ⟨as,e,pr⟩:=I.ys;rw [OV] at hv;obtain ⟨y,hy,rfl⟩:=O2.mp hv;obtain ⟨t,ht,rfl⟩:=hm y (OX hy);obtain ⟨j,hj,ej⟩:=PM ht;have bx:j<kv.length:=by rw [cc];exact hj
     obtain ⟨k1,a,k2,k3⟩:=cf a5 (KE bx) (KE hj);rw [ej] at k1 k3;have cD:ag (ik kv) (.inl t.1)=some (.ref a):=by
      refine kr (by rw [iJ a5];exact nS) ?_;rw [<- k1,<- k2];exact Qb bx
     ac_rfl;refine {'d',λp1 H9 n9=>{_,.inl (n9.same _ _ (I.same _ _ aH)),_,cD,?_}};ac_rfl;refine .inr {_,n9.at_,_,n9.same _ _ (I.same _ _ k3),by show 3<=sizeLine;decide,λp2 bp b0 b9=>hN _ _ _ {{_,rfl},{as++[p2],by rw [e,Ph];rfl,?_},I.same.trans (n9.same.trans b0)}};rw [O6,OV,hy];refine di (Paired.wa pr λa t r=>b0 _ _ (n9.same _ _ r)) (.cons ?_ .nil);show bp p2=_;rw [h8 nS ht];exact b9
    .intro τ ys H8 I sp H9 n9;obtain ⟨b6,e,b1⟩:=I.ys;rw [OB,<- OB (as:=ns) (f:=cI tsm),OQ (Ox _)] at b1;rw [e] at n9;have c6:zi H7 H9:=I.same.trans n9.same;have b2:zi H' H9:=s7.trans c6;have aF:zi H H9:=sm.trans b2;have S9:=hS.same aF;obtain ⟨b8,e9⟩:=S9.ob;refine {b8,_,e9,ir,x,fx,b,k,d,u,ts,n,m,rfl,S9,_,.inl (aF _ _ hl),?_};rw [OB,J];ac_rfl;refine λy dy bp nI=>{y,qf,bf,kf,sp,dy,n+ps.length,mm,_,b6,ns.map (cI tsm),rfl,nI.at_,(fl.same b2).same nI.same,nI.same _ _ n9.at_,Paired.wa b1 λr v e=>nI.same _ _ (n9.same _ _ e),{by rw [ek];exact av.nodup_iff.mpr cK,by rw [OB];lia},λfy b' k' d' cp c5 st=>{rfl,?_}};refine q y fy b' k' d' _ us cp (λc o e=>c5 _ _ (zz (aF _ _ e) nI.no) (nI.same _ _ (aF _ _ e))) up st (λt ht=>?_) (by rw [ek];exact av) (by rw [ek];exact cv);rw [bL];obtain ⟨y,hy,rfl⟩:=Qt.mp ht;obtain ⟨t',a8,rfl⟩:=hm y hy;rw [h8 nS a8];exact a8
structure Ha(A:zj)(H:Hp)(y:Addr)(n:Int)(ps:List Tk)(t:Tab)(ts:List T3)(m:Int):Prop where
 ex:∃fy b k d u us ts',bI A H y fy b k d (sbT n ps u ps.length) ts' (n+ps.length) m/\bY u t/\(names u).Nodup/\us.Perm ts/\(∀t∈ts',t∈sbS ps us ps.length)/\(ts'.map (·.1)).Perm (cY (zD (sbT n ps u ps.length)))/\(ts'.map (·.1)).Pairwise (·<=·)
structure OnD(d:DM)(t:Tab)(ts:List T3)(n m:Int)(ps:List Tk):Prop where
 tx:j8 d
 nd:((nU d).map zP).Nodup
 so:(nU d).Pairwise (λa b=>zP a<=zP b)
 few:(nU d).length<64
 sd:d.sd=some (aG m n t ts)
 to:dM t ts n m
 rf:bQ (nU d) n (nU d).length=ps.map trq
 ok:∀u ts',bY u t->(names u).Nodup->ts'.Perm ts->pK n ps u ts'
def yG(A:zj):Sp:=λvs H Q _=>∃(p wl sl:Addr)(cells:List Addr)(w:Int)(d:DM)(t:Tab)(ts:List T3)(n m:Int)(ps:List Tk),vs=[.ref p]/\DkA A H p wl sl cells w d/\TB A H/\OnD d t ts n m ps/\∀y H',zI H H'->TB A H'->Ha A H' y n ps t ts (m+1)->Q (.ref y) H'
theorem oQ:zw ["disk","marked","taken"] WT (zk nh):=fsc
theorem EY(F:Fun K "risen" "risen" nh f fd)(T:Txt w K mg A)(Zi:GF P w K mg base true 11 Wm WT (oX A))(Y3:GF P w K mg base true 9 Wk WT (nG A))(Z6:GM P w K mg base true 1 A.State Wn YM (jr A))(YS:GF P w K mg base true 1 "rows_from" ["whole","number"] AA)(Z7:GM P w K mg base true 1 A.State Wp YM (iw A))(Zh:GF P w K mg base true 7 V3 WL (ug A)):zp P w K mg base CX0 true 12 f fd WT (yG A):=by
 refine F.o oQ λZ0 Ar outer s H vs Q E G h=>?_;obtain ⟨p,wl,sl,cells,w,d,t,ts,n,m,ps,rfl,D,tb,O,q⟩:=h;refine {_,(W.h (zg (zy (i:=1) oQ.nd rfl (OO rfl) (caD (zB Zi G rfl (clP (zc (zb 0) zd)))))
   (zg (zy (i:=2) oQ.nd rfl (OO rfl) (caD (zB YS G rfl (clP (zc (caD (zB Y3 G rfl (clP (zc (zb 0) zd)))) (zc (m0D (zH (clE (zb 1)) T.qs Z6 G)) zd))))))
   (zh (zx (caD (zB Zh G rfl (clP (zc (zb 1) (zc (zb 2) (zc (m0D (zH (clE (zb 1)) T.qs Z7 G)) zd))))))))))),?_}
 ac_rfl;refine {p,wl,sl,cells,w,d,t,ts,n,m,rfl,D,tb,O.sd,O.to,λx H1 s1 ai U=>?_};ac_rfl;refine {p,wl,sl,cells,w,d,rfl,D.vr s1,O.tx,O.nd,O.few,ai,λl as H2 s2 S ln _ hl tl=>?_};rw [<- wL O.nd (.refl _) O.so] at tl;obtain ⟨Z,b,k,dd,u,J,al⟩:=U.vr s2;obtain ⟨dx,e2⟩:=J.ob;erw [e2,ir];refine {x,Z,b,k,dd,u,ts,n,m+1,rfl,J,l,n,as,nU d,rfl,hl,tl,λt h=>pG h,by have:=O.few;lia,λr bs H3 s3 ar tr=>?_};have z:=J.same s3;obtain ⟨av,e3⟩:=z.ob;rw [O.rf] at tr;erw [e3,g9];refine {x,Z,b,k,dd,u,ts,n,m+1,rfl,z,x,Z,b,k,dd,r,u,ts,n,m+1,m+1,bs,ps,rfl,z,ar,tr,λts' pm=>O.ok u ts' al z.files.nd pm,λy fy b' k' d' ts' us H4 s4 pu ab h1 h2 h3=>?_};exact q y H4 (s1.trans (s2.trans (.of (s3.trans s4)))) ((S.same s3).same s4) ⟨fy,b',k',d',u,us,ts',ab,al,z.files.nd,pu,h1,h2,h3⟩
end
theorem PR.Ok.txt{r:PR}(ok:r.Ok):asc (aj r.row)=true/\(aj r.row).length<=1000/\2<=(aj r.row).length:=by
 obtain ⟨S,G⟩:=rj ok.parts;have b:=gS (tx (aa r.row));have F:=d6 b.1 'l';have nl:=qa b.1 'l';have U:r.row.length=7:=rfl;have O:(aj r.row).length=(aa r.row).length+(toString (cb (tx (aa r.row))):Str).length+1:=by
  unfold aj cM;rw [Qz,Qz,fU,show (";":Str).length=1 by decide]
 have J:=F.one;rw [zV] at J;refine {?_,'l','l'};unfold aj cM;rw [cJ,bX,bX,cj,R3,R3,G];have:(sg (toString (cb (tx (aa r.row))):Str)).all (λc=>decide (c<128))=true:=Py.mpr λc z=>decide_eq_true (by have:=F.dig c z;lia);rw [this];decide +kernel
def txs(rs:List PR):List Str:=rs.map λr=>aj r.row
def pl(rs:List PR)(k:Nat):Nat->List Tk
 | 0=>[]
 | j+1=>pl rs k j++match rs[j]? with|some r=>[(r,k,j)]|none=>[]
theorem kU{k:Nat}:∀{j:Nat},j<=rs.length->(pl rs k j).length=j
 | 0,_=>rfl
 | j+1,h=>by
  unfold pl;rw [Pa,kU 'l',KE 'l'];rfl
theorem ia{k i:Nat}:∀{j:Nat},j<=rs.length->i<j->∃r,rs[i]?=some r/\(pl rs k j)[i]?=some (r,k,i)
 | 0,_,h=>absurd h (Uj _)
 | j+1,J,hi=>by
  have hl:=kU (rs:=rs) (k:=k) (j:=j) 'l';have z:rs[j]?=some rs[j]:=KE 'l';unfold pl;rw [z];by_cases h:i<j
  .obtain ⟨r,F,G⟩:=ia (rs:=rs) (k:=k) 'l' h;exact {r,F,by rw [PF 'l'];exact G}
  .have:i=j:=by lia
   subst this;exact {_,z,by rw [PP 'l',hl,SO];rfl}
theorem qh{rest:List Str}(ok:∀r∈rs,r.Ok){k:Nat}:∀{j:Nat},j<=rs.length->rIn (txs rs++rest) k j=(pl rs k j).map trq
 | 0,_=>rfl
 | j+1,h=>by
  have z:rs[j]?=some rs[j]:=KE 'l';have hl:(txs rs).length=rs.length:=OB _;have F:(txs rs++rest).getD j ""=aj rs[j].row:=by
   rw [OY,PF 'l'];unfold txs;rw [OV,z];rfl
  show rIn _ k j++one (br _) k j=(pl rs k j++_).map trq;rw [qh ok 'l',F,(ok _ (Qb _)).read,z,Ph];rfl
def Cnt(us:List Tri):Prop:=∀(i:Nat) t,us[i]?=some t->zP t=i
theorem Cnt.so(h:Cnt us):us.Pairwise λa b=>zP a<=zP b:=QN.mpr λi j hi z F=>by
 rw [h i _ (KE hi),h j _ (KE z)];lia
theorem Cnt.nd(h:Cnt us):(us.map zP).Nodup:=RR.mpr (QN.mpr λi j hi z F=>by
 rw [h i _ (KE hi),h j _ (KE z)];lia)
theorem Cnt.rows(h:Cnt us){n:Nat}:∀{i:Nat},i<=us.length->bQ us n i=(us.take i).drop n
 | 0,_=>by simp [bQ]
 | i+1,hi=>by
  have z:us[i]?=some us[i]:=KE 'l';have F:=h.rows (n:=n) (i:=i) 'l';have hl:(bQ us n i).length=i-n:=by rw [F,R8,O8,Uk 'l']
  show bQ us n i++(match us[i]? with|some t=>if zP t=n+(bQ us n i).length then [t] else []|none=>[])=_;rw [z];show bQ us n i++(if zP us[i]=n+(bQ us n i).length then [us[i]] else [])=_;rw [h i _ z,hl,F,O6,z];by_cases c:n<=i
  .rw [if_pos 'l',List.drop_append_of_le_length (by rw [O8];lia)];rfl
  .rw [if_neg 'l',Qr (by rw [O8];lia),Qr (by simp;lia)];rfl
theorem nZ:∀{xs ys:List PR},(∀r∈xs,r.g=g/\r.e=false)->gwL g (xs++ys)=gwL g ys
 | [],ys,_=>rfl
 | r::xs,ys,h=>by
  obtain ⟨h1,h2⟩:=h r (OT ..);show (if r.g=g then (if r.e=true then true else gwL g (xs++ys)) else false)=_;rw [if_pos h1,h2,if_neg OW];exact nZ λr z=>h r (OI _ z)
theorem J8{t:Tab}(h:y∈zD (ak t z ((lk t z).take i++[x]++(lk t z).drop (i+1)))):y∈zD t\/y=x:=by
 obtain ⟨p,G,F⟩:=iC.mp h;have inl:y∈lk t z->y∈zD t:=λhl=>by
  unfold lk at hl;cases e:look t z with
  | none=>rw [e] at hl;cases hl
  | some l=>rw [e] at hl;exact iC.mpr {_,rW e,hl}
 have J:p∈t\/p=(z,(lk t z).take i++[x]++(lk t z).drop (i+1)):=by
  unfold ak at G;split at G
  .obtain ⟨q,O,e⟩:=Qt.mp G;by_cases c:q.1=z
   .rw [if_pos c] at e;right;rw [<- e,c]
   .rw [if_neg c] at e;left;rw [<- e];exact O
  .rcases Pk.mp G with h|h
   .exact .inl h
   .exact .inr (by simpa using h)
 rcases J with G|rfl
 .exact .inl (iC.mpr ⟨p,G,F⟩)
 .rcases Pk.mp F with F|F
  .rcases Pk.mp F with F|F
   .exact .inl (inl (Rf F))
   .exact .inr (by simpa using F)
  .exact .inl (inl (RQ F))
theorem lX:∀{i:Nat},y∈zD (sbT n ps u i)->y∈zD u\/∃q∈ps,q.1.n=y
 | 0,h=>.inl h
 | i+1,h=>by
  unfold sbT at h;split at h
  .rename_i q z;split at h
   .rcases J8 h with h|h
    .exact lX h
    .exact .inr {q,OX z,h.symm}
   .exact lX h
  .exact lX h
theorem FY{α:Type}{l:List (Int×α)}{a:α}:y∈(bN l n a).map (·.1)↔y∈l.map (·.1)\/y=n:=by
 unfold bN;split
 .rename_i h;rw [Pg,show ((λx=>x.1)∘λp:Int×α=>if p.1=n then (p.1,a) else p)=λp=>p.1 from funext λp=>by show (if p.1=n then (p.1,a) else p).1=_;split<;>rfl];exact {.inl,λz=>z.elim id λz=>z ▸ h}
 .simp
theorem jD:∀{i:Nat},i<=ps.length->((y∈ts.map (λt=>t.1)\/∃q∈ps.take i,q.1.n=y)->y∈(sbS ps ts i).map (λt=>t.1))
 | 0,_,h=>h.elim id λ⟨q,z,_⟩=>(by cases z)
 | i+1,hi,h=>by
  have z:ps[i]?=some ps[i]:=KE 'l';show y∈(match ps[i]? with|some q=>bN (sbS ps ts i) q.1.n ((q.2.1:Int),(q.2.2:Int))|none=>sbS ps ts i:List T3).map (λt=>t.1);rw [z];rw [O6,z] at h;refine FY.mpr ?_;rcases h with h|⟨q,z,e⟩
  .exact .inl (jD 'l' (.inl h))
  .rcases Pk.mp z with z|z
   .exact .inl (jD 'l' (.inr ⟨q,z,e⟩))
   .exact .inr (by rw [<- e,ON.mp z])
theorem mB{t:T3}:∀{i:Nat},t∈sbS ps ts i->t∈ts\/∃q∈ps,t=(q.1.n,(q.2.1:Int),(q.2.2:Int))
 | 0,h=>.inl h
 | i+1,h=>by
  unfold sbS at h;split at h
  .rename_i q z;unfold bN at h;split at h
   .obtain ⟨p,F,e⟩:=Qt.mp h;by_cases c:p.1=q.1.n
    .rw [if_pos c] at e;exact .inr {q,OX z,by rw [<- e,c]}
    .rw [if_neg c] at e;rw [<- e];exact mB F
   .rcases Pk.mp h with h|h
    .exact mB h
    .exact .inr {q,OX z,ON.mp h}
  .exact mB h
abbrev qG:Stmt:=top 77
def MdR(H:Hp)(F:List Addr)(v:V)(l:List Int):Prop:=∃p,v = .ref p/\p∉F/\H p=some (.lst (l.map V.int))
structure cV(H:Hp)(F:List Addr)(d:Addr)(t:Tab):Prop where
 ex:∃kvs,H d=some (.dK (sk kvs))/\Dct (MdR H F) kvs t
 dn:d∉F
theorem cV.kp{d:Addr}{t:Tab}(h:cV H F d t)(k:ao F H H'):cV H' F d t:=by
 obtain ⟨kvs,e,r⟩:=h.ex;exact {{kvs,k _ _ e h.dn,r.imp λv l ⟨p,G,n,z⟩=>{p,G,n,k _ _ z n}},h.dn}
theorem cV.vr{d:Addr}{t:Tab}(h:cV H F d t)(s:zI H H'):cV H' F d t:=by
 obtain ⟨kvs,e,r⟩:=h.ex;exact {{kvs,s _ _ (λps z=>HO.noConfusion z) e,r.imp λv l ⟨p,J,n,G⟩=>{p,J,n,s.list G}},h.dn}
theorem cV.same{d:Addr}{t:Tab}(h:cV H F d t)(s:zi H H'):cV H' F d t:=h.vr (.of s)
theorem Pot.nd{a p wl sl:Addr}{d:DM}(h:Pot H a)(D:DkA A H p wl sl cells m d)(O:d.rows.length=3):a∉p::wl::sl::cells:=by
 obtain ⟨x,y,e,_⟩:=h.ex;obtain ⟨dx,c,J⟩:=D.ob;intro z;rcases OH.mp z with z|z
 .rw [z,J] at e;cases e
 .rcases OH.mp z with z|z
  .rw [z,D.w] at e;injection e with e
   injection e with e
   have:=congrArg T8 e;rw [OB,D.len,O] at this;cases this
  .rcases OH.mp z with z|z
   .rw [z,D.sd] at e;injection e with e;injection e with e;injection e with _ e;injection e with e;cases e
   .obtain ⟨i,hi,G⟩:=PM z;rw [D.at_ i a (by rw [KE hi,G])] at e;injection e with e
    injection e with e
    cases F:d.rows.getD i [] with
    | nil=>rw [F] at e;cases e
    | cons z zs=>rw [F] at e;cases e
theorem FK.lst{A:zj}{F:List Addr}{H H':Hp}(s:ao F H H')(h:∀x∈F,∀o,H x=some o->(∃xs,o = .lst xs)\/∃dx m wl sl c,o = .ins A.qx dx (zW m wl sl c)):FK A H H':=λa o hs e=>s a o e λz=>by
 rcases h a z o e with ⟨xs,rfl⟩|⟨dx,m,wl,sl,c,rfl⟩
 .rcases hs with ⟨_,_,_,h⟩|⟨_,_,_,_,_,h⟩|⟨_,h⟩|⟨_,h⟩<;>cases h
 .rcases hs with ⟨_,_,_,h⟩|⟨_,_,_,_,_,h⟩|⟨_,h⟩|⟨_,h⟩
  .injection h with _ _ h;exact absurd (congrArg T8 h) (show ¬ 6=2 by decide)
  .injection h with _ _ h;exact absurd (congrArg T8 h) (show ¬ 6=4 by decide)
  .cases h
  .cases h
theorem DkA.lst{A:zj}{H:Hp}{p wl sl:Addr}{cells:List Addr}{m:Int}{d:DM}(D:DkA A H p wl sl cells m d):∀x∈p::wl::sl::cells,∀o,H x=some o->(∃xs,o = .lst xs)\/∃dx m wl sl c,o = .ins A.qx dx (zW m wl sl c):=λx hx o e=>by
 obtain ⟨dx,c,F⟩:=D.ob;rcases OH.mp hx with rfl|hx
 .rw [F] at e;cases e;exact .inr {_,_,_,_,_,rfl}
 rcases OH.mp hx with rfl|hx
 .rw [D.w] at e;cases e;exact .inl {_,rfl}
 rcases OH.mp hx with rfl|hx
 .rw [D.sd] at e;cases e;exact .inl {_,rfl}
 obtain ⟨i,hi,z⟩:=PM hx;rw [D.at_ i x (by rw [KE hi,z])] at e;cases e;exact .inl {_,rfl}
theorem DkA.live{p wl sl:Addr}{d:DM}(D:DkA A H p wl sl cells m d):∀x∈p::wl::sl::cells,∃o,H x=some o:=λx hx=>by
 obtain ⟨dx,c,F⟩:=D.ob;rcases OH.mp hx with rfl|hx
 .exact {_,F}
 rcases OH.mp hx with rfl|hx
 .exact {_,D.w}
 rcases OH.mp hx with rfl|hx
 .exact {_,D.sd}
 obtain ⟨i,hi,z⟩:=PM hx;exact {_,D.at_ i x (by rw [KE hi,z])}
theorem Pot.lst{A:zj}{H:Hp}{a:Addr}(h:Pot H a):∀x∈[a],∀o,H x=some o->(∃xs,o = .lst xs)\/∃dx m wl sl c,o = .ins A.qx dx (zW m wl sl c):=λx hx o e=>by
 obtain ⟨_,_,z,_⟩:=h.ex;rw [ON.mp hx,z] at e;cases e;exact .inl {_,rfl}
theorem Pot.keeps(b:But a H H'):ao [a] H H':=λc o e n=>b c o (λz=>n (by rw [z];simp)) e
theorem Pot.kp(h:Pot H a)(k:ao F H H')(n:a∉F):Pot H' a:=let ⟨x,y,e,r⟩:=h.ex;{{x,y,k _ _ e n,r}}
theorem ao.mono(a:ao F H H')(s:∀x∈F,x∈G):ao G H H':=λc o h J=>a c o h λz=>J (s c z)
theorem ao.same(a:zi H H'):ao F H H':=λc o h _=>a c o h
def rng(n:Nat):List Int:=(Qg n).map λ(k:Nat)=>(k:Int)
theorem B3(n:Nat):rng (n+1)=rng n++[(n:Int)]:=by unfold rng;rw [List.range_succ,Ph];rfl
theorem dQ(n:Nat):(rng n).length=n:=by simp [rng]
def zr(n:Nat):Tab:=if n=0 then [] else [("b",rng n)]
theorem iU(n:Nat):lk (zr n) "b"=rng n:=by
 unfold zr lk;split
 .rename_i h;rw [h];rfl
 .rw [show look [(("b":Str),rng n)] "b"=some (rng n) from bM.trans (if_pos rfl)];rfl
theorem Oj(n:Nat):ak (zr n) "b" ((lk (zr n) "b").take (n:Int).toNat++[(n:Int)]++(lk (zr n) "b").drop ((n:Int).toNat+1))=zr (n+1):=by
 rw [iU,Qj,OQ (by rw [dQ];exact Ox _),Qr (by rw [dQ];lia),Qe,<- B3];unfold zr;rw [if_neg (Nat.succ_ne_zero n)];by_cases h:n=0
 .rw [if_pos h];rfl
 .rw [if_neg h];simp [ak,bM]
def bT(n:Nat):List T3:=(Qg n).map λ(k:Nat)=>((k:Int),(0:Int),(k:Int))
theorem Cj(n:Nat):bT (n+1)=bT n++[((n:Int),(0:Int),(n:Int))]:=by unfold bT;rw [List.range_succ,Ph];rfl
theorem ib(n:Nat):(rng n).Nodup:=RR.mpr (List.nodup_range.imp λh z=>h 'l')
theorem fh:y∈rng n↔0<=y/\y<n:=by
 unfold rng;rw [Qt];constructor
 .rintro ⟨k,z,rfl⟩;have:=R6.mp z;lia
 .exact λ⟨h1,h2⟩=>{y.toNat,R6.mpr 'l','l'}
theorem lW(n:Nat):(bT n).map (·.1)=rng n:=by unfold bT rng;rw [Pg];rfl
theorem jx(n:Nat):∀y,y∈zD (zr n)↔y∈rng n:=λy=>by
 unfold zr zD;split
 .rename_i h;rw [h];rfl
 .simp
theorem yc(h:n<=4):cB (zr n):=by
 unfold zr;split
 .exact {by simp [names],'z',by simp [names],'z'}
 .refine {by simp [names],'z',λz hz=>?_,λp F=>?_}
  .rw [show z="b" by simpa [names] using hz];decide +kernel
  .rw [ON.mp F];exact {by rw [dQ];lia,by rw [dQ];lia,λx hx=>by have:=fh.mp hx;lia}
theorem o9{t:T3}(h:t∈bT n):∃k:Nat,k<n/\t=((k:Int),(0:Int),(k:Int)):=by
 obtain ⟨k,z,rfl⟩:=Qt.mp h;exact {k,R6.mp z,rfl}
theorem GA(h:n<=4):gO (bT n) 4 n:=by
 refine {λt z=>?_,λt z=>?_,by simp [bT];lia,'d','l'}
 .obtain ⟨k,F,rfl⟩:=o9 z;exact {'z',by simp;lia}
 .obtain ⟨k,F,rfl⟩:=o9 z;refine {{'z','z'},'z',by simp;lia}
def BgP(rs:List PR):Prop:=∀(k:Nat) r,rs[k]?=some r->∃w,r={k,k,true,"b",k,w}/\dh w=true
section
variable {P:OL}{w:O1}{K:Frag}{mg:Str->Option Value}{base:Heap}{A:zj}
structure BgI(A:zj)(H:Hp)(a p wl sl:Addr)(cells:List Addr)(m:Int)(n x b k l:Addr)(many:Nat)(i:Nat)(σ:L2.St)(H':Hp):Prop where
 ex:∃t,σ=[some (V.ref a),some (.ref p),some (.int many),some (.ref x),some (.ref l),t]
 kp:ao (a::p::wl::sl::cells) H H'
 pot:Pot H' a
 dk:∃rs,rs.length=i/\BgP rs/\DkA A H' p wl sl cells m {[txs rs,[],[]],none}
 fl:zU A H' x b k (zr i)
 sp:∃as,H' l=some (.lst (as.map V.ref))/\Paired (eM H') as (bT i)
 nl:H l=none/\H b=none/\l∉a::p::wl::sl::cells
structure Bg(A:zj)(H:Hp)(a p wl sl:Addr)(cells:List Addr)(m:Int)(d:Addr)(n:Nat)(rs:List PR)(us:List T3):Prop where
 n1:1<=n/\n<=4
 len:rs.length=n
 rows:BgP rs
 dk:DkA A H p wl sl cells m {[txs rs,[],[]],some (aG 4 n (zr n) us)}
 to:dM (zr n) us n 4
 up:us.Perm (bT n)
 pot:Pot H a
 md:cV H (a::p::wl::sl::cells) d (zr n)
def xJ(A:zj):Sp:=λvs H Q _=>∃(a p wl sl:Addr)(cells:List Addr)(m:Int),vs=[.ref a,.ref p]/\Pot H a/\DkA A H p wl sl cells m {[[],[],[]],none}/\14<=m/\m<=32 /\
 ∀d n rs us H',ao (a::p::wl::sl::cells) H H'->H d=none->Bg A H' a p wl sl cells m d n rs us->Q (.ref d) H'
theorem iB:zw ["_law_pot_here","_law_disk","_law_many","_law_files","_law_spots","_law_k"] WI (zk qG):=fsc
theorem Fk(F:Fun K "_law_begun" "_law_begun" qG f fd)(T:Txt w K mg A)(Z5:GF P w K mg base true 1 Wh Yl gH)(Zp:GC P w K mg base true 1 "Files" A.qv YM (jF A))(ZP:GM P w K mg base true 4 A.qv Wi XA (ke A))(ZO:GF P w K mg base true 2 V9 XI mH)(ZG:GF P w K mg base true 3 "row_text" ["row"] pF)(ZN:GM P w K mg base true 3 A.qx "write" WM (pV A))(Zo:GC P w K mg base true 5 "State" A.State Yq (kT A))(YR:GF P w K mg base true 7 "mark_text" ["state"] (AB A))(Zr:GM P w K mg base true 3 A.qx "put_side" WD (vQ A)):zp P w K mg base CX0 true 8 f fd WI (xJ A):=by
 refine F.o iB λZ0 Ar outer s H vs Q E G h=>?_;obtain ⟨a,p,wl,sl,cells,m,rfl,hP,D,m1,m2,q⟩:=h;have hu:_<cLine:=Px (zT G);refine {_,(W.h (zg (zy (i:=2) iB.nd rfl (OO rfl) (zJ aX zq (caD (zB Z5 G rfl (clP (zc (zb 0) (zc zq zd)))))))
   (zg (zy (i:=3) iB.nd rfl (OO rfl) (oZ Zp G rfl))
   (zg (zy (i:=4) iB.nd rfl (OO rfl) (bw zd))
   (zg (bG Qp.never (λ_=>rfl) (cT rfl T.ro (zc (zb 2) zd)) (zC (i:=5) iB.nd rfl (OO rfl))
   (zg (aL (mD (bc (clE (zb 3)) T.pw ZP G (clP (zc zF (zc (zb 5) (zc (zb 5) zd)))))))
   (zh (aL (eZ (zb 4) (bS (zc (zb 5) (zc zq (zc (mD (bc (clE (zb 1)) T.pL ZN G (clP (zc zq (zc (caD (zB ZG G rfl (clP (zc (bS (zc zF (zc (zb 5) (zc (zb 5) (zc eG (zc zF (zc (zb 5) (zc (caD (zB ZO G rfl (clP (zc (zb 0) zd)))) zd)))))))) zd)))) zd))))) zd)))))))))
   (zg (aL (mD (bc (clE (zb 1)) T.pL Zr G (clP (zc zq (zc (caD (zB YR G rfl (clP (zc (jz Zo G rfl (zc (zb 3) (zc (zb 4) (zc (zb 2) (zc zq zd))))) zd)))) zd))))))
   (zh (zx (Bs zF (bF (KD rfl) rfl T.aN boot_list (zc (bF LV rfl T.ro boot_range (zc (zb 2) zd)) zd))))))))))),?_}
 ac_rfl;refine tkI hP 'd' 'd' λr H1 b1 a6 r0 r1=>?_;obtain ⟨many,em⟩:∃many:Nat,1+r=many:={(1+r).toNat,'l'};have nd:=hP.nd D rfl;have D1:=D.keep (Pot.keeps b1) λx hx z=>nd (by rw [<- ON.mp z];exact hx);ac_rfl;refine λx dx H2 nI=>{x,dx,rfl,nI.at_,λb k H3 s3 nb nk ex F3=>{rfl,?_}};have px:∀c o,H1 c=some o->c≠x:=λc o e z=>by have:=nI.no;rw [<- z,e] at this;cases this
 have a4:zi H1 H3:=λc o e=>s3 c o (px c o e) (nI.same c o e);refine {'d',λl H4 n4 _=>?_};rw [em];ac_rfl;rw [Qj];have a3:zi H1 H4:=a4.trans n4.same;have bL:ao (a::p::wl::sl::cells) H H4:=((Pot.keeps b1).mono 'z').trans (.same a3);have fr:∀c,H1 c=none->H c=none:=λc e=>by
  cases h:H c with
  | none=>rfl
  | some o =>
   by_cases z:c=a
   .subst z;obtain ⟨_,_,Z,_⟩:=a6.ex;rw [Z] at e;cases e
   .rw [b1 c o z h] at e;cases e
 refine {'l','l',aC.rng (BgI A H a p wl sl cells m 0 x b k l many) {{_,rfl},bL,a6.same a3,{[],rfl,λ_ _ h=>(by cases h),D1.same a3},F3.same n4.same,{[],n4.at_,.nil},fr _ (a4.free n4.no),fr _ (nI.same.free nb),λz=>?_} ?_ ?_}
 .have live:∀y∈a::p::wl::sl::cells,∃o,H y=some o:=λy J=>by
   rcases OH.mp J with rfl|J
   .obtain ⟨_,_,e,_⟩:=hP.ex;exact {_,e}
   exact D.live y J
  obtain ⟨o,e⟩:=live l z;rw [fr _ (a4.free n4.no)] at e;cases e
 .rintro i σ H' hi ⟨⟨t,rfl⟩,kp,pot,⟨rs,rl,bg,dk⟩,fl,⟨as,hl,tl⟩,nl,a0,ln⟩;obtain ⟨b3,ef⟩:=fl.ob;have ej:(0+(i:Int))=((i:Nat):Int):=by lia
  erw [ej,ef,rh];refine {x,b,k,zr i,"b",i,i,rfl,fl,'l',by rw [iU,dQ];exact Int.le_refl _,by rw [iU,dQ];lia,by unfold zr;split<;>simp,λH5 b5 F5=>?_};rw [Oj] at F5;obtain ⟨b4,eb,_⟩:=fl.ex;have ar:=pot.kp (F:=[b]) (Pot.keeps b5) λz=>(by obtain ⟨_,_,Z,_⟩:=pot.ex;rw [ON.mp z,eb] at Z;cases Z);have D5:=dk.keep (F:=[b]) (Pot.keeps b5) λy J z=>by
   rcases dk.lst y J _ (by rw [ON.mp z];exact eb) with ⟨_,h⟩|⟨_,_,_,_,_,h⟩<;>cases h
  have a5:H5 l=some (.lst (as.map V.ref)):=b5 _ _ (λz=>by rw [z,eb] at hl;cases hl) hl;have bh:Paired (eM H5) as (bT i):=Paired.wa tl λr v e=>b5 _ _ (λz=>by have e:H' r=_:=e;rw [z,eb] at e;cases e) e;obtain ⟨bx,c5,e5⟩:=D5.ob;have a7:=ar.nd D5 rfl;refine {{_,a5},bx,_,e5,jB,a,rfl,ar,λz H6 b6 ba hz=>{'d',λrp H7 n7=>?_}};have rk:PR.Ok {i,i,true,"b",i,z}:={{'l','l'},{'l','l'},{'l','l'},(show bB "b"=true by decide +kernel),hz};refine {rp,PR.row {i,i,true,"b",i,z},rfl,.inr n7.at_,(show 7<=10 by decide),rk.parts,λH8 s8=>?_};have D6:=D5.keep (Pot.keeps b6) λy J z=>a7 (by rw [<- ON.mp z];exact J);have ai:=n7.same.trans s8;have D8:=D6.same ai;obtain ⟨_,b8,b7⟩:=rk.txt;have lt:(txs rs).length=i:=by unfold txs;rw [OB,rl]
  refine {p,wl,sl,cells,m,_,0,_,rfl,D8,(show 0<3 by decide),by show ((txs rs).length:Int)<m;lia,m2,'l','l',λH9 D9 k9=>{'d',λtp O S=>?_}};have bP:H9 l=some (.lst (as.map V.ref)):=k9 _ _ (ai _ _ (b6 _ _ (λz=>ln (by rw [z];simp)) a5)) λz=>ln (OI _ z);have aH:=S.same _ _ bP;have a8:FK A H5 H9:=((FK.lst (Pot.keeps b6) ar.lst).trans (.of ai)).trans (.lst k9 D8.lst);have la:=aO bh;have lb:(bT i).length=i:=by simp [bT]
  have up:FK A O (upd O l (.lst (as.map V.ref++[.ref tp]))):=λc o hs e=>by
   rw [ze (λz=>by rw [z,aH] at e;cases e;rcases hs with ⟨_,_,_,h⟩|⟨_,_,_,_,_,h⟩|⟨_,h⟩|⟨_,h⟩<;>cases h)];exact e
  have kl:ao [l] O (upd O l (.lst (as.map V.ref++[.ref tp]))):=λc o e n=>by rw [ze (λz=>n (by rw [z];simp))];exact e
  have bf:∀y∈a::p::wl::sl::cells,y∉[l]:=λy J z=>ln (by rw [<- ON.mp z];exact J);refine {_,aH,by rw [OB];exact aB 'l',{{_,rfl},?_,?_,{rs++[{i,i,true,"b",i,z}],by simp [rl],?_,?_},?_,{as++[tp],by rw [zu,Ph];rfl,?_},nl,a0,ln}}
  .intro c o e n;rw [ze (zz e nl)];have e5:=b5 _ _ (zz e a0) (kp _ _ e n);exact S.same _ _ (k9 _ _ (ai _ _ (b6 _ _ (λz=>n (by rw [z];simp)) e5)) λz=>n (OI _ z))
  .exact (((ba.same ai).kp k9 a7).same S.same).kp kl (bf _ (OT ..))
  .intro c r G;by_cases h:c<rs.length
   .rw [PF h] at G;exact bg c r G
   .rw [PP 'l'] at G;have h0:c-rs.length=0:=by
     have:=(OE.mp G).1;rw [Qm] at this;lia
    rw [h0] at G;cases G;exact {z,by rw [show c=i by lia],hz}
  .have:(DM.mk [txs rs,[],[]] none).add 0 (aj (PR.row {i,i,true,"b",i,z}))={[txs (rs++[{i,i,true,"b",i,z}]),[],[]],none}:=by
    unfold DM.add txs;simp
   rw [this] at D9;exact (D9.same S.same).keep kl λy J=>bf y (OI _ J)
  .exact ((F5.mv a8).same S.same).mv up
  .rw [Cj];refine di (Paired.wa bh λr v e=>up.t (S.same _ _ (a8.t e))) (.cons (up.t ?_) .nil);rw [S.at_];show some (HO.tup [V.int i,V.int 0,V.int ((txs rs).length:Nat)])=_;rw [lt]
 .rintro σ H' ⟨⟨t,rfl⟩,kp,pot,⟨rs,rl,bg,dk⟩,fl,⟨as,hl,tl⟩,nl,a0,ln⟩;ac_rfl;obtain ⟨b2,cd,ed⟩:=dk.ob;refine {b2,_,ed,MM,λy dy H5 U=>?_};have m4:many<=4/\1<=many:=by lia
  have lb:(bT many).length=many:=by simp [bT]
  refine {y,x,b,k,l,dy,many,4,zr many,as,bT many,rfl,U.at_,fl.same U.same,U.same _ _ hl,Paired.wa tl λr v e=>U.same _ _ e,{by rw [lW];exact ib _,'l'},λfx b' k' d' H6 b6 st=>{rfl,?_}};have gm:cB (zr many):=yc m4.1;have gs:gO (bT many) 4 many:=GA m4.1;refine {y,fx,b',k',d',zr many,bT many,many,4,rfl,st,gm,gs,λus H7 s7 up so=>?_};have to:dM (zr many) us many 4:={gm,{λt ht=>gs.b t (up.mem_iff.mp ht),λt ht=>gs.r t (up.mem_iff.mp ht),by rw [up.length_eq];exact gs.few,gs.m,gs.n},by
   have:=up.map (·.1);rw [lW] at this;exact this.trans ((RP (ib _) cK).mpr λz=>by rw [fK,jx]),so}
  obtain ⟨_,bt,b0,_⟩:=to.text;have yF:∀{c:Addr}{o:HO},H' c=some o->c∉[y]:=λ{c o} e z=>zz e U.no (ON.mp z);have aT:ao [y] H' H7:=λc o e n=>s7 _ _ (b6 _ _ (λz=>n (by rw [z];simp)) (U.same _ _ e));have D7:=dk.keep aT λc hc=>(dk.live c hc).elim λo e=>yF e;have aF:Pot H7 a:=pot.kp aT (by obtain ⟨_,_,e,_⟩:=pot.ex;exact yF e);have bp:=aF.nd D7 rfl;refine {p,wl,sl,cells,m,_,_,rfl,D7,b0,bt,λH8 D8 k8 dp ab q1 H9 n9=>{many,n9.at_,'l',λq2 O S=>{S.same _ _ (n9.same _ _ zu),?_}}};have b9:O dp=some (.dK []):=S.same _ _ (n9.same _ _ zu);have kF:∀{o:HO},zi H8 (upd O dp o):=λ{o} c u e=>by
   have:=zz e ab;rw [ze this];exact S.same _ _ (n9.same _ _ (by rw [ze this];exact e))
  have av:=aF.kp k8 bp;have aI:ao (a::p::wl::sl::cells) H H8:=λc o e n=>k8 _ _ (aT _ _ (kp _ _ e n) (yF (kp _ _ e n))) λz=>n (OI _ z);have WQ:∀y∈a::p::wl::sl::cells,∃o,H8 y=some o:=λy J=>by
   rcases OH.mp J with rfl|J
   .obtain ⟨_,_,Z,_⟩:=av.ex;exact {_,Z}
   .exact D8.live _ J
  refine q dp many rs us _ (aI.trans (.same kF)) ?_ {⟨m4.2,m4.1⟩,rl,bg,D8.same kF,to,up,av.same kF,{{[("b",.ref q2)],zu,?_},λz=>?_}}
  .cases e:H dp with
   | none=>rfl
   | some o =>
    have:dp∈a::p::wl::sl::cells:=Qd λz=>by rw [aI _ _ e z] at ab;cases ab
    obtain ⟨o,Z⟩:=WQ _ this;rw [ab] at Z;cases Z
  .have a9:q2≠dp:=λz=>by have:=S.no;rw [z,n9.same _ _ zu] at this;cases this
   unfold zr;rw [if_neg 'l'];refine show Paired _ [(("b":Str),V.ref q2)] [(("b":Str),rng many)] from .cons {rfl,q2,rfl,λz=>?_,?_} .nil
   .obtain ⟨o,e⟩:=WQ _ z;have:=S.no;rw [n9.same _ _ (by rw [ze a9];exact e)] at this;cases this
   rw [ze a9,S.at_];simp [rng]
  .obtain ⟨o,Z⟩:=WQ _ z;rw [ab] at Z;cases Z
abbrev sR:Stmt:=top 78
def dz(B:List Int)(r:PR):List Int:=B.take r.p.toNat++[r.n]++B.drop (r.p.toNat+1)
def grB(B:List Int)(gs:List PR):List Int:=gs.foldl dz B
theorem vV:(dz B r).length<=B.length+1:=by
 unfold dz;simp only [Pa,O8,R8,Qm];lia
theorem vJ:∀{gs:List PR},(grB B gs).length<=B.length+gs.length:=λ{gs}=>by
 induction gs generalizing B with
 | nil=>exact Ox _
 | cons r gs z =>
  have h1:=z (B:=dz B r);have h2:=vV (B:=B) (r:=r);show (grB (dz B r) gs).length<=_;rw [PQ];lia
theorem qX:grB B (gs++[r])=dz (grB B gs) r:=RS ..
theorem lH(n:Nat)(nm:Str):(lk (zr n) nm).length<=n:=by
 unfold lk zr;split
 .exact Qs _
 .rw [bM];split
  .show (rng n).length<=n;rw [dQ];exact Ox _
  .exact Qs _
def NM:List Str:=Ww
def GrP(n many:Nat)(nm:Str)(gs:List PR):Prop:=∀(i:Nat) r,gs[i]?=some r->∃(p:Nat)(w:Str),r={n+i,n,decide ((i:Int)=many-1),nm,p,w}/\p<=(grB (lk (zr n) nm) (gs.take i)).length/\dh w=true
def i3(H:Hp)(x:Addr)(r:PR):Prop:=H x=some (.tup r.row)
structure GrI(H:Hp)(a d l:Addr)(n many:Nat)(nm:Str)(i:Nat)(σ:L2.St)(H':Hp):Prop where
 ex:∃bl t1 t2,σ=[some (V.ref a),some (.ref d),some (.str nm),some (.ref bl),some (.int n),some (.ref l),some (.int many),t1,t2]/\H bl=none/\bl≠l /\
  ∃gs:List PR,gs.length=i/\GrP n many nm gs/\H' bl=some (.lst ((grB (lk (zr n) nm) gs).map V.int))/\∃as,H' l=some (.lst (as.map V.ref))/\Paired (i3 H') as gs
 but:But a H H'
 pot:Pot H' a
 nl:H l=none
def vg:Sp:=λvs H Q _=>∃(a d:Addr)(F:List Addr)(n:Nat),vs=[.ref a,.ref d]/\Pot H a/\a∈F/\cV H F d (zr n)/\1<=n/\n<=4 /\
 ∀tp nm bl rl as (gs:List PR) H',But a H H'->Pot H' a->H' tp=some (.tup [.str nm,.ref bl,.ref rl])->H' bl=some (.lst ((grB (lk (zr n) nm) gs).map V.int))->H' rl=some (.lst (as.map V.ref))->Paired (i3 H') as gs->nm∈NM->1<=gs.length->gs.length<=8->GrP n gs.length nm gs->H bl=none->H rl=none->Q (.ref tp) H'
theorem fb:zw ["_law_pot_here","_law_model","_law_name_here","_law_births_here","_law_first","_law_rows","_law_many","_law_k","_law_place"] WK (zk sR):=fsc
theorem CK(F:Fun K "_law_group" "_law_group" sR f fd)(T:Txt w K mg A)(YQ:GF P w K mg base true 2 "_law_name" XI vW)(Z5:GF P w K mg base true 1 Wh Yl gH)(ZO:GF P w K mg base true 2 V9 XI mH):zp P w K mg base CX0 true 3 f fd WK vg:=by
 refine F.o fb λZ0 Ar outer s H vs Q E G h=>?_;obtain ⟨a,d,Fs,n,rfl,hP,aF,hM,n1,n4,q⟩:=h;have hu:_<cLine:=Px (zT G);refine {_,(W.h (zg (zy (i:=2) fb.nd rfl (OO rfl) (caD (zB YQ G rfl (clP (zc (zb 0) zd)))))
   (zg (zy (i:=3) fb.nd rfl (OO rfl) (bF K6 rfl T.aN boot_list (zc (rL (zT G) (zb 1) (zb 2) (bw zd)) zd)))
   (zg (zy (i:=4) fb.nd rfl (OO rfl) (zQ cu rfl T.tj Pi (zc (zL (fZ (zT G)) (zb 1) zF (λ_ _=>rfl)) zd)))
   (zg (zy (i:=5) fb.nd rfl (OO rfl) (bw zd))
   (zg (zy (i:=6) fb.nd rfl (OO rfl) (zJ aX zq (caD (zB Z5 G rfl (clP (zc (zb 0) (zc zq zd)))))))
   (zg (bG Qp.never (λ_=>rfl) (cT rfl T.ro (zc (zb 6) zd)) (zC (i:=7) fb.nd rfl (OO rfl))
   (zg (zy (i:=8) fb.nd rfl (OO rfl) (caD (zB Z5 G rfl (clP (zc (zb 0) (zc (zJ aX (zQ cu rfl T.tj Pi (zc (zb 3) zd)) zq) zd))))))
   (zg (zy (i:=3) fb.nd rfl (OO rfl) (zJ aX (zJ aX (dA dU (zb 3) dF (dG (zb 8))) (bw (zc (zJ aX (zb 4) (zb 7)) zd))) (dA dU (zb 3) (dG (zJ aX (zb 8) zq)) dF)))
   (zh (aL (eZ (zb 5) (bS (zc zF (zc (zJ aX (zb 4) (zb 7)) (zc (zb 4) (zc (eA (oE (aU hu)) (zb 7) (zJ (oI0 jg) (zb 6) zq) (zK _)) (zc (zb 2) (zc (zb 8) (zc (caD (zB ZO G rfl (clP (zc (zb 0) zd)))) zd))))))))))))))
   (zh (zx (bS (zc (zb 2) (zc (zb 3) (zc (zb 5) zd))))))))))))),?_}
 ac_rfl;refine {a,rfl,hP,λnm H1 b1 aI b0=>?_};have M1:=hM.kp ((Pot.keeps b1).mono λx hx=>by rw [ON.mp hx];exact aF);have a6:∀{H':Hp},zi H1 H'->Pot H' a:=λs=>aI.same s;obtain ⟨kvs,e1,dc⟩:=M1.ex;ac_rfl;refine {{_,.inl e1},'d',λl0 H2 n2 _=>{_,.inl (n2.same _ _ e1),?_}};obtain ⟨lx,ex,hx⟩:∃lx,(look kvs nm).getD (.ref l0) = .ref lx/\H2 lx=some (.lst ((lk (zr n) nm).map V.int)):=by
  rcases dc.look nm with ⟨v,l',d1,d2,p1,rfl,pa,hp⟩|⟨d1,d2⟩
  .exact {p1,by rw [d1];rfl,by unfold lk;rw [d2];exact n2.same _ _ hp}
  .exact {l0,by rw [d1];rfl,by unfold lk;rw [d2];exact n2.at_}
 rw [dR,ex,ua];refine {_,.inl hx,λa9 H3 n3=>?_};have M3:=(M1.same n2.same).same n3.same;obtain ⟨ba,e3,bL⟩:=M3.ex;have b7:zr n≠[]:=by unfold zr;rw [if_neg 'l'];simp
 obtain ⟨pb,eb,bg⟩:∃pb,look ba "b"=some (.ref pb)/\H3 pb=some (.lst ((rng n).map V.int)):=by
  rcases bL.look "b" with ⟨v,l',d1,d2,p1,rfl,pa,hp⟩|⟨d1,d2⟩
  .have:=iU n;unfold lk at this;rw [d2] at this;have this:l'=rng n:=this;exact {p1,d1,by rw [<- this];exact hp}
  .unfold zr at d2;rw [if_neg 'l',bM,if_pos rfl] at d2;cases d2
 refine {_,.inl e3,.ref pb,by rw [dR];exact eb,?_};erw [bg];rw [OB,dQ];refine {'d',λl H4 n4 _=>?_};have M4:=M3.same n4.same;refine tkI (a6 ((n2.same.trans n3.same).trans n4.same)) 'd' 'd' λr H5 b5 S r0 r1=>?_;obtain ⟨many,em⟩:∃many:Nat,1+r=many:={(1+r).toNat,'l'};erw [em];rw [Qj];have b2:zi H1 H4:=(n2.same.trans n3.same).trans n4.same;have bf:But a H H5:=b1.trans ((But.of b2).trans b5);have aH:∀c,H1 c=none->H c=none:=λc e=>by
  cases h:H c with
  | none=>rfl
  | some o =>
   by_cases z:c=a
   .subst z;obtain ⟨_,_,J,_⟩:=aI.ex;rw [J] at e;cases e
   .rw [b1 c o z h] at e;cases e
 have an:∀{c o},H4 c=some o->(∀x y,o≠.lst [.int x,.int y])\/H1 c=none->H5 c=some o:=λ{c o} e h=>b5 _ _ (λz=>by
  obtain ⟨x,y,J,_⟩:=(a6 ((n2.same.trans n3.same).trans n4.same)).ex;rw [z,J] at e;rcases h with h|h
  .exact h x y (Pn.inj e).symm
  .obtain ⟨_,_,e3,_⟩:=aI.ex;rw [z,e3] at h;cases h) e
 have a4:H1 l=none:=(n2.same.trans n3.same).free n4.no;have a7:H1 a9=none:=n2.same.free n3.no;refine {'l','l',aC.rng (GrI H a d l n many nm) {{a9,_,_,rfl,aH _ a7,(zz n3.at_ n4.no).symm.symm,[],rfl,λ_ _ h=>(by cases h),an (n4.same _ _ n3.at_) (.inr a7),[],an n4.at_ (.inr a4),.nil},bf,S,aH _ a4} ?_ ?_}
 .rintro i σ H' hi ⟨⟨bl,t1,t2,rfl,bn,bh,gs,gl,gp,hbl,as,hl,tl⟩,bt,pot,ln⟩;have ej:(0+(i:Int))=((i:Nat):Int):=by lia
  erw [ej,hbl];have bP:=vJ (B:=lk (zr n) nm) (gs:=gs);have lB:=lH n nm;rw [OB];refine tkI pot 'l' 'l' λr H5 b5 S r0 r1=>?_;obtain ⟨pp,rfl⟩:∃pp:Nat,r=pp:={r.toNat,'l'};obtain ⟨_,_,ea,_⟩:=hP.ex;have Z:=b5 _ _ (zz ea bn).symm hbl;have ar:=b5 _ _ (zz ea ln).symm hl;generalize eB:grB (lk (zr n) nm) gs=B at Z bP r1;ac_rfl;refine {_,Z,λp1 H6 n6=>{'d',λp2 H7 n7 _=>?_}};have c1:bj (B.map V.int) none (some (pp:Int))=(B.take pp).map V.int:=by rw [ph 'l' (by rw [OB];lia),Qj,List.map_take]
  have c2:bj (B.map V.int) (some ((pp:Int)+1)) none=(B.drop (pp+1)).map V.int:=by rw [tE 'l' (by rw [OB];lia),show ((pp:Int)+1).toNat=pp+1 by lia,map_drop]
  have t1:=QZ pp B;have t2:(B.drop (pp+1)).length<=B.length:=by rw [R8];lia
  refine {_,n7.same _ _ n6.at_,_,n7.at_,by rw [c1,OB];exact aQ (by simp only [Qm];lia),λp3 H8 n8=>?_};have a8:=(n6.same.trans n7.same).trans n8.same;ac_rfl;refine {_,a8 _ _ Z,λp4 H9 n9=>{_,n9.same _ _ n8.at_,_,n9.at_,by rw [c1,c2,Pa,OB,OB];exact aQ (by simp only [Qm];lia),λp5 b4 X0=>?_}};have U:=a8.trans n9.same;have WO:=U.trans X0.same;refine {{_,WO _ _ ar},a,rfl,S.same WO,λz b3 ab aT hz=>{'d',λrp av O=>?_}};have a5:∀c,H9 c=none->H c=none/\c≠a/\c≠l:=λc e=>by
   refine {?_,λz=>?_,λz=>?_}
   .cases h:H c with
    | none=>rfl
    | some o =>
     by_cases z:c=a
     .obtain ⟨_,_,J,_⟩:=(S.same U).ex;rw [<- z,e] at J;cases J
     .rw [U _ _ (b5 _ _ z (bt _ _ z h))] at e;cases e
   .obtain ⟨_,_,J,_⟩:=(S.same U).ex;rw [<- z,e] at J;cases J
   .rw [z,U _ _ ar] at e;cases e
  obtain ⟨bx,bp,a3⟩:=a5 p5 X0.no;have ai:=O.same _ _ (ab _ _ (zz ea ln).symm (WO _ _ ar));have a0:=O.same _ _ (ab _ _ bp X0.at_);have b6:=aO tl;refine {_,ai,by rw [OB];exact aB 'l',{{p5,_,_,rfl,bx,a3,gs++[{n+i,n,decide ((i:Int)=many-1),nm,pp,z}],by simp [gl],λj r G=>?_,?_,as++[rp],by rw [zu,Ph];rfl,?_},λc o nc e=>?_,?_,ln}}
  .by_cases h:j<gs.length
   .rw [PF h] at G;rw [Rt 'l'];exact gp j r G
   .rw [PP 'l'] at G;have h0:j-gs.length=0:=by
     have:=(OE.mp G).1;rw [Qm] at this;lia
    rw [h0] at G;cases G;have ej:j=i:=by lia
    subst ej;refine {pp,z,rfl,?_,hz};rw [<- gl,Rt (Ox _),OQ (Ox _),eB];lia
  .rw [ze a3,a0,qX,eB,c1,c2];simp [dz]
  .have up:∀{b xs},av b=some (.tup xs)->upd av l (.lst (as.map V.ref++[.ref rp])) b=some (.tup xs):=λ{b xs} e=>by rw [ze (λz=>by rw [z,ai] at e;cases e)];exact e
   have ta:∀{b xs},H' b=some (.tup xs)->av b=some (.tup xs):=λ{b xs} e=>O.same _ _ (ab _ _ (λz=>by obtain ⟨_,_,J,_⟩:=pot.ex;rw [z,J] at e;cases e) (WO _ _ (b5 _ _ (λz=>by obtain ⟨_,_,J,_⟩:=pot.ex;rw [z,J] at e;cases e) e)));exact di (Paired.wa tl λx r e=>up (ta e)) (.cons (up O.at_) .nil)
  .rw [ze (zz e ln)];exact O.same _ _ (ab _ _ nc (WO _ _ (b5 _ _ nc (bt _ _ nc e))))
  .exact (aT.same O.same).kp (F:=[l]) (λc o e n=>by rw [ze (λz=>n (by rw [z];simp))];exact e) λz=>zz ea ln (ON.mp z)
 .rintro σ H' ⟨⟨bl,t1,t2,rfl,bn,bh,gs,gl,gp,hbl,as,hl,tl⟩,bt,pot,ln⟩;ac_rfl;refine {'d',λtp H6 n6=>?_};exact q tp nm bl l as gs H6 (bt.trans (.of n6.same)) (pot.same n6.same) n6.at_ (n6.same _ _ hbl) (n6.same _ _ hl) (Paired.wa tl λx r e=>n6.same _ _ e) b0 'l' 'l' (by rw [gl];exact gp) bn ln
abbrev qj:Stmt:=top 79
abbrev l5:Stmt:=top 80
structure LbI(d fo:Addr)(Hf:Hp)(t:Tab)(i:Nat)(σ:L2.St)(H':Hp):Prop where
 ex:∃t1,σ=[some (.ref d),some (.ref fo),t1]
 fnd:H' fo=some (.lst ((zD (t.take i)).map V.int))
 but:But fo Hf H'
def xQ:Sp:=λvs H Q _=>∃(F:List Addr)(d:Addr)(t:Tab),vs=[.ref d]/\cV H F d t/\(names t).Nodup/\(zD t).length<64 /\
 ∀l (ns:List Int) H',zi H H'->H' l=some (.lst (ns.map V.int))->ns.Perm (zD t)->ns.Pairwise (·<=·)->Q (.ref l) H'
theorem m9:zw ["_law_model","_law_found","_law_name_here"] ["_law_model"] (zk qj):=fsc
theorem Ju(F:Fun K VX VX qj f fd)(T:Txt w K mg A):zp P w K mg base CX0 true 1 f fd ["_law_model"] xQ:=by
 refine F.o m9 λZ0 Ar outer s H vs Q E hr h=>?_;obtain ⟨Fs,d,t,rfl,hM,ab,XO,q⟩:=h;have hu:_<cLine:=Px (zT hr);refine {_,(W.h (zg (zy (i:=1) m9.nd rfl (OO rfl) (bw zd))
   (zg (DT (bG Qp.never (λ_=>rfl) (Ik (zb 0)) (zC (i:=2) m9.nd rfl (OO rfl))
   (zh (aL (iG (zb 1) (zL (fZ (zT hr)) (zb 0) (zb 2) (λ_ _=>rfl)))))))
   (zh (zx (zQ GD rfl T.Uu SF (zc (zb 1) zd))))))),?_}
 obtain ⟨kvs,S,dc⟩:=hM.ex;ac_rfl;refine {'d',λfo H1 n1 _=>{d,sk kvs,n1.same _ _ S,λo=>?_}};have aF:=n1.same _ _ S;have G:d≠fo:=zz S n1.no;refine {o,sk kvs,zu,aC.ck (LbI d fo (upd H1 d (.frz o (.dK (sk kvs)))) t) {{_,rfl},by rw [ze G.symm];exact n1.at_,λ_ _ _ e=>e} (λj σ H' _ I=>I.but _ _ G zu) ?_ ?_}
 .rintro i pv σ H' hp ⟨⟨t1,rfl⟩,hf,bt⟩;obtain ⟨J,O,rfl⟩:∃J,kvs[i]?=some J/\pv=(.inr J.1,J.2):=by
   unfold sk at hp;rw [OV] at hp;obtain ⟨pv,e1,e2⟩:=O2.mp hp;exact ⟨pv,e1,e2.symm⟩
  obtain ⟨l,Z,r,ev,ra,hrl⟩:=Dct.at dc O;have ar:r≠fo:=zz hrl n1.no;have X3:H' r=some (.lst (l.map V.int)):=bt _ _ ar (by rw [ze (λz=>by rw [z,S] at hrl;cases hrl)];exact n1.same _ _ hrl);have ai:=bt _ _ G (zu (H:=H1));erw [hf];show mj (V.ref d) (V.str J.1) H' _;ac_rfl;refine {_,.inr {_,ai},.ref r,by rw [dR];exact tP (by unfold names;rw [dc.names];exact ab) (show (J.1,V.ref r)∈kvs by rw [<- ev];exact OX O),?_};erw [hf,X3];have U:=m7 Z;have hbl:(zD (t.take (i+1))).length<=(zD t).length:=by
   obtain ⟨rr,er⟩:=yU (u:=t) (i:=i+1);rw [er,Pa];lia
  rw [U,Pa] at hbl;refine {by rw [OB,OB];exact aQ 'l',{_,rfl},by rw [zu,U,Ph],λc o nc e=>by rw [ze nc];exact bt _ _ nc e}
 .rintro σ H' ⟨⟨t1,rfl⟩,hf,bt⟩;refine {o,bt _ _ G zu,?_};have lk:(sk kvs).length=t.length:=by rw [iy,dc.length]
  rw [lk,OQ (Ox _)] at hf;have s0:zi H (upd H' d (.dK (sk kvs))):=λc u e=>by
   by_cases z:c=d
   .subst z;rw [S] at e;cases e;exact zu
   .rw [ze z];exact bt _ _ (zz e n1.no) (by rw [ze z];exact n1.same _ _ e)
  have av:upd H' d (.dK (sk kvs)) fo=some (.lst ((zD t).map V.int)):=by rw [ze G.symm];exact hf
  ac_rfl;exact {_,av,XO,λl ns H7 n7 pm so=>q l ns H7 (s0.trans n7.same) n7.at_ pm so}
structure TlI(A:zj)(H:Hp)(x p D nl b k:Addr)(u:Tab)(zs:List Str)(i:Nat)(σ:L2.St)(H':Hp):Prop where
 ex:∃t1,σ=[some (V.ref x),some (.ref p),some (.ref D),t1]
 same:zi H H'
 no:H D=none
 fl:zU A H' p b k u
 hnl:H' nl=some (.lst ((zN (names u)).map V.str))
 ne:nl≠D
 dt:∃kvs,H' D=some (.dK (sk kvs))/\Dct (λv l=>∃r,v = .ref r/\H' r=some (.lst (l.map V.int))) kvs ((zs.take i).map λn=>(n,lk u n))
structure TcI(H:Hp)(p:Addr)(z:Str)(l:List Int)(i:Nat)(τ:L2.St)(ys:List V)(H':Hp):Prop where
 ex:∃t1,τ=[t1,some (V.ref p),some (.str z)]
 ys:ys=(l.take i).map V.int
 same:zi H H'
def sV(A:zj):Sp:=λvs H Q _=>∃(x z b k d:Addr)(u:Tab)(ts:List T3)(n m:Int),vs=[.ref x]/\bI A H x z b k d u ts n m/\u.length<=10/\(∀n,(lk u n).length<=50) /\
 ∀D kvs H',zi H H'->H' D=some (.dK (sk kvs))->Dct (λv l=>∃r,v = .ref r/\H' r=some (.lst (l.map V.int))) kvs ((zN (names u)).map λn=>(n,lk u n))->Q (.ref D) H'
theorem lh:zw WJ ["_law_state"] (zk l5):=fsc
theorem HU:bq { kind:=.function,names:=[(OA ".0",.local),(OA "_law_place",.local),(OA "_law_files",.free),(OA "_law_name_here",.free)],isGenerator:=false,isCoroutine:=false,more:=[] } (zk l5).names WJ Wv [none,some 1,some 3]=true:=by decide +kernel
theorem Jl:(Wv:List Str).Nodup:=by decide +kernel
theorem Hh(F:Fun K "_law_told" "_law_told" l5 f fd)(T:Txt w K mg A)(ZX:GM P w K mg base true 5 A.State Wq YM (me A))(ZJ:GM P w K mg base true 1 A.qv "names" YM (qR A))(ZI:GM P w K mg base true 4 A.qv Wl Xe (si A))(Z3:GM P w K mg base true 1 A.qv Wf X5 (iE A)):zp P w K mg base CX0 true 6 f fd ["_law_state"] (sV A):=by
 refine F.o lh λZ0 Ar outer s H vs Q E U h=>?_;obtain ⟨x,fx,b,k,d,u,ts,n,m,rfl,hS,ul,ll,q⟩:=h;have hu:_<cLine:=Px (zT U);refine {_,(W.h (zg (zy (i:=1) lh.nd rfl (RU rfl) (m0D (zH (clE (zb 0)) T.qs ZX U)))
   (zg (zy (i:=2) lh.nd rfl (OO rfl) o8)
   (zg (bG Qp.never (λ_=>rfl) (liD (bJ (clE (m0D (zH (clE (zb 1)) T.pw ZJ U))))) (zC (i:=3) lh.nd rfl (RU rfl))
   (zh (eY (cX (λ_=>rfl) (zY.of HU) (cT rfl T.ro (zc (mD (bc (clE (zb 1)) T.pw Z3 U (clP (zc (zb 3) zd)))) zd)) (λ_ _ _ _ _=>(zC (i:=0) Jl rfl (OO rfl))) (λ_ _ _ _ _=>bW) (λ_ _ _ _ _=>(mD (bc (clE (zb 1)) T.pw ZI U (clP (zc (zb 2) (zc (zb 0) zd))))))) (fO (zb 2) (zb 3) (iK (zT U))))))
   (zh (zx (zb 2))))))),?_}
 obtain ⟨dx,e1⟩:=hS.ob;erw [e1,i5];refine {x,fx,b,k,d,u,ts,n,m,rfl,hS,λp b' k' H1 s1 nb nk np F1=>?_};obtain ⟨Xm,e2⟩:=F1.ob;ac_rfl;refine λD H2 G=>?_;have F2:=F1.same G.same;obtain ⟨Xm,e2⟩:=F2.ob;refine {Xm,_,e2,xi,p,b',k',u,rfl,F2,'l',λnl H3 Z=>?_};have D0:H D=none:=s1.free G.no;have kD:k'≠D:=zz F1.kept G.no;have bD:D≠b':=by obtain ⟨_,e,_⟩:=F1.ex;exact (zz e G.no).symm
 have J:nl≠D:=λz=>by have:=Z.no;rw [z,G.at_] at this;cases this
 have ai:(zN (names u)).Nodup:=(cy _).1.nodup_iff.mpr F2.nd;have lS:(zN (names u)).length=u.length:=by rw [(cy _).1.length_eq];simp [names]
 ac_rfl;refine {{_,SqL.of Z.at_},aC.lst (xs:=(zN (names u)).map V.str) (TlI A H x p D nl b' k' u (zN (names u))) {{_,rfl},s1.trans (G.same.trans Z.same),D0,F2.same Z.same,Z.at_,J,{[],Z.same _ _ G.at_,.nil}} (λi σ H' _ I=>SqL.of I.hnl) ?_ ?_}
 .rintro i v σ H' hv ⟨⟨t1,rfl⟩,sm,_,fl,hnl,_,kvs,hD,dc⟩;rw [OV] at hv;obtain ⟨z,hz,rfl⟩:=O2.mp hv;have hi:=(OE.mp hz).1;have lz:=ll z;obtain ⟨av,e3⟩:=fl.ob;erw [e3,ie];refine {p,b',k',u,z,rfl,fl,λH4 s4=>?_};ac_rfl;obtain ⟨l,hl⟩:∃l,look u z=some l:=by
   cases e:look u z with
   | none=>exact absurd ((cy _).1.mem_iff.mp (OX hz)) (dY.mp e)
   | some l=>exact {l,rfl}
  have el:lk u z=l:=by unfold lk;rw [hl];rfl
  rw [el] at lz ⊢;rw [Qj];refine {'l','l',aN.rng (TcI H4 p z l) (λi τ ys H' I=>?_) {{_,rfl},rfl,zi.refl _} ?_ ?_}
  .rw [I.ys,OB,O8];exact aB 'l'
  .intro N j τ ys H5 hj I hN;obtain ⟨t2,rfl⟩:=I.ex;have F5:=(fl.same s4).same I.same;obtain ⟨ar,e5⟩:=F5.ob;have ab:l[j]?=some l[j]:=KE hj;erw [e5,lN];refine {p,b',k',u,z,l,_,rfl,F5,hl,'l','l',λH6 S=>hN _ _ _ {{_,rfl},?_,I.same.trans S}};rw [I.ys,O6,ab,show (0+(j:Int)).toNat=j by lia,OY,ab,Ph];rfl
  .intro τ ys H5 I r H6 n6;have ey:=I.ys;rw [OQ (Ox _)] at ey;rw [ey] at n6;have S:zi H' H6:=s4.trans (I.same.trans n6.same);have O:=S _ _ hD;have ld:=dc.length;rw [OB,O8] at ld;refine {_,O,by rw [iy,ld];exact aB 'l',{_,rfl},λc o e=>by rw [ze (zz e D0)];exact S _ _ (sm _ _ e),D0,(fl.same S).bX O bD kD,by rw [ze J];exact S _ _ hnl,J,ak kvs z (V.ref r),by rw [zu,jI],?_}
   .have rD:r≠D:=λy=>by have:=n6.no;rw [y,I.same _ _ (s4 _ _ hD)] at this;cases this
    have up:∀{c xs},H6 c=some (.lst xs)->upd H6 D (.dK (aA (sk kvs) (.inr z) (.ref r))) c=some (.lst xs):=λ{c xs} e=>by rw [ze (λy=>by rw [y,O] at e;cases e)];exact e
    have d2:Dct (λ(v:V)(a:List Int)=>∃r',v=V.ref r'/\upd H6 D (.dK (aA (sk kvs) (.inr z) (.ref r))) r'=some (HO.lst (a.map V.int))) kvs (((zN (names u)).take i).map λn=>(n,lk u n)):=dc.imp λv a ⟨r,e1,e2⟩=>{r,e1,up (S _ _ e2)};have:=d2.put z (v:=.ref r) (a:=l) {r,rfl,up n6.at_};have et:ak ((((zN (names u)).take i).map λn=>(n,lk u n))) z l=((zN (names u)).take (i+1)).map λn=>(n,lk u n):=by
     have hn:look (((zN (names u)).take i).map λn=>(n,lk u n)) z=none:=dY.mpr (by
      have:names (((zN (names u)).take i).map λn=>(n,lk u n))=(zN (names u)).take i:=by unfold names;rw [Pg];exact map_id _
      rw [this];exact xo ai hz)
     unfold ak;rw [hn,O6,hz,Ph,<- el];rfl
    rw [et] at this;exact this
 .rintro σ H' ⟨⟨t1,rfl⟩,sm,_,fl,hnl,_,kvs,hD,dc⟩;rw [OB,OQ (Ox _)] at dc;ac_rfl;exact q D kvs H' sm hD dc
end
def LR(n many:Nat)(w:Str):PR:={n+many,n+many,true,"last",0,w}
structure Sc(n many:Nat)(nm:Str)(rs gs ls:List PR)(tn:List Str):Prop where
 n1:1<=n
 n4:n<=4
 rl:rs.length=n
 bg:BgP rs
 g1:1<=gs.length
 g8:gs.length<=8
 gp:GrP n gs.length nm gs
 cn:nm∈NM
 m:many<=gs.length
 ls:ls=[]\/∃w,ls=[LR n many w]/\dh w=true
 tn:tn.length<=1/\∀z∈tn,br z=none/\asc z=true/\z.length<=1000
def dS(many:Nat)(rs gs ls:List PR)(tn:List Str)(sd:Tx):DM:={[txs (rs++gs.take many)++tn,txs ls,[]],sd}
def wS(many:Nat)(rs gs ls:List PR):List Tk:=pl (rs++gs.take many) 0 (rs++gs.take many).length++pl ls 1 ls.length
theorem pP{k:Nat}:∀{j:Nat},j<=rs.length->(pl rs k j).map (·.1)=rs.take j
 | 0,_=>rfl
 | j+1,h=>by
  have z:rs[j]?=some rs[j]:=KE 'l';unfold pl;rw [Ph,pP 'l',z,O6,z];rfl
section
variable {n many:Nat}{nm:Str}{rs gs ls:List PR}{tn:List Str}
theorem xC(h:z∈NM):bB z=true/\z≠"last":=by
 unfold NM at h;simp only [OH,Pc,or_false] at h;rcases h with rfl|rfl|rfl|rfl<;>exact {f!"",f!""}
theorem Sc.cu(S:Sc n many nm rs gs ls tn):ls.length<=1:=by rcases S.ls with h|⟨w,h,_⟩<;>rw [h]<;>simp
theorem Sc.len(S:Sc n many nm rs gs ls tn):(rs++gs.take many).length=n+many:=by have:=S.m;rw [Pa,S.rl,O8];lia
theorem Sc.at_(S:Sc n many nm rs gs ls tn){i:Nat}(h:((rs++gs.take many)++ls)[i]?=some r):r.n=i/\r.Ok:=by
 have n4:=S.n4;have g8:=S.g8;have J:=S.m;by_cases h1:i<n+many
 .rw [PF (by rw [S.len];exact h1)] at h;by_cases h2:i<n
  .rw [PF (by rw [S.rl];exact h2)] at h;obtain ⟨w,rfl,hw⟩:=S.bg i r h;exact {rfl,{by show 0<=(i:Int);lia,by show (i:Int)<_;lia},{by show 0<=(i:Int);lia,by show (i:Int)<_;lia},{by show 0<=(i:Int);lia,by show (i:Int)<_;lia},(show bB "b"=true by decide +kernel),hw}
  .rw [PP (by rw [S.rl];lia),S.rl,QL 'l'] at h;obtain ⟨p,w,rfl,F,hw⟩:=S.gp _ r h;have O:=vJ (B:=lk (zr n) nm) (gs:=gs.take (i-n));have G:=lH n nm;have U:=QZ (i-n) gs;exact {by show (n:Int)+((i-n:Nat):Int)=i;lia,{by show 0<=(n:Int)+((i-n:Nat):Int);lia,by show (n:Int)+((i-n:Nat):Int)<_;lia},{by show 0<=(n:Int);lia,by show (n:Int)<_;lia},{by show 0<=(p:Int);lia,by show (p:Int)<_;lia},(xC S.cn).1,hw}
 .rw [PP (by rw [S.len];lia),S.len] at h;rcases S.ls with e|⟨w,e,hw⟩
  .rw [e] at h;cases h
  .rw [e] at h;have z:i-(n+many)=0:=by have:=(OE.mp h).1;rw [Qm] at this;lia
   rw [z] at h;cases h;exact {by show (n:Int)+many=i;lia,{by show 0<=(n:Int)+many;lia,by show (n:Int)+many<_;lia},{by show 0<=(n:Int)+many;lia,by show (n:Int)+many<_;lia},{by show 0<=(0:Int);lia,by show (0:Int)<_;lia},(show bB "last"=true by decide +kernel),hw}
theorem Sc.ok(S:Sc n many nm rs gs ls tn):∀r∈(rs++gs.take many)++ls,r.Ok:=λr z=>by
 obtain ⟨i,hi,e⟩:=PM z;exact (S.at_ (by rw [KE hi,e])).2
theorem Sc.nU(S:Sc n many nm rs gs ls tn):K44.nU (dS many rs gs ls tn sd)=(wS many rs gs ls).map trq:=by
 show ((([]:List Tri)++rIn (txs (rs++gs.take many)++tn) 0 (txs (rs++gs.take many)++tn).length)++rIn (txs ls) 1 (txs ls).length)++rIn [] 2 0=_;have G:rIn (txs (rs++gs.take many)++tn) 0 (txs (rs++gs.take many)++tn).length=(pl (rs++gs.take many) 0 (rs++gs.take many).length).map trq:=by
  have base:=qh (rs:=rs++gs.take many) (rest:=tn) (λr F=>S.ok r (Pz _ F)) (k:=0) (Ox _);have lt:(txs (rs++gs.take many)).length=(rs++gs.take many).length:=OB _;obtain ⟨t1,t2⟩:=S.tn;cases tn with
  | nil=>rw [Pa,lt];exact base
  | cons z tn =>
   cases tn with
   | cons _ _=>exact absurd t1 'z'
   | nil =>
    rw [Pa,lt,Qm];show rIn _ 0 _++one (br ((txs (rs++gs.take many)++[z]).getD (rs++gs.take many).length "")) 0 _=_;rw [base,OY,PP (by rw [lt];exact Ox _),lt,SO];show _++one (br z) 0 _=_;rw [(t2 z 'z').1];exact Qe _
 have h1:rIn (txs ls) 1 (txs ls).length=(pl ls 1 ls.length).map trq:=by
  have:=qh (rs:=ls) (rest:=[]) (λr F=>S.ok r (OG _ F)) (k:=1) (Ox _);rw [Qe] at this;rw [show (txs ls).length=ls.length from OB _];exact this
 rw [G,h1];unfold wS;rw [Ph];simp [rIn]
theorem Sc.fst(_:Sc n many nm rs gs ls tn):(wS many rs gs ls).map (·.1)=(rs++gs.take many)++ls:=by
 unfold wS;rw [Ph,pP (Ox _),pP (Ox _),OQ (Ox _),OQ (Ox _)]
theorem Sc.bW(S:Sc n many nm rs gs ls tn):(wS many rs gs ls).length=n+many+ls.length:=by
 have:=congrArg T8 S.fst;rw [OB,Pa,S.len] at this;exact this
theorem Sc.num(S:Sc n many nm rs gs ls tn){i:Nat}(h:(wS many rs gs ls)[i]?=some q):q.1.n=i/\q.1.Ok:=S.at_ (by rw [<- S.fst,OV,h];rfl)
theorem Sc.cnt(S:Sc n many nm rs gs ls tn):Cnt (K44.nU (dS many rs gs ls tn sd)):=λi t h=>by
 rw [S.nU,OV] at h;obtain ⟨q,z,rfl⟩:=O2.mp h;exact (S.num z).1
theorem Sc.tx(S:Sc n many nm rs gs ls tn):j8 (dS many rs gs ls tn sd):=by
 have n4:=S.n4;have g8:=S.g8;have G:=S.m;have tl:∀{l:List PR},(txs l).length=l.length:=OB _;have to:∀{l:List PR},(∀r∈l,r.Ok)->∀z∈txs l,asc z=true/\z.length<=1000:=λh z hz=>by
  obtain ⟨r,F,rfl⟩:=Qt.mp hz;exact {(h r F).txt.1,(h r F).txt.2.1}
 refine {λr F=>?_,by show 3<=16;decide};rcases OH.mp F with rfl|F
 .refine {by rw [Pa,tl,S.len];have:=S.tn.1;lia,λz hz=>?_};rcases Pk.mp hz with hz|hz
  .exact to (λr F=>S.ok r (Pz _ F)) z hz
  .exact (S.tn.2 z hz).2
 .rcases OH.mp F with rfl|F
  .exact {by rw [tl];have:=S.cu;lia,to λr F=>S.ok r (OG _ F)}
  .rw [ON.mp F];exact {'z','z'}
def pS(n many:Nat)(rs gs ls:List PR):List Tk:=(wS many rs gs ls).drop n
theorem Sc.b3(S:Sc n many nm rs gs ls tn):(pS n many rs gs ls).map (·.1)=gs.take many++ls:=by
 unfold pS;rw [map_drop,S.fst,QW,<- S.rl,List.drop_left]
theorem Sc.aI(S:Sc n many nm rs gs ls tn):(pS n many rs gs ls).length=many+ls.length:=by unfold pS;rw [R8,S.bW];lia
theorem Sc.pat(S:Sc n many nm rs gs ls tn)(h:(pS n many rs gs ls)[i]?=some q):(i<many/\gs[i]?=some q.1)\/(i=many/\∃w,q.1=LR n many w/\ls=[q.1]):=by
 have h2:(gs.take many++ls)[i]?=some q.1:=by rw [<- S.b3,OV,h];rfl
 have F:(gs.take many).length=many:=by have:=S.m;rw [O8];lia
 by_cases c:i<many
 .rw [PF 'l',QL c] at h2;exact .inl ⟨c,h2⟩
 .rw [PP 'l',F] at h2;rcases S.ls with e|⟨w,e,_⟩
  .rw [e] at h2;cases h2
  .rw [e] at h2;have G:i-many=0:=by have:=(OE.mp h2).1;rw [Qm] at this;lia
   rw [G] at h2;have z:LR n many w=q.1:=Pn.inj h2;exact .inr {'l',w,z.symm,by rw [e,z]}
theorem Sc.done(S:Sc n many nm rs gs ls tn)(h1:1<=many):gwL n (gs.take many++ls)=decide (many=gs.length):=by
 have G:=S.m;have skip:∀{k:Nat},k<gs.length->k<=many->∀r∈gs.take k,r.g=n/\r.e=false:=λ{k} F _ r z=>by
  obtain ⟨i,hi,e⟩:=PM z;rw [O8] at hi;rw [List.getElem_take] at e;obtain ⟨p,w,rfl,_⟩:=S.gp i r (by rw [KE 'l',e]);exact {rfl,decide_eq_false 'l'}
 by_cases c:many=gs.length
 .rw [decide_eq_true c,c];obtain ⟨k,F⟩:∃k,gs.length=k+1:={gs.length-1,'l'};have z:gs[k]?=some gs[k]:=KE 'l';rw [F,O6,z,QW,nZ (skip 'l' 'l')];obtain ⟨p,w,e,_⟩:=S.gp k _ z;rw [e];show (if (n:Int)=n then (if decide ((k:Int)=(gs.length:Nat)-1)=true then true else _) else false)=true;rw [if_pos rfl,if_pos (decide_eq_true 'l')]
 .rw [decide_eq_false c,nZ (skip 'l' (Ox _))];rcases S.ls with e|⟨w,e,_⟩
  .rw [e];rfl
  .rw [e];show (if (n:Int)+many=n then _ else false)=false;rw [if_neg 'l']
theorem Sc.cv(S:Sc n many nm rs gs ls tn)(h:(pS n many rs gs ls)[i]?=some q):isD n (pS n many rs gs ls) q.1=if i<many then decide (many=gs.length) else true:=by
 have G:=S.m;unfold isD;rw [S.b3];rcases S.pat h with ⟨c,hg⟩|⟨c,w,e,z⟩
 .obtain ⟨p,w,e,_⟩:=S.gp i _ hg;rw [if_pos c,<- S.done 'l',e];show gwL (n:Int) ((gs.take many++ls).drop ((n:Int)-n).toNat)=_;rw [Int.sub_self];rfl
 .have F:(gs.take many).length=many:=by rw [O8];lia
  rw [if_neg 'l',z,e];show gwL ((n:Int)+many) ((gs.take many++[LR n many w]).drop ((n:Int)+many-n).toNat)=true;rw [show ((n:Int)+many-n).toNat=(gs.take many).length by lia,List.drop_left];show (if (n:Int)+many=n+many then (if true=true then true else _) else false)=true;rw [if_pos rfl,if_pos rfl]
end
section
variable {n many:Nat}{nm:Str}{rs gs ls:List PR}{tn:List Str}{u:Tab}
theorem K0{t:Tab}:lk (ak t z l) m=if m=z then l else lk t m:=by
 unfold lk;rw [fe];split<;>rfl
theorem sE{t:Tab}(F:bY u t)(z:Str):lk u z=lk t z:=by unfold lk;rw [F z]
theorem wy(S:Sc n many nm rs gs ls tn)(h:i<many):∃q,(pS n many rs gs ls)[i]?=some q/\gs[i]?=some q.1:=by
 have hl:i<(pS n many rs gs ls).length:=by rw [S.aI];lia
 have z:=KE hl;rcases S.pat z with ⟨_,e⟩|⟨c,_⟩
 .exact {_,z,e}
 .lia
theorem rO(S:Sc n many nm rs gs ls tn)(G:bY u (zr n))(w:many=gs.length):∀{i:Nat},i<=many->∀z,look (sbT n (pS n many rs gs ls) u i) z=if z=nm/\0<i then some (grB (lk (zr n) nm) (gs.take i)) else look u z
 | 0,_,z=>by rw [if_neg (λh=>absurd h.2 'l')];rfl
 | i+1,h,z=>by
  obtain ⟨q,F,hg⟩:=wy S (show i<many by lia);have J:=rO S G w (i:=i) 'l';have O:lk (sbT n (pS n many rs gs ls) u i) nm=grB (lk (zr n) nm) (gs.take i):=by
   unfold lk;rw [J nm];by_cases c:0<i
   .rw [if_pos {rfl,c}];rfl
   .rw [if_neg (λh=>c h.2),G nm,show i=0 by lia];rfl
  have W:isD n (pS n many rs gs ls) q.1=true:=by rw [S.cv F,if_pos 'l'];exact decide_eq_true w
  obtain ⟨p,Z,e,_⟩:=S.gp i _ hg;have U:q.1.f=nm:=by rw [e]
  show look (match (pS n many rs gs ls)[i]? with|some q=>if isD n (pS n many rs gs ls) q.1=true then dE _ q.1 else _|none=>_) z=_;rw [F];show look (if isD n (pS n many rs gs ls) q.1=true then dE (sbT n (pS n many rs gs ls) u i) q.1 else _) z=_;rw [if_pos W];unfold dE;rw [fe,U,O,O6,hg];show _=if _ then some (grB _ (gs.take i++[q.1])) else _;rw [qX];by_cases c:z=nm
  .rw [if_pos c,if_pos {c,'l'}];rfl
  .rw [if_neg c,if_neg (λh=>c h.1),J z,if_neg (λh=>c h.1)]
theorem tY(S:Sc n many nm rs gs ls tn)(w:many≠gs.length):∀{i:Nat},i<=many->sbT n (pS n many rs gs ls) u i=u
 | 0,_=>rfl
 | i+1,h=>by
  obtain ⟨q,z,hg⟩:=wy S (show i<many by lia);have F : ¬ isD n (pS n many rs gs ls) q.1=true:=by rw [S.cv z,if_pos 'l',decide_eq_false w];exact OW
  show (match (pS n many rs gs ls)[i]? with|some q=>if isD n (pS n many rs gs ls) q.1=true then dE _ q.1 else _|none=>_)=_;rw [z];show (if isD n (pS n many rs gs ls) q.1=true then dE (sbT n (pS n many rs gs ls) u i) q.1 else sbT n (pS n many rs gs ls) u i)=_;rw [if_neg F,tY S w 'l']
def mS1(n many:Nat)(nm:Str)(gs:List PR):Tab:=if many=gs.length then ak (zr n) nm (grB (lk (zr n) nm) gs) else zr n
def mS(n many:Nat)(nm:Str)(gs ls:List PR):Tab:=if ls=[] then mS1 n many nm gs else ak (mS1 n many nm gs) "last" [(n:Int)+many]
theorem ij(n1:1<=n):look (zr n) z=if z="b" then some (rng n) else none:=by
 unfold zr;rw [if_neg 'l',bM];by_cases c:z="b"
 .rw [if_pos c,if_pos c.symm]
 .rw [if_neg c,if_neg (λh=>c h.symm)];rfl
theorem ng(S:Sc n many nm rs gs ls tn):look (mS1 n many nm gs) "last"=none:=by
 have nl:=(xC S.cn).2;have b:look (zr n) "last"=none:=by rw [ij S.n1,if_neg (f!"")]
 unfold mS1;split
 .rw [fe,if_neg nl.symm];exact b
 .exact b
theorem JL(S:Sc n many nm rs gs ls tn)(F:bY u (zr n)):bY (sbT n (pS n many rs gs ls) u many) (mS1 n many nm gs):=λz=>by
 have g1:=S.g1;unfold mS1;by_cases w:many=gs.length
 .rw [rO S F w (Ox _),if_pos w,fe,OQ 'l',F z];by_cases c:z=nm
  .rw [if_pos {c,'l'},if_pos c]
  .rw [if_neg (λh=>c h.1),if_neg c]
 .rw [tY S w (Ox _),if_neg w,F z]
theorem FP(S:Sc n many nm rs gs ls tn)(Z:bY u (zr n)):bY (sbT n (pS n many rs gs ls) u (pS n many rs gs ls).length) (mS n many nm gs ls):=by
 have F:=JL S Z;rw [S.aI];unfold mS;rcases S.ls with e|⟨w,e,_⟩
 .rw [if_pos e];rw [show many+ls.length=many by rw [e];rfl];exact F
 .have ne:ls≠[]:=by rw [e];simp
  rw [if_neg ne,show many+ls.length=many+1 by rw [e];rfl];have hl:many<(pS n many rs gs ls).length:=by rw [S.aI,e];simp
  have G:=KE hl;generalize (pS n many rs gs ls)[many]=q at G;have W:isD n (pS n many rs gs ls) q.1=true:=by rw [S.cv G,if_neg 'l']
  have U:q.1=LR n many w:=by
   rcases S.pat G with ⟨c,_⟩|⟨_,w2,e2,J⟩
   .lia
   .rw [e] at J;exact (List.cons.inj J).1.symm
  have O:lk (sbT n (pS n many rs gs ls) u many) "last"=[]:=by rw [sE F];unfold lk;rw [ng S];rfl
  intro z;show look (match (pS n many rs gs ls)[many]? with|some q=>if isD n (pS n many rs gs ls) q.1=true then dE _ q.1 else _|none=>_) z=_;rw [G];show look (if isD n (pS n many rs gs ls) q.1=true then dE (sbT n (pS n many rs gs ls) u many) q.1 else _) z=_;rw [if_pos W,U];show look (ak (sbT n (pS n many rs gs ls) u many) "last" ((lk (sbT n (pS n many rs gs ls) u many) "last").take _++[(n:Int)+many]++(lk (sbT n (pS n many rs gs ls) u many) "last").drop _)) z=_;rw [fe,fe,O,F z];simp
theorem qu:∀i,(lk (sbT m ps u i) z).length<=(lk u z).length+i
 | 0=>Ox _
 | i+1=>by
  have F:=qu (ps:=ps) (m:=m) (z:=z) i;unfold sbT;split
  .split
   .unfold dE;rw [K0];split
    .rename_i q _ _ h;have:=vV (B:=lk (sbT m ps u i) z) (r:=q.1);unfold dz at this;rw [<- h];lia
    .lia
   .lia
  .lia
theorem Sc.sb(S:Sc n many nm rs gs ls tn)(J:bY u (zr n))(O:(names u).Nodup)(pt:ts.Perm (bT n)):pK n (pS n many rs gs ls) u ts:=by
 have n4:=S.n4;have g8:=S.g8;have mm:=S.m;have l1:=S.cu;have pl:=S.aI;have lt:ts.length=n:=by rw [pt.length_eq];simp [bT]
 have ku:ts.map (·.1)=_:=rfl;have km:∀y,0<=y->y<(n:Int)->y∈ts.map (λt=>t.1):=λy h0 h1=>by
  have:=(pt.map (λt=>t.1)).mem_iff (a:=y);rw [this,lW];exact fh.mpr ⟨h0,h1⟩
 have num:∀{i:Nat}{q:Tk},(pS n many rs gs ls)[i]?=some q->q.1.n=(n:Int)+i:=λ{i q} h=>by
  unfold pS at h;rw [Td] at h;rw [(S.num h).1];simp
 refine {'l',λi r h=>?_,λq G=>?_,λi q h hd=>?_,?_,λy Z=>?_,'l',{?_,'l'}}
 .rw [OV] at h;obtain ⟨q,G,rfl⟩:=O2.mp h;exact num G
 .obtain ⟨i,hi,e⟩:=PM G;have h:(pS n many rs gs ls)[i]?=some q:=by rw [KE hi,e]
  rcases S.pat h with ⟨c,hg⟩|⟨c,w,F,_⟩
  .obtain ⟨p,w,F,_⟩:=S.gp i _ hg;rw [F];exact {Int.le_refl _,by show (n:Int)<=_;lia}
  .rw [F];exact {by show (n:Int)<=(n:Int)+many;lia,by show (n:Int)+many<=_;lia}
 .have bl:=qu (u:=u) (ps:=pS n many rs gs ls) (m:=n) (z:=q.1.f) i;have b2:(lk u q.1.f).length<=n:=by rw [sE J];exact lH n _
  have hi:=(OE.mp h).1;rw [S.cv h] at hd;rcases S.pat h with ⟨c,hg⟩|⟨c,w,F,_⟩
  .rw [if_pos c] at hd;have w:=of_decide_eq_true hd;obtain ⟨p,ww,F,hp,_⟩:=S.gp i _ hg;have U:lk (sbT n (pS n many rs gs ls) u i) nm=grB (lk (zr n) nm) (gs.take i):=by
    unfold lk;rw [rO S J w 'l' nm];by_cases c:0<i
    .rw [if_pos {rfl,c}];rfl
    .rw [if_neg (λh=>c h.2),J nm,show i=0 by lia];rfl
   refine {by rw [F];show 0<=(p:Int);lia,?_,'l'};have W:q.1.f=nm:=by rw [F]
   rw [W,U,F];show (p:Int)<=_;lia
  .refine {by rw [F];show 0<=(0:Int);lia,by rw [F];show (0:Int)<=_;lia,'l'}
 .have:=sq J O (by unfold zr;split<;>simp [names]);rw [this];unfold zr;split<;>simp
 .rcases lX Z with h|⟨q,G,e⟩
  .have h:=(jx n y).mp (iS J O h);have:=fh.mp h;exact jD (Ox _) (.inl (km y this.1 this.2))
  .exact jD (Ox _) (.inr {q,by rw [OQ (Ox _)];exact G,e})
 .exact (pt.map (·.1)).nodup_iff.mpr (by rw [lW];exact ib n)
end
section
variable {n many:Nat}{nm:Str}{rs gs ls:List PR}{tn:List Str}{us:List T3}
theorem Sc.cM(S:Sc n many nm rs gs ls tn)(to:dM (zr n) us n 4)(up:us.Perm (bT n)):OnD (dS many rs gs ls tn (some (aG 4 n (zr n) us))) (zr n) us n 4 (pS n many rs gs ls):=by
 have n4:=S.n4;have g8:=S.g8;have J:=S.m;have O:=S.cu;have c:=S.cnt (sd:=some (aG 4 n (zr n) us));have G:(K44.nU (dS many rs gs ls tn (some (aG 4 n (zr n) us)))).length=n+many+ls.length:=by rw [S.nU,OB,S.bW]
 refine {S.tx,c.nd,c.so,'l',rfl,to,?_,λu ts' F z pm=>S.sb F z (pm.trans up)};rw [c.rows (Ox _),OQ (Ox _),S.nU,<- map_drop];rfl
theorem xX(S:Sc n many nm rs gs ls tn):∀{i:Nat},i<=gs.length->(grB (lk (zr n) nm) (gs.take i)).Nodup/\∀y∈grB (lk (zr n) nm) (gs.take i),0<=y/\y<(n:Int)+i/\(nm≠"b"->(n:Int)<=y)
 | 0,_=>by
  show (lk (zr n) nm).Nodup/\∀y∈lk (zr n) nm,_;by_cases c:nm="b"
  .rw [c,iU];exact {ib n,λy F=>{(fh.mp F).1,by have:=(fh.mp F).2;lia,λh=>absurd rfl h}}
  .have:lk (zr n) nm=[]:=by unfold lk;rw [ij S.n1,if_neg c];rfl
   rw [this];exact {.nil,λy F=>by cases F}
 | i+1,h=>by
  obtain ⟨h1,h2⟩:=xX S (i:=i) 'l';have J:gs[i]?=some gs[i]:=KE 'l';obtain ⟨p,w,e,_⟩:=S.gp i _ J;rw [O6,J];show (grB _ (gs.take i++[gs[i]])).Nodup/\∀y∈grB _ (gs.take i++[gs[i]]),_;rw [qX,e];generalize grB (lk (zr n) nm) (gs.take i)=B at h1 h2;have sb:∀y∈dz B {n+i,n,decide ((i:Int)=gs.length-1),nm,p,w},y∈B\/y=(n:Int)+i:=λy F=>by
   unfold dz at F;rcases Pk.mp F with F|F
   .rcases Pk.mp F with F|F
    .exact .inl (Rf F)
    .exact .inr (ON.mp F)
   .exact .inl (RQ F)
  have G:(n:Int)+i∉B:=λz=>by have:=(h2 _ z).2.1;lia
  refine {?_,λy F=>?_}
  .unfold dz;have h3:=h1;rw [<- Q6 p B] at h3;obtain ⟨O,Z,U⟩:=QK.mp h3;have dd:(B.drop (p+1)).Sublist (B.drop p):=by rw [<- List.drop_drop];exact List.drop_sublist _ _
   refine QK.mpr {QK.mpr {O,'z',λx hx y F z=>G (by have F:y=(n:Int)+i:=ON.mp F;rw [F] at z;rw [<- z];exact Rf hx)},Z.sublist dd,λx hx y F=>?_}
   .rcases Pk.mp hx with hx|hx
    .exact U x hx y (dd.subset F)
    .rw [ON.mp hx];exact λz=>G (by show (n:Int)+i∈B;rw [show (n:Int)+i=y from z];exact RQ F)
  .rcases sb y F with F|rfl
   .obtain ⟨b1,b2,W⟩:=h2 y F;exact {b1,'l',W}
   .exact {'l','l',λ_=>by lia}
theorem lL{t:Tab}(h:look t z=none):zD (ak t z l)=zD t++l:=by
 unfold ak zD;rw [h];simp
theorem Jn(S:Sc n many nm rs gs ls tn):(zD (mS n many nm gs ls)).Nodup/\(zD (mS n many nm gs ls)).length<64/\(names (mS n many nm gs ls)).Nodup:=by
 have n1:=S.n1;have n4:=S.n4;have g8:=S.g8;have Z:=S.m;have W:(names (zr n)).Nodup:=by unfold zr;split<;>simp [names]
 have J:zr n=[(("b":Str),rng n)]:=by unfold zr;rw [if_neg 'l']
 have G:(zD (mS1 n many nm gs)).Nodup/\(∀y∈zD (mS1 n many nm gs),0<=y/\y<(n:Int)+many)/\(names (mS1 n many nm gs)).Nodup:=by
  unfold mS1;by_cases w:many=gs.length
  .obtain ⟨g1,O⟩:=xX S (Ox _);rw [OQ (Ox _)] at g1 O;rw [if_pos w];refine {?_,λy F=>?_,nY W}
   all_goals by_cases c:nm="b"
   .have:zD (ak (zr n) nm (grB (lk (zr n) nm) gs))=grB (lk (zr n) nm) gs:=by rw [c,J];simp [ak,bM,zD]
    rw [this];exact g1
   .rw [lL (by rw [ij n1,if_neg c])];refine QK.mpr {by rw [J];simpa [zD] using ib n,g1,λx hx y F z=>?_};have h1:=fh.mp ((jx n x).mp hx);have h2:=(O y F).2.2 c;lia
   .have:zD (ak (zr n) nm (grB (lk (zr n) nm) gs))=grB (lk (zr n) nm) gs:=by rw [c,J];simp [ak,bM,zD]
    rw [this] at F;have:=O y F;lia
   .rw [lL (by rw [ij n1,if_neg c])] at F;rcases Pk.mp F with F|F
    .have h1:=fh.mp ((jx n y).mp F);lia
    .have:=O y F;lia
  .rw [if_neg w];refine {by rw [J];simpa [zD] using ib n,λy F=>?_,W};have h1:=fh.mp ((jx n y).mp F);lia
 have U:(zD (mS n many nm gs ls)).Nodup/\(∀y∈zD (mS n many nm gs ls),0<=y/\y<(n:Int)+many+1)/\(names (mS n many nm gs ls)).Nodup:=by
  unfold mS;by_cases e:ls=[]
  .rw [if_pos e];exact {G.1,λy F=>by have:=G.2.1 y F;lia,G.2.2}
  .rw [if_neg e];refine {?_,λy F=>?_,nY G.2.2}
   .rw [lL (ng S)];refine QK.mpr {G.1,'z',λx hx y F z=>?_};have:=G.2.1 x hx;rw [ON.mp F] at z;lia
   .rw [lL (ng S)] at F;rcases Pk.mp F with F|F
    .have:=G.2.1 y F;lia
    .rw [ON.mp F];lia
 refine {U.1,?_,U.2.2};have:=mz (L:=rng (n+many+1)) U.1 λy F=>fh.mpr (by have:=U.2.1 y F;lia);rw [dQ] at this;lia
theorem vE(S:Sc n many nm rs gs ls tn)(h:q∈wS many rs gs ls):((dS many rs gs ls tn sd).rows.getD q.2.1 [])[q.2.2]?=some (aj q.1.row)/\q.1.Ok/\q.2.1<3:=by
 obtain ⟨i,hi,e⟩:=PM h;have O:(wS many rs gs ls)[i]?=some q:=by rw [KE hi,e]
 refine {?_,(S.num O).2,?_}
 all_goals
  rcases Pk.mp h with h|h
  all_goals
   obtain ⟨j,G,J⟩:=PM h;have hl:=G;rw [kU (Ox _)] at hl
 .obtain ⟨r,F,z⟩:=ia (k:=0) (Ox _) hl;rw [KE G,J] at z;cases z;show (txs (rs++gs.take many)++tn)[j]?=_;rw [PF (by show j<(txs _).length;unfold txs;rw [OB];exact hl)];unfold txs;rw [OV,F];rfl
 .obtain ⟨r,F,z⟩:=ia (k:=1) (Ox _) hl;rw [KE G,J] at z;cases z;show (txs ls)[j]?=_;unfold txs;rw [OV,F];rfl
 .obtain ⟨r,F,z⟩:=ia (k:=0) (Ox _) hl;rw [KE G,J] at z;cases z;show 0<3;decide
 .obtain ⟨r,F,z⟩:=ia (k:=1) (Ox _) hl;rw [KE G,J] at z;cases z;show 1<3;decide
theorem Sc.cD(S:Sc n many nm rs gs ls tn)(up:us.Perm (bT n)){t:T3}(h:t∈sbS (pS n many rs gs ls) us (pS n many rs gs ls).length):∃q∈wS many rs gs ls,t=(q.1.n,(q.2.1:Int),(q.2.2:Int)):=by
 rcases mB h with h|⟨q,F,e⟩
 .obtain ⟨k,O,rfl⟩:=o9 (up.mem_iff.mp h);have hl:k<(rs++gs.take many).length:=by rw [S.len];lia
  obtain ⟨r,J,G⟩:=ia (k:=0) (Ox _) hl;have z:(wS many rs gs ls)[k]?=some (r,0,k):=by unfold wS;rw [PF (by rw [kU (Ox _)];exact hl)];exact G
  refine {(r,0,k),OX z,?_};have:=(S.num z).1;show ((k:Int),(0:Int),(k:Int))=(r.n,((0:Nat):Int),(k:Int));rw [this];rfl
 .exact {q,RQ F,e}
theorem Nf{r:PR}(h:r.Ok):∃zs,Pu (aj r.row) (c1 32)=(Wi:Str)::(toString r.n:Str)::zs/\zs.length=6:=by
 have b:=gS (tx (aa r.row));have G:=fG (i:=cb (tx (aa r.row))) {b.1,'l'};have e:sg (aj r.row)=sg (Wi:Str)++(([sg (toString r.n:Str),sg (toString r.g:Str),sg (aR (.bl r.e)),sg r.f,sg (toString r.p:Str),sg r.w,sg (toString (cb (tx (aa r.row))):Str)++[59]]:List (List Nat)).map (32::·)).flatten:=by
  unfold aj cM;rw [bX,bX,cj];have:aa r.row=sg (Wi:Str)++(([sg (toString r.n:Str),sg (toString r.g:Str),sg (aR (.bl r.e)),sg r.f,sg (toString r.p:Str),sg r.w]:List (List Nat)).map (32::·)).flatten++[32]:=by
   simp [aa,PR.row,aR]
  rw [this];have F:sg (";":Str)=[59]:=by decide
  rw [F];simp
 have no:∀x∈([sg (toString r.n:Str),sg (toString r.g:Str),sg (aR (.bl r.e)),sg r.f,sg (toString r.p:Str),sg r.w,sg (toString (cb (tx (aa r.row))):Str)++[59]]:List (List Nat)),32∉x:=by
  simp only [OH,Pc,or_false];rintro x (rfl|rfl|rfl|rfl|rfl|rfl|rfl)
  .exact (fG h.n).1
  .exact (fG h.g).1
  .cases r.e<;>decide
  .exact (yw h.f).1
  .exact (fG h.p).1
  .exact (uI h.w).1
  .intro z;rcases Pk.mp z with z|z
   .exact G.1 z
   .exact absurd (ON.mp z) 'd'
 rw [l4 _ 'd',e,i4]
 .refine {_,by rw [Pf,Pf,dO,dO],rfl}
 .intro x hx;rcases OH.mp hx with rfl|hx
  .decide
  .exact no x hx
end
abbrev g6:Stmt:=top 81
theorem zI.kp(s:zI H0 H1)(k:ao F H1 H2)(f:∀x∈F,H0 x=none):zI H0 H2:=λa o n e=>k a o (s a o n e) λz=>by rw [f a z] at e;cases e
theorem SqL.vr{K:Frag}(s:zI H H')(h:SqL K H a xs):SqL K H' a xs:=by
 rcases h with (h|⟨o,h⟩)|h
 .exact .inl (.inl (s.list h))
 .exact .inl (.inr {o,s _ _ (λ_=>nofun) h})
 .exact .inr h
def LI(A:zj)(F:List Addr)(H:Hp):Prop:=∀x∈F,∀o,H x=some o->(∃xs,o = .lst xs)\/∃dx m wl sl c,o = .ins A.qx dx (zW m wl sl c)
theorem LI.cons{A:zj}{a p wl sl:Addr}{cells:List Addr}{H:Hp}{m:Int}{d:DM}(P:Pot H a)(D:DkA A H p wl sl cells m d):LI A (a::p::wl::sl::cells) H:=λx hx=>by
 rcases OH.mp hx with rfl|hx
 .exact P.lst _ 'z'
 .exact D.lst x hx
theorem TB.lst{A:zj}{F:List Addr}{H H':Hp}(h:TB A H)(k:ao F H H')(l:LI A F H):TB A H':=h.keep k λx hx o e=>by
 rcases l x hx o e with ⟨_,rfl⟩|⟨_,_,_,_,_,rfl⟩<;>exact {λ_ z=>(by cases z),λ_ z=>(by cases z)}
theorem C4{k:Nat}(h:gs[k]?=some r):(dS k rs gs [] [] sd).add 0 (aj r.row)=dS (k+1) rs gs [] [] sd:=by
 unfold dS DM.add;rw [O6,h];simp [txs]
section
variable {P:OL}{w:O1}{K:Frag}{mg:Str->Option Value}{base:Heap}{A:zj}
structure M1(A:zj)(H0:Hp)(a p wl sl:Addr)(cells:List Addr)(m:Int)(d bl:Addr)(n many:Nat)(nm:Str)(rs gs ls:List PR)(us:List T3)(Xs:Tab)(tn:List Str)(H':Hp):Prop where
 s:zI H0 H'
 tb:TB A H'
 f0:∀x∈a::p::wl::sl::cells,H0 x=none
 pot:Pot H' a
 sc:Sc n many nm rs gs ls tn
 dk:DkA A H' p wl sl cells m (dS many rs gs ls tn (some (aG 4 n (zr n) us)))
 md:cV H' (a::p::wl::sl::cells) d Xs
 hbl:H' bl=some (.lst ((grB (lk (zr n) nm) gs).map V.int))
 bn:bl∉a::p::wl::sl::cells
 d0:H0 d=none
section
variable {H0 H H':Hp}{a p wl sl d bl:Addr}{cells:List Addr}{m:Int}{n many:Nat}{nm:Str}{rs gs ls:List PR}{us:List T3}{Xs:Tab}{tn:List Str}
theorem M1.wr(h:M1 A H0 a p wl sl cells m d bl n many nm rs gs ls us Xs tn H)(k:ao (p::wl::sl::cells) H H')(sc:Sc n many nm rs gs F z)(dk:DkA A H' p wl sl cells m (dS many rs gs F z (some (aG 4 n (zr n) us)))):M1 A H0 a p wl sl cells m d bl n many nm rs gs F us Xs z H':=by
 have k2:ao (a::p::wl::sl::cells) H H':=k.mono λx hx=>OI _ hx;exact {h.s.kp k2 h.f0,h.tb.lst k h.dk.lst,h.f0,h.pot.kp k (h.pot.nd h.dk rfl),sc,dk,h.md.kp k2,k2 _ _ h.hbl h.bn,h.bn,h.d0}
theorem M1.but(h:M1 A H0 a p wl sl cells m d bl n many nm rs gs ls us Xs tn H)(b:But a H H')(P:Pot H' a):M1 A H0 a p wl sl cells m d bl n many nm rs gs ls us Xs tn H':=by
 have k2:ao (a::p::wl::sl::cells) H H':=(Pot.keeps b).mono 'z';have nd:=h.pot.nd h.dk rfl;exact {h.s.kp k2 h.f0,h.tb.lst (Pot.keeps b) h.pot.lst,h.f0,P,h.sc,h.dk.keep (Pot.keeps b) λx hx z=>nd (by rw [<- ON.mp z];exact hx),h.md.kp k2,k2 _ _ h.hbl h.bn,h.bn,h.d0}
theorem M1.put(h:M1 A H0 a p wl sl cells m d bl n many nm rs gs ls us Xs tn H)(e:H d=some (.dK (sk Z)))(U:Dct (MdR H (a::p::wl::sl::cells)) F G):M1 A H0 a p wl sl cells m d bl n many nm rs gs ls us G tn (upd H d (.dK (sk F))):=by
 have up:∀{c o},H c=some o->(∀kvs,o≠.dK kvs)->upd H d (.dK (sk F)) c=some o:=λ{c o} J n=>by rw [ze (λz=>by rw [z,e] at J;exact n _ (Pn.inj J).symm)];exact J
 have k:ao [d] H (upd H d (.dK (sk F))):=λc o e n=>by rw [ze (λz=>n (by rw [z];simp))];exact e
 have ne:∀x∈a::p::wl::sl::cells,x∉[d]:=λx hx z=>h.md.dn (by rw [<- ON.mp z];exact hx);refine {h.s.kp k λx hx=>by rw [ON.mp hx];exact h.d0,h.tb.keep k λx hx o O=>?_,h.f0,h.pot.kp k (ne _ (OT ..)),h.sc,h.dk.keep k λx hx=>ne x (OI _ hx),{{F,zu,U.imp λv l ⟨p,W,n,S⟩=>{p,W,n,up S (λ_ z=>HO.noConfusion z)}},h.md.dn},up h.hbl (λ_ z=>HO.noConfusion z),h.bn,h.d0};rw [ON.mp hx,e] at O;cases O;exact {λ_ z=>(by cases z),λ_ z=>(by cases z)}
theorem M1.same(h:M1 A H0 a p wl sl cells m d bl n many nm rs gs ls us Xs tn H)(s:zi H H'):M1 A H0 a p wl sl cells m d bl n many nm rs gs ls us Xs tn H' :=
 {h.s.trans (.of s),h.tb.same s,h.f0,h.pot.same s,h.sc,h.dk.same s,h.md.same s,s _ _ h.hbl,h.bn,h.d0}
end
structure MdX(A:zj)(H0:Hp)(sc:Addr)(i:Nat)(a p wl sl d bl rl:Addr)(cells:List Addr)(m:Int)(n many:Nat)(nm:Str)(rs gs:List PR)(us:List T3)(as:List Addr)(Xs:List PR->Tab)(Zq:Bool)(σ:L2.St)(H':Hp):Prop where
 ex:∃(t1 t2 t3 t4:Option V)(bh:Int)(ls:List PR)(tn:List Str),σ=[some (.ref sc),some (.int i),some (.ref a),some (.ref p),some (.ref d),some (.str nm),some (.ref bl),some (.ref rl),some (.int many),t1,some (.int bh),t2,t3,t4]/\bh=(n:Int)+many+ls.length/\M1 A H0 a p wl sl cells m d bl n many nm rs gs ls us (Xs ls) tn H'/\(Zq=false->ls=[])
 hrl:H' rl=some (.lst (as.map V.ref))
structure WrI(A:zj)(H:Hp)(p wl sl:Addr)(cells:List Addr)(m:Int)(rs gs:List PR)(sd:Tx)(v0 v1 v2 v3 v4 v5 v6 v7 v8 v10 v11 v12 v13:Option V)(j:Nat)(σ:L2.St)(H':Hp):Prop where
 ex:∃t,σ=[v0,v1,v2,v3,v4,v5,v6,v7,v8,t,v10,v11,v12,v13]
 kp:ao (p::wl::sl::cells) H H'
 dk:DkA A H' p wl sl cells m (dS j rs gs [] [] sd)
theorem pN{zs:List Str}:(zs.map V.str).all ah=true:=by simp [ah]
theorem LX(zs:List Str):eqL (zs.map V.str) (zs.map V.str)=true:=lC pN λx hx b e=>by
 obtain ⟨y,_,rfl⟩:=Qt.mp hx;cases e
theorem mY:∀{xs ys:List T3},xs.map (·.1)=ys.map (·.1)->(ys.map (·.1)).Nodup->(∀t∈xs,t∈ys)->xs=ys
 | [],[],_,_,_=>rfl
 | [],_::_,h,_,_=>by cases h
 | _::_,[],h,_,_=>by cases h
 | x::xs,y::ys,h,nd,s=>by
  rw [Pf,Pf] at h;injection h with h1 h2
  obtain ⟨n1,G⟩:=QJ.mp nd;have e:x=y:=by
   rcases OH.mp (s x (OT ..)) with z|z
   .exact z
   .exact absurd (Qt.mpr ⟨x,z,h1⟩) n1
  rw [e,mY h2 G λt F=>?_];rcases OH.mp (s t (OI _ F)) with z|z
  .subst z;exact absurd (by rw [<- h2];exact Qt.mpr {t,F,rfl}) n1
  .exact z
structure KyI(H:Hp)(ts:List T3)(i:Nat)(τ:L2.St)(ys:List V)(H':Hp):Prop where
 ex:∃t1,τ=[t1]
 ys:ys=((ts.take i).map (·.1)).map V.int
 same:zi H H'
structure TyI(H:Hp)(p:Addr)(ts:List T3)(i:Nat)(τ:L2.St)(ys:List V)(H':Hp):Prop where
 ex:∃t1,τ=[t1,some (V.ref p)]
 ys:ys=((ts.take i).map λt=>(toString t.1:Str)).map V.str
 same:zi H H'
structure StI(H:Hp)(ts:List T3)(i:Nat)(τ:L2.St)(ys:List V)(H':Hp):Prop where
 ex:∃t1,τ=[t1]
 ys:ys=((ts.take i).map λt=>(toString t.1:Str)).map V.str
 same:zi H H'
structure Kf(A:zj)(H:Hp)(sc:V)(i:Nat)(σ:L2.St)(H':Hp):Prop where
 ex:∃t1 t2 t3 t4 t5 t6 t7 t8 t9 t10 t11 t12 t13,σ=[some sc,t1,t2,t3,t4,t5,t6,t7,t8,t9,t10,t11,t12,t13]
 s:zI H H'
 tb:TB A H'
def k7(t1 t2:Addr)(K:Frag):Sp:=λvs H Q _=>∃(a:Addr)(ns:List Int),vs=[.ref a]/\SqL K H a (ns.map V.int)/\ns.length<=63/\H t1=some (.tbl #[])/\H t2=some (.tbl #[])/\t1≠t2/\∀H',Q (.bl true) H'
theorem cG:zw Zj Ws (zk g6):=fsc
theorem Iy:bq { kind:=.function,names:=[(OA ".0",.local),(OA "_law_spot",.local)],isGenerator:=false,isCoroutine:=false,more:=[] } (zk g6).names Zj ["_law_spot"] [none]=true:=by decide +kernel
theorem MB:(["_law_spot"]:List Str).Nodup:=by decide +kernel
theorem Eh:bq { kind:=.function,names:=[(OA ".0",.local),(OA "_law_spot",.local),(OA "_law_disk",.free)],isGenerator:=false,isCoroutine:=false,more:=[] } (zk g6).names Zj ["_law_spot","_law_disk"] [none,some 3]=true:=by decide +kernel
theorem Od:(["_law_spot","_law_disk"]:List Str).Nodup:=by decide +kernel
theorem L5:bq { kind:=.function,names:=[(OA ".0",.local),(OA "_law_birth",.local),(OA "str",.globalImplicit)],isGenerator:=false,isCoroutine:=false,more:=[] } (zk g6).names Zj ["_law_birth"] [none]=true:=by decide +kernel
theorem JE:(["_law_birth"]:List Str).Nodup:=by decide +kernel
theorem Co(F:Fun K "law" "law" g6 f fd)(T:Txt w K mg A)(YG:GF P w K mg base true 1 "_law_pot" Wx (oH K))(Z5:GF P w K mg base true 1 Wh Yl gH)(XF:GC P w K mg base true 3 "Disk" A.qx Xy (y9 A))(Y2:GF P w K mg base true 8 "_law_begun" WI (xJ A))(Y1:GF P w K mg base true 3 "_law_group" WK vg)(ZG:GF P w K mg base true 3 "row_text" ["row"] pF)(ZN:GM P w K mg base true 3 A.qx "write" WM (pV A))(ZO:GF P w K mg base true 2 V9 XI mH)(X1:GF P w K mg base true 12 "risen" WT (yG A))(YO:GF P w K mg base true 6 "_law_told" ["_law_state"] (sV A))(Z6:GM P w K mg base true 1 A.State Wn YM (jr A))(Ze:GF P w K mg base true 1 VX ["_law_model"] xQ)(Z2:GM P w K mg base true 1 A.State Wc YM (kA A))(Z7:GM P w K mg base true 1 A.State Wp YM (iw A))(ZE:GM P w K mg base true 1 A.qx "told" Xb (qV A)):zp P w K mg base CX0 true 13 f fd Ws (k7 A.Da A.vl K):=by
 refine F.o cG λZ0 Ar outer s H vs Q E G h=>?_;obtain ⟨sc,ns,rfl,hS,hl,kD,hQ,k0,q⟩:=h;have hu:_<cLine:=Px (zT G);refine {_,(W.h (zg (bG Qp.never (λ_=>rfl) (cT rfl T.ro (zc (zQ (vq rfl) rfl T.aM boot_max (zc zq (zc (zQ (wm rfl) rfl T.bc boot_min (zc zq (zc (zQ jN rfl T.tj Pi (zc (zb 0) zd)) zd))) zd))) zd)) (zC (i:=1) cG.nd rfl (OO rfl))
   (zg (zy (i:=2) cG.nd rfl (OO rfl) (caD (zB YG G rfl (clP (zc (zb 0) (zc (zb 1) zd))))))
   (zg (zy (i:=3) cG.nd rfl (RU rfl) (jz XF G rfl (zc zq (zc (zJ aX zq (caD (zB Z5 G rfl (clP (zc (zb 2) (zc zq zd)))))) zd))))
   (zg (zy (i:=4) cG.nd rfl (OO rfl) (caD (zB Y2 G rfl (clP (zc (zb 2) (zc (zb 3) zd))))))
   (zg (eY (caD (zB Y1 G rfl (clP (zc (zb 2) (zc (zb 4) zd))))) (fV (n:=3) (gsD (aE (zC (i:=5) cG.nd rfl (OO rfl)) (gsD (aE (zC (i:=6) cG.nd rfl (OO rfl)) (gsD (aE (zC (i:=7) cG.nd rfl (OO rfl)) dB))))))))
   (zg (zy (i:=8) cG.nd rfl (OO rfl) (caD (zB Z5 G rfl (clP (zc (zb 2) (zc (zJ aX (zQ cu rfl T.tj Pi (zc (zb 7) zd)) zq) zd))))))
   (zg (bG Qp.never (λ_=>rfl) (liD (bJ (clE (dA dU (zb 7) dF (dG (zb 8)))))) (zC (i:=9) cG.nd rfl (OO rfl))
   (zh (aL (mD (bc (clE (zb 3)) T.pL ZN G (clP (zc zq (zc (caD (zB ZG G rfl (clP (zc (zb 9) zd)))) zd))))))))
   (zg (zy (i:=10) cG.nd rfl (OO rfl) (zJ aX (zQ cu rfl T.tj Pi (zc (zL (fZ (zT G)) (zb 4) zF (λ_ _=>rfl)) zd)) (zb 8)))
   (zg (hU (zM (eX (je (tD (zS (clO (oI0 kQ)) (clE (zb 8)) (clE (zQ cu rfl T.tj Pi (zc (zb 7) zd))) (zK _))) (ju (tD (zS (clO (oE (aU hu))) (clE (caD (zB Z5 G rfl (clP (zc (zb 2) (zc zq zd)))))) (clE zq) (zK _))))))
   (zg (zy (i:=11) cG.nd rfl (OO rfl) (caD (zB ZG G rfl (clP (zc (zL zX (zb 7) (zb 8) (λ_ _=>rfl)) zd)))))
   (zh (aL (mD (bc (clE (zb 3)) T.pL ZN G (clP (zc zq (zc (dA dU (zb 11) dF (dG (zJ aX zq (caD (zB Z5 G rfl (clP (zc (zb 2) (zc (zJ (oI0 jg) (zQ cu rfl T.tj Pi (zc (zb 11) zd)) zq) zd)))))))) zd))))))))
   zR))
   (zg (hU (zM (tD (zS (clO (oE (aU hu))) (clE (zb 8)) (clE (zQ cu rfl T.tj Pi (zc (zb 7) zd))) (zK _)))
   (zh (eY (zb 6) (fO (zb 4) (zb 5) (iK (zT G)))))
   zR))
   (zg (hU (zM (tD (zS (clO (oE (aU hu))) (clE (caD (zB Z5 G rfl (clP (zc (zb 2) (zc zq zd)))))) (clE zq) (zK _)))
   (zg (aL (mD (bc (clE (zb 3)) T.pL ZN G (clP (zc zq (zc (caD (zB ZG G rfl (clP (zc (bS (zc zF (zc (zb 10) (zc (zb 10) (zc eG (zc zF (zc zq (zc (caD (zB ZO G rfl (clP (zc (zb 2) zd)))) zd)))))))) zd)))) zd))))))
   (zg (eY (bw (zc (zb 10) zd)) (fO (zb 4) zF (iK (zT G))))
   (zh (zy (i:=10) cG.nd rfl (OO rfl) (zJ aX (zb 10) zq)))))
   zR))
   (zg (zy (i:=12) cG.nd rfl (OO rfl) (caD (zB X1 G rfl (clP (zc (zb 3) zd)))))
   (zg (zM (eX (j4 (tD (zS (clO (Kp G.cA)) (clE (caD (zB YO G rfl (clP (zc (zb 12) zd))))) (clE (zb 4)) (zK _))) (kS (tD (zS (clO (oE (eO hu))) (clE (m0D (zH (clE (zb 12)) T.qs Z6 G))) (clE (zb 10)) (zK _))))))
   (zh (zx eG))
   zR)
   (zg (zy (i:=13) cG.nd rfl (OO rfl) (caD (zB Ze G rfl (clP (zc (zb 4) zd)))))
   (zg (zM (eX (j4 (tD (zS (clO (oE (eO hu))) (clE (cX (λ_=>rfl) (zY.of Iy) (liD (bJ (clE (m0D (zH (clE (zb 12)) T.qs Z2 G))))) (λ_ _ _ _ _=>(zC (i:=0) MB rfl (OO rfl))) (λ_ _ _ _ _=>bW) (λ_ _ _ _ _=>(zL zX (zb 0) zq (λ_ _=>rfl))))) (clE (zb 13)) (zK _))) (kS (tD (zS (clO (oE (eO hu))) (clE (m0D (zH (clE (zb 12)) T.qs Z7 G))) (clE zq) (zK _))))))
   (zh (zx eG))
   zR)
   (zh (zM (tD (zS (clO (oE (eO hu))) (clE (cX (λ_=>rfl) (zY.of Eh) (liD (bJ (clE (m0D (zH (clE (zb 12)) T.qs Z2 G))))) (λ_ _ _ _ _=>(zC (i:=0) Od rfl (OO rfl))) (λ_ _ _ _ _=>bW) (λ_ _ _ _ _=>(zL zX (qL (mD (bc (clE (zb 1)) T.pL ZE G (clP (zc (zL zX (zb 0) zq (λ_ _=>rfl)) (zc (zL zX (zb 0) zq (λ_ _=>rfl)) zd))))) zF) zq (λ_ _=>rfl))))) (clE (cX (λ_=>rfl) (zY.of L5) (liD (bJ (clE (zb 13)))) (λ_ _ _ _ _=>(zC (i:=0) JE rfl (OO rfl))) (λ_ _ _ _ _=>bW) (λ_ _ _ _ _=>(bF dv rfl T.Ut RD (zc (zb 0) zd))))) (zK _)))
   (zh (zx eG))
   zR)))))))))))))))))
   (zh (zx eG)))),?_}
 have hW:TB A H:={.inl kD,.inl hQ,k0};ac_rfl;refine {_,.inl hS,?_};rw [OB];have hN:∃N:Nat,(if (if (ns.length:Int)<6 then (ns.length:Int) else 6)>2 then if (ns.length:Int)<6 then (ns.length:Int) else 6 else 2)=(N:Int)/\N<=6:=by
  by_cases h1:(ns.length:Int)<6
  .rw [if_pos h1];split
   .exact {ns.length,rfl,'l'}
   .exact {2,rfl,'d'}
  .rw [if_neg h1];exact {6,rfl,'d'}
 obtain ⟨N,eN,m2⟩:=hN;rw [eN,Qj];refine {'l','l',aC.rng (Kf A H (.ref sc)) {{_,_,_,_,_,_,_,_,_,_,_,_,_,rfl},zI.refl,hW} ?_ ?_}
 rotate_left
 .rintro σ H' ⟨⟨t1,t2,t3,t4,t5,t6,t7,t8,t9,e1,fo,f3,eC,rfl⟩,s0,cD⟩;ac_rfl;exact q H'
 .rintro i σ H0 hi ⟨⟨t1,t2,t3,t4,t5,t6,t7,t8,t9,e1,fo,f3,eC,rfl⟩,s0,cD⟩;have ej:(0+(i:Int))=((i:Nat):Int):=by lia
  erw [ej];refine ptI (SqL.vr s0 hS) 'l' 'l' λa H1 c3 a0 P1=>?_;ac_rfl;refine tkI P1 'd' 'd' λr H2 b2 P2 r0 r1=>?_;ac_rfl;refine λp dx H3 n3=>{p,dx,_,rfl,n3.at_,'l','l',λwl sl cells H4 D4 b4 f4=>{rfl,?_}};have Xl:zi H0 H3:=λx o e=>n3.same _ _ (b2 _ _ (zz e a0) (c3 _ _ e));have p0:H0 p=none:=by
   cases e:H0 p with
   | none=>rfl
   | some o=>have:=n3.no;rw [b2 _ _ (zz e a0) (c3 _ _ e)] at this;cases this
  have P4:Pot H4 a:=by
   obtain ⟨x,y,ea,er⟩:=P2.ex;exact {{x,y,b4 _ _ (zz ea n3.no) (n3.same _ _ ea),er}}
  have f0:∀x∈a::p::wl::sl::cells,H0 x=none:=λx hx=>by
   rcases OH.mp hx with rfl|hx
   .exact a0
   rcases OH.mp hx with rfl|hx
   .exact p0
   cases e:H0 x with
   | none=>rfl
   | some o=>have:=f4 x hx;rw [Xl _ _ e] at this;cases this
  have hR:zI H0 H4:=λx o n e=>b4 _ _ (zz e p0) (Xl _ _ e);have hY:TB A H2:=(cD.same c3).lst (Pot.keeps b2) P1.lst;have hh:TB A H4:=(hY.same n3.same).keep (F:=[p]) (λc o e n=>b4 _ _ (λz=>n (by rw [z];simp)) e) λx hx o e=>by
   rw [ON.mp hx,n3.at_] at e;cases e;exact {λ_ z=>(by cases z),λ_ z=>(by cases z)}
  ac_rfl;refine {a,p,wl,sl,cells,14+r,rfl,P4,D4,'l','l',λd n rs us H5 k5 d4 B=>?_};ac_rfl;refine {a,d,_,n,rfl,B.pot,OT ..,B.md,B.n1.1,B.n1.2,λgp nm bl rl as gs H6 b6 P6 hg hbl hrl gT iv g1 g8 gG k4 hP=>?_};have d7:∀y∈a::p::wl::sl::cells,∃o,H5 y=some o:=λy hy=>by
   rcases OH.mp hy with rfl|hy
   .obtain ⟨_,_,e2,_⟩:=B.pot.ex;exact {_,e2}
   .exact B.dk.live _ hy
  have nF:∀c,H5 c=none->c∉a::p::wl::sl::cells:=λc e z=>by obtain ⟨o,e2⟩:=d7 c z;rw [e] at e2;cases e2
  have ka:∀{H H':Hp},But a H H'->ao (a::p::wl::sl::cells) H H':=λb=>(Pot.keeps b).mono 'z';have ku:=B.pot.nd B.dk rfl;have da:∀{H H':Hp}{d:DM},DkA A H p wl sl cells (14+r) d->But a H H'->DkA A H' p wl sl cells (14+r) d:=λD b=>D.keep (Pot.keeps b) λx hx z=>ku (by rw [<- ON.mp z];exact hx);have hs:zI H0 H6:=(hR.kp k5 f0).kp (ka b6) f0;have j2:TB A H6:=(hh.lst k5 (.cons P4 D4)).lst (Pot.keeps b6) B.pot.lst;have d0:H0 d=none:=by
   cases e:H0 d with
   | none=>rfl
   | some o=>have:=b4 _ _ (zz e p0) (Xl _ _ e);rw [d4] at this;cases this
  refine {gp,_,rfl,SqT.of hg,rfl,?_};erw [hrl];have lg:=aO gT;rw [OB,lg];refine tkI P6 'l' 'l' λr2 H7 b7 P7 l0 lx=>?_;obtain ⟨many,rfl⟩:∃many:Nat,r2=many:={r2.toNat,'l'};have Z:=nF rl hP;have dt:=nF bl k4;have cC:H7 rl=some (.lst (as.map V.ref)):=b7 _ _ (λz=>Z (by rw [z];simp)) hrl;have eW:=b7 _ _ (λz=>dt (by rw [z];simp)) hbl;have b5:Paired (i3 H7) as gs:=Paired.wa gT λx r e=>b7 _ _ (λz=>by obtain ⟨_,_,e2,_⟩:=P6.ex;have e:H6 x=_:=e;rw [z,e2] at e;cases e) e;have M7:=(B.md.kp (ka b6)).kp (ka b7);have D7:=da (da B.dk b6) b7;have js:=hs.kp (ka b7) f0;have kb:=j2.lst (Pot.keeps b7) P6.lst;ac_rfl;refine {_,cC,λr3 H8 n8=>?_};have c1:bj (as.map V.ref) none (some (many:Int))=(as.take many).map V.ref:=by rw [ph 'l' (by rw [OB];lia),Qj,List.map_take]
  rw [c1] at n8;have eg:many<=gs.length:=by lia
  have f5:(as.take many).length=many:=by rw [O8];lia
  have aH:∀{k:Nat},k<=gs.length->Sc n k nm rs gs [] []:=λhk=>{B.n1.1,B.n1.2,B.len,B.rows,g1,g8,gG,iv,hk,.inl rfl,'z',λ_ h=>(by cases h)};have D8:=D7.same n8.same;have e0:({[txs rs,[],[]],some (aG 4 n (zr n) us)}:DM)=dS 0 rs gs [] [] (some (aG 4 n (zr n) us)):=by simp [dS,txs]
  rw [e0] at D8;refine {{_,SqL.of n8.at_},aC.lst (xs:=(as.take many).map V.ref) (WrI A H8 p wl sl cells (14+r) rs gs (some (aG 4 n (zr n) us)) (some (.ref sc)) (some (.int i)) (some (.ref a)) (some (.ref p)) (some (.ref d)) (some (.str nm)) (some (.ref bl)) (some (.ref rl)) (some (.int many)) e1 fo f3 eC) {{_,rfl},λ_ _ e _=>e,D8} (λj σ H' _ I=>SqL.of (I.kp _ _ n8.at_ λz=>(D7.live _ z).elim λo e=>(by have:=n8.no;rw [e] at this;cases this))) ?_ ?_}
  .rintro j v σ H' hv ⟨⟨t,rfl⟩,kp,dk⟩;rw [OV] at hv;obtain ⟨x,hx,rfl⟩:=O2.mp hv;have hj:j<many:=by rw [<- f5];exact (OE.mp hx).1
   rw [QL hj] at hx;have bL:gs[j]?=some gs[j]:=KE 'l';generalize gs[j]=a7 at bL;have hL:=cf b5 hx bL;have fk:FK A H8 H':=.lst kp D8.lst;have g7:H' x=some (.tup a7.row):=fk.t (n8.same _ _ hL);obtain ⟨hT,c5,e5⟩:=dk.ob;have rk:a7.Ok:=(aH (k:=j+1) 'l').ok a7 (by rw [Qe];exact OG _ (OX (show (gs.take (j+1))[j]?=some a7 by rw [QL (Ri j)];exact bL)));obtain ⟨_,bx,df⟩:=rk.txt;have lj:=(aH (k:=j) 'l').len;have lr:((dS j rs gs [] [] (some (aG 4 n (zr n) us))).rows.getD 0 []).length=n+j:=by show (txs (rs++gs.take j)++[]).length=_;rw [Qe];unfold txs;rw [OB,lj]
   have n4:=B.n1.2;ac_rfl;refine {hT,_,e5,jB,x,a7.row,rfl,.inr g7,(show 7<=10 by decide),rk.parts,λH9 s9=>{p,wl,sl,cells,_,_,0,_,rfl,dk.same s9,(show 0<3 by decide),by rw [lr];lia,'l','l','l',λbp fF hI=>?_}};rw [C4 bL] at fF;exact {{_,rfl},kp.trans ((ao.same s9).trans hI),fF}
  .rintro σ H9 ⟨⟨t,rfl⟩,kp,dk⟩;rw [OB,f5] at dk;have mc:DkA A H7 p wl sl cells (14+r) (dS 0 rs gs [] [] (some (aG 4 n (zr n) us))):=by rw [<- e0];exact D7
   have b9:M1 A H0 a p wl sl cells (14+r) d bl n many nm rs gs [] us (zr n) [] H9:=by
    have kF:ao (a::p::wl::sl::cells) H8 H9:=kp.mono λx hx=>OI _ hx;exact {(js.trans (.of n8.same)).kp kF f0,(kb.same n8.same).lst kp D8.lst,f0,(P7.same n8.same).kp kp ((P7.same n8.same).nd D8 rfl),aH eg,dk,(M7.same n8.same).kp kF,kF _ _ (n8.same _ _ eW) dt,dt,d0}
   have a3:H9 rl=some (.lst (as.map V.ref)):=kp _ _ (n8.same _ _ cC) λz=>Z (OI _ z);have kf:Paired (i3 H9) as gs:=by
    have fk:FK A H8 H9:=.lst kp D8.lst;exact Paired.wa b5 λx r e=>fk.t (n8.same _ _ e)
   obtain ⟨k8,e9,hE⟩:=b9.md.ex;obtain ⟨pb,eb,hq⟩:∃pb,look k8 "b"=some (.ref pb)/\H9 pb=some (.lst ((rng n).map V.int)):=by
    rcases hE.look "b" with ⟨v,l',d1,d2,p1,rfl,pa,hp⟩|⟨d1,d2⟩
    .rw [ij B.n1.1,if_pos rfl] at d2;cases d2;exact ⟨p1,d1,hp⟩
    .rw [ij B.n1.1,if_pos rfl] at d2;cases d2
   erw [kC];refine {_,.inl e9,.ref pb,by rw [dR];exact eb,?_};erw [hq];rw [OB,dQ];have a8:∀{Xs:Tab}{tn:List Str}{x1 x2 x3 x4:Option V}{H':Hp},H' rl=some (.lst (as.map V.ref))->M1 A H0 a p wl sl cells (14+r) d bl n many nm rs gs [] us Xs tn H'->MdX A H0 sc i a p wl sl d bl rl cells (14+r) n many nm rs gs us as (λ_=>Xs) false [some (.ref sc),some (.int i),some (.ref a),some (.ref p),some (.ref d),some (.str nm),some (.ref bl),some (.ref rl),some (.int many),x1,some (.int ((n:Int)+many)),x2,x3,x4] H':=λe m=>{{_,_,_,_,_,[],_,rfl,'z',m,λ_=>rfl},e};refine {MdX A H0 sc i a p wl sl d bl rl cells (14+r) n many nm rs gs us as (λ_=>zr n) false,{_,.inl a3,?_},?_}
   .rw [OB,lg];have ar:a≠rl:=λz=>Z (by rw [<- z];simp);refine aY (λhm=>?_) (λhm=>a8 a3 b9);have hm:=of_decide_eq_true hm;have ih:many<gs.length:=by lia
    refine tkI b9.pot 'd' 'd' λr4 bp dd j5 _ _=>?_;have O:=b9.but dd j5;have YD:bp rl=some (.lst (as.map V.ref)):=dd _ _ ar.symm a3;have f7:Paired (i3 bp) as gs:=Paired.wa kf λx r e=>dd _ _ (λz=>by obtain ⟨_,_,e2,_⟩:=b9.pot.ex;have e:H9 x=_:=e;rw [z,e2] at e;cases e) e;ac_rfl;refine aY (λ_=>?_) (λ_=>a8 YD O);have dg:as[many]?=some as[many]:=KE 'l';have eu:gs[many]?=some gs[many]:=KE ih;generalize as[many]=x at dg;generalize gs[many]=rx at eu;have ha:=cf f7 dg eu;have rk:rx.Ok:=(aH (k:=many+1) 'l').ok rx (by rw [Qe];exact OG _ (OX (show (gs.take (many+1))[many]?=some rx by rw [QL (Ri many)];exact eu)));obtain ⟨hb,bx,df⟩:=rk.txt;refine {_,.inl YD,.ref x,ee (by rw [OV,dg];rfl),x,rx.row,rfl,.inr ha,(show 7<=10 by decide),rk.parts,λkn fv=>?_};have ab:=O.same fv;obtain ⟨ft,l7,hK⟩:=ab.dk.ob;refine {ft,_,hK,jB,?_};ac_rfl;refine {aQ 'l',tkI ab.pot 'l' 'l' λr5 dT a5 ec lp m1=>?_};obtain ⟨cc,rfl⟩:∃cc:Nat,r5=cc:={r5.toNat,'l'};have Xr:=ab.but a5 ec;have XQ:=a5 _ _ ar.symm (fv _ _ YD);have mu:(sg (aj rx.row)).length=(aj rx.row).length:=zV ..;have et:Txt.slice (aj rx.row) none (some (1+(cc:Int)))=tx ((sg (aj rx.row)).take (cc+1)):=by
     rw [show (1:Int)+cc=((cc+1:Nat):Int) by lia];exact mi 'l'
    have fm:=rk.cC (k:=cc+1) 'l';have kx:(tx ((sg (aj rx.row)).take (cc+1))).length=cc+1:=by rw [fU,O8];lia
    have e3:asc (tx ((sg (aj rx.row)).take (cc+1)))=true:=kg hb λc hc=>Rf hc;erw [et];generalize tx ((sg (aj rx.row)).take (cc+1))=z at fm kx e3;have lm:=(aH eg).len;have n4:=B.n1.2;have lr:((dS many rs gs [] [] (some (aG 4 n (zr n) us))).rows.getD 0 []).length=n+many:=by show (txs (rs++gs.take many)++[]).length=_;rw [Qe];unfold txs;rw [OB,lm]
    refine {aQ 'l',p,wl,sl,cells,_,_,0,z,rfl,Xr.dk,(show 0<3 by decide),by rw [lr];lia,'l','l','l',λdp ba gu=>?_}
    .have ed:(dS many rs gs [] [] (some (aG 4 n (zr n) us))).add 0 z=dS many rs gs [] [z] (some (aG 4 n (zr n) us)):=by simp [dS,DM.add]
     rw [ed] at ba;have s:=aH eg;exact a8 (gu _ _ XQ λz=>Z (OI _ z)) (Xr.wr gu {s.n1,s.n4,s.rl,s.bg,s.g1,s.g8,s.gp,s.cn,s.m,.inl rfl,'z',λy hy=>by rw [ON.mp hy];exact {fm,e3,'l'}} ba)
   .rintro fS bp ⟨⟨u1,u2,u3,u4,bh,ky,tn,rfl,J,O,lz⟩,YD⟩;cases lz rfl;have J:bh=(n:Int)+many:=by simpa using J
    subst J;erw [YD];rw [OB,lg];refine {MdX A H0 sc i a p wl sl d bl rl cells (14+r) n many nm rs gs us as (λ_=>mS1 n many nm gs) false,?_,?_}
    .refine aY (λhm=>?_) (λhm=>?_)
     .have hm:many=gs.length:=by have:=of_decide_eq_true hm;lia
      obtain ⟨kv,ek,dc⟩:=O.md.ex;have cP:=dc.length;have lb:(zr n).length<=1:=by unfold zr;split<;>simp
      refine {_,ek,by rw [iy,cP];exact aB 'l',?_};rw [jI];have ea:mS1 n many nm gs=ak (zr n) nm (grB (lk (zr n) nm) gs):=by unfold mS1;rw [if_pos hm]
      refine a8 (tn:=tn) (by rw [ze (λz=>by rw [z,ek] at YD;cases YD)];exact YD) ?_;rw [ea];exact O.put ek (dc.put nm {bl,rfl,O.bn,O.hbl})
     .have hm:many≠gs.length:=λz=>hm (decide_eq_true (by rw [z]));have ea:mS1 n many nm gs=zr n:=by unfold mS1;rw [if_neg hm]
      exact a8 YD (by rw [ea];exact O)
    rintro fS kn ⟨⟨u1,u2,u3,u4,bh,ky,tn,rfl,J,ab,lz⟩,en⟩;cases lz rfl;have J:bh=(n:Int)+many:=by simpa using J
    subst J;ac_rfl;refine {MdX A H0 sc i a p wl sl d bl rl cells (14+r) n many nm rs gs us as (mS n many nm gs) true,tkI ab.pot 'd' 'd' λr6 dT a5 ec _ _=>?_,?_}
    .have Xr:=ab.but a5 ec;have XQ:dT rl=some (.lst (as.map V.ref)):=a5 _ _ (λz=>Z (by rw [z];simp)) en;ac_rfl;refine aY (λ_=>?_) (λ_=>{{_,_,_,_,_,[],tn,rfl,'z',by unfold mS;rw [if_pos rfl];exact Xr,λh=>(by cases h)},XQ});obtain ⟨gI,lS,j1⟩:=Xr.dk.ob;refine {gI,_,j1,jB,a,rfl,Xr.pot,λz dp eS hA hz=>{'d',λrp h5 el=>?_}};have hF:=(Xr.but eS hA).same el.same;have S1:Sc n many nm rs gs [LR n many z] tn:=let s:=ab.sc;{s.n1,s.n4,s.rl,s.bg,s.g1,s.g8,s.gp,s.cn,s.m,.inr {z,rfl,hz},s.tn};have rk:(LR n many z).Ok:=S1.ok _ (OG _ (ON.mpr rfl));obtain ⟨_,bx,df⟩:=rk.txt;refine {rp,(LR n many z).row,rfl,.inr el.at_,(show 7<=10 by decide),rk.parts,λh4 aI=>?_};have gr:=hF.same aI;refine {p,wl,sl,cells,_,_,1,_,rfl,gr.dk,(show 1<3 by decide),by show (((txs []).length:Nat):Int)<14+r;simp [txs];lia,'l','l','l',λbf gi fx=>{'d',λnl g0 b0 _=>?_}};have ed:(dS many rs gs [] tn (some (aG 4 n (zr n) us))).add 1 (aj (LR n many z).row)=dS many rs gs [LR n many z] tn (some (aG 4 n (zr n) us)):=by simp [dS,DM.add,txs]
     rw [ed] at gi;have dK:=gr.wr fx S1 gi;have gb:=dK.same b0.same;obtain ⟨kv,ek,dc⟩:=gb.md.ex;have cP:=dc.length;have lb:(mS1 n many nm gs).length<=2:=by
      have lb:(zr n).length<=1:=by unfold zr;split<;>simp
      unfold mS1;split
      .exact PX nX 'l'
      .lia
     have k3:nl∉a::p::wl::sl::cells:=λz=>by
      have:∃o,bf nl=some o:=by
       rcases OH.mp z with z|z
       .obtain ⟨_,_,e2,_⟩:=dK.pot.ex;rw [z];exact {_,e2}
       .exact dK.dk.live _ z
      obtain ⟨o,e⟩:=this;have:=b0.no;rw [e] at this;cases this
     have WN:g0 rl=some (.lst (as.map V.ref)):=b0.same _ _ (fx _ _ (aI _ _ (el.same _ _ (eS _ _ (λz=>Z (by rw [z];simp)) XQ))) λz=>Z (OI _ z));refine {_,ek,by rw [iy,cP];exact aB 'l',?_};rw [jI];refine {{_,_,_,_,_,[LR n many z],tn,rfl,'z',?_,λh=>(by cases h)},by rw [ze (λz=>by rw [z,ek] at WN;cases WN)];exact WN};have ea:mS n many nm gs [LR n many z]=ak (mS1 n many nm gs) "last" [(n:Int)+many]:=by unfold mS;rw [if_neg 'z']
     rw [ea];exact gb.put ek (dc.put "last" {nl,rfl,k3,b0.at_})
    rintro fS dT ⟨⟨v1,v2,v3,v4,bh,ls,m5,rfl,J,Xr,_⟩,XQ⟩;ac_rfl;have S:=Xr.sc;have n4:=S.n4;have g8:=S.g8;have mm:=S.m;have l1:=S.cu;have pl:=S.aI;refine {p,wl,sl,cells,14+r,_,zr n,us,n,4,pS n many rs gs ls,rfl,Xr.dk,Xr.tb,S.cM B.to B.up,λy dp ew gC R=>?_};obtain ⟨fy,yb,yk,yd,u,mb,ts',st,al,nu,pu,XR,Xf,c6⟩:=R.ex;have aF:=FP S al;have d5:=st.files.nd;obtain ⟨hC,kz,dn⟩:=Jn S;have lu:u.length<=1:=by rw [sq al nu (yc n4).nd];unfold zr;split<;>simp
    have lT:=sf (n:=(n:Int)) (ps:=pS n many rs gs ls) (u:=u) (pS n many rs gs ls).length;have lK:∀z,(lk (sbT n (pS n many rs gs ls) u (pS n many rs gs ls).length) z).length<=50:=λz=>by
     have h1:=qu (ps:=pS n many rs gs ls) (m:=(n:Int)) (u:=u) (z:=z) (pS n many rs gs ls).length;rw [sE al] at h1;have:=lH n z;lia
    have a6:∀t∈ts',∃q∈wS many rs gs ls,t=(q.1.n,(q.2.1:Int),(q.2.2:Int)):=λt ht=>S.cD (pu.trans B.up) (XR t ht);have kc:=Xr.md.vr ew;have ba:=Xr.dk.vr ew;have hH:(n:Int)+((pS n many rs gs ls).length:Nat)=bh:=by rw [J,pl];lia
    rw [hH] at st;generalize sbT n (pS n many rs gs ls) u (pS n many rs gs ls).length=uE at st aF d5 lT lK Xf;refine {y,fy,yb,yk,yd,uE,ts',bh,4+1,rfl,st,'l',lK,λD kvs h5 b3 hD fI=>?_};have fq:=kc.same b3;obtain ⟨kl,em,dm⟩:=fq.ex;have a9:=st.same b3;obtain ⟨m4,es⟩:=a9.ob;ac_rfl;refine {{kvs,kl,hD,em,?_,λz v hz=>?_},?_}
    .rw [fI.length,dm.length,OB,(cy _).1.length_eq,<- sq aF d5 dn];simp [names]
    .obtain ⟨i2,h3,hn⟩:=PM hz;obtain ⟨l,WZ,ra,rfl,kE⟩:=Dct.at fI (i:=i2) (by rw [KE h3,hn]);rw [OV] at WZ;obtain ⟨z2,j3,ez⟩:=O2.mp WZ;cases ez;have hO:=(cy _).1.mem_iff.mp (OX j3);obtain ⟨l,ef⟩:∃l,look uE z=some l:=by
      cases e:look uE z with
      | none=>exact absurd hO (dY.mp e)
      | some l=>exact {l,rfl}
     have hM:lk uE z=l:=by unfold lk;rw [ef];rfl
     rcases dm.look z with ⟨v',l',d1,d2,rb,rfl,_,ho⟩|⟨_,d2⟩
     .rw [<- aF z,ef] at d2;cases d2;exact {_,d1,ra,rb,l,rfl,rfl,by rw [<- hM];exact kE,ho}
     .rw [<- aF z,ef] at d2;cases d2
    erw [es,ir];refine {y,fy,yb,yk,yd,uE,ts',bh,4+1,rfl,a9,?_};ac_rfl;refine {_,d,_,rfl,fq,dn,kz,λl ns h4 aI ct g4 km=>?_};have av:=a9.same aI;obtain ⟨nk,et⟩:=av.ob;have k9:ns=ts'.map (·.1):=by
     have k2:∀y,y∈zD (mS n many nm gs ls)↔y∈zD uE:=λy=>{iS (λz=>(aF z).symm) dn,iS aF d5};exact kW km c6 (g4.nodup_iff.mpr hC) (Xf.nodup_iff.mpr cK) λy=>by rw [g4.mem_iff,Xf.mem_iff,fK,k2]
    rw [k9] at ct;erw [et,kO];refine {y,fy,yb,yk,yd,uE,ts',bh,4+1,rfl,av,λl2 ko ts2 bf bt _ Yd e8 ei kk=>?_};have kd:ts2=ts':=by
     have k1:ts2.map (·.1)=ts'.map (·.1):=kW kk c6 ((ei.map (·.1)).nodup_iff.mpr (Xf.nodup_iff.mpr cK)) (Xf.nodup_iff.mpr cK) λy=>(ei.map (·.1)).mem_iff;exact mY k1 (Xf.nodup_iff.mpr cK) λt ht=>ei.mem_iff.mp ht
    subst kd;have g5:=aO e8;have ll:=av.ok.few;have e4:=bt _ _ ct;ac_rfl;refine {{_,SqL.of Yd},aN.lst (xs:=ko.map V.ref) (KyI bf ts2) (λi τ ys H' I=>by rw [I.ys,OB,OB,O8];exact aB 'l') (λi τ ys H' I=>SqL.of (I.same _ _ Yd)) {{_,rfl},rfl,zi.refl _} ?_ ?_}
    .intro N i v τ ys H' hv I hN;obtain ⟨t1,rfl⟩:=I.ex;rw [OV] at hv;obtain ⟨x,hx,rfl⟩:=O2.mp hv;have hi:i<ts2.length:=by rw [<- g5];exact (OE.mp hx).1
     have Yg:=KE hi;have g1:=I.same _ _ (cf e8 hx Yg);ac_rfl;refine {_,.inr g1,_,rfl,hN _ _ _ {{_,rfl},?_,I.same}};rw [I.ys,O6,Yg,Ph,Ph];rfl
    intro τ ys g0 I nf H18 dV;have ey:=I.ys;rw [OB,g5,OQ (Ox _)] at ey;rw [ey] at dV;have Xq:zi bf H18:=I.same.trans dV.same;have cv:=Xq _ _ e4;have fa:=dV.at_;erw [fa,cv];refine {iN,iN,?_};rw [tV,if_neg 'z'];have a4:=(av.same bt).same Xq;obtain ⟨e7,b8⟩:=a4.ob;refine {e7,_,b8,g9,y,fy,yb,yk,yd,uE,ts2,bh,4+1,rfl,a4,?_};ac_rfl;refine {e7,_,b8,kO,y,fy,yb,yk,yd,uE,ts2,bh,4+1,rfl,a4,λl3 j0 ai eD eo _ eB eH dy la=>?_};have eF:ai=ts2:=by
     have k1:ai.map (·.1)=ts2.map (·.1):=kW la c6 ((dy.map (·.1)).nodup_iff.mpr (Xf.nodup_iff.mpr cK)) (Xf.nodup_iff.mpr cK) λy=>(dy.map (·.1)).mem_iff;exact mY k1 (Xf.nodup_iff.mpr cK) λt ht=>dy.mem_iff.mp ht
    subst eF;have ff:=aO eH;have gd:=eo _ _ cv;have hB:=(((ba.same b3).same aI).same bt |>.same Xq).same eo;ac_rfl;refine {{_,SqL.of eB},aN.lst (xs:=j0.map V.ref) (TyI eD p ai) (λi τ ys H' I=>by rw [I.ys,OB,OB,O8];exact aB 'l') (λi τ ys H' I=>SqL.of (I.same _ _ eB)) {{_,rfl},rfl,zi.refl _} ?_ ?_}
    .intro N i v τ ys H' hv I hN;obtain ⟨t1,rfl⟩:=I.ex;rw [OV] at hv;obtain ⟨x,hx,rfl⟩:=O2.mp hv;have hi:i<ai.length:=by rw [<- ff];exact (OE.mp hx).1
     have Yg:=KE hi;have g1:=I.same _ _ (cf eH hx Yg);obtain ⟨U,c4,b1⟩:=a6 ai[i] (Qb hi);obtain ⟨w1,w2,w3⟩:=vE S (sd:=some (aG 4 n (zr n) us)) c4;obtain ⟨zs,z1,z2⟩:=Nf w2;have Dp:=hB.same I.same;obtain ⟨lB,cp,ep⟩:=Dp.ob;have g1:H' x=some (.tup [.int U.1.n,.int U.2.1,.int U.2.2]):=by rw [b1] at g1;exact g1
     have a1:atI [V.int U.1.n,V.int U.2.1,V.int U.2.2] 1=some (.int U.2.1):=rfl;have a2:atI [V.int U.1.n,V.int U.2.1,V.int U.2.2] 2=some (.int U.2.2):=rfl;erw [g1,a1,a2,ep,ud];obtain ⟨hb,bx,df⟩:=w2.txt;refine {p,wl,sl,cells,_,_,U.2.1,U.2.2,aj U.1.row,rfl,Dp,w1,_,rfl,?_};dsimp only;rw [r8,z1];refine {rfl,PV bx 'd',by rw [PQ,PQ,z2];decide,λp1 H2 n=>{_,.inl n.at_,.str (toString U.1.n),ee (j:=1) rfl,hN _ _ _ {{_,rfl},?_,I.same.trans n.same}}};rw [I.ys,O6,Yg,b1,Ph,Ph];rfl
    intro τ ys ly I nc H21 c2;have fL:=I.ys;rw [OB,ff,OQ (Ox _)] at fL;rw [fL] at c2;have aT:zi eD H21:=I.same.trans c2.same;have cn:=aT _ _ gd;have f6:=c2.at_;refine {{_,SqL.of cn},aN.lst (xs:=(ai.map (·.1)).map V.int) (StI H21 ai) (λi τ ys H' I=>by rw [I.ys,OB,OB,O8];exact aB 'l') (λi τ ys H' I=>SqL.of (I.same _ _ cn)) {{_,rfl},rfl,zi.refl _} ?_ ?_}
    .intro N i v τ ys H' hv I hN;obtain ⟨t1,rfl⟩:=I.ex;rw [OV,OV] at hv;obtain ⟨w,hw,rfl⟩:=O2.mp hv;obtain ⟨t,ht,rfl⟩:=O2.mp hw;obtain ⟨U,c4,b1⟩:=a6 t (OX ht);have b:=(vE S (sd:=none) c4).2.1.n;ac_rfl;refine {cQ (by rw [b1];have h1:=b.1;have h2:=b.2;show Int.natAbs U.1.n<_;lia),hN _ _ _ {{_,rfl},?_,I.same}};rw [I.ys,O6,ht,Ph,Ph];rfl
    intro τ ys mC I mN H23 bP;have e6:=I.ys;rw [OB,OB,OQ (Ox _)] at e6;rw [e6] at bP;have fw:=bP.at_;have eT:=bP.same _ _ (I.same _ _ f6);erw [fw,eT];refine {pN,pN,?_};rw [LX,if_neg 'z'];have sS:zi dp H23:=b3.trans (aI.trans (bt.trans (Xq.trans (eo.trans (aT.trans (I.same.trans bP.same))))));exact {{_,_,_,_,_,_,_,_,_,_,_,_,_,rfl},s0.trans (Xr.s.trans (ew.trans (.of sS))),gC.same sS}
end
theorem all_mk{l:OpenLaw}{w:O1}{K:Frag}{h:Heap}{mg:Str->Option Value}{fa:Addr}{a6 aH b5 b6 b3 bt b1 b7 bg av ba ut Z u8 S a0 ai x00 a3 ar x01 aI a5 a9 a8 a7 a4:Addr}{nk dy d5 f5 la k0 h4 k8 c5:Option Addr}{j0 en kx ny oc f3 hI:Array (Option Value)}{k3 et ob f6 d7 n3 gp md nf hC:Value}{e1 ei dn dg eo lj h5 hO lb n6 hh hY nx lT dK eu fF hv e7 hK f7 hR e8 hl hA gG nz m1 mC e6 hH kf:Tok}{eb nq nu gT kz mb:Nat}(X:K.In h)(G:h.Ns OK mg)(m2:mg "law"=some (.ref fa))
  (kF:Q7 K OK "CleanError"=some (some (.ref a6)))
  (nS:Q7 K OK "NoRow"=some (some (.ref aH)))
  (da:Q7 K OK "NoDisk"=some (some (.ref b5)))
  (ec:Q7 K OK "Full"=some (some (.ref b6)))
  (hq:Q7 K OK "Stopped"=some (some (.ref b3)))
  (hc:Q7 K OK "NoFile"=some (some (.ref bt)))
  (cv:Q7 K OK "NoPlace"=some (some (.ref b1)))
  (hn:Q7 K OK "HeldAlready"=some (some (.ref b7)))
  (kd:Q7 K OK "NotHeld"=some (some (.ref bg)))
  (fm:Q7 K OK "NoMark"=some (some (.ref av)))
  (cn:Q7 K OK "NoPart"=some (some (.ref ba)))
  (bP:Q7 K OK "Words"=some (some (.ref ut)))
  (b0:Q7 K OK "Files"=some (some (.ref Z)))
  (bh:Q7 K OK "State"=some (some (.ref u8)))
  (bx:Q7 K OK "Disk"=some (some (.ref S)))
  (kl:FnM K "is_whole" qe)
  (n7:FnM K V8 mK)
  (k2:FnM K Wb j7)
  (d4:FnM K We nE)
  (ly:FnM K "is_name" oV)
  (lB:FnM K "is_word" pB)
  (lg:FnM K "sum_of" oY)
  (df:FnM K "summed" p8)
  (ih:FnM K "body_of" nA)
  (hx:FnM K "row_text" kI)
  (mN:FnM K V1 rB)
  (lp:FnM K "read_row" lF)
  (lr:FnM K "row_of" j9)
  (eg:FnM K VZ mn)
  (js:FnM K "row_at" mZ)
  (dd:FnM K "rows_in" rV)
  (c2:Q7 K OK Wk=some (some (.ref a0)))
  (cD:K.lookup a0=some {k3,nk,.func (fnOf Wk Wk (gB gg) (cZ gg) (zk gg) .none et ob f6 dy (.ref ai) d7),j0})
  (hs:codeIn K (.ref ai) Wk=true)
  (og:tabIn K Wk=some (ai,x00))
  (bL:Up K ai x00=true)
  (kE:K.lookup x00=none)
  (bp:Sg K (.ref a0)=true)
  (k9:aq K S Wo "Disk.__init__" j6)
  (eC:aq K S "stretches" "Disk.stretches" sC)
  (hE:aq K S "next_place" "Disk.next_place" qD)
  (hP:aq K S "told" "Disk.told" qE)
  (dt:aq K S "side" "Disk.side" sG)
  (ew:aq K S "write" "Disk.write" pT)
  (d1:aq K S "put_side" "Disk.put_side" oG)
  (k5:aq K S Wj "Disk.refuse_if_stopped" nH)
  (kD:aq K S "spend" "Disk.spend" rA)
  (ll:aq K S V6 "Disk.first_signs" rS)
  (cc:aq K ut Wo "Words.__init__" pq)
  (g0:aq K ut V7 "Words.take_word" nL)
  (fy:aq K ut Wg "Words.take_number" rF)
  (hW:aq K ut "take_name" "Words.take_name" nB)
  (eD:aq K ut V2 "Words.is_at_end" pI)
  (hN:aq K ut "take_end" "Words.take_end" sx)
  (dT:aq K Z Wo "Files.__init__" rT)
  (eN:aq K Z "names" "Files.names" rQ)
  (eT:aq K Z Wf "Files.many" oF)
  (hr:aq K Z Wl "Files.birth" nO)
  (iv:aq K Z Wi "Files.put" qw)
  (d0:aq K Z "held" "Files.held" mV)
  (hD:aq K Z "living" "Files.living" iZ)
  (kv:aq K Z "copied" "Files.copied" qq)
  (eB:aq K Z "bare" "Files.bare" o3)
  (c3:aq K Z V5 "Files.refuse_if_none" sD)
  (n9:FnM K "files_text" qz)
  (m5:FnM K VW kR)
  (n4:FnM K "take_files" qO)
  (ey:FnM K "take_table" o7)
  (eW:FnM K Wa qN)
  (hb:aq K u8 Wo "State.__init__" ma)
  (gd:aq K u8 Wq "State.files" su)
  (kc:aq K u8 Wc "State.spots" lM)
  (ef:aq K u8 Wn "State.next_number" mO)
  (l1:aq K u8 Wp "State.mark_number" nW)
  (b9:FnM K "mark_text" lE)
  (cP:FnM K V0 jK)
  (nD:FnM K "state_of" mw)
  (kn:FnM K "take_spots" oP)
  (j1:FnM K "mark_at" rq)
  (n5:Q7 K OK Wm=some (some (.ref a3)))
  (g5:K.lookup a3=some {n3,d5,.func (fnOf Wm Wm (gB eU) (cZ eU) (zk eU) .none gp md nf f5 (.ref ar) hC),en})
  (fv:codeIn K (.ref ar) Wm=true)
  (oj:tabIn K Wm=some (ar,x01))
  (bf:Up K ar x01=true)
  (gb:K.lookup x01=none)
  (b2:Sg K (.ref a3)=true)
  (el:FnM K "rows_from" rY)
  (mm:FnM K VY qQ)
  (nc:FnM K V4 sP)
  (ky:FnM K "do_row" rN)
  (er:FnM K V3 ic)
  (l2:FnM K "risen" nh)
  (lu:FnM K "_law_pot" mM)
  (fw:FnM K Wh sh)
  (ka:FnM K "_law_name" qk)
  (n2:FnM K V9 lQ)
  (b8:FnM K "_law_begun" qG)
  (n8:FnM K "_law_group" sR)
  (dk:FnM K VX qj)
  (e4:FnM K "_law_told" l5)
  (lK:FnM K "law" g6)
  (hp:Q7 K OK "abs"=some none)
  (g4:Q7 K OK "all"=some none)
  (e2:Q7 K OK "bool"=some none)
  (lz:Q7 K OK "dict"=some none)
  (hy:Q7 K OK "divmod"=some none)
  (hz:Q7 K OK "enumerate"=some none)
  (eF:Q7 K OK "int"=some none)
  (m4:Q7 K OK "isinstance"=some none)
  (hF:Q7 K OK "len"=some none)
  (ff:Q7 K OK "list"=some none)
  (hS:Q7 K OK "max"=some none)
  (gC:Q7 K OK "min"=some none)
  (e0:Q7 K OK "ord"=some none)
  (ed:Q7 K OK "range"=some none)
  (hQ:Q7 K OK "sorted"=some none)
  (mc:Q7 K OK "str"=some none)
  (fI:Q7 K OK "tuple"=some none)
  (ku:Q7 K OK "zip"=some none)
  (fx:Q7 K OK "FIGURES"=some (some (.str "0123456789" e1)))
  (fo:Q7 K OK "LETTERS"=some (some (.str "abcdefghijklmnopqrstuvwxyz" ei)))
  (eH:Q7 K OK "MOST_FIGURES"=some (some (.int 18 dn)))
  (ea:Q7 K OK "MOST_LETTERS"=some (some (.int 6 dg)))
  (nT:Q7 K OK "MOST_SIGNS"=some (some (.int 20 eo)))
  (cC:Q7 K OK "MODULUS"=some (some (.int 65521 lj)))
  (k1:Q7 K OK "FIRST_WORD"=some (some (.str "mark" h5)))
  (c6:Q7 K OK "LEAST_STRETCHES"=some (some (.int 3 hO)))
  (d2:Q7 K OK "MOST_STRETCHES"=some (some (.int 16 lb)))
  (dc:Q7 K OK "LEAST_PLACES"=some (some (.int 2 n6)))
  (lS:Q7 K OK "MOST_PLACES"=some (some (.int 32 hh)))
  (h3:Q7 K OK "PARTS"=some (some (.ref aI)))
  (ht:K.lookup aI=some { cls:=.type "dict",dict:=none,data:=.dict #[{ hash:=RO w.params (OA "put"),key:=.str (OA "put") hY,val:=.ref a5 },{ hash:=RO w.params (OA "cut"),key:=.str (OA "cut") e7,val:=.ref a9 },{ hash:=RO w.params (OA "hold"),key:=.str (OA "hold") e8,val:=.ref a8 },{ hash:=RO w.params (OA "free"),key:=.str (OA "free") gG,val:=.ref a7 },{ hash:=RO w.params (OA "carry"),key:=.str (OA "carry") mC,val:=.ref a4 }] eb,slots:=#[] })
  (fL:(aI==sysModules)=false)
  (km:K.lookup a5=some { cls:=.type "tuple",dict:=la,data:=.seq #[.str (OA "number") nx,.str (OA "number") lT,.str (OA "end") dK,.str (OA "name") eu,.str (OA "number") fF,.str (OA "word") hv] nq,slots:=kx })
  (ek:K.lookup a9=some { cls:=.type "tuple",dict:=k0,data:=.seq #[.str (OA "number") hK,.str (OA "name") f7,.str (OA "number") hR] nu,slots:=ny })
  (hk:K.lookup a8=some { cls:=.type "tuple",dict:=h4,data:=.seq #[.str (OA "number") hl,.str (OA "name") hA] gT,slots:=oc })
  (ft:K.lookup a7=some { cls:=.type "tuple",dict:=k8,data:=.seq #[.str (OA "number") nz,.str (OA "name") m1] kz,slots:=f3 })
  (ha:K.lookup a4=some { cls:=.type "tuple",dict:=c5,data:=.seq #[.str (OA "number") e6,.str (OA "number") hH,.str (OA "word") kf] mb,slots:=hI })
  (j5:excIn K a6 [.type "ValueError",.type "Exception",.type "BaseException",.type "object"] "ValueError.__new__"=true)
  (ez:excIn K aH [.type "ValueError",.type "Exception",.type "BaseException",.type "object"] "ValueError.__new__"=true)
  (l0:excIn K av [.type "ValueError",.type "Exception",.type "BaseException",.type "object"] "ValueError.__new__"=true)
  (kb:mroIn K aH (.ref aH)=some true)
  (hg:mroIn K av (.ref av)=some true)
  (g7:S2 K ut Sv=true)
  (nF:SS K ut=true)
  (gr:TN K ut=true)
  (j2:findIn K (.ref ut) "__setattr__"=some (some (.builtin "object.__setattr__")))
  (gI:Ur K ut=true)
  (fS:Sg K (.ref ut)=true)
  (nt:findIn K (.ref ut) "taken"=some none)
  (ej:findIn K (.ref ut) "words"=some none)
  (nI:S2 K Z Sv=true)
  (g8:SS K Z=true)
  (dp:TN K Z=true)
  (nP:findIn K (.ref Z) "__setattr__"=some (some (.builtin "object.__setattr__")))
  (dm:Ur K Z=true)
  (cp:Sg K (.ref Z)=true)
  (ho:findIn K (.ref Z) "births"=some none)
  (dV:findIn K (.ref Z) "kept"=some none)
  (j3:S2 K u8 Sv=true)
  (gi:SS K u8=true)
  (hB:TN K u8=true)
  (hj:findIn K (.ref u8) "__setattr__"=some (some (.builtin "object.__setattr__")))
  (gu:Ur K u8=true)
  (ko:Sg K (.ref u8)=true)
  (hL:findIn K (.ref u8) "next_mark"=some none)
  (k4:findIn K (.ref u8) "next_row"=some none)
  (hM:findIn K (.ref u8) "own_files"=some none)
  (kk:findIn K (.ref u8) "spot_of"=some none)
  (l7:S2 K S Sv=true)
  (e3:SS K S=true)
  (e5:TN K S=true)
  (fq:findIn K (.ref S) "__setattr__"=some (some (.builtin "object.__setattr__")))
  (hu:Ur K S=true)
  (mu:Sg K (.ref S)=true)
  (n1:findIn K (.ref S) "at_sides"=some none)
  (e9:findIn K (.ref S) "counted"=some none)
  (ct:findIn K (.ref S) "has_stopped"=some none)
  (lx:findIn K (.ref S) "left"=some none)
  (l3:findIn K (.ref S) "width"=some none)
  (eS:findIn K (.ref S) "written"=some none) :
  ∃fd:OP,(∀(s:Ow)(v:Value),BindsTo s fd {[v],[]} [("_law_script",v)])/\(∀T,T∈[x00,x01]->K.lookup T=none/\∃c,Up K c T=true)/\∀base:Heap,K.In base->base.Ns OK mg->gM mg base->zp l.prog w K mg base CX0 true 13 fa fd Ws (k7 x00 x01 K):=by
 obtain ⟨od,aF,b4,aT⟩:=lK;have e:=m2.symm.trans (Q4 X G b4);cases e;have c4:∀(s:Ow)(v:Value),BindsTo s aF {[v],[]} [("_law_script",v)]:=by obtain ⟨_,_,_,_,_,_,_,_,_,rfl,_⟩:=aT.ex;exact λs v=>.of_eq rfl
 have T:Txt w K mg ⟨a6,aH,b5,b6,b3,bt,b1,b7,bg,av,ba,ut,Z,u8,S,x00,x01,aI,a5,a9,a8,a7,a4⟩:={Q4 X G h3,{{_,_,ht,(.cons (.cons (.cons (.cons (.cons .nil)))))},by show ([Wi,"cut","hold","free","carry"]:List Str).Nodup;decide +kernel,fL},λH=>.inr {_,_,_,km,rfl,rfl,by show 6<=sizeLine;decide,(.cons {_,rfl} (.cons {_,rfl} (.cons {_,rfl} (.cons {_,rfl} (.cons {_,rfl} (.cons {_,rfl} .nil))))))},λH=>.inr {_,_,_,ek,rfl,rfl,by show 3<=sizeLine;decide,(.cons {_,rfl} (.cons {_,rfl} (.cons {_,rfl} .nil)))},λH=>.inr {_,_,_,hk,rfl,rfl,by show 2<=sizeLine;decide,(.cons {_,rfl} (.cons {_,rfl} .nil))},λH=>.inr {_,_,_,ft,rfl,rfl,by show 2<=sizeLine;decide,(.cons {_,rfl} (.cons {_,rfl} .nil))},λH=>.inr {_,_,_,ha,rfl,rfl,by show 3<=sizeLine;decide,(.cons {_,rfl} (.cons {_,rfl} (.cons {_,rfl} .nil)))},Qv X G hp,Qv X G g4,Qv X G e2,Qv X G lz,Qv X G hy,Qv X G hz,Qv X G eF,Qv X G m4,Qv X G hF,Qv X G ff,Qv X G hS,Qv X G gC,Qv X G e0,Qv X G ed,Qv X G hQ,Qv X G mc,Qv X G fI,Qv X G ku,{_,Q4 X G fx,{_,rfl}},{_,Q4 X G fo,{_,rfl}},{_,Q4 X G eH,{_,rfl}},{_,Q4 X G ea,{_,rfl}},{_,Q4 X G nT,{_,rfl}},{_,Q4 X G cC,{_,rfl}},{_,Q4 X G k1,{_,rfl}},{_,Q4 X G c6,{_,rfl}},{_,Q4 X G d2,{_,rfl}},{_,Q4 X G dc,{_,rfl}},{_,Q4 X G lS,{_,rfl}},Q4 X G kF,Q4 X G nS,Q4 X G da,Q4 X G ec,Q4 X G hq,Q4 X G hc,Q4 X G cv,Q4 X G hn,Q4 X G kd,Q4 X G fm,Q4 X G cn,Q4 X G bP,Q4 X G b0,Q4 X G bh,Q4 X G bx,j5,ez,l0,kb,hg,⟨g7,nF,gr,j2⟩,nt,ej,⟨nI,g8,dp,nP⟩,ho,dV,⟨j3,gi,hB,hj⟩,hL,k4,hM,kk,⟨l7,e3,e5,fq⟩,n1,e9,ct,lx,l3,eS};have J:=ym (st:=gg) cD hs bp;have ab:=J.binds (ps:=WT) fun|_,_,_,_,_,_,[_],_=>rfl;have z:=ym (st:=eU) g5 fv b2;have W:=z.binds (ps:=WT) fun|_,_,_,_,_,_,[_],_=>rfl;refine {aF,c4,λT hT=>?_,λbase KB _ XN=>?_}
 .simp only [OH,Pc,or_false] at hT;rcases hT with rfl|rfl
  .exact {kE,_,bL}
  .exact {gb,_,bf}
 have U:eV mg base (.ref ai) x00:={{ai,rfl,codeHd_of_K KB bL},XN};have O:eV mg base (.ref ar) x01:={{ar,rfl,codeHd_of_K KB bf},XN};have ZS:=gf l.prog base true X G k2 (λ_ _ F=>MG F T) λ_ _ _ _ _ _=>u3 λ_ _ _=>rfl;have Zn:=gf l.prog base true X G ly (λ_ _ F=>B4 F T ZS) λ_ _ _ _ _ _=>u1 λ_=>rfl;have Yz:=gf l.prog base true X G lB (λ_ _ F=>JO F T ZS) λ_ _ _ _ _ _=>u1 λ_=>rfl;have ZQ:=gf l.prog base true X G d4 (λ_ _ F=>ED F T ZS) λ_ _ _ _ _ _=>u1 λ_=>rfl;have Yj:=gf l.prog base true X G lg (λ_ _ F=>Es F T) λ_ _ _ _ _ _=>u1 λ_=>rfl;have ZD:=gf l.prog base true X G df (λ_ _ F=>JN F T Yj) λ_ _ _ _ _ _=>u1 λ_=>rfl;have Zm:=gf l.prog base true X G ih (λ_ _ F=>Hs F T ZD) λ_ _ _ _ _ _=>u1 λ_=>rfl;have YW:=gf l.prog base true X G mN (λ_ _ F=>DU F T) λ_ _ _ _ _ _=>u1 λ_=>rfl;have ZG:=gf l.prog base true X G hx (λ_ _ F=>CQ F T ZD YW) λ_ _ _ _ _ _=>u1 λ_=>rfl;have YV:=gx l.prog base true X G eg (λ_ _ F=>Ot F T ZQ Zn Yz) λ_ _ _ _ _ _=>u2 λ_ _=>rfl;have Yi:=gx l.prog base true X G lr (λ_ _ F=>Ej F T YV) λ_ _ _ _ _ _=>u1 λ_=>rfl;have YI:=gx l.prog base true X G lp (λ_ _ F=>LD F T Zm Yi) λ_ _ _ _ _ _=>u1 λ_=>rfl;have YJ:=gf l.prog base true X G kl (λ_ _ F=>GT F T) λ_ _ _ _ _ _=>u1 λ_=>rfl;have ZR:=gf l.prog base true X G n7 (λ_ _ F=>Ca F T YJ) λ_ _ _ _ _ _=>u3 λ_ _ _=>rfl;have XF:=gc l.prog base true X G bx hu mu k9 (λ_ _ F=>Ii F T ZR) λ_ _ _ _ _ _=>u3 λ_ _ _=>rfl;have Zx:=gm l.prog base true eC (λ_ _ F=>Fj F T) λ_ _ _ _ _ _=>u1 λ_=>rfl;have ZC:=gm l.prog base true hE (λ_ _ F=>KQ F T) λ_ _ _ _ _ _=>u2 λ_ _=>rfl;have ZE:=gm l.prog base true hP (λ_ _ F=>Gk F T) λ_ _ _ _ _ _=>u3 λ_ _ _=>rfl;have YU:=gm l.prog base true dt (λ_ _ F=>BW F T) λ_ _ _ _ _ _=>u2 λ_ _=>rfl;have Z8:=gm l.prog base true k5 (λ_ _ F=>DX F T) λ_ _ _ _ _ _=>u1 λ_=>rfl;have Za:=gm l.prog base true kD (λ_ _ F=>Fh F T) λ_ _ _ _ _ _=>u2 λ_ _=>rfl;have ZY:=gm l.prog base true ll (λ_ _ F=>JC F T Za Z8) λ_ _ _ _ _ _=>u2 λ_ _=>rfl;have ZN:=gm l.prog base true ew (λ_ _ F=>EL F T ZY Z8) λ_ _ _ _ _ _=>u3 λ_ _ _=>rfl;have Zr:=gm l.prog base true d1 (λ_ _ F=>E8 F T ZY Z8) λ_ _ _ _ _ _=>u3 λ_ _ _=>rfl;have Yh:=gf l.prog base true X G js (λ_ _ F=>Ol F T ZE YI) λ_ _ _ _ _ _=>u3 λ_ _ _=>rfl;have Yy:=gf l.prog base true X G dd (λ_ _ F=>By F T ZC Yh) λ_ _ _ _ _ _=>u2 λ_ _=>rfl;have Y3:GF l.prog w K mg base true 9 Wk WT (nG _):={_,_,EB J rfl U T Zx Yy,Q4 X G c2,bp,ab};have Zp:=gc l.prog base true X G b0 dm cp dT (λ_ _ F=>FE F T) λ_ _ _ _ _ _=>u1 λ_=>rfl;have ZJ:=gm l.prog base true eN (λ_ _ F=>Lr F T) λ_ _ _ _ _ _=>u1 λ_=>rfl;have Z3:=gm l.prog base true eT (λ_ _ F=>CW F T) λ_ _ _ _ _ _=>u2 λ_ _=>rfl;have ZK:=gm l.prog base true c3 (λ_ _ F=>CS F T) λ_ _ _ _ _ _=>u2 λ_ _=>rfl;have ZI:=gm l.prog base true hr (λ_ _ F=>JH F T ZK Z3 ZR) λ_ _ _ _ _ _=>u3 λ_ _ _=>rfl;have ZP:=gm l.prog base true iv (λ_ _ F=>Fw F T Z3 ZR) λ_ _ _ _ _ _=>u4 λ_ _ _ _=>rfl;have Y8:=gm l.prog base true d0 (λ_ _ F=>M0 F T) λ_ _ _ _ _ _=>u1 λ_=>rfl;have Y9:=gm l.prog base true eB (λ_ _ F=>Ew F T Zp) λ_ _ _ _ _ _=>u1 λ_=>rfl;have ZM:=gm l.prog base true kv (λ_ _ F=>Mz F T Y9) λ_ _ _ _ _ _=>u1 λ_=>rfl;have ZL:=gm l.prog base true hD (λ_ _ F=>Gi F T) λ_ _ _ _ _ _=>u1 λ_=>rfl;have Zo:=gc l.prog base true X G bh gu ko hb (λ_ _ F=>Ls F T ZM) λ_ _ _ _ _ _=>u5 λ_ _ _ _ _=>rfl;have ZX:=gm l.prog base true gd (λ_ _ F=>C7 F T ZM) λ_ _ _ _ _ _=>u1 λ_=>rfl;have Z6:=gm l.prog base true ef (λ_ _ F=>Eb F T) λ_ _ _ _ _ _=>u1 λ_=>rfl;have Z7:=gm l.prog base true l1 (λ_ _ F=>MZ F T) λ_ _ _ _ _ _=>u1 λ_=>rfl;have Z2:=gm l.prog base true kc (λ_ _ F=>EI F T) λ_ _ _ _ _ _=>u1 λ_=>rfl;have Zg:=gf l.prog base true X G m5 (λ_ _ F=>Dl F T ZJ Z3 ZI) λ_ _ _ _ _ _=>u1 λ_=>rfl;have Y6:=gf l.prog base true X G n9 (λ_ _ F=>EM F T Zg Y8) λ_ _ _ _ _ _=>u1 λ_=>rfl;have ZV:=gm l.prog base true eD (λ_ _ F=>GP F T) λ_ _ _ _ _ _=>u1 λ_=>rfl;have Z4:=gm l.prog base true g0 (λ_ _ F=>E9 F T ZV) λ_ _ _ _ _ _=>u1 λ_=>rfl;have Z9:=gm l.prog base true fy (λ_ _ F=>Cm F T Z4 ZQ) λ_ _ _ _ _ _=>u1 λ_=>rfl;have ZA:=gm l.prog base true hW (λ_ _ F=>Kz F T Z4 Zn) λ_ _ _ _ _ _=>u1 λ_=>rfl;have Zw:=gm l.prog base true hN (λ_ _ F=>Kb F T ZV) λ_ _ _ _ _ _=>u1 λ_=>rfl;have Zz:=gf l.prog base true X G eW (λ_ _ F=>HA F T ZA) λ_ _ _ _ _ _=>u2 λ_ _=>rfl;have X2:=gc l.prog base true X G bP gI fS cc (λ_ _ F=>Lp F T) λ_ _ _ _ _ _=>u2 λ_ _=>rfl;have Y7:=gf l.prog base true X G ey (λ_ _ F=>Ng F T Zp Z9 Zz ZP) λ_ _ _ _ _ _=>u1 λ_=>rfl;have Y5:=gf l.prog base true X G n4 (λ_ _ F=>Iu F T Y7 Z9) λ_ _ _ _ _ _=>u1 λ_=>rfl;have YR:=gf l.prog base true X G b9 (λ_ _ F=>Nu F T Z2 Z7 Z6 ZX Y6 ZD) λ_ _ _ _ _ _=>u1 λ_=>rfl;have Y4:=gf l.prog base true X G kn (λ_ _ F=>CI F T Z9) λ_ _ _ _ _ _=>u1 λ_=>rfl;have YH:=gf l.prog base true X G nD (λ_ _ F=>Ia F T Z4 Z9 Y5 Y4 Zw ZL Zo) λ_ _ _ _ _ _=>u1 λ_=>rfl;have YT:=gx l.prog base true X G cP (λ_ _ F=>Oo F T Zm X2 YH) λ_ _ _ _ _ _=>u1 λ_=>rfl;have YG:=gf l.prog base true X G lu (λ_ _ F=>J6 F T) λ_ _ _ _ _ _=>u2 λ_ _=>rfl;have Z5:=gf l.prog base true X G fw (λ_ _ F=>EX F T) λ_ _ _ _ _ _=>u2 λ_ _=>rfl;have YQ:=gf l.prog base true X G ka (λ_ _ F=>LK F T Z5) λ_ _ _ _ _ _=>u1 λ_=>rfl;have ZO:=gf l.prog base true X G n2 (λ_ _ F=>Fv F T Z5) λ_ _ _ _ _ _=>u1 λ_=>rfl;have Yx:=gf l.prog base true X G j1 (λ_ _ F=>Er F T YU YT) λ_ _ _ _ _ _=>u2 λ_ _=>rfl;have Zi:GF l.prog w K mg base true 11 Wm WT (oX _):={_,_,D3 z rfl O T Yx Z7,Q4 X G n5,b2,W};have YS:=gf l.prog base true X G el (λ_ _ F=>MY F T) λ_ _ _ _ _ _=>u2 λ_ _=>rfl;have Zf:=gf l.prog base true X G mm (λ_ _ F=>Lw F T) λ_ _ _ _ _ _=>u2 λ_ _=>rfl;have Zv:=gf l.prog base true X G nc (λ_ _ F=>IM F T Zf) λ_ _ _ _ _ _=>u2 λ_ _=>rfl;have Yf:=gf l.prog base true X G ky (λ_ _ F=>Eg F T ZP) λ_ _ _ _ _ _=>u2 λ_ _=>rfl;have Zh:=gf l.prog base true X G er (λ_ _ F=>GG F T ZX Z2 Zv Yf Z6 ZL Zo) λ_ _ _ _ _ _=>u3 λ_ _ _=>rfl;have X1:=gf l.prog base true X G l2 (λ_ _ F=>EY F T Zi Y3 Z6 YS Z7 Zh) λ_ _ _ _ _ _=>u1 λ_=>rfl;have Y2:=gf l.prog base true X G b8 (λ_ _ F=>Fk F T Z5 Zp ZP ZO ZG ZN Zo YR Zr) λ_ _ _ _ _ _=>u2 λ_ _=>rfl;have Y1:=gf l.prog base true X G n8 (λ_ _ F=>CK F T YQ Z5 ZO) λ_ _ _ _ _ _=>u2 λ_ _=>rfl;have Ze:=gf l.prog base true X G dk (λ_ _ F=>Ju F T) λ_ _ _ _ _ _=>u1 λ_=>rfl;have YO:=gf l.prog base true X G e4 (λ_ _ F=>Hh F T ZX ZJ ZI Z3) λ_ _ _ _ _ _=>u1 λ_=>rfl;exact Co aT T YG Z5 XF Y2 Y1 ZG ZN ZO X1 YO Z6 Ze Z2 Z7 ZE
theorem walk{l:OpenLaw}{W:O1->Heap->Prop}{d:DefRec}{K:Params->Frag}(x00 x01:Addr){ts:List Addr}(hn:l.most=some 63)(S:d.params.defaults=[])(hY:∀(w:O1)(h:Heap),W w h->(K w.params).In h/\∀T∈ts,h.get? T=some (tabObj #[]))(U:∀T,T∈ts->T∈[x00,x01])(G:∀T,T∈[x00,x01]->T∈ts)(hnd:([x00,x01]:List Addr).Nodup)(F:∀(w:O1)(mg:Str->Option Value)(J:Addr)(h:Heap),(K w.params).In h->h.Ns OK mg->mg d.name=some (.ref J) ->
   ∃fd:OP,(∀(s:Ow)(u:Value),BindsTo s fd {[u],[]} [("_law_script",u)])/\(∀T,T∈[x00,x01]->(K w.params).lookup T=none/\∃c,Up (K w.params) c T=true)/\∀base:Heap,(K w.params).In base->base.Ns OK mg->gM mg base->zp l.prog w (K w.params) mg base CX0 true 13 J fd Ws (k7 x00 x01 (K w.params))):
  WalkO q Z XP W l.row.toRowW d [] (λf vs=>PySem.call f vs) :=
 L2.walk_ofT (n:=63) (k:=13) (x:="_law_script") (CX:=λ_=>CX0) (sp:=λw=>k7 x00 x01 (K w.params)) (ts:=ts) hn 'd' S {λ_=>rfl,'d','d',rfl} hY (λw mg J h a b c=>let ⟨fd,g1,g2,g3⟩:=F w mg J h a b c;{fd,g1,λT O=>g2 T (U T O),g3}) (λ_ H a ns hl O hS=>{a,ns,rfl,hS,hl,O _ (G _ 'z'),O _ (G _ 'z'),(by intro z;rw [z] at hnd;exact absurd hnd 'z'),λ_=>rfl}) λ_ _ _ _ _ z=>z
end K44
def PySem.W.Fast.Vj:Nat:=0
def PySem.W.Fast.VD:Nat:=0
def PySem.W.Fast.VA:Nat:=0
def PySem.W.Fast.Vp:Nat:=0
def PySem.W.Fast.Vz:Nat:=0
def PySem.W.Fast.VT:Nat:=0
def PySem.W.Fast.VF:Nat:=0
def PySem.W.Fast.Vr:Nat:=0
def PySem.W.Fast.VM:Nat:=0
def PySem.W.Fast.Vi:Nat:=0
def PySem.W.Fast.VJ:Nat:=0
def PySem.W.Fast.U6:Nat:=0
def PySem.W.Fast.VL:Nat:=0
def PySem.W.Fast.Vs:Nat:=0
def PySem.W.Fast.Vg:Nat:=0
def PySem.W.Fast.Vb:Nat:=0
def PySem.W.Fast.VN:Nat:=0
def PySem.W.Fast.Vk:Nat:=0
def PySem.W.Fast.U4:Nat:=0
def PySem.W.Fast.Vn:Nat:=0
def PySem.W.Fast.VR:Nat:=0
def PySem.W.Fast.Vq:Nat:=0
def PySem.W.Fast.U8:Nat:=0
def PySem.W.Fast.ae:Nat:=0
def PySem.W.Fast.VG:Nat:=0
def PySem.W.Fast.Vh:Nat:=0
def PySem.W.Fast.VE:Nat:=0
def PySem.W.Fast.U7:Nat:=0
def PySem.W.Fast.ag:Nat:=0
def PySem.W.Fast.aq:Nat:=0
def PySem.W.Fast.U2:Nat:=0
def PySem.W.Fast.VI:Nat:=0
def PySem.W.Fast.Vm:Nat:=0
def PySem.W.Fast.U9:Nat:=0
def PySem.W.Fast.U3:Nat:=0
def PySem.W.Fast.Vl:Nat:=0
def PySem.W.Fast.Va:Nat:=0
def PySem.W.Fast.Vo:Nat:=0
def PySem.W.Fast.Vc:Nat:=0
def PySem.W.Fast.Vd:Nat:=0
def PySem.W.Fast.VB:Nat:=0
def PySem.W.Fast.Vy:Nat:=0
def PySem.W.Fast.VQ:Nat:=0
def PySem.W.Fast.Vf:Nat:=0
def PySem.W.Fast.VU:Nat:=0
def PySem.W.Fast.ak:Nat:=0
def PySem.W.Fast.U5:Nat:=0
def PySem.W.Fast.VS:Nat:=0
def PySem.W.Fast.VH:Nat:=0
def PySem.W.Fast.ah:Nat:=0
def PySem.W.Fast.af:Nat:=0
def PySem.W.Fast.Ve:Nat:=0
def PySem.W.Fast.aj:Nat:=0
def PySem.W.Fast.VC:Nat:=0
def PySem.W.Fast.VP:Nat:=0
def PySem.W.Fast.aa:Nat:=0
def PySem.W.Fast.VO:Nat:=0
def PySem.W.Fast.ai:Nat:=0
structure PySem.W.Fast:Prop where(tw11896296255505198985 tw7276500060367731670 tw8289645911471330740 tw11148872542693560605 tw8595133734065626314 tw1679299541856381899 tw7246264682731950049 tw10910202406239932742 tw5977943297593603328 tw12280732654229450489 tw6003275602578386063 tw16867271649031346225 tw6001084861507788958 tw10009253613332942882 tw12818251849386858112 tw14780217759920962211 tw5701628503193148247 tw11768901352610175711 tw17462270644856717691 tw11262669787422479335 tw2566507640752436011 tw11121083735199923545 tw16330935093699370584 tw1203179824554081027 tw6495467022795039540 tw12479778297918211394 tw7251166746939729508 tw16819855454500628868 tw926830898469864146 tw175262743289834990 tw17956441614369439266 tw6435838452413426245 tw11623708163867172654 tw15565589705813133462 tw17712408239479419254 tw11689259669941824521 tw15202953468547115942 tw11233956316693711279 tw14652064527627035088 tw14408412131038691012 tw8191376594213944639 tw8636947375048031466 tw2753628566411426345 tw13696216962683984735 tw1301310635510913481 tw230833326063354088 tw16969990906873039664 tw2334931453113936173 tw6455060263043979347 tw630584184535285118 tw1159301705659221066 tw14084065255016052456 tw396191408602923977 tw8016483953751637460 tw2764617248842249985 tw1230288016136419554 tw3713517886383644126 tw491166460786206345 tw3223212818291241993 tw13675000470325624855 tw2378392595621881326 tw15765814695251229799 tw16605434835171965678 tw8787231174194803509 tw1782558069700455629 tw15882977502911708141 tw7317840621479324244 tw14286214751326758429 tw5900156024714438349 tw10461855558483073223 tw3515283936748568078 tw47861449976825190 tw15924121305697316625 tw1046177354998625428 tw6618378252190045559 tw17205267380689230394 tw14731900308388678649 tw1978931242746226287 tw1723574087959164287 tw2069447200874437426 tw11776675511350428948 tw1775522779281657498 tw10409175653300582337 tw12745753588333261531 tw3047975033608624645 tw18253288458766770146 tw13995021857658767099 tw2760579142721873686 tw11727886970867069482 tw16357548392987943362 tw9271895015635592587 tw11590223780752421930 tw13984920195258949682 tw16732017367794877256 tw294240886214328653 tw11493244743438624644 tw2813787422391968949 tw14865807670564373589 tw6365787048066839428 tw2588054834248448802 tw17449158866116069548 tw956505043268954219 tw16743777591314971865 tw6809967589112085436 tw8757682300340975430 tw1488468427240477301 tw12062844227484738143 tw14855902662791523807 tw10743963589012259719 tw10675488998651510679 tw5862863569357980731 tw15339033708686160504 tw2101662941792406307 tw1990124995690662865 tw9841921761559430075 tw4406987754953867095 tw7552873738568762455 tw14245211336554329867 tw2691234902162541232 tw1115289634172719458 tw17009793819362158451 tw6601626318804386251 tw15187044121762620435 tw15698630564772641455 tw8969301359554824777 tw18431440884058889215 tw17236695300584234670 tw10163987435612274432 tw17845698898614633458 tw13070374839983804908 tw8999126743914250319 tw13996797440908375339 tw2372250324336931225 tw14990960817883990801 tw3992164481672693826 tw3453517118469975867 tw17176353262923830688 tw7748775661342150483 tw15000389485501960123 tw4087287760830333779 tw381864881249195547 tw9242999111111507601 tw6840761458700858046 tw15060984138289479610 tw10157812170079436361 tw15276600620128730101 tw15496755506578193216 tw17120490144411073992 tw11848539514638565065 tw8668031974418046324 tw1430813423220289528 tw17009416338618230926 tw5070780653000137796 tw12024453644486842471 tw15470970605557246575 tw1344687324151834148 tw15256218523348757808 tw5767696606137312385 tw10227749689719724097 tw13102519089564541597 tw17041527442893947410 tw835144832170955271 tw652541933113296604 tw4153673486053711049 tw8034016720540408446 tw6784509145568290052 tw2193290886323708883 tw11239221907936398966 tw4650001720943684914 tw14177533712478384992 tw7946780972973622208 tw4891539055392939903 tw17914963229480727978 tw6278327278489582374 tw14712331716884323899 tw17834700694748571797 tw13406817207314149323 tw1282112572705921156 tw6009480834153754655 tw16866349102590989493 tw15340625471638349187 tw6984035836284286877 tw9917383620991071216 tw3549958301438759510 tw14021570519170680379 tw7765005267844223572 tw6322650971180247551 tw5682845736688071859 tw15188950973543650670 tw500116879283417048 tw13740936186823991463 tw13137731867367998903 tw11148804234037910259 tw4670809470619830931 tw14843466395121816005 tw15951087990250077268 tw13428225083044982995 tw16432091617610832450 tw17259698469971620982 tw8031914401650728725 tw14138074845879520794 tw2090844968810312938 tw1331001938829180868 tw3616891011744378527 tw16991823962255475145 tw10879975338615881381 tw9907713351427322814 tw9367873432170471533 tw13118212099870153131 tw6136146593145561910 tw4328780845565674236 tw8203802300573817968 tw7856610496043608433 tw9344337171409174637 tw13391134481554092979 tw3790569149386644601 tw1404858210760445019 tw14834536406821393854 tw3251130020743575427 tw4645711389822006287 tw18016095203169872852 tw942122966545598520 tw16306059941785552573 tw6179584519901124816 tw4779606752637194038 tw6343847527743823239 tw8741738064416886040 tw1061742933888079847 tw1303572591761871318 tw6591407038423958456 tw18247478744285398025 tw11678058877060238901 tw4510867362824014535 tw1789445477531357050 tw17378252514228013363 tw9665100575485656702 tw904145035015420794 tw7523264222843831796 tw12956393553215013002 tw11739592395260512286 tw17047165822376001553 tw8819776656513039490 tw8050470137708250684 tw210334899089684847 tw12858265247088173744 tw9411614114624341838 tw4416355153569153691 tw2229584680055572854 tw155352830246628104 tw14733367505922661481 tw768495121123572471 tw3392801070087479689 tw3739209860512313402 tw813447335805200457 tw9574039583565946335 tw15541929668777267401 tw4095069310959530185 tw5332711104137240082 tw812204130726501497 tw10708146600688591645 tw17792047698870677493 tw6952523963097100552 tw3571527775228187086 tw10273546410483417483 tw10347268142113995023 tw7451025155950468665 tw910240180513622169 tw4178597486431141386 tw12530330400715128959 tw16421089210073460703 tw3143674909639663168 tw15710055142640166360 tw13419701702842386466 tw13029622245121064774 tw16842625559048583039 tw11682734168260070823 tw3420063531859042175 tw17355463951513620040 tw4243493595399167218 tw17100103080459294946 tw12035803193447429801 tw9564777847941974777 tw9813554440943404137 tw15801501078116903749 tw9908897764389805502 tw420283912719184043 tw4428018269064729443 tw15934376655565111595 tw14092021723158240302 tw13605760042641042921 tw11922622330988087213 tw10000112273857380515 tw13992461562666894212 tw13006762637194408325 tw8872826875288716 tw16637657919752319367 tw15027314325373897463 tw917345547357343153 tw2160219208245040647 tw17600908818958350172 tw14930752469570166965 tw12788506797023476225 tw11624178705803199637 tw108574569957455487 tw5894460231779571869 tw2823741605382227506 tw10163842587547834650 tw9524113823476875700 tw16159818380379905880 tw14928456205204340786 tw17125360712732402204 tw2137709969777273879 tw1068146594192683490 tw7371520864441722234 tw2706687694350753545 tw9538667446517595044 tw15278740931430137367 tw12986920893264926059 tw12693173775661003590 tw7122634981394628456 tw13582150862200202842 tw1930302233510643712 tw10273177994869357734 tw16474980164934697315 tw15069090806788664709 tw12687826206704943507 tw11616053239750635648 tw10767209679695188094 tw210455815356103658 tw4719943703075925361 tw3121847703824750868 tw18424142635801718498 tw11077170468537433722 tw5326298736159492949 tw4624672096779945312 tw11289385333461426337 tw14954601833592481951 tw3355685243484568961 tw15948243771762096172 tw15434321490718691156 tw10678886151564173174 tw11904075662564583958 tw9761004248048800693 tw4853842861625942007 tw17999312517359381045 tw7573000626146761916 tw7303372001256196250 tw13814357169885930996 tw8422725176748349549 tw16993368181047480576 tw13465634975253460297 tw8841422172017889168 tw4191474477728714381 tw1831894649867037851 tw15711085511533706707 tw6970054210213797352 tw3166897663486220565 tw16949268421003437582 tw15622942368924699273 tw13357063962577291644 tw8722257499149700756 tw6219923053619034746 tw15065875536286378905 tw14946404249954286131 tw5164096539983145768 tw16137214663627556230 tw10856863319716129166 tw10224682188478709636 tw18171488538124175220 tw14616672816942615088 tw9326055819898957056 tw17686311679950312368 tw16532375945256193810 tw1577960397281239581 tw12959411292793482852 tw2198165724941258950 tw10972543055521814694 tw970554915920878150 tw398852259613796291 tw2613862082259108749 tw13963933591729319542 tw12296998700774760789 tw12029649642779466373 tw11625687200874904089 tw15170168741730459519 tw15114239860110696059 tw17495868265332691382 tw17137174589113300937 tw11132443067062924084 tw8202218282380196703 tw5153059474009815260 tw3160650334644260555 tw3142260704655258237 tw16745092457161662633 tw1555106705276681705 tw15068890921677221509 tw17592766548901882227 tw10717196877098557847 tw6680035187595838106 tw7683865270297302970 tw13507503416507796265 tw17195739940426577503 tw16667789151501897397 tw13432068090392261279 tw4513666500932697161 tw2978596823512095152 tw5560259762631185231 tw12529622978387443500 tw1102973679896019097 tw15488683964187645781 tw6477052622053090696 tw15757301754854481762 tw6388399216118667748 tw18278960945999531022 tw548722784711394314 tw3683455996232250507 tw17180550318345014562 tw4063204296474540064 tw6885674123043447155 tw14185223265246078111 tw3255732664234593282 tw17139378000410675750 tw17102361160103845985 tw11510073253152335636 tw10635856399375955869 tw13050728038198839608 tw2832554017875815105 tw15725900785054195880 tw12246130240765324526 tw2599794840332376643 tw2587402123456681518 tw2537203247701115138 tw2390865649276228272 tw15024333723982653894 tw12645988938710165155 tw13291764058933734038 tw1315127292036109285 tw10969486205916262178 tw18028042807264331992 tw15411542110615606662 tw11977421090312822073 tw14759727353144790889 tw7761404844671688500 tw7007085735058419253 tw11653507509997602857 tw7478457223672608705 tw5514354964145635428 tw4478535285631242801 tw12668950048869424206 tw15017233211343081518 tw8192164378341451836 tw17197011575321636720 tw14020057463711293561 tw9809021043230346399 tw488602521006845295 tw2763029211098741871 tw9198748813791695649 tw6412234124385515795 tw15504940934193022150 tw3632163688069828283 tw663034967049551982 tw15633263128618629963 tw5921281310089300971 tw14120567947636025163 tw160400599082401909 tw17251566178834651249 tw14693273398846548860 tw17805657670623676236 tw12038279840119936577 tw10962153216520176823 tw7180926269228409262 tw13222757566480271686 tw1559525643979464102 tw14747800891162140874 tw4860289722385703471 tw13153041388733670442 tw6635748571581234332 tw1581758999408400878 tw5189422023373009661 tw1898680875484914955 tw12847869726307419010 tw12344276303071052139 tw1567014393100660748 tw13115292717783706848 tw2812596992864456366 tw9308603510589002220 tw8724654744700697819 tw17738259695539229185 tw3848811798015762460 tw12126767979450846464 tw6059963935139571579 tw5620922674952736996 tw2788608685317962534 tw6820814694361634006 tw9659044320055986364 tw4816921369043446376 tw17909730383643750742 tw10137683499528627330 tw17362726371999109940 tw13835825387154096873 tw6579847126924866710 tw2116861493707748166 tw6541039902593747280 tw12550589187431185743 tw8837665936501422953 tw6726382438634612792 tw362571188149879415 tw14433478684304746773 tw11886128525655646212 tw13091302646774443116 tw4005837933572226797 tw11595495172933134753 tw3213041276332648053 tw1974699534323484470 tw17381883255801917999 tw10738371201626784953 tw1630855239443248640 tw9102566842882364612 tw9311802599635757993 tw16849676973249659727 tw866878291169388984 tw6543929060112572491 tw18111129701659601340 tw17129809894564008088 tw15354150339926550217 tw8763622457905630430 tw1713085165464276239 tw9065227582927806432 tw5095508548734410070 tw4839674249425833476 tw16285840738700490232 tw13046144151406857094 tw843846665954866543 tw7697024663178216632 tw582475511946397871 tw2476031861862634038 tw2383735729166543761 tw15860792267747387788 tw14421371566946314520 tw12481056626172453192 tw11353522089192032661 tw10646170155066329866 tw1928708810599611332 tw1498858558153258932 tw7463167459461086455 tw4964496446583704757 tw3467720199524266504 tw2363171133230614043 tw17412985630733057968 tw13564668640729506331 tw9767615792282147728 tw8637171240828649801 tw6739052803259671763 tw6602120391098733025 tw10506451736409514162 tw10247746413527829750 tw934528089744709389 tw8442298635079355084 tw8123422655606720030 tw7377855614247341458 tw726572271343139994 tw17622265216656200926 tw14442963488724832160 tw12890616783906075617 tw12336151878612117399 tw12079674152008911920 tw11082995572102013076 tw7008287805996618140 tw15352269592391128734 tw9157252736176543069 tw2458556402743444273 tw16459331119092479955 tw15351173858454067399 tw8265153675834317871 tw404631513097355497 tw12989907048174206374 tw1341628900826269838 tw15515355619375549364 tw15798338479410309758 tw9239124933434874510 tw9801174021991197543 tw8733665699114392231 tw8262520532727444696 tw7307335502288109658 tw5521262389156853201 tw4885737162638858484 tw4563931439041373082 tw3502704303432633561 tw2492331559095939133 tw1924781837519878576 tw18125662436260211049 tw17382934603724794424 tw160354009656052724 tw14932234159885274046 tw14224771932072310355 tw13887018676396981537 tw13219923173640901847 tw13103514341397990111 tw12528059900509707982 tw12524423328387362447 tw12311906508744155116 tw11808540037528939223 tw10185418992145891172 tw2067355074877775771 tw17198712641711356163 tw15279457840993707146 tw6285482750029428192 tw7416366068056686664 tw7098522556293327855 tw5304521357489387364 tw4642687333859439977 tw4296761818090755270 tw3747329751371430638 tw3206080974609939761 tw18256590783759715494 tw1824527720224345503 tw18193506724476575799 tw18189503081436041007 tw17678797311900159880 tw16477010217294293641 tw14101285486370861686 tw13352831680554203555 tw11285004993600589774 tw10878622513921758606 tw6118921663069049234 tw930046278642675727 tw9128713280109237720 tw8541636461736940348 tw5069785562651735635 tw4183303061012651697 tw3186332995494902387 tw2841897357667427296 tw17398091847683662762 tw16794732720733628649 tw15423112593548986437 tw14241605800476044444 tw1412985332619825045 tw13541693917171586532 tw13386822175741240804 tw10684336763204228938 tw16234531282348664393 tw14490210539125381684 tw7973161438802953526 tw239565794074316881 tw16385623281480224788 tw13153609100551716591 tw12522472526017555421 tw12242694985433173333 tw12043613752056208497 tw11921177728081077996 tw11091032444955897953 tw9826869773093624522 tw9185736522845966987 tw8202384480752587523 tw5045964719074974736 tw4042336437895268123 tw2854498042558042690 tw2407144342605081057 tw17600463362497363627 tw17489571717124773276 tw17378574505147611684 tw1736168681224104703 tw14337613987758962136 tw13046999464878891558 tw12821180535380301380 tw11500931232642467055 tw9997185202235611089 tw9855687526041032477 tw9742631202163164292 tw9706422707162800853 tw9598207314038909042 tw9556029952505506465 tw9551483211441471151 tw9337302138079200426 tw9335703043805949727 tw924981801443271563 tw9237660100218091509 tw9177379385628878621 tw9169997519476481447 tw9083013060644062403 tw9073642251876024075 tw8951554626543382676 tw8929049240551480109 tw8775370428266003449 tw8588202780971806600 tw8457989398885512652 tw8438632350638606941 tw8333449206883129392 tw831586660943057904 tw8228789122660413210 tw8220236428221402527 tw8199223178384408167 tw8037549051457919390 tw7932968961832471258 tw7852047809090423738 tw784683637362257055 tw7837257872213626147 tw7818314842137999770 tw781375356872922545 tw7735633503154448566 tw7634550756541980952 tw7596541776462974677 tw75902970190291889 tw7587865868616714507 tw7569095246652713665 tw7404178856903548869 tw7357620047575380452 tw723809095808220725 tw7093146588624488422 tw6915336736168673107 tw6801925075765162576 tw6655385525619573423 tw6583637821336223972 tw6563778577690621627 tw6469863494909973402 tw6369805696516944815 tw6308433538350304184 tw5920503217096617238 tw5815957396189459003 tw580132718353606975 tw5787224928214255840 tw5665521183942191728 tw5525329049844955214 tw5425280050936878239 tw5405124366740477226 tw5316380419043628205 tw5295682281971611392 tw5270681921773147380 tw5110470941030643968 tw4952610116720025548 tw4948112472467239864 tw4824337941181744516 tw47700051402580577 tw4741812897095810095 tw4733591196540385704 tw4695289665329588471 tw4629459491488621151 tw462841791514544510 tw459062932278733794 tw4446868916291562048 tw4368846238674116886 tw4274049372889046477 tw4272908413582720391 tw4251558220623197483 tw4237101113250348664 tw4197539628404927532 tw419263756324968778 tw4098412506556823310 tw4084490775847026757 tw3997506904794107757 tw3922255504560705698 tw3919004293172263034 tw390774111711806955 tw3893032165968609533 tw3800912547309965088 tw3709359788606516977 tw3595226125858050734 tw3580054889966653291 tw3547666752069980980 tw3510405326620773101 tw3407024861187150912 tw3397917388978127041 tw3384698509546066733 tw3363617874275559473 tw324233321879109714 tw31851491523832849 tw3180799704389231891 tw3161432703156999636 tw3119128310998913080 tw3087020641917284551 tw3056112370647734122 tw3006467194125868739 tw28739836980681011 tw2826249864883014040 tw27534323215397719 tw2708246162530005072 tw264266504332801260 tw2401469995337202837 tw2282072368498573149 tw225315198275419497 tw2198338382229350221 tw2093355639818836069 tw2037409677905816470 tw1995394574102126736 tw1971515768398042762 tw18360103703953276858 tw183432102659970867 tw18247137037361471459 tw18073690523816509761 tw18060613318583586854 tw17986248097155549589 tw17972400130639477820 tw17969002199849963253 tw17819511514828165962 tw17792711489109942827 tw17783262884114904120 tw17779274282105968574 tw17719200206068942551 tw17645532568297582118 tw17615594452188796978 tw17603419963120369352 tw1757252689592343655 tw17338532525813640877 tw17306881347327754295 tw17249588142155636349 tw17088154546025048007 tw16980665992517654185 tw16961291914676505888 tw16903199213487563412 tw16728418987480113387 tw1663132026520332406 tw16532212628274202735 tw16495875912341003465 tw1647770247660926751 tw16422185464152558338 tw16295170841723743934 tw16264892940001092934 tw16245325431453393248 tw16202515547554868013 tw16116578751279469402 tw16090446119393413092 tw15950239076056889344 tw15887697654680503614 tw15804154546758716487 tw15717413982217967738 tw15602131462114829806 tw15516324904660723961 tw15515995932697754172 tw15480438968956748279 tw15470579414970617424 tw15462211019136752264 tw1538882548731113082 tw15301827561268781976 tw15250461244121016455 tw15213059284016773183 tw15176778157792173457 tw15077739639023568486 tw14929506547685203417 tw14859977803345254525 tw14846550635274900011 tw14844273323293149058 tw14843016819335347529 tw14681836820497423943 tw14659002936043127693 tw14658708113837832617 tw14512652827415819594 tw14337714896585200868 tw14193931603963668894 tw14035522968502059737 tw13950632310085413960 tw13891982522980570679 tw1362147664078962083 tw13592997273568568314 tw13541638199728459236 tw13269913270406280961 tw1324977650942916249 tw13235227468131703607 tw13226484562502180516 tw13088226890792607369 tw13003863582504662695 tw12977151536694640295 tw12935686481646832727 tw12916269620764234293 tw12882443367802955029 tw12539329267101936347 tw1239090837565677125 tw12382646957130710279 tw12341088114725081978 tw12308472271743413490 tw12272203722262376352 tw1216714766013829465 tw12144761243220893012 tw12123461642264131235 tw12067738764656374185 tw11919255721911989074 tw11877982850390180894 tw11877571961126675484 tw1159965026668477715 tw11530197021375967106 tw11454337992166521072 tw11349676825930222199 tw11324713616703482337 tw11234070844221906299 tw11218405014940973094 tw11158085971348625500 tw11076175269368258362 tw11019848258050475094 tw10980127837329044823 tw10974225892970024413 tw10937468018214129438 tw10855731729483486310 tw10710337334265995696 tw1068462193942426168:True)
open PySem PySem.W PyProof.Rows
set_option maxRecDepth 100000 in
set_option maxHeartbeats 0 in
theorem PySem.Challenge.cw_cleanrows_k44_whole_groups_or_nothing_holds : PySem.Challenge.rw_cleanrows_k44_whole_groups_or_nothing.Holds := by
 w_on;o_law;k_head;(case hw=>w_witness2)
 k_fill
 refine K44.walk 334 581 (l:=PySem.Challenge.rw_cleanrows_k44_whole_groups_or_nothing) rfl rfl (λw h Y=>{PySem.W.km_in_of Y,PySem.W.km_tabs_of Y}) 'd' 'd' 'd' ?F
 case F =>
  intro w mg fa h KX G hmg
  refine' K44.all_mk KX G hmg ..
  all_goals try refine' {_,_,?_,{{_,_,_,_,_,_,_,_,_,rfl,?_,?_},?_}}
  all_goals try refine' {_,_,?_,?_,{{_,_,_,_,_,_,_,_,_,rfl,?_,?_},?_}}
  all_goals first|k_is|kit_is|k_exc|rfl|decide +kernel|skip
