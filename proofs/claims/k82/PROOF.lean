import PyProof.Rows.All
import Wide.All
import OpenK.AllK
import Wide.FinOn
import Lean
import PyProof.EqAt
import PyProof.EqKinds
import PyProof.TupleCall
import KE.KUnpack
import PyProof.NeKinds
import PyProof.EnumFor
import PyProof.EnumStmt
import PyProof.EnumMake
import PyProof.Draws
import PyProof.StrWalks
import PyProof.Rows.FStr
import PyProof.Rows.CallKw2
import PyProof.StrBlockL
import KE.KIntText
import PyProof.ConsumeWalk
import PyProof.StrBlockG
import PyProof.CallStr
import PyProof.Rows.Range3
import PyProof.MeetsDict
import PyProof.DictList
import PyProof.StrLawsChain
import PyProof.StrLawsNeg
import KE.IntTextLaws
import KE.IntTextText
import PyProof.CallFns
import PyProof.CompUse
import PyProof.DictWalks
import KE.KDictSum
import PyProof.FString5
import PyProof.Rows.SortRuns
import PyProof.Rows.SortShell
import KE.KSortKey
import KE.KLam
import KE.KNestM
import PyProof.Rows.RuleN_abs
import PyProof.WalkInts
import KE.KMinKey
import KE.KSortTup
import PyProof.DictCompW
import PyProof.SetRoads
import PyProof.SetNew
import KE.KEqDict
import PyProof.ListRange
import KE.KRevSl
import PySem.Challenge.RW_cleanrows_k82_cleaned_in_any_order
open PySem renaming wpAny_bind->we,Shared->Lk,wpAny_pure->Ls,Program->Ly,mainGlobals->LG,model->LH,FuncData->LL,wpAny->LM,Builtin->LQ,Around->LV,World->LW,boot_len->LY,starEach->Mb,Expr->Mc,wpAny_field->Md,wpAny_holding->Mn,sizeLine_eq->Mr,compareOp->Mt,wpAny_callSpecial?_slot->MI,wpAny_mono->MK,Spec->MM,eval->MQ,NameKind->MU,rawInt->MX,wpAny_call_entry->M4,mem_of_lookup->M8,attributeBase->Nc,wpAny_rule->Ng,wpAny_newObj_type->Nh,wpAny_setField->Nl,wpAny_Call_Name_kw->Nr,wpAny_Call_method_late->Nz,foldedSetIterable->NC,assignEach->NF,PassesOwn->NH,binaryOp->NJ,cellsFrom->NN,wpAny_seqItems->NP,backTo->N0,wpAny_passesOwn->N2,wpAny_truthy_bool->N8,wpAny_standAt->Oe,wpAny_attempt->Of,keywordEach->Os,wpAny_setField_rec->Ot,tupleKind_room_in1->Ou,call_meets->Oy,bootBuiltins->Oz,letOwnedTupleGo->OB,wpAny_pyIter_list->OH,holding->OI,strIterType->OM,callWith->OS,standAt->OW,getMethod->OY,codeAny_mono->OZ,IsPair->O0,wpAny_newList->O2,wpAny_execs_nil->O5,builtinsNs->Pc,sliceBounds->Pf,wpAny_pyIter_enum->Pi,pyNext->Pj,intText?->Pl,wpAny_isInstance->Pu,typeIs_str->Pw,checkBuiltinCall->Px,codeAny->PF,behindInMarks->PH,wpAny_loadName_local->PN,codeAny_call_builtin->PQ,backToKw->PR,IsRangeIter->PY,pushCells->P8,wpAny_newTuple->Qd,wpAny_Constant_int->Qe,isSubtype_stop->Qj,field->Ql,closureFor->Qm,IsPart->Qq,wpAny_pyIter_strU->Qu,slot_list_getitem->Qv,Builtin->QE,tupleKind->QH,seqIndex?->QI,noteFrame->QK,wpAny_typeOf->QX,wpAny_call->QY,getItem->Q7,call_meetsIn->Ra,Within->Rf
open List renaming getElem?_eq_getElem->KE,length_map->Ln,getElem?_eq_some_iff->Lp,getD_eq_getElem?_getD->Lr,mem_cons->Lu,mem_singleton->Lw,mem_cons_of_mem->LA,length_append->LC,mem_of_getElem?->LF,size_toArray->LJ,mem_cons_self->LN,getElem?_map->LP,not_mem_nil->LS,mem_append_right->LU,take_of_length_le->L5,mem_append->L6,append_assoc->Ma,replicate->Ml,map_append->Mp,map_map->Mv,all_eq_true->Mx,map_cons->MD,length_take->ME,mem_append_left->MG,nodup_cons->ML,pairwise_append->MN,getElem?_of_mem->MO,take_add_one->MP,append_nil->MS,take_append_drop->MW,length_set->MZ,length_eq_zero_iff->M1,length_replicate->M6,length_cons->M7,pairwise_iff_getElem->M9,getElem?_replicate->Na,length_drop->Ni,flatten_cons->Np,getElem_mem->Nw,pairwise_cons->Ny,length_nil->NA,getElem_of_mem->NB,getElem?_append_right->NI,getElem?_eq_none->NK,replicate_succ->NQ,getElem?_append_left->NR,extract_eq_drop_take->NS,drop_eq_getElem_cons->NT,getElem?_take_of_lt->NU,contains_iff_mem->NY,map_congr_left->NZ,getElem?_set_ne->N5,Perm->N7,nodup_append->Oa,getElem?_set_self->Oc,lookup->Od,range->Oi,getElem?_cons_succ->On,filter_cons_of_pos->Oo,filter_cons_of_neg->Oq,mem_map->Ow,perm_append_comm->OG,drop_eq_nil_of_le->OJ,lookup_cons->OO,length_pos_iff->OP,filter_cons->OR,map->OV,length_range->OX,getElem?_drop->O3,mem_of_mem_drop->O6,length_take_le'->O7,find?_cons->Pb,set_append_right->Pr,length_filter_le->Pt,exists_cons_of_length_pos->Py,zip_cons_cons->Pz,mem_filterMap->PD,take_append_of_le_length->PU,mem_of_mem_take->PV,eq_nil_of_length_eq_zero->PX,reverse_append->P4,filterMap_cons->P5,getElem?_inj->P7,mem_range->P9,foldl_cons->Qk,any_cons->Qn,nodup_iff_pairwise_ne->Qo,filter_append->Qp,cons_append->Qx,take_sublist->Qy,reverse_perm->Qz,getElem_take->QA,nodup_nil->QL,zipIdx_cons->QT,map_reverse->QU,toArray->QZ,reverse_cons->Q0,pairwise_map->Q1,forIn_cons->Q8,foldl_append->Q9,all_append->Rc,of_mem_zip->Rg,mem_filter->Rh
open Nat renaming le_refl->Ll,lt_of_lt_of_le->LZ,le_trans->L8,lt_of_succ_lt->Mo,zero_le->Mu,ne_of_lt->MA,lt_irrefl->MB,lt_of_le_of_lt->MY,le_of_lt->Nq,zero_add->NV,lt_succ_of_lt->NW,ne_of_gt->Ob,pos_of_ne_zero->ON,not_lt->Pd,sub_self->Pn,le_succ_of_le->Po,le_of_eq->Qi,add_assoc->QG,lt_succ_self->QR,le_add_right->QS,le_succ->Q5,toDigits->Rj
open PySem.Heap renaming get?_push_of_some->Lm,get?_push_size->LO,lt_size->LX,get?_update_other->Mq,size_push->M0,get?_update_self->NM,SameBut->OA,get?_none_of_le->PZ,get?_update_ne->P6,size_update->QW
open PySem.Str renaming ofString->Lo,length_append->Pk,empty->Qb
open PySem.W renaming Frag->Lq,kia_one->Nd,findIn->Nn,mg_none_of->Nt,mg_of->Og,nsIn->Oh,keepIn->P2,methodCall_KW->QC,mroIn->QD,plainGet->QJ,hasDictIn->QN,of_hideAll->Q3,instObj->Q6,callWith_K->Rb
open PyProof.Rows renaming wpS_bind->Lv,wpS_pure->LD,arrOf->LI,Keyed->L7,SortSt->Mf,seqObj->Ms,wpS_forRange->Mz,pendingOf->MF,slot_tuple_getitem->MT,wpS_mono->Nk,numOf->Nv,callWith_type1->Nx,failedOf->ND,listUpdate_at->NX,subscriptTail_builtinR->Ov,envOfC->OF,AllBare->OK,boot_isinstance->O8,wpS_modify->Pa,seqEpoch_at->Pg,wpS_get->PB,IntsAre->PK,get?_update_seq->P3,wpS_lift->Qc,slot_tuple_getitem->Qf,size_push'->Qh,IsTup->QV,listItems_at->Q4,Subscript_->Re
open PySem.Value renaming ref->Lx,none->Mj,int->N6,bool->OT,str->Rm
open Bool renaming false_ne_true->Lz,and_eq_true->Mw,false_eq_true->Nm,eq_false_iff->Ox,eq_iff_iff->OE,or_false->O4,false_and->Pp,true_and->PL,and_false->Rl
open Or renaming inl->LK,inr->QF
open Ne renaming symm->L9
open Option renaming map_eq_some_iff->Me,some->Mm,bind_some->Qa,isSome_iff_exists->Qw,map_some->Rk,map->Rn
open Array renaming length_toList->Mi,getElem?_eq_some_iff->My,getElem?_toList->MH,getElem?_setIfInBounds_self_of_lt->MJ,toList_append->NO,perm_iff_toList_perm->N9,toList_extract->OL,getElem_toList->OQ,getElem?_setIfInBounds_ne->Pq,toList_push->PP,toList_reverse->P0,toList_setIfInBounds->Qr,getElem?_eq_getElem->Qt
open Int renaming le_refl->MR,le_of_lt->M3,toNat_natCast->Nb,le_trans->NG,emod_lt_of_pos->Oj,toNat_of_nonneg->O1,not_lt->Pe,emod_nonneg->Ph
open PySem.Txt renaming split->MV,slice->Nf,join->Om,rfind->O9
open PySem.Obj renaming isFreed_of_fields->Nj,mapSeq->Nu,data_mapFields->Ol,cls_mapFields->Pm,mapFields->QM
open Classical renaming byContradiction->N1
open PySem.PyData renaming keyHash->OU
open PySem.F renaming slot_dict_get->PC,plainAttrs_list->P1,slot_str_split->Qg,slot_dict_delitem->Qs,plainAttrs_dict->QO,attr_ValueError->QP,args_dict_get_3->QQ
open PySem.W (methodObj hideAll hideAll_get lookIn handedIn plainGet_of isFn plainOver takerIn makesIn emptyDict callWith_K0 fnOf codeIn excIn clsIn kla_obj tabObj kla_fn codeHdIn)
open List (length all_cons foldl nil_append map_nil Pairwise drop_zero range' Sublist map_take)
open PySem.Heap (UpToSlots ExtBut)
open Option (getD_none isSome_some isSome_map bind_eq_some_iff isSome)
open PySem.Value (float type builtin)
open PySem.F (slot_tuple_add entry_tuple_add args_tuple_add_2 entry_str_split args_str_split_2 entry_dict_get)
set_option bootstrap.genMatcherCode false
set_option compiler.extract_closed false
local macro_rules | `(f!$_)=>`(by decide +kernel)
local macro_rules | `({$x:term})=>`(⟨$x⟩) | `({$x:term,$xs:term,*})=>`(⟨$x,$xs,*⟩)
local macro_rules | `($c:char)=>match c.getChar with | 'l'=>`(by lia) | 'd'=>`(by decide) | 's'=>`(by simp) | _=>Lean.Macro.throwUnsupported
set_option Elab.async false
set_option linter.all false
set_option autoImplicit true
set_option maxRecDepth 100000
namespace L2
open PySem PySem.Spec PyProof.Rows
abbrev We:PySem.Str:="__init__"
abbrev Wd:PySem.Str:="whole_rows"
abbrev Wc:PySem.Str:="refuse_if_stopped"
abbrev Wb:PySem.Str:="hold"
abbrev Wa:PySem.Str:="next_place"
abbrev V9:PySem.Str:="stretches"
abbrev V8:PySem.Str:="put"
abbrev V7:PySem.Str:="cut"
abbrev V6:PySem.Str:="is_made_of"
abbrev V5:PySem.Str:="Disk.refuse_if_stopped"
abbrev V4:PySem.Str:="_law_row"
abbrev V3:PySem.Str:="is_within"
abbrev V2:PySem.Str:="copied"
abbrev V1:PySem.Str:="refuse_if_none"
abbrev V0:PySem.Str:="is_number_text"
abbrev VZ:PySem.Str:="_law_empty"
abbrev VY:PySem.Str:="places"
abbrev VX:PySem.Str:="_law_cleaned"
abbrev VW:PySem.Str:="part_text"
abbrev VV:PySem.Str:="_law_list"
abbrev VU:PySem.Str:="_law_some"
abbrev VT:PySem.Str:="read_part"
abbrev VS:PySem.Str:="first_signs"
abbrev VR:PySem.Str:="_law_layout"
abbrev Z6:List PySem.Str:=["_law_script","_law_disk_here","_law_state","_law_model","_law_ends","_law_wide","_law_some_here","_law_lists","_law_before","_law_stretches","_law_due","_law_told"]
abbrev ZQ:List PySem.Str:=["_law_script","_law_many","_law_wide","_law_order","_law_disk_here","_law_model","_law_files","_law_spots","_law_number","_law_ends","_law_turn","_law_stretch","_law_ways","_law_cold","_law_place","_law_way","_law_other","_law_birth","_law_lives","_law_row_here","_law_state"]
abbrev ZK:List PySem.Str:=["self"]
abbrev ZE:List PySem.Str:=["_law_script","_law_k","_law_many","_law_base"]
abbrev ZA:List PySem.Str:=["self","files","spots","next_number","mark_number"]
abbrev Zt:List PySem.Str:=["_law_script","_law_k"]
abbrev Zl:List PySem.Str:=["self","stretch"]
abbrev Y7:List PySem.Str:=["self","stretches","places"]
abbrev Y5:List PySem.Str:=["text","signs","most"]
abbrev Y4:List PySem.Str:=["text"]
abbrev YG:List PySem.Str:=["_law_model","_law_ends"]
abbrev YA:List PySem.Str:=["_law_script"]
abbrev Yz:List PySem.Str:=["value","least","most"]
abbrev Yq:List PySem.Str:=["_law_model","_law_ends","_law_wide","_law_stretches","_law_cold","_law_carried","_law_stretch","_law_birth"]
abbrev Yk:List PySem.Str:=["_law_model","_law_ends","_law_wide","_law_stretches"]
abbrev Yg:List PySem.Str:=["self","file"]
abbrev Yb:List PySem.Str:=["_law_disk_here","_law_model","_law_ends","_law_far"]
abbrev X3:List PySem.Str:=["self","many"]
abbrev X2:List PySem.Str:=["_law_disk_here","_law_model","_law_ends","_law_far","_law_some_here","_law_stretch"]
abbrev XX:List PySem.Str:=["disk"]
abbrev XW:List PySem.Str:=["_law_script","_law_k","_law_some_here"]
abbrev XS:List PySem.Str:=["_law_k","_law_disk_here"]
abbrev XR:List PySem.Str:=["disk","stretch","place"]
abbrev XI:List PySem.Str:=["_law_number","_law_way"]
abbrev XA:List PySem.Str:=["_law_model","_law_ends","_law_wide"]
abbrev Xy:List PySem.Str:=["_law_number","_law_k"]
abbrev Xw:List PySem.Str:=["self","name","files"]
abbrev Xt:List PySem.Str:=["_law_k","_law_model"]
abbrev Xo:List PySem.Str:=["self","file","many"]
abbrev Xn:List PySem.Str:=["_law_model"]
abbrev Xk:List PySem.Str:=["self","file","place","birth"]
abbrev Xc:List PySem.Str:=["kind","word"]
abbrev Xb:List PySem.Str:=["disk","state","stretches"]
abbrev Xa:List PySem.Str:=["state","stretch","found"]
abbrev W8:List PySem.Str:=["self","stretch","place"]
abbrev W5:List PySem.Str:=["disk","end"]
abbrev WW:List PySem.Str:=["self","stretch","text"]
abbrev WL:List PySem.Str:=["number","number","end","name","number","word"]
abbrev WD:List PySem.Str:=["number","name"]
abbrev Wz:List PySem.Str:=["disk","is_hot"]
abbrev Wk:List PySem.Str:=["self","other"]
abbrev Wj:List PySem.Str:=["self","stretch","texts","done","place"]
abbrev Wi:List PySem.Str:=["self","stretch","text","texts","place"]
abbrev Wh:List PySem.Str:=["self","name"]
abbrev Wg:List PySem.Str:=["disk","many"]
abbrev Wf:List PySem.Str:=["_law_k","_law_script","_law_some_here"]
structure W(p:Prop):Prop where
 h:p
abbrev Key:=Sum Int Str
def fR:Key->Value->Bool
 | .inl k,v=>Value.isInt k v
 | .inr x,v=>Value.isStrOf x v
def KZ(w:LW):Key->Int
 | .inl k=>hashInt k
 | .inr x=>hashStr w x
theorem dJ:∀{k:Key}{v:Value},fR k v=true->(∃i t,k=Sum.inl i/\v=N6 i t)\/(∃x t,k=Sum.inr x/\v=Rm x t)
 | .inl i,v,h=>by
  obtain ⟨t,e⟩:=Value.isInt_shape (k:=i) (v:=v) h;exact .inl {i,t,rfl,e}
 | .inr x,v,h=>by
  obtain ⟨t,e⟩:=Value.isStrOf_shape (x:=x) (v:=v) h;exact .inr {x,t,rfl,e}
theorem Ka(i:Int)(t:Tok):fR (.inl i) (.int i t)=true:=by simp [fR,Value.isInt]
theorem GO(x:Str)(t:Tok):fR (.inr x) (.str x t)=true:=by simp [fR,Value.isStrOf]
theorem Fe(a b:Int):decide ((Sum.inl a:Key)=Sum.inl b)=(a==b):=by
 by_cases e:a=b
 .subst e;simp
 .have h : ¬ (Sum.inl a:Key)=Sum.inl b:=λq=>e (Sum.inl.inj q);rw [decide_eq_false h];exact (beq_eq_false_iff_ne.mpr e).symm
theorem JV(a b:Str):decide ((Sum.inr a:Key)=Sum.inr b)=decide (a=b):=by
 by_cases e:a=b
 .subst e;simp
 .have h : ¬ (Sum.inr a:Key)=Sum.inr b:=λq=>e (Sum.inr.inj q);rw [decide_eq_false h,decide_eq_false e]
theorem KI(a:Int)(b:Str):decide ((Sum.inl a:Key)=Sum.inr b)=false:=decide_eq_false (λq=>nomatch q)
theorem AK(a:Str)(b:Int):decide ((Sum.inr a:Key)=Sum.inl b)=false:=decide_eq_false (λq=>nomatch q)
def ax(prog:Ly)(w:LW):PySem.KeyKind prog w Key where
 is:=fR
 hash:=KZ w
 inj:=λv a b ha hb=>by
  rcases dJ ha with ⟨i,t,rfl,rfl⟩|⟨x,t,rfl,rfl⟩
  .rcases dJ hb with ⟨j,u,rfl,e⟩|⟨y,u,rfl,e⟩
   .injection e with e1 _;rw [e1]
   .exact nomatch e
  .rcases dJ hb with ⟨j,u,rfl,e⟩|⟨y,u,rfl,e⟩
   .exact nomatch e
   .injection e with e1 _;rw [e1]
 byValue:=λk v h=>by
  rcases dJ h with ⟨i,t,rfl,rfl⟩|⟨x,t,rfl,rfl⟩<;>rfl
 pyHash:=λz h=>by
  rcases dJ z with ⟨i,t,rfl,rfl⟩|⟨x,t,rfl,rfl⟩
  .exact wpAny_pyHash_int h
  .exact wpAny_pyHash_str h
 eqBool:=λF z h=>by
  rcases dJ F with ⟨i,t,rfl,rfl⟩|⟨x,t,rfl,rfl⟩
  .rcases dJ z with ⟨j,u,rfl,rfl⟩|⟨y,u,rfl,rfl⟩
   .rw [Fe] at h;exact wpAny_eqBool_int h
   .rw [KI] at h;exact SeqAt.EqAt.int_str i t y u _ _ _ _ h
  .rcases dJ z with ⟨j,u,rfl,rfl⟩|⟨y,u,rfl,rfl⟩
   .rw [AK] at h;exact SeqAt.EqAt.str_int x t j u _ _ _ _ h
   .rw [JV] at h;exact wpAny_eqBool_str h
 «strs»:=λk x t v h=>by
  rcases dJ h with ⟨i,u,rfl,e⟩|⟨y,u,rfl,e⟩
  .exact nomatch e
  .injection e with e1 _
   subst e1;cases v<;>rfl
theorem KH(prog:Ly)(w:LW)(i:Int)(t:Tok):(ax prog w).is (.inl i) (.int i t)=true:=Ka i t
theorem jy(prog:Ly)(w:LW)(x:Str)(t:Tok):(ax prog w).is (.inr x) (.str x t)=true:=GO x t
inductive V where
 | non|bl (b:Bool)|int (i:Int)|str (x:Str)|byt (b:Array UInt8)|flt (b:UInt64)|ref (a:Addr)|ty (n:String)
 deriving DecidableEq
def zo:V->Value->Prop
 | .non,u=>u=Mj
 | .bl b,u=>u=OT b
 | .int i,u=>∃t,u=N6 i t
 | .str x,u=>∃t,u=Rm x t
 | .byt b,u=>∃t,u=Value.bytes b t
 | .flt b,u=>∃t,u=float b t
 | .ref a,u=>u=Lx a
 | .ty n,u=>u=type n
abbrev zm:List V->List Value->Prop:=Paired zo
theorem zm.length(r:zm xs us):xs.length=us.length:=Paired.length r
theorem zm.get:∀{xs:List V}{us:List Value}{i:Nat}{x:V},zm xs us->xs[i]?=some x->∃u,us[i]?=some u/\zo x u
 | _,_,_,_,.nil,e=>by simp at e
 | _,_,0,_,.cons r _,e=>by simp at e;subst e;exact {_,rfl,r}
 | _,_,i+1,x,.cons _ t,e=>by
  obtain ⟨u,h1,h2⟩:=zm.get (i:=i) (x:=x) t (by simpa using e);exact {u,by simpa using h1,h2}
theorem zm.set(r:zo x u):∀{xs:List V}{us:List Value}(i:Nat),zm xs us->zm (xs.set i x) (us.set i u)
 | _,_,_,.nil=>.nil
 | _,_,0,.cons _ t=>.cons r t
 | _,_,i+1,.cons q t=>.cons q (zm.set r i t)
theorem zm.append(h:zm xs us)(k:zm ys ws):zm (xs++ys) (us++ws):=by
 induction h with
 | nil=>exact k
 | cons r t z=>exact .cons r z
theorem zm.take:∀{xs:List V}{us:List Value}(n:Nat),zm xs us->zm (xs.take n) (us.take n)
 | _,_,0,_=>.nil
 | _,_,_+1,.nil=>.nil
 | _,_,n+1,.cons r t=>.cons r (zm.take n t)
theorem zm.drop:∀{xs:List V}{us:List Value}(n:Nat),zm xs us->zm (xs.drop n) (us.drop n)
 | _,_,0,r=>r
 | _,_,_+1,.nil=>.nil
 | _,_,n+1,.cons _ t=>zm.drop n t
def bw:Option V->Option Value->Prop
 | some v,some u=>zo v u
 | none,none=>True
 | _,_=>False
def KV{κ:Type}:List (κ×V)->List (κ×Value)->Prop:=Paired λ(p:κ×V)(q:κ×Value)=>p.1=q.1/\zo p.2 q.2
def kV:Key->V
 | .inl i=>.int i
 | .inr x=>.str x
inductive HO where
 | lst (xs:List V)
 | tup (xs:List V)
 | dK (kvs:List (Key×V))|dT (kvs:List (List Key×V))
 | set (S:Int->Bool) (n:Nat)
 | ins (C dx:Addr) (fs:List (Str×V))
 | own (x:Addr)
 | xd (fs:List (Str×V))
 | met (f x:Addr)
 | rng (lo hi:Int)
 | frz (o:Obj) (u:HO)
 | tbl (ps:Array Value)
 | ext (φ:Heap->Prop)
abbrev Hp:=Addr->Option HO
def upd(H:Hp)(a:Addr)(o:HO):Hp:=λb=>if b=a then some o else H b
theorem zx{o:HO}:upd H a o a=some o:=by unfold upd;rw [if_pos rfl]
theorem zd{o:HO}(h:b≠a):upd H a o b=H b:=by unfold upd;rw [if_neg h]
theorem dW{o u:HO}:upd (upd H a o) a u=upd H a u:=by
 funext b;unfold upd;split<;>rfl
theorem JI{H:Hp}{o u:HO}(h:H a=some o)(h':H b=some u)(d:o≠u):a≠b:=by
 intro e;subst e;rw [h] at h';exact d (Mm.inj h')
theorem zr{H:Hp}{o:HO}(h:H a=some o)(h':H b=none):a≠b:=by
 intro e;subst e;rw [h] at h';cases h'
section
variable (P:Ly) (w:LW)
def aa(H:Hp)(h:Heap)(a:Addr):HO->Prop
 | .lst xs=>xs.length<=sizeLine/\∃(its:List Value)(n:Nat),zm xs its/\h.get? a=some { cls:=.type "list",data:=.seq its.toArray n }
 | .tup xs=>xs.length<=sizeLine/\∃its:List Value,zm xs its/\QV h a its.toArray
 | .dK kvs=>kvs.length<=sizeLine/\(a==sysModules)=false/\∃vs,KV kvs vs/\h.DictOf (ax P w) a vs
 | .dT kvs=>kvs.length<=sizeLine/\(a==sysModules)=false/\∃xs:List (List Key×Addr×Value),
   Paired (λ(p:List Key×V)(q:List Key×Addr×Value)=>p.1=q.1/\H q.2.1=some (.tup (p.1.map kV))/\zo p.2 q.2.2) kvs xs /\
   ∃o es ep,h.get? a=some o/\o.ExactDict/\o.data = .dict es ep/\es.toList=xs.map (entryOfKey (QH (ax P w)))/\(xs.map (·.1)).Nodup
 | .set S n=>h.SetOf (intKind P w) a S n
 | .ins C dx fs=>H dx=some (.own a)/\fs.length<=1000/\dx≠a/\h.get? a=some (Q6 C dx) /\
   ∃mA,h.Ns1 dx mA/\(∀f,bw (fs.lookup f) (mA f))/\Rf mA (fs.map (·.1))
 | .own _=>∃o,h.get? a=some o
 | .xd fs=>∃mA,h.Ns1 a mA/\∀f,bw (fs.lookup f) (mA f)
 | .rng lo hi=>∃t u v,h.get? a=some { cls:=.type "range",data:=.fields #[.int lo t,.int hi u,.int 1 v] }
 | .frz o u=>h.get? a=some o/\aa H h a u
 | .tbl ps=>h.get? a=some { cls:=.none,data:=.fields ps }
 | .met f x=>h.get? a=some (methodObj (.ref f) (.ref x))
 | .ext z=>z h/\(∃o,h.get? a=some o)/\∀h1 h2:Heap,z h1->(∀o,h1.get? a=some o->h2.get? a=some o)->z h2
def HOk(H:Hp)(h:Heap):Prop:=∀a o,H a=some o->aa P w H h a o
end
section
variable {P:Ly}{w:LW}{H H':Hp}{h h':Heap}{a:Addr}{o:HO}
theorem aa.lt(x:aa P w H h a o):a<h.objs.size:=by
 cases o with
 | lst xs=>obtain ⟨_,_,_,_,e⟩:=x;exact LX e
 | tup xs=>obtain ⟨_,_,_,p⟩:=x;exact p.lt
 | dK kvs=>obtain ⟨_,_,_,_,o,_,_,e,_⟩:=x;exact LX e
 | dT kvs=>obtain ⟨_,_,_,_,o,_,_,e,_⟩:=x;exact LX e
 | set S n=>obtain ⟨o,_,_,_,e,_⟩:=x;exact LX e
 | ins C dx fs=>obtain ⟨_,_,_,e,_⟩:=x;exact LX e
 | own y=>obtain ⟨_,e⟩:=x;exact LX e
 | xd fs=>obtain ⟨_,⟨_,_,_,e,_⟩,_⟩:=x;exact LX e
 | rng lo hi=>obtain ⟨_,_,_,e⟩:=x;exact LX e
 | frz ob u=>obtain ⟨e,_⟩:=x;exact LX e
 | tbl ps=>exact LX (show h.get? a=some _ from x)
 | met f y=>exact LX (show h.get? a=some _ from x)
 | ext z=>obtain ⟨_,⟨_,e⟩,_⟩:=x;exact LX e
theorem Paired.z9{α β:Type}{F G:α->β->Prop}{z:List α}{l₂:List β}(h:Paired F z l₂)(f:∀a b,F a b->G a b):Paired G z l₂:=by
 induction h with
 | nil=>exact .nil
 | cons r t J=>exact .cons (f _ _ r) J
theorem aa.stay(x:aa P w H h a o)(k:∀b u,(b=a\/H b=some (.own a))->h.get? b=some u->h'.get? b=some u)
  (ho:∀b,H b=some (.own a)->H' b=some (.own a)) (O:∀b xs,H b=some (.tup xs)->H' b=some (.tup xs)):aa P w H' h' a o:=by
 induction o with
 | lst xs=>obtain ⟨z,its,n,r,e⟩:=x;exact {z,its,n,r,k _ _ (.inl rfl) e}
 | tup xs=>obtain ⟨z,its,r,ob,e,c⟩:=x;exact {z,its,r,ob,k _ _ (.inl rfl) e,c}
 | dK kvs=>obtain ⟨z,y,vs,r,ob,es,ep,e,c⟩:=x;exact {z,y,vs,r,ob,es,ep,k _ _ (.inl rfl) e,c}
 | dT kvs =>
  obtain ⟨z,y,xs,r,ob,es,ep,e,c⟩:=x;exact {z,y,xs,Paired.z9 r λp q z=>{z.1,O _ _ z.2.1,z.2.2},ob,es,ep,k _ _ (.inl rfl) e,c}
 | set S n=>obtain ⟨ob,es,ep,t,e,c⟩:=x;exact {ob,es,ep,t,k _ _ (.inl rfl) e,c}
 | ins C dx fs =>
  obtain ⟨d,z,ne,e,mA,⟨F,es,ep,G,c⟩,r⟩:=x;exact {ho _ d,z,ne,k _ _ (.inl rfl) e,mA,{F,es,ep,k _ _ (.inr d) G,c},r}
 | own y=>obtain ⟨ob,e⟩:=x;exact {ob,k _ _ (.inl rfl) e}
 | xd fs=>obtain ⟨mA,⟨F,es,ep,e,c⟩,r⟩:=x;exact {mA,{F,es,ep,k _ _ (.inl rfl) e,c},r}
 | rng lo hi=>obtain ⟨t,u,v,e⟩:=x;exact {t,u,v,k _ _ (.inl rfl) e}
 | frz ob u J=>obtain ⟨e,q⟩:=x;exact {k _ _ (.inl rfl) e,J q}
 | tbl ps =>
  have e:h.get? a=some { cls:=.none,data:=.fields ps }:=x;show h'.get? a=some { cls:=.none,data:=.fields ps };exact k a _ (.inl rfl) e
 | met f y =>
  have e:h.get? a=some (methodObj (.ref f) (.ref y)):=x;show h'.get? a=some (methodObj (.ref f) (.ref y));exact k a _ (.inl rfl) e
 | ext U=>obtain ⟨p,⟨o,e⟩,st⟩:=x;exact {st _ _ p λo q=>k _ _ (.inl rfl) q,{o,k _ _ (.inl rfl) e},st}
theorem HOk.lt(x:HOk P w H h)(e:H a=some o):a<h.objs.size:=(x a o e).lt
theorem HOk.fresh(x:HOk P w H h)(e:h.objs.size<=a):H a=none:=by
 cases q:H a with
 | none=>rfl
 | some u=>exact absurd (LZ (x.lt q) e) (MB _)
theorem HOk.kept(x:HOk P w H h)(k:∀b u,h.get? b=some u->h'.get? b=some u):HOk P w H h':=λa o e =>
 (x a o e).stay (λb u _ q=>k b u q) (λ_ q=>q) λ_ _ q=>q
theorem HOk.laid(x:HOk P w H h)(k:∀b u,h.get? b=some u->h'.get? b=some u)(F:h.objs.size<=a)(new:aa P w (upd H a o) h' a o):HOk P w (upd H a o) h':=λb u e=>by
 have z:=x.fresh F;by_cases hb:b=a
 .subst hb;rw [zx] at e;cases e;exact new
 .rw [zd hb] at e;exact (x b u e).stay (λc v _ q=>k c v q) (λc q=>by rw [zd (zr q z)];exact q) λc xs q=>by rw [zd (zr q z)];exact q
end
def Rd(H:Hp)(a:Addr)(u:HO):Prop:=H a=some u\/∃o,H a=some (.frz o u)
theorem Rd.ok(r:Rd H a u)(x:HOk P w H h):aa P w H h a u:=by
 rcases r with r|⟨o,r⟩
 .exact x a u r
 .obtain ⟨_,q⟩:=x a _ r;exact q
def Mut:Option HO->Prop
 | some (.lst _)=>True
 | some (.dK _)=>True
 | some (.dT _)=>True
 | some (.set _ _)=>True
 | some (.ins _ _ _)=>True
 | some (.ext _)=>True
 | _=>False
section
variable {P:Ly}{w:LW}{H:Hp}{h h':Heap}{x e:Addr}{o':HO}
theorem HOk.write(ok:HOk P w H h)(O:Mut (H x))(he:e=x\/H e=some (.own x))(k:∀b u,b≠e->h.get? b=some u->h'.get? b=some u)(S:∃u,h'.get? e=some u)
  (new:aa P w (upd H x o') h' x o'):HOk P w (upd H x o') h':=λb u q=>by
 have G:∀c y,H c=some (.own y)->c≠x:=λc y r z=>by subst z;rw [r] at O;exact O
 have J:∀c xs,H c=some (.tup xs)->c≠x:=λc xs r z=>by subst z;rw [r] at O;exact O
 by_cases hb:b=x
 .subst hb;rw [zx] at q;cases q;exact new
 .rw [zd hb] at q;by_cases F:b=e
  .have U:H b=some (.own x):=by
    rcases he with z|z
    .exact absurd (F.trans z) hb
    .rw [F];exact z
   rw [q] at U;cases U;obtain ⟨v,W⟩:=S;exact {v,by rw [F];exact W}
  .refine (ok b u q).stay (λc v hc r=>k c v ?_ r) (λc r=>by rw [zd (G c b r)];exact r) λc xs r=>by rw [zd (J c xs r)];exact r
   rcases hc with rfl|hc
   .exact F
   .rintro rfl;rcases he with z|z
    .exact G c b hc z
    .rw [hc] at z;cases z;exact hb rfl
end
structure Un(fs ex:List Addr)(H H':Hp)(h h':Heap):Prop where
 keep:∀b o,h.get? b=some o->H b=none->b∉fs->b∉ex->h'.get? b=some o
 slot:∀b o,h.get? b=some o->H b=none->b∈fs->b∉ex->∃sl,h'.get? b=some { o with slots:=sl }
 free:∀b o,h.get? b=some o->H b=none->b∉ex->H' b=none
 there:∀b o,h.get? b=some o->b∉ex->∃o',h'.get? b=some o'
 tups:∀b xs,H b=some (.tup xs)->H' b=some (.tup xs)
 frzs:∀b o u,H b=some (.frz o u)->H' b=some (.frz o u)
 tbls:∀b ps,H b=some (.tbl ps)->∃more,H' b=some (.tbl (ps++more))
section
variable {fs fs' ex ex':List Addr}{H H1 H2:Hp}{h h1 h2 h':Heap}{a x e:Addr}{o:HO}
theorem Un.any(u:Un fs ex H H1 h h1)(q:h.get? b=some ob)(n:H b=none)(hx:b∉ex):∃sl,h1.get? b=some { ob with slots:=sl }:=by
 by_cases hb:b∈fs
 .exact u.slot b ob q n hb hx
 .exact {ob.slots,u.keep b ob q n hb hx}
theorem Un.kept(k:∀b u,h.get? b=some u->h'.get? b=some u):Un fs ex H H h h' :=
 {λb ob q _ _ _=>k b ob q,λb ob q _ _ _=>{ob.slots,k b ob q},λ_ _ _ n _=>n,λb ob q _=>{ob,k b ob q},λ_ _ q=>q,λ_ _ _ q=>q,λ_ ps q=>{#[],by rw [q];simp}}
theorem Un.refl:Un fs ex H H h h:=Un.kept λ_ _ q=>q
theorem Un.laid(k:∀b u,h.get? b=some u->h'.get? b=some u)(F:h.objs.size<=a)(z:H a=none):Un fs ex H (upd H a o) h h' where
 keep:=λb u q _ _ _=>k b u q
 slot:=λb u q _ _ _=>{u.slots,k b u q}
 free:=λb u q n _=>by rw [zd (MA (LZ (LX q) F))];exact n
 there:=λb u q _=>{u,k b u q}
 tups:=λb xs q=>by rw [zd (zr q z)];exact q
 frzs:=λb u xs q=>by rw [zd (zr q z)];exact q
 tbls:=λb ps q=>{#[],by rw [zd (zr q z),q];simp}
theorem Un.write(G:Mut (H x))(he:e=x\/H e=some (.own x))(k:∀b u,b≠e->h.get? b=some u->h'.get? b=some u)(J:∃u,h'.get? e=some u):Un fs ex H (upd H x o) h h':=by
 have hx:∀b,H b=none->b≠x:=λb n z=>by subst z;rw [n] at G;exact G
 have hb:∀b,H b=none->b≠e:=λb n z=>by
  subst z;rcases he with r|r
  .exact hx b n r
  .rw [n] at r;cases r
 have hm:∀b u,H b=some u->¬ Mut (some u)->b≠x:=λb u q nm z=>by subst z;rw [q] at G;exact nm G
 refine {λb u q n _ _=>k b u (hb b n) q,λb u q n _ _=>{u.slots,k b u (hb b n) q},λb u q n _=>by rw [zd (hx b n)];exact n,λb u q _=>?_,
  λb xs q=>by rw [zd (hm b _ q λz=>z)];exact q,λb u xs q=>by rw [zd (hm b _ q λz=>z)];exact q,λb ps q=>{#[],by rw [zd (hm b _ q λz=>z),q];simp}}
 by_cases F:b=e
 .subst F;exact J
 .exact {u,k b u F q}
end
def trk(h:Heap)(H:Hp):List Addr:=(Oi h.objs.size).filter λa=>(H a).isSome
def dM(h:Heap)(H:Hp):Heap:=hideAll h (trk h H)
theorem IT(h:Heap)(H:Hp):(dM h H).objs.size=h.objs.size:=PySem.W.hideAll_size _ _
theorem Gf{o:Obj}(e:h.get? b=some o)(n:H b=none):(dM h H).get? b=some o :=
 hideAll_get _ e λhm=>by
  have q:(H b).isSome=true:=(Rh.mp hm).2;rw [n] at q;simp at q
theorem IP{o:Obj}(e:(dM h H).get? b=some o):h.get? b=some o/\H b=none:=by
 have F:h.get? b=some o:=Q3 (trk h H) e;refine {F,?_};cases q:H b with
 | none=>rfl
 | some x =>
  have hm:b∈trk h H:=Rh.mpr {P9.mpr (LX F),by simp [q]};have z:(dM h H).get? b=none:=PySem.W.hideAll_none (trk h H) hm;rw [z] at e;cases e
def fu(g h:Heap)(L:Addr):List (Addr×Obj):=(Oi h.objs.size).filterMap λa=>if a=L\/(g.get? a).isSome=true then none else (h.get? a).map λo=>(a,o)
theorem Dg{o:Obj}(h1:a≠L)(h2:g.get? a=none)(h3:h.get? a=some o):(a,o)∈fu g h L :=
 PD.mpr {a,P9.mpr (LX h3),by simp [h1,h2,h3]}
theorem IC{p:Addr×Obj}(G:p∈fu g h L):p.1≠L/\g.get? p.1=none/\h.get? p.1=some p.2:=by
 obtain ⟨b,_,e⟩:=PD.mp G;split at e
 .cases e
 .rename_i F;cases q:h.get? b with
  | none=>rw [q] at e;simp at e
  | some u =>
   rw [q] at e;simp only [Rk,Mm.injEq] at e;subst e;refine {λz=>F (.inl z),?_,q};show g.get? b=none;cases r:g.get? b with
   | none=>rfl
   | some v=>exact (F (.inr (by simp [r]))).elim
theorem Af:News g L h (fu g h L):=λp z=>let ⟨a,b,c⟩:=IC z;⟨c,a,b⟩
structure Mod(K:Lq)(mg:Str->Option Value)(base:Heap):Prop where
 T8:K.In base
 glob:base.Ns LG mg
 blt:∃mb,base.Ns Pc mb/\∀x:Str,x≠"__name__"->mb x=Oz x
 nolimit:base.NoLimit
def iT(A:LV)(H:Hp):Prop:=A.handled=none\/∃(a:Addr)(o:Obj)(vs:Array Value),A.handled=some (.ref a)/\H a=some (.frz o (.own 0))/\o.data = .fields vs/\vs[2]?=some .none/\∃C,o.cls = .ref C
theorem iT.same(x:iT A H)(k:∀b o u,H b=some (.frz o u)->H' b=some (.frz o u)):iT A H':=by
 rcases x with x|⟨a,o,vs,h1,h2,h3⟩
 .exact .inl x
 .exact .inr {a,o,vs,h1,k _ _ _ h2,h3}
structure Cx where
 prog:Ly
 w:LW
 K:Lq
 mg:Str->Option Value
 base:Heap
 A:LV
 N:List Str
 s₀:Lk
 H₀:Hp
 env:Env
 outer:List Env
 stack:List Env
 ex:List Addr
 fn:Str->Bool
 calm:Bool
 pn:List (Addr×Obj)
 xe:Value->Lk->Prop
def frs(l:List Env):List Addr:=l.filterMap (·.frame)
abbrev Cx.fs(X:Cx):List Addr:=frs X.outer
def Vis(sc:Scope)(x:Str):Prop:=sc.names.lookup x=some .local\/sc.names.lookup x=some .cell\/sc.names.lookup x=some .free
def Loc(sc:Scope)(x:Str):Prop:=sc.names.lookup x=some .local\/sc.names.lookup x=some .cell
def KD(env:Env)(h:Heap)(m:Str->Option Value)(x:Str)(u:Value):Prop :=
 (env.kindOf x=some .local/\m x=some u)\/((env.kindOf x=some .cell\/env.kindOf x=some .free)/\∃c,env.cells.lookup x=some c/\h.IsCell c (some u))
structure Cx.Ok(X:Cx):Prop where
 mod:Mod X.K X.mg X.base
 kind:X.env.scope.kind = .function
 glob:X.env.globals=LG
 blt:X.env.builtins=Pc
 above:X.s₀.heap.objs.size<=X.env.locals
 inj:∀x y c,X.env.cells.lookup x=some c->X.env.cells.lookup y=some c->x=y
 has:∀x,(X.env.kindOf x=some .cell\/X.env.kindOf x=some .free)->∃c,X.env.cells.lookup x=some c
 Ul:∀x c,X.fn x=true->X.env.cells.lookup x=some c->X.s₀.heap.objs.size<=c
 hd:X.calm=true->X.A.handled=none
 frames:X.A.frames=some X.stack
 stk:X.stack=X.outer\/(X.stack=X.env::X.outer/\X.env.frame=some X.env.locals)
 UI:∀b∈X.ex,b≠X.env.locals/\∀x c,X.env.cells.lookup x=some c->c≠b
 bs:∀b o,X.base.get? b=some o->X.s₀.heap.get? b=some o/\X.H₀ b=none
 TM:X.base.objs.size<=X.s₀.heap.objs.size
 Tg:∀b o,X.base.get? b=some o->b∉X.ex
 Tp:∀b∈X.ex,b∉X.fs
 RG:X.s₀.heap.FunFrames X.base X.outer
 TX:∀b∈X.fs,X.H₀ b=none
structure Inv(X:Cx)(Go:List (Addr×Obj))(σ:List (Option V))(H:Hp)(s:Lk):Prop where
 ok:X.Ok
 os:s.os=X.s₀.os
 bare:OK s.gens
 base:Un X.fs X.ex X.H₀ H X.s₀.heap s.heap
 loc:∃m,s.heap.Ns X.env.locals m/\∀(i:Nat)(x:Str)(v:V),X.N[i]?=some x->σ[i]?=some (some v)->Vis X.env.scope x->∃u,zo v u/\KD X.env s.heap m x u
 cell:∀x c,X.env.cells.lookup x=some c->∃v,s.heap.IsCell c v
 free:H X.env.locals=none
 L0:∀x c,X.env.cells.lookup x=some c->H c=none
 pin:∀p∈X.pn++Go,s.heap.get? p.1=some p.2/\H p.1=none/\p.1≠X.env.locals/\p.1∉X.fs/\∀v,p.2.data≠.cell v
 hok:HOk X.prog X.w H s.heap
 len:σ.length=X.N.length
 Tj:iT X.A H
section
variable {X:Cx}{Go:List (Addr×Obj)}{σ:List (Option V)}{H H':Hp}{s:Lk}{h':Heap}
theorem Cx.Ok.UM(ok:X.Ok){o:Obj}(e:X.base.get? b=some o):b∉X.fs:=λhb=>by
 have:=(ok.RG.mem hb).1;rw [e] at this;cases this
theorem Inv.bs(I:Inv X Go σ H s):∀b o,X.base.get? b=some o->s.heap.get? b=some o/\H b=none:=λb o e =>
 {I.base.keep b o (I.ok.bs b o e).1 (I.ok.bs b o e).2 (I.ok.UM e) (I.ok.Tg b o e),I.base.free b o (I.ok.bs b o e).1 (I.ok.bs b o e).2 (I.ok.Tg b o e)}
theorem Inv.bk(I:Inv X Go σ H s):∀b o,X.base.get? b=some o->s.heap.get? b=some o:=λb o e=>(I.bs b o e).1
theorem Inv.mod(I:Inv X Go σ H s):Mod X.K X.mg X.base:=I.ok.mod
theorem Inv.Rt(I:Inv X Go σ H s):X.K.In s.heap:=I.ok.mod.T8.keeps I.bk
theorem Inv.fr(I:Inv X Go σ H s):∃m,Fr X.base X.env.locals s.heap m :=
 let ⟨m,hn,_⟩:=I.loc
 {m,hn,I.bk,L8 I.ok.TM I.ok.above}
theorem Inv.lt(I:Inv X Go σ H s):X.env.locals<s.heap.objs.size:=let ⟨_,hn,_⟩:=I.loc;hn.lt
theorem Inv.sz(I:Inv X Go σ H s):X.s₀.heap.objs.size<=s.heap.objs.size:=L8 I.ok.above (Nq I.lt)
theorem Inv.Ut(I:Inv X Go σ H s)(h:s.heap.objs.size<=a):a∉X.fs:=λhb=>by
 obtain ⟨_,o,ho,_⟩:=I.ok.RG.mem hb;exact absurd (LZ (LX ho) (L8 I.sz h)) (MB _)
theorem Inv.cne(I:Inv X Go σ H s):∀x c,X.env.cells.lookup x=some c->c≠X.env.locals:=λx c e z=>by
 obtain ⟨v,o,ho,hd⟩:=I.cell x c e;obtain ⟨m,⟨o',es,ep,G,F,_⟩,_⟩:=I.loc;rw [z,G] at ho;cases ho;rw [F] at hd;cases hd
theorem Inv.RG(I:Inv X Go σ H s):s.heap.FunFrames X.base X.outer:=by
 have all:∀(l:List Env),(∀b∈frs l,b∈X.fs)->X.s₀.heap.FunFrames X.base l->s.heap.FunFrames X.base l:=by
  intro l
  induction l with
  | nil=>intro _ _;trivial
  | cons env r J =>
   intro hs hl;obtain ⟨G,⟨L,o,hf,O,ho,hd⟩,hr⟩:=hl;have F:L∈X.fs:=hs L (by unfold frs;rw [P5,hf];exact LN);obtain ⟨sl,e⟩:=I.base.slot L o ho (I.ok.TX L F) F λz=>I.ok.Tp L z F;exact {G,{L,_,hf,O,e,hd},J (λb hb=>hs b (by unfold frs;rw [P5,hf];exact LA _ hb)) hr}
 exact all X.outer (λ_ hb=>hb) I.ok.RG
theorem Inv.stack(I:Inv X Go σ H s):s.heap.FunFrames X.base X.stack:=by
 rcases I.ok.stk with e|⟨e,hf⟩
 .rw [e];exact I.RG
 .rw [e];obtain ⟨m,z,_⟩:=I.loc;refine .cons (by rw [I.ok.kind];decide) hf z ?_ I.RG;exact PZ (L8 I.ok.TM I.ok.above)
theorem Inv.RM(I:Inv X Go σ H s):∀b∈frs X.stack,b∈X.env.locals::X.fs:=λb hb=>by
 rcases I.ok.stk with e|⟨e,hf⟩
 .rw [e] at hb;exact LA _ hb
 .rw [e] at hb;unfold frs at hb;rw [P5,hf] at hb;exact hb
theorem Inv.Ss(I:Inv X Go σ H s):∀b∈frs X.stack,H b=none:=λb hb=>by
 rcases Lu.mp (I.RM b hb) with e|hb
 .rw [e];exact I.free
 .obtain ⟨_,o,ho,_⟩:=I.ok.RG.mem hb;exact I.base.free b o ho (I.ok.TX b hb) λz=>I.ok.Tp b z hb
theorem Inv.step{ch:List Addr}(I:Inv X Go σ H s)(S:∀b∈ch,(b∈X.ex\/X.s₀.heap.objs.size<=b)/\b≠X.env.locals/\(∀x c,X.env.cells.lookup x=some c->c≠b)/\∀p∈X.pn++Go,p.1≠b)(keep:∀b o,b≠X.env.locals->b∉X.fs->b∉ch->s.heap.get? b=some o->H b=none->h'.get? b=some o)(slot:∀b o,b≠X.env.locals->b∈X.fs->b∉ch->s.heap.get? b=some o->H b=none->∃sl,h'.get? b=some { o with slots:=sl })(free:∀b o,b∉ch->s.heap.get? b=some o->H b=none->H' b=none)(there:∀b o,b∉ch->s.heap.get? b=some o->∃o',h'.get? b=some o')(tups:∀b xs,H b=some (.tup xs)->H' b=some (.tup xs))(frzs:∀b o u,H b=some (.frz o u)->H' b=some (.frz o u))(tbls:∀b ps,H b=some (.tbl ps)->∃more,H' b=some (.tbl (ps++more)))(ns:∀m,s.heap.Ns X.env.locals m->h'.Ns X.env.locals m)(hok:HOk X.prog X.w H' h')(hg:OK g'):
  Inv X Go σ H' { s with heap:=h',gens:=g',drawn:=d',toks:=t' }:=by
 have U:∀b o,X.s₀.heap.get? b=some o->b≠X.env.locals:=λb o e=>MA (LZ (LX e) I.ok.above);have J:∀b o,X.s₀.heap.get? b=some o->b∉X.ex->b∉ch:=λb o e hx hb=>by
  rcases (S b hb).1 with z|z
  .exact hx z
  .exact absurd (LZ (LX e) z) (MB _)
 have G:∀x c,X.env.cells.lookup x=some c->∀v,s.heap.IsCell c v->h'.IsCell c v:=λx c e v ⟨o,ho,hd⟩=>by
  have F:c∉ch:=λz=>(S c z).2.2.1 x c e rfl;by_cases hc:c∈X.fs
  .obtain ⟨sl,q⟩:=slot c o (I.cne x c e) hc F ho (I.L0 x c e);exact {_,q,hd}
  .exact {o,keep c o (I.cne x c e) hc F ho (I.L0 x c e),hd}
 refine {I.ok,I.os,hg,{λb o e n hb hx=>?_,λb o e n hb hx=>?_,λb o e n hx=>?_,λb o e hx=>?_,λb xs e=>tups b xs (I.base.tups b xs e),λb o xs e=>frzs b o xs (I.base.frzs b o xs e),λb ps e=>?_},?_,λx c e=>?_,?_,λx c e=>?_,λp hp=>?_,hok,I.len,I.Tj.same frzs}
 .exact keep b o (U b o e) hb (J b o e hx) (I.base.keep b o e n hb hx) (I.base.free b o e n hx)
 .obtain ⟨sl,e1⟩:=I.base.slot b o e n hb hx;obtain ⟨W,O⟩:=slot b _ (U b o e) hb (J b o e hx) e1 (I.base.free b o e n hx);exact ⟨W,O⟩
 .obtain ⟨o',e1⟩:=I.base.there b o e hx;exact free b o' (J b o e hx) e1 (I.base.free b o e n hx)
 .obtain ⟨o',e1⟩:=I.base.there b o e hx;exact there b o' (J b o e hx) e1
 .obtain ⟨m1,e1⟩:=I.base.tbls b ps e;obtain ⟨m2,O⟩:=tbls b _ e1;exact {m1++m2,by rw [O,Array.append_assoc]}
 .obtain ⟨m,hn,hl⟩:=I.loc;refine {m,ns m hn,λi x v e1 O e3=>?_};obtain ⟨u,r,l⟩:=hl i x v e1 O e3;refine {u,r,?_};rcases l with l|⟨k,c,e,z⟩
  .exact .inl l
  .exact .inr {k,c,e,G x c e _ z}
 .obtain ⟨v,z⟩:=I.cell x c e;exact {v,G x c e v z}
 .obtain ⟨m,⟨o,_,_,ho,_⟩,_⟩:=I.loc;exact free _ o (λz=>(S _ z).2.1 rfl) ho I.free
 .obtain ⟨v,o,ho,hd⟩:=I.cell x c e;exact free c o (λz=>(S c z).2.2.1 x c e rfl) ho (I.L0 x c e)
 .obtain ⟨e,n,ne,Z,d⟩:=I.pin p hp;have F:p.1∉ch:=λz=>(S p.1 z).2.2.2 p hp rfl;exact {keep p.1 p.2 ne Z F e n,free p.1 p.2 F e n,ne,Z,d}
theorem Inv.un(I:Inv X Go σ H s)(u:Un X.fs [] H H' s.heap h')(hok:HOk X.prog X.w H' h'):Inv X Go σ H' { s with heap:=h',toks:=t' }:=by
 obtain ⟨m,⟨o,es,ep,ho,r⟩,_⟩:=id I.loc;obtain ⟨sl,O⟩:=u.any ho I.free 's';exact I.step (g':=s.gens) (d':=s.drawn) (ch:=[]) (λ_ z=>nomatch z) (λb o _ hb _ e n=>u.keep b o e n hb 's') (λb o _ hb _ e n=>u.slot b o e n hb 's') (λb o _ e n=>u.free b o e n 's') (λb o _ e=>u.there b o e 's') u.tups u.frzs u.tbls (λS hm=>by
  obtain ⟨o',G,F,J,r'⟩:=hm;rw [ho] at J;cases J;exact {_,G,F,O,r'}) hok I.bare
theorem Inv.call(I:Inv X Go σ H s)(u:Un (frs X.stack) ch H H' s.heap h')(hok:HOk X.prog X.w H' h')(hg:OK g')(O:∀b∈ch,(b∈X.ex\/X.s₀.heap.objs.size<=b)/\b≠X.env.locals/\(∀x c,X.env.cells.lookup x=some c->c≠b)/\∀p∈X.pn++Go,p.1≠b):
  Inv X Go σ H' { s with heap:=h',gens:=g',drawn:=d',toks:=t' }:=by
 obtain ⟨m,⟨o,es,ep,ho,r⟩,_⟩:=id I.loc;obtain ⟨sl,J⟩:=u.any ho I.free λz=>(O _ z).2.1 rfl;exact I.step (ch:=ch) O (λb o J hb hc e n=>u.keep b o e n (λz=>(Lu.mp (I.RM b z)).elim J hb) hc) (λb o _ _ hc e n=>u.any e n hc) (λb o hc e n=>u.free b o e n hc) (λb o hc e=>u.there b o e hc) u.tups u.frzs u.tbls (λU hm=>by
  obtain ⟨o',G,F,S,r'⟩:=hm;rw [ho] at S;cases S;exact {_,G,F,J,r'}) hok hg
theorem Inv.turned(I:Inv X Go σ H s)(k:∀b o,b≠it->s.heap.get? b=some o->h'.get? b=some o)(J:H it=none)(G:it≠X.env.locals)(h1:it∈X.ex\/X.s₀.heap.objs.size<=it)(h2:∀x c,X.env.cells.lookup x=some c->c≠it)(h3:∀p∈X.pn++Go,p.1≠it):Inv X Go σ H { s with heap:=h',toks:=t' }:=by
 have F:∀b u,H b=some u->b≠it:=λb u e z=>by rw [z,J] at e;cases e
 refine I.step (g':=s.gens) (d':=s.drawn) (ch:=[it]) (λb hb=>?_) (λb o _ _ hc e _=>k b o (λz=>hc (by simp [z])) e) (λb o _ _ hc e _=>{o.slots,k b o (λz=>hc (by simp [z])) e}) (λ_ _ _ _ n=>n)
  (λb o hc e=>{o,k b o (λz=>hc (by simp [z])) e}) (λ_ _ e=>e) (λ_ _ _ e=>e) (λb ps e=>{#[],by rw [e];simp}) (λm hm=>?_) (λb u e=>?_) I.bare
 .have e:b=it:=by simpa using hb
  subst e;exact ⟨h1,G,h2,h3⟩
 .obtain ⟨o,es,ep,ho,r⟩:=hm;exact {o,es,ep,k _ o (L9 G) ho,r}
 .refine (I.hok b u e).stay (λc v hc q=>k c v ?_ q) (λ_ q=>q) λ_ _ q=>q;rcases hc with z|z
  .rw [z];exact F b u e
  .exact F c _ z
theorem Inv.tok(I:Inv X Go σ H s)(t:Nat):Inv X Go σ H { s with toks:=t }:=I.un (h':=s.heap) (t':=t) Un.refl I.hok
theorem Inv.kept(I:Inv X Go σ H s)(k:∀b u,s.heap.get? b=some u->h'.get? b=some u):Inv X Go σ H { s with heap:=h',toks:=t' }:=I.un (Un.kept k) (I.hok.kept k)
theorem Inv.laid{o:HO}(I:Inv X Go σ H s)(k:∀b u,s.heap.get? b=some u->h'.get? b=some u)(z:s.heap.objs.size<=a)(new:aa X.prog X.w (upd H a o) h' a o):
  Inv X Go σ (upd H a o) { s with heap:=h',toks:=t' }:=I.un (Un.laid k z (I.hok.fresh z)) (I.hok.laid k z new)
theorem Inv.write{o:HO}(I:Inv X Go σ H s)(F:Mut (H x))(he:e=x\/H e=some (.own x))(k:∀b u,b≠e->s.heap.get? b=some u->h'.get? b=some u)(z:∃u,h'.get? e=some u)(new:aa X.prog X.w (upd H x o) h' x o):Inv X Go σ (upd H x o) { s with heap:=h',toks:=t' }:=I.un (Un.write F he k z) (I.hok.write F he k z new)
theorem Inv.Hb(I:Inv X Go σ H s)(h:∀p∈pins',s.heap.get? p.1=some p.2/\H p.1=none/\p.1≠X.env.locals/\p.1∉X.fs/\∀v,p.2.data≠.cell v):Inv X pins' σ H s :=
 {I.ok,I.os,I.bare,I.base,I.loc,I.cell,I.free,I.L0,λp F=>(L6.mp F).elim (λz=>I.pin p (MG _ z)) (h p),I.hok,I.len,I.Tj}
theorem wj{N:List Str}(hN:N.Nodup){i j:Nat}(a:N[i]?=some x)(b:N[j]?=some x):i=j:=by
 obtain ⟨h1,e1⟩:=Lp.mp a;obtain ⟨h2,z⟩:=Lp.mp b;exact (List.getElem_inj hN).mp (e1.trans z.symm)
theorem Jq(I:Inv X Go σ H s)(hN:X.N.Nodup)(hi:X.N[i]?=some x)(hx:Loc X.env.scope x)(r:zo v u)(h:∀s',Inv X Go (σ.set i (some v)) H s'->(∃a,OA a s.heap s'.heap/\(a=X.env.locals\/X.env.cells.lookup x=some a))->Q () s')(hf:X.fn x=true\/X.env.scope.names.lookup x=some .local:=by first|exact .inl rfl|exact .inr rfl|assumption):LM M A (storeName X.env x u) Q E s:=by
 obtain ⟨m,hn,hl⟩:=id I.loc;have ab:(X.env.scope.kind == .class||(X.env.scope.kind == .module&&X.env.locals != X.env.globals))=false:=by rw [I.ok.kind];rfl
 have O:i<σ.length:=by rw [I.len];exact (Lp.mp hi).1
 have cne:=I.cne;have Xe:∀{a:Addr}{h':Heap},(∃o,s.heap.get? a=some o/\H a=none)->OA a s.heap h'->HOk X.prog X.w H h':=λ{a h'} ha hs b ob e=>by
  obtain ⟨_,_,F⟩:=ha;refine (I.hok b ob e).stay (λc w' hc q=>(hs.2 c ?_).trans q) (λ_ q=>q) λ_ _ q=>q;rintro rfl;rcases hc with rfl|hc
  .rw [F] at e;cases e
  .rw [F] at hc;cases hc
 rcases hx with J|J
 .refine wpAny_storeName_local J hn (λh' aL hs=>?_) ab;obtain ⟨oL,_,_,av,_⟩:=id hn;refine h _ {I.ok,I.os,I.bare,{λb o e n hb hx=>?_,λb o e n hb hx=>?_,I.base.free,λb o e hx=>?_,I.base.tups,I.base.frzs,I.base.tbls},{_,aL,λj y v' e1 G e3=>?_},λy c e=>?_,I.free,I.L0,λp hp=>?_,Xe ⟨oL,av,I.free⟩ hs,by simpa using I.len,I.Tj} {_,hs,.inl rfl}
  .exact (hs.2 b (MA (LZ (LX e) I.ok.above))).trans (I.base.keep b o e n hb hx)
  .obtain ⟨sl,e1⟩:=I.base.slot b o e n hb hx;exact {sl,(hs.2 b (MA (LZ (LX e) I.ok.above))).trans e1}
  .obtain ⟨o',e1⟩:=I.base.there b o e hx;exact {o',(hs.2 b (MA (LZ (LX e) I.ok.above))).trans e1}
  .by_cases U:j=i
   .subst U;rw [hi] at e1;cases e1;rw [Oc O] at G;cases G;exact {u,r,.inl {J,'s'}}
   .rw [N5 (L9 U)] at G;obtain ⟨u',r',q⟩:=hl j y v' e1 G e3;refine {u',r',?_};rcases q with ⟨k,e⟩|⟨k,c,e,z⟩
    .refine .inl {k,?_};have:y≠x:=λe=>U (wj hN e1 (e ▸ hi));simp [this,e]
    .exact .inr {k,c,e,z.sameBut hs (cne y c e)}
  .obtain ⟨w',z⟩:=I.cell y c e;exact {w',z.sameBut hs (cne y c e)}
  .obtain ⟨e,n,ne,nf,d⟩:=I.pin p hp;exact {(hs.2 p.1 ne).trans e,n,ne,nf,d}
 .have S:X.fn x=true:=by
   rcases hf with z|z
   .exact z
   .rw [z] at J;cases J
  obtain ⟨c,hc⟩:=I.ok.has x (.inl J);obtain ⟨w',z⟩:=I.cell x c hc;refine wpAny_storeName_cell I.ok.kind J hc z (λh' XU hs=>?_);obtain ⟨oc,Z,ai⟩:=id z;refine h { s with heap:=h' } {I.ok,I.os,I.bare,{λb o e n hb hx=>?_,λb o e n hb hx=>?_,I.base.free,λb o e hx=>?_,I.base.tups,I.base.frzs,I.base.tbls},{m,hn.sameBut hs (L9 (cne x c hc)),λj y v' e1 G e3=>?_},λy c' e=>?_,I.free,I.L0,λp hp=>?_,Xe {oc,Z,I.L0 x c hc} hs,by simpa using I.len,I.Tj} {c,hs,.inr hc}
  .exact (hs.2 b (MA (LZ (LX e) (I.ok.Ul x c S hc)))).trans (I.base.keep b o e n hb hx)
  .obtain ⟨sl,e1⟩:=I.base.slot b o e n hb hx;exact {sl,(hs.2 b (MA (LZ (LX e) (I.ok.Ul x c S hc)))).trans e1}
  .obtain ⟨o',e1⟩:=I.base.there b o e hx;exact {o',(hs.2 b (MA (LZ (LX e) (I.ok.Ul x c S hc)))).trans e1}
  .by_cases U:j=i
   .subst U;rw [hi] at e1;cases e1;rw [Oc O] at G;cases G;exact {u,r,.inr {.inl J,c,hc,XU}}
   .rw [N5 (L9 U)] at G;obtain ⟨u',r',q⟩:=hl j y v' e1 G e3;refine {u',r',?_};rcases q with q|⟨k,c',e,z'⟩
    .exact .inl q
    .refine .inr {k,c',e,z'.sameBut hs ?_};rintro rfl;exact U (wj hN e1 (I.ok.inj _ _ _ e hc ▸ hi))
  .by_cases W:c'=c
   .subst W;exact {_,XU}
   .obtain ⟨w2,z2⟩:=I.cell y c' e;exact {w2,z2.sameBut hs W}
  .obtain ⟨e,n,ne,nf,d⟩:=I.pin p hp;refine {(hs.2 p.1 ?_).trans e,n,ne,nf,d};intro q;rw [q,Z] at e;have q':oc=p.2:=Mm.inj e;exact d w' (by rw [<- q'];exact ai)
theorem nE(I:Inv X Go σ H s)(hN:X.N.Nodup)(hi:X.N[i]?=some x)(hx:Loc X.env.scope x)(r:zo v u)(h:∀s',Inv X Go (σ.set i (some v)) H s'->Q () s')(hf:X.fn x=true\/X.env.scope.names.lookup x=some .local:=by first|exact .inl rfl|exact .inr rfl|assumption):LM M A (storeName X.env x u) Q E s :=
 Jq I hN hi hx r (λs' z _=>h s' z) hf
theorem Inv.TL(I:Inv X Go σ H s)(ho:s'.os=s.os)(u:Un (frs X.stack) ch H H' s.heap s'.heap)(hok:HOk X.prog X.w H' s'.heap)(hg:OK s'.gens)(z:∀b∈ch,(b∈X.ex\/X.s₀.heap.objs.size<=b)/\b≠X.env.locals/\(∀x c,X.env.cells.lookup x=some c->c≠b)/\∀p∈X.pn++Go,p.1≠b):Inv X Go σ H' s':=by
 obtain ⟨h',g',d',t',o'⟩:=s';have e:o'=s.os:=ho;subst e;exact I.call (g':=g') (t':=t') (d':=d') u hok hg z
end
abbrev XK:=Value->Option Addr->Hp->Prop
abbrev St:=List (Option V)
abbrev VK:=V->Hp->Prop
abbrev TE:=St->Hp->VK->Prop
abbrev TT:=St->Hp->(Bool->Hp->Prop)->Prop
abbrev TA:=St->Hp->(List V->Hp->Prop)->Prop
structure aZ where
 nx:St->Hp->Prop
 rt:VK
 bk:St->Hp->Prop:=λ_ _=>False
 ct:St->Hp->Prop:=λ_ _=>False
abbrev TS:=aZ->St->Hp->Prop
def EP(X:Cx)(Go:List (Addr×Obj))(σ:St)(Q:VK)(u:Value)(s':Lk):Prop:=∃v H',Inv X Go σ H' s'/\zo v u/\Q v H'
def TP(X:Cx)(Go:List (Addr×Obj))(σ:St)(Q:Bool->Hp->Prop)(b:Bool)(s':Lk):Prop:=∃H',Inv X Go σ H' s'/\Q b H'
def AP(X:Cx)(Go:List (Addr×Obj))(σ:St)(Q:List V->Hp->Prop)(us:List Value)(s':Lk):Prop:=∃vs H',Inv X Go σ H' s'/\zm vs us/\Q vs H'
def SP(X:Cx)(Go:List (Addr×Obj))(D:aZ)(f:Flow)(s':Lk):Prop :=
 match f with
 | .next=>∃z H',Inv X Go z H' s'/\D.nx z H'
 | .brk=>∃z H',Inv X Go z H' s'/\D.bk z H'
 | .cont=>∃z H',Inv X Go z H' s'/\D.ct z H'
 | .ret u=>∃v z H',Inv X Go z H' s'/\zo v u/\D.rt v H'
def PE(X:Cx)(e:Mc)(t:TE):Prop :=
 ∀(Go:List (Addr×Obj))(s:Lk)(σ:St)(H:Hp)(Q:VK),Inv X Go σ H s->t σ H Q->LM (LH X.prog X.w) X.A (MQ e X.env) (EP X Go σ Q) X.xe s
def PT(X:Cx)(e:Mc)(t:TT):Prop :=
 ∀(Go:List (Addr×Obj))(s:Lk)(σ:St)(H:Hp)(Q:Bool->Hp->Prop),Inv X Go σ H s->t σ H Q->LM (LH X.prog X.w) X.A (isTrue e X.env (MQ e X.env)) (TP X Go σ Q) X.xe s
def PW(X:Cx)(e:Mc)(t:TT):Prop :=
 ∀(z:Sem Value)(Go:List (Addr×Obj))(s:Lk)(σ:St)(H:Hp)(Q:Bool->Hp->Prop),Inv X Go σ H s->t σ H Q->LM (LH X.prog X.w) X.A (isTrue e X.env z) (TP X Go σ Q) X.xe s
theorem PW.pt{t:TT}(h:PW X e t):PT X e t:=h _
def PA(X:Cx)(es:List Mc)(t:TA):Prop :=
 ∀(pos:Pos)(Go:List (Addr×Obj))(s:Lk)(σ:St)(H:Hp)(Q:List V->Hp->Prop),Inv X Go σ H s->t σ H Q->LM (LH X.prog X.w) X.A (spliced (N0 pos (Mb es X.env))) (AP X Go σ Q) X.xe s
def PS(X:Cx)(st:Stmt)(t:TS):Prop :=
 ∀(Go:List (Addr×Obj))(s:Lk)(σ:St)(H:Hp)(D:aZ),Inv X Go σ H s->t D σ H->LM (LH X.prog X.w) X.A (exec st X.env) (SP X Go D) X.xe s
def PSs(X:Cx)(st:List Stmt)(t:TS):Prop :=
 ∀(Go:List (Addr×Obj))(s:Lk)(σ:St)(H:Hp)(D:aZ),Inv X Go σ H s->t D σ H->LM (LH X.prog X.w) X.A (execs st X.env) (SP X Go D) X.xe s
theorem x2e{a b c:Prop}(f:a->b->c)(h:a/\b):c:=f h.1 h.2
theorem x3e{α:Sort _}{A B:α->Prop}{D:Prop}(f:∀x,A x->B x->D)(h:∃x,A x/\B x):D:=h.elim λx z=>f x z.1 z.2
theorem x4e{α β:Sort _}{A B:α->β->Prop}{D:Prop}(f:∀x y,A x y->B x y->D)(h:∃x y,A x y/\B x y):D:=h.elim λx=>x3e (f x)
theorem x5e{α β:Sort _}{A B C:α->β->Prop}{D:Prop}(f:∀x y,A x y->B x y->C x y->D)(h:∃x y,A x y/\B x y/\C x y):D:=h.elim λx=>x3e λy a=>x2e (f x y a)
theorem thn{α:Type}{t:Sem α}{Q z:α->Lk->Prop}(h:LM M A t Q E s)(F:∀a s,Q a s->z a s):LM M A t z E s:=MK h F λ_ _ x=>x
section
variable {X:Cx}
def p9(i:Nat):TE:=λσ H Q=>∃v,σ[i]?=some (some v)/\Q v H
def tC(v:V):TE:=λ_ H Q=>Q v H
theorem DC{pos:Pos}(hN:X.N[i]?=some x)(G:Vis X.env.scope x)(hd:(x==("__debug__":Str))=false:=by decide)(J:(x==("__classdict__":Str))=false:=by decide):PE X (.Name x pos) (p9 i):=by
 intro Go s σ H Q I h;obtain ⟨v,e,h⟩:=h;obtain ⟨m,O,hl⟩:=I.loc;obtain ⟨u,r,l⟩:=hl i x v hN e G;have fin:EP X Go σ Q u s:=⟨v,H,I,r,h⟩;rcases l with ⟨z,hm⟩|⟨z,c,hc,F⟩
 .exact wpAny_Name (PN I.ok.kind z O hm fin) hd
 .rcases z with z|z
  .exact wpAny_Name (wpAny_loadName_cell I.ok.kind z hc F fin) hd
  .exact wpAny_Name (wpAny_loadName_free I.ok.kind z hc F fin J) hd
theorem jI{i j pos}:PE X (.Constant (.int i) j pos) (tC (.int i)):=λ_ _ _ H _ I h=>Qe {.int i,H,I.tok _,{_,rfl},h}
theorem fh{b j pos}:W (PE X (.Constant (.bool b) j pos) (tC (.bl b))):={λ_ _ _ H _ I h=>Constant_bool {.bl b,H,I,rfl,h}}
theorem aE{j pos}:W (PE X (.Constant .none j pos) (tC .non)):={λ_ _ _ H _ I h=>Constant_none {.non,H,I,rfl,h}}
theorem zO{x j pos}:W (PE X (.Constant (.str x) j pos) (tC (.str x))):={λ_ _ _ H _ I h=>Calls.Constant_str {.str x,H,I.tok _,{_,rfl},h}}
def Gl(X:Cx)(x:Str):Prop:=X.env.kindOf x=some .globalImplicit
theorem fq{pos:Pos}(I:Inv X Go σ H s)(hg:Gl X x)(hm:X.mg x=some u)(h:Q u s)(hd:(x==("__debug__":Str))=false:=by decide):LM (LH X.prog X.w) X.A (MQ (.Name x pos) X.env) Q E s :=
 Calls.Name_function_global I.ok.kind hg (Calls.loadGlobal_global (by rw [I.ok.glob];exact I.mod.glob.keeps I.bk) hm h) hd
theorem d8{pos:Pos}(I:Inv X Go σ H s)(hg:Gl X x)(hm:X.mg x=none)(z:Oz x=some u)(h:Q u s)(F:x≠"__name__":=by decide)(hd:(x==("__debug__":Str))=false:=by decide):LM (LH X.prog X.w) X.A (MQ (.Name x pos) X.env) Q E s:=by
 obtain ⟨G,h1,h2⟩:=I.mod.blt;exact Calls.Name_function_global I.ok.kind hg (Calls.loadGlobal_builtin (by rw [I.ok.glob];exact I.mod.glob.keeps I.bk) hm (by rw [I.ok.blt];exact h1.keeps I.bk) ((h2 x F).trans z) h) hd
theorem AS{pos:Pos}(hg:Gl X x)(hm:X.mg x=some u)(r:zo v u)(hd:(x==("__debug__":Str))=false:=by decide):PE X (.Name x pos) (tC v) :=
 λ_ _ _ H _ I h=>fq I hg hm ⟨v,H,I,r,h⟩ hd
theorem iN{pos:Pos}(hg:Gl X x)(hm:X.mg x=none)(z:Oz x=some u)(r:zo v u)(F:x≠"__name__":=by decide)(hd:(x==("__debug__":Str))=false:=by decide):W (PE X (.Name x pos) (tC v)):={λ_ _ _ H _ I h=>d8 I hg hm z ⟨v,H,I,r,h⟩ F hd}
variable {a b:Mc}{ta tb:TE}{pos:Pos}
variable {tA tB':TT}{ZZ:List Mc}
def yl(t u:TT):TT:=λσ H Q=>t σ H λc H1=>if c=true then u σ H1 Q else Q false H1
def tOr(t u:TT):TT:=λσ H Q=>t σ H λc H1=>if c=true then Q true H1 else u σ H1 Q
def t7(t:TT):TT:=λσ H Q=>t σ H λc H1=>Q (!c) H1
theorem eQ(ha:W (PT X a tA)):W (PW X (.BoolOp .And [a] pos) tA):=by
 refine {?_};have ha:=ha.h;intro z Go s σ H Q I h;refine isTrue_and (thn (ha Go s σ H Q I h) λc s1 e=>?_);cases c with
 | true=>exact isTrue_and_nil e
 | false=>exact e
theorem jO(ha:W (PT X a tA)):W (PW X (.BoolOp .Or [a] pos) tA):=by
 refine {?_};have ha:=ha.h;intro z Go s σ H Q I h;refine isTrue_or (thn (ha Go s σ H Q I h) λc s1 e=>?_);cases c with
 | false=>exact isTrue_or_nil e
 | true=>exact e
theorem eS(ha:W (PT X a tA))(hb:W (PW X (.BoolOp .And (b::ZZ) pos) tB')):W (PW X (.BoolOp .And (a::b::ZZ) pos) (yl tA tB')):=by
 refine {?_};have ha:=ha.h;have hb:=hb.h;intro G Go s σ H Q I h;refine isTrue_and (thn (ha Go s σ H _ I h) λc s1=>x3e λH1 z F=>?_);cases c with
 | true=>exact hb G Go s1 σ H1 Q z F
 | false=>exact ⟨H1,z,F⟩
theorem jD(ha:W (PT X a tA))(hb:W (PW X (.BoolOp .Or (b::ZZ) pos) tB')):W (PW X (.BoolOp .Or (a::b::ZZ) pos) (tOr tA tB')):=by
 refine {?_};have ha:=ha.h;have hb:=hb.h;intro G Go s σ H Q I h;refine isTrue_or (thn (ha Go s σ H _ I h) λc s1=>x3e λH1 z F=>?_);cases c with
 | true=>exact ⟨H1,z,F⟩
 | false=>exact hb G Go s1 σ H1 Q z F
theorem eL(ha:W (PT X a tA)):W (PT X (.UnaryOp .Not a pos) (t7 tA)):=by
 refine {?_};have ha:=ha.h;intro Go s σ H Q I h;exact isTrue_not (ha Go s σ H (λc H1=>Q (!c) H1) I h)
def qk(ta tb:TE):TE:=λσ H Q=>ta σ H λx H1=>∃c,x = .bl c/\if c=true then tb σ H1 Q else Q (.bl false) H1
def xV(ta tb:TE):TE:=λσ H Q=>ta σ H λx H1=>∃c,x = .bl c/\if c=true then Q (.bl true) H1 else tb σ H1 Q
def mq(ta:TE):TE:=λσ H Q=>ta σ H λx H1=>∃c,x = .bl c/\Q (.bl (!c)) H1
theorem hG{op}{t:TE}(h:W (PE X a t)):W (PE X (.BoolOp op [a] pos) t):=by refine {?_};have h:=h.h;exact λGo s σ H Q I z=>BoolOp_one (h Go s σ H Q I z)
theorem jF(ha:W (PE X a ta))(hb:W (PE X (.BoolOp .And (b::ZZ) pos) tb)):W (PE X (.BoolOp .And (a::b::ZZ) pos) (qk ta tb)):=by
 refine {?_};have ha:=ha.h;have hb:=hb.h;intro Go s σ H Q I h;refine BoolOp_and (thn (ha Go s σ H _ I h) λv s1=>x5e λx H1 F G z=>?_);obtain ⟨c,rfl,z⟩:=z;cases G;refine N8 ?_;cases c with
 | true=>exact hb Go s1 σ H1 Q F z
 | false=>exact {.bl false,H1,F,rfl,z}
theorem DB(ha:W (PE X a ta))(hb:W (PE X (.BoolOp .Or (b::ZZ) pos) tb)):W (PE X (.BoolOp .Or (a::b::ZZ) pos) (xV ta tb)):=by
 refine {?_};have ha:=ha.h;have hb:=hb.h;intro Go s σ H Q I h;refine BoolOp_or (thn (ha Go s σ H _ I h) λv s1=>x5e λx H1 F G z=>?_);obtain ⟨c,rfl,z⟩:=z;cases G;refine N8 ?_;cases c with
 | false=>exact hb Go s1 σ H1 Q F z
 | true=>exact {.bl true,H1,F,rfl,z}
theorem AF(ha:W (PE X a ta)):W (PE X (.UnaryOp .Not a pos) (mq ta)):=by
 refine {?_};have ha:=ha.h;intro Go s σ H Q I h;refine UnaryOp_ (thn (ha Go s σ H _ I h) λv s1=>x5e λx H1 G F z=>?_);obtain ⟨c,rfl,z⟩:=z;cases F;exact not_of (N8 {.bl (!c),H1,G,rfl,z})
def tIf(t:TT)(ta tb:TE):TE:=λσ H Q=>t σ H λc H1=>if c=true then ta σ H1 Q else tb σ H1 Q
theorem lN(hc:W (PT X c tA))(ha:W (PE X a ta))(hb:W (PE X b tb)):W (PE X (.IfExp c a b pos) (tIf tA ta tb)):=by
 refine {?_};have hc:=hc.h;have ha:=ha.h;have hb:=hb.h;intro Go s σ H Q I h;refine wpAny_IfExp (thn (hc Go s σ H _ I h) λd s1=>x3e λH1 z F=>?_);cases d with
 | true=>exact ha Go s1 σ H1 Q z F
 | false=>exact hb Go s1 σ H1 Q z F
end
def SqL(K:Lq)(H:Hp)(a:Addr)(xs:List V):Prop :=
 Rd H a (.lst xs) \/
  ∃(o:Obj)(its:Array Value)(n:Nat),K.lookup a=some o/\o.cls = .type "list"/\o.dict=none/\o.data = .seq its n/\its.size<=sizeLine/\zm xs its.toList
def SqT(K:Lq)(H:Hp)(a:Addr)(xs:List V):Prop :=
 Rd H a (.tup xs) \/
  ∃(o:Obj)(its:Array Value)(n:Nat),K.lookup a=some o/\o.cls = .type "tuple"/\o.data = .seq its n/\its.size<=sizeLine/\zm xs its.toList
def Fb:Value->Option V
 | .none=>some .non
 | .bool b=>some (.bl b)
 | .int i _=>some (.int i)
 | .str x _=>some (.str x)
 | .bytes b _=>some (.byt b)
 | .float b _=>some (.flt b)
 | .ref a=>some (.ref a)
 | .type n=>some (.ty n)
 | _=>none
theorem zo.abs(r:zo x u):Fb u=some x:=by
 cases x with
 | non=>cases r;rfl
 | bl _=>cases r;rfl
 | int _=>obtain ⟨t,rfl⟩:=r;rfl
 | str _=>obtain ⟨t,rfl⟩:=r;rfl
 | byt _=>obtain ⟨t,rfl⟩:=r;rfl
 | flt _=>obtain ⟨t,rfl⟩:=r;rfl
 | ref _=>cases r;rfl
 | ty _=>cases r;rfl
theorem zo.inj(r:zo x u)(q:zo y u):x=y:=Mm.inj (r.abs.symm.trans q.abs)
theorem zm.inj(h:zm xs us):∀{ys:List V},zm ys us->xs=ys:=by
 induction h with
 | nil=>intro ys k;cases k;rfl
 | cons r t z =>
  intro ys k;cases k with
  | cons r' t'=>rw [r.inj r',z t']
section
variable {X:Cx}{Go:List (Addr×Obj)}{σ:St}{H:Hp}{s:Lk}{a:Addr}{xs ys:List V}
theorem SqL.of{K:Lq}(h:H a=some (.lst xs)):SqL K H a xs:=.inl (.inl h)
theorem SqT.of{K:Lq}(h:H a=some (.tup xs)):SqT K H a xs:=.inl (.inl h)
theorem Inv.list(I:Inv X Go σ H s)(h:SqL X.K H a xs):∃its:List Value,zm xs its/\PlainL s.heap a its.toArray/\xs.length<=sizeLine:=by
 rcases h with h|⟨o,its,n,F,hc,hd,hs,G,r⟩
 .obtain ⟨z,its,n,r,e⟩:=h.ok I.hok;exact {its,r,{_,n,e,rfl,rfl,rfl},z}
 .refine {its.toList,r,{o,n,I.Rt a o F,hc,hd,by simpa using hs},?_};have e:=r.length;simp only [Mi] at e;lia
theorem Inv.tuple(I:Inv X Go σ H s)(h:SqT X.K H a xs):∃its:List Value,zm xs its/\QV s.heap a its.toArray/\xs.length<=sizeLine:=by
 rcases h with h|⟨o,its,n,F,hc,hs,G,r⟩
 .obtain ⟨z,its,r,p⟩:=h.ok I.hok;exact ⟨its,r,p,z⟩
 .refine {its.toList,r,{o,I.Rt a o F,hc,n,by simpa using hs},?_};have e:=r.length;simp only [Mi] at e;lia
theorem Inv.RF(I:Inv X Go σ H s)(h:SqL X.K H a xs)(h':SqL X.K H a ys):xs=ys:=by
 obtain ⟨its,r,⟨o,n,e,_,_,d⟩,_⟩:=I.list h;obtain ⟨its',r',⟨o',F,z,_,_,d'⟩,_⟩:=I.list h';rw [e] at z;cases z;rw [d] at d';injection d' with d1 _
 have:its=its':=by simpa using congrArg Array.toList d1
 subst this;exact r.inj r'
theorem Inv.RX(I:Inv X Go σ H s)(h:SqT X.K H a xs)(h':SqT X.K H a ys):xs=ys:=by
 obtain ⟨its,r,⟨o,e,_,n,d⟩,_⟩:=I.tuple h;obtain ⟨its',r',⟨o',z,_,F,d'⟩,_⟩:=I.tuple h';rw [e] at z;cases z;rw [d] at d';injection d' with d1 _
 have:its=its':=by simpa using congrArg Array.toList d1
 subst this;exact r.inj r'
end
abbrev Cx.Rx(X:Cx)(E:Value->Lk->Prop):Cx:={ X with xe:=E }
abbrev Cx.Tt(X:Cx):Cx:=X.Rx λ_ _=>False
theorem Cx.Ok.Rx{X:Cx}(ok:X.Ok)(E:Value->Lk->Prop):(X.Rx E).Ok :=
 ⟨ok.mod,ok.kind,ok.glob,ok.blt,ok.above,ok.inj,ok.has,ok.Ul,ok.hd,ok.frames,ok.stk,ok.UI,ok.bs,ok.TM,ok.Tg,ok.Tp,ok.RG,ok.TX⟩
theorem Cx.Ok.tr{X:Cx}(ok:(X.Rx E).Ok):X.Ok :=
 ⟨ok.mod,ok.kind,ok.glob,ok.blt,ok.above,ok.inj,ok.has,ok.Ul,ok.hd,ok.frames,ok.stk,ok.UI,ok.bs,ok.TM,ok.Tg,ok.Tp,ok.RG,ok.TX⟩
section
variable {X:Cx}{Go:List (Addr×Obj)}{σ:St}{H:Hp}{s:Lk}{E:Value->Lk->Prop}
theorem Inv.Rx(I:Inv X Go σ H s)(E:Value->Lk->Prop):Inv (X.Rx E) Go σ H s:={I.ok.Rx E,I.os,I.bare,I.base,I.loc,I.cell,I.free,I.L0,I.pin,I.hok,I.len,I.Tj}
theorem Inv.tr(I:Inv (X.Rx E) Go σ H s):Inv X Go σ H s:=⟨I.ok.tr,I.os,I.bare,I.base,I.loc,I.cell,I.free,I.L0,I.pin,I.hok,I.len,I.Tj⟩
theorem SP.tr(h:SP (X.Rx E) Go D f s'):SP X Go D f s':=by
 cases f with
 | next=>obtain ⟨z,H',I,q⟩:=h;exact ⟨z,H',I.tr,q⟩
 | brk=>obtain ⟨z,H',I,q⟩:=h;exact ⟨z,H',I.tr,q⟩
 | cont=>obtain ⟨z,H',I,q⟩:=h;exact ⟨z,H',I.tr,q⟩
 | ret u=>obtain ⟨v,z,H',I,r,q⟩:=h;exact ⟨v,z,H',I.tr,r,q⟩
theorem PSs.Tt{st:List Stmt}{t:TS}(h:PSs X.Tt st t):PSs X st t:=λGo s σ H D I F =>
 MK (h Go s σ H D (I.Rx _) F) (λ_ _ q=>q.tr) λ_ _ z=>False.elim z
end
section
variable {X:Cx}{st:Stmt}{ZZ:List Stmt}{t u:TS}{e:Mc}{te:TE}{pos:Pos}
def qC:TS:=λD σ H=>D.nx σ H
def oX(t u:TS):TS:=λD σ H=>t { D with nx:=u D } σ H
theorem uc:PSs X [] qC:=λ_ _ σ H _ I h=>O5 {σ,H,I,h}
theorem tY(h1:PS X st t)(h2:PSs X ZZ u):PSs X (st::ZZ) (oX t u):=by
 intro Go s σ H D I h;refine wpAny_execs_cons (thn (h1 Go s σ H { D with nx:=u D } I h) λf s1 q=>?_);cases f with
 | next =>
  obtain ⟨z,H',F,q⟩:=q;exact h2 Go s1 z H' D F q
 | ret v=>exact q
 | brk=>exact q
 | cont=>exact q
theorem pZ(h1:PS X st t):PSs X [st] t:=by
 intro Go s σ H D I h;refine wpAny_execs_cons (thn (h1 Go s σ H D I h) λf s1 q=>?_);cases f with
 | next=>exact O5 q
 | ret v=>exact q
 | brk=>exact q
 | cont=>exact q
theorem Inv.quiet(I:Inv X Go σ H s):interactive X.env=false:=by simp [interactive,I.ok.kind]
def uW(te:TE):TS:=λD σ H=>te σ H λ_ H1=>D.nx σ H1
theorem aC(he:W (PE X e te))(hs:swapsWith e none pos.line X.env=pure false:=by rfl):W (PS X (.Expr e pos) (uW te)):=by
 refine {?_};have he:=he.h;intro Go s σ H D I h;exact wpAny_Expr_any (thn (he Go s σ H _ I h) λv s1=>x5e λx H1 F G z=>{σ,H1,F,z}) I.quiet hs
def mz(te:TE):TS:=λD σ H=>te σ H D.rt
theorem ph(he:PE X e te):PS X (.Return (some e) pos) (mz te):=by
 intro Go s σ H D I h;exact wpAny_Return_some (thn (he Go s σ H _ I h) λv s1=>x5e λx H1 G z F=>{x,σ,H1,G,z,F})
def oQ(c:TT)(t u:TS):TS:=λD σ H=>c σ H λb H1=>if b=true then t D σ H1 else u D σ H1
theorem vI(hc:PT X c tc)(ha:PSs X a t)(hb:PSs X b u):PS X (.If c a b pos) (oQ tc t u):=by
 intro Go s σ H D I h;refine wpAny_If (thn (hc Go s σ H _ I h) λd s1=>x3e λH1 z F=>?_);cases d with
 | true=>exact ha Go s1 σ H1 D z F
 | false=>exact hb Go s1 σ H1 D z F
end
abbrev TG:=V->St->Hp->(St->Hp->Prop)->Prop
abbrev TGs:=List V->St->Hp->(St->Hp->Prop)->Prop
def PG(X:Cx)(z:Mc)(t:TG):Prop :=
 ∀(Go:List (Addr×Obj))(s:Lk)(σ:St)(H:Hp)(v:V)(u:Value)(Q:St->Hp->Prop),Inv X Go σ H s->zo v u->t v σ H Q ->
  LM (LH X.prog X.w) X.A (assign z X.env u) (λ_ s'=>∃F H',Inv X Go F H' s'/\Q F H') X.xe s
def PGs(X:Cx)(ts:List Mc)(t:TGs):Prop :=
 ∀(Go:List (Addr×Obj))(s:Lk)(σ:St)(H:Hp)(vs:List V)(us:List Value)(Q:St->Hp->Prop),Inv X Go σ H s->zm vs us->t vs σ H Q ->
  LM (LH X.prog X.w) X.A (assignInOrder ((NF ts X.env).map (·.2)) us) (λ_ s'=>∃z H',Inv X Go z H' s'/\Q z H') X.xe s
abbrev pF:=V->V->V->Hp->(Hp->Prop)->Prop
def mM(X:Cx)(t:pF):Prop :=
 ∀(Go:List (Addr×Obj))(s:Lk)(σ:St)(H:Hp)(o i v:V)(ov iv u:Value)(Q:Hp->Prop),Inv X Go σ H s->zo o ov->zo i iv->zo v u->t o i v H Q ->
  LM (LH X.prog X.w) X.A (setItem ov iv u) (λ_ s'=>∃H',Inv X Go σ H' s'/\Q H') X.xe s
abbrev TIp:=V->V->Hp->VK->Prop
def PIp(X:Cx)(z:Operator)(t:TIp):Prop :=
 ∀(Go:List (Addr×Obj))(s:Lk)(σ:St)(H:Hp)(x y:V)(v u:Value)(Q:VK),Inv X Go σ H s->zo x v->zo y u->t x y H Q ->
  LM (LH X.prog X.w) X.A (inplaceOp z v u) (EP X Go σ Q) X.xe s
section
variable {X:Cx}{pos:Pos}
def cG(i:Nat):TG:=λv σ H Q=>Q (σ.set i (some v)) H
theorem sj(hN:X.N.Nodup)(hi:X.N[i]?=some x)(hx:Loc X.env.scope x)(hf:X.fn x=true\/X.env.scope.names.lookup x=some .local:=by first|exact .inl rfl|exact .inr rfl|assumption):PG X (.Name x pos) (cG i):=by
 intro Go s σ H v u Q I r h;exact wpAny_assign_Name (nE I hN hi hx r (λs' z=>{_,H,z,h}) hf)
def sq:TGs:=λvs σ H Q=>vs=[]/\Q σ H
def oP(t:TG)(u:TGs):TGs:=λvs σ H Q=>∃v r,vs=v::r/\t v σ H λz H'=>u r z H' Q
theorem cV:W (PGs X [] sq):=by
 refine {?_};intro Go s σ H vs us Q I r h;obtain ⟨e,h⟩:=h;subst e;cases r;exact assignInOrder_nil {σ,H,I,h}
theorem zU{t:TG}(h1:W (PG X e t))(h2:W (PGs X es u))(hs:(NF (e::es) X.env).map (·.2)=assign e X.env::(NF es X.env).map (·.2):=by rfl):W (PGs X (e::es) (oP t u)):=by
 refine {?_};have h1:=h1.h;have h2:=h2.h;intro Go s σ H vs us Q I r h;obtain ⟨v,O,e1,h⟩:=h;subst e1;cases r with
 | cons r F =>
  rw [hs];refine assignInOrder_cons (thn (h1 Go s σ H _ _ _ I r h) λ_ s1=>x4e λz H1 G J=>?_);exact h2 Go s1 z H1 _ _ Q G F J
def mS(K:Lq)(n:Nat)(t:TGs):TG:=λv σ H Q=>∃a xs,v = .ref a/\SqT K H a xs/\xs.length=n/\t xs σ H Q
def vC(to ti:TE)(t:pF):TG:=λv σ H Q=>to σ H λo H1=>ti σ H1 λi H2=>t o i v H2 λH3=>Q σ H3
theorem fA{o i:Mc}{t:pF}(ho:W (PE X o to))(hi:W (PE X i ti))(hs:mM X t)(ha:∀v,assign (.Subscript o i pos) X.env v=(do
   let ov<-OI [v] (MQ o X.env)
   let iv<-OI [v,ov] (MQ i X.env)
   OW pos
   OI [v,ov,iv] (setItem ov iv v)
   release [v,ov,iv] []):=by intro _;rfl):W (PG X (.Subscript o i pos) (vC to ti t)):=by
 refine {?_};have ho:=ho.h;have hi:=hi.h;intro Go s σ H v u Q I r h;rw [ha];refine we (Mn (thn (ho Go s σ H _ I h) λov s1=>x5e λx H1 O Z S=>?_));refine we (Mn (thn (hi Go s1 σ H1 _ O S) λiv s2=>x5e λy H2 U G J=>?_));refine we (Oe (we (Mn (thn (hs Go s2 σ H2 x y v ov iv u _ U Z G r J) λ_ s3=>x3e λH3 F z=>?_))));exact wpAny_release {σ,H3,F,z}
def iO(te:TE)(g:TG):TS:=λD σ H=>te σ H λx H1=>g x σ H1 D.nx
theorem cQ(he:W (PE X e te))(hg:W (PG X tg g))(hs:swapsWithSole [tg] e pos.line X.env=pure false:=by rfl)(z:swappedStores [tg] e X.env=pure none:=by rfl)(h1:(NF [tg] X.env).map (·.2)=[assign tg X.env]:=by rfl):W (PS X (.Assign [tg] e pos) (iO te g)):=by
 refine {?_};have he:=he.h;have hg:=hg.h;intro Go s σ H D I h;refine wpAny_Assign_stores (thn (he Go s σ H _ I h) λv s1=>x5e λx H1 J F G=>?_) hs z;rw [h1];exact thn (hg Go s1 σ H1 x v _ J F G) λ_ s2 q=>q
theorem zw(hN:X.N.Nodup)(hi:X.N[i]?=some x)(hx:Loc X.env.scope x)(he:W (PE X e te))(hs:swapsWith e (some (.Name x Y6)) pos.line X.env=pure false:=by rfl)(hf:X.fn x=true\/X.env.scope.names.lookup x=some .local:=by first|exact .inl rfl|exact .inr rfl|assumption):W (PS X (.Assign [.Name x Y6] e pos) (iO te (cG i))):=by
 refine {?_};have he:=he.h;intro Go s σ H D I h;refine wpAny_Assign_Name (thn (he Go s σ H _ I h) λv s1=>x5e λy H1 J F G=>?_) hs;exact nE J hN hi hx F (λs2 z=>{_,H1,z,G}) hf
def tO(i:Nat)(te:TE)(ti:TIp):TS:=λD σ H=>∃x,σ[i]?=some (some x)/\te σ H λy H1=>ti x y H1 λz H2=>D.nx (σ.set i (some z)) H2
theorem mr(hN:X.N.Nodup)(hi:X.N[i]?=some x)(hx:Loc X.env.scope x)(he:W (PE X e te))(ho:PIp X O ti)(hf:X.fn x=true\/X.env.scope.names.lookup x=some .local:=by first|exact .inl rfl|exact .inr rfl|assumption):W (PS X (.AugAssign (.Name x Y6) O e pos) (tO i te ti)):=by
 refine {?_};have he:=he.h;intro Go s σ H D I h;obtain ⟨v,e1,h⟩:=h;obtain ⟨m,hn,hl⟩:=I.loc;have J:Vis X.env.scope x:=by rcases hx with k|k;exact .inl k;exact .inr (.inl k)
 obtain ⟨u,r,l⟩:=hl i x v hi e1 J;refine wpAny_AugAssign_Name ?_;have go:LM (LH X.prog X.w) X.A (MQ e X.env) (λw G=>LM (LH X.prog X.w) X.A (inplaceOp O u w) (λr s₃=>LM (LH X.prog X.w) X.A (storeName X.env x r) (λ_=>SP X Go D .next) X.xe s₃) X.xe G) X.xe s:=by
  refine thn (he Go s σ H _ I h) λw s1=>x5e λy H1 I1 r1 q1=>?_;refine thn (ho Go s1 σ H1 v y u w _ I1 r r1 q1) λz s2=>x5e λzv H2 S Z q2=>?_;exact nE S hN hi hx Z (λs3 U=>{_,H2,U,q2}) hf
 rcases l with ⟨F,hm⟩|⟨F,c,hc,Xd⟩
 .exact PN I.ok.kind F hn hm go
 .rcases F with F|F
  .exact wpAny_loadName_cell I.ok.kind F hc Xd go
  .rcases hx with k|k
   .have:X.env.scope.names.lookup x=some .free:=F;rw [k] at this;cases this
   .have:X.env.scope.names.lookup x=some .free:=F;rw [k] at this;cases this
def ipI(f:Int->Int->Int):TIp:=λx y H Q=>∃i j,x = .int i/\y = .int j/\Q (.int (f i j)) H
theorem rT:PIp X .Add (ipI λi j=>i+j):=by
 intro Go s σ H x y v u Q I F G h;obtain ⟨i,j,e1,z,q⟩:=h;subst e1;subst z;obtain ⟨t,rfl⟩:=F;obtain ⟨t',rfl⟩:=G;exact iadd_int {.int _,H,I.tok _,{_,rfl},q}
def wa(c:TT)(tb:TS):TS:=λD σ H=>∃W:Nat->St->Hp->Prop,(∃m,W m σ H)/\∀m σ H,W m σ H ->
 c σ H λb H1=>if b=true then ∃N:St->Hp->Prop,(∀z H',N z H'->∃F,F<m/\W F z H')/\tb { D with nx:=N,ct:=N,bk:=D.nx } σ H1 else D.nx σ H1
theorem AX(hp:NH (LH X.prog X.w) X.A X.env X.xe)(hc:W (PT X c tc))(hb:W (PSs X Zu tb)):W (PS X (.While c Zu [] pos) (wa tc tb)):=by
 refine {?_};have hc:=hc.h;have hb:=hb.h;intro Go s σ H D I h;obtain ⟨W,⟨m0,w0⟩,Yp⟩:=h;refine wpAny_While (codeAny_whileLoop (λn s'=>∃G H',Inv X Go G H' s'/\W n G H') ?_ m0 {σ,H,I,w0});rintro n s1 ⟨F,H1,I1,w1⟩;refine N2 hp (thn (hc Go s1 F H1 _ I1 (Yp n F H1 w1)) λb s2=>x3e λH2 I2 O=>?_);cases b with
 | true =>
  obtain ⟨N,hN,O⟩:=O;rw [if_pos rfl];refine N2 hp (thn (hb Go s2 F H2 _ I2 O) λf s3 J=>?_);cases f with
  | next =>
   obtain ⟨z,H3,U,n3⟩:=J;obtain ⟨Z,hm,S⟩:=hN z H3 n3;exact ⟨Z,hm,z,H3,U,S⟩
  | cont =>
   obtain ⟨z,H3,U,n3⟩:=J;obtain ⟨Z,hm,S⟩:=hN z H3 n3;exact ⟨Z,hm,z,H3,U,S⟩
  | brk=>exact J
  | ret v=>exact J
 | false =>
  rw [if_neg Lz];exact O5 ⟨F,H2,I2,O⟩
end
structure It where
 go:Nat->Hp->Prop
 Tr:Nat->Hp->V->Hp->Prop
 stop:Nat->Hp->Prop
def dB(X:Cx)(Go:List (Addr×Obj))(H:Hp)(b:Addr):Prop :=
 H b=none/\b≠X.env.locals/\b∉X.fs/\(b∈X.ex\/X.s₀.heap.objs.size<=b)/\(∀x c,X.env.cells.lookup x=some c->c≠b)/\∀p∈X.pn++Go,p.1≠b
theorem Inv.RV(I:Inv X Go σ H s)(hb:s.heap.objs.size<=b)(G:H' b=none):dB X Go H' b:=by
 refine {G,Ob (LZ I.lt hb),I.Ut hb,.inr (L8 I.sz hb),λx c e z=>?_,λp F z=>?_}
 .obtain ⟨v,q⟩:=I.cell x c e;exact absurd (LZ q.lt (by rw [z];exact hb)) (MB _)
 .exact absurd (LZ (LX (I.pin p F).1) (by rw [z];exact hb)) (MB _)
structure dF(c:Bool)(P:Ly)(w:LW)(K:Lq)(tg:Mc)(J:It)(fp:List Addr)(it:Addr)(tn:Nat->Heap->Prop):Prop where
 mem:it∈fp
 obj:∀i h,tn i h->∀b∈fp,∃o,h.get? b=some o/\∀v,o.data≠.cell v
 keep:∀i h h',tn i h->(∀b∈fp,∀o,h.get? b=some o->h'.get? b=some o)->tn i h'
 item:∀(X:Cx),X.prog=P->X.w=w->X.K=K->(c=true->X.calm=true)->∀(i:Nat)(Go:List (Addr×Obj))(s:Lk)(σ:St)(H:Hp)(E:Value->Lk->Prop),Inv X Go σ H s->(∀b∈fp,dB X Go H b)->tn i s.heap->J.go i H ->
  LM (LH P w) X.A (Pj (.ref it)) (λr s1=>∃u,r=some u /\
   LM (LH P w) X.A (OB tg (.ref it) u) (λ_ s2=>∃x H',Inv X Go σ H' s2/\zo x u/\J.Tr i H x H'/\tn (i+1) s2.heap/\∀b∈fp,H' b=none) E s1) E s
 done:∀(X:Cx),X.prog=P->X.w=w->X.K=K->(c=true->X.calm=true)->∀(i:Nat)(Go:List (Addr×Obj))(s:Lk)(σ:St)(H:Hp)(E:Value->Lk->Prop),Inv X Go σ H s->(∀b∈fp,dB X Go H b)->tn i s.heap->J.stop i H ->
  LM (LH P w) X.A (Pj (.ref it)) (λr s1=>r=none/\Inv X Go σ H s1) E s
 self:∀(A:LV)(i:Nat)(s:Lk)(Q:Value->Lk->Prop)(E:Value->Lk->Prop),tn i s.heap->Q (.ref it) s->LM (LH P w) A (pyIter (.ref it)) Q E s
abbrev TI:=St->Hp->(It->Hp->Prop)->Prop
def PIE(c:Bool)(X:Cx)(Go:List (Addr×Obj))(σ:St)(tg:Mc)(R:It->Hp->Prop)(z:Value)(s2:Lk):Prop :=
 ∃(it:Addr)(fp:List Addr)(F:Nat->Heap->Prop)(J:It)(H':Hp),z = .ref it/\Inv X Go σ H' s2/\dF c X.prog X.w X.K tg J fp it F/\F 0 s2.heap/\(∀b∈fp,dB X Go H' b)/\R J H'
def PIc(c:Bool)(X:Cx)(tg iter:Mc)(wi:TI):Prop :=
 ∀(Go:List (Addr×Obj))(s:Lk)(σ:St)(H:Hp)(R:It->Hp->Prop),Inv X Go σ H s->wi σ H R ->
  LM (LH X.prog X.w) X.A (MQ iter X.env) (λv s1=>LM (LH X.prog X.w) X.A (pyIter v) (PIE c X Go σ tg R) X.xe s1) X.xe s
abbrev PI:=PIc true
theorem gK{o:Obj}{n:String}(ho:s.heap.get? it=some o)(hc:o.cls = .type n)(hd:o.data = .fields vs)(F:["enumerate","zip","dict_itemiterator","dict_reverseitemiterator","odict_iterator","itertools.zip_longest","itertools.pairwise"].contains n=false)(z:Q () s):LM M A (OB tg (.ref it) u) Q E s:=by
 unfold OB;cases tg<;>first
  | exact Ls z
  | (cases u<;>first
    | exact Ls z
    | (refine we (wpAny_load ho ?_)
       rw [hc, hd];show LM M A (if (["enumerate", "zip", "dict_itemiterator", "dict_reverseitemiterator", "odict_iterator", "itertools.zip_longest", "itertools.pairwise"].contains n && vs[0]? == some (MX _)) = true then _ else _) Q E s;rw [if_neg (by intro h; rw [F, Pp] at h; cases h)];exact Ls z))
def Itl(K:Lq)(a:Addr):It :=
 {λi H=>∃xs x,SqL K H a xs/\xs[i]?=some x,λi H x H'=>H'=H/\∀xs,SqL K H a xs->xs[i]?=some x,λi H=>∃xs,SqL K H a xs/\xs.length<=i}
def Itt(K:Lq)(a:Addr):It :=
 {λi H=>∃xs x,SqT K H a xs/\xs[i]?=some x,λi H x H'=>H'=H/\∀xs,SqT K H a xs->xs[i]?=some x,λi H=>∃xs,SqT K H a xs/\xs.length<=i}
def Itr(lo:Int)(n:Nat):It:={λi _=>i<n,λi H x H'=>H'=H/\x = .int (lo+i),λi _=>n<=i}
theorem lh{P:Ly}{w:LW}{K:Lq}{tg:Mc}(a it:Addr):dF true P w K tg (Itl K a) [it] it (λi h=>h.IsListIter it a i) where
 mem:=by simp
 obj:=λi h st b hb=>by
  have e:b=it:=by simpa using hb
  subst e;obtain ⟨o,e,c,d⟩:=st;exact {o,e,λv z=>by rw [d] at z;cases z}
 keep:=λi h h' st k=>st.at λo e=>k it 's' o e
 item:=by
  intro X S J U hc i Go s σ H E I hf st hg;subst S J U;obtain ⟨xs,x,F,hx⟩:=hg;obtain ⟨its,W,p,hz⟩:=I.list F;obtain ⟨u,hu,ru⟩:=W.get hx;obtain ⟨f0,f1,f2,Z,G,O⟩:=hf it 's';refine wpAny_pyNext_list_item st p.isList (x:=u) (by simpa using hu) λh' st' sb=>?_;have I1:Inv X Go σ H { s with heap:=h' }:=I.turned (t':=s.toks) (λb o hb e=>(sb.2 b hb).trans e) f0 f1 Z G O;obtain ⟨o,e,c,d⟩:=id st';exact {u,rfl,gK (s:={ s with heap:=h' }) e c d 'd' {x,H,I1,ru,{rfl,λys hy=>by rw [I.RF hy F];exact hx},st',λb hb=>(hf b hb).1}}
 done:=by
  intro X S J U hc i Go s σ H E I hf st hg;subst S J U;obtain ⟨xs,F,hx⟩:=hg;obtain ⟨its,W,p,hz⟩:=I.list F;obtain ⟨f0,f1,f2,Z,G,O⟩:=hf it 's';have hl:=W.length;exact wpAny_pyNext_list_end (I.ok.hd (hc rfl)) st p.isList (by simp;lia) λh' eb=>{rfl,I.turned (t':=s.toks) (λb o hb e=>eb b o hb e) f0 f1 Z G O}
 self:=λ_ _ _ _ _ st h=>wpAny_pyIter_listiter st h
theorem Bf{P:Ly}{w:LW}{K:Lq}{tg:Mc}(a it:Addr):dF true P w K tg (Itt K a) [it] it (λi h=>h.IsTupleIter it a i) where
 mem:=by simp
 obj:=λi h st b hb=>by
  have e:b=it:=by simpa using hb
  subst e;obtain ⟨o,e,c,d⟩:=st;exact {o,e,λv z=>by rw [d] at z;cases z}
 keep:=λi h h' st k=>st.at λo e=>k it 's' o e
 item:=by
  intro X S J U hc i Go s σ H E I hf st hg;subst S J U;obtain ⟨xs,x,F,hx⟩:=hg;obtain ⟨its,W,p,hz⟩:=I.tuple F;obtain ⟨u,hu,ru⟩:=W.get hx;obtain ⟨f0,f1,f2,Z,G,O⟩:=hf it 's';refine wpAny_pyNext_tuple_item st (show s.heap.IsTuple a its.toArray from p) (x:=u) (by simpa using hu) λh' st' sb=>?_;have I1:Inv X Go σ H { s with heap:=h' }:=I.turned (t':=s.toks) (λb o hb e=>(sb.2 b hb).trans e) f0 f1 Z G O;obtain ⟨o,e,c,d⟩:=id st';exact {u,rfl,gK (s:={ s with heap:=h' }) e c d 'd' {x,H,I1,ru,{rfl,λys hy=>by rw [I.RX hy F];exact hx},st',λb hb=>(hf b hb).1}}
 done:=by
  intro X S J U hc i Go s σ H E I hf st hg;subst S J U;obtain ⟨xs,F,hx⟩:=hg;obtain ⟨its,W,p,hz⟩:=I.tuple F;obtain ⟨f0,f1,f2,Z,G,O⟩:=hf it 's';have hl:=W.length;exact wpAny_pyNext_tuple_end (I.ok.hd (hc rfl)) st (show s.heap.IsTuple a its.toArray from p) (by simp;lia) λh' eb=>{rfl,I.turned (t':=s.toks) (λb o hb e=>eb b o hb e) f0 f1 Z G O}
 self:=λ_ _ _ _ _ st h=>wpAny_pyIter_tupleiter st h
theorem qz{P:Ly}{w:LW}{K:Lq}{tg:Mc}(it:Addr)(lo:Int)(n:Nat):dF true P w K tg (Itr lo n) [it] it (λi h=>PY h it (lo+(i:Nat)*1) ((n:Int)-(i:Nat)) 1) where
 mem:=by simp
 obj:=λi h st b hb=>by
  have e:b=it:=by simpa using hb
  subst e;exact {_,st,λv z=>by
   have z':Data.fields _=Data.cell v:=z;cases z'}
 keep:=λi h h' st k=>k it 's' _ st
 item:=by
  intro X O G S hc i Go s σ H E I hf st hg;subst O G S;obtain ⟨f0,f1,f2,U,F,J⟩:=hf it 's';have W:=Walks.range (prog:=X.prog) (w:=X.w) (I.ok.hd (hc rfl)) it lo 1 n;refine W.item i s _ _ hg st λv h' tk hv st' kk=>?_;obtain ⟨t,rfl⟩:=hv;have I1:Inv X Go σ H { s with heap:=h',toks:=tk }:=I.turned (λb o hb e=>kk b o (by simpa using hb) e) f0 f1 U F J;refine {_,rfl,gK (s:={ s with heap:=h',toks:=tk }) (n:="range_iterator") st' rfl rfl 'd' {.int (lo+i),H,I1,{t,?_},{rfl,rfl},st',λb hb=>(hf b hb).1}};rw [Int.mul_one]
 done:=by
  intro X O G S hc i Go s σ H E I hf st hg;subst O G S;obtain ⟨f0,f1,f2,U,F,J⟩:=hf it 's';exact wpAny_pyNext_range_end (I.ok.hd (hc rfl)) st (by have:n<=i:=hg;lia) λh' Z=>{rfl,I.turned (t':=s.toks) (λb o hb e=>Z b o hb e) f0 f1 U F J}
 self:=λ_ _ _ _ _ st h=>wpAny_pyIter_rangeiter st h
section
variable {X:Cx}{tg:Mc}
def hZ(K:Lq)(tl:TE):TI:=λσ H R=>tl σ H λx H1=>∃a,x = .ref a/\(∃xs,SqL K H1 a xs)/\R (Itl K a) H1
theorem cU(hl:W (PE X l tl)):W (PI X tg l (hZ X.K tl)):=by
 refine {?_};have hl:=hl.h;intro Go s σ H R I h;refine thn (hl Go s σ H _ I h) λv s1=>x5e λx H1 z J G=>?_;obtain ⟨a,e,⟨xs,F⟩,q⟩:=G;subst e;cases J;obtain ⟨its,O,p,S⟩:=z.list F;refine OH p.isList ?_;refine {s1.heap.objs.size,[s1.heap.objs.size],_,_,H1,rfl,z.kept (t':=s1.toks) λb o e=>Lm _ e,lh a _,{_,LO _ rfl,rfl,rfl},λb hb=>?_,q};have e:b=s1.heap.objs.size:=by simpa using hb
 subst e;exact z.RV (Ll _) (z.hok.fresh (Ll _))
theorem EL{lo hi:Int}{t u v:Tok}{tk:Nat}(I:Inv X Go σ H s)(h1 : -(2 ^ 62)<=lo)(h2:lo<2 ^ 62)(h3 : -(2 ^ 62)<=hi)(h4:hi<2 ^ 62)(q:R (Itr lo (hi-lo).toNat) H):LM (LH X.prog X.w) X.A (pyIter (.ref s.heap.objs.size)) (PIE true X Go σ tg R) E { s with heap:=s.heap.push { cls:=.type "range",data:=.fields #[.int lo t,.int hi u,.int 1 v] },toks:=tk }:=by
 refine wpAny_pyIter_range (IsRange.new ..) (small_one h1 h2 h3 h4) ?_;have z:Inv X Go σ H { s with heap:=s.heap.push { cls:=.type "range",data:=.fields #[.int lo t,.int hi u,.int 1 v] },toks:=tk }:=I.kept λb o e=>Lm _ e;refine {(s.heap.push { cls:=.type "range",data:=.fields #[.int lo t,.int hi u,.int 1 v] }).objs.size,[(s.heap.push { cls:=.type "range",data:=.fields #[.int lo t,.int hi u,.int 1 v] }).objs.size],_,_,H,rfl,
  z.kept (t':=tk) λb o e=>Lm _ e,qz _ lo (hi-lo).toNat,?_,λb hb=>?_,q}
 .have e1:lo+((0:Nat):Int)*1=lo:=by simp
  have F:(((hi-lo).toNat:Nat):Int)-((0:Nat):Int)=LQ.Range.rangeSize lo hi 1:=by rw [rangeSize_one];split<;>lia
  show PY _ _ (lo+((0:Nat):Int)*1) ((((hi-lo).toNat:Nat):Int)-((0:Nat):Int)) 1;rw [e1,F];exact LO _ rfl
 .have e:b=(s.heap.push { cls:=.type "range",data:=.fields #[.int lo t,.int hi u,.int 1 v] }).objs.size:=by simpa using hb
  subst e;exact z.RV (Ll _) (z.hok.fresh (Ll _))
def iW(ta:TA):TI:=λσ H R=>ta σ H λvs H1=>∃j:Int,vs=[.int j]/\-(2 ^ 62)<=j/\j<2 ^ 62/\R (Itr 0 j.toNat) H1
theorem BO{p pos:Pos}(hg:Gl X "range")(hm:X.mg "range"=none)(ha:PA X [a] ta)(hs:Mb [a] X.env=[(false,MQ a X.env)]:=by rfl):PI X tg (.Call (.Name "range" p) [a] [] pos) (iW ta):=by
 intro Go s σ H R I h;refine Call_ (d8 I hg hm boot_range (Nx (thn (ha pos Go s σ H _ I h) λus s1=>x5e λvs H1 J O z=>?_) hs rfl));obtain ⟨j,e,z,G,q⟩:=z;subst e;cases O with
 | cons r F =>
  cases F;obtain ⟨t,rfl⟩:=r;exact call_range_1 (EL J 'l' 'l' z G (by simpa using q))
def qw(wi:TI)(g:TG)(tb:TS):TS:=λD σ H=>wi σ H λJ H1=>∃W:Nat->Nat->St->Hp->Prop,(∃m,W 0 m σ H1)/\∀i m σ H,W i m σ H ->
 (J.stop i H/\D.nx σ H)\/(J.go i H/\∃N:St->Hp->Prop,(∀z H',N z H'->∃G,G<m/\W (i+1) G z H')/\∀x H',J.Tr i H x H'->g x σ H' λF H2=>tb { D with nx:=N,ct:=N,bk:=D.nx } F H2)
def ie(fp:List Addr)(h:Heap):List (Addr×Obj):=fp.filterMap λb=>(h.get? b).map λo=>(b,o)
theorem kO{o:Obj}(hb:b∈fp)(e:h.get? b=some o):(b,o)∈ie fp h:=PD.mpr {b,hb,by rw [e];rfl}
theorem CZ{p:Addr×Obj}(z:p∈ie fp h):p.1∈fp/\h.get? p.1=some p.2:=by
 obtain ⟨b,hb,e⟩:=PD.mp z;cases q:h.get? b with
 | none=>rw [q] at e;cases e
 | some o =>
  rw [q] at e;have F:(b,o)=p:=Mm.inj e;subst F;exact ⟨hb,q⟩
theorem Inv.pinned(I:Inv X Go σ H s)(hf:∀b∈fp,dB X Go H b)(ho:∀b∈fp,∃o,s.heap.get? b=some o/\∀v,o.data≠.cell v):Inv X (Go++ie fp s.heap) σ H s :=
 I.Hb λp G=>(L6.mp G).elim (λz=>I.pin p (LU _ z)) λz=>by
  obtain ⟨hb,e⟩:=CZ z;obtain ⟨f0,f1,J,_⟩:=hf p.1 hb;obtain ⟨o,F,d⟩:=ho p.1 hb;rw [e] at F;cases F;exact ⟨e,f0,f1,J,d⟩
theorem Inv.L4(I:Inv X (Go++pl) σ H s):Inv X Go σ H s:=I.Hb λp z=>I.pin p (LU _ (MG _ z))
theorem bX{pos:Pos}(hp:NH (LH X.prog X.w) X.A X.env X.xe)(hc:c=true->X.calm=true)(hi:W (PIc c X tg iter wi))(hg:W (PG X tg g))(hb:W (PSs X Zu tb))(hs:∀x,NC iter X.env x=pure x:=by intro _;rfl):W (PS X (.For tg iter Zu [] pos) (qw wi g tb)):=by
 refine {?_};have hi:=hi.h;have hg:=hg.h;have hb:=hb.h;intro Go s σ H D I h;refine wpAny_For (thn (hi Go s σ H _ I h) λv s1 h1=>thn h1 λa0 s2 h2=>?_) hs;obtain ⟨it,fp,tn,J,H2,e,I2,T,Zq,f2,W,⟨m0,w0⟩,Yp⟩:=h2;subst e;have F:∀{H':Hp},(∀b∈fp,H' b=none)->∀b∈fp,dB X Go H' b:=λhn b hb=>{hn b hb,(f2 b hb).2};refine codeAny_forLoop_any (λn s'=>∃i O H',Inv X Go O H' s'/\tn i s'.heap/\(∀b∈fp,H' b=none)/\W i n O H') ?_ m0 {0,σ,H2,I2,Zq,λb hb=>(f2 b hb).1,w0};rintro n s3 ⟨i,G,H3,I3,ai,ab,w3⟩;rcases Yp i n G H3 w3 with ⟨stop,qn⟩|⟨go,N,hN,step⟩
 .refine N2 hp (thn (T.done X rfl rfl rfl hc i Go s3 G H3 X.xe I3 (F ab) ai stop) λr s4=>x2e λhr I4=>?_);subst hr;exact O5 ⟨G,H3,I4,qn⟩
 .refine N2 hp (thn (T.item X rfl rfl rfl hc i Go s3 G H3 X.xe I3 (F ab) ai go) λr s4=>x3e λu hr h4=>?_);subst hr;refine N2 hp (thn h4 λ_ s5=>x5e λx H5 I5 r5 Yo=>?_);obtain ⟨y5,Z,av⟩:=Yo;have aT:=I5.pinned (F av) (T.obj _ _ Z);refine N2 hp (thn (hg _ s5 G H5 x u _ aT r5 (step x H5 y5)) λ_ s6=>x4e λaL H6 I6 q6=>?_);refine N2 hp (thn (hb _ s6 aL H6 _ I6 q6) λf s7 U=>?_);have again:∀{z:St}{H7:Hp},Inv X (Go++ie fp s5.heap) z H7 s7->N z H7->∃m,m<n/\∃i O H',Inv X Go O H' s7/\tn i s7.heap/\(∀b∈fp,H' b=none)/\W i m O H':=λ{z H7} S n7=>by
   obtain ⟨m',hm,w7⟩:=hN z H7 n7;refine {m',hm,i+1,z,H7,S.L4,T.keep _ _ _ Z λb hb o e=>(S.pin (b,o) (LU _ (LU _ (kO hb e)))).1,λb hb=>?_,w7};obtain ⟨o,e,d⟩:=T.obj _ _ Z b hb;exact (S.pin (b,o) (LU _ (LU _ (kO hb e)))).2.1
  cases f with
  | next=>obtain ⟨z,H7,S,n7⟩:=U;exact again S n7
  | cont=>obtain ⟨z,H7,S,n7⟩:=U;exact again S n7
  | brk=>obtain ⟨z,H7,S,U⟩:=U;exact ⟨z,H7,S.L4,U⟩
  | ret v=>obtain ⟨x7,z,H7,S,r7,U⟩:=U;exact ⟨x7,z,H7,S.L4,r7,U⟩
end
theorem Iq{K:Lq}{g:TG}{tb:TS}{D:aZ}(z:Nat->St->Hp->Prop)(S:z 0 σ H)(hl:∀i σ H,i<=xs.length->z i σ H->SqL K H a xs)(hs:∀i x σ H,xs[i]?=some x->z i σ H->g x σ H λG H2=>tb { D with nx:=z (i+1),ct:=z (i+1),bk:=D.nx } G H2)(hd:∀σ H,z xs.length σ H->D.nx σ H):
  ∃W:Nat->Nat->St->Hp->Prop,(∃m,W 0 m σ H)/\∀i m σ H,W i m σ H ->
   ((Itl K a).stop i H/\D.nx σ H)\/((Itl K a).go i H/\∃N:St->Hp->Prop,(∀F H',N F H'->∃O,O<m/\W (i+1) O F H')/\∀x H',(Itl K a).Tr i H x H'->g x σ H' λG H2=>tb { D with nx:=N,ct:=N,bk:=D.nx } G H2):=by
 refine {λi m σ H=>m=xs.length-i/\i<=xs.length/\z i σ H,{xs.length,'s',Mu _,S},?_};rintro i m σ H ⟨rfl,hi,p⟩;have q:=hl i σ H hi p;by_cases J:i<xs.length
 .refine .inr {{xs,xs[i],q,by simp [J]},z (i+1),λF H' U=>{xs.length-(i+1),'l',rfl,J,U},λx H' y=>?_};obtain ⟨e,y⟩:=y;subst e;exact hs i x σ _ (y xs q) p
 .have e:i=xs.length:=by lia
  subst e;exact .inl {{xs,q,Ll _},hd σ H p}
theorem Dm{K:Lq}{g:TG}{tb:TS}{D:aZ}(z:Nat->St->Hp->Prop)(S:z 0 σ H)(hl:∀i σ H,i<=xs.length->z i σ H->SqT K H a xs)(hs:∀i x σ H,xs[i]?=some x->z i σ H->g x σ H λG H2=>tb { D with nx:=z (i+1),ct:=z (i+1),bk:=D.nx } G H2)(hd:∀σ H,z xs.length σ H->D.nx σ H):
  ∃W:Nat->Nat->St->Hp->Prop,(∃m,W 0 m σ H)/\∀i m σ H,W i m σ H ->
   ((Itt K a).stop i H/\D.nx σ H)\/((Itt K a).go i H/\∃N:St->Hp->Prop,(∀F H',N F H'->∃O,O<m/\W (i+1) O F H')/\∀x H',(Itt K a).Tr i H x H'->g x σ H' λG H2=>tb { D with nx:=N,ct:=N,bk:=D.nx } G H2):=by
 refine {λi m σ H=>m=xs.length-i/\i<=xs.length/\z i σ H,{xs.length,'s',Mu _,S},?_};rintro i m σ H ⟨rfl,hi,p⟩;have q:=hl i σ H hi p;by_cases J:i<xs.length
 .refine .inr {{xs,xs[i],q,by simp [J]},z (i+1),λF H' U=>{xs.length-(i+1),'l',rfl,J,U},λx H' y=>?_};obtain ⟨e,y⟩:=y;subst e;exact hs i x σ _ (y xs q) p
 .have e:i=xs.length:=by lia
  subst e;exact .inl {{xs,q,Ll _},hd σ H p}
theorem EX{lo:Int}{n:Nat}{g:TG}{tb:TS}{D:aZ}(z:Nat->St->Hp->Prop)(S:z 0 σ H)(hs:∀i σ H,i<n->z i σ H->g (.int (lo+i)) σ H λG H2=>tb { D with nx:=z (i+1),ct:=z (i+1),bk:=D.nx } G H2)(hd:∀σ H,z n σ H->D.nx σ H):
  ∃W:Nat->Nat->St->Hp->Prop,(∃m,W 0 m σ H)/\∀i m σ H,W i m σ H ->
   ((Itr lo n).stop i H/\D.nx σ H)\/((Itr lo n).go i H/\∃N:St->Hp->Prop,(∀F H',N F H'->∃O,O<m/\W (i+1) O F H')/\∀x H',(Itr lo n).Tr i H x H'->g x σ H' λG H2=>tb { D with nx:=N,ct:=N,bk:=D.nx } G H2):=by
 refine {λi m σ H=>m=n-i/\i<=n/\z i σ H,{n,'s',Mu _,S},?_};rintro i m σ H ⟨rfl,hi,p⟩;by_cases J:i<n
 .refine .inr {J,z (i+1),λF H' U=>{n-(i+1),'l',rfl,J,U},λx H' y=>?_};obtain ⟨e,y⟩:=y;subst e y;exact hs i σ _ J p
 .have e:i=n:=by lia
  subst e;exact .inl {Ll _,hd σ H p}
abbrev R2:=V->V->Hp->VK->Prop
def OpR(X:Cx)(f:Value->Value->Sem Value)(r:R2):Prop :=
 ∀(Go:List (Addr×Obj))(s:Lk)(σ:St)(H:Hp)(x y:V)(v u:Value)(Q:VK),Inv X Go σ H s->zo x v->zo y u->r x y H Q ->
  LM (LH X.prog X.w) X.A (f v u) (EP X Go σ Q) X.xe s
def UnR(X:Cx)(f:Value->Sem Value)(r:V->Hp->VK->Prop):Prop :=
 ∀(Go:List (Addr×Obj))(s:Lk)(σ:St)(H:Hp)(x:V)(v:Value)(Q:VK),Inv X Go σ H s->zo x v->r x H Q ->
  LM (LH X.prog X.w) X.A (f v) (EP X Go σ Q) X.xe s
def zI(X:Cx)(f:Value)(r:List V->Hp->VK->Prop):Prop :=
 ∀(Go:List (Addr×Obj))(s:Lk)(σ:St)(H:Hp)(xs:List V)(us:List Value)(Q:VK),Inv X Go σ H s->zm xs us->r xs H Q ->
  LM (LH X.prog X.w) X.A (call f us) (EP X Go σ Q) X.xe s
def I0(X:Cx)(r:V->Hp->(Bool->Hp->Prop)->Prop):Prop :=
 ∀(Go:List (Addr×Obj))(s:Lk)(σ:St)(H:Hp)(x:V)(v:Value)(Q:Bool->Hp->Prop),Inv X Go σ H s->zo x v->r x H Q ->
  LM (LH X.prog X.w) X.A (truthy v) (TP X Go σ Q) X.xe s
def tOp(r:R2)(ta tb:TE):TE:=λσ H Q=>ta σ H λx H1=>tb σ H1 λy H2=>r x y H2 Q
def tUn(r:V->Hp->VK->Prop)(ta:TE):TE:=λσ H Q=>ta σ H λx H1=>r x H1 Q
def rI(C:Int->Int->Prop)(g:Int->Int->V):R2:=λx y H Q=>∃i j,x = .int i/\y = .int j/\C i j/\Q (g i j) H
def rI0(g:Int->Int->V):R2:=λx y H Q=>∃i j,x = .int i/\y = .int j/\Q (g i j) H
def rU(g:Int->V):V->Hp->VK->Prop:=λx H Q=>∃i,x = .int i/\Q (g i) H
section
variable {X:Cx}{a b c:Mc}{ta tb tc:TE}{pos:Pos}
theorem qQ(ha:PE X a ta)(hb:PE X b tb){R:V->V->Hp->Prop}(I:Inv X Go σ H s)(h:ta σ H λx H1=>tb σ H1 λy H2=>R x y H2){f:Value->Value->Sem Value}(hf:∀v u s2 x y H2,Inv X Go σ H2 s2->zo x v->zo y u->R x y H2->LM (LH X.prog X.w) X.A (f v u) Q X.xe s2):
  LM (LH X.prog X.w) X.A (MQ a X.env) (λv s₁=>LM (LH X.prog X.w) X.A (MQ b X.env) (λu z=>LM (LH X.prog X.w) X.A (f v u) Q X.xe z) X.xe s₁) X.xe s:=by
 refine thn (ha Go s σ H _ I h) λv s1=>x5e λx H1 J U O=>?_;refine thn (hb Go s1 σ H1 _ J O) λu s2=>x5e λy H2 S F G=>?_;exact hf v u s2 x y H2 S U F G
theorem zl{r:R2}(ho:OpR X (NJ z) r)(ha:W (PE X a ta))(hb:W (PE X b tb)):W (PE X (.BinOp a z b pos) (tOp r ta tb)):=by
 refine {?_};have ha:=ha.h;have hb:=hb.h;intro Go s σ H Q I h;exact wpAny_BinOp (qQ ha hb I h λv u s2 x y H2 F G J q=>ho Go s2 σ H2 x y v u Q F G J q)
theorem yB{r:V->Hp->VK->Prop}(ho:UnR X (unaryOp z) r)(ha:PE X a ta):PE X (.UnaryOp z a pos) (tUn r ta):=by
 intro Go s σ H Q I h;exact UnaryOp_ (thn (ha Go s σ H _ I h) λv s1=>x5e λx H1 J F G=>ho Go s1 σ H1 x v Q J F G)
theorem opI{g:Int->Int->Int}(rule:∀(i j:Int)(t u:Tok)(s:Lk)(Q:Value->Lk->Prop)(E:Value->Lk->Prop),C i j->Q (.int (g i j) s.toks) { s with toks:=s.toks+1 }->LM (LH X.prog X.w) X.A (f (.int i t) (.int j u)) Q E s):
  OpR X f (rI C λi j=>.int (g i j)):=by
 intro Go s σ H x y v u Q I z F h;obtain ⟨i,j,rfl,rfl,hc,q⟩:=h;obtain ⟨t,rfl⟩:=z;obtain ⟨t',rfl⟩:=F;exact rule i j t t' s _ _ hc {.int (g i j),H,I.tok _,{_,rfl},q}
theorem uC{g:Int->Int->Int}(rule:∀(i j:Int)(t u:Tok)(s:Lk)(Q:Value->Lk->Prop)(E:Value->Lk->Prop),Q (.int (g i j) s.toks) { s with toks:=s.toks+1 }->LM (LH X.prog X.w) X.A (f (.int i t) (.int j u)) Q E s):
  OpR X f (rI0 λi j=>.int (g i j)):=by
 intro Go s σ H x y v u Q I z F h;obtain ⟨i,j,rfl,rfl,q⟩:=h;obtain ⟨t,rfl⟩:=z;obtain ⟨t',rfl⟩:=F;exact rule i j t t' s _ _ {.int (g i j),H,I.tok _,{_,rfl},q}
theorem l9{g:Int->Int->Bool}(rule:∀(i j:Int)(t u:Tok)(s:Lk)(Q:Value->Lk->Prop)(E:Value->Lk->Prop),Q (.bool (g i j)) s->LM (LH X.prog X.w) X.A (f (.int i t) (.int j u)) Q E s):
  OpR X f (rI0 λi j=>.bl (g i j)):=by
 intro Go s σ H x y v u Q I z F h;obtain ⟨i,j,rfl,rfl,q⟩:=h;obtain ⟨t,rfl⟩:=z;obtain ⟨t',rfl⟩:=F;exact rule i j t t' s _ _ {.bl (g i j),H,I,rfl,q}
def wo(i j:Int):Prop:=0<j/\j<1073741824
def AV(i j:Int):Prop:=0<=j/\j<=1000000/\i.natAbs<2 ^ 64
def gs(i j:Int):Prop:=(-(2 ^ 64)<i/\i<2 ^ 64)\/(-(2 ^ 64)<j/\j<2 ^ 64)
theorem gs.ok(h:gs i j):IntMulOk i j:=by
 rcases h with ⟨h1,h2⟩|⟨h1,h2⟩
 .exact .of_left (intBits_le_64 h1 h2)
 .exact .of_right (intBits_le_64 h1 h2)
theorem Dp:OpR X (NJ .Add) (rI0 λi j=>.int (i+j)):=uC λ_ _ _ _ _ _ _ q=>add_int q
theorem eR:OpR X (NJ .Sub) (rI0 λi j=>.int (i-j)):=uC λ_ _ _ _ _ _ _ q=>sub_int q
theorem Hq:OpR X (NJ .Mult) (rI gs λi j=>.int (i*j)):=opI λ_ _ _ _ _ _ _ hc q=>mul_int q hc.ok
theorem dO:OpR X (NJ .FloorDiv) (rI wo λi j=>.int (i / j)):=opI λi j _ _ _ _ _ hc q=>by
 have h1:(0:Int)<j:=hc.1;have h2:j<1073741824:=hc.2;exact floordiv_int 'l' (by rw [Int.fdiv_eq_ediv_of_nonneg i 'l'];exact q) (.inl (PyProof.noPylong_small 'l'))
theorem zX:OpR X (NJ .Mod) (rI (λ_ j=>0<j) λi j=>.int (i % j)):=opI λi j _ _ _ _ _ hc q=>by
 have h1:(0:Int)<j:=hc;exact mod_int' 'l' (by rw [Int.fmod_eq_emod_of_nonneg i 'l'];exact q)
theorem Bl:OpR X (NJ .Pow) (rI AV λi j=>.int (i ^ j.toNat)):=opI λ_ _ _ _ _ _ _ hc q=>pow_int_small hc.1 hc.2.1 hc.2.2 q
theorem unI{g:Int->Int}(rule:∀(i:Int)(t:Tok)(s:Lk)(Q:Value->Lk->Prop)(E:Value->Lk->Prop),Q (.int (g i) s.toks) { s with toks:=s.toks+1 }->LM (LH X.prog X.w) X.A (f (.int i t)) Q E s):
  UnR X f (rU λi=>.int (g i)):=by
 intro Go s σ H x v Q I z h;obtain ⟨i,rfl,q⟩:=h;obtain ⟨t,rfl⟩:=z;exact rule i t s _ _ {.int (g i),H,I.tok _,{_,rfl},q}
theorem pH:UnR X (unaryOp .USub) (rU λi=>.int (-i)):=unI λ_ _ _ _ _ q=>neg_int q
def fT:V->V->Bool
 | .non,.non=>true | .non,.int _=>true | .int _,.non=>true | .non,.bl _=>true | .bl _,.non=>true | .non,.str _=>true | .str _,.non=>true
 | .int _,.int _=>true | .bl _,.bl _=>true | .str _,.str _=>true | .byt _,.byt _=>true
 | .int _,.str _=>true | .str _,.int _=>true | .bl _,.str _=>true | .str _,.bl _=>true
 | _,_=>false
def rEq:R2:=λx y H Q=>fT x y=true/\Q (.bl (decide (x=y))) H
def rNe:R2:=λx y H Q=>fT x y=true/\Q (.bl (!decide (x=y))) H
theorem xY:decide (V.int i=V.int j)=(i==j):=by
 rw [OE];simp
theorem vO:decide (V.bl i=V.bl j)=(i==j):=by
 rw [OE];simp
theorem v5:decide (V.str i=V.str j)=(i==j):=by
 rw [OE];simp
theorem uM:decide (V.byt i=V.byt j)=(i.toList==j.toList):=by
 rw [OE];cases i;cases j;simp
theorem zV{k k':Bool}(I:Inv X Go σ H s)(q:Q (.bl k) H)(e:k=k'):EP X Go σ Q (.bool k') s:=by
 subst e;exact {.bl k,H,I,rfl,q}
theorem IV:OpR X (Mt .Eq) rEq:=by
 intro Go s σ H x y v u Q I F z h;obtain ⟨hs,q⟩:=h;cases x with
 | non =>
  cases F;cases y with
  | non=>cases z;exact PySem.EqNone.eq_none_none (zV I q 's')
  | bl j=>cases z;exact PySem.EqNone.eq_none_bool (zV I q 's')
  | int j=>obtain ⟨t',rfl⟩:=z;exact PySem.EqNone.eq_none_int (zV I q 's')
  | str j=>obtain ⟨t',rfl⟩:=z;exact PySem.EqNone.eq_none_str (zV I q 's')
  | _=>exact absurd (show false=true from hs) Lz
 | bl i =>
  cases F;cases y with
  | non=>cases z;exact PySem.EqNone.eq_bool_none (zV I q 's')
  | bl j=>cases z;exact eq_bool (zV I q vO)
  | str j=>obtain ⟨t',rfl⟩:=z;exact PySem.EqMixed.eq_bool_str (zV I q 's')
  | _=>exact absurd (show false=true from hs) Lz
 | int i =>
  obtain ⟨t,rfl⟩:=F;cases y with
  | non=>cases z;exact PySem.EqNone.eq_int_none (zV I q 's')
  | int j=>obtain ⟨t',rfl⟩:=z;exact eq_int (zV I q xY)
  | str j=>obtain ⟨t',rfl⟩:=z;exact PySem.EqMixed.eq_int_str (zV I q 's')
  | _=>exact absurd (show false=true from hs) Lz
 | str i =>
  obtain ⟨t,rfl⟩:=F;cases y with
  | non=>cases z;exact PySem.EqNone.eq_str_none (zV I q 's')
  | bl j=>cases z;exact PySem.EqMixed.eq_str_bool (zV I q 's')
  | int j=>obtain ⟨t',rfl⟩:=z;exact PySem.EqMixed.eq_str_int (zV I q 's')
  | str j=>obtain ⟨t',rfl⟩:=z;exact eq_str (zV I q v5)
  | _=>exact absurd (show false=true from hs) Lz
 | byt i =>
  obtain ⟨t,rfl⟩:=F;cases y with
  | byt j=>obtain ⟨t',rfl⟩:=z;exact PySem.W.eq_bytes (zV I q uM)
  | _=>exact absurd (show false=true from hs) Lz
 | _=>cases y<;>exact absurd (show false=true from hs) Lz
theorem Jr:OpR X (Mt .NotEq) rNe:=by
 intro Go s σ H x y v u Q I F z h;obtain ⟨hs,q⟩:=h;cases x with
 | non =>
  cases F;cases y with
  | non=>cases z;exact PySem.EqNone.ne_none_none (zV I q 's')
  | bl j=>cases z;exact PySem.EqNone.ne_none_bool (zV I q 's')
  | int j=>obtain ⟨t',rfl⟩:=z;exact PySem.EqNone.ne_none_int (zV I q 's')
  | str j=>obtain ⟨t',rfl⟩:=z;exact PySem.EqNone.ne_none_str (zV I q 's')
  | _=>exact absurd (show false=true from hs) Lz
 | bl i =>
  cases F;cases y with
  | non=>cases z;exact PySem.EqNone.ne_bool_none (zV I q 's')
  | bl j=>cases z;exact ne_bool (zV I q (congrArg not vO))
  | str j=>obtain ⟨t',rfl⟩:=z;exact PySem.EqMixed.ne_bool_str (zV I q 's')
  | _=>exact absurd (show false=true from hs) Lz
 | int i =>
  obtain ⟨t,rfl⟩:=F;cases y with
  | non=>cases z;exact PySem.EqNone.ne_int_none (zV I q 's')
  | int j=>obtain ⟨t',rfl⟩:=z;exact ne_int (zV I q (congrArg not xY))
  | str j=>obtain ⟨t',rfl⟩:=z;exact PySem.EqMixed.ne_int_str (zV I q 's')
  | _=>exact absurd (show false=true from hs) Lz
 | str i =>
  obtain ⟨t,rfl⟩:=F;cases y with
  | non=>cases z;exact PySem.EqNone.ne_str_none (zV I q 's')
  | bl j=>cases z;exact PySem.EqMixed.ne_str_bool (zV I q 's')
  | int j=>obtain ⟨t',rfl⟩:=z;exact PySem.EqMixed.ne_str_int (zV I q 's')
  | str j=>obtain ⟨t',rfl⟩:=z;exact ne_str (zV I q (congrArg not v5))
  | _=>exact absurd (show false=true from hs) Lz
 | byt i =>
  obtain ⟨t,rfl⟩:=F;cases y with
  | byt j=>obtain ⟨t',rfl⟩:=z;exact PySem.W.ne_bytes (zV I q (congrArg not uM))
  | _=>exact absurd (show false=true from hs) Lz
 | _=>cases y<;>exact absurd (show false=true from hs) Lz
theorem gZ:OpR X (Mt .Lt) (rI0 λi j=>.bl (decide (i<j))):=l9 λ_ _ _ _ _ _ _ q=>lt_int q
theorem jU:OpR X (Mt .LtE) (rI0 λi j=>.bl (decide (i<=j))):=l9 λ_ _ _ _ _ _ _ q=>le_int q
theorem qR:OpR X (Mt .Gt) (rI0 λi j=>.bl (decide (j<i))):=l9 λ_ _ _ _ _ _ _ q=>gt_int q
theorem yY:OpR X (Mt .In) (λx y H Q=>∃i j,x = .str i/\y = .str j/\Q (.bl (!(LQ.Str.occurrences j i 0 j.length 1).isEmpty)) H):=by
 intro Go s σ H x y v u Q I z F h;obtain ⟨i,j,rfl,rfl,q⟩:=h;obtain ⟨t,rfl⟩:=z;obtain ⟨t',rfl⟩:=F;exact in_str (zV I q rfl)
theorem Ah:OpR X (Mt .Is) (λx y H Q=>y = .non/\Q (.bl (decide (x = .non))) H):=by
 intro Go s σ H x y v u Q I z F h;obtain ⟨rfl,q⟩:=h;cases F;refine is_none_gen (zV I q ?_);cases x<;>first
  | (cases z;rfl)
  | (obtain ⟨t,rfl⟩:=z;rfl)
theorem K6:OpR X (Mt .IsNot) (λx y H Q=>y = .non/\Q (.bl (!decide (x = .non))) H):=by
 intro Go s σ H x y v u Q I z F h;obtain ⟨rfl,q⟩:=h;cases F;refine isnot_none_gen (zV I q ?_);cases x<;>first
  | (cases z;rfl)
  | (obtain ⟨t,rfl⟩:=z;rfl)
theorem OpR.or{r r':R2}(h:OpR X f r)(h':OpR X f r'):OpR X f (λx y H Q=>r x y H Q\/r' x y H Q):=by
 intro Go s σ H x y v u Q I z F q;rcases q with q|q
 .exact h Go s σ H x y v u Q I z F q
 .exact h' Go s σ H x y v u Q I z F q
theorem zC(b:Mc)(h:z≠.In:=by decide)(h2:z≠.NotIn:=by decide):PH z b=false:=by
 have e1:(z==CmpOp.In)=false:=by cases z<;>first|rfl|exact absurd rfl h
 have F:(z==CmpOp.NotIn)=false:=by cases z<;>first|rfl|exact absurd rfl h2
 cases b<;>simp [PH,e1,F]
theorem dZ{r:R2}(ho:OpR X (Mt z) r)(ha:W (PE X a ta))(hb:W (PE X b tb))(hm:PH z b=false):W (PE X (.Compare a [z] [b] pos) (tOp r ta tb)):=by
 refine {?_};have ha:=ha.h;have hb:=hb.h;intro Go s σ H Q I h;exact wpAny_Compare1 (qQ ha hb I h λv u s2 x y H2 F G J q=>ho Go s2 σ H2 x y v u Q F G J q) hm
def ju(t:TE):TT:=λσ H Q=>t σ H λx H'=>∃k,x = .bl k/\Q k H'
theorem uD{r:R2}(ho:OpR X (Mt F) r)(ha:PE X a ta)(hb:PE X b tb)(hm:PH F b=false):PT X (.Compare a [F] [b] pos) (ju (tOp r ta tb)):=by
 intro Go s σ H Q I h;refine wpAny_isTrue_Compare1 (thn (ha Go s σ H _ I h) λv s1=>x5e λx H1 Z r1 q1=>thn (hb Go s1 σ H1 _ Z q1) λu s2=>x5e λy H2 I2 S W =>
  thn (ho Go s2 σ H2 x y v u _ I2 r1 S W) λc s3=>x5e λz H3 O U G=>?_) hm
 obtain ⟨k,e,J⟩:=G;subst e;cases U;exact N8 ⟨H3,O,J⟩
def sN(r r':R2)(ta tb tc:TE):TE:=λσ H Q=>ta σ H λx H1=>tb σ H1 λy H2=>r x y H2 λz H3=>∃k,z = .bl k /\
 (if k=true then tc σ H3 λw' H4=>r' y w' H4 Q else Q (.bl false) H3)
theorem wF{r r':R2}(ho:OpR X (Mt J) r)(XH:OpR X (Mt F) r')(ha:W (PE X a ta))(hb:W (PE X b tb))(hc:W (PE X c tc))(hm:lastMarks [J,F] [b,c]=false:=by with_unfolding_all rfl):W (PE X (.Compare a [J,F] [b,c] pos) (sN r r' ta tb tc)):=by
 refine {?_};have ha:=ha.h;have hb:=hb.h;have hc:=hc.h;intro Go s σ H Q I h;refine Compare_chain (thn (ha Go s σ H _ I h) λv s1=>x5e λx H1 I1 r1 q1=>chain_link (thn (hb Go s1 σ H1 _ I1 q1) λu s2=>x5e λy H2 I2 U q2 =>
  thn (ho Go s2 σ H2 x y v u _ I2 r1 U q2) λd s3=>x5e λz H3 S r3 G=>?_)) hm
 obtain ⟨k,e,O⟩:=G;subst e;cases r3;refine N8 ?_;cases k with
 | false=>exact ite_ff {.bl false,H3,S,rfl,O}
 | true=>exact ite_tt (chain_last (thn (hc Go s3 σ H3 _ S O) λw' s4=>x5e λz' H4 I4 r4 Z=>XH Go s4 σ H4 y z' u w' Q I4 U r4 Z))
def fY(K:Lq)(x:V)(H:Hp)(k:Bool):Prop :=
 match x with
 | .non=>k=false
 | .bl b=>k=b
 | .int i=>k=(i != 0)
 | .str y=>y.length<=sizeLine/\k=((y.length:Int) != 0)
 | .byt y=>y.size<=sizeLine/\k=((y.size:Int) != 0)
 | .ref p=>(∃xs,SqL K H p xs/\k = !xs.isEmpty)\/(∃xs,SqT K H p xs/\k = !xs.isEmpty)\/∃kvs,H p=some (.dK kvs)/\k = !kvs.isEmpty
 | _=>False
theorem Lb{κ:Type}{kvs:List (κ×V)}{vs:List (κ×Value)}(r:KV kvs vs):(!vs.isEmpty) = !kvs.isEmpty:=by
 cases r<;>rfl
theorem sY(r:zm xs its):(!its.toArray.isEmpty) = !xs.isEmpty:=by
 cases r<;>simp
theorem fX:(sizeLine:Nat)<2 ^ 63:=by rw [Mr];decide
theorem Jt:I0 X (λx H Q=>∃k,fY X.K x H k/\Q k H):=by
 intro Go s σ H x v Q I F h;obtain ⟨k,e,q⟩:=h;have hl:=fX;have hs:sizeLine=16777216:=Mr;cases x with
 | non =>
  cases F;have z:k=false:=e;subst z;exact truthy_none ⟨H,I,q⟩
 | bl b =>
  cases F;have z:k=b:=e;subst z;exact N8 ⟨H,I,q⟩
 | int i =>
  obtain ⟨t,rfl⟩:=F;have z:k=(i != 0):=e;subst z;exact PySem.P.truthy_int ⟨H,I,q⟩
 | str y =>
  obtain ⟨t,rfl⟩:=F;obtain ⟨S,z⟩:y.length<=sizeLine/\k=((y.length:Int) != 0):=e;subst z;exact PySem.P.truthy_str 'l' {H,I.tok _,q}
 | byt y =>
  obtain ⟨t,rfl⟩:=F;obtain ⟨S,z⟩:y.size<=sizeLine/\k=((y.size:Int) != 0):=e;subst z;exact PySem.W.truthy_bytes 'l' {H,I.tok _,q}
 | ref p =>
  cases F;have z:(∃xs,SqL X.K H p xs/\k = !xs.isEmpty)\/(∃xs,SqT X.K H p xs/\k = !xs.isEmpty)\/∃kvs,H p=some (.dK kvs)/\k = !kvs.isEmpty:=e;rcases z with ⟨xs,hx,z⟩|⟨xs,hx,z⟩|⟨kvs,hx,z⟩
  .subst z;obtain ⟨its,r,pl,J⟩:=I.list hx;have G:=r.length;exact wpAny_truthy_list pl.isList (by simp only [LJ];lia) {H,I.tok _,by rw [sY r];exact q}
  .subst z;obtain ⟨its,r,pl,J⟩:=I.tuple hx;have G:=r.length;exact truthy_tuple pl (by simp only [LJ];lia) {H,I.tok _,by rw [sY r];exact q}
  .subst z;obtain ⟨J,O,vs,r,m⟩:kvs.length<=sizeLine/\(p==sysModules)=false/\∃vs,KV kvs vs/\s.heap.DictOf (ax X.prog X.w) p vs:=I.hok p _ hx;have G:kvs.length=vs.length:=Paired.length r;exact wpAny_truthy_dict O m 'l' {H,I.tok _,by rw [Lb r];exact q}
 | _=>exact (show False from e).elim
theorem AQ(ha:PE X a ta)(he:∀z,isTrue a X.env z=(do let v<-z;OW a.pos;OI [v] (truthy v))) :
  PT X a (λσ H Q=>ta σ H λx H'=>∃k,fY X.K x H' k/\Q k H'):=by
 intro Go s σ H Q I h;exact isTrue_plain (thn (ha Go s σ H _ I h) λv s1=>x5e λx H1 J F G=>Jt Go s1 σ H1 x v Q J F G) (he _)
theorem Cr:OpR X (NJ .Add) (λx y H Q=>∃i j,x = .str i/\y = .str j/\i.length+j.length<=sizeLine/\Q (.str (i++j)) H):=by
 intro Go s σ H x y v u Q I z G h;obtain ⟨i,j,rfl,rfl,F,q⟩:=h;obtain ⟨t,rfl⟩:=z;obtain ⟨t',rfl⟩:=G;exact add_str (λt' tk=>{.str (i++j),H,I.tok _,{_,rfl},q}) F
theorem cg(r:zm [x] us):∃u,us=[u]/\zo x u:=by
 cases r with
 | cons z F=>cases F;exact {_,rfl,z}
theorem wb(r:zm [x,y] us):∃u w',us=[u,w']/\zo x u/\zo y w':=by
 cases r with
 | cons z J =>
  cases J with
  | cons F G=>cases G;exact {_,_,rfl,z,F}
theorem BJ(hc:X.calm=true):zI X (.builtin "max") (λxs H Q=>∃i j,xs=[.int i,.int j]/\Q (.int (if j>i then j else i)) H):=by
 intro Go s σ H xs us Q I r h;obtain ⟨i,j,rfl,q⟩:=h;obtain ⟨u,w',rfl,⟨t,rfl⟩,⟨t',rfl⟩⟩:=wb r;refine max_two_ints (I.ok.hd hc) λh' tk k=>{_,H,I.kept k,?_,q};by_cases z:j>i
 .rw [if_pos z,if_pos z];exact {_,rfl}
 .rw [if_neg z,if_neg z];exact {_,rfl}
theorem ID(hc:X.calm=true):zI X (.builtin "min") (λxs H Q=>∃i j,xs=[.int i,.int j]/\Q (.int (if j<i then j else i)) H):=by
 intro Go s σ H xs us Q I r h;obtain ⟨i,j,rfl,q⟩:=h;obtain ⟨u,w',rfl,⟨t,rfl⟩,⟨t',rfl⟩⟩:=wb r;refine min_two_ints (I.ok.hd hc) λh' tk k=>{_,H,I.kept k,?_,q};by_cases z:j<i
 .rw [if_pos z,if_pos z];exact {_,rfl}
 .rw [if_neg z,if_neg z];exact {_,rfl}
theorem Ic:zI X (.type "int") (λxs H Q=>(∃i,xs=[.int i]/\Q (.int i) H)\/∃k,xs=[.bl k]/\Q (.int (if k then 1 else 0)) H):=by
 intro Go s σ H xs us Q I r h;rcases h with ⟨i,rfl,q⟩|⟨k,rfl,q⟩
 .obtain ⟨u,rfl,t,rfl⟩:=cg r;exact call_int_int {.int i,H,I,{_,rfl},q}
 .obtain ⟨u,rfl,z⟩:=cg r;cases z;exact call_int_bool {.int (if k then 1 else 0),H,I.tok _,{_,rfl},q}
theorem Ky:zI X (.type "str") (λxs H Q=>∃i,xs=[.int i]/\i.natAbs.log2<1920/\Q (.str (toString i)) H):=by
 intro Go s σ H xs us Q I r h;obtain ⟨i,rfl,z,q⟩:=h;obtain ⟨u,rfl,t,rfl⟩:=cg r;exact PySem.P.str_of_int z {.str _,H,I.tok _,{_,rfl},q}
theorem Iw:zI X (.builtin "ord") (λxs H Q=>∃x,xs=[.str x]/\x.length=1/\Q (.int (x.cps.getD 0 0:Nat)) H):=by
 intro Go s σ H xs us Q I r h;obtain ⟨x,rfl,z,q⟩:=h;obtain ⟨u,rfl,t,rfl⟩:=cg r;exact ord_of_one z {.int _,H,I.tok _,{_,rfl},q}
end
structure fP(h:Heap)(x dx C:Addr)(mA:Str->Option Value):Prop where
 obj:h.get? x=some (Q6 C dx)
 ns:h.Ns1 dx mA
 ne:dx≠x
theorem Je{h:Heap}(n:h.Ns1 dx mA):∃F,h.get? dx=some F/\∀name,lookIn name F=some (mA name):=by
 obtain ⟨o,es,ep,ho,hd,O,_,hm⟩:=n;refine {o,ho,λname=>?_};have e:=hm name;unfold nsFind findBy at e;rw [<- Array.find?_toList] at e;unfold lookIn;rw [hd];dsimp only;split
 .rename_i y q;rw [q] at e;exact congrArg some e
 .rename_i q;rw [q] at e;have a:es.toList.any (·.refKey)=false:=by
   rw [List.any_eq_false];intro y S;obtain ⟨z,t,J⟩:=O y (Array.mem_toList_iff.mp S);simp [DictEntry.refKey,J]
  have G : ¬ es.toList.any (·.refKey)=true:=by rw [a];exact Lz
  rw [if_neg G];exact congrArg some e
theorem fP.look(I:fP h x dx C mA):∃z,PySem.W.InstAt h x (Q6 C dx) C (some z)/\∀name,lookIn name z=some (mA name) :=
 let ⟨z,ho,hl⟩:=Je I.ns
 {z,{I.obj,rfl,rfl,ho},hl}
section
variable {prog:Ly}{w:LW}{A:LV}{E:Value->Lk->Prop}{s:Lk}{K:Lq}{x dx C f:Addr}{mA:Str->Option Value}{name:Str}{v:Value}
theorem HP(X:K.In s.heap)(I:fP s.heap x dx C mA)(hg:QJ K C name=true)(O:QN K C=true)(ha:Nn K (.ref C) name=some none)(G:mA name=some v)(F:handedIn v=true)(h:Q v { s with toks:=s.toks+1 }):
  LM (LH prog w) A (getAttr (.ref x) name z) Q E s:=by
 obtain ⟨S,J,hl⟩:=I.look;exact PySem.W.get_value X J (plainGet_of hg).1 (PySem.W.findObj_own O ha rfl (by rw [hl,G])) F h
theorem DW(X:K.In s.heap)(I:fP s.heap x dx C mA)(hg:QJ K C name=true)(hf:Nn K (.ref C) name=some (some (.ref f)))(G:isFn K (.ref f)=true)(F:mA name=none)(h:Q (.ref f,[.ref x]) s):
  LM (LH prog w) A (OY (.ref x) name pl) Q E s:=by
 obtain ⟨z,J,hl⟩:=I.look;exact PySem.W.method_fn X J (plainGet_of hg).1 (plainGet_of hg).2 hf (beq_iff_eq.mp G) (by show (lookIn name z).map (·.isSome)=some false;rw [hl,F];rfl) h
theorem Ct(X:K.In s.heap)(I:fP s.heap x dx C mA)(hs:Nn K (.ref C) "__setattr__"=some (some (.builtin "object.__setattr__")))(hp:plainOver K C=true)(ht:takerIn K C name=some none)(hh:QN K C=true)(Z:Rf mA ns)(hsz:ns.length<=sizeLine)(h:∀h',fP h' x dx C (λy=>if y=name then some v else mA y)->OA dx s.heap h'->Q () { s with heap:=h',toks:=s.toks+2 }):
  LM (LH prog w) A (setAttr (.ref x) name v) Q E s:=by
 obtain ⟨od,J,hl⟩:=I.look;refine PySem.W.set_plain X J hs (PySem.W.osa_open (s:={ s with toks:=s.toks+1 }) (r:=none) X J hp ht λb=>?_);obtain ⟨cd,hc,G⟩:=PySem.W.any_some hh;have hx:s.heap.get? x=some {.ref C,some dx,.plain,#[]}:=I.obj;refine we (Ls (we (we (wpAny_loadPart hx (we (PySem.W.Looks.here (s:={ s with toks:=s.toks+1 }) (PySem.W.looks_clsIn X hc) ?_))))));rw [G];refine Ls (a:=some dx) (we (Ls (we ?_)));refine wpAny_nsSet1 (s:={ s with toks:=s.toks+1 }) I.ns λh' z U=>?_;obtain ⟨oD,ai,ab,F,S,O⟩:=z.count (Rf.cons name v Z);refine we (wpAny_lookBehind F (by rw [S];exact pastItsLine_dict (L8 O (by rw [M7];lia))) ?_);exact Ls (h _ {(U.2 _ (L9 I.ne)).trans I.obj,z,I.ne} U)
theorem GB(X:K.In s.heap)(hm:makesIn K C=true)(hi:Nn K (.ref C) We=some (some (.ref f)))(hf:PySem.W.typeIn K (.ref f)=some (.type "function"))(h:PF (LH prog w) (A.under (.builtin "type.__call__" {.ref C::vs,z})) (.call (.ref f) {.ref (s.heap.objs.size+1)::vs,z}) (PySem.W.InitBack (s.heap.objs.size+1) R)
   { s with heap:=(s.heap.push emptyDict).push (Q6 C s.heap.objs.size) }):
  PF (LH prog w) A (.call (.ref C) ⟨vs,z⟩) R s:=by
 obtain ⟨F,g,d,t,os⟩:=s;exact PySem.W.make_core (PySem.W.makes_of X hm) (PySem.W.looks_findIn X hi) (λself=>PySem.W.bind_fn X self hf) (.inl rfl) h
end
def zL(f:Str)(v:V):List (Str×V)->List (Str×V)
 | []=>[(f,v)]
 | (g,x)::r=>if g=f then (g,v)::r else (g,x)::zL f v r
theorem tw(f g:Str)(v:V):∀fs:List (Str×V),(zL f v fs).lookup g=if g=f then some v else fs.lookup g
 | []=>by
  show Od g [(f,v)]=_;by_cases h:g=f
  .have hb:(g==f)=true:=beq_iff_eq.mpr h;simp only [Od,hb,if_pos h]
  .have hb:(g==f)=false:=beq_eq_false_iff_ne.mpr h;simp only [Od,hb,if_neg h]
 | (k,x)::r=>by
  have F:=tw f g v r;rw [show zL f v ((k,x)::r)=(if k=f then (k,v)::r else (k,x)::zL f v r) from rfl];by_cases z:k=f
  .rw [if_pos z];by_cases h:g=k
   .have hb:(g==k)=true:=beq_iff_eq.mpr h;simp only [Od,hb,if_pos (h.trans z)]
   .have hb:(g==k)=false:=beq_eq_false_iff_ne.mpr h;simp only [Od,hb,if_neg (λe:g=f=>h (e.trans z.symm))]
  .rw [if_neg z];by_cases h:g=k
   .have hb:(g==k)=true:=beq_iff_eq.mpr h;simp only [Od,hb,if_neg (λe:g=f=>z (h.symm.trans e))]
   .have hb:(g==k)=false:=beq_eq_false_iff_ne.mpr h;simp only [Od,hb];exact F
theorem nC(f:Str)(v:V):∀fs:List (Str×V),f∈(zL f v fs).map (·.1)/\∀g,g∈fs.map (·.1)->g∈(zL f v fs).map (·.1)
 | []=>{by simp [zL],λg h=>by simp at h}
 | (k,x)::r=>by
  obtain ⟨i1,i2⟩:=nC f v r;rw [show zL f v ((k,x)::r)=(if k=f then (k,v)::r else (k,x)::zL f v r) from rfl];by_cases z:k=f
  .rw [if_pos z];subst z;exact {'s',λg h=>by simpa using h}
  .rw [if_neg z];refine {?_,λg h=>?_}
   .rw [MD];exact LA _ i1
   .rw [MD] at h ⊢;rcases Lu.mp h with e|e
    .exact Lu.mpr (.inl e)
    .exact LA _ (i2 g e)
theorem yK(f:Str)(v:V):∀fs:List (Str×V),(zL f v fs).length<=fs.length+1
 | []=>by simp [zL]
 | (k,x)::r=>by
  have F:=yK f v r;rw [show zL f v ((k,x)::r)=(if k=f then (k,v)::r else (k,x)::zL f v r) from rfl];by_cases z:k=f
  .rw [if_pos z,M7,M7];lia
  .rw [if_neg z,M7,M7];lia
theorem bw.some_of{o:Option Value}(r:bw (some v) o):∃u,o=some u/\zo v u:=by
 cases o with
 | none=>exact (show False from r).elim
 | some u=>exact {u,rfl,r}
theorem bw.none_of{o:Option Value}(r:bw none o):o=none:=by
 cases o with
 | none=>rfl
 | some u=>exact (show False from r).elim
theorem El(r:zo v u):handedIn u=true:=by
 cases v with
 | non=>cases (show u=Mj from r);rfl
 | bl b=>cases (show u=OT b from r);rfl
 | int i=>obtain ⟨t,e⟩:=(show ∃t,u=N6 i t from r);cases e;rfl
 | str x=>obtain ⟨t,e⟩:=(show ∃t,u=Rm x t from r);cases e;rfl
 | byt b=>obtain ⟨t,e⟩:=(show ∃t,u=Value.bytes b t from r);cases e;rfl
 | flt b=>obtain ⟨t,e⟩:=(show ∃t,u=float b t from r);cases e;rfl
 | ref a=>cases (show u=Lx a from r);rfl
 | ty n=>cases (show u=type n from r);rfl
section
variable {P:Ly}{w:LW}{H H':Hp}{h h':Heap}{a C dx:Addr}{fs fs':List (Str×V)}
theorem ku(hok:HOk P w H h)(e:H a=some (.ins C dx fs)):∃mA,fP h a dx C mA/\(∀f,bw (fs.lookup f) (mA f))/\Rf mA (fs.map (·.1))/\fs.length<=1000/\H dx=some (.own a):=by
 obtain ⟨d,z,ne,ob,mA,n,r,q⟩:=(show aa P w H h a (.ins C dx fs) from hok a _ e);exact {mA,⟨ob,n,ne⟩,r,q,z,d}
end
structure Cls(K:Lq)(C:Addr):Prop where
 pg:QJ K C Qb=true
 hd:QN K C=true
 po:plainOver K C=true
 sa:Nn K (.ref C) "__setattr__"=some (some (.builtin "object.__setattr__"))
theorem Cls.get{K:Lq}(c:Cls K C)(f:Str):QJ K C f=true:=c.pg
def bo(K:Lq)(C:Addr)(f:Str):Prop:=Nn K (.ref C) f=some none
theorem bo.Us{K:Lq}(n:bo K C f):takerIn K C f=some none:=by
 unfold takerIn;rw [show Nn K (.ref C) f=some none from n];rfl
structure fJ(K:Lq)(C:Addr)(m:Str)(f:Addr):Prop where
 at_:Nn K (.ref C) m=some (some (.ref f))
 fn:isFn K (.ref f)=true
 kp:P2 K (.ref f)=true
section
variable {X:Cx}{Go:List (Addr×Obj)}{σ:St}{H:Hp}{s:Lk}{a C dx:Addr}{fs:List (Str×V)}{f:Str}{v:V}{A:LV}{E:Value->Lk->Prop}
theorem yT(I:Inv X Go σ H s)(e:H a=some (.ins C dx fs))(c:Cls X.K C)(n:bo X.K C f)(l:fs.lookup f=some v)(h:∀u s',Inv X Go σ H s'->zo v u->Q u s'):LM (LH X.prog X.w) A (getAttr (.ref a) f b) Q E s:=by
 obtain ⟨mA,O,r,_,_,_⟩:=ku I.hok e;obtain ⟨u,F,z⟩:=bw.some_of (v:=v) (o:=mA f) (by rw [<- l];exact r f);exact HP I.Rt O (c.get f) c.hd n F (El z) (h u _ (I.tok _) z)
theorem ki(I:Inv X Go σ H s)(e:H a=some (.ins C dx fs))(c:Cls X.K C)(k:fJ X.K C m g)(l:fs.lookup m=none)(h:Q (.ref g,[.ref a]) s):LM (LH X.prog X.w) A (OY (.ref a) m pl) Q E s:=by
 obtain ⟨mA,O,r,_,_,_⟩:=ku I.hok e;have z:mA m=none:=bw.none_of (by rw [<- l];exact r m);exact DW I.Rt O (c.get m) k.at_ k.fn z h
theorem x5(I:Inv X Go σ H s)(e:H a=some (.ins C dx fs))(c:Cls X.K C)(n:bo X.K C f)(hl:fs.length<1000)(S:zo y u)(h:∀s',Inv X Go σ (upd H a (.ins C dx (zL f y fs))) s'->Q () s'):LM (LH X.prog X.w) A (setAttr (.ref a) f u) Q E s:=by
 obtain ⟨mA,O,r,wi,_,ho⟩:=ku I.hok e;have G:(fs.map (·.1)).length<=sizeLine:=by rw [Ln,Mr];lia
 refine Ct I.Rt O c.sa c.po n.Us c.hd wi G λh' F J=>h _ ?_;have hd:∃o,h'.get? dx=some o:=let ⟨o,_,_,e',_⟩:=F.ns;⟨o,e'⟩;refine I.write (x:=a) (e:=dx) (by rw [e];exact True.intro) (.inr ho) (λb q hb z=>(J.2 b hb).trans z) hd ?_;refine {by rw [zd O.ne];exact ho,?_,O.ne,F.obj,_,F.ns,λg=>?_,λg hg=>?_}
 .have:=yK f y fs;lia
 .show bw ((zL f y fs).lookup g) (if g=f then some u else mA g);rw [tw];by_cases q:g=f
  .rw [if_pos q,if_pos q];exact S
  .rw [if_neg q,if_neg q];exact r g
 .by_cases q:g=f
  .rw [q];exact (nC f y fs).1
  .refine (nC f y fs).2 g (wi g λz=>hg ?_);show (if g=f then some u else mA g)=none;rw [if_neg q];exact z
theorem Inv.made(I:Inv X Go σ H s):Inv X Go σ (upd (upd H s.heap.objs.size (.own (s.heap.objs.size+1))) (s.heap.objs.size+1) (.ins C s.heap.objs.size []))
  { s with heap:=(s.heap.push emptyDict).push (Q6 C s.heap.objs.size) }:=by
 have e1:(s.heap.push emptyDict).get? s.heap.objs.size=some emptyDict:=LO s.heap rfl;have z:((s.heap.push emptyDict).push (Q6 C s.heap.objs.size)).get? (s.heap.objs.size+1)=some (Q6 C s.heap.objs.size):=by
  have:=LO (s.heap.push emptyDict) (o:=Q6 C s.heap.objs.size) rfl;rwa [M0] at this
 have G:(s.heap.push emptyDict).Ns s.heap.objs.size (λ_=>none):={emptyDict,#[],_,e1,rfl,(λe he=>absurd he 's'),λ_=>rfl};have J:=I.laid (a:=s.heap.objs.size) (o:=.own (s.heap.objs.size+1)) (h':=s.heap.push emptyDict) (t':=s.toks) (λb u q=>Lm _ q) (Ll _) {_,e1};refine J.laid (a:=s.heap.objs.size+1) (o:=.ins C s.heap.objs.size []) (t':=s.toks) (λb u q=>Lm _ q) (Qi (M0 _ _)) ?_;have ne:s.heap.objs.size≠s.heap.objs.size+1:=MA (QR _);refine {by rw [zd ne,zx],Mu _,ne,z,λ_=>none,(Heap.Ns1.of_empty G).at λo q=>Lm _ q,λ_=>True.intro,λy F=>absurd rfl F}
theorem IA{f:Str}{pos:Pos}{s:Lk}(hb:Nc e f env (MQ e env)=MQ e env)(h:LM (LH prog w) A (MQ e env) (λo s₁=>LM (LH prog w) A (getAttr o f true) Q E s₁) E s):LM (LH prog w) A (MQ (.Attribute e f pos) env) Q E s :=
 Attribute_any_ h (by rw [arm_eval_Attribute,hb])
end
def oh(X:Cx)(F:Operator)(z:V->V->Hp->VK->Prop):Prop :=
 ∀(Go:List (Addr×Obj))(s:Lk)(σ:St)(H:Hp)(x y:V)(u v:Value)(Q:VK),Inv X Go σ H s->zo x u->zo y v->z x y H Q->LM (LH X.prog X.w) X.A (inplaceOp F u v) (EP X Go σ Q) X.xe s
section
variable {X:Cx}{o e ZI:Mc}{f:Str}{pos Y6 WH:Pos}{ta tv:TE}
def qe:V->V->Hp->VK->Prop:=λx y H Q=>∃i j,x = .int i/\y = .int j/\Q (.int (i+j)) H
def qN:V->V->Hp->VK->Prop:=λx y H Q=>∃i j,x = .int i/\y = .int j/\Q (.int (i-j)) H
theorem F6:oh X .Add qe:=by
 rintro Go s σ H x y u v Q I z F ⟨i,j,rfl,rfl,q⟩;obtain ⟨t,rfl⟩:=(show ∃t,u=N6 i t from z);obtain ⟨t',rfl⟩:=(show ∃t',v=N6 j t' from F);exact PyProof.Rows.iadd_int {.int (i+j),H,I.tok _,{_,rfl},q}
theorem JB:oh X .Sub qN:=by
 rintro Go s σ H x y u v Q I z F ⟨i,j,rfl,rfl,q⟩;obtain ⟨t,rfl⟩:=(show ∃t,u=N6 i t from z);obtain ⟨t',rfl⟩:=(show ∃t',v=N6 j t' from F);exact PyProof.Rows.isub_int {.int (i-j),H,I.tok _,{_,rfl},q}
end
section
variable {X:Cx}{Go:List (Addr×Obj)}{σ:St}{H:Hp}{s:Lk}{A:LV}{E:Value->Lk->Prop}{Q:Value->Lk->Prop}{c:Value}{b:Bool}
inductive cA(K:Lq)(H:Hp):V->Value->Prop where
 | non:cA K H .non (.type "NoneType")
 | bl (x:Bool):cA K H (.bl x) (.type "bool")
 | int (i:Int):cA K H (.int i) (.type "int")
 | str (x:Str):cA K H (.str x) (.type "str")
 | flt (x:UInt64):cA K H (.flt x) (.type "float")
 | lst {a:Addr}{xs:List V} (e:H a=some (.lst xs)):cA K H (.ref a) (.type "list")
 | frz {a:Addr}{o:Obj}{xs:List V} (e:H a=some (.frz o (.lst xs))):cA K H (.ref a) (.type "list")
 | tup {a:Addr}{xs:List V} (e:H a=some (.tup xs)):cA K H (.ref a) (.type "tuple")
 | dK {a:Addr}{kvs:List (Key×V)} (e:H a=some (.dK kvs)):cA K H (.ref a) (.type "dict")
 | dT {a:Addr}{kvs:List (List Key×V)} (e:H a=some (.dT kvs)):cA K H (.ref a) (.type "dict")
 | ins {a C dx:Addr}{fs:List (Str×V)} (e:H a=some (.ins C dx fs)) (cl:Cls K C) (ha:Nn K (.ref C) "__class__"=some (some (.builtin "object.__class__")))
   (hn:PySem.W.specialIn K (.builtin "object.__class__") "__get__"=some (some (.builtin "getset_descriptor.__get__"))) (htk:PySem.W.takesIn K (.builtin "object.__class__")=some true)
   (hm:QD K C (.type "object")=some true):cA K H (.ref a) (.ref C)
theorem Fm{u t:Value}(I:Inv X Go σ H s)(F:zo x u)(ty:cA X.K H x t)(e:PySem.W.kitOne X.K t c=some b)(h:∀tk,Q (.bool b) { s with toks:=tk }):
  LM (LH X.prog X.w) A (call (.builtin "isinstance") [u,c]) Q E s:=by
 cases ty with
 | non=>cases (show u=Mj from F);exact Nd PySem.W.kitx_none I.Rt True.intro e (λz=>nomatch z) h
 | bl y=>cases (show u=OT y from F);exact Nd PySem.W.kitx_bool I.Rt True.intro e (λz=>nomatch z) h
 | int i=>obtain ⟨t,q⟩:=(show ∃t,u=N6 i t from F);cases q;exact Nd PySem.W.kitx_int I.Rt True.intro e (λz=>nomatch z) h
 | str y=>obtain ⟨t,q⟩:=(show ∃t,u=Rm y t from F);cases q;exact Nd PySem.W.kitx_str I.Rt True.intro e (λz=>nomatch z) h
 | flt y=>obtain ⟨t,q⟩:=(show ∃t,u=float y t from F);cases q;exact Nd PySem.W.kitx_float I.Rt True.intro e (λz=>nomatch z) h
 | @lst a xs ea =>
  cases (show u=Lx a from F);obtain ⟨_,_,n,_,h1⟩:=(show aa X.prog X.w H s.heap a (.lst xs) from I.hok a _ ea);exact Nd PySem.W.kitx_list I.Rt {_,h1,rfl} e (λz=>nomatch z) h
 | @frz a ob xs ea =>
  cases (show u=Lx a from F);obtain ⟨_,_,_,n,_,h1⟩:=(show aa X.prog X.w H s.heap a (.frz ob (.lst xs)) from I.hok a _ ea);exact Nd PySem.W.kitx_list I.Rt {_,h1,rfl} e (λz=>nomatch z) h
 | @tup a xs ea =>
  cases (show u=Lx a from F);obtain ⟨_,_,_,p⟩:=(show aa X.prog X.w H s.heap a (.tup xs) from I.hok a _ ea);obtain ⟨o,h1,h2,_⟩:=p;exact Nd PySem.W.kitx_tuple I.Rt ⟨o,h1,h2⟩ e (λz=>nomatch z) h
 | @dK a kvs ea =>
  cases (show u=Lx a from F);obtain ⟨_,_,vs,_,p⟩:=(show aa X.prog X.w H s.heap a (.dK kvs) from I.hok a _ ea);obtain ⟨o,es,ep,h1,h2,_⟩:=p;exact Nd PySem.W.kitx_dict I.Rt ⟨o,h1,h2.1⟩ e (λz=>nomatch z) h
 | @dT a kvs ea =>
  cases (show u=Lx a from F);obtain ⟨_,_,xs,_,o,es,ep,h1,h2,_⟩:=(show aa X.prog X.w H s.heap a (.dT kvs) from I.hok a _ ea);exact Nd PySem.W.kitx_dict I.Rt ⟨o,h1,h2.1⟩ e (λz=>nomatch z) h
 | @ins a C dx fs ea cl ha S G hm =>
  cases (show u=Lx a from F);obtain ⟨mA,O,_⟩:=ku I.hok ea;obtain ⟨U,J,_⟩:=O.look;exact Nd (PySem.W.kitx_own (cl.get _) cl.hd ha S G hm) I.Rt J e (λz=>nomatch z) h
end
structure zB(c:Bool)(k:Nat)(A:LV):Prop where
 hd:c=true->A.handled=none
 dp:A.depth+3*k+5<recursionLimit
 un:A.units+16*k+200<cLine
 gd:A.guards=some []
theorem zB.mono{j k:Nat}(r:zB c k A)(h:j<=k):zB c j A:={r.hd,by have:=r.dp;lia,by have:=r.un;lia,r.gd}
theorem zB.weak{k:Nat}(r:zB c k A):zB false k A:={λh=>(nomatch h),r.dp,r.un,r.gd}
theorem zB.deeper{k:Nat}(r:zB c (k+1) A)(env:Env):zB c k (A.deeper env) :=
 {r.hd,by have:=r.dp;show A.depth+1+3*k+5<_;lia,by have:=r.un;show A.units+3+16*k+200<_;lia,by first|exact r.gd|simpa [LV.deeper,LV.under,Code.isGuard] using r.gd}
theorem Bd{A:LV}:(A.under (.builtin "type.__call__" {.ref C::us,z})).depth=A.depth+1:=by
 first|rfl|simp [LV.under,Code.weight,Code.isCreation,Code.isGuard,Code.isCaller,Code.frames,Code.isFrame,guardIds]
theorem Fw{A:LV}:(A.under (.builtin "type.__call__" {.ref C::us,z})).units=A.units+1:=by
 first|rfl|simp [LV.under,Code.cUnits,Code.frames,Code.isFrame]
theorem zB.make{k:Nat}(r:zB c (k+1) A)(C:Addr)(us:List Value)(z:List (Str×Value)):zB c k (A.under (.builtin "type.__call__" {.ref C::us,z})) :=
 {r.hd,by have:=r.dp;rw [Bd];lia,by have:=r.un;rw [Fw];lia,by first|exact r.gd|simpa [LV.under,Code.isGuard,guardIds] using r.gd}
theorem zB.depth{k:Nat}(r:zB c k A):A.depth<recursionLimit:=by have:=r.dp;lia
theorem zB.units{k:Nat}(r:zB c k A):A.units+64<cLine:=by have:=r.un;lia
def bO:TA:=λ_ H Q=>Q [] H
def jV(ta:TE)(z:TA):TA:=λσ H Q=>ta σ H λx H1=>z σ H1 λxs H2=>Q (x::xs) H2
section
variable {X:Cx}{e:Mc}{es:List Mc}{te:TE}{t:TA}{pos:Pos}
theorem d0:PA X [] bO:=λ_ _ _ _ H Q I h=>Calls.spliced_nil {[],H,I,.nil,h}
theorem eI(ha:PE X e te)(hr:PA X es t)(hs:Mb (e::es) X.env=(false,MQ e X.env)::Mb es X.env:=by rfl):PA X (e::es) (jV te t):=by
 intro pos Go s σ H Q I h;rw [hs];show LM _ _ (spliced ((false,MQ e X.env)::N0 pos (Mb es X.env))) _ _ s;refine Calls.spliced_cons (thn (ha Go s σ H _ I h) λu s1=>x5e λx H1 G S J=>?_);exact thn (hr pos Go s1 σ H1 _ G J) λus s2=>x5e λxs H2 O z F=>{x::xs,H2,O,.cons S z,F}
def AM(t:TA):TE:=λσ H Q=>t σ H λxs H1=>xs.length<=sizeLine/\∀p,H1 p=none->Q (.ref p) (upd H1 p (.tup xs))
theorem Dd{x1}(h:PA X es t):PE X (.Tuple es x1 pos) (AM t):=by
 intro Go s σ H Q I G;refine wpAny_Tuple_spliced (thn (h pos Go s σ H _ I G) λus s1=>x5e λxs H1 F r=>x2e λz q=>{by rw [<- r.length];exact z,?_});have hf:H1 s1.heap.objs.size=none:=F.hok.fresh (Ll _);refine {.ref s1.heap.objs.size,upd H1 s1.heap.objs.size (.tup xs),F.laid (t':=s1.toks) (λb u e=>Lm _ e) (Ll _) ?_,rfl,q _ hf};exact {z,us,r,{_,LO _ rfl,rfl,_,rfl}}
end
abbrev Sp:=List V->Hp->VK->XK->Prop
abbrev CXT:=List Env->Hp->Lk->XK->Value->Lk->Prop
structure fN(P:Ly)(w:LW)(K:Lq)(mg:Str->Option Value)(base:Heap)(A:LV)(outer:List Env)(s:Lk)(H:Hp):Prop where
 frames:A.frames=some outer
 Tj:iT A H
 mod:Mod K mg base
 bs:∀b o,base.get? b=some o->s.heap.get? b=some o/\H b=none
 TM:base.objs.size<=s.heap.objs.size
 RG:s.heap.FunFrames base outer
 TX:∀b∈frs outer,H b=none
 hok:HOk P w H s.heap
 bare:OK s.gens
def CE(outer:List Env)(P:Ly)(w:LW)(H:Hp)(s:Lk)(Q:VK)(u:Value)(s':Lk):Prop :=
 ∃v H',s'.os=s.os/\OK s'.gens/\Un (frs outer) [] H H' s.heap s'.heap/\HOk P w H' s'.heap/\zo v u/\Q v H'
def CR(CX:CXT)(outer:List Env)(P:Ly)(w:LW)(H:Hp)(s:Lk)(Q:VK)(E:XK)(r:Result)(s':Lk):Prop :=
 match r with
 | .ok (.ret u)=>CE outer P w H s Q u s'
 | .ok _=>False
 | .error e=>CX outer H s E e s'
structure zp(P:Ly)(w:LW)(K:Lq)(mg:Str->Option Value)(base:Heap)(CX:CXT)(c:Bool)(k:Nat)(f:Addr)(fd:LL)(ps:List Str)(sp:Sp):Prop where
 len:∀vs H Q E,sp vs H Q E->vs.length=ps.length
 run:∀(A:LV)(outer:List Env)(s:Lk)(H:Hp)(args:Args)(us:List Value)(vs:List V)(Q:VK)(E:XK),zB c k A->fN P w K mg base A outer s H->BindsTo s fd args (ps.zip us)->zm vs us->sp vs H Q E ->
  PF (LH P w) A (.call (.ref f) args) (CR CX outer P w H s Q E) s
theorem zp.calm{K:Lq}{k:Nat}(F:zp P w K mg base CX false k f fd ps sp):
  zp P w K mg base CX c k f fd ps sp:={F.len,λA outer s H args us vs Q E hr=>F.run A outer s H args us vs Q E hr.weak}
theorem fN.make{K:Lq}(e:fN P w K mg base A outer s H)(C:Addr)(us:List Value)(z:List (Str×Value)):
  fN P w K mg base (A.under (.builtin "type.__call__" {.ref C::us,z})) outer s H:={by first|exact e.frames|(simpa [LV.under,Code.envs,Code.isFrame,pushEnvs] using e.frames),e.Tj,e.mod,e.bs,e.TM,e.RG,e.TX,e.hok,e.bare}
section
variable {X:Cx}{Go:List (Addr×Obj)}{σ:St}{H:Hp}{s s':Lk}
theorem Inv.Uk(I:Inv X Go σ H s):fN X.prog X.w X.K X.mg X.base X.A X.stack s H :=
 {I.ok.frames,I.Tj,I.ok.mod,I.bs,L8 I.ok.TM I.sz,I.stack,I.Ss,I.hok,I.bare}
theorem Inv.after(I:Inv X Go σ H s)(h:CE X.stack X.prog X.w H s Q u s'):EP X Go σ Q u s':=by
 obtain ⟨v,H',os,bare,un,hok,r,q⟩:=h;obtain ⟨G,g,d,t,F⟩:=s';obtain rfl:F=s.os:=os;exact {v,H',I.call (h':=G) (g':=g) (d':=d) (t':=t) (ch:=[]) un hok bare (λb z=>absurd z 's'),r,q}
end
def j9(sp:Sp)(Zp:List V)(E:XK)(t:TA):TE:=λσ H Q=>t σ H λvs H1=>sp (vs++Zp) H1 Q E
def eO(C:Addr)(m:Str)(sp:Sp)(Zp:List V)(E:XK)(ta:TE)(t:TA):TE:=λσ H Q=>ta σ H λx H1=>∃a dx fs,x = .ref a/\H1 a=some (.ins C dx fs)/\fs.lookup m=none /\
 t σ H1 λvs H2=>sp (x::(vs++Zp)) H2 Q E
def sQ(C:Addr)(sp:Sp)(Zp:List V)(E:XK)(t:TA):TE:=λσ H Q=>t σ H λvs H1=>∀x dx,H1 x=none->H1 dx=none->dx≠x ->
 sp (.ref x::(vs++Zp)) (upd (upd H1 dx (.own x)) x (.ins C dx [])) (λv H2=>v = .non/\Q (.ref x) H2) E
def br(K:Lq)(fd:LL)(ps:List Str)(ds:List Value):Prop :=
 ∀(s:Lk)(us:List Value),K.In s.heap->(us++ds).length=ps.length->BindsTo s fd {us,[]} (ps.zip (us++ds))
theorem br.all{K:Lq}(h:∀us:List Value,us.length=ps.length->bindArgs fd {us,[]}=pure (ps.zip us)):br K fd ps []:=λs us _ hl=>by
 rw [MS] at hl ⊢;exact .of_eq (h us hl)
def eM(CX:CXT)(X:Cx)(E:XK):Prop:=∀(Go:List (Addr×Obj))(σ:St)(H:Hp)(s:Lk)(e:Value)(s':Lk),Inv X Go σ H s->CX X.stack H s E e s'->X.xe e s'
section
variable {X:Cx}{CX:CXT}{cm:Bool}{k:Nat}{f C:Addr}{fd:LL}{ps:List Str}{sp:Sp}{Zp:List V}{ds:List Value}{E:XK}{x m:Str}{p pos Z2:Pos}{e o:Mc}{es:List Mc}{ta:TE}{t:TA}
theorem rH(F:zp X.prog X.w X.K X.mg X.base CX cm k f fd ps sp)(hr:zB cm k X.A)(hb:br X.K fd ps ds)(hd:zm Zp ds)(hx:eM CX X E)(I:Inv X Go σ H s)(r:zm vs us)(h:sp (vs++Zp) H Q E):LM (LH X.prog X.w) X.A (call (.ref f) us) (EP X Go σ Q) X.xe s:=by
 have G:zm (vs++Zp) (us++ds):=r.append hd;have hl:(us++ds).length=ps.length:=by rw [<- G.length];exact F.len _ _ _ _ h
 refine QY (OZ (F.run X.A X.stack s H {us,[]} (us++ds) (vs++Zp) Q E hr I.Uk (hb s us I.Rt hl) G h) λr s' z=>?_);cases r with
 | error e=>exact hx Go σ H s e s' I z
 | ok fl =>
  cases fl with
  | ret u=>exact I.after z
  | next=>exact False.elim z
  | brk=>exact False.elim z
  | cont=>exact False.elim z
theorem Ak(F:zp X.prog X.w X.K X.mg X.base CX cm k f fd ps sp)(hr:zB cm k X.A)(hg:Gl X x)(hm:X.mg x=some (.ref f))(G:P2 X.K (.ref f)=true)(hb:br X.K fd ps ds)(hd:zm Zp ds)(hx:eM CX X E)
  (ha:PA X (e::es) t) (O:(x==("__debug__":Str))=false:=by decide) (he:Mb (e::es) X.env=(false,MQ e X.env)::Mb es X.env:=by rfl) (J:(N0 pos (Mb es X.env)).any (·.1)=false:=by rfl) :
  PE X (.Call (.Name x p) (e::es) [] pos) (j9 sp Zp E t):=by
 intro Go s σ H Q I h;refine Nr (fq I hg hm ?_ O);refine Rb (h₀:=X.base) I.ok.mod.T8 G (thn (ha pos Go s σ H _ I h) λus s1=>x5e λvs H1 z r q=>{z.Rt,?_}) he J;exact rH F hr hb hd hx z r q
theorem G8(he:PE X o ta)(c:Cls X.K C)(hm:fJ X.K C m f)(F:zp X.prog X.w X.K X.mg X.base CX cm k f fd ps sp)(hr:zB cm k X.A)(hb:br X.K fd ps ds)(hd:zm Zp ds)(hx:eM CX X E)(ha:PA X (e::es) t)(hst:Mb (e::es) X.env=(false,MQ e X.env)::Mb es X.env:=by rfl)(W:(N0 pos (Mb es X.env)).any (·.1)=false:=by rfl)(S:MQ (.Call (.Attribute o m Z2) (e::es) [] pos) X.env=(do
   let ov<-MQ o X.env
   OW Z2.atName
   let (f,first)<-OI [ov] (OY ov m pl)
   OS pos f first (N0 pos (Mb (e::es) X.env)) (PR pos (Os [] X.env))):=by rfl):
  PE X (.Call (.Attribute o m Z2) (e::es) [] pos) (eO C m sp Zp E ta t):=by
 intro Go s σ H Q I h;refine QC (pl:=pl) (thn (he Go s σ H _ I h) λu s1=>x5e λx H1 G O z=>?_) S;obtain ⟨a,dx,fs,ex,ea,l,q⟩:=z;subst ex;obtain rfl:u=Lx a:=O;refine ki G ea c hm l ?_;refine Rb (first:=[.ref a]) (h₀:=X.base) I.ok.mod.T8 hm.kp (thn (ha pos Go s1 σ H1 _ G q) λus s2=>x5e λvs H2 J r U=>{J.Rt,?_}) hst W;exact rH (us:=.ref a::us) (vs:=.ref a::vs) F hr hb hd hx J (.cons rfl r) U
theorem BA(he:PE X o ta)(c:Cls X.K C)(hm:fJ X.K C m f)(F:zp X.prog X.w X.K X.mg X.base CX cm k f fd ps sp)(hr:zB cm k X.A)(hb:br X.K fd ps ds)(hd:zm Zp ds)(hx:eM CX X E)(O:MQ (.Call (.Attribute o m Z2) [] [] pos) X.env=(do
   let ov<-MQ o X.env
   OW Z2.atName
   let (f,first)<-OI [ov] (OY ov m pl)
   OS pos f first (N0 pos (Mb [] X.env)) (PR pos (Os [] X.env))):=by rfl):
  PE X (.Call (.Attribute o m Z2) [] [] pos) (eO C m sp Zp E ta bO):=by
 intro Go s σ H Q I h;refine QC (pl:=pl) (thn (he Go s σ H _ I h) λu s1=>x5e λx H1 G J z=>?_) O;obtain ⟨a,dx,fs,ex,ea,l,q⟩:=z;subst ex;obtain rfl:u=Lx a:=J;refine ki G ea c hm l ?_;exact callWith_K0 (first:=[.ref a]) G.Rt hm.kp (rH (us:=[.ref a]) (vs:=[.ref a]) F hr hb hd hx G (.cons rfl .nil) q)
structure Mk(K:Lq)(C f:Addr):Prop where
 makes:makesIn K C=true
 init:Nn K (.ref C) We=some (some (.ref f))
 fn:isFn K (.ref f)=true
 kp:P2 K (.ref C)=true
theorem yn(M:Mk X.K C f)(F:zp X.prog X.w X.K X.mg X.base CX cm k f fd ps sp)(hr:zB cm (k+1) X.A)(hb:br X.K fd ps ds)(hd:zm Zp ds)(hx:eM CX X E)(I:Inv X Go σ H s)(r:zm vs us)(h:∀x dx,H x=none->H dx=none->dx≠x->sp (.ref x::(vs++Zp)) (upd (upd H dx (.own x)) x (.ins C dx [])) (λv H2=>v = .non/\Q (.ref x) H2) E):
  LM (LH X.prog X.w) X.A (call (.ref C) us) (EP X Go σ Q) X.xe s:=by
 have J:=h (s.heap.objs.size+1) s.heap.objs.size (I.hok.fresh (Q5 _)) (I.hok.fresh (Ll _)) (MA (QR _));have G:=Inv.made (C:=C) I;have O:zm (V.ref (s.heap.objs.size+1)::(vs++Zp)) (Lx (s.heap.objs.size+1)::(us++ds)):=.cons rfl (r.append hd);have hl:(Lx (s.heap.objs.size+1)::us++ds).length=ps.length:=by
  have e:=O.length;rw [F.len _ _ _ _ J] at e;exact e.symm
 refine QY (GB (f:=f) I.Rt M.makes M.init (beq_iff_eq.mp M.fn) (OZ (F.run _ X.stack _ _ {Lx (s.heap.objs.size+1)::us,[]} (Lx (s.heap.objs.size+1)::(us++ds)) _ _ E (hr.make C us [])
  (G.Uk.make C us []) (hb _ (Lx (s.heap.objs.size+1)::us) G.Rt hl) O J) λr s' z=>?_))
 cases r with
 | error e=>exact hx Go σ _ _ e s' G z
 | ok fl =>
  cases fl with
  | ret u =>
   obtain ⟨v,H',W,Z,S,U⟩:=G.after z;subst S;exact {Z,{V.ref (s.heap.objs.size+1),H',W,rfl,U}}
  | next=>exact False.elim z
  | brk=>exact False.elim z
  | cont=>exact False.elim z
theorem Cv(M:Mk X.K C f)(F:zp X.prog X.w X.K X.mg X.base CX cm k f fd ps sp)(hr:zB cm (k+1) X.A)(hg:Gl X x)(hm:X.mg x=some (.ref C))(hb:br X.K fd ps ds)(hd:zm Zp ds)(hx:eM CX X E)
  (ha:PA X (e::es) t) (J:(x==("__debug__":Str))=false:=by decide) (he:Mb (e::es) X.env=(false,MQ e X.env)::Mb es X.env:=by rfl) (G:(N0 pos (Mb es X.env)).any (·.1)=false:=by rfl) :
  PE X (.Call (.Name x p) (e::es) [] pos) (sQ C sp Zp E t):=by
 intro Go s σ H Q I h;refine Nr (fq I hg hm ?_ J);refine Rb (h₀:=X.base) I.ok.mod.T8 M.kp (thn (ha pos Go s σ H _ I h) λus s1=>x5e λvs H1 z r q=>{z.Rt,?_}) he G;exact yn M F hr hb hd hx z r q
theorem Hy(M:Mk X.K C f)(F:zp X.prog X.w X.K X.mg X.base CX cm k f fd ps sp)(hr:zB cm (k+1) X.A)(hg:Gl X x)(hm:X.mg x=some (.ref C))(hb:br X.K fd ps ds)(hd:zm Zp ds)(hx:eM CX X E)
  (z:(x==("__debug__":Str))=false:=by decide):PE X (.Call (.Name x p) [] [] pos) (sQ C sp Zp E bO):=by
 intro Go s σ H Q I h;refine Nr (fq I hg hm ?_ z);exact callWith_K0 I.Rt M.kp (yn (us:=[]) M F hr hb hd hx I .nil h)
end
structure zq(N P:List Str)(sc:Scope):Prop where
 kind:sc.kind = .function
 co:sc.isCoroutine=false
 gen:sc.isGenerator=false
 nd:N.Nodup
 pre:N.take P.length=P
 par:∀x∈P,sc.names.lookup x=some .local\/sc.names.lookup x=some .cell
 Ue:∀y∈sc.names,y.2≠.free
theorem vT{kindOf:Str->Option MU}:∀{binds:List (Str×Value)}{m:Str->Option Value},(∀v,(x,v)∉binds)->bindL kindOf binds m x=m x
 | [],_,_=>rfl
 | (n,v)::r,m,h=>by
  unfold bindL;rw [vT λw z=>h w (LA _ z)];split
  .have:x≠n:=by rintro rfl;exact h v LN
   simp [this]
  .rfl
theorem yp{kindOf:Str->Option MU}:∀{binds:List (Str×Value)}{m:Str->Option Value},(∀v,(x,v)∉binds)->bindC kindOf binds m x=m x
 | [],_,_=>rfl
 | (n,v)::r,m,h=>by
  unfold bindC;rw [yp λw z=>h w (LA _ z)];split
  .rfl
  .have:x≠n:=by rintro rfl;exact h v LN
   simp [this]
theorem sf{kindOf:Str->Option MU}:∀{P:List Str}{vs:List Value}{i:Nat}{m:Str->Option Value},P.Nodup->P[i]?=some x->vs[i]?=some v->kindOf x=some .local ->
  bindL kindOf (P.zip vs) m x=some v
 | [],_,_,_,_,h,_,_=>by simp at h
 | _::_,[],_,_,_,_,h,_=>by simp at h
 | p::P,w::vs,0,m,nd,h1,h2,z=>by
  simp at h1 h2;subst h1;subst h2;show bindL kindOf ((p,w)::P.zip vs) m p=_;unfold bindL;rw [vT λv F=>(ML.mp nd).1 (Rg F).1,if_pos z];simp
 | p::P,w::vs,i+1,m,nd,h1,h2,z=>by
  show bindL kindOf ((p,w)::P.zip vs) m x=_;unfold bindL;exact sf (i:=i) (ML.mp nd).2 (by simpa using h1) (by simpa using h2) z
theorem rZ{kindOf:Str->Option MU}:∀{P:List Str}{vs:List Value}{i:Nat}{m:Str->Option Value},P.Nodup->P[i]?=some x->vs[i]?=some v->kindOf x≠some .local ->
  bindC kindOf (P.zip vs) m x=some v
 | [],_,_,_,_,h,_,_=>by simp at h
 | _::_,[],_,_,_,_,h,_=>by simp at h
 | p::P,w::vs,0,m,nd,h1,h2,z=>by
  simp at h1 h2;subst h1;subst h2;show bindC kindOf ((p,w)::P.zip vs) m p=_;unfold bindC;rw [yp λv F=>(ML.mp nd).1 (Rg F).1,if_neg z];simp
 | p::P,w::vs,i+1,m,nd,h1,h2,z=>by
  show bindC kindOf ((p,w)::P.zip vs) m x=_;unfold bindC;exact rZ (i:=i) (ML.mp nd).2 (by simpa using h1) (by simpa using h2) z
def start(N:List Str)(vs:List V):St:=vs.map some++Ml (N.length-vs.length) none
def cw(CX:CXT)(cm:Bool)(P:Ly)(w:LW)(K:Lq)(mg:Str->Option Value)(base:Heap)(N:List Str)(qual:Str)(scope:Scope)(f:Addr)(cd:Value)(A:LV)(outer:List Env)(s:Lk)(H:Hp)(E:XK):Cx where
 prog:=P
 w:=w
 K:=K
 mg:=mg
 base:=base
 A:=A.deeper (OF qual scope s.heap.objs.size f cd)
 N:=N
 s₀:=s
 H₀:=H
 env:=OF qual scope s.heap.objs.size f cd
 outer:=outer
 stack:=OF qual scope s.heap.objs.size f cd::outer
 ex:=[]
 calm:=cm
 fn:=λ_=>true
 pn:=[]
 xe:=λe s'=>LM (LH P w) (A.deeper (OF qual scope s.heap.objs.size f cd)) (leaving (OF qual scope s.heap.objs.size f cd) e) (λ_ z=>CX outer H s E e z) (λF z=>CX outer H s E F z) s'
theorem xN{sc:Scope}{n:Nat}(h:sc.names.lookup x=some .cell):∃c,(NN n sc.names []).lookup x=some c:=by
 have q:=PySem.W.cellsFrom_some sc.names n [] (.inl h);exact Qw.mp q
theorem JS{K:Lq}(S:zq N ps scope)(hd:cm=true->A.handled=none)(e0:fN P w K mg base A outer s H)(hl:vs.length=ps.length)(r:zm vs us)(x:InCallC s s.heap.objs.size (bindL (OF qual scope s.heap.objs.size f cd).kindOf (ps.zip us) λ_=>none) (NN (s.heap.objs.size+1) scope.names []) (bindC (OF qual scope s.heap.objs.size f cd).kindOf (ps.zip us) λ_=>none) s1):
  Inv (cw CX cm P w K mg base N qual scope f cd A outer s H E) [] (start N vs) H s1:=by
 have X0:ps.length<=N.length:=by have:=congrArg length S.pre;rw [ME] at this;lia
 obtain ⟨h1,tk,rfl,W⟩:=x.done;have F:∀b:Addr,b∉(cw CX cm P w K mg base N qual scope f cd A outer s H E).ex:=λb z=>absurd (show b∈([]:List Addr) from z) 's';refine {{e0.mod,S.kind,rfl,rfl,Ll _,λy z c h1 h2=>?_,λy G=>?_,λy c _ h=>?_,hd,LV.frames_deeper e0.frames,.inr {rfl,rfl},λb z=>absurd z (F b),e0.bs,e0.TM,λb _ _=>F b,λb z=>absurd z (F b),e0.RG,e0.TX},
  rfl,e0.bare,Un.kept W,{_,x.toInCall.ns,λi y v h1 h2 h3=>?_},λy c h=>{_,x.cell y c h},e0.hok.fresh (Ll _),λy c h=>?_,λp O=>absurd (show p∈([]:List (Addr×Obj)) from O) 's',e0.hok.kept W,?_,e0.Tj}
 .exact name_of_addr x.apart (M8 h1) (M8 h2)
 .have G:scope.names.lookup y=some .cell\/scope.names.lookup y=some .free:=G;rcases G with G|G
  .exact xN G
  .exact absurd rfl (S.Ue _ (M8 G))
 .exact Nq (x.above y c (M8 h))
 .have hi:i<vs.length:=by
   unfold start at h2;by_cases hi:i<vs.length
   .exact hi
   .rw [NI (by simpa using hi)] at h2;rw [Na] at h2;split at h2<;>cases h2
  have ha:vs[i]?=some v:=by
   unfold start at h2;rw [NR (by simpa using hi),LP] at h2;cases e:vs[i]? with
   | none=>rw [e] at h2;cases h2
   | some a=>rw [e] at h2;cases h2;rfl
  obtain ⟨u,U,Z⟩:=r.get ha;have O:ps[i]?=some y:=by
   rw [<- S.pre,NU 'l'];exact h1
  have J:ps.Nodup:=by rw [<- S.pre];exact S.nd.sublist (Qy _ _)
  refine {u,Z,?_};rcases S.par y (LF O) with k|k
  .exact .inl {k,sf J O U k}
  .obtain ⟨c,e⟩:=xN (n:=s.heap.objs.size+1) k;refine .inr {.inl k,c,e,?_};have q:=x.cell y c e;rw [rZ J O U (by show scope.names.lookup y≠_;rw [k];decide)] at q;exact q
 .exact e0.hok.fresh (Nq (x.above y c (M8 h)))
 .unfold start;show _=N.length;rw [LC,Ln,M6];lia
theorem mP{K:Lq}{k:Nat}{dV kV X9 pm F ct oc:Value}(lk:K.lookup f=some {oc,od,.func (fnOf name qual ZP G scope dV kV X9 pm an F ct),O})(X7:codeIn K F qual=true)(S:zq N ps scope)(len:∀vs H Q E,sp vs H Q E->vs.length=ps.length)(Yi:∀(A:LV)(outer:List Env)(s:Lk)(H:Hp)(vs:List V)(Q:VK)(E:XK),zB cm k (A.deeper (OF qual scope s.heap.objs.size f F))->sp vs H Q E ->
   ∃t,PSs (cw CX cm P w K mg base N qual scope f F A outer s H E) G t/\t { nx:=λ_ H'=>Q .non H',rt:=Q } (start N vs) H):
  zp P w K mg base CX cm (k+1) f (fnOf name qual ZP G scope dV kV X9 pm an F ct) ps sp:=by
 refine {len,λA outer s H args us vs Q E hr e0 hb r XG=>?_};have hl:=len _ _ _ _ XG;have KX:K.In s.heap:=e0.mod.T8.keeps λb o e=>(e0.bs b o e).1;have U:s.heap.NoLimit:=e0.mod.nolimit.keeps λb o e=>(e0.bs b o e).1;have XZ:∀y∈ps.zip us,scope.names.lookup y.1=some .local\/(scope.names.lookup y.1=some .cell/\((NN (s.heap.objs.size+1) scope.names []).lookup y.1).isSome=true):=λ⟨n,v⟩ hy=>by
  rcases S.par n (Rg hy).1 with q|q
  .exact .inl q
  .exact .inr {q,PySem.W.cellsFrom_some _ _ _ (.inl q)}
 refine codeAny_call_function hr.depth (KX _ _ lk) rfl S.co S.gen rfl (PySem.W.codeRec_of KX X7) (hb _ _ _ _ ?_);refine wpAny_newFunctionEnv_cells S.kind XZ λenv he s1 x=>?_;subst he;refine {U.keeps x.toInCall.keep,codeAny_func ?_};obtain ⟨t,ht,hq⟩:=Yi A outer s H vs Q E (hr.deeper _) XG;have I:Inv (cw CX cm P w K mg base N qual scope f F A outer s H E) [] (start N vs) H s1:=JS S hr.hd e0 hl r x;refine MK (ht [] s1 (start N vs) H _ I hq) (λfl s' hs=>?_) λe s' hs=>hs;have fin:∀{z:St}{H':Hp}{v:V}{u:Value},Inv (cw CX cm P w K mg base N qual scope f F A outer s H E) [] z H' s'->zo v u->Q v H'->CE outer P w H s Q u s' :=
  λ{z H' v u} J Z q=>⟨v,H',J.os,J.bare,J.base,J.hok,Z,q⟩
 cases fl with
 | ret u =>
  obtain ⟨v,z,H',J,Z,q⟩:=hs;exact fin J Z q
 | next =>
  obtain ⟨z,H',J,q⟩:=hs;exact fin (v:=V.non) (u:=Mj) J rfl q
 | brk =>
  obtain ⟨_,_,_,q⟩:=hs;exact False.elim q
 | cont =>
  obtain ⟨_,_,_,q⟩:=hs;exact False.elim q
section
variable {X:Cx}{x:Str}{p pos:Pos}{e:Mc}{es:List Mc}{t:TA}{id T:String}{r:List V->Hp->VK->Prop}
def tCB(r:List V->Hp->VK->Prop)(t:TA):TE:=λσ H Q=>t σ H λvs H1=>r vs H1 Q
theorem yk(hc:zI X (.builtin id) r)(hg:Gl X x)(hm:X.mg x=none)(z:Oz x=some (.builtin id))(ha:PA X (e::es) t)(G:x≠"__name__":=by decide)(U:(x==("__debug__":Str))=false:=by decide)
  (he:Mb (e::es) X.env=(false,MQ e X.env)::Mb es X.env:=by rfl) (O:(N0 pos (Mb es X.env)).any (·.1)=false:=by rfl):PE X (.Call (.Name x p) (e::es) [] pos) (tCB r t):=by
 intro Go s σ H Q I h;refine Nr (d8 I hg hm z ?_ G U);exact PyProof.Rows.callWith_builtin1 (thn (ha pos Go s σ H _ I h) λus s1=>x5e λvs H1 F S J=>hc Go s1 σ H1 vs us Q F S J) he O
theorem Aj(hc:zI X (.type T) r)(hg:Gl X x)(hm:X.mg x=none)(z:Oz x=some (.type T))(ha:PA X (e::es) t)(G:x≠"__name__":=by decide)(U:(x==("__debug__":Str))=false:=by decide)
  (he:Mb (e::es) X.env=(false,MQ e X.env)::Mb es X.env:=by rfl) (O:(N0 pos (Mb es X.env)).any (·.1)=false:=by rfl):PE X (.Call (.Name x p) (e::es) [] pos) (tCB r t):=by
 intro Go s σ H Q I h;refine Nr (d8 I hg hm z ?_ G U);exact Nx (thn (ha pos Go s σ H _ I h) λus s1=>x5e λvs H1 F S J=>hc Go s1 σ H1 vs us Q F S J) he O
end
end L2
namespace HT
open PySem PyProof.Rows
section
variable {prog:Ly}{w:LW}{A:LV}{E:Value->Lk->Prop}{s:Lk}
theorem cat_tup{t b:Addr}(ht:QV s.heap t vs.toArray)(hb:QV s.heap b ws.toArray)(U:vs≠[])(h1:ws=[]->Q (.ref t) s)(h2:ws≠[]->Q (.ref s.heap.objs.size) { s with heap:=s.heap.push { cls:=.type "tuple",data:=.seq (vs++ws).toArray } })(hsz:vs.length+ws.length<=sizeLine):LM (LH prog w) A (NJ .Add (.ref t) (.ref b)) Q E s:=by
 obtain ⟨⟨cls,dd,data,sl⟩,ho,hc,n,hd⟩:=id ht;obtain ⟨⟨Z,F,data2,J⟩,z,W,S,G⟩:=id hb;simp only at hc hd W G;subst hc hd W G;have e:vs.toArray++ws.toArray=(vs++ws).toArray:=by simp
 by_cases O:ws=[]
 .exact concat_meets {_,ho,rfl} {_,z,rfl} noFill_tuple_add seq_tuple_add slot_tuple_add entry_tuple_add (args_tuple_add_2 _ _)
   (tuple_addW1 t b vs.toArray ws.toArray n S dd F sl J (by simpa using U) (by simp [O])) {ho,z,h1 O}
 .refine concat_meets {_,ho,rfl} {_,z,rfl} noFill_tuple_add seq_tuple_add slot_tuple_add entry_tuple_add (args_tuple_add_2 _ _)
   (tuple_addW2 t b vs.toArray ws.toArray n S dd F sl J (by simpa using U) (by simpa using O) (by rw [LJ,LJ];exact hsz)) {ho,z,?_}
  rw [e];exact h2 O
def sIx(n d:Nat):Option Int->Nat
 | none=>d
 | some v=>if v<0 then (v+(n:Int)).toNat else min v.toNat n
theorem Cm(n d:Nat)(hd:d<=n)(o:Option Int):sIx n d o<=n:=by
 cases o with
 | none=>exact hd
 | some v =>
  show (if v<0 then (v+(n:Int)).toNat else min v.toNat n)<=n;by_cases z:v<0
  .rw [if_pos z];lia
  .rw [if_neg z];exact Nat.min_le_right _ _
theorem yM(v:Int)(n d:Nat):(if v<0 then max (v+(n:Int)) 0 else min v (n:Int))=((sIx n d (some v):Nat):Int):=by
 show (if v<0 then max (v+(n:Int)) 0 else min v (n:Int))=(((if v<0 then (v+(n:Int)).toNat else min v.toNat n):Nat):Int);by_cases z:v<0
 .simp only [if_pos z];lia
 .simp only [if_neg z];lia
theorem Dn(lo hi:Option Int)(n:Nat):LQ.Slice.sliceAdjust lo hi 1 (n:Int)=(((sIx n 0 lo:Nat):Int),((sIx n n hi:Nat):Int)):=by
 have h1 : ¬ ((1:Int)<0):=by lia
 unfold LQ.Slice.sliceAdjust;simp only [h1,if_false];refine Prod.ext ?_ ?_
 .cases lo with
  | none=>rfl
  | some v=>exact yM v n 0
 .cases hi with
  | none=>rfl
  | some v=>exact yM v n n
theorem Ie(i j:Nat):LQ.Slice.slicePlaces (i:Int) (j:Int) 1=j-i:=by
 unfold LQ.Slice.slicePlaces;have h1:(1:Int)>0:=by lia
 simp only [h1,if_true,Int.ediv_one];split<;>lia
theorem uf{o:Option Int}(p:Qq v o)(h:Q o s):LM (LH prog w) A (LQ.Slice.slicePartIndex v) Q E s:=by
 cases p with
 | none=>exact slicePart_none h
 | int i t=>exact slicePart_int h
theorem yh{lo hi:Option Int}{n:Nat}(hs:s.heap.IsSliceOf sl G F .none)(pl:Qq G lo)(S:Qq F hi)(h:Q (((sIx n 0 lo:Nat):Int),1,sIx n n hi-sIx n 0 lo) s):LM (LH prog w) A (LQ.Slice.sliceApplied (.ref sl) (pure (n:Int))) Q E s:=by
 obtain ⟨os,z,O,J⟩:=id hs;unfold LQ.Slice.sliceApplied LQ.Slice.sliceFields;refine we (we (Md z J (x:=G) rfl (we (Md z J (x:=F) rfl (we (Md z J (x:=.none) rfl (Ls ?_)))))));refine we (slicePart_none ?_);show LM _ _ (if ((1:Int)==0)=true then _ else _) _ _ s;rw [if_neg 'd'];refine we (uf pl (we (uf S (we (Ls ?_)))));show LM _ _ (match LQ.Slice.sliceAdjust lo hi 1 (n:Int) with|(lo,hi)=>pure (lo,(1:Int),LQ.Slice.slicePlaces lo hi 1)) _ _ s;rw [Dn lo hi n];show LM _ _ (pure (((sIx n 0 lo:Nat):Int),(1:Int),LQ.Slice.slicePlaces ((sIx n 0 lo:Nat):Int) ((sIx n n hi:Nat):Int) 1)) _ _ s;rw [Ie];exact Ls h
theorem Di(xs:Array Value)(i k:Nat):((Oi k).filterMap λ(m:Nat)=>xs[((i:Int)+(m:Int)*1).toNat]?).toArray=((xs.toList.drop i).take k).toArray:=by
 have e:(λ(m:Nat)=>xs[((i:Int)+(m:Int)*1).toNat]?)=λm=>xs[i+m]?:=by
  funext m;have:((i:Int)+(m:Int)*1).toNat=i+m:=by lia
  rw [this]
 rw [e];have:=pick_run xs i k;rw [List.filterMap_map] at this;have z:((λx=>xs[x]?)∘λx=>i+x)=λm=>xs[i+m]?:=rfl;rw [z] at this;rw [this]
theorem getItem_tuple_cut{t sl:Addr}{W:Value}{lo hi:Option Int}(F:QV s.heap t items)(hs:s.heap.IsSliceOf sl W U .none)(pl:Qq W lo)(Z:Qq U hi)(hw : ¬ (sIx items.size 0 lo=0/\sIx items.size items.size hi=items.size))(h:Q (.ref s.heap.objs.size) { s with heap:=s.heap.push { cls:=.type "tuple",data:=.seq ((items.toList.drop (sIx items.size 0 lo)).take (sIx items.size items.size hi-sIx items.size 0 lo)).toArray } })(hsz:items.size<=sizeLine):LM (LH prog w) A (Q7 (.ref t) (.ref sl)) Q E s:=by
 have z:sizeOk (.seq ((items.toList.drop (sIx items.size 0 lo)).take (sIx items.size items.size hi-sIx items.size 0 lo)).toArray):=by
  show ((items.toList.drop (sIx items.size 0 lo)).take (sIx items.size items.size hi-sIx items.size 0 lo)).toArray.size<=sizeLine;rw [LJ,ME,Ni,Mi];lia
 have hj:sIx items.size items.size hi<=items.size:=Cm _ _ (Ll _) hi;obtain ⟨os,O,G,WK⟩:=id hs;have S:s.TypeIs (.ref sl) "slice":=⟨os,O,G⟩;unfold Q7
 try with_reducible refine Mn ?_
 first|refine we (Ls ?_)|skip
 refine we (wpAny_sequenceKey F.typeIs 'd' ?_);refine we (MI (name:=Lo "__getitem__") F.typeIs MT
  (M4 MT F.typeIs entry_tuple_getitem ?_ (args_tuple_getitem _ _)))
 show LM _ _ (LQ.Tuple.tupleItemsOf (.ref t)>>=_) _ _ s;refine we (tupleItemsOf_ F ?_);refine we (QX S ?_);rw [if_pos 'd'];refine we (yh hs pl Z ?_);have J : ¬ ((((sIx items.size 0 lo:Nat):Int)==0&&(1:Int)==1&&(sIx items.size items.size hi-sIx items.size 0 lo)==items.size)=true):=by
  intro q;rw [Mw,Mw] at q;have q1:((sIx items.size 0 lo:Nat):Int)=0:=eq_of_beq q.1.1;have q2:sIx items.size items.size hi-sIx items.size 0 lo=items.size:=eq_of_beq q.2;exact hw {'l','l'}
 show LM _ _ (if (((sIx items.size 0 lo:Nat):Int)==0&&(1:Int)==1&&(sIx items.size items.size hi-sIx items.size 0 lo)==items.size)=true then _ else _) _ _ s;rw [if_neg J,Di]
 first
  | exact we (m:=LQ.Tuple.tupleExact _) (Nh (Ls {_,rfl,Ls h}) z)
  | exact we (m:=LQ.Tuple.tupleExact _) (Nh (we (Ls (Ls {_,rfl,Ls h}))) z)
  | exact we (we (m:=LQ.Tuple.tupleExact _) (Nh (Ls (Ls {_,rfl,Ls h})) z))
  | exact we (we (m:=LQ.Tuple.tupleExact _) (Nh (Ls {_,rfl,Ls h}) z))
end
end HT
namespace L2
open PySem PySem.Spec PyProof.Rows
abbrev TO:=St->Hp->(Option Int->Hp->Prop)->Prop
def PO(X:Cx)(e:Option Mc)(t:TO):Prop :=
 ∀(Go:List (Addr×Obj))(s:Lk)(σ:St)(H:Hp)(Q:Option Int->Hp->Prop),Inv X Go σ H s->t σ H Q ->
  LM (LH X.prog X.w) X.A (evalPart e X.env) (λu s'=>∃o H',Inv X Go σ H' s'/\Qq u o/\Q o H') X.xe s
def xr:TO:=λ_ H Q=>Q none H
def vR(t:TE):TO:=λσ H Q=>t σ H λx H1=>∃i,x = .int i/\Q (some i) H1
section
variable {X:Cx}{e:Mc}{te:TE}{lo hi:Option Mc}{tl th:TO}{pos p2:Pos}
theorem dC:W (PO X none xr):=by
 refine {?_};intro Go s σ H Q I h;rw [evalPart_none];exact Ls {none,H,I,.none,h}
theorem dG(h:W (PE X e te)):W (PO X (some e) (vR te)):=by
 refine {?_};have h:=h.h;intro Go s σ H Q I z;rw [evalPart_some];refine thn (h Go s σ H _ I z) λu s1=>x5e λx H1 J F G=>?_;obtain ⟨i,rfl,q⟩:=G;obtain ⟨t,rfl⟩:=F;exact {some i,H1,J,.int i t,q}
def SlR(X:Cx)(r:V->Option Int->Option Int->Hp->VK->Prop):Prop :=
 ∀(Go:List (Addr×Obj))(s:Lk)(σ:St)(H:Hp)(x:V)(v z F:Value)(lo hi:Option Int)(sl:Addr)(Q:VK),Inv X Go σ H s->zo x v->s.heap.IsSliceOf sl z F .none->Qq z lo->Qq F hi->r x lo hi H Q ->
  ∃T id,typeLookup (.type T) "__getitem__"=pure (some (.builtin id))/\s.TypeIs v T/\LM (LH X.prog X.w) X.A (Q7 v (.ref sl)) (EP X Go σ Q) X.xe s
theorem SlR.or{r r':V->Option Int->Option Int->Hp->VK->Prop}(h:SlR X r)(h':SlR X r'):SlR X (λx lo hi H Q=>r x lo hi H Q\/r' x lo hi H Q):=by
 intro Go s σ H x v F J lo hi sl Q I z hs pl G q;rcases q with q|q
 .exact h Go s σ H x v F J lo hi sl Q I z hs pl G q
 .exact h' Go s σ H x v F J lo hi sl Q I z hs pl G q
def tSl(r:V->Option Int->Option Int->Hp->VK->Prop)(te:TE)(tl th:TO):TE:=λσ H Q=>te σ H λx H1=>tl σ H1 λl H2=>th σ H2 λu H3=>r x l u H3 Q
theorem dH{r:V->Option Int->Option Int->Hp->VK->Prop}(hr:SlR X r)(he:W (PE X e te))(hl:W (PO X lo tl))(J:W (PO X hi th)):W (PE X (.Subscript e (.Slice lo hi none p2) pos) (tSl r te tl th)):=by
 refine {?_};have he:=he.h;have hl:=hl.h;have J:=J.h;intro Go s σ H Q I h;refine Re (thn (he Go s σ H _ I h) λv s1=>x5e λx H1 I1 r1 q1=>?_);refine wpAny_Slice (thn (hl Go s1 σ H1 _ I1 q1) λF s2=>x5e λl H2 I2 pl q2=>thn (J Go s2 σ H2 _ I2 q2) λG z=>x5e λu H3 Z pu U=>?_);rw [evalPart_none];refine Ls ?_;have O:Inv X Go σ H3 { z with heap:=z.heap.push { cls:=.type "slice",data:=.fields #[F,G,.none] } }:=Z.kept (t':=z.toks) λb ob q=>Lm _ q;obtain ⟨T,id,S,ht,hg⟩:=hr Go { z with heap:=z.heap.push { cls:=.type "slice",data:=.fields #[F,G,.none] } } σ H3 x v F G l u z.heap.objs.size Q O r1 (Heap.IsSliceOf.new ..) pl pu U;show LM (LH X.prog X.w) X.A (subscriptTail e (.Slice lo hi none p2) v (.ref z.heap.objs.size)) (EP X Go σ Q) X.xe { z with heap:=z.heap.push { cls:=.type "slice",data:=.fields #[F,G,.none] } };exact tail_any (ops:=[.ref z.heap.objs.size,v]) ht S hg (by with_unfolding_all rfl)
def aR(xs:List V)(lo hi:Option Int):List V:=(xs.drop (HT.sIx xs.length 0 lo)).take (HT.sIx xs.length xs.length hi-HT.sIx xs.length 0 lo)
theorem xE(xs:List V)(lo hi:Option Int):(aR xs lo hi).length<=xs.length:=by
 unfold aR;rw [ME,Ni];lia
def JP(K:Lq):V->Option Int->Option Int->Hp->VK->Prop:=λx lo hi H Q=>∃a xs,x = .ref a/\SqT K H a xs /\
 ¬ (HT.sIx xs.length 0 lo=0/\HT.sIx xs.length xs.length hi=xs.length)/\∀p,H p=none->Q (.ref p) (upd H p (.tup (aR xs lo hi)))
theorem Gb:SlR X (JP X.K):=by
 intro Go s σ H x v W U lo hi sl Q I O hs pl S h;obtain ⟨a,xs,rfl,hx,J,q⟩:=h;cases O;obtain ⟨its,r,G,F⟩:=I.tuple hx;have z:its.toArray.size=xs.length:=by rw [LJ];exact r.length.symm
 refine {"tuple",_,MT.lookup,G.typeIs,?_};refine HT.getItem_tuple_cut G hs pl S (by rw [z];exact J) ?_ (by rw [z];exact F);rw [z];refine {.ref s.heap.objs.size,_,I.laid (t':=s.toks) (o:=.tup (aR xs lo hi)) (λb ob q=>Lm _ q) (Ll _) ?_,rfl,q _ (I.hok.fresh (Ll _))};exact {L8 (xE xs lo hi) F,_,(r.drop (HT.sIx xs.length 0 lo)).take (HT.sIx xs.length xs.length hi-HT.sIx xs.length 0 lo),QV.new _ _}
def Br(K:Lq):R2:=λx y H Q=>∃a b xs ys,x = .ref a/\y = .ref b/\SqT K H a xs/\SqT K H b ys/\xs≠[]/\xs.length+ys.length<=sizeLine /\
 (ys=[]->Q (.ref a) H)/\(ys≠[]->∀p,H p=none->Q (.ref p) (upd H p (.tup (xs++ys))))
theorem zm.RL(r:zm xs us):us=[]↔xs=[]:=by
 cases r with
 | nil=>simp
 | cons _ _=>simp
theorem HX:OpR X (NJ .Add) (Br X.K):=by
 intro Go s σ H x y v u Q I O W h;obtain ⟨a,b,xs,ys,rfl,rfl,ha,hb,hx,J,Z,U⟩:=h;cases O;cases W;obtain ⟨its,G,S,_⟩:=I.tuple ha;obtain ⟨X6,F,p2,_⟩:=I.tuple hb;refine HT.cat_tup S p2 (λz=>hx (G.RL.mp z)) (λz=>{.ref a,H,I,rfl,Z (F.RL.mp z)}) (λz=>?_) (by rw [<- G.length,<- F.length];exact J);refine {.ref s.heap.objs.size,_,I.laid (t':=s.toks) (o:=.tup (xs++ys)) (λb ob q=>Lm _ q) (Ll _) ?_,rfl,U (λw=>z (F.RL.mpr w)) _ (I.hok.fresh (Ll _))};exact {by rw [LC];exact J,_,G.append F,QV.new _ _}
end
def ixN(n:Nat)(i:Int):Option Nat:=if 0<=i then (if i<n then some i.toNat else none) else if -(n:Int)<=i then some (i+n).toNat else none
def atI{α:Type}(xs:List α)(i:Int):Option α:=(ixN xs.length i).bind λj=>xs[j]?
theorem ub{n:Nat}(h:ixN n i=some j):QI i n=some j/\j<n/\-(n:Int)<=i/\i<n:=by
 unfold ixN at h;by_cases z:0<=i
 .rw [if_pos z] at h;by_cases h1:i<n
  .rw [if_pos h1] at h;have e:i.toNat=j:=Mm.inj h;exact {by rw [seqIndex_of z h1,e],'l','l',h1}
  .rw [if_neg h1] at h;cases h
 .rw [if_neg z] at h;by_cases h1 : -(n:Int)<=i
  .rw [if_pos h1] at h;have e:(i+n).toNat=j:=Mm.inj h;exact {by rw [seqIndex_neg 'l' h1,e],'l',h1,'l'}
  .rw [if_neg h1] at h;cases h
theorem qp{α:Type}{xs:List α}{v:α}(h:atI xs i=some v):∃j,QI i xs.length=some j/\xs[j]?=some v/\j<xs.length/\-(xs.length:Int)<=i/\i<xs.length:=by
 unfold atI at h;cases e:ixN xs.length i with
 | none=>rw [e] at h;cases h
 | some j =>
  rw [e] at h;obtain ⟨h1,h2,h3,h4⟩:=ub e;exact ⟨j,h1,h,h2,h3,h4⟩
theorem bz{α:Type}{xs:List α}{j:Nat}{v:α}(h:xs[j]?=some v):atI xs (j:Int)=some v:=by
 have z:j<xs.length:=(Lp.mp h).1;have e:ixN xs.length (j:Int)=some j:=by
  unfold ixN;rw [if_pos 'l',if_pos 'l'];simp
 unfold atI;rw [e];exact h
def xw(b:Mc):Prop:=∀o i,subscripted b false o i=operate [o,i] (Q7 o i)
def IxR(X:Cx)(r:R2):Prop :=
 ∀(ZI z:Mc)(Go:List (Addr×Obj))(s:Lk)(σ:St)(H:Hp)(x y:V)(v u:Value)(Q:VK),Inv X Go σ H s->zo x v->zo y u->r x y H Q ->
  subscripted z false v u=operate [v,u] (Q7 v u)->LM (LH X.prog X.w) X.A (subscriptTail ZI z v u) (EP X Go σ Q) X.xe s
def MtR(X:Cx)(id:String)(r:V->List V->Hp->VK->Prop):Prop :=
 ∀(Go:List (Addr×Obj))(s:Lk)(σ:St)(H:Hp)(x:V)(xs:List V)(v:Value)(us:List Value)(Q:VK),Inv X Go σ H s->zo x v->zm xs us->r x xs H Q ->
  LM (LH X.prog X.w) X.A (call (.builtin id) (v::us)) (EP X Go σ Q) X.xe s
section
variable {X:Cx}{a b:Mc}{ta tb:TE}{pos:Pos}
theorem IxR.or{r r':R2}(h:IxR X r)(h':IxR X r'):IxR X (λx y H Q=>r x y H Q\/r' x y H Q):=by
 intro ZI z Go s σ H x y v u Q I F G q hs;rcases q with q|q
 .exact h ZI z Go s σ H x y v u Q I F G q hs
 .exact h' ZI z Go s σ H x y v u Q I F G q hs
theorem uh{r:R2}(hr:IxR X r)(ha:PE X a ta)(hb:PE X b tb)(hs:xw b):PE X (.Subscript a b pos) (tOp r ta tb):=by
 intro Go s σ H Q I h;exact Re (qQ ha hb I h λv u s2 x y H2 z F G q=>hr a b Go s2 σ H2 x y v u Q z F G q (hs _ _))
def uo(K:Lq):R2:=λx y H Q=>∃p xs i v,x = .ref p/\y = .int i/\SqL K H p xs/\atI xs i=some v/\Q v H
def wR(K:Lq):R2:=λx y H Q=>∃p xs i v,x = .ref p/\y = .int i/\SqT K H p xs/\atI xs i=some v/\Q v H
def su:R2:=λx y H Q=>∃z i c,x = .str z/\y = .int i/\z.length<=sizeLine/\atI z.cps.toList i=some c/\Q (.str {#[c]}) H
theorem yf:IxR X (uo X.K):=by
 intro ZI Y9 Go s σ H x y v u Q I O W h hs;obtain ⟨p,xs,i,z,rfl,rfl,S,he,q⟩:=h;cases O;obtain ⟨t,rfl⟩:=W;obtain ⟨its,r,pl,hz⟩:=I.list S;obtain ⟨j,h1,h2,h3,h4,U⟩:=qp he;obtain ⟨w,J,Z⟩:=r.get h2;have hl:=r.length;have hn:=fX;have fin:EP X Go σ Q w s:=⟨z,H,I,Z,q⟩;by_cases G:0<=i
 .have F:i.toNat=j:=by
   rw [seqIndex_of G U] at h1;exact Mm.inj h1
  exact item_listR pl.isList G 'l' (by rw [F];simpa using J) fin hs
 .have F:(i+(its.toArray.size:Int)).toNat=j:=by
   rw [seqIndex_neg 'l' h4] at h1;rw [LJ,<- hl];exact Mm.inj h1
  exact Ov (x:=w) pl.isList.typeIs Qv.lookup
   (wpAny_getItem_list_neg (Q:=λr s'=>r=w/\EP X Go σ Q r s') pl.isList 'l' (by rw [LJ]<;>lia) 'l' (by rw [F];simpa using J) {rfl,fin}) hs
theorem KR:IxR X (wR X.K):=by
 intro ZI Z Go s σ H x y v u Q I F O h hs;obtain ⟨p,xs,i,z,rfl,rfl,G,he,q⟩:=h;cases F;obtain ⟨t,rfl⟩:=O;obtain ⟨its,r,pl,W⟩:=I.tuple G;obtain ⟨j,h1,h2,h3,h4,U⟩:=qp he;obtain ⟨w,J,S⟩:=r.get h2;have hl:=r.length;have hn:=fX;have fin:EP X Go σ Q w s:=⟨z,H,I,S,q⟩;exact Ov (x:=w) pl.typeIs Qf.lookup
  (getItem_tuple (j:=j) (Q:=λr s'=>r=w/\EP X Go σ Q r s') pl 'l' 'l' (by rw [LJ,<- hl];exact h1) (by simpa using J) {rfl,fin}) hs
theorem G1:IxR X su:=by
 intro ZI U Go s σ H x y v u Q I F O h hs;obtain ⟨z,i,c,rfl,rfl,S,he,q⟩:=h;obtain ⟨t,rfl⟩:=F;obtain ⟨t',rfl⟩:=O;obtain ⟨j,h1,h2,h3,h4,G⟩:=qp he;have hl:z.cps.toList.length=z.length:=by simp [Str.length]
 rw [hl] at h1 h4 G;have W:=fX;exact tail_any (Pw s z t) slot_str_getitem.lookup (getItem_str (c:=c) (by
  have e1:decide (i < -(2 ^ 63:Int))=false:=decide_eq_false 'l';have J:decide (i ≥ 2 ^ 63)=false:=decide_eq_false 'l';rw [e1,J,O4]) (by rw [h1];simpa using h2) {.str {#[c]},H,I.tok _,{_,rfl},q}) hs
def rIx(K:Lq):R2:=λx y H Q=>uo K x y H Q\/wR K x y H Q\/su x y H Q
theorem Gg:IxR X (rIx X.K):=yf.or (KR.or G1)
theorem AG(its:List Value)(n j:Nat)(u:Value):Nu (·.setIfInBounds j u) { cls:=.type "list",data:=.seq its.toArray n }={ cls:=.type "list",data:=.seq (its.set j u).toArray n }:=by
 simp [Nu]
theorem Inv.lst{Go:List (Addr×Obj)}{σ:St}{H:Hp}{s:Lk}{p:Addr}{xs:List V}(I:Inv X Go σ H s)(h:H p=some (.lst xs)) :
  ∃(its:List Value)(n:Nat),zm xs its/\s.heap.get? p=some { cls:=.type "list",data:=.seq its.toArray n }/\xs.length<=sizeLine:=by
 obtain ⟨z,its,n,r,e⟩:=I.hok p _ h;exact ⟨its,n,r,e,z⟩
theorem Inv.Ui{p:Addr}{its its':List Value}{n z:Nat}(I:Inv X Go σ H s)(h:H p=some (.lst xs))(ho:s.heap.get? p=some { cls:=.type "list",data:=.seq its.toArray n })(hf:f { cls:=.type "list",data:=.seq its.toArray n }={ cls:=.type "list",data:=.seq its'.toArray z })(r:zm ys its')(F:ys.length<=sizeLine)(t:Nat):
  Inv X Go σ (upd H p (.lst ys)) { s with heap:=s.heap.update p f,toks:=t }:=by
 have e:(s.heap.update p f).get? p=some { cls:=.type "list",data:=.seq its'.toArray z }:=by
  rw [NM f ho (by rw [hf]<;>rfl),hf]
 refine I.write (x:=p) (e:=p) (by rw [h];trivial) (.inl rfl) (λb u hb q=>(Mq _ _ (L9 hb)).trans q) {_,e} ?_;exact ⟨F,its',z,r,e⟩
def nZ:V->V->V->Hp->(Hp->Prop)->Prop:=λo i v H Q=>∃p xs k j,o = .ref p/\i = .int k/\H p=some (.lst xs)/\ixN xs.length k=some j/\Q (upd H p (.lst (xs.set j v)))
theorem il:mM X nZ:=by
 intro Go s σ H o i v ov iv u Q I S O rv h;obtain ⟨p,xs,k,j,rfl,rfl,J,Z,q⟩:=h;cases S;obtain ⟨t,rfl⟩:=O;obtain ⟨its,n,r,ho,U⟩:=I.lst J;obtain ⟨h1,h2,h3,h4⟩:=ub Z;have hl:=r.length;have hn:=fX;have F:Inv X Go σ (upd H p (.lst (xs.set j v))) { s with heap:=s.heap.update p (Nu (·.setIfInBounds j u)) } :=
  I.Ui J ho (AG its n j u) (r.set rv j) (by rw [MZ];exact U) s.toks
 by_cases G:0<=k
 .have z:k.toNat=j:=by
   rw [seqIndex_of G h4] at h1;exact Mm.inj h1
  exact PySem.W.ki_setAt ho G 'l' (by rw [LJ,<- hl];exact h4) (by rw [z];exact {_,F,q})
 .have z:(k+(its.toArray.size:Int)).toNat=j:=by
   rw [seqIndex_neg 'l' h3] at h1;rw [LJ,<- hl];exact Mm.inj h1
  exact PySem.W.ki_setBack ho 'l' (by rw [LJ,<- hl];exact h3) 'l' (by rw [z];exact {_,F,q})
theorem GV(lo hi:Option Int)(n:Nat):(Pf lo hi none n).1=((HT.sIx n 0 lo:Nat):Int)/\(Pf lo hi none n).2.1=((HT.sIx n n hi:Nat):Int)/\(Pf lo hi none n).2.2=1:=by
 refine {?_,?_,rfl}
 .cases lo with
  | none=>simp [Pf,HT.sIx]
  | some i =>
   simp only [Pf,HT.sIx,getD_none,show (1:Int)>0 by decide,if_true];by_cases h:i<0
   .simp only [h,if_true]<;>lia
   .simp only [h,if_false]<;>lia
 .cases hi with
  | none=>simp [Pf,HT.sIx]
  | some i =>
   simp only [Pf,HT.sIx,getD_none,show (1:Int)>0 by decide,if_true];by_cases h:i<0
   .simp only [h,if_true]<;>lia
   .simp only [h,if_false]<;>lia
theorem Jf(its:List Value)(lo hi:Option Int):slicePick its.toArray lo hi none=((its.drop (HT.sIx its.length 0 lo)).take (HT.sIx its.length its.length hi-HT.sIx its.length 0 lo)).toArray:=by
 obtain ⟨h1,h2,h3⟩:=GV lo hi its.toArray.size;unfold slicePick;rw [h1,h2,h3];simp only [sliceRange_one,pick_run,LJ]<;>rfl
def ED(K:Lq):V->Option Int->Option Int->Hp->VK->Prop:=λx lo hi H Q=>∃a xs,x = .ref a/\SqL K H a xs/\∀p,H p=none->Q (.ref p) (upd H p (.lst (aR xs lo hi)))
theorem Hv:SlR X (ED X.K):=by
 intro Go s σ H x v U S lo hi sl Q I F hs pl O h;obtain ⟨a,xs,rfl,hx,q⟩:=h;cases F;obtain ⟨its,r,z,J⟩:=I.list hx;have G:=r.length;refine {"list",_,Qv.lookup,z.isList.typeIs,?_};refine wpAny_getItem_list_slice z.isList hs pl O .none 's' ?_ (by rw [LJ]<;>lia);rw [Jf,<- G];refine {.ref s.heap.objs.size,_,I.laid (t':=s.toks) (o:=.lst (aR xs lo hi)) (λb ob q=>Lm _ q) (Ll _) ?_,rfl,q _ (I.hok.fresh (Ll _))};exact {L8 (xE xs lo hi) J,_,0,(r.drop (HT.sIx xs.length 0 lo)).take (HT.sIx xs.length xs.length hi-HT.sIx xs.length 0 lo),LO _ rfl}
def zF:V->Bool
 | .non=>true
 | .bl _=>true
 | .int _=>true
 | .str _=>true
 | _=>false
def eqV:V->V->Bool
 | .non,.non=>true
 | .bl a,.bl b=>a==b
 | .bl a,.int b=>(if a then 1 else 0)==b
 | .int a,.bl b=>a==(if b then 1 else 0)
 | .int a,.int b=>a==b
 | .str a,.str b=>a==b
 | _,_=>false
theorem iE(G:zo y u)(z:zo x v)(J:zF y=true)(F:zF x=true):SeqAt.EqAt A s u v (eqV y x):=by
 cases y with
 | non =>
  cases G;cases x with
  | non=>cases z;exact SeqAt.EqAt.same _
  | bl b=>cases z;exact SeqAt.EqAt.none_bool b
  | int b=>obtain ⟨t,rfl⟩:=z;exact SeqAt.EqAt.none_int b t
  | str b=>obtain ⟨t,rfl⟩:=z;exact SeqAt.EqAt.none_str b t
  | _=>exact absurd (show false=true from F) Lz
 | bl a =>
  cases G;cases x with
  | non=>cases z;exact SeqAt.EqAt.bool_none a
  | bl b=>cases z;exact SeqAt.EqAt.bool_bool a b
  | int b=>obtain ⟨t,rfl⟩:=z;exact SeqAt.EqAt.bool_int a b t
  | str b=>obtain ⟨t,rfl⟩:=z;exact SeqAt.EqAt.bool_str a b t
  | _=>exact absurd (show false=true from F) Lz
 | int a =>
  obtain ⟨t',rfl⟩:=G;cases x with
  | non=>cases z;exact SeqAt.EqAt.int_none a t'
  | bl b=>cases z;exact SeqAt.EqAt.int_bool a t' b
  | int b=>obtain ⟨t,rfl⟩:=z;exact SeqAt.EqAt.int_int a t' b t
  | str b=>obtain ⟨t,rfl⟩:=z;exact SeqAt.EqAt.int_str a t' b t
  | _=>exact absurd (show false=true from F) Lz
 | str a =>
  obtain ⟨t',rfl⟩:=G;cases x with
  | non=>cases z;exact SeqAt.EqAt.str_none a t'
  | bl b=>cases z;exact SeqAt.EqAt.str_bool a t' b
  | int b=>obtain ⟨t,rfl⟩:=z;exact SeqAt.EqAt.str_int a t' b t
  | str b=>obtain ⟨t,rfl⟩:=z;exact SeqAt.EqAt.str_str a t' b t
  | _=>exact absurd (show false=true from F) Lz
 | _=>exact absurd (show false=true from J) Lz
def eqU(x:V)(u:Value):Bool:=match u with
 | .none=>eqV .non x
 | .bool b=>eqV (.bl b) x
 | .int i _=>eqV (.int i) x
 | .str z _=>eqV (.str z) x
 | _=>false
theorem ud(r:zo y u)(f:zF y=true):eqU x u=eqV y x:=by
 cases y with
 | non=>cases r;rfl
 | bl b=>cases r;rfl
 | int i=>obtain ⟨t,rfl⟩:=r;rfl
 | str z=>obtain ⟨t,rfl⟩:=r;rfl
 | _=>exact absurd (show false=true from f) Lz
theorem jX(h:zm xs us)(f:xs.all zF=true):us.any (eqU x)=xs.any λy=>eqV y x:=by
 induction h with
 | nil=>rfl
 | cons r t z =>
  rw [all_cons,Mw] at f;rw [Qn,Qn,ud r f.1,z f.2]
theorem iw(F:zo x v)(G:zF x=true):∀{xs:List V}{us:List Value},zm xs us->xs.all zF=true->∀u∈us,SeqAt.EqAt A s u v (eqU x u)
 | _,_,.nil,_=>λu z=>by cases z
 | y::xs,u::us,.cons r t,f=>λJ z=>by
  rw [all_cons,Mw] at f;rcases Lu.mp z with rfl|z
  .rw [ud r f.1];exact iE r F f.1 G
  .exact iw F G t f.2 J z
def inV(x:V)(xs:List V):Bool:=xs.any λy=>eqV y x
def rIn(K:Lq)(neg:Bool):R2:=λx y H Q=>∃p xs,y = .ref p/\(SqL K H p xs\/SqT K H p xs)/\zF x=true/\xs.all zF=true/\Q (.bl (if neg then !inV x xs else inV x xs)) H
theorem GR:OpR X (Mt .In) (rIn X.K false):=by
 intro Go s σ H x y v u Q I G S h;obtain ⟨p,xs,rfl,z,J,fs,q⟩:=h;cases S;rcases z with z|z
 .obtain ⟨its,r,pl,O⟩:=I.list z;refine SeqAt.in_listAt (eqU x) pl.isList (λw F=>iw G J r fs w (by simpa using F)) {.bl _,H,I,rfl,?_};rw [show its.toArray.any (eqU x)=its.any (eqU x) by simp,jX r fs];exact q
 .obtain ⟨its,r,pl,O⟩:=I.tuple z;refine SeqAt.in_tupleAt (eqU x) pl (λw F=>iw G J r fs w (by simpa using F)) {.bl _,H,I,rfl,?_};rw [show its.toArray.any (eqU x)=its.any (eqU x) by simp,jX r fs];exact q
theorem FH:OpR X (Mt .NotIn) (rIn X.K true):=by
 intro Go s σ H x y v u Q I G S h;obtain ⟨p,xs,rfl,z,J,fs,q⟩:=h;cases S;rcases z with z|z
 .obtain ⟨its,r,pl,O⟩:=I.list z;refine SeqAt.notIn_listAt (eqU x) pl.isList (λw F=>iw G J r fs w (by simpa using F)) {.bl _,H,I,rfl,?_};rw [show its.toArray.any (eqU x)=its.any (eqU x) by simp,jX r fs];exact q
 .obtain ⟨its,r,pl,O⟩:=I.tuple z;refine SeqAt.notIn_tupleAt (eqU x) pl (λw F=>iw G J r fs w (by simpa using F)) {.bl _,H,I,rfl,?_};rw [show its.toArray.any (eqU x)=its.any (eqU x) by simp,jX r fs];exact q
theorem mO:zI X (.builtin "len") (λxs H Q=>∃p ys,xs=[.ref p]/\(SqL X.K H p ys\/SqT X.K H p ys)/\Q (.int ys.length) H):=by
 intro Go s σ H xs us Q I r h;obtain ⟨p,ys,rfl,z,q⟩:=h;obtain ⟨u,rfl,G⟩:=cg r;cases G;have O:=fX;rcases z with z|z
 .obtain ⟨its,r',pl,J⟩:=I.list z;have F:=r'.length;exact Calls.call_len_list pl.isList (by simp only [LJ]<;>lia) {.int ys.length,H,I.tok _,{s.toks+1,by rw [LJ,F]},q}
 .obtain ⟨its,r',pl,J⟩:=I.tuple z;have F:=r'.length;exact len_tuple pl (by simp only [LJ]<;>lia) {.int ys.length,H,I.tok _,{s.toks+1,by rw [LJ,F]},q}
theorem A3:zI X (.builtin "len") (λxs H Q=>∃z,xs=[.str z]/\z.length<=sizeLine/\Q (.int z.length) H):=by
 intro Go s σ H xs us Q I r h;obtain ⟨z,rfl,F,q⟩:=h;obtain ⟨u,rfl,t,rfl⟩:=cg r;have G:=fX;exact len_str 'l' {.int z.length,H,I.tok _,{_,rfl},q}
theorem zI.or{r r':List V->Hp->VK->Prop}(h:zI X f r)(h':zI X f r'):zI X f (λxs H Q=>r xs H Q\/r' xs H Q):=by
 intro Go s σ H xs us Q I z q;rcases q with q|q
 .exact h Go s σ H xs us Q I z q
 .exact h' Go s σ H xs us Q I z q
theorem Im:zI X (.type "list") (λxs H Q=>∃p ys,xs=[.ref p]/\(SqL X.K H p ys\/SqT X.K H p ys)/\∀l,H l=none->Q (.ref l) (upd H l (.lst ys))):=by
 intro Go s σ H xs us Q I r h;obtain ⟨p,ys,rfl,z,q⟩:=h;obtain ⟨u,rfl,G⟩:=cg r;cases G;have fin:∀(its:List Value),zm ys its->ys.length<=sizeLine->∀(h':Heap)(c':Nat),(∀b o',s.heap.get? b=some o'->h'.get? b=some o') ->
   h'.get? s.heap.objs.size=some { cls:=.type "list",dict:=none,data:=.seq its.toArray c',slots:=#[] }->EP X Go σ Q (.ref s.heap.objs.size) { s with heap:=h' }:=λits r' F h' c' kp e =>
  {.ref s.heap.objs.size,_,I.laid (t':=s.toks) kp (Ll _) (show aa X.prog X.w _ h' _ (.lst ys) from ⟨F,its,c',r',e⟩),rfl,q _ (I.hok.fresh (Ll _))}
 rcases z with z|z
 .obtain ⟨its,r',pl,F⟩:=I.list z;have J:=r'.length;obtain ⟨o,ho,hc,n,hd⟩:=pl.isList;exact call_list_seq p (.inl rfl) ho hc hd (λh' c' kp e=>fin its r' F h' c' kp e) (by simp only [LJ]<;>lia)
 .obtain ⟨its,r',pl,F⟩:=I.tuple z;have J:=r'.length;obtain ⟨o,ho,hc,n,hd⟩:=pl;exact call_list_seq p (.inr rfl) ho hc hd (λh' c' kp e=>fin its r' F h' c' kp e) (by simp only [LJ]<;>lia)
theorem EJ:zI X (.type "tuple") (λxs H Q=>∃p ys,xs=[.ref p]/\((SqL X.K H p ys/\∀l,H l=none->Q (.ref l) (upd H l (.tup ys)))\/(SqT X.K H p ys/\Q (.ref p) H))):=by
 intro Go s σ H xs us Q I r h;obtain ⟨p,ys,rfl,h⟩:=h;obtain ⟨u,rfl,J⟩:=cg r;cases J;rcases h with ⟨z,q⟩|⟨z,q⟩
 .obtain ⟨its,r',pl,F⟩:=I.list z;have S:=r'.length;refine call_tuple_list pl.isList (λh' kp=>?_) (by simp only [LJ]<;>lia);have G:Inv X Go σ H { s with heap:=h' }:=I.kept (t':=s.toks) kp;have O:Inv X Go σ (upd H h'.objs.size (.tup ys)) { s with heap:=h'.push { cls:=.type "tuple",data:=.seq its.toArray } } :=
   G.laid (t':=s.toks) (λb o e=>Lm _ e) (Ll _) (show aa X.prog X.w _ _ _ (.tup ys) from {F,its,r',QV.new _ _})
  exact {.ref h'.objs.size,_,O,rfl,q _ (G.hok.fresh (Ll _))}
 .obtain ⟨its,r',pl,F⟩:=I.tuple z;exact call_tuple_same pl {.ref p,H,I,rfl,q}
def tyV(K:Lq)(T:String)(x:V)(H:Hp):Prop:=match x with
 | .str _=>T="str"
 | .int _=>T="int"
 | .ref p=>(T="list"/\∃xs,SqL K H p xs)\/(T="tuple"/\∃o,K.lookup p=some o/\o.cls = .type "tuple"/\o.dict=none) \/
   (T="dict"/\((∃kvs,H p=some (.dK kvs))\/∃kvs,H p=some (.dT kvs)))\/(T="set"/\∃S n,H p=some (.set S n))
 | _=>False
theorem gn(I:Inv X Go σ H s)(r:zo x v)(ty:tyV X.K T x H):
  s.TypeIs v T/\∀a,v = .ref a->∃ob,s.heap.get? a=some ob/\ob.dict=none:=by
 cases x with
 | str z =>
  obtain ⟨t,rfl⟩:=r;cases (show T="str" from ty);exact {Pw s z t,λ_ e=>nomatch e}
 | int i =>
  obtain ⟨t,rfl⟩:=r;cases (show T="int" from ty);exact {typeIs_int s i t,λ_ e=>nomatch e}
 | ref p =>
  cases r;rcases ty with ⟨rfl,xs,J⟩|⟨rfl,o,F,hc,hd⟩|⟨rfl,F⟩|⟨rfl,S,n,F⟩
  .obtain ⟨its,_,pl,_⟩:=I.list J;refine {pl.isList.typeIs,λa e=>?_};cases e;obtain ⟨o,n,e,c,hd,_⟩:=pl;exact ⟨o,e,hd⟩
  .refine {{o,I.Rt p o F,hc},λa e=>?_};cases e;exact {o,I.Rt _ o F,hd}
  .have z:∃o,s.heap.get? p=some o/\o.ExactDict:=by
    rcases F with ⟨kvs,F⟩|⟨kvs,F⟩
    .obtain ⟨_,_,_,_,o,_,_,e,ex,_⟩:=I.hok p _ F;exact ⟨o,e,ex⟩
    .obtain ⟨_,_,_,_,o,_,_,e,ex,_⟩:=I.hok p _ F;exact ⟨o,e,ex⟩
   obtain ⟨o,e,ex⟩:=z;refine {⟨o,e,ex.1⟩,λa G=>?_};cases G;exact ⟨o,e,ex.2.1⟩
  .obtain ⟨o,_,_,_,e,ex,_⟩:=I.hok p _ F;refine {⟨o,e,ex.1⟩,λa G=>?_};cases G;exact ⟨o,e,ex.2.1⟩
 | _=>exact False.elim ty
variable {o e:Mc}{es:List Mc}{to:TE}{t:TA}{name:Str}{Z2 cpos:Pos}{T id:String}{r:V->List V->Hp->VK->Prop}
end
def MtM(X:Cx)(id:String)(r:V->List V->Hp->VK->Prop):Prop :=
 ∀(Go:List (Addr×Obj))(s:Lk)(σ:St)(H:Hp)(x:V)(xs:List V)(v:Value)(us:List Value)(Q:VK),Inv X Go σ H s->zo x v->zm xs us->r x xs H Q ->
  LM (LH X.prog X.w) X.A (call (.builtin id) (v::us)) (EP X Go σ Q) X.xe s
theorem GY{α β:Type}{F:α->β->Prop}{x:α}{xs:List α}{us:List β}(h:Paired F (x::xs) us):∃u ws,us=u::ws/\F x u/\Paired F xs ws:=by
 cases h with
 | cons r t=>exact {_,_,rfl,r,t}
theorem uZ{α β:Type}{F:α->β->Prop}{us:List β}(h:Paired F [] us):us=[]:=by cases h;rfl
theorem zm.one(h:zm [x] us):∃u,us=[u]/\zo x u:=by
 obtain ⟨u,ws,rfl,r,t⟩:=GY h;cases uZ t;exact {_,rfl,r}
def bZ(k:V->Prop):List V->Prop
 | [y]=>k y
 | _=>False
theorem bZ.ex{k:V->Prop}(h:bZ k vs):∃y,vs=[y]/\k y:=by
 cases vs with
 | nil=>exact h.elim
 | cons y t =>
  cases t with
  | nil=>exact {y,rfl,h}
  | cons _ _=>exact h.elim
theorem zm.zero(h:zm [] us):us=[]:=uZ h
theorem zm.eraseIdx:∀{xs:List V}{us:List Value}(i:Nat),zm xs us->zm (xs.eraseIdx i) (us.eraseIdx i)
 | _,_,_,.nil=>.nil
 | _,_,0,.cons _ t=>t
 | _,_,i+1,.cons r t=>.cons r (zm.eraseIdx i t)
theorem zm.reverse(h:zm xs us):zm xs.reverse us.reverse:=by
 induction h with
 | nil=>exact .nil
 | cons r t z=>rw [Q0,Q0];exact zm.append z (.cons r .nil)
theorem zm.rep(h:zm xs us):∀k:Nat,zm (Ml k xs).flatten (Ml k us).flatten
 | 0=>.nil
 | k+1=>by
  rw [NQ,NQ,Np,Np];exact zm.append h (zm.rep h k)
theorem wZ{α:Type}:∀(l:List α)(i:Nat),(l.eraseIdx i).length<=l.length
 | [],_=>Ll _
 | _::_,0=>Q5 _
 | _::r,i+1=>Nat.succ_le_succ (wZ r i)
theorem tV(its:List Value):∀(k:Nat)(ZD:List Value),
  foldl (λG F=>G++F) ZD.toArray (Ml k its.toArray)=(ZD++(Ml k its).flatten).toArray
 | 0,ZD=>by simp
 | k+1,ZD=>by
  have e:ZD.toArray++its.toArray=(ZD++its).toArray:=by simp
  have z:(ZD++its)++(Ml k its).flatten=ZD++(Ml (k+1) its).flatten:=by
   rw [NQ,Np,Ma]
  rw [<- z,<- tV its k (ZD++its),<- e,NQ,Qk]
section
variable {X:Cx}{Go:List (Addr×Obj)}{σ:St}{H:Hp}{s:Lk}{l b:Addr}{xs ys zs:List V}
theorem Inv.TV{its its':List Value}{n:Nat}(I:Inv X Go σ H s)(z:H l=some (.lst xs))(e:s.heap.get? l=some { cls:=.type "list",data:=.seq its.toArray n })(hf:f its.toArray=its'.toArray)(F:zm ys its')(J:ys.length<=sizeLine):
  Inv X Go σ (upd H l (.lst ys)) { s with heap:=s.heap.update l (Nu f),toks:=t' }:=by
 have q:=PySem.IsL.update e f;rw [hf] at q;refine I.write (x:=l) (e:=l) (by rw [z];exact trivial) (.inl rfl) (λO u hb G=>(Mq s.heap (Nu f) (L9 hb)).trans G) {_,q} ?_;exact {J,its',_,F,q}
theorem Inv.UB(I:Inv X Go σ H s)(F:zm ys its)(z:ys.length<=sizeLine):
  Inv X Go σ (upd H s.heap.objs.size (.lst ys)) { s with heap:=s.heap.push { cls:=.type "list",data:=.seq its.toArray },toks:=t' } :=
 I.laid (λ_ _ q=>Lm _ q) (Ll _) {z,its,0,F,LO _ rfl}
theorem Inv.fresh(I:Inv X Go σ H s):H s.heap.objs.size=none:=I.hok.fresh (Ll _)
theorem Inv.Sv(I:Inv X Go σ H s)(F:H l=some (.lst xs)):xs.length<=sizeLine/\∃(its:List Value)(n:Nat),zm xs its/\xs.length=its.length/\s.heap.get? l=some { cls:=.type "list",data:=.seq its.toArray n }:=by
 obtain ⟨z,its,n,r,e⟩:=I.hok l _ F;exact ⟨z,its,n,r,r.length,e⟩
theorem wO{n:Nat}(h:n<=sizeLine):LQ.List.listTooLong n=false:=by
 unfold LQ.List.listTooLong;exact decide_eq_false 'l'
end
section
variable {X:Cx}
def Gq:V->List V->Hp->VK->Prop:=λx vs H Q=>∃l xs y,x = .ref l/\vs=[y]/\H l=some (.lst xs)/\xs.length<sizeLine/\Q .non (upd H l (.lst (xs++[y])))
theorem BZ:MtM X "list.append" Gq:=by
 intro Go s σ H x vs v us Q I J S h;obtain ⟨l,xs,y,rfl,rfl,G,U,q⟩:=h;cases J;obtain ⟨u,rfl,O⟩:=S.one;obtain ⟨z,its,n,r,hl,e⟩:=I.Sv G;refine Oy F.slot_list_append {_,e,rfl} F.entry_list_append (F.args_list_append_2 _ _) (PySem.list_append l its.toArray n u (by rw [LJ];lia)) {e,?_};refine {.non,_,I.TV (its':=its++[u]) G e 's' (r.append (.cons O .nil)) ?_,rfl,q};rw [LC,List.length_singleton];lia
def Ej:V->List V->Hp->VK->Prop:=λx vs H Q=>∃l b xs zs,x = .ref l/\vs=[.ref b]/\H l=some (.lst xs)/\H b=some (.lst zs)/\xs.length+zs.length<=sizeLine/\Q .non (upd H l (.lst (xs++zs)))
theorem AR:MtM X "list.extend" Ej:=by
 intro Go s σ H x vs v us Q I S rv h;obtain ⟨l,b,xs,zs,rfl,rfl,J,U,hz,q⟩:=h;cases S;obtain ⟨u,rfl,ru⟩:=rv.one;cases ru;obtain ⟨z,its,n,r,hl,e⟩:=I.Sv J;obtain ⟨z2,G,O,r2,X5,W⟩:=I.Sv U;have hsz:its.toArray.size+G.toArray.size<=sizeLine:=by rw [LJ,LJ];lia
 have Z : ¬ (!its.toArray.isEmpty&&LQ.List.listTooLong (its.toArray.size+G.toArray.size))=true:=by
  rw [wO hsz,Rl];exact Lz
 refine Oy F.slot_list_extend {_,e,rfl} F.entry_list_extend (F.args_list_extend_2 _ _)
  (AutoSeq1.list_extend_list_list_0 l its.toArray n b G.toArray O Z (by rw [LJ];lia) 'l') {e,W,?_}
 refine {.non,_,I.TV (its':=its++G) J e 's' (r.append r2) ?_,rfl,q};rw [LC];lia
def AO:V->List V->Hp->VK->Prop:=λx vs H Q=>∃l xs i k y,x = .ref l/\vs=[.int i]/\H l=some (.lst xs)/\-(2 ^ 63)<=i/\i<2 ^ 63/\QI i xs.length=some k/\xs[k]?=some y/\Q y (upd H l (.lst (xs.eraseIdx k)))
theorem Aw:MtM X "list.pop" AO:=by
 intro Go s σ H x vs v us Q I O rv h;obtain ⟨l,xs,i,k,y,rfl,rfl,G,h1,h2,S,Z,q⟩:=h;cases O;obtain ⟨u,rfl,U⟩:=rv.one;obtain ⟨t,rfl⟩:=U;obtain ⟨z,its,n,r,hl,e⟩:=I.Sv G;obtain ⟨w,J,W⟩:=r.get Z;refine Oy F.slot_list_pop {_,e,rfl} F.entry_list_pop (F.args_list_pop_2 _ _)
  (MeetsSeq.list_pop_at l its.toArray n i t k w (fitsIndex_both h1 h2) (by rw [LJ,<- hl];exact S) (by rw [<- MH];exact J) (by rw [LJ];lia)) {e,?_}
 refine {y,_,I.TV (its':=its.eraseIdx k) G e ?_ (r.eraseIdx k) ?_,W,q}
 .show its.toArray.eraseIdxIfInBounds k=(its.eraseIdx k).toArray;rw [List.eraseIdxIfInBounds_toArray]
 .have:=wZ xs k;lia
def AH:V->List V->Hp->VK->Prop:=λx vs H Q=>∃l xs,x = .ref l/\vs=[]/\H l=some (.lst xs)/\Q .non (upd H l (.lst []))
theorem Hl:MtM X "list.clear" AH:=by
 intro Go s σ H x vs v us Q I O S h;obtain ⟨l,xs,rfl,rfl,J,q⟩:=h;cases O;have G:=S.zero;subst G;obtain ⟨z,its,n,r,hl,e⟩:=I.Sv J;refine Oy F.slot_list_clear {_,e,rfl} F.entry_list_clear (F.args_list_clear_1 _) (AutoSeq1.list_clear_list_0 l its.toArray n (by rw [LJ];lia)) {e,?_};exact {.non,_,I.TV (its':=[]) (ys:=[]) J e rfl .nil (Mu _),rfl,q}
def AU:R2:=λx y H Q=>∃l b xs zs,x = .ref l/\y = .ref b/\H l=some (.lst xs)/\H b=some (.lst zs)/\xs.length+zs.length<=sizeLine/\∀p,H p=none->Q (.ref p) (upd H p (.lst (xs++zs)))
theorem G6:OpR X (NJ .Add) AU:=by
 intro Go s σ H x y v u Q I O W h;obtain ⟨l,b,xs,zs,rfl,rfl,G,J,hz,q⟩:=h;cases O;cases W;obtain ⟨z,its,n,r,hl,e⟩:=I.Sv G;obtain ⟨z2,F,Z,U,X5,S⟩:=I.Sv J;refine PySem.P.add_list e S ?_ (by rw [LJ,LJ];lia);have ea:its.toArray++F.toArray=(its++F).toArray:=by simp
 rw [ea];exact {.ref _,_,I.UB (t':=s.toks) (r.append U) (by rw [LC];lia),rfl,q _ I.fresh}
def Jd:R2:=λx y H Q=>∃l k xs,x = .ref l/\y = .int k/\H l=some (.lst xs)/\-(2 ^ 63)<=k/\k<2 ^ 63/\xs.length*k.toNat<=sizeLine /\
 ∀p,H p=none->Q (.ref p) (upd H p (.lst (Ml k.toNat xs).flatten))
theorem Ef{α:Type}(xs:List α)(k:Nat):(Ml k xs).flatten.length=k*xs.length:=by
 induction k with
 | zero=>simp
 | succ k z=>rw [NQ,Np,LC,z,Nat.succ_mul,Nat.add_comm]
theorem y7:OpR X (NJ .Mult) Jd:=by
 intro Go s σ H x y v u Q I rx ry h;obtain ⟨l,k,xs,rfl,rfl,hH,h1,h2,Z,q⟩:=h;cases rx;obtain ⟨t,rfl⟩:=ry;obtain ⟨z,its,n,r,hl,e⟩:=I.Sv hH;have Z0:its.toArray.size*k.toNat<=sizeLine:=by rw [LJ,<- hl];exact Z
 have J : ¬ its.toArray.size*k.toNat>(2 ^ 63-1) / 8:=by
  have:(sizeLine:Nat)<=(2 ^ 63-1) / 8:=by decide
  lia
 have G : ¬ (!LQ.List.listFitsIndex k)=true:=by
  rw [fitsIndex_both h1 h2];exact Lz
 have WG : ¬ LQ.List.listTooLong (its.toArray.size*k.toNat)=true:=by
  rw [wO Z0];exact Lz
 have O:foldl (λW S=>W++S) #[] (Ml (if its.toArray.isEmpty=true then 0 else k.toNat) its.toArray)=(Ml k.toNat its).flatten.toArray:=by
  have f0:∀m:Nat,foldl (λW S=>W++S) #[] (Ml m its.toArray)=(Ml m its).flatten.toArray:=λm=>by
   have:=tV its m [];rw [nil_append] at this;exact this
  rw [f0];cases its with
  | nil=>simp
  | cons a r'=>rw [if_neg 's']
 refine wpAny_binaryOp_repeat_ref (T:="list") (U:="int") 'd' {_,e,rfl} (λs'=>typeIs_int s' k t) noFill_list_mul F.fills_int_mul F.slot_int_rmul repeat_list F.slot_int_index.lookup
  (Oy F.slot_int_rmul (typeIs_int s k t) F.entry_int_rmul (F.args_int_rmul_2 _ _) (int___rmul___int_list k t l its.toArray n)
   {e,rfl,{_,e,rfl},Oy F.slot_list_mul {_,e,rfl} F.entry_list_mul (F.args_list_mul_2 _ _) (AutoListH.list___mul___list_int_3 l its.toArray n k t G J WG) {e,?_}})
 rw [O];exact {.ref _,_,I.UB (t':=s.toks) (r.rep k.toNat) (by rw [Ef,Nat.mul_comm];exact Z),rfl,q _ I.fresh}
end
end L2
namespace Att
open PySem PySem.W PySem.Calls PyProof.Rows
theorem Bb:∀(ns:List Int)(vs:List Value),WellAll P h vs (ns.map WData.int)->PK vs ns:=by
 intro ns
 induction ns with
 | nil =>
  intro vs w;rw [map_nil] at w;cases w;exact .nil
 | cons n ns z =>
  intro vs w;rw [MD] at w;cases w with
  | cons a b =>
   cases a;exact .cons _ _ (z _ b)
theorem C9{l:OpenLaw}{n:Nat}(hn:l.most=some n)(F:l.row.toRowW.claim.pre args=true)(O:WellAll P h z args):
  ∃a vs ns,z=[Lx a]/\args=[WData.list (ns.map WData.int)]/\h.get? a=some { cls:=.type "list",data:=.seq vs.toArray }/\PK vs ns/\ns.length<=n:=by
 have J:WShape.hasAll [] args [.list .int]=true:=(pre_splitW F).1;have hc:l.pre.holds [] { args:=args }=true:=(pre_splitW F).2;obtain ⟨d,r,rfl,h1,h2⟩:=hasAllW_cons J;obtain rfl:=hasAllW_nil h2;obtain ⟨xs,rfl,h3⟩:=hasW_list h1;obtain ⟨ns,rfl⟩:=items_int h3;have Z:ns.length<=n:=by
  unfold OpenLaw.pre at hc;have h4:(WTm.not (.lt (.lit (.int (n:Int))) (.len (.arg 0)))).holds [] { args:=[.list (ns.map .int)] }=true:=by
   have h4:=(holds_andW hc).1;rw [hn] at h4;exact h4
  have G:=condW_of h4 (w_not (w_lt w_lit (w_len_list (w_arg rfl))));rw [Ln] at G;refine Nat.le_of_not_lt λq=>?_;have W:(n:Int)<((ns.length:Nat):Int):=by lia
  first
   | (rw [decide_eq_true W] at G;exact absurd G 'd')
   | (simp at G;lia)
 cases O with
 | cons S w2 =>
  cases w2;cases S with
  | list ho U=>exact {_,_,ns,rfl,rfl,ho,Bb ns _ U,Z}
theorem JJ(l:OpenLaw)(args:List WData):l.row.toRowW.claim.post args (.bool true) args=true :=
 postW_of (r:=l.row.toRowW) (X:=(true==true))
  (show WShape.has [] (.bool true) .bool=true by first|rfl|decide|simp [WShape.has,WShape.arms,WShape.armsAll])
  (show (WTm.eq .res (.lit (.bool true))).value [] { args:=args,res:=some (.bool true),after:=args }=some (.bool (true==true)) from w_eq_bool (w_res rfl) w_lit) rfl
theorem attach_call{l:OpenLaw}{n:Nat}(hn:l.most=some n)(S:d.params.defaults=[])(call:∀(w:LW)(s₀ s₁:Lk)(mg W:Str->Option Value)(fa:Addr)(o:Obj)(pm cd O:Value)(a:Addr)(vs:List Value)(ns:List Int),
   Ground q XY [] XP w s₀ mg W s₁.heap->Z w s₁.heap ->
   s₁.heap.get? fa=some o->o.data = .func (docDef d.name d.params d.body d.scope pm cd O)->s₁.heap.CodeRec cd d.name->mg d.name=some (.ref fa) ->
   s₁.heap.get? a=some { cls:=.type "list",data:=.seq vs.toArray }->PK vs ns->ns.length<=n->s₁.gens = #[] ->
   PF (LH l.prog w) callerA (.call (.ref fa) {[.ref a],[]}) (λr s'=>r = .ok (.ret (.bool true))/\OldK s₁.heap s'.heap/\s'.os=s₁.os/\OK s'.gens) s₁):
  WalkO q XY XP Z l.row.toRowW d [] (λf vs=>PySem.call f vs):=by
 intro w s₀ s₁ mg W G Y fa o pm cd O dV kV ho hd X7 hD J hg args ab as z ai av U X4;obtain rfl:dV = .none:=Dflts.none hD S;obtain rfl:kV = .none:=Dflts.noKw hD;obtain ⟨a,vs,ns,rfl,rfl,F,WE,Z0⟩:=C9 hn z U;refine enter_call (OZ (call w s₀ s₁ mg W fa o pm cd O a vs ns G Y ho (fd_plain hd) X7 J F WE Z0 hg) λr s' hq=>?_);obtain ⟨rfl,h2,h3,h4⟩:=hq;exact {.inl {.bool true,.bool true,[],rfl,λ_=>rfl,.bool true,JJ l _,λ_=>{Pairwise.nil,λ_ hm=>(nomatch hm)}},h2,h3,h4}
end Att
namespace L2
open PySem PySem.Spec PyProof.Rows
theorem sP(h:PK vs ns):zm (ns.map V.int) vs:=by
 induction h with
 | nil=>exact .nil
 | cons n t h z=>exact .cons {t,rfl} z
def aG(s:Stmt)(j:Nat):Stmt:=match s with
 | .ClassDef _ _ _ z _ _ _ _ _ _ _=>z.getD j (.Pass {0,0,0,0})
 | _=>.Pass {0,0,0,0}
def gI(s:Stmt):Arguments:=match s with
 | .FunctionDef _ a _ _ _ _ _ _ _ _=>a
 | _=>{ posonlyargs:=[],args:=[],vararg:=none,kwonlyargs:=[],kw_defaults:=[],kwarg:=none,defaults:=[] }
def dE(s:Stmt):List Stmt:=match s with
 | .FunctionDef _ _ b _ _ _ _ _ _ _=>b
 | _=>[]
def zk(s:Stmt):Scope:=match s with
 | .FunctionDef _ _ _ _ _ _ sc _ _ _=>sc
 | _=>{ kind:=.function,names:=[],isGenerator:=false,isCoroutine:=false }
abbrev CX0:CXT:=λ_ _ _ _ _ _=>False
abbrev E0:XK:=λ_ _ _=>False
theorem iu:eM CX0 X E0:=λ_ _ _ _ _ _ _ h=>h.elim
structure Fun(K:Lq)(x qual:Str)(st:Stmt)(f:Addr)(fd:LL):Prop where
 ex:∃(oc:Value)(od:Option Addr)(kV X9 pm:Value)(an:Option Addr)(ZY ct:Value)(osl:Array (Option Value)),
  fd=fnOf x qual (gI st) (dE st) (zk st) .none kV X9 pm an ZY ct/\K.lookup f=some {oc,od,.func fd,osl}/\codeIn K ZY qual=true
 kp:P2 K (.ref f)=true
section
variable {P:Ly}{w:LW}{K:Lq}{mg:Str->Option Value}{base:Heap}
theorem Fun.ok{st:Stmt}{k:Nat}(F:Fun K x qual st f fd)(S:zq N ps (zk st))(len:∀vs H Q E,sp vs H Q E->vs.length=ps.length)(O:∀(z:Value)(A:LV)(outer:List Env)(s:Lk)(H:Hp)(vs:List V)(Q:VK)(E:XK),zB cm k (A.deeper (OF qual (zk st) s.heap.objs.size f z))->sp vs H Q E ->
   ∃t,PSs (cw CX0 cm P w K mg base N qual (zk st) f z A outer s H E).Tt (dE st) t/\t { nx:=λ_ H'=>Q .non H',rt:=Q } (start N vs) H):zp P w K mg base CX0 cm (k+1) f fd ps sp:=by
 obtain ⟨oc,Z,kV,X9,pm,W,z,ct,U,rfl,lk,G⟩:=F.ex;refine mP lk G S len λA outer s H vs Q E hr J=>?_;obtain ⟨t,h,q⟩:=O z A outer s H vs Q E hr J;exact ⟨t,h.Tt,q⟩
theorem Fun.binds{st:Stmt}(F:Fun K x qual st f fd)(h:∀(kV J pm:Value)(z:Option Addr)(G ct:Value)(us:List Value),us.length=ps.length->bindArgs (fnOf x qual (gI st) (dE st) (zk st) .none kV J pm z G ct) {us,[]}=pure (ps.zip us)):br K fd ps []:=by
 obtain ⟨oc,S,kV,J,pm,z,G,ct,O,rfl,lk,U⟩:=F.ex;exact .all (h kV J pm z G ct)
theorem GU{st:Stmt}{kV J pm F ct:Value}(l:K.lookup f=some {oc,O,.func (fnOf x qual (gI st) (dE st) (zk st) .none kV J pm G F ct),z})(c:codeIn K F qual=true)(k:P2 K (.ref f)=true):Fun K x qual st f (fnOf x qual (gI st) (dE st) (zk st) .none kV J pm G F ct):={{oc,O,kV,J,pm,G,F,ct,z,rfl,l,c},k}
end
theorem zY{k:Nat}(hr:zB c k A):A.units+1<cLine:=MY (Nat.add_le_add_left (by decide:1<=64) _) hr.units
theorem i8{n:Nat}(h:n<=1000):n<sizeLine:=MY h 'd'
section
variable {X:Cx}
theorem pv(i:Nat){pos:Pos}(hN:X.N[i]?=some x:=by rfl)(F:Vis X.env.scope x:=by first|exact LK rfl|exact QF (LK rfl)|exact QF (QF rfl))(hd:(x==("__debug__":Str))=false:=by decide)(z:(x==("__classdict__":Str))=false:=by decide):PE X (.Name x pos) (p9 i):=DC hN F hd z
end
theorem iS{A B:Prop}(h:B):if false=true then A else B:=by
 rw [if_neg Lz];exact h
theorem jK{A B:Prop}(h:A):if true=true then A else B:=by
 rw [if_pos rfl];exact h
theorem zS{c A B:Prop} [Decidable c] (h1:c->A) (h2 : ¬ c->B):if c then A else B:=by
 by_cases h:c
 .rw [if_pos h];exact h1 h
 .rw [if_neg h];exact h2 h
def ze(H H':Hp):Prop:=∀b o,H b=some o->H' b=some o
theorem ze.refl(H:Hp):ze H H:=λ_ _ h=>h
theorem ze.trans(a:ze H H1)(b:ze H1 H2):ze H H2:=λc o h=>b c o (a c o h)
theorem ze.free(e:ze H H')(h:H' l=Option.none):H l=Option.none:=by
 cases q:H l with
 | none=>rfl
 | some o =>
  rw [e l o q] at h;cases h
theorem ze.seq{K:Lq}(e:ze H H')(h:SqL K H a xs):SqL K H' a xs:=by
 rcases h with (h|⟨o,h⟩)|h
 .exact .inl (.inl (e _ _ h))
 .exact .inl (.inr {o,e _ _ h})
 .exact .inr h
end L2
set_option maxHeartbeats 4000000
namespace L2
open PySem PySem.Spec PyProof.Rows
def cf(cells:List (Str×Addr)):List (Str×MU)->List (Str×Addr)->List (Str×Addr)
 | [],cs=>cs
 | (n,k)::r,cs=>cf cells r (if k == .free then (match cells.lookup n with|some c=>(n,c)::cs|none=>cs) else cs)
theorem EY(h:∀y∈scope.names,y.2 = .free->∃c,env.cells.lookup y.1=some c):Qm scope env=pure (cf env.cells scope.names []):=by
 simp only [Qm];have all:∀(l:List (Str×MU))(cs:List (Str×Addr)),(∀y∈l,y.2 = .free->∃c,env.cells.lookup y.1=some c) ->
   (forIn l cs λ(x:Str×MU)(r:List (Str×Addr))=>match x with|(name,kind)=>if (kind==MU.free)=true then do let a<-cellOf env name;pure (ForInStep.yield ((name,a)::r)) else pure (ForInStep.yield r):Sem (List (Str×Addr)))=pure (cf env.cells l cs):=by
  intro l
  induction l with
  | nil=>intro cs _;rfl
  | cons y r O =>
   intro cs G;obtain ⟨n,k⟩:=y;rw [Q8];by_cases J:k = .free
   .subst J;obtain ⟨c,hc⟩:=G (n,.free) LN rfl;have S:env.cells.lookup n=some c:=hc;simp only [cellOf,S,cf,beq_self_eq_true,if_true];exact O _ λz F=>G z (LA _ F)
   .have hb:(k==MU.free)=false:=by simpa using J
    simp only [cf,hb,Nm,if_false];exact O _ λz F=>G z (LA _ F)
 have e:=all scope.names [] h;show (do let cs<-forIn scope.names [] _;pure cs)=_
 first
  | (rw [bind_pure];exact e)
  | exact e
  | (simpa using e)
theorem uX:∀{l:List (Str×MU)}{cs:List (Str×Addr)}{x:Str}{c:Addr},(cf cells l cs).lookup x=some c->cs.lookup x=some c\/(cells.lookup x=some c/\(x,MU.free)∈l)
 | [],_,_,_,h=>.inl h
 | (n,k)::r,cs,x,c,h=>by
  unfold cf at h;rcases uX h with h|⟨h1,h2⟩
  .by_cases z:k = .free
   .subst z;simp only [beq_self_eq_true,if_true] at h;cases e:cells.lookup n with
    | none=>rw [e] at h;exact .inl h
    | some c' =>
     rw [e] at h;simp only [OO] at h;by_cases hx:x=n
     .subst hx;simp only [beq_self_eq_true] at h;cases h;exact .inr ⟨e,LN⟩
     .have hb:(x==n)=false:=by simpa using hx
      rw [hb] at h;exact .inl h
   .have hb:(k==MU.free)=false:=by simpa using z
    rw [hb] at h;exact .inl h
  .exact .inr {h1,LA _ h2}
theorem xv:∀{l:List (Str×MU)}{cs:List (Str×Addr)}{x:Str},(cs.lookup x).isSome=true->((cf cells l cs).lookup x).isSome=true
 | [],_,_,h=>h
 | (n,k)::r,cs,x,h=>by
  unfold cf;refine xv ?_;split
  .split
   .simp only [OO];split
    .rfl
    .exact h
   .exact h
  .exact h
theorem vq:∀{l:List (Str×MU)}{cs:List (Str×Addr)}{x:Str}{c:Addr},(x,MU.free)∈l->cells.lookup x=some c->((cf cells l cs).lookup x).isSome=true
 | (n,k)::r,cs,x,c,hm,hc=>by
  unfold cf;rcases Lu.mp hm with e|hm
  .cases e;refine xv ?_;simp only [beq_self_eq_true,if_true,hc,OO];rfl
  .exact vq hm hc
theorem jB:∀(names:List (Str×MU))(n:Nat)(ZD:List (Str×Addr)),NN n names ZD=NN n names []++ZD
 | [],_,_=>rfl
 | (x,k)::r,n,ZD=>by
  unfold NN;split
  .rw [jB r (n+1) ((x,n)::ZD),jB r (n+1) [(x,n)],Ma];rfl
  .exact jB r n ZD
theorem pM:∀{names:List (Str×MU)}{n:Nat}{ZD:List (Str×Addr)},(x,c)∈NN n names ZD->(x,c)∈ZD\/(x,MU.cell)∈names
 | [],_,_,h=>.inl h
 | (y,k)::r,n,ZD,h=>by
  unfold NN at h;split at h
  .next hk =>
   rcases pM h with h|h
   .rcases Lu.mp h with e|h
    .cases e;rw [eq_of_beq hk];exact .inr LN
    .exact .inl h
   .exact .inr (LA _ h)
  .rcases pM h with h|h
   .exact .inl h
   .exact .inr (LA _ h)
theorem kU:∀{names:List (Str×MU)}{n:Nat}{ZD:List (Str×Addr)},(ZD.lookup x).isSome=true->((NN n names ZD).lookup x).isSome=true
 | [],_,_,h=>h
 | (y,k)::r,n,ZD,h=>by
  unfold NN;split
  .refine kU ?_;rw [OO];cases x==y with
   | true=>rfl
   | false=>exact h
  .exact kU h
theorem mK:∀{names:List (Str×MU)}{n:Nat}{ZD:List (Str×Addr)},(x,MU.cell)∈names->((NN n names ZD).lookup x).isSome=true
 | (y,k)::r,n,ZD,h=>by
  unfold NN;rcases Lu.mp h with e|h
  .cases e;rw [if_pos 'd'];exact kU (by rw [OO,beq_self_eq_true];rfl)
  .split
   .exact mK h
   .exact mK h
def e8(cells:List (Str×Addr))(sc:Scope)(C:Addr):List (Str×Addr):=NN (C+1) sc.names (cf cells sc.names [])
structure kr(cells:List (Str×Addr))(sc:Scope)(C:Addr)(h:Heap):Prop where
 TR:∀x c,(e8 cells sc C).lookup x=some c->(C<c/\h.IsCell c none/\(x,MU.cell)∈sc.names)\/(cells.lookup x=some c/\(x,MU.free)∈sc.names)
 inj:∀x y c,(e8 cells sc C).lookup x=some c->(e8 cells sc C).lookup y=some c->C<c->x=y\/(cells.lookup x=some c\/cells.lookup y=some c)
theorem wM:∀{a b:List (Str×Addr)},(a++b).lookup x=(a.lookup x).or (b.lookup x)
 | [],b=>rfl
 | (y,c)::r,b=>by
  rw [Qx,OO,OO];cases x==y with
  | true=>rfl
  | false=>exact wM
theorem kr.mk'(z:h.objs.size=C+1):kr cells sc C (P8 h sc.names):=by
 have ok:=cellsFrom_ok sc.names h (C+1) [] {λ_ _ hm=>(nomatch hm),Pairwise.nil} (Qi z.symm);rw [z] at ok;have sp:∀x c,(e8 cells sc C).lookup x=some c->(x,c)∈NN (C+1) sc.names []\/(cells.lookup x=some c/\(x,MU.free)∈sc.names):=λx c h=>by
  unfold e8 at h;rw [jB,wM] at h;cases e:(NN (C+1) sc.names []).lookup x with
  | some d=>rw [e] at h;cases h;exact .inl (M8 e)
  | none =>
   rw [e] at h;rcases uX (show (cf cells sc.names []).lookup x=some c from h) with h|h
   .cases h
   .exact .inr h
 refine {λx c h=>?_,λx y c h1 h2 _=>?_}
 .rcases sp x c h with h|h
  .refine .inl {(ok.empty x c h).2,(ok.empty x c h).1,?_};rcases pM h with h|h
   .cases h
   .exact h
  .exact .inr h
 .rcases sp x c h1 with a|a
  .rcases sp y c h2 with b|b
   .exact .inl (PySem.name_of_addr ok.apart a b)
   .exact .inr (.inr b.1)
  .exact .inr (.inl a.1)
theorem AE{code:Value}(O:Q (newEnv scope s.heap.objs.size G (NN (s.heap.objs.size+1) scope.names J) qual z code (some outer) Pc) { s with heap:=P8 (s.heap.push { cls:=.type "dict",data:=.dict #[] }) scope.names }):
  LM M A (newFunctionEnv scope G J [] qual z code (some outer)) Q E s:=by
 simp only [newFunctionEnv,isSome_some,if_true];refine we (wpAny_alloc ?_);refine we (wpAny_layCells _ (λname kind cells=>by cases F:kind==MU.cell<;>simp [F]) _ _ _ _ ?_);rw [show ({ s with heap:=s.heap.push { cls:=.type "dict",data:=.dict #[] } }:Lk).heap.objs.size=s.heap.objs.size+1 from M0 ..];exact we (Ls (Ls O))
def aY(sc:Scope)(names:List (Str×MU))(N N':List Str)(ix:List (Option Nat)):Bool :=
 sc.kind == .function&&sc.names.all (λy=>(y.2 != .cell||sc.names.lookup y.1==some .cell)&&(y.2 != .local||sc.names.lookup y.1==some .local)&&(y.2 != .free||(names.lookup y.1==some .cell&&sc.names.lookup y.1==some .free)) ) &&
 ix.length==N'.length&&(Oi ix.length).all (λi=>match ix.getD i none with
  | none=>true
  | some j=>(match N'[i]?,N[j]? with|some x,some y=>x==y&&sc.names.lookup x==some .free|_,_=>false))
def cb(ix:List (Option Nat))(σ:St):St:=ix.map λo=>o.bind λj=>(σ[j]?).join
structure ah(X:Cx)(sc:Scope)(N':List Str)(ix:List (Option Nat)):Prop where
 kind:sc.kind = .function
 cell:∀y∈sc.names,y.2 = .cell->sc.names.lookup y.1=some .cell
 names:∀y∈sc.names,y.2 = .local->sc.names.lookup y.1=some .local
 free:∀y∈sc.names,y.2 = .free->X.env.kindOf y.1=some .cell/\sc.names.lookup y.1=some .free
 len:ix.length=N'.length
 at_:∀(i j:Nat),ix[i]?=some (some j)->∃x,N'[i]?=some x/\X.N[j]?=some x/\sc.names.lookup x=some .free
theorem ah.of(h:aY sc X.env.scope.names X.N N' ix=true):ah X sc N' ix:=by
 unfold aY at h;simp only [Mw,Mx] at h;obtain ⟨⟨⟨h1,h2⟩,h3⟩,h4⟩:=h;refine {by simpa using h1,λy F z=>?_,λy F z=>?_,λy F z=>?_,by simpa using h3,λi j e=>?_}
 .have q:=(h2 y F).1.1;rw [z] at q;simpa using q
 .have q:=(h2 y F).1.2;rw [z] at q;simpa using q
 .have q:=(h2 y F).2;rw [z] at q;simp only [bne_self_eq_false,Bool.false_or,Mw,beq_iff_eq] at q;exact q
 .have hi:i<ix.length:=(Lp.mp e).1;have:=h4 i (P9.mpr hi);have J:ix.getD i none=some j:=by rw [Lr,e];rfl
  rw [J] at this;dsimp only at this;cases e1:N'[i]? with
  | none=>rw [e1] at this;simp at this
  | some x =>
   cases G:X.N[j]? with
   | none=>rw [e1,G] at this;simp at this
   | some y =>
    rw [e1,G] at this;simp only [Mw,beq_iff_eq] at this;exact {x,rfl,by rw [this.1],this.2}
def zK(X:Cx)(sc:Scope)(N':List Str)(Go:List (Addr×Obj))(C:Addr)(fp:List Addr)(s:Lk)(H:Hp):Cx :=
 { X with N:=N',s₀:=s,H₀:=H,env:=compEnvC sc (e8 X.env.cells sc C) C X.env,outer:=X.stack,stack:=X.stack,ex:=fp,fn:=λx=>sc.names.lookup x==some .cell,pn:=X.pn++Go,xe:=λ_ _=>False }
theorem HOk.add{o:HO}(x:HOk P w H h)(z:H D=none)(new:aa P w (upd H D o) h D o):HOk P w (upd H D o) h:=λb u e=>by
 by_cases hb:b=D
 .subst hb;rw [zx] at e;cases e;exact new
 .rw [zd hb] at e;exact (x b u e).stay (λ_ _ _ q=>q) (λc q=>by rw [zd (zr q z)];exact q) λc xs q=>by rw [zd (zr q z)];exact q
theorem HOk.but(x:HOk P w H h)(F:H C=none)(k:∀b u,b≠C->h.get? b=some u->h'.get? b=some u):HOk P w H h':=λb u e =>
 (x b u e).stay (λc v hc q=>k c v (by
  rcases hc with z|z
  .rw [z];exact zr e F
  .exact zr z F) q) (λ_ q=>q) λ_ _ q=>q
theorem GQ(F:env.scope.kind = .function)(hf:∀y∈sc.names,y.2 = .free->env.kindOf y.1=some .cell):
  ∀x,(relabel sc env).names.lookup x=(sc.names.lookup x).map λk=>if k == .free then .cell else k:=by
 intro x;have em:(relabel sc env).names=sc.names.map λy=>(y.1,if y.2 == .free then MU.cell else y.2):=by
  show sc.names.map _=_;refine NZ λy J=>?_;obtain ⟨n,k⟩:=y;by_cases z:k = .free
  .subst z;have e:env.kindOf n=some .cell:=hf (n,.free) J rfl;simp [F,e]
  .have hb:(k==MU.free)=false:=by simpa using z
   simp [hb]
 rw [em];generalize sc.names=l
 induction l with
 | nil=>rfl
 | cons y r G =>
  obtain ⟨n,k⟩:=y;simp only [MD,OO];cases x==n with
  | true=>rfl
  | false=>exact G
section
variable {X:Cx}{sc:Scope}{N':List Str}{ix:List (Option Nat)}
theorem Gp{i:Nat}(h:(cb ix σ)[i]?=some (some v)):∃j,ix[i]?=some (some j)/\σ[j]?=some (some v):=by
 unfold cb at h;rw [LP] at h;cases e:ix[i]? with
 | none=>rw [e] at h;cases h
 | some o =>
  rw [e] at h;have h':(o.bind λj=>(σ[j]?).join)=some v:=Mm.inj h;cases o with
  | none=>cases h'
  | some j =>
   have F:(σ[j]?).join=some v:=h';cases G:σ[j]? with
   | none=>rw [G] at F;cases F
   | some z =>
    rw [G] at F;have:z=some v:=F;exact {j,rfl,by rw [G,this]}
theorem BG{tk:Nat}(I:Inv X Go σ H s)(L:ah X sc N' ix)(f:∀b∈fp,dB X Go H b)(fl:∀b∈fp,b<s.heap.objs.size)(J:s.heap.objs.size<=C)(Z:h₁.Ns C m)(S:∀b o,s.heap.get? b=some o->h₁.get? b=some o)(own:kr X.env.cells sc C h₁):
  Inv (zK X sc N' Go C fp s H) [] (cb ix σ) H { s with heap:=h₁,toks:=tk }:=by
 have lt:∀{x c},X.env.cells.lookup x=some c->¬ C<c:=λ{x c} h=>by
  obtain ⟨_,q⟩:=I.cell x c h;have:=q.lt;lia
 have rl:=GQ (sc:=sc) (env:=X.env) I.ok.kind λy hy F=>(L.free y hy F).1;have G:∀x,sc.names.lookup x=some .free->∃c,(e8 X.env.cells sc C).lookup x=some c/\X.env.cells.lookup x=some c:=λx hx=>by
  have hm:(x,MU.free)∈sc.names:=M8 hx;obtain ⟨c,hc⟩:=I.ok.has x (.inl (L.free _ hm rfl).1);obtain ⟨c',W⟩:=Qw.mp (kU (names:=sc.names) (n:=C+1) (vq (cs:=[]) hm hc));rcases own.TR x c' W with a|a
  .have:=L.cell _ a.2.2 rfl;rw [hx] at this;cases this
  .exact ⟨c',W,a.1⟩
 refine {{I.ok.mod,L.kind,I.ok.glob,I.ok.blt,J,λx y c h1 h2=>?_,λx hx=>?_,λx c h h'=>?_,I.ok.hd,I.ok.frames,.inl rfl,λb hb=>{MA (LZ (fl b hb) J),λx c h=>?_},
   I.bs,L8 I.ok.TM I.sz,λb o e hb=>?_,λb hb z=>?_,I.stack,I.Ss},rfl,I.bare,Un.kept S,{m,Z,λi x v e1 e2 e3=>?_},λx c h=>?_,I.hok.fresh J,λx c h=>?_,λp hp=>?_,I.hok.kept S,?_,I.Tj}
 .rcases own.TR x c h1 with a|a<;>rcases own.TR y c h2 with b|b
  .rcases own.inj x y c h1 h2 a.1 with e|e|e
   .exact e
   .exact absurd a.1 (lt e)
   .exact absurd a.1 (lt e)
  .exact absurd a.1 (lt b.1)
  .exact absurd b.1 (lt a.1)
  .exact I.ok.inj x y c a.1 b.1
 .have U:(relabel sc X.env).names.lookup x=some .cell\/(relabel sc X.env).names.lookup x=some .free:=hx;rw [rl x] at U;cases e:sc.names.lookup x with
  | none=>rw [e] at U;simp at U
  | some k =>
   have F:k = .free\/k = .cell:=by
    cases k with
    | free=>exact .inl rfl
    | cell=>exact .inr rfl
    | _=>rw [e] at U;revert U;decide
   rcases F with F|F
   .subst F;obtain ⟨c,h1,_⟩:=G x e;exact ⟨c,h1⟩
   .subst F;exact Qw.mp (mK (M8 e))
 .rcases own.TR x c h' with a|a
  .exact L8 J (Nq a.1)
  .have:=(L.free _ a.2 rfl).2;have h:(sc.names.lookup x==some .cell)=true:=h;rw [this] at h;exact absurd h 'd'
 .rcases own.TR x c h with a|a
  .have:=fl b hb;have:=a.1;exact λz=>by subst z;lia
  .exact (f b hb).2.2.2.2.1 x c a.1
 .rcases (f b hb).2.2.2.1 with z|z
  .exact I.ok.Tg b o e z
  .exact absurd (LZ (LX (I.ok.bs b o e).1) z) (MB _)
 .rcases Lu.mp (I.RM b z) with e|e
  .exact (f b hb).2.1 e
  .exact (f b hb).2.2.1 e
 .obtain ⟨j,hj,hv⟩:=Gp e2;obtain ⟨y,n1,n2,n3⟩:=L.at_ i j hj;have ai:x=y:=Mm.inj ((show N'[i]?=some x from e1).symm.trans n1);subst ai;obtain ⟨c,c1,c2⟩:=G x n3;have kf:=(L.free _ (M8 n3) rfl).1;obtain ⟨m0,av,hl⟩:=I.loc;obtain ⟨u,r,l⟩:=hl j x v n2 hv (.inr (.inl kf));refine {u,r,.inr {.inl ?_,c,c1,?_}}
  .show (relabel sc X.env).names.lookup x=some .cell;rw [rl x,n3];rfl
  .rcases l with ⟨F,_⟩|⟨_,c',W,z⟩
   .have O:X.env.kindOf x=some .cell:=kf;rw [F] at O;cases O
   .rw [c2] at W;cases W;obtain ⟨oc,ho,hd⟩:=z;exact {oc,S _ _ ho,hd}
 .rcases own.TR x c h with a|a
  .exact {_,a.2.1}
  .obtain ⟨v,oc,ho,hd⟩:=I.cell x c a.1;exact {v,oc,S _ _ ho,hd}
 .rcases own.TR x c h with a|a
  .exact I.hok.fresh (L8 J (Nq a.1))
  .exact I.L0 x c a.1
 .have ab:p∈X.pn++Go:=by
   have:p∈(X.pn++Go)++[]:=hp;simpa using this
  obtain ⟨a,b,c,d,e⟩:=I.pin p ab;exact {S _ _ a,b,MA (LZ (LX a) J),λz=>(Lu.mp (I.RM p.1 z)).elim c d,e}
 .show (cb ix σ).length=N'.length;unfold cb;rw [Ln,L.len]
end
def PTs(X:Cx)(z:List Mc)(t:TT):Prop :=
 ∀(Go:List (Addr×Obj))(s:Lk)(σ:St)(H:Hp)(Q:Bool->Hp->Prop),Inv X Go σ H s->t σ H Q ->
  LM (LH X.prog X.w) X.A (forIn z true λc r=>if r=true then do let ok<-isTrue c X.env (MQ c X.env);pure (ForInStep.yield ok) else pure (ForInStep.yield r)) (TP X Go σ Q) X.xe s
def nS:TT:=λ_ H Q=>Q true H
theorem cB:W (PTs X [] nS):={λ_ _ _ H _ I h=>wpAny_tests_nil ⟨H,I,h⟩}
theorem hV{t:TT}(h:W (PT X c t)):W (PTs X [c] t):=by refine {?_};have h:=h.h;exact λGo s σ H Q I q=>wpAny_tests_one (h Go s σ H Q I q)
theorem Jp{e tg iter : Mc}{Zi : List Mc}(hct : (∀ B : LV, B.under (.compLoop e 0 it ZD env) = B) ∧ (LH prog w).den (.compLoop e 0 it ZD env) = Sem.onRaise (do
      OW iter.pos
      match ← Pj it with
      | none => pure (.done .next)
      | some v =>
        OB tg it v
        assign tg env v
        let mut ok := true
        for c in Zi do
          if ok then ok ← isTrue c env (MQ c env)
        if ok then
          em
        again (.compLoop e 0 it ZD env)) (fun x => do QK x env; theTreesLotGoes x))(I:Nat->Lk->Prop)(Yp:∀n s,I n s->LM (LH prog w) A (Pj it) (λr s₁=>match r with
   | none=>R (.ok .next) s₁
   | some v=>LM (LH prog w) A (OB tg it v) (λ_ F=>LM (LH prog w) A (assign tg env v) (λ_ O =>
     LM (LH prog w) A (forIn Zi true λc r=>if r=true then do let ok<-isTrue c env (MQ c env);pure (ForInStep.yield ok) else pure (ForInStep.yield r)) (λok s₃ =>
      if ok=true then LM (LH prog w) A em (λ_ J=>∃m,m<n/\I m J) (λ_ _=>False) s₃
      else ∃m,m<n/\I m s₃) (λ_ _=>False) O) (λ_ _=>False) F) (λ_ _=>False) s₁) (λ_ _=>False) s)(n:Nat)(h:I n s):PF (LH prog w) A (.compLoop e 0 it ZD env) R s:=by
 refine codeAny_loop rfl I (λn s Z=>?_) n h;rw [hct.1,hct.2];refine wpAny_noted (MK (E:=λ_ _=>False) ?_ (λ_ _ q=>q) λ_ _ z=>z.elim);refine we (Oe (we (MK (Yp n s Z) (λr s₁ h₁=>?_) λ_ _ h'=>h')));cases r with
 | none=>exact Ls h₁
 | some v =>
  refine we (MK h₁ (λ_ F S=>?_) λ_ _ h'=>h');refine we (MK S (λ_ O U=>we (MK U (λok s₃ G=>?_) λ_ _ h'=>h')) λ_ _ h'=>h');cases ok with
  | false=>exact Ls {rfl,G}
  | true=>exact we (MK G (λ_ J W=>Ls {rfl,W}) λ_ _ h'=>h')
def tLC(ix:List (Option Nat))(wi:TI)(g:TG)(tt:TT)(te:TE):TE:=λσ H Q=>wi σ H λJ H1=>∃W:Nat->Nat->St->List V->Hp->Prop,(∃m,W 0 m (cb ix σ) [] H1)/\∀i m τ ys H2,W i m τ ys H2->ys.length<sizeLine /\
 ((J.stop i H2 ∧ ∀ D, H2 D = none → D ≠ sysModules → Q (.ref D) (upd H2 D (.lst ys))) ∨
  (J.go i H2 ∧ ∀ x H3, J.Tr i H2 x H3 → g x τ H3 fun z H4 => tt z H4 fun ok H5 => if ok = true then te z H5 fun y H6 => ∃ F, F < m ∧ W (i + 1) F z (ys ++ [y]) H6 else ∃ F, F < m ∧ W (i + 1) F z ys H5))
theorem yy{α:Type}{pos:Pos}{Q:VK}{em:Addr->Env->Sem Unit}(len:α->Nat)(ho:α->HO)(a0:α)(At:α->Obj->Prop)(tm:(α->Hp->Prop)->α->St->Hp->Prop)(c2:clausesOf e=[{tg,iter,Zi,0}])(hsz:sizeOk dt)(cp:∀it D env,(∀B:LV,B.under (.compLoop e 0 it (.ref D) env)=B)/\(LH X.prog X.w).den (.compLoop e 0 it (.ref D) env)=Sem.onRaise (do
   OW iter.pos
   match<-Pj it with
   | none=>pure (.done .next)
   | some v =>
    OB tg it v
    assign tg env v
    let mut ok:=true
    for c in Zi do
     if ok then ok<-isTrue c env (MQ c env)
    if ok then
     em D env
    again (.compLoop e 0 it (.ref D) env)) (λx=>do QK x env;theTreesLotGoes x))(hst:∀{A:LV}{R:Result->Lk->Prop}{s:Lk}{it ZD:Value}{env:Env},PF (LH X.prog X.w) A (.compLoop e 0 it ZD env) R s->LM (LH X.prog X.w) A (pyIter it) (λcP s'=>PF (LH X.prog X.w) A (.compLoop e 0 cP ZD env) R s') (notedBy (LH X.prog X.w) A env λx s'=>R (.error x) s') s->PF (LH X.prog X.w) A (.compStart e 0 it ZD env) R s)(h0:At a0 { cls:=.type T,dict:=none,data:=dt })(YJ:({ cls:=.type T,dict:=none,data:=dt }:Obj).isFreed=false)(a8:∀{ys o},At ys o->∀v,o.data≠.cell v)(b7:∀{ys o H' h D},At ys o->len ys<sizeLine->D≠sysModules->h.get? D=some o->aa X.prog X.w H' h D (ho ys))(cD:∀Go C fp s H pins' s8 τ H8 ys ob D (K:α->Hp->Prop),Inv (zK X sc N' Go C fp s H) pins' τ H8 s8->tm K ys τ H8->At ys ob->len ys<sizeLine->(D,ob)∈pins' ->
   LM (LH X.prog X.w) X.A (em D (zK X sc N' Go C fp s H).env) (λ_ s'=>∃s9 b5 H9 aL h' tk,s'={ s9 with heap:=h',toks:=tk }/\K b5 H9/\Inv (zK X sc N' Go C fp s H) pins' τ H9 s9/\At b5 aL/\h'.get? D=some aL/\OA D s9.heap h') (λ_ _=>False) s8)(hc:c=true->X.calm=true)(L:ah X sc N' ix)(hi:PIc c X tg iter wi)(hg:∀Go C fp s H,PG (zK X sc N' Go C fp s H) tg g)(ht:∀Go C fp s H,PTs (zK X sc N' Go C fp s H) Zi tt)(hs:∀x,NC iter X.env x=pure x)(I:Inv X Go σ H s)(h:wi σ H λJ H1=>∃W:Nat->Nat->St->α->Hp->Prop,(∃m,W 0 m (cb ix σ) a0 H1)/\∀i m τ ys H2,W i m τ ys H2->len ys<sizeLine /\
   ((J.stop i H2 ∧ ∀ D, H2 D = none → D ≠ sysModules → Q (.ref D) (upd H2 D (ho ys))) ∨
    (J.go i H2 ∧ ∀ x H3, J.Tr i H2 x H3 → g x τ H3 fun aT H4 => tt aT H4 fun ok H5 => if ok = true then tm (fun zs H6 => ∃ m', m' < m ∧ W (i + 1) m' aT zs H6) ys aT H5 else ∃ m', m' < m ∧ W (i + 1) m' aT ys H5)))(kk:∀(C D:Addr)(oC:Obj)(H':Hp)(s5:Lk)(m5:Str->Option Value),Inv X (Go++[(C,oC)]) σ H' s5->(∀{F:Heap},F.get? C=some oC->F.Ns C m5)->(∀{b6:St}{a7:Hp}{s':Lk}{h':Heap},Inv X Go b6 a7 s'->a7 C=none->OA C s'.heap h'->Inv X Go b6 a7 { s' with heap:=h' })->Q (.ref D) H'->compPost (LH X.prog X.w) X.A X.xe use R (.ref D) C (.ok .next) s5):
  LM (LH X.prog X.w) X.A (comprehension e sc X.env (firstIterPos [{tg,iter,Zi,0}] pos) (newObj (.type T) dt none) (firstAsync [{tg,iter,Zi,0}]) (firstIter [{tg,iter,Zi,0}] X.env) use) R X.xe s:=by
 have bc:Qm sc X.env=pure (cf X.env.cells sc.names []):=EY λy hy hk=>I.ok.has y.1 (.inl (L.free y hy hk).1);refine wpAny_comprehension_free (use:=use) c2 hs bc L.kind L.names (thn (hi Go s σ H _ I h) λv s1 h1=>thn h1 λdc s2 h2=>?_);obtain ⟨it,fp,tn,J,H2,e,S,T',Zq,f2,W,⟨m0,w0⟩,Yp⟩:=h2;subst e;refine Nh (AE ?_) hsz;dsimp only;generalize a9:s2.heap.push { cls:=.type T,dict:=none,data:=dt }=G2;have hC:G2.objs.size=s2.heap.objs.size+1:=by rw [<- a9,M0]
 have bq:s2.heap.objs.size≠G2.objs.size:=by rw [hC];exact MA (QR _)
 have Xp:s2.heap.objs.size<=G2.objs.size:=by rw [hC];exact Q5 _
 have below:∀b,b<s2.heap.objs.size->b≠G2.objs.size/\b≠s2.heap.objs.size:=λb hb=>{by rw [hC];exact MA (NW hb),MA hb};have YB:∀b o,s2.heap.get? b=some o->(P8 (G2.push { cls:=.type "dict",data:=.dict #[] }) sc.names).get? b=some o:=λb o e=>pushCells_keeps _ _ _ _ (Lm _ (a9 ▸ Lm _ e));have O:(P8 (G2.push { cls:=.type "dict",data:=.dict #[] }) sc.names).Ns G2.objs.size λ_=>none:=(Heap.Ns.new G2 (.type "dict")).keeps (pushCells_keeps _ _);have own:kr X.env.cells sc G2.objs.size (P8 (G2.push { cls:=.type "dict",data:=.dict #[] }) sc.names):=.mk' (M0 ..);have XD:(P8 (G2.push { cls:=.type "dict",data:=.dict #[] }) sc.names).get? s2.heap.objs.size=some { cls:=.type T,dict:=none,data:=dt }:=pushCells_keeps _ _ _ _ (Lm _ (a9 ▸ LO _ YJ));generalize P8 (G2.push { cls:=.type "dict",data:=.dict #[] }) sc.names=h₁ at YB O own XD ⊢;have fl:∀b∈fp,b<s2.heap.objs.size:=λb hb=>by
  obtain ⟨o,e,_⟩:=T'.obj 0 _ Zq b hb;exact LX e
 have ai:s2.heap.objs.size∉fp:=λz=>MB _ (fl _ z);generalize Z:s2.heap.objs.size=D at *
 generalize dk:G2.objs.size=C at *
 have st1:tn 0 h₁:=T'.keep _ _ _ Zq λb _ o e=>YB b o e;have I3:Inv (zK X sc N' Go C fp s2 H2) [] (cb ix σ) H2 { s2 with heap:=h₁ }:=BG (tk:=s2.toks) S L f2 (λb hb=>by rw [Z];exact fl b hb) (by rw [Z];exact Xp) O YB own;have D0:H2 D=none:=S.hok.fresh (Qi Z);have fD:∀{H':Hp},H' D=none->dB (zK X sc N' Go C fp s2 H2) [] H' D:=λ{H'} hn=>by
  refine {hn,bq,λz=>?_,.inr (Qi Z),λx c hx z=>?_,λp F z=>?_}
  .obtain ⟨_,o,ho,_⟩:=S.stack.mem (show D∈frs X.stack from z);exact absurd (LX ho) (by rw [Z];exact MB _)
  .rcases own.TR x c hx with a|a
   .have:=a.1;rw [z] at this;exact absurd this (Pd.mpr Xp)
   .obtain ⟨v,q⟩:=S.cell x c a.1;have:=q.lt;rw [z,Z] at this;exact MB _ this
  .have ct:p∈X.pn++Go:=by
    have:p∈(X.pn++Go)++[]:=F;simpa using this
   have:=LX (S.pin p ct).1;rw [z,Z] at this;exact MB _ this
 have fF:∀{H':Hp},(∀b∈fp,H' b=none)->∀b∈fp,dB (zK X sc N' Go C fp s2 H2) [] H' b:=λ{H'} hn b hb=>by
  obtain ⟨_,g1,g2,g3,g4,g5⟩:=f2 b hb;refine {hn b hb,(below b (fl b hb)).1,λz=>?_,.inl hb,λx c hx=>?_,λp F=>g5 p ?_}
  .rcases Lu.mp (S.RM b z) with e|e
   .exact g1 e
   .exact g2 e
  .rcases own.TR x c hx with a|a
   .have:=a.1;have:=fl b hb;exact λz=>by subst z;lia
   .exact g4 x c a.1
  .have:p∈(X.pn++Go)++[]:=F;simpa using this
 have a5:∀s₃:Lk,s₃={ s2 with heap:=h₁ } ->
   PF (LH X.prog X.w) X.A (.compLoop e 0 (.ref it) (.ref D) (compEnvC sc (e8 X.env.cells sc C) C X.env))
    (compPost (LH X.prog X.w) X.A X.xe use R (.ref D) C) s₃:=by
  rintro s₃ rfl;refine Jp (cp _ _ _) (λn s'=>∃i τ ys H',Inv (zK X sc N' Go C fp s2 H2) [] τ H' s'/\tn i s'.heap/\(∀b∈fp,H' b=none)/\H' D=none/\(∃ob,At ys ob/\s'.heap.get? D=some ob)/\W i n τ ys H')
   ?_ m0 {0,_,a0,H2,I3,st1,λb hb=>(f2 b hb).1,D0,{_,h0,XD},w0}
  rintro n s4 ⟨i,τ,ys,H4,I4,Zy,bp,G,⟨ob,av,dg⟩,w4⟩;obtain ⟨Z0,step⟩:=Yp i n τ ys H4 w4;rcases step with ⟨stop,fin⟩|⟨go,step⟩
  .refine thn (T'.done (zK X sc N' Go C fp s2 H2) rfl rfl rfl hc i [(D,ob)] s4 τ H4 (λ_ _=>False) (I4.Hb λp F=>?_) (λb hb=>?_) Zy stop) λr s5=>x2e λhr I5=>?_
   .have e:p=(D,ob):=by simpa using F
    subst e;obtain ⟨g0,g1,g2,_⟩:=fD G;exact {dg,g0,g1,g2,a8 av}
   .obtain ⟨g0,g1,g2,g3,g4,g5⟩:=fF bp b hb;refine {g0,g1,g2,g3,g4,λp F=>?_};rcases L6.mp F with z|z
    .exact g5 p (MG _ z)
    .have e:p=(D,ob):=by simpa using z
     subst e;exact λq=>ai (by have q':D=b:=q;rw [q'];exact hb)
   .subst hr;have cv:=(I5.pin (D,_) (LU _ (Lw.mpr rfl))).1;obtain ⟨m5,c5,_⟩:=id I5.loc;have ZO:∀b o,s2.heap.get? b=some o->b≠C/\b≠D:=λb o e=>by
     have:=LX e;rw [Z] at this;exact below b this
    have bL:D≠sysModules:=by have h:LG<s2.heap.objs.size:=(S.mod.glob.keeps S.bk).lt;rw [Z] at h;exact Ob (Nat.lt_trans 'd' h)
    have U:=I5.base;have IX:Inv X Go σ (upd H4 D (ho ys)) s5:=by
     refine S.TL (s':=s5) (ch:=fp) I5.os {λb o e n hb hx=>U.keep b o e n hb hx,λb o e n hb hx=>U.slot b o e n hb hx,λb o e n hx=>?_,λb o e hx=>U.there b o e hx,λb xs e=>?_,λb o u e=>?_,λb ps e=>?_} ?_ I5.bare (λb hb=>?_)
     .rw [zd (ZO b o e).2];exact U.free b o e n hx
     .have q:=U.tups b xs e;rw [zd (zr q G)];exact q
     .have q:=U.frzs b o u e;rw [zd (zr q G)];exact q
     .obtain ⟨more,q⟩:=U.tbls b ps e;exact {more,by rw [zd (zr q G)];exact q}
     .exact I5.hok.add G (b7 av Z0 bL cv)
     .obtain ⟨_,g1,g2,g3,g4,g5⟩:=f2 b hb;exact ⟨g3,g1,g4,g5⟩
    obtain ⟨oC,ck,c9,gC,rC⟩:=id c5;have ba:∀v,oC.data≠.cell v:=λv z=>by rw [rC.1] at z;cases z
    have bt:C≠D:=L9 bq;have HC:upd H4 D (ho ys) C=none:=by rw [zd bt];exact I5.free
    have a4:C≠X.env.locals:=λz=>by
     have:=S.lt;rw [<- z,Z] at this;exact absurd (LZ this Xp) (MB _)
    have cC:C∉X.fs:=S.Ut (by rw [Z];exact Xp);have c6:=IX.Hb (pins':=Go++[(C,oC)]) λp F=>by
     rcases L6.mp F with z|z
     .exact IX.pin p (LU _ z)
     .rw [Lw.mp z];exact ⟨gC,HC,a4,cC,ba⟩
    refine kk C D oC _ s5 m5 c6 (λe=>⟨oC,ck,c9,e,rC⟩) (λ{dd H6 s6 h'} I7 c0 cn=>I7.turned (t':=s6.toks) (it:=C) (λb o hb e=>(cn.2 b hb).trans e) c0 a4 (.inr (L8 S.sz (by rw [Z];exact Xp))) (λx c hx z=>?_) (λp F z=>?_)) (fin D G bL)
    .obtain ⟨v,q⟩:=S.cell x c hx;have:=q.lt;rw [z,Z] at this;exact absurd (LZ this Xp) (MB _)
    .have:=LX (S.pin p F).1;rw [z,Z] at this;exact absurd (LZ this Xp) (MB _)
  .refine thn (T'.item (zK X sc N' Go C fp s2 H2) rfl rfl rfl hc i [(D,ob)] s4 τ H4 (λ_ _=>False) (I4.Hb λp F=>?_) (λb hb=>?_) Zy go) λr s5=>x3e λu hr h5=>?_
   .have e:p=(D,ob):=by simpa using F
    subst e;obtain ⟨g0,g1,g2,_⟩:=fD G;exact {dg,g0,g1,g2,a8 av}
   .obtain ⟨g0,g1,g2,g3,g4,g5⟩:=fF bp b hb;refine {g0,g1,g2,g3,g4,λp F=>?_};rcases L6.mp F with z|z
    .exact g5 p (MG _ z)
    .have e:p=(D,ob):=by simpa using z
     subst e;exact λq=>ai (by have q':D=b:=q;rw [q'];exact hb)
   .subst hr;refine thn h5 λ_ s6=>x5e λx H6 I6 r6 Yo=>?_;obtain ⟨y6,a6,b9⟩:=Yo;obtain ⟨a3,c4,_⟩:=I6.pin (D,_) (LU _ (Lw.mpr rfl));have b8:H6 D=none:=c4;have bP:∀b∈D::fp,dB (zK X sc N' Go C fp s2 H2) [] H6 b:=λb hb=>by
     rcases Lu.mp hb with z|z
     .subst z;exact fD b8
     .exact fF b9 b z
    have b0:∀b∈D::fp,∃o,s6.heap.get? b=some o/\∀v,o.data≠.cell v:=λb hb=>by
     rcases Lu.mp hb with z|z
     .subst z;exact {_,a3,a8 av}
     .exact T'.obj _ _ a6 b z
    have c3:=(I6.L4 (Go:=[])).pinned bP b0;refine thn (hg Go C fp s2 H2 _ s6 τ H6 x u _ c3 r6 (step x H6 y6)) λ_ s7=>x4e λab H7 I7 q7=>?_;refine thn (ht Go C fp s2 H2 _ s7 ab H7 _ I7 q7) λok s8=>x3e λH8 I8 q8=>?_;have back:∀{s9:Lk}{H9:Hp},Inv (zK X sc N' Go C fp s2 H2) ([]++ie (D::fp) s6.heap) ab H9 s9->s9.heap.get? D=some ob/\H9 D=none/\tn (i+1) s9.heap/\∀b∈fp,H9 b=none:=λ{s9 H9} I9=>by
     have pin:∀b o,b∈D::fp->s6.heap.get? b=some o->s9.heap.get? b=some o/\H9 b=none:=λb o hb e=>by
      have q:=I9.pin (b,o) (LU _ (LU _ (kO hb e)));exact ⟨q.1,q.2.1⟩
     refine {(pin D _ LN a3).1,(pin D _ LN a3).2,T'.keep _ _ _ a6 λb hb o e=>(pin b o (LA _ hb) e).1,λb hb=>?_};obtain ⟨o,e,_⟩:=T'.obj _ _ a6 b hb;exact (pin b o (LA _ hb) e).2
    cases ok with
    | false =>
     obtain ⟨b1,b2,b3,b4⟩:=back I8;simp only [Nm,if_false] at q8 ⊢;obtain ⟨m',hm,w'⟩:=q8;exact {m',hm,i+1,ab,ys,H8,I8.L4,b3,b4,b2,⟨ob,av,b1⟩,w'}
    | true =>
     simp only [if_true] at q8 ⊢;refine thn (cD Go C fp s2 H2 _ s8 ab H8 ys ob D _ I8 q8 av Z0 (LU _ (kO LN a3))) λ_ s'=>?_;rintro ⟨s9,zs,H9,aL,dh,tk,rfl,⟨m',hm,w'⟩,I9,cc,da,sb⟩;obtain ⟨b1,b2,b3,b4⟩:=back I9;obtain ⟨_,g1,_,g3,g4,g5⟩:=fD b2;exact {m',hm,i+1,ab,zs,H9,(I9.L4 (Go:=[])).turned (t':=tk) (λb o hb e=>(sb.2 b hb).trans e) b2 g1 g3 g4 g5,T'.keep _ _ _ b3 λb hb o e=>(sb.2 b λq=>ai (by rw [<- q];exact hb)).trans e,b4,b2,⟨aL,cc,da⟩,w'}
 exact hst (a5 _ rfl) (T'.self _ 0 _ _ _ st1 (a5 _ rfl))
theorem xf{pos:Pos}(hc:c=true->X.calm=true)(L:ah X sc N' ix)(hi:PIc c X tg iter wi)(hg:∀Go C fp s H,PG (zK X sc N' Go C fp s H) tg g)(ht:∀Go C fp s H,PTs (zK X sc N' Go C fp s H) G tt)(he:∀Go C fp s H,PE (zK X sc N' Go C fp s H) XC te)(hs:∀x,NC iter X.env x=pure x)(I:Inv X Go σ H s)(h:tLC ix wi g tt te σ H Q)(kk:∀(C D:Addr)(oC:Obj)(H':Hp)(s5:Lk)(m5:Str->Option Value),Inv X (Go++[(C,oC)]) σ H' s5->(∀{hp:Heap},hp.get? C=some oC->hp.Ns C m5)->(∀{O:St}{F:Hp}{s':Lk}{h':Heap},Inv X Go O F s'->F C=none->OA C s'.heap h'->Inv X Go O F { s' with heap:=h' })->Q (.ref D) H'->compPost (LH X.prog X.w) X.A X.xe use R (.ref D) C (.ok .next) s5):
  LM (LH X.prog X.w) X.A (comprehension (.ListComp XC [{tg,iter,G,0}] sc pos) sc X.env (firstIterPos [{tg,iter,G,0}] pos) (newList []) (firstAsync [{tg,iter,G,0}]) (firstIter [{tg,iter,G,0}] X.env) use) R X.xe s:=by
 refine yy (e:=.ListComp XC [{tg,iter,G,0}] sc pos) (em:=λD env=>do let _<-call (.builtin "list.append") [.ref D,<- MQ XC env]) (T:="list") (dt:=.seq ([]:List Value).toArray) length HO.lst [] (λys o=>∃its k,zm ys its/\o={ cls:=.type "list",data:=.seq its.toArray k }) (λK ys τ H=>te τ H λy H'=>K (ys++[y]) H') rfl (by size_fits) (λ_ _ _=>{λ_=>rfl,rfl}) codeAny_compStart_list {[],0,.nil,rfl} rfl ?_ ?_ ?_ hc L hi hg ht hs I h kk
 .rintro ys o ⟨its,k,_,rfl⟩ v z;cases z
 .rintro ys o H' h D ⟨its,k,S,rfl⟩ hl _ e;exact {Nq hl,its,k,S,e}
 .rintro Go C fp s H pins' s8 τ H8 ys ob D K I8 q8 ⟨its,k,S,rfl⟩ hl hD;refine we (thn (he Go C fp s H _ s8 τ H8 _ I8 q8) λy Z=>x5e λyv H9 W r9 w'=>?_);have el:its.toArray.size<=sizeLine:=by
   have:=S.length;simp only [LJ];lia
  refine we (append_at (hsz:=el) (W.pin _ (LU _ hD)).1 λU sb J=>Ls {Z,_,H9,_,U,Z.toks,rfl,w',W,{its++[y],k+1,S.append (.cons r9 .nil),rfl},?_,sb});rw [J];simp
theorem cF{pos:Pos}(hc:c=true->X.calm=true)(L:ah X sc N' ix)(hi:W (PIc c X tg iter wi))(hg:∀Go C fp s H,W (PG (zK X sc N' Go C fp s H) tg g))(Z:∀Go C fp s H,W (PTs (zK X sc N' Go C fp s H) Zi tt))(he:∀Go C fp s H,W (PE (zK X sc N' Go C fp s H) XC te))(hs:∀x,NC iter X.env x=pure x:=by intro _;rfl):W (PE X (.ListComp XC [{tg,iter,Zi,0}] sc pos) (tLC ix wi g tt te)):=by
 refine {?_};have hi:=hi.h;have hg:=λz G O F J=>(hg z G O F J).h;have Z:=λz G O F J=>(Z z G O F J).h;have he:=λz G O F J=>(he z G O F J).h;intro Go s σ H Q I h;rw [eval_ListComp];refine xf (use:=none) hc L hi hg Z he hs I h λC D oC H' s5 m5 S ns tu q=>?_;obtain ⟨p6,ab,_⟩:=S.pin (C,oC) (LU _ (LU _ (Lw.mpr rfl)));exact {m5,ns p6,λh' U=>{.ref D,H',tu (S.Hb λp hp=>S.pin p (LU _ (MG _ hp))) ab U,rfl,q}}
structure bj(B:Heap)(l:List Env)(e:Addr)(cls fl:Value)(h:Heap):Prop where
 stays:B.StaysIn h
 new:B.get? e=none
 frames:h.FunFrames B l
 obj:∃oe vs,h.get? e=some oe/\oe.cls=cls/\oe.dict=none/\oe.data = .fields vs/\2<vs.size/\vs[2]?=some .none /\
  (vs[1]?=some .none\/∃T oT ts,vs[1]?=some (.ref T)/\B.get? T=none/\T≠e/\h.get? T=some oT/\oT.data = .fields ts/\ts[3]?=some fl)
section
variable {M:Model}{A:LV}{E:Value->Lk->Prop}{s:Lk}{B:Heap}{env:Env}{outer l:List Env}{L e:Addr}{cls fl:Value}
theorem ye(o:Obj)(f:Array Value->Array Value):(o.mapFields f).dict=o.dict:=by
 obtain ⟨c,d,dt,sl⟩:=o;cases dt<;>rfl
theorem xt{head:Value}(YJ:A.frames=some (env::outer))(hf:env.frame=some L)(st:B.StaysIn s.heap)(W:B.get? e=none)(hl:s.heap.FunFrames B (env::outer))(he:s.heap.get? e=some oe)(hc:oe.cls=cls)(XT:oe.dict=none)(hd:oe.data = .fields vs)(hz:2<vs.size)(h2:vs[2]?=some .none)(k:∀h',bj B (env::outer) e cls (MX L) h'->s.heap.UpToSlots h'->Q () { s with heap:=h' }):
  LM M A (do let a<-frameOf env;let pl<-entryPlaceOf L O;let b<-EntryCells.newEntry head a .none (MX L) .none pl;setField (.ref e) 1 b) Q E s:=by
 have G:e∉(env::outer).filterMap (·.frame):=λz=>by
  obtain ⟨_,o,ho,F⟩:=hl.mem z;rw [he] at ho;cases ho;exact F vs hd
 refine we (wpAny_frameOf_fun YJ hl hf λg only=>?_);obtain ⟨_,same,slots⟩:=only;refine we (wpAny_entryPlaceOf λpl X0=>?_);have key:∀(tb:Obj)(ts:Array Value),tb.data = .fields ts->ts[3]?=some (MX L)->LM M A (setField (.ref e) 1 (.ref g.objs.size)) Q E { s with heap:=g.push tb }:=by
  intro tb ts td t3;have e1:g.get? e=some oe:=(same e G).trans he;have S:(g.push tb).get? e=some oe:=Lm _ e1;have hT:(g.push tb).get? g.objs.size=some tb:=LO _ (by rw [Nj td]);have U:g.objs.size≠e:=Ob (LX e1);have fresh:B.get? g.objs.size=none:=by
   cases q:B.get? g.objs.size with
   | none=>rfl
   | some o =>
    obtain ⟨sl,z⟩:=slots _ o (st _ o q);exact absurd (LX z) (MB _)
  have J:∀b o,b≠e->g.get? b=some o->((g.push tb).update e (QM (·.setIfInBounds 1 (.ref g.objs.size)))).get? b=some o:=λb o hb q =>
   (Mq _ _ (L9 hb)).trans (Lm _ q)
  have Z:∀b o,s.heap.get? b=some o->(∀ws,o.data≠.fields ws)->b≠e:=λb o q F z=>by
   rw [z,he] at q;cases q;exact F vs hd
  have dd:=Ol hd (·.setIfInBounds 1 (Lx g.objs.size));refine Nl S hd 'l' (k _ {λb o q=>?_,W,?_,?_} λb o q F=>?_)
  .refine J b o (λz=>by rw [z,W] at q;cases q) ((same b λz=>?_).trans (st b o q));rw [(hl.mem z).1] at q;cases q
  .refine hl.of_keeps λb o q F=>?_;obtain ⟨sl,z⟩:=slots b o q;exact {_,J b _ (Z b o q F) z,rfl}
  .refine {_,_,NM _ S (Nj dd),(Pm _ _).trans hc,(ye _ _).trans XT,dd,by simpa using hz,by rw [Pq 'd'];exact h2,.inr {g.objs.size,tb,ts,?_,fresh,U,?_,td,t3}}
   .rw [MJ 'l']
   .rw [Mq _ _ (L9 U)];exact hT
  .obtain ⟨sl,z⟩:=slots b o q;exact {sl,J b _ (Z b o q F) z}
 unfold EntryCells.newEntry newFields;refine we (Nh ?_ (X0.sizeOk5 _ _ _ _ _));exact key _ _ rfl 's'
theorem yr(Z:A.frames=some (env::outer))(hf:env.frame=some L)(x:bj B (env::outer) e cls fl s.heap)(k:∀h',bj B (env::outer) e cls (MX L) h'->s.heap.UpToSlots h'->Q () { s with heap:=h' }):LM M A (QK (.ref e) env) Q E s:=by
 obtain ⟨st,U,hl,oe,vs,he,hc,O,hd,S,h2,h1⟩:=x;unfold QK;simp only [hf];rcases h1 with h1|⟨T,oT,ts,h1,nT,Te,J,dT,W⟩
 .refine we (Md he hd h1 ?_);rw [if_neg (show ¬ ((Mj != Mj)=true) by decide)];exact xt Z hf st U hl he hc O hd S h2 k
 .refine we (Md he hd h1 ?_);rw [if_pos (show (Lx T != Mj)=true by simp)];refine we (Md J dT W ?_);by_cases G:fl=MX L
  .subst G;rw [if_pos (show (MX L==MX L)=true by simp)];exact Ls (k s.heap {st,U,hl,oe,vs,he,hc,O,hd,S,h2,.inr ⟨T,oT,ts,h1,nT,Te,J,dT,W⟩} (UpToSlots.refl _))
  .rw [if_neg (show ¬ ((fl==MX L)=true) by simpa using G)];refine we (Nl J dT (My.mp W).1 ?_);have oth:∀b,b≠T->(s.heap.update T (QM (·.setIfInBounds 3 Mj))).get? b=s.heap.get? b:=λb hb=>Mq _ _ (L9 hb);have Yh:∀b o,s.heap.get? b=some o->(∀ws,o.data≠.fields ws)->b≠T:=λb o q F z=>by
    rw [z,J] at q;cases q;exact F ts dT
   refine xt (B:=B) (cls:=cls) Z hf (λb o q=>?_) U (hl.of_keeps λb o q F=>{o,(oth b (Yh b o q F)).trans q,rfl}) ((oth e (L9 Te)).trans he) hc O hd S h2 λh' y up=>k h' y λb o q F=>up b o ((oth b (Yh b o q F)).trans q) F;exact (oth b λz=>by rw [z,nT] at q;cases q).trans (st b o q)
theorem mh(x:bj B l e cls fl s.heap)(k:∀h',bj B l e cls .none h'->s.heap.UpToSlots h'->Q () { s with heap:=h' }):LM M A (setFlight (.ref e) none) Q E s:=by
 obtain ⟨st,W,hl,oe,vs,he,hc,O,hd,S,h2,h1⟩:=x;unfold setFlight;rcases h1 with h1|⟨T,oT,ts,h1,nT,Z,J,dT,t3⟩
 .refine we (Md he hd h1 ?_);rw [if_neg (show ¬ ((Mj != Mj)=true) by decide)];exact Ls (k s.heap {st,W,hl,oe,vs,he,hc,O,hd,S,h2,.inl h1} (UpToSlots.refl _))
 .refine we (Md he hd h1 ?_);rw [if_pos (show (Lx T != Mj)=true by simp)];have F:3<ts.size:=(My.mp t3).1;have dd:=Ol dT (·.setIfInBounds 3 Mj);have oth:∀b,b≠T->(s.heap.update T (QM (·.setIfInBounds 3 Mj))).get? b=s.heap.get? b:=λb hb=>Mq _ _ (L9 hb);have U:∀b o,s.heap.get? b=some o->(∀ws,o.data≠.fields ws)->b≠T:=λb o q G z=>by
   rw [z,J] at q;cases q;exact G ts dT
  refine Nl J dT F (k _ {λb o q=>(oth b λz=>by rw [z,nT] at q;cases q).trans (st b o q),W,hl.of_keeps λb o q G=>{o,(oth b (U b o q G)).trans q,rfl},oe,vs,(oth e (L9 Z)).trans he,hc,O,hd,S,h2,
   .inr {T,_,_,h1,nT,Z,NM _ J (Nj dd),dd,?_}} λb o q G=>{o.slots,(oth b (U b o q G)).trans q})
  rw [MJ F]
theorem K4(F:A.frames=some (env::outer))(hf:env.frame=some L)(x:bj B (env::outer) e cls fl s.heap)(k:∀h',bj B outer e cls .none h'->s.heap.UpToSlots h'->Q () { s with heap:=h' }):LM M A (leaving env (.ref e)) Q E s:=by
 unfold leaving;refine we (yr F hf x λh1 y u1=>mh (s:={ s with heap:=h1 }) y λh2 z u2=>?_);obtain ⟨a,b,⟨_,_,c⟩,d⟩:=z;exact k h2 ⟨a,b,c,d⟩ (u1.trans u2)
end
def CXW(P:Ly)(w:LW):CXT:=λouter H s E e s'=>∃(ea C:Addr)(B:Heap)(H':Hp)(z:Lk),e = .ref ea/\bj B outer ea (.ref C) .none s'.heap/\Un (frs outer) [] H H' s.heap z.heap/\HOk P w H' z.heap /\
 z.os=s.os/\OK z.gens/\s'.os=s.os/\OK s'.gens/\(∀b o,z.heap.get? b=some o->b∉frs outer->B.get? b=some o)/\z.heap.UpToSlots s'.heap/\E (.ref C) none H'
def bF(X:Cx)(Ex:Addr->St->Hp->Prop):Prop:=∀(Go:List (Addr×Obj))(σ:St)(H:Hp)(z:Lk)(ea C:Addr)(B:Heap)(fl:Value)(s':Lk),Inv X Go σ H z->bj B X.stack ea (.ref C) fl s'.heap->s'.os=z.os->OK s'.gens ->
 (∀b o,z.heap.get? b=some o->b∉frs X.stack->B.get? b=some o)->z.heap.UpToSlots s'.heap->Ex C σ H->X.xe (.ref ea) s'
theorem uj:bF X (λ_ _ _=>False):=λ_ _ _ _ _ _ _ _ _ _ _ _ _ _ _ h=>h.elim
theorem fC{K:Lq}:
  bF (cw (CXW P w) cm P w K mg base N qual scope f cd A outer s H E) (λC _ H'=>E (.ref C) none H'):=by
 intro Go σ H' G ea C B fl s' I x os bare J up q;have O:A.frames=some outer:=by
  have:=I.ok.frames;cases h:A.frames with
  | none =>
   have z:(A.deeper (OF qual scope s.heap.objs.size f cd)).frames=none:=by
    first|(show (A.frames.map _)=none;rw [h];rfl)|simp [LV.deeper,LV.under,h]
   rw [show (cw (CXW P w) cm P w K mg base N qual scope f cd A outer s H E).A=A.deeper (OF qual scope s.heap.objs.size f cd) from rfl,z] at this;cases this
  | some l =>
   have z:=LV.frames_deeper (env:=OF qual scope s.heap.objs.size f cd) h;rw [show (cw (CXW P w) cm P w K mg base N qual scope f cd A outer s H E).A=A.deeper (OF qual scope s.heap.objs.size f cd) from rfl,z] at this;have:=Mm.inj this;exact congrArg some (List.cons.inj this).2
 show LM (LH P w) (A.deeper (OF qual scope s.heap.objs.size f cd)) (leaving (OF qual scope s.heap.objs.size f cd) (.ref ea)) _ _ s';refine K4 (L:=s.heap.objs.size) (LV.frames_deeper O) rfl x λh' y u=>?_;have F:∀b o,b≠s.heap.objs.size->G.heap.get? b=some o->(hideAll G.heap [s.heap.objs.size]).get? b=some o:=λb o hb e=>hideAll_get _ e (by simpa using hb);have U:=I.base;have lt:∀b o,s.heap.get? b=some o->b≠s.heap.objs.size:=λb o e=>MA (LX e);have nl:∀b:Addr,b∉(cw (CXW P w) cm P w K mg base N qual scope f cd A outer s H E).ex:=λb z=>absurd (show b∈([]:List Addr) from z) 's';refine {ea,C,B,H',{ G with heap:=hideAll G.heap [s.heap.objs.size] },rfl,y,{λb o e n hb _=>F b o (lt b o e) (U.keep b o e n hb (nl b)),λb o e n hb _=>?_,λb o e n _=>U.free b o e n (nl b),λb o e _=>?_,U.tups,U.frzs,U.tbls},
  I.hok.but (C:=s.heap.objs.size) I.free F,I.os,I.bare,os.trans I.os,bare,λb o e hb=>?_,λb o e nf=>?_,q}
 .obtain ⟨sl,z⟩:=U.slot b o e n hb (nl b);exact {sl,F b _ (lt b o e) z}
 .obtain ⟨o',z⟩:=U.there b o e (nl b);exact {o',F b _ (lt b o e) z}
 .have e':=Q3 _ e;refine J b o e' λz=>?_;have S:b∈s.heap.objs.size::frs outer:=z;rcases Lu.mp S with r|r
  .rw [r] at e;have Z:(hideAll G.heap [s.heap.objs.size]).get? s.heap.objs.size=none:=PySem.W.hideAll_none _ 's';exact absurd (Z.symm.trans e) 's'
  .exact hb r
 .exact (up.trans u) b o (Q3 _ e) nf
def XE(Ex:Addr->St->Hp->Prop)(σ:St):XK:=λc _ H'=>∃C,c = .ref C/\Ex C σ H'
def lg(sp:Sp)(Zp:List V)(Ex:Addr->St->Hp->Prop)(t:TA):TE:=λσ H Q=>t σ H λvs H1=>sp (vs++Zp) H1 Q (XE Ex σ)
def eK(C:Addr)(m:Str)(sp:Sp)(Zp:List V)(Ex:Addr->St->Hp->Prop)(ta:TE)(t:TA):TE:=λσ H Q=>ta σ H λx H1=>∃a dx fs,x = .ref a/\H1 a=some (.ins C dx fs)/\fs.lookup m=none /\
 t σ H1 λvs H2=>sp (x::(vs++Zp)) H2 Q (XE Ex σ)
section
variable {X:Cx}{cm:Bool}{k:Nat}{f C:Addr}{fd:LL}{ps:List Str}{sp:Sp}{Zp:List V}{ds:List Value}{Ex:Addr->St->Hp->Prop}{x m:Str}{p pos Z2:Pos}{e o:Mc}{es:List Mc}{ta:TE}{t:TA}
theorem bF.of(T:bF X Ex)(I:Inv X Go σ H s)(h:CXW X.prog X.w X.stack H s (XE Ex σ) v s'):X.xe v s':=by
 obtain ⟨ea,C,B,H',O,rfl,y,un,hok,os,bare,G,F,J,S,W,U,q⟩:=h;cases U;exact T Go σ H' O ea C B .none s' (I.TL os un hok bare λb z=>absurd z 's') y (G.trans os.symm) F J S q
theorem o9(T:bF X Ex)(F:zp X.prog X.w X.K X.mg X.base (CXW X.prog X.w) cm k f fd ps sp)(hr:zB cm k X.A)(hb:br X.K fd ps ds)(hd:zm Zp ds)(I:Inv X Go σ H s)(r:zm vs us)(h:sp (vs++Zp) H Q (XE Ex σ)):LM (LH X.prog X.w) X.A (call (.ref f) us) (EP X Go σ Q) X.xe s:=by
 have G:zm (vs++Zp) (us++ds):=r.append hd;have hl:(us++ds).length=ps.length:=by rw [<- G.length];exact F.len _ _ _ _ h
 refine QY (OZ (F.run X.A X.stack s H {us,[]} (us++ds) (vs++Zp) Q (XE Ex σ) hr I.Uk (hb s us I.Rt hl) G h) λr s' z=>?_);cases r with
 | error v=>exact T.of I z
 | ok fl =>
  cases fl with
  | ret u=>exact I.after z
  | next=>exact False.elim z
  | brk=>exact False.elim z
  | cont=>exact False.elim z
theorem Ge(T:bF X Ex)(F:zp X.prog X.w X.K X.mg X.base (CXW X.prog X.w) cm k f fd ps sp)(hr:zB cm k X.A)(hg:Gl X x)(hm:X.mg x=some (.ref f))(G:P2 X.K (.ref f)=true)(hb:br X.K fd ps ds)(hd:zm Zp ds)
  (ha:PA X (e::es) t) (O:(x==("__debug__":Str))=false:=by decide) (he:Mb (e::es) X.env=(false,MQ e X.env)::Mb es X.env:=by rfl) (J:(N0 pos (Mb es X.env)).any (·.1)=false:=by rfl) :
  PE X (.Call (.Name x p) (e::es) [] pos) (lg sp Zp Ex t):=by
 intro Go s σ H Q I h;refine Nr (fq I hg hm ?_ O);refine Rb (h₀:=X.base) I.ok.mod.T8 G (thn (ha pos Go s σ H _ I h) λus s1=>x5e λvs H1 z r q=>{z.Rt,?_}) he J;exact o9 T F hr hb hd z r q
theorem Hr(he:PE X o ta)(c:Cls X.K C)(hm:fJ X.K C m f)(T:bF X Ex)(F:zp X.prog X.w X.K X.mg X.base (CXW X.prog X.w) cm k f fd ps sp)(hr:zB cm k X.A)(hb:br X.K fd ps ds)(hd:zm Zp ds)(ha:PA X (e::es) t)(hst:Mb (e::es) X.env=(false,MQ e X.env)::Mb es X.env:=by rfl)(W:(N0 pos (Mb es X.env)).any (·.1)=false:=by rfl)(O:MQ (.Call (.Attribute o m Z2) (e::es) [] pos) X.env=(do
   let ov<-MQ o X.env
   OW Z2.atName
   let (f,first)<-OI [ov] (OY ov m pl)
   OS pos f first (N0 pos (Mb (e::es) X.env)) (PR pos (Os [] X.env))):=by rfl):
  PE X (.Call (.Attribute o m Z2) (e::es) [] pos) (eK C m sp Zp Ex ta t):=by
 intro Go s σ H Q I h;refine QC (pl:=pl) (thn (he Go s σ H _ I h) λu s1=>x5e λx H1 z J U=>?_) O;obtain ⟨a,dx,fs,ex,ea,l,q⟩:=U;subst ex;obtain rfl:u=Lx a:=J;refine ki z ea c hm l ?_;refine Rb (first:=[.ref a]) (h₀:=X.base) I.ok.mod.T8 hm.kp (thn (ha pos Go s1 σ H1 _ z q) λus s2=>x5e λvs H2 G r S=>{G.Rt,?_}) hst W;exact o9 (us:=.ref a::us) (vs:=.ref a::vs) T F hr hb hd G (.cons rfl r) S
theorem HK(he:PE X o ta)(c:Cls X.K C)(hm:fJ X.K C m f)(T:bF X Ex)(F:zp X.prog X.w X.K X.mg X.base (CXW X.prog X.w) cm k f fd ps sp)(hr:zB cm k X.A)(hb:br X.K fd ps ds)(hd:zm Zp ds)(O:MQ (.Call (.Attribute o m Z2) [] [] pos) X.env=(do
   let ov<-MQ o X.env
   OW Z2.atName
   let (f,first)<-OI [ov] (OY ov m pl)
   OS pos f first (N0 pos (Mb [] X.env)) (PR pos (Os [] X.env))):=by rfl):
  PE X (.Call (.Attribute o m Z2) [] [] pos) (eK C m sp Zp Ex ta bO):=by
 intro Go s σ H Q I h;refine QC (pl:=pl) (thn (he Go s σ H _ I h) λu s1=>x5e λx H1 z G J=>?_) O;obtain ⟨a,dx,fs,ex,ea,l,q⟩:=J;subst ex;obtain rfl:u=Lx a:=G;refine ki z ea c hm l ?_;exact callWith_K0 (first:=[.ref a]) z.Rt hm.kp (o9 (us:=[.ref a]) (vs:=[.ref a]) T F hr hb hd z (.cons rfl .nil) q)
end
theorem PS.Tt{st:Stmt}{t:TS}(h:PS X.Tt st t):PS X st t:=λGo s σ H D I F =>
 MK (h Go s σ H D (I.Rx _) F) (λ_ _ q=>q.tr) λ_ _ z=>False.elim z
theorem Fun.Ud{K:Lq}{st:Stmt}{k:Nat}(F:Fun K x qual st f fd)(S:zq N ps (zk st))(len:∀vs H Q E,sp vs H Q E->vs.length=ps.length)(O:∀(z:Value)(A:LV)(outer:List Env)(s:Lk)(H:Hp)(vs:List V)(Q:VK)(E:XK),zB cm k (A.deeper (OF qual (zk st) s.heap.objs.size f z))->sp vs H Q E ->
   ∃t,PSs (cw (CXW P w) cm P w K mg base N qual (zk st) f z A outer s H E) (dE st) t/\t { nx:=λ_ H'=>Q .non H',rt:=Q } (start N vs) H):zp P w K mg base (CXW P w) cm (k+1) f fd ps sp:=by
 obtain ⟨oc,Z,kV,X9,pm,W,z,ct,U,rfl,lk,G⟩:=F.ex;exact mP lk G S len λA outer s H vs Q E hr J=>O z A outer s H vs Q E hr J
def bmV:List Value:=[.type "ValueError",.type "Exception",.type "BaseException",.type "object"]
def bR(K:Lq)(C:Addr):Prop:=excIn K C bmV "ValueError.__new__"=true
structure nL(h:Heap)(C:Addr)(mro:List Value):Prop where
 ex:∃bm N nm q bs hdct sn sub ab col dd k0 k1 k2 k3 k5 mN,mro = .ref C::bm/\h.get? C=some (excClassObj nm q C N bs bm hdct sn sub ab col dd k0 k1 k2 k3 k5 "ValueError.__new__")/\h.Ns N mN/\mN We=none/\OwnTail h bmV bm
theorem bR.obj{K:Lq}(x:bR K C)(X:K.In h):∃cd,clsIn K C=some cd/\nL h C cd.mro:=by
 unfold bR excIn at x;split at x
 .rename_i dd cd sl look;have hc:clsIn K C=some cd:=by
   unfold clsIn;rw [look]
  refine {cd,hc,?_};split at x
  .rename_i C' bm k0 k1 k2 k3 n k5 em es;simp only [Mw,beq_iff_eq,Bool.not_eq_true'] at x;obtain ⟨⟨⟨⟨⟨c1,c2⟩,G⟩,c4⟩,z⟩,J⟩:=x;subst c1 c2;obtain ⟨a1,Z,a3,U,O,a6,a7,a8,S,F,ab⟩:=cd;dsimp only at em G z J ⊢;subst em G;obtain ⟨sl⟩:=sl;dsimp only at es;subst es;exact {bm,U,a1,O,Z,a6,a7,a8,S,F,dd,k0,k1,k2,k3,k5,_,rfl,X _ _ look,.of_isNs (PySem.W.isNs_of_in X z),PySem.W.nsMap_none_of_in X z J,PySem.W.tail_of_in X c4}
  .cases x
 .cases x
def qj(C:Addr)(Ex:Addr->St->Hp->Prop)(t:TA):TS:=λ_ σ H=>t σ H λvs H1=>vs.length<=sizeLine/\Ex C σ H1
theorem Kd{np cpos pos:Pos}{t:TA}(hc:X.calm=true)(T:bF X Ex)(O:bR X.K C)(hg:Gl X x)(hm:X.mg x=some (.ref C))(ha:PA X (e::es) t)(Y8:(x==("__debug__":Str))=false:=by decide)(hst:Mb (e::es) X.env=(false,MQ e X.env)::Mb es X.env:=by rfl)(X0:(N0 cpos (Mb es X.env)).any (·.1)=false:=by rfl):
  PS X (.Raise (some (.Call (.Name x np) (e::es) [] cpos)) none pos) (qj C Ex t):=by
 intro Go s σ H D I h;obtain ⟨cd,_,⟨bm,N,nm,q,bs,hdct,sn,sub,ab,col,dd,k0,k1,k2,k3,k5,mN,em,hC,hN,U,Z⟩⟩:=O.obj I.ok.mod.T8;refine wpAny_Raise_call_subT (C:=C) (nm:=nm) (q:=q) (N:=N) (bs:=bs) (bm:=bm) (hdct:=hdct) (sn:=sn) (sub:=sub) (ab:=ab) (col:=col) (dd:=dd) (k0:=k0) (k1:=k1) (k2:=k2) (k3:=k3) (k5:=k5) (mN:=mN) PySem.F.excBase_ValueError (Z.hasType 'd') (I.ok.hd hc)
  (by rw [hst];show (false||(N0 cpos (Mb es X.env)).any (·.1))=false;rw [X0];rfl) U (fq I hg hm {rfl,?_} Y8)
 have hA:=ha cpos Go s σ H _ I h;rw [hst] at hA ⊢;refine Calls.evalArgs_plain (thn hA λus s2=>x5e λvs H2 J r2=>x2e λhz q2=>{rfl,by rw [<- r2.length];exact hz,J.bk _ _ hC,hN.keeps J.bk,Z.keeps J.bk,λh' ea G=>?_});obtain ⟨tt,he,ai,_⟩:=G.there;have S:∀env∈X.stack,∀a,env.frame=some a->a∈frs X.stack:=λenv hm a ha=>PD.mpr ⟨env,hm,ha⟩;refine T Go σ H2 s2 ea C (hideAll s2.heap (frs X.stack)) .none { s2 with heap:=h' } J {λb o e=>G.keeps b o (Q3 _ e),?_,?_,?_} rfl J.bare (λb o e hb=>hideAll_get _ e hb) (λb o e _=>{o.slots,G.keeps b o e}) q2
 .cases z:(hideAll s2.heap (frs X.stack)).get? ea with
  | none=>rfl
  | some o =>
   have:=Q3 _ z;rw [G.new] at this;cases this
 .exact (PySem.W.funFrames_hide J.stack S).of_keeps λb o e _=>{o,G.keeps b o e,rfl}
 .exact {_,_,he,rfl,rfl,rfl,'s',rfl,.inl rfl}
section
variable {M:Model}{A:LV}{E:Value->Lk->Prop}
theorem JK{t:Nat}{os:OsState}{J mD:List Value}(OC:nL h C J)(OD:nL h D mD)(he:h.get? e=some oe)(z:oe.cls = .ref C)(W0:J.contains (.ref D)=true)(hq:Q true ⟨h,g,d,t,os⟩):LM M A (excMatches (.ref e) (.ref D)) Q E ⟨h,g,d,t,os⟩:=by
 obtain ⟨bm,N,nm,q,bs,hdct,sn,sub,ab,col,dd,k0,k1,k2,k3,k5,mN,rfl,hC,_,_,TC⟩:=OC;obtain ⟨F,N',aT,q',aL,G,av,U,ai,S,Z,j0,j1,j2,j3,j5,a0,rfl,O,_,_,TD⟩:=OD;have W:(Lx D::F).contains (.type "BaseException")=true:=by
  rw [List.contains_cons,TD.hasType (X:="BaseException") (b:=true) 'd',Bool.or_true]
 have b2:=tc_notTuple;unfold excMatches
 repeat (first|(with_reducible refine wpAny_loadPart_at he ?_;rw [z])|with_reducible refine wpAny_loadPart_at O ?_|(with_reducible refine wpAny_isSubtype_exc O ?_;rw [W])|(with_reducible refine wpAny_isSubtype_exc hC ?_;rw [W0])|wp_step)
 exact hq
end
theorem aa.ex{o:HO}(x:aa P w H h a o):∃ob,h.get? a=some ob:=by
 cases o with
 | lst xs=>obtain ⟨_,_,_,_,e⟩:=x;exact {_,e}
 | tup xs=>obtain ⟨_,_,_,o,e,_⟩:=x;exact {_,e}
 | dK kvs=>obtain ⟨_,_,_,_,o,_,_,e,_⟩:=x;exact {_,e}
 | dT kvs=>obtain ⟨_,_,_,_,o,_,_,e,_⟩:=x;exact {_,e}
 | set S n=>obtain ⟨o,_,_,_,e,_⟩:=x;exact {_,e}
 | ins C dx fs=>obtain ⟨_,_,_,e,_⟩:=x;exact {_,e}
 | own y=>exact x
 | xd fs=>obtain ⟨_,⟨_,_,_,e,_⟩,_⟩:=x;exact {_,e}
 | rng lo hi=>obtain ⟨_,_,_,e⟩:=x;exact {_,e}
 | frz ob u=>exact {_,x.1}
 | tbl ps=>exact {_,x}
 | met f y=>exact {_,x}
 | ext z=>exact x.2.1
abbrev cxP(X:Cx)(Go:List (Addr×Obj)):Cx:={ X with pn:=X.pn++Go }
theorem Cx.Ok.p(ok:X.Ok)(Go:List (Addr×Obj)):(cxP X Go).Ok :=
 ⟨ok.mod,ok.kind,ok.glob,ok.blt,ok.above,ok.inj,ok.has,ok.Ul,ok.hd,ok.frames,ok.stk,ok.UI,ok.bs,ok.TM,ok.Tg,ok.Tp,ok.RG,ok.TX⟩
theorem Inv.p(I:Inv X Go σ H s):Inv (cxP X Go) [] σ H s :=
 {I.ok.p Go,I.os,I.bare,I.base,I.loc,I.cell,I.free,I.L0,λp z=>I.pin p (by have h:p∈(X.pn++Go)++[]:=z;simpa using h),I.hok,I.len,I.Tj}
theorem Inv.UG(ok:X.Ok)(I:Inv (cxP X Go) [] σ H s):Inv X Go σ H s :=
 {ok,I.os,I.bare,I.base,I.loc,I.cell,I.free,I.L0,λp z=>I.pin p (by show p∈(X.pn++Go)++[];simpa using z),I.hok,I.len,I.Tj}
abbrev qY(X:Cx)(Go:List (Addr×Obj))(Ex:Addr->St->Hp->Prop):Cx:=(cxP X Go).Rx λe s'=>∃(ea C:Addr)(B:Heap)(H':Hp)(fl:Value)(σ:St)(z:Lk),e = .ref ea/\Inv (cxP X Go) [] σ H' z/\bj B X.stack ea (.ref C) fl s'.heap /\
 s'.os=z.os/\OK s'.gens/\(∀b o,z.heap.get? b=some o->b∉frs X.stack->B.get? b=some o)/\z.heap.UpToSlots s'.heap/\Ex C σ H'
theorem uT:bF (qY X Go Ex) Ex:=λps σ H J ea C B fl s' I y os bare F G q =>
 {ea,C,B,H,fl,σ,J,rfl,(I.tr.Hb λp z=>(nomatch z)),y,os,bare,F,G,q}
abbrev iP(X:Cx)(Go:List (Addr×Obj))(ea:Addr):Cx:={ X with pn:=X.pn++Go,A:=X.A.mark (some (.ref ea)),calm:=false,xe:=λ_ _=>False }
def iC(C:Addr)(o:Obj):Prop:=o.cls = .ref C/\o.dict=none/\∃vs,o.data = .fields vs
theorem uL(ab:X.ex=[])(I:Inv (cxP X Go) [] σ H J)(y:bj B X.stack ea (.ref C) fl s'.heap)(os:s'.os=J.os)(bare:OK s'.gens)(hB:∀b o,J.heap.get? b=some o->b∉frs X.stack->B.get? b=some o)(up:J.heap.UpToSlots s'.heap):
  H ea=none/\∃oe,iC C oe/\s'.heap.get? ea=some oe/\Inv (iP X Go ea) [] σ (upd H ea (.frz oe (.own 0))) s':=by
 obtain ⟨st,hn,hl,oe,vs,he,hc,XT,hd,hz,h2,h1⟩:=y;have Z:ea∉frs X.stack:=λz=>by
  obtain ⟨_,o,ho,nf⟩:=hl.mem z;rw [he] at ho;cases ho;exact nf vs hd
 have new:J.heap.get? ea=none:=by
  cases q:J.heap.get? ea with
  | none=>rfl
  | some o =>
   have:=hB _ o q Z;rw [hn] at this;cases this
 have O:H ea=none:=by
  cases q:H ea with
  | none=>rfl
  | some u =>
   obtain ⟨ob,z⟩:=(I.hok ea u q).ex;rw [new] at z;cases z
 have keep:∀b o,J.heap.get? b=some o->b∉frs X.stack->s'.heap.get? b=some o:=λb o e hb=>st b o (hB b o e hb);have slot:∀b o,J.heap.get? b=some o->b∈frs X.stack->∃sl,s'.heap.get? b=some { o with slots:=sl }:=λb o e hb=>by
  obtain ⟨_,o',S,nf⟩:=I.stack.mem (show b∈(cxP X Go).stack.filterMap (·.frame) from hb);rw [e] at S;cases S;exact up b o e nf
 have F:Inv (cxP X Go) [] σ H s':=I.TL (ch:=[]) os {λb o e _ hb _=>keep b o e hb,λb o e _ hb _=>slot b o e hb,λ_ _ _ n _=>n,λb o e _=>?_,λ_ _ e=>e,λ_ _ _ e=>e,λb ps e=>{#[],by rw [e];simp}}
  (λb u e=>(I.hok b u e).stay (λc v hc q=>keep c v q λz=>?_) (λ_ q=>q) λ_ _ q=>q) bare λb z=>absurd z 's'
 .have W:ea≠X.env.locals:=λz=>by
   obtain ⟨m,⟨o,es,ep,ho,G,_⟩,_⟩:=F.loc;have S:s'.heap.get? ea=some o:=by rw [z];exact ho
   rw [he] at S;cases S;rw [hd] at G;cases G
  refine {O,oe,⟨hc,XT,vs,hd⟩,he,{{F.ok.mod,F.ok.kind,F.ok.glob,F.ok.blt,F.ok.above,F.ok.inj,F.ok.has,F.ok.Ul,λz=>(nomatch z),F.ok.frames,F.ok.stk,F.ok.UI,F.ok.bs,F.ok.TM,F.ok.Tg,F.ok.Tp,F.ok.RG,F.ok.TX},F.os,F.bare,
   {F.base.keep,F.base.slot,λb o e n hx=>?_,F.base.there,λb xs e=>?_,λb o u e=>?_,λb ps e=>?_},F.loc,F.cell,?_,λx c e=>?_,λp hp=>?_,F.hok.add O ⟨he,oe,he⟩,F.len,.inr {ea,oe,vs,rfl,zx,hd,h2,C,hc}}}
  .obtain ⟨o',z⟩:=I.base.there b o e hx;rw [zd (λw=>by rw [w,new] at z;cases z)];exact F.base.free b o e n hx
  .have z:=F.base.tups b xs e;rw [zd (zr z O)];exact z
  .have z:=F.base.frzs b o u e;rw [zd (zr z O)];exact z
  .obtain ⟨more,z⟩:=F.base.tbls b ps e;exact {more,by rw [zd (zr z O)];exact z}
  .rw [zd (L9 W)];exact F.free
  .have nc:c≠ea:=λw=>by
    obtain ⟨v,o,ho,G⟩:=F.cell x c e;rw [w,he] at ho;cases ho;rw [hd] at G;cases G
   rw [zd nc];exact F.L0 x c e
  .obtain ⟨a,b,c,d,f⟩:=F.pin p hp;refine {a,?_,c,d,f};rw [zd λw=>?_]
   .exact b
   .have:=(I.pin p hp).1;rw [w,new] at this;cases this
 .by_cases hb:b∈frs X.stack
  .obtain ⟨sl,z⟩:=slot b o e hb;exact {_,z}
  .exact {o,keep b o e hb}
 .have U:H c=none:=I.Ss c z;rcases hc with w|w
  .rw [w] at U;rw [U] at e;cases e
  .rw [U] at w;cases w
theorem Inv.RK(ok:X.Ok)(F:X.A.handled=none)(I:Inv (iP X Go ea) [] σ H s):Inv X Go σ H s :=
 {ok,I.os,I.bare,I.base,I.loc,I.cell,I.free,I.L0,λp z=>I.pin p (by show p∈(X.pn++Go)++[];simpa using z),I.hok,I.len,.inl F}
end L2
namespace L2
open PySem PySem.Spec PyProof.Rows PySem.W
section
variable {prog:Ly}{w:LW}{A:LV}{E:Value->Lk->Prop}{K:Frag}{h:Heap}{g:Array GenState}{d:Drawn}{t:Nat}{os:OsState}{e C:Addr}{oe:Obj}
theorem KL{tk:Tok}(X:K.In h)(I:InstAt h e oe C none)(O:findIn K (.ref C) "__class__"=some (some (.builtin "object.__class__")))(hm:mroIn K C (.type "object")=some true)(J:Q (.done (.ret (.ref C))) ⟨h,g,d,t,os⟩):LM (LH prog w) A (LQ.«object.__getattribute__» {[.ref e,.str "__class__" tk],[]}) Q E ⟨h,g,d,t,os⟩:=by
 have G:=I.type (M:=LH prog w);have z:=looks_findIn (M:=LH prog w) X O;have S:=F.typeOf_object_class;have W:=F.slot_gs_get.lookup;have U:=F.slot_gs_set.lookup
 repeat (any_goals (first|assumption|with_reducible refine G.at ?_|with_reducible refine z.at ?_|wp_step))
 exact class_get (s:=⟨h,g,d,t,os⟩) X I hm (Ls J)
theorem DT(X:K.In h)(I:InstAt h e oe C none)(hb:mroIn K C (.type "BaseException")=some true)(J:Q () ⟨h,g,d,t,os⟩):
  LM (LH prog w) A (Px "BaseException.__getattribute__" {[.ref e,z],[]}) Q E ⟨h,g,d,t,os⟩:=by
 have G:=I.type (M:=LH prog w);have S:=looks_mroIn (M:=LH prog w) X hb;have c1:builtinKind "BaseException.__getattribute__"=some .slot:=by decide +kernel
 have O:splitId "BaseException.__getattribute__"=some ("BaseException","__getattribute__"):=by decide +kernel
 have U:=F.args_bexc_ga (.ref e) z;simp only [Px,c1,O];refine we ?_;unfold isInstance
 repeat (first|with_reducible refine G.at ?_|with_reducible refine S.at ?_|wp_step)
 exact J
theorem AI(X:K.In h)(I:InstAt h e oe C none)(f1:findIn K (.ref C) "__getattribute__"=some (some (.builtin "BaseException.__getattribute__")))(S:findIn K (.ref C) "__getattr__"=some none)(O:findIn K (.ref C) "__class__"=some (some (.builtin "object.__class__")))(hm:mroIn K C (.type "object")=some true)(hb:mroIn K C (.type "BaseException")=some true)(Z:Q (some (.ref C)) {h,g,d,t+1,os}):
  LM (LH prog w) A (getAttr? (.ref e) "__class__") Q E ⟨h,g,d,t,os⟩:=by
 have z:=I.type (M:=LH prog w);have G:=looks_findIn (M:=LH prog w) X f1;have L2:=looks_findIn (M:=LH prog w) X S;have U:=QP.ga.bind (.ref e);have J:(builtin "BaseException.__getattribute__" == builtin "object.__getattribute__")=false:=by decide +kernel
 have x1:(onTheHeap (Lx C)&&builtin "BaseException.__getattribute__" == builtin "object.__getattribute__")=false:=by rw [J];rfl
 have W:(false&&onTheHeap (builtin "BaseException.__getattribute__"))=false:=rfl;unfold getAttr? getAttrBy?;refine we (wpAny_mkText (we (Of ?_)))
 repeat (any_goals (first|assumption|with_reducible refine z.at ?_|with_reducible refine G.at ?_|with_reducible refine L2.at ?_|wp_step))
 refine PQ QP.ga.plain F.entry_bexc_ga (DT X I hb (KL X I O hm ?_))
 repeat (any_goals (first|assumption|wp_step))
structure xb(K:Frag)(C:Addr):Prop where
 err:bR K C
 ga:findIn K (.ref C) "__getattribute__"=some (some (.builtin "BaseException.__getattribute__"))
 gr:findIn K (.ref C) "__getattr__"=some none
 cl:findIn K (.ref C) "__class__"=some (some (.builtin "object.__class__"))
 ob:mroIn K C (.type "object")=some true
 ba:mroIn K C (.type "BaseException")=some true
theorem Gr(O:xb K C):KitX K (.ref e) (.ref C) (λh=>InstAt h e oe C none) where
 ty:=λ_ _ _ I=>I.type
 it:=λM h X I=>by
  obtain ⟨cd,_,⟨bm,N,nm,q,bs,hdct,sn,sub,ab,col,dd,k0,k1,k2,k3,k5,mN,_,G,_⟩⟩:=O.err.obj X;intro U W E' s' k J;unfold isType loadHead;exact we (wpAny_loadPart (k _ _ G) (Ls J))
 ne:=λh tp dd its n sl X F=>by
  obtain ⟨cd,_,⟨bm,N,nm,q,bs,hdct,sn,sub,ab,col,Z,k0,k1,k2,k3,k5,mN,_,G,_⟩⟩:=O.err.obj X;refine Ox.mpr λz=>?_;have S:C=tp:=Lx.inj (beq_iff_eq.mp z);subst S;have wd:=congrArg Obj.data (Mm.inj (G.symm.trans F));cases wd
 ca:=λ{prog w A E Q s} X I k=>by
  obtain ⟨h,g,d,t,os⟩:=s;exact AI X I O.ga O.gr O.cl O.ob O.ba k
end
def Hs:V->Option Value
 | .ref a=>some (.ref a)
 | .ty n=>some (.type n)
 | _=>none
inductive TyX(K:Frag)(H:Hp):V->Value->Prop where
 | of {x:V}{t:Value} (h:cA K H x t):TyX K H x t
 | exc {a C:Addr}{o:Obj} (e:H a=some (.frz o (.own 0))) (ho:iC C o) (O:xb K C):TyX K H (.ref a) (.ref C)
def lx(K:Frag):List V->Hp->VK->Prop:=λxs H Q=>∃x c t u b,xs=[x,c]/\Hs c=some u/\TyX K H x t/\kitOne K t u=some b/\Q (.bl b) H
theorem hW:zI X (.builtin "isinstance") (lx X.K):=by
 intro Go s σ H xs us Q I r h;obtain ⟨x,c,t,u,b,rfl,hc,ty,G,q⟩:=h;cases r with
 | cons U F =>
  cases F with
  | cons S F =>
   cases F;rename_i v1 Z;have e2:Z=u:=by
    cases c with
    | ref a=>cases hc;exact S
    | ty n=>cases hc;exact S
    | _=>cases hc
   subst e2;cases ty with
   | of ty=>exact Fm I U ty G λtk=>{.bl b,H,I.tok tk,rfl,q}
   | exc e ho O =>
    rename_i a C o;obtain rfl:v1=Lx a:=U;obtain ⟨z,_⟩:=I.hok a _ e;obtain ⟨c1,c2,vs,W⟩:=ho;have J:InstAt s.heap a o C none:={z,c1,by unfold notCls;rw [W],by rw [c2];trivial};exact kia_one (Gr O) I.Rt J G (λw=>nomatch w) λtk=>{.bl b,H,I.tok tk,rfl,q}
end L2
namespace L2
open PySem PySem.Spec PyProof.Rows
def Hnd(A:LV)(h:Heap):Prop:=A.handled=none\/∃(a:Addr)(o:Obj)(vs:Array Value),A.handled=some (.ref a)/\h.get? a=some o/\o.data = .fields vs/\vs[2]?=some .none/\∃C,o.cls = .ref C
theorem Inv.hnd(I:Inv X Go σ H s):Hnd X.A s.heap:=by
 rcases I.Tj with h|⟨a,o,vs,h1,h2,h3⟩
 .exact .inl h
 .exact .inr {a,o,vs,h1,(I.hok a _ h2).1,h3}
theorem Hnd.keeps(x:Hnd A h)(k:∀b o,(∃C,o.cls = .ref C)->h.get? b=some o->h'.get? b=some o):Hnd A h':=by
 rcases x with x|⟨a,o,vs,h1,h2,h3,h4,z⟩
 .exact .inl x
 .exact .inr {a,o,vs,h1,k a o z h2,h3,h4,z}
theorem Ij:entryFor table "proto.unchain"=some LQ.«proto.unchain»:=entryFor_of_tree (by kernel_rfl)
section
variable {prog:Ly}{w:LW}{A:LV}{E:Value->Lk->Prop}{s:Lk}
theorem De{α:Type}{Q:α->Lk->Prop}(F:Hnd A s.heap)(he:s.heap.get? e=some oe)(hd:oe.data = .fields ws)(G:2<ws.size)(hc:∀C,oe.cls≠.ref C)(k:∀h',OA e s.heap h'->(∃o,h'.get? e=some o/\o.cls=oe.cls)->E (.ref e) { s with heap:=h' }):LM (LH prog w) A (raiseNew (.ref e):Sem α) Q E s:=by
 unfold raiseNew;refine we (wpAny_handled ?_);rcases F with F|⟨a,o,vs,h1,h2,h3,h4,C,J⟩
 .rw [F];exact we (Ls (wpAny_throw (k s.heap (OA.refl _ _) {oe,he,rfl})))
 .rw [h1];have ne:a≠e:=λz=>by rw [z,he] at h2;cases h2;exact hc C J
  dsimp only;rw [if_pos (show (Lx a != Lx e)=true by simpa using ne)];refine we (Mn (wpAny_runValue (codeAny_builtin Ij ?_)));refine we (m:=Ql (.ref a) 2) (Md h2 h3 h4 ?_);rw [if_pos (show (Mj==Mj)=true by rfl)];refine Ls (we ?_);show LM _ _ (setField (.ref e) 2 (.ref a)) _ _ _;have dd:=Ol hd (·.setIfInBounds 2 (Lx a));exact Nl he hd G (wpAny_throw (k _ (OA.update ..) {_,NM _ he (Nj dd),Pm _ _}))
theorem kK{α:Type}{Q:α->Lk->Prop}(S:Hnd A s.heap)(k:∀h' e,(∀b o,s.heap.get? b=some o->h'.get? b=some o)->(∃o,h'.get? e=some o/\o.cls = .type "StopIteration")->E (.ref e) { s with heap:=h' }) :
  LM (LH prog w) A (newExc (.type "StopIteration") []>>=λe=>(raiseNew e:Sem α)) Q E s:=by
 refine we ?_;simp only [newExc,newTuple];refine we (Nh (we (m:=firstArgMember _ _) (wpAny_of_eq (a:=Mj) (by first|rfl|(simp only [firstArgMember];rfl)) (Nh ?_ (by size_fits)))) (by size_fits));have G:∀(F J:Obj) b o,s.heap.get? b=some o->((s.heap.push F).push J).get? b=some o:=λF J b o q=>Lm _ (Lm _ q);refine De (S.keeps λb o _ q=>G _ _ b o q) (LO _ rfl) rfl (by simp;lia) (λC z=>by cases z) λh' O=>x3e λo g c=>k h' _ (λb o q=>?_) ⟨o,g,c⟩;refine (O.2 b (λz=>?_)).trans (G _ _ b o q);have:=LX q;rw [z,M0] at this;exact absurd (Mo this) (MB _)
theorem BC{it t:Addr}(Z:Hnd A s.heap)(O:s.heap.IsTupleIter it t i)(W:s.heap.IsTuple t items)(hx:items[i]?=none)(k:∀h',ExtBut it s.heap h'->Q none { s with heap:=h' }):LM (LH prog w) A (Pj (.ref it)) Q E s:=by
 obtain ⟨o,ho,hc,hd⟩:=id O;obtain ⟨ol,J,_,nl,G⟩:=W;unfold Pj;refine we (Of (MI (name:=Lo "__next__") O.typeIs F.slot_tuple_iterator_next (M4 F.slot_tuple_iterator_next O.typeIs F.entry_tuple_iterator_next ?_ (F.args_tuple_iterator_next_1 _))));refine we (m:=Ql (.ref it) 0) (Md ho hd (x:=.ref t) rfl ?_);rw [if_neg (show ¬ ((Lx t==Mj)=true) by simp)];refine we (m:=Ql (.ref it) 1) (Md ho hd (x:=.int i 0) rfl (we (m:=seqItems? (.ref t)) (NP J G ?_)));simp only [Nb,hx];refine we (Ng (we (Nl ho hd 's' ?_)));refine kK (Z.keeps λb q U e=>(Mq _ _ λz=>?_).trans e) λh' e up=>x3e λo' g' c' =>
  we (Pu (T:="StopIteration") (b:=true) ⟨o',g',c'⟩ Qj (Ls (k h' λb q hb z=>up b q ((Mq _ _ (L9 hb)).trans z))))
 obtain ⟨C,S⟩:=U;rw [<- z,ho] at e;cases e;rw [hc] at S;cases S
theorem Gh{x1}{pos:Pos}{t:Addr}(W:Hnd A s.heap)(G:QV s.heap t items)(Z:(NF J env).length=items.size)(F:(NF J env).findIdx? (·.1)=none)(h:∀h',ExtBut s.heap.objs.size s.heap h'->LM (LH prog w) A (assignInOrder ((NF J env).map (·.2)) items.toList) Q E { s with heap:=h' }):LM (LH prog w) A (assign (.Tuple J x1 pos) env (.ref t)) Q E s:=by
 have lt:t≠s.heap.objs.size:=by obtain ⟨o,ho,_⟩:=G;exact MA (LX ho)
 have all:List.take items.size (List.drop 0 items.toList)=items.toList:=by rw [drop_zero];exact L5 's'
 have U:LM (LH prog w) A (unpackItems (.ref t) items.size none) (λvs s'=>∃h',vs=items.toList/\s'={ s with heap:=h' }/\ExtBut s.heap.objs.size s.heap h') E s:=by
  unfold unpackItems;refine we ?_;unfold notIterableAtAll;refine we (wpAny_specialOf G.typeIs slot_tuple_iter.lookup (Ls ?_));simp only [Nm,if_false];refine we (Mn (iter_tuple G (we (Mn (draw_tuple lt items.size 0 _ _ {_,LO _ rfl,rfl,rfl} (G.push _) 'l' λh1 S s1=>?_)))));rw [all,if_neg 's'];have t1:QV h1 t items:=(G.push _).extBut s1.extBut lt;have up1:∀b o,b≠s.heap.objs.size->s.heap.get? b=some o->h1.get? b=some o:=λb o hb e=>s1.extBut b o hb (Lm _ e);refine we (Mn (BC (s:={ s with heap:=h1 }) (W.keeps λb o _ e=>up1 b o (MA (LX e)) e) S t1 's' λh2 O=>?_));simp only [Option.isSome_none,Nm,if_false];exact Ls {h2,rfl,rfl,λb o hb e=>O b o hb (up1 b o hb e)}
 rw [assign_Tuple];refine we (Oe ?_);unfold unpack;rw [F,Z];refine we (Mn (MK U (λvs s'=>x3e λh' e1=>x2e λO x=>?_) λ_ _ z=>z));subst e1 O;exact h h' x
end
theorem tE{pos:Pos}{k:Nat}{t:TGs}{n:Nat}(h:PGs X es t)(hl:(NF es X.env).length=n:=by rfl)(hst:(NF es X.env).findIdx? (·.1)=none:=by rfl):PG X (.Tuple es k pos) (mS X.K n t):=by
 intro Go s σ H v u Q I r q;obtain ⟨a,xs,rfl,hx,J,q⟩:=q;obtain rfl:u=Lx a:=r;obtain ⟨its,z,F,O⟩:=I.tuple hx;refine Gh I.hnd F (by rw [hl,<- J,z.length];simp) hst λh' ex=>?_;have G:Inv X Go σ H { s with heap:=h' }:=I.kept (t':=s.toks) λb o e=>ex b o (MA (LX e)) e;have:=h Go { s with heap:=h' } σ H xs its Q G z q;simpa using this
def eqL(xs ys:List V):Bool:=xs.length==ys.length&&(Oi xs.length).all λi=>eqV (xs.getD i .non) (ys.getD i .non)
theorem mI:∀{xs:List V},xs.all zF=true->(∀x∈xs,∀b,x≠.byt b)->eqL xs xs=true:=by
 intro xs h _;unfold eqL;rw [beq_self_eq_true,PL,Mx];intro i hi;have z:=P9.mp hi;have hm:xs[i]∈xs:=Nw z;have:=Mx.mp h _ hm;rw [Lr,KE z,Option.getD_some];cases e:xs[i] with
 | non=>rfl
 | bl b=>simp [eqV]
 | int j=>simp [eqV]
 | str x=>simp [eqV]
 | _=>rw [e] at this;cases this
section
variable {X:Cx}
def yt(K:Lq)(neg:Bool):R2:=λx y H Q=>∃a b xs ys,x = .ref a/\y = .ref b/\SqL K H a xs/\SqL K H b ys/\xs.all zF=true/\ys.all zF=true/\Q (.bl (if neg then !eqL xs ys else eqL xs ys)) H
theorem yc(I:Inv X Go σ H s)(ha:SqL X.K H a xs)(hb:SqL X.K H b ys)(fx:xs.all zF=true)(Z:ys.all zF=true):
  ∃is F:List Value,s.heap.IsList a is.toArray/\s.heap.IsList b F.toArray/\xs.length=is.length/\ys.length=F.length/\∀(A:LV)(j:Nat)(h1:j<is.toArray.size)(h2:j<F.toArray.size),SeqAt.EqAt A s is.toArray[j] F.toArray[j] (eqV (xs.getD j .non) (ys.getD j .non)):=by
 obtain ⟨is,J,U,_⟩:=I.list ha;obtain ⟨F,G,p2,_⟩:=I.list hb;refine {is,F,U.isList,p2.isList,J.length,G.length,λA j h1 h2=>?_};have l1:=J.length;have l2:=G.length;simp only [LJ] at h1 h2;have e1:xs[j]?=some (xs.getD j .non):=by rw [Lr,KE 'l'];rfl
 have S:ys[j]?=some (ys.getD j .non):=by rw [Lr,KE 'l'];rfl
 obtain ⟨u,g1,q1⟩:=J.get e1;obtain ⟨v,O,q2⟩:=G.get S;rw [KE h1] at g1;rw [KE h2] at O;have f1:=Mx.mp fx _ (LF e1);have f2:=Mx.mp Z _ (LF S);have z:=iE (A:=A) (s:=s) q1 q2 f1 f2;have W:is.toArray[j]=u:=by simpa using Mm.inj g1
 have w2:F.toArray[j]=v:=by simpa using Mm.inj O
 rw [W,w2];exact z
theorem u7(O:X.A.units<cLine):OpR X (Mt .Eq) (yt X.K false):=by
 intro Go s σ H x y v u Q I U ry h;obtain ⟨a,b,xs,ys,rfl,rfl,ha,hb,fx,W,q⟩:=h;cases U;cases ry;obtain ⟨is,js,F,p2,J,G,Z⟩:=yc I ha hb fx W;by_cases z:is.toArray.size=js.toArray.size
 .refine SeqAt.eq_listAt F p2 z O (λj h1 h2=>Z _ j h1 h2) {.bl _,H,I,rfl,?_};have e:eqL xs ys=(Oi is.toArray.size).all λj=>eqV (xs.getD j .non) (ys.getD j .non):=by
   unfold eqL;simp only [LJ] at z ⊢;rw [J,G,z];simp
  rw [<- e];exact q
 .refine SeqAt.eq_list_lengthsAt F p2 (by simpa using z) O {.bl false,H,I,rfl,?_};have e:eqL xs ys=false:=by
   unfold eqL;have:(xs.length==ys.length)=false:=by simp only [LJ] at z;rw [J,G];simpa using z
   rw [this,Pp]
  have S:Q (.bl (eqL xs ys)) H:=q;rw [e] at S;exact S
theorem uU(S:X.A.units<cLine):OpR X (Mt .NotEq) (yt X.K true):=by
 intro Go s σ H x y v u Q I U ry h;obtain ⟨a,b,xs,ys,rfl,rfl,ha,hb,fx,W,q⟩:=h;cases U;cases ry;obtain ⟨is,js,G,p2,O,J,Z⟩:=yc I ha hb fx W;have F:Q (.bl (!eqL xs ys)) H:=q;by_cases z:is.toArray.size=js.toArray.size
 .refine SeqAt.RcNeAt.lists G p2 z S (λj h1 h2=>Z _ j h1 h2) _ _ _ _ {.bl _,H,I,rfl,?_};have e:eqL xs ys=(Oi is.toArray.size).all λj=>eqV (xs.getD j .non) (ys.getD j .non):=by
   unfold eqL;simp only [LJ] at z ⊢;rw [O,J,z];simp
  rw [<- e];exact F
 .refine SeqAt.RcNeAt.lists_lengths G p2 (by simpa using z) S _ _ _ _ {.bl true,H,I,rfl,?_};have e:eqL xs ys=false:=by
   unfold eqL;have:(xs.length==ys.length)=false:=by simp only [LJ] at z;rw [O,J];simpa using z
   rw [this,Pp]
  rw [e] at F;exact F
theorem Inv.big(I:Inv X Go σ H s):sysModules<s.heap.objs.size:=by
 have h:LG<s.heap.objs.size:=(I.mod.glob.keeps I.bk).lt;exact Nat.lt_trans 'd' h
def DY:TE:=λ_ H Q=>∀p,H p=none->Q (.ref p) (upd H p (.dK []))
theorem KO{pos:Pos}:PE X (.Dict [] [] pos) DY:=λGo s σ H Q I h =>
 wpAny_Dict_empty {.ref s.heap.objs.size,_,I.laid (a:=s.heap.objs.size) (o:=.dK []) (t':=s.toks) (λ_ _ q=>Lm _ q) (Ll _) {Mu _,beq_eq_false_iff_ne.mpr (L9 (MA I.big)),[],.nil,Heap.DictOf.new s.heap},rfl,h _ (I.hok.fresh (Ll _))}
def BQ(K:Lq)(n:Nat)(t:TGs):TG:=λv σ H Q=>∃a xs,v = .ref a/\SqL K H a xs/\xs.length=n/\t xs σ H Q
theorem xp{pos:Pos}{k:Nat}{t:TGs}{n:Nat}(hc:X.calm=true)(h:W (PGs X es t))(hl:(NF es X.env).length=n:=by rfl)(hst:(NF es X.env).findIdx? (·.1)=none:=by rfl):W (PG X (.Tuple es k pos) (BQ X.K n t)):=by
 refine {?_};have h:=h.h;intro Go s σ H v u Q I r q;obtain ⟨a,xs,rfl,hx,G,q⟩:=q;obtain rfl:u=Lx a:=r;obtain ⟨its,z,J,O⟩:=I.list hx;rw [assign_Tuple];refine we (Oe ?_);unfold unpack;have hs:n=its.toArray.size:=by rw [<- G,z.length];simp
 rw [hl,hst,hs];refine we (Mn (PySem.W.kun_itemsOf (I.ok.hd hc) J.isList λh' ex=>?_));have F:Inv X Go σ H { s with heap:=h' }:=I.kept (t':=s.toks) λb o e=>ex b o (MA (LX e)) e;have:=h Go { s with heap:=h' } σ H xs its Q F z q;simpa using this
theorem zB.mark{k:Nat}(r:zB c k A):zB false k (A.mark v):={λh=>(nomatch h),r.dp,r.un,r.gd}
def ak:Mc->Bool
 | .Starred _ _=>false
 | _=>true
theorem de(h:ak e=true):Mb (e::es) env=(false,MQ e env)::Mb es env:=by
 cases e<;>first|rfl|(exact absurd (show false=true from h) Lz)
def dr(es:List Mc):Bool:=es.all ak
theorem xI:∀{es:List Mc}(h:dr es=true),(Mb es env).any (·.1)=false
 | [],_=>rfl
 | e::es,h=>by
  unfold dr at h;rw [all_cons,Mw] at h;rw [de h.1,Qn,xI h.2];rfl
theorem fe{pos:Pos}(h:dr es=true):(N0 pos (Mb es env)).any (·.1)=false:=by
 have q:=xI (env:=env) h;unfold N0;rw [List.any_map];exact q
theorem c8(h:ak e=true):Mb [e] env=[(false,MQ e env)]:=(de h).trans rfl
theorem zb{t:TA}(ha:W (PE X e te))(hr:W (PA X es t))(z:ak e=true:=by rfl):W (PA X (e::es) (jV te t)):=by refine {?_};have ha:=ha.h;have hr:=hr.h;exact eI ha hr (de z)
theorem zH{id:String}{r:List V->Hp->VK->Prop}{t:TA}{p pos:Pos}(hc:zI X (.builtin id) r)(hg:Gl X x)(hm:X.mg x=none)(z:Oz x=some (.builtin id))(ha:W (PA X (e::es) t))(G:ak e=true:=by rfl)(J:dr es=true:=by rfl)(F:x≠"__name__":=by decide)(O:(x==("__debug__":Str))=false:=by decide):W (PE X (.Call (.Name x p) (e::es) [] pos) (tCB r t)):=by refine {?_};have ha:=ha.h;exact yk hc hg hm z ha F O (de G) (fe J)
theorem cX{r:List V->Hp->VK->Prop}{t:TA}{p pos:Pos}(hc:zI X (.type T) r)(hg:Gl X x)(hm:X.mg x=none)(z:Oz x=some (.type T))(ha:W (PA X (e::es) t))(G:ak e=true:=by rfl)(J:dr es=true:=by rfl)(F:x≠"__name__":=by decide)(O:(x==("__debug__":Str))=false:=by decide):W (PE X (.Call (.Name x p) (e::es) [] pos) (tCB r t)):=by refine {?_};have ha:=ha.h;exact Aj hc hg hm z ha F O (de G) (fe J)
theorem cK{p pos:Pos}(hg:Gl X "range")(hm:X.mg "range"=none)(ha:W (PA X [a] ta))(z:ak a=true:=by rfl):W (PIc true X tg (.Call (.Name "range" p) [a] [] pos) (iW ta)):=by refine {?_};have ha:=ha.h;exact BO hg hm ha (c8 z)
theorem jb{F cpos pos:Pos}{t:TA}(hc:X.calm=true)(T:bF X Ex)(O:bR X.K C)(hg:Gl X x)(hm:X.mg x=some (.ref C))(ha:W (PA X (e::es) t))(z:ak e=true:=by rfl)(G:dr es=true:=by rfl)(J:(x==("__debug__":Str))=false:=by decide):W (PS X (.Raise (some (.Call (.Name x F) (e::es) [] cpos)) none pos) (qj C Ex t)):=by refine {?_};have ha:=ha.h;exact Kd hc T O hg hm ha J (de z) (fe G)
structure New(H:Hp)(p:Addr)(o:HO)(H':Hp):Prop where
 no:H p=none
 at_:H' p=some o
 same:ze H H'
theorem New.mk'{p:Addr}{o:HO}(h:H p=none):New H p o (upd H p o):={h,zx,λb u e=>by rw [zd (zr e h)];exact e}
def yG(t:TA):TE:=λσ H Q=>t σ H λxs H1=>xs.length<=sizeLine/\∀p H2,New H1 p (.lst xs) H2->p≠sysModules->Q (.ref p) H2
theorem aq{t:TA}{pos:Pos}(h:W (PA X es t)):W (PE X (.List es pos) (yG t)):=by
 refine {?_};have h:=h.h;intro Go s σ H Q I G;refine wpAny_List_spliced (thn (h pos Go s σ H _ I G) λus s1=>x5e λxs H1 F r=>x2e λz q=>{by rw [<- r.length];exact z,?_});have hf:H1 s1.heap.objs.size=none:=F.hok.fresh (Ll _);refine {.ref s1.heap.objs.size,upd H1 s1.heap.objs.size (.lst xs),F.laid (t':=s1.toks) (λb u e=>Lm _ e) (Ll _) ?_,rfl,q _ _ (.mk' hf) (Ob F.big)};exact {z,us,0,r,LO _ rfl}
def vw(t:TA):TE:=λσ H Q=>t σ H λxs H1=>xs.length<=sizeLine/\∀p H2,New H1 p (.tup xs) H2->Q (.ref p) H2
theorem xG{t:TA}(F:∀xs H,R xs H->z xs H)(h:PA X es t)(pos:Pos)(Go:List (Addr×Obj))(s:Lk)(σ:St)(H:Hp)(I:Inv X Go σ H s)(q:t σ H R):
  LM (LH X.prog X.w) X.A (spliced (N0 pos (Mb es X.env))) (AP X Go σ z) X.xe s :=
 thn (h pos Go s σ H R I q) λ_ _=>x5e λvs H' a b c=>{vs,H',a,b,F _ _ c}
theorem aU{t:TA}{x1}{pos:Pos}(h:W (PA X es t)):W (PE X (.Tuple es x1 pos) (vw t)):=by
 refine {?_};have h:=h.h;have h':PA X es (λσ H Q=>∃R:List V->Hp->Prop,t σ H R/\∀xs H,R xs H->Q xs H):=λpos Go s σ H Q I=>x3e λR q F=>xG F h pos Go s σ H I q;intro Go s σ H Q I J;exact Dd h' Go s σ H Q I {_,J,λxs H1=>x2e λz q=>{z,λp G=>q p _ (.mk' G)}}
def yd:TE:=λ_ H Q=>∀p H2,New H p (.dK []) H2->Q (.ref p) H2
theorem tf{pos:Pos}:W (PE X (.Dict [] [] pos) yd):={λGo s σ H Q I h=>KO Go s σ H Q I λp z=>h p _ (.mk' z)}
end
def uR(v:V)(q:Addr->Prop):Prop:=∃a,v = .ref a/\q a
def wA(to te:TE):TE:=λσ H Q=>to σ H λx H1=>uR x λl=>(∃xs,H1 l=some (.lst xs))/\te σ H1 λy H2=>∃xs,H2 l=some (.lst xs)/\xs.length<sizeLine/\Q .non (upd H2 l (.lst (xs++[y])))
section
variable {X:Cx}
theorem OpR.weak{r r':R2}(h:OpR X f r)(z:∀x y H Q,r' x y H Q->r x y H Q):OpR X f r' :=
 λGo s σ H x y v u Q I F G q=>h Go s σ H x y v u Q I F G (z x y H Q q)
theorem zI.weak{r r':List V->Hp->VK->Prop}(h:zI X f r)(z:∀xs H Q,r' xs H Q->r xs H Q):zI X f r' :=
 λGo s σ H xs us Q I F q=>h Go s σ H xs us Q I F (z xs H Q q)
theorem IxR.weak{r r':R2}(h:IxR X r)(z:∀x y H Q,r' x y H Q->r x y H Q):IxR X r' :=
 λZI G Go s σ H x y v u Q I F J q hs=>h ZI G Go s σ H x y v u Q I F J (z x y H Q q) hs
def dN:R2:=λx y H Q=>(∃i j,x = .int i/\y = .int j/\Q (.int (i+j)) H)\/(∃i j,x = .str i/\y = .str j/\i.length+j.length<=sizeLine/\Q (.str (i++j)) H) \/
 (∃l b xs zs,x = .ref l/\y = .ref b/\H l=some (.lst xs)/\H b=some (.lst zs)/\xs.length+zs.length<=sizeLine/\∀p H2,New H p (.lst (xs++zs)) H2->Q (.ref p) H2)
theorem vm:OpR X (NJ .Add) dN:=Dp.or (Cr.or (G6.weak λx y H Q h=>by
 obtain ⟨l,b,xs,zs,e1,z,h1,h2,h3,h4⟩:=h;exact {l,b,xs,zs,e1,z,h1,h2,h3,λp F=>h4 p _ (.mk' F)}))
def eP:R2:=λx y H Q=>(∃i j,x = .int i/\y = .int j/\gs i j/\Q (.int (i*j)) H) \/
 (∃l k xs,x = .ref l/\y = .int k/\H l=some (.lst xs)/\-(2 ^ 63)<=k/\k<2 ^ 63/\xs.length*k.toNat<=sizeLine/\∀p H2,New H p (.lst (Ml k.toNat xs).flatten) H2->Q (.ref p) H2)
theorem Gj:OpR X (NJ .Mult) eP:=Hq.or (y7.weak λx y H Q h=>by
 obtain ⟨l,k,xs,e1,z,h1,h2,h3,G,h4⟩:=h;exact {l,k,xs,e1,z,h1,h2,h3,G,λp F=>h4 p _ (.mk' F)})
def uIx:R2:=λx y H Q=>(∃p xs i v,x = .ref p/\y = .int i/\H p=some (.lst xs)/\atI xs i=some v/\Q v H) \/
 (∃p xs i v,x = .ref p/\y = .int i/\H p=some (.tup xs)/\atI xs i=some v/\Q v H)\/(∃z i c,x = .str z/\y = .int i/\z.length<=sizeLine/\atI z.cps.toList i=some c/\Q (.str {#[c]}) H)
theorem Fz:IxR X uIx:=Gg.weak λx y H Q h=>by
 rcases h with ⟨p,xs,i,v,e1,z,h,r⟩|⟨p,xs,i,v,e1,z,h,r⟩|h
 .exact .inl {p,xs,i,v,e1,z,SqL.of h,r}
 .exact .inr (.inl {p,xs,i,v,e1,z,SqT.of h,r})
 .exact .inr (.inr h)
def kg:List V->Hp->VK->Prop:=λxs H Q=>(∃p ys,xs=[.ref p]/\H p=some (.lst ys)/\Q (.int ys.length) H)\/(∃p ys,xs=[.ref p]/\H p=some (.tup ys)/\Q (.int ys.length) H) \/
 (∃z,xs=[.str z]/\z.length<=sizeLine/\Q (.int z.length) H)
theorem JT:zI X (.builtin "len") kg:=(mO.or A3).weak λxs H Q h=>by
 rcases h with ⟨p,ys,e,h,q⟩|⟨p,ys,e,h,q⟩|h
 .exact .inl {p,ys,e,.inl (SqL.of h),q}
 .exact .inl {p,ys,e,.inr (SqT.of h),q}
 .exact .inr h
def uEq(neg:Bool):R2:=λx y H Q=>(fT x y=true/\Q (.bl (if neg then !decide (x=y) else decide (x=y))) H) \/
 (∃a b xs ys,x = .ref a/\y = .ref b/\H a=some (.lst xs)/\H b=some (.lst ys)/\xs.all zF=true/\ys.all zF=true/\Q (.bl (if neg then !eqL xs ys else eqL xs ys)) H)
theorem aW(F:X.A.units<cLine):OpR X (Mt .Eq) (uEq false):=(IV.or (u7 F)).weak λx y H Q h=>by
 rcases h with h|⟨a,b,xs,ys,e1,z,h1,h2,r⟩
 .exact .inl {h.1,by simpa using h.2}
 .exact .inr {a,b,xs,ys,e1,z,SqL.of h1,SqL.of h2,r}
theorem jo(F:X.A.units<cLine):OpR X (Mt .NotEq) (uEq true):=(Jr.or (uU F)).weak λx y H Q h=>by
 rcases h with h|⟨a,b,xs,ys,e1,z,h1,h2,r⟩
 .exact .inl {h.1,by simpa using h.2}
 .exact .inr {a,b,xs,ys,e1,z,SqL.of h1,SqL.of h2,r}
def sH(K:Lq)(ta:TE):TT:=λσ H Q=>ta σ H λx H'=>∃k,fY K x H' k/\Q k H'
theorem bH(ha:W (PE X a ta))(he:∀z,isTrue a X.env z=(do let v<-z;OW a.pos;OI [v] (truthy v)):=by intro _;rfl):W (PT X a (sH X.K ta)):=by refine {?_};have ha:=ha.h;exact AQ ha he
def jS(C:Addr)(ta:TE)(f:Str):TE:=λσ H Q=>ta σ H λx H1=>∃a dx fs v,x = .ref a/\H1 a=some (.ins C dx fs)/\fs.lookup f=some v/\Q v H1
theorem ae{pos:Pos}(c:Cls X.K C)(n:bo X.K C f)(he:W (PE X e ta))(hb:Nc e f X.env (MQ e X.env)=MQ e X.env:=by rfl):W (PE X (.Attribute e f pos) (jS C ta f)):=by
 refine {?_};have he:=he.h;intro Go s σ H Q I h;refine IA hb (thn (he Go s σ H _ I h) λu s1=>x5e λx H1 F z G=>?_);obtain ⟨a,dx,fs,v,ex,ea,l,q⟩:=G;subst ex;obtain rfl:u=Lx a:=z;exact yT F ea c n l λS s2 J O=>⟨v,H1,J,O,q⟩
def k7(C:Addr)(ta tv:TE)(f:Str):TS:=λD σ H=>tv σ H λy H1=>ta σ H1 λx H2=>∃a dx fs,x = .ref a/\H2 a=some (.ins C dx fs)/\fs.length<1000/\D.nx σ (upd H2 a (.ins C dx (zL f y fs)))
theorem bh{o ZI:Mc}{ta tv:TE}{pos Y6:Pos}(c:Cls X.K C)(n:bo X.K C f)(ha:W (PE X o ta))(z:W (PE X ZI tv))(hs:swapsWith ZI (some (.Attribute o f Y6)) pos.line X.env=pure false:=by rfl):W (PS X (.Assign [.Attribute o f Y6] ZI pos) (k7 C ta tv f)):=by
 refine {?_};have ha:=ha.h;have z:=z.h;intro Go s σ H D I h;refine plainObj_wpAny_Assign_Attribute (thn (z Go s σ H _ I h) λu s1=>x5e λy H1 S U q=>thn (ha Go s1 σ H1 _ S q) λov s2=>x5e λx H2 Z G F=>?_) hs;obtain ⟨a,dx,fs,ex,ea,l,O⟩:=F;subst ex;obtain rfl:ov=Lx a:=G;exact x5 Z ea c n l U λs3 J=>{σ,_,J,O}
structure GF(P:Ly)(w:LW)(K:Lq)(mg:Str->Option Value)(base:Heap)(cm:Bool)(k:Nat)(x:Str)(ps:List Str)(sp:Sp):Prop where
 ex:∃(f:Addr)(fd:LL),zp P w K mg base CX0 cm k f fd ps sp/\mg x=some (.ref f)/\P2 K (.ref f)=true/\br K fd ps []
structure GX(P:Ly)(w:LW)(K:Lq)(mg:Str->Option Value)(base:Heap)(cm:Bool)(k:Nat)(x:Str)(ps:List Str)(sp:Sp):Prop where
 ex:∃(f:Addr)(fd:LL),zp P w K mg base (CXW P w) cm k f fd ps sp/\mg x=some (.ref f)/\P2 K (.ref f)=true/\br K fd ps []
structure GM(P:Ly)(w:LW)(K:Lq)(mg:Str->Option Value)(base:Heap)(cm:Bool)(k:Nat)(C:Addr)(m:Str)(ps:List Str)(sp:Sp):Prop where
 ex:∃(f:Addr)(fd:LL),zp P w K mg base CX0 cm k f fd ps sp/\fJ K C m f/\br K fd ps []
structure GMX(P:Ly)(w:LW)(K:Lq)(mg:Str->Option Value)(base:Heap)(cm:Bool)(k:Nat)(C:Addr)(m:Str)(ps:List Str)(sp:Sp):Prop where
 ex:∃(f:Addr)(fd:LL),zp P w K mg base (CXW P w) cm k f fd ps sp/\fJ K C m f/\br K fd ps []
structure GC(P:Ly)(w:LW)(K:Lq)(mg:Str->Option Value)(base:Heap)(cm:Bool)(k:Nat)(x:Str)(C:Addr)(ps:List Str)(sp:Sp):Prop where
 ex:∃(f:Addr)(fd:LL),zp P w K mg base CX0 cm k f fd ps sp/\mg x=some (.ref C)/\Mk K C f/\br K fd ps []
variable {cm:Bool}{k j:Nat}{x m:Str}{C:Addr}{ps:List Str}{sp:Sp}{e o:Mc}{es:List Mc}{t:TA}{ta:TE}{p pos Z2:Pos}{Ex:Addr->St->Hp->Prop}
theorem zA(G:GF X.prog X.w X.K X.mg X.base cm j x ps sp)(hr:zB cm k X.A)(hg:Gl X x)(ha:W (PA X (e::es) t))(J:j<=k:=by decide)(U:(x==("__debug__":Str))=false:=by decide)(O:ak e=true:=by rfl)(S:dr es=true:=by rfl):W (PE X (.Call (.Name x p) (e::es) [] pos) (j9 sp [] E0 t)):=by
 refine {?_};have ha:=ha.h;obtain ⟨f,fd,F,hm,z,hb⟩:=G.ex;exact Ak F (hr.mono J) hg hm z hb .nil iu ha U (de O) (fe S)
theorem oY(T:bF X Ex)(G:GX X.prog X.w X.K X.mg X.base cm j x ps sp)(hr:zB cm k X.A)(hg:Gl X x)(ha:W (PA X (e::es) t))(J:j<=k:=by decide)(U:(x==("__debug__":Str))=false:=by decide)(O:ak e=true:=by rfl)(S:dr es=true:=by rfl):W (PE X (.Call (.Name x p) (e::es) [] pos) (lg sp [] Ex t)):=by
 refine {?_};have ha:=ha.h;obtain ⟨f,fd,F,hm,z,hb⟩:=G.ex;exact Ge T F (hr.mono J) hg hm z hb .nil ha U (de O) (fe S)
theorem bI(he:W (PE X o ta))(c:Cls X.K C)(G:GM X.prog X.w X.K X.mg X.base cm j C m ps sp)(hr:zB cm k X.A)(ha:W (PA X (e::es) t))(z:j<=k:=by decide)(S:ak e=true:=by rfl)(O:dr es=true:=by rfl)(J:MQ (.Call (.Attribute o m Z2) (e::es) [] pos) X.env=(do
   let ov<-MQ o X.env
   OW Z2.atName
   let (f,first)<-OI [ov] (OY ov m pl)
   OS pos f first (N0 pos (Mb (e::es) X.env)) (PR pos (Os [] X.env))):=by rfl):W (PE X (.Call (.Attribute o m Z2) (e::es) [] pos) (eO C m sp [] E0 ta t)):=by
 refine {?_};have he:=he.h;have ha:=ha.h;obtain ⟨f,fd,F,hm,hb⟩:=G.ex;exact G8 he c hm F (hr.mono z) hb .nil iu ha (de S) (fe O) J
theorem bB(he:W (PE X o ta))(c:Cls X.K C)(G:GM X.prog X.w X.K X.mg X.base cm j C m ps sp)(hr:zB cm k X.A)(z:j<=k:=by decide)(J:MQ (.Call (.Attribute o m Z2) [] [] pos) X.env=(do
   let ov<-MQ o X.env
   OW Z2.atName
   let (f,first)<-OI [ov] (OY ov m pl)
   OS pos f first (N0 pos (Mb [] X.env)) (PR pos (Os [] X.env))):=by rfl):W (PE X (.Call (.Attribute o m Z2) [] [] pos) (eO C m sp [] E0 ta bO)):=by
 refine {?_};have he:=he.h;obtain ⟨f,fd,F,hm,hb⟩:=G.ex;exact BA he c hm F (hr.mono z) hb .nil iu J
theorem jk(he:W (PE X o ta))(c:Cls X.K C)(T:bF X Ex)(G:GMX X.prog X.w X.K X.mg X.base cm j C m ps sp)(hr:zB cm k X.A)(ha:W (PA X (e::es) t))(z:j<=k:=by decide)(S:ak e=true:=by rfl)(O:dr es=true:=by rfl)(J:MQ (.Call (.Attribute o m Z2) (e::es) [] pos) X.env=(do
   let ov<-MQ o X.env
   OW Z2.atName
   let (f,first)<-OI [ov] (OY ov m pl)
   OS pos f first (N0 pos (Mb (e::es) X.env)) (PR pos (Os [] X.env))):=by rfl):W (PE X (.Call (.Attribute o m Z2) (e::es) [] pos) (eK C m sp [] Ex ta t)):=by
 refine {?_};have he:=he.h;have ha:=ha.h;obtain ⟨f,fd,F,hm,hb⟩:=G.ex;exact Hr he c hm T F (hr.mono z) hb .nil ha (de S) (fe O) J
theorem gW(he:W (PE X o ta))(c:Cls X.K C)(T:bF X Ex)(G:GMX X.prog X.w X.K X.mg X.base cm j C m ps sp)(hr:zB cm k X.A)(z:j<=k:=by decide)(J:MQ (.Call (.Attribute o m Z2) [] [] pos) X.env=(do
   let ov<-MQ o X.env
   OW Z2.atName
   let (f,first)<-OI [ov] (OY ov m pl)
   OS pos f first (N0 pos (Mb [] X.env)) (PR pos (Os [] X.env))):=by rfl):W (PE X (.Call (.Attribute o m Z2) [] [] pos) (eK C m sp [] Ex ta bO)):=by
 refine {?_};have he:=he.h;obtain ⟨f,fd,F,hm,hb⟩:=G.ex;exact HK he c hm T F (hr.mono z) hb .nil J
structure oj(H:Hp)(C x dx:Addr)(H':Hp):Prop where
 no:H x=none
 nod:H dx=none
 ne:dx≠x
 at_:H' x=some (.ins C dx [])
 own:H' dx=some (.own x)
 same:ze H H'
theorem oj.mk'{C x dx:Addr}(h:H x=none)(hd:H dx=none)(ne:dx≠x):oj H C x dx (upd (upd H dx (.own x)) x (.ins C dx [])) :=
 {h,hd,ne,zx,by rw [zd ne,zx],λb u e=>by rw [zd (zr e h),zd (zr e hd)];exact e}
def jM(C:Addr)(sp:Sp)(t:TA):TE:=λσ H Q=>t σ H λvs H1=>∀x dx H2,oj H1 C x dx H2->sp (.ref x::vs) H2 (λv H3=>v = .non/\Q (.ref x) H3) E0
theorem PA.any{es:List Mc}{t:TA}(h:PA X es t):PA X es (λσ H Q=>∃R:List V->Hp->Prop,t σ H R/\∀xs H,R xs H->Q xs H):=λpos Go s σ H Q I=>x3e λR q z=>xG z h pos Go s σ H I q
theorem oO(G:GC X.prog X.w X.K X.mg X.base cm j x C ps sp)(hr:zB cm k X.A)(hg:Gl X x)(ha:W (PA X (e::es) t))(z:j+1<=k:=by decide)(J:(x==("__debug__":Str))=false:=by decide)(S:ak e=true:=by rfl)(O:dr es=true:=by rfl):W (PE X (.Call (.Name x p) (e::es) [] pos) (jM C sp t)):=by
 refine {?_};have ha:=ha.h;obtain ⟨f,fd,F,hm,M,hb⟩:=G.ex;intro Go s σ H Q I h;exact Cv M F (hr.mono z) hg hm hb .nil iu ha.any J (de S) (fe O) Go s σ H Q I {_,h,λvs H1 q x dx hx hd ne=>by rw [MS];exact q x dx _ (.mk' hx hd ne)}
theorem sL{pos:Pos}(hg:Gl X x)(hm:∃u,X.mg x=some u/\zo v u)(hd:(x==("__debug__":Str))=false:=by decide):PE X (.Name x pos) (tC v):=by
 obtain ⟨u,hm,r⟩:=hm;exact AS hg hm r hd
theorem d6{o e:Mc}{Z2 cpos:Pos}(ho:W (PE X o to))(he:W (PE X e te))(ZG:Nc o "append" X.env (MQ o X.env)=MQ o X.env:=by rfl)(ZF:(Z2.endLine==cpos.line)=true:=by rfl)(hp:ak e=true:=by rfl):W (PE X (.Call (.Attribute o "append" Z2) [e] [] cpos) (wA to te)):=by
 refine {?_};have ho:=ho.h;have he:=he.h;intro Go s σ H Q I h;have hs:Mb [e] X.env=[(false,MQ e X.env)]:=c8 hp;refine Nz ZG (by rw [hs];rfl) ZF rfl (thn (ho Go s σ H _ I h) λv s1=>x5e λx H1 U Z G=>?_);obtain ⟨l,ex,⟨xs,hx⟩,q1⟩:=G;subst ex;obtain ⟨h1,h2⟩:=gn (T:="list") U Z (.inl {rfl,xs,SqL.of hx});refine {"list","list.append",P1,PySem.F.slot_list_append,PySem.F.type_list_append,h1,h2,?_};rw [hs];refine Calls.callWith_builtin rfl (Calls.evalArgs_plain ?_);have S:=eI he d0 (hs:=hs) cpos Go s1 σ H1 (λys H2=>bZ (λy=>∃xs,H2 l=some (.lst xs)/\xs.length<sizeLine/\Q .non (upd H2 l (.lst (xs++[y])))) ys) U q1;rw [hs] at S;refine thn S λus s2=>x5e λvs H2 I2 r2 O=>?_;obtain ⟨y,rfl,J,z,X5,O⟩:=bZ.ex O;exact BZ Go s2 σ H2 (.ref l) [y] v us Q I2 Z r2 {l,J,y,rfl,rfl,z,X5,O}
end
section
variable {X:Cx}
def eB:List V->Hp->VK->Prop:=λxs H Q=>(∃i,xs=[.int i]/\Q (.int i) H)\/∃k,xs=[.bl k]/\Q (.int (if k then 1 else 0)) H
theorem GA:zI X (.type "int") eB:=Ic
def f9:List V->Hp->VK->Prop:=λxs H Q=>∃i,xs=[.int i]/\i.natAbs.log2<1920/\Q (.str (toString i)) H
theorem KQ:zI X (.type "str") f9:=Ky
theorem Ee:eB [.int i] H Q=Q (.int i) H:=by simp [eB]
theorem ES{k:Bool}:eB [.bl k] H Q=Q (.int (if k then 1 else 0)) H:=by simp [eB]
theorem HM:f9 [.int i] H Q=(i.natAbs.log2<1920/\Q (.str (toString i)) H):=by simp [f9]
def ux:List V->Hp->VK->Prop:=λxs H Q=>∃i j,xs=[.int i,.int j]/\Q (.int (if j>i then j else i)) H
def uA:List V->Hp->VK->Prop:=λxs H Q=>∃i j,xs=[.int i,.int j]/\Q (.int (if j<i then j else i)) H
theorem uY(hc:X.calm=true):zI X (.builtin "max") ux:=BJ hc
theorem AJ(hc:X.calm=true):zI X (.builtin "min") uA:=ID hc
theorem Ap:ux [.int i,.int j] H Q=Q (.int (if j>i then j else i)) H:=by
 apply propext;constructor
 .rintro ⟨a,b,e,q⟩;cases e;exact q
 .exact λq=>{i,j,rfl,q}
theorem Ba:uA [.int i,.int j] H Q=Q (.int (if j<i then j else i)) H:=by
 apply propext;constructor
 .rintro ⟨a,b,e,q⟩;cases e;exact q
 .exact λq=>{i,j,rfl,q}
end
section
variable {Y:Cx}{sc:Scope}{N':List Str}{Go:List (Addr×Obj)}{D:Addr}{fp:List Addr}{s:Lk}{H:Hp}
theorem m8{pos:Pos}{k:Nat}{t:TGs}{n:Nat}(h:W (PGs (zK Y sc N' Go D fp s H) es t))(hl:(NF es (zK Y sc N' Go D fp s H).env).length=n:=by rfl)(hst:(NF es (zK Y sc N' Go D fp s H).env).findIdx? (·.1)=none:=by rfl):W (PG (zK Y sc N' Go D fp s H) (.Tuple es k pos) (mS Y.K n t)):=by refine {?_};have h:=h.h;exact tE h hl hst
end
theorem Bt{t:TG}{r:List V}:oP t u (v::r) σ H Q=t v σ H λz H'=>u r z H' Q:=by
 apply propext;constructor
 .rintro ⟨v,r,e,h⟩;cases e;exact h
 .exact λh=>{v,r,rfl,h}
theorem C2:sq [] σ H Q=Q σ H:=by
 apply propext;constructor
 .exact λh=>h.2
 .exact λh=>{rfl,h}
section
variable {H:Hp}{Q:VK}{i j:Int}{x y:Str}{a b:Addr}{K:Lq}{g:Int->Int->V}{C:Int->Int->Prop}{k c:Bool}{QB:Bool->Hp->Prop}
theorem rX:dN (.int i) (.int j) H Q=Q (.int (i+j)) H:=by simp [dN]
theorem v3:dN (.str x) (.str y) H Q=(x.length+y.length<=sizeLine/\Q (.str (x++y)) H):=by simp [dN]
theorem oB:dN (.ref a) (.ref b) H Q = ∃xs zs,H a=some (.lst xs)/\H b=some (.lst zs)/\xs.length+zs.length<=sizeLine/\∀p H2,New H p (.lst (xs++zs)) H2->Q (.ref p) H2:=by simp [dN]
theorem yI:eP (.int i) (.int j) H Q=(gs i j/\Q (.int (i*j)) H):=by simp [eP]
theorem AA:eP (.ref a) (.int i) H Q = ∃xs,H a=some (.lst xs)/\-(2 ^ 63)<=i/\i<2 ^ 63/\xs.length*i.toNat<=sizeLine/\∀p H2,New H p (.lst (Ml i.toNat xs).flatten) H2->Q (.ref p) H2:=by simp [eP]
theorem vB:uIx (.ref a) (.int i) H Q = ∃xs,(H a=some (.lst xs)\/H a=some (.tup xs))/\∃v,atI xs i=some v/\Q v H:=by
 apply propext;constructor
 .rintro (⟨p,xs,i,v,e1,F,h,r⟩|⟨p,xs,i,v,e1,F,h,r⟩|⟨z,i,c,e,_⟩)
  .cases e1;cases F;exact {xs,.inl h,v,r}
  .cases e1;cases F;exact {xs,.inr h,v,r}
  .cases e
 .rintro ⟨xs,h|h,v,r⟩
  .exact .inl {_,xs,_,v,rfl,rfl,h,r}
  .exact .inr (.inl {_,xs,_,v,rfl,rfl,h,r})
theorem vy:uIx (.str x) (.int i) H Q=(x.length<=sizeLine/\∃c,atI x.cps.toList i=some c/\Q (.str {#[c]}) H):=by simp [uIx]
theorem vP:kg [.ref a] H Q = ∃ys,(H a=some (.lst ys)\/H a=some (.tup ys))/\Q (.int ys.length) H:=by
 apply propext;constructor
 .rintro (⟨p,xs,e1,h,r⟩|⟨p,xs,e1,h,r⟩|⟨z,e,_⟩)
  .cases e1;exact {xs,.inl h,r}
  .cases e1;exact {xs,.inr h,r}
  .cases e
 .rintro ⟨xs,h|h,r⟩
  .exact .inl {_,xs,rfl,h,r}
  .exact .inr (.inl {_,xs,rfl,h,r})
theorem vZ:kg [.str x] H Q=(x.length<=sizeLine/\Q (.int x.length) H):=by simp [kg]
theorem J8:rI C g (.int i) (.int j) H Q=(C i j/\Q (g i j) H):=by simp [rI]
theorem Jy:rI0 g (.int i) (.int j) H Q=Q (g i j) H:=by simp [rI0]
theorem FE{g:Int->V}:rU g (.int i) H Q=Q (g i) H:=by simp [rU]
theorem x9:uEq c (.int i) (.int j) H Q=Q (.bl (if c then !decide (i=j) else decide (i=j))) H:=by simp [uEq,fT]
theorem yg:uEq c (.str x) (.str y) H Q=Q (.bl (if c then !decide (x=y) else decide (x=y))) H:=by simp [uEq,fT]
theorem vX:uEq c (.bl k) (.bl k') H Q=Q (.bl (if c then !decide (k=k') else decide (k=k'))) H:=by simp [uEq,fT]
theorem kN:uEq c (.ref a) (.ref b) H Q = ∃xs ys,H a=some (.lst xs)/\H b=some (.lst ys)/\xs.all zF=true/\ys.all zF=true/\Q (.bl (if c then !eqL xs ys else eqL xs ys)) H:=by simp [uEq,fT]
def fB(K:Lq)(v:V)(H:Hp)(Q:Bool->Hp->Prop):Prop:=∃k,fY K v H k/\Q k H
theorem DA:fB K (.bl k) H QB=QB k H:=by simp [fB,fY]
theorem Dr:fB K .non H QB=QB false H:=by simp [fB,fY]
theorem Cz:fB K (.int i) H QB=QB (i != 0) H:=by simp [fB,fY]
theorem GJ:sH K ta σ H QB=ta σ H λx H'=>fB K x H' QB:=rfl
def uB(v:V)(q:Bool->Prop):Prop:=∃c,v = .bl c/\q c
theorem FL:uB (.bl k) q=q k:=by simp [uB]
theorem Bx{t:TE}:ju t σ H QB=t σ H λx H1=>uB x λc=>QB c H1:=rfl
theorem Lh{t u:TE}:qk t u σ H Q=t σ H λx H1=>uB x λc=>if c=true then u σ H1 Q else Q (.bl false) H1:=rfl
theorem BY{t u:TE}:xV t u σ H Q=t σ H λx H1=>uB x λc=>if c=true then Q (.bl true) H1 else u σ H1 Q:=rfl
theorem G5{t:TE}:mq t σ H Q=t σ H λx H1=>uB x λc=>Q (.bl (!c)) H1:=rfl
theorem EF{r r':R2}:sN r r' ta tb tc σ H Q=ta σ H λx H1=>tb σ H1 λy H2=>r x y H2 λz H3=>uB z λk=>if k=true then tc σ H3 λw' H4=>r' y w' H4 Q else Q (.bl false) H3:=rfl
theorem v8:uR (.ref a) q=q a:=by simp [uR]
theorem BW{C:Addr}:jS C ta f σ H Q=ta σ H λx H1=>uR x λa=>∃dx fs v,H1 a=some (.ins C dx fs)/\fs.lookup f=some v/\Q v H1:=by
 unfold jS uR;congr;funext x H1;apply propext;constructor
 .rintro ⟨a,dx,fs,v,h1,h2,h3,h4⟩;exact ⟨a,h1,dx,fs,v,h2,h3,h4⟩
 .rintro ⟨a,h1,dx,fs,v,h2,h3,h4⟩;exact ⟨a,dx,fs,v,h1,h2,h3,h4⟩
theorem BR{C:Addr}{ta tv:TE}:k7 C ta tv f D σ H=tv σ H λy H1=>ta σ H1 λx H2=>uR x λa=>∃dx fs,H2 a=some (.ins C dx fs)/\fs.length<1000/\D.nx σ (upd H2 a (.ins C dx (zL f y fs))):=by
 unfold k7 uR;congr;funext x H1;congr;funext x2 H2;apply propext;constructor
 .rintro ⟨a,dx,fs,h1,h2,h3,h4⟩;exact ⟨a,h1,dx,fs,h2,h3,h4⟩
 .rintro ⟨a,h1,dx,fs,h2,h3,h4⟩;exact ⟨a,dx,fs,h1,h2,h3,h4⟩
theorem Kz{C:Addr}{t:TA}:eO C m sp Zp E ta t σ H Q=ta σ H λx H1=>uR x λa=>∃dx fs,H1 a=some (.ins C dx fs)/\fs.lookup m=none/\t σ H1 λvs H2=>sp (.ref a::(vs++Zp)) H2 Q E:=by
 unfold eO uR;congr;funext x H1;apply propext;constructor
 .rintro ⟨a,dx,fs,rfl,h2,h3,h4⟩;exact {a,rfl,dx,fs,h2,h3,h4}
 .rintro ⟨a,rfl,dx,fs,h2,h3,h4⟩;exact {a,dx,fs,rfl,h2,h3,h4}
theorem Ik{C:Addr}{t:TA}:eK C m sp Zp Ex ta t σ H Q=ta σ H λx H1=>uR x λa=>∃dx fs,H1 a=some (.ins C dx fs)/\fs.lookup m=none/\t σ H1 λvs H2=>sp (.ref a::(vs++Zp)) H2 Q (XE Ex σ):=by
 unfold eK uR;congr;funext x H1;apply propext;constructor
 .rintro ⟨a,dx,fs,rfl,h2,h3,h4⟩;exact {a,rfl,dx,fs,h2,h3,h4}
 .rintro ⟨a,rfl,dx,fs,h2,h3,h4⟩;exact {a,dx,fs,rfl,h2,h3,h4}
end
section
variable {K:Lq}{g:TG}{tb:TS}{D:aZ}{σ:St}{H:Hp}{ta:TA}{tl:TE}{wi:TI}{R:It->Hp->Prop}{j:Int}{tt:TT}{te:TE}{ix:List (Option Nat)}{Q:VK}
def aj(J:It)(g:TG)(tb:TS)(D:aZ)(σ:St)(H:Hp):Prop:=∃W:Nat->Nat->St->Hp->Prop,(∃m,W 0 m σ H)/\∀i m σ H,W i m σ H ->
 (J.stop i H/\D.nx σ H)\/(J.go i H/\∃N:St->Hp->Prop,(∀z H',N z H'->∃G,G<m/\W (i+1) G z H')/\∀x H',J.Tr i H x H'->g x σ H' λF H2=>tb { D with nx:=N,ct:=N,bk:=D.nx } F H2)
theorem IF:qw wi g tb D σ H=wi σ H λJ H1=>aj J g tb D σ H1:=rfl
def uI1(vs:List V)(q:Int->Prop):Prop:=∃j,vs=[.int j]/\q j
theorem Ce:uI1 [.int j] q=q j:=by simp [uI1]
theorem FJ:iW ta σ H R=ta σ H λvs H1=>uI1 vs λj=>-(2 ^ 62)<=j/\j<2 ^ 62/\R (Itr 0 j.toNat) H1:=rfl
theorem HH:hZ K tl σ H R=tl σ H λx H1=>uR x λa=>(∃xs,SqL K H1 a xs)/\R (Itl K a) H1:=rfl
def uR2(vs:List V)(q:Addr->Addr->Prop):Prop:=∃a b,vs=[.ref a,.ref b]/\q a b
theorem HV:uR2 [.ref a,.ref b] q=q a b:=by
 apply propext;constructor
 .rintro ⟨c,d,e,h⟩;cases e;exact h
 .exact λh=>{a,b,rfl,h}
def zZ(J:It)(g:TG)(tt:TT)(te:TE)(τ:St)(H:Hp)(Q:VK):Prop:=∃W:Nat->Nat->St->List V->Hp->Prop,(∃m,W 0 m τ [] H)/\∀i m τ ys H2,W i m τ ys H2->ys.length<sizeLine /\
 ((J.stop i H2 ∧ ∀ D, H2 D = none → D ≠ sysModules → Q (.ref D) (upd H2 D (.lst ys))) ∨
  (J.go i H2 ∧ ∀ x H3, J.Tr i H2 x H3 → g x τ H3 fun z H4 => tt z H4 fun ok H5 => if ok = true then te z H5 fun y H6 => ∃ F, F < m ∧ W (i + 1) F z (ys ++ [y]) H6 else ∃ F, F < m ∧ W (i + 1) F z ys H5))
theorem Fv:tLC ix wi g tt te σ H Q=wi σ H λJ H1=>zZ J g tt te (cb ix σ) H1 Q:=rfl
theorem aj.rng{lo:Int}{n:Nat}(z:Nat->St->Hp->Prop)(G:z 0 σ H)
  (hs:∀i σ H,i<n->z i σ H->g (.int (lo+i)) σ H λF H2=>tb { D with nx:=z (i+1),ct:=z (i+1),bk:=D.nx } F H2) (hd:∀σ H,z n σ H->D.nx σ H):aj (Itr lo n) g tb D σ H:=EX z G hs hd
theorem aj.lst{a:Addr}{xs:List V}(z:Nat->St->Hp->Prop)(G:z 0 σ H)(hl:∀i σ H,i<=xs.length->z i σ H->SqL K H a xs)
  (hs:∀i x σ H,xs[i]?=some x->z i σ H->g x σ H λF H2=>tb { D with nx:=z (i+1),ct:=z (i+1),bk:=D.nx } F H2) (hd:∀σ H,z xs.length σ H->D.nx σ H):aj (Itl K a) g tb D σ H:=Iq z G hl hs hd
def dU(N:St->List V->Hp->Prop)(ys:List V)(z:St)(te:TE)(ok:Bool)(H5:Hp):Prop:=if ok=true then te z H5 λy H6=>N z (ys++[y]) H6 else N z ys H5
theorem ER:dU N ys τ te true H=te τ H λy H6=>N τ (ys++[y]) H6:=rfl
theorem y9:dU N ys τ te false H=N τ ys H:=rfl
theorem zZ.rng{lo:Int}{n:Nat}(F:Nat->St->List V->Hp->Prop)(S:∀i τ ys H,F i τ ys H->ys.length<sizeLine)(O:F 0 τ [] H)(hs:∀(N:St->List V->Hp->Prop) i τ ys H,i<n->F i τ ys H->(∀τ ys H,F (i+1) τ ys H->N τ ys H)->g (.int (lo+i)) τ H λz H4=>tt z H4 λok H5=>dU N ys z te ok H5)(hd:∀τ ys H,F n τ ys H->∀D H',New H D (.lst ys) H'->Q (.ref D) H'):zZ (Itr lo n) g tt te τ H Q:=by
 refine {λi m τ ys H=>m=n-i/\i<=n/\F i τ ys H,{n,'s',Mu _,O},?_};rintro i m τ ys H2 ⟨rfl,hi,p⟩;refine {S i τ ys H2 p,?_};by_cases G:i<n
 .refine .inr {G,λx H' y=>?_};obtain ⟨e,y⟩:=y;subst e y;exact hs (λz ys H=>∃J,J<n-i/\J=n-(i+1)/\i+1<=n/\F (i+1) z ys H) i τ ys _ G p λz zs H q=>{n-(i+1),'l',rfl,G,q}
 .have e:i=n:=by lia
  subst e;exact .inl {Ll _,λD U _=>hd τ ys H2 p D _ (.mk' U)}
end
section
variable {X:Cx}
def jJ:V->Option Int->Option Int->Hp->VK->Prop:=λx lo hi H Q=>∃z,x = .str z/\z.length<=sizeLine/\Q (.str (Txt.slice z lo hi)) H
theorem Hf{h:Heap}{lo hi:Option Int}(hs:h.IsSliceOf sl z G .none)(pl:Qq z lo)(F:Qq G hi):∃l u:Option (Int×Tok),h.IsSlice sl l u none/\l.map (·.1)=lo/\u.map (·.1)=hi:=by
 obtain ⟨o,h1,h2,h3⟩:=hs;cases pl with
 | none =>
  cases F with
  | none=>exact {none,none,⟨o,h1,h2,h3⟩,rfl,rfl}
  | int j t=>exact {none,some (j,t),⟨o,h1,h2,h3⟩,rfl,rfl}
 | int i t' =>
  cases F with
  | none=>exact {some (i,t'),none,⟨o,h1,h2,h3⟩,rfl,rfl}
  | int j t=>exact {some (i,t'),some (j,t),⟨o,h1,h2,h3⟩,rfl,rfl}
theorem EA:SlR X jJ:=by
 intro Go s σ H x v Z W lo hi sl Q I G hs pl S h;obtain ⟨z,rfl,O,q⟩:=h;obtain ⟨t,rfl⟩:=G;obtain ⟨l,u,U,e1,J⟩:=Hf hs pl S;subst e1 J;exact {"str",_,F.slot_str_getitem.lookup,Pw _ _ _,wpAny_getItem_str_slice (l:=l) (u:=u) (st:=none) U rfl
  (post_val_or_str {L8 (Txt.slice_le z _ _) O,λt' k=>{.str _,H,I.tok k,{_,rfl},q}})}
def uSl:V->Option Int->Option Int->Hp->VK->Prop:=λx lo hi H Q=>(∃a xs,x = .ref a/\H a=some (.lst xs)/\∀p H2,New H p (.lst (aR xs lo hi)) H2->Q (.ref p) H2)\/jJ x lo hi H Q
theorem SlR.weak{r r':V->Option Int->Option Int->Hp->VK->Prop}(h:SlR X r)(z:∀x l u H Q,r' x l u H Q->r x l u H Q):SlR X r' :=
 λGo s σ H x v O G lo hi sl Q I F hs pl J q=>h Go s σ H x v O G lo hi sl Q I F hs pl J (z _ _ _ _ _ q)
theorem eY:SlR X uSl:=((Hv (X:=X)).or EA).weak λx l u H Q h=>by
 rcases h with ⟨a,xs,e,h,q⟩|h
 .exact .inl {a,xs,e,SqL.of h,λp z=>q p _ (.mk' z)}
 .exact .inr h
def oq(v:V)(q:Int->Prop):Prop:=∃i,v = .int i/\q i
theorem Hw:oq (.int i) q=q i:=by simp [oq]
theorem Hh{t:TE}:vR t σ H Q=t σ H λx H1=>oq x λi=>Q (some i) H1:=rfl
theorem vK{lo hi:Option Int}:uSl (.str z) lo hi H Q=(z.length<=sizeLine/\Q (.str (Txt.slice z lo hi)) H):=by simp [uSl,jJ]
theorem xF{lo hi:Option Int}:uSl (.ref a) lo hi H Q = ∃xs,H a=some (.lst xs)/\∀p H2,New H p (.lst (aR xs lo hi)) H2->Q (.ref p) H2:=by simp [uSl,jJ]
theorem Le:∀{us:List Value},zm (ys.map V.str) us->StrsAre us ys:=by
 induction ys with
 | nil=>intro us r;rw [map_nil] at r;cases r;exact .nil
 | cons n ns z =>
  intro us r;rw [MD] at r;cases r with
  | cons F G =>
   obtain ⟨t,e⟩:=F;subst e;exact .cons n t (z G)
def iI:V->List V->Hp->VK->Prop:=λx vs H Q=>∃z p ys,x = .str z/\vs=[.ref p]/\H p=some (.lst (ys.map V.str))/\(ys.map (·.length)).sum+ys.length*z.length<=16777216/\Q (.str (Txt.join z ys)) H
theorem CJ:MtR X "str.join" iI:=by
 intro Go s σ H x xs v us Q I F G h;obtain ⟨z,p,ys,rfl,rfl,U,J,q⟩:=h;obtain ⟨t,rfl⟩:=F;cases G with
 | cons W S =>
  cases S;cases (show _=Lx p from W);obtain ⟨its,r,O,_⟩:=I.list (SqL.of (K:=X.K) U);exact join_list O.isList (by simpa using Le r) J λt' k=>{.str _,H,I.tok k,{_,rfl},q}
def iZ(z:Str)(n:Nat):Str:={((Ml n z.cps.toList).flatten).toArray}
theorem sv{α:Type}(l:List α):∀(n:Nat)(ZD:List α),foldl (λF z:Array α=>F++z) ZD.toArray (Ml n l.toArray)=(ZD++(Ml n l).flatten).toArray
 | 0,ZD=>by simp
 | n+1,ZD=>by
  rw [NQ,Qk,List.append_toArray,sv l n (ZD++l)];simp [NQ]
theorem CL(z:Str)(n:Nat):({(Ml n z.cps).foldl (·++·) #[]}:Str)=iZ z n:=by
 have h:=sv z.cps.toList n [];unfold iZ;congr 1
theorem xo{α:Type}(l:List α):∀n:Nat,((Ml n l).flatten).length=l.length*n
 | 0=>by simp
 | n+1=>by rw [NQ,Np,LC,xo l n,Nat.mul_succ];lia
theorem EK(z:Str)(n:Nat):(iZ z n).length=z.length*n:=by
 show (((Ml n z.cps.toList).flatten).toArray).size=_;rw [LJ,xo];rfl
def h8:R2:=λx y H Q=>∃z n,x = .str z/\y = .int n/\1<n/\n<2 ^ 31/\z.length≠0/\z.length*n.toNat<=sizeLine/\Q (.str (iZ z n.toNat)) H
theorem JZ:OpR X (NJ .Mult) h8:=by
 intro Go s σ H x y v u Q I F J h;obtain ⟨z,n,rfl,rfl,h1,h2,h3,h4,q⟩:=h;obtain ⟨t,rfl⟩:=F;obtain ⟨t',rfl⟩:=J;have hs:sizeLine=16777216:=Mr;have hc:(n==1||z.length==0)=false:=by
  rw [Bool.or_eq_false_iff];exact {beq_eq_false_iff_ne.mpr 'l',beq_eq_false_iff_ne.mpr h3}
 have O:z.length<=16777216:=by
  have:z.length*1<=z.length*n.toNat:=Nat.mul_le_mul_left _ 'l';lia
 refine PySem.P.mul_str ?_ ?_ ?_ ?_
 .rw [decide_eq_false (show ¬ n < -(2 ^ 63:Int) by lia),decide_eq_false (show ¬ n ≥ 2 ^ 63 by lia)];rfl
 .intro _ _ G;have:(16777216:Int)<=(2 ^ 63-1) / n:=Int.le_ediv_of_mul_le 'l' 'l';lia
 .intro _ _;exact decide_eq_false 'l'
 .rw [if_neg (show ¬ n<1 by lia),if_neg (by rw [hc];exact Lz),CL];exact {by rw [EK];lia,{.str _,H,I.tok _,{_,rfl},q}}
theorem qx{p:Addr}{k:Int}:nZ (.ref p) (.int k) v H Q = ∃xs j,H p=some (.lst xs)/\ixN xs.length k=some j/\Q (upd H p (.lst (xs.set j v))):=by
 apply propext;constructor
 .rintro ⟨F,xs,k',j,e1,z,h⟩;cases e1;cases z;exact ⟨xs,j,h⟩
 .rintro ⟨xs,j,h⟩;exact {p,xs,k,j,rfl,rfl,h}
def wG:List V->Hp->VK->Prop:=λxs H Q=>∃p ys,xs=[.ref p]/\(H p=some (.lst ys)\/H p=some (.tup ys))/\∀l H2,New H l (.lst ys) H2->Q (.ref l) H2
theorem jQ:zI X (.type "list") wG:=Im.weak λxs H Q h=>by
 obtain ⟨p,ys,e,h1,q⟩:=h;exact {p,ys,e,h1.elim (λh=>.inl (SqL.of h)) (λh=>.inr (SqT.of h)),λl hl=>q l _ (.mk' hl)}
theorem Ga:wG [.ref a] H Q = ∃ys,(H a=some (.lst ys)\/H a=some (.tup ys))/\∀l H2,New H l (.lst ys) H2->Q (.ref l) H2:=by
 apply propext;constructor
 .rintro ⟨p,ys,e,h⟩;cases e;exact ⟨ys,h⟩
 .rintro ⟨ys,h⟩;exact {a,ys,rfl,h}
def yU(to:TE):TE:=λσ H Q=>to σ H λx H1=>uR x λl=>∃xs,H1 l=some (.lst xs)/\Q .non (upd H1 l (.lst []))
theorem Ai{o:Mc}(ho:W (PE X o to))(U:Nc o "clear" X.env (MQ o X.env)=MQ o X.env:=by rfl)(J:(Z2.endLine==cpos.line)=true:=by rfl):W (PE X (.Call (.Attribute o "clear" Z2) [] [] cpos) (yU to)):=by
 refine {?_};have ho:=ho.h;intro Go s σ H Q I h;refine wpAny_Call_method0_late U J (thn (ho Go s σ H _ I h) λv s1=>x5e λx H1 z G S=>?_);obtain ⟨l,ex,xs,hx,O⟩:=S;subst ex;obtain ⟨h1,h2⟩:=gn (T:="list") z G (.inl {rfl,xs,SqL.of hx});exact {"list","list.clear",P1,PySem.F.slot_list_clear,PySem.F.type_list_clear,h1,h2,Calls.callWith_builtin rfl (PySem.evalArgs_none (Hl Go s1 σ H1 (.ref l) [] v [] Q z G .nil {l,xs,rfl,rfl,hx,O}))}
theorem oK{p:Addr}:iI (.str z) [.ref p] H Q = ∃ys:List Str,H p=some (.lst (ys.map V.str))/\(ys.map (·.length)).sum+ys.length*z.length<=16777216/\Q (.str (Txt.join z ys)) H:=by
 apply propext;constructor
 .rintro ⟨G,J,ys,e1,F,h⟩;cases e1;cases F;exact ⟨ys,h⟩
 .rintro ⟨ys,h⟩;exact {z,p,ys,rfl,rfl,h}
end
def Ite(K:Lq)(a:Addr):It :=
 {λi H=>∃xs x,SqL K H a xs/\xs[i]?=some x,λi H v H'=>∃T x,H T=none/\v = .ref T/\H'=upd H T (.tup [.int i,x])/\∀xs,SqL K H a xs->xs[i]?=some x,λi H=>∃xs,SqL K H a xs/\xs.length<=i}
structure GK(e it l:Addr)(i:Nat)(h:Heap):Prop where
 z:∃YB,IsEnum h e it i YB
 a:h.IsListIter it l i
theorem IJ{P:Ly}{w:LW}{K:Lq}{YI:List Mc}{kk:Nat}{tp:Pos}{l e it:Addr}(YM:e≠it) :
  dF true P w K (.Tuple YI kk tp) (Ite K l) [e,it] e (GK e it l) where
 mem:=by simp
 obj:=λi h st b hb=>by
  obtain ⟨⟨S,G⟩,⟨o4,F,_,d4⟩⟩:=st;simp only [Lu,LS,or_false] at hb;rcases hb with rfl|rfl
  .exact {_,G,λv q=>nomatch q}
  .exact {_,F,λv q=>by rw [d4] at q;cases q}
 keep:=λi h h' st k=>by
  obtain ⟨⟨S,G⟩,F⟩:=st;exact {{S,k _ 's' _ G},F.at λo e=>k _ 's' o e}
 item:=by
  intro X hP hw hK hc i Go s σ H E I hf st hg;subst hP hw hK;obtain ⟨xs,x,J,hx⟩:=hg;obtain ⟨aL,WC,p1,W9⟩:=I.list J;obtain ⟨u1,av,ai⟩:=WC.get hx;obtain ⟨⟨S,G⟩,F⟩:=st;refine wpAny_pyNext_enum_item G F p1.isList (x:=u1) (by simpa using av) YM λh' b1 b2 b3 b4 b5=>?_;refine {_,rfl,wpAny_letOwnedTupleGo_enum (s:={ s with heap:=h',toks:=s.toks+1 }) b1 λh2 c1 c2=>?_};have WB:e<s.heap.objs.size:=LX G;have nz:s.heap.objs.size≠e:=Ob WB;have all:∀c o,c≠e->c≠it->s.heap.get? c=some o->h2.get? c=some o:=λc o n1 n2 q=>c2.extBut c o n1 (b5 c o n1 n2 q);have tT:h2.get? s.heap.objs.size=some { cls:=.type "tuple",data:=.seq #[.int i s.toks,u1] }:=c2.extBut _ _ nz b3;have W:H s.heap.objs.size=none:=I.hok.fresh (Ll _);have WA:HOk X.prog X.w H h2:=λb u O=>by
   refine (I.hok b u O).stay (λc v hc q=>?_) (λ_ q=>q) λ_ _ q=>q;have Z:∀d∈[e,it],c≠d:=λd hd w=>by
    have fd:=(hf d hd).1;rcases hc with k|k
    .rw [k] at w;rw [w,fd] at O;cases O
    .rw [w,fd] at k;cases k
   exact all c v (Z e 's') (Z it 's') q
  have aT:∀b o,s.heap.get? b=some o->b≠s.heap.objs.size:=λb o e=>MA (LX e);have I2:Inv X Go σ (upd H s.heap.objs.size (.tup [.int i,x])) { s with heap:=h2,toks:=s.toks+1 }:=by
   refine I.step (g':=s.gens) (d':=s.drawn) (t':=s.toks+1) (ch:=[e,it]) (λb hb=>?_) (λb o _ _ hb q _=>?_) (λb o _ _ hb q _=>?_) (λb o _ q n=>?_) (λb o hb q=>?_) (λb ps q=>?_) (λb o u q=>?_) (λb ps q=>?_) (λm hm=>?_) (WA.add W ?_) I.bare
   .obtain ⟨f0,f1,f2,f3,f4,f5⟩:=hf b hb;exact ⟨f3,f1,f4,f5⟩
   .simp only [Lu,LS,or_false,not_or] at hb;exact all b o hb.1 hb.2 q
   .simp only [Lu,LS,or_false,not_or] at hb;exact {o.slots,all b o hb.1 hb.2 q}
   .rw [zd (aT b o q)];exact n
   .simp only [Lu,LS,or_false,not_or] at hb;exact {o,all b o hb.1 hb.2 q}
   .rw [zd (zr q W)];exact q
   .rw [zd (zr q W)];exact q
   .exact {#[],by rw [zd (zr q W),q];simp}
   .obtain ⟨o,es,ep,ho,r⟩:=hm;exact {o,es,ep,all _ o (L9 (hf e 's').2.1) (L9 (hf it 's').2.1) ho,r}
   .exact {by show 2<=sizeLine;decide,[.int i s.toks,u1],.cons {_,rfl} (.cons ai .nil),{_,tT,rfl,_,rfl}}
  refine {.ref s.heap.objs.size,_,I2,rfl,{_,x,W,rfl,rfl,λzs hz=>by rw [I.RF hz J];exact hx},?_,λb hb=>?_}
  .exact {{_,c1},b2.extBut c2.extBut (L9 YM)}
  .have ne:b≠s.heap.objs.size:=λq=>by
    have:b<s.heap.objs.size:=by
     simp only [Lu,LS,or_false] at hb;obtain ⟨o4,F,_⟩:=F;rcases hb with rfl|rfl
     .exact WB
     .exact LX F
    exact absurd (q ▸ this) (MB _)
   rw [zd ne];exact (hf b hb).1
 done:=by
  intro X hP hw hK hc i Go s σ H E I hf st hg;subst hP hw hK;obtain ⟨xs,J,hx⟩:=hg;obtain ⟨aL,WC,p1,W9⟩:=I.list J;have hl:=WC.length;obtain ⟨⟨S,G⟩,F⟩:=st;refine wpAny_pyNext_enum_end (I.ok.hd (hc rfl)) G F p1.isList (by simp;lia) λh' U=>{rfl,?_};refine I.step (g':=s.gens) (d':=s.drawn) (t':=s.toks) (ch:=[it]) (λb hb=>?_) (λb o _ _ hb q _=>?_) (λb o _ _ hb q _=>?_) (λ_ _ _ _ n=>n) (λb o hb q=>?_) (λ_ _ q=>q) (λ_ _ _ q=>q) (λb ps q=>{#[],by rw [q];simp}) (λm hm=>?_) (λb u O=>?_) I.bare
  .have ab:b∈[e,it]:=by simp only [Lu,LS,or_false] at hb ⊢;exact .inr hb
   obtain ⟨f0,f1,f2,f3,f4,f5⟩:=hf b ab;exact ⟨f3,f1,f4,f5⟩
  .simp only [Lu,LS,or_false] at hb;exact U b o hb q
  .simp only [Lu,LS,or_false] at hb;exact {o.slots,U b o hb q}
  .simp only [Lu,LS,or_false] at hb;exact {o,U b o hb q}
  .obtain ⟨o,es,ep,ho,r⟩:=hm;exact {o,es,ep,U _ o (L9 (hf it 's').2.1) ho,r}
  .refine (I.hok b u O).stay (λc v hc q=>?_) (λ_ q=>q) λ_ _ q=>q;have Z:c≠it:=λw=>by
    have fd:=(hf it 's').1;rcases hc with k|k
    .rw [k] at w;rw [w,fd] at O;cases O
    .rw [w,fd] at k;cases k
   exact U c v Z q
 self:=λ_ _ _ _ _ st h=>by
  obtain ⟨S,G⟩:=st.z;exact Pi G h
section
variable {X:Cx}
def xP(K:Lq)(ta:TA):TI:=λσ H R=>ta σ H λvs H1=>∃a,vs=[.ref a]/\(∃xs,SqL K H1 a xs)/\R (Ite K a) H1
theorem Kg{tp p pos:Pos}(hg:Gl X "enumerate")(hm:X.mg "enumerate"=none)(ha:W (PA X [a] ta))(hp:ak a=true:=by rfl):W (PIc true X (.Tuple G kk tp) (.Call (.Name "enumerate" p) [a] [] pos) (xP X.K ta)):=by
 refine {?_};have ha:=ha.h;intro Go s σ H R I h;have hs:Mb [a] X.env=[(false,MQ a X.env)]:=c8 hp;refine Call_ (d8 I hg hm boot_enumerate (Nx (thn (ha pos Go s σ H _ I h) λus s1=>x5e λvs H1 z r1 q1=>?_) hs rfl));obtain ⟨S,e,⟨xs,h1⟩,q⟩:=q1;subst e;cases r1 with
 | cons r Z =>
  cases Z;cases (show _=Lx S from r);obtain ⟨U,WC,J,_⟩:=z.list h1;refine call_enumerate_list J.isList λh' F O a6 a7=>Pi (s:={ s1 with heap:=h' }) F ?_;refine {_,_,_,_,H1,rfl,z.kept (t':=s1.toks) a7,IJ (Nat.succ_ne_self _),{{_,F},O},λb hb=>?_,q};have le:s1.heap.objs.size<=b:=by
   simp only [Lu,LS,or_false] at hb;rcases hb with rfl|rfl<;>lia
  exact z.RV le (z.hok.fresh le)
end
section
variable {K:Lq}{g:TG}{tb:TS}{D:aZ}{σ:St}{H:Hp}{ta:TA}{R:It->Hp->Prop}
def uR1(vs:List V)(q:Addr->Prop):Prop:=∃a,vs=[.ref a]/\q a
theorem fH:uR1 [.ref a] q=q a:=by
 apply propext;constructor
 .rintro ⟨c,e,h⟩;cases e;exact h
 .exact λh=>{a,rfl,h}
theorem EZ:xP K ta σ H R=ta σ H λvs H1=>uR1 vs λa=>(∃xs,SqL K H1 a xs)/\R (Ite K a) H1:=rfl
theorem aj.enum(F:Nat->St->Hp->Prop)(U:F 0 σ H)(hl:∀i σ H,i<=xs.length->F i σ H->SqL K H a xs)(hs:∀i x p σ H,xs[i]?=some x->F i σ H->H p=none->g (.ref p) σ (upd H p (.tup [.int i,x])) λG H2=>tb { D with nx:=F (i+1),ct:=F (i+1),bk:=D.nx } G H2)(hd:∀σ H,F xs.length σ H->D.nx σ H):aj (Ite K a) g tb D σ H:=by
 refine {λi m σ H=>m=xs.length-i/\i<=xs.length/\F i σ H,{xs.length,'s',Mu _,U},?_};rintro i m σ H ⟨rfl,hi,p⟩;have q:=hl i σ H hi p;by_cases J:i<xs.length
 .refine .inr {{xs,xs[i],q,by simp [J]},F (i+1),λS H' Z=>{xs.length-(i+1),'l',rfl,J,Z},λx H' y=>?_};obtain ⟨T,z,O,rfl,rfl,W⟩:=y;exact hs i z T σ _ (W xs q) p O
 .have e:i=xs.length:=by lia
  subst e;exact .inl {{xs,q,Ll _},hd σ H p}
end
section
variable {X:Cx}
def uF(C:Addr)(ta tv:TE)(G:V->V->Hp->VK->Prop)(f:Str):TS:=λD σ H=>ta σ H λx H1=>uR x λa=>∃dx fs v,H1 a=some (.ins C dx fs)/\fs.lookup f=some v /\
 tv σ H1 λy H2=>G v y H2 λz H3=>∃F fs',H3 a=some (.ins C F fs')/\fs'.length<1000/\D.nx σ (upd H3 a (.ins C F (zL f z fs')))
theorem wW{o ZI:Mc}{WH pos:Pos}{ta tv:TE}(c:Cls X.K C)(n:bo X.K C f)(ha:W (PE X o ta))(G:W (PE X ZI tv))(F:oh X S O):W (PS X (.AugAssign (.Attribute o f WH) S ZI pos) (uF C ta tv O f)):=by
 refine {?_};have ha:=ha.h;have G:=G.h;intro Go s σ H D I h;refine wpAny_AugAssign_AttributeAny (thn (ha Go s σ H _ I h) λov s1=>x5e λx H1 I1 U Yo=>?_);obtain ⟨a,ex,dx,fs,v,ea,l,q⟩:=Yo;subst ex;obtain rfl:ov=Lx a:=U;refine yT I1 ea c n l λu s2 I2 ru=>thn (G Go s2 σ H1 _ I2 q) λw3 s3=>x5e λy H2 I3 ry q3=>thn (F Go s3 σ H2 v y u w3 _ I3 ru ry q3) λw4 s4=>x5e λz H3 I4 rz Z=>?_;obtain ⟨ab,fs',J,l',q4⟩:=Z;exact x5 I4 J c n l' rz λs5 I5=>{σ,_,I5,q4}
theorem K9:qe (.int i) (.int j) H Q=Q (.int (i+j)) H:=by simp [qe]
theorem Bj:qN (.int i) (.int j) H Q=Q (.int (i-j)) H:=by simp [qN]
def cR(neg:Bool):R2:=λx y H Q=>y = .non/\Q (.bl (if neg then !decide (x = .non) else decide (x = .non))) H
theorem k9:OpR X (Mt .Is) (cR false):=Ah.weak λx y H Q h=>{h.1,by simpa using h.2}
theorem iV:OpR X (Mt .IsNot) (cR true):=K6.weak λx y H Q h=>{h.1,by simpa using h.2}
theorem Am:cR c .non .non H Q=Q (.bl (if c then false else true)) H:=by simp [cR]
theorem E8:cR c (.int i) .non H Q=Q (.bl (if c then true else false)) H:=by simp [cR]
def fK:R2:=λx y H Q=>eP x y H Q\/h8 x y H Q
theorem bT:OpR X (NJ .Mult) fK:=Gj.or JZ
theorem Eo:fK (.int i) (.int j) H Q=(gs i j/\Q (.int (i*j)) H):=by simp [fK,yI,h8]
theorem Js:fK (.ref a) (.int i) H Q=eP (.ref a) (.int i) H Q:=by simp [fK,h8]
theorem HD:fK (.str z) (.int i) H Q=(1<i/\i<2 ^ 31/\z.length≠0/\z.length*i.toNat<=sizeLine/\Q (.str (iZ z i.toNat)) H):=by
 simp [fK,eP,h8]
def uS(v:V)(q:Str->Prop):Prop:=∃z,v = .str z/\q z
theorem rR:uS (.str z) q=q z:=by simp [uS]
def tU(to te:TE):TE:=λσ H Q=>to σ H λx H1=>uS x λz=>te σ H1 λy H2=>iI (.str z) [y] H2 Q
theorem ui{o e:Mc}(ho:W (PE X o to))(he:W (PE X e te))(Z:Nc o "join" X.env (MQ o X.env)=MQ o X.env:=by rfl)(ZF:(Z2.endLine==cpos.line)=true:=by rfl)(hp:ak e=true:=by rfl):W (PE X (.Call (.Attribute o "join" Z2) [e] [] cpos) (tU to te)):=by
 refine {?_};have ho:=ho.h;have he:=he.h;intro Go s σ H Q I h;have hs:Mb [e] X.env=[(false,MQ e X.env)]:=c8 hp;refine Nz Z (by rw [hs];rfl) ZF rfl (thn (ho Go s σ H _ I h) λv s1=>x5e λx H1 S U G=>?_);obtain ⟨z,ex,q1⟩:=G;subst ex;obtain ⟨h1,h2⟩:=gn (T:="str") S U rfl;refine {"str","str.join",PySem.F.plainAttrs_str,PySem.F.slot_str_join,PySem.F.type_str_join,h1,h2,?_};rw [hs];refine Calls.callWith_builtin rfl (Calls.evalArgs_plain ?_);have O:=eI he d0 (hs:=hs) cpos Go s1 σ H1 (λys H2=>bZ (λy=>iI (.str z) [y] H2 Q) ys) S q1;rw [hs] at O;refine thn O λus s2=>x5e λvs H2 I2 r2 J=>?_;obtain ⟨y,rfl,J⟩:=bZ.ex J;exact CJ Go s2 σ H2 (.str z) [y] v us Q I2 U r2 J
end
section
variable {K:Lq}{g:TG}{tb:TS}{D:aZ}{σ:St}{H:Hp}{ta:TA}{tl:TE}{wi:TI}{R:It->Hp->Prop}{j:Int}{tt:TT}{te:TE}{ix:List (Option Nat)}{Q:VK}
theorem aj.tup{a:Addr}{xs:List V}(z:Nat->St->Hp->Prop)(G:z 0 σ H)(hl:∀i σ H,i<=xs.length->z i σ H->SqT K H a xs)
  (hs:∀i x σ H,xs[i]?=some x->z i σ H->g x σ H λF H2=>tb { D with nx:=z (i+1),ct:=z (i+1),bk:=D.nx } F H2) (hd:∀σ H,z xs.length σ H->D.nx σ H):aj (Itt K a) g tb D σ H:=Dm z G hl hs hd
theorem zZ.lst{a:Addr}{xs:List V}{τ:St}(F:Nat->St->List V->Hp->Prop)(S:∀i τ ys H,F i τ ys H->ys.length<sizeLine)(ha:∀i τ ys H,F i τ ys H->SqL K H a xs)(O:F 0 τ [] H)
  (hs:∀(N:St->List V->Hp->Prop) i x τ ys H,xs[i]?=some x->F i τ ys H->(∀τ ys H,F (i+1) τ ys H->N τ ys H)->g x τ H λz H4=>tt z H4 λok H5=>dU N ys z te ok H5) (hd:∀τ ys H,F xs.length τ ys H->∀D H',New H D (.lst ys) H'->Q (.ref D) H'):zZ (Itl K a) g tt te τ H Q:=by
 refine {λi m τ ys H=>m=xs.length-i/\i<=xs.length/\F i τ ys H,{xs.length,'s',Mu _,O},?_};rintro i m τ ys H2 ⟨rfl,hi,p⟩;refine {S i τ ys H2 p,?_};have q:=ha i τ ys H2 p;by_cases G:i<xs.length
 .refine .inr {{xs,xs[i],q,by simp [G]},λx H' y=>?_};obtain ⟨e,y⟩:=y;subst e;exact hs (λz ys H=>∃J,J<xs.length-i/\J=xs.length-(i+1)/\i+1<=xs.length/\F (i+1) z ys H) i x τ ys _ (y xs q) p λz zs H q=>{xs.length-(i+1),'l',rfl,G,q}
 .have e:i=xs.length:=by lia
  subst e;exact .inl {{xs,q,Ll _},λD U _=>hd τ ys H2 p D _ (.mk' U)}
def yi(t:TS):TS:=λD σ H=>∃F:St->Hp->Prop,t { D with nx:=F } σ H/\∀z H',F z H'->D.nx z H'
theorem fQ{st:Stmt}{t:TS}(h:W (PS X st t)):W (PS X st (yi t)):=by
 refine {?_};have h:=h.h;exact λGo s σ H D I F=>by
  obtain ⟨G,h1,h2⟩:=F;refine thn (h Go s σ H _ I h1) λf s1 q=>?_;cases f with
  | next=>obtain ⟨z,H',J,q⟩:=q;exact {z,H',J,h2 _ _ q}
  | ret v=>exact q
  | brk=>exact q
  | cont=>exact q
theorem fV{t:TS}{D:aZ}{σ:St}{H:Hp}:yi t D σ H = ∃F:St->Hp->Prop,t { D with nx:=F } σ H/\∀z H',F z H'->D.nx z H':=rfl
end
section
variable {X:Cx}
theorem zR  : W (PSs X [] qC):=⟨uc ⟩
theorem zg{st:Stmt}{ZZ:List Stmt}{t:TS}(h1:W (PS X st t))(h2:W (PSs X ZZ u)):W (PSs X (st::ZZ) (oX t u)):={tY (h1:=h1.h) (h2:=h2.h)}
theorem zh{st:Stmt}{t:TS}(h1:W (PS X st t)):W (PSs X [st] t):={pZ (h1:=h1.h)}
theorem zu{pos:Pos}(he:W (PE X e te)):W (PS X (.Return (some e) pos) (mz te)):={ph (he:=he.h)}
theorem zJ{t:TS}{pos:Pos}(hc:W (PT X c tc))(ha:W (PSs X a t))(hb:W (PSs X b u)):W (PS X (.If c a b pos) (oQ tc t u)):={vI (hc:=hc.h) (ha:=ha.h) (hb:=hb.h)}
theorem zc  : W (PA X [] bO):=⟨d0 ⟩
theorem zG{pos:Pos}{r:R2}(ho:OpR X (Mt z) r)(ha:W (PE X a ta))(hb:W (PE X b tb))(hm:PH z b=false):W (PT X (.Compare a [z] [b] pos) (ju (tOp r ta tb))):={uD (ho:=ho) (ha:=ha.h) (hb:=hb.h) (hm:=hm)}
theorem cz{pos:Pos}(hg:Gl X x)(hm:∃u,X.mg x=some u/\zo v u)(hd:(x==("__debug__":Str))=false:=by decide):W (PE X (.Name x pos) (tC v)):={sL (hg:=hg) (hm:=hm) (hd:=hd)}
theorem zi{i j pos}:W (PE X (.Constant (.int i) j pos) (tC (.int i))):=⟨jI ⟩
theorem xZ{pos:Pos}{r:V->Hp->VK->Prop}(ho:UnR X (unaryOp z) r)(ha:W (PE X a ta)):W (PE X (.UnaryOp z a pos) (tUn r ta)):={yB (ho:=ho) (ha:=ha.h)}
theorem zQ{pos:Pos}{r:R2}(hr:IxR X r)(ha:W (PE X a ta))(hb:W (PE X b tb))(hs:xw b):W (PE X (.Subscript a b pos) (tOp r ta tb)):={uh (hr:=hr) (ha:=ha.h) (hb:=hb.h) (hs:=hs)}
theorem zz{pos:Pos}(hN:X.N.Nodup)(hi:X.N[i]?=some x)(hx:Loc X.env.scope x)(hf:X.fn x=true\/X.env.scope.names.lookup x=some .local:=by first|exact .inl rfl|exact .inr rfl|assumption):W (PG X (.Name x pos) (cG i)):={sj (hN:=hN) (hi:=hi) (hx:=hx) (hf:=hf)}
theorem fI{X:Cx}{pos:Pos}{k:Nat}{t:TGs}{n:Nat}(h:W (PGs X es t))(hl:(NF es X.env).length=n:=by rfl)(hst:(NF es X.env).findIdx? (·.1)=none:=by rfl):W (PG X (.Tuple es k pos) (mS X.K n t)):={tE (h:=h.h) (hl:=hl) (hst:=hst)}
theorem cO{t:TT}(h:W (PW X e t)):W (PT X e t):={PW.pt h.h}
theorem EU{st:Stmt}{t:TS}(h:W (PS X.Tt st t)):W (PS X st t):={PS.Tt h.h}
end
def asc(z:Str):Bool:=z.cps.all (· < 128)
def Its(z:Str):It:={λi _=>i<z.cps.size,λi H x H'=>H'=H/\∃c,z.cps[i]?=some c/\x = .str {#[c]},λi _=>z.cps.size<=i}
theorem CD{P:Ly}{w:LW}{K:Lq}{tg:Mc}(z:Str)(it:Addr):dF true P w K tg (Its z) [it] it (λi h=>∃t,h.IsStrIter it "str_ascii_iterator" z t i) where
 mem:=by simp
 obj:=λi h st b hb=>by
  have e:b=it:=by simpa using hb
  subst e;obtain ⟨t,o,e,c,d⟩:=st;exact {o,e,λv z=>by rw [d] at z;cases z}
 keep:=λi h h' st k=>by
  obtain ⟨t,o,e,r⟩:=st;exact {t,o,k it 's' o e,r}
 item:=by
  intro X O G S hc i Go s σ H E I hf st hg;subst O G S;obtain ⟨t,st⟩:=st;obtain ⟨f0,f1,f2,U,F,J⟩:=hf it 's';have hi:i<z.cps.size:=hg;refine wpAny_pyNext_ascii_item st (c:=z.cps[i]) (by simp [hi]) λh' st' Z=>?_;have I1:Inv X Go σ H { s with heap:=h',toks:=s.toks+1 }:=I.turned (λb o hb e=>(Z.2 b hb).trans e) f0 f1 U F J;obtain ⟨o,e,c,d⟩:=id st';exact {_,rfl,gK (s:={ s with heap:=h',toks:=s.toks+1 }) e c d 'd' {.str {#[z.cps[i]]},H,I1,{_,rfl},{rfl,_,by simp [hi],rfl},⟨t,st'⟩,λb hb=>(hf b hb).1}}
 done:=by
  intro X O G S hc i Go s σ H E I hf st hg;subst O G S;obtain ⟨t,st⟩:=st;obtain ⟨f0,f1,f2,U,F,J⟩:=hf it 's';have hi:z.cps.size<=i:=hg;exact wpAny_pyNext_ascii_end (I.ok.hd (hc rfl)) st (by simp [hi]) λh' W=>{rfl,I.turned (t':=s.toks) (λb o hb e=>W b o hb e) f0 f1 U F J}
 self:=λ_ _ _ _ _ st h=>by
  obtain ⟨t,st⟩:=st;exact wpAny_pyIter_striter_ascii st h
section
variable {X:Cx}{tg:Mc}
def se(tl:TE):TI:=λσ H R=>tl σ H λx H1=>uS x λz=>asc z=true/\R (Its z) H1
theorem Gw:se tl σ H R=tl σ H λx H1=>uS x λz=>asc z=true/\R (Its z) H1:=rfl
theorem AN(hl:W (PE X l tl)):W (PIc true X tg l (se tl)):=by
 refine {?_};have hl:=hl.h;intro Go s σ H R I h;refine thn (hl Go s σ H _ I h) λv s1=>x5e λx H1 F G J=>?_;obtain ⟨z,e,ha,q⟩:=J;subst e;obtain ⟨t,rfl⟩:=G;refine wpAny_pyIter_ascii ha ?_;refine {s1.heap.objs.size,[s1.heap.objs.size],_,_,H1,rfl,F.kept (t':=s1.toks) λb o e=>Lm _ e,CD z _,{t,_,LO _ rfl,rfl,rfl},λb hb=>?_,q};have e:b=s1.heap.objs.size:=by simpa using hb
 subst e;exact F.RV (Ll _) (F.hok.fresh (Ll _))
end
theorem Draws.later{prog:Ly}{w:LW}{A:LV}{it:Addr}{fp:List Addr}{n k:Nat}{P:Nat->Value->Prop}{St:Nat->Heap->Prop}(D:Draws prog w A it fp n P St) :
  Draws prog w A it fp (n+k) (λi v=>P (i-k) v) (λi h=>k<=i/\St (i-k) h) where
 live:=λ_ _ st=>D.live _ _ st.2
 frame:=λ_ _ _ st J=>{st.1,D.frame _ _ _ st.2 J}
 item:=λi s Q E hi st z=>D.item (i-k) s Q E (by have:=st.1;lia) st.2 λx h' tk p st' G=>z x h' tk p {by have:=st.1;lia,by
  have e:i+1-k=i-k+1:=by have:=st.1;lia
  rw [e];exact st'} G
 done:=λs Q E st F=>D.done s Q E (by
  have e:n+k-k=n:=by lia
  have:=st.2;rwa [e] at this) F
def ip(z:Str)(k:Nat):It :=
 {λi _=>i<z.cps.size,λi H v H'=>∃T c,H T=none/\v = .ref T/\z.cps[i]?=some c/\H'=upd H T (.tup [.int ((i:Nat)+k:Nat),.str {#[c]}]),λi _=>i=z.cps.size}
structure Kv(e it:Addr)(z:Str)(k i:Nat)(h:Heap):Prop where
 en:∃YB,IsEnum h e it ((i+k:Nat):Int) YB
 a:∃t,h.IsStrIter it "str_ascii_iterator" z t i
theorem GH{P:Ly}{w:LW}{K:Lq}{YI:List Mc}{kk:Nat}{tp:Pos}{z:Str}{k:Nat}{e it:Addr}(YM:e≠it) :
  dF true P w K (.Tuple YI kk tp) (ip z k) [e,it] e (Kv e it z k) where
 mem:=by simp
 obj:=λi h st b hb=>by
  obtain ⟨⟨W,G⟩,⟨t,o4,F,_,d4⟩⟩:=st;simp only [Lu,LS,or_false] at hb;rcases hb with rfl|rfl
  .exact {_,G,λv q=>nomatch q}
  .exact {_,F,λv q=>by rw [d4] at q;cases q}
 keep:=λi h h' st k=>by
  obtain ⟨⟨W,G⟩,⟨t,o,F,r⟩⟩:=st;exact {{W,k _ 's' _ G},t,o,k _ 's' o F,r}
 item:=by
  intro X hP hw hK hc i Go s σ H E I hf st hg;subst hP hw hK;obtain ⟨⟨W,G⟩,⟨t,F⟩⟩:=st;have hi:i<z.cps.size:=hg;have O:=I.ok.hd (hc rfl);have D:=Draws.later (k:=k) (Draws.strAscii (prog:=X.prog) (w:=X.w) (A:=X.A.in1) O it z t);refine wpAny_pyNext_enum_itemD D G (i:=i+k) {'l',by rw [Nat.add_sub_cancel];exact F} 'l' YM (by simpa using YM) λx h' tk px b1 S b3 b4 b5=>?_;obtain ⟨c,u,U,rfl⟩:=px;rw [Nat.add_sub_cancel] at U;refine {_,rfl,wpAny_letOwnedTupleGo_enum (s:={ s with heap:=h',toks:=tk+1 }) b1 λh2 c1 c2=>?_};have WB:e<s.heap.objs.size:=LX G;have nz:s.heap.objs.size≠e:=Ob WB;have all:∀c o,c≠e->c≠it->s.heap.get? c=some o->h2.get? c=some o:=λc o n1 n2 q=>c2.extBut c o n1 (b5 c o n1 n2 q);have tT:h2.get? s.heap.objs.size=some { cls:=.type "tuple",data:=.seq #[.int ((i+k:Nat):Int) tk,.str {#[c]} u] }:=c2.extBut _ _ nz b3;have YJ:H s.heap.objs.size=none:=I.hok.fresh (Ll _);have WA:HOk X.prog X.w H h2:=λb u J=>by
   refine (I.hok b u J).stay (λc v hc q=>?_) (λ_ q=>q) λ_ _ q=>q;have WZ:∀d∈[e,it],c≠d:=λd hd w=>by
    have fd:=(hf d hd).1;rcases hc with k|k
    .rw [k] at w;rw [w,fd] at J;cases J
    .rw [w,fd] at k;cases k
   exact all c v (WZ e 's') (WZ it 's') q
  have ai:∀b o,s.heap.get? b=some o->b≠s.heap.objs.size:=λb o e=>MA (LX e);have I2:Inv X Go σ (upd H s.heap.objs.size (.tup [.int ((i+k:Nat):Int),.str {#[c]}])) { s with heap:=h2,toks:=tk+1 }:=by
   refine I.step (g':=s.gens) (d':=s.drawn) (t':=tk+1) (ch:=[e,it]) (λb hb=>?_) (λb o _ _ hb q _=>?_) (λb o _ _ hb q _=>?_) (λb o _ q n=>?_) (λb o hb q=>?_) (λb ps q=>?_) (λb o u q=>?_) (λb ps q=>?_) (λm hm=>?_) (WA.add YJ ?_) I.bare
   .obtain ⟨f0,f1,f2,f3,f4,f5⟩:=hf b hb;exact ⟨f3,f1,f4,f5⟩
   .simp only [Lu,LS,or_false,not_or] at hb;exact all b o hb.1 hb.2 q
   .simp only [Lu,LS,or_false,not_or] at hb;exact {o.slots,all b o hb.1 hb.2 q}
   .rw [zd (ai b o q)];exact n
   .simp only [Lu,LS,or_false,not_or] at hb;exact {o,all b o hb.1 hb.2 q}
   .rw [zd (zr q YJ)];exact q
   .rw [zd (zr q YJ)];exact q
   .exact {#[],by rw [zd (zr q YJ),q];simp}
   .obtain ⟨o,es,ep,ho,r⟩:=hm;exact {o,es,ep,all _ o (L9 (hf e 's').2.1) (L9 (hf it 's').2.1) ho,r}
   .exact {by show 2<=sizeLine;decide,[.int ((i+k:Nat):Int) tk,.str {#[c]} u],.cons {_,rfl} (.cons {_,rfl} .nil),{_,tT,rfl,_,rfl}}
  refine {.ref s.heap.objs.size,_,I2,rfl,{_,c,YJ,rfl,U,rfl},?_,λb hb=>?_}
  .obtain ⟨_,S⟩:=S;have e1:i+k+1-k=i+1:=by lia
   rw [e1] at S;obtain ⟨o,S,r⟩:=S;have e3:((i+1+k:Nat):Int)=((i+k:Nat):Int)+1:=by lia
   refine {?_,t,o,c2.extBut _ _ (L9 YM) S,r};rw [e3];exact {_,c1}
  .have ne:b≠s.heap.objs.size:=λq=>by
    have:b<s.heap.objs.size:=by
     simp only [Lu,LS,or_false] at hb;obtain ⟨o4,F,_⟩:=F;rcases hb with rfl|rfl
     .exact WB
     .exact LX F
    exact absurd (q ▸ this) (MB _)
   rw [zd ne];exact (hf b hb).1
 done:=by
  intro X hP hw hK hc i Go s σ H E I hf st hg;subst hP hw hK;obtain ⟨⟨W,G⟩,⟨t,F⟩⟩:=st;have hi:i=z.cps.size:=hg;have O:=I.ok.hd (hc rfl);have D:=Draws.strAscii (prog:=X.prog) (w:=X.w) (A:=X.A.in1) O it z t;rw [hi] at F;refine wpAny_pyNext_enum_endD D G F λh' Z=>{rfl,?_};refine I.step (g':=s.gens) (d':=s.drawn) (t':=s.toks) (ch:=[it]) (λb hb=>?_) (λb o _ _ hb q _=>?_) (λb o _ _ hb q _=>?_) (λ_ _ _ _ n=>n) (λb o hb q=>?_) (λ_ _ q=>q) (λ_ _ _ q=>q) (λb ps q=>{#[],by rw [q];simp}) (λm hm=>?_) (λb u J=>?_) I.bare
  .have ab:b∈[e,it]:=by simp only [Lu,LS,or_false] at hb ⊢;exact .inr hb
   obtain ⟨f0,f1,f2,f3,f4,f5⟩:=hf b ab;exact ⟨f3,f1,f4,f5⟩
  .simp only [Lu,LS,or_false] at hb;exact Z b o hb q
  .simp only [Lu,LS,or_false] at hb;exact {o.slots,Z b o hb q}
  .simp only [Lu,LS,or_false] at hb;exact {o,Z b o hb q}
  .obtain ⟨o,es,ep,ho,r⟩:=hm;exact {o,es,ep,Z _ o (L9 (hf it 's').2.1) ho,r}
  .refine (I.hok b u J).stay (λc v hc q=>?_) (λ_ q=>q) λ_ _ q=>q;have WZ:c≠it:=λw=>by
    have fd:=(hf it 's').1;rcases hc with k|k
    .rw [k] at w;rw [w,fd] at J;cases J
    .rw [w,fd] at k;cases k
   exact Z c v WZ q
 self:=λ_ _ _ _ _ st h=>by
  obtain ⟨W,G⟩:=st.en;exact Pi G h
section
variable {prog:Ly}{w:LW}{A:LV}{E:Value->Lk->Prop}{s:Lk}
theorem BU(a b:Value):checkTypeCall "enumerate" {[a],[(Lo "start",b)]}=pure ():=by kernel_rfl
theorem KF(a b:Value):Px "enumerate.__new__" {[.type "enumerate",a],[(Lo "start",b)]}=pure ():=by kernel_rfl
theorem IE(o a b:Value):argsOk "object.__init__" {[o,a],[(Lo "start",b)]}:=by
 unfold argsOk;kernel_rfl
theorem Er (x : Str) (t u : Tok) : Meets (LQ.«enumerate.__new__» {[.type "enumerate", .str x t], [(Lo "start", .int 1 u)]}) (fun _ R s =>
      R (.ok (.ret (.ref (s.heap.push { cls := .type (OM x), data := .fields #[.str x t, .int 0 0] }).objs.size)))
        { s with heap := (s.heap.push { cls := .type (OM x), data := .fields #[.str x t, .int 0 0] }).push { cls := .type "enumerate", data := .fields #[.none, .bool false, .ref s.heap.objs.size, MX 1, .none, .none] } }) :=
 .of_wp λprog w A R s h=>by
  obtain ⟨z,g,d,tk,os⟩:=s;have F:=sub_enumerate
  wp_walk
  refine wpAny_stack_any λst=>Ls ?_;split
  .rename_i c _ _ _ _ _;cases (c==type "enumerate")
   .wp_walk using Qu
    exact {_,rfl,h}
   .wp_walk using Qu
    exact {_,rfl,h}
  .wp_walk using Qu
   exact {_,rfl,h}
theorem K3(hl:typeLookup (.type T) We=pure (some (.builtin "object.__init__")))(hm:Bind.madeBy (.type T)=pure (some z))(G:(some z != some "object.__new__")=true):Meets (LQ.«object.__init__» {[self,a],kws}) (λ_ R s=>s.TypeIs self T/\R (.ok (.ret .none)) s):=by
 refine Meets.of_wp λprog w A R s=>x2e λJ F=>?_
 repeat (any_goals (first|assumption|wp_step))
 exact {_,rfl,F}
theorem Bq(z:TypeCalled T O "object.__init__")(YM:(some O != some "object.__new__")=true)(ai:checkTypeCall T {[a],kws}=pure ())(WY:Px O {[.type T,a],kws}=pure ())(hok:∀obj,argsOk "object.__init__" {[obj,a],kws})(G:entryFor table O=some Bn)(g:Meets (Bn {[.type T,a],kws}) S)(h:S A.in1 (wants (λobj s₁=>s₁.TypeIs obj T/\Q obj s₁) E) s):LM (LH prog w) A (call (.type T) [a] kws) Q E s:=by
 obtain ⟨c,tl,Z⟩:=z.mro;have W:=z.made;have W0:=z.sub;refine QY (A:=A) (codeAny_of_tree (A:=A) ?_);show LM (LH prog w) _ (callAny (.type T) _) _ _ _;refine Ls {Code.quiet_builtin _ (f!""),codeAny_builtin (A:=A) F.entry_type_call ?_};rw [LV.under_plain (weight_type_call_type T [a] kws) (units_type_call_type T [a] kws)];have k1:=z.notType;have k2:=z.canCreate
 repeat (any_goals (first|assumption|wp_step))
 refine OZ (PQ z.plain G (wpAny_of_eq WY (g prog w A.in1 _ s h))) λr s1 hr=>?_;cases r with
 | error e=>exact hr
 | ok fl =>
  cases fl with
  | ret obj =>
   have av:=z.init.lookup;have ab:=z.init.bind obj;have hT:=hr.1
   repeat (any_goals (first|assumption|wp_step))
   refine OZ (PQ z.init.plain F.entry_object_init (z.init.check _ _ _ _ _ _ _ _ hr.1 (hok obj) (K3 z.init.lookup z.made YM prog w A.in1 (wants (λr s2=>r = .none/\Q obj s2) E) s1 {hr.1,rfl,hr.2}))) λr2 s2 J=>?_;cases r2 with
   | error e=>exact J
   | ok U =>
    cases U with
    | ret r =>
     obtain ⟨rfl,hq⟩:=J
     repeat (any_goals (first|assumption|wp_step))
    | _=>exact J.elim
  | _=>exact hr.elim
theorem JX{t u:Tok}(h:∀h',IsEnum h' (s.heap.objs.size+1) s.heap.objs.size 1 .none->h'.IsStrIter s.heap.objs.size (OM x) x t 0->h'.objs.size=s.heap.objs.size+2->(∀b o,s.heap.get? b=some o->h'.get? b=some o)->Q (.ref (s.heap.objs.size+1)) { s with heap:=h' }):
  LM (LH prog w) A (call (.type "enumerate") [.str x t] [(Lo "start",.int 1 u)]) Q E s:=by
 refine Bq F.called_enumerate 'd' (BU _ _) (KF _ _) (λobj=>IE obj _ _) F.entry_enumerate_new (Er x t u) ?_;have z:(s.heap.push { cls:=.type (OM x),data:=.fields #[.str x t,.int 0 0] }).objs.size=s.heap.objs.size+1:=M0 ..;show _/\_;rw [z];have he:IsEnum ((s.heap.push { cls:=.type (OM x),data:=.fields #[.str x t,.int 0 0] }).push { cls:=.type "enumerate",data:=.fields #[.none,.bool false,.ref s.heap.objs.size,MX 1,.none,.none] }) (s.heap.objs.size+1) s.heap.objs.size 1 .none:=by
  have q:=LO (s.heap.push { cls:=.type (OM x),data:=.fields #[.str x t,.int 0 0] }) (o:={ cls:=.type "enumerate",data:=.fields #[.none,.bool false,.ref s.heap.objs.size,MX 1,.none,.none] }) rfl;rw [z] at q;exact q
 exact {{_,he,rfl},h _ he {_,Lm _ (LO _ rfl),rfl,rfl} (by rw [M0,z]) λb o y=>Lm _ (Lm _ y)}
theorem CV{pos:Pos}(G:args.any (·.1)=false)(z:F.any (·.1.isNone)=false)(h:LM M A (evalArgs (.type T) true args F) (λa s1=>LM M A (call (.type T) a.pos a.kw) Q E s1) E s):LM M A (OS pos (.type T) [] args F) Q E s:=by
 unfold OS;refine we (Mn (MK h (λa s1 h1=>we (Oe ?_)) λ_ _ x=>x));simp only [G,z,O4];exact we (Ls (we (MK h1 (λr s2 hr=>we (Mn (wpAny_point (Ls hr)))) λ_ _ x=>x)))
end
section
variable {X:Cx}
def vf(k:Nat)(ta:TE):TI:=λσ H R=>ta σ H λx H1=>uS x λz=>asc z=true/\R (ip z k) H1
theorem Cw{k:Nat}:vf k ta σ H R=ta σ H λx H1=>uS x λz=>asc z=true/\R (ip z k) H1:=rfl
theorem HZ(h:asc z=true):OM z="str_ascii_iterator":=by
 unfold OM;rw [show z.cps.all (· < 128)=true from h];rfl
theorem Ez{tp p pos kp cp:Pos}(hg:Gl X "enumerate")(hm:X.mg "enumerate"=none)(ha:W (PE X a ta))(hp:ak a=true:=by rfl):W (PIc true X (.Tuple YI kk tp) (.Call (.Name "enumerate" p) [a] [{some (Lo "start"),.Constant (.int 1) j cp,kp}] pos) (vf 1 ta)):=by
 refine {?_};have ha:=ha.h;intro Go s σ H R I h;have hs:Mb [a] X.env=[(false,MQ a X.env)]:=c8 hp;have U:=eI ha d0 (hs:=hs) pos Go s σ H (λys H2=>bZ (λy=>uS y λz=>asc z=true/\R (ip z 1) H2) ys) I h;refine Nr (d8 I hg hm boot_enumerate (CV (by rw [hs];rfl) rfl ?_));rw [hs] at U ⊢;refine evalArgs_kwB rfl (thn U λus s1=>x5e λvs H1 I1 r1 q1=>kws_cons (thn (jI Go s1 σ H1 (λv H=>v = .int 1/\H=H1) I1 {rfl,rfl}) λw2 s2=>x5e λy2 H2 G r2 Yo=>kws_nil ?_));obtain ⟨F,J⟩:=Yo;subst F J;obtain ⟨t2,rfl⟩:=r2;obtain ⟨y,rfl,z,ey,hz,q⟩:=bZ.ex q1;subst ey;cases r1 with
 | cons r Z =>
  cases Z;obtain ⟨t,rfl⟩:=r;refine JX (s:=s2) λh' S O a6 a7=>Pi (s:={ s2 with heap:=h' }) S ?_;rw [HZ hz] at O;refine {_,_,_,_,H2,rfl,G.kept (t':=s2.toks) a7,GH (Nat.succ_ne_self _),{{_,S},t,O},λb hb=>?_,q};have le:s2.heap.objs.size<=b:=by
   simp only [Lu,LS,or_false] at hb;rcases hb with rfl|rfl
   .exact Q5 _
   .exact Ll _
  exact G.RV le (G.hok.fresh le)
end
section
variable {K:Lq}{g:TG}{tb:TS}{D:aZ}{σ:St}{H:Hp}{tt:TT}{te:TE}{Q:VK}
theorem aj.UD{k:Nat}(F:Nat->St->Hp->Prop)(U:F 0 σ H)(hs:∀i c p σ H,z.cps[i]?=some c->F i σ H->H p=none->g (.ref p) σ (upd H p (.tup [.int ((i+k:Nat):Int),.str {#[c]}])) λG H2=>tb { D with nx:=F (i+1),ct:=F (i+1),bk:=D.nx } G H2)(hd:∀σ H,F z.cps.size σ H->D.nx σ H):aj (ip z k) g tb D σ H:=by
 refine {λi m σ H=>m=z.cps.size-i/\i<=z.cps.size/\F i σ H,{z.cps.size,'s',Mu _,U},?_};rintro i m σ H ⟨rfl,hi,p⟩;by_cases J:i<z.cps.size
 .refine .inr {J,F (i+1),λS H' W=>{z.cps.size-(i+1),'l',rfl,J,W},λx H' y=>?_};obtain ⟨T,c,O,rfl,hc,rfl⟩:=y;exact hs i c T σ _ hc p O
 .have e:i=z.cps.size:=by lia
  subst e;exact .inl {rfl,hd σ H p}
theorem zZ.str(G:Nat->St->List V->Hp->Prop)(U:∀i τ ys H,G i τ ys H->ys.length<sizeLine)(S:G 0 τ [] H)(hs:∀(N:St->List V->Hp->Prop) i c τ ys H,z.cps[i]?=some c->G i τ ys H->(∀τ ys H,G (i+1) τ ys H->N τ ys H)->g (.str {#[c]}) τ H λF H4=>tt F H4 λok H5=>dU N ys F te ok H5)(hd:∀τ ys H,G z.cps.size τ ys H->∀D H',New H D (.lst ys) H'->Q (.ref D) H'):zZ (Its z) g tt te τ H Q:=by
 refine {λi m τ ys H=>m=z.cps.size-i/\i<=z.cps.size/\G i τ ys H,{z.cps.size,'s',Mu _,S},?_};rintro i m τ ys H2 ⟨rfl,hi,p⟩;refine {U i τ ys H2 p,?_};by_cases J:i<z.cps.size
 .refine .inr {J,λx H' y=>?_};obtain ⟨e,c,hc,rfl⟩:=y;subst e;exact hs (λF ys H=>∃O,O<z.cps.size-i/\O=z.cps.size-(i+1)/\i+1<=z.cps.size/\G (i+1) F ys H) i c τ ys _ hc p λF zs H q=>{z.cps.size-(i+1),'l',rfl,J,q}
 .have e:i=z.cps.size:=by lia
  subst e;exact .inl {Ll _,λD W _=>hd τ ys H2 p D _ (.mk' W)}
end
section
variable {X:Cx}
def tH:List V->Hp->VK->Prop:=λxs H Q=>uR1 xs λp=>∃bs:List Bool,H p=some (.lst (bs.map V.bl))/\Q (.bl (bs.all id)) H
theorem Kc{bs:List Bool}:∀{us:List Value},zm (bs.map V.bl) us->us=bs.map OT:=by
 induction bs with
 | nil=>intro us r;rw [map_nil] at r;cases r;rfl
 | cons b bs z =>
  intro us r;rw [MD] at r;cases r with
  | cons F G=>rw [show _=OT b from F,z G];rfl
theorem Dl(hc:X.calm=true):zI X (.builtin "all") tH:=by
 intro Go s σ H xs us Q I r h;obtain ⟨p,rfl,bs,W,q⟩:=h;cases r with
 | cons G S =>
  cases S;cases (show _=Lx p from G);obtain ⟨its,Z,pl,_⟩:=I.list (SqL.of (K:=X.K) W);have e:=Kc Z;subst e;have U:p≠s.heap.objs.size:=by obtain ⟨o,e,_⟩:=pl.isList;exact MA (LX e)
  refine call_all_walk (OH pl.isList ?_);have hl:∀k:Nat,k=bs.length->(Oi k).all (λi=>bs.getD i true)=bs.all id:=by
   intro k e;subst e;rw [OE,Mx,Mx];constructor
   .intro h x hx;obtain ⟨i,hi,rfl⟩:=NB hx;have:=h i (P9.mpr hi);rw [Lr,KE hi] at this;exact this
   .intro h i hi;have hi:=P9.mp hi;rw [Lr,KE hi];exact h _ (Nw hi)
  refine {s.heap.objs.size,_,_,_,_,_,λi=>bs.getD i true,rfl,Walks.list (prog:=X.prog) (w:=X.w) (A:=X.A.in1) (show X.A.in1.handled=none from I.ok.hd hc) s.heap.objs.size p U (bs.map OT).toArray,{{_,LO _ rfl,rfl,rfl},pl.isList.push _},?_,λh' tk kp=>?_}
  .intro i v s2 J E2 z F;have z:(bs.map OT)[i]?=some v:=by simpa using z
   rw [LP] at z;cases e:bs[i]? with
   | none=>rw [e] at z;cases z
   | some b =>
    rw [e] at z;cases z;have O:bs.getD i true=b:=by rw [Lr,e];rfl
    have F:J (bs.getD i true) s2:=F;rw [O] at F;exact Ls F
  .refine {.bl _,H,I.kept (t':=tk) λb o e=>kp b o ?_ (Lm _ e),rfl,?_}
   .simpa using MA (LX e)
   .rw [hl _ 's'];exact q
theorem Eb{p:Addr}:tH [.ref p] H Q = ∃bs:List Bool,H p=some (.lst (bs.map V.bl))/\Q (.bl (bs.all id)) H:=fH
def uIn:R2:=λx y H Q=>(∃i j,x = .str i/\y = .str j/\Q (.bl (!(LQ.Str.occurrences j i 0 j.length 1).isEmpty)) H)\/∃p xs,y = .ref p/\(H p=some (.lst xs)\/H p=some (.tup xs))/\zF x=true/\xs.all zF=true/\Q (.bl (inV x xs)) H
theorem vV(F:X.A.units<cLine):OpR X (Mt .In) uIn:=(yY.or GR).weak λx y H Q h=>by
 rcases h with h|⟨p,xs,e,h,f1,z,q⟩
 .exact .inl h
 .exact .inr {p,xs,e,h.elim (λh=>.inl (SqL.of h)) (λh=>.inr (SqT.of h)),f1,z,by simpa using q}
theorem Ek:uIn (.str x) (.str y) H Q=Q (.bl (!(LQ.Str.occurrences y x 0 y.length 1).isEmpty)) H:=by simp [uIn]
theorem Jo{p:Addr}:uIn x (.ref p) H Q = ∃xs,(H p=some (.lst xs)\/H p=some (.tup xs))/\zF x=true/\xs.all zF=true/\Q (.bl (inV x xs)) H:=by simp [uIn]
def uM1(to te:TE)(r:Str->V->Hp->VK->Prop):TE:=λσ H Q=>to σ H λx H1=>uS x λz=>te σ H1 λy H2=>r z y H2 Q
theorem Lf{r:Str->V->Hp->VK->Prop}:uM1 to te r σ H Q=to σ H λx H1=>uS x λz=>te σ H1 λy H2=>r z y H2 Q:=rfl
theorem rW{o e:Mc}{id:String}{r:Str->V->Hp->VK->Prop}(G:Slot "str" m id)(Zz:typeOf (.builtin id)=pure (.type "method_descriptor"))(hr:∀(Go:List (Addr×Obj))(s:Lk)(σ:St)(H:Hp)(z:Str)(y:V)(t:Tok)(v:Value)(Q:VK),Inv X Go σ H s->zo y v->r z y H Q->LM (LH X.prog X.w) X.A (call (.builtin id) [.str z t,v]) (λu s1=>∃x H',Inv X Go σ H' s1/\zo x u/\Q x H') X.xe s)(ho:PE X o to)(he:PE X e te)(W:Nc o m X.env (MQ o X.env)=MQ o X.env:=by rfl)(Z:(Z2.endLine==cpos.line)=true:=by rfl)(hp:ak e=true:=by rfl):
  PE X (.Call (.Attribute o m Z2) [e] [] cpos) (uM1 to te r):=by
 intro Go s σ H Q I h;have hs:Mb [e] X.env=[(false,MQ e X.env)]:=c8 hp;refine Nz W (by rw [hs];rfl) Z rfl (thn (ho Go s σ H _ I h) λv s1=>x5e λx H1 S U Yo=>?_);obtain ⟨z,ex,q1⟩:=Yo;subst ex;obtain ⟨h1,h2⟩:=gn (T:="str") S U rfl;refine {"str",id,PySem.F.plainAttrs_str,G,Zz,h1,h2,?_};rw [hs];refine Calls.callWith_builtin rfl (Calls.evalArgs_plain ?_);have O:=eI he d0 (hs:=hs) cpos Go s1 σ H1 (λys H2=>bZ (λy=>r z y H2 Q) ys) S q1;rw [hs] at O;refine thn O λus s2=>x5e λvs H2 I2 r2 J=>?_;obtain ⟨t,rfl⟩:=U;obtain ⟨y,rfl,J⟩:=bZ.ex J;obtain ⟨_,rfl,ry⟩:=zm.one r2;exact hr Go s2 σ H2 z y t _ Q I2 ry J
def w6:Str->V->Hp->VK->Prop:=λz y H Q=>uS y λq=>Q (.int (O9 z q)) H
theorem Dh{o e:Mc}(ho:W (PE X o to))(he:W (PE X e te))(S:Nc o "rfind" X.env (MQ o X.env)=MQ o X.env:=by rfl)(J:(Z2.endLine==cpos.line)=true:=by rfl)(G:ak e=true:=by rfl):W (PE X (.Call (.Attribute o "rfind" Z2) [e] [] cpos) (uM1 to te w6)):=by
 refine {?_};have ho:=ho.h;have he:=he.h;exact
  rW PySem.F.slot_str_rfind PySem.F.type_str_rfind (λGo s σ H z y t v Q I O q=>by
   obtain ⟨w,rfl,q⟩:=q;obtain ⟨u,rfl⟩:=O;exact Oy PySem.F.slot_str_rfind (Pw _ _ _) PySem.F.entry_str_rfind (PySem.F.args_str_rfind_2 _ _) (gives_str_rfind z w t u).meets {.int _,H,I.tok _,{_,rfl},q}) ho he S J G
theorem Cu:w6 z (.str q) H Q=Q (.int (O9 z q)) H:=rR
theorem vj:∀(k:Nat)(ys:List Str),zm (ys.map V.str) (strsFrom k ys)
 | _,[]=>.nil
 | k,y::ys=>.cons {k,rfl} (vj (k+1) ys)
def vM:Str->V->Hp->VK->Prop:=λz y H Q=>uS y λq=>(q.length==0)=false/\z.length<sizeLine/\(MV z q).length<=sizeLine/\∀p H2,New H p (.lst ((MV z q).map V.str)) H2->Q (.ref p) H2
theorem Em{o e:Mc}(ho:W (PE X o to))(he:W (PE X e te))(ZG:Nc o "split" X.env (MQ o X.env)=MQ o X.env:=by rfl)(U:(Z2.endLine==cpos.line)=true:=by rfl)(hp:ak e=true:=by rfl):W (PE X (.Call (.Attribute o "split" Z2) [e] [] cpos) (uM1 to te vM)):=by
 refine {?_};have ho:=ho.h;have he:=he.h;exact
  rW Qg PySem.F.type_str_split (λGo s σ H z y t v Q I ry q=>by
   obtain ⟨w,rfl,O,Z,J,q⟩:=q;obtain ⟨u,rfl⟩:=ry;have G:∀(ys:List Str)(us:List Value)(k:Nat),ys=MV z w->zm (ys.map V.str) us->∃x H',Inv X Go σ H' { s with heap:=s.heap.push { cls:=.type "list",data:=.seq us.toArray },toks:=k }/\zo x (.ref s.heap.objs.size)/\Q x H':=λys us k e S=>by
    subst e;have hl:=S.length;rw [Ln] at hl;exact {.ref s.heap.objs.size,_,I.laid (t':=k) (o:=.lst _) (λb ob q=>Lm _ q) (Ll _) {by rw [Ln];exact J,us,0,S,LO _ rfl},rfl,q _ _ (.mk' (I.hok.fresh (Ll _)))}
   cases h1:(decide (z.length<w.length)||decide (LQ.Str.strKind z<LQ.Str.strKind w))
   .cases hf:(LQ.Str.occurrences z w 0 z.length (z.length+1)).isEmpty
    .have es:MV z w=LQ.Str.partsBetween z (LQ.Str.occurrences z w 0 z.length (z.length+1)) w.length:=(if_neg (ne_true_of_eq_false h1)).trans (if_neg (ne_true_of_eq_false hf));rw [es] at J;exact Oy Qg (Pw _ _ _) entry_str_split (args_str_split_2 _ _) (meets_str_split_sep z w t u h1 O hf (Nq Z) J) (G _ _ _ es.symm (vj _ _))
    .exact Oy Qg (Pw _ _ _) entry_str_split (args_str_split_2 _ _) (meets_str_split_not_found z w t u h1 O hf) (G [z] [.str z t] s.toks ((if_neg (ne_true_of_eq_false h1)).trans (if_pos hf)).symm (.cons {t,rfl} .nil))
   .exact Oy Qg (Pw _ _ _) entry_str_split (args_str_split_2 _ _) (meets_str_split_cannot_occur z w t u h1) (G [z] [.str z t] s.toks (if_pos h1).symm (.cons {t,rfl} .nil))) ho he ZG U hp
theorem Bg:vM z (.str q) H Q=((q.length==0)=false/\z.length<sizeLine/\(MV z q).length<=sizeLine/\∀p H2,New H p (.lst ((MV z q).map V.str)) H2->Q (.ref p) H2):=rR
def yP(te:TE):TE:=λσ H Q=>te σ H λx H1=>(∃z,x = .str z/\z.length<=sizeLine/\Q (.str z) H1)\/∃i,x = .int i/\i.natAbs.log2<1920/\Q (.str (toString i)) H1
def iX:V->Hp->VK->Prop:=λx H1 Q=>(∃z,x = .str z/\z.length<=sizeLine/\Q (.str z) H1)\/∃i,x = .int i/\i.natAbs.log2<1920/\Q (.str (toString i)) H1
theorem Km:yP te σ H Q=te σ H λx H1=>iX x H1 Q:=rfl
theorem Eu:iX (.str z) H Q=(z.length<=sizeLine/\Q (.str z) H):=by simp [iX]
theorem KU:iX (.int i) H Q=(i.natAbs.log2<1920/\Q (.str (toString i)) H):=by simp [iX]
theorem vS{pos:Pos}(he:W (PE X e te)):W (PE X (.FormattedValue e (-1) none pos) (yP te)):=by
 refine {?_};have he:=he.h;intro Go s σ H Q I h;refine FormattedValue_plain (thn (he Go s σ H _ I h) λv s1=>x5e λx H1 G F O=>?_);rcases O with ⟨z,rfl,J,q⟩|⟨i,rfl,hi,q⟩
 .obtain ⟨t,rfl⟩:=F;exact formatField_str (λt' tk=>{.str z,H1,G.tok _,{_,rfl},q}) J
 .obtain ⟨t,rfl⟩:=F;exact formatField_int_small hi {.str _,H1,G.tok _,{_,rfl},q}
abbrev TJ:=Str->TE
def PJ(X:Cx)(es:List Mc)(z:TJ):Prop:=∀(out:Str)(Go:List (Addr×Obj))(s:Lk)(σ:St)(H:Hp)(Q:VK),Inv X Go σ H s->z out σ H Q ->
 LM (LH X.prog X.w) X.A (joinParts out (evalEach es X.env)) (λu s1=>∃x H',Inv X Go σ H' s1/\zo x u/\Q x H') X.xe s
def xX:TJ:=λout _ H Q=>out.length<=sizeLine/\Q (.str out) H
def xK(te:TE)(z:TJ):TJ:=λout σ H Q=>te σ H λx H1=>uS x λy=>(out++y).length<=sizeLine/\z (out++y) σ H1 Q
theorem DG:W (PJ X [] xX):={λout Go s σ H Q I h=>joinParts_nil {.str out,H,I.tok _,{_,rfl},h.2} h.1}
theorem qy(he:W (PE X e te))(z:W (PJ X es F)):W (PJ X (e::es) (xK te F)):=by
 refine {?_};have he:=he.h;have z:=z.h;exact λout Go s σ H Q I h=>by
  refine joinParts_cons (thn (he Go s σ H _ I h) λv s1=>x5e λx H1 G S J=>?_);obtain ⟨y,rfl,O,q⟩:=J;obtain ⟨t,rfl⟩:=S;exact {O,z _ Go s1 σ H1 Q G q}
def wc(z:TJ):TE:=z Qb
theorem AC:wc z=z Qb:=rfl
theorem Jb{pos:Pos}(h:W (PJ X (e::z::es) F)):W (PE X (.JoinedStr (e::z::es) pos) (wc F)):=by refine {?_};have h:=h.h;exact λGo s σ H Q I q=>JoinedStr_many (h Qb Go s σ H Q I q)
def fO:List V->Hp->VK->Prop:=λxs H Q=>eB xs H Q\/∃z n,xs=[.str z]/\z.length<=640/\Pl z=some n/\Q (.int n) H
theorem EN:zI X (.type "int") fO:=by
 intro Go s σ H xs us Q I r h;rcases h with h|⟨z,n,rfl,hl,J,q⟩
 .exact GA Go s σ H xs us Q I r h
 .cases r with
  | cons G F =>
   cases F;obtain ⟨t,rfl⟩:=G;exact PySem.W.KIN.call_text J hl {.int n,H,I.tok _,{_,rfl},q}
theorem FX:fO [.int i] H Q=Q (.int i) H:=by simp [fO,eB]
theorem Cb{k:Bool}:fO [.bl k] H Q=Q (.int (if k then 1 else 0)) H:=by simp [fO,eB]
theorem D9:fO [.str z] H Q = ∃n,z.length<=640/\Pl z=some n/\Q (.int n) H:=by simp [fO,eB]
def fz:List V->Hp->VK->Prop:=λxs H Q=>f9 xs H Q\/∃z,xs=[.str z]/\Q (.str z) H
theorem Fh:zI X (.type "str") fz:=by
 intro Go s σ H xs us Q I r h;rcases h with h|⟨z,rfl,q⟩
 .exact KQ Go s σ H xs us Q I r h
 .cases r with
  | cons G F =>
   cases F;obtain ⟨t,rfl⟩:=G;exact PySem.P.str_of_str {.str z,H,I,{_,rfl},q}
theorem yJ:fz [.int i] H Q=(i.natAbs.log2<1920/\Q (.str (toString i)) H):=by simp [fz,f9]
theorem yO:fz [.str z] H Q=Q (.str z) H:=by simp [fz,f9]
def xA:List V->Hp->VK->Prop:=λxs H Q=>uR1 xs λp=>∃ys,H p=some (.lst ys)/\∀l H2,New H l (.tup ys) H2->Q (.ref l) H2
theorem yS:zI X (.type "tuple") xA:=EJ.weak λxs H Q h=>by
 obtain ⟨p,e,ys,h1,q⟩:=h;exact {p,ys,e,.inl {SqL.of h1,λl hl=>q l _ (.mk' hl)}}
theorem FU{p:Addr}:xA [.ref p] H Q = ∃ys,H p=some (.lst ys)/\∀l H2,New H l (.tup ys) H2->Q (.ref l) H2:=fH
def mQ:List V->Hp->VK->Prop:=λxs H Q=>∃x,xs=[.str x]/\x.length=1/\Q (.int (x.cps.getD 0 0:Nat)) H
theorem Et:zI X (.builtin "ord") mQ:=Iw
theorem FM:mQ [.str x] H Q=(x.length=1/\Q (.int (x.cps.getD 0 0:Nat)) H):=by simp [mQ]
inductive iG(w:LW):List DictEntry->List (Str×Addr)->Prop
 | nil:iG w [] []
 | cons {k:Str}{t:Tok}{r:Addr}{es:List DictEntry}{kvs:List (Str×Addr)}:iG w es kvs->iG w ({ hash:=OU w.params k,key:=.str k t,val:=.ref r }::es) ((k,r)::kvs)
structure jq(w:LW)(K:Lq)(a:Addr)(kvs:List (Str×Addr)):Prop where
 ex:∃es n,K.lookup a=some { cls:=.type "dict",dict:=none,data:=.dict es n,slots:=#[] }/\iG w es.toList kvs
 nd:(kvs.map (·.1)).Nodup
 ns:(a==sysModules)=false
def dP(kvs:List (Str×Addr))(z:Str):V:=match kvs.find? (λp=>p.1=z) with|some p=>.ref p.2|none=>.non
theorem uk:∀{es:List DictEntry}{kvs:List (Str×Addr)},iG w es kvs->PySem.Pairs (ax P w) es (kvs.map λp=>(Sum.inr p.1,Lx p.2))/\∀e∈es,∃k,(ax P w).is k e.key=true/\e.hash=(ax P w).hash k
 | _,_,.nil=>{.nil,λe he=>by cases he}
 | _,_,.cons (k:=k) (t:=t) h=>by
  obtain ⟨h1,h2⟩:=uk (P:=P) h;refine {.cons (jy P w k t) rfl h1,λe he=>?_};rcases Lu.mp he with rfl|he
  .exact {Sum.inr k,jy P w k t,rfl}
  .exact h2 e he
theorem jq.dictOf{K:Lq}{h:Heap}(D:jq w K a kvs)(F:∀o,K.lookup a=some o->h.get? a=some o):h.DictOf (ax P w) a (kvs.map λp=>(Sum.inr p.1,Lx p.2)):=by
 obtain ⟨es,n,h1,h2⟩:=D.ex;obtain ⟨G,p2⟩:=uk (P:=P) h2;refine {_,es,n,F _ h1,{rfl,rfl,rfl},rfl,λe he=>p2 e (by simpa using he),G,?_};rw [Mv];have e:((λp:Key×Value=>p.1)∘λp:Str×Addr=>((Sum.inr p.1:Key),Lx p.2))=(λz:Str=>(Sum.inr z:Key))∘(λp:Str×Addr=>p.1):=rfl;rw [e,<- Mv];exact Pairwise.map _ (λx y q z=>q (Sum.inr.inj z)) D.nd
def vH(kvs:List (Str×Addr))(te:TE):TE:=λσ H Q=>te σ H λy H1=>uS y λz=>Q (dP kvs z) H1
theorem Ew:vH kvs te σ H Q=te σ H λy H1=>uS y λz=>Q (dP kvs z) H1:=rfl
theorem GD:zo (dP kvs z) ((PySem.valueAt (kvs.map λp=>((Sum.inr p.1:Key),Lx p.2)) (Sum.inr z)).getD .none):=by
 unfold dP PySem.valueAt;rw [List.find?_map];have e:((λkv:Key×Value=>decide (kv.1=Sum.inr z))∘λp:Str×Addr=>((Sum.inr p.1:Key),Lx p.2))=λp:Str×Addr=>decide (p.1=z):=by
  funext p;simp
 rw [e];cases kvs.find? (λp=>decide (p.1=z)) with
 | none=>rfl
 | some p=>rfl
theorem K7(hg:Gl X x)(hm:X.mg x=some (.ref a))(D:jq X.w X.K a kvs)(he:W (PE X e te))(ZG:Nc (.Name x J) "get" X.env (MQ (.Name x J) X.env)=MQ (.Name x J) X.env:=by rfl)(ZF:(Z2.endLine==cpos.line)=true:=by rfl)(hp:ak e=true:=by rfl)(hd:(x==("__debug__":Str))=false:=by decide):W (PE X (.Call (.Attribute (.Name x J) "get" Z2) [e] [] cpos) (vH kvs te)):=by
 refine {?_};have he:=he.h;intro Go s σ H Q I h;have hs:Mb [e] X.env=[(false,MQ e X.env)]:=c8 hp;refine Nz ZG (by rw [hs];rfl) ZF rfl (thn (sL (v:=.ref a) hg {_,hm,rfl} hd Go s σ H (λv H1=>v = .ref a/\H1=H) I {rfl,rfl}) λv s1=>x5e λx1 H1 U r1 Yo=>?_);obtain ⟨ex,eH⟩:=Yo;subst ex eH;cases r1;have dd:=D.dictOf (P:=X.prog) (h:=s1.heap) λo ho=>U.Rt a o ho;refine {"dict","dict.get",QO,PC,PySem.F.type_dict_get,dd.typeIs,λb q=>?_,?_}
 .cases q;obtain ⟨ob,_,_,h1,h2,_⟩:=dd;exact ⟨ob,h1,h2.2.1⟩
 rw [hs];refine Calls.callWith_builtin rfl (Calls.evalArgs_plain ?_);have S:=eI he d0 (hs:=hs) cpos Go s1 σ H1 (λys H2=>bZ (λy=>uS y λz=>Q (dP kvs z) H2) ys) U h;rw [hs] at S;refine thn S λus s2=>x5e λvs H2 Z r2 O=>?_;obtain ⟨y,rfl,O⟩:=bZ.ex O;obtain ⟨_,rfl,ry⟩:=zm.one r2;obtain ⟨z,ey,q⟩:=O;subst ey;obtain ⟨t,rfl⟩:=ry;have G:=D.dictOf (P:=X.prog) (h:=s2.heap) λo ho=>Z.Rt a o ho;refine Ra PC G.typeIs entry_dict_get (PySem.F.args_dict_get_2 _ _) (meets_dict_get (ax X.prog X.w) a (jy X.prog X.w z t) D.ns) {_,G.mapOf,?_};exact {dP kvs z,H2,Z.tok _,GD,q}
end
section
variable {prog:Ly}{w:LW}{A:LV}{E:Value->Lk->Prop}{s:Lk}
theorem sD{h h':Heap}(x:h.IsTuple l xs)(k:∀o,h.get? l=some o->h'.get? l=some o):h'.IsTuple l xs:=by
 obtain ⟨o,e,r⟩:=x;exact {o,k o e,r}
theorem GZ{it t:Addr}(J:s.heap.IsTupleIter it t i)(O:s.heap.IsTuple t items)(hx:items[i]?=some x)(k:∀h',h'.IsTupleIter it t (i+1)->OA it s.heap h'->Q x { s with heap:=h' }):LM (LH prog w) A (LQ.SmallTypes.nextOf (.ref it)) Q E s:=by
 obtain ⟨o,ho,hc,hd⟩:=id J;obtain ⟨S,G,_,nl,z⟩:=O;unfold LQ.SmallTypes.nextOf;refine we (MI (name:=Lo "__next__") J.typeIs F.slot_tuple_iterator_next (M4 F.slot_tuple_iterator_next J.typeIs F.entry_tuple_iterator_next ?_ (F.args_tuple_iterator_next_1 _)));refine we (m:=Ql (.ref it) 0) (Md ho hd (x:=.ref t) rfl ?_);rw [if_neg (show ¬ ((Lx t==Mj)=true) by simp)];refine we (m:=Ql (.ref it) 1) (Md ho hd (x:=.int i 0) rfl (we (m:=seqItems? (.ref t)) (NP G z ?_)));simp only [Nb,hx];refine we (m:=setField _ _ _) (Nl ho hd 's' (Ls {x,rfl,Ls (k _ ?_ (OA.update ..))}));refine {_,NM _ ho (Nj (Ol hd _)),(Pm ..).trans hc,?_};rw [Ol hd];simp [MX]
theorem EC{it t:Addr}(Z:Hnd A s.heap)(O:s.heap.IsTupleIter it t i)(W:s.heap.IsTuple t items)(hx:items[i]?=none)(k:∀h' e,ExtBut it s.heap h'->(∃o,h'.get? e=some o/\o.cls = .type "StopIteration")->E (.ref e) { s with heap:=h' }):LM (LH prog w) A (LQ.SmallTypes.nextOf (.ref it)) Q E s:=by
 obtain ⟨o,ho,hc,hd⟩:=id O;obtain ⟨ol,J,_,nl,G⟩:=W;unfold LQ.SmallTypes.nextOf;refine we (MI (name:=Lo "__next__") O.typeIs F.slot_tuple_iterator_next (M4 F.slot_tuple_iterator_next O.typeIs F.entry_tuple_iterator_next ?_ (F.args_tuple_iterator_next_1 _)));refine we (m:=Ql (.ref it) 0) (Md ho hd (x:=.ref t) rfl ?_);rw [if_neg (show ¬ ((Lx t==Mj)=true) by simp)];refine we (m:=Ql (.ref it) 1) (Md ho hd (x:=.int i 0) rfl (we (m:=seqItems? (.ref t)) (NP J G ?_)));simp only [Nb,hx];refine we (Ng (we (Nl ho hd 's' ?_)));refine kK (Z.keeps λb q U e=>(Mq _ _ λz=>?_).trans e) λh' e up st=>k h' e (λb q hb z=>up b q ((Mq _ _ (L9 hb)).trans z)) st;obtain ⟨C,S⟩:=U;rw [<- z,ho] at e;cases e;rw [hc] at S;cases S
theorem CN{z TI TO i1 i2 O J:Addr}(D:ZipApart z TI TO i1 i2 O J)(S:IsZip s.heap z TI TO .none)(ab:O0 s.heap TI (.ref i1) (.ref i2))(ai:O0 s.heap TO a b)(h1:s.heap.IsTupleIter i1 O k1)(h2:s.heap.IsListIter i2 J k2)(WX:s.heap.IsTuple O xs)(X5:s.heap.IsList J ys)(hx:xs[k1]?=some x)(hy:ys[k2]?=some y)(k:∀h',IsZip h' z TI TO (MX s.heap.objs.size)->O0 h' TO x y->h'.IsTupleIter i1 O (k1+1)->h'.IsListIter i2 J (k2+1)->O0 h' s.heap.objs.size x y->h'.objs.size=s.heap.objs.size+1 ->
   (∀c o,c≠z->c≠TO->c≠i1->c≠i2->s.heap.get? c=some o->h'.get? c=some o)->Q (some (.ref s.heap.objs.size)) { s with heap:=h' }):LM (LH prog w) A (Pj (.ref z)) Q E s:=by
 have hT:s.TypeIs (.ref z) "zip":={_,S,rfl};have XB:∀(Q':Value->Lk->Prop)(E':Value->Lk->Prop),(∀h',IsZip h' z TI TO (MX s.heap.objs.size)->O0 h' TO x y->h'.IsTupleIter i1 O (k1+1)->h'.IsListIter i2 J (k2+1)->O0 h' s.heap.objs.size x y->h'.objs.size=s.heap.objs.size+1 ->
   (∀c o,c≠z->c≠TO->c≠i1->c≠i2->s.heap.get? c=some o->h'.get? c=some o)->Q' (.ref s.heap.objs.size) { s with heap:=h' }) ->
   LM (LH prog w) A.in1 (LQ.«zip.__next__» {[.ref z],[]}) (λfin s'=>∃v,fin = .done (.ret v)/\Q' v s') E' s:=by
  intro Q' E' kk;refine we (m:=Ql (.ref z) 2) (Md S rfl (x:=.bool false) rfl (we (m:=Ql (.ref z) 3) (Md S rfl (x:=.ref TI) rfl (we (NP ab rfl (we (m:=LQ.SmallTypes.ownedTupleIsFree (.ref z)) ?_))))));unfold LQ.SmallTypes.ownedTupleIsFree;refine we (Md S rfl (x:=.none) rfl (Ls ?_));simp only [if_true];refine we (Ng (we (Md S rfl (x:=.ref TO) rfl (we (Ot S 's' λg1 z1 s1=>?_)))))
  replace z1:IsZip g1 z TI TO .ellipsis:=z1
  refine we ?_;simp only [QT,List.zipIdx_nil,Q8,List.forIn_nil];refine we (we (wpAny_onRaise (we (m:=LQ.SmallTypes.nextOf (.ref i1)) ?_)));refine GZ (s:={ s with heap:=g1 }) (h1.at λo e=>s1.extBut _ o D.i1z e) (sD WX λo e=>s1.extBut _ o D.l1z e) hx λg2 a2 s2=>Ls ?_;have t2:O0 g2 TO a b:=s2.extBut _ _ D.TOi1 (s1.extBut _ _ D.TOz ai);refine we (NP t2 rfl (we (wpAny_updateSeq_pair t2 λg3 t3 U=>?_)))
  replace t3:O0 g3 TO x b:=t3
  refine we (wpAny_letGo (Ls (we (we (wpAny_onRaise (we (m:=LQ.SmallTypes.nextOf (.ref i2)) ?_))))));refine wpAny_nextOf_list_item (((h2.extBut s1.extBut D.i2z).extBut s2.extBut D.i12.symm).extBut U.extBut D.TOi2.symm) (((X5.extBut s1.extBut D.l2z).extBut s2.extBut D.l2i1).extBut U.extBut D.l2TO) hy λg4 b4 s4=>Ls ?_;have t4:O0 g4 TO x b:=s4.extBut _ _ D.TOi2 t3;refine we (NP t4 rfl (we (wpAny_updateSeq_pair t4 λG t5 s5=>?_)))
  replace t5:O0 G TO x y:=t5
  refine we (wpAny_letGo (Ls (Ls (we (NP t5 rfl (we (Qd ?_)))))));have sz:G.objs.size=s.heap.objs.size:=by rw [s5.1,s4.1,U.1,s2.1,s1.1]
  have z5:IsZip G z TI TO .ellipsis:=s5.extBut _ _ D.TOz.symm (s4.extBut _ _ D.i2z.symm (U.extBut _ _ D.TOz.symm (s2.extBut _ _ D.i1z.symm z1)));have YB:∀c o,c≠z->c≠TO->c≠i1->c≠i2->s.heap.get? c=some o->G.get? c=some o:=λc o c1 c2 c3 c4 e=>s5.extBut _ _ c2 (s4.extBut _ _ c4 (U.extBut _ _ c2 (s2.extBut _ _ c3 (s1.extBut _ _ c1 e))));have a5:G.IsTupleIter i1 O (k1+1):=a2.at λo e=>s5.extBut _ _ D.TOi1.symm (s4.extBut _ _ D.i12 (U.extBut _ _ D.TOi1.symm e));have b5:G.IsListIter i2 J (k2+1):=b4.extBut s5.extBut D.TOi2.symm;have WB:z<G.objs.size:=LX z5;refine we (m:=LQ.SmallTypes.ownedTupleHandOut (.ref z) (.ref G.objs.size)) ?_;unfold LQ.SmallTypes.ownedTupleHandOut;have z6:IsZip (G.push { cls:=.type "tuple",data:=.seq #[x,y] }) z TI TO .ellipsis:=Lm _ z5;refine we (Ot z6 's' λg7 z7 s7=>?_)
  replace z7:IsZip g7 z TI TO (MX G.objs.size):=z7
  refine Ot z7 's' λZ z8 s8=>?_
  replace z8:IsZip Z z TI TO (MX G.objs.size):=z8
  have up:∀c o,c≠z->G.get? c=some o->Z.get? c=some o:=λc o c1 e=>s8.extBut _ _ c1 (s7.extBut _ _ c1 (Lm _ e));have t8:O0 Z G.objs.size x y:=s8.extBut _ _ (Ob WB) (s7.extBut _ _ (Ob WB) (LO _ rfl));have W:Z.objs.size=G.objs.size+1:=by rw [s8.1,s7.1,M0]
  rw [sz] at z8 t8 W;refine Ls {_,rfl,?_};show Q' (.ref G.objs.size) _;rw [sz];exact kk Z z8 (up _ _ D.TOz t5) (a5.at λo e=>up _ o D.i1z e) (b5.at λo e=>up _ o D.i2z e) t8 W λc o c1 c2 c3 c4 e=>up c o c1 (YB c o c1 c2 c3 c4 e)
 unfold Pj;exact we (Of (MI (name:=Lo "__next__") hT F.slot_zip_next (M4 F.slot_zip_next hT F.entry_zip_next (XB _ _ λh' q1 q2 q3 q4 q5 q6 q7=>Ls (k h' q1 q2 q3 q4 q5 q6 q7)) (F.args_zip_next_1 _))))
theorem G9{z TI TO i1 i2 U l2:Addr}(hh:Hnd A s.heap)(D:ZipApart z TI TO i1 i2 U l2)(G:IsZip s.heap z TI TO .none)(O:O0 s.heap TI (.ref i1) (.ref i2))(ab:O0 s.heap TO a b)(h1:s.heap.IsTupleIter i1 U k1)(WX:s.heap.IsTuple U xs)(hx:xs[k1]?=none)(k:∀h',(∀c o,c≠z->c≠i1->s.heap.get? c=some o->h'.get? c=some o)->Q none { s with heap:=h' }):LM (LH prog w) A (Pj (.ref z)) Q E s:=by
 have Z:s.TypeIs (.ref z) "zip":={_,G,rfl};have XB:∀(Q':Fin->Lk->Prop)(S:Value->Lk->Prop),(∀h' e,(∀c o,c≠z->c≠i1->s.heap.get? c=some o->h'.get? c=some o)->(∃o,h'.get? e=some o/\o.cls = .type "StopIteration")->S (.ref e) { s with heap:=h' }) ->
   LM (LH prog w) A.in1 (LQ.«zip.__next__» {[.ref z],[]}) Q' S s:=by
  intro Q' S kE;refine we (m:=Ql (.ref z) 2) (Md G rfl (x:=.bool false) rfl (we (m:=Ql (.ref z) 3) (Md G rfl (x:=.ref TI) rfl (we (NP O rfl (we (m:=LQ.SmallTypes.ownedTupleIsFree (.ref z)) ?_))))));unfold LQ.SmallTypes.ownedTupleIsFree;refine we (Md G rfl (x:=.none) rfl (Ls ?_));simp only [if_true];refine we (Ng (we (Md G rfl (x:=.ref TO) rfl (we (Ot G 's' λg1 z1 s1=>?_)))));refine we ?_;simp only [QT,List.zipIdx_nil,Q8,List.forIn_nil];refine we (we (wpAny_onRaise (we (m:=LQ.SmallTypes.nextOf (.ref i1)) ?_)));have W:Hnd A.in1 g1:=Hnd.keeps (h:=s.heap) hh λc o ⟨C,hC⟩ e=>s1.extBut c o (λq=>by rw [q,G] at e;cases e;cases hC) e;refine EC (s:={ s with heap:=g1 }) W (h1.at λo e=>s1.extBut _ o D.i1z e) (sD WX λo e=>s1.extBut _ o D.l1z e) hx λg2 e s2 st=>?_;obtain ⟨oe,J,ce⟩:=st;have z2:IsZip g2 z TI TO .ellipsis:=s2 _ _ D.i1z.symm z1;have ez:e≠z:=λq=>by rw [q,z2] at J;cases J;simp at ce
  exact Ot z2 's' λg3 _ s3=>kE g3 e (λc o c1 c2 q=>s3.extBut _ _ c1 (s2 _ _ c2 (s1.extBut _ _ c1 q))) {oe,s3.extBut _ _ ez J,ce}
 unfold Pj;refine we (Of (MI (name:=Lo "__next__") Z F.slot_zip_next (M4 F.slot_zip_next Z F.entry_zip_next (XB _ _ λh' e up st=>?_) (F.args_zip_next_1 _))));obtain ⟨o,g,c⟩:=st;exact we (Pu (T:="StopIteration") (b:=true) ⟨o,g,c⟩ Qj (Ls (k h' up)))
end
abbrev zT1(h:Heap)(z:Addr):Heap:=h.push { cls:=.type "tuple_iterator",data:=.fields #[.ref z,.int 0 0] }
abbrev zT2(h:Heap)(z F:Addr):Heap:=(zT1 h z).push { cls:=.type "list_iterator",data:=.fields #[.ref F,.int 0 0] }
abbrev zT3(h:Heap)(z F:Addr):Heap:=(zT2 h z F).push { cls:=.type "tuple",data:=.seq #[.ref h.objs.size,.ref (zT1 h z).objs.size] }
abbrev zT4(h:Heap)(z F:Addr):Heap:=(zT3 h z F).push { cls:=.type "tuple",data:=.seq #[.none,.none] }
abbrev zT5(h:Heap)(z F:Addr):Heap:=(zT4 h z F).push { cls:=.type "zip",data:=.fields #[.none,.bool false,.bool false,.ref (zT2 h z F).objs.size,.ref (zT3 h z F).objs.size] }
theorem HL(z F:Addr)(xs ys:Array Value):Meets (LQ.«zip.__new__» {[.type "zip",.ref z,.ref F],[]}) (λ_ R s=>s.heap.IsTuple z xs/\s.heap.IsList F ys/\R (.ok (.ret (.ref (zT4 s.heap z F).objs.size))) { s with heap:=zT5 s.heap z F }) :=
 .of_wp λprog w A R s h=>by
  obtain ⟨O,g,d,tk,os⟩:=s;obtain ⟨S,U,h⟩:=h;have W:=sub_zip;have J:Heap.IsTuple (Lk.heap ⟨O,g,d,tk,os⟩) z xs:=S;have G:Heap.IsList (Lk.heap {O.push { cls:=.type "tuple_iterator",data:=.fields #[.ref z,.int 0 0] },g,d,tk,os}) F ys:=Heap.IsList.push U _
  wp_walk using wpAny_pyIter_tuple J,OH G
  exact {_,rfl,h}
section
variable {prog:Ly}{w:LW}{A:LV}{E:Value->Lk->Prop}{s:Lk}
theorem GS(WX:s.heap.IsTuple z xs)(X5:s.heap.IsList G ys)(h:∀h',IsZip h' (s.heap.objs.size+4) (s.heap.objs.size+2) (s.heap.objs.size+3) .none->O0 h' (s.heap.objs.size+2) (.ref s.heap.objs.size) (.ref (s.heap.objs.size+1)) ->
   O0 h' (s.heap.objs.size+3) .none .none->h'.IsTupleIter s.heap.objs.size z 0->h'.IsListIter (s.heap.objs.size+1) G 0->h'.objs.size=s.heap.objs.size+5 ->
   (∀c o,s.heap.get? c=some o->h'.get? c=some o)->Q (.ref (s.heap.objs.size+4)) { s with heap:=h' }):LM (LH prog w) A (call (.type "zip") [.ref z,.ref G]) Q E s:=by
 refine callType_new F.called_zip 'd' (F.typeCall_zip_2 _ _) (F.newCall_zip_2 _ _) (λobj=>F.args_object_init_3 obj _ _) F.entry_zip_new (HL z G xs ys) {WX,X5,?_};have O:(zT1 s.heap z).objs.size=s.heap.objs.size+1:=M0 ..;have U:(zT2 s.heap z G).objs.size=s.heap.objs.size+2:=by rw [M0,O]
 have J:(zT3 s.heap z G).objs.size=s.heap.objs.size+3:=by rw [M0,U]
 have S:(zT4 s.heap z G).objs.size=s.heap.objs.size+4:=by rw [M0,J]
 have z5:(zT5 s.heap z G).objs.size=s.heap.objs.size+5:=by rw [M0,S]
 have W:(zT5 s.heap z G).get? (zT4 s.heap z G).objs.size=some _:=LO _ rfl;have g4:(zT5 s.heap z G).get? (zT3 s.heap z G).objs.size=some _:=Lm _ (LO _ rfl);have g3:(zT5 s.heap z G).get? (zT2 s.heap z G).objs.size=some _:=Lm _ (Lm _ (LO _ rfl));have Z:(zT5 s.heap z G).get? (zT1 s.heap z).objs.size=some _:=Lm _ (Lm _ (Lm _ (LO _ rfl)));have g1:(zT5 s.heap z G).get? s.heap.objs.size=some _:=Lm _ (Lm _ (Lm _ (Lm _ (LO _ rfl))));show _/\_;rw [U,J,S] at W;rw [O,U] at g3;rw [J] at g4;rw [O] at Z;rw [S];refine {{_,W,rfl},h _ W g3 g4 {_,g1,rfl,rfl} {_,Z,rfl,rfl} z5 λc o x=>?_};exact Lm _ (Lm _ (Lm _ (Lm _ (Lm _ x))))
end
def lH(K:Lq)(a b:Addr):It :=
 {λi H=>∃xs ys x y,SqT K H a xs/\SqL K H b ys/\xs[i]?=some x/\ys[i]?=some y,λi H v H'=>∃T x y,H T=none/\v = .ref T/\H'=upd H T (.tup [x,y])/\(∀xs,SqT K H a xs->xs[i]?=some x)/\∀ys,SqL K H b ys->ys[i]?=some y,
  λi H=>∃xs ys,SqT K H a xs/\SqL K H b ys/\xs.length<=i}
structure lC(z TI TO i1 i2 l1 l2:Addr)(i:Nat)(h:Heap):Prop where
 z:IsZip h z TI TO .none
 ti:O0 h TI (.ref i1) (.ref i2)
 to:∃a b,O0 h TO a b
 a:h.IsTupleIter i1 l1 i
 b:h.IsListIter i2 l2 i
theorem lC.keep{z TI TO i1 i2 G F:Addr}(x:lC z TI TO i1 i2 G F i h)(k:∀b∈[z,TI,TO,i1,i2],∀o,h.get? b=some o->h'.get? b=some o):lC z TI TO i1 i2 G F i h':=by
 obtain ⟨U,S,⟨u,v,W⟩,O,J⟩:=x;exact {k _ 's' _ U,k _ 's' _ S,{u,v,k _ 's' _ W},O.at λo e=>k _ 's' o e,J.at λo e=>k _ 's' o e}
theorem Ii{P:Ly}{w:LW}{K:Lq}{YI:List Mc}{kk:Nat}{tp:Pos}{l1 l2 z TI TO i1 i2:Addr}(D:ZipApart z TI TO i1 i2 l1 l2) :
  dF false P w K (.Tuple YI kk tp) (lH K l1 l2) [z,TI,TO,i1,i2] z (lC z TI TO i1 i2 l1 l2) where
 mem:=by simp
 obj:=λi h st b hb=>by
  obtain ⟨a1,U,⟨u,v,a3⟩,⟨o4,G,_,d4⟩,⟨o5,S,_,d5⟩⟩:=st;simp only [Lu,LS,or_false] at hb;rcases hb with rfl|rfl|rfl|rfl|rfl
  .exact {_,a1,λv q=>nomatch q}
  .exact {_,U,λv q=>nomatch q}
  .exact {_,a3,λv q=>nomatch q}
  .exact {_,G,λv q=>by rw [d4] at q;cases q}
  .exact {_,S,λv q=>by rw [d5] at q;cases q}
 keep:=λi h h' st k=>st.keep k
 item:=by
  intro X hP hw hK hc i Go s σ H E I hf st hg;subst hP hw hK;obtain ⟨xs,ys,x,y,F,O,hx,hy⟩:=hg;obtain ⟨aL,WC,p1,W9⟩:=I.tuple F;obtain ⟨a8,aT,p2,a7⟩:=I.list O;obtain ⟨u1,ai,ab⟩:=WC.get hx;obtain ⟨u2,av,a0⟩:=aT.get hy;obtain ⟨a1,U,⟨u,v,a3⟩,G,S⟩:=st;refine CN D a1 U a3 G S p1 p2.isList (x:=u1) (y:=u2) (by simpa using ai) (by simpa using av) λh' b1 b2 b3 b4 b5 b6 b7=>?_;refine {_,rfl,wpAny_letOwnedTupleGo_zip (s:={ s with heap:=h' }) b1 λh2 c1 Z=>?_};have WB:z<s.heap.objs.size:=LX a1;have nz:s.heap.objs.size≠z:=Ob WB;have all:∀c o,c≠z->c≠TO->c≠i1->c≠i2->s.heap.get? c=some o->h2.get? c=some o:=λc o n1 n2 n3 n4 e=>Z.extBut c o n1 (b7 c o n1 n2 n3 n4 e);have tT:h2.get? s.heap.objs.size=some { cls:=.type "tuple",data:=.seq #[u1,u2] }:=Z.extBut _ _ nz b5;have YJ:H s.heap.objs.size=none:=I.hok.fresh (Ll _);have WA:HOk X.prog X.w H h2:=λb u e=>by
   refine (I.hok b u e).stay (λc v hc q=>?_) (λ_ q=>q) λ_ _ q=>q;have W:∀d∈[z,TI,TO,i1,i2],c≠d:=λd hd w=>by
    have fd:=(hf d hd).1;rcases hc with k|k
    .rw [k] at w;rw [w,fd] at e;cases e
    .rw [w,fd] at k;cases k
   exact all c v (W z 's') (W TO 's') (W i1 's') (W i2 's') q
  have a6:∀b o,s.heap.get? b=some o->b≠s.heap.objs.size:=λb o e=>MA (LX e);have I2:Inv X Go σ (upd H s.heap.objs.size (.tup [x,y])) { s with heap:=h2 }:=by
   refine I.step (g':=s.gens) (d':=s.drawn) (t':=s.toks) (ch:=[z,TO,i1,i2]) (λb hb=>?_) (λb o _ _ hb e _=>?_) (λb o _ _ hb e _=>?_) (λb o _ e n=>?_) (λb o hb e=>?_) (λb ps e=>?_) (λb o u e=>?_) (λb ps e=>?_) (λm hm=>?_) (WA.add YJ ?_) I.bare
   .have J:b∈[z,TI,TO,i1,i2]:=by simp only [Lu,LS,or_false] at hb ⊢;rcases hb with h|h|h|h<;>simp [h]
    obtain ⟨f0,f1,f2,f3,f4,f5⟩:=hf b J;exact ⟨f3,f1,f4,f5⟩
   .simp only [Lu,LS,or_false,not_or] at hb;exact all b o hb.1 hb.2.1 hb.2.2.1 hb.2.2.2 e
   .simp only [Lu,LS,or_false,not_or] at hb;exact {o.slots,all b o hb.1 hb.2.1 hb.2.2.1 hb.2.2.2 e}
   .rw [zd (a6 b o e)];exact n
   .simp only [Lu,LS,or_false,not_or] at hb;exact {o,all b o hb.1 hb.2.1 hb.2.2.1 hb.2.2.2 e}
   .rw [zd (zr e YJ)];exact e
   .rw [zd (zr e YJ)];exact e
   .exact {#[],by rw [zd (zr e YJ),e];simp}
   .obtain ⟨o,es,ep,ho,r⟩:=hm;exact {o,es,ep,all _ o (L9 (hf z 's').2.1) (L9 (hf TO 's').2.1) (L9 (hf i1 's').2.1) (L9 (hf i2 's').2.1) ho,r}
   .exact {by show 2<=sizeLine;decide,[u1,u2],.cons ab (.cons a0 .nil),{_,tT,rfl,_,rfl}}
  refine {.ref s.heap.objs.size,_,I2,rfl,{_,x,y,YJ,rfl,rfl,λzs hz=>by rw [I.RX hz F];exact hx,λzs hz=>by rw [I.RF hz O];exact hy},?_,λb hb=>?_}
  .exact {c1,Z.extBut _ _ D.TIz (b7 _ _ D.TIz D.TITO D.TIi1 D.TIi2 U),{u1,u2,Z.extBut _ _ D.TOz b2},b3.at λo e=>Z.extBut _ o D.i1z e,b4.extBut Z.extBut D.i2z}
  .have ne:b≠s.heap.objs.size:=λq=>by
    have:b<s.heap.objs.size:=by
     simp only [Lu,LS,or_false] at hb;obtain ⟨o4,G,_⟩:=G;obtain ⟨o5,S,_⟩:=S;rcases hb with rfl|rfl|rfl|rfl|rfl
     .exact WB
     .exact LX U
     .exact LX a3
     .exact LX G
     .exact LX S
    exact absurd (q ▸ this) (MB _)
   rw [zd ne];exact (hf b hb).1
 done:=by
  intro X hP hw hK hc i Go s σ H E I hf st hg;subst hP hw hK;obtain ⟨xs,ys,F,O,hx⟩:=hg;obtain ⟨aL,WC,p1,W9⟩:=I.tuple F;have hl:=WC.length;obtain ⟨a1,U,⟨u,v,a3⟩,G,S⟩:=st;refine G9 I.hnd D a1 U a3 G p1 (by simp;lia) λh' up=>{rfl,?_};refine I.step (g':=s.gens) (d':=s.drawn) (t':=s.toks) (ch:=[z,i1]) (λb hb=>?_) (λb o _ _ hb e _=>?_) (λb o _ _ hb e _=>?_) (λ_ _ _ _ n=>n) (λb o hb e=>?_) (λ_ _ e=>e) (λ_ _ _ e=>e) (λb ps e=>{#[],by rw [e];simp}) (λm hm=>?_) (λb u e=>?_) I.bare
  .have J:b∈[z,TI,TO,i1,i2]:=by simp only [Lu,LS,or_false] at hb ⊢;rcases hb with h|h<;>simp [h]
   obtain ⟨f0,f1,f2,f3,f4,f5⟩:=hf b J;exact ⟨f3,f1,f4,f5⟩
  .simp only [Lu,LS,or_false,not_or] at hb;exact up b o hb.1 hb.2 e
  .simp only [Lu,LS,or_false,not_or] at hb;exact {o.slots,up b o hb.1 hb.2 e}
  .simp only [Lu,LS,or_false,not_or] at hb;exact {o,up b o hb.1 hb.2 e}
  .obtain ⟨o,es,ep,ho,r⟩:=hm;exact {o,es,ep,up _ o (L9 (hf z 's').2.1) (L9 (hf i1 's').2.1) ho,r}
  .refine (I.hok b u e).stay (λc v hc q=>?_) (λ_ q=>q) λ_ _ q=>q;have W:∀d∈[z,TI,TO,i1,i2],c≠d:=λd hd w=>by
    have fd:=(hf d hd).1;rcases hc with k|k
    .rw [k] at w;rw [w,fd] at e;cases e
    .rw [w,fd] at k;cases k
   exact up c v (W z 's') (W i1 's') q
 self:=λ_ _ _ _ _ st h=>wpAny_pyIter_zip st.z h
section
variable {X:Cx}
def wY(K:Lq)(ta:TA):TI:=λσ H R=>ta σ H λvs H1=>∃a b,vs=[.ref a,.ref b]/\(∃xs,SqT K H1 a xs)/\(∃ys,SqL K H1 b ys)/\R (lH K a b) H1
theorem An{tp p pos:Pos}(hg:Gl X "zip")(hm:X.mg "zip"=none)(ha:W (PA X [a,b] ta))(hs:Mb [a,b] X.env=[(false,MQ a X.env),(false,MQ b X.env)]:=by rfl)(Z:Mb [b] X.env=[(false,MQ b X.env)]:=by rfl):W (PIc false X (.Tuple YI kk tp) (.Call (.Name "zip" p) [a,b] [] pos) (wY X.K ta)):=by
 refine {?_};have ha:=ha.h;intro Go s σ H R I h;refine Call_ (d8 I hg hm boot_zip (Nx (thn (ha pos Go s σ H _ I h) λus s1=>x5e λvs H1 z r1 q1=>?_) (by rw [hs,Z]) (by rw [Z];rfl)));obtain ⟨U,O,e,⟨xs,h1⟩,⟨ys,h2⟩,q⟩:=q1;subst e;cases r1 with
 | cons r F =>
  cases F with
  | cons r' F =>
   cases F;cases (show _=Lx U from r);cases (show _=Lx O from r');obtain ⟨ab,WC,p1,_⟩:=z.tuple h1;obtain ⟨ai,av,p2,_⟩:=z.list h2;have J:U<s1.heap.objs.size:=by obtain ⟨o,e,_⟩:=p1;exact LX e
   have G:O<s1.heap.objs.size:=by obtain ⟨o,e,_⟩:=p2.isList;exact LX e
   refine GS p1 p2.isList λh' S a2 a3 a4 a5 a6 a7=>wpAny_pyIter_zip (s:={ s1 with heap:=h' }) S ?_;refine {_,_,_,_,H1,rfl,z.kept (t':=s1.toks) a7,Ii (zipApart_new J G),{S,a2,{_,_,a3},a4,a5},λb hb=>?_,q};have le:s1.heap.objs.size<=b:=by
    simp only [Lu,LS,or_false] at hb;rcases hb with rfl|rfl|rfl|rfl|rfl<;>lia
   exact z.RV le (z.hok.fresh le)
end
section
variable {K:Lq}{g:TG}{tb:TS}{D:aZ}{σ:St}{H:Hp}{ta:TA}{R:It->Hp->Prop}
theorem IU:wY K ta σ H R=ta σ H λvs H1=>uR2 vs λa b=>(∃xs,SqT K H1 a xs)/\(∃ys,SqL K H1 b ys)/\R (lH K a b) H1:=by
 apply propext;constructor
 .intro h;exact h
 .intro h;exact h
theorem aj.UJ(Z:xs.length=ys.length)(z:Nat->St->Hp->Prop)(W:z 0 σ H)(hl:∀i σ H,i<=xs.length->z i σ H->SqT K H a xs/\SqL K H b ys)(hs:∀i x y p σ H,xs[i]?=some x->ys[i]?=some y->z i σ H->H p=none->g (.ref p) σ (upd H p (.tup [x,y])) λO H2=>tb { D with nx:=z (i+1),ct:=z (i+1),bk:=D.nx } O H2)(hd:∀σ H,z xs.length σ H->D.nx σ H):aj (lH K a b) g tb D σ H:=by
 refine {λi m σ H=>m=xs.length-i/\i<=xs.length/\z i σ H,{xs.length,'s',Mu _,W},?_};rintro i m σ H ⟨rfl,hi,p⟩;obtain ⟨J,G⟩:=hl i σ H hi p;by_cases F:i<xs.length
 .refine .inr {{xs,ys,xs[i],ys[i]''l',J,G,by simp [F],by simp [Z ▸ F]},z (i+1),λU H' p'=>{xs.length-(i+1),'l',rfl,F,p'},λv H' y=>?_};obtain ⟨T,x,y,S,rfl,rfl,hx,hy⟩:=y;exact hs i x y T σ _ (hx xs J) (hy ys G) p S
 .have e:i=xs.length:=by lia
  subst e;exact .inl {{xs,ys,J,G,Ll _},hd σ H p}
end
def tx(l:List Nat):Str:=⟨l.toArray⟩
def sg(z:Str):List Nat:=z.cps.toList
theorem dy(l:List Nat):sg (tx l)=l:=by simp [sg,tx]
theorem iH(z:Str):tx (sg z)=z:=by cases z;simp [sg,tx]
theorem pj(h:sg a=sg b):a=b:=by rw [<- iH a,h,iH]
theorem d9(a b:Str):sg (a++b)=sg a++sg b:=by simp [sg,Str.cps_append]
theorem ag(z:Str):(sg z).length=z.length:=by simp [sg,Str.length]
theorem tZ(l:List Nat):(tx l).length=l.length:=by simp [tx,Str.length]
def c1(c:Nat):Str:={#[c]}
theorem j6:StrLaws.At x (c1 c) x.length i↔(sg x)[i]?=some c:=by
 unfold StrLaws.At;rw [StrLaws.subAt_eq];show i+1<=x.length/\((((sg x).drop i).take 1)==[c])=true↔_;rw [<- ag x];constructor
 .rintro ⟨h1,h2⟩;have h2:=eq_of_beq h2;rw [KE 'l'];have h3:((sg x).drop i).take 1=[(sg x)[i]''l']:=by
   rw [NT 'l'];rfl
  rw [h3] at h2;injection h2 with h2 _
  rw [h2]
 .intro h;obtain ⟨h1,h2⟩:=Lp.mp h;refine {'l',?_};rw [NT h1,h2];simp
theorem IR(y:Str)(c:Nat):(!(LQ.Str.occurrences y {#[c]} 0 y.length 1).isEmpty)=(sg y).contains c:=by
 rcases StrLaws.occ_head y (c1 c) 1 (Ll _) with ⟨h,z⟩|⟨i,r,h,ha,_⟩
 .rw [show LQ.Str.occurrences y {#[c]} 0 y.length 1=[] from h];symm;show (sg y).contains c=false;rw [Ox];intro hc;obtain ⟨i,hi,e⟩:=NB (NY.mp hc);exact z i (j6.mpr (by rw [KE hi,e]))
 .rw [show LQ.Str.occurrences y {#[c]} 0 y.length 1=i::r from h];symm;exact NY.mpr (LF (j6.mp ha))
def aw(c:Nat):List Nat->List (List Nat)
 | []=>[[]]
 | x::t=>if x=c then []::aw c t else match aw c t with
  | []=>[[x]]
  | h::r=>(x::h)::r
def eT(p:List Nat):List (List Nat)->List (List Nat)
 | []=>[p]
 | h::r=>(p++h)::r
theorem fk(c:Nat):∀l,∃h r,aw c l=h::r
 | []=>{_,_,rfl}
 | x::t=>by
  unfold aw;split
  .exact {_,_,rfl}
  .obtain ⟨h,r,e⟩:=fk c t;rw [e];exact {_,_,rfl}
theorem iq(c x:Nat)(t:List Nat)(h:x≠c):aw c (x::t)=eT [x] (aw c t):=by
 obtain ⟨a,r,e⟩:=fk c t;show (if x=c then _ else _)=_;rw [if_neg h,e];rfl
theorem CQ(p q:List Nat)(l:List (List Nat)):eT p (eT q l)=eT (p++q) l:=by
 cases l<;>simp [eT]
theorem oV(s:Str)(c hi z:Nat):∀(l:List Nat)(st:Array Nat×Nat),(∀i∈l,st.2<=i)->l.Pairwise (· < ·)->st.1.size+l.length<=z ->
  (forIn l st (StrLaws.occBody s (c1 c) hi z)).run.fst.toList=st.1.toList++l.filter λi=>decide (i+1<=hi)&&LQ.Str.subAt s (c1 c) i
 | [],st,_,_,_=>by simp
 | a::l,st,h1,h2,h3=>by
  rw [Q8];unfold StrLaws.occBody;have ha:=h1 a (LN ..);rw [Ny] at h2;simp only [M7] at h3;split
  .rename_i hc;have G:=oV s c hi z l (st.1.push a,a+(c1 c).length) (λi hi=>by have:=h2.1 i hi;show a+1<=i;lia) h2.2 (by simp;lia);have F:(decide (a+1<=hi)&&LQ.Str.subAt s (c1 c) a)=true:=by rw [Mw];exact {decide_eq_true hc.1.2,hc.2}
   rw [OR,F,if_pos rfl];refine Eq.trans G ?_;simp
  .rename_i hc;have G:=oV s c hi z l st (λi hi=>h1 i (LA _ hi)) h2.2 'l';have F:(decide (a+1<=hi)&&LQ.Str.subAt s (c1 c) a)=false:=by
    rw [Ox];intro h;rw [Mw] at h;exact hc {{{'l',ha},of_decide_eq_true h.1},h.2}
   rw [OR,F,if_neg 's'];exact G
theorem xc(x:Str)(c:Nat):LQ.Str.occurrences x (c1 c) 0 x.length (x.length+1)=(range' 0 (x.length+1)).filter λi=>(sg x)[i]? == some c:=by
 rw [StrLaws.occ_eq];rw [oV x c x.length (x.length+1) _ _ (λ_ _=>Mu _) (List.pairwise_lt_range' (s:=0) (n:=x.length+1-0)) 's'];simp only [nil_append,Nat.sub_zero];refine List.filter_congr λi _=>?_;rw [OE];have:=j6 (x:=x) (c:=c) (i:=i);unfold StrLaws.At at this;rw [Mw,decide_eq_true_eq,beq_iff_eq];exact this
theorem mf(x:Str)(c:Nat):∀(k a i:Nat),i+k=x.length->a<=i->StrLaws.partsFrom x 1 a ((range' i (k+1)).filter λi=>(sg x)[i]? == some c)=(eT (((sg x).drop a).take (i-a)) (aw c ((sg x).drop i))).map tx
 | 0,a,i,h,ha=>by
  have hl:=ag x;have e1:(sg x)[i]?=none:=NK 'l';have z:(sg x).drop i=[]:=OJ 'l';have F:(range' i (0+1)).filter (λi=>(sg x)[i]? == some c)=[]:=by
   show List.filter _ [i]=[];rw [OR,e1];rfl
  rw [z,F];show [LQ.Str.strSub x a x.length]=[tx _];refine congrArg (·::[]) (pj ?_);rw [dy];show (LQ.Str.strSub x a x.length).cps.toList=_;rw [StrLaws.strSub_toList,show x.length=i by lia];simp [aw,sg]
 | k+1,a,i,h,ha=>by
  have hl:=ag x;have hi:i<(sg x).length:=by lia
  have e0:(sg x)[i]?=some ((sg x)[i]):=KE hi;have O:(sg x).drop i=(sg x)[i]::(sg x).drop (i+1):=NT hi;rw [List.range'_succ,OR,e0,O];by_cases hc:(sg x)[i]=c
  .rw [if_pos (by simp [hc])];have J:=mf x c k (i+1) (i+1) 'l' (Ll _);show LQ.Str.strSub x a i::StrLaws.partsFrom x 1 (i+1) _=_;rw [J];have G:aw c ((sg x)[i]::(sg x).drop (i+1))=[]::aw c ((sg x).drop (i+1)):=by
    show (if _=c then _ else _)=_;rw [if_pos hc]
   rw [G];obtain ⟨p,r,e⟩:=fk c ((sg x).drop (i+1));rw [e];simp only [Pn,List.take_zero,eT,nil_append,MS,MD];refine congrArg (·::_) (pj ?_);rw [dy];exact StrLaws.strSub_toList x a i
  .rw [if_neg (by simp [hc])];rw [mf x c k a (i+1) 'l' 'l',iq c _ _ hc,CQ];have S:((sg x).drop a).take (i+1-a)=((sg x).drop a).take (i-a)++[(sg x)[i]]:=by
    rw [show i+1-a=(i-a)+1 by lia,MP];congr 1;rw [O3,show a+(i-a)=i by lia,e0];rfl
   rw [S]
theorem xy:∀{l:List Nat},c∉l->aw c l=[l]
 | [],_=>rfl
 | x::t,h=>by
  rw [Lu,not_or] at h;rw [iq c x t (L9 h.1),xy h.2];rfl
theorem u6(x:Str)(hc:c<128):MV x (c1 c)=(aw c (sg x)).map tx:=by
 have G:LQ.Str.strKind (c1 c)=1:=by
  unfold LQ.Str.strKind;rw [if_pos];show (#[c]:Array Nat).all (· < 256)=true;simp;lia
 have z : ¬ LQ.Str.strKind x<LQ.Str.strKind (c1 c):=by
  rw [G];unfold LQ.Str.strKind;split<;>(try split)<;>lia
 have F:c∉sg x->[x]=(aw c (sg x)).map tx:=λh=>by rw [xy h];show [x]=[tx (sg x)];rw [iH]
 unfold MV;split
 .rename_i h;rw [decide_eq_false z,O4,decide_eq_true_eq] at h;have h:x.length<1:=h;rw [<- ag] at h;refine F ?_;have e0:sg x=[]:=PX 'l';rw [e0];exact LS
 .split
  .rename_i h;refine F λhm=>?_;obtain ⟨i,hi,e⟩:=NB hm;rw [xc] at h;have:i∈(range' 0 (x.length+1)).filter λi=>(sg x)[i]? == some c:=by
    rw [Rh];refine {?_,by rw [KE hi,e];simp};rw [List.mem_range'_1];rw [ag] at hi;lia
   rw [List.isEmpty_iff.mp h] at this;exact absurd this LS
  .rw [StrLaws.partsBetween_eq,xc];show StrLaws.partsFrom x 1 0 _=_;rw [mf x c x.length 0 0 'l' (Ll _)];simp only [Pn,List.take_zero,drop_zero];obtain ⟨h,r,e⟩:=fk c (sg x);rw [e];rfl
theorem ni:∀(w:List Nat)(ws:List (List Nat)),(∀v∈w::ws,c∉v)->aw c (w++(ws.map (c::·)).flatten)=w::ws
 | [],[],_=>rfl
 | [],v::ws,h=>by
  have F:=ni v ws λu z=>h u (LA _ z);show aw c (c::(v++(ws.map (c::·)).flatten))=_;show (if c=c then _ else _)=_;rw [if_pos rfl,F]
 | x::w,ws,h=>by
  have hx:=h _ (LN ..);rw [Lu,not_or] at hx;have F:=ni w ws λu z=>by
   rcases Lu.mp z with rfl|z
   .exact hx.2
   .exact h u (LA _ z)
  show aw c (x::(w++(ws.map (c::·)).flatten))=_;rw [iq c x _ (L9 hx.1),F];rfl
theorem oS(x:Str)(c hi:Nat):∀(l:List Nat)(st:Option Nat),(forIn l st (λi r=>if (decide (i+(c1 c).length<=hi)&&LQ.Str.subAt x (c1 c) i)=true then (pure (ForInStep.yield (some i)):Id _) else pure (ForInStep.yield r))).run =
  l.foldl (λZD i=>if (decide (i+1<=hi)&&LQ.Str.subAt x (c1 c) i)=true then some i else ZD) st
 | [],st=>rfl
 | a::l,st=>by
  rw [Q8,Qk];show _=l.foldl _ (if (decide (a+(c1 c).length<=hi)&&LQ.Str.subAt x (c1 c) a)=true then some a else st);split
  .exact oS x c hi l _
  .exact oS x c hi l _
theorem sy(x:Str)(c:Nat):LQ.Str.lastOccurrence x (c1 c) 0 x.length=(range' 0 (x.length+1)).foldl (λZD i=>if (sg x)[i]?=some c then some i else ZD) none:=by
 have e:LQ.Str.lastOccurrence x (c1 c) 0 x.length=(forIn (range' 0 (x.length+1)) none (λi r=>if (decide (i+(c1 c).length<=x.length)&&LQ.Str.subAt x (c1 c) i)=true then (pure (ForInStep.yield (some i)):Id _) else pure (ForInStep.yield r))).run:=by
  unfold LQ.Str.lastOccurrence;simp
 rw [e,oS];congr 1;funext ZD i;have:=j6 (x:=x) (c:=c) (i:=i);unfold StrLaws.At at this;by_cases h:(sg x)[i]?=some c
 .rw [if_pos h,if_pos];rw [Mw,decide_eq_true_eq];exact this.mpr h
 .rw [if_neg h,if_neg];intro q;rw [Mw,decide_eq_true_eq] at q;exact h (this.mp q)
theorem ql{p:Nat->Prop} [DecidablePred p]:∀(l:List Nat)(a:Option Nat),(∀i∈l,¬ p i)->l.foldl (λZD i=>if p i then some i else ZD) a=a
 | [],_,_=>rfl
 | x::l,a,h=>by
  rw [Qk,if_neg (h x (LN ..))];exact ql l a λi hi=>h i (LA _ hi)
theorem DR(h:sg x=a++c::b)(hb:c∉b):O9 x (c1 c)=a.length:=by
 have hl:x.length=a.length+(b.length+1):=by rw [<- ag,h];simp
 have e:LQ.Str.lastOccurrence x (c1 c) 0 x.length=some a.length:=by
  rw [sy,show x.length+1=a.length+((b.length+1)+1) by lia,<- List.range'_append_1,Q9,List.range'_succ,Qk];rw [if_pos (by rw [h];simp),NV];refine ql (p:=λi=>(sg x)[i]?=some c) _ _ λi hi=>?_;rw [List.mem_range'_1] at hi;intro q;rw [h,NI 'l'] at q;obtain ⟨j,z⟩:∃j,i-a.length=j+1:={i-a.length-1,'l'};rw [z,On] at q;exact hb (LF q)
 show (match LQ.Str.lastOccurrence x (c1 c) 0 x.length with|some i=>(i:Int)|none=>-1)=_;rw [e]
theorem Ig(h:c∉sg x):O9 x (c1 c) = -1:=by
 have e:LQ.Str.lastOccurrence x (c1 c) 0 x.length=none:=by
  rw [sy];exact ql (p:=λi=>(sg x)[i]?=some c) _ _ λi _ q=>h (LF q)
 show (match LQ.Str.lastOccurrence x (c1 c) 0 x.length with|some i=>(i:Int)|none=>-1)=_;rw [e]
theorem rE(h:j<=(sg x).length):Nf x none (some (j:Int))=tx ((sg x).take j):=by
 have e:=StrLaws.sliceText_to (x:=x) (j:=(j:Int)) {'l',by simpa [sg] using h};refine Eq.trans (show Nf x none (some (j:Int))=StrLaws.sliceText x none (some (j:Int)) from rfl) (e.trans ?_);show tx _=tx _;simp [sg]
theorem vU(h:0<(sg x).length):Nf x none (some (-1))=tx ((sg x).dropLast):=by
 rw [ag] at h;have e:=StrLaws.sliceText_to_neg (x:=x) (j:=-1) 'l' 'l';refine Eq.trans (show Nf x none (some (-1))=StrLaws.sliceText x none (some (-1)) from rfl) (e.trans ?_);show tx _=tx _;rw [List.dropLast_eq_take,ag,drop_zero,show (-1+(x.length:Int)-0).toNat=x.length-1 by lia];rfl
theorem iD(m:Nat):sg (toString ((m:Nat):Int):Str)=(Rj 10 m).map Char.toNat:=PySem.W.KIN.signs_num m
section
variable {X:Cx}{tg:Mc}
def nH(K:Lq)(tl:TE):TI:=λσ H R=>tl σ H λx H1=>uR x λa=>(∃xs,SqL K H1 a xs/\R (Itl K a) H1)\/∃xs,SqT K H1 a xs/\R (Itt K a) H1
theorem Kj{K:Lq}:nH K tl σ H R=tl σ H λx H1=>uR x λa=>(∃xs,SqL K H1 a xs/\R (Itl K a) H1)\/∃xs,SqT K H1 a xs/\R (Itt K a) H1:=rfl
theorem IK(hl:PE X l tl):PIc true X tg l (nH X.K tl):=by
 intro Go s σ H R I h;refine thn (hl Go s σ H _ I h) λv s1=>x5e λx H1 z S G=>?_;obtain ⟨a,e,G⟩:=G;subst e;cases S;rcases G with ⟨xs,F,q⟩|⟨xs,F,q⟩
 .obtain ⟨its,J,p,O⟩:=z.list F;refine OH p.isList {s1.heap.objs.size,[s1.heap.objs.size],_,_,H1,rfl,z.kept (t':=s1.toks) λb o e=>Lm _ e,lh a _,{_,LO _ rfl,rfl,rfl},λb hb=>?_,q};have e:b=s1.heap.objs.size:=by simpa using hb
  subst e;exact z.RV (Ll _) (z.hok.fresh (Ll _))
 .obtain ⟨its,J,p,O⟩:=z.tuple F;refine wpAny_pyIter_tuple (show s1.heap.IsTuple a its.toArray from p) {s1.heap.objs.size,[s1.heap.objs.size],_,_,H1,rfl,z.kept (t':=s1.toks) λb o e=>Lm _ e,Bf a _,{_,LO _ rfl,rfl,rfl},λb hb=>?_,q};have e:b=s1.heap.objs.size:=by simpa using hb
  subst e;exact z.RV (Ll _) (z.hok.fresh (Ll _))
theorem vN(hl:W (PE X l tl)):W (PIc true X tg l (nH X.K tl)):={IK hl.h}
end
section
variable {K:Lq}{g:TG}{tt:TT}{te:TE}{H:Hp}{Q:VK}{R:It->Hp->Prop}
theorem zZ.tup{a:Addr}{xs:List V}{τ:St}(F:Nat->St->List V->Hp->Prop)(S:∀i τ ys H,F i τ ys H->ys.length<sizeLine)(ha:∀i τ ys H,F i τ ys H->SqT K H a xs)(O:F 0 τ [] H)
  (hs:∀(N:St->List V->Hp->Prop) i x τ ys H,xs[i]?=some x->F i τ ys H->(∀τ ys H,F (i+1) τ ys H->N τ ys H)->g x τ H λz H4=>tt z H4 λok H5=>dU N ys z te ok H5) (hd:∀τ ys H,F xs.length τ ys H->∀D H',New H D (.lst ys) H'->Q (.ref D) H'):zZ (Itt K a) g tt te τ H Q:=by
 refine {λi m τ ys H=>m=xs.length-i/\i<=xs.length/\F i τ ys H,{xs.length,'s',Mu _,O},?_};rintro i m τ ys H2 ⟨rfl,hi,p⟩;refine {S i τ ys H2 p,?_};have q:=ha i τ ys H2 p;by_cases G:i<xs.length
 .refine .inr {{xs,xs[i],q,by simp [G]},λx H' y=>?_};obtain ⟨e,y⟩:=y;subst e;exact hs (λz ys H=>∃J,J<xs.length-i/\J=xs.length-(i+1)/\i+1<=xs.length/\F (i+1) z ys H) i x τ ys _ (y xs q) p λz zs H q=>{xs.length-(i+1),'l',rfl,G,q}
 .have e:i=xs.length:=by lia
  subst e;exact .inl {{xs,q,Ll _},λD U _=>hd τ ys H2 p D _ (.mk' U)}
theorem Ip{H:Hp}{Q:VK}:cR c (.ref a) .non H Q=Q (.bl (if c then true else false)) H:=by simp [cR]
theorem Ao{H:Hp}{Q:VK}:cR c (.str a) .non H Q=Q (.bl (if c then true else false)) H:=by simp [cR]
theorem bU(z:Str):asc z=(sg z).all (· < 128):=by simp [asc,sg]
end
def yo(h:Heap)(e:Addr):Prop:=∃oe vs T,h.get? e=some oe/\oe.data = .fields vs/\vs[1]?=some (Lx T)
section
variable {M:Model}{A:LV}{E:Value->Lk->Prop}{s:Lk}{B:Heap}{env:Env}{outer l:List Env}{L e:Addr}{cls fl:Value}
theorem ua{head:Value}(YJ:A.frames=some (env::outer))(hf:env.frame=some L)(st:B.StaysIn s.heap)(W:B.get? e=none)(hl:s.heap.FunFrames B (env::outer))(he:s.heap.get? e=some oe)(hc:oe.cls=cls)(XT:oe.dict=none)(hd:oe.data = .fields vs)(hz:2<vs.size)(h2:vs[2]?=some .none)(k:∀h',bj B (env::outer) e cls (MX L) h'->yo h' e->s.heap.UpToSlots h'->Q () { s with heap:=h' }):
  LM M A (do let a<-frameOf env;let pl<-entryPlaceOf L S;let b<-EntryCells.newEntry head a .none (MX L) .none pl;setField (.ref e) 1 b) Q E s:=by
 have J:e∉(env::outer).filterMap (·.frame):=λz=>by
  obtain ⟨_,o,ho,F⟩:=hl.mem z;rw [he] at ho;cases ho;exact F vs hd
 refine we (wpAny_frameOf_fun YJ hl hf λg only=>?_);obtain ⟨_,same,slots⟩:=only;refine we (wpAny_entryPlaceOf λpl X0=>?_);have key:∀(tb:Obj)(ts:Array Value),tb.data = .fields ts->ts[3]?=some (MX L)->LM M A (setField (.ref e) 1 (.ref g.objs.size)) Q E { s with heap:=g.push tb }:=by
  intro tb ts td t3;have e1:g.get? e=some oe:=(same e J).trans he;have G:(g.push tb).get? e=some oe:=Lm _ e1;have hT:(g.push tb).get? g.objs.size=some tb:=LO _ (by rw [Nj td]);have U:g.objs.size≠e:=Ob (LX e1);have fresh:B.get? g.objs.size=none:=by
   cases q:B.get? g.objs.size with
   | none=>rfl
   | some o =>
    obtain ⟨sl,z⟩:=slots _ o (st _ o q);exact absurd (LX z) (MB _)
  have O:∀b o,b≠e->g.get? b=some o->((g.push tb).update e (QM (·.setIfInBounds 1 (.ref g.objs.size)))).get? b=some o:=λb o hb q =>
   (Mq _ _ (L9 hb)).trans (Lm _ q)
  have Z:∀b o,s.heap.get? b=some o->(∀ws,o.data≠.fields ws)->b≠e:=λb o q F z=>by
   rw [z,he] at q;cases q;exact F vs hd
  have dd:=Ol hd (·.setIfInBounds 1 (Lx g.objs.size));refine Nl G hd 'l' (k _ {λb o q=>?_,W,?_,?_} {_,_,g.objs.size,NM _ G (Nj dd),dd,by rw [MJ 'l']} λb o q F=>?_)
  .refine O b o (λz=>by rw [z,W] at q;cases q) ((same b λz=>?_).trans (st b o q));rw [(hl.mem z).1] at q;cases q
  .refine hl.of_keeps λb o q F=>?_;obtain ⟨sl,z⟩:=slots b o q;exact {_,O b _ (Z b o q F) z,rfl}
  .refine {_,_,NM _ G (Nj dd),(Pm _ _).trans hc,(ye _ _).trans XT,dd,by simpa using hz,by rw [Pq 'd'];exact h2,.inr {g.objs.size,tb,ts,?_,fresh,U,?_,td,t3}}
   .rw [MJ 'l']
   .rw [Mq _ _ (L9 U)];exact hT
  .obtain ⟨sl,z⟩:=slots b o q;exact {sl,O b _ (Z b o q F) z}
 unfold EntryCells.newEntry newFields;refine we (Nh ?_ (X0.sizeOk5 _ _ _ _ _));exact key _ _ rfl 's'
theorem CG(Z:A.frames=some (env::outer))(hf:env.frame=some L)(x:bj B (env::outer) e cls fl s.heap)(k:∀h',bj B (env::outer) e cls (MX L) h'->yo h' e->s.heap.UpToSlots h'->Q () { s with heap:=h' }):LM M A (QK (.ref e) env) Q E s:=by
 obtain ⟨st,U,hl,oe,vs,he,hc,O,hd,S,h2,h1⟩:=x;unfold QK;simp only [hf];rcases h1 with h1|⟨T,oT,ts,h1,nT,Te,J,dT,W⟩
 .refine we (Md he hd h1 ?_);rw [if_neg (show ¬ ((Mj != Mj)=true) by decide)];exact ua Z hf st U hl he hc O hd S h2 k
 .refine we (Md he hd h1 ?_);rw [if_pos (show (Lx T != Mj)=true by simp)];refine we (Md J dT W ?_);by_cases G:fl=MX L
  .subst G;rw [if_pos (show (MX L==MX L)=true by simp)];exact Ls (k s.heap {st,U,hl,oe,vs,he,hc,O,hd,S,h2,.inr ⟨T,oT,ts,h1,nT,Te,J,dT,W⟩} ⟨oe,vs,T,he,hd,h1⟩ (UpToSlots.refl _))
  .rw [if_neg (show ¬ ((fl==MX L)=true) by simpa using G)];refine we (Nl J dT (My.mp W).1 ?_);have oth:∀b,b≠T->(s.heap.update T (QM (·.setIfInBounds 3 Mj))).get? b=s.heap.get? b:=λb hb=>Mq _ _ (L9 hb);have Yh:∀b o,s.heap.get? b=some o->(∀ws,o.data≠.fields ws)->b≠T:=λb o q F z=>by
    rw [z,J] at q;cases q;exact F ts dT
   refine ua (B:=B) (cls:=cls) Z hf (λb o q=>?_) U (hl.of_keeps λb o q F=>{o,(oth b (Yh b o q F)).trans q,rfl}) ((oth e (L9 Te)).trans he) hc O hd S h2 λh' y ht up=>k h' y ht λb o q F=>up b o ((oth b (Yh b o q F)).trans q) F;exact (oth b λz=>by rw [z,nT] at q;cases q).trans (st b o q)
theorem HI(x:bj B l e cls fl s.heap)(k:∀h',bj B l e cls (MX L) h'->s.heap.UpToSlots h'->Q () { s with heap:=h' }):LM M A (setFlight (.ref e) (some L)) Q E s:=by
 obtain ⟨st,W,hl,oe,vs,he,hc,O,hd,S,h2,h1⟩:=x;unfold setFlight;rcases h1 with h1|⟨T,oT,ts,h1,nT,Z,J,dT,t3⟩
 .refine we (Md he hd h1 ?_);rw [if_neg (show ¬ ((Mj != Mj)=true) by decide)];exact Ls (k s.heap {st,W,hl,oe,vs,he,hc,O,hd,S,h2,.inl h1} (UpToSlots.refl _))
 .refine we (Md he hd h1 ?_);rw [if_pos (show (Lx T != Mj)=true by simp)];have F:3<ts.size:=(My.mp t3).1;have dd:=Ol dT (·.setIfInBounds 3 (MX L));have oth:∀b,b≠T->(s.heap.update T (QM (·.setIfInBounds 3 (MX L)))).get? b=s.heap.get? b:=λb hb=>Mq _ _ (L9 hb);have U:∀b o,s.heap.get? b=some o->(∀ws,o.data≠.fields ws)->b≠T:=λb o q G z=>by
   rw [z,J] at q;cases q;exact G ts dT
  refine Nl J dT F (k _ {λb o q=>(oth b λz=>by rw [z,nT] at q;cases q).trans (st b o q),W,hl.of_keeps λb o q G=>{o,(oth b (U b o q G)).trans q,rfl},oe,vs,(oth e (L9 Z)).trans he,hc,O,hd,S,h2,
   .inr {T,_,_,h1,nT,Z,NM _ J (Nj dd),dd,?_}} λb o q G=>{o.slots,(oth b (U b o q G)).trans q})
  rw [MJ F]
end
def x3(X:Cx)(Ex:Addr->St->Hp->Prop):Value->Lk->Prop:=λe s'=>∃(ea C:Addr)(B:Heap)(H':Hp)(fl:Value)(σ:St)(z:Lk)(Go:List (Addr×Obj)),e = .ref ea/\Inv X Go σ H' z/\bj B X.stack ea (.ref C) fl s'.heap /\
 s'.os=z.os/\OK s'.gens/\(∀b o,z.heap.get? b=some o->b∉frs X.stack->B.get? b=some o)/\z.heap.UpToSlots s'.heap/\Ex C σ H'
abbrev cxF(X:Cx)(Ex:Addr->St->Hp->Prop):Cx:=X.Rx (x3 X Ex)
theorem Fq:bF (cxF X Ex) Ex:=λps σ H G ea C B fl s' I y os bare z F q =>
 {ea,C,B,H,fl,σ,G,ps,rfl,I.tr,y,os,bare,z,F,q}
theorem HG(hst:X.stack=X.env::X.outer)(O:X.Ok->X.A.frames=some (X.env::X.outer))(F:X.env.frame=some L):NH (LH X.prog X.w) X.A X.env (x3 X Ex):=by
 rintro e s' ⟨ea,C,B,H',fl,σ,U,Go,rfl,I,y,os,bare,G,up,q⟩;have fr:=O I.ok;rw [hst] at y;refine CG fr F y λh1 S W u1=>?_;obtain ⟨oe,vs,T,g1,J,Z⟩:=W;refine we (Md g1 J Z ?_);rw [if_neg (show ¬ ((Lx T==Mj)=true) by simp)];rw [F];refine HI (s:={ s' with heap:=h1 }) S λh2 z u2=>?_;rw [<- hst] at z;exact {ea,C,B,H',_,σ,U,Go,rfl,I,z,os,bare,G,(up.trans u1).trans u2,q}
theorem PS.UP{st:Stmt}{t:TS}(T:bF X Ex)(h:PS (cxF X Ex) st t):PS X st t:=λGo s σ H D I F =>
 MK (h Go s σ H D (I.Rx _) F) (λ_ _ q=>q.tr) <| by
  rintro e s' ⟨ea,C,B,H',fl,z,O,ps,he,J,y,os,bare,G,S,q⟩;subst he;exact T ps z H' O ea C B fl s' J y os bare G S q
theorem HA{st:Stmt}{t:TS}(T:bF X Ex)(h:W (PS (cxF X Ex) st t)):W (PS X st t):={PS.UP T h.h}
section
variable {X:Cx}
def xu:R2:=λx y H Q=>uEq true x y H Q\/∃a b xs ys,x = .ref a/\y = .ref b/\H a=some (.tup xs)/\H b=some (.tup ys)/\xs.all zF=true/\ys.all zF=true/\Q (.bl (!eqL xs ys)) H
theorem Eg(hu:X.A.units<cLine):OpR X (Mt .NotEq) (λx y H Q=>∃a b xs ys,x = .ref a/\y = .ref b/\H a=some (.tup xs)/\H b=some (.tup ys)/\xs.all zF=true/\ys.all zF=true/\Q (.bl (!eqL xs ys)) H):=by
 intro Go s σ H x y v u Q I W ry h;obtain ⟨a,b,xs,ys,rfl,rfl,ha,hb,fx,fy,q⟩:=h;cases W;cases ry;obtain ⟨is,U,Z,_⟩:=I.tuple (SqT.of (K:=X.K) ha);obtain ⟨F,S,p2,_⟩:=I.tuple (SqT.of (K:=X.K) hb);have l1:=U.length;have l2:=S.length;refine SeqAt.RcNeAt.tuples (e:=λj=>eqV (xs.getD j .non) (ys.getD j .non)) Z p2 hu (λj h1 h2=>?_) _ _ _ _ {.bl _,H,I,rfl,?_}
 .simp only [LJ] at h1 h2;have e1:xs[j]?=some (xs.getD j .non):=by rw [Lr,KE 'l'];rfl
  have J:ys[j]?=some (ys.getD j .non):=by rw [Lr,KE 'l'];rfl
  obtain ⟨u,g1,q1⟩:=U.get e1;obtain ⟨v,G,q2⟩:=S.get J;rw [KE h1] at g1;rw [KE h2] at G;have w1:is.toArray[j]=u:=by simpa using Mm.inj g1
  have w2:F.toArray[j]=v:=by simpa using Mm.inj G
  rw [w1,w2];exact iE q1 q2 (Mx.mp fx _ (LF e1)) (Mx.mp fy _ (LF J))
 .have e:eqL xs ys=((Oi (min is.toArray.size F.toArray.size)).all (λj=>eqV (xs.getD j .non) (ys.getD j .non))&&is.toArray.size==F.toArray.size):=by
   unfold eqL;simp only [LJ];rw [l1,l2];by_cases O:is.length=F.length
   .rw [O];simp
   .have z:(is.length==F.length)=false:=by simpa using O
    rw [z,Pp,Rl]
  rw [<- e];exact q
theorem xh(z:X.A.units<cLine):OpR X (Mt .NotEq) xu:=(jo z).or (Eg z)
theorem IQ:xu (.ref a) (.ref b) H Q = ∃xs ys,((H a=some (.lst xs)/\H b=some (.lst ys))\/(H a=some (.tup xs)/\H b=some (.tup ys)))/\xs.all zF=true/\ys.all zF=true/\Q (.bl (!eqL xs ys)) H:=by
 apply propext;constructor
 .rintro (h|⟨G,J,xs,ys,e1,F,h1,h2,f1,z,q⟩)
  .rw [kN] at h;obtain ⟨xs,ys,h1,h2,f1,z,q⟩:=h;exact {xs,ys,.inl ⟨h1,h2⟩,f1,z,q}
  .cases e1;cases F;exact {xs,ys,.inr ⟨h1,h2⟩,f1,z,q}
 .rintro ⟨xs,ys,⟨h1,h2⟩|⟨h1,h2⟩,f1,z,q⟩
  .exact .inl (by rw [kN];exact ⟨xs,ys,h1,h2,f1,z,q⟩)
  .exact .inr {a,b,xs,ys,rfl,rfl,h1,h2,f1,z,q}
def gi:List V->Hp->VK->Prop:=λxs H Q=>fz xs H Q\/∃b:Bool,xs=[.bl b]/\Q (.str (if b then "True" else "False")) H
theorem As:zI X (.type "str") gi:=by
 intro Go s σ H xs us Q I r h;rcases h with h|⟨b,rfl,q⟩
 .exact Fh Go s σ H xs us Q I r h
 .cases r with
  | cons F z =>
   cases z;cases (show _=OT b from F);exact PySem.P.str_of_bool {.str _,H,I.tok _,{_,by cases b<;>rfl},q}
theorem Bo:gi [.int i] H Q=(i.natAbs.log2<1920/\Q (.str (toString i)) H):=by simp [gi,yJ]
theorem EG:gi [.str z] H Q=Q (.str z) H:=by simp [gi,yO]
theorem DO:gi [.bl b] H Q=Q (.str (if b then "True" else "False")) H:=by simp [gi,fz,f9]
end
theorem Fj{pos Y6 S:Pos}(av:X.N.Nodup)(G:X.N[i0]?=some z)(aL:Loc X.env.scope z)(hc:c=true->X.calm=true)(L:ah X sc N' ix)(hi:PIc c X tg iter wi)(hg:∀Go C fp s H,PG (zK X sc N' Go C fp s H) tg g)(ht:∀Go C fp s H,PTs (zK X sc N' Go C fp s H) F tt)(he:∀Go C fp s H,PE (zK X sc N' Go C fp s H) XC te)(hs:∀x,NC iter X.env x=pure x:=by intro _;rfl)(ab:swapsWith (.ListComp XC [{tg,iter,F,0}] sc pos) (some (.Name z Y6)) S.line X.env=pure true:=by rfl)(U:X.fn z=true\/X.env.scope.names.lookup z=some .local:=by first|exact .inl rfl|exact .inr rfl|assumption):
  PS X (.Assign [.Name z Y6] (.ListComp XC [{tg,iter,F,0}] sc pos) S) (iO (tLC ix wi g tt te) (cG i0)):=by
 intro Go s σ H Z I h;rw [exec_Assign_Name_used z Y6 _ S ab];refine we (Oe (we ?_));rw [arm_evalThenUse_ListComp];show LM (LH X.prog X.w) X.A (comprehension (.ListComp XC [{tg,iter,F,0}] sc pos) sc X.env (firstIterPos [{tg,iter,F,0}] pos) (newList []) (firstAsync [{tg,iter,F,0}]) (firstIter [{tg,iter,F,0}] X.env) (some (assign (.Name z Y6) X.env))>>=λ_=>pure ()) _ _ _;refine we (xf hc L hi hg ht he hs I h λC D oC H' s5 m5 IX ns tu q=>?_);refine thn (sj av G aL U (Go++[(C,oC)]) s5 σ H' (.ref D) (.ref D) Z.nx IX rfl q) λ_ s6=>x4e λai H6 J q6=>?_;obtain ⟨p6,W,_⟩:=J.pin (C,oC) (LU _ (LU _ (Lw.mpr rfl)));exact {m5,ns p6,λh' O=>Ls (Ls {ai,H6,tu (J.Hb λp hp=>J.pin p (LU _ (MG _ hp))) W O,q6})}
theorem jf{pos Y6 Z:Pos}(S:X.N.Nodup)(F:X.N[i0]?=some z)(U:Loc X.env.scope z)(hc:c=true->X.calm=true)(L:ah X sc N' ix)(hi:W (PIc c X tg iter wi))(hg:∀Go C fp s H,W (PG (zK X sc N' Go C fp s H) tg g))(ht:∀Go C fp s H,W (PTs (zK X sc N' Go C fp s H) O tt))(he:∀Go C fp s H,W (PE (zK X sc N' Go C fp s H) XC te))(hs:∀x,NC iter X.env x=pure x:=by intro _;rfl)(G:swapsWith (.ListComp XC [{tg,iter,O,0}] sc pos) (some (.Name z Y6)) Z.line X.env=pure true:=by rfl)(J:X.fn z=true\/X.env.scope.names.lookup z=some .local:=by first|exact .inl rfl|exact .inr rfl|assumption):
  W (PS X (.Assign [.Name z Y6] (.ListComp XC [{tg,iter,O,0}] sc pos) Z) (iO (tLC ix wi g tt te) (cG i0))) :=
 {Fj S F U hc L hi.h (λa b c d e=>(hg a b c d e).h) (λa b c d e=>(ht a b c d e).h) (λa b c d e=>(he a b c d e).h) hs G J}
section
variable {κ:Type} [DecidableEq κ]
def zW(kvs:List (κ×V))(k:κ):Option V:=(kvs.find? λkv=>decide (kv.1=k)).map (·.2)
def aI(kvs:List (κ×V))(k:κ)(v:V):List (κ×V) :=
 if (kvs.any λkv=>decide (kv.1=k))=true then kvs.map (λkv=>if kv.1=k then (kv.1,v) else kv) else kvs++[(k,v)]
def bV(kvs:List (κ×V))(k:κ):List (κ×V):=kvs.filter λkv=>decide (kv.1≠k)
theorem gU{p:κ×V}{r:List (κ×V)}{k:κ}(e:p.1=k):zW (p::r) k=some p.2:=by simp [zW,Pb,e]
theorem jd{p:κ×V}{r:List (κ×V)}{k:κ}(e : ¬ p.1=k):zW (p::r) k=zW r k:=by simp [zW,Pb,e]
theorem qu(k:κ):∀kvs:List (κ×V),(kvs.any λkv=>decide (kv.1=k))=(zW kvs k).isSome
 | []=>rfl
 | p::r=>by
  rw [Qn];by_cases e:p.1=k
  .simp only [gU e,decide_eq_true e,Bool.true_or,isSome_some]
  .rw [jd e,decide_eq_false e,Bool.false_or];exact qu k r
theorem vD(kvs:List (κ×V))(k:κ)(v:V):(aI kvs k v).length<=kvs.length+1:=by
 unfold aI;split
 .rw [Ln];lia
 .rw [LC,M7,NA];lia
theorem bw.J7{o:Option V}(r:bw o u):o.isSome=u.isSome:=by
 cases o with
 | none=>cases u with
  | none=>rfl
  | some _=>exact (show False from r).elim
 | some _=>cases u with
  | none=>exact (show False from r).elim
  | some _=>rfl
theorem bw.getD{o:Option V}(r:bw o u)(z:zo d d'):zo (o.getD d) (u.getD d'):=by
 cases o with
 | none=>cases u with
  | none=>exact z
  | some _=>exact (show False from r).elim
 | some _=>cases u with
  | none=>exact (show False from r).elim
  | some _=>exact r
theorem KV.val(r:KV kvs vs)(k:κ):bw (zW kvs k) (valueAt vs k):=by
 unfold KV at r
 induction r with
 | nil=>exact True.intro
 | @cons p q ps G h t J =>
  obtain ⟨h1,h2⟩:=h;by_cases e:p.1=k
  .have F:q.1=k:=h1.symm.trans e;have b:valueAt (q::G) k=some q.2:=by simp [valueAt,Pb,F]
   rw [gU e,b];exact h2
  .have F : ¬ q.1=k:=λz=>e (h1.trans z);have b:valueAt (q::G) k=valueAt G k:=by simp [valueAt,Pb,F]
   rw [jd e,b];exact J
theorem KV.any(r:KV kvs vs)(k:κ):(kvs.any λkv=>decide (kv.1=k))=vs.any λkv=>decide (kv.1=k):=by
 unfold KV at r
 induction r with
 | nil=>rfl
 | cons h t z=>rw [Qn,Qn,z,h.1]
theorem KV.Uc(r:KV kvs vs)(k:κ)(G:zo y u):
  KV (kvs.map λkv=>if kv.1=k then (kv.1,y) else kv) (vs.map λkv=>if kv.1=k then (kv.1,u) else kv):=by
 unfold KV at r ⊢
 induction r with
 | nil=>exact .nil
 | @cons p q ps J h t F =>
  rw [MD,MD];refine .cons ?_ F;obtain ⟨h1,h2⟩:=h;by_cases e:p.1=k
  .rw [if_pos e,if_pos (h1.symm.trans e)];exact ⟨h1,G⟩
  .rw [if_neg e,if_neg (λz=>e (h1.trans z))];exact ⟨h1,h2⟩
theorem KV.put(r:KV kvs vs)(k:κ)(z:zo y u):KV (aI kvs k y) (stored vs k u):=by
 unfold aI stored;rw [r.any k];by_cases e:(vs.any λkv=>decide (kv.1=k))=true
 .rw [if_pos e,if_pos e];exact r.Uc k z
 .rw [if_neg e,if_neg e];exact Paired.snoc r {rfl,z}
theorem KV.drop(r:KV kvs vs)(k:κ):KV (bV kvs k) (without vs k):=by
 unfold KV at r ⊢;unfold bV without
 induction r with
 | nil=>exact .nil
 | @cons p q ps J h t F =>
  obtain ⟨h1,h2⟩:=h;rw [OR,OR];by_cases e:p.1=k
  .have a : ¬ decide (p.1≠k)=true:=by simp [e]
   have b : ¬ decide (q.1≠k)=true:=by simp [h1.symm.trans e]
   rw [if_neg a,if_neg b];exact F
  .have G : ¬ q.1=k:=λz=>e (h1.trans z);have a:decide (p.1≠k)=true:=by simp [e]
   have b:decide (q.1≠k)=true:=by simp [G]
   rw [if_pos a,if_pos b];exact .cons ⟨h1,h2⟩ F
theorem KV.length{kvs:List (κ×V)}{vs:List (κ×Value)}(r:KV kvs vs):kvs.length=vs.length:=Paired.length r
theorem JR(kvs:List (κ×V))(k:κ):(bV kvs k).length<=kvs.length:=Pt _ _
end
theorem fc{k:Key}(r:zo (kV k) u):(ax P w).is k u=true:=by
 cases k with
 | inl i=>obtain ⟨t,e⟩:=(show ∃t,u=N6 i t from r);subst e;exact KH P w i t
 | inr x=>obtain ⟨t,e⟩:=(show ∃t,u=Rm x t from r);subst e;exact jy P w x t
theorem uO:∀{ks:List Key}{us:List Value},zm (ks.map kV) us->ItemsAre (ax P w) ks us
 | [],_,r=>by rw [map_nil] at r;cases r;exact .nil
 | k::ks,_,r=>by
  rw [MD] at r;cases r with
  | cons h t=>exact .cons (fc h) (uO t)
abbrev KT(H:Hp):List (List Key×V)->List (List Key×Addr×Value)->Prop:=Paired λp q=>p.1=q.1/\H q.2.1=some (.tup (p.1.map kV))/\zo p.2 q.2.2
theorem KT.val(r:KT H kvs xs)(k:List Key):bw (zW kvs k) ((atKey xs k).map (·.2)):=by
 induction r with
 | nil=>exact True.intro
 | @cons p q ps G h t J =>
  obtain ⟨h1,_,h2⟩:=h;by_cases e:p.1=k
  .have F:q.1=k:=h1.symm.trans e;have b:atKey (q::G) k=some q.2:=by simp [atKey,Pb,F]
   rw [gU e,b];exact h2
  .have F : ¬ q.1=k:=λz=>e (h1.trans z);have b:atKey (q::G) k=atKey G k:=by simp [atKey,Pb,F]
   rw [jd e,b];exact J
theorem KT.Uc(r:KT H kvs xs)(k:List Key)(G:zo y u):
  KT H (kvs.map λkv=>if kv.1=k then (kv.1,y) else kv) (xs.map (putAt k u)):=by
 induction r with
 | nil=>exact .nil
 | @cons p q ps J h t F =>
  rw [MD,MD];refine .cons ?_ F;obtain ⟨h1,h2,h3⟩:=h;unfold putAt;by_cases e:p.1=k
  .rw [if_pos e,if_pos (h1.symm.trans e)];exact ⟨h1,h2,G⟩
  .rw [if_neg e,if_neg (λz=>e (h1.trans z))];exact ⟨h1,h2,h3⟩
theorem KT.put(r:KT H kvs xs)(k:List Key)(hb:H b=some (.tup (k.map kV)))(z:zo y u):
  KT H (aI kvs k y) (storedH xs k b u):=by
 have e:(kvs.any λkv=>decide (kv.1=k))=(atKey xs k).isSome:=by
  rw [qu,(r.val k).J7,isSome_map]
 unfold aI storedH;rw [e];by_cases q:(atKey xs k).isSome=true
 .rw [if_pos q,if_pos q];exact r.Uc k z
 .rw [if_neg q,if_neg q];exact Paired.snoc r {rfl,hb,z}
theorem KT.keeps(r:KT H kvs xs)(F:∀b ys,H b=some (.tup ys)->H' b=some (.tup ys)):KT H' kvs xs :=
 Paired.z9 r λ_ _ z=>{z.1,F _ _ z.2.1,z.2.2}
section
variable {P:Ly}{w:LW}{H:Hp}{h:Heap}{a:Addr}
theorem vE(ok:HOk P w H h)(e:Rd H a u):aa P w H h a u:=e.ok ok
theorem dX(ok:HOk P w H h)(e:Rd H a (.dK kvs)):kvs.length<=sizeLine/\(a==sysModules)=false/\∃vs,KV kvs vs/\h.DictOf (ax P w) a vs :=
 show aa P w H h a (.dK kvs) from vE ok e
theorem sW(ok:HOk P w H h)(e:H a=some (.dK kvs)):kvs.length<=sizeLine/\(a==sysModules)=false/\∃vs,KV kvs vs/\h.DictOf (ax P w) a vs:=dX ok (.inl e)
theorem gR(ok:HOk P w H h)(e:H a=some (.tup (ks.map kV))):(QH (ax P w)).is h ks a:=by
 obtain ⟨_,its,r,o,h1,h2,n,h3⟩:=(show aa P w H h a (.tup (ks.map kV)) from ok a _ e);exact {o,its.toArray,n,h1,h2,h3,by simpa using uO r}
theorem fU(ok:HOk P w H h)(e:Rd H a (.dT kvs)):kvs.length<=sizeLine/\(a==sysModules)=false /\
  ∃xs,KT H kvs xs/\h.DictOfH (QH (ax P w)) a xs:=by
 obtain ⟨z,y,xs,r,o,es,ep,h1,h2,h3,h4,J⟩:=(show aa P w H h a (.dT kvs) from vE ok e);refine {z,y,xs,r,o,es,ep,h1,h2,h3,h4,λx hx=>?_,J};have all:∀{l:List (List Key×V)}{m:List (List Key×Addr×Value)},KT H l m->∀x∈m,(QH (ax P w)).is h x.1 x.2.1:=by
  intro l m q
  induction q with
  | nil=>intro x hx;exact nomatch hx
  | @cons p q ps O F t G =>
   intro x hx;rcases Lu.mp hx with e|hx
   .subst e;exact gR ok (by rw [<- F.1];exact F.2.1)
   .exact G x hx
 exact all r x hx
theorem AY(ok:HOk P w H h)(e:H a=some (.dT kvs)):kvs.length<=sizeLine/\(a==sysModules)=false /\
  ∃xs,KT H kvs xs/\h.DictOfH (QH (ax P w)) a xs:=fU ok (.inl e)
end
def dI(H:Hp)(a:Addr)(y:V)(r:Option V):Prop :=
 (∃kvs k,Rd H a (.dK kvs)/\y=kV k/\r=zW kvs k)\/∃kvs k b,Rd H a (.dT kvs)/\y = .ref b/\H b=some (.tup (k.map kV))/\r=zW kvs k
def ja(H:Hp)(a:Addr)(y v:V)(H':Hp):Prop :=
 (∃kvs k,H a=some (.dK kvs)/\y=kV k/\kvs.length<sizeLine/\H'=upd H a (.dK (aI kvs k v))) \/
 ∃kvs k b,H a=some (.dT kvs)/\y = .ref b/\H b=some (.tup (k.map kV))/\kvs.length<sizeLine/\H'=upd H a (.dT (aI kvs k v))
theorem dI.k{k:Key}(e:H a=some (.dK kvs)):dI H a (kV k) (zW kvs k):=.inl {kvs,k,.inl e,rfl,rfl}
theorem dI.t{k:List Key}(e:H a=some (.dT kvs))(z:H b=some (.tup (k.map kV))):dI H a (.ref b) (zW kvs k):=.inr {kvs,k,b,.inl e,rfl,z,rfl}
theorem ja.k{k:Key}(e:H a=some (.dK kvs))(hl:kvs.length<sizeLine):ja H a (kV k) v (upd H a (.dK (aI kvs k v))):=.inl {kvs,k,e,rfl,hl,rfl}
theorem ja.t{k:List Key}(e:H a=some (.dT kvs))(z:H b=some (.tup (k.map kV)))(hl:kvs.length<sizeLine):
  ja H a (.ref b) v (upd H a (.dT (aI kvs k v))):=.inr {kvs,k,b,e,rfl,z,hl,rfl}
section
variable {X:Cx}{Go:List (Addr×Obj)}{σ:St}{H:Hp}{s:Lk}{a:Addr}{y v:V}{u r:Value}{o:Option V}{A:LV}{E:Value->Lk->Prop}
theorem K8(Z:A.units+1<cLine)(I:Inv X Go σ H s)(g:dI H a y (some v))(U:zo y u)(h:∀w' s',Inv X Go σ H s'->zo v w'->Q w' s'):
  LM (LH X.prog X.w) A (Q7 (.ref a) u) Q E s:=by
 rcases g with ⟨kvs,k,e,J,l⟩|⟨kvs,k,b,e,J,W,l⟩
 .subst J;obtain ⟨z,hd,vs,S,dd⟩:=dX I.hok e;obtain ⟨w',F,O⟩:=bw.some_of (v:=v) (o:=valueAt vs k) (by rw [l];exact S.val k);exact wpAny_getItem_of (fc U) dd.mapOf F (h w' _ (I.tok _) O)
 .subst J;cases (show u=Lx b from U);obtain ⟨z,hd,xs,S,dd⟩:=fU I.hok e;obtain ⟨w',F,O⟩:=bw.some_of (v:=v) (o:=(atKey xs k).map (·.2)) (by rw [l];exact S.val k);obtain ⟨p,hp,G⟩:=Me.mp F;refine wpAny_getItem_heap (Ou Z) (gR I.hok W) dd hp ?_;rw [G];exact h w' _ (I.tok _) O
theorem Ea(S:A.units+1<cLine)(I:Inv X Go σ H s)(g:dI H a y o)(J:zo y u)(h:∀s',Inv X Go σ H s'->Q (.bool o.isSome) s'):
  LM (LH X.prog X.w) A (Mt .In u (.ref a)) Q E s:=by
 rcases g with ⟨kvs,k,e,F,l⟩|⟨kvs,k,b,e,F,O,l⟩
 .subst F;obtain ⟨z,hd,vs,G,dd⟩:=dX I.hok e;refine wpAny_in_of (fc J) hd dd.mapOf ?_;rw [<- (G.val k).J7,<- l];exact h _ (I.tok _)
 .subst F;cases (show u=Lx b from J);obtain ⟨z,hd,xs,G,dd⟩:=fU I.hok e;refine wpAny_in_heap (Ou S) (gR I.hok O) hd dd ?_;have q:=(G.val k).J7;rw [isSome_map] at q;rw [<- q,<- l];exact h _ (I.tok _)
theorem JU(S:A.units+1<cLine)(I:Inv X Go σ H s)(g:dI H a y o)(J:zo y u)(h:∀s',Inv X Go σ H s'->Q (.bool (!o.isSome)) s'):
  LM (LH X.prog X.w) A (Mt .NotIn u (.ref a)) Q E s:=by
 rcases g with ⟨kvs,k,e,F,l⟩|⟨kvs,k,b,e,F,O,l⟩
 .subst F;obtain ⟨z,hd,vs,G,dd⟩:=dX I.hok e;refine wpAny_notIn_of (fc J) hd dd.mapOf ?_;rw [<- (G.val k).J7,<- l];exact h _ (I.tok _)
 .subst F;cases (show u=Lx b from J);obtain ⟨z,hd,xs,G,dd⟩:=fU I.hok e;refine wpAny_notIn_heap (Ou S) (gR I.hok O) hd dd ?_;have q:=(G.val k).J7;rw [isSome_map] at q;rw [<- q,<- l];exact h _ (I.tok _)
theorem qq(I:Inv X Go σ H s)(F:Mut (H a))(hs:OA a s.heap h')(he:∃q,h'.get? a=some q)(new:aa X.prog X.w (upd H a ob) h' a ob):
  Inv X Go σ (upd H a ob) { s with heap:=h',toks:=t' } :=
 I.write (x:=a) (e:=a) F (.inl rfl) (λb q hb z=>(hs.2 b hb).trans z) he new
theorem mw(z:kvs.length<=sizeLine)(hd:(a==sysModules)=false)(F:KV kvs vs)(dd:h'.DictOf (ax P w) a vs):
  aa P w H' h' a (.dK kvs):=⟨z,hd,vs,F,dd⟩
theorem CT(hu:A.units+1<cLine)(I:Inv X Go σ H s)(g:ja H a y v H')(ry:zo y u)(rv:zo v r)(h:∀s',Inv X Go σ H' s'->Q () s'):
  LM (LH X.prog X.w) A (setItem (.ref a) u r) Q E s:=by
 rcases g with ⟨kvs,k,e,U,l,S⟩|⟨kvs,k,b,e,U,W,l,S⟩
 .subst U S;obtain ⟨z,hd,vs,G,dd⟩:=sW I.hok e;have O:vs.length<=sizeLine:=by rw [<- G.length];exact z
  have hl:(aI kvs k v).length<=sizeLine:=by have:=vD kvs k v;lia
  refine wpAny_setItem_pairs (hsz:=O) (fc ry) dd λh' F hs=>h _ ?_;have he:∃q,h'.get? a=some q:=let ⟨q,_,_,J,_⟩:=F;⟨q,J⟩;exact qq I (by rw [e];exact True.intro) hs he (mw hl hd (G.put k rv) F)
 .subst U S;cases (show u=Lx b from ry);obtain ⟨z,hd,xs,G,dd⟩:=AY I.hok e;have O:xs.length<=sizeLine:=by rw [<- Paired.length G];exact z
  have hl:(aI kvs k v).length<=sizeLine:=by have:=vD kvs k v;lia
  refine wpAny_setItem_heap (hsz:=O) (Ou hu) (gR I.hok W) dd λh' F hs=>h _ ?_;obtain ⟨q,es,ep,J,h2,h3,h4,_,h5⟩:=F;refine qq I (by rw [e];exact True.intro) hs ⟨q,J⟩ {hl,hd,_,(G.put k W rv).keeps λc ys Z=>?_,q,es,ep,J,h2,h3,h4,h5};rw [zd (JI Z e (λz=>nomatch z))];exact Z
end
section
variable {X:Cx}{Go:List (Addr×Obj)}{σ:St}{H:Hp}{s:Lk}{a:Addr}{kvs:List (Key×V)}{k:Key}{u:Value}{A:LV}{E:Value->Lk->Prop}
theorem J5(I:Inv X Go σ H s)(e:H a=some (.dK kvs))(O:zo (kV k) u)(l:(zW kvs k).isSome=true)(h:∀s',Inv X Go σ (upd H a (.dK (bV kvs k))) s'->Q () s'):
  LM (LH X.prog X.w) A (delItem (.ref a) u) Q E s:=by
 obtain ⟨z,hd,vs,J,dd⟩:=sW I.hok e;refine wpAny_delItem_slot dd.typeIs 'd' Qs
  (Ra Qs dd.typeIs PySem.F.entry_dict_delitem (PySem.F.args_dict_delitem_2 _ _) (meets_dict_delitem_pairs (ax X.prog X.w) a (fc O)) {vs,dd,by rw [<- J.length];exact z,by rw [<- (J.val k).J7];exact l,λh' G hs=>h _ ?_})
 have he:∃q,h'.get? a=some q:=let ⟨q,_,_,hq,_⟩:=G;⟨q,hq⟩;exact qq I (by rw [e];exact True.intro) hs he (mw (L8 (JR kvs k) z) hd (J.drop k) G)
end
theorem wm{o:Option V}(I:Inv X Go σ H s)(g:dI H a y o):s.TypeIs (.ref a) "dict":=by
 rcases g with ⟨kvs,k,e,_,_⟩|⟨kvs,k,b,e,_,_,_⟩
 .obtain ⟨_,_,vs,_,dd⟩:=dX I.hok e;exact dd.typeIs
 .obtain ⟨_,_,xs,_,dd⟩:=fU I.hok e;exact dd.typeIs
structure M2(X:Cx)(o:Mc)(m:Str)(Z2:Pos)(e f:Mc)(cpos:Pos):Prop where
 base:Nc o m X.env (MQ o X.env)=MQ o X.env
 few:((N0 cpos (Mb [e,f] X.env)).all (λx=>!x.1)&&(PR cpos (Os [] X.env)).all (λx=>x.1.isSome)
  && decide (([e,f]:List Mc).length+([]:List Keyword).length+(if ([]:List Keyword).isEmpty then 0 else 1)<30))=true
 line:(Z2.endLine==cpos.line)=true
 trees:N0 cpos (Mb [e,f] X.env)=[(false,MQ e X.env),(false,MQ f X.env)]
def IsD(H:Hp)(a:Addr):Prop:=(∃kvs,Rd H a (.dK kvs))\/∃kvs,Rd H a (.dT kvs)
theorem GE(I:Inv X Go σ H s)(d:IsD H a):
  s.TypeIs (.ref a) "dict"/\(∀b,Lx a = .ref b->∃ob,s.heap.get? b=some ob/\ob.dict=none)/\(a==sysModules)=false:=by
 rcases d with ⟨kvs,e⟩|⟨kvs,e⟩
 .obtain ⟨_,hd,vs,_,dd⟩:=dX I.hok e;refine {dd.typeIs,λb q=>?_,hd};cases q;obtain ⟨ob,_,_,h1,h2,_⟩:=dd;exact ⟨ob,h1,h2.2.1⟩
 .obtain ⟨_,hd,xs,_,dd⟩:=fU I.hok e;refine {dd.typeIs,λb q=>?_,hd};cases q;obtain ⟨ob,_,_,h1,h2,_⟩:=dd;exact ⟨ob,h1,h2.2.1⟩
section
variable {X:Cx}{Go:List (Addr×Obj)}{σ:St}{H:Hp}{s:Lk}{a:Addr}{y d:V}{u r:Value}{o:Option V}{A:LV}{E:Value->Lk->Prop}
theorem Gc(U:A.units+1<cLine)(I:Inv X Go σ H s)(g:dI H a y o)(O:zo y u)(J:zo d r)(h:∀w' s',Inv X Go σ H s'->zo (o.getD d) w'->Q w' s'):
  LM (LH X.prog X.w) A (call (.builtin "dict.get") [.ref a,u,r]) Q E s:=by
 rcases g with ⟨kvs,k,e,F,l⟩|⟨kvs,k,b,e,F,S,l⟩
 .subst F;obtain ⟨z,hd,vs,G,dd⟩:=dX I.hok e;refine Ra PC dd.typeIs entry_dict_get (QQ _ _ _) (meets_dict_get_default (ax X.prog X.w) a (fc O) hd r) {_,dd.mapOf,h _ _ (I.tok _) ?_};rw [l];exact (G.val k).getD J
 .subst F;cases (show u=Lx b from O);obtain ⟨z,hd,xs,G,dd⟩:=fU I.hok e;refine Ra PC dd.typeIs entry_dict_get (QQ _ _ _) (meetsH_dict_get_default (QH (ax X.prog X.w)) a b hd r) {Ou U,k,xs,gR I.hok S,dd,h _ _ (I.tok _) ?_};rw [l];exact (G.val k).getD J
end
section
variable {X:Cx}{Go:List (Addr×Obj)}{σ:St}{H:Hp}{s:Lk}{a:Addr}{kvs:List (Key×V)}{A:LV}{E:Value->Lk->Prop}
theorem Hz(I:Inv X Go σ H s)(e:Rd H a (.dK kvs))(h:∀p s',H p=none->Inv X Go σ (upd H p (.dK kvs)) s'->Q (.ref p) s'):LM (LH X.prog X.w) A (call (.type "dict") [.ref a]) Q E s:=by
 obtain ⟨z,hd,vs,J,dd⟩:=dX I.hok e;refine kt_call_dict hd dd (by rw [<- J.length];exact z) λh' F hs=>?_;refine h _ _ (I.hok.fresh (Ll _)) (I.laid (a:=s.heap.objs.size) (o:=.dK kvs) (t':=s.toks) (λb q G=>?_) (Ll _) (mw z (beq_eq_false_iff_ne.mpr (L9 (MA I.big))) J F));exact (hs.2 b (MA (LX G))).trans (Lm _ G)
end
section
variable {κ:Type} [DecidableEq κ]
theorem II{p:κ×V}{r:List (κ×V)}{k:κ}(e:p.1=k):bV (p::r) k=bV r k:=by
 unfold bV;rw [OR,if_neg (by simp [e])]
theorem F8{p:κ×V}{r:List (κ×V)}{k:κ}(e : ¬ p.1=k):bV (p::r) k=p::bV r k:=by
 unfold bV;rw [OR,if_pos (by simp [e])]
end
theorem KV.at(r:KV kvs vs):∀{i:Nat}{p:Key×V},kvs[i]?=some p->∃u,vs[i]?=some (p.1,u)/\zo p.2 u:=by
 induction r with
 | nil=>intro i p h;simp at h
 | @cons x y l m r t z =>
  intro i p h;cases i with
  | zero =>
   have e:x=p:=by simpa using h
   subst e;exact {y.2,by rw [r.1];rfl,r.2}
  | succ i=>exact z (by simpa using h)
def uK(y:V)(q:Key->Prop):Prop:=∃k,y=kV k/\q k
theorem Ck:uK (.str z) q=q (.inr z):=by
 apply propext;constructor
 .rintro ⟨k,e,h⟩;cases k with
  | inl i=>cases e
  | inr x=>cases e;exact h
 .exact λh=>{.inr z,rfl,h}
theorem J0:uK (.int i) q=q (.inl i):=by
 apply propext;constructor
 .rintro ⟨k,e,h⟩;cases k with
  | inl i=>cases e;exact h
  | inr x=>cases e
 .exact λh=>{.inl i,rfl,h}
section
variable {X:Cx}
def rS:R2:=λx y H Q=>∃a k kvs v,x = .ref a/\y=kV k/\Rd H a (.dK kvs)/\zW kvs k=some v/\Q v H
theorem tN(O:X.A.units+1<cLine):IxR X rS:=by
 intro ZI U Go s σ H x y v u Q I G W h hs;obtain ⟨a,k,kvs,z,rfl,rfl,J,he,q⟩:=h;obtain rfl:v=Lx a:=G;have g:dI H a (kV k) (some z):=.inl {kvs,k,J,rfl,he.symm};unfold subscriptTail;refine we ?_;rw [getitemInPython_of_ne (wm I g).not_modules];refine we (wpAny_specialOf (wm I g) PySem.F.slot_dict_getitem.lookup ?_);have fin:LM (LH X.prog X.w) X.A (subscripted U false (.ref a) u) (λr s₃=>LM (LH X.prog X.w) X.A (letTemporaryGo ZI (.ref a) r>>=λ_=>pure r) (EP X Go σ Q) X.xe s₃) X.xe s:=by
  rw [hs];exact wpAny_operating (K8 O I g W λw' s3 S Z=>we (wpAny_letTemporaryGo (Ls ⟨z,H,S,Z,q⟩)))
 first
  | exact Ls (we fin)
  | exact we (Ls (we fin))
  | exact we fin
def jj(c:Bool):R2:=λy x H Q=>∃a k kvs,x = .ref a/\y=kV k/\Rd H a (.dK kvs)/\Q (.bl (if c then !(zW kvs k).isSome else (zW kvs k).isSome)) H
theorem AW(G:X.A.units+1<cLine):OpR X (Mt .In) (jj false):=by
 intro Go s σ H x y v u Q I z O h;obtain ⟨a,k,kvs,rfl,rfl,F,q⟩:=h;obtain rfl:u=Lx a:=O;exact Ea G I (.inl {kvs,k,F,rfl,rfl}) z λS J=>{.bl (zW kvs k).isSome,H,J,rfl,q}
theorem HY(G:X.A.units+1<cLine):OpR X (Mt .NotIn) (jj true):=by
 intro Go s σ H x y v u Q I z O h;obtain ⟨a,k,kvs,rfl,rfl,F,q⟩:=h;obtain rfl:u=Lx a:=O;exact JU G I (.inl {kvs,k,F,rfl,rfl}) z λS J=>{.bl (!(zW kvs k).isSome),H,J,rfl,q}
theorem Gi{p:Addr}:jj c (.str x) (.ref p) H Q = ∃kvs,Rd H p (.dK kvs)/\Q (.bl (if c then !(zW kvs (.inr x)).isSome else (zW kvs (.inr x)).isSome)) H:=by
 apply propext;constructor
 .rintro ⟨a,k,kvs,e1,z,h,q⟩;cases e1;cases k with
  | inl i=>cases z
  | inr x=>cases z;exact ⟨kvs,h,q⟩
 .rintro ⟨kvs,h,q⟩;exact {p,.inr x,kvs,rfl,rfl,h,q}
def lJ:V->V->V->Hp->(Hp->Prop)->Prop:=λo i v H Q=>nZ o i v H Q\/∃a k kvs,o = .ref a/\i=kV k/\H a=some (.dK kvs)/\kvs.length<sizeLine/\Q (upd H a (.dK (aI kvs k v)))
theorem nF(O:X.A.units+1<cLine):mM X lJ:=by
 intro Go s σ H o i v ov iv u Q I z F G h;rcases h with h|⟨a,k,kvs,rfl,rfl,e,l,q⟩
 .exact il Go s σ H o i v ov iv u Q I z F G h
 .obtain rfl:ov=Lx a:=z;exact CT O I (.inl {kvs,k,e,rfl,l,rfl}) F G λs' J=>{_,J,q}
theorem AB:lJ (.ref a) (.str z) v H Q = ∃kvs,H a=some (.dK kvs)/\kvs.length<sizeLine/\Q (upd H a (.dK (aI kvs (.inr z) v))):=by
 apply propext;constructor
 .rintro (⟨_,_,_,_,_,e,_⟩|⟨G,k,kvs,e1,F,h,l,q⟩)
  .cases e
  .cases e1;cases k with
   | inl i=>cases F
   | inr x=>cases F;exact ⟨kvs,h,l,q⟩
 .rintro ⟨kvs,h,l,q⟩;exact .inr {a,.inr z,kvs,rfl,rfl,h,l,q}
theorem CP:lJ (.ref a) (.int i) v H Q=((∃xs j,H a=some (.lst xs)/\ixN xs.length i=some j/\Q (upd H a (.lst (xs.set j v))))\/∃kvs,H a=some (.dK kvs)/\kvs.length<sizeLine/\Q (upd H a (.dK (aI kvs (.inl i) v)))):=by
 apply propext;unfold lJ;rw [qx];constructor
 .rintro (h|⟨F,k,kvs,e1,z,h,l,q⟩)
  .exact .inl h
  .cases e1;cases k with
   | inl i=>cases z;exact .inr ⟨kvs,h,l,q⟩
   | inr x=>cases z
 .rintro (h|⟨kvs,h,l,q⟩)
  .exact .inl h
  .exact .inr {a,.inl i,kvs,rfl,rfl,h,l,q}
def yA(td ty:TE):TS:=λD σ H=>td σ H λx H1=>ty σ H1 λy H2=>uR x λa=>uK y λk=>∃kvs,H2 a=some (.dK kvs)/\(zW kvs k).isSome=true/\D.nx σ (upd H2 a (.dK (bV kvs k)))
theorem Bz{o i:Mc}{WH pos:Pos}(ho:W (PE X o td))(hi:W (PE X i ty)):W (PS X (.Delete [.Subscript o i WH] pos) (yA td ty)):=by
 refine {?_};have ho:=ho.h;have hi:=hi.h;intro Go s σ H D I h;refine wpAny_Delete (wpAny_deleteEach_cons (wpAny_delete_Subscript (thn (ho Go s σ H _ I h) λu s1=>x5e λx H1 O z q1=>thn (hi Go s1 σ H1 _ O q1) λiv s2=>x5e λy H2 Z S U=>?_)));obtain ⟨a,ex,k,G,kvs,e,l,J⟩:=U;subst ex G;obtain rfl:u=Lx a:=z;exact J5 Z e S l λs3 F=>wpAny_deleteEach_nil {σ,_,F,J}
theorem BV:yA td ty D σ H=td σ H λx H1=>ty σ H1 λy H2=>uR x λa=>uK y λk=>∃kvs,H2 a=some (.dK kvs)/\(zW kvs k).isSome=true/\D.nx σ (upd H2 a (.dK (bV kvs k))):=rfl
def r8(td ty tx:TE):TE:=λσ H Q=>td σ H λx H1=>uR x λa=>(∃kvs,Rd H1 a (.dK kvs))/\ty σ H1 λy H2=>tx σ H2 λz H3=>uK y λk=>∃kvs,Rd H3 a (.dK kvs)/\Q ((zW kvs k).getD z) H3
theorem FY{td ty tx:TE}:r8 td ty tx σ H Q=td σ H λx H1=>uR x λa=>(∃kvs,Rd H1 a (.dK kvs))/\ty σ H1 λy H2=>tx σ H2 λz H3=>uK y λk=>∃kvs,Rd H3 a (.dK kvs)/\Q ((zW kvs k).getD z) H3:=rfl
theorem v9{o e f:Mc}{td ty tx:TE}(hu:X.A.units+1<cLine)(ho:W (PE X o td))(he:W (PE X e ty))(hf:W (PE X f tx))(m:M2 X o "get" Z2 e f cpos:=by exact {rfl,rfl,rfl,rfl}):W (PE X (.Call (.Attribute o "get" Z2) [e,f] [] cpos) (r8 td ty tx)):=by
 refine {?_};have ho:=ho.h;have he:=he.h;have hf:=hf.h;intro Go s σ H Q I h;refine wpAny_Call_method m.base m.few m.line QO PC PySem.F.type_dict_get (thn (ho Go s σ H _ I h) λu s1=>x5e λx H1 J U O=>?_);obtain ⟨a,ex,d,q1⟩:=O;subst ex;obtain rfl:u=Lx a:=U;obtain ⟨t1,t2,_⟩:=GE J (.inl d);refine {t1,t2,?_};rw [m.trees];refine Calls.callWith_builtin rfl (Calls.evalArgs_plain (Calls.spliced_cons (thn (he Go s1 σ H1 _ J q1) λiv s2=>x5e λy H2 I2 ry q2 =>
  Calls.spliced_cons (thn (hf Go s2 σ H2 _ I2 q2) λfv s3=>x5e λz H3 I3 rz G=>Calls.spliced_nil ?_))))
 obtain ⟨k,ey,kvs,g,Z⟩:=G;subst ey;exact Gc hu I3 (.inl {kvs,k,g,rfl,rfl}) ry rz λw' s4 S W2=>{_,H3,S,W2,Z}
end
end L2
namespace L2
open PySem PySem.Spec PyProof.Rows PySem.W PySem.Calls
open Classical in
section
variable {X:Cx}
def sJ:List V->Hp->VK->Prop:=λxs H Q=>uR1 xs λa=>∃kvs,Rd H a (.dK kvs)/\∀p H2,New H p (.dK kvs) H2->Q (.ref p) H2
theorem Ia:sJ [.ref a] H Q = ∃kvs,Rd H a (.dK kvs)/\∀p H2,New H p (.dK kvs) H2->Q (.ref p) H2:=fH
theorem uJ:zI X (.type "dict") sJ:=by
 intro Go s σ H xs us Q I r h;obtain ⟨a,rfl,kvs,ha,q⟩:=h;obtain ⟨u,rfl,z⟩:=cg r;cases z;exact Hz I ha λp s' F G=>{.ref p,_,G,rfl,q _ _ (.mk' F)}
def sk(kvs:List (Str×V)):List (Key×V):=kvs.map λp=>(.inr p.1,p.2)
theorem uq:∀{xs:List V}{us:List Value},xs.length=us.length->(∀(j:Nat)(u:Value),us[j]?=some u->∃x,xs[j]?=some x/\zo x u)->zm xs us
 | [],[],_,_=>.nil
 | [],_::_,h,_=>absurd h 's'
 | _::_,[],h,_=>absurd h 's'
 | x::xs,u::us,h,f=>by
  obtain ⟨y,e,r⟩:=f 0 u rfl;cases e;exact .cons r (uq (by simpa using h) λj w z=>f (j+1) w z)
end
end L2
namespace HT
open PySem PySem.Spec PyProof.Rows PySem.Calls
section
variable {prog:Ly}{w:LW}{A:LV}{E:Value->Lk->Prop}{s:Lk}
theorem getItem_tuple_whole{t sl:Addr}{W:Value}{lo hi:Option Int}(z:QV s.heap t items)(hs:s.heap.IsSliceOf sl Z W .none)(pl:Qq Z lo)(pu:Qq W hi)(h0:sIx items.size 0 lo=0)(h1:sIx items.size items.size hi=items.size)(h:Q (.ref t) s):LM (LH prog w) A (Q7 (.ref t) (.ref sl)) Q E s:=by
 obtain ⟨os,O,J,WK⟩:=id hs;have S:s.TypeIs (.ref sl) "slice":=⟨os,O,J⟩;unfold Q7
 try with_reducible refine Mn ?_
 first|refine we (Ls ?_)|skip
 refine we (wpAny_sequenceKey z.typeIs 'd' ?_);refine we (MI (name:=Lo "__getitem__") z.typeIs MT
  (M4 MT z.typeIs entry_tuple_getitem ?_ (args_tuple_getitem _ _)))
 show LM _ _ (LQ.Tuple.tupleItemsOf (.ref t)>>=_) _ _ s;refine we (tupleItemsOf_ z ?_);refine we (QX S ?_);rw [if_pos 'd'];refine we (yh hs pl pu ?_);have F:(((sIx items.size 0 lo:Nat):Int)==0&&(1:Int)==1&&(sIx items.size items.size hi-sIx items.size 0 lo)==items.size)=true:=by
  rw [h0,h1];simp
 show LM _ _ (if (((sIx items.size 0 lo:Nat):Int)==0&&(1:Int)==1&&(sIx items.size items.size hi-sIx items.size 0 lo)==items.size)=true then _ else _) _ _ s;rw [if_pos F];have G:∀{R:Bool->Lk->Prop}{U:LV}{E':Value->Lk->Prop},R true s->LM (LH prog w) U (LQ.Tuple.tupleIsExact (.ref t)) R E' s:=λ{R U E'} hr=>by
  unfold LQ.Tuple.tupleIsExact
  first
   | exact we (QX z.typeIs (Ls hr))
   | exact wpAny_map (QX z.typeIs hr)
 refine we (G ?_)
 first
  | exact we (Ng (we (Ls (Ls ⟨_,rfl,Ls h⟩))))
  | exact we (Ng (Ls ⟨_,rfl,Ls h⟩))
  | exact we (Ng (we (Ls ⟨_,rfl,Ls h⟩)))
end
end HT
namespace L2
open PySem PySem.Spec PyProof.Rows PySem.W PySem.Calls
section
variable {X:Cx}
def iy:V->Option Int->Option Int->Hp->VK->Prop:=λx lo hi H Q=>uSl x lo hi H Q\/∃a xs,x = .ref a/\H a=some (.tup xs)/\∀p H2,ze H H2->H2 p=some (.tup (aR xs lo hi))->Q (.ref p) H2
theorem nQ:SlR X iy:=by
 intro Go s σ H x v U S lo hi sl Q I F hs pl G h;rcases h with h|⟨a,xs,rfl,hx,q⟩
 .exact eY Go s σ H x v U S lo hi sl Q I F hs pl G h
 .by_cases z:HT.sIx xs.length 0 lo=0/\HT.sIx xs.length xs.length hi=xs.length
  .cases F;obtain ⟨its,r,O,Z⟩:=I.tuple (SqT.of hx);have J:its.toArray.size=xs.length:=by rw [LJ];exact r.length.symm
   refine {"tuple",_,MT.lookup,O.typeIs,?_};refine HT.getItem_tuple_whole O hs pl G (by rw [J];exact z.1) (by rw [J];exact z.2) {.ref a,H,I,rfl,q a H (ze.refl _) ?_};rw [hx];unfold aR;rw [z.1,z.2];simp
  .exact Gb Go s σ H _ v U S lo hi sl Q I F hs pl G {a,xs,rfl,SqT.of hx,z,λp W=>q p _ (New.mk' (o:=.tup (aR xs lo hi)) W).same zx}
theorem JM{lo hi:Option Int}:iy (.str z) lo hi H Q=(z.length<=sizeLine/\Q (.str (Txt.slice z lo hi)) H):=by simp [iy,vK]
theorem Fg{lo hi:Option Int}:iy (.ref a) lo hi H Q=((∃xs,H a=some (.lst xs)/\∀p H2,New H p (.lst (aR xs lo hi)) H2->Q (.ref p) H2)\/∃xs,H a=some (.tup xs)/\∀p H2,ze H H2->H2 p=some (.tup (aR xs lo hi))->Q (.ref p) H2):=by
 unfold iy;rw [xF];apply propext;constructor
 .rintro (h|⟨z,xs,e,h⟩)
  .exact .inl h
  .cases e;exact .inr ⟨xs,h⟩
 .rintro (h|⟨xs,h⟩)
  .exact .inl h
  .exact .inr {a,xs,rfl,h}
def i9:R2:=λx y H Q=>∃a b xs ys,x = .ref a/\y = .ref b/\H a=some (.tup xs)/\H b=some (.tup ys)/\xs.length+ys.length<=sizeLine/\∀p H2,ze H H2->H2 p=some (.tup (xs++ys))->Q (.ref p) H2
theorem Lg:OpR X (NJ .Add) i9:=by
 intro Go s σ H x y v u Q I O U h;obtain ⟨a,b,xs,ys,rfl,rfl,ha,hb,hz,q⟩:=h;by_cases hx:xs=[]
 .cases O;cases U;obtain ⟨its,r1,p1,_⟩:=I.tuple (SqT.of ha);obtain ⟨X6,r2,p2,_⟩:=I.tuple (SqT.of hb);obtain ⟨⟨cls,dd,data,sl⟩,ho,hc,n,hd⟩:=id p1;obtain ⟨⟨W,G,data2,J⟩,F,S,Z,z⟩:=id p2;simp only at hc hd S z;subst hc hd S z;have hi:its=[]:=r1.RL.mpr hx;exact concat_meets {_,ho,rfl} {_,F,rfl} noFill_tuple_add seq_tuple_add slot_tuple_add entry_tuple_add (args_tuple_add_2 _ _)
   (tuple_addW0 a b its.toArray X6.toArray n Z dd G sl J (by simp [hi])) {ho,F,{.ref b,H,I,rfl,q b H (ze.refl _) (by rw [hb,hx];rfl)}}
 .exact HX Go s σ H _ _ v u Q I O U {a,b,xs,ys,rfl,rfl,SqT.of ha,SqT.of hb,hx,hz,λe=>q a H (ze.refl _) (by rw [ha,e,MS]),λ_ p hp=>q p _ (New.mk' (o:=.tup (xs++ys)) hp).same zx}
def fj:R2:=λx y H Q=>dN x y H Q\/i9 x y H Q
theorem kB:OpR X (NJ .Add) fj:=vm.or Lg
theorem BN:fj (.int i) (.int j) H Q=Q (.int (i+j)) H:=by simp [fj,i9,dN]
theorem AZ:fj (.str i) (.str j) H Q=(i.length+j.length<=sizeLine/\Q (.str (i++j)) H):=by simp [fj,i9,dN]
theorem Cf:fj (.ref a) (.ref b) H Q=((∃xs zs,H a=some (.lst xs)/\H b=some (.lst zs)/\xs.length+zs.length<=sizeLine/\∀p H2,New H p (.lst (xs++zs)) H2->Q (.ref p) H2) \/
  ∃xs ys,H a=some (.tup xs)/\H b=some (.tup ys)/\xs.length+ys.length<=sizeLine/\∀p H2,ze H H2->H2 p=some (.tup (xs++ys))->Q (.ref p) H2):=by
 unfold fj;rw [oB];apply propext;constructor
 .rintro (h|⟨F,G,xs,ys,e1,z,h⟩)
  .exact .inl h
  .cases e1;cases z;exact .inr ⟨xs,ys,h⟩
 .rintro (h|⟨xs,ys,h⟩)
  .exact .inl h
  .exact .inr {a,b,xs,ys,rfl,rfl,h}
def uP:TS:=λ_ _ _=>False
theorem gu{st:Stmt}:W (PS X st uP):={λ_ _ _ _ _ _ h=>h.elim}
def tJ(to te:TE):TE:=λσ H Q=>to σ H λx H1=>uR x λl=>(∃xs,H1 l=some (.lst xs))/\te σ H1 λy H2=>uR y λb=>∃xs zs,H2 l=some (.lst xs)/\H2 b=some (.lst zs)/\xs.length+zs.length<=sizeLine/\Q .non (upd H2 l (.lst (xs++zs)))
theorem Cd:tJ to te σ H Q=to σ H λx H1=>uR x λl=>(∃xs,H1 l=some (.lst xs))/\te σ H1 λy H2=>uR y λb=>∃xs zs,H2 l=some (.lst xs)/\H2 b=some (.lst zs)/\xs.length+zs.length<=sizeLine/\Q .non (upd H2 l (.lst (xs++zs))):=rfl
theorem Fx{o e:Mc}(ho:W (PE X o to))(he:W (PE X e te))(S:Nc o "extend" X.env (MQ o X.env)=MQ o X.env:=by rfl)(U:(Z2.endLine==cpos.line)=true:=by rfl)(hp:ak e=true:=by rfl):W (PE X (.Call (.Attribute o "extend" Z2) [e] [] cpos) (tJ to te)):=by
 refine {?_};have ho:=ho.h;have he:=he.h;intro Go s σ H Q I h;have hs:Mb [e] X.env=[(false,MQ e X.env)]:=c8 hp;refine Nz S (by rw [hs];rfl) U rfl (thn (ho Go s σ H _ I h) λv s1=>x5e λx H1 G J Yo=>?_);obtain ⟨l,ex,⟨xs,hx⟩,q1⟩:=Yo;subst ex;obtain ⟨h1,h2⟩:=gn (T:="list") G J (.inl {rfl,xs,SqL.of hx});refine {"list","list.extend",P1,PySem.F.slot_list_extend,PySem.F.type_list_extend,h1,h2,?_};rw [hs];refine Calls.callWith_builtin rfl (Calls.evalArgs_plain ?_);refine Calls.spliced_cons (thn (he Go s1 σ H1 _ G q1) λu s2=>x5e λy H2 I2 r2 O=>Calls.spliced_nil ?_);obtain ⟨b,ey,z,zs,hl,hb,Z,q⟩:=O;subst ey;exact AR Go s2 σ H2 (.ref l) [.ref b] v [u] Q I2 J (.cons r2 .nil) {l,b,z,zs,rfl,rfl,hl,hb,Z,q}
end
end L2
namespace L2
open PySem PySem.Spec PyProof.Rows
section
variable {α β:Type}
def look(t:List (Str×α))(n:Str):Option α:=(t.find? λp=>decide (p.1=n)).map (·.2)
def bx(t:List (Str×α))(n:Str)(a:α):List (Str×α):=if (look t n).isSome then t.map λp=>if p.1=n then (p.1,a) else p else t++[(n,a)]
def aB(t:List (Str×α))(n:Str):List (Str×α):=t.filter λp=>!decide (p.1=n)
def names(t:List (Str×α)):List Str:=t.map (·.1)
theorem wK{n:Str}:look ([]:List (Str×α)) n=none:=rfl
theorem cI{p:Str×α}{t:List (Str×α)}{n:Str}:look (p::t) n=if p.1=n then some p.2 else look t n:=by
 unfold look;by_cases h:p.1=n
 .rw [List.find?_cons_of_pos (by simpa using h),if_pos h];rfl
 .rw [List.find?_cons_of_neg (by simpa using h),if_neg h]
theorem ir{t:List (Str×α)}{n:Str}:look t n=none↔n∉names t:=by
 induction t with
 | nil=>simp [look,names]
 | cons p t z =>
  rw [cI];by_cases e:p.1=n
  .rw [if_pos e];simp [names,e]
  .rw [if_neg e,z];simp [names];exact λ_=>λh=>e h.symm
theorem FG{t:List (Str×α)}{n:Str}:names (bx t n a)=if (look t n).isSome then names t else names t++[n]:=by
 unfold bx names;by_cases h:(look t n).isSome
 .rw [if_pos h,if_pos h,Mv];refine NZ λp _=>?_;show (if p.1=n then (p.1,a) else p).1=p.1;split<;>rfl
 .rw [if_neg h,if_neg h,Mp];rfl
theorem pK{t:List (Str×α)}{n:Str}(nd:(names t).Nodup):(names (bx t n a)).Nodup:=by
 rw [FG];by_cases h:(look t n).isSome
 .rw [if_pos h];exact nd
 .rw [if_neg h];have:look t n=none:=by simpa using h
  rw [ir] at this;rw [Oa];refine {nd,'s',λx hx y z e=>?_};have:y=n:=by simpa using z
  subst this;subst e;contradiction
theorem Ho{t:List (Str×α)}{n:Str}(nd:(names t).Nodup):(names (aB t n)).Nodup:=by
 unfold names aB;exact nd.sublist (Sublist.map _ List.filter_sublist)
theorem HS{t:List (Str×α)}{n m:Str}:look (t.map λp=>if p.1=n then (p.1,a) else p) m=if m=n then (if (look t n).isSome then some a else none) else look t m:=by
 induction t with
 | nil=>by_cases h:m=n<;>simp [look,h]
 | cons p t F =>
  rw [MD,cI,F,cI,cI];by_cases e:p.1=n
  .rw [if_pos e,if_pos e];show (if p.1=m then some a else _)=_;by_cases h:m=n
   .rw [if_pos (by rw [e,h]),if_pos h];rfl
   .rw [if_neg (λz=>h (by rw [<- z,e])),if_neg h,if_neg h,if_neg (λz=>h (by rw [<- z,e]))]
  .rw [if_neg e,if_neg e];by_cases h:m=n
   .rw [if_pos h,if_pos h,if_neg (λz=>e (by rw [z,h]))]
   .rw [if_neg h,if_neg h]
theorem Kr{t u:List (Str×α)}:look (t++u) m=(look t m).or (look u m):=by
 induction t with
 | nil=>simp [wK]
 | cons p t z =>
  rw [Qx,cI,cI,z];by_cases h:p.1=m
  .rw [if_pos h,if_pos h];rfl
  .rw [if_neg h,if_neg h]
theorem KW{t:List (Str×α)}{n m:Str}:look (bx t n a) m=if m=n then some a else look t m:=by
 unfold bx;by_cases h:(look t n).isSome
 .rw [if_pos h,HS,if_pos h]
 .rw [if_neg h,Kr,cI];have F:look t n=none:=by simpa using h
  by_cases e:m=n
  .rw [if_pos e,e,F,if_pos rfl];rfl
  .rw [if_neg e,if_neg (λz=>e z.symm),wK,Option.or_none]
theorem wD{t:List (Str×α)}{n m:Str}:look (aB t n) m=if m=n then none else look t m:=by
 induction t with
 | nil=>by_cases h:m=n<;>simp [look,aB,h]
 | cons p t F =>
  by_cases e:p.1=n
  .have:aB (p::t) n=aB t n:=by unfold aB;rw [Oq (by simpa using e)]
   rw [this,F,cI];by_cases h:m=n
   .rw [if_pos h,if_pos h]
   .rw [if_neg h,if_neg h,if_neg (λz=>h (by rw [<- z,e]))]
  .have:aB (p::t) n=p::aB t n:=by unfold aB;rw [Oo (by simpa using e)]
   rw [this,cI,cI,F];by_cases h:m=n
   .rw [if_pos h,if_pos h,if_neg (λz=>e (by rw [z,h]))]
   .rw [if_neg h,if_neg h]
def g6(t u:List (Str×α)):Prop:=∀n,look t n=look u n
theorem g6.drop{t u:List (Str×α)}(h:g6 t u)(n:Str):g6 (aB t n) (aB u n):=λm=>by rw [wD,wD,h m]
theorem g6.names{t u:List (Str×α)}(h:g6 t u)(J:(names t).Nodup)(G:(L2.names u).Nodup):(L2.names t).Perm (L2.names u):=by
 refine (List.perm_ext_iff_of_nodup J G).mpr λn=>?_;have h1:=h n;constructor
 .intro F;refine N1 λz=>?_;rw [ir.mpr z] at h1;exact ir.mp h1 F
 .intro F;refine N1 λz=>?_;rw [ir.mpr z] at h1;exact ir.mp h1.symm F
def Dct(R:V->α->Prop):List (Str×V)->List (Str×α)->Prop:=Paired λp q=>p.1=q.1/\R p.2 q.2
theorem Dct.names{t:List (Str×α)}(h:Dct R kvs t):kvs.map (·.1)=L2.names t:=by
 induction h with
 | nil=>rfl
 | @cons p q l m r _ z=>show p.1::l.map (·.1)=q.1::m.map (·.1);rw [r.1,z];rfl
theorem Dct.length{t:List (Str×α)}(h:Dct R kvs t):kvs.length=t.length:=Paired.length h
theorem Dct.imp{t:List (Str×α)}(h:Dct R kvs t)(f:∀v a,R v a->S v a):Dct S kvs t:=Paired.z9 h λp q z=>{z.1,f _ _ z.2}
theorem Dct.look{t:List (Str×α)}(h:Dct R kvs t)(n:Str):(∃v a,L2.look kvs n=some v/\L2.look t n=some a/\R v a)\/(L2.look kvs n=none/\L2.look t n=none):=by
 induction h with
 | nil=>exact .inr {rfl,rfl}
 | cons r _ z =>
  rw [cI,cI,<- r.1];split
  .exact .inl {_,_,rfl,rfl,r.2}
  .exact z
theorem Dct.put{t:List (Str×α)}(h:Dct R kvs t)(n:Str)(r:R v a):Dct R (bx kvs n v) (bx t n a):=by
 have hs:(L2.look kvs n).isSome=(L2.look t n).isSome:=by
  rcases h.look n with ⟨v,a,e1,F,_⟩|⟨e1,F⟩<;>rw [e1,F]<;>rfl
 have hm:Dct R (kvs.map λp=>if p.1=n then (p.1,v) else p) (t.map λp=>if p.1=n then (p.1,a) else p):=by
  clear hs
  induction h with
  | nil=>exact .nil
  | @cons p q _ _ r' _ z =>
   refine .cons ?_ z;show (if p.1=n then (p.1,v) else p).1=(if q.1=n then (q.1,a) else q).1/\R (if p.1=n then (p.1,v) else p).2 (if q.1=n then (q.1,a) else q).2;by_cases e:p.1=n
   .rw [if_pos e,if_pos (by rw [<- r'.1];exact e)];exact ⟨r'.1,r⟩
   .rw [if_neg e,if_neg (by rw [<- r'.1];exact e)];exact r'
 have ha:Dct R (kvs++[(n,v)]) (t++[(n,a)]):=by
  clear hs hm
  induction h with
  | nil=>exact .cons {rfl,r} .nil
  | cons r' _ z=>exact .cons r' z
 unfold bx;rw [hs];split
 .exact hm
 .exact ha
theorem Dct.drop{t:List (Str×α)}(h:Dct R kvs t)(n:Str):Dct R (aB kvs n) (aB t n):=by
 induction h with
 | nil=>exact .nil
 | @cons p q _ _ r _ z =>
  unfold aB at z ⊢;by_cases e:p.1=n
  .rw [Oq (by simpa using e),Oq (by rw [<- r.1];simpa using e)];exact z
  .rw [Oo (by simpa using e),Oo (by rw [<- r.1];simpa using e)];exact .cons r z
theorem Dct.at{t:List (Str×α)}(h:Dct R kvs t):∀{i:Nat}{p:Str×V},kvs[i]?=some p->∃a,t[i]?=some (p.1,a)/\R p.2 a:=by
 induction h with
 | nil=>intro i p e;simp at e
 | @cons x y _ _ r _ F =>
  intro i p e;cases i with
  | zero =>
   have z:x=p:=by simpa using e
   subst z;exact {y.2,by rw [r.1];rfl,r.2}
  | succ i=>exact F (by simpa using e)
end
theorem gg{n:Str}:zW (sk kvs) (.inr n)=look kvs n:=by
 induction kvs with
 | nil=>rfl
 | cons p t F =>
  rw [cI];by_cases e:p.1=n
  .rw [if_pos e];exact gU (show (Sum.inr p.1:Key)=Sum.inr n by rw [e])
  .rw [if_neg e,<- F];exact jd (λz=>e (by injection z))
theorem qO{n:Str}:aI (sk kvs) (.inr n) v=sk (bx kvs n v):=by
 unfold aI bx;have hs:((sk kvs).any λkv=>decide (kv.1 = .inr n))=(look kvs n).isSome:=by rw [qu,gg]
 rw [hs];split
 .unfold sk;rw [Mv,Mv];refine NZ λp _=>?_;by_cases e:p.1=n
  .simp [e]
  .simp [e]
 .simp [sk]
theorem A0{n:Str}:bV (sk kvs) (.inr n)=sk (aB kvs n):=by
 induction kvs with
 | nil=>rfl
 | cons p t F =>
  by_cases e:p.1=n
  .have:aB (p::t) n=aB t n:=by unfold aB;rw [Oq (by simpa using e)]
   rw [this,<- F];exact II (show (Sum.inr p.1:Key)=Sum.inr n by rw [e])
  .have:aB (p::t) n=p::aB t n:=by unfold aB;rw [Oo (by simpa using e)]
   rw [this];show bV ((Sum.inr p.1,p.2)::sk t) (Sum.inr n)=(Sum.inr p.1,p.2)::sk (aB t n);rw [<- F];exact F8 (λz=>e (by injection z))
theorem Dc:rS (.ref a) (.str z) H Q = ∃kvs,Rd H a (.dK kvs)/\∃v,zW kvs (.inr z)=some v/\Q v H:=by
 apply propext;constructor
 .rintro ⟨G,k,kvs,v,e1,F,h1,h2,q⟩;cases e1;cases k with
  | inl i=>cases F
  | inr x=>cases F;exact ⟨kvs,h1,v,h2,q⟩
 .rintro ⟨kvs,h1,v,h2,q⟩;exact {a,.inr z,kvs,v,rfl,rfl,h1,h2,q}
theorem Cs:i9 (.ref a) (.ref b) H Q = ∃xs ys,H a=some (.tup xs)/\H b=some (.tup ys)/\xs.length+ys.length<=sizeLine/\∀p H2,ze H H2->H2 p=some (.tup (xs++ys))->Q (.ref p) H2:=by
 apply propext;constructor
 .rintro ⟨F,G,xs,ys,e1,z,h⟩;cases e1;cases z;exact ⟨xs,ys,h⟩
 .rintro ⟨xs,ys,h⟩;exact {a,b,xs,ys,rfl,rfl,h}
theorem Kk{k j:Nat}{p pos:Pos}(G:GC X.prog X.w X.K X.mg X.base cm j x C ps sp)(hr:zB cm k X.A)(hg:Gl X x)(z:j+1<=k:=by decide)(J:(x==("__debug__":Str))=false:=by decide):
  PE X (.Call (.Name x p) [] [] pos) (jM C sp bO):=by
 obtain ⟨f,fd,F,hm,M,hb⟩:=G.ex;intro Go s σ H Q I h;exact Hy M F (hr.mono z) hg hm hb .nil iu J Go s σ H Q I (λy dx hx hd ne=>h y dx _ (.mk' hx hd ne))
theorem xQ{k j:Nat}{p pos:Pos}(G:GC X.prog X.w X.K X.mg X.base cm j x C ps sp)(hr:zB cm k X.A)(hg:Gl X x)(z:j+1<=k:=by decide)(F:(x==("__debug__":Str))=false:=by decide):
  W (PE X (.Call (.Name x p) [] [] pos) (jM C sp bO)):={Kk G hr hg z F}
def pq:R2:=λx y H Q=>∃p xs,y = .ref p/\(H p=some (.lst xs)\/H p=some (.tup xs))/\zF x=true/\xs.all zF=true/\Q (.bl (!inV x xs)) H
theorem BX(F:X.A.units<cLine):OpR X (Mt .NotIn) pq:=FH.weak λx y H Q h=>by
 obtain ⟨p,xs,e,h,f1,z,q⟩:=h;exact {p,xs,e,h.elim (λh=>.inl (SqL.of h)) (λh=>.inr (SqT.of h)),f1,z,by simpa using q}
theorem F9{p:Addr}:pq x (.ref p) H Q = ∃xs,(H p=some (.lst xs)\/H p=some (.tup xs))/\zF x=true/\xs.all zF=true/\Q (.bl (!inV x xs)) H:=by simp [pq]
theorem rD:(sk kvs).length=kvs.length:=by simp [sk]
end L2
namespace Ts
open PySem PyProof.Rows
def gal:Bool->L7->Array L7->Nat->Nat->Nat->StateT Mf Sem (Option Nat):=sortPriv% PySem.Builtin.gallop
def mLo:Array L7->Array L7->StateT Mf Sem (Array L7):=sortPriv% PySem.Builtin.mergeLo
def mHi:Array L7->Array L7->StateT Mf Sem (Array L7):=sortPriv% PySem.Builtin.mergeHi
section
variable {prog:Ly}{w:LW}{A:LV}{E:Value->Lk->Prop}{s:Lk}
def ar(x:L7):Prop:=∃n t,x.1 = .int n t
theorem iY{st:Mf}(F:kindOf st=oneType')(hx:ar x)(G:ar y)(h:Q (some (decide (Nv x.1<Nv y.1))) st):wpS (LH prog w) A E s (lt' x y) Q st:=by
 obtain ⟨a,t,ea⟩:=hx;obtain ⟨b,u,z⟩:=G;rw [lt'_eq];refine Lv (PB ?_);rw [F,keyLt'_oneType,ea,z];rw [ea,z] at h;exact Lv (Qc (Of (oneLt_int {rfl,LD h})))
theorem aK{st:Mf}{p:L7}(e:xs[i]?=some p)(h:Q p st):wpS (LH prog w) A E s (elem' xs i) Q st:=by
 rw [elem'_eq,e];exact LD h
def Bey(left:Bool)(k:Int)(x:Int):Bool:=if left then decide (x<k) else decide (x<=k)
theorem bf{p:L7}(e:xs[i]?=some p):K xs i=Nv p.1:=by unfold K;rw [e]
theorem E9{st:Mf}{p:L7}(J:kindOf st=oneType')(G:ar key)(e:F[i]?=some p)(O:ar p)(h:Q (some (Bey left (Nv key.1) (K F i))) st):
  wpS (LH prog w) A E s (do
   let x<-elem' F i
   if left=true then lt' x key else do
    let r<-lt' key x
    pure (Rn (λx=>!x) r)) Q st:=by
 refine Lv (aK e ?_);rw [bf e] at h;cases left with
 | true =>
  rw [if_pos rfl];exact iY J O G h
 | false =>
  rw [if_neg 'd'];refine Lv (iY J G O (LD ?_));have S:(!decide (Nv key.1<Nv p.1))=Bey false (Nv key.1) (Nv p.1):=by
   unfold Bey;rw [if_neg 'd'];by_cases z:Nv p.1<=Nv key.1
   .rw [decide_eq_true z,decide_eq_false 'l'];rfl
   .rw [decide_eq_false z,decide_eq_true 'l'];rfl
  show Q (some (!decide (Nv key.1<Nv p.1))) st;rw [S];exact h
theorem HB{k x y:Int}(h:x<=y)(hb:Bey left k y=true):Bey left k x=true:=by
 unfold Bey at hb ⊢;cases left with
 | true=>rw [if_pos rfl] at hb ⊢;have:=of_decide_eq_true hb;exact decide_eq_true 'l'
 | false=>rw [if_neg 'd'] at hb ⊢;have:=of_decide_eq_true hb;exact decide_eq_true 'l'
theorem gD{st:Mf}{base n F:Nat}(hk:kindOf st=oneType')(W3:ar key)(hi:∀i,base<=i->i<base+n->∃p,G[i]?=some p/\ar p)(so:∀i j,base<=i->i<=j->j<base+n->K G i<=K G j)(hh:F<n)(h:∀k,k<=n->(∀i,i<k->Bey left (Nv key.1) (K G (base+i))=true)->(∀i,k<=i->i<n->Bey left (Nv key.1) (K G (base+i))=false)->Q (some k) st):
  wpS (LH prog w) A E s (gal left key G base n F) Q st:=by
 have J:∀i j,i<=j->j<n->Bey left (Nv key.1) (K G (base+j))=true->Bey left (Nv key.1) (K G (base+i))=true:=λi j Zh hj hb=>HB (so _ _ 'l' 'l' 'l') hb;have up:∀i j,i<=j->j<n->Bey left (Nv key.1) (K G (base+i))=false->Bey left (Nv key.1) (K G (base+j))=false:=λi j Zh hj hb=>by
  cases e:Bey left (Nv key.1) (K G (base+j)) with
  | false=>rfl
  | true=>rw [J i j Zh hj e] at hb;cases hb
 have ask:∀{Q:Option Bool->Mf->Prop}(i:Nat),i<n->Q (some (Bey left (Nv key.1) (K G (base+i)))) st->wpS (LH prog w) A E s (do
   let x<-elem' G (base+i)
   if left=true then lt' x key else do
    let r<-lt' key x
    pure (Rn (λx=>!x) r)) Q st:=λ{Q} i a0 q=>by
  obtain ⟨p,e,hp⟩:=hi (base+i) 'l' 'l';exact E9 hk W3 e hp q
 unfold gal;refine Lv (ask F hh ?_);dsimp only;have ai:∀lo WJ,lo<=WJ->WJ<=n->(∀i,i<lo->Bey left (Nv key.1) (K G (base+i))=true)->(∀i,WJ<=i->i<n->Bey left (Nv key.1) (K G (base+i))=false) ->
   wpS (LH prog w) A E s (forIn [:n] ((none,lo,WJ):Option (Option Nat)×Nat×Nat) λx __s=>if __s.2.1 ≥ __s.2.2 then pure (ForInStep.done (none,__s.2.1,__s.2.2)) else do
    let __x<-(do
     let x<-elem' G (base+(__s.2.1+(__s.2.2-__s.2.1) / 2))
     if left=true then lt' x key else do
      let r<-lt' key x
      pure (Rn (λx=>!x) r))
    match __x with
    | some more=>if more=true then pure (ForInStep.yield (none,__s.2.1+(__s.2.2-__s.2.1) / 2+1,__s.2.2)) else pure (ForInStep.yield (none,__s.2.1,__s.2.1+(__s.2.2-__s.2.1) / 2))
    | x=>pure (ForInStep.done (some none,__s.2.1,__s.2.2)))
   (λc st'=>st'=st/\∃k,c=(none,k,k)/\k<=n/\(∀i,i<k->Bey left (Nv key.1) (K G (base+i))=true)/\(∀i,k<=i->i<n->Bey left (Nv key.1) (K G (base+i))=false)) st:=by
  intro lo WJ aT av b1 b2;refine Mz (I:=λx c st'=>st'=st/\∃l r,c=(none,l,r)/\l<=r/\r<=n/\r-l<=n-x/\(∀i,i<l->Bey left (Nv key.1) (K G (base+i))=true)/\(∀i,r<=i->i<n->Bey left (Nv key.1) (K G (base+i))=false)) ?_ ?_ {rfl,lo,WJ,rfl,aT,av,'l',b1,b2}
  .rintro x c st' _ hx ⟨rfl,l,r,rfl,aL,Z,hm,c1,c2⟩;dsimp only;by_cases U:l ≥ r
   .rw [if_pos U];have:l=r:=by lia
    subst this;exact LD {rfl,l,rfl,Z,c1,c2}
   .rw [if_neg U];refine Lv (ask _ 'l' ?_);dsimp only;cases e:Bey left (Nv key.1) (K G (base+(l+(r-l) / 2))) with
    | true =>
     rw [if_pos rfl];exact LD {rfl,_,r,rfl,'l',Z,'l',λi hi=>J i _ 'l' 'l' e,c2}
    | false =>
     rw [if_neg 'd'];exact LD {rfl,l,_,rfl,'l','l','l',c1,λi h1 h2=>up _ i h1 h2 e}
  .rintro c st' ⟨rfl,l,r,rfl,aL,Z,hm,c1,c2⟩;have:l=r:=by lia
   subst this;exact {rfl,l,rfl,Z,c1,c2}
 cases e:Bey left (Nv key.1) (K G (base+F)) with
 | true =>
  rw [if_pos rfl];refine Lv (Nk (Mz (I:=λx c st'=>st'=st/\∃l o,c=(none,l,o)/\l<o/\x+1<=o/\l<n-F/\Bey left (Nv key.1) (K G (base+(F+l)))=true)
   (Q:=λc st'=>st'=st/\∃l o,c=(none,l,o)/\l<o/\l<n-F/\Bey left (Nv key.1) (K G (base+(F+l)))=true/\(o ≥ n-F\/Bey left (Nv key.1) (K G (base+(F+o)))=false)) ?_ ?_ {rfl,0,1,rfl,'l','l','l',by simpa using e}) ?_)
  .rintro x c st' _ hx ⟨rfl,l,o,rfl,S,ab,O,hb⟩;dsimp only;by_cases U:o ≥ n-F
   .rw [if_pos U];exact LD {rfl,l,o,rfl,S,O,hb,.inl U}
   .rw [if_neg U];refine Lv (ask _ 'l' ?_);dsimp only;cases e2:Bey left (Nv key.1) (K G (base+(F+o))) with
    | false =>
     rw [if_pos (show (!false)=true from rfl)];exact LD {rfl,l,o,rfl,S,O,hb,.inr e2}
    | true =>
     rw [if_neg 'd'];exact LD {rfl,o,_,rfl,'l','l','l',e2}
  .rintro c st' ⟨rfl,l,o,rfl,S,ab,O,hb⟩;exact {rfl,l,o,rfl,S,O,hb,.inl 'l'}
  .rintro c st' ⟨rfl,l,o,rfl,S,O,hb,W⟩;dsimp only;refine Lv (Nk (ai (F+l+1) (F+min o (n-F)) 'l' 'l' (λi hi=>J i (F+l) 'l' 'l' hb) (λi h1 h2=>?_)) λc st' hc=>by obtain ⟨rfl,k,rfl,h1,h2,h3⟩:=hc;exact LD (h k h1 h2 h3));rcases W with W|W
   .lia
   .by_cases z:o ≥ n-F
    .lia
    .exact up (F+o) i 'l' h2 W
 | false =>
  rw [if_neg 'd'];refine Lv (Nk (Mz (I:=λx c st'=>st'=st/\∃l o,c=(none,l,o)/\l<o/\x+1<=o/\l<F+1/\Bey left (Nv key.1) (K G (base+(F-l)))=false)
   (Q:=λc st'=>st'=st/\∃l o,c=(none,l,o)/\l<o/\l<F+1/\Bey left (Nv key.1) (K G (base+(F-l)))=false/\(o ≥ F+1\/Bey left (Nv key.1) (K G (base+(F-o)))=true)) ?_ ?_ {rfl,0,1,rfl,'l','l','l',by simpa using e}) ?_)
  .rintro x c st' _ hx ⟨rfl,l,o,rfl,S,ab,O,hb⟩;dsimp only;by_cases U:o ≥ F+1
   .rw [if_pos U];exact LD {rfl,l,o,rfl,S,O,hb,.inl U}
   .rw [if_neg U];refine Lv (ask _ 'l' ?_);dsimp only;cases e2:Bey left (Nv key.1) (K G (base+(F-o))) with
    | true =>
     rw [if_pos rfl];exact LD {rfl,l,o,rfl,S,O,hb,.inr e2}
    | false =>
     rw [if_neg 'd'];exact LD {rfl,o,_,rfl,'l','l','l',e2}
  .rintro c st' ⟨rfl,l,o,rfl,S,ab,O,hb⟩;exact {rfl,l,o,rfl,S,O,hb,.inl 'l'}
  .rintro c st' ⟨rfl,l,o,rfl,S,O,hb,W⟩;dsimp only;refine Lv (Nk (ai (F+1-min o (F+1)) (F-l) 'l' 'l' (λi hi=>?_) (λi h1 h2=>up (F-l) i h1 h2 hb)) λc st' hc=>by obtain ⟨rfl,k,rfl,h1,h2,h3⟩:=hc;exact LD (h k h1 h2 h3));rcases W with W|W
   .lia
   .by_cases z:o ≥ F+1
    .lia
    .exact J i (F-o) 'l' 'l' W
end
def kv(x:L7):Int:=Nv x.1
def Srt(l:List L7):Prop:=l.Pairwise λx y=>kv x<=kv y
structure Mg(L out A B:List L7):Prop where
 perm:(out++(A++B)).Perm L
 so:Srt out
 sA:Srt A
 sB:Srt B
 lA:∀x∈out,∀y∈A,kv x<=kv y
 lB:∀x∈out,∀y∈B,kv x<=kv y
theorem Mg.symm(h:Mg L out A B):Mg L out B A:={((N7.refl out).append OG).trans h.perm,h.so,h.sB,h.sA,h.lB,h.lA}
theorem Mg.take(h:Mg L out (X++A) B)(hx:∀x∈X,∀y∈B,kv x<=kv y):Mg L (out++X) A B:=by
 have s:=MN.mp h.sA;refine {by have:=h.perm;rw [Ma X A B,<- Ma out X] at this;exact this,MN.mpr {h.so,s.1,λx hx y z=>h.lA x hx y (MG _ z)},s.2.1,h.sB,λx F y z=>?_,λx F y z=>?_}
 .rcases L6.mp F with h'|h'
  .exact h.lA x h' y (LU _ z)
  .exact s.2.2 x h' y z
 .rcases L6.mp F with h'|h'
  .exact h.lB x h' y z
  .exact hx x h' y z
theorem Mg.fin(h:Mg L out A B)(hx:∀x∈A,∀y∈B,kv x<=kv y):Srt (out++A++B)/\(out++A++B).Perm L:=by
 refine {MN.mpr {MN.mpr ⟨h.so,h.sA,h.lA⟩,h.sB,λx F y z=>?_},by rw [Ma];exact h.perm};rcases L6.mp F with h'|h'
 .exact h.lB x h' y z
 .exact hx x h' y z
theorem Srt.head{p:L7}(h:Srt (p::l))(hc:c<=kv p):∀x∈p::l,c<=kv x:=λx hx=>by
 rcases Lu.mp hx with rfl|hx
 .exact hc
 .exact NG hc ((Ny.mp h).1 x hx)
theorem jE(a:Array L7)(i:Nat):(a.extract i).toList=a.toList.drop i:=by
 rw [OL,NS];exact L5 (by rw [Ni,Mi];exact Ll _)
theorem Jn(a:Array L7)(i k:Nat):(a.extract i (i+k)).toList=(a.toList.drop i).take k:=by
 rw [OL,NS];congr 1;lia
theorem eZ{a:Array L7}(h:i<a.size):∃p,a[i]?=some p/\a.toList.drop i=p::a.toList.drop (i+1):=by
 refine {a[i],getElem?_pos a i h,?_};rw [NT (by rw [Mi];exact h),OQ]
theorem Srt.K{a:Array L7}(h:Srt a.toList){i j:Nat}(F:i<=j)(z:j<a.size):K a i<=K a j:=by
 rw [bf (getElem?_pos a i 'l'),bf (getElem?_pos a j z)];by_cases e:i=j
 .subst e;exact MR _
 .have:=M9.mp h i j (by rw [Mi];lia) (by rw [Mi];lia) 'l';rw [OQ,OQ] at this;exact this
theorem sU{a:Array L7}(h:x∈a.toList.drop i):∃j,j<a.size-i/\a[i+j]?=some x:=by
 obtain ⟨j,z,e⟩:=NB h;rw [Ni,Mi] at z;refine {j,z,?_};rw [List.getElem_drop,OQ] at e;rw [<- e];exact getElem?_pos a _ _
theorem mY{a:Array L7}{i k:Nat}(h:x∈(a.toList.drop i).take k):∃j,j<k/\a[i+j]?=some x:=by
 obtain ⟨j,z,e⟩:=NB h;have F:=z;rw [ME,Ni,Mi] at z;refine {j,'l',?_};rw [QA,List.getElem_drop,OQ] at e;rw [<- e];exact getElem?_pos a _ _
theorem pG{k x:Int}(h:Bey false k x=true):x<=k:=by unfold Bey at h;rw [if_neg 'd'] at h;exact of_decide_eq_true h
theorem qD{k x:Int}(h:Bey false k x=false):k<x:=by unfold Bey at h;rw [if_neg 'd'] at h;have:=of_decide_eq_false h;lia
theorem oy{k x:Int}(h:Bey true k x=true):x<k:=by unfold Bey at h;rw [if_pos rfl] at h;exact of_decide_eq_true h
theorem pS{k x:Int}(h:Bey true k x=false):k<=x:=by unfold Bey at h;rw [if_pos rfl] at h;have:=of_decide_eq_false h;lia
theorem Mg.tk{i k:Nat}(m:Mg L out.toList (a.toList.drop i) B)(h1:∀j,j<k->K a (i+j)<=c)(h2:∀y∈B,c<=kv y):Mg L (out++a.extract i (i+k)).toList (a.toList.drop (i+k)) B:=by
 rw [NO,Jn];have e:a.toList.drop i=(a.toList.drop i).take k++a.toList.drop (i+k):=by rw [<- List.drop_drop,MW]
 refine Mg.take (by rw [<- e];exact m) λx hx y G=>?_;obtain ⟨j,F,z⟩:=mY hx;have:=h1 j F;rw [bf z] at this;exact NG this (h2 y G)
theorem uH{i k n:Nat}(G:n=a.size-i)(h:∀j,k<=j->j<n->c<=K a (i+j)):∀x∈a.toList.drop (i+k),c<=kv x:=λx hx=>by
 obtain ⟨j,F,z⟩:=sU hx;have:=h (k+j) 'l' 'l';rw [show i+(k+j)=i+k+j by lia,bf z] at this;exact this
structure SG(st st':Mf):Prop where
 k:kindOf st'=kindOf st
 a:LI st'=LI st
 p:MF st'=MF st
 f:ND st'=ND st
theorem SG.refl{st:Mf}:SG st st:={rfl,rfl,rfl,rfl}
def va:Nat->StateT Mf Sem Unit:=sortPriv% PySem.Builtin.setMinGallop
section
variable {prog:Ly}{w:LW}{A:LV}{E:Value->Lk->Prop}{s:Lk}
theorem km{st st':Mf}(hs:SG st st')(h:∀z,SG st z->Q () z):wpS (LH prog w) A E s (va g) Q st':=by
 unfold va;refine Pa (h _ {?_,?_,?_,?_})
 .exact hs.k
 .exact hs.a
 .exact hs.p
 .exact hs.f
theorem az{β:Type}{_:Decidable c}{x y:StateT Mf Sem β}{Q:β->Mf->Prop}{st:Mf}(h1:c->wpS (LH prog w) A E s x Q st)(h2 : ¬c->wpS (LH prog w) A E s y Q st):wpS (LH prog w) A E s (if c then x else y) Q st:=by
 split
 .exact h1 ‹_›
 .exact h2 ‹_›
theorem tW{β:Type}{_:Decidable (true=true)}{x y:StateT Mf Sem β}{Q:β->Mf->Prop}{st:Mf}(h1:wpS (LH prog w) A E s x Q st):wpS (LH prog w) A E s (if true=true then x else y) Q st:=az (λ_=>h1) λh=>absurd rfl h
theorem uQ{β:Type}{_:Decidable (false=true)}{x y:StateT Mf Sem β}{Q:β->Mf->Prop}{st:Mf}(h1:wpS (LH prog w) A E s y Q st):wpS (LH prog w) A E s (if false=true then x else y) Q st:=az nofun λ_=>h1
theorem x8{β:Type}{_:Decidable c}{f:Nat->StateT Mf Sem β}{Q:β->Mf->Prop}{st:Mf}(g1 z:Nat)(h:∀g,wpS (LH prog w) A E s (f g) Q st):wpS (LH prog w) A E s (if c then f g1 else f z) Q st:=az (λ_=>h _) λ_=>h _
theorem tL{β:Type}{_:Decidable c}{_:Decidable d}{P:StateT Mf Sem β}{f:Nat->Array L7->StateT Mf Sem β}{Q:β->Mf->Prop}{st:Mf}(g1:Nat)(z:Array L7)(G:Nat)(F:Array L7)(h1:c->d->wpS (LH prog w) A E s P Q st)(h:∀g o,(c/\¬d/\g=g1/\o=z)\/(¬c/\g=G/\o=F)->wpS (LH prog w) A E s (f g o) Q st):wpS (LH prog w) A E s (if c then if d then P else f g1 z else f G F) Q st:=az (λhc=>az (h1 hc) λhd=>h _ _ (.inl {hc,hd,rfl,rfl})) λhc=>h _ _ (.inr {hc,rfl,rfl})
theorem vJ{β:Type}{_:Decidable c}{_:Decidable d}{_:Decidable e}{P R:StateT Mf Sem β}{f:Nat->Array L7->StateT Mf Sem β}{Q:β->Mf->Prop}{st:Mf}(g1:Nat)(z:Array L7)(G:Nat)(F:Array L7)(h1:d->wpS (LH prog w) A E s P Q st)(h2:e->wpS (LH prog w) A E s R Q st)(h:∀g o,(¬d/\¬e/\g=g1/\o=z)\/(¬c/\g=G/\o=F)->wpS (LH prog w) A E s (f g o) Q st):wpS (LH prog w) A E s (if c then if d then P else if e then R else f g1 z else f G F) Q st:=az (λ_=>az h1 λhd=>az h2 λhe=>h _ _ (.inl {hd,he,rfl,rfl})) λhc=>h _ _ (.inr {hc,rfl,rfl})
theorem Gu{st:Mf}(hk:kindOf st=oneType')(iA:∀x∈a.toList,ar x)(iB:∀x∈b.toList,ar x)(sA:Srt a.toList)(sB:Srt b.toList)(a0:0<a.size)(b0:0<b.size)(h0:∀y,b[0]?=some y->∀x∈a.toList,kv y<=kv x)(hl:∀x,a[a.size-1]?=some x->∀y∈b.toList,kv y<=kv x)(h:∀o st',SG st st'->Srt o.toList->o.toList.Perm (a.toList++b.toList)->Q o st'):
  wpS (LH prog w) A E s (mLo a b) Q st:=by
 have aL:∀{i p},a[i]?=some p->ar p:=λ{i p} e=>iA p (by rw [<- MH] at e;exact LF e);have aT:∀{i p},b[i]?=some p->ar p:=λ{i p} e=>iB p (by rw [<- MH] at e;exact LF e);have dn:∀(out:Array L7)(z F:Nat)(st':Mf),SG st st'->Mg (a.toList++b.toList) out.toList (a.toList.drop z) (b.toList.drop F)->(z=a.size\/F=b.size)->SG st st'/\Srt (out++a.extract z++b.extract F).toList/\(out++a.extract z++b.extract F).toList.Perm (a.toList++b.toList):=λout z F st' hs m Yy=>by
  refine {hs,?_};rw [NO,NO,jE,jE];refine m.fin λx hx y hy=>?_;rcases Yy with e|e
  .rw [e,OJ (by rw [Mi];exact Ll _)] at hx;cases hx
  .rw [e,OJ (by rw [Mi];exact Ll _)] at hy;cases hy
 have la:∀(out:Array L7)(z F:Nat)(st':Mf),SG st st'->Mg (a.toList++b.toList) out.toList (a.toList.drop z) (b.toList.drop F)->z+1=a.size->SG st st'/\Srt (out++b.extract F++a.extract z).toList/\(out++b.extract F++a.extract z).toList.Perm (a.toList++b.toList):=λout z F st' hs m e=>by
  refine {hs,?_};rw [NO,NO,jE,jE];refine m.symm.fin λy hy x hx=>?_;obtain ⟨j,hj,ej⟩:=sU hx;have:z+j=a.size-1:=by lia
  rw [this] at ej;exact hl x ej y (O6 hy)
 have mB:∀{out:Array L7}{z F:Nat}{p:L7},Mg (a.toList++b.toList) out.toList (a.toList.drop z) (b.toList.drop F)->b[F]?=some p->(∀x∈a.toList.drop z,kv p<=kv x)->Mg (a.toList++b.toList) (out.push p).toList (a.toList.drop z) (b.toList.drop (F+1)):=λ{out z F p} m e hx=>by
  obtain ⟨p',e',ed⟩:=eZ (a:=b) (i:=F) (My.mp e).1;rw [e] at e';cases e';rw [ed] at m;rw [PP];exact (Mg.take (X:=[p]) m.symm λx YN y hy=>by rw [Lw] at YN;subst YN;exact hx y hy).symm
 have mA:∀{out:Array L7}{z F:Nat}{p:L7},Mg (a.toList++b.toList) out.toList (a.toList.drop z) (b.toList.drop F)->a[z]?=some p->(∀x∈b.toList.drop F,kv p<=kv x)->Mg (a.toList++b.toList) (out.push p).toList (a.toList.drop (z+1)) (b.toList.drop F):=λ{out z F p} m e hx=>by
  obtain ⟨p',e',ed⟩:=eZ (a:=a) (i:=z) (My.mp e).1;rw [e] at e';cases e';rw [ed] at m;rw [PP];exact Mg.take (X:=[p]) m λx YN y hy=>by rw [Lw] at YN;subst YN;exact hx y hy
 have hd:∀{c:Array L7}{i:Nat}{p:L7}{v:Int},Srt (c.toList.drop i)->c[i]?=some p->v<=kv p->∀x∈c.toList.drop i,v<=kv x:=λ{c i p v} sc e hv=>by
  obtain ⟨p',e',ed⟩:=eZ (a:=c) (i:=i) (My.mp e).1;rw [e] at e';cases e';rw [ed] at sc ⊢;exact sc.head hv
 unfold mLo;refine Lv (Qc (Ng {rfl,?_}));obtain ⟨y0,av,bq⟩:=eZ b0;refine Lv (aK av ?_);have m0:Mg (a.toList++b.toList) (#[y0]:Array L7).toList (a.toList.drop 0) (b.toList.drop 1):=by
  have:Mg (a.toList++b.toList) (#[]:Array L7).toList (a.toList.drop 0) (b.toList.drop 0):={'s',.nil,by simpa using sA,by simpa using sB,λx hx=>by simp at hx,λx hx=>by simp at hx};exact mB this av (by simpa using h0 y0 av)
 refine az (λWV=>?_) λWV=>?_
 .have WV:1=b.size:=eq_of_beq WV;obtain ⟨g1,G,J⟩:=dn _ 0 1 st .refl m0 (.inr WV);exact LD (h _ _ g1 G J)
 have WV : ¬1=b.size:=λe=>WV (beq_iff_eq.mpr e);refine az (λXm=>?_) λXm=>?_
 .have Xm:0+1=a.size:=eq_of_beq Xm;obtain ⟨g1,G,J⟩:=la _ 0 1 st .refl m0 Xm;exact LD (h _ _ g1 G J)
 have Xm : ¬0+1=a.size:=λe=>Xm (beq_iff_eq.mpr e);refine Lv (PB ?_);refine Lv (Nk (Mz
  (I:=λx c st'=>SG st st'/\∃out z F mg,c=(none,out,z,F,mg)/\Mg (a.toList++b.toList) out.toList (a.toList.drop z) (b.toList.drop F)/\z+1<a.size/\F<b.size/\x+1<=z+F)
  (Q:=λc st'=>SG st st'/\∃o,c.1=some o/\Srt o.toList/\o.toList.Perm (a.toList++b.toList)) ?_ ?_ {.refl,_,0,1,_,rfl,m0,'l','l','l'}) ?_)
 .rintro x c st' _ hx ⟨hs,out,z,F,mg,rfl,m,WU,W6,ba⟩;refine Lv (Nk (Mz
   (I:=λy c st'=>SG st st'/\∃out O S ac bc,c=(none,out,O,S,ac,bc)/\Mg (a.toList++b.toList) out.toList (a.toList.drop O) (b.toList.drop S)/\O+1<a.size/\S<b.size/\y+(z+F)<=O+S)
   (Q:=λc st'=>SG st st'/\((∃o r,c=(some o,r)/\Srt o.toList/\o.toList.Perm (a.toList++b.toList))\/∃out O S ac bc,c=(none,out,O,S,ac,bc)/\Mg (a.toList++b.toList) out.toList (a.toList.drop O) (b.toList.drop S)/\O+1<a.size/\S<b.size/\z+F<O+S)) ?_ ?_ {hs,out,z,F,0,0,rfl,m,WU,W6,'l'}) ?_)
  .rintro y c st' _ hy ⟨hs,out,O,S,ac,bc,rfl,m,WU,W6,Wy⟩;obtain ⟨pb,Yf,a7⟩:=eZ W6;obtain ⟨pa,Ye,a9⟩:=eZ (show O<a.size by lia);refine Lv (aK Yf (Lv (aK Ye (Lv (iY (by rw [hs.k];exact hk) (aT Yf) (aL Ye) ?_)))));by_cases ZO:Nv pb.1<Nv pa.1
   .rw [decide_eq_true ZO];refine tW ?_;refine Lv (aK Yf ?_);have m':=mB m Yf (hd m.sA Ye (M3 ZO));refine az (λWT=>?_) λWT=>?_
    .have WT:S+1=b.size:=eq_of_beq WT;obtain ⟨g1,G,J⟩:=dn _ O (S+1) st' hs m' (.inr WT);exact LD {g1,.inl {_,_,rfl,G,J}}
    .have WT : ¬S+1=b.size:=λe=>WT (beq_iff_eq.mpr e);have y1:S+1<b.size:=by lia
     exact az (λ_=>LD {hs,.inr {_,_,_,_,_,rfl,m',WU,y1,'l'}}) λ_=>LD {hs,_,_,_,_,_,rfl,m',WU,y1,'l'}
   .rw [decide_eq_false ZO];refine uQ ?_;refine Lv (aK Ye ?_);have m':=mA m Ye (hd m.sB Yf (Pe.mp ZO));refine az (λXl=>?_) λXl=>?_
    .have Xl:O+1+1=a.size:=eq_of_beq Xl;obtain ⟨g1,G,J⟩:=la _ (O+1) S st' hs m' Xl;exact LD {g1,.inl {_,_,rfl,G,J}}
    .have Xl : ¬O+1+1=a.size:=λe=>Xl (beq_iff_eq.mpr e);have y1:O+1+1<a.size:=by lia
     exact az (λ_=>LD {hs,.inr {_,_,_,_,_,rfl,m',y1,W6,'l'}}) λ_=>LD {hs,_,_,_,_,_,rfl,m',y1,W6,'l'}
  .rintro c st' ⟨hs,out,O,S,ac,bc,rfl,m,WU,W6,Wy⟩;lia
  .rintro c st' ⟨hs,⟨o,r,rfl,G,J⟩|⟨out,O,S,ac,bc,rfl,m,WU,W6,Wy⟩⟩
   .exact LD {hs,o,rfl,G,J}
   refine Lv (Qc (Ng {rfl,?_}));refine Lv (Nk (Mz
    (I:=λy c st'=>SG st st'/\∃out U W mg ac bc,c=(none,out,U,W,mg,ac,bc)/\Mg (a.toList++b.toList) out.toList (a.toList.drop U) (b.toList.drop W)/\U+1<a.size/\W<b.size/\y+(O+S)<=U+W)
    (Q:=λc st'=>SG st st'/\((∃o r,c=(some o,r)/\Srt o.toList/\o.toList.Perm (a.toList++b.toList))\/∃out U W mg ac bc,c=(none,out,U,W,mg,ac,bc)/\Mg (a.toList++b.toList) out.toList (a.toList.drop U) (b.toList.drop W)/\U+1<a.size/\W<b.size/\O+S<=U+W)) ?_ ?_ {hs,out,O,S,_,_,_,rfl,m,WU,W6,'l'}) ?_)
   .rintro y c st' _ hy ⟨hs,out,U,W,Wx,ac,bc,rfl,m,WU,W6,Wy⟩
    try dsimp only
    obtain ⟨pb,Yf,a7⟩:=eZ W6;generalize Wx-1=a8;apply x8 a8 Wx;intro Wx;refine Lv (km hs λZq Zz=>?_);refine Lv (aK Yf ?_);refine Lv (gD (by rw [Zz.k];exact hk) (aT Yf) (λi h1 h2=>{_,getElem?_pos a i 'l',aL (getElem?_pos a i 'l')}) (λi j _ Zh hj=>sA.K Zh 'l') 'l' λk bL f1 f2=>?_)
    try dsimp only
    have Zg:∀x∈a.toList.drop (U+k),kv pb<=kv x:=uH rfl λj h1 h2=>M3 (qD (f2 j h1 h2));have m1:=Mg.tk (a:=a) (i:=U) (k:=k) m (λj hj=>pG (f1 j hj)) (hd m.sB Yf (MR _));generalize out++a.extract U (U+k)=WR at m1 ⊢;generalize ei:U+k=a4 at m1 Zg ⊢;apply vJ a4 WR U out
    .intro z1;obtain ⟨g1,G,J⟩:=la _ _ _ Zq Zz m1 (eq_of_beq z1);exact LD {g1,.inl {_,_,rfl,G,J}}
    .intro z2;obtain ⟨g1,G,J⟩:=dn _ _ _ Zq Zz m1 (.inl (eq_of_beq z2));exact LD {g1,.inl {_,_,rfl,G,J}}
    intro ia3 ab Yy;obtain ⟨q1,q2,m1,Zg⟩:ia3+1<a.size/\U<=ia3/\Mg (a.toList++b.toList) ab.toList (a.toList.drop ia3) (b.toList.drop W)/\∀x∈a.toList.drop ia3,kv pb<=kv x:=by
     rcases Yy with ⟨z1,z2,rfl,rfl⟩|⟨z1,rfl,rfl⟩
     .have z1 : ¬ia3+1=a.size:=λe=>z1 (beq_iff_eq.mpr e);have z2 : ¬ia3=a.size:=λe=>z2 (beq_iff_eq.mpr e);exact {'l','l',m1,Zg}
     .have e:a4=ia3:=by lia
      rw [e] at Zg;exact {WU,Ll _,m,Zg}
    clear Yy;refine Lv (aK Yf ?_)
    try dsimp only
    have m2:=mB m1 Yf Zg;generalize ab.push pb=ai at m2 ⊢;refine az (λz3=>?_) λz3=>?_
    .obtain ⟨g1,G,J⟩:=dn _ _ _ Zq Zz m2 (.inr (eq_of_beq z3));exact LD {g1,.inl {_,_,rfl,G,J}}
    have z3 : ¬W+1=b.size:=λe=>z3 (beq_iff_eq.mpr e);obtain ⟨Z,bp⟩:∃n,n=W+1:={_,rfl};rw [<- bp] at m2 z3 ⊢;obtain ⟨pa,Ye,a9⟩:=eZ (show ia3<a.size by lia);refine Lv (aK Ye ?_);refine Lv (gD (by rw [Zz.k];exact hk) (aL Ye) (λi h1 h2=>{_,getElem?_pos b i 'l',aT (getElem?_pos b i 'l')}) (λi j _ Zh hj=>sB.K Zh 'l') 'l' λk2 bt f3 f4=>?_)
    try dsimp only
    have Yn:∀x∈b.toList.drop (Z+k2),kv pa<=kv x:=uH rfl λj h1 h2=>pS (f4 j h1 h2);have m3:=(Mg.tk (a:=b) (i:=Z) (k:=k2) m2.symm (λj hj=>M3 (oy (f3 j hj))) (hd m2.sA Ye (MR _))).symm;generalize ai++b.extract Z (Z+k2)=a3 at m3 ⊢;generalize ej:Z+k2=a6 at m3 Yn ⊢;apply tL a6 a3 Z ai
    .intro _ z4;obtain ⟨g1,G,J⟩:=dn _ _ _ Zq Zz m3 (.inr (eq_of_beq z4));exact LD {g1,.inl {_,_,rfl,G,J}}
    intro ib5 a5 Yy;obtain ⟨q3,q4,m3,Yn⟩:ib5<b.size/\Z<=ib5/\Mg (a.toList++b.toList) a5.toList (a.toList.drop ia3) (b.toList.drop ib5)/\∀x∈b.toList.drop ib5,kv pa<=kv x:=by
     rcases Yy with ⟨z1,z2,rfl,rfl⟩|⟨z1,rfl,rfl⟩
     .have z2 : ¬ib5=b.size:=λe=>z2 (beq_iff_eq.mpr e);exact {'l','l',m3,Yn}
     .have e:a6=ib5:=by lia
      rw [e] at Yn;exact {'l',Ll _,m2,Yn}
    clear Yy;refine Lv (aK Ye ?_)
    try dsimp only
    have m4:=mA m3 Ye Yn;refine az (λz5=>?_) λz5=>?_
    .obtain ⟨g1,G,J⟩:=la _ _ _ Zq Zz m4 (eq_of_beq z5);exact LD {g1,.inl {_,_,rfl,G,J}}
    have z5 : ¬ia3+1+1=a.size:=λe=>z5 (beq_iff_eq.mpr e);have y1:ia3+1+1<a.size:=by lia
    refine az (λ_=>LD {Zz,.inr {_,_,_,_,_,_,rfl,m4,y1,q3,'l'}}) λ_=>LD {Zz,_,_,_,_,_,_,rfl,m4,y1,q3,'l'}
   .rintro c st' ⟨hs,out,U,W,Wx,ac,bc,rfl,m,WU,W6,Wy⟩;lia
   .rintro c st' ⟨hs,⟨o,r,rfl,G,J⟩|⟨out,U,W,Wx,ac,bc,rfl,m,WU,W6,Wy⟩⟩
    .exact LD {hs,o,rfl,G,J}
    exact Lv (km hs λZq Zz=>LD {Zz,_,_,_,_,rfl,m,WU,W6,'l'})
 .rintro c st' ⟨hs,out,z,F,mg,rfl,m,WU,W6,ba⟩;lia
 .rintro ⟨r,ZZ⟩ st' ⟨hs,o,e,G,J⟩;dsimp only at e;subst e;exact LD (h _ _ hs G J)
end
structure Mh(L T A B:List L7):Prop where
 perm:(A++B++T).Perm L
 so:Srt T
 sA:Srt A
 sB:Srt B
 lA:∀x∈A,∀y∈T,kv x<=kv y
 lB:∀x∈B,∀y∈T,kv x<=kv y
theorem Mh.symm(h:Mh L T A B):Mh L T B A:={(OG.append_right T).trans h.perm,h.so,h.sB,h.sA,h.lB,h.lA}
theorem Mh.take(h:Mh L T (A++X) B)(hx:∀x∈X,∀y∈B,kv y<=kv x):Mh L (X++T) A B:=by
 have s:=MN.mp h.sA;refine {?_,MN.mpr {s.2.1,h.so,λx hx y F=>h.lA x (LU _ hx) y F},s.1,h.sB,λx z y F=>?_,λx z y F=>?_}
 .refine N7.trans ?_ h.perm;rw [<- Ma (A++B) X T,Ma A X B,Ma A B X];exact (OG.append_left A).append_right T
 .rcases L6.mp F with h'|h'
  .exact s.2.2 x z y h'
  .exact h.lA x (MG _ z) y h'
 .rcases L6.mp F with h'|h'
  .exact hx y h' x z
  .exact h.lB x z y h'
theorem Mh.fin(h:Mh L T A B)(hx:∀x∈A,∀y∈B,kv x<=kv y):Srt (A++B++T)/\(A++B++T).Perm L:=by
 refine {MN.mpr {MN.mpr ⟨h.sA,h.sB,hx⟩,h.so,λx F y z=>?_},h.perm};rcases L6.mp F with h'|h'
 .exact h.lA x h' y z
 .exact h.lB x h' y z
theorem kT(a:Array L7)(k:Nat):(a.extract 0 k).toList=a.toList.take k:=by
 rw [OL,NS,drop_zero,Nat.sub_zero]
theorem lO{a:Array L7}{i n:Nat}{p:L7}(z:i+1=n)(e:a[i]?=some p):a.toList.take n=a.toList.take i++[p]:=by
 rw [<- z,MP,MH,e];rfl
theorem yV{a:Array L7}{k:Nat}(h:x∈a.toList.take k):∃j,j<k/\a[j]?=some x:=by
 have:=mY (a:=a) (i:=0) (k:=k) (x:=x) (by rw [drop_zero];exact h);obtain ⟨j,z,e⟩:=this;rw [NV] at e;exact ⟨j,z,e⟩
theorem ve{k:Nat}(h:∀j,j<k->K a j<=c):∀x∈a.toList.take k,kv x<=c:=λx hx=>by
 obtain ⟨j,z,e⟩:=yV hx;have:=h j z;rw [bf e] at this;exact this
theorem Mh.tk{i k:Nat}(J:i<=k)(m:Mh L out.toList.reverse (a.toList.take k) B)(h1:∀j,i<=j->j<k->c<=K a j)(h2:∀y∈B,kv y<=c):Mh L (out++(a.extract i k).reverse).toList.reverse (a.toList.take i) B:=by
 have e:a.toList.take k=a.toList.take i++(a.toList.drop i).take (k-i):=by
  rw [show k=i+(k-i) by lia,List.take_add];congr 2;lia
 have z:(out++(a.extract i k).reverse).toList.reverse=(a.toList.drop i).take (k-i)++out.toList.reverse:=by
  rw [NO,P0,P4,List.reverse_reverse,OL,NS]
 rw [z];refine Mh.take (by rw [<- e];exact m) λx hx y G=>?_;obtain ⟨j,O,F⟩:=mY hx;have:=h1 (i+j) 'l' 'l';rw [bf F] at this;exact NG (h2 y G) this
section
variable {prog:Ly}{w:LW}{A:LV}{E:Value->Lk->Prop}{s:Lk}
theorem F0{st:Mf}(hk:kindOf st=oneType')(iA:∀x∈a.toList,ar x)(iB:∀x∈b.toList,ar x)(sA:Srt a.toList)(sB:Srt b.toList)(a0:0<a.size)(b0:0<b.size)(h0:∀y,b[0]?=some y->∀x∈a.toList,kv y<=kv x)(hl:∀x,a[a.size-1]?=some x->∀y∈b.toList,kv y<=kv x)(h:∀o st',SG st st'->Srt o.toList->o.toList.Perm (a.toList++b.toList)->Q o st'):
  wpS (LH prog w) A E s (mHi a b) Q st:=by
 have aL:∀{i p},a[i]?=some p->ar p:=λ{i p} e=>iA p (by rw [<- MH] at e;exact LF e);have aT:∀{i p},b[i]?=some p->ar p:=λ{i p} e=>iB p (by rw [<- MH] at e;exact LF e);have dn:∀(out:Array L7)(z nb:Nat)(st':Mf),SG st st'->Mh (a.toList++b.toList) out.toList.reverse (a.toList.take z) (b.toList.take nb)->(z=0\/nb=0)->SG st st'/\Srt (a.extract 0 z++b.extract 0 nb++out.reverse).toList/\(a.extract 0 z++b.extract 0 nb++out.reverse).toList.Perm (a.toList++b.toList):=λout z nb st' hs m Yy=>by
  refine {hs,?_};rw [NO,NO,kT,kT,P0];refine m.fin λx hx y W=>?_;rcases Yy with e|e
  .rw [e] at hx;cases hx
  .rw [e] at W;cases W
 have fb:∀(out:Array L7)(z nb:Nat)(st':Mf),SG st st'->Mh (a.toList++b.toList) out.toList.reverse (a.toList.take z) (b.toList.take nb)->nb=1->SG st st'/\Srt (b.extract 0 nb++a.extract 0 z++out.reverse).toList/\(b.extract 0 nb++a.extract 0 z++out.reverse).toList.Perm (a.toList++b.toList):=λout z nb st' hs m e=>by
  refine {hs,?_};rw [NO,NO,kT,kT,P0];refine m.symm.fin λy W x hx=>?_;obtain ⟨j,hj,ej⟩:=yV W;have:j=0:=by lia
  subst this;exact h0 y ej x (PV hx)
 have mB:∀{out:Array L7}{z nb i:Nat}{p:L7},Mh (a.toList++b.toList) out.toList.reverse (a.toList.take z) (b.toList.take nb)->i+1=nb->b[i]?=some p->(∀x∈a.toList.take z,kv x<=kv p)->Mh (a.toList++b.toList) (out.push p).toList.reverse (a.toList.take z) (b.toList.take i):=λ{out z nb i p} m hi e hx=>by
  rw [lO hi e] at m;rw [PP,P4];exact (Mh.take (X:=[p]) m.symm λx YN y W=>by rw [Lw] at YN;subst YN;exact hx y W).symm
 have mA:∀{out:Array L7}{z nb i:Nat}{p:L7},Mh (a.toList++b.toList) out.toList.reverse (a.toList.take z) (b.toList.take nb)->i+1=z->a[i]?=some p->(∀x∈b.toList.take nb,kv x<=kv p)->Mh (a.toList++b.toList) (out.push p).toList.reverse (a.toList.take i) (b.toList.take nb):=λ{out z nb i p} m hi e hx=>by
  rw [lO hi e] at m;rw [PP,P4];exact Mh.take (X:=[p]) m λx YN y W=>by rw [Lw] at YN;subst YN;exact hx y W
 have hd:∀{c:Array L7}{i n:Nat}{p:L7}{v:Int},Srt (c.toList.take n)->i+1=n->c[i]?=some p->kv p<=v->∀x∈c.toList.take n,kv x<=v:=λ{c i n p v} sc hi e hv x hx=>by
  rw [lO hi e] at sc hx;rcases L6.mp hx with hx|hx
  .exact NG ((MN.mp sc).2.2 x hx p 's') hv
  .rw [Lw] at hx;subst hx;exact hv
 unfold mHi;refine Lv (Qc (Ng {rfl,?_}));obtain ⟨y0,av⟩:∃p,a[a.size-1]?=some p:={_,getElem?_pos a _ 'l'};refine Lv (aK av ?_);have m0:Mh (a.toList++b.toList) (#[y0]:Array L7).toList.reverse (a.toList.take (a.size-1)) (b.toList.take b.size):=by
  have ta:a.toList.take a.size=a.toList:=L5 (by rw [Mi];exact Ll _);have tb:b.toList.take b.size=b.toList:=L5 (by rw [Mi];exact Ll _);have:Mh (a.toList++b.toList) (#[]:Array L7).toList.reverse (a.toList.take a.size) (b.toList.take b.size):=by
   rw [ta,tb];exact {'s',.nil,sA,sB,λx _ y W=>by simp at W,λx _ y W=>by simp at W}
  exact mA this (show a.size-1+1=a.size by lia) av (by rw [tb];exact hl y0 av)
 refine az (λXm=>?_) λXm=>?_
 .have Xm:a.size-1=0:=eq_of_beq Xm;obtain ⟨g1,J,O⟩:=dn _ (a.size-1) b.size st .refl m0 (.inl Xm);exact LD (h _ _ g1 J O)
 have Xm : ¬a.size-1=0:=λe=>Xm (beq_iff_eq.mpr e);refine az (λWV=>?_) λWV=>?_
 .have WV:b.size=1:=eq_of_beq WV;obtain ⟨g1,J,O⟩:=fb _ (a.size-1) b.size st .refl m0 WV;exact LD (h _ _ g1 J O)
 have WV : ¬b.size=1:=λe=>WV (beq_iff_eq.mpr e);refine Lv (PB ?_);refine Lv (Nk (Mz
  (I:=λx c st'=>SG st st'/\∃z nb out mg,c=(none,z,nb,out,mg)/\Mh (a.toList++b.toList) out.toList.reverse (a.toList.take z) (b.toList.take nb)/\0<z/\z<a.size/\1<nb/\nb<=b.size/\z+nb+x+1<=a.size+b.size)
  (Q:=λc st'=>SG st st'/\∃o,c.1=some o/\Srt o.toList/\o.toList.Perm (a.toList++b.toList)) ?_ ?_ {.refl,_,_,_,_,rfl,m0,'l','l','l','l','l'}) ?_)
 .rintro x c st' _ hx ⟨hs,z,nb,out,mg,rfl,m,WQ,Ym,Xu,Yl,a9⟩;refine Lv (Nk (Mz
   (I:=λy c st'=>SG st st'/\∃G F out Z bc,c=(none,G,F,out,Z,bc)/\Mh (a.toList++b.toList) out.toList.reverse (a.toList.take G) (b.toList.take F)/\0<G/\G<a.size/\1<F/\F<=b.size/\G+F+y<=z+nb)
   (Q:=λc st'=>SG st st'/\((∃o r,c=(some o,r)/\Srt o.toList/\o.toList.Perm (a.toList++b.toList))\/∃G F out Z bc,c=(none,G,F,out,Z,bc)/\Mh (a.toList++b.toList) out.toList.reverse (a.toList.take G) (b.toList.take F)/\0<G/\G<a.size/\1<F/\F<=b.size/\G+F<z+nb)) ?_ ?_ {hs,z,nb,out,0,0,rfl,m,WQ,Ym,Xu,Yl,'l'}) ?_)
  .rintro y c st' _ W ⟨hs,G,F,out,Z,bc,rfl,m,WQ,Ym,Xu,Yl,Wy⟩;obtain ⟨pb,Yf⟩:∃p,b[F-1]?=some p:={_,getElem?_pos b _ 'l'};obtain ⟨pa,Ye⟩:∃p,a[G-1]?=some p:={_,getElem?_pos a _ 'l'};refine Lv (aK Yf (Lv (aK Ye (Lv (iY (by rw [hs.k];exact hk) (aT Yf) (aL Ye) ?_)))));by_cases ZO:Nv pb.1<Nv pa.1
   .rw [decide_eq_true ZO];refine tW ?_;refine Lv (aK Ye ?_);have m':=mA m (show G-1+1=G by lia) Ye (hd m.sB (show F-1+1=F by lia) Yf (M3 ZO));refine az (λXl=>?_) λXl=>?_
    .have Xl:G-1=0:=eq_of_beq Xl;obtain ⟨g1,J,O⟩:=dn _ _ _ st' hs m' (.inl Xl);exact LD {g1,.inl {_,_,rfl,J,O}}
    .have Xl:0<G-1:=ON λe=>Xl (beq_iff_eq.mpr e);have y1:G-1<a.size:=by lia
     exact az (λ_=>LD {hs,.inr {_,_,_,_,_,rfl,m',Xl,y1,Xu,Yl,'l'}}) λ_=>LD {hs,_,_,_,_,_,rfl,m',Xl,y1,Xu,Yl,'l'}
   .rw [decide_eq_false ZO];refine uQ ?_;refine Lv (aK Yf ?_);have m':=mB m (show F-1+1=F by lia) Yf (hd m.sA (show G-1+1=G by lia) Ye (Pe.mp ZO));refine az (λWT=>?_) λWT=>?_
    .have WT:F-1=1:=eq_of_beq WT;obtain ⟨g1,J,O⟩:=fb _ _ _ st' hs m' WT;exact LD {g1,.inl {_,_,rfl,J,O}}
    .have WT : ¬F-1=1:=λe=>WT (beq_iff_eq.mpr e);have y1:1<F-1:=by lia
     have y2:F-1<=b.size:=by lia
     exact az (λ_=>LD {hs,.inr {_,_,_,_,_,rfl,m',WQ,Ym,y1,y2,'l'}}) λ_=>LD {hs,_,_,_,_,_,rfl,m',WQ,Ym,y1,y2,'l'}
  .rintro c st' ⟨hs,G,F,out,Z,bc,rfl,m,WQ,Ym,Xu,Yl,Wy⟩;lia
  .rintro c st' ⟨hs,⟨o,r,rfl,J,O⟩|⟨G,F,out,Z,bc,rfl,m,WQ,Ym,Xu,Yl,Wy⟩⟩
   .exact LD {hs,o,rfl,J,O}
   refine Lv (Qc (Ng {rfl,?_}));refine Lv (Nk (Mz
    (I:=λy c st'=>SG st st'/\∃U S out mg Z bc,c=(none,U,S,out,mg,Z,bc)/\Mh (a.toList++b.toList) out.toList.reverse (a.toList.take U) (b.toList.take S)/\0<U/\U<a.size/\1<S/\S<=b.size/\U+S+y<=G+F)
    (Q:=λc st'=>SG st st'/\((∃o r,c=(some o,r)/\Srt o.toList/\o.toList.Perm (a.toList++b.toList))\/∃U S out mg Z bc,c=(none,U,S,out,mg,Z,bc)/\Mh (a.toList++b.toList) out.toList.reverse (a.toList.take U) (b.toList.take S)/\0<U/\U<a.size/\1<S/\S<=b.size/\U+S<=G+F)) ?_ ?_ {hs,G,F,out,_,_,_,rfl,m,WQ,Ym,Xu,Yl,'l'}) ?_)
   .rintro y c st' _ W ⟨hs,U,S,out,Wx,Z,bc,rfl,m,WQ,Ym,Xu,Yl,Wy⟩
    try dsimp only
    obtain ⟨pb,Yf⟩:∃p,b[S-1]?=some p:={_,getElem?_pos b _ 'l'};generalize Wx-1=a5;apply x8 a5 Wx;intro Wx;refine Lv (km hs λZq Zz=>?_);refine Lv (aK Yf ?_);refine Lv (gD (by rw [Zz.k];exact hk) (aT Yf) (λi h1 h2=>{_,getElem?_pos a i 'l',aL (getElem?_pos a i 'l')}) (λi j _ Zh hj=>sA.K Zh 'l') 'l' λk bL f1 f2=>?_)
    try dsimp only
    generalize ba:U-k=bp;generalize a8:out++(a.extract k U).reverse=WR;have m1:=Mh.tk (a:=a) (i:=k) (k:=U) 'l' m (λj h1 h2=>by have:=qD (f2 j h1 h2);rw [NV] at this;exact M3 this) (hd m.sB (show S-1+1=S by lia) Yf (MR _));rw [a8] at m1;apply tL k WR U out
    .intro _ z2;obtain ⟨g1,J,O⟩:=dn _ _ _ Zq Zz m1 (.inl (by simpa using z2));exact LD {g1,.inl {_,_,rfl,J,O}}
    intro XM WR Yy;have Zg:∀x∈a.toList.take k,kv x<=kv pb:=ve λj hj=>by have:=pG (f1 j hj);rw [NV] at this;exact this
    obtain ⟨q1,q2,m1,Zg⟩:0<XM/\XM<=U/\Mh (a.toList++b.toList) WR.toList.reverse (a.toList.take XM) (b.toList.take S)/\∀x∈a.toList.take XM,kv x<=kv pb:=by
     rcases Yy with ⟨z1,z2,rfl,rfl⟩|⟨z1,rfl,rfl⟩
     .exact {ON (by simpa using z2),'l',m1,Zg}
     .have e:k=XM:=by lia
      rw [e] at Zg;exact {WQ,Ll _,m,Zg}
    clear Yy;refine Lv (aK Yf ?_)
    try dsimp only
    have m2:=mB m1 (show S-1+1=S by lia) Yf Zg;obtain ⟨ab,a6⟩:∃n,n=S-1:={_,rfl};rw [<- a6] at m2 ⊢;generalize WR.push pb=ai at m2 ⊢;refine az (λz3=>?_) λz3=>?_
    .obtain ⟨g1,J,O⟩:=fb _ _ _ Zq Zz m2 (by simpa using z3);exact LD {g1,.inl {_,_,rfl,J,O}}
    have z3:ab≠1:=by simpa using z3
    obtain ⟨pa,Ye⟩:∃p,a[XM-1]?=some p:={_,getElem?_pos a _ 'l'};refine Lv (aK Ye ?_);refine Lv (gD (by rw [Zz.k];exact hk) (aL Ye) (λi h1 h2=>{_,getElem?_pos b i 'l',aT (getElem?_pos b i 'l')}) (λi j _ Zh hj=>sB.K Zh 'l') 'l' λk2 bt f3 f4=>?_)
    try dsimp only
    generalize bq:ab-k2=bP;generalize a7:ai++(b.extract k2 ab).reverse=a3;have m3:=(Mh.tk (a:=b) (i:=k2) (k:=ab) 'l' m2.symm (λj h1 h2=>by have:=pS (f4 j h1 h2);rw [NV] at this;exact this) (hd m2.sA (show XM-1+1=XM by lia) Ye (MR _))).symm;rw [a7] at m3;apply vJ k2 a3 ab ai
    .intro z4;obtain ⟨g1,J,O⟩:=fb _ _ _ Zq Zz m3 (by simpa using z4);exact LD {g1,.inl {_,_,rfl,J,O}}
    .intro z7;obtain ⟨g1,J,O⟩:=dn _ _ _ Zq Zz m3 (.inr (by simpa using z7));exact LD {g1,.inl {_,_,rfl,J,O}}
    intro nb4 a4 Yy;have Yn:∀x∈b.toList.take k2,kv x<=kv pa:=ve λj hj=>by have:=oy (f3 j hj);rw [NV] at this;exact M3 this
    obtain ⟨q3,q4,m3,Yn⟩:1<nb4/\nb4<=ab/\Mh (a.toList++b.toList) a4.toList.reverse (a.toList.take XM) (b.toList.take nb4)/\∀x∈b.toList.take nb4,kv x<=kv pa:=by
     rcases Yy with ⟨z4,z7,rfl,rfl⟩|⟨z4,rfl,rfl⟩
     .exact {by have : nb4 ≠ 1 := by simpa using z4
                have : nb4 ≠ 0 := by simpa using z7
                lia, by lia, m3, Yn}
     .have e:k2=nb4:=by lia
      rw [e] at Yn;exact {'l',Ll _,m2,Yn}
    clear Yy;refine Lv (aK Ye ?_)
    try dsimp only
    have m4:=mA m3 (show XM-1+1=XM by lia) Ye Yn;refine az (λz5=>?_) λz5=>?_
    .obtain ⟨g1,J,O⟩:=dn _ _ _ Zq Zz m4 (.inl (by simpa using z5));exact LD {g1,.inl {_,_,rfl,J,O}}
    have z5:XM-1≠0:=by simpa using z5
    have y1:0<XM-1:=by lia
    have y2:XM-1<a.size:=by lia
    have y3:nb4<=b.size:=by lia
    refine az (λ_=>LD {Zz,.inr {_,_,_,_,_,_,rfl,m4,y1,y2,q3,y3,'l'}}) λ_=>LD {Zz,_,_,_,_,_,_,rfl,m4,y1,y2,q3,y3,'l'}
   .rintro c st' ⟨hs,U,S,out,Wx,Z,bc,rfl,m,WQ,Ym,Xu,Yl,Wy⟩;lia
   .rintro c st' ⟨hs,⟨o,r,rfl,J,O⟩|⟨U,S,out,Wx,Z,bc,rfl,m,WQ,Ym,Xu,Yl,Wy⟩⟩
    .exact LD {hs,o,rfl,J,O}
    exact Lv (km hs λZq Zz=>LD {Zz,_,_,_,_,rfl,m,WQ,Ym,Xu,Yl,'l'})
 .rintro c st' ⟨hs,z,nb,out,mg,rfl,m,WQ,Ym,Xu,Yl,a9⟩;lia
 .rintro ⟨r,ZZ⟩ st' ⟨hs,o,e,J,O⟩;dsimp only at e;subst e;exact LD (h _ _ hs J O)
end
structure SB(a₀:Array L7)(p0:Array (Nat×Nat×Nat))(lo:Nat)(st:Mf):Prop where
 perm:(LI st).Perm a₀
 kind:kindOf st=oneType'
 failed:ND st=none
 pend:MF st=p0
 pre:∀k,k<lo->(LI st)[k]?=a₀[k]?
theorem SB.size{lo:Nat}{st:Mf}(h:SB a₀ p0 lo st):(LI st).size=a₀.size:=h.perm.size_eq
def aM(xs:Array L7)(lo m:Nat):Prop:=∀i j,lo<=i->i<=j->j<lo+m->K xs i<=K xs j
def cJ(xs:Array L7)(lo m:Nat):Prop:=∀i j,lo<=i->i<=j->j<lo+m->K xs j<=K xs i
theorem aM.snoc{lo m:Nat}(h:aM xs lo m)(h1:1<=m)(h2:K xs (lo+m-1)<=K xs (lo+m)):aM xs lo (m+1):=λi j hi F O=>by
 by_cases z:j<lo+m
 .exact h i j hi F z
 .have J:j=lo+m:=by lia
  subst J;by_cases G:i=lo+m
  .subst G;exact MR _
  .exact NG (h i (lo+m-1) hi 'l' 'l') h2
theorem cJ.snoc{lo m:Nat}(h:cJ xs lo m)(h1:1<=m)(h2:K xs (lo+m)<=K xs (lo+m-1)):cJ xs lo (m+1):=λi j hi F O=>by
 by_cases z:j<lo+m
 .exact h i j hi F z
 .have J:j=lo+m:=by lia
  subst J;by_cases G:i=lo+m
  .subst G;exact MR _
  .exact NG h2 (h i (lo+m-1) hi 'l' 'l')
section
variable {prog:Ly}{w:LW}{A:LV}{E:Value->Lk->Prop}{s:Lk}{a₀:Array L7}{p0:Array (Nat×Nat×Nat)}{lo:Nat}
theorem dv{st:Mf}(z:SB a₀ p0 lo st)(G:∀x∈a₀.toList,ar x)(hi:i<a₀.size)(J:j<a₀.size)(h:Q (some (decide (K (LI st) i<K (LI st) j))) st):wpS (LH prog w) A E s (ltAt' i j) Q st:=by
 have at_:∀{i},i<a₀.size->∃p,(LI st)[i]?=some p/\ar p:=λ{i} hi=>by
  have O:i<(LI st).size:=by rw [z.size];exact hi
  exact {_,getElem?_pos _ i O,G _ ((N9.mp z.perm).mem_iff.mp 's')}
 obtain ⟨p,e1,i1⟩:=at_ hi;obtain ⟨q,F,i2⟩:=at_ J;rw [bf e1,bf F] at h;rw [ltAt'_eq];exact Lv (PB (Lv (aK e1 (Lv (aK F (iY z.kind i1 i2 h))))))
theorem eG{st:Mf}(z:SB a₀ p0 lo st)(hi:lo<=i)(G:j<=a₀.size)(h:∀st1,SB a₀ p0 lo st1->(∀k,K (LI st1) k=if i<=k/\k<j then K (LI st) (i+j-1-k) else K (LI st) k)->Q () st1):wpS (LH prog w) A E s (reverseSlice' i j) Q st:=by
 rw [reverseSlice'_eq];have F:j<=(LI st).size:=by rw [z.size];exact G
 refine Pa (h _ {(mirror_perm _ _ _ _).trans z.perm,z.kind,z.failed,z.pend,λk J=>?_} (K_mirror F));show (mirror (LI st) i j ((j-i) / 2))[k]?=_;rw [getElem?_mirror_all F,if_neg 'l'];exact z.pre k J
theorem G4{st:Mf}(iK:∀x∈a₀.toList,ar x)(hn:lo+J<=a₀.size)(h1:1<=J)(hB:SB a₀ p0 lo st)(h:∀m st',SB a₀ p0 lo st'->1<=m->m<=J->aM (LI st') lo m->Q (some m) st'):wpS (LH prog w) A E s (countRun' lo J) Q st:=by
 unfold countRun';refine Lv (Nk (Mz (I:=λx c st'=>st'=st/\c=(none,x)/\aM (LI st) lo x)
  (Q:=λc st'=>st'=st/\∃G,c=(none,G)/\1<=G/\G<=J/\aM (LI st) lo G/\(G=J\/K (LI st) (lo+G)<K (LI st) (lo+G-1))) ?_ ?_ {rfl,rfl,λi j h1 h2 h3=>by rw [show i=j by lia];exact MR _}) ?_)
 .rintro x c st' WO av ⟨rfl,rfl,F⟩
  try dsimp only
  refine Lv (dv hB iK 'l' 'l' ?_)
  try dsimp only
  by_cases z:K (LI st') (lo+x)<K (LI st') (lo+x-1)
  .rw [decide_eq_true z,if_pos rfl];exact LD {rfl,x,rfl,WO,'l',F,.inr z}
  .rw [decide_eq_false z,if_neg 'd'];exact LD {rfl,rfl,F.snoc 'l' (Pe.mp z)}
 .rintro c st' ⟨rfl,rfl,F⟩;rw [show max 1 J=J by lia] at F ⊢;exact {rfl,J,rfl,'l',Ll _,F,.inl rfl}
 .rintro c st' ⟨rfl,n,rfl,bq,bL,a3,Yy⟩
  try dsimp only
  by_cases WZ:n=J
  .rw [if_pos (by simpa using WZ)];exact LD (h n _ hB bq bL a3)
  rw [if_neg (by simpa using WZ)];have ZO:=Yy.resolve_left WZ;by_cases bt:n>1
  .rw [if_pos bt];refine Lv (dv hB iK 'l' 'l' ?_)
   try dsimp only
   by_cases aL:K (LI st') lo<K (LI st') (lo+n-1)
   .rw [decide_eq_true aL,if_pos rfl];exact LD (h n _ hB bq bL a3)
   .rw [decide_eq_false aL,if_neg 'd'];have XF:∀k,lo<=k->k<lo+n->K (LI st') k=K (LI st') (lo+n-1):=λk g1 g2=>by
     have a1:=a3 lo k (Ll _) g1 g2;have a2:=a3 k (lo+n-1) g1 'l' 'l';lia
    refine Lv (eG hB (Ll _) (show lo+n<=a₀.size by lia) λst1 a9 b0=>?_);have a4:∀k,K (LI st1) k=K (LI st') k:=λk=>by
     rw [b0];split
     .rw [XF _ 'l' 'l',XF k 'l' 'l']
     .rfl
    have a7:cJ (LI st1) lo (n+1):=by
     refine cJ.snoc (λi j g1 g2 g3=>?_) 'l' (by rw [a4,a4];exact M3 ZO);rw [a4,a4,XF i g1 'l',XF j 'l' g3];exact MR _
    refine Lv (Qc (Ng {rfl,?_}))
    try dsimp only
    refine Lv (Nk (Mz (I:=λx c st'=>∃O,c=(none,x,O)/\SB a₀ p0 lo st'/\cJ (LI st') lo x/\O+1<=x/\∀i,lo+x-(O+1)<=i->i<lo+x->K (LI st') i=K (LI st') (lo+x-1))
     (Q:=λc st'=>∃m O,c=(none,m,O)/\n+1<=m/\m<=J/\SB a₀ p0 lo st'/\cJ (LI st') lo m/\O+1<=m/\∀i,lo+m-(O+1)<=i->i<lo+m->K (LI st') i=K (LI st') (lo+m-1)) ?_ ?_ {0,rfl,a9,a7,'l',λi h1 h2=>by rw [show i=lo+(n+1)-1 by lia]}) ?_)
    .rintro x c st' WO av ⟨O,rfl,Z,F,hq,he⟩
     try dsimp only
     refine Lv (dv Z iK 'l' 'l' ?_)
     try dsimp only
     by_cases z:K (LI st') (lo+x)<K (LI st') (lo+x-1)
     .rw [decide_eq_true z,if_pos rfl];by_cases U:O>0
      .rw [if_pos U];refine Lv (eG Z (show lo<=lo+x-(O+1) by lia) (show lo+x<=a₀.size by lia) λa5 a8 a6=>LD {0,rfl,a8,?_,'l',λi h1 h2=>by rw [show i=lo+(x+1)-1 by lia]});have Ww:∀k,K (LI a5) k=K (LI st') k:=λk=>by
        rw [a6];split
        .rw [he _ 'l' 'l',he k 'l' 'l']
        .rfl
       intro i j h1 h2 h3;rw [Ww,Ww];exact F.snoc 'l' (M3 z) i j h1 h2 h3
      .rw [if_neg U];exact LD {0,rfl,Z,F.snoc 'l' (M3 z),'l',λi h1 h2=>by rw [show i=lo+(x+1)-1 by lia]}
     .rw [decide_eq_false z,if_neg 'd'];refine Lv (dv Z iK 'l' 'l' ?_)
      try dsimp only
      by_cases S:K (LI st') (lo+x-1)<K (LI st') (lo+x)
      .rw [decide_eq_true S,if_pos rfl];exact LD {x,O,rfl,WO,'l',Z,F,hq,he}
      .rw [decide_eq_false S,if_neg 'd'];have Wv:K (LI st') (lo+x)=K (LI st') (lo+x-1):=by lia
       refine LD {O+1,rfl,Z,F.snoc 'l' 'l','l',λi h1 h2=>?_};rw [show lo+(x+1)-1=lo+x by lia,Wv];by_cases ba:i=lo+x
       .rw [ba];exact Wv
       .exact he i 'l' 'l'
    .rintro c st' ⟨O,rfl,Z,F,hq,he⟩;rw [show max (n+1) J=J by lia] at F hq he ⊢;exact {J,O,rfl,'l',Ll _,Z,F,hq,he}
    .rintro c Zq ⟨m,O,rfl,b1,bP,aT,Zz,hq,he⟩
     try dsimp only
     by_cases U:O>0
     .rw [if_pos U];refine Lv (eG aT (show lo<=lo+m-(O+1) by lia) (show lo+m<=a₀.size by lia) λa0 bp bc=>?_);have Ww:∀k,K (LI a0) k=K (LI Zq) k:=λk=>by
       rw [bc];split
       .rw [he _ 'l' 'l',he k 'l' 'l']
       .rfl
      have ai:cJ (LI a0) lo m:=λi j h1 h2 h3=>by
       rw [Ww,Ww];exact Zz i j h1 h2 h3
      refine Lv (eG bp (Ll _) (show lo+m<=a₀.size by lia) λW Wu Wt=>?_)
      try dsimp only
      have ab:aM (LI W) lo m:=λi j h1 h2 h3=>by
       rw [Wt,Wt,if_pos {h1,'l'},if_pos {'l',h3}];exact ai _ _ 'l' 'l' 'l'
      refine Lv (Nk (Mz (I:=λx c st'=>st'=W/\c=(none,x)/\aM (LI W) lo x)
       (Q:=λc st'=>st'=W/\∃G,c=(none,G)/\m<=G/\G<=J/\aM (LI W) lo G/\(G=J\/K (LI W) (lo+G)<K (LI W) (lo+G-1))) ?_ ?_ {rfl,rfl,ab}) ?_)
      .rintro x c st' WO av ⟨rfl,rfl,F⟩
       try dsimp only
       refine Lv (dv Wu iK 'l' 'l' ?_)
       try dsimp only
       by_cases z:K (LI st') (lo+x)<K (LI st') (lo+x-1)
       .rw [decide_eq_true z,if_pos rfl];exact LD {rfl,x,rfl,WO,'l',F,.inr z}
       .rw [decide_eq_false z,if_neg 'd'];exact LD {rfl,rfl,F.snoc 'l' (Pe.mp z)}
      .rintro c st' ⟨rfl,rfl,F⟩;rw [show max m J=J by lia] at F ⊢;exact {rfl,J,rfl,'l',Ll _,F,.inl rfl}
      .rintro c st' ⟨rfl,m',rfl,h1,h2,h3,_⟩;exact LD (h m' _ Wu 'l' h2 h3)
     .rw [if_neg U];have ai:=Zz;refine Lv (eG aT (Ll _) (show lo+m<=a₀.size by lia) λW Wu Wt=>?_)
      try dsimp only
      have ab:aM (LI W) lo m:=λi j h1 h2 h3=>by
       rw [Wt,Wt,if_pos {h1,'l'},if_pos {'l',h3}];exact ai _ _ 'l' 'l' 'l'
      refine Lv (Nk (Mz (I:=λx c st'=>st'=W/\c=(none,x)/\aM (LI W) lo x)
       (Q:=λc st'=>st'=W/\∃G,c=(none,G)/\m<=G/\G<=J/\aM (LI W) lo G/\(G=J\/K (LI W) (lo+G)<K (LI W) (lo+G-1))) ?_ ?_ {rfl,rfl,ab}) ?_)
      .rintro x c st' WO av ⟨rfl,rfl,F⟩
       try dsimp only
       refine Lv (dv Wu iK 'l' 'l' ?_)
       try dsimp only
       by_cases z:K (LI st') (lo+x)<K (LI st') (lo+x-1)
       .rw [decide_eq_true z,if_pos rfl];exact LD {rfl,x,rfl,WO,'l',F,.inr z}
       .rw [decide_eq_false z,if_neg 'd'];exact LD {rfl,rfl,F.snoc 'l' (Pe.mp z)}
      .rintro c st' ⟨rfl,rfl,F⟩;rw [show max m J=J by lia] at F ⊢;exact {rfl,J,rfl,'l',Ll _,F,.inl rfl}
      .rintro c st' ⟨rfl,m',rfl,h1,h2,h3,_⟩;exact LD (h m' _ Wu 'l' h2 h3)
  .rw [if_neg bt];have b2:n=1:=by lia
   have a9:=hB;have a7:cJ (LI st') lo (n+1):=cJ.snoc (λi j g1 g2 g3=>by rw [show i=j by lia];exact MR _) 'l' (M3 ZO);refine Lv (Qc (Ng {rfl,?_}))
   try dsimp only
   refine Lv (Nk (Mz (I:=λx c st'=>∃O,c=(none,x,O)/\SB a₀ p0 lo st'/\cJ (LI st') lo x/\O+1<=x/\∀i,lo+x-(O+1)<=i->i<lo+x->K (LI st') i=K (LI st') (lo+x-1))
    (Q:=λc st'=>∃m O,c=(none,m,O)/\n+1<=m/\m<=J/\SB a₀ p0 lo st'/\cJ (LI st') lo m/\O+1<=m/\∀i,lo+m-(O+1)<=i->i<lo+m->K (LI st') i=K (LI st') (lo+m-1)) ?_ ?_ {0,rfl,a9,a7,'l',λi h1 h2=>by rw [show i=lo+(n+1)-1 by lia]}) ?_)
   .rintro x c st' WO av ⟨O,rfl,Z,F,hq,he⟩
    try dsimp only
    refine Lv (dv Z iK 'l' 'l' ?_)
    try dsimp only
    by_cases z:K (LI st') (lo+x)<K (LI st') (lo+x-1)
    .rw [decide_eq_true z,if_pos rfl];by_cases U:O>0
     .rw [if_pos U];refine Lv (eG Z (show lo<=lo+x-(O+1) by lia) (show lo+x<=a₀.size by lia) λa5 a8 a6=>LD {0,rfl,a8,?_,'l',λi h1 h2=>by rw [show i=lo+(x+1)-1 by lia]});have Ww:∀k,K (LI a5) k=K (LI st') k:=λk=>by
       rw [a6];split
       .rw [he _ 'l' 'l',he k 'l' 'l']
       .rfl
      intro i j h1 h2 h3;rw [Ww,Ww];exact F.snoc 'l' (M3 z) i j h1 h2 h3
     .rw [if_neg U];exact LD {0,rfl,Z,F.snoc 'l' (M3 z),'l',λi h1 h2=>by rw [show i=lo+(x+1)-1 by lia]}
    .rw [decide_eq_false z,if_neg 'd'];refine Lv (dv Z iK 'l' 'l' ?_)
     try dsimp only
     by_cases S:K (LI st') (lo+x-1)<K (LI st') (lo+x)
     .rw [decide_eq_true S,if_pos rfl];exact LD {x,O,rfl,WO,'l',Z,F,hq,he}
     .rw [decide_eq_false S,if_neg 'd'];have Wv:K (LI st') (lo+x)=K (LI st') (lo+x-1):=by lia
      refine LD {O+1,rfl,Z,F.snoc 'l' 'l','l',λi h1 h2=>?_};rw [show lo+(x+1)-1=lo+x by lia,Wv];by_cases ba:i=lo+x
      .rw [ba];exact Wv
      .exact he i 'l' 'l'
   .rintro c st' ⟨O,rfl,Z,F,hq,he⟩;rw [show max (n+1) J=J by lia] at F hq he ⊢;exact {J,O,rfl,'l',Ll _,Z,F,hq,he}
   .rintro c Zq ⟨m,O,rfl,b1,bP,aT,Zz,hq,he⟩
    try dsimp only
    by_cases U:O>0
    .rw [if_pos U];refine Lv (eG aT (show lo<=lo+m-(O+1) by lia) (show lo+m<=a₀.size by lia) λa0 bp bc=>?_);have Ww:∀k,K (LI a0) k=K (LI Zq) k:=λk=>by
      rw [bc];split
      .rw [he _ 'l' 'l',he k 'l' 'l']
      .rfl
     have ai:cJ (LI a0) lo m:=λi j h1 h2 h3=>by
      rw [Ww,Ww];exact Zz i j h1 h2 h3
     refine Lv (eG bp (Ll _) (show lo+m<=a₀.size by lia) λW Wu Wt=>?_)
     try dsimp only
     have ab:aM (LI W) lo m:=λi j h1 h2 h3=>by
      rw [Wt,Wt,if_pos {h1,'l'},if_pos {'l',h3}];exact ai _ _ 'l' 'l' 'l'
     refine Lv (Nk (Mz (I:=λx c st'=>st'=W/\c=(none,x)/\aM (LI W) lo x)
      (Q:=λc st'=>st'=W/\∃G,c=(none,G)/\m<=G/\G<=J/\aM (LI W) lo G/\(G=J\/K (LI W) (lo+G)<K (LI W) (lo+G-1))) ?_ ?_ {rfl,rfl,ab}) ?_)
     .rintro x c st' WO av ⟨rfl,rfl,F⟩
      try dsimp only
      refine Lv (dv Wu iK 'l' 'l' ?_)
      try dsimp only
      by_cases z:K (LI st') (lo+x)<K (LI st') (lo+x-1)
      .rw [decide_eq_true z,if_pos rfl];exact LD {rfl,x,rfl,WO,'l',F,.inr z}
      .rw [decide_eq_false z,if_neg 'd'];exact LD {rfl,rfl,F.snoc 'l' (Pe.mp z)}
     .rintro c st' ⟨rfl,rfl,F⟩;rw [show max m J=J by lia] at F ⊢;exact {rfl,J,rfl,'l',Ll _,F,.inl rfl}
     .rintro c st' ⟨rfl,m',rfl,h1,h2,h3,_⟩;exact LD (h m' _ Wu 'l' h2 h3)
    .rw [if_neg U];have ai:=Zz;refine Lv (eG aT (Ll _) (show lo+m<=a₀.size by lia) λW Wu Wt=>?_)
     try dsimp only
     have ab:aM (LI W) lo m:=λi j h1 h2 h3=>by
      rw [Wt,Wt,if_pos {h1,'l'},if_pos {'l',h3}];exact ai _ _ 'l' 'l' 'l'
     refine Lv (Nk (Mz (I:=λx c st'=>st'=W/\c=(none,x)/\aM (LI W) lo x)
      (Q:=λc st'=>st'=W/\∃G,c=(none,G)/\m<=G/\G<=J/\aM (LI W) lo G/\(G=J\/K (LI W) (lo+G)<K (LI W) (lo+G-1))) ?_ ?_ {rfl,rfl,ab}) ?_)
     .rintro x c st' WO av ⟨rfl,rfl,F⟩
      try dsimp only
      refine Lv (dv Wu iK 'l' 'l' ?_)
      try dsimp only
      by_cases z:K (LI st') (lo+x)<K (LI st') (lo+x-1)
      .rw [decide_eq_true z,if_pos rfl];exact LD {rfl,x,rfl,WO,'l',F,.inr z}
      .rw [decide_eq_false z,if_neg 'd'];exact LD {rfl,rfl,F.snoc 'l' (Pe.mp z)}
     .rintro c st' ⟨rfl,rfl,F⟩;rw [show max m J=J by lia] at F ⊢;exact {rfl,J,rfl,'l',Ll _,F,.inl rfl}
     .rintro c st' ⟨rfl,m',rfl,h1,h2,h3,_⟩;exact LD (h m' _ Wu 'l' h2 h3)
theorem Gz{st:Mf}{n ok:Nat}(iK:∀x∈a₀.toList,ar x)(hn:lo+n<=a₀.size)(hok:ok<=n)(hB:SB a₀ p0 lo st)(hs:aM (LI st) lo ok)(h:∀st',SB a₀ p0 lo st'->aM (LI st') lo n->Q true st'):wpS (LH prog w) A E s (binarySort' lo n ok) Q st:=by
 unfold binarySort';refine Lv (Nk (Mz (I:=λk c st'=>c=(none,())/\SB a₀ p0 lo st'/\aM (LI st') lo (min k n))
  (Q:=λc st'=>c=(none,())/\SB a₀ p0 lo st'/\aM (LI st') lo n) ?_ ?_ ?_) ?_)
 .rintro k c st' av ai ⟨rfl,J,O⟩;rw [show min k n=k by lia] at O
  try dsimp only
  refine Lv (Nk (Mz (I:=λx c F=>F=st'/\∃l r,c=(none,l,r)/\l<=r/\r<=k/\r-l<=k-x /\
    (∀i,i<l->K (LI st') (lo+i)<=K (LI st') (lo+k))/\(∀i,r<=i->i<k->K (LI st') (lo+k)<K (LI st') (lo+i)))
   (Q:=λc F=>F=st'/\∃l r,c=(none,l,r)/\l<=k /\
    (∀i,i<l->K (LI st') (lo+i)<=K (LI st') (lo+k))/\(∀i,l<=i->i<k->K (LI st') (lo+k)<K (LI st') (lo+i))) ?_ ?_ {rfl,0,k,rfl,'l','l','l',λi hi=>by lia,λi h1 h2=>by lia}) ?_)
  .rintro x c F _ ab ⟨rfl,l,r,rfl,Z,U,hm,W,G⟩
   try dsimp only
   by_cases Zg:l ≥ r
   .rw [if_pos Zg];have:l=r:=by lia
    subst this;exact LD {rfl,l,l,rfl,U,W,G}
   .rw [if_neg Zg];refine Lv (dv J iK 'l' 'l' ?_)
    try dsimp only
    by_cases z:K (LI F) (lo+k)<K (LI F) (lo+(l+r) / 2)
    .rw [decide_eq_true z,if_pos rfl];exact LD {rfl,l,(l+r) / 2,rfl,'l','l','l',W,λi h1 h2=>Int.lt_of_lt_of_le z (O _ _ 'l' 'l' 'l')}
    .rw [decide_eq_false z,if_neg 'd'];exact LD {rfl,(l+r) / 2+1,r,rfl,'l','l','l',λi h1=>NG (O (lo+i) (lo+(l+r) / 2) 'l' 'l' 'l') (Pe.mp z),G}
  .rintro c F ⟨rfl,l,r,rfl,Z,U,hm,W,G⟩;have:l=r:=by lia
   subst this;exact {rfl,l,l,rfl,U,W,G}
  .rintro c F ⟨rfl,l,r,rfl,aL,W,G⟩;show wpS _ _ _ _ (do moveDown' (lo+k) (lo+l);pure (ForInStep.yield (none,()))) _ _;rw [moveDown'_eq];have S:lo+k<(LI F).size:=by rw [J.size];lia
   refine Lv (Pa (LD {rfl,{(bubble_perm _ _ _).trans J.perm,J.kind,J.failed,J.pend,λj hj=>?_},?_}))
   .show (bubble (LI F) (lo+k) (lo+k-(lo+l)))[j]?=_;rw [getElem?_bubble S _ 'l',if_neg 'l',if_neg 'l'];exact J.pre j hj
   .rw [show min (k+1) n=k+1 by lia];intro i j hi Zh hj;show K (bubble (LI F) (lo+k) (lo+k-(lo+l))) i<=K (bubble (LI F) (lo+k) (lo+k-(lo+l))) j;rw [K_bubble S 'l',K_bubble S 'l',show lo+k-(lo+k-(lo+l))=lo+l by lia];have g1:∀i,lo<=i->i<lo+l->K (LI F) i<=K (LI F) (lo+k):=λi h1 h2=>by
     have:=W (i-lo) 'l';rwa [show lo+(i-lo)=i by lia] at this
    have g2:∀i,lo+l<=i->i<lo+k->K (LI F) (lo+k)<K (LI F) i:=λi h1 h2=>by
     have:=G (i-lo) 'l' 'l';rwa [show lo+(i-lo)=i by lia] at this
    repeat' split
    all_goals first
     | (exfalso;lia)
     | exact MR _
     | exact g1 _ 'l' 'l'
     | exact M3 (g2 _ 'l' 'l')
     | exact O _ _ 'l' 'l' 'l'
 .rintro c st' ⟨hc,J,O⟩;refine {hc,J,?_};rwa [show min (max (max ok 1) n) n=n by lia] at O
 .refine {rfl,hB,λi j hi Zh hj=>?_};by_cases h1:ok=0
  .rw [show i=j by lia];exact MR _
  .exact hs i j hi Zh 'l'
 .rintro c st' ⟨rfl,J,O⟩;exact LD (h st' J O)
theorem DX{st st1:Mf}(h:Q ⟨⟩ st1):wpS (LH prog w) A E s (set st1:StateT Mf Sem PUnit) Q st:=by
 unfold wpS;show LM _ _ ((MonadStateOf.set st1:StateT Mf Sem PUnit).run st) _ _ _;rw [StateT.run_set];exact Ls {rfl,h}
theorem wX(J:Nat):∀(o:List L7)(j:Nat)(F:Array L7)(P Z S:List L7),F.toList=P++Z++S->P.length=J+j->Z.length=o.length ->
  (foldl (λ(a:Array L7)(x:L7×Nat)=>match x with|(p,j)=>a.setIfInBounds (J+j) p) F (o.zipIdx j)).toList=P++o++S
 | [],j,F,P,Z,S,h,_,G=>by
  have:Z=[]:=M1.mp G;subst this;exact h
 | p::o,j,F,P,[],S,_,_,G=>by cases G
 | p::o,j,F,P,z::Z,S,h,O,G=>by
  rw [QT,Qk];have h1:(F.setIfInBounds (J+j) p).toList=(P++[p])++Z++S:=by
   rw [Qr,h,Ma,Pr _ _ 'l',O,Pn];simp
  have:=wX J o (j+1) _ (P++[p]) Z S h1 (by rw [LC,O];rfl) (by simpa using G);rw [show P++p::o=P++[p]++o by simp];exact this
theorem xj{xs:Array L7}(h:xs.toList=P++R++S){p:L7}(e:R[i]?=some p):xs[P.length+i]?=some p:=by
 rw [<- MH,h,Ma,NI 'l',show P.length+i-P.length=i by lia,NR (Lp.mp e).1];exact e
theorem DZ{st:Mf}(hk:kindOf st=oneType')(hf:ND st=none)(iK:∀x∈(LI st).toList,ar x)(hL:(LI st).toList=P++RA++RB++S)(e1:(MF st)[i]?=some (P.length,RA.length,pw))(e2:(MF st)[i+1]?=some (P.length+RA.length,RB.length,bq))(nA:RA≠[])(nB:RB≠[])(sA:Srt RA)(sB:Srt RB)(h:∀st' M,kindOf st'=oneType'->ND st'=none->(LI st').toList=P++M++S->M.Perm (RA++RB)->Srt M->MF st'=((MF st).setIfInBounds i (P.length,RA.length+RB.length,pw)).eraseIdxIfInBounds (i+1)->Q true st'):
  wpS (LH prog w) A E s (mergeAt' i) Q st:=by
 have lA:=OP.mpr nA;have lB:=OP.mpr nB;have bc:(LI st).toList=P++RA++(RB++S):=by rw [hL,Ma]
 have a9:(LI st).toList=(P++RA)++RB++S:=hL;have F:∀{i p},RA[i]?=some p->(LI st)[P.length+i]?=some p:=λ{i p} e=>xj bc e;have O:∀{i p},RB[i]?=some p->(LI st)[P.length+RA.length+i]?=some p:=λ{i p} e=>by have:=xj a9 e;rwa [LC] at this
 have a4:∀x∈RA,ar x:=λx hx=>iK x (by rw [hL];simp [hx]);have a3:∀x∈RB,ar x:=λx hx=>iK x (by rw [hL];simp [hx]);have bp:∀i j,i<=j->j<RA.length->K (LI st) (P.length+i)<=K (LI st) (P.length+j):=λi j Zh z=>by
  rw [bf (F (KE (show i<RA.length by lia))),bf (F (KE z))];by_cases e:i=j
  .subst e;exact MR _
  .exact M9.mp sA i j _ _ 'l'
 have bt:∀i j,i<=j->j<RB.length->K (LI st) (P.length+RA.length+i)<=K (LI st) (P.length+RA.length+j):=λi j Zh z=>by
  rw [bf (O (KE (show i<RB.length by lia))),bf (O (KE z))];by_cases e:i=j
  .subst e;exact MR _
  .exact M9.mp sB i j _ _ 'l'
 obtain ⟨b0,RB',rfl⟩:∃b0 RB',RB=b0::RB':=by
  cases RB with
  | nil=>exact absurd rfl nB
  | cons b0 r=>exact {b0,r,rfl}
 have U:=sB.head (MR (kv b0));unfold mergeAt';refine Lv (PB ?_)
 try dsimp only
 rw [show (MF st)[i]?=some (P.length,RA.length,pw) from e1,show (MF st)[i+1]?=some (P.length+RA.length,(b0::RB').length,bq) from e2]
 try dsimp only
 refine Lv (DX ?_);obtain ⟨st1,W⟩:∃st1,st1=Mf.mk' (kindOf st) (LI st) (((MF st).setIfInBounds i (P.length,RA.length+(b0::RB').length,pw)).eraseIdxIfInBounds (i+1)) (gallopOf st) (ND st):={_,rfl};have k1:kindOf st1=oneType':=by rw [W];exact hk
 have f1:ND st1=none:=by rw [W];exact hf
 have a1:LI st1=LI st:=by rw [W]
 have p1:MF st1=((MF st).setIfInBounds i (P.length,RA.length+(b0::RB').length,pw)).eraseIdxIfInBounds (i+1):=by rw [W]
 show wpS _ _ _ _ _ Q (Mf.mk' (kindOf st) (LI st) (((MF st).setIfInBounds i (P.length,RA.length+(b0::RB').length,pw)).eraseIdxIfInBounds (i+1)) (gallopOf st) (ND st));rw [<- W];have bL:(LI st)[P.length+RA.length]?=some b0:=by have:=O (i:=0) (p:=b0) rfl;rwa [Nat.add_zero] at this
 refine Lv (aK bL ?_);refine Lv (gD k1 (a3 b0 's') (λj h1 h2=>?_) (λj j' h1 h2 h3=>?_) 'l' λk b3 g1 g2=>?_)
 .obtain ⟨p,ep⟩:∃p,RA[j-P.length]?=some p:={_,KE 'l'};have:=F ep;rw [show P.length+(j-P.length)=j by lia] at this;exact {p,this,a4 p (LF ep)}
 .have:=bp (j-P.length) (j'-P.length) 'l' 'l';rwa [show P.length+(j-P.length)=j by lia,show P.length+(j'-P.length)=j' by lia] at this
 have a0:∀x∈RA.take k,kv x<=kv b0:=λx hx=>by
  obtain ⟨j,z⟩:=MO hx;have Xj:=(Lp.mp z).1;rw [ME] at Xj;rw [NU 'l'] at z;have:=pG (g1 j 'l');rw [bf (F z)] at this;exact this
 have lX:∀x∈RA.drop k,kv b0<=kv x:=λx hx=>by
  obtain ⟨j,z⟩:=MO hx;have Xj:=(Lp.mp z).1;rw [Ni] at Xj;rw [O3] at z;have:=qD (g2 (k+j) 'l' 'l');rw [bf (F z)] at this;exact M3 this
 have plain:(∀x∈RA,∀y∈b0::RB',kv x<=kv y)->Q true st1:=λai=>h st1 (RA++b0::RB') k1 f1 (by rw [a1,hL];simp) (N7.refl _) (MN.mpr ⟨sA,sB,ai⟩) p1
 try dsimp only
 by_cases hz:RA.length-k=0
 .rw [if_pos (by simpa using hz)];refine LD (plain λx hx y J=>NG (a0 x ?_) (U y J));rw [L5 'l'];exact hx
 rw [if_neg (by simpa using hz)];obtain ⟨xl,ab⟩:∃xl,RA[RA.length-1]?=some xl:={_,KE 'l'};have a5:(LI st)[P.length+k+(RA.length-k)-1]?=some xl:=by have:=F ab;rwa [show P.length+(RA.length-1)=P.length+k+(RA.length-k)-1 by lia] at this
 have av:∀x∈RA,kv x<=kv xl:=λx hx=>by
  obtain ⟨j,z⟩:=MO hx;have Xj:=(Lp.mp z).1;have:=bp j (RA.length-1) 'l' 'l';rw [bf (F z),bf (F ab)] at this;exact this
 refine Lv (aK a5 ?_);refine Lv (gD k1 (a4 xl (LF ab)) (λj h1 h2=>?_) (λj j' h1 h2 h3=>?_) 'l' λnb Xu g3 g4=>?_)
 .obtain ⟨p,ep⟩:∃p,(b0::RB')[j-(P.length+RA.length)]?=some p:={_,KE 'l'};have:=O ep;rw [show P.length+RA.length+(j-(P.length+RA.length))=j by lia] at this;exact {p,this,a3 p (LF ep)}
 .have:=bt (j-(P.length+RA.length)) (j'-(P.length+RA.length)) 'l' 'l';rwa [show P.length+RA.length+(j-(P.length+RA.length))=j by lia,show P.length+RA.length+(j'-(P.length+RA.length))=j' by lia] at this
 have lY:∀y∈(b0::RB').take nb,kv y<=kv xl:=λx hx=>by
  obtain ⟨j,z⟩:=MO hx;have Xj:=(Lp.mp z).1;rw [ME] at Xj;rw [NU 'l'] at z;have:=oy (g3 j 'l');rw [bf (O z)] at this;exact M3 this
 have a6:∀y∈(b0::RB').drop nb,kv xl<=kv y:=λx hx=>by
  obtain ⟨j,z⟩:=MO hx;have Xj:=(Lp.mp z).1;rw [Ni] at Xj;rw [O3] at z;have:=pS (g4 (nb+j) 'l' 'l');rw [bf (O z)] at this;exact this
 try dsimp only
 by_cases aT:nb=0
 .rw [if_pos (by simpa using aT)];refine LD (plain λx hx y J=>NG (av x hx) (a6 y ?_));rw [aT];exact J
 rw [if_neg (by simpa using aT)];have ex:((LI st).extract (P.length+k) (P.length+RA.length)).toList=RA.drop k:=by
  rw [OL,NS,bc,Ma,<- List.drop_drop,List.drop_left,List.drop_append_of_le_length 'l',PU (by rw [Ni];lia),L5 (by rw [Ni];lia)]
 have ey:((LI st).extract (P.length+RA.length) (P.length+RA.length+nb)).toList=(b0::RB').take nb:=by
  rw [OL,NS,a9,Ma,<- LC,List.drop_left,show (P++RA).length+nb-(P++RA).length=nb by lia,PU 'l']
 have aL:((LI st).extract (P.length+k) (P.length+RA.length)).size=RA.length-k:=by rw [<- Mi,ex,Ni]
 have a8:((LI st).extract (P.length+RA.length) (P.length+RA.length+nb)).size=nb:=by rw [<- Mi,ey,ME];lia
 have c1:∀x∈((LI st).extract (P.length+k) (P.length+RA.length)).toList,ar x:=λx hx=>by rw [ex] at hx;exact a4 x (O6 hx)
 have c2:∀x∈((LI st).extract (P.length+RA.length) (P.length+RA.length+nb)).toList,ar x:=λx hx=>by rw [ey] at hx;exact a3 x (PV hx)
 have c3:Srt ((LI st).extract (P.length+k) (P.length+RA.length)).toList:=by rw [ex];exact sA.sublist (List.drop_sublist _ _)
 have c4:Srt ((LI st).extract (P.length+RA.length) (P.length+RA.length+nb)).toList:=by rw [ey];exact sB.sublist (Qy _ _)
 have c5:∀y,((LI st).extract (P.length+RA.length) (P.length+RA.length+nb))[0]?=some y->∀x∈((LI st).extract (P.length+k) (P.length+RA.length)).toList,kv y<=kv x:=λy ba x hx=>by
  rw [<- MH,ey,NU 'l'] at ba;cases ba;rw [ex] at hx;exact lX x hx
 have c6:∀x,((LI st).extract (P.length+k) (P.length+RA.length))[((LI st).extract (P.length+k) (P.length+RA.length)).size-1]?=some x->∀y∈((LI st).extract (P.length+RA.length) (P.length+RA.length+nb)).toList,kv y<=kv x:=λx a7 y J=>by
  rw [aL,<- MH,ex,O3,show k+(RA.length-k-1)=RA.length-1 by lia,ab] at a7;cases a7;rw [ey] at J;exact lY y J
 have Z:∀(o:Array L7)(G:Mf),SG st1 G->Srt o.toList->o.toList.Perm (((LI st).extract (P.length+k) (P.length+RA.length)).toList++((LI st).extract (P.length+RA.length) (P.length+RA.length+nb)).toList) ->
   Q true (Mf.mk' (kindOf G) (foldl (λ(a:Array L7)(x:L7×Nat)=>match x with|(p,j)=>a.setIfInBounds (P.length+k+j) p) (LI G) o.toList.zipIdx) (MF G) (gallopOf G) (ND G)):=λo G sg so pm=>by
  rw [ex,ey] at pm;have bP:(RA.drop k++(b0::RB').take nb).length=o.toList.length:=pm.length_eq.symm;have e0:(LI G).toList=(P++RA.take k)++(RA.drop k++(b0::RB').take nb)++((b0::RB').drop nb++S):=by
   rw [sg.a,a1,hL]
   conv=>lhs;rw [<- MW k RA,<- MW nb (b0::RB')]
   simp only [Ma]
  have eo:=wX (P.length+k) o.toList 0 (LI G) _ _ _ e0 (by rw [LC,ME];lia) bP;refine h _ (RA.take k++o.toList++(b0::RB').drop nb) (sg.k.trans k1) (sg.f.trans f1) ?_ ?_ ?_ (sg.p.trans p1)
  .refine eo.trans ?_;simp only [Ma]
  .refine N7.trans ((pm.append_left _).append_right _) ?_;rw [show RA.take k++(RA.drop k++(b0::RB').take nb)++(b0::RB').drop nb=(RA.take k++RA.drop k)++((b0::RB').take nb++(b0::RB').drop nb) by simp only [Ma],MW,MW]
  .have b1:Srt (RA.take k++RA.drop k):=by rw [MW];exact sA
   have b2:Srt ((b0::RB').take nb++(b0::RB').drop nb):=by rw [MW];exact sB
   have qA:=MN.mp b1;have qB:=MN.mp b2;refine MN.mpr {MN.mpr {qA.1,so,λx hx y J=>?_},qB.2.1,λx hx y J=>?_}
   .rcases L6.mp (pm.mem_iff.mp J) with J|J
    .exact qA.2.2 x hx y J
    .exact NG (a0 x hx) (U y (PV J))
   .rcases L6.mp hx with hx|hx
    .exact NG (a0 x hx) (U y (O6 J))
    .rcases L6.mp (pm.mem_iff.mp hx) with hx|hx
     .exact NG (av x (O6 hx)) (a6 y J)
     .exact qB.2.2 x hx y J
 try dsimp only
 by_cases ai:RA.length-k<=nb
 all_goals first|rw [if_pos ai]|rw [if_neg ai]
 .refine Lv (Gu k1 c1 c2 c3 c4 (by rw [aL];lia) (by rw [a8];lia) c5 c6 λo G sg so pm=>?_);refine Lv (Pa ?_);refine Lv (PB (LD ?_));have:=Z o G sg so pm;have ef:(ND G).isNone=true:=by rw [sg.f,f1];rfl
  show Q (ND G).isNone _;rw [ef];exact this
 .refine Lv (F0 k1 c1 c2 c3 c4 (by rw [aL];lia) (by rw [a8];lia) c5 c6 λo G sg so pm=>?_);refine Lv (Pa ?_);refine Lv (PB (LD ?_));have:=Z o G sg so pm;have ef:(ND G).isNone=true:=by rw [sg.f,f1];rfl
  show Q (ND G).isNone _;rw [ef];exact this
end
def aF:List (Nat×Nat×Nat)->List (List L7)->Nat->Prop
 | [],[],_=>True
 | (o,n,_)::p,r::F,z=>o=z/\n=r.length/\r≠[]/\Srt r/\aF p F (z+r.length)
 | _,_,_=>False
theorem aF.len:∀{p:List (Nat×Nat×Nat)}{z:List (List L7)}{F:Nat},aF p z F->p.length=z.length
 | [],[],_,_=>rfl
 | (_,_,_)::p,r::z,F,h=>by rw [M7,M7,aF.len h.2.2.2.2]
 | [],_::_,_,h=>h.elim
 | _::_,[],_,h=>by cases h
theorem aF.flat:∀{p:List (Nat×Nat×Nat)}{z:List (List L7)}{F:Nat},aF p z F->z.length<=z.flatten.length
 | [],[],_,_=>Ll _
 | (_,_,_)::p,r::z,F,h=>by
  have h1:=aF.flat h.2.2.2.2;have h2:=OP.mpr h.2.2.1;rw [M7,Np,LC];lia
 | [],_::_,_,h=>h.elim
 | _::_,[],_,h=>by cases h
theorem aF.one:∀{p:List (Nat×Nat×Nat)}{z:List (List L7)}{F:Nat},aF p z F->z.length<=1->Srt z.flatten
 | [],[],_,_,_=>Pairwise.nil
 | (_,_,_)::p,[r],F,h,_=>by rw [Np,List.flatten_nil,MS];exact h.2.2.2.1
 | (_,_,_)::p,_::_::_,F,h,hl=>by simp at hl
 | [],_::_,_,h,_=>h.elim
 | _::_,[],_,h,_=>by cases h
theorem aF.push:∀{p:List (Nat×Nat×Nat)}{z:List (List L7)}{F:Nat},aF p z F->∀{r:List L7}{o n G:Nat},r≠[]->Srt r->o=F+z.flatten.length->n=r.length->aF (p++[(o,n,G)]) (z++[r]) F
 | [],[],_,_,r,o,n,G,h1,h2,h3,h4=>⟨h3,h4,h1,h2,trivial⟩
 | (_,_,_)::p,r'::z,F,h,r,o,n,G,h1,h2,h3,h4=>{h.1,h.2.1,h.2.2.1,h.2.2.2.1,aF.push h.2.2.2.2 h1 h2 (by rw [h3,Np,LC];lia) h4}
 | [],_::_,_,h,_,_,_,_,_,_,_,_=>h.elim
 | _::_,[],_,h,_,_,_,_,_,_,_,_=>by cases h
theorem aF.mod(G:Nat):∀{p:List (Nat×Nat×Nat)}{z:List (List L7)}{F:Nat}(i:Nat),aF p z F->aF (p.modify i λx=>match x with|(st,len,_)=>(st,len,G)) z F
 | [],z,F,i,h=>by rw [List.modify_nil];exact h
 | (_,_,_)::p,r::z,F,0,h=>by rw [List.modify_zero_cons];exact h
 | (_,_,_)::p,r::z,F,i+1,h=>by rw [List.modify_succ_cons];exact {h.1,h.2.1,h.2.2.1,h.2.2.2.1,aF.mod G i h.2.2.2.2}
 | _::_,[],_,_,h=>by cases h
theorem aF.split:∀{p:List (Nat×Nat×Nat)}{U:List (List L7)}{O:Nat}(i:Nat),aF p U O->i+1<p.length->∃J F G R2 S z,U=J++F::G::R2 /\
  p[i]?=some (O+J.flatten.length,F.length,S)/\p[i+1]?=some (O+J.flatten.length+F.length,G.length,z)/\F≠[]/\G≠[]/\Srt F/\Srt G /\
  ∀M:List L7,M.length=F.length+G.length->Srt M->aF ((p.set i (O+J.flatten.length,F.length+G.length,S)).eraseIdx (i+1)) (J++M::R2) O
 | (_,_,S)::(_,_,z)::p,F::G::U,O,0,⟨rfl,rfl,h1,h2,rfl,rfl,h3,h4,h5⟩,_=>{[],F,G,U,S,z,rfl,rfl,rfl,h1,h3,h2,h4,λM W Z=>by
   refine {rfl,W.symm,?_,Z,?_}
   .rintro rfl;have:=OP.mpr h1;simp at W;lia
   .rw [W,<- QG];exact h5}
 | (_,_,_)::p,r::U,O,i+1,⟨rfl,rfl,h1,h2,h3⟩,hi=>by
  obtain ⟨J,F,G,R2,S,z,e,e1,e2,n1,n2,s1,s2,W⟩:=aF.split i h3 (by simpa using hi);refine {r::J,F,G,R2,S,z,by rw [e];rfl,?_,?_,n1,n2,s1,s2,λM l Z=>?_}
  .rw [On,e1,Np,LC,QG]
  .rw [On,e2,Np,LC,QG _ r.length]
  .rw [List.set_cons_succ,List.eraseIdx_cons_succ,Np,LC,<- QG];exact {rfl,rfl,h1,h2,W M l Z}
 | [],_,_,_,_,hi=>by simp at hi
 | [_],_,_,0,_,hi=>by simp at hi
 | _::_,[],_,_,h,_=>by cases h
 | (_,_,_)::_::_,[_],_,0,h,_=>by cases h.2.2.2.2
structure SI(a₀:Array L7)(rs:List (List L7))(ZZ:List L7)(st:Mf):Prop where
 kind:kindOf st=oneType'
 failed:ND st=none
 list:(LI st).toList=rs.flatten++ZZ
 perm:(LI st).Perm a₀
 runs:aF (MF st).toList rs 0
theorem SI.size{rs ZZ st}(h:SI a₀ rs ZZ st):rs.flatten.length+ZZ.length=a₀.size:=by
 have:=congrArg length h.list;rw [LC,Mi,h.perm.size_eq] at this;exact this.symm
theorem SI.Uj{rs ZZ st}(h:SI a₀ rs ZZ st)(z:∀x∈a₀.toList,ar x):∀x∈(LI st).toList,ar x:=λx hx=>z x ((N9.mp h.perm).mem_iff.mp hx)
theorem SI.found{rs ZZ st st' m}(h:SI a₀ rs ZZ st)(z:SB (LI st) (MF st) rs.flatten.length st')(hs:aM (LI st') rs.flatten.length m)(h1:1<=m)(h2:rs.flatten.length+m<=a₀.size):
  ∃R S,SI a₀ rs (R++S) st'/\R.length=m/\R≠[]/\Srt R:=by
 have sz:(LI st').toList.length=a₀.size:=by rw [Mi,z.size,h.perm.size_eq]
 have e1:(LI st').toList.take rs.flatten.length=rs.flatten:=by
  refine List.ext_getElem? λk=>?_;by_cases G:k<rs.flatten.length
  .rw [NU G,MH,z.pre k G,<- MH,h.list,NR G]
  .rw [NK (by rw [ME];lia),NK 'l']
 have O:(LI st').toList=rs.flatten++(((LI st').toList.drop rs.flatten.length).take m++((LI st').toList.drop rs.flatten.length).drop m):=by
  rw [MW]
  conv=>lhs;rw [<- MW rs.flatten.length (LI st').toList,e1]
 have F:(((LI st').toList.drop rs.flatten.length).take m).length=m:=by rw [ME,Ni,sz];lia
 refine {_,_,{z.kind,z.failed,O,z.perm.trans h.perm,by rw [z.pend];exact h.runs},F,?_,?_}
 .rw [<- OP,F];exact h1
 .refine M9.mpr λi j hi J U=>?_;rw [F] at hi J;have q:=hs (rs.flatten.length+i) (rs.flatten.length+j) 'l' 'l' 'l';have at_:∀i,(hi:i<(((LI st').toList.drop rs.flatten.length).take m).length)->K (LI st') (rs.flatten.length+i)=kv ((((LI st').toList.drop rs.flatten.length).take m)[i]):=λi hi=>by
   refine bf ?_;rw [<- MH,<- O3,<- NU (show i<m by rw [F] at hi;exact hi)];exact KE hi
  rw [at_ i (by rw [F];exact hi),at_ j (by rw [F];exact J)] at q;exact q
section
variable {prog:Ly}{w:LW}{A:LV}{E:Value->Lk->Prop}{s:Lk}{a₀:Array L7}
theorem SI.merge{rs ZZ st i}(iK:∀x∈a₀.toList,ar x)(h:SI a₀ rs ZZ st)(hi:i+1<(MF st).size)(W:∀st' z,SI a₀ z ZZ st'->z.length+1=rs.length->z.flatten.length=rs.flatten.length->Q true st'):wpS (LH prog w) A E s (mergeAt' i) Q st:=by
 obtain ⟨F,r1,r2,R2,pw,U,e,e1,G,n1,O,s1,s2,J⟩:=h.runs.split i (by simpa using hi);rw [NV] at e1 G J;rw [MH] at e1 G;refine DZ (P:=F.flatten) (RA:=r1) (RB:=r2) (S:=R2.flatten++ZZ) h.kind h.failed (h.Uj iK) (by rw [h.list,e];simp) e1 G n1 O s1 s2 λst' M k f l pm Z pd=>W st' (F++M::R2) {k,f,?_,?_,?_} (by rw [e];simp;lia) (by rw [e];have:=pm.length_eq;simp at this ⊢;lia)
 .rw [l];simp
 .refine N9.mpr (N7.trans ?_ (N9.mp h.perm));rw [l,h.list,e];have:=((pm.append_left F.flatten).append_right (R2.flatten++ZZ));simpa using this
 .rw [pd,Array.toList_eraseIdxIfInBounds,Qr];exact J M (by rw [pm.length_eq,LC]) Z
theorem vt{st:Mf}(iK:∀x∈a₀.toList,ar x)(h0:kindOf st=oneType')(h1:ND st=none)(h2:MF st = #[])(h3:(LI st)=a₀)(h:∀st',(LI st').Perm a₀->ND st'=none->SortedTo (LI st') a₀.size->Q () st'):wpS (LH prog w) A E s sortRuns' Q st:=by
 rw [sortRuns'_eq];refine Lv (PB ?_);dsimp only;simp only [h3];refine Lv (Nk (Mz
  (I:=λx c st'=>∃z ZZ,SI a₀ z ZZ st'/\x<=z.flatten.length/\c=(none,z.flatten.length))
  (Q:=λc st'=>∃z,SI a₀ z [] st'/\c=(none,z.flatten.length)) ?_ ?_ {[],a₀.toList,{h0,h1,by rw [h3];rfl,by rw [h3],by rw [h2];trivial},Ll _,rfl}) ?_)
 .rintro x c st' _ hx ⟨z,ZZ,F,a4,rfl⟩;have hsz:=F.size
  try dsimp only
  by_cases Zg:z.flatten.length ≥ a₀.size
  .rw [if_pos Zg];have:ZZ=[]:=M1.mp 'l';subst this;exact LD {z,F,rfl}
  rw [if_neg Zg];have a8:(LI st').size=a₀.size:=F.perm.size_eq;have S:∀(R Z:List L7),R≠[]->Srt R->∀(G:List (List L7))(J:Mf),SI a₀ G (R++Z) J->G.flatten.length=z.flatten.length ->
    ∃ab ai,SI a₀ ab ai (setPending J ((MF J).push (z.flatten.length,R.length,0)))/\x+1<=ab.flatten.length/\((none:Option Unit),z.flatten.length+R.length)=(none,ab.flatten.length):=λR Z nR sR G J h4 W=>by
   have lR:=OP.mpr nR;have e5:(G++[R]).flatten=G.flatten++R:=by simp
   refine {G++[R],Z,{h4.kind,h4.failed,?_,h4.perm,?_},?_,?_}
   .rw [e5,Ma];exact h4.list
   .show aF ((MF J).push _).toList _ _;rw [PP];exact h4.runs.push nR sR (by rw [W,NV]) rfl
   .rw [e5,LC,W];lia
   .rw [e5,LC,W]
  refine Lv (G4 (F.Uj iK) 'l' 'l' {Array.Perm.refl _,F.kind,F.failed,rfl,λ_ _=>rfl} λm Zq av a9 a7 Zz=>?_)
  try dsimp only
  by_cases ZO:m<minRun' a₀.size a₀.size 0;rw [if_pos ZO];refine Lv (Qc (Ng {rfl,?_}));refine Lv (Gz (F.Uj iK) 'l' 'l' av Zz λa3 a6 a5=>?_);simp only [Bool.not_true,Nm,if_false];obtain ⟨R,Z,U,lR,nR,sR⟩:=F.found a6 a5 'l' 'l';rw [<- lR]
  rotate_left
  rw [if_neg ZO];obtain ⟨R,Z,U,lR,nR,sR⟩:=F.found av Zz 'l' 'l';rw [<- lR]
  all_goals
   refine Lv (PB ?_)
   try dsimp only
   split
   .rename_i s1 n1 pw eb;refine Lv (Nk (Mz (I:=λx c J=>c=(none,())/\∃G,SI a₀ G (R++Z) J/\G.flatten.length=z.flatten.length) (Q:=λc J=>c=(none,())/\∃G,SI a₀ G (R++Z) J/\G.flatten.length=z.flatten.length) ?_ (λc J h=>h) {rfl,z,U,rfl}) ?_)
    .rintro y c J _ _ ⟨rfl,G,h4,W⟩;refine Lv (PB ?_)
     try dsimp only
     split
     .rename_i o1 o2 o3 eo;by_cases ho:o3<=power' a₀.size (2*s1+n1) (2*s1+n1+n1+R.length) a₀.size
      .rw [if_pos ho];exact LD {rfl,G,h4,W}
      rw [if_neg ho];have h1:(MF J).size>1:=by
       by_cases h1:(MF J).size>1
       .exact h1
       .rw [if_neg h1] at eo;cases eo
      refine Lv (h4.merge iK 'l' λba a0 h6 l6 e6=>?_);simp only [Bool.not_true,Nm,if_false];exact LD {rfl,a0,h6,e6.trans W}
     .exact LD {rfl,G,h4,W}
    .rintro c J ⟨rfl,G,h4,W⟩
     try dsimp only
     refine Lv (Pa (Lv (Pa (LD (S R Z nR sR G _ {h4.kind,h4.failed,h4.list,h4.perm,?_} W)))));show aF ((MF J).modify _ _).toList _ _;rw [Array.toList_modify];exact h4.runs.mod _ _
   .exact Lv (Pa (LD (S R Z nR sR z _ U rfl)))
 .rintro c st' ⟨z,ZZ,F,a4,rfl⟩;have hsz:=F.size;have:ZZ=[]:=M1.mp 'l';subst this;exact {z,F,rfl}
 .rintro c st' ⟨z,F,rfl⟩;dsimp only;refine Lv (Nk (Mz (I:=λx c O=>c=(none,())/\∃z,SI a₀ z [] O/\z.length+x<=a₀.size) (Q:=λc O=>c=(none,())/\∃z,SI a₀ z [] O/\z.length<=1) ?_ ?_ {rfl,z,F,?_}) ?_)
  .rintro x c O _ _ ⟨rfl,z,F,hl⟩;refine Lv (PB ?_);have lp:(MF O).size=z.length:=F.runs.len;by_cases aL:(MF O).size<=1
   .rw [if_pos aL];exact LD {rfl,z,F,'l'}
   rw [if_neg aL]
   try dsimp only
   refine Lv (F.merge iK ?_ λa3 aT U l3 f3=>?_)
   .have g:∀(b:Bool),(if b=true then (MF O).size-2-1 else (MF O).size-2)+1<(MF O).size:=λb=>by split<;>lia
    exact g _
   .simp only [Bool.not_true,Nm,if_false];exact LD {rfl,aT,U,'l'}
  .rintro c O ⟨rfl,z,F,hl⟩;exact {rfl,z,F,'l'}
  .have:=F.runs.flat;have:=F.size;rw [NA] at this;lia
  .rintro c O ⟨rfl,z,F,hl⟩;refine LD (h _ F.perm F.failed λi j Zh hj=>?_);have:Srt (LI O).toList:=by
    rw [F.list,MS];exact F.runs.one hl
   exact this.K Zh (by rw [F.perm.size_eq];exact hj)
end
section
variable {prog:Ly}{w:LW}{A:LV}{E:Value->Lk->Prop}{s:Lk}{h₀:Heap}{L:Addr}{m:Str->Option Value}{news:List (Addr×Obj)}{a kS:Addr}{vs:List Value}{kz:List Int}{Zf:Array Value}{e e1:Nat}{P:PySem.Fin->Lk->Prop}
abbrev bJ(news:List (Addr×Obj))(a kS:Addr)(e1:Nat)(Zf:Array Value)(e:Nat):List (Addr×Obj):=news++[(kS,Ms "list" Zf e),(a,Ms "list" #[] e1)]
theorem bJ.k(N:News h₀ L h (bJ news a kS e1 Zf e)):h.get? kS=some (Ms "list" Zf e)/\kS≠L/\h₀.get? kS=none:=N (kS,Ms "list" Zf e) (LU _ (.head _))
theorem bJ.ao(N:News h₀ L h (bJ news a kS e1 Zf e)):h.get? a=some (Ms "list" #[] e1)/\a≠L/\h₀.get? a=none:=N (a,Ms "list" #[] e1) (LU _ (.tail _ (.head _)))
theorem bJ.n(N:News h₀ L h (bJ news a kS e1 Zf e)):News h₀ L h news:=λp z=>N p (MG _ z)
theorem vo{h:Heap}{a:Addr}{n:Nat}(ho:h.get? a=some (Ms c xs n))(g:Array Value->Array Value):∃z,(h.update a (Nu g)).get? a=some (Ms c (g xs) z):={_,P3 ho g}
theorem Cp(F:Fr h₀ L s.heap m)(N:News h₀ L s.heap (bJ news a kS e1 Zf e))(W:kS≠a)(U:∀p∈news,p.1≠kS)(Z:∀p∈news,p.1≠a)(z:PK Zf.toList kz)(hl:kz.length=vs.length)(hz:vs.length<3000)
  (h:∀h' tk out c,Fr h₀ L h' m->News h₀ L h' ((a,Ms "list" out c)::news)->KskOut false kz vs out.toList->P (.done (.ret .none)) { s with heap:=h',toks:=tk }):LM (LH prog w) A (ksk_end a false vs.toArray e1 (.ref kS) Zf) P E s:=by
 by_cases YF:vs.length<64
 .exact ksk_end_ F N W U Z z hl YF h
 have lk:Zf.size=vs.length:=by have:=z.length;rw [Mi] at this;lia
 have lz:(Zf.zip vs.toArray).size=vs.length:=by rw [Array.size_zip,lk,LJ,Nat.min_self]
 have h2 : ¬ vs.toArray.size<2:=by rw [LJ];lia
 unfold ksk_end;dsimp only;rw [if_neg Lz,if_neg h2,if_neg h2,ksk_kind z 'l'];refine we (Ls (we (MK (vt (a₀:=Zf.zip vs.toArray) (st:=Mf.mk' oneType' (if false=true then (Zf.zip vs.toArray).reverse else Zf.zip vs.toArray) #[] 7 none)
  (Q:=λ_ st=>(LI st).Perm (Zf.zip vs.toArray)/\ND st=none/\SortedTo (LI st) (Zf.zip vs.toArray).size) (λx hx=>ksk_intKeys z x hx) rfl rfl rfl rfl λ_ b1 b2 b3=>⟨b1,b2,b3⟩) ?_ λ_ _ e=>e)))
 rintro ⟨⟨⟩,st⟩ s ⟨rfl,G,hf,hs⟩
 replace G:(LI st).Perm (Zf.zip vs.toArray):=G
 replace hf:ND st=none:=hf
 replace hs:SortedTo (LI st) (Zf.zip vs.toArray).size:=hs
 have S:=bJ.k N;have J:=bJ.ao N;have ls:(LI st).size=vs.length:=G.size_eq.trans lz;have s1:=OA.update s.heap kS (Nu λ_=>(#[]:Array Value));have XM:=(s1.2 a W.symm).trans J.1;have s2:=OA.update (s.heap.update kS (Nu λ_=>(#[]:Array Value))) a (Nu λ_=>if false=true then ((LI st).map (·.2)).reverse else (LI st).map (·.2));obtain ⟨c2,Xq⟩:=vo XM λ_=>if false=true then ((LI st).map (·.2)).reverse else (LI st).map (·.2);unfold ksk_tail;dsimp only;refine we (NX S.1 rfl (we (wpAny_letGo (we (Pg XM rfl (we (NX XM rfl ?_ (Mu _) ?_)))))) (by rw [lk,Mr];lia) (Mu _))
 .rw [hf];simp only [bne_self_eq_false,Nm,if_false];refine Ls (h _ _ _ c2 (ksk_fr (ksk_fr F s1 S.2.1 S.2.2) s2 J.2.1 J.2.2) (λp O=>?_) (ksk_out (b:=false) z G (by rw [G.size_eq];exact hs)));rcases Lu.mp O with rfl|O
  .exact ⟨Xq,J.2⟩
  .exact ksk_news (ksk_news (bJ.n N) s1 U) s2 Z p O
 .rw [if_neg Lz,Array.size_map,ls,Mr];lia
theorem Bh{n:Nat}(F:Fr h₀ L s.heap m)(N:News h₀ L s.heap news)(ho:s.heap.get? a=some (Ms "list" vs.toArray n))(aL:a≠L)(a0:h₀.get? a=none)(na:∀p∈news,p.1≠a)(hl:kz.length=vs.length)(hz:vs.length<3000)(Yp:∀(i:Nat)(v:Value)(k:Int),vs[i]?=some v->kz[i]?=some k->∀(h:Heap)(tk:Nat)(own:List (Addr×Obj)),Fr h₀ L h m->News h₀ L h (news++own) ->
   LM (LH prog w) A (call f [v]) (KskEnd h₀ L m (news++own) k { s with heap:=h,toks:=tk }) (λ_ _=>False) { s with heap:=h,toks:=tk })(h:∀h' tk out c,Fr h₀ L h' m->News h₀ L h' ((a,Ms "list" out c)::news)->KskOut false kz vs out.toList->P (.done (.ret .none)) { s with heap:=h',toks:=tk }):LM (LH prog w) A (ksk_tree a f false) P E s:=by
 by_cases YF:vs.length<64
 .exact ksk_sort F N ho aL a0 na hl YF Yp h
 have la:=LX ho;have s1:=OA.update s.heap a (Nu λ_=>(#[]:Array Value));obtain ⟨e1,Z⟩:∃e1,(s.heap.update a (Nu λ_=>(#[]:Array Value))).get? a=some (Ms "list" #[] e1):={_,P3 ho λ_=>#[]};have F1:=ksk_fr F s1 aL a0;obtain ⟨h2,J⟩:∃h2,h2=(s.heap.update a (Nu λ_=>(#[]:Array Value))).push (Ms "tuple" vs.toArray 0):={_,rfl};have z2:h2.objs.size=s.heap.objs.size+1:=by rw [J,Qh,QW]
 have F2:Fr h₀ L h2 m:=J ▸ F1.push _;have k2:∀{b o},(s.heap.update a (Nu λ_=>(#[]:Array Value))).get? b=some o->h2.get? b=some o:=λe=>J ▸ Lm _ e;unfold ksk_tree;refine we (Q4 ho rfl (we (NX ho rfl (we (Pg Z rfl (we (Qd (we (O2 (Mn ?_) (Mu _))) (by show vs.length<=_;rw [Mr];lia))))) (by rw [LJ,Mr];lia) (Mu _))));show LM _ _ (ksk_rest a f false vs.toArray e1 (.ref ((s.heap.update a (Nu λ_=>(#[]:Array Value))).push (Ms "tuple" vs.toArray 0)).objs.size)) _ _ { s with heap:=((s.heap.update a (Nu λ_=>(#[]:Array Value))).push (Ms "tuple" vs.toArray 0)).push (Ms "list" #[] 0) };rw [<- J,z2];have ka:s.heap.objs.size+1≠a:=Ob (NW la);have nk:∀p∈news,p.1≠s.heap.objs.size+1:=λp G=>MA (NW (LX (N p G).1));have N3:News h₀ L (h2.push (Ms "list" #[] 0)) (bJ news a (s.heap.objs.size+1) e1 #[] 0):=λp G=>by
  rcases L6.mp G with G|G
  .exact {Lm _ (k2 (ksk_news N s1 na p G).1),(N p G).2}
  .rcases Lu.mp G with rfl|G
   .have hL:L<s.heap.objs.size+1:=z2 ▸ F2.ns.lt;exact {by rw [<- z2];exact LO _ rfl,Ob hL,PZ (L8 F.above (Nq hL))}
   .rw [Lw.mp G];exact {Lm _ (k2 Z),aL,a0}
 unfold ksk_rest;refine we (Ng ?_);rw [List.forIn_toArray];refine we (ksk_fold (λi s'=>∃h' tk S e,s'={ s with heap:=h',toks:=tk }/\Fr h₀ L h' m/\News h₀ L h' (bJ news a (s.heap.objs.size+1) e1 S e)/\PK S.toList (kz.take i)) vs 0 _ {_,s.toks,#[],0,rfl,F2.push _,N3,.nil} ?_ ?_)
 .rintro j x s' hx ⟨h',tk,S,e,rfl,F',N',O⟩;rw [NV] at O ⊢;have hj:=(Lp.mp hx).1;obtain ⟨k,U⟩:∃k,kz[j]?=some k:={_,KE 'l'};have lA:S.size<=3000:=by have:=O.length;rw [Mi,ME] at this;lia
  refine we (Of (MK (Yp j x k hx U h' tk _ F' N') (λv ai he=>?_) λ_ _ z=>z.elim));obtain ⟨g,ab,t2,rfl,rfl,F3,N4⟩:=he;dsimp only;have W:=bJ.k N4;have n2:=bJ.ao N4;have sg:=OA.update g (s.heap.objs.size+1) (Nu (·.push (.int k t2)));obtain ⟨c2,Xq⟩:=vo W.1 (·.push (.int k t2));refine we (NX W.1 rfl (Ls {rfl,_,_,S.push (.int k t2),c2,rfl,ksk_fr F3 sg W.2.1 W.2.2,λp G=>?_,?_}) (by rw [Mr];lia) (L8 (Qi (Array.size_push ..)) (by rw [Mr];lia)))
  .rcases L6.mp G with G|G
   .exact ksk_news (bJ.n N4) sg nk p G
   .rcases Lu.mp G with rfl|G
    .exact ⟨Xq,W.2⟩
    .rw [Lw.mp G];exact {(sg.2 a ka.symm).trans n2.1,n2.2}
  .rw [PP,MP,U];exact ksk_snoc O
 .rintro s' ⟨h',tk,S,e,rfl,F',N',O⟩;rw [NV,L5 'l'] at O;exact we (Q4 (bJ.k N').1 rfl (Cp F' N' ka nk na O hl hz h))
theorem key_sorted(F:Fr h₀ L s.heap m)(N:News h₀ L s.heap news)(hl:s.heap.IsList l vs.toArray)(hk:kz.length=vs.length)(hz:vs.length<3000)(Xm:argsOk "sorted" {[.ref l],J})(O:∀x,argsOk "list.sort" {[.ref x],J})(ht:∀x,LQ.«list.sort» {[.ref x],J}=ksk_tree x f false)(Yp:∀(i:Nat)(v:Value)(k:Int),vs[i]?=some v->kz[i]?=some k->∀(h:Heap)(tk:Nat)(own:List (Addr×Obj)),Fr h₀ L h m->News h₀ L h (news++own) ->
   LM (LH prog w) A.in1.in1 (call f [v]) (KskEnd h₀ L m (news++own) k { s with heap:=h,toks:=tk }) (λ_ _=>False) { s with heap:=h,toks:=tk })(h:∀D h' tk out c,Fr h₀ L h' m->News h₀ L h' ((D,Ms "list" out c)::news)->(∀q∈news,q.1<D)->KskOut false kz vs out.toList->Q (.ref D) { s with heap:=h',toks:=tk }):
  LM (LH prog w) A (call (.builtin "sorted") [.ref l] J) Q E s:=by
 obtain ⟨h1,z⟩:∃h1,h1=(s.heap.push (Ms "list" #[] 0)).update s.heap.objs.size (Nu (·++vs.toArray)):={_,rfl};have S:h1.objs.size=s.heap.objs.size+1:=by rw [z,QW,Qh]
 have keep:∀b o,s.heap.get? b=some o->(h1.push (Ms "list" vs.toArray 0)).get? b=some o:=λb o q=>by
  refine Lm _ ?_;rw [z,P6 _ _ _ _ (MA (LX q))];exact Lm _ q
 have G:(h1.push (Ms "list" vs.toArray 0)).get? (s.heap.objs.size+1)=some (Ms "list" vs.toArray 0):=by rw [<- S];exact LO _ rfl
 have U:L<s.heap.objs.size:=F.ns.lt;refine call_function_entry_kw kind_sorted plain_sorted entry_sorted Xm ?_;unfold LQ.«sorted»
 refine we (m:=checkCount "sorted" 1 1 _) (Ls (we (collect_list hl ?_ (by rw [Mr];lia))));rw [<- z];refine we (O2 ?_ (by rw [Mr];lia));show LM _ _ _ _ _ { s with heap:=h1.push (Ms "list" vs.toArray 0) };rw [S];refine we (Mn (wpAny_call_entry_kw slot_list_sort {_,G,rfl} entry_list_sort ?_ (O _)));show LM (LH prog w) A.in1.in1 (LQ.«list.sort» {[.ref (s.heap.objs.size+1)],J}) _ _ _
 rw [ht];refine Bh (s:={ s with heap:=h1.push (Ms "list" vs.toArray 0) }) (F.kept keep) (N.grown keep) G (Ob (NW U)) (PZ (L8 F.above (Po (Nq U))))
  (λp hp=>MA (NW (LX (N p hp).1))) hk hz Yp λh' tk out c Z N' k'=>{_,rfl,?_}
 exact Ls {_,rfl,h _ h' tk out c Z N' (λq W=>NW (LX (N q W).1)) k'}
end
section
variable {prog:Ly}{w:LW}{A:LV}{E:Value->Lk->Prop}{s:Lk}
theorem sort_any{n:Nat}(ho:s.heap.get? a=some (Ms "list" vs.toArray n))(S:PK vs ns)(hz:vs.length<3000)(h:∀(out:Array Value)(F:List Int),PK out.toList F->F.Perm ns->F.Pairwise (·<=·)->P (.done (.ret .none)) { s with heap:=sortedHeap s.heap a vs out }):
  LM (LH prog w) A (LQ.«list.sort» {[.ref a],[]}) P E s:=by
 by_cases G:vs.length<64
 .exact list_sort_tree ho S G h
 match vs,G with
 | [],G=>exact absurd (show 0<64 by lia) G
 | [_],G=>exact absurd (show 1<64 by lia) G
 | v₁::z::ZZ,G =>
 have hs : ¬ (v₁::z::ZZ).toArray.size<2:=by simp
 have hL:∀{k:Nat},k=(v₁::z::ZZ).length->k<=sizeLine+1:=λe=>by rw [e,Mr];lia
 have W:(v₁::z::ZZ).length<=sizeLine:=by rw [Mr];lia
 rw [list_sort_plain];obtain ⟨e1,J⟩:∃e1,(s.heap.update a (Nu λ_=>#[])).get? a=some (Ms "list" #[] e1):={_,P3 ho (λ_=>#[])};refine we (Q4 ho rfl (we (NX ho rfl (we (Pg J rfl (we (Qd (we (O2 (Mn ?_)))  W)))) (by rw [LJ,Mr];lia))));have ha:a<s.heap.objs.size:=LX ho;have O:(((s.heap.update a (Nu λ_=>#[])).push (Ms "tuple" (v₁::z::ZZ).toArray 0)).push (Ms "list" #[] 0)).get? a=some (Ms "list" #[] e1):=Lm _ (Lm _ J);show LM (LH prog w) A _ P E { s with heap:=((s.heap.update a (Nu λ_=>#[])).push (Ms "tuple" (v₁::z::ZZ).toArray 0)).push (Ms "list" #[] 0) };dsimp only;rw [if_neg hs,if_neg hs,keyKind_ints S];refine we (Ls (we (MK (vt (a₀:=pairsOf (v₁::z::ZZ)) (st:=Mf.mk' oneType' ((v₁::z::ZZ).toArray.zip (v₁::z::ZZ).toArray) #[] 7 none)
   (Q:=λ_ st'=>(LI st').Perm (pairsOf (v₁::z::ZZ))/\ND st'=none/\SortedTo (LI st') (pairsOf (v₁::z::ZZ)).size) ?_ rfl rfl rfl rfl λ_ a1 Z a3=>⟨a1,Z,a3⟩) ?_ λ_ _ e=>e)))
 .intro x hx;exact S.intKeys x hx
 .rintro ⟨⟨⟩,st'⟩ s' ⟨rfl,U,hf,hs⟩;dsimp only;refine we (Pg O rfl (we (NX O rfl ?_ (hsz2:=hL ((Array.size_map ..).trans (U.size_eq.trans (pairsOf_size _)))))));rw [hf];simp only [bne_self_eq_false,Nm,if_false];obtain ⟨F,h1,h2,h3⟩:=sorted_out S U hs;exact Ls (h _ F h1 h2 h3)
end
end Ts
namespace L2
open PySem PySem.Spec PyProof.Rows
section
variable {M:Model}{A:LV}{E:Value->Lk->Prop}{s:Lk}
theorem C3{pos:Pos}{id:String}(G:args.any (·.1)=false)(z:F.any (·.1.isNone)=false)(h:LM M A (evalArgs (.builtin id) true args F) (λa s1=>LM M A (call (.builtin id) a.pos a.kw) Q E s1) E s):LM M A (OS pos (.builtin id) [] args F) Q E s:=by
 unfold OS;refine we (Mn (MK h (λa s1 h1=>we (Oe ?_)) λ_ _ x=>x));simp only [G,z,O4];exact we (Ls (we (MK h1 (λr s2 hr=>we (Mn (wpAny_point (Ls hr)))) λ_ _ x=>x)))
end
theorem J1{a r:Addr}{k:Int}{t:Tok}(J:env.scope.kind = .function)(hl:env.kindOf x=some .local)(W:s.heap.Ns env.locals m)(hm:m x=some (.ref a))(ha:QV s.heap a its)(z:its[0]?=some (.ref r))(hr:QV s.heap r ks)(h1:ks[1]?=some (.int k t))(hd:(x==("__debug__":Str))=false)(q:∀tk,Q (.int k t) { s with toks:=tk }):LM (LH prog w) A (MQ (.Subscript (.Subscript (.Name x F) (.Constant (.int 0) Z p2) O) (.Constant (.int 1) G p4) U) env) Q E s:=by
 refine Re (Re (wpAny_Name (PN J hl W hm ?_) hd));refine Qe ?_;have S:0<its.size:=(My.mp z).1;have s1:1<ks.size:=(My.mp h1).1;refine Ov (x:=.ref r) (T:="tuple") ha.typeIs Qf.lookup (getItem_tuple (j:=0) ha 'd' 'd' (by simp [QI,S]) z {rfl,?_});refine Qe ?_;exact Ov (x:=.int k t) (T:="tuple") hr.typeIs Qf.lookup (getItem_tuple (j:=1) hr 'd' 'd' (by simp [QI];lia) h1 {rfl,q _})
def cN(pos:Pos)(qual:Str)(H:Hp)(P:Addr):Prop :=
 H P=some (.tbl #[])\/∃c' oc vs t,H P=some (.tbl #[MX pos.line,MX pos.col,.ref c'])/\H c'=some (.frz oc (.own 0))/\oc.data = .fields vs/\vs[1]?=some (.str qual t)
structure iz(mg:Str->Option Value)(base:Heap)(ZY:Value)(P:Addr):Prop where
 cd:∃c,ZY = .ref c/\PySem.W.CodeHd base c P
 bt:∃bm o,mg "__builtins__"=some (.ref bm)/\bm≠Pc/\bm≠LG/\base.get? bm=some o/\o.cls = .type "module"/\o.dict=some Pc/\o.data = .plain
def i5(H H':Hp)(P:Addr):Prop:=∀a o,a≠P->H a=some o->H' a=some o
theorem A8{pos:Pos}(LB:iz X.mg X.base X.env.code P)(Ws:defaultsOf ZP X.env=([],[]))(a3:Qm scope X.env=pure [])(I:Inv X Go σ H s)(hT:cN pos (X.env.qual++"<lambda>") H P)(h:∀(f c':Addr)(F:Value)(h':Heap)(tk:Nat)(H':Hp),f+1=h'.objs.size->s.heap.objs.size<=f->h'.CodeRec (.ref c') (X.env.qual++"<lambda>") ->
   h'.get? f=some (kla_obj "<lambda>" (X.env.qual++"<lambda>") ZP Zu scope [] ((X.mg "__name__").getD .none) c' F)->cN pos (X.env.qual++"<lambda>") H' P->i5 H H' P->Inv X Go σ H' { s with heap:=h',toks:=tk }->Q (.ref f) { s with heap:=h',toks:=tk }):
  LM (LH X.prog X.w) X.A (MQ (.Lambda ZP Zu scope pos) X.env) Q E s:=by
 refine PySem.W.kla_eval Ws ?_;obtain ⟨c,hc,C⟩:=LB.cd;obtain ⟨bm,ob,b1,b2,b3,b4,b5,b6,b7⟩:=LB.bt;obtain ⟨og,a9,a8,eg,a7⟩:=id I.ok.mod.glob;have a0:s.heap.Ns LG X.mg:=I.ok.mod.glob.keeps I.bk;have U:∀{b:Addr}{o:Obj}{u:HO},X.base.get? b=some o->H P=some u->b≠P:=λe G z=>by
  have:=(I.bs _ _ e).2;rw [z,G] at this;cases this
 rcases hT with G|⟨c',oc,vs,t,G,XU,hd,hv⟩
 .have O:s.heap.get? P=some (tabObj #[]):=I.hok P _ G;refine PySem.W.kla_makeFunction (mg:=X.mg) a3 I.ok.glob a0 hc (C.keeps I.bk) O trivial rfl (U eg G) {bm,ob,b1,b2,b3,U b4 G,I.bk _ _ b4,b5,b6,b7} λc' F h' tk hx Zg ZO aL av=>?_;obtain ⟨a6,oc,vs,t,e2,S,hd,hv⟩:=aL;cases e2;have a5:P<s.heap.objs.size:=LX O;have cP:c'≠P:=λz=>by rw [z] at Zg;exact absurd a5 (Pd.mpr Zg)
  have Z:∀{b:Addr}{u:HO},H b=some u->b≠c':=λe z=>by
   have:=I.hok.lt e;rw [z] at this;exact absurd this (Pd.mpr Zg)
  have aT:∀{b:Addr}{u:Obj},s.heap.get? b=some u->b≠c':=λe z=>by
   have:=LX e;rw [z] at this;exact absurd this (Pd.mpr Zg)
  have kp:∀b o,b≠P->s.heap.get? b=some o->(h'.push (kla_obj "<lambda>" (X.env.qual++"<lambda>") ZP Zu scope [] ((X.mg "__name__").getD .none) c' F)).get? b=some o:=λb o n e=>Lm _ (hx b o n e)
  let H':Hp:=upd (upd H P (.tbl #[MX pos.line,MX pos.col,.ref c'])) c' (.frz oc (.own 0))
  have J:∀b,b≠P->b≠c'->H' b=H b:=λb n1 n2=>by show upd _ c' _ b=H b;rw [zd n2,zd n1]
  have ab:H' P=some (.tbl #[MX pos.line,MX pos.col,.ref c']):=by show upd _ c' _ P=_;rw [zd (L9 cP),zx]
  have ai:H' c'=some (.frz oc (.own 0)):=zx;have nP:∀b,H b=none->b≠P:=λb e z=>by rw [z,G] at e;cases e
  have ext:∀b u,H b=some u->(∀ps,u≠.tbl ps)->H' b=some u:=λb u e n=>by rw [J b (λz=>by rw [z,G] at e;cases e;exact n _ rfl) (Z e)];exact e
  have un:Un X.fs [] H H' s.heap (h'.push (kla_obj "<lambda>" (X.env.qual++"<lambda>") ZP Zu scope [] ((X.mg "__name__").getD .none) c' F)):=by
   refine {λb o e n _ _=>kp b o (nP b n) e,λb o e n _ _=>{o.slots,kp b o (nP b n) e},λb o e n _=>by rw [J b (nP b n) (aT e)];exact n,λb o e _=>?_,λb xs e=>ext b _ e λ_=>nofun,λb o u e=>ext b _ e λ_=>nofun,λb ps e=>?_}
   .by_cases z:b=P
    .exact {_,by rw [z];exact Lm _ av}
    .exact {o,kp b o z e}
   .by_cases z:b=P
    .rw [z,G] at e;cases e;exact {#[MX pos.line,MX pos.col,.ref c'],by rw [z,ab];simp}
    .exact {#[],by rw [J b z (Z e),e];simp}
  have hok:HOk X.prog X.w H' (h'.push (kla_obj "<lambda>" (X.env.qual++"<lambda>") ZP Zu scope [] ((X.mg "__name__").getD .none) c' F)):=λa o e=>by
   by_cases z1:a=c'
   .rw [z1,ai] at e;cases e;rw [z1];exact {Lm _ S,{_,Lm _ S}}
   .by_cases z2:a=P
    .rw [z2,ab] at e;cases e;rw [z2];show Heap.get? _ P=_;exact Lm _ av
    .rw [J a z2 z1] at e;refine (I.hok a o e).stay (λb u hb q=>kp b u ?_ q) (λb q=>ext b _ q λ_=>nofun) λb xs q=>ext b _ q λ_=>nofun;rcases hb with rfl|hb
     .exact z2
     .intro z;rw [z,G] at hb;cases hb
  refine h h'.objs.size c' F _ tk H' (by rw [Qh]) (Nq (MY Zg ZO)) {c',oc,vs,t,rfl,Lm _ S,hd,hv} (LO _ rfl) (.inr ⟨c',oc,vs,t,ab,ai,hd,hv⟩) (λa o n e=>by rw [J a n (Z e)];exact e) (I.un un hok)
 .have O:s.heap.get? P=some (tabObj #[MX pos.line,MX pos.col,.ref c']):=I.hok P _ G;have a4:s.heap.get? c'=some oc:=(I.hok c' _ XU).1;refine PySem.W.kla_makeFunctionHit (mg:=X.mg) (cv:=.ref c') a3 I.ok.glob a0 hc (C.keeps I.bk) O ?_ ?_ {bm,ob,b1,b2,b3,U b4 G,I.bk _ _ b4,b5,b6,b7} λF h' tk hk hsz=>?_
  .exact trivial
  .simp [codeAmong,MX]
  .exact h h'.objs.size c' F _ tk H (by rw [Qh]) hsz {c',oc,vs,t,rfl,Lm _ (hk _ _ a4),hd,hv} (LO _ rfl) (.inr ⟨c',oc,vs,t,G,XU,hd,hv⟩) (λ_ _ _ e=>e) (I.kept λb o e=>Lm _ (hk b o e))
def nq(H:Hp)(a:Addr)(k:Int):Prop:=∃r ZZ y ys,H a=some (.tup (.ref r::ZZ))/\H r=some (.tup (y::.int k::ys))
def fg(P:Addr)(pos:Pos)(qual:Str)(v:V)(H1:Hp)(Q:VK):Prop:=uR v λl=>∃(as:List Addr)(ks:List Int),H1 l=some (.lst (as.map V.ref))/\cN pos qual H1 P/\as.length<3000/\Paired (nq H1) as ks /\
 ∀(D:Addr)(zs:List (Int×Addr))(H2:Hp),i5 H1 H2 P->cN pos qual H2 P->H1 D=none->D≠P->D≠sysModules->H2 D=some (.lst (zs.map λz=>V.ref z.2))->zs.Perm (ks.zip as)->zs.Pairwise (λp q=>p.1<=q.1)->Q (.ref D) H2
def qT(P:Addr)(pos:Pos)(qual:Str)(ta:TE):TE:=λσ H Q=>ta σ H λv H1=>fg P pos qual v H1 Q
theorem A7{pos:Pos}:qT P pos qual ta σ H Q=ta σ H λv H1=>fg P pos qual v H1 Q:=rfl
theorem Ju{pos:Pos}:fg P pos qual (.ref l) H1 Q = ∃(as:List Addr)(ks:List Int),H1 l=some (.lst (as.map V.ref))/\cN pos qual H1 P/\as.length<3000/\Paired (nq H1) as ks /\
 ∀(D:Addr)(zs:List (Int×Addr))(H2:Hp),i5 H1 H2 P->cN pos qual H2 P->H1 D=none->D≠P->D≠sysModules->H2 D=some (.lst (zs.map λz=>V.ref z.2))->zs.Perm (ks.zip as)->zs.Pairwise (λp q=>p.1<=q.1)->Q (.ref D) H2:=v8
theorem xU{as:List Addr}(h:zm (as.map V.ref) its):its=as.map Lx:=by
 induction as generalizing its with
 | nil=>cases h;rfl
 | cons a as F =>
  cases h with
  | cons r z=>rw [F z,show _=Lx a from r];rfl
theorem um(as:List Addr):zm (as.map V.ref) (as.map Lx):=by
 induction as with
 | nil=>exact .nil
 | cons a as z=>exact .cons rfl z
theorem CS(h:ps.Perm (l.map λz=>(z.1,Lx z.2))):∃zs:List (Int×Addr),zs.Perm l/\ps=zs.map λz=>(z.1,Lx z.2):=by
 let g:Int×Value->Int×Addr:=λp=>(p.1,match p.2 with | .ref a=>a|_=>0)
 have e1:(l.map λz=>(z.1,Lx z.2)).map g=l:=by
  rw [Mv];have:(g∘λz:Int×Addr=>(z.1,Lx z.2))=id:=rfl;rw [this,List.map_id]
 refine {ps.map g,by have:=h.map g;rw [e1] at this;exact this,?_};rw [Mv];have:∀p∈ps,((λz:Int×Addr=>(z.1,Lx z.2))∘g) p=p:=λp F=>by
  obtain ⟨z,_,rfl⟩:=Ow.mp (h.mem_iff.mp F);rfl
 exact (List.map_id ps).symm.trans (NZ λp F=>(this p F).symm)
theorem tF:∀(ks:List Int)(as:List Addr),ks.zip (as.map Lx)=(ks.zip as).map λz=>(z.1,Lx z.2)
 | [],_=>rfl
 | _::_,[]=>rfl
 | k::ks,a::as=>by rw [MD,Pz,Pz,MD,tF ks as]
theorem aX{α β:Type}{R:α->β->Prop}:∀{l:List α}{m:List β},Paired R l m->∀{i:Nat}{a:α}{b:β},l[i]?=some a->m[i]?=some b->R a b
 | _,_,.nil,i,a,b,h,_=>by simp at h
 | _,_,.cons r t,0,a,b,h,h'=>by
  simp at h h';subst h h';exact r
 | _,_,.cons r t,i+1,a,b,h,h'=>aX t (by simpa using h) (by simpa using h')
theorem aN{α β:Type}{R:α->β->Prop}{l:List α}{m:List β}(h:Paired R l m):l.length=m.length:=Paired.length h
theorem Ca{k:Nat}{p pos XQ kp p1 p2 p3 p4 p5:Pos}(LB:iz X.mg X.base X.env.code P)(hr:zB cm k X.A)(hg:Gl X "sorted")(hm:X.mg "sorted"=none)(ha:PE X a ta)(Ws:defaultsOf ZP X.env=([],[]))(b5:Qm scope X.env=pure [])(Xz:∀(q:Str)(pm cd ct v:Value),bindArgs (kla_fn "<lambda>" q ZP (.Subscript (.Subscript (.Name x p1) (.Constant (.int 0) j1 p2) p3) (.Constant (.int 1) j2 p4) p5) scope [] pm cd ct) {[v],[]}=pure [(x,v)])(Wr:scope.names=[(x,.local)])(XZ:scope.kind = .function)(a9:scope.isCoroutine=false)(a6:scope.isGenerator=false)(hp:ak a=true:=by rfl)(Y8:(x==("__debug__":Str))=false:=by decide):
  PE X (.Call (.Name "sorted" p) [a] [{some (Lo "key"),.Lambda ZP (.Subscript (.Subscript (.Name x p1) (.Constant (.int 0) j1 p2) p3) (.Constant (.int 1) j2 p4) p5) scope XQ,kp}] pos) (qT P XQ (X.env.qual++"<lambda>") ta):=by
 intro Go s σ H Q I h;have hs:Mb [a] X.env=[(false,MQ a X.env)]:=c8 hp;have hA:=eI ha d0 (hs:=hs) pos Go s σ H (λys H1=>∃y,ys=[y]/\fg P XQ (X.env.qual++"<lambda>") y H1 Q) I (by
  show ta σ H λx H1=>∃y,[x]=[y]/\fg P XQ (X.env.qual++"<lambda>") y H1 Q;have e:(λ(x:V)(H1:Hp)=>∃y,[x]=[y]/\fg P XQ (X.env.qual++"<lambda>") y H1 Q)=λv H1=>fg P XQ (X.env.qual++"<lambda>") v H1 Q:=by
   funext x H1;apply propext;constructor
   .rintro ⟨y,e,h⟩;cases e;exact h
   .exact λh=>{x,rfl,h}
  rw [e];exact h)
 refine Nr (d8 I hg hm boot_sorted (C3 (by rw [hs];rfl) rfl ?_));rw [hs] at hA ⊢;refine evalArgs_kwB rfl (thn hA λus s1=>x5e λvs H1 I1 r1 q1=>kws_cons ?_);obtain ⟨y,rfl,l,rfl,as,ks,hl,hT,YF,hK,q⟩:=q1
 .cases r1 with
  | cons r rr =>
   cases rr;cases r;refine A8 LB Ws b5 I1 hT λf c' b0 h2 tk H2 hsz Zg X7 hf aT hL J=>kws_nil ?_;have bp:l≠P:=λz=>by
    rcases hT with G|⟨_,_,_,_,G,_⟩ <;> · rw [z,G] at hl;cases hl
   have X5:=hL _ _ bp hl;obtain ⟨its,rv,⟨o,n,e1,e2,e3,e4⟩,hz⟩:=J.list (SqL.of X5);have a7:=xU rv;subst a7;obtain ⟨m,F⟩:=J.fr;have b1:=aN hK;have Xi:∀b o,h2.get? b=some o->b≠X.env.locals->X.base.get? b=none->(b,o)∈fu X.base h2 X.env.locals:=λb o e n1 n2=>Dg n1 n2 e;refine Ts.key_sorted (kz:=ks) (f:=.ref f) (h₀:=X.base) (L:=X.env.locals) (news:=fu X.base h2 X.env.locals) F Af (vs:=as.map Lx) (l:=l) ⟨o,e1,e2,n,e4⟩ (by rw [Ln];exact b1.symm) (by rw [Ln];exact YF) (PyProof.Rows.ksk_s1 _ _) (λx=>PyProof.Rows.ksk_l1 _ _) (λx=>PyProof.Rows.ksk_t1 _ _) (λi v k' hv W1 h3 a4 own U N3=>?_) λD h3 a4 out c U N3 lt ko=>?_
   .have Z:∀b o,b≠X.env.locals->h2.get? b=some o->h3.get? b=some o:=λb o n e=>by
     cases S:X.base.get? b with
     | some u =>
      have:=F.keep b u S;rw [show h2.get? b=some u from this] at e;cases e;exact U.keep b _ S
     | none=>exact (N3 (b,o) (MG _ (Xi b o e n S))).1
    rw [LP] at hv;obtain ⟨ai,b2,rfl⟩:=Me.mp hv;obtain ⟨r,ZZ,y,ys,k1,k2⟩:=aX hK b2 W1;have tt:∀{b xs},H1 b=some (.tup xs)->∃its,zm xs its/\QV h3 b its.toArray:=λ{b xs} e=>by
     have bP:b≠P:=λz=>by
      rcases hT with G|⟨_,_,_,_,G,_⟩ <;> · rw [z,G] at e;cases e
     have e2:=hL _ _ bP e;obtain ⟨_,its,rv,ob,g1,g2⟩:=J.hok b _ e2;have bL:b≠X.env.locals:=λz=>by rw [z,J.free] at e2;cases e2
     exact {its,rv,ob,Z _ _ bL g1,g2}
    obtain ⟨b8,WC,t1⟩:=tt k1;obtain ⟨b6,b3,t2⟩:=tt k2;cases WC with
    | cons ra _ =>
    cases ra;cases b3 with
    | cons rb rc =>
    cases rc with
    | cons rd _ =>
    obtain ⟨a0,rfl⟩:=rd;have fL:f≠X.env.locals:=λz=>by
     have:=I1.lt;rw [<- z] at this;exact absurd this (Pd.mpr Zg)
    have b4:=Z _ _ fL hf;have av:h3.CodeRec (.ref c') (X.env.qual++"<lambda>"):=by
     obtain ⟨c2,oc,vs,t,e,g1,g2,g3⟩:=X7;refine {c2,oc,vs,t,e,Z _ _ (λz=>?_) g1,g2,g3};obtain ⟨m',⟨ol,es,ep,el,a5,_⟩,_⟩:=id J.loc;rw [z] at g1;rw [show h2.get? X.env.locals=some ol from el] at g1;cases g1;rw [g2] at a5;cases a5
    refine QY (PySem.W.kla_callFunE (by show X.A.depth<recursionLimit;exact hr.depth) b4 rfl a9 a6 rfl av ?_);rw [Xz];refine Ls (wpAny_newFunctionEnv (λy hy=>?_) (λy hy=>?_) (λh4 bc a8=>?_) XZ)
    .rw [Wr,Lw] at hy;rw [hy];nofun
    .rw [Lw] at hy;rw [hy];show scope.names.lookup x=_;rw [Wr];simp [Od]
    .have k4:∀b o,h3.get? b=some o->h4.get? b=some o:=λb o e=>a8.extBut b o (MA (LX e)) (Lm _ e);refine {(I.ok.mod.nolimit.keeps U.keep).keeps k4,PySem.W.kla_codeExpr ?_};refine J1 (m:=λy=>([(x,Lx ai)]:List (Str×Value)).reverse.lookup y) (a:=ai) (r:=r) (k:=k') (t:=a0) XZ ?_ bc (by simp [Od]) (its:=(Lx r::_).toArray) {t1.choose,k4 _ _ t1.choose_spec.1,t1.choose_spec.2} 's' (ks:=(_::N6 k' a0::_).toArray) {t2.choose,k4 _ _ t2.choose_spec.1,t2.choose_spec.2} 's' Y8 λb7=>?_
     .show scope.names.lookup x=_;rw [Wr];simp [Od]
     .exact PyProof.Rows.KskEnd.intro (news':=fu X.base h2 X.env.locals++own) {U.ns.keeps k4,λb o e=>k4 _ _ (U.keep b o e),U.above} (λp hp=>{k4 _ _ (N3 p hp).1,(N3 p hp).2}) λ_ h=>h
   .obtain ⟨ps,aL,bt,ba⟩:=ko;rw [tF] at aL;obtain ⟨zs,W9,rfl⟩:=CS aL;have fm:(f,kla_obj "<lambda>" (X.env.qual++"<lambda>") ZP (.Subscript (.Subscript (.Name x p1) (.Constant (.int 0) j1 p2) p3) (.Constant (.int 1) j2 p4) p5) scope [] ((X.mg "__name__").getD .none) c' b0)∈fu X.base h2 X.env.locals:=Xi _ _ hf (λz=>by
     have:=I1.lt;rw [<- z] at this;exact absurd this (Pd.mpr Zg)) (by
     cases S:X.base.get? f with
     | none=>rfl
     | some u =>
      have:=LX (I1.bk _ _ S);exact absurd this (Pd.mpr Zg))
    have ab:h2.objs.size<=D:=by have:=lt _ fm;rw [<- hsz];exact this
    have D2:H2 D=none:=J.hok.fresh ab;have DP:D≠P:=λz=>by
     rcases aT with G|⟨_,_,_,_,G,_⟩ <;> · rw [z,G] at D2;cases D2
    have D1:H1 D=none:=by
     cases qd:H1 D with
     | none=>rfl
     | some u=>rw [hL _ _ DP qd] at D2;cases D2
    have eo:out=((zs.map (·.2)).map Lx).toArray:=by
     apply Array.toList_inj.mp;rw [bt];simp
    have lz:zs.length<=as.length:=by rw [W9.length_eq,List.length_zip];lia
    have Z:∀b o,b≠X.env.locals->h2.get? b=some o->h3.get? b=some o:=λb o hb e=>by
     cases S:X.base.get? b with
     | some u =>
      have:=F.keep b u S;rw [show h2.get? b=some u from this] at e;cases e;exact U.keep b _ S
     | none=>exact (N3 (b,o) (LA _ (Xi b o e hb S))).1
    have O:∀{b:Addr}{u:HO},H2 b=some u->b≠D:=λe z=>by rw [z,D2] at e;cases e
    have a3:∀{b:Addr}{u:HO},H2 b=some u->b≠X.env.locals:=λe z=>by rw [z,J.free] at e;cases e
    have hm:(zs.map λz:Int×Addr=>V.ref z.2)=(zs.map (·.2)).map V.ref:=by rw [Mv];rfl
    have new:aa X.prog X.w (upd H2 D (.lst (zs.map λz:Int×Addr=>V.ref z.2))) h3 D (.lst (zs.map λz:Int×Addr=>V.ref z.2)):={by rw [Ln,Mr];lia,(zs.map (·.2)).map Lx,c,by rw [hm];exact um _,by rw [<- eo];exact (N3 _ (LN ..)).1};refine {.ref D,upd H2 D (.lst (zs.map λz:Int×Addr=>V.ref z.2)),?_,rfl,q D zs _ (λb u n e=>by rw [zd (λz=>by rw [z,D1] at e;cases e)];exact hL _ _ n e) ?_ D1 DP (Ob (LZ J.big ab)) zx W9 ?_}
    .refine J.step (h':=h3) (g':=s1.gens) (d':=s1.drawn) (t':=a4) (ch:=[]) (λ_ z=>nomatch z) (λb o n _ _ e _=>Z b o n e) (λb o n _ _ e _=>{o.slots,Z b o n e}) (λb o _ e n=>?_) (λb o _ e=>?_) (λb xs e=>by rw [zd (O e)];exact e) (λb o u e=>by rw [zd (O e)];exact e) (λb ps e=>{#[],by rw [zd (O e),e];simp}) (λm' bq=>?_) (λb u e=>?_) J.bare
     .rw [zd (λz=>?_)]
      .exact n
      .have:=LX e;rw [z] at this;exact absurd this (Pd.mpr ab)
     .by_cases hb:b=X.env.locals
      .obtain ⟨o1,_,_,g1,_⟩:=U.ns;exact {o1,by rw [hb];exact g1}
      .exact {o,Z b o hb e}
     .have e1:=bq.eq_nsMap;have e2:=F.ns.eq_nsMap;have:m'=m:=e1.trans e2.symm;rw [this];exact U.ns
     .by_cases z:b=D
      .rw [z,zx] at e;cases e;rw [z];exact new
      .rw [zd z] at e;refine (J.hok b u e).stay (λc v hc q=>Z c v ?_ q) (λc q=>by rw [zd (O q)];exact q) λc xs q=>by rw [zd (O q)];exact q
       rcases hc with rfl|hc
       .exact a3 e
       .exact a3 hc
    .rcases aT with G|⟨c1,oc,vs,t,G,hc,hr⟩
     .exact .inl (by rw [zd (L9 DP)];exact G)
     .exact .inr {c1,oc,vs,t,by rw [zd (L9 DP)];exact G,by rw [zd (λz=>by rw [<- z,hc] at D2;cases D2)];exact hc,hr}
    .have:=Q1.mp ba;exact this.imp λh=>by simpa using h
def fE(mg:Str->Option Value)(base:Heap):Prop:=∃bm o,mg "__builtins__"=some (.ref bm)/\bm≠Pc/\bm≠LG/\base.get? bm=some o/\o.cls = .type "module"/\o.dict=some Pc/\o.data = .plain
theorem IW{K:Lq}{k:Nat}{ts:List Addr}(Z:∀T∈ts,s₁.heap.get? T=some (tabObj #[]))(hC:∀T∈ts,K.lookup T=none/\∃c,codeHdIn K c T=true)(a4:fE mg s₁.heap)(KX:K.In s₁.heap)(av:s₁.heap.Ns LG mg)(hb:s₁.heap.Ns Pc mb)(a5:∀x:Str,x≠"__name__"->mb x=Oz x)(a0:s₁.heap.NoLimit)(hg:s₁.gens = #[])(ha:s₁.heap.get? a=some { cls:=.type "list",data:=.seq vs.toArray })(hi:PK vs ns)(hl:ns.length<=sizeLine)(hr:zB true k callerA)(F:∀base:Heap,K.In base->base.Ns LG mg->fE mg base->zp P w K mg base CX true k fa fd [x] sp)(Xz:∀(s:Lk)(u:Value),BindsTo s fd {[u],[]} [(x,u)])(XG:∀H:Hp,(∀T∈ts,H T=some (.tbl #[]))->SqL K H a (ns.map V.int)->sp [.ref a] H (λv _=>v = .bl true) λ_ _ _=>False)(a6:∀H e s',CX [] H s₁ (λ_ _ _=>False) e s'->False):
  PF (LH P w) callerA (.call (.ref fa) {[.ref a],[]}) (λr s'=>r = .ok (.ret (.bool true))/\OldK s₁.heap s'.heap/\s'.os=s₁.os/\OK s'.gens) s₁:=by
 have rv:=sP hi;have a3:=hi.length;have aT:a∉ts:=λh=>by have:=Z a h;rw [ha] at this;cases this
 have XB:∀H:Hp,(∀b,H b=none\/(∃o xs,H b=some (.frz o (.lst xs)))\/(b∈ts/\H b=some (.tbl #[])))->(∀T∈ts,H T=some (.tbl #[]))->SqL K H a (ns.map V.int)->HOk P w H s₁.heap->(∀b,H b≠none->b=a\/b∈ts)->(H a≠none->K.lookup a=none) ->
   PF (LH P w) callerA (.call (.ref fa) {[.ref a],[]}) (λr s'=>r = .ok (.ret (.bool true))/\OldK s₁.heap s'.heap/\s'.os=s₁.os/\OK s'.gens) s₁:=by
  intro H hO aL hS hok hA hK;have G:∀{b:Addr}{o:Obj},s₁.heap.get? b=some o->H b=none->(dM s₁.heap H).get? b=some o:=λe n=>Gf e n;have ai:∀{b:Addr}{o:Obj},s₁.heap.get? b=some o->(∀xs n,o.data≠.seq xs n)->(∀ps,o.data≠.fields ps)->H b=none:=λ{b o} e d1 d2=>by
   cases q:H b with
   | none=>rfl
   | some u =>
    rcases hA b (by rw [q];simp) with e'|e'
    .subst e';rw [ha] at e;cases e;exact absurd rfl (d1 _ _)
    .rw [Z b e'] at e;cases e;exact absurd rfl (d2 _)
  have O:∀{b:Addr}{m:Str->Option Value},s₁.heap.Ns b m->(dM s₁.heap H).Ns b m:=λ{b m} ⟨o,es,ep,e,d,r⟩=>{o,es,ep,G e (ai e (λ_ _=>by rw [d];nofun) (λ_=>by rw [d];nofun)),d,r};have ab:K.In (dM s₁.heap H):=λb o e=>G (KX b o e) (by
   cases q:H b with
   | none=>rfl
   | some u =>
    rcases hA b (by rw [q];simp) with e'|e'
    .subst e';rw [hK (by rw [q];simp)] at e;cases e
    .rw [(hC b e').1] at e;cases e)
  have hM:Mod K mg (dM s₁.heap H):={ab,O av,{mb,O hb,a5},let ⟨mc,h1,h2⟩:=a0;{mc,O h1,h2}};have hB:fE mg (dM s₁.heap H):=let ⟨bm,o,b1,b2,b3,b4,b5,b6,b7⟩:=a4;{bm,o,b1,b2,b3,G b4 (ai b4 (λ_ _=>by rw [b7];nofun) (λ_=>by rw [b7];nofun)),b5,b6,b7};have e0:fN P w K mg (dM s₁.heap H) callerA [] s₁ H:={rfl,.inl rfl,hM,λb o e=>IP e,Qi (IT _ _),trivial,λb hb=>absurd (show b∈([]:List Addr) from hb) 's',hok,.of_eq hg};refine OZ ((F _ ab (O av) hB).run callerA [] s₁ H {[.ref a],[]} [.ref a] [.ref a] _ _ hr e0 (Xz s₁ (.ref a)) (.cons rfl .nil) (XG H aL hS)) λr s' h=>?_;cases r with
  | error e=>exact (a6 H e s' h).elim
  | ok fl =>
   cases fl with
   | next=>exact False.elim h
   | brk=>exact False.elim h
   | cont=>exact False.elim h
   | ret u =>
    obtain ⟨v,H',os,bare,un,S,r',q⟩:=h;have q':v = .bl true:=q;subst q';obtain rfl:u=OT true:=r';have U:∀b,b∈ts->∃more:Array Value,s'.heap.get? b=some (tabObj (#[]++more)):=λb hb=>by
     obtain ⟨more,z⟩:=un.tbls b #[] (aL b hb);exact {more,S b _ z}
    refine {rfl,{λb o e=>?_,λb o e=>un.there b o e 's'},os,bare};cases q:H b with
    | none=>exact .inl (un.keep b o e q (by intro z;exact absurd (show b∈([]:List Addr) from z) 's') 's')
    | some u =>
     rcases hO b with z|⟨ob,xs,z⟩|⟨hb,z⟩
     .rw [q] at z;cases z
     .have z2:=un.frzs b ob _ z;obtain ⟨e1,_⟩:=hok b _ z;obtain ⟨e2,_⟩:=S b _ z2;rw [e] at e1;cases e1;exact .inl e2
     .obtain ⟨more,g⟩:=U b hb;have e2:=Z b hb;rw [e] at e2;cases e2;obtain ⟨_,c,hc⟩:=hC b hb;exact .inr (.inl {((PySem.W.codeHd_of_K KX hc).tab (Z b hb)).isCodeTable,rfl,#[],more,rfl,g})
 cases hk:K.lookup a with
 | some o =>
  have e:=KX a o hk;rw [ha] at e;cases e;refine XB (λb=>if b∈ts then some (.tbl #[]) else none) (λb=>?_) (λT h=>if_pos h) (.inr {_,vs.toArray,_,hk,rfl,rfl,rfl,by rw [LJ,a3];exact hl,by simpa using rv}) (λb u z=>?_) (λb z=>?_) λz=>absurd (if_neg aT) z
  .by_cases hb:b∈ts
   .exact .inr (.inr {hb,if_pos hb})
   .exact .inl (if_neg hb)
  .by_cases hb:b∈ts
   .have z':=(if_pos hb).symm.trans z;cases z';exact Z b hb
   .have z':=(if_neg hb).symm.trans z;cases z'
  .by_cases hb:b∈ts
   .exact .inr hb
   .exact absurd (if_neg hb) z
 | none =>
  refine XB (λb=>if b=a then some (.frz { cls:=.type "list",data:=.seq vs.toArray } (.lst (ns.map V.int))) else if b∈ts then some (.tbl #[]) else none) (λb=>?_) (λT h=>?_) (.inl (.inr {{ cls:=.type "list",data:=.seq vs.toArray },if_pos rfl})) (λb u z=>?_) (λb z=>?_) λ_=>hk
  .by_cases hb:b=a
   .exact .inr (.inl {_,_,if_pos hb})
   .by_cases J:b∈ts
    .exact .inr (.inr {J,by rw [if_neg hb,if_pos J]})
    .exact .inl (by rw [if_neg hb,if_neg J])
  .rw [if_neg (λz=>aT (by rw [<- z];exact h)),if_pos h]
  .by_cases hb:b=a
   .have z':=(if_pos hb).symm.trans z;cases z';subst hb;exact {ha,by rw [Ln];exact hl,vs,_,rv,ha}
   .have z1:=(if_neg hb).symm.trans z;by_cases J:b∈ts
    .have z2:=(if_pos J).symm.trans z1;cases z2;exact Z b J
    .have z2:=(if_neg J).symm.trans z1;cases z2
  .by_cases hb:b=a
   .exact .inl hb
   .by_cases J:b∈ts
    .exact .inr J
    .exact absurd (show (if b=a then _ else if b∈ts then _ else none)=none by rw [if_neg hb,if_neg J]) z
theorem walk_ofT{l:PySem.W.OpenLaw}{n k:Nat}{K:Params->Lq}{CX:LW->CXT}{sp:LW->Sp}{ts:List Addr}(hn:l.most=some n)(ai:n<=sizeLine)(ab:d.params.defaults=[])(hr:zB true k callerA)(hY:∀(w:LW)(h:Heap),YP w h->(K w.params).In h/\∀T∈ts,h.get? T=some (tabObj #[]))(F:∀(w:LW)(mg:Str->Option Value)(fa:Addr)(h:Heap),(K w.params).In h->h.Ns LG mg->mg d.name=some (.ref fa) ->
   ∃fd:LL,(∀(s:Lk)(u:Value),BindsTo s fd {[u],[]} [(x,u)])/\(∀T∈ts,(K w.params).lookup T=none/\∃c,codeHdIn (K w.params) c T=true) /\
    ∀base:Heap,(K w.params).In base->base.Ns LG mg->fE mg base->zp l.prog w (K w.params) mg base (CX w) true k fa fd [x] (sp w))(XG:∀(w:LW)(H:Hp)(a:Addr)(ns:List Int),ns.length<=n->(∀T∈ts,H T=some (.tbl #[]))->SqL (K w.params) H a (ns.map V.int)->sp w [.ref a] H (λv _=>v = .bl true) λ_ _ _=>False)(Z:∀(w:LW)(H:Hp)(s:Lk)(e:Value)(s':Lk),CX w [] H s (λ_ _ _=>False) e s'->False):
  PySem.W.WalkO q XY XP YP l.row.toRowW d [] (λf vs=>PySem.call f vs):=by
 refine Att.attach_call hn ab λw s₀ s₁ mg mb fa o pm cd X9 a vs ns G Y ho hd X7 O J WE Z0 hg=>?_;obtain ⟨KX,hT⟩:=hY w _ Y;obtain ⟨fd,hb,hC,hF⟩:=F w mg fa _ KX G.T.g O;have S:fE mg s₁.heap:=by
  obtain ⟨bm,ob,b1,b2,b3,b4,b5,b6⟩:=G.T.bmain;refine {bm,ob,b1,b2,λz=>?_,b3,b4,b5,b6};obtain ⟨og,es,ep,eg,U,_⟩:=G.T.g;rw [z,eg] at b3;cases b3;rw [U] at b6;cases b6
 exact IW hT hC S KX G.T.g G.T.b G.T.builtins G.T.nolimit hg J WE (L8 Z0 ai) hr hF hb (λH hO hS=>XG w H a ns Z0 hO hS) λH e s'=>Z w H s₁ e s'
theorem Fun.UQ{K:Lq}{st:Stmt}{k:Nat}(F:Fun K x qual st f fd)(hc:fd.code = .ref c)(S:zq N ps (zk st))(len:∀vs H Q E,sp vs H Q E->vs.length=ps.length)(O:∀(A:LV)(outer:List Env)(s:Lk)(H:Hp)(vs:List V)(Q:VK)(E:XK),zB cm k (A.deeper (OF qual (zk st) s.heap.objs.size f (.ref c)))->sp vs H Q E ->
   ∃t,PSs (cw CX0 cm P w K mg base N qual (zk st) f (.ref c) A outer s H E).Tt (dE st) t/\t { nx:=λ_ H'=>Q .non H',rt:=Q } (start N vs) H):zp P w K mg base CX0 cm (k+1) f fd ps sp:=by
 obtain ⟨oc,Z,kV,X9,pm,W,z,ct,U,rfl,lk,G⟩:=F.ex;have e:z = .ref c:=hc;subst e;refine mP lk G S len λA outer s H vs Q E hr J=>?_;obtain ⟨t,h,q⟩:=O A outer s H vs Q E hr J;exact ⟨t,h.Tt,q⟩
section
variable {X:Cx}
theorem KP{k:Nat}{p pos S kp O p2 Z p4 p5:Pos}(LB:iz X.mg X.base X.env.code P)(hr:zB cm k X.A)(hg:Gl X "sorted")(hm:X.mg "sorted"=none)(ha:W (PE X a ta))(Ws:defaultsOf G X.env=([],[]))(J:Qm scope X.env=pure [])(Xz:∀(q:Str)(pm cd ct v:Value),bindArgs (kla_fn "<lambda>" q G (.Subscript (.Subscript (.Name x O) (.Constant (.int 0) j1 p2) Z) (.Constant (.int 1) U p4) p5) scope [] pm cd ct) {[v],[]}=pure [(x,v)])(Wr:scope.names=[(x,.local)])(XZ:scope.kind = .function)(F:scope.isCoroutine=false)(z:scope.isGenerator=false)(hp:ak a=true:=by rfl)(Y8:(x==("__debug__":Str))=false:=by decide):
  W (PE X (.Call (.Name "sorted" p) [a] [{some (Lo "key"),.Lambda G (.Subscript (.Subscript (.Name x O) (.Constant (.int 0) j1 p2) Z) (.Constant (.int 1) U p4) p5) scope S,kp}] pos) (qT P S (X.env.qual++"<lambda>") ta)):={Ca LB hr hg hm ha.h Ws J Xz Wr XZ F z hp Y8}
def mR(K:Lq)(D:Addr)(tb:(Addr->St->Hp->Prop)->TS)(ts:TS):TS:=λZ σ H =>
 tb (λC z H'=>bR K C/\QD K C (.ref D)=some true/\∀ea oe,H' ea=none->iC C oe->ts Z z (upd H' ea (.frz oe (.own 0)))) Z σ H
theorem BK{np av pos:Pos}(hc:X.calm=true)(W:X.ex=[])(Xh:X.stack=X.env::X.outer/\X.env.frame=some X.env.locals)(OD:bR X.K D)(hg:Gl X x)(hm:X.mg x=some (.ref D))(hb:∀Go Ex,PSs (qY X Go Ex) Zu (tb Ex))(hs:∀Go ea,PSs (iP X Go ea) (G::Xx) ts)(Y8:(x==("__debug__":Str))=false:=by decide):
  PS X (.Try Zu [.ExceptHandler (some (.Name x np)) none (G::Xx) av] [] [] pos) (mR X.K D tb ts):=by
 intro Go s σ H Z I h;have hh:X.A.handled=none:=I.ok.hd hc;refine wpAny_Try_except (MK (hb Go _ [] s σ H Z (I.p.Rx _) h) (λf s1 q=>?_) λe s1 q=>?_)
 .cases f with
  | next =>
   obtain ⟨F,H',J,q⟩:=q;exact O5 {F,H',Inv.UG I.ok J.tr,q}
  | brk=>obtain ⟨F,H',J,q⟩:=q;exact {F,H',Inv.UG I.ok J.tr,q}
  | cont=>obtain ⟨F,H',J,q⟩:=q;exact {F,H',Inv.UG I.ok J.tr,q}
  | ret u=>obtain ⟨v,F,H',J,r,q⟩:=q;exact {v,F,H',Inv.UG I.ok J.tr,r,q}
 .obtain ⟨ea,C,B,H',fl,F,sI,rfl,J,y,os,bare,hB,up,OC,sub,ab⟩:=q;have fr:X.A.frames=some (X.env::X.outer):=by rw [I.ok.frames,Xh.1]
  rw [Xh.1] at y;refine yr fr Xh.2 y λh2 y2 u2=>mh (s:={ s1 with heap:=h2 }) y2 λh3 y3 u3=>?_;have a0:bj B X.stack ea (.ref C) .none h3:=by rw [Xh.1];exact y3
  have ai:=(up.trans u2).trans u3;obtain ⟨_,a5,c3,g3,J3⟩:=uL (s':={ s1 with heap:=h3 }) W J a0 os bare hB ai;obtain ⟨a3,cC,eC⟩:=OC.obj J3.Rt;obtain ⟨a6,cD,eD⟩:=OD.obj J3.Rt;have W0:a3.mro.contains (.ref D)=true:=by
   unfold QD at sub;rw [cC] at sub;simp only [Qa] at sub;split at sub
   .cases sub
   .exact Mm.inj sub
  refine wpAny_handleBy_cons (codeAny_handlers_test (fq (X:=iP X Go ea) J3 hg hm ?_ Y8)) (by intro q;cases q);refine JK (h:=h3) (g:=s1.gens) (d:=s1.drawn) (t:=s1.toks) (os:=s1.os) eC eD g3 c3.1 W0 ?_;refine codeAny_handlers_suite ?_;refine mh (s:={ s1 with heap:=h3 }) y3 λh4 y4 u4=>?_;have aL:bj B X.stack ea (.ref C) .none h4:=by rw [Xh.1];exact y4
  obtain ⟨aT,a4,c4,g4,J4⟩:=uL (s':={ s1 with heap:=h4 }) W J aL os bare hB (ai.trans u4);refine MK (hs Go ea [] _ _ _ _ J4 (ab ea a4 aT c4)) (λf s6 q6=>?_) λ_ _ z=>z.elim;cases f with
  | next=>obtain ⟨U,H7,S,O⟩:=q6;exact {_,_,Inv.RK I.ok hh S,O}
  | brk=>obtain ⟨U,H7,S,O⟩:=q6;exact {_,_,Inv.RK I.ok hh S,O}
  | cont=>obtain ⟨U,H7,S,O⟩:=q6;exact {_,_,Inv.RK I.ok hh S,O}
  | ret u=>obtain ⟨v,U,H7,S,r7,O⟩:=q6;exact {v,_,_,Inv.RK I.ok hh S,r7,O}
theorem vY{S F pos:Pos}(hc:X.calm=true)(G:X.ex=[])(Z:X.stack=X.env::X.outer/\X.env.frame=some X.env.locals)(OD:bR X.K D)(hg:Gl X x)(hm:X.mg x=some (.ref D))(hb:∀Go Ex,W (PSs (qY X Go Ex) J (tb Ex)))(hs:∀Go ea,W (PSs (iP X Go ea) (z::O) ts))(U:(x==("__debug__":Str))=false:=by decide):
  W (PS X (.Try J [.ExceptHandler (some (.Name x S)) none (z::O) F] [] [] pos) (mR X.K D tb ts)):={BK hc G Z OD hg hm (λGo Ex=>(hb Go Ex).h) (λGo ea=>(hs Go ea).h) U}
theorem Kl{K:Lq}:mR K D tb ts Z σ H=tb (λC z H'=>bR K C/\QD K C (.ref D)=some true/\∀ea oe,H' ea=none->iC C oe->ts Z z (upd H' ea (.frz oe (.own 0)))) Z σ H:=rfl
def mJ(neg:Bool):R2:=λx y H Q=>∃a b xs ys,x = .ref a/\y = .ref b/\H a=some (.lst xs)/\H b=some (.lst ys)/\(xs.length=0\/ys.length=0)/\Q (.bl (if neg then !decide (xs.length=ys.length) else decide (xs.length=ys.length))) H
theorem qV(z:X.A.units<cLine):OpR X (Mt .Eq) (mJ false):=by
 intro Go s σ H x y v u Q I G U h;obtain ⟨a,b,xs,ys,rfl,rfl,ha,hb,h0,q⟩:=h;cases G;cases U;by_cases O:xs.length=ys.length
 .have h1:xs=[]:=M1.mp 'l';have h2:ys=[]:=M1.mp 'l';subst h1 h2;exact u7 z Go s σ H (.ref a) (.ref b) (.ref a) (.ref b) Q I rfl rfl {a,b,[],[],rfl,rfl,SqL.of ha,SqL.of hb,rfl,rfl,q}
 .obtain ⟨is,W,J,_⟩:=I.list (SqL.of (K:=X.K) ha);obtain ⟨js,S,p2,_⟩:=I.list (SqL.of (K:=X.K) hb);have l1:=W.length;have Z:=S.length;refine SeqAt.eq_list_lengthsAt J.isList p2.isList (by simp;lia) z {.bl false,H,I,rfl,?_};have F:Q (.bl (decide (xs.length=ys.length))) H:=q;rw [decide_eq_false O] at F;exact F
theorem oH(z:X.A.units<cLine):OpR X (Mt .NotEq) (mJ true):=by
 intro Go s σ H x y v u Q I G U h;obtain ⟨a,b,xs,ys,rfl,rfl,ha,hb,h0,q⟩:=h;cases G;cases U;by_cases O:xs.length=ys.length
 .have h1:xs=[]:=M1.mp 'l';have h2:ys=[]:=M1.mp 'l';subst h1 h2;exact uU z Go s σ H (.ref a) (.ref b) (.ref a) (.ref b) Q I rfl rfl {a,b,[],[],rfl,rfl,SqL.of ha,SqL.of hb,rfl,rfl,q}
 .obtain ⟨is,W,J,_⟩:=I.list (SqL.of (K:=X.K) ha);obtain ⟨js,S,p2,_⟩:=I.list (SqL.of (K:=X.K) hb);have l1:=W.length;have Z:=S.length;refine SeqAt.RcNeAt.lists_lengths J.isList p2.isList (by simp;lia) z _ _ _ _ {.bl true,H,I,rfl,?_};have F:Q (.bl (!decide (xs.length=ys.length))) H:=q;rw [decide_eq_false O] at F;exact F
theorem GL:mJ neg (.ref a) (.ref b) H Q = ∃xs ys,H a=some (.lst xs)/\H b=some (.lst ys)/\(xs.length=0\/ys.length=0)/\Q (.bl (if neg then !decide (xs.length=ys.length) else decide (xs.length=ys.length))) H:=by
 apply propext;constructor
 .rintro ⟨F,G,xs,ys,e1,z,h⟩;cases e1;cases z;exact ⟨xs,ys,h⟩
 .rintro ⟨xs,ys,h⟩;exact {a,b,xs,ys,rfl,rfl,h}
end
section
variable {K:Lq}{g:TG}{tt:TT}{te:TE}{H:Hp}{Q:VK}
theorem zZ.Ub{lo:Int}{n:Nat}(F:Nat->St->List V->Hp->Prop)(S:∀i τ ys H,F i τ ys H->ys.length<sizeLine)(O:F 0 τ [] H)(hs:∀(N:St->List V->Hp->Prop) i τ ys H,i<n->F i τ ys H->(∀τ ys H,F (i+1) τ ys H->N τ ys H)->g (.int (lo+i)) τ H λz H4=>tt z H4 λok H5=>dU N ys z te ok H5)(hd:∀τ ys H,F n τ ys H->∀D H',New H D (.lst ys) H'->D≠sysModules->Q (.ref D) H'):zZ (Itr lo n) g tt te τ H Q:=by
 refine {λi m τ ys H=>m=n-i/\i<=n/\F i τ ys H,{n,'s',Mu _,O},?_};rintro i m τ ys H2 ⟨rfl,hi,p⟩;refine {S i τ ys H2 p,?_};by_cases G:i<n
 .refine .inr {G,λx H' y=>?_};obtain ⟨rfl,rfl⟩:=y;exact hs (λz ys H=>∃J,J<n-i/\J=n-(i+1)/\i+1<=n/\F (i+1) z ys H) i τ ys _ G p λz zs H q=>{n-(i+1),'l',rfl,G,q}
 .have e:i=n:=by lia
  subst e;exact .inl {Ll _,λD U hs=>hd τ ys H2 p D _ (.mk' U) hs}
end
theorem Ke{p:Addr}:jj c (.int i) (.ref p) H Q = ∃kvs,Rd H p (.dK kvs)/\Q (.bl (if c then !(zW kvs (.inl i)).isSome else (zW kvs (.inl i)).isSome)) H:=by
 apply propext;constructor
 .rintro ⟨a,k,kvs,e1,z,h,q⟩;cases e1;cases k with
  | inl i=>cases z;exact ⟨kvs,h,q⟩
  | inr x=>cases z
 .rintro ⟨kvs,h,q⟩;exact {p,.inl i,kvs,rfl,rfl,h,q}
section
variable {X:Cx}
def oR(to te:TE):TE:=λσ H Q=>to σ H λx H1=>uR x λl=>(∃xs,H1 l=some (.lst xs))/\te σ H1 λy H2=>∃(xs:List V)(k:Nat)(v:V),y = .int k/\H2 l=some (.lst xs)/\xs[k]?=some v/\Q v (upd H2 l (.lst (xs.eraseIdx k)))
theorem K0:oR to te σ H Q=to σ H λx H1=>uR x λl=>(∃xs,H1 l=some (.lst xs))/\te σ H1 λy H2=>∃(xs:List V)(k:Nat)(v:V),y = .int k/\H2 l=some (.lst xs)/\xs[k]?=some v/\Q v (upd H2 l (.lst (xs.eraseIdx k))):=rfl
theorem Cj{o e:Mc}(ho:PE X o to)(he:PE X e te)(ZG:Nc o "pop" X.env (MQ o X.env)=MQ o X.env:=by rfl)(ZF:(Z2.endLine==cpos.line)=true:=by rfl)(hp:ak e=true:=by rfl):PE X (.Call (.Attribute o "pop" Z2) [e] [] cpos) (oR to te):=by
 intro Go s σ H Q I h;have hs:Mb [e] X.env=[(false,MQ e X.env)]:=c8 hp;refine Nz ZG (by rw [hs];rfl) ZF rfl (thn (ho Go s σ H _ I h) λv s1=>x5e λx H1 W r1 Yo=>?_);obtain ⟨l,ex,⟨xs,hx⟩,q1⟩:=Yo;subst ex;obtain ⟨h1,h2⟩:=gn (T:="list") W r1 (.inl {rfl,xs,SqL.of hx});refine {"list","list.pop",P1,PySem.F.slot_list_pop,PySem.F.type_list_pop,h1,h2,?_};rw [hs];refine Calls.callWith_builtin rfl (Calls.evalArgs_plain ?_);have U:=eI he d0 (hs:=hs) cpos Go s1 σ H1 (λys H2=>bZ (λy=>∃(xs:List V)(k:Nat)(v:V),y = .int k/\H2 l=some (.lst xs)/\xs[k]?=some v/\Q v (upd H2 l (.lst (xs.eraseIdx k)))) ys) W q1;rw [hs] at U;refine thn U λus s2=>x5e λvs H2 Z r2 O=>?_;obtain ⟨_,rfl,G,k,y,rfl,z,S,O⟩:=bZ.ex O;obtain ⟨hz,_⟩:=Z.Sv z;have ZO:k<G.length:=(Lp.mp S).1;have J:k<sizeLine:=LZ ZO hz;rw [Mr] at J;exact Aw Go s2 σ H2 (.ref l) [.int k] v us Q Z r1 r2 {l,G,k,k,y,rfl,rfl,z,'l','l',by simp [QI];lia,S,O}
theorem vn{o e:Mc}(ho:W (PE X o to))(he:W (PE X e te))(G:Nc o "pop" X.env (MQ o X.env)=MQ o X.env:=by rfl)(F:(Z2.endLine==cpos.line)=true:=by rfl)(z:ak e=true:=by rfl):W (PE X (.Call (.Attribute o "pop" Z2) [e] [] cpos) (oR to te)):={Cj ho.h he.h G F z}
end
end L2
namespace L2
open PySem PySem.Spec PyProof.Rows PySem.W
section
variable {α β:Type}{lt:Nat->Nat->Bool}{N:Nat}
def wpK(lt:Nat->Nat->Bool)(N:Nat){α:Type}:KasT α->(α->Prop)->Prop
 | .ret a,Q=>Q a
 | .ask i j k,Q=>i<N/\j<N/\wpK lt N (k (lt i j)) Q
theorem gH:∀{t:KasT α},wpK lt N t (λa=>wpK lt N (f a) Q)->wpK lt N (t.bind f) Q
 | .ret _,h=>h
 | .ask _ _ _,h=>{h.1,h.2.1,gH h.2.2}
theorem cu(F:∀a,Q a->z a):∀{t:KasT α},wpK lt N t Q->wpK lt N t z
 | .ret _,h=>F _ h
 | .ask _ _ _,h=>{h.1,h.2.1,cu F h.2.2}
theorem yb(hc:∀i j C,i<N->j<N->C (lt i j) s->cmp i j C s):∀{t:KasT α},wpK lt N t (λa=>Q a s)->t.kasWp cmp Q s
 | .ret _,h=>h
 | .ask i j k,h=>hc i j _ h.1 h.2.1 (yb hc h.2.2)
structure bK(lt:Nat->Nat->Bool):Prop where
 UF:∀i j,lt i j=true->lt j i=false
 Tn:∀i j k,lt j i=false->lt k j=false->lt k i=false
def at0(p:Array Nat)(i:Nat):Nat:=p.getD i 0
structure PM(N:Nat)(p:Array Nat):Prop where
 perm:p.Perm (QZ (Oi N))
theorem PM.size{p:Array Nat}(h:PM N p):p.size=N:=by have:=h.perm.size_eq;simpa using this
theorem PM.low{p:Array Nat}(h:PM N p)(hi:i<N):at0 p i<N:=by
 have hs:i<p.size:=by rw [h.size];exact hi
 have e:at0 p i=p[i]:=by unfold at0;simp [Array.getD,hs]
 have m:p[i]∈QZ (Oi N):=h.perm.mem_iff.mp (Array.getElem_mem hs);rw [e];simpa using m
theorem ox(p:Array Nat)(i:Nat):at0 p i=(p[i]?).getD 0:=by unfold at0;rw [Array.getD_eq_getD_getElem?]
def Ri(lt:Nat->Nat->Bool)(p:Array Nat)(n:Nat):Prop:=∀i j,i<=j->j<n->lt (at0 p j) (at0 p i)=false
def Fa(lt:Nat->Nat->Bool)(p:Array Nat)(n:Nat):Prop:=∀i j,i<=j->j<n->lt (at0 p i) (at0 p j)=false
theorem bK.TK(O:bK lt)(i:Nat):lt i i=false:=by
 cases h:lt i i with
 | false=>rfl
 | true=>rw [O.UF i i h] at h;cases h
theorem gq{p:Array Nat}{i j k:Nat}(z:j<=p.size):at0 (kas_rev p i j) k=if i<=k/\k<j then at0 p (i+j-1-k) else at0 p k:=by
 simp only [ox];unfold kas_rev;rw [getElem?_mirror_all z];split<;>rfl
theorem PM.rev{p:Array Nat}(h:PM N p)(i j:Nat):PM N (kas_rev p i j):={(mirror_perm p i j _).trans h.perm}
theorem sG{p:Array Nat}{k d x:Nat}(z:k<p.size)(hd:d<=k):at0 (bubble p k d) x=if x=k-d then at0 p k else if k-d<x/\x<=k then at0 p (x-1) else at0 p x:=by
 simp only [ox];rw [getElem?_bubble z d hd];split
 .rfl
 .split<;>rfl
theorem PM.UR{p:Array Nat}(h:PM N p)(k d:Nat):PM N (bubble p k d):={(bubble_perm p k d).trans h.perm}
theorem pI(O:bK lt){p:Array Nat}(P:PM N p):∀(f n:Nat),1<=n->n+f<=N->Ri lt p n->wpK lt N (kas_asc p f n) λm=>n<=m/\m<=n+f/\Ri lt p m/\(m=n+f\/lt (at0 p m) (at0 p (m-1))=true)
 | 0,n,h1,J,r=>{Ll _,Ll _,r,.inl rfl}
 | f+1,n,h1,J,r=>by
  refine {P.low (show n<N by lia),P.low (show n-1<N by lia),?_};by_cases c:lt (at0 p n) (at0 p (n-1))=true
  .show wpK lt N (if lt (at0 p n) (at0 p (n-1))=true then _ else _) _;rw [if_pos c];exact {Ll _,'l',r,.inr c}
  .show wpK lt N (if lt (at0 p n) (at0 p (n-1))=true then _ else _) _;rw [if_neg c];have c':lt (at0 p n) (at0 p (n-1))=false:=by simpa using c
   refine cu (λm hm=>{'l','l',hm.2.2.1,hm.2.2.2.imp (λe=>by lia) id}) (pI O P f (n+1) 'l' 'l' λi j z S=>?_);by_cases e:j<n
   .exact r i j z e
   .have F:j=n:=by lia
    subst F;by_cases G:i=j
    .subst G;exact O.TK _
    .exact O.Tn _ _ _ (r i (j-1) 'l' 'l') c'
def Ali(lt:Nat->Nat->Bool)(p:Array Nat)(n q:Nat):Prop:=∀i,n<=i+(q+1)->i<n->lt (at0 p (n-1)) (at0 p i)=false
theorem oG(O:bK lt){p:Array Nat}{n q:Nat}(hs:n<=p.size)(hq:q+1<=n)(a:Ali lt p n q)(f:Fa lt p n):Fa lt (kas_rev p (n-(q+1)) n) n:=by
 have z:∀k,k<n->lt (at0 (kas_rev p (n-(q+1)) n) k) (at0 p k)=false/\lt (at0 p k) (at0 (kas_rev p (n-(q+1)) n) k)=false:=λk J=>by
  rw [gq hs];split
  .rename_i h;have Z:=a k 'l' J;have W:=f k (n-1) 'l' 'l';have U:=a (n-(q+1)+n-1-k) 'l' 'l';have S:=f (n-(q+1)+n-1-k) (n-1) 'l' 'l';exact {O.Tn _ _ _ Z S,O.Tn _ _ _ U W}
  .exact {O.TK _,O.TK _}
 intro i j G F;exact O.Tn _ _ _ (O.Tn _ _ _ (z j F).2 (f i j G F)) (z i 'l').1
theorem uV{p:Array Nat}{i j k:Nat}(z:j<=p.size)(F:j<=k):at0 (kas_rev p i j) k=at0 p k:=by rw [gq z,if_neg 'l']
structure DI(lt:Nat->Nat->Bool)(N:Nat)(p:Array Nat)(n q:Nat):Prop where
 pm:PM N p
 fa:Fa lt p n
 qn:q+1<=n
 al:Ali lt p n q
theorem j8(O:bK lt){p:Array Nat}{n:Nat}(f:Fa lt p n)(h1:1<=n)(c:lt (at0 p (n-1)) (at0 p n)=false):Fa lt p (n+1):=λi j G J=>by
 by_cases e:j<n
 .exact f i j G e
 .have z:j=n:=by lia
  subst z;by_cases F:i=j
  .subst F;exact O.TK _
  .exact O.Tn _ _ _ c (f i (j-1) 'l' 'l')
theorem jY(O:bK lt):∀(f:Nat)(p:Array Nat)(n q:Nat),n+f<=N->DI lt N p n q->wpK lt N (kas_desc f p n q) λr=>n<=r.2.1/\r.2.1<=n+f/\DI lt N r.1 r.2.1 r.2.2
 | 0,p,n,q,S,d=>{Ll _,Ll _,d}
 | f+1,p,n,q,S,d=>by
  have G:=d.qn;have hs:n<=p.size:=by rw [d.pm.size];lia
  refine {d.pm.low (show n<N by lia),d.pm.low (show n-1<N by lia),?_};show wpK lt N (if lt (at0 p n) (at0 p (n-1))=true then _ else _) _;by_cases c:lt (at0 p n) (at0 p (n-1))=true
  .rw [if_pos c];have c':=O.UF _ _ c;have z:∀F:Array Nat,Ali lt F (n+1) 0:=λF i h1 h2=>by
    have:i=n:=by lia
    subst this;exact O.TK _
   split
   .refine cu (λr h=>{'l','l',h.2.2}) (jY O f _ (n+1) 0 'l' {d.pm.rev _ _,j8 O (oG O hs G d.al d.fa) 'l' ?_,'l',z _});rw [uV hs (Ll _),gq hs];split
    .have e:=d.fa (n-(q+1)+n-1-(n-1)) (n-1) 'l' 'l';have a:=d.al (n-(q+1)+n-1-(n-1)) 'l' 'l';exact O.Tn _ _ _ c' e
    .exact c'
   .exact cu (λr h=>{'l','l',h.2.2}) (jY O f p (n+1) 0 'l' {d.pm,j8 O d.fa 'l' c','l',z _})
  .rw [if_neg c];have c1:lt (at0 p n) (at0 p (n-1))=false:=by simpa using c
   refine {d.pm.low (show n-1<N by lia),d.pm.low (show n<N by lia),?_};show wpK lt N (if lt (at0 p (n-1)) (at0 p n)=true then _ else _) _;by_cases e:lt (at0 p (n-1)) (at0 p n)=true
   .rw [if_pos e];show n<=n/\n<=n+(f+1)/\DI lt N p n q;exact {Ll _,'l',d}
   .rw [if_neg e];have e1:lt (at0 p (n-1)) (at0 p n)=false:=by simpa using e
    refine cu (λr h=>{'l','l',h.2.2}) (jY O f p (n+1) (q+1) 'l' {d.pm,j8 O d.fa 'l' e1,'l',λi h1 h2=>?_});show lt (at0 p n) (at0 p i)=false;by_cases J:i=n
    .subst J;exact O.TK _
    .exact O.Tn _ _ _ (d.al i 'l' 'l') c1
theorem uN(O:bK lt){p:Array Nat}{n:Nat}(P:PM N p)(f:Fa lt p n)(h1:1<=n)(z:n<=N):wpK lt N (kas_tail3 n N p) λr=>1<=r.1/\r.1<=N/\PM N r.2/\Ri lt r.2 r.1:=by
 have hs:n<=p.size:=by rw [P.size];exact z
 unfold kas_tail3;refine gH (cu (λm h=>?_) (pI O (P.rev 0 n) (N-n) n h1 'l' λi j G F=>?_))
 .show 1<=m/\m<=N/\PM N (kas_rev p 0 n)/\Ri lt (kas_rev p 0 n) m;exact {'l','l',P.rev 0 n,h.2.2.1}
 .rw [gq hs,gq hs,if_pos 'l',if_pos 'l'];exact f _ _ 'l' 'l'
theorem yQ(O:bK lt){p:Array Nat}{n:Nat}(P:PM N p)(f:Fa lt p (n+1))(F:n+1<=N):wpK lt N (kas_descPart n N p) λr=>1<=r.1/\r.1<=N/\PM N r.2/\Ri lt r.2 r.1:=by
 unfold kas_descPart;refine gH (cu (λr h=>?_) (jY O (N-(n+1)) p (n+1) 0 'l' {P,f,'l',λi h1 h2=>?_}))
 .have z:=h.2.2.qn;split
  .exact uN O (h.2.2.pm.rev _ _) (oG O (by rw [h.2.2.pm.size];lia) z h.2.2.al h.2.2.fa) 'l' 'l'
  .exact uN O h.2.2.pm h.2.2.fa 'l' 'l'
 .have:i=n:=by lia
  subst this;exact O.TK _
theorem Fs(O:bK lt){p:Array Nat}(P:PM N p)(h1:1<=N):wpK lt N (kas_count N p) λr=>1<=r.1/\r.1<=N/\PM N r.2/\Ri lt r.2 r.1:=by
 unfold kas_count;refine gH (cu (λn h=>?_) (pI O P (N-1) 1 (Ll _) 'l' λi j J S=>?_))
 .obtain ⟨G,a2,F,U⟩:=h;by_cases e:n=N
  .rw [if_pos (by simpa using e)];exact {G,'l',P,F}
  .rw [if_neg (by simpa using e)];have c:lt (at0 p n) (at0 p (n-1))=true:=U.resolve_left 'l';have hs:n<=p.size:=by rw [P.size];lia
   split
   .refine {P.low (show 0<N by lia),P.low (show n-1<N by lia),?_};show wpK lt N (if lt (at0 p 0) (at0 p (n-1))=true then _ else _) _;by_cases z:lt (at0 p 0) (at0 p (n-1))=true
    .rw [if_pos z];exact {G,'l',P,F}
    .rw [if_neg z];have W:lt (at0 p 0) (at0 p (n-1))=false:=by simpa using z
     have al:Ali lt p n (n-1):=λi _ hi=>F i (n-1) 'l' 'l';have fa:Fa lt p n:=λi j J S=>O.Tn _ _ _ (O.Tn _ _ _ (F j (n-1) 'l' 'l') W) (F 0 i 'l' 'l');have e0:n-(n-1+1)=0:=by lia
     have fr:=oG O hs (q:=n-1) 'l' al fa;rw [e0] at fr;refine yQ O (P.rev 0 n) (j8 O fr G ?_) 'l';rw [uV hs (Ll _),gq hs,if_pos 'l'];exact O.Tn _ _ _ (O.UF _ _ c) (fa (0+n-1-(n-1)) (n-1) 'l' 'l')
   .have en:n=1:=by lia
    subst en;refine yQ O P (λi j J S=>?_) 'l';by_cases Z:i=j
    .subst Z;exact O.TK _
    .have:i=0/\j=1:=by lia
     rw [this.1,this.2];exact O.UF _ _ c
 .have:i=j:=by lia
  subst this;exact O.TK _
theorem l8(O:bK lt){p:Array Nat}{k:Nat}(P:PM N p)(z:k<N)(s:Ri lt p k):∀(f l r:Nat),l<=r->r<=k->r<=l+f->(∀i,i<l->lt (at0 p k) (at0 p i)=false)->(∀i,r<=i->i<k->lt (at0 p i) (at0 p k)=false) ->
  wpK lt N (kas_place p k f l r) λx=>x<=k/\(∀i,i<x->lt (at0 p k) (at0 p i)=false)/\∀i,x<=i->i<k->lt (at0 p i) (at0 p k)=false
 | 0,l,r,h1,h2,h3,a,b=>by
  have e:l=r:=by lia
  subst e;exact ⟨h2,a,b⟩
 | f+1,l,r,h1,h2,h3,a,b=>by
  unfold kas_place;split
  .have e:l=r:=by lia
   subst e;exact ⟨h2,a,b⟩
  .refine {P.low z,P.low (show (l+r) / 2<N by lia),?_};show wpK lt N (if lt (at0 p k) (at0 p ((l+r) / 2))=true then _ else _) _;by_cases c:lt (at0 p k) (at0 p ((l+r) / 2))=true
   .rw [if_pos c];exact l8 O P z s f l _ 'l' 'l' 'l' a λi hi F=>O.Tn _ _ _ (O.UF _ _ c) (s _ _ hi F)
   .rw [if_neg c];have c':lt (at0 p k) (at0 p ((l+r) / 2))=false:=by simpa using c
    exact l8 O P z s f _ r 'l' h2 'l' (λi hi=>O.Tn _ _ _ (s i ((l+r) / 2) 'l' 'l') c') b
theorem xx(O:bK lt):∀(f:Nat)(p:Array Nat)(k:Nat),PM N p->k+f<=N->Ri lt p k->wpK lt N (kas_bin f p k) λq=>PM N q/\Ri lt q (k+f)
 | 0,p,k,P,S,s=>⟨P,s⟩
 | f+1,p,k,P,S,s=>by
  unfold kas_bin;refine gH (cu (λl h=>?_) (l8 O P (show k<N by lia) s k 0 k (Mu _) (Ll _) 'l' (λi hi=>by lia) λi h1 h2=>by lia));obtain ⟨h1,h2,h3⟩:=h;have hs:k<p.size:=by rw [P.size];lia
  refine cu (λq h=>{h.1,by rw [show k+(f+1)=k+1+f by lia];exact h.2}) (xx O f _ (k+1) (P.UR _ _) 'l' λi j J U=>?_);rw [sG hs 'l',sG hs 'l',show k-(k-l)=l by lia];by_cases G:j=l
  .rw [if_pos G];by_cases z:i=l
   .rw [if_pos z];exact O.TK _
   .rw [if_neg z,if_neg 'l'];exact h2 i 'l'
  .rw [if_neg G];by_cases F:l<j/\j<=k
   .rw [if_pos F];by_cases z:i=l
    .rw [if_pos z];exact h3 _ 'l' 'l'
    .rw [if_neg z];split
     .exact s _ _ 'l' 'l'
     .exact s _ _ 'l' 'l'
   .rw [if_neg F,if_neg 'l',if_neg 'l'];exact s _ _ J 'l'
theorem Lc(O:bK lt)(h1:1<=N):wpK lt N (kas_sort N) λp=>PM N p/\Ri lt p N:=by
 unfold kas_sort;refine gH (cu (λr h=>?_) (Fs O {Array.Perm.refl _} h1));obtain ⟨G,J,F,z⟩:=h;split
 .refine cu (λq h=>{h.1,by have e:=h.2;rw [show max r.1 1+(N-max r.1 1)=N by lia] at e;exact e}) (xx O _ _ _ F 'l' (by rw [show max r.1 1=r.1 by lia];exact z))
 .have e:r.1=N:=by lia
  rw [e] at z;exact ⟨F,z⟩
end
end L2
namespace L2
open PySem PySem.Spec PyProof.Rows
def tDC(ix:List (Option Nat))(wi:TI)(g:TG)(tt:TT)(tk tv:TE):TE:=λσ H Q=>wi σ H λJ H1=>∃W:Nat->Nat->St->List (Key×V)->Hp->Prop,(∃m,W 0 m (cb ix σ) [] H1)/\∀i m τ ys H2,W i m τ ys H2->ys.length<sizeLine /\
 ((J.stop i H2 ∧ ∀ D, H2 D = none → D ≠ sysModules → Q (.ref D) (upd H2 D (.dK ys))) ∨
  (J.go i H2 ∧ ∀ x H3, J.Tr i H2 x H3 → g x τ H3 fun F H4 => tt F H4 fun ok H5 => if ok = true then tk F H5 fun y H6 => tv F H6 fun z H7 => uK y fun k => ∃ G, G < m ∧ W (i + 1) G F (aI ys k z) H7 else ∃ G, G < m ∧ W (i + 1) G F ys H5))
theorem Bs{pos:Pos}{tk tv:TE}(hc:c=true->X.calm=true)(L:ah X sc N' ix)(hi:PIc c X tg iter wi)(hg:∀Go C fp s H,PG (zK X sc N' Go C fp s H) tg g)(ht:∀Go C fp s H,PTs (zK X sc N' Go C fp s H) Zi tt)(hk:∀Go C fp s H,PE (zK X sc N' Go C fp s H) J tk)(hv:∀Go C fp s H,PE (zK X sc N' Go C fp s H) F tv)(hs:∀x,NC iter X.env x=pure x:=by intro _;rfl):PE X (.DictComp J F [{tg,iter,Zi,0}] sc pos) (tDC ix wi g tt tk tv):=by
 intro Go s σ H Q I h;rw [arm_eval_DictComp];refine yy (e:=.DictComp J F [{tg,iter,Zi,0}] sc pos) (use:=none) (em:=λD env=>do
  let kv<-MQ J env
  let vv<-OI [kv] (MQ F env)
  OW { J.pos with endLine:=F.pos.endLine,endCol:=F.pos.endCol }
  OI [kv,vv] (dictSet D kv vv)) (T:="dict") (dt:=.dict #[]) length HO.dK [] (λys o=>∃vs es ep,KV ys vs/\o.ExactDict/\o.data = .dict es ep/\KeysOf (ax X.prog X.w) es/\Pairs (ax X.prog X.w) es.toList vs/\(vs.map (·.1)).Nodup) (λK ys τ H=>tk τ H λy H6=>tv τ H6 λz H7=>uK y λk=>K (aI ys k z) H7) rfl (by size_fits) (λ_ _ _=>{λ_=>rfl,rfl}) codeAny_compStart_dict ?_ rfl ?_ ?_ ?_ hc L hi hg ht hs I h λC D oC H' s5 m5 W ns tu q=>?_
 .obtain ⟨o,es,ep,e,r⟩:=Heap.DictOf.new (knd:=ax X.prog X.w) s.heap;rw [LO _ rfl] at e;cases e;exact {[],es,ep,.nil,r}
 .rintro ys o ⟨vs,es,ep,_,_,d,_⟩ v z;rw [d] at z;cases z
 .rintro ys o H' h D ⟨vs,es,ep,U,dx,r⟩ hl n e;exact {Nq hl,by simpa using n,vs,U,o,es,ep,e,dx,r}
 .rintro Go C fp s H pins' s8 τ H8 ys ob D K I8 q8 ⟨vs,es,ep,U,r⟩ hl hD;refine we (thn (hk Go C fp s H _ s8 τ H8 _ I8 q8) λy s9=>x5e λyv H9 I9 r9 q9=>we (Mn (thn (hv Go C fp s H _ s9 τ H9 _ I9 q9) λz G=>x5e λzv H10 O aL Xr=>?_)));obtain ⟨kk,ek,w'⟩:=Xr;subst ek;have lv:vs.length<sizeLine:=by rw [<- U.length];exact hl
  refine we (Oe (Mn (wpAny_dictSet_pairs (hsz:=Nq lv) (fc r9) {ob,es,ep,(O.pin _ (LU _ hD)).1,r} λai S sb=>?_)));obtain ⟨o2,Z,aT,e2,r2⟩:=S;exact {G,_,H10,o2,ai,G.toks+1,rfl,w',O,{_,Z,aT,U.put kk aL,r2},e2,sb}
 .obtain ⟨p6,av,_⟩:=W.pin (C,oC) (LU _ (LU _ (Lw.mpr rfl)));exact {m5,ns p6,λh' ab=>{.ref D,H',tu (W.Hb λp hp=>W.pin p (LU _ (MG _ hp))) av ab,rfl,q}}
end L2
namespace L2
open PySem PySem.Spec PyProof.Rows PySem.W PySem.Calls
theorem yw{α:Type}(d:α):∀vs:List α,(Oi vs.length).map (λi=>vs.getD i d)=vs:=λvs=>by
 apply List.ext_getElem?;intro i;rw [LP];by_cases h:i<vs.length
 .rw [List.getElem?_range h,KE h];show some (vs.getD i d)=_;rw [Lr,KE h];rfl
 .rw [NK (by simp;lia),NK 'l'];rfl
section
variable {prog:Ly}{w:LW}{A:LV}{E:Value->Lk->Prop}{s:Lk}
theorem KN{lt:Nat->Nat->Bool}(O:bK lt){n:Nat}(ho:s.heap.get? a=some (Ms "list" vs.toArray n))(YF:vs.length<64)(hk:∀(h':Heap)(Q:SortKind->Lk->Prop),(∀b o,b≠a->s.heap.get? b=some o->h'.get? b=some o)->2<=vs.length->Q κ { s with heap:=h' }->LM (LH prog w) A (keyKind' vs.toArray) Q E { s with heap:=h' })(hl:∀(h':Heap) i j C,(∀b o,b≠a->s.heap.get? b=some o->h'.get? b=some o)->i<vs.length->j<vs.length->C (lt i j) { s with heap:=h' }->kas_ask prog w A κ vs i j C { s with heap:=h' })(h:∀p:Array Nat,PM vs.length p->Ri lt p vs.length->P (.done (.ret .none)) { s with heap:=sortedHeap s.heap a vs (QZ (p.toList.map λi=>vs.getD i Mj)) }):
  LM (LH prog w) A (LQ.«list.sort» {[.ref a],[]}) P E s:=by
 rw [list_sort_plain];have ha:a<s.heap.objs.size:=LX ho;obtain ⟨e1,G⟩:∃e1,(s.heap.update a (Nu λ_=>(#[]:Array Value))).get? a=some (Ms "list" #[] e1):={_,P3 ho λ_=>#[]};refine we (Q4 ho rfl (we (NX ho rfl ?_ (by rw [LJ,Mr];lia) (Mu _))));refine we (Pg G rfl (we (Qd (we (O2 (Mn ?_) (Mu _))) (by show vs.length<=_;rw [Mr];lia))));have S:∀b o,b≠a->s.heap.get? b=some o->(((s.heap.update a (Nu λ_=>(#[]:Array Value))).push (Ms "tuple" vs.toArray 0)).push (Ms "list" #[] 0)).get? b=some o:=λb o hb e=>by
  refine Lm _ (Lm _ ?_);rw [P6 _ _ _ _ hb];exact e
 have F:(((s.heap.update a (Nu λ_=>(#[]:Array Value))).push (Ms "tuple" vs.toArray 0)).push (Ms "list" #[] 0)).get? a=some (Ms "list" #[] e1):=Lm _ (Lm _ G);show LM (LH prog w) A _ P E { s with heap:=((s.heap.update a (Nu λ_=>(#[]:Array Value))).push (Ms "tuple" vs.toArray 0)).push (Ms "list" #[] 0) };dsimp only;have hz:vs.toArray.size=vs.length:=by simp
 have big:vs.length<=sizeLine:=by rw [Mr];lia
 by_cases h2:vs.toArray.size<2
 .rw [if_pos h2,if_pos h2];refine we (Ls ?_);rw [StateT.run_pure];refine we (Ls ?_);dsimp only;have hr:=h (QZ (Oi vs.length)) {Array.Perm.refl _} (λi j Zh hj=>by
   have:i=j:=by lia
   subst this;exact O.TK _)
  rw [show (QZ (Oi vs.length)).toList=Oi vs.length from rfl,yw] at hr;have eo:(LI (Mf.mk' general' (vs.toArray.zip vs.toArray) #[] 7 none)).map (·.2)=vs.toArray:=by
   show (vs.toArray.zip vs.toArray).map (·.2)=vs.toArray;apply Array.ext
   .simp
   .intro i h1 h2;simp
  rw [eo];refine we (Pg F rfl (we (NX F rfl ?_ (Mu _) (by rw [hz];exact Po big))));simp only [bne_self_eq_false,Nm,if_false];exact Ls hr
 .rw [if_neg h2,if_neg h2];have U:2<=vs.length:=by lia
  refine we (hk _ _ S U ?_);have run:=Lc O (N:=vs.length) 'l';have wp:=yb (cmp:=kas_ask prog w A κ vs) (s:={ s with heap:=((s.heap.update a (Nu λ_=>(#[]:Array Value))).push (Ms "tuple" vs.toArray 0)).push (Ms "list" #[] 0) }) (hl _ · · · S) (Q:=λp s'=>s'={ s with heap:=((s.heap.update a (Nu λ_=>(#[]:Array Value))).push (Ms "tuple" vs.toArray 0)).push (Ms "list" #[] 0) }/\PM vs.length p/\Ri lt p vs.length) (cu (λp q=>{rfl,q}) run);refine we (MK (kat_run (E:=E) (Q:=λst' s'=>∃p:Array Nat,p.size=vs.length/\LI st'=p.map (kas_item (vs.toArray.zip vs.toArray))/\ND st'=none/\s'={ s with heap:=((s.heap.update a (Nu λ_=>(#[]:Array Value))).push (Ms "tuple" vs.toArray 0)).push (Ms "list" #[] 0) }/\PM vs.length p/\Ri lt p vs.length) rfl U YF (λp st' s' a1 a2 a3 Z=>⟨p,a1,a2,a3,Z⟩) wp) ?_ λ_ _ z=>z);rintro ⟨⟨⟩,st'⟩ s' ⟨p,hp,J,hf,rfl,pm,W⟩;dsimp only;have XH:=kat_snds rfl J;rw [XH,hf];refine we (Pg F rfl (we (NX F rfl ?_ (Mu _) (by rw [LJ,Ln,Mi,hp];exact Po big))));simp only [bne_self_eq_false,Nm,if_false];exact Ls (h p pm W)
theorem Df{lt:Nat->Nat->Bool}(O:bK lt)(G:s.heap.IsList l vs.toArray)(YF:vs.length<64)(U:∀(h':Heap)(Q:SortKind->Lk->Prop),(∀b o,s.heap.get? b=some o->h'.get? b=some o)->2<=vs.length->Q κ { s with heap:=h' }->LM (LH prog w) A.in1.in1 (keyKind' vs.toArray) Q E { s with heap:=h' })(hl:∀(h':Heap) i j C,(∀b o,s.heap.get? b=some o->h'.get? b=some o)->i<vs.length->j<vs.length->C (lt i j) { s with heap:=h' }->kas_ask prog w A.in1.in1 κ vs i j C { s with heap:=h' })(h:∀p:Array Nat,PM vs.length p->Ri lt p vs.length->Q (.ref (s.heap.objs.size+1)) { s with heap:=sortedAll s.heap vs (QZ (p.toList.map λi=>vs.getD i Mj)) }):
  LM (LH prog w) A (call (.builtin "sorted") [.ref l]) Q E s:=by
 refine call_function_entry kind_sorted plain_sorted entry_sorted (args_sorted1 _) ?_;unfold LQ.«sorted»
 refine we (m:=checkCount "sorted" 1 1 _) (Ls (we (collect_list G (we (O2 ?_ (by rw [Mr];lia))) (by rw [Mr];lia))));have hsz:((s.heap.push (Ms "list" #[] 0)).update s.heap.objs.size (Nu (·++vs.toArray))).objs.size=s.heap.objs.size+1:=(QW ..).trans (Qh ..);have F:(((s.heap.push (Ms "list" #[] 0)).update s.heap.objs.size (Nu (·++vs.toArray))).push (Ms "list" vs.toArray 0)).get? (s.heap.objs.size+1)=some (Ms "list" vs.toArray 0):=hsz ▸ LO _ rfl;have keep:∀b o,s.heap.get? b=some o->(((s.heap.push (Ms "list" #[] 0)).update s.heap.objs.size (Nu (·++vs.toArray))).push (Ms "list" vs.toArray 0)).get? b=some o:=λb o q=>by
  refine Lm _ ?_;rw [P6 _ _ _ _ (MA (LX q))];exact Lm _ q
 show LM _ _ _ _ _ { s with heap:=((s.heap.push (Ms "list" #[] 0)).update s.heap.objs.size (Nu (·++vs.toArray))).push (Ms "list" vs.toArray 0) };rw [hsz];have ne:∀b o,s.heap.get? b=some o->b≠s.heap.objs.size+1:=λb o e=>MA (NW (LX e));refine we (Mn (M4 slot_list_sort {_,F,rfl} entry_list_sort (KN (κ:=κ) O (s:={ s with heap:=((s.heap.push (Ms "list" #[] 0)).update s.heap.objs.size (Nu (·++vs.toArray))).push (Ms "list" vs.toArray 0) }) F YF (λh' Q k J q=>?_) (λh' i j C k hi Z q=>?_) λp W S=>{_,rfl,Ls {_,rfl,h p W S}}) (args_list_sort _)))
 .exact MK (U h' Q (λb o e=>k b o (ne b o e) (keep b o e)) J q) (λ_ _ z=>z) λ_ _ z=>z
 .exact hl h' i j C (λb o e=>k b o (ne b o e) (keep b o e)) hi Z q
end
def ltP(p q:Int×Int):Bool:=decide (p.1<q.1)||(decide (p.1=q.1)&&decide (p.2<q.2))
theorem pA{p q:Int×Int}:ltP p q=false↔q.1<p.1\/(p.1=q.1/\q.2<=p.2):=by
 unfold ltP;simp only [Bool.or_eq_false_iff,Bool.and_eq_false_iff,decide_eq_false_iff_not];lia
theorem Io{p q:Int×Int}:ltP p q=true↔p.1<q.1\/(p.1=q.1/\p.2<q.2):=by
 unfold ltP;simp only [Bool.or_eq_true,Mw,decide_eq_true_eq]
theorem Ae(f:Nat->Int×Int):bK λi j=>ltP (f i) (f j):={λi j h=>by rw [Io] at h;rw [pA];lia,λi j k h1 h2=>by rw [pA] at *;lia}
def fG(H:Hp)(a:Addr)(p:Int×Int):Prop:=H a=some (.tup [.int p.1,.int p.2])
theorem iR{α β:Type}{R:α->β->Prop}:∀{l:List α}{m:List β},l.length=m.length->(∀(i:Nat) a b,l[i]?=some a->m[i]?=some b->R a b)->Paired R l m
 | [],[],_,_=>.nil
 | [],_::_,h,_=>absurd h 's'
 | _::_,[],h,_=>absurd h 's'
 | a::l,b::m,h,f=>.cons (f 0 a b rfl rfl) (iR (by simpa using h) λi x y hx z=>f (i+1) x y hx z)
theorem wu{α β:Type}{R:α->β->Prop}{l:List α}{m:List β}{x:α}{y:β}(h:Paired R l m):∀{ix:List Nat},(∀i∈ix,i<l.length)->Paired R (ix.map λi=>l.getD i x) (ix.map λi=>m.getD i y)
 | [],_=>.nil
 | i::ix,hi=>by
  have h1:i<l.length:=hi i (LN ..);have h2:i<m.length:=by rw [<- aN h];exact h1
  refine .cons ?_ (wu h λj z=>hi j (LA _ z));show R (l.getD i x) (m.getD i y);rw [Lr,Lr,KE h1,KE h2];exact aX h (KE h1) (KE h2)
theorem PM.mem{p:Array Nat}(h:PM N p):∀i∈p.toList,i<N:=λi hi=>by
 have m:i∈QZ (Oi N):=h.perm.mem_iff.mp (by simpa using hi);simpa using m
theorem PM.perms{α:Type}{p:Array Nat}(h:PM N p){l:List α}(hl:l.length=N)(d:α):(p.toList.map λi=>l.getD i d).Perm l:=by
 have e:p.toList.Perm (Oi N):=by have:=N9.mp h.perm;simpa using this
 have:=e.map λi=>l.getD i d;rw [<- hl,yw] at this;exact this
theorem A6{α:Type}{p:Array Nat}(h:PM N p){l:List α}{d:α}{f:α->α->Bool}(r:Ri (λi j=>f (l.getD i d) (l.getD j d)) p N):(p.toList.map λi=>l.getD i d).Pairwise λa b=>f b a=false:=by
 rw [M9];intro i j hi z F;rw [Ln,Mi] at hi z;have:=r i j (Nq F) (by rw [<- h.size];exact z);simp only [ox] at this;simp only [List.getElem_map,OQ];rw [Qt hi,Qt z] at this;exact this
def yD:List V->Hp->VK->Prop:=λxs H Q=>uR1 xs λl=>∃(as:List Addr)(ps:List (Int×Int)),H l=some (.lst (as.map V.ref))/\Paired (fG H) as ps/\as.length<64 /\
 ∀D F z H2,New H D (.lst (F.map V.ref)) H2->D≠sysModules->Paired (fG H) F z->z.Perm ps->z.Pairwise (λa b=>ltP b a=false)->Q (.ref D) H2
theorem CK:yD [.ref l] H Q = ∃(as:List Addr)(ps:List (Int×Int)),H l=some (.lst (as.map V.ref))/\Paired (fG H) as ps/\as.length<64 /\
 ∀D F z H2,New H D (.lst (F.map V.ref)) H2->D≠sysModules->Paired (fG H) F z->z.Perm ps->z.Pairwise (λa b=>ltP b a=false)->Q (.ref D) H2:=fH
section
variable {X:Cx}
theorem wt{p:Int×Int}(I:Inv X Go σ H s)(e:fG H a p):∃o n t u,s.heap.get? a=some o/\o.cls = .type "tuple"/\o.data = .seq #[.int p.1 t,.int p.2 u] n:=by
 obtain ⟨_,its,U,ob,g1,G,n,O⟩:=I.hok a _ e;cases U with
 | cons F z =>
 cases z with
 | cons S J =>
 cases J;obtain ⟨t,rfl⟩:=F;obtain ⟨u,rfl⟩:=S;exact ⟨ob,n,t,u,g1,G,O⟩
theorem Gv(I:Inv X Go σ H s)(k:∀b o,s.heap.get? b=some o->h'.get? b=some o)(h:Paired (fG H) as ps):∃fs,KatTups h' (as.map Lx) fs/\fs.length=as.length/\∀v∈fs,∃n t,v=N6 n t:=by
 induction h with
 | nil=>exact {[],.nil,rfl,'s'}
 | cons r _ G =>
  obtain ⟨fs,h1,h2,h3⟩:=G;obtain ⟨o,n,t,u,g1,J,F⟩:=wt I r;refine {.int _ t::fs,KatTups.cons (k _ _ g1) J F rfl h1,by simp [h2],λv z=>?_};rcases Lu.mp z with rfl|z
  .exact {_,_,rfl}
  .exact h3 v z
theorem FP:zI X (.builtin "sorted") yD:=by
 intro Go s σ H xs us Q I r h;obtain ⟨l,rfl,as,ps,hl,O,YF,q⟩:=h;obtain ⟨u,rfl,ru⟩:=cg r;cases ru;obtain ⟨its,rv,⟨o,n,e1,e2,e3,e4⟩,hz⟩:=I.list (SqL.of hl);have J:=xU rv;subst J;have lp:=aN O;refine Df (κ:=tuples' true) (Ae λi=>ps.getD i (0,0)) ⟨o,e1,e2,n,e4⟩ (by rw [Ln];exact YF) (λh' Q' k n2 q'=>?_) (λh' i j C k hi W F=>?_) λp pm S=>?_
 .obtain ⟨fs,t1,t2,t3⟩:=Gv I k O;refine kat_kind (T:=.type "int") t1 (by rw [t2];rw [Ln] at n2;lia) (λv hv=>?_) 'd' (by rw [show (type "int" != type "tuple")=true by decide];exact q');obtain ⟨n,t,rfl⟩:=t3 v hv;exact .now
 .rw [Ln] at hi W;have get:∀i,i<as.length->∃a t u,(as.map Lx).getD i Mj = .ref a/\∃o n,h'.get? a=some o/\o.data = .seq #[.int (ps.getD i (0,0)).1 t,.int (ps.getD i (0,0)).2 u] n:=λi hi=>by
   have G:i<ps.length:=by lia
   obtain ⟨o,n,t,u,g1,_,g3⟩:=wt I (aX O (KE hi) (KE G));refine {as[i],t,u,by rw [Lr,LP,KE hi];rfl,o,n,k _ _ g1,?_};rw [Lr,KE G];exact g3
  obtain ⟨a,t,u,ea,oa,na,ga,da⟩:=get i hi;obtain ⟨b,t',u',eb,ob,nb,gb,db⟩:=get j W;unfold kas_ask;rw [ea,eb];generalize ps.getD i (0,0)=x at *
  generalize ps.getD j (0,0)=y at *
  refine kat_lt ga da gb db (kat_cons (wpAny_eqBool_int ?_));by_cases z:x.1=y.1
  .rw [show (x.1==y.1)=true by simpa using z];refine kat_yes (kat_cons (wpAny_eqBool_int ?_));by_cases U:x.2=y.2
   .rw [show (x.2==y.2)=true by simpa using U];refine kat_yes (kat_nil ?_);have e:ltP x y=false:=by rw [pA];lia
    rw [e] at F;exact F
   .rw [show (x.2==y.2)=false by simpa using U];refine kat_no (kat_one _ _ (PyProof.Rows.lt_int ?_));have e:ltP x y=decide (x.2<y.2):=by unfold ltP;rw [z];simp
    rw [e] at F;exact F
  .rw [show (x.1==y.1)=false by simpa using z];refine kat_no (oneLt_int ?_);have e:ltP x y=decide (x.1<y.1):=by unfold ltP;simp [z]
   rw [e] at F;exact F
 .rw [Ln] at pm S;have hm:=pm.mem;have eo:(p.toList.map λi=>(as.map Lx).getD i Mj)=(p.toList.map λi=>as.getD i 0).map Lx:=by
   rw [Mv];refine NZ λi hi=>?_;show (as.map Lx).getD i Mj=Lx (as.getD i 0);have:=hm i hi;rw [Lr,Lr,LP,KE this];rfl
  obtain ⟨e,he⟩:=sortedAll_at s.heap (as.map Lx) (QZ (p.toList.map λi=>(as.map Lx).getD i Mj));have Z:(p.toList.map λi=>as.getD i 0).length=as.length:=by rw [Ln,Mi,pm.size]
  refine {.ref (s.heap.objs.size+1),upd H (s.heap.objs.size+1) (.lst ((p.toList.map λi=>as.getD i 0).map V.ref)),I.laid (t':=s.toks) (λb o e=>sortedAll_old e) (Q5 _) {by rw [Ln,Z,Mr];lia,(p.toList.map λi=>as.getD i 0).map Lx,e,um _,by rw [<- eo];exact he},rfl,?_};exact q _ (p.toList.map λi=>as.getD i 0) (p.toList.map λi=>ps.getD i (0,0)) _ (.mk' (I.hok.fresh (Q5 _))) (Ob (NW I.big)) (wu O hm) (pm.perms lp.symm (0,0)) (A6 pm S)
def ik(kvs:List (Int×V)):List (Key×V):=kvs.map λp=>(.inl p.1,p.2)
def ue:List V->Hp->VK->Prop:=λxs H Q=>uR1 xs λa=>∃kvs:List (Int×V),Rd H a (.dK (ik kvs))/\kvs.length<3000/\∀p (ns:List Int) H2,New H p (.lst (ns.map V.int)) H2->ns.Perm (kvs.map (·.1))->ns.Pairwise (·<=·)->Q (.ref p) H2
theorem Aa:ue [.ref a] H Q = ∃kvs:List (Int×V),Rd H a (.dK (ik kvs))/\kvs.length<3000/\∀p (ns:List Int) H2,New H p (.lst (ns.map V.int)) H2->ns.Perm (kvs.map (·.1))->ns.Pairwise (·<=·)->Q (.ref p) H2:=fH
theorem tR:∀{vs:List Value}{ns:List Int},vs.length=ns.length->(∀(j:Nat)(v:Value),vs[j]?=some v->∃t,v=N6 (ns.getD j 0) t)->PK vs ns
 | [],[],_,_=>.nil
 | [],_::_,h,_=>absurd h 's'
 | _::_,[],h,_=>absurd h 's'
 | v::vs,x::ns,h,f=>by
  obtain ⟨t,e⟩:=f 0 v rfl;have F:v=N6 x t:=e;rw [F];exact .cons x t (tR (by simpa using h) λj u z=>f (j+1) u z)
theorem JC(hc:X.calm=true):zI X (.builtin "sorted") ue:=by
 intro Go s σ H xs us Q I r h;obtain ⟨a,rfl,kvs,hq,YF,q⟩:=h;obtain ⟨u,rfl,ru⟩:=cg r;cases ru;obtain ⟨z,hd,vs,YH,dd⟩:=dX I.hok hq;obtain ⟨ep,S⟩:=dd.dictAt;have Z:vs.length=kvs.length:=by rw [<- YH.length];simp [ik]
 refine call_function_entry kind_sorted plain_sorted entry_sorted (args_sorted1 _) ?_;unfold LQ.«sorted»
 refine we (m:=checkCount "sorted" 1 1 _) (Ls (we (kdu_collect (A:=X.A.in1) (kdl_dict (knd:=ax X.prog X.w) (kvs:=vs) (ep:=ep) hd) (I.ok.hd hc) S (by rw [Z,Mr];lia) λh' tk ZD U XD=>?_)));have hl:ZD.toList.length=kvs.length:=by rw [Mi,<- Z];exact XD.1
 have hS:PK ZD.toList (kvs.map (·.1)):=tR (by rw [hl,Ln]) λj v hv=>by
  obtain ⟨k,x,hx,U⟩:=XD.2 j v (by rw [<- MH];exact hv);have hj:j<vs.length:=(Lp.mp hx).1;have W7:j<kvs.length:=by lia
  have O:(ik kvs)[j]?=some (.inl kvs[j].1,kvs[j].2):=by simp [ik,W7]
  obtain ⟨u',J,_⟩:=YH.at O;rw [hx] at J;cases J;rcases dJ (show fR (Sum.inl kvs[j].1) v=true from U) with ⟨i,t,e1,O⟩|⟨y,t,e1,O⟩
  .cases e1;exact {t,by rw [O,Lr,LP,KE W7];rfl}
  .cases e1
 have I1:Inv X Go σ H { s with heap:=h',toks:=tk }:=I.kept U;refine we (O2 ?_ (by rw [hl,Mr];lia));have F:(h'.push (Ms "list" ZD.toList.toArray 0)).get? h'.objs.size=some (Ms "list" ZD.toList.toArray 0):=LO _ rfl;refine we (Mn (M4 slot_list_sort {_,F,rfl} entry_list_sort (Ts.sort_any F hS (by rw [hl];exact YF) λout G b1 b2 b3=>{_,rfl,?_}) (args_list_sort _)));obtain ⟨c,W⟩:=sortedHeap_at (vs:=ZD.toList) (out:=out) F;refine Ls {_,rfl,.ref h'.objs.size,upd H h'.objs.size (.lst (G.map V.int)),I1.laid (a:=h'.objs.size) (t':=tk) (λb o e=>?_) (Ll _) {?_,out.toList,c,sP b1,by rw [Array.toArray_toList];exact W},rfl,q _ G _ (.mk' (I1.hok.fresh (Ll _))) b2 b3}
 .have hb:b<h'.objs.size:=LX e;rw [sortedHeap_old (MA hb) (by rw [Qh];exact NW hb)];exact Lm _ e
 .have:=b2.length_eq;rw [Ln,this,Ln,Mr];lia
end
theorem A1{pos:Pos}{tk tv:TE}(hc:c=true->X.calm=true)(L:ah X sc N' ix)(hi:W (PIc c X tg iter wi))(hg:∀Go C fp s H,W (PG (zK X sc N' Go C fp s H) tg g))(S:∀Go C fp s H,W (PTs (zK X sc N' Go C fp s H) F tt))(O:∀Go C fp s H,W (PE (zK X sc N' Go C fp s H) G tk))(J:∀Go C fp s H,W (PE (zK X sc N' Go C fp s H) z tv))(hs:∀x,NC iter X.env x=pure x:=by intro _;rfl):W (PE X (.DictComp G z [{tg,iter,F,0}] sc pos) (tDC ix wi g tt tk tv)):={Bs hc L hi.h (λa b c d e=>(hg a b c d e).h) (λa b c d e=>(S a b c d e).h) (λa b c d e=>(O a b c d e).h) (λa b c d e=>(J a b c d e).h) hs}
theorem Ks:rS (.ref a) (.int i) H Q = ∃kvs,Rd H a (.dK kvs)/\∃v,zW kvs (.inl i)=some v/\Q v H:=by
 apply propext;constructor
 .rintro ⟨F,k,kvs,v,e1,z,h1,h2,q⟩;cases e1;cases k with
  | inl j=>cases z;exact ⟨kvs,h1,v,h2,q⟩
  | inr x=>cases z
 .rintro ⟨kvs,h1,v,h2,q⟩;exact {a,.inl i,kvs,v,rfl,rfl,h1,h2,q}
section
variable {K:Lq}{g:TG}{tt:TT}{te tk tv:TE}{σ:St}{H:Hp}{wi:TI}{ix:List (Option Nat)}{Q:VK}
def kX(J:It)(g:TG)(tt:TT)(tk tv:TE)(τ:St)(H:Hp)(Q:VK):Prop:=∃W:Nat->Nat->St->List (Key×V)->Hp->Prop,(∃m,W 0 m τ [] H)/\∀i m τ ys H2,W i m τ ys H2->ys.length<sizeLine /\
 ((J.stop i H2 ∧ ∀ D, H2 D = none → D ≠ sysModules → Q (.ref D) (upd H2 D (.dK ys))) ∨
  (J.go i H2 ∧ ∀ x H3, J.Tr i H2 x H3 → g x τ H3 fun F H4 => tt F H4 fun ok H5 => if ok = true then tk F H5 fun y H6 => tv F H6 fun z H7 => uK y fun k => ∃ G, G < m ∧ W (i + 1) G F (aI ys k z) H7 else ∃ G, G < m ∧ W (i + 1) G F ys H5))
theorem C4:tDC ix wi g tt tk tv σ H Q=wi σ H λJ H1=>kX J g tt tk tv (cb ix σ) H1 Q:=rfl
def rV(N:St->List (Key×V)->Hp->Prop)(ys:List (Key×V))(F:St)(tk tv:TE)(ok:Bool)(H5:Hp):Prop:=if ok=true then tk F H5 λy H6=>tv F H6 λz H7=>uK y λk=>N F (aI ys k z) H7 else N F ys H5
theorem Jc:rV N ys τ tk tv true H=tk τ H λy H6=>tv τ H6 λz H7=>uK y λk=>N τ (aI ys k z) H7:=rfl
theorem Jl:rV N ys τ tk tv false H=N τ ys H:=rfl
theorem kX.lst{a:Addr}{xs:List V}{τ:St}(F:Nat->St->List (Key×V)->Hp->Prop)(S:∀i τ ys H,F i τ ys H->ys.length<sizeLine)(ha:∀i τ ys H,F i τ ys H->SqL K H a xs)(O:F 0 τ [] H)
  (hs:∀(N:St->List (Key×V)->Hp->Prop) i x τ ys H,xs[i]?=some x->F i τ ys H->(∀τ ys H,F (i+1) τ ys H->N τ ys H)->g x τ H λz H4=>tt z H4 λok H5=>rV N ys z tk tv ok H5) (hd:∀τ ys H,F xs.length τ ys H->∀D H',New H D (.dK ys) H'->Q (.ref D) H'):kX (Itl K a) g tt tk tv τ H Q:=by
 refine {λi m τ ys H=>m=xs.length-i/\i<=xs.length/\F i τ ys H,{xs.length,'s',Mu _,O},?_};rintro i m τ ys H2 ⟨rfl,hi,p⟩;refine {S i τ ys H2 p,?_};have q:=ha i τ ys H2 p;by_cases G:i<xs.length
 .refine .inr {{xs,xs[i],q,by simp [G]},λx H' y=>?_};obtain ⟨e,y⟩:=y;subst e;exact hs (λz ys H=>∃J,J<xs.length-i/\J=xs.length-(i+1)/\i+1<=xs.length/\F (i+1) z ys H) i x τ ys _ (y xs q) p λz zs H q=>{xs.length-(i+1),'l',rfl,G,q}
 .have e:i=xs.length:=by lia
  subst e;exact .inl {{xs,q,Ll _},λD U _=>hd τ ys H2 p D _ (.mk' U)}
theorem zZ.UN(F:Nat->St->List V->Hp->Prop)(S:∀i τ ys H,F i τ ys H->ys.length<sizeLine)(ha:∀i τ ys H,F i τ ys H->SqL K H a xs)(O:F 0 τ [] H)(hs:∀(N:St->List V->Hp->Prop) i x τ ys H,xs[i]?=some x->F i τ ys H->(∀τ ys H,F (i+1) τ ys H->N τ ys H)->g x τ H λz H4=>tt z H4 λok H5=>dU N ys z te ok H5)(hd:∀τ ys H,F xs.length τ ys H->∀D H',New H D (.lst ys) H'->D≠sysModules->Q (.ref D) H'):zZ (Itl K a) g tt te τ H Q:=by
 refine {λi m τ ys H=>m=xs.length-i/\i<=xs.length/\F i τ ys H,{xs.length,'s',Mu _,O},?_};rintro i m τ ys H2 ⟨rfl,hi,p⟩;refine {S i τ ys H2 p,?_};have q:=ha i τ ys H2 p;by_cases G:i<xs.length
 .refine .inr {{xs,xs[i],q,by simp [G]},λx H' y=>?_};obtain ⟨e,y⟩:=y;subst e;exact hs (λz ys H=>∃J,J<xs.length-i/\J=xs.length-(i+1)/\i+1<=xs.length/\F (i+1) z ys H) i x τ ys _ (y xs q) p λz zs H q=>{xs.length-(i+1),'l',rfl,G,q}
 .have e:i=xs.length:=by lia
  subst e;exact .inl {{xs,q,Ll _},λD U n=>hd τ ys H2 p D _ (.mk' U) n}
end
end L2
namespace L2
open PySem PySem.Spec PyProof.Rows
def Ris(xs:Array Nat):Prop:=∀i j,i<j->j<xs.size->xs.getD i 0<xs.getD j 0
structure Jm(bt:Bool)(t:SetTable):Prop where
 led:t.led = !bt
 dum:t.dummies = #[]
 ris:Ris t.place
def btW(w:LW):Bool:=w.params.followText "set-order"
def FC(e:Int×Value):Int:=Nv e.2
structure rj(prog:Ly)(w:LW)(h:Heap)(a:Addr)(ns:List Int):Prop where
 ex:∃o es ep t,h.get? a=some o/\o.ExactSet/\o.data = .set es ep t/\ElemsOf (PySem.intKind prog w) es.toList/\t.fits es.size=true/\Jm (btW w) t/\(es.toList.map FC).Perm ns
 few:ns.length<4000
section
variable {prog:Ly}{w:LW}{A:LV}{E:Value->Lk->Prop}{s:Lk}
theorem rj.at(x:rj prog w h a ns)(k:∀o,h.get? a=some o->h'.get? a=some o):rj prog w h' a ns :=
 let ⟨o,es,ep,t,ho,r⟩:=x.ex;{{o,es,ep,t,k o ho,r},x.few}
end
def oz(ns:List Int)(n:Int):List Int:=if n∈ns then ns else ns++[n]
section
variable {prog:Ly}{w:LW}{A:LV}{E:Value->Lk->Prop}{s:Lk}
structure SIt(h:Heap)(I a:Addr)(n ep:Nat)(first:Value)(i:Nat):Prop where
 ex:∃o,h.get? I=some o/\o.cls = .type "set_iterator"/\o.data = .fields #[first,.int i 0,.ref a,.int n 0,.int ep 0]
theorem SIt.at{n ep:Nat}(x:SIt h I a n ep first i)(k:∀o,h.get? I=some o->h'.get? I=some o):SIt h' I a n ep first i:=let ⟨o,ho,r⟩:=x.ex;{{o,k o ho,r}}
end
end L2
namespace L2
open PySem PySem.Spec PyProof.Rows PySem.W PySem.Calls
section
variable {prog:Ly}{w:LW}{A:LV}{E:Value->Lk->Prop}{s:Lk}
theorem lO{ns:List Int}(h:i<ns.length):(ns.take (i+1)).foldl oz []=oz ((ns.take i).foldl oz []) ns[i]:=by
 rw [MP,KE h,Q9];rfl
end
end L2
namespace L2
open PySem PySem.Spec PyProof.Rows
section
variable {X:Cx}
def uG:List V->Hp->VK->Prop:=λxs H Q=>∃j:Int,xs=[.int j]/\∀p H2,New H p (.rng 0 j) H2->Q (.ref p) H2
theorem CY:uG [.int j] H Q = ∀p H2,New H p (.rng 0 j) H2->Q (.ref p) H2:=by
 apply propext;constructor
 .rintro ⟨z,e,h⟩;cases e;exact h
 .exact λh=>{j,rfl,h}
theorem yZ:zI X (.type "range") uG:=by
 intro Go s σ H xs us Q I r h;obtain ⟨j,rfl,q⟩:=h;obtain ⟨u,rfl,z⟩:=cg r;obtain ⟨t,rfl⟩:=z;refine call_range_1 ?_;exact {.ref s.heap.objs.size,upd H s.heap.objs.size (.rng 0 j),I.laid (a:=s.heap.objs.size) (t':=s.toks+1+1) (λb o e=>Lm _ e) (Ll _) {_,_,_,LO _ rfl},rfl,q _ _ (.mk' (I.hok.fresh (Ll _)))}
def uE:List V->Hp->VK->Prop:=λxs H Q=>uR1 xs λr=>∃n:Nat,H r=some (.rng 0 n)/\n<=1000000/\∀p H2,New H p (.lst ((Oi n).map λ(i:Nat)=>V.int i)) H2->Q (.ref p) H2
theorem Cg{r:Addr}:uE [.ref r] H Q = ∃n:Nat,H r=some (.rng 0 n)/\n<=1000000/\∀p H2,New H p (.lst ((Oi n).map λ(i:Nat)=>V.int i)) H2->Q (.ref p) H2:=fH
theorem Fc(hc:X.calm=true):zI X (.type "list") uE:=by
 intro Go s σ H xs us Q I r h;obtain ⟨a,rfl,n,ha,O,q⟩:=h;obtain ⟨u,rfl,W⟩:=cg r;cases W;obtain ⟨t,u,v,e⟩:=I.hok a _ ha;refine call_list_range (n:=n) (I.ok.hd hc) e ?_ ?_ (L8 O 'd') λh' tk z c' S F G=>?_
 .exact small_one 'l' 'l' 'l' 'l'
 .rw [rangeSize_one];split<;>lia
 have hl:z.toList.length=n:=by rw [Mi];exact G.1
 refine {.ref s.heap.objs.size,upd H s.heap.objs.size (.lst ((Oi n).map λ(i:Nat)=>V.int i)),I.laid (a:=s.heap.objs.size) (t':=tk) S (Ll _) {by rw [Ln,OX];exact L8 O 'd',z.toList,c',uq ?_ λj u J=>?_,by rw [Array.toArray_toList];exact F},rfl,q _ _ (.mk' (I.hok.fresh (Ll _)))}
 .rw [Ln,OX,hl]
 .obtain ⟨t',rfl⟩:=G.2 j u (by rw [<- MH];exact J);have U:j<n:=by rw [<- hl];exact (Lp.mp J).1
  refine {V.int j,by rw [LP,List.getElem?_range U];rfl,t',?_};congr 1;lia
def EqR(H:Hp)(x y:V)(b:Bool):Prop:=∃p q zs ws,x = .ref p/\y = .ref q/\H p=some (.tup zs)/\H q=some (.tup ws)/\zs.all zF=true/\ws.all zF=true/\b=eqL zs ws
theorem EqR.at(I:Inv X Go σ H s)(h:EqR H x y b)(rx:zo x u)(ry:zo y v)(hu:A.units<cLine):SeqAt.EqAt A s u v b:=by
 obtain ⟨p,q,xs,ys,rfl,rfl,ha,hb,J,fy,rfl⟩:=h;cases rx;cases ry;by_cases F:p=q
 .subst F;rw [ha] at hb;cases hb;rw [mI J λx hx b e=>by have:=Mx.mp J x hx;rw [e] at this;cases this];exact SeqAt.EqAt.same _
 obtain ⟨is,Z,p1,_⟩:=I.tuple (SqT.of (K:=X.K) ha);obtain ⟨G,W,p2,_⟩:=I.tuple (SqT.of (K:=X.K) hb);have l1:=Z.length;have l2:=W.length;have z:=SeqAt.RcAt.tuples (A:=A) (e:=λj=>eqV (xs.getD j .non) (ys.getD j .non)) p1 p2 hu λj h1 h2=>by
  simp only [LJ] at h1 h2;have e1:xs[j]?=some (xs.getD j .non):=by rw [Lr,KE 'l'];rfl
  have S:ys[j]?=some (ys.getD j .non):=by rw [Lr,KE 'l'];rfl
  obtain ⟨u,g1,q1⟩:=Z.get e1;obtain ⟨v,O,q2⟩:=W.get S;rw [KE h1] at g1;rw [KE h2] at O;have w1:is.toArray[j]=u:=by simpa using Mm.inj g1
  have w2:G.toArray[j]=v:=by simpa using Mm.inj O
  rw [w1,w2];exact iE q1 q2 (Mx.mp J _ (LF e1)) (Mx.mp fy _ (LF S))
 have e:eqL xs ys=((Oi (min is.toArray.size G.toArray.size)).all (λj=>eqV (xs.getD j .non) (ys.getD j .non))&&is.toArray.size==G.toArray.size):=by
  unfold eqL;simp only [LJ];rw [l1,l2];by_cases U:is.length=G.length
  .rw [U];simp
  .have z:(is.length==G.length)=false:=by simpa using U
   rw [z,Pp,Rl]
 rw [e];exact .of_refs F z
end
end L2
namespace L2
open PySem PySem.Spec PyProof.Rows PySem.W PySem.Calls
end L2
namespace L2
open PySem PySem.Spec PyProof.Rows
section
variable {prog:Ly}{w:LW}{A:LV}{E:Value->Lk->Prop}{s:Lk}
theorem JD(U:Hnd A s.heap)(J:s.heap.IsListIter it l i)(hl:s.heap.IsList l items)(hx:items[i]?=none)(k:∀h',ExtBut it s.heap h'->Q none { s with heap:=h' }):LM (LH prog w) A (Pj (.ref it)) Q E s:=by
 obtain ⟨o,ho,hc,hd⟩:=id J;obtain ⟨Z,G,_,nl,F⟩:=hl;unfold Pj;refine we (Of (MI (name:=Lo "__next__") J.typeIs slot_listiter_next (M4 slot_listiter_next J.typeIs entry_listiter_next ?_ (args_listiter_next _))));refine we (m:=Ql (.ref it) 0) (Md ho hd (x:=.ref l) rfl ?_);rw [if_neg (show ¬ ((Lx l==Mj)=true) by simp)];refine we (m:=Ql (.ref it) 1) (Md ho hd (x:=.int i 0) rfl (we (m:=seqItems? (.ref l)) (NP G F ?_)));simp only [Nb,hx];refine we (Ng (we (Nl ho hd 's' ?_)));refine kK (U.keeps λb q S e=>(Mq _ _ λz=>?_).trans e) λh' e W=>x3e λo' g' c' =>
  we (Pu (T:="StopIteration") (b:=true) ⟨o',g',c'⟩ Qj (Ls (k h' λb q hb z=>W b q ((Mq _ _ (L9 hb)).trans z))))
 obtain ⟨C,O⟩:=S;rw [<- z,ho] at e;cases e;rw [hc] at O;cases O
theorem E7{x left step:Int}(S:Hnd A s.heap)(J:PY s.heap it x left step)(G:left<=0)(k:∀h',ExtBut it s.heap h'->Q none { s with heap:=h' }):LM (LH prog w) A (Pj (.ref it)) Q E s:=by
 have O:s.TypeIs (.ref it) "range_iterator":={_,J,rfl};unfold Pj;refine we (Of (MI (name:=Lo "__next__") O F.slot_range_iterator_next (M4 F.slot_range_iterator_next O F.entry_range_iterator_next ?_ (F.args_range_iterator_next_1 _))));refine we (m:=Ql (.ref it) 0) (Md J rfl (x:=MX x) rfl ?_);refine we (m:=Ql (.ref it) 1) (Md J rfl (x:=MX left) rfl ?_);refine we (m:=Ql (.ref it) 2) (Md J rfl (x:=MX step) rfl ?_);show LM _ _ (if left<=0 then _ else _) _ _ s;rw [if_pos G];refine we (Ng (we ?_));exact kK S λh' e U=>x3e λo' g' c' =>
  we (Pu (T:="StopIteration") (b:=true) ⟨o',g',c'⟩ Qj (Ls (k h' λb q hb z=>U b q z)))
end
theorem Do{P:Ly}{w:LW}{K:Lq}{tg:Mc}(a it:Addr):dF false P w K tg (Itl K a) [it] it (λi h=>h.IsListIter it a i) where
 mem:=by simp
 obj:=(lh (P:=P) (w:=w) (K:=K) (tg:=tg) a it).obj
 keep:=(lh (P:=P) (w:=w) (K:=K) (tg:=tg) a it).keep
 item:=by
  intro X O G S hc i Go s σ H E I hf st hg;subst O G S;obtain ⟨xs,x,z,hx⟩:=hg;obtain ⟨its,U,p,hz⟩:=I.list z;obtain ⟨u,hu,ru⟩:=U.get hx;obtain ⟨f0,f1,f2,W,F,J⟩:=hf it 's';refine wpAny_pyNext_list_item st p.isList (x:=u) (by simpa using hu) λh' st' sb=>?_;have I1:Inv X Go σ H { s with heap:=h' }:=I.turned (t':=s.toks) (λb o hb e=>(sb.2 b hb).trans e) f0 f1 W F J;obtain ⟨o,e,c,d⟩:=id st';exact {u,rfl,gK (s:={ s with heap:=h' }) e c d 'd' {x,H,I1,ru,{rfl,λys hy=>by rw [I.RF hy z];exact hx},st',λb hb=>(hf b hb).1}}
 done:=by
  intro X O G S hc i Go s σ H E I hf st hg;subst O G S;obtain ⟨xs,z,hx⟩:=hg;obtain ⟨its,U,p,hz⟩:=I.list z;obtain ⟨f0,f1,f2,W,F,J⟩:=hf it 's';have hl:=U.length;exact JD I.hnd st p.isList (by simp;lia) λh' Z=>{rfl,I.turned (t':=s.toks) (λb o hb e=>Z b o hb e) f0 f1 W F J}
 self:=λ_ _ _ _ _ st h=>wpAny_pyIter_listiter st h
theorem DJ{P:Ly}{w:LW}{K:Lq}{tg:Mc}(it:Addr)(lo:Int)(n:Nat):dF false P w K tg (Itr lo n) [it] it (λi h=>PY h it (lo+(i:Nat)*1) ((n:Int)-(i:Nat)) 1) where
 mem:=by simp
 obj:=(qz (P:=P) (w:=w) (K:=K) (tg:=tg) it lo n).obj
 keep:=(qz (P:=P) (w:=w) (K:=K) (tg:=tg) it lo n).keep
 item:=by
  intro X J F O hc i Go s σ H E I hf st hg;subst J F O;obtain ⟨f0,f1,f2,S,z,G⟩:=hf it 's';have hg:i<n:=hg;refine wpAny_pyNext_range_item st 'l' λh' st' W=>?_;have Z:Inv X Go σ H { s with heap:=h',toks:=s.toks+1 }:=I.turned (λb o hb e=>(W.2 b hb).trans e) f0 f1 S z G;have st':PY h' it (lo+((i+1:Nat):Int)*1) ((n:Int)-((i+1:Nat):Int)) 1:=by
   rw [show lo+((i+1:Nat):Int)*1=lo+(i:Int)*1+1 by lia,show (n:Int)-((i+1:Nat):Int)=(n:Int)-(i:Int)-1 by lia];exact st'
  refine {_,rfl,gK (s:={ s with heap:=h',toks:=s.toks+1 }) (n:="range_iterator") st' rfl rfl 'd' {.int (lo+i),H,Z,{s.toks,?_},{rfl,rfl},st',λb hb=>(hf b hb).1}};rw [Int.mul_one]
 done:=by
  intro X J F O hc i Go s σ H E I hf st hg;subst J F O;obtain ⟨f0,f1,f2,S,z,G⟩:=hf it 's';exact E7 I.hnd st (by have:n<=i:=hg;lia) λh' U=>{rfl,I.turned (t':=s.toks) (λb o hb e=>U b o hb e) f0 f1 S z G}
 self:=λ_ _ _ _ _ st h=>wpAny_pyIter_rangeiter st h
section
variable {X:Cx}{tg:Mc}
theorem BD(hl:PE X l tl):PIc false X tg l (hZ X.K tl):=by
 intro Go s σ H R I h;refine thn (hl Go s σ H _ I h) λv s1=>x5e λx H1 z J G=>?_;obtain ⟨a,e,⟨xs,F⟩,q⟩:=G;subst e;cases J;obtain ⟨its,O,p,S⟩:=z.list F;refine OH p.isList ?_;refine {s1.heap.objs.size,[s1.heap.objs.size],_,_,H1,rfl,z.kept (t':=s1.toks) λb o e=>Lm _ e,Do a _,{_,LO _ rfl,rfl,rfl},λb hb=>?_,q};have e:b=s1.heap.objs.size:=by simpa using hb
 subst e;exact z.RV (Ll _) (z.hok.fresh (Ll _))
theorem CO{p pos:Pos}(hg:Gl X "range")(hm:X.mg "range"=none)(ha:PA X [a] ta)(W:ak a=true:=by rfl):PIc false X tg (.Call (.Name "range" p) [a] [] pos) (iW ta):=by
 intro Go s σ H R I h;refine Call_ (d8 I hg hm boot_range (Nx (thn (ha pos Go s σ H _ I h) λus s1=>x5e λvs H1 S U z=>?_) (c8 W) rfl));obtain ⟨j,e,z,O,q⟩:=z;subst e;cases U with
 | cons r J =>
  cases J;obtain ⟨t,rfl⟩:=r;refine call_range_1 (wpAny_pyIter_range (IsRange.new ..) (small_one 'l' 'l' z O) ?_);have F:Inv X Go σ H1 { s1 with heap:=s1.heap.push { cls:=.type "range",data:=.fields #[.int 0 s1.toks,.int j t,.int 1 (s1.toks+1)] },toks:=s1.toks+1+1 }:=S.kept λb o e=>Lm _ e;refine {_,[_],_,_,H1,rfl,F.kept (t':=s1.toks+1+1) λb o e=>Lm _ e,DJ _ 0 j.toNat,?_,λb hb=>?_,q}
  .have G:((j.toNat:Nat):Int)-((0:Nat):Int)=LQ.Range.rangeSize 0 j 1:=by rw [rangeSize_one];split<;>lia
   show PY _ _ (0+((0:Nat):Int)*1) (((j.toNat:Nat):Int)-((0:Nat):Int)) 1;rw [G];exact LO _ rfl
  .have e:b=_:=Lw.mp hb;subst e;exact F.RV (Ll _) (F.hok.fresh (Ll _))
theorem KJ(hl:W (PE X l tl)):W (PIc false X tg l (hZ X.K tl)):={BD hl.h}
theorem Av{p pos:Pos}(hg:Gl X "range")(hm:X.mg "range"=none)(ha:W (PA X [a] ta))(z:ak a=true:=by rfl):W (PIc false X tg (.Call (.Name "range" p) [a] [] pos) (iW ta)):={CO hg hm ha.h z}
end
def nJ(te:TE):TE:=λσ H Q=>te σ H λx H1=>uR x λa=>∃xs,H1 a=some (.lst xs)/\∀p H2,New H1 p (.lst xs.reverse) H2->Q (.ref p) H2
theorem HU{pos U p2 p3:Pos}(he:PE X e te):PE X (.Subscript e (.Slice none none (some (.UnaryOp .USub (.Constant (.int 1) j U) p3)) p2) pos) (nJ te):=by
 intro Go s σ H Q I h;refine Re (thn (he Go s σ H _ I h) λv s1=>x5e λx H1 I1 r1 Yo=>?_);obtain ⟨a,ex,xs,hx,q1⟩:=Yo;subst ex;cases r1;refine wpAny_Slice ?_;rw [evalPart_none];refine Ls (Ls ?_);rw [evalPart_some];refine thn (yB pH jI Go s1 σ H1 (λv H=>v = .int (-1)/\H=H1) I1 {1,rfl,rfl,rfl}) λvs z=>x5e λy H3 Z ry S=>?_;obtain ⟨ey,eH⟩:=S;subst ey eH;obtain ⟨t,rfl⟩:=ry;have F:Inv X Go σ H3 { z with heap:=z.heap.push { cls:=.type "slice",data:=.fields #[.none,.none,.int (-1) t] } }:=Z.kept (t':=z.toks) λb ob q=>Lm _ q;obtain ⟨its,r,J,O⟩:=F.list (SqL.of (K:=X.K) hx);refine tail_any (ops:=[.ref a,.ref z.heap.objs.size]) J.isList.typeIs Qv.lookup ?_ (by with_unfolding_all rfl);refine wpAny_getItem_list_slice J.isList (Heap.IsSliceOf.new ..) .none .none (.int (-1) t) 's' ?_ (by rw [LJ,<- r.length];exact O);generalize hp:(z.heap.push { cls:=.type "slice",data:=.fields #[.none,.none,.int (-1) t] })=G at F J ⊢;rw [PySem.W.krv_pick];exact {.ref G.objs.size,_,F.laid (t':=z.toks) (o:=.lst xs.reverse) (λb ob q=>Lm _ q) (Ll _) {by rw [List.length_reverse];exact O,_,0,r.reverse,LO _ rfl},rfl,q1 _ _ (.mk' (F.hok.fresh (Ll _)))}
theorem xC{pos z p2 F:Pos}(he:W (PE X e te)):W (PE X (.Subscript e (.Slice none none (some (.UnaryOp .USub (.Constant (.int 1) j z) F)) p2) pos) (nJ te)):={HU he.h}
section
variable {P:Ly}{w:LW}{K:Lq}{mg:Str->Option Value}{base:Heap}{k:Nat}{x:Str}{C:Addr}{ps:List Str}{sp:Sp}
theorem GF.weak(h:GF P w K mg base false k x ps sp):GF P w K mg base true k x ps sp:=let ⟨f,fd,F,r⟩:=h.ex;⟨f,fd,F.calm,r⟩
theorem GM.weak(h:GM P w K mg base false k C x ps sp):GM P w K mg base true k C x ps sp:=let ⟨f,fd,F,r⟩:=h.ex;⟨f,fd,F.calm,r⟩
theorem GC.weak(h:GC P w K mg base false k x C ps sp):GC P w K mg base true k x C ps sp:=let ⟨f,fd,F,r⟩:=h.ex;⟨f,fd,F.calm,r⟩
end
theorem Ax{α β:Type}{f:α->β}{a:α}{l:List α}:(a::l).map f=f a::l.map f:=rfl
theorem Fy{α β:Type}{f:α->β}:([]:List α).map f=[]:=rfl
theorem DV:(!true)=false:=rfl
theorem BM:(!false)=true:=rfl
theorem fsc(a:sc.kind = .function:=by rfl)(b:sc.isCoroutine=false:=by rfl)(c:sc.isGenerator=false:=by rfl)(d:N.Nodup:=by decide +kernel)(e:N.take P.length=P:=by rfl)(f:∀x∈P,sc.names.lookup x=some .local\/sc.names.lookup x=some .cell:=by decide +kernel)(g:∀y∈sc.names,y.2≠.free:=by decide +kernel):zq N P sc:=⟨a,b,c,d,e,f,g⟩
abbrev FnM(K:Lq)(x:Str)(st:Stmt):Prop:=∃f fd,Oh K LG x=some (some (.ref f))/\Fun K x x st f fd
abbrev au(K:Lq)(C:Addr)(m q:Str)(st:Stmt):Prop:=∃f fd,Nn K (.ref C) m=some (some (.ref f))/\isFn K (.ref f)=true/\Fun K m q st f fd
theorem u1{α:Type}{p:List α->Prop}(h:∀a,p [a]):∀us,us.length=1->p us
 | [a],_=>h a
theorem u2{α:Type}{p:List α->Prop}(h:∀a b,p [a,b]):∀us,us.length=2->p us
 | [a,b],_=>h a b
theorem u3{α:Type}{p:List α->Prop}(h:∀a b c,p [a,b,c]):∀us,us.length=3->p us
 | [a,b,c],_=>h a b c
theorem u4{α:Type}{p:List α->Prop}(h:∀a b c d,p [a,b,c,d]):∀us,us.length=4->p us
 | [a,b,c,d],_=>h a b c d
theorem u5{α:Type}{p:List α->Prop}(h:∀a b c d e,p [a,b,c,d,e]):∀us,us.length=5->p us
 | [a,b,c,d,e],_=>h a b c d e
section
variable {w:LW}{K:Lq}{mg:Str->Option Value}{h:Heap}{k:Nat}{x q:Str}{C:Addr}{ps:List Str}{sp:Sp}{st:Stmt} (P:Ly) (base:Heap) (cm:Bool)
abbrev BdA(x q:Str)(st:Stmt)(ps:List Str):Prop:=∀(kV G pm:Value)(z:Option Addr)(F ct:Value)(us:List Value),us.length=ps.length->bindArgs (fnOf x q (gI st) (dE st) (zk st) .none kV G pm z F ct) {us,[]}=pure (ps.zip us)
theorem gf(X:K.In h)(G:h.Ns LG mg)(m:FnM K x st)(o:∀f fd,Fun K x x st f fd->zp P w K mg base CX0 cm k f fd ps sp)(b:BdA x x st ps):GF P w K mg base cm k x ps sp:=let ⟨f,fd,a,F⟩:=m;{f,fd,o f fd F,Og X G a,F.kp,F.binds b}
theorem gx(X:K.In h)(G:h.Ns LG mg)(m:FnM K x st)(o:∀f fd,Fun K x x st f fd->zp P w K mg base (CXW P w) cm k f fd ps sp)(b:BdA x x st ps):GX P w K mg base cm k x ps sp:=let ⟨f,fd,a,F⟩:=m;{f,fd,o f fd F,Og X G a,F.kp,F.binds b}
theorem gm(m:au K C x q st)(o:∀f fd,Fun K x q st f fd->zp P w K mg base CX0 cm k f fd ps sp)(b:BdA x q st ps):GM P w K mg base cm k C x ps sp:=let ⟨f,fd,a,i,F⟩:=m;{f,fd,o f fd F,⟨a,i,F.kp⟩,F.binds b}
theorem gmx(m:au K C x q st)(o:∀f fd,Fun K x q st f fd->zp P w K mg base (CXW P w) cm k f fd ps sp)(b:BdA x q st ps):GMX P w K mg base cm k C x ps sp:=let ⟨f,fd,a,i,F⟩:=m;{f,fd,o f fd F,⟨a,i,F.kp⟩,F.binds b}
theorem gc(X:K.In h)(G:h.Ns LG mg)(c:Oh K LG x=some (some (.ref C)))(mk:makesIn K C=true)(z:P2 K (.ref C)=true)(m:au K C We q st)(o:∀f fd,Fun K We q st f fd->zp P w K mg base CX0 cm k f fd ps sp)(b:BdA We q st ps):GC P w K mg base cm k x C ps sp:=let ⟨f,fd,a,i,F⟩:=m;{f,fd,o f fd F,Og X G c,⟨mk,a,i,z⟩,F.binds b}
end
def iQ(i:Nat):TE:=λσ H Q=>match σ[i]? with|some (some v)=>Q v H|_=>False
def rID(C:Int->Int->Prop)(g:Int->Int->V):R2:=λx y H Q=>match x,y with | .int i,.int j=>C i j/\Q (g i j) H|_,_=>False
def wB(g:Int->Int->V):R2:=λx y H Q=>match x,y with | .int i,.int j=>Q (g i j) H|_,_=>False
section
variable {X:Cx}{f:Value->Value->Sem Value}{C:Int->Int->Prop}{g:Int->Int->V}
theorem pvD(i:Nat){pos:Pos}(hN:X.N[i]?=some x:=by rfl)(F:Vis X.env.scope x:=by first|exact LK rfl|exact QF (LK rfl)|exact QF (QF rfl))(hd:(x==("__debug__":Str))=false:=by decide)(z:(x==("__classdict__":Str))=false:=by decide):PE X (.Name x pos) (iQ i):=λGo s σ H Q I h=>pv i hN F hd z Go s σ H Q I (by
 unfold iQ at h;split at h
 .exact {_,by assumption,h}
 .exact h.elim)
theorem za(i:Nat){pos:Pos}(hN:X.N[i]?=some x:=by rfl)(F:Vis X.env.scope x:=by first|exact LK rfl|exact QF (LK rfl)|exact QF (QF rfl))(hd:(x==("__debug__":Str))=false:=by decide)(z:(x==("__classdict__":Str))=false:=by decide):W (PE X (.Name x pos) (iQ i)):={pvD i hN F hd z}
theorem oI(h:OpR X f (rI C g)):OpR X f (rID C g):=h.weak λx y H Q q=>by
 cases x<;>cases y<;>first|exact q.elim|exact {_,_,rfl,rfl,q}
theorem oI0(h:OpR X f (rI0 g)):OpR X f (wB g):=h.weak λx y H Q q=>by
 cases x<;>cases y<;>first|exact q.elim|exact {_,_,rfl,rfl,q}
end
section
variable {i j:Int}{H:Hp}{Q:VK}{C:Int->Int->Prop}{g:Int->Int->V}
theorem t6:rID C g (.int i) (.int j) H Q=(C i j/\Q (g i j) H):=rfl
theorem C8:wB g (.int i) (.int j) H Q=Q (g i j) H:=rfl
end
abbrev clT(t:TE):TE:=λσ H Q=>∃R:VK,t σ H R/\∀v H,R v H->Q v H
abbrev clR(r:R2):R2:=λx y H Q=>∃R:VK,r x y H R/\∀v H,R v H->Q v H
abbrev clA(t:TA):TA:=λσ H Q=>∃R:List V->Hp->Prop,t σ H R/\∀v H,R v H->Q v H
def bD(v:V)(q:Bool->Prop):Prop:=match v with | .bl c=>q c|_=>False
def aD(v:V)(q:Addr->Prop):Prop:=match v with | .ref a=>q a|_=>False
theorem HE:bD (.bl c) q=q c:=rfl
theorem Cn:aD (.ref a) q=q a:=rfl
theorem bD.ex(h:bD v q):∃c,v = .bl c/\q c:=by
 cases v<;>first|exact {_,rfl,h}|exact h.elim
theorem aD.ex(h:aD v q):∃a,v = .ref a/\q a:=by
 cases v<;>first|exact {_,rfl,h}|exact h.elim
def vp(t:TE):TT:=λσ H Q=>t σ H λx H1=>bD x λc=>Q c H1
def vW(ta tb:TE):TE:=λσ H Q=>ta σ H λx H1=>bD x λc=>if c=true then tb σ H1 Q else Q (.bl false) H1
def sX(ta:TE):TE:=λσ H Q=>ta σ H λx H1=>bD x λc=>Q (.bl (!c)) H1
def pQ(C:Addr)(m:Str)(sp:Sp)(E:XK)(ta:TE)(t:TA):TE:=λσ H Q=>ta σ H λx H1=>aD x λa=>∃dx fs,H1 a=some (.ins C dx fs)/\fs.lookup m=none/\t σ H1 λvs H2=>sp (.ref a::vs) H2 Q E
def nj(C:Addr)(m:Str)(sp:Sp)(Ex:Addr->St->Hp->Prop)(ta:TE)(t:TA):TE:=λσ H Q=>ta σ H λx H1=>aD x λa=>∃dx fs,H1 a=some (.ins C dx fs)/\fs.lookup m=none/\t σ H1 λvs H2=>sp (.ref a::vs) H2 Q (XE Ex σ)
def lU(sp:Sp)(E:XK)(t:TA):TE:=λσ H Q=>t σ H λvs H1=>sp vs H1 Q E
def wq(sp:Sp)(Ex:Addr->St->Hp->Prop)(t:TA):TE:=λσ H Q=>t σ H λvs H1=>sp vs H1 Q (XE Ex σ)
def xO(C:Addr)(ta:TE)(f:Str):TE:=λσ H Q=>ta σ H λx H1=>aD x λa=>∃dx fs v,H1 a=some (.ins C dx fs)/\fs.lookup f=some v/\Q v H1
def xM(C:Addr)(ta tv:TE)(f:Str):TS:=λD σ H=>tv σ H λy H1=>ta σ H1 λx H2=>aD x λa=>∃dx fs,H2 a=some (.ins C dx fs)/\fs.length<1000/\D.nx σ (upd H2 a (.ins C dx (zL f y fs)))
def xR(K:Lq)(tl:TE):TI:=λσ H R=>tl σ H λx H1=>aD x λa=>(∃xs,SqL K H1 a xs)/\R (Itl K a) H1
def vd(t:TG)(u:TGs):TGs:=λvs σ H Q=>match vs with|v::r=>t v σ H λz H'=>u r z H' Q|[]=>False
theorem GG{t:TG}{r:List V}:vd t u (v::r) σ H Q=t v σ H λz H'=>u r z H' Q:=rfl
def rQ:R2:=λx y H Q=>match x,y with
 | .ref a,.int i=>∃xs,(H a=some (.lst xs)\/H a=some (.tup xs))/\∃v,atI xs i=some v/\Q v H
 | .str x,.int i=>x.length<=sizeLine/\∃c,atI x.cps.toList i=some c/\Q (.str {#[c]}) H
 | _,_=>False
def qP:List V->Hp->VK->Prop:=λxs H Q=>match xs with
 | [.ref a]=>∃ys,(H a=some (.lst ys)\/H a=some (.tup ys))/\Q (.int ys.length) H
 | [.str x]=>x.length<=sizeLine/\Q (.int x.length) H
 | _=>False
def iL(c:Bool):R2:=λx y H Q=>match x,y with
 | .int i,.int j=>Q (.bl (if c then !decide (i=j) else decide (i=j))) H
 | .str i,.str j=>Q (.bl (if c then !decide (i=j) else decide (i=j))) H
 | .bl i,.bl j=>Q (.bl (if c then !decide (i=j) else decide (i=j))) H
 | .ref a,.ref b=>∃xs ys,H a=some (.lst xs)/\H b=some (.lst ys)/\xs.all zF=true/\ys.all zF=true/\Q (.bl (if c then !eqL xs ys else eqL xs ys)) H
 | _,_=>False
def gY:R2:=λx y H Q=>match x,y with
 | .int i,.int j=>Q (.int (i+j)) H
 | .str x,.str y=>x.length+y.length<=sizeLine/\Q (.str (x++y)) H
 | .ref a,.ref b=>∃xs zs,H a=some (.lst xs)/\H b=some (.lst zs)/\xs.length+zs.length<=sizeLine/\∀p H2,New H p (.lst (xs++zs)) H2->Q (.ref p) H2
 | _,_=>False
section
variable {H:Hp}{Q:VK}{i j:Int}{x y:Str}{a b:Addr}{k k' c:Bool}
theorem yz:rQ (.ref a) (.int i) H Q = ∃xs,(H a=some (.lst xs)\/H a=some (.tup xs))/\∃v,atI xs i=some v/\Q v H:=rfl
theorem Cq:rQ (.str x) (.int i) H Q=(x.length<=sizeLine/\∃c,atI x.cps.toList i=some c/\Q (.str {#[c]}) H):=rfl
theorem jW:qP [.ref a] H Q = ∃ys,(H a=some (.lst ys)\/H a=some (.tup ys))/\Q (.int ys.length) H:=rfl
theorem C1:qP [.str x] H Q=(x.length<=sizeLine/\Q (.int x.length) H):=rfl
theorem EW:iL c (.int i) (.int j) H Q=Q (.bl (if c then !decide (i=j) else decide (i=j))) H:=rfl
theorem Ep:iL c (.str x) (.str y) H Q=Q (.bl (if c then !decide (x=y) else decide (x=y))) H:=rfl
theorem CA:iL c (.bl k) (.bl k') H Q=Q (.bl (if c then !decide (k=k') else decide (k=k'))) H:=rfl
theorem BI:iL c (.ref a) (.ref b) H Q = ∃xs ys,H a=some (.lst xs)/\H b=some (.lst ys)/\xs.all zF=true/\ys.all zF=true/\Q (.bl (if c then !eqL xs ys else eqL xs ys)) H:=rfl
theorem Bi:gY (.int i) (.int j) H Q=Q (.int (i+j)) H:=rfl
theorem EO:gY (.str x) (.str y) H Q=(x.length+y.length<=sizeLine/\Q (.str (x++y)) H):=rfl
theorem Hk:gY (.ref a) (.ref b) H Q = ∃xs zs,H a=some (.lst xs)/\H b=some (.lst zs)/\xs.length+zs.length<=sizeLine/\∀p H2,New H p (.lst (xs++zs)) H2->Q (.ref p) H2:=rfl
end
section
variable {X:Cx}{e:Mc}{es:List Mc}{st:Stmt}{t ta tb tv:TE}{tA:TA}{r:R2}{f:Value->Value->Sem Value}{C:Addr}{m:Str}{sp:Sp}{E:XK}{Ex:Addr->St->Hp->Prop}{c:Bool}
theorem clE(h:W (PE X e t)):W (PE X e (clT t)):={λGo s σ H Q I=>x3e λR q z=>thn (h.h Go s σ H R I q) λ_ _=>x5e λv H' a b c=>{v,H',a,b,z _ _ c}}
theorem clO(h:OpR X f r):OpR X f (clR r):=λGo s σ H x y v u Q I F G=>x3e λR q z=>thn (h Go s σ H x y v u R I F G q) λ_ _=>x5e λv H' a b c=>{v,H',a,b,z _ _ c}
theorem clP(h:W (PA X es tA)):W (PA X es (clA tA)):=⟨h.h.any⟩
theorem peD(h:W (PE X e t))(w:∀σ H Q,t' σ H Q->t σ H Q):W (PE X e t'):={λGo s σ H Q I q=>h.h Go s σ H Q I (w σ H Q q)}
theorem tD(h:W (PT X e (ju (tOp (clR r) (clT ta) (clT tb))))):W (PT X e (vp (tOp r ta tb))):={λGo s σ H Q I q=>h.h Go s σ H Q I {_,q,λx H1 G=>{_,G,λy H2 F=>{_,F,λz H3 J=>J.ex}}}}
theorem anD(h:W (PE X e (qk (clT ta) tb))):W (PE X e (vW ta tb)):=peD h λσ H Q q=>{_,q,λx H1 z=>z.ex}
theorem ntD(h:W (PE X e (mq (clT ta)))):W (PE X e (sX ta)):=peD h λσ H Q q=>{_,q,λx H1 z=>z.ex}
theorem mD(h:W (PE X e (eO C m sp [] E (clT ta) (clA tA)))):W (PE X e (pQ C m sp E ta tA)):=peD h λσ H Q q=>{_,q,λx H1 F=>by
 obtain ⟨a,rfl,dx,fs,h1,h2,z⟩:=F.ex;exact {a,dx,fs,rfl,h1,h2,_,z,λvs H2 G=>by dsimp only;rw [MS];exact G}}
theorem m0D(h:W (PE X e (eO C m sp [] E (clT ta) bO))):W (PE X e (pQ C m sp E ta bO)):=peD h λσ H Q q=>{_,q,λx H1 F=>by
 obtain ⟨a,rfl,dx,fs,h1,h2,z⟩:=F.ex;exact {a,dx,fs,rfl,h1,h2,z}}
theorem mXD(h:W (PE X e (eK C m sp [] Ex (clT ta) (clA tA)))):W (PE X e (nj C m sp Ex ta tA)):=peD h λσ H Q q=>{_,q,λx H1 F=>by
 obtain ⟨a,rfl,dx,fs,h1,h2,z⟩:=F.ex;exact {a,dx,fs,rfl,h1,h2,_,z,λvs H2 G=>by dsimp only;rw [MS];exact G}}
theorem hJ(h:W (PE X e (eK C m sp [] Ex (clT ta) bO))):W (PE X e (nj C m sp Ex ta bO)):=peD h λσ H Q q=>{_,q,λx H1 F=>by
 obtain ⟨a,rfl,dx,fs,h1,h2,z⟩:=F.ex;exact {a,dx,fs,rfl,h1,h2,z}}
theorem caD(h:W (PE X e (j9 sp [] E (clA tA)))):W (PE X e (lU sp E tA)):=peD h λσ H Q q=>{_,q,λvs H2 z=>by dsimp only;rw [MS];exact z}
theorem cXD(h:W (PE X e (lg sp [] Ex (clA tA)))):W (PE X e (wq sp Ex tA)):=peD h λσ H Q q=>{_,q,λvs H2 z=>by dsimp only;rw [MS];exact z}
theorem fD(h:W (PE X e (jS C (clT ta) m))):W (PE X e (xO C ta m)):=peD h λσ H Q q=>{_,q,λx H1 F=>by
 obtain ⟨a,rfl,dx,fs,v,z⟩:=F.ex;exact {a,dx,fs,v,rfl,z}}
theorem sfD(h:W (PS X st (k7 C (clT ta) (clT tv) m))):W (PS X st (xM C ta tv m)):={λGo s σ H D I q=>h.h Go s σ H D I {_,q,λy H1 F=>{_,F,λx H2 z=>by
 obtain ⟨a,rfl,dx,fs,G⟩:=z.ex;exact {a,dx,fs,rfl,G}}}}
theorem liD(h:W (PIc c X tg e (hZ X.K (clT ta)))):W (PIc c X tg e (xR X.K ta)):={λGo s σ H R I q=>h.h Go s σ H R I {_,q,λx H1 z=>z.ex}}
theorem gsD(h:W (PGs X ts (oP g u))):W (PGs X ts (vd g u)):={λGo s σ H vs us Q I z q=>h.h Go s σ H vs us Q I z (by cases vs with|nil=>exact q.elim|cons v r=>exact {v,r,rfl,q})}
theorem zT:IxR X rQ:=Fz.weak λx y H Q h=>by
 cases x<;>cases y<;>first|exact h.elim|skip
 .rename_i a i;exact (vy (x:=a) (i:=i)).mpr h
 .rename_i a i;exact (vB (a:=a) (i:=i)).mpr h
theorem af:zI X (.builtin "len") qP:=JT.weak λxs H Q h=>by
 match xs,h with
 | [.ref a],h=>exact (vP (a:=a)).mpr h
 | [.str x],h=>exact (vZ (x:=x)).mpr h
theorem oE{f:Value->Value->Sem Value}(h:OpR X f (uEq c)):OpR X f (iL c):=h.weak λx y H Q h=>by
 cases x<;>cases y<;>first|exact h.elim|exact x9.mpr h|exact yg.mpr h|exact vX.mpr h|exact kN.mpr h
theorem zP:OpR X (NJ .Add) gY:=vm.weak λx y H Q h=>by
 cases x<;>cases y<;>first|exact h.elim|exact rX.mpr h|exact v3.mpr h|exact oB.mpr h
end
end L2
namespace HT
open PySem PyProof.Rows
end HT
namespace L2
open PySem PySem.Spec PyProof.Rows
section
variable {P:Ly}{w:LW}{K:Lq}{mg:Str->Option Value}{base:Heap}{x qual:Str}{st:Stmt}{f:Addr}{fd:LL}{N ps:List Str}{cm:Bool}{k:Nat}{sp:Sp}
theorem Fun.o(F:Fun K x qual st f fd)(S:zq N ps (zk st))
  (hb:∀(z:Value)(A:LV)(outer:List Env)(s:Lk)(H:Hp)(vs:List V)(Q:VK)(E:XK),zB cm k (A.deeper (OF qual (zk st) s.heap.objs.size f z))->sp vs H Q E ->
   ∃t,PSs (cw CX0 cm P w K mg base N qual (zk st) f z A outer s H E).Tt (dE st) t/\t { nx:=λ_ H'=>Q .non H',rt:=Q } (start N vs) H)
  (len:∀vs H Q E,sp vs H Q E->vs.length=ps.length:=by intro _ _ _ _ h;repeat (first|(obtain ⟨rfl,_⟩:=h;rfl)|(obtain ⟨_,h⟩:=h))):zp P w K mg base CX0 cm (k+1) f fd ps sp:=F.ok S len hb
end
end L2
namespace HT
open PySem PyProof.Rows
end HT
namespace L2
open PySem PySem.Spec PyProof.Rows
section
variable {X:Cx}
def EqD:Nat->Hp->V->V->Prop
 | 0,_,p,q=>p=q/\zF p=true
 | n+1,H,p,q=>(p=q/\zF p=true)\/∃a b xs ys,p = .ref a/\q = .ref b/\((H a=some (.lst xs)/\H b=some (.lst ys))\/(H a=some (.tup xs)/\H b=some (.tup ys)))/\xs.length=ys.length/\∀(j:Nat) x y,xs[j]?=some x->ys[j]?=some y->EqD n H x y
theorem uz(f:zF x=true)(F:zo x u)(J:zo x v):SeqAt.EqAt A s u v true:=by
 have e:eqV x x=true:=by
  have:=mI (xs:=[x]) (by rw [all_cons,f];rfl) λy G b z=>by rw [Lw.mp G] at z;rw [z] at f;cases f
  unfold eqL at this;simpa using this
 rw [<- e];exact iE F J f f
theorem EqD.at(I:Inv X Go σ H s):∀(n:Nat){x y:V}{u v:Value}{A:LV},EqD n H x y->zo x u->zo y v->A.units+n<cLine->SeqAt.EqAt A s u v true
 | 0,x,y,u,v,A,h,S,W,U=>by
  obtain ⟨rfl,f⟩:=h;exact uz f S W
 | n+1,x,y,u,v,A,h,S,W,U=>by
  rcases h with ⟨rfl,f⟩|⟨a,b,xs,ys,rfl,rfl,hh,hl,he⟩
  .exact uz f S W
  cases S;cases W;by_cases O:a=b
  .subst O;exact SeqAt.EqAt.same _
  have Z:A.in1.units+n<cLine:=MY (by first|exact Ll _|(show A.units+n<=A.units+(n+1);exact Q5 _)|(simp [LV.in1];lia)) U;have cmp:∀{is F:List Value},zm xs is->zm ys F->∀j (h1:j<is.toArray.size) (h2:j<F.toArray.size),SeqAt.EqAt A.in1 s is.toArray[j] F.toArray[j] true:=λ{is F} J G j h1 h2=>by
   have l1:=J.length;have l2:=G.length;simp only [LJ] at h1 h2;have e1:xs[j]?=some (xs[j]''l'):=KE _;have e2:ys[j]?=some (ys[j]''l'):=KE _;obtain ⟨u,g1,q1⟩:=J.get e1;obtain ⟨v,g2,q2⟩:=G.get e2;rw [KE h1] at g1;rw [KE h2] at g2;have w1:is.toArray[j]=u:=by simpa using Mm.inj g1
   have w2:F.toArray[j]=v:=by simpa using Mm.inj g2
   rw [w1,w2];exact EqD.at I n (he j _ _ e1 e2) q1 q2 Z
  rcases hh with ⟨ha,hb⟩|⟨ha,hb⟩
  .obtain ⟨is,J,p1,_⟩:=I.list (SqL.of (K:=X.K) ha);obtain ⟨F,G,p2,_⟩:=I.list (SqL.of (K:=X.K) hb);have z:=SeqAt.RcAt.lists (A:=A) (e:=λ_=>true) p1.isList p2.isList (by have:=J.length;have:=G.length;simp only [LJ];lia) (MY (QS ..) U) (cmp J G);have e:(Oi is.toArray.size).all (λ_=>true)=true:=by simp
   rw [e] at z;exact .of_refs O z
  .obtain ⟨is,J,p1,_⟩:=I.tuple (SqT.of (K:=X.K) ha);obtain ⟨F,G,p2,_⟩:=I.tuple (SqT.of (K:=X.K) hb);have z:=SeqAt.RcAt.tuples (A:=A) (e:=λ_=>true) p1 p2 (MY (QS ..) U) (cmp J G);have e:((Oi (min is.toArray.size F.toArray.size)).all (λ_=>true)&&is.toArray.size==F.toArray.size)=true:=by have:=J.length;have:=G.length;simp;lia
   rw [e] at z;exact .of_refs O z
theorem zB.u3{k:Nat}(r:zB c k A):A.units+(2+1)<cLine:=by have:=r.un;lia
def xB(n:Nat):R2:=λx y H Q=>∃a b xs ys,x = .ref a/\y = .ref b/\H a=some (.lst xs)/\H b=some (.lst ys)/\xs.length=ys.length/\(∀(j:Nat) x y,xs[j]?=some x->ys[j]?=some y->EqD n H x y)/\Q (.bl true) H
theorem Bk{n:Nat}:xB n (.ref a) (.ref b) H Q = ∃xs ys,H a=some (.lst xs)/\H b=some (.lst ys)/\xs.length=ys.length/\(∀(j:Nat) x y,xs[j]?=some x->ys[j]?=some y->EqD n H x y)/\Q (.bl true) H:=by
 apply propext;constructor
 .rintro ⟨F,G,xs,ys,e1,z,h⟩;cases e1;cases z;exact ⟨xs,ys,h⟩
 .rintro ⟨xs,ys,h⟩;exact {a,b,xs,ys,rfl,rfl,h}
theorem Gm{n:Nat}(G:X.A.units+(n+1)<cLine):OpR X (Mt .Eq) (xB n):=by
 intro Go s σ H x y v u Q I S ry h;obtain ⟨a,b,xs,ys,rfl,rfl,ha,hb,hl,he,q⟩:=h;cases S;cases ry;obtain ⟨is,O,U,_⟩:=I.list (SqL.of (K:=X.K) ha);obtain ⟨js,J,p2,_⟩:=I.list (SqL.of (K:=X.K) hb);have l1:=O.length;have l2:=J.length;refine SeqAt.eq_listAt (e:=λ_=>true) U.isList p2.isList (by simp;lia) (MY (QS ..) G) (λj h1 h2=>?_) {.bl true,H,I,by rw [show (Oi is.toArray.size).all (λ_=>true)=true by simp];rfl,q};simp only [LJ] at h1 h2;have e1:xs[j]?=some (xs[j]''l'):=KE _;have F:ys[j]?=some (ys[j]''l'):=KE _;obtain ⟨u,g1,q1⟩:=O.get e1;obtain ⟨v,z,Z⟩:=J.get F;rw [KE h1] at g1;rw [KE h2] at z;have W:is.toArray[j]=u:=by simpa using Mm.inj g1
 have w2:js.toArray[j]=v:=by simpa using Mm.inj z
 rw [W,w2];exact EqD.at I n (he j _ _ e1 F) q1 Z (MY (by first|exact Ll _|(show X.A.units+n<=X.A.units+(n+1);exact Q5 _)|(simp [LV.in1];lia)) G)
end
end L2
namespace K82
open PySem PySem.Spec PyProof.Rows L2
open PySem.W (Frag OpenLaw WalkO codeHd_of_K findIn mroIn tabIn)
local macro_rules | `(tactic| erw [$ls,*])=>do
 let l<-("p9 tC yl tOr t7 tIf qC oX uW mz oQ cG C2 Bt iO tO ipI tOp tUn bO jV vw yG yd j9 jM lg tCB qj rX v3 oB yI AA vB vy vP vZ J8 Jy FE x9 yg vX kN Ee ES HM Ap Ba DA Dr Cz GJ FL Bx Lh BY G5 EF v8 BW BR Kz Ik wA IF Ce FJ HH HV Fv ER y9 cb Qa Option.bind_none Option.join_some nS and_assoc exists_and_left exists_and_right exists_eq_left' exists_eq_left exists_eq exists_eq' exists_eq_right exists_eq_right' and_true true_and and_false false_and or_false false_or exists_false exists_const Mm.injEq V.int.injEq V.str.injEq V.ref.injEq V.bl.injEq V.ty.injEq HO.lst.injEq HO.tup.injEq HO.ins.injEq List.cons.injEq reduceCtorEq reduceIte Nm List.getElem?_cons_zero On List.set_cons_zero List.set_cons_succ nil_append Qx MS M7 NA L2.start Ax Fy Ml Nat.reduceSub Nat.reduceAdd DV BM uF K9 Bj Am E8 Eo Js HD vK xF tSl xr Hh Hw qx vC Ga yU tU rR oK EZ fH Gw Cw IU Ek Jo Lf Cu Bg Km Eu KU xX xK AC FX Cb D9 yJ yO FU FM Eb Ew Kj Ip Ao IQ Bo EG DO Dc Gi AB CP BV Ck J0 FY Ia JM Fg BN AZ Cf Cs Cd uP F9 A7 Ju Kl GL Ke K0 CK Aa Ks C4 Jc Jl CY Cg nJ iQ t6 C8 vp vW sX pQ nj lU wq xO xM xR HE Cn GG yz Cq jW C1 EW Ep CA BI Bi EO Hk Bk".splitOn " ").toArray.mapM fun s=>`(Lean.Parser.Tactic.simpLemma|$(Lean.mkIdent s.toName):ident)
 let k<-ls.getElems.mapM fun s=>match s with
  | `(Lean.Parser.Tactic.rwRule|$t:term)=>`(Lean.Parser.Tactic.simpLemma|$t:term)
  | _=>Lean.Macro.throwUnsupported
 let l:=l++k
 `(tactic| try simp only [$l,*])
local macro_rules | `(tactic| right)=>`(tactic| erw [])
def top(i:Nat):Stmt:=PySem.Challenge.pw_cleanrows_k82_cleaned_in_any_order.main.body.getD i (.Pass {0,0,0,0})
structure zj where
 RT:Addr
 Rr:Addr
 Uo:Addr
 Full:Addr
 Ro:Addr
 Um:Addr
 T2:Addr
 Tc:Addr
 T1:Addr
 pD:Addr
 sM:Addr
 State:Addr
 Q2:Addr
 Ua:Addr
 Rv:Addr
 Rw:Addr
 Rp:Addr
 Rq:Addr
 L1:Addr
structure Txt(w:LW)(K:Frag)(mg:Str->Option Value)(A:zj):Prop where
 Tz:mg "PARTS"=some (.ref A.Ua)
 TZ:jq w K A.Ua [(V8,A.Rv),(V7,A.Rw),(Wb,A.Rp),("free",A.Rq),("carry",A.L1)]
 S7:∀H:Hp,SqT K H A.Rv [.str "number",.str "number",.str "end",.str "name",.str "number",.str "word"]
 S8:∀H:Hp,SqT K H A.Rw [.str "number",.str "name",.str "number"]
 Sq:∀H:Hp,SqT K H A.Rp [.str "number",.str "name"]
 Sr:∀H:Hp,SqT K H A.Rq [.str "number",.str "name"]
 RU:∀H:Hp,SqT K H A.L1 [.str "number",.str "number",.str "word"]
 Ux:mg "all"=none
 Tv:mg "bool"=none
 Tu:mg "dict"=none
 RJ:mg "enumerate"=none
 T7:mg "int"=none
 vu:mg "isinstance"=none
 qb:mg "len"=none
 RO:mg "list"=none
 T6:mg "max"=none
 Uw:mg "min"=none
 Uv:mg "ord"=none
 ro:mg "range"=none
 RN:mg "sorted"=none
 T5:mg "str"=none
 Su:mg "tuple"=none
 Uu:mg "zip"=none
 RZ:∃u,mg "FIGURES"=some u/\zo (.str "0123456789") u
 RY:∃u,mg "LETTERS"=some u/\zo (.str "abcdefghijklmnopqrstuvwxyz") u
 RR:∃u,mg "MOST_FIGURES"=some u/\zo (.int 18) u
 RQ:∃u,mg "MOST_LETTERS"=some u/\zo (.int 6) u
 Sw:∃u,mg "MOST_SIGNS"=some u/\zo (.int 20) u
 Tq:∃u,mg "MODULUS"=some u/\zo (.int 65521) u
 Tb:∃u,mg "COLD_KIND"=some u/\zo (.str "carry") u
 RH:∃u,mg "LEAST_STRETCHES"=some u/\zo (.int 3) u
 RI:∃u,mg "MOST_STRETCHES"=some u/\zo (.int 16) u
 RS:∃u,mg "LEAST_PLACES"=some u/\zo (.int 2) u
 RW:∃u,mg "MOST_PLACES"=some u/\zo (.int 32) u
 TN:mg "CleanError"=some (.ref A.RT)
 RE:mg "NoRow"=some (.ref A.Rr)
 Uq:mg "NoDisk"=some (.ref A.Uo)
 TU:mg "Full"=some (.ref A.Full)
 RP:mg "Stopped"=some (.ref A.Ro)
 Up:mg "NoFile"=some (.ref A.Um)
 Uh:mg "NoPlace"=some (.ref A.T2)
 TF:mg "HeldAlready"=some (.ref A.Tc)
 Ug:mg "NotHeld"=some (.ref A.T1)
 UH:mg "Disk"=some (.ref A.pD)
 UA:mg "Files"=some (.ref A.sM)
 Uz:mg "State"=some (.ref A.State)
 TQ:bR K A.RT
 Ru:bR K A.Rr
 TY:bR K A.Full
 RC:bR K A.Ro
 Tw:mroIn K A.Rr (.ref A.Rr)=some true
 Ti:mroIn K A.Ro (.ref A.Ro)=some true
 mu:Cls K A.pD
 zf:bo K A.pD "at_sides"
 ri:bo K A.pD "counted"
 qs:bo K A.pD "has_stopped"
 vr:bo K A.pD "left"
 z0:bo K A.pD "width"
 nI:bo K A.pD "written"
 mC:Cls K A.sM
 nD:bo K A.sM "births"
 vl:bo K A.sM "kept"
 vx:Cls K A.State
 Rz:bo K A.State "next_mark"
 RD:bo K A.State "next_row"
 Ry:bo K A.State "own_files"
 wh:bo K A.State "spot_of"
def df:Nat->List Nat->Nat
 | _,[]=>0
 | k,c::l=>c*k+df (k+1) l
def cZ(z:Str):Int:=((df 1 (sg z) % 65521:Nat):Int)
def e9(z:Str):Str:=z++(toString (cZ z):Str)++";"
def aS(z y:Str)(m:Int):Bool:=decide (1<=(z.length:Int))&&decide ((z.length:Int)<=m)&&(sg z).all λc=>(sg y).contains c
def FIG:Str:="0123456789"
def LET:Str:="abcdefghijklmnopqrstuvwxyz"
def bQ(z:Str):Bool:=aS z FIG 18&&(decide (z="0") || !decide (tx ((sg z).take 1)="0"))
def dq(z:Str):Bool:=aS z LET 6
def dA(z:Str):Bool:=aS z (LET++FIG) 20
def aQ(k z:Str):Option V :=
 if k="number"/\bQ z=true then some (.int ((Pl z).getD 0))
 else if k="end"/\(z="0"\/z="1") then some (.bl (decide (z="1")))
 else if k="name"/\dq z=true then some (.str z)
 else if k="word"/\dA z=true then some (.str z)
 else none
def dz(z:Str):Option (List Str) :=
 if z=V8 then some WL
 else if z=V7 then some ["number","name","number"]
 else if z=Wb then some WD
 else if z="free" then some WD
 else if z="carry" then some ["number","number","word"]
 else none
def aA:List Str->List Str->Option (List V)
 | k::ks,z::zs=>(aQ k z).bind λv=>(aA ks zs).map (v::·)
 | _,_=>some []
def cj(ws:List Str):Option (List V):=match ws with
 | []=>none
 | w::zs=>(dz w).bind λks=>if zs.length=ks.length then (aA ks zs).map (.str w::·) else none
def cx(z:Str):Str:=Nf z none (some (O9 z (c1 32)+1))
def eW(z:Str):Option Str:=if z=e9 (cx z) then some (cx z) else none
def bE(z:Str):Option (List V):=(eW z).bind λb=>cj (MV (Nf b none (some (-1))) (c1 32))
def aV:V->Str
 | .bl b=>if b then "1" else "0"
 | .int i=>toString i
 | .str z=>z
 | _=>""
inductive cY:V->Prop
 | bl (b:Bool):cY (.bl b)
 | int (i:Int):0<=i->i<10 ^ 18->cY (.int i)
 | str (z:Str):asc z=true->z.length<=100->cY (.str z)
def ay(xs:List V):List Nat:=(xs.map λv=>sg (aV v)++[32]).flatten
def bC(xs:List V):Str:=e9 (tx (ay xs))
inductive iU(vs:List V)(H:Hp)(Q:VK)(E:XK):Prop
 | mk:∀z y m,(vs=[.str z,.str y,.int m])->(asc z=true)->(z.length<=100000)->(∀H',ze H H'->Q (.bl (aS z y m)) H')->iU vs H Q E
inductive fW(p:Str->Bool)(vs:List V)(H:Hp)(Q:VK)(E:XK):Prop
 | mk:∀z,(vs=[.str z])->(asc z=true)->(z.length<=100000)->(∀H',ze H H'->Q (.bl (p z)) H')->fW p vs H Q E
inductive ot(vs:List V)(H:Hp)(Q:VK)(E:XK):Prop
 | mk:∀z,(vs=[.str z])->(asc z=true)->(z.length<=100000)->(∀H',ze H H'->Q (.int (cZ z)) H')->ot vs H Q E
inductive i3(vs:List V)(H:Hp)(Q:VK)(E:XK):Prop
 | mk:∀z,(vs=[.str z])->(asc z=true)->(z.length<=100000)->(∀H',ze H H'->Q (.str (e9 z)) H')->i3 vs H Q E
def pC(o:Option Str):V:=match o with|some b=>.str b|none=>.non
inductive dR(H:Hp):V->Prop
 | non:dR H .non
 | bl (b:Bool):dR H (.bl b)
 | int (i:Int):dR H (.int i)
 | lst {a:Addr}{xs:List V}:H a=some (.lst xs)->dR H (.ref a)
 | tup {a:Addr}{xs:List V}:H a=some (.tup xs)->dR H (.ref a)
 | dic {a:Addr}{kvs:List (Key×V)}:H a=some (.dK kvs)->dR H (.ref a)
theorem JO{X:Cx}(t:dR H v)(q:Q (.bl false) H):lx X.K [v,.ty "str"] H Q:=by
 cases t with
 | non=>exact {_,_,_,_,_,rfl,rfl,.of .non,rfl,q}
 | bl b=>exact {_,_,_,_,_,rfl,rfl,.of (.bl b),rfl,q}
 | int i=>exact {_,_,_,_,_,rfl,rfl,.of (.int i),rfl,q}
 | lst h=>exact {_,_,_,_,_,rfl,rfl,.of (.lst h),rfl,q}
 | tup h=>exact {_,_,_,_,_,rfl,rfl,.of (.tup h),rfl,q}
 | dic h=>exact {_,_,_,_,_,rfl,rfl,.of (.dK h),rfl,q}
def wH:Sp:=λvs H Q _=>(∃z,vs=[.str z]/\asc z=true/\z.length<=100000/\∀H',ze H H'->Q (pC (eW z)) H')\/∃v,vs=[v]/\dR H v/\Q .non H
inductive kG(vs:List V)(H:Hp)(Q:VK)(E:XK):Prop
 | mk:∀v,(vs=[v])->(cY v)->(Q (.str (aV v)) H)->kG vs H Q E
inductive pP(vs:List V)(H:Hp)(Q:VK)(E:XK):Prop
 | mk:∀a xs,(vs=[.ref a])->((H a=some (.lst xs)\/H a=some (.tup xs)))->(xs.length<=10)->((∀v∈xs,cY v))->(∀H',ze H H'->Q (.str (bC xs)) H')->pP vs H Q E
inductive pY(A:zj)(vs:List V)(H:Hp)(Q:VK)(E:XK):Prop
 | mk:∀k z,(vs=[.str k,.str z])->(asc z=true)->(z.length<=100000)->(∀H',ze H H'->(∀v,aQ k z=some v->Q v H')/\(aQ k z=none->E (.ref A.Rr) none H'))->pY A vs H Q E
inductive qS(A:zj)(vs:List V)(H:Hp)(Q:VK)(E:XK):Prop
 | mk:∀a ws,(vs=[.ref a])->(H a=some (.lst (ws.map V.str)))->(ws≠[])->(ws.length<=100001)->((∀z∈ws,asc z=true/\z.length<=100000))->((∀xs,cj ws=some xs->∀p H',ze H H'->H' p=some (.tup xs)->Q (.ref p) H'))->((cj ws=none->∀H',ze H H'->E (.ref A.Rr) none H'))->qS A vs H Q E
def rY(A:zj):Sp:=λvs H Q E=>(∃v,vs=[v]/\dR H v/\E (.ref A.Rr) none H)\/∃z,vs=[.str z]/\asc z=true/\z.length<=100000 /\
 (∀xs,bE z=some xs->∀p H',ze H H'->H' p=some (.tup xs)->Q (.ref p) H')/\(bE z=none->∀H',ze H H'->E (.ref A.Rr) none H')
theorem cH{n:Nat}(h:n<=1000000):n<=sizeLine:=L8 h 'd'
theorem aJ{n:Nat}(h:n<=1000000):n<sizeLine:=MY h 'd'
abbrev kL:Stmt:=top 19
abbrev pO:Stmt:=top 20
abbrev ma:Stmt:=top 21
abbrev mj:Stmt:=top 22
section
variable {P:Ly}{w:LW}{K:Frag}{mg:Str->Option Value}{base:Heap}{A:zj}
structure JW(H:Hp)(z y:Str)(i:Nat)(τ:L2.St)(ys:List V)(H':Hp):Prop where
 ex:∃t,τ=[t,some (V.str y)]
 ys:ys=(((sg z).take i).map λc=>(sg y).contains c).map V.bl
 same:H'=H
theorem Dy:zq Y5 Y5 (zk kL):=fsc
theorem FN:aY { kind:=.function,names:=[(Lo ".0",.local),(Lo "sign",.local),(Lo "signs",.free)],isGenerator:=false,isCoroutine:=false,more:=[] } (zk kL).names Y5 ["sign","signs"] [none,some 1]=true:=by decide +kernel
theorem HR:(["sign","signs"]:List Str).Nodup:=by decide +kernel
theorem BE(F:Fun K V6 V6 kL f fd)(T:Txt w K mg A):zp P w K mg base CX0 true 1 f fd Y5 iU:=by
 refine F.ok Dy (λvs H Q E h=>?_) (λU Z outer s H vs Q E hr h=>?_)
 .obtain ⟨z,y,m,rfl,_⟩:=h;rfl
 .obtain ⟨z,y,m,rfl,ha,O,q⟩:=h;have J:_<cLine:=Mo (zY hr);refine {_,(W.h (zh (zu (anD (jF (clE (wF (oI0 jU) (oI0 jU) zi (zH af rfl T.qb LY (zb (za 0) zc)) (za 2))) (hG (zH (Dl rfl) rfl T.Ux boot_all (zb (cF (λ_=>rfl) (ah.of FN) (AN (za 0)) (λ_ _ _ _ _=>(zz (i:=0) HR rfl (LK rfl))) (λ_ _ _ _ _=>cB) (λ_ _ _ _ _=>(dZ (vV J) (za 0) (za 1) rfl))) zc)))))))),?_};erw [cH (L8 O 'd')];refine zS (λh1=>zS (λh2=>?_) λh2=>?_) λh1=>?_
  .refine {ha,zZ.str (JW H z y) (λi τ ys H' I=>?_) {{_,rfl},'s',rfl} ?_ ?_}
   .rw [I.ys,Ln,Ln,ME];exact aJ (by rw [ag];lia)
   .intro N i c τ ys H' hc I hN;obtain ⟨t,rfl⟩:=I.ex;right;rw [IR];have S:(sg z)[i]?=some c:=by simpa [sg] using hc
    exact hN _ _ _ {{_,rfl},by rw [I.ys,MP,S];simp,I.same}
   .intro τ ys H' I p H2 G;right;refine {_,by rw [G.at_,I.ys],?_};have hs:ze H H2:=by have:=G.same;rw [I.same] at this;exact this
    have e:aS z y m=(((sg z).take z.cps.size).map λc=>(sg y).contains c).all id:=by
     unfold aS;rw [h1,h2,L5 (by rw [ag];exact Ll _),List.all_map];rfl
    rw [<- e];exact q H2 hs
  .have e:aS z y m=false:=by unfold aS;rw [Ox.mpr h2];simp
   rw [<- e];exact q H (ze.refl _)
  .have e:aS z y m=false:=by unfold aS;rw [Ox.mpr h1];simp
   rw [<- e];exact q H (ze.refl _)
theorem A2:zq Y4 Y4 (zk ma):=fsc
theorem D8(F:Fun K "is_name" "is_name" ma f fd)(T:Txt w K mg A)(G:GF P w K mg base true 1 V6 Y5 iU):zp P w K mg base CX0 true 2 f fd Y4 (fW dq):=by
 refine F.ok A2 (λvs H Q E h=>?_) (λO S outer s H vs Q E hr h=>?_)
 .obtain ⟨z,rfl,_⟩:=h;rfl
 .obtain ⟨z,rfl,ha,J,q⟩:=h;refine {_,(W.h (zh (zu (caD (zA G hr rfl (clP (zb (za 0) (zb (cz rfl T.RY) (zb (cz rfl T.RQ) zc))))))))),?_};right;exact {z,_,_,rfl,ha,J,q}
theorem Ag:zq Y4 Y4 (zk mj):=fsc
theorem Kf(F:Fun K "is_word" "is_word" mj f fd)(T:Txt w K mg A)(G:GF P w K mg base true 1 V6 Y5 iU):zp P w K mg base CX0 true 2 f fd Y4 (fW dA):=by
 refine F.ok Ag (λvs H Q E h=>?_) (λO S outer s H vs Q E hr h=>?_)
 .obtain ⟨z,rfl,_⟩:=h;rfl
 .obtain ⟨z,rfl,ha,J,q⟩:=h;refine {_,(W.h (zh (zu (caD (zA G hr rfl (clP (zb (za 0) (zb (zl zP (cz rfl T.RY) (cz rfl T.RZ)) (zb (cz rfl T.Sw) zc))))))))),?_};right;exact {'d',z,_,_,rfl,ha,J,q}
theorem EH:zq Y4 Y4 (zk pO):=fsc
theorem By(F:Fun K V0 V0 pO f fd)(T:Txt w K mg A)(O:GF P w K mg base true 1 V6 Y5 iU):zp P w K mg base CX0 true 2 f fd Y4 (fW bQ):=by
 refine F.ok EH (λvs H Q E h=>?_) (λS U outer s H vs Q E hr h=>?_)
 .obtain ⟨z,rfl,_⟩:=h;rfl
 .obtain ⟨z,rfl,ha,J,q⟩:=h;have G:_<cLine:=Mo (zY hr);refine {_,(W.h (zg (zJ (eL (bH (caD (zA O hr rfl (clP (zb (za 0) (zb (cz rfl T.RZ) (zb (cz rfl T.RR) zc))))))))
   (zh (zu fh))
   zR)
   (zh (zu (DB (dZ (oE (aW G)) (za 0) zO (zC _)) (hG (dZ (oE (jo G)) (zQ zT (za 0) zi (λ_ _=>rfl)) zO (zC _)))))))),?_}
  right;refine {z,_,_,rfl,ha,J,λH1 s1=>?_};erw [cH (L8 J 'd')];refine zS (λh1=>?_) λh1=>?_
  .have e:bQ z=false:=by
    unfold bQ FIG;rw [show aS z "0123456789" 18=false by simpa using h1];rfl
   rw [<- e];exact q H1 s1
  .have h1:aS z "0123456789" 18=true:=by simpa using h1
   refine zS (λh2=>?_) λh2=>?_
   .have e:bQ z=true:=by
     unfold bQ FIG;rw [h1,h2];rfl
    rw [<- e];exact q H1 s1
   .have hl:0<(sg z).length:=by
     rw [ag];unfold aS at h1;rw [Mw,Mw,decide_eq_true_eq] at h1;lia
    have e0:(sg z).take 1=[(sg z)[0]]:=by
     generalize sg z=l at hl;cases l with
     | nil=>cases hl
     | cons x l=>rfl
    refine {(sg z)[0],bz (xs:=sg z) (j:=0) (KE hl),?_};have e:bQ z = !decide (({ cps:=#[(sg z)[0]] }:Str)="0"):=by
     unfold bQ FIG;rw [h1,Ox.mpr h2,e0];rfl
    rw [<- e];exact q H1 s1
abbrev qJ:Stmt:=top 30
abbrev jC:Stmt:=top 29
abbrev oA:Stmt:=top 26
abbrev mF:Stmt:=top 27
abbrev qc:Stmt:=top 28
theorem sV:∀(k:Nat)(a b:List Nat),df k (a++b)=df k a+df (k+a.length) b
 | k,[],b=>by simp [df]
 | k,c::a,b=>by
  show c*k+df (k+1) (a++b)=c*k+df (k+1) a+_;rw [sV (k+1) a b,M7,show k+1+a.length=k+(a.length+1) by lia];lia
structure DL(H:Hp)(z:Str)(i:Nat)(σ:L2.St)(H':Hp):Prop where
 ex:∃a b,σ=[some (V.str z),some (.int (df 1 ((sg z).take i):Nat)),a,b]
 same:ze H H'
theorem i7:zq ["text","total","place","sign"] Y4 (zk oA):=fsc
theorem A9(F:Fun K "sum_of" "sum_of" oA f fd)(T:Txt w K mg A):zp P w K mg base CX0 true 1 f fd Y4 ot:=by
 refine F.ok i7 (λvs H Q E h=>?_) (λO Z outer s H vs Q E hr h=>?_)
 .obtain ⟨z,rfl,_⟩:=h;rfl
 .obtain ⟨z,rfl,ha,S,q⟩:=h;refine {_,(W.h (zg (zw (i:=1) i7.nd rfl (LK rfl) zi)
   (zg (bX NH.never (λ_=>rfl) (Ez rfl T.RJ (za 0)) (fI (n:=2) (gsD (zU (zz (i:=2) i7.nd rfl (LK rfl)) (gsD (zU (zz (i:=3) i7.nd rfl (LK rfl)) cV)))))
   (zh (mr (i:=1) i7.nd rfl (LK rfl) (zl bT (zH Et rfl T.Uv boot_ord (zb (za 3) zc)) (za 2)) rT)))
   (zh (zu (zl (oI zX) (za 1) (cz rfl T.Tq))))))),?_}
  right;refine {ha,aj.UD (DL H z) {{_,_,rfl},ze.refl _} ?_ ?_}
  .rintro i c p σ H' hc ⟨⟨a,b,rfl⟩,sm⟩ J;have G:(sg z)[i]?=some c:=by simpa [sg] using hc
   right;refine {p,_,rfl,SqT.of zx,rfl,?_};right;refine {rfl,.inl {by simp;lia,?_},{{some (.int ((i+1:Nat):Int)),some (.str {#[c]}),?_},?_}}
   .have U:c<128:=by
     have h3:=LF G;rw [bU] at ha;simpa using Mx.mp ha c h3
    simp;lia
   .rw [MP,G,sV];have hi:i<(sg z).length:=(Lp.mp G).1;rw [ME,Nat.min_eq_left 'l'];simp [df];rw [Int.add_comm 1 (i:Int)]
   .exact sm.trans λb o e=>by rw [zd (zr e J)];exact e
  .rintro σ H' ⟨⟨a,b,rfl⟩,sm⟩;right;refine {'d',?_};have e:cZ z=((df 1 ((sg z).take z.cps.size):Nat):Int) % 65521:=by
    unfold cZ;rw [L5 (by rw [ag];exact Ll _)];lia
   rw [<- e];exact q H' sm
theorem tG:(" ":Str)=c1 32:=by decide +kernel
theorem vg{n:Nat}(h:n<2 ^ 64):n.log2<1920:=by
 by_cases z:n=0
 .subst z;decide
 .exact Nat.lt_trans ((Nat.log2_lt z).mpr h) 'd'
theorem fS(z:Str):0<=cZ z/\cZ z<65521:=by unfold cZ;lia
theorem wI(m:Nat)(h:0<m):∃c r,(Rj 10 m).map Char.toNat=c::r/\49<=c:=by
 induction m using Nat.strongRecOn with
 | _ m z =>
  by_cases h1:m<10
  .rw [Nat.toDigits_of_lt_base h1];refine {_,[],rfl,?_};have:∀d:Nat,d<10->0<d->49<=(Nat.digitChar d).toNat:=by decide
   exact this m h1 h
  .have hm:m % 10<10:=Nat.mod_lt m 'd';have t:Rj 10 (m / 10)++Rj 10 (m % 10)=Rj 10 (10*(m / 10)+m % 10):=Nat.toDigits_append_toDigits 'd' 'l' hm;rw [Nat.div_add_mod] at t;obtain ⟨c,r,e,hc⟩:=z (m / 10) 'l' 'l';rw [<- t,Mp,e];exact {c,_,rfl,hc}
structure Ib(i:Int):Prop where
 dig:∀c∈sg (toString i:Str),48<=c/\c<=57
 one:1<=(sg (toString i:Str)).length
 most:(sg (toString i:Str)).length<=18
 back:Pl (toString i:Str)=some i
 head:(toString i:Str)="0"\/∃c r,sg (toString i:Str)=c::r/\49<=c
theorem gJ(O:0<=i)(h1:i<10 ^ 18):Ib i:=by
 obtain ⟨m,rfl⟩:=Int.eq_ofNat_of_zero_le O;have hd:∀c∈sg (toString ((m:Nat):Int):Str),48<=c/\c<=57:=by
  intro c hc;rw [iD] at hc;obtain ⟨ch,J,e⟩:=Ow.mp hc;have r:=Nat.isDigit_of_mem_toDigits 'd' 'd' J;rw [<- e];exact PyProof.Rows.digit_range r
 have F:1<=(sg (toString ((m:Nat):Int):Str)).length:=by
  rcases Nat.eq_zero_or_pos m with h|h
  .rw [h,iD];decide
  .obtain ⟨c,r,e,_⟩:=wI m h;rw [iD,e];simp
 have hl:(sg (toString ((m:Nat):Int):Str)).length<=18:=by
  have e:(Nat.repr m).length<=18:=(Nat.length_repr_le_iff 'd').mpr 'l';rw [ag];show (Lo (toString ((m:Nat):Int))).length<=18;rw [PySem.ofString_length];exact e
 refine {hd,F,hl,?_,?_}
 .have e:=intText_digits (x:=(toString ((m:Nat):Int):Str)) hd (λz=>by rw [show sg (toString ((m:Nat):Int):Str)=[] from z] at F;cases F) (by rw [<- ag];lia);have G:(toString ((m:Nat):Int):Str).cps.toList=(Rj 10 m).map Char.toNat:=iD m;rw [G,PySem.W.KIN.val_back] at e;exact e
 .rcases Nat.eq_zero_or_pos m with h|h
  .left;rw [h];rfl
  .obtain ⟨c,r,e,hc⟩:=wI m h;exact .inr {c,r,by rw [iD,e],hc}
theorem xk{i:Int}(z:0<=i)(h1:i<10 ^ 18):(toString i:Str).length<=19:=by
 have e:=int_text_length_le10 (a:=i) (k:=18) 'd' 'l';show (Lo (toString i)).length<=19;rw [PySem.ofString_length];exact e
theorem HN:zq ["body"] ["body"] (zk mF):=fsc
theorem Jg(F:Fun K "summed" "summed" mF f fd)(T:Txt w K mg A)(S:GF P w K mg base true 1 "sum_of" Y4 ot):zp P w K mg base CX0 true 2 f fd ["body"] i3:=by
 refine F.ok HN (λvs H Q E h=>?_) (λU Ar outer s H vs Q E hr h=>?_)
 .obtain ⟨z,rfl,_⟩:=h;rfl
 .obtain ⟨z,rfl,ha,O,q⟩:=h;refine {_,(W.h (zh (zu (Jb (qy (vS (za 0)) (qy (vS (caD (zA S hr rfl (clP (zb (za 0) zc))))) (qy zO DG))))))),?_};right;have hs:=fS z;have Z:=xk hs.1 'l';refine {cH 'l',by rw [Str.empty_append];exact cH 'l',z,rfl,ha,O,λH' s1=>?_};right;rw [Str.empty_append];have J:(z++(toString (cZ z):Str)).length<=1000000:=by rw [Pk];lia
  have G:(z++(toString (cZ z):Str)++";").length<=1000000:=by
   rw [Pk,Pk];have:(";":Str).length=1:=by decide
   lia
  exact {vg 'l',cH J,cH G,cH G,q H' s1}
theorem oW(l:List Nat):asc (tx l)=l.all (· < 128):=by rw [bU,dy]
theorem qK(h:asc z=true)(hl:∀c∈l,c∈sg z):asc (tx l)=true:=by
 rw [oW,Mx];rw [bU,Mx] at h;exact λc hc=>h c (hl c hc)
theorem vL(c:Nat):∀l:List Nat,c∈l->∃a b,l=a++c::b/\c∉b
 | [],h=>by cases h
 | x::l,h=>by
  by_cases hm:c∈l
  .obtain ⟨a,b,e,hb⟩:=vL c l hm;exact {x::a,b,by rw [e];rfl,hb}
  .rcases Lu.mp h with e|e
   .exact {[],l,by rw [e];rfl,hm}
   .exact absurd e hm
theorem uI(h:sg z=a++32::b)(hb:32∉b):cx z=tx (a++[32]):=by
 unfold cx;rw [DR h hb];have e:((a.length:Int)+1)=((a.length+1:Nat):Int):=by lia
 rw [e,rE (by rw [h];simp),h];congr 1;rw [show a++32::b=(a++[32])++b by simp,List.take_left' 's']
theorem Hd(h:32∉sg z):cx z=tx []:=by
 unfold cx;rw [Ig h];exact rE (j:=0) (Mu _)
theorem vz(h:asc z=true):asc (cx z)=true/\(cx z).length<=z.length:=by
 refine {?_,PySem.Txt.slice_le _ _ _};by_cases hm:32∈sg z
 .obtain ⟨a,b,e,hb⟩:=vL 32 _ hm;rw [uI e hb];refine qK h λc hc=>?_;rw [e,show a++32::b=(a++[32])++b by simp];exact MG _ hc
 .rw [Hd hm,oW];rfl
theorem xm:zq ["text","body"] Y4 (zk qc):=fsc
theorem Jw(F:Fun K "body_of" "body_of" qc f fd)(T:Txt w K mg A)(J:GF P w K mg base true 2 "summed" ["body"] i3):zp P w K mg base CX0 true 3 f fd Y4 wH:=by
 refine F.ok xm (λvs H Q E h=>?_) (λZ Ar outer s H vs Q E hr h=>?_)
 .rcases h with ⟨z,rfl,_⟩|⟨v,rfl,_⟩<;>rfl
 .have S:_<cLine:=Mo (zY hr);refine {_,(W.h (zg (zJ (eL (bH (zH hW rfl T.vu O8 (zb (za 0) (zb (iN rfl T.T5 boot_str (v:=.ty "str") rfl) zc)))))
   (zh (zu aE))
   zR)
   (zg (zw (i:=1) xm.nd rfl (LK rfl) (dH eY (za 0) dC (dG (zl zP (Dh (za 0) zO) zi))))
   (zh (zu (lN (tD (zG (clO (oE (aW S))) (clE (za 0)) (clE (caD (zA J hr rfl (clP (zb (za 1) zc))))) (zC _))) (za 1) aE)))))),?_}
  rcases h with ⟨z,rfl,ha,U,q⟩|⟨v,rfl,tv,q⟩
  case inr =>
   right;refine JO tv ?_;right;exact q
  right;refine {_,_,_,_,_,rfl,rfl,.of (.str z),rfl,?_};erw [cH (L8 U 'd'),tG];obtain ⟨O,b2⟩:=vz ha;refine {cx z,rfl,O,'l',λH' s1=>?_};right;have G:=q H' s1;refine zS (λh=>?_) λh=>?_
  .have e:eW z=some (cx z):=if_pos (of_decide_eq_true h);rw [e] at G;exact G
  .have e:eW z=none:=if_neg λx=>h (decide_eq_true x);rw [e] at G;exact G
theorem yj:∀ys:List Str,sg (Om "" ys)=(ys.map sg).flatten:=by
 intro ys;have e:Om "" ys=Str.join "" ys:=StrLaws.glued_eq_join "" ys;rw [e]
 induction ys with
 | nil=>rfl
 | cons y ys z =>
  cases ys with
  | nil=>show sg y=_;simp
  | cons x ys =>
   have z:=z (StrLaws.glued_eq_join "" _);show sg (y++""++Str.join "" (x::ys))=_;rw [d9,d9,z];have:sg ("":Str)=[]:=by decide
   rw [this];simp
theorem sZ(h:cY v):(aV v).length<=100/\asc (aV v)=true:=by
 cases h with
 | bl b=>cases b<;>exact {'d',by rw [bU];decide}
 | int i G h1 =>
  have F:=gJ G h1;refine {by show (toString i:Str).length<=100;rw [<- ag];have:=F.most;lia,?_};show asc (toString i:Str)=true;rw [bU,Mx];exact λc hc=>decide_eq_true (by have:=F.dig c hc;lia)
 | str z ha J=>exact ⟨J,ha⟩
theorem mH:∀{xs:List V},(∀v∈xs,cY v)->(ay xs).length<=101*xs.length/\(ay xs).all (· < 128)=true
 | [],_=>{by simp [ay],rfl}
 | v::xs,h=>by
  obtain ⟨h1,h2⟩:=mH (xs:=xs) λu z=>h u (LA _ z);obtain ⟨F,p2⟩:=sZ (h v (LN ..));have e:ay (v::xs)=sg (aV v)++[32]++ay xs:=by simp [ay]
  rw [e];rw [<- ag] at F;rw [bU] at p2;refine {by simp;lia,?_};rw [Rc,Rc,p2,h2];rfl
theorem GW:zq ["part"] ["part"] (zk qJ):=fsc
theorem FQ(F:Fun K VW VW qJ f fd)(T:Txt w K mg A):zp P w K mg base CX0 cm 1 f fd ["part"] kG:=by
 refine F.ok GW (λvs H Q E h=>?_) (λO U outer s H vs Q E hr h=>?_)
 .obtain ⟨v,rfl,_⟩:=h;rfl
 .obtain ⟨v,rfl,G,q⟩:=h;refine {_,(W.h (zg (zJ (bH (zH hW rfl T.vu O8 (zb (za 0) (zb (iN rfl T.Tv boot_bool (v:=.ty "bool") rfl) zc))))
   (zh (zu (lN (bH (za 0)) zO zO)))
   zR)
   (zh (zu (cX As rfl T.T5 boot_str (zb (za 0) zc)))))),?_}
  right;cases G with
  | bl b =>
   refine {_,_,_,_,_,rfl,rfl,.of (.bl b),rfl,?_};right;cases b with
   | true=>exact jK q
   | false=>exact iS q
  | int i J h1 =>
   refine {_,_,_,_,_,rfl,rfl,.of (.int i),rfl,?_};right;exact {vg 'l',q}
  | str z ha S =>
   refine {_,_,_,_,_,rfl,rfl,.of (.str z),rfl,?_};right;exact q
structure gA(H:Hp)(xs:List V)(i:Nat)(τ:L2.St)(ys:List V)(H':Hp):Prop where
 ex:∃t,τ=[t]
 ys:ys=((xs.take i).map λv=>aV v++" ").map V.str
 same:H'=H
theorem Ac:zq ["row"] ["row"] (zk jC):=fsc
theorem J9:aY { kind:=.function,names:=[(Lo ".0",.local),(Lo "part",.local),(Lo "part_text",.globalImplicit)],isGenerator:=false,isCoroutine:=false,more:=[] } (zk jC).names ["row"] ["part"] [none]=true:=by decide +kernel
theorem DU:(["part"]:List Str).Nodup:=by decide +kernel
theorem JL(F:Fun K "row_text" "row_text" jC f fd)(T:Txt w K mg A)(Zk:GF P w K mg base true 2 "summed" ["body"] i3)(Y3:GF P w K mg base true 1 VW ["part"] kG):zp P w K mg base CX0 true 3 f fd ["row"] pP:=by
 refine F.ok Ac (λvs H Q E h=>?_) (λZY Ar outer s H vs Q E hr h=>?_)
 .obtain ⟨a,xs,rfl,_⟩:=h;rfl
 .obtain ⟨a,xs,rfl,z,hx,hp,q⟩:=h;refine {_,(W.h (zh (zu (caD (zA Zk hr rfl (clP (zb (ui zO (cF (λ_=>rfl) (ah.of J9) (vN (za 0)) (λ_ _ _ _ _=>(zz (i:=0) DU rfl (LK rfl))) (λ_ _ _ _ _=>cB) (λ_ _ _ _ _=>(zl zP (caD (zA Y3 hr rfl (clP (zb (za 0) zc)))) zO)))) zc))))))),?_};right;have O:(" ":Str).length=1:=by decide
  have step:∀(N:L2.St->List V->Hp->Prop)(i:Nat)(x:V)(τ:L2.St)(ys:List V)(H':Hp),xs[i]?=some x->gA H xs i τ ys H'->(∀τ ys H3,gA H xs (i+1) τ ys H3->N τ ys H3)->cG 0 x τ H' λG H4=>nS G H4 λok H5=>dU N ys G (tOp gY (lU kG E0 (jV (iQ 0) bO)) (tC (V.str " "))) ok H5:=by
   intro N i x τ ys H' U I hN;obtain ⟨t,rfl⟩:=I.ex;have Z:=hp x (LF U);right;refine {x,rfl,Z,?_};right;refine {?_,hN _ _ _ {{_,rfl},by rw [I.ys,MP,U];simp,I.same}};rw [O];exact cH (by have:=(sZ Z).1;lia)
  have done:∀(τ:L2.St)(ys:List V)(H':Hp),gA H xs xs.length τ ys H'->∀D H2,New H' D (.lst ys) H2->iI (V.str "") [.ref D] H2 λx H1=>i3 [x] H1 Q E0:=by
   intro τ ys H' I D H2 S;rw [oK];have XF:xs.take xs.length=xs:=L5 (Ll _);have e:Om "" (xs.map λv=>aV v++" ")=tx (ay xs):=by
    refine pj ?_;rw [yj,dy,Mv];unfold ay;congr 1;refine NZ λv _=>?_;show sg (aV v++" ")=_;rw [d9];rfl
   obtain ⟨l1,l2⟩:=mH hp;refine {xs.map λv=>aV v++" ",by rw [S.at_,I.ys,XF],?_,tx (ay xs),by rw [e],by rw [oW];exact l2,by rw [tZ];lia,λH3 s3=>q H3 ?_}
   .have es:((xs.map λv=>aV v++" ").map (·.length)).sum=(ay xs).length:=by
     unfold ay;rw [List.length_flatten,Mv,Mv];congr 1;refine NZ λv _=>?_;show (aV v++" ").length=(sg (aV v)++[32]).length;rw [Pk,LC,ag];rfl
    rw [es,show ("":Str).length=0 by decide];lia
   .have:=S.same;rw [I.same] at this;exact this.trans s3
  have J:∀i τ ys H',gA H xs i τ ys H'->ys.length<sizeLine:=λi τ ys H' I=>by
   rw [I.ys,Ln,Ln,ME];exact aJ 'l'
  rcases z with z|z
  .exact .inl {{_,SqL.of z},zZ.lst (xs:=xs) (gA H xs) J (λi τ ys H' I=>SqL.of (by rw [I.same];exact z)) {{_,rfl},'s',rfl} step done}
  .exact .inr {{_,SqT.of z},zZ.tup (xs:=xs) (gA H xs) J (λi τ ys H' I=>SqT.of (by rw [I.same];exact z)) {{_,rfl},'s',rfl} step done}
abbrev jT:Stmt:=top 33
abbrev j7:Stmt:=top 32
abbrev jZ:Stmt:=top 31
theorem JQ(h:bQ z=true):∃n,Pl z=some n/\z.length<=640:=by
 unfold bQ aS at h;rw [Mw,Mw,Mw,decide_eq_true_eq,decide_eq_true_eq] at h;obtain ⟨⟨⟨h1,h2⟩,h3⟩,_⟩:=h;have hl:z.length<=18:=by lia
 have hd:∀c∈sg z,48<=c/\c<=57:=by
  intro c hc;have:=Mx.mp h3 c hc;have hf:sg FIG=[48,49,50,51,52,53,54,55,56,57]:=by decide
  rw [hf] at this;have:=NY.mp this;simp only [Lu,LS,or_false] at this;omega
 refine {_,intText_digits (x:=z) hd (λe=>?_) 'l','l'};have:z.length=0:=by rw [<- ag];rw [show sg z=[] from e];rfl
 lia
theorem IH:zq Xc Xc (zk jT):=fsc
theorem Gy(F:Fun K VT VT jT f fd)(T:Txt w K mg A)(ZC:GF P w K mg base true 2 V0 Y4 (fW bQ))(Yx:GF P w K mg base true 2 "is_name" Y4 (fW dq))(Yw:GF P w K mg base true 2 "is_word" Y4 (fW dA)):
  zp P w K mg base (CXW P w) true 3 f fd Xc (pY A):=by
 refine F.Ud IH (λvs H Q E h=>?_) (λZY Ar outer s H vs Q E hr h=>?_)
 .obtain ⟨k,z,rfl,_⟩:=h;rfl
 .obtain ⟨k,z,rfl,ha,Z,q⟩:=h;have O:_<cLine:=Mo (zY hr);have Th:=fC (cm:=true) (P:=P) (w:=w) (K:=K) (mg:=mg) (base:=base) (N:=Xc) (qual:=VT) (scope:=zk jT) (f:=f) (cd:=ZY) (A:=Ar) (outer:=outer) (s:=s) (H:=H) (E:=E);refine {_,(W.h (zg (fQ (zJ (cO (eS (tD (zG (clO (oE (aW O))) (clE (za 0)) (clE zO) (zC _))) (eQ (bH (caD (zA ZC hr rfl (clP (zb (za 1) zc))))))))
   (zh (zu (cX EN rfl T.T7 boot_int (zb (za 1) zc))))
   zR))
   (zg (fQ (zJ (cO (eS (tD (zG (clO (oE (aW O))) (clE (za 0)) (clE zO) (zC _))) (eQ (tD (zG (clO (vV O)) (clE (za 1)) (clE (aU (zb zO (zb zO zc)))) rfl)))))
   (zh (zu (dZ (oE (aW O)) (za 1) zO (zC _))))
   zR))
   (zg (fQ (zJ (cO (eS (tD (zG (clO (oE (aW O))) (clE (za 0)) (clE zO) (zC _))) (eQ (bH (caD (zA Yx hr rfl (clP (zb (za 1) zc))))))))
   (zh (zu (za 1)))
   zR))
   (zg (zJ (cO (eS (tD (zG (clO (oE (aW O))) (clE (za 0)) (clE zO) (zC _))) (eQ (bH (caD (zA Yw hr rfl (clP (zb (za 1) zc))))))))
   (zh (zu (za 1)))
   zR)
   (zh (jb rfl Th T.Ru rfl T.RE (zb zO zc)))))))),?_}
  erw [fV];refine {λG H'=>G=[some (.str k),some (.str z)]/\ze H H'/\¬ (k="number"/\bQ z=true),?_,?_}
  .refine zS (λh1=>?_) λh1=>{rfl,ze.refl _,λx=>h1 (decide_eq_true x.1)};refine {z,rfl,ha,Z,λH1 s1=>?_};right;refine zS (λh2=>?_) λh2=>{s1,λx=>h2 x.2};obtain ⟨n,hn,hl⟩:=JQ h2;refine {hl,n,hn,(q H1 s1).1 _ ?_};unfold aQ;rw [if_pos {of_decide_eq_true h1,h2},hn];rfl
  rintro G H1 ⟨rfl,s1,U⟩;erw [fV];refine {λG H'=>G=[some (.str k),some (.str z)]/\ze H H'/\¬ (k="end"/\(z="0"\/z="1")),?_,?_}
  .refine zS (λh1=>?_) λh1=>{rfl,s1,λx=>h1 (decide_eq_true x.1)};refine {'d',λp H2 J=>{_,.inr J.at_,rfl,rfl,?_}};have e:inV (V.str z) [V.str "0",V.str "1"]=true↔(z="0"\/z="1"):=by
    unfold inV;rw [Qn,Qn,List.any_nil,O4,Bool.or_eq_true];have e3:∀a:Str,eqV (V.str a) (V.str z)=true↔z=a:=λa=>by
     show (a==z)=true↔_;rw [beq_iff_eq];exact eq_comm
    rw [e3,e3]
   refine zS (λh2=>?_) λh2=>{rfl,s1.trans J.same,λx=>h2 (e.mpr x.2)};refine (q H2 (s1.trans J.same)).1 _ ?_;unfold aQ;rw [if_neg U,if_pos {of_decide_eq_true h1,e.mp h2}]
  rintro G H2 ⟨rfl,s2,J⟩;erw [fV];refine {λG H'=>G=[some (.str k),some (.str z)]/\ze H H'/\¬ (k="name"/\dq z=true),?_,?_}
  .refine zS (λh1=>?_) λh1=>{rfl,s2,λx=>h1 (decide_eq_true x.1)};refine {z,rfl,ha,Z,λH3 S=>?_};right;refine zS (λh2=>?_) λh2=>{s2.trans S,λx=>h2 x.2};refine (q H3 (s2.trans S)).1 _ ?_;unfold aQ;rw [if_neg U,if_neg J,if_pos {of_decide_eq_true h1,h2}]
  rintro G H3 ⟨rfl,S,n3⟩;right;refine zS (λh1=>?_) λh1=>?_
  .refine {z,rfl,ha,Z,λH4 s4=>?_};right;refine zS (λh2=>?_) λh2=>?_
   .refine (q H4 (S.trans s4)).1 _ ?_;unfold aQ;rw [if_neg U,if_neg J,if_neg n3,if_pos {of_decide_eq_true h1,h2}]
   .refine {'d',(q H4 (S.trans s4)).2 ?_};unfold aQ;rw [if_neg U,if_neg J,if_neg n3,if_neg λx=>h2 x.2]
  .refine {'d',(q H3 S).2 ?_};unfold aQ;rw [if_neg U,if_neg J,if_neg n3,if_neg λx=>h1 (decide_eq_true x.1)]
theorem C5(T:Txt w K mg A)(z:Str):(dP [(V8,A.Rv),(V7,A.Rw),(Wb,A.Rp),("free",A.Rq),("carry",A.L1)] z = .non/\dz z=none) \/
  ∃p ks,dP [(V8,A.Rv),(V7,A.Rw),(Wb,A.Rp),("free",A.Rq),("carry",A.L1)] z = .ref p/\dz z=some ks/\ks.length<=10/\∀H:Hp,SqT K H p (ks.map V.str):=by
 unfold dP dz;simp only [Pb,List.find?_nil];by_cases h1:z=V8
 .rw [if_pos h1,decide_eq_true h1.symm];exact .inr {_,_,rfl,rfl,'d',T.S7}
 rw [if_neg h1,decide_eq_false (L9 h1)];by_cases h2:z=V7
 .rw [if_pos h2,decide_eq_true h2.symm];exact .inr {_,_,rfl,rfl,'d',T.S8}
 rw [if_neg h2,decide_eq_false (L9 h2)];by_cases h3:z=Wb
 .rw [if_pos h3,decide_eq_true h3.symm];exact .inr {_,_,rfl,rfl,'d',T.Sq}
 rw [if_neg h3,decide_eq_false (L9 h3)];by_cases h4:z="free"
 .rw [if_pos h4,decide_eq_true h4.symm];exact .inr {_,_,rfl,rfl,'d',T.Sr}
 rw [if_neg h4,decide_eq_false (L9 h4)];by_cases F:z="carry"
 .rw [if_pos F,decide_eq_true F.symm];exact .inr {_,_,rfl,rfl,'d',T.RU}
 rw [if_neg F,decide_eq_false (L9 F)];exact .inl {rfl,rfl}
theorem jh:∀{ks zs:List Str}(ks' F:List Str),ks.length=zs.length->aA (ks++ks') (zs++F)=(aA ks zs).bind λvs=>(aA ks' F).map (vs++·)
 | [],[],ks',F,_=>by simp [aA]
 | k::ks,z::zs,ks',F,h=>by
  have G:=jh (ks:=ks) (zs:=zs) ks' F (by simpa using h);show (aQ k z).bind (λv=>(aA (ks++ks') (zs++F)).map (v::·))=((aQ k z).bind λv=>(aA ks zs).map (v::·)).bind _;rw [G];cases aQ k z with
  | none=>rfl
  | some v =>
   cases aA ks zs with
   | none=>rfl
   | some vs =>
    show ((aA ks' F).map (vs++·)).map (v::·)=(aA ks' F).map ((v::vs)++·);rw [Option.map_map];rfl
 | [],z::zs,_,_,h=>by cases h
 | k::ks,[],_,_,h=>by cases h
theorem dY(z:Str)(zs:List Str):cj (z::zs)=(dz z).bind λks=>if zs.length=ks.length then (aA ks zs).map (.str z::·) else none:=rfl
theorem EI:aR (x::l) (some 1) none=l:=by
 have e1:HT.sIx (x::l).length 0 (some 1)=1:=by simp [HT.sIx]
 have z:HT.sIx (x::l).length (x::l).length none=l.length+1:=by simp [HT.sIx]
 unfold aR;rw [e1,z];simp
structure Ab(H:Hp)(a p r b:Addr)(z:Str)(ks zs:List Str)(i:Nat)(σ:L2.St)(H':Hp):Prop where
 ex:∃k' z',σ=[some (V.ref a),some (.ref p),some (.ref r),k',z']
 same:ze H H'
 row:∃vs,H' r=some (.lst (.str z::vs))/\aA (ks.take i) (zs.take i)=some vs/\vs.length=i
 words:H' b=some (.lst (zs.map V.str))
 ne:H r=none/\H b=none/\r≠b
theorem ij:zq ["words","kinds","row","kind","word"] ["words"] (zk j7):=fsc
theorem FV(F:Fun K "row_of" "row_of" j7 f fd)(T:Txt w K mg A)(Y2:GX P w K mg base true 3 VT Xc (pY A)):zp P w K mg base (CXW P w) true 4 f fd ["words"] (qS A):=by
 refine F.Ud ij (λvs H Q E h=>?_) (λZY Ar outer s H vs Q E hr h=>?_)
 .obtain ⟨a,ws,rfl,_⟩:=h;rfl
 .obtain ⟨a,ws,rfl,hH,YM,hl,hw,q,qn⟩:=h;have hu:_<cLine:=Mo (zY hr);have Th:=fC (cm:=true) (P:=P) (w:=w) (K:=K) (mg:=mg) (base:=base) (N:=["words","kinds","row","kind","word"]) (qual:="row_of") (scope:=zk j7) (f:=f) (cd:=ZY) (A:=Ar) (outer:=outer) (s:=s) (H:=H) (E:=E);obtain ⟨z,zs,rfl⟩:=List.exists_cons_of_ne_nil YM;have e0:atI (V.str z::OV V.str zs) 0=some (.str z):=bz (j:=0) rfl;refine {_,(W.h (zg (zw (i:=1) ij.nd rfl (LK rfl) (K7 rfl T.Tz T.TZ (zQ zT (za 0) zi (λ_ _=>rfl))))
   (zg (zJ (cO (jD (tD (zG (clO k9) (clE (za 1)) (clE aE) (zC _))) (jO (tD (zG (clO (oE (jo hu))) (clE (zH af rfl T.qb LY (zb (za 0) zc))) (clE (zl zP (zH mO rfl T.qb LY (zb (za 1) zc)) zi)) (zC _))))))
   (zh (jb rfl Th T.Ru rfl T.RE (zb zO zc)))
   zR)
   (zg (zw (i:=2) ij.nd rfl (LK rfl) (aq (zb (zQ zT (za 0) zi (λ_ _=>rfl)) zc)))
   (zg (HA Th (bX (HG rfl (λok=>ok.frames) rfl) (by intro h;exact nomatch h) (An rfl T.Uu (zb (za 1) (zb (dH eY (za 0) (dG zi) dC) zc))) (fI (n:=2) (gsD (zU (zz (i:=3) ij.nd rfl (LK rfl)) (gsD (zU (zz (i:=4) ij.nd rfl (LK rfl)) cV)))))
   (zh (aC (d6 (za 2) (cXD (oY Fq Y2 hr rfl (clP (zb (za 3) (zb (za 4) zc))))))))))
   (zh (zu (cX yS rfl T.Su boot_tuple (zb (za 2) zc))))))))),?_}
  erw [hH,e0];rcases C5 T z with ⟨g1,g2⟩|⟨p,ks,g1,g2,g4,g3⟩
  .erw [g1];exact {'d',qn (by rw [dY,g2];rfl) H (ze.refl _)}
  erw [g1,hH];refine {_,.inr (g3 H),?_};have X5:(!decide ((((OV V.str zs).length+1:Nat):Int)=((OV V.str ks).length:Int)+1))=true↔zs.length≠ks.length:=by
   rw [Ln,Ln];simp;lia
  refine zS (λh=>?_) λh=>?_
  .refine {'d',qn ?_ H (ze.refl _)};rw [dY,g2];show (if zs.length=ks.length then _ else _)=_;rw [if_neg (X5.mp h)]
  have Z0:ks.length=zs.length:=by
   refine N1 λhx=>h (X5.mpr λx=>hx x.symm)
  have J:cj (z::zs)=(aA ks zs).map (.str z::·):=by
   rw [dY,g2];show (if zs.length=ks.length then _ else _)=_;rw [if_pos Z0.symm]
  refine {_,e0,'d',λr H1 O _=>{_,O.same _ _ hH,λb H2 G=>?_}};have s2:ze H H2:=O.same.trans G.same;have er:=G.same _ _ O.at_;have eb:=G.at_;rw [MD,EI] at eb;have Z:r≠b:=λx=>by rw [x] at O;have:=O.at_;rw [G.no] at this;cases this
  refine {{_,g3 H2},{_,SqL.of eb},aj.UJ (xs:=ks.map V.str) (ys:=zs.map V.str) (by rw [Ln,Ln];exact Z0) (Ab H a p r b z ks zs) {{_,_,rfl},s2,{[],er,by simp [aA],rfl},eb,O.no,O.same.free G.no,Z} (λi σ H' _ I=>{g3 H',SqL.of I.words}) ?_ ?_}
  .intro i x y t σ H' hx hy I ht;obtain ⟨k',z',rfl⟩:=I.ex;rw [LP] at hx hy;obtain ⟨k,hk,rfl⟩:=Me.mp hx;obtain ⟨u,ai,rfl⟩:=Me.mp hy;obtain ⟨vs,U,hp,av⟩:=I.row;have hm:=hw u (LA _ (LF ai));right;refine {t,_,rfl,SqT.of zx,rfl,?_};have aT:r≠t:=λx=>by rw [x] at U;rw [ht] at U;cases U
   have a3:b≠t:=λx=>by have:=I.words;rw [x,ht] at this;cases this
   have ab:upd H' t (.tup [.str k,.str u]) r=some (.lst (.str z::vs)):=by rw [zd aT];exact U
   erw [ab];have st:ze H (upd H' t (.tup [.str k,.str u])):=λc o e=>by
    have:=I.same c o e;rw [zd (zr this ht)];exact this
   have hi:i<ks.length:=(Lp.mp hk).1;have ta:(ks.take i).length=(zs.take i).length:=by rw [ME,ME,Z0]
   have tk:ks.take (i+1)=ks.take i++[k]:=by rw [MP,hk];rfl
   have tz:zs.take (i+1)=zs.take i++[u]:=by rw [MP,ai];rfl
   refine {k,u,rfl,hm.1,hm.2,λH3 s3=>{λv S=>?_,λS=>?_}}
   .have aL:H3 r=some (.lst (.str z::vs)):=s3 _ _ ab;have a0:H3 b=some (.lst (zs.map V.str)):=s3 _ _ (by rw [zd a3];exact I.words);refine {_,aL,by simp;exact aJ 'l',{{_,_,rfl},λc o e=>?_,{vs++[v],by rw [zx];rfl,?_,by simp [av]},by rw [zd (L9 Z)];exact a0,I.ne}}
    .rw [zd (zr e I.ne.1)];exact s3 _ _ (st c o e)
    .rw [tk,tz,jh _ _ ta,hp];show (aA [k] [u]).map (vs++·)=_;simp [aA,S]
   .refine {_,rfl,qn ?_ H3 (st.trans s3)};have e1:aA ks zs=none:=by
     have k1:ks=ks.take (i+1)++ks.drop (i+1):=(MW _ _).symm;have z1:zs=zs.take (i+1)++zs.drop (i+1):=(MW _ _).symm;rw [k1,z1,jh _ _ (by rw [ME,ME,Z0]),tk,tz,jh _ _ ta,hp];simp [aA,S]
    rw [J,e1];rfl
  .rintro σ H' I;obtain ⟨k',z',rfl⟩:=I.ex;obtain ⟨vs,U,hp,av⟩:=I.row;erw [U];intro l H2 G;rw [Ln,L5 (Ll _),L5 'l'] at hp;exact q _ (by rw [J,hp];rfl) l H2 (I.same.trans G.same) G.at_
theorem jn:∀{l:List Nat}{w:List Nat},w∈aw c l->∀x∈w,x∈l
 | [],w,h,x,hx=>by
  rw [show aw c []=[[]] from rfl,Lw] at h;rw [h] at hx;cases hx
 | y::l,w,h,x,hx=>by
  by_cases hc:y=c
  .rw [show aw c (y::l)=[]::aw c l from if_pos hc] at h;rcases Lu.mp h with e|h
   .rw [e] at hx;cases hx
   .exact LA _ (jn h x hx)
  .rw [iq c y l hc] at h;obtain ⟨a,r,e⟩:=fk c l;rw [e] at h;rcases Lu.mp h with z|h
   .rw [z] at hx;rcases Lu.mp hx with F|hx
    .rw [F];exact LN ..
    .exact LA _ (jn (l:=l) (w:=a) (by rw [e];exact LN ..) x hx)
   .exact LA _ (jn (l:=l) (by rw [e];exact LA _ h) x hx)
theorem ur(c:Nat):∀l:List Nat,(aw c l).length<=l.length+1/\∀w∈aw c l,w.length<=l.length
 | []=>{by simp [aw],by simp [aw]}
 | y::l=>by
  obtain ⟨h1,h2⟩:=ur c l;by_cases hc:y=c
  .rw [show aw c (y::l)=[]::aw c l from if_pos hc];refine {by simp;lia,λw z=>?_};rcases Lu.mp z with e|z
   .rw [e];simp
   .have:=h2 w z;simp;lia
  .rw [iq c y l hc];obtain ⟨a,r,e⟩:=fk c l;rw [e] at h1 h2 ⊢;refine {by simpa [eT] using Po h1,λw z=>?_};rcases Lu.mp z with F|z
   .have:=h2 a (LN ..);rw [F];simp;lia
   .have:=h2 w (LA _ z);simp;lia
theorem tK:zq ["text","body"] Y4 (zk jZ):=fsc
theorem Fp(F:Fun K "read_row" "read_row" jZ f fd)(T:Txt w K mg A)(Yv:GF P w K mg base true 3 "body_of" Y4 wH)(Yc:GX P w K mg base true 4 "row_of" ["words"] (qS A)):zp P w K mg base (CXW P w) true 5 f fd Y4 (rY A):=by
 refine F.Ud tK (λvs H Q E h=>?_) (λZY Ar outer s H vs Q E hr h=>?_)
 .rcases h with ⟨v,rfl,_⟩|⟨z,rfl,_⟩<;>rfl
 .have S:=fC (cm:=true) (P:=P) (w:=w) (K:=K) (mg:=mg) (base:=base) (N:=["text","body"]) (qual:="read_row") (scope:=zk jZ) (f:=f) (cd:=ZY) (A:=Ar) (outer:=outer) (s:=s) (H:=H) (E:=E);refine {_,(W.h (zg (zw (i:=1) tK.nd rfl (LK rfl) (caD (zA Yv hr rfl (clP (zb (za 0) zc)))))
   (zg (zJ (tD (zG (clO k9) (clE (za 1)) (clE aE) (zC _)))
   (zh (jb rfl S T.Ru rfl T.RE (zb zO zc)))
   zR)
   (zh (zu (cXD (oY S Yc hr rfl (clP (zb (Em (dH eY (za 1) dC (dG (xZ pH zi))) zO) zc))))))))),?_}
  rcases h with ⟨v,rfl,tv,q⟩|⟨z,rfl,ha,hz,q,qn⟩
  case inl =>
   right;refine .inr {v,rfl,tv,?_};right;exact {'d',q}
  right;refine .inl {z,rfl,ha,hz,λH1 s1=>?_};cases hb:eW z with
  | none =>
   erw [pC];exact {'d',qn (by unfold bE;rw [hb];rfl) H1 s1}
  | some b =>
   have eb:b=cx z:=by
    unfold eW at hb;split at hb
    .exact (Mm.inj hb).symm
    .cases hb
   obtain ⟨O,b2⟩:=vz ha;rw [<- eb] at O b2;have hs:bE z=cj (MV (Nf b none (some (-1))) (c1 32)):=by unfold bE;rw [hb];rfl
   have b3:(Nf b none (some (-1))).length<=b.length:=PySem.Txt.slice_le _ _ _;erw [pC,tG,cH (L8 (L8 b2 hz) 'd')];generalize hy:Nf b none (some (-1))=y at *
   have ya:asc y=true:=by
    by_cases h0:0<(sg b).length
    .rw [vU h0] at hy;rw [<- hy];exact qK O λc hc=>(List.dropLast_sublist _).subset hc
    .rw [ag] at h0;have:sg y=[]:=PX (by rw [ag];lia);rw [bU,this];rfl
   have es:=u6 y (c:=32) 'd';obtain ⟨l1,l2⟩:=ur 32 (sg y);rw [ag] at l1;refine {'d',aJ 'l',by rw [es,Ln];exact cH 'l',λp H2 G=>?_};refine {p,MV y (c1 32),rfl,G.at_,?_,by rw [es,Ln];lia,λu Z=>?_,λxs hx p3 H3 J h3=>q xs (by rw [hs];exact hx) p3 H3 ((s1.trans G.same).trans J) h3,λhx H3 J=>{_,rfl,qn (by rw [hs];exact hx) H3 ((s1.trans G.same).trans J)}}
   .rw [es];obtain ⟨a,r,e⟩:=fk 32 (sg y);rw [e];simp
   .rw [es] at Z;obtain ⟨v,U,rfl⟩:=Ow.mp Z;refine {qK ya (jn U),?_};rw [tZ];have:=l2 v U;rw [ag] at this;lia
end
def bM(i:Int):Prop:=0<=i/\i<10 ^ 18
inductive c7:List V->Prop
 | put (n g:Int) (b:Bool) (nm:Str) (pl:Int) (wd:Str):bM n->bM g->bM pl->dq nm=true->dA wd=true->c7 [.str V8,.int n,.int g,.bl b,.str nm,.int pl,.str wd]
 | cut (n:Int) (nm:Str) (pl:Int):bM n->bM pl->dq nm=true->c7 [.str V7,.int n,.str nm,.int pl]
 | hold (n:Int) (nm:Str):bM n->dq nm=true->c7 [.str Wb,.int n,.str nm]
 | free (n:Int) (nm:Str):bM n->dq nm=true->c7 [.str "free",.int n,.str nm]
 | carry (n g:Int) (wd:Str):bM n->bM g->dA wd=true->c7 [.str "carry",.int n,.int g,.str wd]
theorem DN(h:∀c∈sg z,c∈sg y)(h1:1<=z.length)(h2:(z.length:Int)<=m):aS z y m=true:=by
 unfold aS;rw [decide_eq_true (show (1:Int)<=z.length by lia),decide_eq_true h2];rw [PL,PL,Mx];exact λc hc=>NY.mpr (h c hc)
theorem Da(hl:∃a,l=a++[32]):cx (e9 (tx l))=tx l:=by
 obtain ⟨a,rfl⟩:=hl;have F:=gJ (fS (tx (a++[32]))).1 (by have:=(fS (tx (a++[32]))).2;lia);have e:sg (e9 (tx (a++[32])))=a++32::(sg (toString (cZ (tx (a++[32]))):Str)++[59]):=by
  unfold e9;rw [d9,d9,dy];simp;decide +kernel
 refine uI e λh=>?_;rcases L6.mp h with h|h
 .have:=F.dig 32 h;lia
 .simp at h
theorem u0(h:aS z y m=true)(F:32∉sg y):32∉sg z:=by
 unfold aS at h;rw [Mw] at h;intro G;exact F (NY.mp (Mx.mp h.2 32 G))
theorem jL(h:dq z=true):32∉sg z:=u0 h (f!"")
theorem xg(h:dA z=true):32∉sg z:=u0 h (f!"")
theorem dS(h:bM i):32∉sg (toString i:Str):=λz=>by
 have:=(gJ h.1 h.2).dig 32 z;lia
theorem vQ(h:aS z y m=true)(F:∀c∈sg y,c<128)(hm:m<=100):asc z=true/\z.length<=100:=by
 unfold aS at h;rw [Mw,Mw,decide_eq_true_eq,decide_eq_true_eq] at h;refine {?_,'l'};rw [bU,Mx];exact λc hc=>decide_eq_true (F c (NY.mp (Mx.mp h.2 c hc)))
theorem kD(h:dq z=true):cY (.str z):=by
 obtain ⟨a,b⟩:=vQ h (f!"") 'd';exact .str z a b
theorem w9(h:dA z=true):cY (.str z):=by
 obtain ⟨a,b⟩:=vQ h (f!"") 'd';exact .str z a b
theorem eA(h:bM i):cY (.int i):=.int i h.1 h.2
theorem Aq(h:bM i):bQ (toString i:Str)=true:=by
 have F:=gJ h.1 h.2;unfold bQ;rw [Mw];constructor
 .refine DN (λc hc=>?_) (by rw [<- ag];exact F.one) (by rw [<- ag];have:=F.most;lia);have hf:sg FIG=[48,49,50,51,52,53,54,55,56,57]:=by decide
  rw [hf];have:=F.dig c hc;simp;lia
 .rcases F.head with h|⟨c,r,e,hc⟩
  .rw [decide_eq_true h];rfl
  .rw [e];have : ¬ tx (List.take 1 (c::r))=("0":Str):=λx=>by
    have:=congrArg sg x;rw [dy] at this;have z:sg ("0":Str)=[48]:=by decide
    rw [z] at this;injection this with h1 _
    lia
   rw [decide_eq_false this];simp
theorem eJ(h:bM i):aQ "number" (toString i:Str)=some (.int i):=by
 unfold aQ;rw [if_pos {rfl,Aq h},(gJ h.1 h.2).back];rfl
theorem j4(h:dq z=true):aQ "name" z=some (.str z):=by
 unfold aQ;rw [if_neg (λx=>absurd x.1 (f!"")),if_neg (λx=>absurd x.1 (f!"")),if_pos {rfl,h}]
theorem yE(h:dA z=true):aQ "word" z=some (.str z):=by
 unfold aQ;rw [if_neg (λx=>absurd x.1 (f!"")),if_neg (λx=>absurd x.1 (f!"")),if_neg (λx=>absurd x.1 (f!"")),if_pos {rfl,h}]
theorem Fl(b:Bool):aQ "end" (aV (.bl b))=some (.bl b):=by cases b<;>decide +kernel
theorem iF(F:∀u∈v::xs,32∉sg (aV u)):bE (bC (v::xs))=cj ((v::xs).map aV):=by
 have flat:∀l:List V,ay l=(l.map λu=>sg (aV u)++[32]).flatten:=λl=>rfl;have ap:∀(u:V)(l:List V),ay (u::l)=sg (aV u)++32::ay l:=λu l=>by simp [ay]
 have key:∀(u:V)(l:List V),ay (u::l)=sg (aV u)++((l.map λt=>sg (aV t)).map (32::·)).flatten++[32]:=by
  intro u l
  induction l generalizing u with
  | nil=>simp [ay]
  | cons t l G =>
   rw [ap u (t::l),G t];simp
 have hb:cx (bC (v::xs))=tx (ay (v::xs)):=Da {_,key v xs};have hs:eW (bC (v::xs))=some (tx (ay (v::xs))):=by
  unfold eW;rw [hb];exact if_pos rfl
 unfold bE;rw [hs];show cj (MV (Nf (tx (ay (v::xs))) none (some (-1))) (c1 32))=_;rw [vU (by rw [dy,key,LC];exact LZ 'd' (Nat.le_add_left _ _)),dy,key,List.dropLast_concat,u6 _ 'd',dy,ni]
 .congr 1;rw [MD,Mv,MD,iH];congr 1
 .intro u z;rcases Lu.mp z with rfl|z
  .exact F v (LN ..)
  .obtain ⟨t,J,rfl⟩:=Ow.mp z;exact F t (LA _ J)
theorem c7.read(h:c7 xs):bE (bC xs)=some xs:=by
 have F:∀b:Bool,32∉sg (aV (.bl b)):=λb=>by cases b<;>decide
 cases h with
 | put n g b nm pl wd h1 h2 h3 h4 G =>
  rw [iF (by
   simp only [Lu,LS,or_false];rintro u (rfl|rfl|rfl|rfl|rfl|rfl|rfl)
   .decide +kernel
   .exact dS h1
   .exact dS h2
   .exact F b
   .exact jL h4
   .exact dS h3
   .exact xg G)]
  have z:dz V8=some (WL:List Str):=by decide +kernel
  show cj [(V8:Str),(toString n:Str),(toString g:Str),aV (.bl b),nm,(toString pl:Str),wd]=_;rw [dY,z];simp only [Qa,M7,NA,if_true,aA,eJ h1,eJ h2,Fl,j4 h4,eJ h3,yE G,Rk]
 | cut n nm pl h1 h2 h3 =>
  rw [iF (by
   simp only [Lu,LS,or_false];rintro u (rfl|rfl|rfl|rfl)
   .decide +kernel
   .exact dS h1
   .exact jL h3
   .exact dS h2)]
  have z:dz V7=some (["number","name","number"]:List Str):=by decide +kernel
  show cj [(V7:Str),(toString n:Str),nm,(toString pl:Str)]=_;rw [dY,z];simp only [Qa,M7,NA,if_true,aA,eJ h1,j4 h3,eJ h2,Rk]
 | hold n nm h1 h2 =>
  rw [iF (by
   simp only [Lu,LS,or_false];rintro u (rfl|rfl|rfl)
   .decide +kernel
   .exact dS h1
   .exact jL h2)]
  have z:dz Wb=some (WD:List Str):=by decide +kernel
  show cj [(Wb:Str),(toString n:Str),nm]=_;rw [dY,z];simp only [Qa,M7,NA,if_true,aA,eJ h1,j4 h2,Rk]
 | free n nm h1 h2 =>
  rw [iF (by
   simp only [Lu,LS,or_false];rintro u (rfl|rfl|rfl)
   .decide +kernel
   .exact dS h1
   .exact jL h2)]
  have z:dz "free"=some (WD:List Str):=by decide +kernel
  show cj [("free":Str),(toString n:Str),nm]=_;rw [dY,z];simp only [Qa,M7,NA,if_true,aA,eJ h1,j4 h2,Rk]
 | carry n g wd h1 h2 h3 =>
  rw [iF (by
   simp only [Lu,LS,or_false];rintro u (rfl|rfl|rfl|rfl)
   .decide +kernel
   .exact dS h1
   .exact dS h2
   .exact xg h3)]
  have z:dz "carry"=some (["number","number","word"]:List Str):=by decide +kernel
  show cj [("carry":Str),(toString n:Str),(toString g:Str),wd]=_;rw [dY,z];simp only [Qa,M7,NA,if_true,aA,eJ h1,eJ h2,yE h3,Rk]
theorem c7.parts(h:c7 xs):xs.length<=10/\xs.all zF=true/\(∀v∈xs,∀b,v≠.byt b)/\∀v∈xs,cY v:=by
 have kp:∀z:Str,asc z=true->z.length<=100->cY (.str z):=λz a b=>.str z a b;cases h with
 | put n g b nm pl wd h1 h2 h3 h4 F =>
  refine {'s',rfl,'s',?_};simp only [Lu,LS,or_false];rintro u (rfl|rfl|rfl|rfl|rfl|rfl|rfl)
  .exact kp _ (by rw [bU];decide +kernel) 'd'
  .exact eA h1
  .exact eA h2
  .exact .bl b
  .exact kD h4
  .exact eA h3
  .exact w9 F
 | cut n nm pl h1 h2 h3 =>
  refine {'s',rfl,'s',?_};simp only [Lu,LS,or_false];rintro u (rfl|rfl|rfl|rfl)
  .exact kp _ (by rw [bU];decide +kernel) 'd'
  .exact eA h1
  .exact kD h3
  .exact eA h2
 | hold n nm h1 h2 =>
  refine {'s',rfl,'s',?_};simp only [Lu,LS,or_false];rintro u (rfl|rfl|rfl)
  .exact kp _ (by rw [bU];decide +kernel) 'd'
  .exact eA h1
  .exact kD h2
 | free n nm h1 h2 =>
  refine {'s',rfl,'s',?_};simp only [Lu,LS,or_false];rintro u (rfl|rfl|rfl)
  .exact kp _ (by rw [bU];decide +kernel) 'd'
  .exact eA h1
  .exact kD h2
 | carry n g wd h1 h2 h3 =>
  refine {'s',rfl,'s',?_};simp only [Lu,LS,or_false];rintro u (rfl|rfl|rfl|rfl)
  .exact kp _ (by rw [bU];decide +kernel) 'd'
  .exact eA h1
  .exact eA h2
  .exact w9 h3
abbrev Tx:=Option Str
def tv:Tx->V|none=>.non|some z=>.str z
def lv:Option Int->V|none=>.non|some i=>.int i
structure DM where
 rows:List (List Tx)
 Pv:List Tx
 cnt:Int
 left:Option Int
 st:Bool
def dn(left:Option Int)(z:Int):Int:=match left with|none=>z|some l=>if l<z then l else z
def DM.spend(d:DM)(z:Int):DM:={ d with cnt:=d.cnt+dn d.left z,left:=d.left.map (· - dn d.left z),st:=decide (dn d.left z<z) }
inductive Res where|val (v:V)|full|stop
def kQ(t:Str)(n:Int):Tx:=some (Txt.slice t none (some n))
def DM.write(m:Int)(d:DM)(k:Nat)(t:Str):Res×DM :=
 if d.st=true then (.stop,d) else if ((d.rows.getD k []).length:Int)=m then (.full,d) else
 if dn d.left t.length=0/\(d.spend t.length).st=true then (.stop,d.spend t.length) else
 ((if (d.spend t.length).st=true then .stop else .val (.int (d.rows.getD k []).length)),{ d.spend t.length with rows:=d.rows.set k (d.rows.getD k []++[kQ t (dn d.left t.length)]) })
def DM.empty(d:DM)(k:Nat):Res×DM :=
 if d.st=true then (.stop,d) else
 if (d.spend (d.rows.getD k []).length).st=true then (.stop,{ d.spend (d.rows.getD k []).length with rows:=d.rows.set k (Ml (dn d.left (d.rows.getD k []).length).toNat none++(d.rows.getD k []).drop (dn d.left (d.rows.getD k []).length).toNat) }) else
 (.val .non,{ d.spend (d.rows.getD k []).length with rows:=d.rows.set k [] })
structure Rows(H:Hp)(wl:Addr)(cells:List Addr)(rows:List (List Tx)):Prop where
 w:H wl=some (.lst (cells.map V.ref))
 len:cells.length=rows.length
 at_:∀i c,cells[i]?=some c->H c=some (.lst ((rows.getD i []).map tv))
def zD(m:Int)(wl sl:Addr)(d:DM):List (Str×V):=[("width",.int m),("written",.ref wl),("at_sides",.ref sl),("counted",.int d.cnt),("left",lv d.left),("has_stopped",.bl d.st)]
structure zE(A:zj)(H:Hp)(p wl sl:Addr)(cells:List Addr)(m:Int)(d:DM):Prop where
 ob:∃dx,H p=some (.ins A.pD dx (zD m wl sl d))
 rows:Rows H wl cells d.rows
 Pv:H sl=some (.lst (d.Pv.map tv))
 nd:(p::wl::sl::cells).Nodup
def zy(F:List Addr)(H H':Hp):Prop:=∀b o,H b=some o->b∉F->H' b=some o
theorem zy.refl:zy F H H:=λ_ _ h _=>h
theorem zy.trans(a:zy F H H1)(b:zy F H1 H2):zy F H H2:=λc o h hc=>b c o (a c o h hc) hc
theorem zy.mono(a:zy F H H')(s:∀x∈F,x∈G):zy G H H':=λc o h hc=>a c o h λz=>hc (s c z)
theorem zy.same(a:ze H H'):zy F H H':=λc o h _=>a c o h
theorem zy.upd{o:HO}(hx:x∈F):zy F H (L2.upd H x o):=λc u h hc=>by
 have G:c≠x:=λz=>hc (by rw [z];exact hx);rw [zd G];exact h
theorem Rows.keep(r:Rows H wl cells rows)(k:∀b o,H b=some o->b=wl\/b∈cells->H' b=some o):Rows H' wl cells rows :=
 {k _ _ r.w (.inl rfl),r.len,λi c hc=>k _ _ (r.at_ i c hc) (.inr (LF hc))}
theorem zE.keep{p wl sl:Addr}(D:zE A H p wl sl cells m d)(k:zy F H H')(z:∀x∈p::wl::sl::cells,x∉F):zE A H' p wl sl cells m d:=by
 obtain ⟨dx,h⟩:=D.ob;refine {{dx,k _ _ h (z _ 's')},D.rows.keep λb o e hb=>k b o e (z b ?_),k _ _ D.Pv (z _ 's'),D.nd};rcases hb with rfl|hb
 .simp
 .simp [hb]
theorem Eh{l:List Addr}(nd:l.Nodup){i j:Nat}(h1:l[i]?=some a)(h2:l[j]?=some a):i=j:=by
 obtain ⟨hi,e1⟩:=Lp.mp h1;obtain ⟨F,z⟩:=Lp.mp h2;exact (List.getElem_inj nd).mp (e1.trans z.symm)
theorem Rows.set{k:Nat}{r:List Tx}(R:Rows H wl cells rows)(nd:(wl::cells).Nodup)(hc:cells[k]?=some c):Rows (upd H c (.lst (r.map tv))) wl cells (rows.set k r):=by
 have J:=ML.mp nd;have O:k<rows.length:=by rw [<- R.len];exact (Lp.mp hc).1
 have F:wl≠c:=λz=>J.1 (by rw [z];exact LF hc);refine {by rw [zd F];exact R.w,by rw [MZ];exact R.len,λi b hb=>?_};by_cases hi:i=k
 .subst hi;rw [hc] at hb;cases hb;rw [zx];simp [Lr,O]
 .have G:b≠c:=λz=>by
   subst z;exact hi (Eh J.2 hb hc)
  rw [zd G,R.at_ i b hb];simp [Lr,N5 (L9 hi)]
abbrev qv:Stmt:=aG (top 53) 1
abbrev qU:Stmt:=aG (top 53) 2
abbrev pT:Stmt:=aG (top 53) 3
abbrev oi:Stmt:=aG (top 53) 4
abbrev mU:Stmt:=aG (top 53) 6
abbrev lK:Stmt:=aG (top 53) 12
abbrev mV:Stmt:=aG (top 53) 13
abbrev jw:Stmt:=aG (top 53) 14
section
variable {P:Ly}{w:LW}{K:Frag}{mg:Str->Option Value}{base:Heap}{A:zj}
section
variable {m:Int}{wl sl:Addr}{d:DM}
theorem mL:(zD m wl sl d).lookup ("width":Str)=some (.int m):=by kernel_rfl
theorem gj:(zD m wl sl d).lookup ("written":Str)=some (.ref wl):=by kernel_rfl
theorem Iu:(zD m wl sl d).lookup ("at_sides":Str)=some (.ref sl):=by kernel_rfl
theorem lu:(zD m wl sl d).lookup ("counted":Str)=some (.int d.cnt):=by kernel_rfl
theorem tP:(zD m wl sl d).lookup ("left":Str)=some (lv d.left):=by kernel_rfl
theorem vF:(zD m wl sl d).lookup ("has_stopped":Str)=some (.bl d.st):=by kernel_rfl
theorem qM:(zD m wl sl d).lookup (V9:Str)=none:=by kernel_rfl
theorem gO:(zD m wl sl d).lookup (VY:Str)=none:=by kernel_rfl
theorem gF:(zD m wl sl d).lookup (Wa:Str)=none:=by kernel_rfl
theorem Dw:(zD m wl sl d).lookup ("told":Str)=none:=by kernel_rfl
theorem tQ:(zD m wl sl d).lookup ("signs":Str)=none:=by kernel_rfl
theorem sh:(zD m wl sl d).lookup ("write":Str)=none:=by kernel_rfl
theorem DE:(zD m wl sl d).lookup ("empty":Str)=none:=by kernel_rfl
theorem Be:(zD m wl sl d).lookup ("stop":Str)=none:=by kernel_rfl
theorem Hj:(zD m wl sl d).lookup (V2:Str)=none:=by kernel_rfl
theorem gE:(zD m wl sl d).lookup (Wc:Str)=none:=by kernel_rfl
theorem uv:(zD m wl sl d).lookup ("spend":Str)=none:=by kernel_rfl
theorem KY:(zD m wl sl d).lookup (VS:Str)=none:=by kernel_rfl
theorem GI:zL "left" (lv x) (zD m wl sl d)=zD m wl sl { d with left:=x }:=by kernel_rfl
theorem ow:zL "left" (.int x) (zD m wl sl d)=zD m wl sl { d with left:=some x }:=GI (x:=some x)
theorem rg:zL "counted" (.int x) (zD m wl sl d)=zD m wl sl { d with cnt:=x }:=by kernel_rfl
theorem sC:zL "has_stopped" (.bl x) (zD m wl sl d)=zD m wl sl { d with st:=x }:=by kernel_rfl
theorem ig:(zD m wl sl d).length<1000:=by show 6<1000;decide
end
inductive cW(A:zj)(r:Int->DM->V)(vs:List V)(H:Hp)(Q:VK)(E:XK):Prop
 | mk:∀(p wl sl:Addr)(cells:List Addr)(m:Int)(d:DM),(vs=[.ref p])->(zE A H p wl sl cells m d)->(Q (r m d) H)->cW A r vs H Q E
inductive gQ(A:zj)(vs:List V)(H:Hp)(Q:VK)(E:XK):Prop
 | mk:∀(p wl sl:Addr)(cells:List Addr)(m:Int)(d:DM)(k:Nat),(vs=[.ref p,.int k])->(zE A H p wl sl cells m d)->(k<d.rows.length)->(Q (.int (d.rows.getD k []).length) H)->gQ A vs H Q E
def kW(d:DM)(k j:Nat):V:=tv ((d.rows.getD k []).getD j none)
inductive ou(A:zj)(vs:List V)(H:Hp)(Q:VK)(E:XK):Prop
 | mk:∀(p wl sl:Addr)(cells:List Addr)(m:Int)(d:DM)(k j:Nat),(vs=[.ref p,.int k,.int j])->(zE A H p wl sl cells m d)->(k<d.rows.length)->(Q (kW d k j) H)->ou A vs H Q E
inductive gX(A:zj)(vs:List V)(H:Hp)(Q:VK)(E:XK):Prop
 | mk:∀(p wl sl:Addr)(cells:List Addr)(m:Int)(d:DM),(vs=[.ref p])->(zE A H p wl sl cells m d)->((d.st=true->E (.ref A.Ro) none H))->((d.st=false->Q .non H))->gX A vs H Q E
inductive lF(A:zj)(vs:List V)(H:Hp)(Q:VK)(E:XK):Prop
 | mk:∀(p wl sl:Addr)(cells:List Addr)(m:Int)(d:DM)(n:Int),(vs=[.ref p,.int n])->(zE A H p wl sl cells m d)->(∀H',zE A H' p wl sl cells m (d.spend n)->zy [p] H H'->Q (.int (dn d.left n)) H')->lF A vs H Q E
inductive pE(A:zj)(vs:List V)(H:Hp)(Q:VK)(E:XK):Prop
 | mk:∀(p wl sl:Addr)(cells:List Addr)(m:Int)(d:DM)(t:Str),(vs=[.ref p,.str t])->(zE A H p wl sl cells m d)->(t.length<=1000)->(∀H',zE A H' p wl sl cells m (d.spend t.length)->zy [p] H H'->((dn d.left t.length=0/\(d.spend t.length).st=true->E (.ref A.Ro) none H')/\(¬ (dn d.left t.length=0/\(d.spend t.length).st=true)->Q (.str (Txt.slice t none (some (dn d.left t.length)))) H')))->pE A vs H Q E
theorem Rows.cell(R:Rows H wl cells rows){k:Nat}(F:k<rows.length):∃c,cells[k]?=some c/\atI (cells.map V.ref) (k:Int)=some (.ref c)/\H c=some (.lst ((rows.getD k []).map tv)):=by
 have z:k<cells.length:=by rw [R.len];exact F
 refine {cells[k],KE z,bz (by rw [LP,KE z];rfl),R.at_ k _ (KE z)}
theorem zE.obj{p wl sl dx:Addr}(D:zE A H p wl sl cells m d)(h1:d'.rows=d.rows)(h2:d'.Pv=d.Pv):zE A (upd H p (.ins A.pD dx (zD m wl sl d'))) p wl sl cells m d':=by
 have F:=ML.mp D.nd;have ne:∀b∈wl::sl::cells,b≠p:=λb hb z=>F.1 (by rw [<- z];exact hb);refine {⟨dx,zx⟩,?_,?_,D.nd}
 .rw [h1];refine D.rows.keep λb o e hb=>?_;rw [zd (ne b (by rcases hb with rfl|hb<;>simp_all))];exact e
 .rw [h2,zd (ne sl 's')];exact D.Pv
theorem Fn:zq ZK ZK (zk qv):=fsc
theorem Ji(F:Fun K V9 "Disk.stretches" qv f fd)(T:Txt w K mg A):zp P w K mg base CX0 cm 1 f fd ZK (cW A λ_ d=>.int d.rows.length):=by
 refine F.ok Fn (λvs H Q E h=>?_) (λz G outer s H vs Q E hr h=>?_)
 .obtain ⟨p,wl,sl,cells,m,d,rfl,_⟩:=h;rfl
 .obtain ⟨p,wl,sl,cells,m,d,rfl,D,q⟩:=h;obtain ⟨dx,h1⟩:=D.ob;refine {_,(W.h (zh (zu (zH af rfl T.qb LY (zb (fD (ae T.mu T.nI (clE (za 0)))) zc))))),?_};erw [h1,D.rows.w,gj,Ln,D.rows.len];exact q
theorem Co:zq ZK ZK (zk qU):=fsc
theorem Fu(F:Fun K VY "Disk.places" qU f fd)(T:Txt w K mg A):zp P w K mg base CX0 cm 1 f fd ZK (cW A λm _=>.int m):=by
 refine F.ok Co (λvs H Q E h=>?_) (λz G outer s H vs Q E hr h=>?_)
 .obtain ⟨p,wl,sl,cells,m,d,rfl,_⟩:=h;rfl
 .obtain ⟨p,wl,sl,cells,m,d,rfl,D,q⟩:=h;obtain ⟨dx,h1⟩:=D.ob;refine {_,(W.h (zh (zu (fD (ae T.mu T.z0 (clE (za 0))))))),?_};erw [h1,mL];exact q
theorem B0:zq ZK ZK (zk mU):=fsc
theorem FO(F:Fun K "signs" "Disk.signs" mU f fd)(T:Txt w K mg A):zp P w K mg base CX0 cm 1 f fd ZK (cW A λ_ d=>.int d.cnt):=by
 refine F.ok B0 (λvs H Q E h=>?_) (λz G outer s H vs Q E hr h=>?_)
 .obtain ⟨p,wl,sl,cells,m,d,rfl,_⟩:=h;rfl
 .obtain ⟨p,wl,sl,cells,m,d,rfl,D,q⟩:=h;obtain ⟨dx,h1⟩:=D.ob;refine {_,(W.h (zh (zu (fD (ae T.mu T.ri (clE (za 0))))))),?_};erw [h1,lu];exact q
theorem A4:zq Zl Zl (zk pT):=fsc
theorem Ht(F:Fun K Wa "Disk.next_place" pT f fd)(T:Txt w K mg A):zp P w K mg base CX0 cm 1 f fd Zl (gQ A):=by
 refine F.ok A4 (λvs H Q E h=>?_) (λO J outer s H vs Q E hr h=>?_)
 .obtain ⟨p,wl,sl,cells,m,d,k,rfl,_⟩:=h;rfl
 .obtain ⟨p,wl,sl,cells,m,d,k,rfl,D,G,q⟩:=h;obtain ⟨dx,h1⟩:=D.ob;obtain ⟨c,hc,ha,z⟩:=D.rows.cell G;refine {_,(W.h (zh (zu (zH af rfl T.qb LY (zb (zQ zT (fD (ae T.mu T.nI (clE (za 0)))) (za 1) (λ_ _=>rfl)) zc))))),?_};erw [h1,D.rows.w,gj,ha,z,Ln];exact q
theorem ug:zq ["self","stretch","place","texts"] W8 (zk oi):=fsc
theorem FK(F:Fun K "told" "Disk.told" oi f fd)(T:Txt w K mg A):zp P w K mg base CX0 cm 1 f fd W8 (ou A):=by
 refine F.ok ug (λvs H Q E h=>?_) (λS U outer s H vs Q E hr h=>?_)
 .obtain ⟨p,wl,sl,cells,m,d,k,j,rfl,_⟩:=h;rfl
 .obtain ⟨p,wl,sl,cells,m,d,k,j,rfl,D,O,q⟩:=h;obtain ⟨dx,h1⟩:=D.ob;obtain ⟨c,hc,ha,J⟩:=D.rows.cell O;refine {_,(W.h (zg (zw (i:=3) ug.nd rfl (LK rfl) (zQ zT (fD (ae T.mu T.nI (clE (za 0)))) (za 1) (λ_ _=>rfl)))
   (zh (zu (lN (tD (zG (clO (oI0 gZ)) (clE (za 2)) (clE (zH af rfl T.qb LY (zb (za 3) zc))) (zC _))) (zQ zT (za 3) (za 2) (λ_ _=>rfl)) aE))))),?_}
  erw [h1,D.rows.w,gj,ha,J,Ln];refine zS (λh=>?_) (λh=>?_)
  .have G:j<(d.rows.getD k []).length:=by have:=of_decide_eq_true h;lia
   refine {_,bz (by rw [LP,KE G];rfl),?_};unfold kW at q;rw [Lr,KE G] at q;exact q
  .have G : ¬ j<(d.rows.getD k []).length:=λz=>h (decide_eq_true 'l');unfold kW at q;rw [Lr,NK 'l'] at q;exact q
theorem DQ:zq ZK ZK (zk lK):=fsc
theorem ET(F:Fun K Wc V5 lK f fd)(T:Txt w K mg A):zp P w K mg base (CXW P w) true 1 f fd ZK (gX A):=by
 refine F.Ud DQ (λvs H Q E h=>?_) (λz S outer s H vs Q E hr h=>?_)
 .obtain ⟨p,wl,sl,cells,m,d,rfl,_⟩:=h;rfl
 .obtain ⟨p,wl,sl,cells,m,d,rfl,D,O,J⟩:=h;obtain ⟨dx,h1⟩:=D.ob;have G:=fC (cm:=true) (P:=P) (w:=w) (K:=K) (mg:=mg) (base:=base) (N:=ZK) (qual:=V5) (scope:=zk lK) (f:=f) (cd:=z) (A:=S) (outer:=outer) (s:=s) (H:=H) (E:=E);refine {_,(W.h (zh (zJ (bH (fD (ae T.mu T.qs (clE (za 0)))))
   (zh (jb rfl G T.RC rfl T.RP (zb zO zc)))
   zR))),?_}
  erw [h1,vF];refine zS (λh=>{'d',O h}) (λh=>J (Ox.mpr h))
theorem rA:zq ["self","many","done"] X3 (zk mV):=fsc
theorem Gn(F:Fun K "spend" "Disk.spend" mV f fd)(T:Txt w K mg A):zp P w K mg base CX0 true 1 f fd X3 (lF A):=by
 refine F.ok rA (λvs H Q E h=>?_) (λG J outer s H vs Q E hr h=>?_)
 .obtain ⟨p,wl,sl,cells,m,d,n,rfl,_⟩:=h;rfl
 .obtain ⟨p,wl,sl,cells,m,d,n,rfl,D,q⟩:=h;obtain ⟨dx,h1⟩:=D.ob;refine {_,(W.h (zg (zw (i:=2) rA.nd rfl (LK rfl) (za 1))
   (zg (zJ (tD (zG (clO iV) (clE (fD (ae T.mu T.vr (clE (za 0))))) (clE aE) (zC _)))
   (zg (zw (i:=2) rA.nd rfl (LK rfl) (zH (AJ rfl) rfl T.Uw boot_min (zb (za 1) (zb (fD (ae T.mu T.vr (clE (za 0)))) zc))))
   (zh (wW T.mu T.vr (za 0) (za 2) JB)))
   zR)
   (zg (wW T.mu T.ri (za 0) (za 2) F6)
   (zg (sfD (bh T.mu T.qs (clE (za 0)) (clE (dZ (oI0 gZ) (za 2) (za 1) (zC _)))))
   (zh (zu (za 2)))))))),?_}
  cases hl:d.left with
  | none =>
   erw [h1,tP,hl,lv,zx,lu,rg,sC,ow,ig,dW];have e:d.spend n={ d with cnt:=d.cnt+n,left:=none,st:=decide (n<n) }:=by unfold DM.spend;rw [hl];rfl
   have z:dn d.left n=n:=by rw [hl];rfl
   rw [e,z] at q;exact q _ (D.obj rfl rfl) (zy.upd 's')
  | some l =>
   erw [h1,tP,hl,lv,zx,lu,rg,sC,ow,ig,dW];have z:dn d.left n=if l<n then l else n:=by rw [hl];rfl
   have e:d.spend n={ d with cnt:=d.cnt+(if l<n then l else n),left:=some (l-if l<n then l else n),st:=decide ((if l<n then l else n)<n) }:=by unfold DM.spend;rw [z,hl];rfl
   rw [e,z] at q;exact q _ (D.obj rfl rfl) (zy.upd 's')
theorem yu:zq ["self","text","done"] ["self","text"] (zk jw):=fsc
theorem Ko(F:Fun K VS "Disk.first_signs" jw f fd)(T:Txt w K mg A)(S:GM P w K mg base true 1 A.pD "spend" X3 (lF A))(Z9:GMX P w K mg base true 1 A.pD Wc ZK (gX A)):zp P w K mg base (CXW P w) true 2 f fd ["self","text"] (pE A):=by
 refine F.Ud yu (λvs H Q E h=>?_) (λZY Ar outer s H vs Q E hr h=>?_)
 .obtain ⟨p,wl,sl,cells,m,d,t,rfl,_⟩:=h;rfl
 .obtain ⟨p,wl,sl,cells,m,d,t,rfl,D,ht,q⟩:=h;obtain ⟨dx,h1⟩:=D.ob;have Z:_<cLine:=Mo (zY hr);have Th:=fC (cm:=true) (P:=P) (w:=w) (K:=K) (mg:=mg) (base:=base) (N:=["self","text","done"]) (qual:="Disk.first_signs") (scope:=zk jw) (f:=f) (cd:=ZY) (A:=Ar) (outer:=outer) (s:=s) (H:=H) (E:=E);refine {_,(W.h (zg (zw (i:=2) yu.nd rfl (LK rfl) (mD (bI (clE (za 0)) T.mu S hr (clP (zb (zH af rfl T.qb LY (zb (za 1) zc)) zc)))))
   (zg (zJ (tD (zG (clO (oE (aW Z))) (clE (za 2)) (clE zi) (zC _)))
   (zh (aC (hJ (gW (clE (za 0)) T.mu Th Z9 hr))))
   zR)
   (zh (zu (dH eY (za 1) dC (dG (za 2)))))))),?_}
  have J:t.length<=sizeLine:=L8 ht 'd';erw [h1,uv,J];refine {p,wl,sl,cells,m,d,_,rfl,D,λH1 G k1=>?_};obtain ⟨q1,O⟩:=q H1 G k1;obtain ⟨U,g1⟩:=G.ob;erw [g1,gE,J];refine zS (λh=>?_) (λh=>?_)
  .have h0:=of_decide_eq_true h;refine {p,wl,sl,cells,m,_,rfl,G,λhs=>?_,λhs=>?_}
   .exact {_,rfl,q1 ⟨h0,hs⟩}
   .erw [J];exact O λz=>by rw [z.2] at hs;cases hs
  .exact O λz=>h (decide_eq_true z.1)
end
abbrev jr:Stmt:=aG (top 53) 7
abbrev jt:Stmt:=aG (top 53) 9
section
variable {P:Ly}{w:LW}{K:Frag}{mg:Str->Option Value}{base:Heap}{A:zj}
theorem zE.Tf{p wl sl c:Addr}{k:Nat}{r:List Tx}(D:zE A H p wl sl cells m d)(hc:cells[k]?=some c):zE A (upd H c (.lst (r.map tv))) p wl sl cells m { d with rows:=d.rows.set k r }:=by
 have hm:=LF hc;have nd:=D.nd;simp only [ML,Lu,not_or] at nd;obtain ⟨⟨U,S,n3⟩,⟨W,J⟩,G,O⟩:=nd;obtain ⟨dx,h⟩:=D.ob;have e1:p≠c:=λz=>n3 (by rw [z];exact hm);have F:sl≠c:=λz=>G (by rw [z];exact hm);exact {{dx,by rw [zd e1];exact h},D.rows.set (ML.mpr ⟨J,O⟩) hc,by rw [zd F];exact D.Pv,D.nd}
def Out(A:zj)(r:Res)(Q:VK)(E:XK)(H:Hp):Prop:=match r with | .val v=>Q v H | .full=>E (.ref A.Full) none H | .stop=>E (.ref A.Ro) none H
def nG(d:DM):Prop:=∀k,(d.rows.getD k []).length<=1000
inductive qF(A:zj)(vs:List V)(H:Hp)(Q:VK)(E:XK):Prop
 | mk:∀(p wl sl:Addr)(cells:List Addr)(m:Int)(d:DM)(k:Nat)(t:Str),(vs=[.ref p,.int k,.str t])->(zE A H p wl sl cells m d)->(k<d.rows.length)->(t.length<=1000)->(nG d)->(∀H',zE A H' p wl sl cells m (d.write m k t).2->zy (p::wl::sl::cells) H H'->Out A (d.write m k t).1 Q E H')->qF A vs H Q E
inductive nh(A:zj)(vs:List V)(H:Hp)(Q:VK)(E:XK):Prop
 | mk:∀(p wl sl:Addr)(cells:List Addr)(m:Int)(d:DM)(k:Nat),(vs=[.ref p,.int k])->(zE A H p wl sl cells m d)->(k<d.rows.length)->(nG d)->((∀l,d.left=some l->0<=l))->(∀H',zE A H' p wl sl cells m (d.empty k).2->zy (p::wl::sl::cells) H H'->Out A (d.empty k).1 Q E H')->nh A vs H Q E
theorem si{d:DM}{n:Int}:(d.spend n).rows=d.rows:=rfl
theorem Bp{r:List Tx}{t:Str}{n:Int}:r.map tv++[V.str (Txt.slice t none (some n))]=(r++[kQ t n]).map tv:=by rw [Mp];rfl
theorem mx:zq Wi WW (zk jr):=fsc
theorem La(F:Fun K "write" "Disk.write" jr f fd)(T:Txt w K mg A)(ZJ:GMX P w K mg base true 2 A.pD VS ["self","text"] (pE A))(Z9:GMX P w K mg base true 1 A.pD Wc ZK (gX A)):zp P w K mg base (CXW P w) true 3 f fd WW (qF A):=by
 refine F.Ud mx (λvs H Q E h=>?_) (λZY Ar outer s H vs Q E hr h=>?_)
 .obtain ⟨p,wl,sl,cells,m,d,k,t,rfl,_⟩:=h;rfl
 .obtain ⟨p,wl,sl,cells,m,d,k,t,rfl,D,hk,ht,Z,q⟩:=h;obtain ⟨dx,h1⟩:=D.ob;have hu:_<cLine:=Mo (zY hr);obtain ⟨c,hc,ha,hH⟩:=D.rows.cell hk;have O:=fC (cm:=true) (P:=P) (w:=w) (K:=K) (mg:=mg) (base:=base) (N:=Wi) (qual:="Disk.write") (scope:=zk jr) (f:=f) (cd:=ZY) (A:=Ar) (outer:=outer) (s:=s) (H:=H) (E:=E);refine {_,(W.h (zg (aC (hJ (gW (clE (za 0)) T.mu O Z9 hr)))
   (zg (zw (i:=3) mx.nd rfl (LK rfl) (zQ zT (fD (ae T.mu T.nI (clE (za 0)))) (za 1) (λ_ _=>rfl)))
   (zg (zw (i:=4) mx.nd rfl (LK rfl) (zH af rfl T.qb LY (zb (za 3) zc)))
   (zg (zJ (tD (zG (clO (oE (aW hu))) (clE (za 4)) (clE (fD (ae T.mu T.z0 (clE (za 0))))) (zC _)))
   (zh (jb rfl O T.TY rfl T.TU (zb zO zc)))
   zR)
   (zg (aC (d6 (za 3) (mXD (jk (clE (za 0)) T.mu O ZJ hr (clP (zb (za 2) zc))))))
   (zg (aC (hJ (gW (clE (za 0)) T.mu O Z9 hr)))
   (zh (zu (za 4)))))))))),?_}
  erw [h1,gE];unfold DM.write at q;refine {p,wl,sl,cells,m,d,rfl,D,λhs=>?_,λhs=>?_}
  .rw [if_pos hs] at q;exact {_,rfl,q H D zy.refl}
  rw [if_neg (by rw [hs];exact Lz)] at q;erw [h1,D.rows.w,gj,mL,ha,hH,Ln];refine zS (λh=>?_) (λh=>?_)
  .rw [if_pos (of_decide_eq_true h)] at q;exact {'d',q H D zy.refl}
  rw [if_neg (λz=>h (decide_eq_true z))] at q;erw [h1,hH,KY];refine {p,wl,sl,cells,m,d,t,rfl,D,ht,λH1 S k1=>{λhz=>?_,λhz=>?_}}
  .rw [if_pos hz] at q;exact {_,rfl,q H1 S (k1.mono 's')}
  rw [if_neg hz] at q;obtain ⟨ab,g1⟩:=S.ob;have gc:=S.rows.at_ k c hc;rw [si] at gc;have U:=S.Tf (r:=d.rows.getD k []++[kQ t (dn d.left t.length)]) hc;obtain ⟨WI,g2⟩:=U.ob;erw [gc,Bp,g2,gE];refine {by rw [Ln];exact i8 (Z k),p,wl,sl,cells,m,_,rfl,U,λZz=>{_,rfl,?_},λZz=>?_}
  .have G:(d.spend t.length).st=true:=Zz;have J:=q _ U ((k1.mono 's').trans (zy.upd (by simp [LF hc])));rw [if_pos G] at J;exact J
  .have G:(d.spend t.length).st=false:=Zz;right;have J:=q _ U ((k1.mono 's').trans (zy.upd (by simp [LF hc])));rw [if_neg (by rw [G];exact Lz)] at J;exact J
abbrev pN:Stmt:=top 17
abbrev qo:Stmt:=top 18
abbrev jx:Stmt:=aG (top 53) 0
abbrev k8:Stmt:=aG (top 53) 11
inductive Thg(H:Hp):V->Prop
 | non:Thg H .non
 | bl (b:Bool):Thg H (.bl b)
 | int (i:Int):Thg H (.int i)
 | str (x:Str):Thg H (.str x)
 | lst {a:Addr}{xs:List V}:H a=some (.lst xs)->Thg H (.ref a)
 | tup {a:Addr}{xs:List V}:H a=some (.tup xs)->Thg H (.ref a)
 | dic {a:Addr}{kvs:List (Key×V)}:H a=some (.dK kvs)->Thg H (.ref a)
def lV:V->Bool | .int _=>true|_=>false
def gG(v:V)(a b:Int):Bool:=match v with | .int i=>decide (a<=i)&&decide (i<=b)|_=>false
inductive nt(vs:List V)(H:Hp)(Q:VK)(E:XK):Prop
 | mk:∀v,(vs=[v])->(Thg H v)->(Q (.bl (lV v)) H)->nt vs H Q E
inductive jc(vs:List V)(H:Hp)(Q:VK)(E:XK):Prop
 | mk:∀v a b,(vs=[v,.int a,.int b])->(Thg H v)->(Q (.bl (gG v a b)) H)->jc vs H Q E
theorem JF{X:Cx}(t:Thg H v)(q:Q (.bl (match v with | .int _=>true | .bl _=>true|_=>false)) H):lx X.K [v,.ty "int"] H Q:=by
 cases t with
 | non=>exact {_,_,_,_,_,rfl,rfl,.of .non,rfl,q}
 | bl b=>exact {_,_,_,_,_,rfl,rfl,.of (.bl b),rfl,q}
 | int i=>exact {_,_,_,_,_,rfl,rfl,.of (.int i),rfl,q}
 | str x=>exact {_,_,_,_,_,rfl,rfl,.of (.str x),rfl,q}
 | lst h=>exact {_,_,_,_,_,rfl,rfl,.of (.lst h),rfl,q}
 | tup h=>exact {_,_,_,_,_,rfl,rfl,.of (.tup h),rfl,q}
 | dic h=>exact {_,_,_,_,_,rfl,rfl,.of (.dK h),rfl,q}
theorem vi{X:Cx}(t:Thg H v)(q:Q (.bl (match v with | .bl _=>true|_=>false)) H):lx X.K [v,.ty "bool"] H Q:=by
 cases t with
 | non=>exact {_,_,_,_,_,rfl,rfl,.of .non,rfl,q}
 | bl b=>exact {_,_,_,_,_,rfl,rfl,.of (.bl b),rfl,q}
 | int i=>exact {_,_,_,_,_,rfl,rfl,.of (.int i),rfl,q}
 | str x=>exact {_,_,_,_,_,rfl,rfl,.of (.str x),rfl,q}
 | lst h=>exact {_,_,_,_,_,rfl,rfl,.of (.lst h),rfl,q}
 | tup h=>exact {_,_,_,_,_,rfl,rfl,.of (.tup h),rfl,q}
 | dic h=>exact {_,_,_,_,_,rfl,rfl,.of (.dK h),rfl,q}
theorem EM:zq ["value"] ["value"] (zk pN):=fsc
theorem Ft(F:Fun K "is_whole" "is_whole" pN f fd)(T:Txt w K mg A):zp P w K mg base CX0 cm 1 f fd ["value"] nt:=by
 refine F.ok EM (λvs H Q E h=>?_) (λz G outer s H vs Q E hr h=>?_)
 .obtain ⟨v,rfl,_⟩:=h;rfl
 .obtain ⟨v,rfl,th,q⟩:=h;refine {_,(W.h (zh (zu (anD (jF (clE (zH hW rfl T.vu O8 (zb (za 0) (zb (iN rfl T.T7 boot_int (v:=.ty "int") rfl) zc)))) (hG (ntD (AF (clE (zH hW rfl T.vu O8 (zb (za 0) (zb (iN rfl T.Tv boot_bool (v:=.ty "bool") rfl) zc)))))))))))),?_};right;refine JF th ?_;cases th with
  | int i=>dsimp only [bD];exact jK (vi (.int i) q)
  | bl i=>dsimp only [bD];exact jK (vi (.bl i) q)
  | _=>dsimp only [bD];exact iS q
theorem Jj:zq Yz Yz (zk qo):=fsc
theorem Ay(F:Fun K V3 V3 qo f fd)(T:Txt w K mg A)(z:GF P w K mg base cm 1 "is_whole" ["value"] nt):zp P w K mg base CX0 cm 2 f fd Yz jc:=by
 refine F.ok Jj (λvs H Q E h=>?_) (λG J outer s H vs Q E hr h=>?_)
 .obtain ⟨v,a,b,rfl,_⟩:=h;rfl
 .obtain ⟨v,a,b,rfl,th,q⟩:=h;refine {_,(W.h (zh (zu (anD (jF (clE (caD (zA z hr rfl (clP (zb (za 0) zc))))) (hG (wF (oI0 jU) (oI0 jU) (za 1) (za 0) (za 2)))))))),?_};right;refine {_,rfl,th,?_};cases th with
  | int i =>
   dsimp only [bD,lV];refine jK ?_;right;refine zS (λh=>?_) (λh=>?_)
   .have e:gG (.int i) a b=decide (i<=b):=by show (decide (a<=i)&&_)=_;rw [h];rfl
    rw [<- e];exact q
   .have e:gG (.int i) a b=false:=by show (decide (a<=i)&&_)=_;rw [Ox.mpr h];rfl
    rw [<- e];exact q
  | _=>dsimp only [bD,lV];exact iS q
def DM.new(n:Nat):DM:={Ml n [],[none,none],0,none,false}
inductive kM(A:zj)(vs:List V)(H:Hp)(Q:VK)(E:XK):Prop
 | mk:∀(p dx:Addr)(n m:Int),(vs=[.ref p,.int n,.int m])->(H p=some (.ins A.pD dx []))->(3<=n)->(n<=16)->(2<=m)->(m<=32)->(∀(wl sl:Addr)(cells:List Addr)(H':Hp),zE A H' p wl sl cells m (DM.new n.toNat)->(∀b o,H b=some o->b≠p->H' b=some o)->(∀x∈wl::sl::cells,H x=none)->Q .non H')->kM A vs H Q E
structure tq(H:Hp)(i:Nat)(τ:L2.St)(ys:List V)(H':Hp):Prop where
 τ:∃t,τ=[t]
 ex:∃cells:List Addr,ys=cells.map V.ref/\cells.length=i/\(∀c∈cells,H' c=some (.lst [])/\H c=none)/\cells.Nodup
 same:ze H H'
 le:i<=16
theorem BF:zq Y7 Y7 (zk jx):=fsc
theorem JN:aY { kind:=.function,names:=[(Lo ".0",.local),(Lo "number",.local)],isGenerator:=false,isCoroutine:=false,more:=[] } (zk jx).names Y7 ["number"] [none]=true:=by decide +kernel
theorem Jk:(["number"]:List Str).Nodup:=by decide +kernel
theorem Ed(F:Fun K We "Disk.__init__" jx f fd)(T:Txt w K mg A)(ZV:GF P w K mg base cm 2 V3 Yz jc):zp P w K mg base CX0 cm 3 f fd Y7 (kM A):=by
 refine F.ok BF (λvs H Q E h=>?_) (λZY Ar outer s H vs Q E hr h=>?_)
 .obtain ⟨p,dx,n,m,rfl,_⟩:=h;rfl
 .obtain ⟨p,dx,n,m,rfl,hp,n0,n1,m0,m1,q⟩:=h;have h1:gG (.int n) 3 16=true:=by show (decide _&&decide _)=true;rw [decide_eq_true n0,decide_eq_true n1];rfl
  have h2:gG (.int m) 2 32=true:=by show (decide _&&decide _)=true;rw [decide_eq_true m0,decide_eq_true m1];rfl
  refine {_,(W.h (zg (zJ (eL (bH (caD (zA ZV hr rfl (clP (zb (za 1) (zb (cz rfl T.RH) (zb (cz rfl T.RI) zc))))))))
   (zh gu)
   zR)
   (zg (zJ (eL (bH (caD (zA ZV hr rfl (clP (zb (za 2) (zb (cz rfl T.RS) (zb (cz rfl T.RW) zc))))))))
   (zh gu)
   zR)
   (zg (sfD (bh T.mu T.z0 (clE (za 0)) (clE (za 2))))
   (zg (sfD (bh T.mu T.nI (clE (za 0)) (clE (cF (by intro h;exact nomatch h) (ah.of JN) (Av rfl T.ro (zb (za 1) zc)) (λ_ _ _ _ _=>(zz (i:=0) Jk rfl (LK rfl))) (λ_ _ _ _ _=>cB) (λ_ _ _ _ _=>(aq zc))))))
   (zg (sfD (bh T.mu T.zf (clE (za 0)) (clE (aq (zb aE (zb aE zc))))))
   (zg (sfD (bh T.mu T.ri (clE (za 0)) (clE zi)))
   (zg (sfD (bh T.mu T.vr (clE (za 0)) (clE aE)))
   (zh (sfD (bh T.mu T.qs (clE (za 0)) (clE fh)))))))))))),?_}
  right;refine {.int n,3,16,rfl,.int n,?_};erw [h1];refine {.int m,2,32,rfl,.int m,?_};erw [h2,hp,zx,zL,cb];refine {'d','l','l',zZ.rng (tq (upd H p (.ins A.pD dx [("width",.int m)]))) (λi τ ys H' I=>?_) {{_,rfl},{[],rfl,rfl,'s',QL},ze.refl _,'d'} ?_ ?_}
  .obtain ⟨cells,e,l,_⟩:=I.ex;rw [e,Ln,l];exact i8 (L8 I.le 'd')
  .intro N i τ ys H' hi I hN;obtain ⟨t,rfl⟩:=I.τ;obtain ⟨cells,e,l,hc,WY⟩:=I.ex;right;refine {'d',λc H2 Z _=>hN _ _ _ {{_,rfl},{cells++[c],by rw [e,Mp];rfl,by simp [l],λb hb=>?_,?_},I.same.trans Z.same,'l'}}
   .rcases L6.mp hb with hb|hb
    .exact {Z.same _ _ (hc b hb).1,(hc b hb).2}
    .rw [Lw] at hb;subst hb;exact {Z.at_,I.same.free Z.no}
   .refine Oa.mpr {WY,'s',λa ha b hb=>?_};rw [Lw] at hb;subst hb;exact zr (hc a ha).1 Z.no
  .intro τ ys H1 I D H2 S;obtain ⟨cells,e,l,hc,WY⟩:=I.ex;have e1:H2 p=some (.ins A.pD dx [("width",.int m)]):=S.same _ _ (I.same _ _ zx);have w1:zL "written" (.ref D) [(("width":Str),V.int m)]=[(("width":Str),V.int m),("written",.ref D)]:=by kernel_rfl
   refine {dx,_,e1,by show 1<1000;decide,'d',λs1 H3 n3 _=>?_};rw [w1] at n3;have e3:H3 p=some (.ins A.pD dx [("width",.int m),("written",.ref D)]):=n3.same _ _ zx;have w2:zL "at_sides" (.ref s1) [(("width":Str),V.int m),("written",.ref D)]=[(("width":Str),V.int m),("written",.ref D),("at_sides",.ref s1)]:=by kernel_rfl
   have w3:zL "counted" (.int 0) [(("width":Str),V.int m),("written",.ref D),("at_sides",.ref s1)]=[(("width":Str),V.int m),("written",.ref D),("at_sides",.ref s1),("counted",.int 0)]:=by kernel_rfl
   have w4:zL "left" .non [(("width":Str),V.int m),("written",.ref D),("at_sides",.ref s1),("counted",.int 0)]=[(("width":Str),V.int m),("written",.ref D),("at_sides",.ref s1),("counted",.int 0),("left",.non)]:=by kernel_rfl
   have w5:zL "has_stopped" (.bl false) [(("width":Str),V.int m),("written",.ref D),("at_sides",.ref s1),("counted",.int 0),("left",.non)]=zD m D s1 (DM.new n.toNat):=by kernel_rfl
   refine {dx,_,e3,?_};rw [w2,w3,w4,w5,dW,dW,dW];refine {by show 2<1000;decide,by show 3<1000;decide,by show 4<1000;decide,by show 5<1000;decide,?_};have U:p≠D:=zr (I.same _ _ zx) S.no;have ps:p≠s1:=zr zx n3.no;have G:∀b o,b≠p->H2 b=some o->H3 b=some o:=λb o hb h=>n3.same _ _ (by rw [zd hb];exact h);have J:=S.at_;rw [e] at J;have cp:∀c∈cells,c≠p:=λc O z=>by have:=(hc c O).2;rw [z,zx] at this;cases this
   have cD:∀c∈cells,c≠D:=λc O=>zr (hc c O).1 S.no;have cs:∀c∈cells,c≠s1:=λc O=>zr (show (upd H2 p (.ins A.pD dx [("width",.int m),("written",.ref D)])) c=some _ by rw [zd (cp c O)];exact S.same _ _ (hc c O).1) n3.no;have Ds:D≠s1:=zr (show (upd H2 p (.ins A.pD dx [("width",.int m),("written",.ref D)])) D=some _ by rw [zd (L9 U)];exact J) n3.no;have Hn:∀b,b≠p->(upd H p (.ins A.pD dx [("width",V.int m)])) b=none->H b=none:=λb hb h=>by rw [zd hb] at h;exact h
   refine q D s1 cells _ {⟨dx,zx⟩,{?_,?_,λi c hi=>?_},?_,?_} (λb o hb YM=>?_) (λx hx=>?_)
   .rw [zd (L9 U)];exact G D _ (L9 U) J
   .simp [DM.new,l]
   .have O:=LF hi;rw [zd (cp c O),G c _ (cp c O) (S.same _ _ (hc c O).1)];have:((DM.new n.toNat).rows.getD i [])=[]:=by
     unfold DM.new;rw [Lr,Na];split<;>rfl
    rw [this];rfl
   .rw [zd (L9 ps)];exact n3.at_
   .simp only [ML,Lu,not_or];exact {{U,ps,λz=>cp p z rfl},{Ds,λz=>cD D z rfl},λz=>cs s1 z rfl,WY}
   .rw [zd YM];exact G b _ YM (S.same _ _ (I.same _ _ (by rw [zd YM];exact hb)))
   .simp only [Lu] at hx;rcases hx with rfl|rfl|hx
    .exact Hn _ (L9 U) (I.same.free S.no)
    .have z:=n3.no;rw [zd (L9 ps)] at z;exact Hn _ (L9 ps) (I.same.free (S.same.free z))
    .exact Hn _ (cp x hx) (hc x hx).2
theorem DF{o:HO}(h:H a=some o):upd H a o=H:=by
 funext b;by_cases hb:b=a
 .rw [hb,zx,h]
 .rw [zd hb]
def eN(i:Nat)(r:List Tx):List Tx:=Ml i none++r.drop i
theorem Hc{r:List Tx}(h:i<=r.length):(eN i r).length=r.length:=by simp [eN];lia
theorem E5{r:List Tx}(h:i<r.length):((eN i r).map tv).set i .non=(eN (i+1) r).map tv:=by
 have e:V.non=tv none:=rfl;rw [e,<- List.map_set];congr 1;unfold eN;rw [Pr _ _ 's'];have h2:r.drop i=r[i]::r.drop (i+1):=NT h;rw [h2,M6,Pn,List.set_cons_zero,List.replicate_succ',Ma];rfl
structure Kq(H1:Hp)(p c:Addr)(k:Nat)(n:Int)(r:List Tx)(i:Nat)(σ:L2.St)(H':Hp):Prop where
 ex:∃x,σ=[some (V.ref p),some (.int k),some (.ref c),some (.int n),x]
 at_:H'=upd H1 c (.lst ((eN i r).map tv))
 le:i<=r.length
theorem kZ:zq Wj Zl (zk jt):=fsc
theorem C7(F:Fun K "empty" "Disk.empty" jt f fd)(T:Txt w K mg A)(ZN:GM P w K mg base true 1 A.pD "spend" X3 (lF A))(Z9:GMX P w K mg base true 1 A.pD Wc ZK (gX A)):zp P w K mg base (CXW P w) true 2 f fd Zl (nh A):=by
 refine F.Ud kZ (λvs H Q E h=>?_) (λZY Ar outer s H vs Q E hr h=>?_)
 .obtain ⟨p,wl,sl,cells,m,d,k,rfl,_⟩:=h;rfl
 .obtain ⟨p,wl,sl,cells,m,d,k,rfl,D,hk,Z,hl,q⟩:=h;obtain ⟨dx,h1⟩:=D.ob;obtain ⟨c,hc,ha,hH⟩:=D.rows.cell hk;have Th:=fC (cm:=true) (P:=P) (w:=w) (K:=K) (mg:=mg) (base:=base) (N:=Wj) (qual:="Disk.empty") (scope:=zk jt) (f:=f) (cd:=ZY) (A:=Ar) (outer:=outer) (s:=s) (H:=H) (E:=E);refine {_,(W.h (zg (aC (hJ (gW (clE (za 0)) T.mu Th Z9 hr)))
   (zg (zw (i:=2) kZ.nd rfl (LK rfl) (zQ zT (fD (ae T.mu T.nI (clE (za 0)))) (za 1) (λ_ _=>rfl)))
   (zg (zw (i:=3) kZ.nd rfl (LK rfl) (mD (bI (clE (za 0)) T.mu ZN hr (clP (zb (zH af rfl T.qb LY (zb (za 2) zc)) zc)))))
   (zg (zJ (bH (fD (ae T.mu T.qs (clE (za 0)))))
   (zh (EU (bX NH.never (λ_=>rfl) (cK rfl T.ro (zb (za 3) zc)) (zz (i:=4) kZ.nd rfl (LK rfl))
   (zh (cQ aE (fA (za 2) (za 4) il))))))
   (zh (aC (Ai (za 2)))))
   (zh (aC (hJ (gW (clE (za 0)) T.mu Th Z9 hr))))))))),?_}
  erw [h1,gE];unfold DM.empty at q;refine {p,wl,sl,cells,m,d,rfl,D,λhs=>?_,λhs=>?_}
  .rw [if_pos hs] at q;exact {_,rfl,q H D zy.refl}
  rw [if_neg (by rw [hs];exact Lz)] at q;erw [h1,D.rows.w,gj,ha,hH,Ln,uv];generalize J:d.rows.getD k []=r at q hH ⊢;have aT:r.length<=1000:=by rw [<- J];exact Z k
  refine {p,wl,sl,cells,m,d,_,rfl,D,λH1 U k1=>?_};obtain ⟨av,g1⟩:=U.ob;have gc:=U.rows.at_ k c hc;rw [si,J] at gc;have aL:0<=dn d.left r.length:=by
   unfold dn;split
   .lia
   .rename_i l e;have:=hl l e;split<;>lia
  have ai:dn d.left r.length<=r.length:=by
   unfold dn;split
   .lia
   .split<;>lia
  have kF:∀o,zy (p::wl::sl::cells) H (upd H1 c o):=λo=>(k1.mono 's').trans (zy.upd (by simp [LF hc]));erw [g1,vF];refine zS (λhst=>?_) (λhst=>?_)
  .rw [if_pos hst] at q;refine {'l','l',aj.rng (Kq H1 p c k (dn d.left r.length) r) {{_,rfl},(DF gc).symm,Mu _} ?_ ?_}
   .rintro i σ H' hi ⟨⟨x,rfl⟩,rfl,O⟩;have ix:ixN ((eN i r).map tv).length (0+(i:Int))=some i:=by
     unfold ixN;rw [if_pos 'l',if_pos (by rw [Ln,Hc O];lia)];simp
    erw [zx,ix,dW,E5 (show i<r.length by lia)];exact {{_,rfl},rfl,'l'}
   .rintro σ H' ⟨⟨x,rfl⟩,rfl,O⟩;have z:=U.Tf (r:=eN (dn d.left r.length).toNat r) hc;obtain ⟨WI,g2⟩:=z.ob;erw [g2,gE];refine {p,wl,sl,cells,m,_,rfl,z,λG=>{_,rfl,q _ z (kF _)},λG=>?_};have S:(d.spend r.length).st=false:=G;rw [S] at hst;cases hst
  .rw [if_neg hst] at q;have z:=U.Tf (r:=[]) hc;obtain ⟨WI,g2⟩:=z.ob;have ab:upd H1 c (.lst []) p=some (.ins A.pD WI (zD m wl sl { d.spend r.length with rows:=(d.spend r.length).rows.set k [] })):=g2;erw [gc,ab,gE];refine {p,wl,sl,cells,m,_,rfl,z,λG=>absurd G hst,λG=>?_};right;exact q _ z (kF _)
def DM.copy(d:DM):DM:={ d with left:=none,st:=false }
inductive mZ(A:zj)(vs:List V)(H:Hp)(Q:VK)(E:XK):Prop
 | mk:∀(p wl sl:Addr)(cells:List Addr)(m:Int)(d:DM),(vs=[.ref p])->(zE A H p wl sl cells m d)->(3<=d.rows.length)->(d.rows.length<=16)->(2<=m)->(m<=32)->(∀(p' wl' sl':Addr)(Y1:List Addr)(H':Hp),zE A H' p' wl' sl' Y1 m d.copy->ze H H'->(∀x∈p'::wl'::sl'::Y1,H x=none)->Q (.ref p') H')->mZ A vs H Q E
end
abbrev rf:Stmt:=top 36
abbrev me:Stmt:=top 37
abbrev fi:Stmt:=top 38
def rdT:Tx->Option (List V)|none=>none|some z=>bE z
structure bG(d:DM):Prop where
 ok:∀r∈d.rows,r.length<=32/\∀t∈r,∀z,t=some z->asc z=true/\z.length<=1000
 len:d.rows.length<=16
abbrev Tri:=List V×Nat×Nat
def GP:List V->Int|_::.int k::_=>k|_=>0
def one(o:Option (List V))(k j:Nat):List Tri:=match o with|some row=>[(row,k,j)]|none=>[]
theorem xq(o:Option (List V))(k j:Nat):(one o k j).length<=1:=by cases o<;>simp [one]
def rIn(l:List Tx)(k:Nat):Nat->List Tri
 | 0=>[]
 | j+1=>rIn l k j++one (rdT (l.getD j none)) k j
def wU(rows:List (List Tx)):Nat->List Tri
 | 0=>[]
 | i+1=>wU rows i++rIn (rows.getD i []) i (rows.getD i []).length
def gL(H:Hp)(a:Addr)(t:Tri):Prop:=∃r,H a=some (.tup [.ref r,.int t.2.1,.int t.2.2])/\H r=some (.tup t.1)
def bS(H:Hp)(as:List Addr)(ts:List Tri):Prop:=Paired (gL H) as ts
def zN(H H':Hp):Prop:=∀a o,(∀ps,o≠.tbl ps)->H a=some o->H' a=some o
theorem zN.of(s:ze H H'):zN H H':=λa o _ e=>s a o e
theorem zN.refl:zN H H:=λ_ _ _ e=>e
theorem zN.trans(x:zN H H1)(y:zN H1 H2):zN H H2:=λa o n e=>y a o n (x a o n e)
theorem zN.UC(x:i5 H H' P)(h:H P=some (.tbl ps)):zN H H':=λa o n e=>x a o (λz=>by subst z;rw [h] at e;cases e;exact n _ rfl) e
theorem zN.lam{pos:Pos}(x:i5 H H' P)(h:cN pos q H P):zN H H':=by
 rcases h with h|⟨_,_,_,_,h,_⟩
 .exact zN.UC x h
 .exact zN.UC x h
theorem zN.list(s:zN H H')(h:H a=some (.lst xs)):H' a=some (.lst xs):=s _ _ (λ_=>nofun) h
theorem zN.tup{H H':Hp}(s:zN H H'){a:Addr}{xs:List V}(h:H a=some (.tup xs)):H' a=some (.tup xs):=s _ _ (λ_=>nofun) h
theorem zE.pL{p wl sl:Addr}(D:zE A H p wl sl cells m d)(s:zN H H'):zE A H' p wl sl cells m d:=by
 obtain ⟨dx,e⟩:=D.ob;exact {{dx,s _ _ (λ_=>nofun) e},{s.list D.rows.w,D.rows.len,λi c h=>s.list (D.rows.at_ i c h)},s.list D.Pv,D.nd}
theorem gL.pL{t:Tri}(h:gL H a t)(s:zN H H'):gL H' a t:=let ⟨r,e1,e2⟩:=h;{r,s.tup e1,s.tup e2}
theorem bS.pL(h:bS H as ts)(s:zN H H'):bS H' as ts:=Paired.z9 h λ_ _ r=>r.pL s
theorem bS.same(h:bS H as ts)(s:ze H H'):bS H' as ts:=h.pL (.of s)
theorem eE{α β:Type}{R:α->β->Prop}{F z:List α}{J G:List β}(h1:Paired R F J)(h2:Paired R z G):Paired R (F++z) (J++G):=by
 induction h1 with
 | nil=>exact h2
 | cons r _ O=>exact .cons r O
theorem BB{row:List V}(h:bE z=some row):∃y k ys,row = .str y::.int k::ys:=by
 unfold bE at h;obtain ⟨b,_,h⟩:=bind_eq_some_iff.mp h;cases e:MV (Nf b none (some (-1))) (c1 32) with
 | nil=>rw [e] at h;cases h
 | cons w ws =>
  rw [e,dY] at h;obtain ⟨ks,F,h⟩:=bind_eq_some_iff.mp h;split at h
  .obtain ⟨vs,S,rfl⟩:=Me.mp h;have:∃ks',ks=("number":Str)::ks':=by
    unfold dz at F;split at F
    .cases F;exact {_,rfl}
    .split at F
     .cases F;exact {_,rfl}
     .split at F
      .cases F;exact {_,rfl}
      .split at F
       .cases F;exact {_,rfl}
       .split at F
        .cases F;exact {_,rfl}
        .cases F
   obtain ⟨ks',rfl⟩:=this;cases ws with
   | nil=>rename_i hl;cases hl
   | cons z zs =>
    have G:(aQ "number" z).bind (λv=>(aA ks' zs).map (v::·))=some vs:=S;obtain ⟨v,h1,h2⟩:=bind_eq_some_iff.mp G;obtain ⟨J,_,rfl⟩:=Me.mp h2;have:∃k,v = .int k:=by
     unfold aQ at h1;by_cases O:bQ z=true
     .rw [if_pos {rfl,O}] at h1;cases h1;exact {_,rfl}
     .rw [if_neg (λq=>O q.2),if_neg (λq=>absurd q.1 'd'),if_neg (λq=>absurd q.1 'd'),if_neg (λq=>absurd q.1 'd')] at h1;cases h1
    obtain ⟨k,rfl⟩:=this;exact {w,k,J,rfl}
  .cases h
theorem eX{α:Type}{l:List α}{x:α}(h:j<l.length):l.getD j x∈l:=by
 rw [Lr,KE h];exact Nw h
section
variable {P:Ly}{w:LW}{K:Frag}{mg:Str->Option Value}{base:Heap}{A:zj}
inductive pV(A:zj)(vs:List V)(H:Hp)(Q:VK)(E:XK):Prop
 | mk:∀(p wl sl:Addr)(cells:List Addr)(m:Int)(d:DM)(k j:Nat),(vs=[.ref p,.int k,.int j])->(zE A H p wl sl cells m d)->(bG d)->(k<d.rows.length)->((∀row,rdT ((d.rows.getD k []).getD j none)=some row->∀r H',ze H H'->H' r=some (.tup row)->Q (.ref r) H'))->((rdT ((d.rows.getD k []).getD j none)=none->∀H',ze H H'->Q .non H'))->pV A vs H Q E
theorem CH:zq XR XR (zk rf):=fsc
theorem Hi(F:Fun K "row_at" "row_at" rf f fd)(T:Txt w K mg A)(Z:GM P w K mg base true 1 A.pD "told" W8 (ou A))(U:GX P w K mg base true 5 "read_row" Y4 (rY A)):zp P w K mg base CX0 true 7 f fd XR (pV A):=by
 refine F.ok CH (λvs H Q E h=>?_) (λZY Ar outer s H vs Q E hr h=>?_)
 .obtain ⟨p,wl,sl,cells,m,d,k,j,rfl,_⟩:=h;rfl
 .obtain ⟨p,wl,sl,cells,m,d,k,j,rfl,D,tx,O,S,q2⟩:=h;refine {_,(W.h (zh (vY rfl rfl {rfl,rfl} T.Ru rfl T.RE (λGo Ex=>(zh (zu (cXD (oY uT U hr rfl (clP (zb (mD (bI (clE (za 0)) T.mu Z hr (clP (zb (za 1) (zb (za 2) zc))))) zc))))))) (λGo ea=>by
   have hr:=hr.mark (v:=some (.ref ea));exact (zh (zu aE)))))),?_}
  obtain ⟨dx,h1⟩:=D.ob;erw [h1,Dw];refine {p,wl,sl,cells,m,d,k,j,rfl,D,O,?_};unfold kW;have G:∀z,(d.rows.getD k []).getD j none=some z->asc z=true/\z.length<=1000:=λz e=>by
   have hr:d.rows.getD k []∈d.rows:=eX O;by_cases hj:j<(d.rows.getD k []).length
   .exact (tx.ok _ hr).2 _ (eX hj) z e
   .rw [Lr,NK 'l'] at e;cases e
  have exc:∀H1,ze H H1->rdT ((d.rows.getD k []).getD j none)=none->bR K A.Rr/\mroIn K A.Rr (.ref A.Rr)=some true/\∀(ea:Addr)(oe:Obj),H1 ea=none->iC A.Rr oe->Q V.non (upd H1 ea (HO.frz oe (HO.own 0))):=λH1 s1 J=>{T.Ru,T.Tw,λea oe he _=>q2 J _ λa o e=>by rw [zd (zr (s1 _ _ e) he)];exact s1 _ _ e};generalize (d.rows.getD k []).getD j none=t at G exc S;cases t with
  | none=>exact .inl {_,rfl,.non,_,rfl,exc H (ze.refl _) rfl}
  | some z =>
   obtain ⟨a1,a2⟩:=G z rfl;exact .inr {z,rfl,a1,'l',λxs hx p' H' s' h'=>S xs hx p' H' s' h',λJ H' s'=>{_,rfl,exc H' s' J}}
inductive o7(A:zj)(vs:List V)(H:Hp)(Q:VK)(E:XK):Prop
 | mk:∀(p wl sl:Addr)(cells:List Addr)(m:Int)(d:DM)(k:Nat),(vs=[.ref p,.int k])->(zE A H p wl sl cells m d)->(bG d)->(k<d.rows.length)->(∀l as H',ze H H'->H l=none->H' l=some (.lst (as.map V.ref))->bS H' as (rIn (d.rows.getD k []) k (d.rows.getD k []).length)->Q (.ref l) H')->o7 A vs H Q E
structure Kw(H:Hp)(p l:Addr)(k:Nat)(r:List Tx)(j:Nat)(σ:L2.St)(H':Hp):Prop where
 ex:∃t1 t2,σ=[some (V.ref p),some (.int k),some (.ref l),t1,t2]
 same:ze H H'
 no:H l=none
 ls:∃as:List Addr,H' l=some (.lst (as.map V.ref))/\bS H' as (rIn r k j)/\as.length<=j
theorem lI:zq ["disk","stretch","found","place","row"] ["disk","stretch"] (zk me):=fsc
theorem Lj(F:Fun K "rows_in" "rows_in" me f fd)(T:Txt w K mg A)(Z7:GM P w K mg base true 1 A.pD Wa Zl (gQ A))(Ya:GF P w K mg base true 7 "row_at" XR (pV A)):zp P w K mg base CX0 true 8 f fd ["disk","stretch"] (o7 A):=by
 refine F.ok lI (λvs H Q E h=>?_) (λZY Ar outer s H vs Q E hr h=>?_)
 .obtain ⟨p,wl,sl,cells,m,d,k,rfl,_⟩:=h;rfl
 .obtain ⟨p,wl,sl,cells,m,d,k,rfl,D,tx,U,q⟩:=h;refine {_,(W.h (zg (zw (i:=2) lI.nd rfl (LK rfl) (aq zc))
   (zg (bX NH.never (λ_=>rfl) (cK rfl T.ro (zb (mD (bI (clE (za 0)) T.mu Z7 hr (clP (zb (za 1) zc)))) zc)) (zz (i:=3) lI.nd rfl (LK rfl))
   (zg (zw (i:=4) lI.nd rfl (LK rfl) (caD (zA Ya hr rfl (clP (zb (za 0) (zb (za 1) (zb (za 3) zc)))))))
   (zh (zJ (tD (zG (clO iV) (clE (za 4)) (clE aE) (zC _)))
   (zh (aC (d6 (za 2) (aU (zb (za 4) (zb (za 1) (zb (za 3) zc)))))))
   zR))))
   (zh (zu (za 2)))))),?_}
  have ab:d.rows.getD k []∈d.rows:=by rw [Lr,KE U];exact Nw U
  have av:=(tx.ok _ ab).1;right;refine {'d',λl H1 n1 _=>?_};have D1:=D.pL (.of n1.same);obtain ⟨dx,h1⟩:=D1.ob;erw [h1,gF];refine {p,wl,sl,cells,m,d,k,rfl,D1,U,?_};right;have er:(((d.rows.getD k []).length:Nat):Int).toNat=(d.rows.getD k []).length:=by lia
  rw [er];refine {'l','l',aj.rng (Kw H p l k (d.rows.getD k [])) {{_,_,rfl},n1.same,n1.no,[],n1.at_,.nil,Ll _} ?_ ?_}
  .rintro j σ H2 hj ⟨⟨t1,t2,rfl⟩,sm,ln,as,hl,Z,ha⟩;have ej:(0+(j:Int))=((j:Nat):Int):=by lia
   erw [ej];refine {p,wl,sl,cells,m,d,k,j,rfl,D.pL (.of sm),tx,U,λrow O r H3 G h3=>?_,λhn H3 G=>?_}
   .have S:=G _ _ hl;erw [S];refine {'d',λa H4 J=>?_};have ai:=J.same _ _ S;erw [ai];have al:a≠l:=λz=>by have:=J.no;rw [z,S] at this;cases this
    have rl:r≠l:=λz=>by rw [z,S] at h3;cases h3
    refine {by rw [Ln];exact aJ 'l',{_,_,rfl},λc o e=>?_,ln,as++[a],by rw [zx];simp,?_,by simp;lia}
    .rw [zd (zr e ln)];exact J.same _ _ (G _ _ (sm _ _ e))
    .have e1:rIn (d.rows.getD k []) k (j+1)=rIn (d.rows.getD k []) k j++[(row,k,j)]:=by
      show rIn _ k j++_=_;rw [O];rfl
     rw [e1];refine eE (Paired.z9 Z λx t ⟨r',g1,g2⟩=>?_) (.cons {r,?_,?_} .nil)
     .refine {r',?_,?_}
      .rw [zd (λz=>by rw [z,hl] at g1;cases g1)];exact J.same _ _ (G _ _ g1)
      .rw [zd (λz=>by rw [z,hl] at g2;cases g2)];exact J.same _ _ (G _ _ g2)
     .rw [zd al];exact J.at_
     .rw [zd rl];exact J.same _ _ h3
   .right;refine {{_,_,rfl},sm.trans G,ln,as,G _ _ hl,?_,'l'};have e1:rIn (d.rows.getD k []) k (j+1)=rIn (d.rows.getD k []) k j:=by
     show rIn _ k j++_=_;rw [hn];exact MS _
    rw [e1];exact bS.same Z G
  .rintro σ H2 ⟨⟨t1,t2,rfl⟩,sm,ln,as,hl,Z,ha⟩;right;exact q l as H2 sm ln hl Z
end
abbrev rK:Stmt:=top 39
abbrev kP:Stmt:=top 40
abbrev lZ:Stmt:=top 41
def zt(t:Tri):Int:=GP t.1
theorem JH{α β:Type}{f:α->β}{zs m:List β}(h:zs.Perm m):∀{L:List α},m=L.map f->∃F:List α,F.Perm L/\zs=F.map f:=by
 induction h with
 | nil=>intro L e;cases L with
  | nil=>exact {[],.nil,rfl}
  | cons a L=>cases e
 | cons x _ S =>
  intro L e;cases L with
  | nil=>cases e
  | cons a L =>
   rw [MD] at e;injection e with e1 z
   obtain ⟨F,p,rfl⟩:=S z;exact {a::F,p.cons a,by rw [MD,e1]}
 | swap x y l =>
  intro L e;cases L with
  | nil=>cases e
  | cons a L =>
   cases L with
   | nil=>rw [MD] at e;injection e with _ z;cases z
   | cons b L =>
    rw [MD,MD] at e;injection e with e1 z
    injection z with z e3
    exact {b::a::L,.swap ..,by rw [MD,MD,e1,z,e3]}
 | trans _ _ J G =>
  intro L e;obtain ⟨U,O,e1⟩:=G e;obtain ⟨L2,p2,z⟩:=J e1;exact {L2,p2.trans O,z}
theorem v7:∀{l m:List Tri},l.Perm m->l.Pairwise (λa b=>zt a<zt b)->m.Pairwise (λa b=>zt a<zt b)->l=m
 | [],m,p,_,_=>(N7.nil_eq p)
 | a::l,[],p,_,_=>by have:=p.length_eq;cases this
 | a::l,b::m,p,h1,h2=>by
  obtain ⟨g1,F⟩:=Ny.mp h1;obtain ⟨k1,k2⟩:=Ny.mp h2;have e:a=b:=by
   refine N1 λne=>?_;have ha:a∈b::m:=p.mem_iff.mp (LN ..);have hb:b∈a::l:=p.mem_iff.mpr (LN ..);rcases Lu.mp ha with z|ha
   .exact ne z
   .rcases Lu.mp hb with z|hb
    .exact ne z.symm
    .have:=k1 a ha;have:=g1 b hb;lia
  subst e;rw [v7 (N7.cons_inv p) F k2]
theorem tM{l:List Tri}(nd:(l.map zt).Nodup)(h:l.Pairwise (λa b=>zt a<=zt b)):l.Pairwise (λa b=>zt a<zt b) :=
 (h.and (Q1.mp nd)).imp λ⟨h1,h2⟩=>by lia
open Classical in
noncomputable def aO(U:List Tri):List Tri:=if h:∃ts:List Tri,ts.Perm U/\ts.Pairwise (λa b=>zt a<=zt b) then h.choose else U
theorem FW(nd:(U.map zt).Nodup)(p:ts.Perm U)(h:ts.Pairwise (λa b=>zt a<=zt b)):ts=aO U:=by
 have ex:∃ts:List Tri,ts.Perm U/\ts.Pairwise (λa b=>zt a<=zt b):=⟨ts,p,h⟩;unfold aO;rw [dif_pos ex];have F:(ts.map zt).Nodup:=(p.map zt).nodup_iff.mpr nd;have z:(ex.choose.map zt).Nodup:=(ex.choose_spec.1.map zt).nodup_iff.mpr nd;exact v7 (p.trans ex.choose_spec.1.symm) (tM F h) (tM z ex.choose_spec.2)
def lpW:Pos:={105,29,105,50}
def qW:Str:=(OF Wd (zk fi) 0 0 .none).qual++"<lambda>"
structure TB(A:zj)(H:Hp):Prop where
 w:cN lpW qW H A.Q2
theorem Kp{pos:Pos}(h:cN pos q H P)(k:∀a o,H a=some o->(a=P\/∀ps,o≠.tbl ps)->H' a=some o):cN pos q H' P:=by
 rcases h with h|⟨c,oc,vs,t,h1,h2,h3⟩
 .exact .inl (k _ _ h (.inl rfl))
 .exact .inr {c,oc,vs,t,k _ _ h1 (.inl rfl),k _ _ h2 (.inr λps z=>by cases z),h3}
theorem TB.same(h:TB A H)(s:ze H H'):TB A H':={Kp h.w λa o e _=>s a o e}
theorem TB.keep(h:TB A H)(k:zy F H H')(G:∀x∈F,∀o,H x=some o->(∀ps,o≠.tbl ps)/\∀oc,o≠.frz oc (.own 0)):TB A H':=by
 have go:∀{pos q P},cN pos q H P->cN pos q H' P:=λ{pos q P} h=>by
  rcases h with h|⟨c,oc,vs,t,h1,h2,h3⟩
  .exact .inl (k _ _ h λz=>(G _ z _ h).1 _ rfl)
  .exact .inr {c,oc,vs,t,k _ _ h1 λz=>(G _ z _ h1).1 _ rfl,k _ _ h2 λz=>(G _ z _ h2).2 _ rfl,h3}
 exact {go h.w}
section
variable {P:Ly}{w:LW}{K:Frag}{mg:Str->Option Value}{base:Heap}{A:zj}
def nU(d:DM):List Tri:=wU d.rows d.rows.length
structure F4(H:Hp)(p l:Addr)(d:DM)(i:Nat)(σ:L2.St)(H':Hp):Prop where
 ex:∃t1,σ=[some (V.ref p),some (.ref l),t1]
 same:ze H H'
 no:H l=none
 ls:∃as:List Addr,H' l=some (.lst (as.map V.ref))/\bS H' as (wU d.rows i)/\as.length<=32*i
theorem u9{k:Nat}:∀{j:Nat}{t:Tri},t∈rIn l k j->∃y n ys,t.1 = .str y::.int n::ys
 | 0,t,h=>by cases h
 | j+1,t,h=>by
  rcases L6.mp h with h|h
  .exact u9 h
  .cases e:l.getD j none with
   | none=>rw [e] at h;cases h
   | some z =>
    rw [e] at h;cases F:bE z with
    | none=>rw [show rdT (some z)=bE z from rfl,F] at h;cases h
    | some row =>
     rw [show rdT (some z)=bE z from rfl,F] at h;have h:t=(row,k,j):=Lw.mp h;rw [h];exact BB F
theorem rL:∀{i:Nat}{t:Tri},t∈wU rows i->∃y n ys,t.1 = .str y::.int n::ys
 | 0,t,h=>by cases h
 | i+1,t,h=>by
  rcases L6.mp h with h|h
  .exact rL h
  .exact u9 h
theorem HJ(h:bS H as ts)(F:∀t∈ts,∃y n ys,t.1 = .str y::.int n::ys):Paired (nq H) as (ts.map zt):=by
 induction h with
 | nil=>exact .nil
 | @cons a t _ _ r _ J =>
  refine .cons ?_ (J λt h=>F t (LA _ h));obtain ⟨y,n,ys,e⟩:=F t (LN ..);obtain ⟨O,e1,z⟩:=r;rw [e] at z;have G:zt t=n:=by unfold zt;rw [e];rfl
  rw [G];exact {O,_,_,_,e1,z}
theorem AL{zs:List (Int×Addr)}(h:bS H as ts)(p:zs.Perm ((ts.map zt).zip as))(hs:zs.Pairwise (λp q=>p.1<=q.1))(nd:(ts.map zt).Nodup):bS H (zs.map (·.2)) (aO ts):=by
 have hl:=aN h;have e1:(ts.map zt).zip as=(as.zip ts).map λq=>(zt q.2,q.1):=by
  clear p nd
  induction h with
  | nil=>rfl
  | cons r _ F=>rw [MD,Pz,Pz,MD,F (Paired.length ‹_›)]
 obtain ⟨L,G,rfl⟩:=JH p e1;have J:(as.zip ts).map (·.2)=ts:=List.map_snd_zip 'l';have hm:∀q∈as.zip ts,gL H q.1 q.2:=by
  clear p G e1 J hs nd hl
  induction h with
  | nil=>intro q z;cases z
  | cons r _ F =>
   intro q z;rw [Pz] at z;rcases Lu.mp z with rfl|z
   .exact r
   .exact F q z
 have O:L.map (·.2)=aO ts:=FW nd (by have:=G.map (·.2);rw [J] at this;exact this) (by
  have:=Q1.mp hs;exact Q1.mpr this)
 rw [<- O,Mv];have:∀M:List (Addr×Tri),(∀q∈M,gL H q.1 q.2)->bS H (M.map ((·.2)∘λq=>(zt q.2,q.1))) (M.map (·.2)):=λM=>by
  induction M with
  | nil=>exact λ_=>.nil
  | cons q M F=>exact λh=>.cons (h q (LN ..)) (F λr hr=>h r (LA _ hr))
 exact this L λq z=>hm q (G.mem_iff.mp z)
inductive jv(A:zj)(vs:List V)(H:Hp)(Q:VK)(E:XK):Prop
 | mk:∀(p wl sl:Addr)(cells:List Addr)(m:Int)(d:DM),(vs=[.ref p])->(zE A H p wl sl cells m d)->(bG d)->(((nU d).map zt).Nodup)->((nU d).length<3000)->(TB A H)->(∀l as H',zN H H'->TB A H'->H l=none->l≠sysModules->H' l=some (.lst (as.map V.ref))->bS H' as (aO (nU d))->Q (.ref l) H')->jv A vs H Q E
theorem oU:zq ["disk","found","stretch"] XX (zk fi):=fsc
theorem FB(F:Fun K Wd Wd fi f fd)(hc:fd.code = .ref c)(LB:iz mg base (.ref c) A.Q2)(T:Txt w K mg A)(Z4:GM P w K mg base true 1 A.pD V9 ZK (cW A λ_ d=>.int d.rows.length))(Yu:GF P w K mg base true 8 "rows_in" ["disk","stretch"] (o7 A)):zp P w K mg base CX0 true 9 f fd XX (jv A):=by
 refine F.UQ hc oU (λvs H Q E h=>?_) (λAr outer s H vs Q E hr h=>?_)
 .obtain ⟨p,wl,sl,cells,m,d,rfl,_⟩:=h;rfl
 .obtain ⟨p,wl,sl,cells,m,d,rfl,D,tx,nd,YF,tb,q⟩:=h;refine {_,(W.h (zg (zw (i:=1) oU.nd rfl (LK rfl) (aq zc))
   (zg (bX NH.never (λ_=>rfl) (cK rfl T.ro (zb (m0D (bB (clE (za 0)) T.mu Z4 hr)) zc)) (zz (i:=2) oU.nd rfl (LK rfl))
   (zh (aC (Fx (za 1) (caD (zA Yu hr rfl (clP (zb (za 0) (zb (za 2) zc)))))))))
   (zh (zu (KP LB hr rfl T.RN (za 1) rfl rfl (λ_ _ _ _ _=>rfl) rfl rfl rfl rfl)))))),?_}
  have ai:=tx.len;right;refine {'d',λl H1 U _=>?_};have D1:=D.pL (.of U.same);obtain ⟨dx,h1⟩:=D1.ob;erw [h1,qM];refine {p,wl,sl,cells,m,d,rfl,D1,?_};right;have er:((d.rows.length:Nat):Int).toNat=d.rows.length:=by lia
  rw [er];refine {'l','l',aj.rng (F4 H p l d) {{_,rfl},U.same,U.no,[],U.at_,.nil,Ll _} ?_ ?_}
  .rintro i σ H2 hi ⟨⟨t1,rfl⟩,sm,ln,as,hl,O,ha⟩;have ej:(0+(i:Int))=((i:Nat):Int):=by lia
   erw [hl,ej];refine {p,wl,sl,cells,m,d,i,rfl,D.pL (.of sm),tx,hi,λl2 bs H3 G n3 h3 t3=>?_};have WN:=G _ _ hl;have hb:bs.length<=32:=by
    have e1:=aN t3;have e2:∀(r:List Tx) k j,(rIn r k j).length<=j:=λr k j=>by
     induction j with
     | zero=>exact Ll _
     | succ j ih=>show (rIn r k j++_).length<=_;rw [LC];have:=xq (rdT (r.getD j none)) k j;lia
    have:=e2 (d.rows.getD i []) i (d.rows.getD i []).length;have:=(tx.ok _ (eX (x:=[]) hi)).1;lia
   erw [WN,h3];refine {by rw [Ln,Ln];exact cH 'l',{_,rfl},λc o e=>?_,ln,as++bs,by rw [zx];simp,?_,by simp;lia}
   .rw [zd (zr e ln)];exact G _ _ (sm _ _ e)
   .have S:∀{b xs},H3 b=some (.tup xs)->upd H3 l (.lst (OV V.ref as++OV V.ref bs)) b=some (.tup xs):=λ{b xs} e=>by rw [zd (λz=>by rw [z,WN] at e;cases e)];exact e
    exact eE (Paired.z9 O λx t ⟨r',g1,g2⟩=>{r',S (G _ _ g1),S (G _ _ g2)}) (Paired.z9 t3 λx t ⟨r',g1,g2⟩=>{r',S g1,S g2})
  .rintro σ H2 ⟨⟨t1,rfl⟩,sm,ln,as,hl,O,ha⟩;right;have Z0:=aN O;have J:=tb.same sm;refine {as,hl,J.w,by rw [Z0];exact YF,(nU d).map zt,HJ O λt h=>rL h,λD2 zs H3 L3 T3 f3 av Z e3 pz sz=>?_};have G:zN H2 H3:=zN.lam L3 J.w;have ab:TB A H3:=⟨T3⟩;exact q D2 (zs.map (·.2)) H3 ((zN.of sm).trans G) ab (sm.free f3) Z (by rw [e3,Mv];rfl) ((AL O pz sz nd).pL G)
theorem hX(U:List Tri):(aO U).Perm U:=by
 unfold aO;split
 .rename_i h;exact h.choose_spec.1
 .exact .refl _
def cT(t:Tri):Bool:=match t.1 with | .str y::_=>!decide (y=("carry":Str))|_=>true
def cE(ts:List Tri)(hot:Bool):Nat->Option Nat
 | 0=>none
 | i+1=>match ts[i]? with|some t=>if cT t=hot then some t.2.1 else cE ts hot i|none=>cE ts hot i
def ov:Option Nat->V|none=>.non|some n=>.int n
noncomputable def bA(d:DM)(hot:Bool):Option Nat:=cE (aO (nU d)) hot (aO (nU d)).length
theorem lG{k:Nat}:∀{j:Nat}{t:Tri},t∈rIn l k j->t.2.1=k
 | 0,t,h=>by cases h
 | j+1,t,h=>by
  rcases L6.mp h with h|h
  .exact lG h
  .unfold one at h;split at h
   .rw [Lw] at h;rw [h]
   .cases h
theorem rF:∀{i:Nat}{t:Tri},t∈wU rows i->t.2.1<i
 | 0,t,h=>by cases h
 | i+1,t,h=>by
  rcases L6.mp h with h|h
  .have:=rF h;lia
  .have:=lG h;lia
theorem oZ:∀{i n:Nat},cE ts hot i=some n->∃t∈ts,t.2.1=n
 | 0,n,h=>by cases h
 | i+1,n,h=>by
  unfold cE at h;split at h
  .rename_i t z;split at h
   .cases h;exact {t,LF z,rfl}
   .exact oZ h
  .exact oZ h
theorem jP{n:Nat}(h:bA d hot=some n):n<d.rows.length:=by
 obtain ⟨t,z,rfl⟩:=oZ h;exact rF ((hX _).mem_iff.mp z)
def emp(rows:List (List Tx)):Nat->List Nat
 | 0=>[]
 | i+1=>emp rows i++if (rows.getD i []).length=0 then [i] else []
def iv(n:Nat):V:=.int n
theorem kC(rows:List (List Tx)):∀i,(emp rows i).length<=i
 | 0=>Ll _
 | i+1=>by show (emp rows i++_).length<=_;have:=kC rows i;rw [LC];split<;>simp<;>lia
def fw(d:DM)(m:Int):Option Nat->Int|none=>0|some k=>m-(d.rows.getD k []).length
structure Dz(H1:Hp)(p:Addr)(hot:Bool)(ts:List Tri)(i:Nat)(σ:L2.St)(H':Hp):Prop where
 ex:∃t1 t2 t3,σ=[some (V.ref p),some (.bl hot),some (ov (cE ts hot i)),t1,t2,t3]
 same:H'=H1
inductive lP(A:zj)(vs:List V)(H:Hp)(Q:VK)(E:XK):Prop
 | mk:∀(p wl sl:Addr)(cells:List Addr)(m:Int)(d:DM)(hot:Bool),(vs=[.ref p,.bl hot])->(zE A H p wl sl cells m d)->(bG d)->(((nU d).map zt).Nodup)->((nU d).length<3000)->(TB A H)->(∀H',zN H H'->TB A H'->Q (ov (bA d hot)) H')->lP A vs H Q E
theorem gz:zq ["disk","is_hot","end","row","stretch","place"] Wz (zk rK):=fsc
theorem Au(F:Fun K "end_of" "end_of" rK f fd)(T:Txt w K mg A)(Ze:GF P w K mg base true 9 Wd XX (jv A)):zp P w K mg base CX0 true 10 f fd Wz (lP A):=by
 refine F.ok gz (λvs H Q E h=>?_) (λZY Ar outer s H vs Q E hr h=>?_)
 .obtain ⟨p,wl,sl,cells,m,d,hot,rfl,_⟩:=h;rfl
 .obtain ⟨p,wl,sl,cells,m,d,hot,rfl,D,tx,nd,YF,tb,q⟩:=h;have S:_<cLine:=Mo (zY hr);refine {_,(W.h (zg (zw (i:=2) gz.nd rfl (LK rfl) aE)
   (zg (bX NH.never (λ_=>rfl) (liD (cU (clE (caD (zA Ze hr rfl (clP (zb (za 0) zc))))))) (fI (n:=3) (gsD (zU (zz (i:=3) gz.nd rfl (LK rfl)) (gsD (zU (zz (i:=4) gz.nd rfl (LK rfl)) (gsD (zU (zz (i:=5) gz.nd rfl (LK rfl)) cV)))))))
   (zh (zJ (tD (zG (clO (oE (aW S))) (clE (dZ (oE (jo S)) (zQ zT (za 3) zi (λ_ _=>rfl)) (cz rfl T.Tb) (zC _))) (clE (za 1)) (zC _)))
   (zh (zw (i:=2) gz.nd rfl (LK rfl) (za 4)))
   zR)))
   (zh (zu (za 2)))))),?_}
  right;refine {p,wl,sl,cells,m,d,rfl,D,tx,nd,YF,tb,λl as H1 s1 J ln _ hl Z=>?_};have U:=aN Z;right;refine {{_,SqL.of hl},aj.lst (xs:=as.map V.ref) (Dz H1 p hot (aO (nU d))) {{_,_,_,rfl},rfl} (λi σ H' _ I=>by rw [I.same];exact SqL.of hl) ?_ ?_}
  .rintro i x σ H' hx ⟨⟨t1,t2,t3,rfl⟩,rfl⟩;rw [LP] at hx;obtain ⟨a,ha,rfl⟩:=Me.mp hx;have hi:i<(aO (nU d)).length:=by rw [<- U];exact (Lp.mp ha).1
   have G:(aO (nU d))[i]?=some (aO (nU d))[i]:=KE hi;generalize (aO (nU d))[i]=t at G;obtain ⟨r,e1,O⟩:=aX Z ha G;obtain ⟨y,n,ys,et⟩:=rL ((hX _).mem_iff.mp (LF G));rw [et] at O;refine {a,_,rfl,SqT.of e1,rfl,?_};have ix:atI (V.str y::V.int n::ys) 0=some (V.str y):=bz (j:=0) 's';have eh:cT t = !decide (y=("carry":Str)):=by unfold cT;rw [et]
   erw [O,ix];have ep:cE (aO (nU d)) hot (i+1)=if cT t=hot then some t.2.1 else cE (aO (nU d)) hot i:=by
    show (match (aO (nU d))[i]? with|some t=>_|none=>_)=_;rw [G]
   refine zS (λh=>?_) (λh=>?_)
   .exact {{_,_,_,by rw [ep,if_pos (by rw [eh];exact of_decide_eq_true h)];rfl},rfl}
   .exact {{_,_,_,by rw [ep,if_neg (by rw [eh];exact λz=>h (decide_eq_true z))]},rfl}
  .rintro σ H' ⟨⟨t1,t2,t3,rfl⟩,rfl⟩;right;have:=q _ s1 J;unfold bA at this;rw [Ln,U];exact this
structure C6(H:Hp)(p:Addr)(rows:List (List Tx))(i:Nat)(τ:L2.St)(ys:List V)(H':Hp):Prop where
 ex:∃t,τ=[t,some (V.ref p)]
 ys:ys=(emp rows i).map iv
 same:H'=H
 le:i<=16
inductive rM(A:zj)(vs:List V)(H:Hp)(Q:VK)(E:XK):Prop
 | mk:∀(p wl sl:Addr)(cells:List Addr)(m:Int)(d:DM),(vs=[.ref p])->(zE A H p wl sl cells m d)->(d.rows.length<=16)->(∀l H',New H l (.lst ((emp d.rows d.rows.length).map iv)) H'->l≠sysModules->Q (.ref l) H')->rM A vs H Q E
theorem Kb:zq XX XX (zk kP):=fsc
theorem Cc:aY { kind:=.function,names:=[(Lo ".0",.local),(Lo "stretch",.local),(Lo "disk",.free)],isGenerator:=false,isCoroutine:=false,more:=[] } (zk kP).names XX ["stretch","disk"] [none,some 0]=true:=by decide +kernel
theorem Ey:(["stretch","disk"]:List Str).Nodup:=by decide +kernel
theorem Fo(F:Fun K "empties" "empties" kP f fd)(T:Txt w K mg A)(Z4:GM P w K mg base true 1 A.pD V9 ZK (cW A λ_ d=>.int d.rows.length))(O:GM P w K mg base true 1 A.pD Wa Zl (gQ A)):zp P w K mg base CX0 true 2 f fd XX (rM A):=by
 refine F.ok Kb (λvs H Q E h=>?_) (λZY Ar outer s H vs Q E hr h=>?_)
 .obtain ⟨p,wl,sl,cells,m,d,rfl,_⟩:=h;rfl
 .obtain ⟨p,wl,sl,cells,m,d,rfl,D,hl,q⟩:=h;have U:_<cLine:=Mo (zY hr);refine {_,(W.h (zh (zu (cF (λ_=>rfl) (ah.of Cc) (cK rfl T.ro (zb (m0D (bB (clE (za 0)) T.mu Z4 hr)) zc)) (λ_ _ _ _ _=>(zz (i:=0) Ey rfl (LK rfl))) (λ_ _ _ _ _=>(hV (tD (zG (clO (oE (aW U))) (clE (mD (bI (clE (za 1)) T.mu O hr (clP (zb (za 0) zc))))) (clE zi) (zC _))))) (λ_ _ _ _ _=>(za 0)))))),?_};obtain ⟨dx,h1⟩:=D.ob;erw [h1,qM];refine {p,wl,sl,cells,m,d,rfl,D,?_};right;have er:((d.rows.length:Nat):Int).toNat=d.rows.length:=by lia
  rw [er];refine {'l','l',zZ.Ub (C6 H p d.rows) (λi τ ys H' I=>?_) {{_,rfl},rfl,rfl,'l'} ?_ ?_}
  .rw [I.ys,Ln];exact aJ (by have:=kC d.rows i;have:=I.le;lia)
  .intro N i τ ys H' hi I hN;obtain ⟨t,rfl⟩:=I.ex;have e:=I.same;subst e;have S:(0+(i:Int))=((i:Nat):Int):=by lia
   erw [h1,gF,S];refine {p,wl,sl,cells,m,d,i,rfl,D,hi,?_};right;have G:emp d.rows (i+1)=emp d.rows i++if (d.rows.getD i []).length=0 then [i] else []:=rfl;by_cases J:(d.rows.getD i []).length=0
   .rw [decide_eq_true 'l'];right;exact hN _ _ _ {{_,rfl},by rw [I.ys,G,if_pos J,Mp];rfl,rfl,'l'}
   .rw [decide_eq_false 'l'];right;exact hN _ _ _ {{_,rfl},by rw [I.ys,G,if_neg J,MS],rfl,'l'}
  .intro τ ys H' I Z H2 z ns;have e:=I.same;subst e;rw [I.ys] at z;exact q Z H2 z ns
inductive jA(A:zj)(vs:List V)(H:Hp)(Q:VK)(E:XK):Prop
 | mk:∀(p wl sl:Addr)(cells:List Addr)(m:Int)(d:DM)(e:Option Nat),(vs=[.ref p,ov e])->(zE A H p wl sl cells m d)->((∀k,e=some k->k<d.rows.length))->(Q (.int (fw d m e)) H)->jA A vs H Q E
theorem E3:zq W5 W5 (zk lZ):=fsc
theorem KG(F:Fun K "free_in" "free_in" lZ f fd)(T:Txt w K mg A)(G:GM P w K mg base true 1 A.pD VY ZK (cW A λm _=>.int m))(z:GM P w K mg base true 1 A.pD Wa Zl (gQ A)):zp P w K mg base CX0 true 2 f fd W5 (jA A):=by
 refine F.ok E3 (λvs H Q E h=>?_) (λO J outer s H vs Q E hr h=>?_)
 .obtain ⟨p,wl,sl,cells,m,d,e,rfl,_⟩:=h;rfl
 .obtain ⟨p,wl,sl,cells,m,d,e,rfl,D,he,q⟩:=h;refine {_,(W.h (zh (zu (lN (tD (zG (clO k9) (clE (za 1)) (clE aE) (zC _))) zi (zl (oI0 eR) (m0D (bB (clE (za 0)) T.mu G hr)) (mD (bI (clE (za 0)) T.mu z hr (clP (zb (za 1) zc))))))))),?_};obtain ⟨dx,h1⟩:=D.ob;cases e with
  | none =>
   show _;unfold ov;right;exact q
  | some k =>
   unfold ov;erw [h1,gO,gF];refine {p,wl,sl,cells,m,d,rfl,D,?_};erw [h1,gO,gF];refine {p,wl,sl,cells,m,d,k,rfl,D,he k rfl,?_};right;exact q
abbrev pe:Stmt:=aG (top 53) 10
theorem GN:zL "written" (.ref x) (zD m wl sl d)=zD m x sl d:=by kernel_rfl
theorem IS:zL "at_sides" (.ref x) (zD m wl sl d)=zD m wl x d:=by kernel_rfl
structure K1(H:Hp)(rows:List (List Tx))(i:Nat)(τ:L2.St)(ys:List V)(H':Hp):Prop where
 τ:∃t,τ=[t]
 ex:∃cs:List Addr,ys=cs.map V.ref/\cs.length=i/\(∀j c,cs[j]?=some c->H' c=some (.lst ((rows.getD j []).map tv)))/\(∀c∈cs,H c=none)/\cs.Nodup
 same:ze H H'
 le:i<=16
theorem Li(h1:d.cnt=d'.cnt)(h2:d.left=d'.left)(h3:d.st=d'.st):zD m wl sl d=zD m wl sl d':=by unfold zD;rw [h1,h2,h3]
theorem tS:zq Wk ZK (zk k8):=fsc
theorem Hu:aY { kind:=.function,names:=[(Lo ".0",.local),(Lo "texts",.local),(Lo "list",.globalImplicit)],isGenerator:=false,isCoroutine:=false,more:=[] } (zk k8).names Wk ["texts"] [none]=true:=by decide +kernel
theorem Kh:(["texts"]:List Str).Nodup:=by decide +kernel
theorem FD(F:Fun K V2 "Disk.copied" k8 f fd)(T:Txt w K mg A)(Z4:GM P w K mg base cm 1 A.pD V9 ZK (cW A λ_ d=>.int d.rows.length))(Yt:GC P w K mg base cm 3 "Disk" A.pD Y7 (kM A)):zp P w K mg base CX0 cm 5 f fd ZK (mZ A):=by
 refine F.ok tS (λvs H Q E h=>?_) (λZY Ar outer s H vs Q E hr h=>?_)
 .obtain ⟨p,wl,sl,cells,m,d,rfl,_⟩:=h;rfl
 .obtain ⟨p,wl,sl,cells,m,d,rfl,D,r3,a8,m0,m1,q⟩:=h;obtain ⟨dx,h1⟩:=D.ob;refine {_,(W.h (zg (zw (i:=1) tS.nd rfl (LK rfl) (oO Yt hr rfl (zb (m0D (bB (clE (za 0)) T.mu Z4 hr)) (zb (fD (ae T.mu T.z0 (clE (za 0)))) zc))))
   (zg (sfD (bh T.mu T.nI (clE (za 1)) (clE (cF (by intro h;exact nomatch h) (ah.of Hu) (liD (KJ (clE (fD (ae T.mu T.nI (clE (za 0))))))) (λ_ _ _ _ _=>(zz (i:=0) Kh rfl (LK rfl))) (λ_ _ _ _ _=>cB) (λ_ _ _ _ _=>(cX jQ rfl T.RO boot_list (zb (za 0) zc)))))))
   (zg (sfD (bh T.mu T.zf (clE (za 1)) (clE (cX jQ rfl T.RO boot_list (zb (fD (ae T.mu T.zf (clE (za 0)))) zc)))))
   (zg (sfD (bh T.mu T.ri (clE (za 1)) (clE (fD (ae T.mu T.ri (clE (za 0)))))))
   (zh (zu (za 1)))))))),?_}
  erw [h1,qM];refine {p,wl,sl,cells,m,d,rfl,D,?_};erw [h1,mL];intro x WI H2 n2;refine {x,WI,d.rows.length,m,rfl,n2.at_,'l','l',m0,m1,λa9 G a3 H3 D3 kp fr=>{rfl,?_}};have s3:ze H H3:=λb o e=>kp b o (n2.same b o e) (zr e n2.no);have Dk:zE A H3 p wl sl cells m d:=D.keep (F:=[]) (zy.same s3) (λx _ z=>nomatch z);obtain ⟨Z,g3⟩:=D3.ob;obtain ⟨aT,gk⟩:=Dk.ob;have px:p≠x:=zr h1 n2.no;erw [gk,gj,cb];refine {{_,SqL.of Dk.rows.w},zZ.lst (xs:=cells.map V.ref) (K1 H3 d.rows) (λi τ ys H' I=>?_) (λi τ ys H' I=>SqL.of (I.same _ _ Dk.rows.w)) {{_,rfl},{[],rfl,rfl,'s','s',QL},ze.refl _,'d'} ?_ ?_}
  .obtain ⟨cs,e,l,_⟩:=I.ex;rw [e,Ln,l];exact i8 (L8 I.le 'd')
  .intro N i v τ ys H' hi I hN;obtain ⟨t,rfl⟩:=I.τ;obtain ⟨cs,e,l,hc,hf,WY⟩:=I.ex;rw [LP] at hi;obtain ⟨c,ab,rfl⟩:=Me.mp hi;have a5:=I.same _ _ (Dk.rows.at_ i c ab);have ba:i<cells.length:=(Lp.mp ab).1;erw [a5];intro c2 H4 n4;refine hN _ _ _ {{_,rfl},{cs++[c2],by rw [e,Mp];rfl,by simp [l],λj b hb=>?_,λb hb=>?_,?_},I.same.trans n4.same,by have:=Dk.rows.len;lia}
   .by_cases hj:j<cs.length
    .rw [NR hj] at hb;exact n4.same _ _ (hc j b hb)
    .have aL:j<(cs++[c2]).length:=(Lp.mp hb).1;have Xj:j=cs.length:=by rw [LC] at aL;simp at aL;lia
     rw [Xj,NI (Ll _)] at hb;simp at hb;subst hb;rw [Xj,l];exact n4.at_
   .rcases L6.mp hb with hb|hb
    .exact hf b hb
    .rw [Lw] at hb;subst hb;exact I.same.free n4.no
   .refine Oa.mpr {WY,'s',λa ha b hb=>?_};rw [Lw] at hb;subst hb;obtain ⟨j,hj⟩:=MO ha;exact zr (hc j a hj) n4.no
  .intro τ ys H4 I W H5 nW;obtain ⟨cs,e,l,hc,hf,WY⟩:=I.ex;rw [Ln] at l;have Xg:ze H3 H5:=I.same.trans nW.same;have g5:=Xg _ _ g3;have k5:=Xg _ _ gk;have w5:=nW.at_;rw [e] at w5;have a6:(upd H5 x (.ins A.pD Z (zD m W G (DM.new d.rows.length)))) sl=some (.lst (d.Pv.map tv)):=by
    rw [zd (zr D.Pv n2.no)];exact Xg _ _ Dk.Pv
   have a0:(upd H5 x (.ins A.pD Z (zD m W G (DM.new d.rows.length)))) p=some (.ins A.pD aT (zD m wl sl d)):=by rw [zd px];exact k5
   have e0:(d.rows.length:Int).toNat=d.rows.length:=by lia
   rw [e0] at g5;erw [g5,GN,ig,a0,Iu,a6];intro S H6 U;have x6:H6 x=some (.ins A.pD Z (zD m W G (DM.new d.rows.length))):=U.same _ _ zx;have p6:=U.same _ _ a0;have p7:(upd H6 x (.ins A.pD Z (zD m W S (DM.new d.rows.length)))) p=some (.ins A.pD aT (zD m wl sl d)):=by rw [zd px];exact p6
   erw [x6,IS,ig,p7,lu,zx,rg,dW];have xW:x≠W:=zr (I.same _ _ g3) nW.no;have xS:x≠S:=zr zx U.no;have WS:W≠S:=zr (show (upd H5 x (.ins A.pD Z (zD m W G (DM.new d.rows.length)))) W=some _ by rw [zd (L9 xW)];exact w5) U.no;have O:∀c∈cs,c≠x:=λc J=>L9 (zr g3 (hf c J));have av:∀c∈cs,∃o,H5 c=some o:=λc J=>by
    obtain ⟨j,hj⟩:=MO J;exact {_,nW.same _ _ (hc j c hj)}
   have a4:∀c∈cs,c≠W:=λc J=>by
    obtain ⟨j,hj⟩:=MO J;exact zr (hc j c hj) nW.no
   have a7:∀c∈cs,c≠S:=λc J=>by
    obtain ⟨o,ho⟩:=av c J;exact zr (show (upd H5 x (.ins A.pD Z (zD m W G (DM.new d.rows.length)))) c=some o by rw [zd (O c J)];exact ho) U.no
   have up:∀b o,b≠x->H5 b=some o->H6 b=some o:=λb o hb h=>U.same _ _ (by rw [zd hb];exact h);have Sn:H S=none:=s3.free (Xg.free (by have z:=U.no;rw [zd (L9 xS)] at z;exact z));refine q x W S cs _ {{Z,?_},{?_,?_,λi c hi=>?_},?_,?_} (λb o hb=>?_) (λb hb=>?_)
   .exact zx.trans (congrArg (λl=>some (HO.ins A.pD Z l)) (Li (d':=d.copy) rfl rfl rfl))
   .rw [zd (L9 xW)];exact up _ _ (L9 xW) w5
   .rw [l];exact Dk.rows.len
   .have J:=LF hi;rw [zd (O c J)];exact up _ _ (O c J) (nW.same _ _ (hc i c hi))
   .rw [zd (L9 xS)];exact U.at_
   .simp only [ML,Lu,not_or];exact {{xW,xS,λz=>O x z rfl},{WS,λz=>a4 W z rfl},λz=>a7 S z rfl,WY}
   .have ai:b≠x:=zr hb n2.no;rw [zd ai];exact up _ _ ai (Xg _ _ (s3 _ _ hb))
   .simp only [Lu] at hb;rcases hb with rfl|rfl|rfl|hb
    .exact n2.no
    .exact s3.free (I.same.free nW.no)
    .exact Sn
    .exact s3.free (hf b hb)
def DM.stop(d:DM)(x:Int):DM:={ d with left:=some x }
inductive pW(A:zj)(vs:List V)(H:Hp)(Q:VK)(E:XK):Prop
 | mk:∀(p wl sl:Addr)(cells:List Addr)(m:Int)(d:DM)(x:Int),(vs=[.ref p,.int x])->(zE A H p wl sl cells m d)->(∀H',zE A H' p wl sl cells m (d.stop x)->zy [p] H H'->Q .non H')->pW A vs H Q E
theorem G3:zq X3 X3 (zk pe):=fsc
theorem FI(F:Fun K "stop" "Disk.stop" pe f fd)(T:Txt w K mg A):zp P w K mg base CX0 cm 1 f fd X3 (pW A):=by
 refine F.ok G3 (λvs H Q E h=>?_) (λz G outer s H vs Q E hr h=>?_)
 .obtain ⟨p,wl,sl,cells,m,d,x,rfl,_⟩:=h;rfl
 .obtain ⟨p,wl,sl,cells,m,d,x,rfl,D,q⟩:=h;obtain ⟨dx,h1⟩:=D.ob;refine {_,(W.h (zh (sfD (bh T.mu T.vr (clE (za 0)) (clE (za 1)))))),?_};erw [h1,ow];exact {ig,q _ (D.obj (d':=d.stop x) rfl rfl) (zy.upd 's')}
end
abbrev oF:Stmt:=aG (top 55) 0
abbrev nM:Stmt:=aG (top 55) 2
abbrev rN:Stmt:=aG (top 55) 14
def But(b:Addr)(H H':Hp):Prop:=∀a o,a≠b->H a=some o->H' a=some o
abbrev Tab:=List (Str×List Int)
def bu(H:Hp)(v:V)(l:List Int):Prop:=∃p,v = .ref p/\H p=some (.tup (l.map V.int))
def bg(b k:Addr):List (Str×V):=[("births",.ref b),("kept",.ref k)]
structure cM(H:Hp)(b:Addr)(t:Tab):Prop where
 ex:∃kvs,H b=some (.dK (sk kvs))/\Dct (bu H) kvs t
 nd:(names t).Nodup
structure dD(H:Hp)(b:Addr)(t:Tab):Prop where
 ex:∃kvs,Rd H b (.dK (sk kvs))/\Dct (bu H) kvs t
 nd:(names t).Nodup
theorem cM.r{t:Tab}(h:cM H b t):dD H b t:=let ⟨kvs,e,d⟩:=h.ex;{{kvs,.inl e,d},h.nd}
structure du(A:zj)(H:Hp)(q b k:Addr)(t:Tab):Prop where
 ob:∃dx,H q=some (.ins A.sM dx (bg b k))
 qf:dD H b t
 kept:Rd H k (.dK (sk []))
def cq(A:zj)(H:Hp)(b k:Addr)(v:V)(t:Tab):Prop:=∃q z k',v = .ref q/\du A H q z k' t/\z≠b/\z≠k/\k'≠b/\k'≠k
structure zM(A:zj)(H:Hp)(p b k:Addr)(t:Tab)(ks:List (Str×Tab)):Prop where
 ob:∃dx,H p=some (.ins A.sM dx (bg b k))
 qf:cM H b t
 kept:∃kk,H k=some (.dK (sk kk))/\Dct (cq A H b k) kk ks
 ndk:(names ks).Nodup
 ne:b≠k
structure gv(A:zj)(H:Hp)(p b k:Addr)(t:Tab)(ks:List (Str×Tab)):Prop where
 ob:∃dx,H p=some (.ins A.sM dx (bg b k))
 qf:dD H b t
 kept:∃kk,Rd H k (.dK (sk kk))/\Dct (cq A H b k) kk ks
 ndk:(names ks).Nodup
theorem zM.r{p b k:Addr}{t:Tab}(h:zM A H p b k t ks):gv A H p b k t ks:=let ⟨kk,e,d⟩:=h.kept;{h.ob,h.qf.r,{kk,.inl e,d},h.ndk}
structure FS(H H':Hp):Prop where
 oth:∀a o,(∀kvs,o≠.dK kvs)->(∀ob kvs,o≠.frz ob (.dK kvs))->H a=some o->H' a=some o
 dic:∀a kvs,Rd H a (.dK kvs)->Rd H' a (.dK kvs)
theorem FS.of(s:ze H H'):FS H H':={λa o _ _ e=>s a o e,λa kvs r=>r.elim (λe=>.inl (s _ _ e)) (λ⟨o,e⟩=>.inr {o,s _ _ e})}
theorem Rd.same(h:Rd H a u)(s:ze H H'):Rd H' a u:=h.elim (λe=>.inl (s _ _ e)) (λ⟨o,e⟩=>.inr {o,s _ _ e})
theorem But.upd{b:Addr}{H:Hp}{o:HO}:But b H (upd H b o):=λa u n e=>by rw [zd n];exact e
theorem bu.but(h:bu H v l)(s:But b H H')(hb:∀xs,H b≠some (.tup xs)):bu H' v l:=by
 obtain ⟨p,e,F⟩:=h;exact {p,e,s p _ (λz=>by subst z;exact hb _ F) F}
theorem bu.same(h:bu H v l)(s:ze H H'):bu H' v l:=let ⟨p,e,hp⟩:=h;{p,e,s p _ hp}
theorem cM.but{t:Tab}(h:cM H b t)(s:But x H H')(hx:∀xs,H x≠some (.tup xs))(n:b≠x):cM H' b t:=by
 obtain ⟨kvs,e,d⟩:=h.ex;exact {{kvs,s _ _ n e,d.imp λv a r=>r.but s hx},h.nd}
theorem cM.same{t:Tab}(h:cM H b t)(s:ze H H'):cM H' b t:=by
 obtain ⟨kvs,e,d⟩:=h.ex;exact {{kvs,s _ _ e,d.imp λv a r=>r.same s},h.nd}
theorem dD.but{t:Tab}(h:dD H b t)(s:But x H H')(hx:∀xs,H x≠some (.tup xs))(n:b≠x):dD H' b t:=by
 obtain ⟨kvs,e,d⟩:=h.ex;exact {{kvs,e.elim (λe=>.inl (s _ _ n e)) (λ⟨o,e⟩=>.inr {o,s _ _ n e}),d.imp λv a r=>r.but s hx},h.nd}
theorem bu.fs(h:bu H v l)(s:FS H H'):bu H' v l:=let ⟨p,e,hp⟩:=h;{p,e,s.oth p _ (λ_=>nofun) (λ_ _=>nofun) hp}
theorem dD.fs{t:Tab}(h:dD H b t)(s:FS H H'):dD H' b t:=by
 obtain ⟨kvs,e,d⟩:=h.ex;exact {{kvs,s.dic _ _ e,d.imp λv a r=>r.fs s},h.nd}
theorem du.but{q b k:Addr}{t:Tab}(h:du A H q b k t)(s:But x H H')(hx:H x=some (.dK kvs))(G:b≠x)(F:k≠x):du A H' q b k t:=by
 obtain ⟨dx,e⟩:=h.ob;exact {{dx,s _ _ (λz=>by subst z;rw [e] at hx;cases hx) e},h.qf.but s (λxs z=>by rw [z] at hx;cases hx) G,h.kept.elim (λe=>.inl (s _ _ F e)) (λ⟨o,e⟩=>.inr {o,s _ _ F e})}
theorem du.fs{q b k:Addr}{t:Tab}(h:du A H q b k t)(s:FS H H'):du A H' q b k t:=let ⟨dx,e⟩:=h.ob;{{dx,s.oth _ _ (λ_=>nofun) (λ_ _=>nofun) e},h.qf.fs s,s.dic _ _ h.kept}
theorem du.same{q b k:Addr}{t:Tab}(h:du A H q b k t)(s:ze H H'):du A H' q b k t:=h.fs (.of s)
theorem cq.fs{b k:Addr}{t:Tab}(h:cq A H b k v t)(s:FS H H'):cq A H' b k v t:=let ⟨q,b',k',e,r,n⟩:=h;{q,b',k',e,r.fs s,n}
theorem gv.fs{p b k:Addr}{t:Tab}(h:gv A H p b k t ks)(s:FS H H'):gv A H' p b k t ks:=by
 obtain ⟨dx,e⟩:=h.ob;obtain ⟨kk,z,d⟩:=h.kept;exact {{dx,s.oth _ _ (λ_=>nofun) (λ_ _=>nofun) e},h.qf.fs s,{kk,s.dic _ _ z,d.imp λv a r=>r.fs s},h.ndk}
theorem zM.fs{p b k d:Addr}{t:Tab}(h:zM A H p b k t ks)(s:FS H H')(bt:But d H H')(J:b≠d)(z:k≠d):zM A H' p b k t ks:=by
 obtain ⟨dx,e⟩:=h.ob;obtain ⟨kk,F,d⟩:=h.kept;obtain ⟨kvs,G,O⟩:=h.qf.ex;exact {{dx,s.oth _ _ (λ_=>nofun) (λ_ _=>nofun) e},{{kvs,bt _ _ J G,O.imp λv a r=>r.fs s},h.qf.nd},{kk,bt _ _ z F,d.imp λv a r=>r.fs s},h.ndk,h.ne}
theorem cq.same{b k:Addr}{t:Tab}(h:cq A H b k v t)(s:ze H H'):cq A H' b k v t:=let ⟨q,b',k',e,r,n⟩:=h;{q,b',k',e,r.same s,n}
theorem zM.same{p b k:Addr}{t:Tab}(h:zM A H p b k t ks)(s:ze H H'):zM A H' p b k t ks:=by
 obtain ⟨dx,e⟩:=h.ob;obtain ⟨kk,z,d⟩:=h.kept;exact {{dx,s _ _ e},h.qf.same s,{kk,s _ _ z,d.imp λv a r=>r.same s},h.ndk,h.ne}
theorem zM.setB{p b k:Addr}{t t':Tab}(h:zM A H p b k t ks)(s:But b H H')(e:H' b=some (.dK (sk F)))(d':Dct (bu H') F t')(nd:(names t').Nodup):zM A H' p b k t' ks:=by
 obtain ⟨dx,e1⟩:=h.ob;obtain ⟨kk,W,d⟩:=h.kept;obtain ⟨kvs,G,_⟩:=h.qf.ex;exact {{dx,s _ _ (λz=>by subst z;rw [e1] at G;cases G) e1},{⟨F,e,d'⟩,nd},{kk,s _ _ (L9 h.ne) W,d.imp λv a ⟨q,U,k',S,r,J,O,n3,Z⟩=>{q,U,k',S,r.but s G J n3,J,O,n3,Z}},h.ndk,h.ne}
theorem zM.UL{p b k:Addr}{t:Tab}(h:zM A H p b k t ks)(s:But k H H')(e:H' k=some (.dK (sk F)))(d':Dct (cq A H' b k) F ks')(nd:(names ks').Nodup):zM A H' p b k t ks':=by
 obtain ⟨dx,e1⟩:=h.ob;obtain ⟨kk,G,d⟩:=h.kept;exact {{dx,s _ _ (λz=>by subst z;rw [e1] at G;cases G) e1},h.qf.but s (λxs z=>by rw [z] at G;cases G) h.ne,⟨F,e,d'⟩,nd,h.ne}
theorem cq.but{b k:Addr}{t:Tab}(h:cq A H b k v t)(s:But k H H')(hx:H k=some (.dK kvs)):cq A H' b k v t:=let ⟨q,b',k',ev,r,n1,n2,n3,n4⟩:=h;{q,b',k',ev,r.but s hx n2 n4,n1,n2,n3,n4}
section
variable {P:Ly}{w:LW}{K:Frag}{mg:Str->Option Value}{base:Heap}{A:zj}{b k:Addr}
theorem dw:(bg b k).lookup ("births":Str)=some (.ref b):=by kernel_rfl
theorem ny:(bg b k).lookup ("kept":Str)=some (.ref k):=by kernel_rfl
theorem pU:(bg b k).lookup ("many":Str)=none:=by kernel_rfl
theorem Jz:(bg b k).lookup (V8:Str)=none:=by kernel_rfl
theorem Es:(bg b k).lookup (V7:Str)=none:=by kernel_rfl
theorem JG:(bg b k).lookup (Wb:Str)=none:=by kernel_rfl
theorem sE:(bg b k).lookup ("bare":Str)=none:=by kernel_rfl
theorem Dj:(bg b k).lookup ("keep":Str)=none:=by kernel_rfl
theorem wV:(bg b k).lookup (V1:Str)=none:=by kernel_rfl
inductive kY(A:zj)(vs:List V)(H:Hp)(Q:VK)(E:XK):Prop
 | mk:∀(p dx:Addr),(vs=[.ref p])->(H p=some (.ins A.sM dx []))->(∀b k H',But p H H'->H b=none->H k=none->H' b=some (.dK (sk []))->H' k=some (.dK (sk []))->b≠k->H' p=some (.ins A.sM dx (bg b k))->Q .non H')->kY A vs H Q E
theorem Gx:zq ZK ZK (zk oF):=fsc
theorem Jv(F:Fun K We "Files.__init__" oF f fd)(T:Txt w K mg A):zp P w K mg base CX0 true 1 f fd ZK (kY A):=by
 refine F.ok Gx (λvs H Q E h=>?_) (λZY Ar outer s H vs Q E hr h=>?_)
 .obtain ⟨p,dx,rfl,_⟩:=h;rfl
 .obtain ⟨p,dx,rfl,S,q⟩:=h;refine {_,(W.h (zg (sfD (bh T.mC T.nD (clE (za 0)) (clE tf)))
   (zh (sfD (bh T.mC T.vl (clE (za 0)) (clE tf)))))),?_}
  right;refine λb H1 J=>{dx,[],J.same _ _ S,'d',λk H2 G=>{dx,_,G.same _ _ zx,by show 1<1000;decide,?_}};have O:b≠p:=λz=>by have:=J.no;rw [z,S] at this;cases this
  have kp:k≠p:=λz=>by have:=G.no;rw [z,zx] at this;cases this
  have k1:H1 k=none:=by have:=G.no;rw [zd kp] at this;exact this
  have U:zL ("kept":Str) (V.ref k) (zL ("births":Str) (V.ref b) [])=bg b k:=by kernel_rfl
  have Z:H2 b=some (.dK []):=G.same _ _ (by rw [zd O];exact J.at_);rw [U];refine q b k _ (λa o n e=>?_) J.no (J.same.free k1) (by rw [zd O];exact Z) (by rw [zd kp];exact G.at_) (λz=>?_) zx
  .rw [zd n];exact G.same _ _ (by rw [zd n];exact J.same _ _ e)
  .have:=G.no;rw [<- z,zd O,J.at_] at this;cases this
def lk(t:Tab)(n:Str):List Int:=(look t n).getD []
inductive je(A:zj)(vs:List V)(H:Hp)(Q:VK)(E:XK):Prop
 | mk:∀(p b k:Addr)(t:Tab)(ks:List (Str×Tab))(n:Str),(vs=[.ref p,.str n])->(gv A H p b k t ks)->(∀H',ze H H'->Q (.int (lk t n).length) H')->je A vs H Q E
theorem cM.get{t:Tab}(d:Dct (bu H) kvs t)(n:Str){p:Addr}(s:ze H H')(F:H' p=some (.tup [])):∃a,(look kvs n).getD (.ref p) = .ref a/\H' a=some (.tup ((lk t n).map V.int)):=by
 rcases d.look n with ⟨v,l,e1,z,a,G,ha⟩|⟨e1,z⟩
 .exact {a,by rw [e1,G];rfl,by unfold lk;rw [z];exact s _ _ ha}
 .exact {p,by rw [e1];rfl,by unfold lk;rw [z];exact F}
theorem IL:zq Yg Yg (zk nM):=fsc
theorem Bu(F:Fun K "many" "Files.many" nM f fd)(T:Txt w K mg A):zp P w K mg base CX0 true 1 f fd Yg (je A):=by
 refine F.ok IL (λvs H Q E h=>?_) (λO U outer s H vs Q E hr h=>?_)
 .obtain ⟨p,b,k,t,ks,n,rfl,_⟩:=h;rfl
 .obtain ⟨p,b,k,t,ks,n,rfl,G,q⟩:=h;refine {_,(W.h (zh (zu (zH af rfl T.qb LY (zb (v9 (zY hr) (fD (ae T.mC T.nD (clE (za 0)))) (za 1) (aU zc)) zc))))),?_};obtain ⟨dx,e1⟩:=G.ob;obtain ⟨kvs,J,d⟩:=G.qf.ex;erw [e1,dw];refine {{_,J},Mu _,λS H2 z=>{_,Rd.same J z.same,?_}};obtain ⟨a,ea,ha⟩:=cM.get d n z.same z.at_;rw [gg,ea,jW];exact {_,.inr ha,by rw [Ln];exact q H2 z.same}
theorem Dct.Ta{α:Type}{R:V->α->Prop}{t:List (Str×α)}(d:Dct R kvs t)(n:Str):(look kvs n).isSome=(look t n).isSome:=by
 rcases d.look n with ⟨v,l,e1,z,_⟩|⟨e1,z⟩<;>rw [e1,z]<;>rfl
inductive rh(A:zj)(vs:List V)(H:Hp)(Q:VK)(E:XK):Prop
 | mk:∀(p b k:Addr)(t:Tab)(ks:List (Str×Tab))(n:Str),(vs=[.ref p,.str n])->(gv A H p b k t ks)->((look t n).isSome=true)->(Q .non H)->rh A vs H Q E
theorem EB:zq Yg Yg (zk rN):=fsc
theorem KC(F:Fun K V1 "Files.refuse_if_none" rN f fd)(T:Txt w K mg A):zp P w K mg base CX0 true 1 f fd Yg (rh A):=by
 refine F.ok EB (λvs H Q E h=>?_) (λO S outer s H vs Q E hr h=>?_)
 .obtain ⟨p,b,k,t,ks,n,rfl,_⟩:=h;rfl
 .obtain ⟨p,b,k,t,ks,n,rfl,z,J,q⟩:=h;refine {_,(W.h (zh (zJ (tD (zG (clO (HY (zY hr))) (clE (za 1)) (clE (fD (ae T.mC T.nD (clE (za 0))))) rfl))
   (zh gu)
   zR))),?_}
  obtain ⟨dx,e1⟩:=z.ob;obtain ⟨kvs,G,d⟩:=z.qf.ex;erw [e1,dw];refine {_,G,?_};rw [gg,Dct.Ta d n,J];exact iS q
abbrev rp:Stmt:=aG (top 55) 4
abbrev lW:Stmt:=aG (top 55) 5
theorem xJ{i a b:Int}(h1:a<=i)(h2:i<=b):gG (.int i) a b=true:=by
 show (decide (a<=i)&&decide (i<=b))=true;rw [decide_eq_true h1,decide_eq_true h2];rfl
theorem kR(F:0<=i)(h1:i<=xs.length):aR xs none (some i)=xs.take i.toNat:=by
 have e1:HT.sIx xs.length 0 none=0:=rfl;have z:HT.sIx xs.length xs.length (some i)=i.toNat:=by
  unfold HT.sIx;simp only;split<;>lia
 unfold aR;rw [e1,z];simp
theorem yN{i:Int}(F:0<=i)(h1:i<=xs.length+1):aR xs (some i) none=xs.drop i.toNat:=by
 have e1:HT.sIx xs.length xs.length none=xs.length:=rfl;have z:HT.sIx xs.length 0 (some i)=min i.toNat xs.length:=by
  unfold HT.sIx;simp only;split<;>lia
 unfold aR;rw [e1,z];by_cases h:i.toNat<=xs.length
 .rw [Nat.min_eq_left h,L5 (by rw [Ni];lia)]
 .rw [Nat.min_eq_right 'l',OJ (Ll _),OJ 'l'];simp
inductive qH(A:zj)(vs:List V)(H:Hp)(Q:VK)(E:XK):Prop
 | mk:∀(p b k:Addr)(t:Tab)(ks:List (Str×Tab))(n:Str)(i x:Int),(vs=[.ref p,.str n,.int i,.int x])->(zM A H p b k t ks)->(0<=i)->(i<=(lk t n).length)->((lk t n).length<=1000)->(t.length<=1000)->(∀H',But b H H'->zM A H' p b k (bx t n ((lk t n).take i.toNat++[x]++(lk t n).drop (i.toNat+1))) ks->Q .non H')->qH A vs H Q E
theorem vb:zq ["self","file","place","birth","births"] Xk (zk rp):=fsc
theorem Dt(F:Fun K V8 "Files.put" rp f fd)(T:Txt w K mg A)(ZM:GM P w K mg base true 1 A.sM "many" Yg (je A))(ZV:GF P w K mg base true 2 V3 Yz jc):zp P w K mg base CX0 true 4 f fd Xk (qH A):=by
 refine F.ok vb (λvs H Q E h=>?_) (λZY Ar outer s H vs Q E hr h=>?_)
 .obtain ⟨p,b,k,t,ks,n,i,x,rfl,_⟩:=h;rfl
 .obtain ⟨p,b,k,t,ks,n,i,x,rfl,G,i0,i1,l1,t1,q⟩:=h;refine {_,(W.h (zg (zJ (eL (bH (caD (zA ZV hr rfl (clP (zb (za 2) (zb zi (zb (mD (bI (clE (za 0)) T.mC ZM hr (clP (zb (za 1) zc)))) zc))))))))
   (zh gu)
   zR)
   (zg (zw (i:=4) vb.nd rfl (LK rfl) (v9 (zY hr) (fD (ae T.mC T.nD (clE (za 0)))) (za 1) (aU zc)))
   (zh (cQ (zl kB (zl kB (dH nQ (za 4) dC (dG (za 2))) (aU (zb (za 3) zc))) (dH nQ (za 4) (dG (zl kB (za 2) zi)) dC)) (fA (fD (ae T.mC T.nD (clE (za 0)))) (za 1) (nF (zY hr)))))))),?_}
  obtain ⟨dx,e1⟩:=G.ob;erw [e1,dw,pU];refine {p,b,k,t,ks,n,rfl,G.r,λH1 s1=>?_};have Z:=G.same s1;obtain ⟨aL,ab⟩:=Z.ob;obtain ⟨kvs,J,d⟩:=Z.qf.ex;right;refine {_,_,_,rfl,.int i,?_};rw [xJ i0 i1];erw [ab,dw];refine {{_,.inl J},Mu _,λp1 H2 S=>{_,.inl (S.same _ _ J),?_}};obtain ⟨a,ea,ha⟩:=cM.get d n S.same S.at_;rw [gg,ea];erw [ha];intro p2 H3 s3 e3;refine {'d',λp3 H4 O=>?_};rw [kR i0 (by rw [Ln];exact i1)] at e3;have big:∀n:Nat,n<=100000->n<=sizeLine:=λn h=>L8 h 'd';refine .inr {_,O.same _ _ e3,_,O.at_,big _ (by simp;lia),λp4 H5 s5 e5=>?_};have ai:=s5 _ _ (O.same _ _ (s3 _ _ ha));refine .inr {_,ai,λp6 H6 s6 e6=>?_};rw [yN 'l' (by rw [Ln];lia)] at e6;refine .inr {_,s6 _ _ e5,_,e6,big _ (by simp;lia),λp7 H7 s7 e7=>?_};have sB:ze H1 H7:=((((S.same.trans s3).trans O.same).trans s5).trans s6).trans s7;have F7:=Z.same sB;obtain ⟨av,U⟩:=F7.ob;erw [U,dw];refine {_,sB _ _ J,by rw [rD,d.length];exact MY t1 'd',?_};rw [qO];have bt:∀xs,H7 b≠some (.tup xs):=λxs z=>by rw [sB _ _ J] at z;cases z
  have et:(i+1).toNat=i.toNat+1:=by lia
  have d7:Dct (bu H7) kvs t:=d.imp λv a r=>r.same sB;have r7:bu H7 (.ref p7) ((lk t n).take i.toNat++[x]++(lk t n).drop (i.toNat+1)):={p7,rfl,by rw [e7,et];simp [map_take,List.map_drop]};refine q _ (λc o nc e=>by rw [zd nc];exact sB _ _ (s1 _ _ e)) (F7.setB But.upd zx ((d7.put n r7).imp λv a r=>r.but But.upd bt) (pK G.qf.nd))
def oM(t:Tab)(n:Str)(m:Int):Tab:=if m=0 then aB t n else bx t n ((lk t n).take m.toNat)
inductive rn(A:zj)(vs:List V)(H:Hp)(Q:VK)(E:XK):Prop
 | mk:∀(p b k:Addr)(t:Tab)(ks:List (Str×Tab))(n:Str)(l:List Int)(m:Int),(vs=[.ref p,.str n,.int m])->(zM A H p b k t ks)->(look t n=some l)->(0<=m)->(m<=l.length)->(t.length<=1000)->(∀H',But b H H'->zM A H' p b k (oM t n m) ks->Q .non H')->rn A vs H Q E
theorem Il:zq Xo Xo (zk lW):=fsc
theorem Gk(F:Fun K V7 "Files.cut" lW f fd)(T:Txt w K mg A)(ZS:GM P w K mg base true 1 A.sM V1 Yg (rh A))(ZM:GM P w K mg base true 1 A.sM "many" Yg (je A))(ZV:GF P w K mg base true 2 V3 Yz jc):zp P w K mg base CX0 true 4 f fd Xo (rn A):=by
 refine F.ok Il (λvs H Q E h=>?_) (λZY Ar outer s H vs Q E hr h=>?_)
 .obtain ⟨p,b,k,t,ks,n,l,m,rfl,_⟩:=h;rfl
 .obtain ⟨p,b,k,t,ks,n,l,m,rfl,J,Z,m0,m1,t1,q⟩:=h;have hu:_<cLine:=Mo (zY hr);refine {_,(W.h (zg (aC (mD (bI (clE (za 0)) T.mC ZS hr (clP (zb (za 1) zc)))))
   (zg (zJ (eL (bH (caD (zA ZV hr rfl (clP (zb (za 2) (zb zi (zb (mD (bI (clE (za 0)) T.mC ZM hr (clP (zb (za 1) zc)))) zc))))))))
   (zh gu)
   zR)
   (zh (zJ (tD (zG (clO (oE (aW hu))) (clE (za 2)) (clE zi) (zC _)))
   (zh (Bz (fD (ae T.mC T.nD (clE (za 0)))) (za 1)))
   (zh (cQ (dH nQ (zQ (tN (zY hr)) (fD (ae T.mC T.nD (clE (za 0)))) (za 1) (λ_ _=>rfl)) dC (dG (za 2))) (fA (fD (ae T.mC T.nD (clE (za 0)))) (za 1) (nF (zY hr)))))))))),?_}
  obtain ⟨dx,e1⟩:=J.ob;erw [e1,dw,wV,pU];refine {p,b,k,t,ks,n,rfl,J.r,by rw [Z];rfl,?_};erw [e1,dw,wV,pU];refine {p,b,k,t,ks,n,rfl,J.r,λH1 s1=>?_};have S:=J.same s1;obtain ⟨aL,ai⟩:=S.ob;obtain ⟨kvs,O,d⟩:=S.qf.ex;have el:lk t n=l:=by unfold lk;rw [Z];rfl
  right;refine {_,_,_,rfl,.int m,?_};rw [xJ m0 (by rw [el];lia)];erw [ai,dw];have bt:∀xs,H1 b≠some (.tup xs):=λxs z=>by rw [O] at z;cases z
  obtain ⟨v,l',U,G,a,ev,ha⟩:∃v l',look kvs n=some v/\look t n=some l'/\bu H1 v l':=by
   rcases d.look n with ⟨v,l',U,G,r⟩|⟨_,G⟩
   .exact ⟨v,l',U,G,r⟩
   .rw [Z] at G;cases G
  rw [Z] at G;cases G;subst ev;refine zS (λh=>?_) (λh=>?_)
  .have hm:m=0:=of_decide_eq_true h;refine {_,O,by rw [gg,U];rfl,?_};rw [A0];have ec:oM t n m=aB t n:=if_pos hm;refine q _ (λc o nc e=>by rw [zd nc];exact s1 _ _ e) ?_;rw [ec];exact S.setB But.upd zx ((d.drop n).imp λv a r=>r.but But.upd bt) (Ho J.qf.nd)
  .have hm : ¬ m=0:=λz=>h (decide_eq_true z);refine {_,.inl O,.ref a,by rw [gg];exact U,?_};erw [ha];intro p2 H2 s2 ep;rw [kR m0 (by rw [Ln];exact m1)] at ep;have F2:=S.same s2;obtain ⟨WI,av⟩:=F2.ob;erw [av,dw];refine {_,s2 _ _ O,by rw [rD,d.length];exact MY t1 'd',?_};rw [qO];have ab:∀xs,H2 b≠some (.tup xs):=λxs z=>by rw [s2 _ _ O] at z;cases z
   have G:Dct (bu H2) kvs t:=d.imp λv a r=>r.same s2;have r2:bu H2 (.ref p2) ((lk t n).take m.toNat):={p2,rfl,by rw [ep,el,map_take]};have ec:oM t n m=bx t n ((lk t n).take m.toNat):=if_neg hm;refine q _ (λc o nc e=>by rw [zd nc];exact s2 _ _ (s1 _ _ e)) ?_;rw [ec];exact F2.setB But.upd zx ((G.put n r2).imp λv a r=>r.but But.upd ab) (pK J.qf.nd)
abbrev mi:Stmt:=aG (top 55) 6
abbrev ng:Stmt:=aG (top 55) 12
abbrev pX:Stmt:=aG (top 55) 13
structure Has(A:zj)(H:Hp)(p:Addr)(t:Tab):Prop where
 ob:∃b k dx,H p=some (.ins A.sM dx (bg b k))/\dD H b t
theorem zM.has{p:Addr}{t:Tab}(h:zM A H p b k t ks):Has A H p t:=let ⟨dx,e⟩:=h.ob;⟨b,k,dx,e,h.qf.r⟩
inductive lM(A:zj)(vs:List V)(H:Hp)(Q:VK)(E:XK):Prop
 | mk:∀(p:Addr)(t:Tab),(vs=[.ref p])->(Has A H p t)->(∀q b' k' H',ze H H'->H b'=none->H k'=none->H q=none->du A H' q b' k' t->Q (.ref q) H')->lM A vs H Q E
theorem wN:zq Wk ZK (zk ng):=fsc
theorem Ih(F:Fun K "bare" "Files.bare" ng f fd)(T:Txt w K mg A)(YL:GC P w K mg base true 1 "Files" A.sM ZK (kY A)):zp P w K mg base CX0 true 3 f fd ZK (lM A):=by
 refine F.ok wN (λvs H Q E h=>?_) (λZY Ar outer s H vs Q E hr h=>?_)
 .obtain ⟨p,t,rfl,_⟩:=h;rfl
 .obtain ⟨p,t,rfl,⟨b,k,dx,e1,hB⟩,q⟩:=h;refine {_,(W.h (zg (zw (i:=1) wN.nd rfl (LK rfl) (xQ YL hr rfl))
   (zg (sfD (bh T.mC T.nD (clE (za 1)) (clE (cX uJ rfl T.Tu boot_dict (zb (fD (ae T.mC T.nD (clE (za 0)))) zc)))))
   (zh (zu (za 1)))))),?_}
  obtain ⟨kvs,e2,d⟩:=hB.ex;erw [e1,dw];refine λx U H2 S=>{x,U,rfl,S.at_,λb1 k1 H3 s3 nb nk eb ek av ex=>{rfl,?_}};have px:∀c o,H c=some o->c≠x:=λc o e z=>by have:=S.no;rw [<- z,e] at this;cases this
  have G:∀c o,H c=some o->H3 c=some o:=λc o e=>s3 c o (px c o e) (S.same c o e);have ai:=G _ _ e1;erw [ai,dw];refine {_,Rd.same e2 G,λO H4 J=>{U,_,J.same _ _ ex,by show 2<1000;decide,?_}};have eF:zL ("births":Str) (V.ref O) (bg b1 k1)=bg O k1:=by kernel_rfl
  rw [eF];have ab:O≠x:=λz=>by have:=J.no;rw [z,ex] at this;cases this
  have Z:k1≠x:=λz=>by rw [z,ex] at ek;cases ek
  have sF:ze H (upd H4 x (.ins A.sM U (bg O k1))):=λc o e=>by rw [zd (px c o e)];exact J.same _ _ (G c o e)
  have fr:∀c,H3 c=none->H c=none:=λc e=>by
   cases h:H c with
   | none=>rfl
   | some o=>rw [G c o h] at e;cases e
  have k0:H k1=none:=S.same.free nk;refine q x O k1 _ sF (fr O J.no) k0 S.no {⟨U,zx⟩,{{kvs,.inl (by rw [zd ab];exact J.at_),d.imp λv a r=>r.same sF},hB.nd},.inl (by rw [zd Z];exact J.same _ _ ek)}
inductive o8(A:zj)(vs:List V)(H:Hp)(Q:VK)(E:XK):Prop
 | mk:∀(p b k:Addr)(t:Tab)(ks:List (Str×Tab))(n:Str)(q:Addr)(u:Tab),(vs=[.ref p,.str n,.ref q])->(zM A H p b k t ks)->(Has A H q u)->(ks.length<=1000)->(∀H',But k H H'->zM A H' p b k t (bx ks n u)->Q .non H')->o8 A vs H Q E
theorem Ku:zq Xw Xw (zk pX):=fsc
theorem F5(F:Fun K "keep" "Files.keep" pX f fd)(T:Txt w K mg A)(ZL:GM P w K mg base true 3 A.sM "bare" ZK (lM A)):zp P w K mg base CX0 true 4 f fd Xw (o8 A):=by
 refine F.ok Ku (λvs H Q E h=>?_) (λZY Ar outer s H vs Q E hr h=>?_)
 .obtain ⟨p,b,k,t,ks,n,q,u,rfl,_⟩:=h;rfl
 .obtain ⟨p,b,k,t,ks,n,qa,u,rfl,G,Z,kl,q⟩:=h;refine {_,(W.h (zh (cQ (m0D (bB (clE (za 2)) T.mC ZL hr)) (fA (fD (ae T.mC T.vl (clE (za 0)))) (za 1) (nF (zY hr)))))),?_};obtain ⟨dx,e1⟩:=G.ob;obtain ⟨bq,kq,ai,J,_⟩:=Z.ob;erw [J,sE];refine {qa,u,rfl,Z,λx b' k' H1 s1 nb nk nx hB=>?_};have O:=G.same s1;obtain ⟨ab,S⟩:=O.ob;obtain ⟨kk,U,d⟩:=O.kept;obtain ⟨aL,eb,_⟩:=G.qf.ex;obtain ⟨av,ek,_⟩:=G.kept;erw [S,ny];refine {_,U,by rw [rD,d.length];exact MY kl 'd',?_};rw [qO];have ne:∀c o,H c=some o->∀e,H e=none->e≠c:=λc o h e he z=>by rw [z,h] at he;cases he
  have r:cq A H1 b k (.ref x) u:={x,b',k',rfl,hB,ne _ _ eb _ nb,ne _ _ ek _ nb,ne _ _ eb _ nk,ne _ _ ek _ nk};exact q _ (λc o nc e=>by rw [zd nc];exact s1 _ _ e) (O.UL But.upd zx ((d.put n r).imp λv a r=>r.but But.upd U) (pK G.ndk))
inductive rO(A:zj)(vs:List V)(H:Hp)(Q:VK)(E:XK):Prop
 | mk:∀(p b k:Addr)(t:Tab)(ks:List (Str×Tab))(n:Str),(vs=[.ref p,.str n])->(zM A H p b k t ks)->(look ks n=none)->(ks.length<=1000)->(∀H',But k H H'->zM A H' p b k t (bx ks n t)->Q .non H')->rO A vs H Q E
theorem Bv:zq Wh Wh (zk mi):=fsc
theorem Ec(F:Fun K Wb "Files.hold" mi f fd)(T:Txt w K mg A)(J:GM P w K mg base true 4 A.sM "keep" Xw (o8 A)):zp P w K mg base CX0 true 5 f fd Wh (rO A):=by
 refine F.ok Bv (λvs H Q E h=>?_) (λU Z outer s H vs Q E hr h=>?_)
 .obtain ⟨p,b,k,t,ks,n,rfl,_⟩:=h;rfl
 .obtain ⟨p,b,k,t,ks,n,rfl,z,S,G,q⟩:=h;refine {_,(W.h (zg (zJ (tD (zG (clO (AW (zY hr))) (clE (za 1)) (clE (fD (ae T.mC T.vl (clE (za 0))))) rfl))
   (zh gu)
   zR)
   (zh (aC (mD (bI (clE (za 0)) T.mC J hr (clP (zb (za 1) (zb (za 0) zc))))))))),?_}
  obtain ⟨dx,e1⟩:=z.ob;obtain ⟨kk,O,d⟩:=z.kept;erw [e1,ny,Dj];refine {_,.inl O,?_};rw [gg,Dct.Ta d n,S];exact iS {p,b,k,t,ks,n,p,t,rfl,z,z.has,G,q}
end
abbrev nO:Stmt:=aG (top 55) 11
abbrev lQ:Stmt:=aG (top 57) 0
abbrev kH:Stmt:=aG (top 57) 2
def qX{α:Type}(l:List (Int×α))(n:Int)(a:α):List (Int×α):=if n∈l.map (·.1) then l.map (λp=>if p.1=n then (p.1,a) else p) else l++[(n,a)]
theorem vh{n:Int}:((ik kvs).any λkv=>decide (kv.1=(.inl n:Key)))=true↔n∈kvs.map (·.1):=by
 unfold ik;rw [List.any_map,List.any_eq_true];constructor
 .rintro ⟨p,z,h⟩;have h:(Sum.inl p.1:Key) = .inl n:=of_decide_eq_true h;cases h;exact Ow.mpr {p,z,rfl}
 .intro h;obtain ⟨p,z,rfl⟩:=Ow.mp h;exact {p,z,'s'}
theorem Ki{n:Int}:aI (ik kvs) (.inl n) v=ik (qX kvs n v):=by
 unfold aI qX;by_cases h:n∈kvs.map (·.1)
 .rw [if_pos (vh.mpr h),if_pos h];unfold ik;rw [Mv,Mv];refine NZ λp _=>?_;show (if (Sum.inl p.1:Key) = .inl n then _ else _)=_;by_cases e:p.1=n
  .rw [if_pos (by rw [e])];show _=(Sum.inl (if p.1=n then (p.1,v) else p).1,(if p.1=n then (p.1,v) else p).2);rw [if_pos e]
  .rw [if_neg (λz=>e (by cases z;rfl))];show _=(Sum.inl (if p.1=n then (p.1,v) else p).1,(if p.1=n then (p.1,v) else p).2);rw [if_neg e]
 .rw [if_neg (λz=>h (vh.mp z)),if_neg h];unfold ik;rw [Mp];rfl
theorem wQ{n:Int}:∀{kvs:List (Int×V)},(kvs.map (·.1)).Nodup->(n,v)∈kvs->zW (ik kvs) (.inl n)=some v
 | [],_,h=>by cases h
 | p::kvs,nd,h=>by
  have F:=ML.mp nd;show zW ((Sum.inl p.1,p.2)::ik kvs) (.inl n)=_;rcases Lu.mp h with e|h
  .rw [<- e];exact gU rfl
  .have ne : ¬ (Sum.inl p.1:Key) = .inl n:=λz=>by
    cases z;exact F.1 (Ow.mpr {_,h,rfl})
   rw [jd ne];exact wQ F.2 h
theorem IM:(ik kvs).length=kvs.length:=by simp [ik]
abbrev T3:=Int×Int×Int
def gP(H:Hp)(p:Int×V)(t:T3):Prop:=p.1=t.1/\∃a,p.2 = .ref a/\H a=some (.tup [.int t.2.1,.int t.2.2])
def dQ(H:Hp)(a:Addr)(t:T3):Prop:=H a=some (.tup [.int t.1,.int t.2.1,.int t.2.2])
structure tX(ts:List T3):Prop where
 nd:(ts.map (·.1)).Nodup
 few:ts.length<1000
 num:∀t∈ts,0<=t.1/\t.1<10 ^ 18
def gp(f d:Addr)(n m:Int):List (Str×V):=[("own_files",.ref f),("spot_of",.ref d),("next_row",.int n),("next_mark",.int m)]
structure dj(A:zj)(H:Hp)(x:Addr)(ts:List T3):Prop where
 ex:∃dx f d n m kvs,H x=some (.ins A.State dx (gp f d n m))/\H d=some (.dK (ik kvs))/\Paired (gP H) kvs ts
 ok:tX ts
theorem gP.keep{p:Int×V}{t:T3}(h:gP H p t)(k:∀r xs,H r=some (.tup xs)->H' r=some (.tup xs)):gP H' p t:=let ⟨e,a,e2,e3⟩:=h;{e,a,e2,k _ _ e3}
theorem dj.pL(h:dj A H x ts)(s:zN H H'):dj A H' x ts:=by
 obtain ⟨dx,f,d,n,m,kvs,e1,z,F⟩:=h.ex;exact {{dx,f,d,n,m,kvs,s _ _ (λ_=>nofun) e1,s _ _ (λ_=>nofun) z,Paired.z9 F λp t r=>r.keep λr xs e=>s.tup e},h.ok}
theorem vA(h:Paired (gP H) kvs ts):kvs.map (·.1)=ts.map (·.1):=by
 induction h with
 | nil=>rfl
 | cons r _ z=>rw [MD,MD,z,r.1]
section
variable {P:Ly}{w:LW}{K:Frag}{mg:Str->Option Value}{base:Heap}{A:zj}{b k f d:Addr}{n m:Int}
theorem Cy:(bg b k).lookup (V2:Str)=none:=by kernel_rfl
theorem xT:(gp f d n m).lookup ("spot_of":Str)=some (.ref d):=by kernel_rfl
theorem mE:(gp f d n m).lookup ("spots":Str)=none:=by kernel_rfl
inductive pJ(A:zj)(vs:List V)(H:Hp)(Q:VK)(E:XK):Prop
 | mk:∀(p b k:Addr)(t:Tab)(ks:List (Str×Tab)),(vs=[.ref p])->(zM A H p b k t ks)->(∀q H',ze H H'->Q (.ref q) H')->pJ A vs H Q E
theorem ym:zq Wk ZK (zk nO):=fsc
theorem FR{f:Addr}(F:Fun K V2 "Files.copied" nO f fd)(T:Txt w K mg A)(ZL:GM P w K mg base true 3 A.sM "bare" ZK (lM A)):zp P w K mg base CX0 true 4 f fd ZK (pJ A):=by
 refine F.ok ym (λvs H Q E h=>?_) (λZY Ar outer s H vs Q E hr h=>?_)
 .obtain ⟨p,b,k,t,ks,rfl,_⟩:=h;rfl
 .obtain ⟨p,b,k,t,ks,rfl,z,q⟩:=h;refine {_,(W.h (zg (zw (i:=1) ym.nd rfl (LK rfl) (m0D (bB (clE (za 0)) T.mC ZL hr)))
   (zg (sfD (bh T.mC T.vl (clE (za 1)) (clE (cX uJ rfl T.Tu boot_dict (zb (fD (ae T.mC T.vl (clE (za 0)))) zc)))))
   (zh (zu (za 1)))))),?_}
  obtain ⟨dx,e1⟩:=z.ob;erw [e1,sE];refine {p,t,rfl,z.has,λx b' k' H1 s1 nb nk nx Z=>?_};obtain ⟨J,G⟩:=Z.ob;have U:=z.same s1;obtain ⟨ab,O⟩:=U.ob;obtain ⟨kk,e2,_⟩:=U.kept;erw [O,ny];refine {_,.inl e2,λkd H2 S=>{J,_,S.same _ _ G,by show 2<1000;decide,?_}};exact q x _ λa o e=>by rw [zd (zr e nx)];exact S.same _ _ (s1 _ _ e)
structure DcI(H:Hp)(ts:List T3)(i:Nat)(τ:L2.St)(ys:List (Key×V))(H':Hp):Prop where
 ex:∃t1 t2 t3,τ=[t1,t2,t3]
 ys:∃kvs,ys=ik kvs/\Paired (gP H') kvs (ts.take i)
 same:ze H H'
inductive mX(A:zj)(vs:List V)(H:Hp)(Q:VK)(E:XK):Prop
 | mk:∀(x p b k sl dx:Addr)(n m:Int)(t:Tab)(ks:List (Str×Tab))(as:List Addr)(ts:List T3),(vs=[.ref x,.ref p,.ref sl,.int n,.int m])->(H x=some (.ins A.State dx []))->(zM A H p b k t ks)->(H sl=some (.lst (as.map V.ref)))->(Paired (dQ H) as ts)->(tX ts)->(∀H',But x H H'->dj A H' x ts->Q .non H')->mX A vs H Q E
theorem FA:zq ZA ZA (zk lQ):=fsc
theorem Az:aY { kind:=.function,names:=[(Lo ".0",.local),(Lo "birth",.local),(Lo "stretch",.local),(Lo "place",.local)],isGenerator:=false,isCoroutine:=false,more:=[] } (zk lQ).names ZA ["birth","stretch","place"] [none,none,none]=true:=by decide +kernel
theorem rG:(["birth","stretch","place"]:List Str).Nodup:=by decide +kernel
theorem CC{f:Addr}(F:Fun K We "State.__init__" lQ f fd)(T:Txt w K mg A)(Zs:GM P w K mg base true 4 A.sM V2 ZK (pJ A)):zp P w K mg base CX0 true 5 f fd ZA (mX A):=by
 refine F.ok FA (λvs H Q E h=>?_) (λZY Ar outer s H vs Q E hr h=>?_)
 .obtain ⟨x,p,b,k,sl,dx,n,m,t,ks,as,ts,rfl,_⟩:=h;rfl
 .obtain ⟨x,p,b,k,sl,dx,n,m,t,ks,as,ts,rfl,hx,hF,hs,hp,ok,q⟩:=h;refine {_,(W.h (zg (sfD (bh T.vx T.Ry (clE (za 0)) (clE (m0D (bB (clE (za 1)) T.mC Zs hr)))))
   (zg (sfD (bh T.vx T.wh (clE (za 0)) (clE (A1 (λ_=>rfl) (ah.of Az) (liD (cU (clE (za 2)))) (λ_ _ _ _ _=>(m8 (n:=3) (gsD (zU (zz (i:=0) rG rfl (LK rfl)) (gsD (zU (zz (i:=1) rG rfl (LK rfl)) (gsD (zU (zz (i:=2) rG rfl (LK rfl)) cV)))))))) (λ_ _ _ _ _=>cB) (λ_ _ _ _ _=>(za 0)) (λ_ _ _ _ _=>(aU (zb (za 1) (zb (za 2) zc))))))))
   (zg (sfD (bh T.vx T.RD (clE (za 0)) (clE (za 3))))
   (zh (sfD (bh T.vx T.Rz (clE (za 0)) (clE (za 4))))))))),?_}
  obtain ⟨ai,e1⟩:=hF.ob;erw [e1,Cy];refine {p,b,k,t,ks,rfl,hF,λU H1 s1=>{dx,[],s1 _ _ hx,'d',?_}};have O:∀{o:HO}{r:Addr}{xs:List V},H1 r=some (.tup xs)->upd H1 x o r=some (.tup xs):=λ{o r xs} e=>by rw [zd (λz=>by rw [z,s1 _ _ hx] at e;cases e)];exact e
  have sx:sl≠x:=λz=>by rw [z,hx] at hs;cases hs
  have Zz:∀o,upd H1 x o sl=some (.lst (as.map V.ref)):=λo=>by rw [zd sx];exact s1 _ _ hs
  have Z0:=aN hp;refine {{_,SqL.of (Zz _)},kX.lst (xs:=as.map V.ref) (DcI (upd H1 x _) ts) (λi τ ys H' I=>?_) (λi τ ys H' I=>SqL.of (I.same _ _ (Zz _))) {{_,_,_,rfl},{[],rfl,.nil},ze.refl _} ?_ ?_}
  .obtain ⟨kvs,e,G⟩:=I.ys;have:=aN G;have h2:=O7 i ts;have:=ok.few;rw [e,IM];exact aJ 'l'
  .intro N i v τ ys H' hv I hN;obtain ⟨t1,t2,t3,rfl⟩:=I.ex;obtain ⟨kvs,e,G⟩:=I.ys;rw [LP] at hv;obtain ⟨a,ha,rfl⟩:=Me.mp hv;have hi:i<ts.length:=by rw [<- Z0];exact (Lp.mp ha).1
   have S:ts[i]?=some ts[i]:=KE hi;have ht:=I.same _ _ (O (o:=_) (s1 _ _ (aX hp ha S)));refine {a,_,rfl,SqT.of ht,rfl,?_};right;refine {'d',λa2 H2 Z=>hN _ _ _ {{_,_,_,rfl},{kvs++[(ts[i].1,.ref a2)],?_,?_},I.same.trans Z.same}}
   .have ab:ts[i].1∉kvs.map (·.1):=by
     rw [vA G];intro z;obtain ⟨u,hu,eu⟩:=Ow.mp z;obtain ⟨j,hj,ej⟩:=NB hu;have W7:j<i:=by rw [ME] at hj;lia
     rw [QA] at ej;have Xj:j<(ts.map (·.1)).length:=by rw [Ln];lia
     have:=(P7 Xj ok.nd).mp (show (ts.map (·.1))[j]?=(ts.map (·.1))[i]? by rw [LP,LP,S,KE (show j<ts.length by lia),ej];show some u.1=some ts[i].1;rw [eu]);lia
    rw [e,Ki];unfold qX;rw [if_neg ab]
   .rw [MP,S];exact eE (Paired.z9 G λp t r=>r.keep λr xs e=>Z.same _ _ e) (.cons {rfl,a2,rfl,Z.at_} .nil)
  .intro τ ys H3 I D H4 J;obtain ⟨kvs,e,G⟩:=I.ys;rw [Ln,Z0,L5 (Ll _)] at G;rw [e] at J;have x4:=J.same _ _ (I.same _ _ zx);refine {dx,_,x4,by show 1<1000;decide,dx,_,zx,(MY (Qi (show _=2 by kernel_rfl)) 'd'),dx,_,zx,(MY (Qi (show _=3 by kernel_rfl)) 'd'),?_};rw [dW,dW];have eF:zL ("next_mark":Str) (V.int m) (zL "next_row" (V.int n) (zL "spot_of" (V.ref D) (zL "own_files" (V.ref U) [])))=gp U D n m:=by kernel_rfl
   rw [eF];have Dx:D≠x:=λz=>by have:=J.no;rw [z,I.same _ _ zx] at this;cases this
   refine q _ (λa o na ea=>?_) {{dx,U,D,n,m,kvs,zx,by rw [zd Dx];exact J.at_,Paired.z9 G λp t r=>r.keep λr xs e=>?_},ok}
   .rw [zd na];exact J.same _ _ (I.same _ _ (by rw [zd na];exact s1 _ _ ea))
   .rw [zd (λz=>by rw [z,I.same _ _ zx] at e;cases e)];exact J.same _ _ e
end
abbrev h9:Stmt:=top 43
def cL(ts:List T3)(n:Int):T3:=(ts.find? λt=>decide (t.1=n)).getD (0,0,0)
theorem lL(nd:(ts.map (·.1)).Nodup){t:T3}(h:t∈ts):cL ts t.1=t:=by
 unfold cL
 induction ts with
 | nil=>cases h
 | cons u ts G =>
  obtain ⟨J,F⟩:=ML.mp nd;rw [Pb];rcases Lu.mp h with rfl|h
  .rw [decide_eq_true rfl];rfl
  .have ne : ¬ u.1=t.1:=λz=>J (by show u.1∈_;rw [z];exact Ow.mpr {t,h,rfl});rw [decide_eq_false ne];exact G F h
theorem G0{ts:List T3}(nd:(ts.map (·.1)).Nodup):(ts.map (·.1)).map (cL ts)=ts:=by
 rw [Mv];have:∀us:List T3,(∀u∈us,u∈ts)->us.map (cL ts∘(·.1))=us:=λus h=>by
  induction us with
  | nil=>rfl
  | cons u us z=>rw [MD,z λv F=>h v (LA _ F)];show cL ts u.1::us=_;rw [lL nd (h u (LN ..))]
 exact this ts λ_ h=>h
def pk(ts:List T3)(k:Int):List (Int×Int):=(ts.filter λt=>decide (t.2.1=k)).map λt=>(t.2.2,t.1)
def ji(ts:List T3)(k:Int)(ns:List Int):Prop:=∃ps:List (Int×Int),ps.Perm (pk ts k)/\ps.Pairwise (λa b=>ltP b a=false)/\ns=ps.map (·.2)
theorem y8{k:Int}(p:z.Perm ts)(h:ji z k ns):ji ts k ns:=by
 obtain ⟨ps,F,s1,e⟩:=h;exact {ps,F.trans ((p.filter _).map _),s1,e}
theorem t9(ts:List T3)(k:Int):(pk ts k).length<=ts.length:=by unfold pk;rw [Ln];exact Pt ..
theorem sO(ts:List T3)(k:Int)(t:T3):pk (ts++[t]) k=if t.2.1=k then pk ts k++[(t.2.2,t.1)] else pk ts k:=by
 unfold pk;rw [Qp];by_cases h:t.2.1=k
 .rw [if_pos h,show [t].filter (λt=>decide (t.2.1=k))=[t] by simp [h],Mp];rfl
 .rw [if_neg h,show [t].filter (λt=>decide (t.2.1=k))=[] by simp [h],MS]
section
variable {P:Ly}{w:LW}{K:Frag}{mg:Str->Option Value}{base:Heap}{A:zj}
inductive lD(A:zj)(vs:List V)(H:Hp)(Q:VK)(E:XK):Prop
 | mk:∀(x:Addr)(ts:List T3),(vs=[.ref x])->(dj A H x ts)->(∀l as X8 H',ze H H'->H l=none->H' l=some (.lst (as.map V.ref))->Paired (dQ H') as X8->X8.Perm ts->(X8.map (·.1)).Pairwise (·<=·)->Q (.ref l) H')->lD A vs H Q E
structure SpI(H:Hp)(x:Addr)(ts:List T3)(ns:List Int)(i:Nat)(τ:L2.St)(ys:List V)(H':Hp):Prop where
 ex:∃t1,τ=[t1,some (.ref x)]
 ys:∃as:List Addr,ys=as.map V.ref/\Paired (dQ H') as ((ns.take i).map (cL ts))
 same:ze H H'
theorem J6:zq ZK ZK (zk kH):=fsc
theorem Hm:aY { kind:=.function,names:=[(Lo ".0",.local),(Lo "birth",.local),(Lo "self",.free)],isGenerator:=false,isCoroutine:=false,more:=[] } (zk kH).names ZK ["birth","self"] [none,some 0]=true:=by decide +kernel
theorem C0:(["birth","self"]:List Str).Nodup:=by decide +kernel
theorem IB(F:Fun K "spots" "State.spots" kH f fd)(T:Txt w K mg A):zp P w K mg base CX0 true 1 f fd ZK (lD A):=by
 refine F.ok J6 (λvs H Q E h=>?_) (λZY Ar outer s H vs Q E hr h=>?_)
 .obtain ⟨x,ts,rfl,_⟩:=h;rfl
 .obtain ⟨x,ts,rfl,hS,q⟩:=h;refine {_,(W.h (zh (zu (cF (λ_=>rfl) (ah.of Hm) (liD (cU (clE (zH (JC rfl) rfl T.RN boot_sorted (zb (fD (ae T.vx T.wh (clE (za 0)))) zc))))) (λ_ _ _ _ _=>(zz (i:=0) C0 rfl (LK rfl))) (λ_ _ _ _ _=>cB) (λ_ _ _ _ _=>(zl kB (aU (zb (za 0) zc)) (zQ (tN (zY hr)) (fD (ae T.vx T.wh (clE (za 1)))) (za 0) (λ_ _=>rfl)))))))),?_};obtain ⟨dx,f',d,n,m,kvs,e1,e2,e3⟩:=hS.ex;have ok:=hS.ok;have lk:=aN e3;have ky:=vA e3;erw [e1,xT];refine {kvs,.inl e2,by rw [lk];have:=ok.few;lia,λp ns H1 G pm so=>?_};rw [ky] at pm;have a0:ns.length=ts.length:=by rw [pm.length_eq,Ln]
  refine {{_,SqL.of G.at_},zZ.lst (xs:=ns.map V.int) (SpI H1 x ts ns) (λi τ ys H' I=>?_) (λi τ ys H' I=>SqL.of (I.same _ _ G.at_)) {{_,rfl},{[],rfl,.nil},ze.refl _} ?_ ?_}
  .obtain ⟨as,e,J⟩:=I.ys;have:=aN J;rw [Ln] at this;have h2:=O7 i ns;have:=ok.few;rw [e,Ln];exact aJ 'l'
  .intro N i v τ ys H' U I hN;obtain ⟨t1,rfl⟩:=I.ex;obtain ⟨as,e,J⟩:=I.ys;rw [LP] at U;obtain ⟨nb,Xu,rfl⟩:=Me.mp U;have aL:=I.same _ _ (G.same _ _ e1);have ab:=I.same _ _ (G.same _ _ e2);obtain ⟨t,Z,et⟩:=Ow.mp (pm.mem_iff.mp (LF Xu));obtain ⟨j,hj,ej⟩:=NB Z;have S:j<kvs.length:=by rw [lk];exact hj
   obtain ⟨s1,a,s2,s3⟩:=aX e3 (KE S) (KE hj);rw [ej] at s1 s3;have av:zW (ik kvs) (.inl nb)=some (.ref a):=by
    refine wQ (by rw [ky];exact ok.nd) ?_;rw [<- et,<- s1,<- s2];exact Nw S
   right;refine {'d',λp1 H2 z=>?_};have aT:=z.same _ _ aL;erw [aT,xT];refine {_,.inl (z.same _ _ ab),_,av,?_};right;refine .inr {_,z.at_,_,z.same _ _ (I.same _ _ (G.same _ _ s3)),by show 3<=sizeLine;decide,λp2 H3 O ai=>hN _ _ _ {{_,rfl},{as++[p2],by rw [e,Mp];rfl,?_},I.same.trans (z.same.trans O)}};rw [MP,Xu,Mp];refine eE (Paired.z9 J λa t r=>O _ _ (z.same _ _ r)) (.cons ?_ .nil);show H3 p2=_;rw [ai,<- et,lL ok.nd Z];rfl
  .intro τ ys H' I D H2 z;obtain ⟨as,e,J⟩:=I.ys;rw [Ln,L5 (Ll _)] at J;rw [e] at z;refine q D as _ H2 ((G.same.trans I.same).trans z.same) ((G.same.trans I.same).free z.no) z.at_ (Paired.z9 J λa t r=>z.same _ _ r) ?_ ?_
   .have:=pm.map (cL ts);rw [G0 ok.nd] at this;exact this
   .have e:(ns.map (cL ts)).map (·.1)=ns:=by
     rw [Mv];have:∀us:List Int,(∀u∈us,u∈ts.map (·.1))->us.map ((·.1)∘cL ts)=us:=λus h=>by
      induction us with
      | nil=>rfl
      | cons u us ih =>
       obtain ⟨t,Z,et⟩:=Ow.mp (h u (LN ..));rw [MD,ih λv U=>h v (LA _ U)];show (cL ts u).1::us=_;rw [<- et,lL ok.nd Z]
     exact this ns λu hu=>pm.mem_iff.mp hu
    rw [e];exact so
structure FdI(H:Hp)(k:Int)(ts:List T3)(i:Nat)(τ:L2.St)(ys:List V)(H':Hp):Prop where
 ex:∃t1 t2 t3,τ=[t1,t2,t3,some (.int k)]
 ys:∃as:List Addr,ys=as.map V.ref/\Paired (fG H') as (pk (ts.take i) k)
 same:ze H H'
structure BtI(H:Hp)(ps:List (Int×Int))(i:Nat)(τ:L2.St)(ys:List V)(H':Hp):Prop where
 ex:∃t1 t2,τ=[t1,t2]
 ys:ys=((ps.take i).map (·.2)).map V.int
 same:H'=H
inductive mv(A:zj)(vs:List V)(H:Hp)(Q:VK)(E:XK):Prop
 | mk:∀(x:Addr)(ts:List T3)(k:Int),(vs=[.ref x,.int k])->(dj A H x ts)->((pk ts k).length<64)->(∀l ns H',ze H H'->H l=none->l≠sysModules->H' l=some (.lst (ns.map V.int))->ji ts k ns->Q (.ref l) H')->mv A vs H Q E
theorem uy:zq Xa ["state","stretch"] (zk h9):=fsc
theorem HQ:aY { kind:=.function,names:=[(Lo ".0",.local),(Lo "birth",.local),(Lo "at",.local),(Lo "place",.local),(Lo "stretch",.free)],isGenerator:=false,isCoroutine:=false,more:=[] } (zk h9).names Xa ["birth","at","place","stretch"] [none,none,none,some 1]=true:=by decide +kernel
theorem nY:(["birth","at","place","stretch"]:List Str).Nodup:=by decide +kernel
theorem Hx:aY { kind:=.function,names:=[(Lo ".0",.local),(Lo "place",.local),(Lo "birth",.local)],isGenerator:=false,isCoroutine:=false,more:=[] } (zk h9).names Xa ["place","birth"] [none,none]=true:=by decide +kernel
theorem xn:(["place","birth"]:List Str).Nodup:=by decide +kernel
theorem Fk(F:Fun K "living_in" "living_in" h9 f fd)(T:Txt w K mg A)(ZU:GM P w K mg base true 1 A.State "spots" ZK (lD A)):zp P w K mg base CX0 true 2 f fd ["state","stretch"] (mv A):=by
 refine F.ok uy (λvs H Q E h=>?_) (λZY Ar outer s H vs Q E hr h=>?_)
 .obtain ⟨x,ts,k,rfl,_⟩:=h;rfl
 .obtain ⟨x,ts,k,rfl,hS,YF,q⟩:=h;have hu:_<cLine:=Mo (zY hr);refine {_,(W.h (zg (jf (i0:=2) uy.nd rfl (LK rfl) (λ_=>rfl) (ah.of HQ) (liD (cU (clE (m0D (bB (clE (za 0)) T.vx ZU hr))))) (λ_ _ _ _ _=>(m8 (n:=3) (gsD (zU (zz (i:=0) nY rfl (LK rfl)) (gsD (zU (zz (i:=1) nY rfl (LK rfl)) (gsD (zU (zz (i:=2) nY rfl (LK rfl)) cV)))))))) (λ_ _ _ _ _=>(hV (tD (zG (clO (oE (aW hu))) (clE (za 1)) (clE (za 3)) (zC _))))) (λ_ _ _ _ _=>(aU (zb (za 2) (zb (za 0) zc)))))
   (zh (zu (cF (λ_=>rfl) (ah.of Hx) (liD (cU (clE (zH FP rfl T.RN boot_sorted (zb (za 2) zc))))) (λ_ _ _ _ _=>(m8 (n:=2) (gsD (zU (zz (i:=0) xn rfl (LK rfl)) (gsD (zU (zz (i:=1) xn rfl (LK rfl)) cV)))))) (λ_ _ _ _ _=>cB) (λ_ _ _ _ _=>(za 1))))))),?_}
  obtain ⟨dx,f',d,n,m,kvs,e1,e2,e3⟩:=hS.ex;have ok:=hS.ok;erw [e1,mE];refine {x,ts,rfl,hS,λl as z H1 s1 l0 hl hp pm _=>?_};have Z0:=aN hp;have aT:z.length<1000:=by rw [pm.length_eq];exact ok.few
  have aL:(pk z k).length<64:=by unfold pk at YF ⊢;rw [((pm.filter _).map _).length_eq];exact YF
  right;refine {{_,SqL.of hl},zZ.lst (xs:=as.map V.ref) (FdI H1 k z) (λi τ ys H' I=>?_) (λi τ ys H' I=>SqL.of (I.same _ _ hl)) {{_,_,_,rfl},{[],rfl,.nil},ze.refl _} ?_ ?_}
  .obtain ⟨bs,e,J⟩:=I.ys;have:=aN J;have h2:=O7 i z;have:=t9 (z.take i) k;rw [e,Ln];exact aJ 'l'
  .intro N i v τ ys H' U I hN;obtain ⟨t1,t2,t3,rfl⟩:=I.ex;obtain ⟨bs,e,J⟩:=I.ys;rw [LP] at U;obtain ⟨a,ha,rfl⟩:=Me.mp U;have hi:i<z.length:=by rw [<- Z0];exact (Lp.mp ha).1
   have Z:z[i]?=some z[i]:=KE hi;have ht:=I.same _ _ (aX hp ha Z);have sn:=sO (z.take i) k z[i];have tk:z.take (i+1)=z.take i++[z[i]]:=by rw [MP,Z];rfl
   refine {a,_,rfl,SqT.of ht,rfl,?_};generalize z[i]=t at ht sn tk;right;by_cases hk:t.2.1=k
   .rw [decide_eq_true hk];right;refine {'d',λp2 H2 n2=>hN _ _ _ {{_,_,_,rfl},{bs++[p2],by rw [e,Mp];rfl,?_},I.same.trans n2.same}};rw [tk,sn,if_pos hk];exact eE (Paired.z9 J λa t r=>n2.same _ _ r) (.cons n2.at_ .nil)
   .rw [decide_eq_false hk];right;refine hN _ _ _ {{_,_,_,rfl},{bs,e,?_},I.same};rw [tk,sn,if_neg hk];exact J
  .intro τ ys H2 I D H3 n3;obtain ⟨bs,e,J⟩:=I.ys;rw [Ln,Z0,L5 (Ll _)] at J;rw [e] at n3;have lb:=aN J;have sI:=I.same;have:=t9 z k;right;refine {bs,n3.at_,_,Paired.z9 J λa t r=>n3.same _ _ r,'l',λD2 av G H4 S _ p4 O ai=>?_};right;have l4:=aN p4;have l5:=O.length_eq;refine {{_,SqL.of S.at_},zZ.UN (xs:=av.map V.ref) (BtI H4 G) (λi τ ys H' I=>?_) (λi τ ys H' I=>by rw [I.same];exact SqL.of S.at_) {{_,_,rfl},rfl,rfl} ?_ ?_}
   .have h2:=O7 i G;rw [I.ys,Ln,Ln];exact aJ 'l'
   .intro N i v τ ys H' U I hN;obtain ⟨t1,t2,rfl⟩:=I.ex;rw [LP] at U;obtain ⟨a,ha,rfl⟩:=Me.mp U;have hi:i<G.length:=by rw [<- l4];exact (Lp.mp ha).1
    have Z:G[i]?=some G[i]:=KE hi;have e:=I.same;subst e;have ht:=S.same _ _ (aX p4 ha Z);refine {a,_,rfl,SqT.of ht,rfl,?_};right;refine hN _ _ _ {{_,_,rfl},?_,rfl};rw [I.ys,MP,Z,Mp,Mp];rfl
   .intro τ ys H5 I D5 H6 n6 ab;have e:=I.same;subst e;have hy:=I.ys;rw [Ln,l4,L5 (Ll _)] at hy;rw [hy] at n6;exact q D5 _ H6 ((((s1.trans sI).trans n3.same).trans S.same).trans n6.same) (((((s1.trans sI).trans n3.same).trans S.same)).free n6.no) ab n6.at_ (y8 pm {G,O,ai,rfl})
def alv(ts:List T3)(k:Nat):Nat:=(pk ts k).length
theorem Du{k:Nat}(h:ji ts k ns):ns.length=alv ts k:=by
 obtain ⟨ps,pm,_,rfl⟩:=h;rw [Ln];exact pm.length_eq
theorem IZ(p:ts.Perm us)(k:Nat):alv ts k=alv us k:=((p.filter _).map _).length_eq
theorem CU(ts:List T3)(t:T3)(k:Nat):alv (ts++[t]) k=if t.2.1=k then alv ts k+1 else alv ts k:=by
 unfold alv;rw [sO];split
 .rw [LC];rfl
 .rfl
abbrev lT:Stmt:=top 45
abbrev nK:Stmt:=top 46
def rk(d:DM)(m:Int)(e:Option Nat)(n:Int):Int:=fw d m e+m*(if 0>n-1 then 0 else n-1)
inductive rJ(A:zj)(vs:List V)(H:Hp)(Q:VK)(E:XK):Prop
 | mk:∀(p wl sl:Addr)(cells:List Addr)(m:Int)(d:DM)(n:Nat),(vs=[.ref p,.int n])->(zE A H p wl sl cells m d)->(bG d)->(((nU d).map zt).Nodup)->((nU d).length<3000)->(TB A H)->(0<=m)->(m<=1000)->(n<=1000)->(∀H',zN H H'->TB A H'->Q (.int (rk d m (bA d true) n)) H')->rJ A vs H Q E
theorem Hg:zq Wg Wg (zk lT):=fsc
theorem EV(F:Fun K "room_with" "room_with" lT f fd)(T:Txt w K mg A)(J:GF P w K mg base true 2 "free_in" W5 (jA A))(O:GF P w K mg base true 10 "end_of" Wz (lP A))(U:GM P w K mg base true 1 A.pD VY ZK (cW A λm _=>.int m)):zp P w K mg base CX0 true 11 f fd Wg (rJ A):=by
 refine F.ok Hg (λvs H Q E h=>?_) (λZY Ar outer s H vs Q E hr h=>?_)
 .obtain ⟨p,wl,sl,cells,m,d,n,rfl,_⟩:=h;rfl
 .obtain ⟨p,wl,sl,cells,m,d,n,rfl,D,tx,nd,S,tb,Z,m1,n1,q⟩:=h;refine {_,(W.h (zh (zu (zl zP (caD (zA J hr rfl (clP (zb (za 0) (zb (caD (zA O hr rfl (clP (zb (za 0) (zb fh zc))))) zc))))) (zl bT (m0D (bB (clE (za 0)) T.mu U hr)) (zH (uY rfl) rfl T.T6 boot_max (zb (zl (oI0 eR) (za 1) zi) (zb zi zc)))))))),?_};right;refine {p,wl,sl,cells,m,d,true,rfl,D,tx,nd,S,tb,λH1 s1 z=>?_};have G:=D.pL s1;obtain ⟨dx,h1⟩:=G.ob;refine {p,wl,sl,cells,m,d,bA d true,rfl,G,λk e=>jP e,?_};erw [h1,gO];refine {p,wl,sl,cells,m,d,rfl,G,?_};right;refine {.inl {'l','l'},?_};exact q H1 s1 z
inductive qG(A:zj)(vs:List V)(H:Hp)(Q:VK)(E:XK):Prop
 | mk:∀(p wl sl:Addr)(cells:List Addr)(m:Int)(d:DM),(vs=[.ref p])->(zE A H p wl sl cells m d)->(bG d)->(((nU d).map zt).Nodup)->((nU d).length<3000)->(TB A H)->(0<=m)->(m<=1000)->(d.rows.length<=16)->(∀H',zN H H'->TB A H'->Q (.int (fw d m (bA d false)+m*(emp d.rows d.rows.length).length)) H')->qG A vs H Q E
theorem Ff:zq XX XX (zk nK):=fsc
theorem JY(F:Fun K "cold_room" "cold_room" nK f fd)(T:Txt w K mg A)(S:GF P w K mg base true 2 "free_in" W5 (jA A))(U:GF P w K mg base true 10 "end_of" Wz (lP A))(Z5:GM P w K mg base true 1 A.pD VY ZK (cW A λm _=>.int m))(O:GF P w K mg base true 2 "empties" XX (rM A)):zp P w K mg base CX0 true 11 f fd XX (qG A):=by
 refine F.ok Ff (λvs H Q E h=>?_) (λZY Ar outer s H vs Q E hr h=>?_)
 .obtain ⟨p,wl,sl,cells,m,d,rfl,_⟩:=h;rfl
 .obtain ⟨p,wl,sl,cells,m,d,rfl,D,tx,nd,Z,tb,m0,m1,r1,q⟩:=h;refine {_,(W.h (zh (zu (zl zP (caD (zA S hr rfl (clP (zb (za 0) (zb (caD (zA U hr rfl (clP (zb (za 0) (zb fh zc))))) zc))))) (zl bT (m0D (bB (clE (za 0)) T.mu Z5 hr)) (zH af rfl T.qb LY (zb (caD (zA O hr rfl (clP (zb (za 0) zc)))) zc))))))),?_};right;refine {p,wl,sl,cells,m,d,false,rfl,D,tx,nd,Z,tb,λH1 s1 J=>?_};have z:=D.pL s1;obtain ⟨dx,h1⟩:=z.ob;refine {p,wl,sl,cells,m,d,bA d false,rfl,z,λk e=>jP e,?_};erw [h1,gO];refine {p,wl,sl,cells,m,d,rfl,z,?_};right;refine {p,wl,sl,cells,m,d,rfl,z,r1,λl H2 G _=>?_};right;refine {_,.inl G.at_,?_};rw [Ln];have le:(emp d.rows d.rows.length).length<=1000:=by
   have:=kC d.rows d.rows.length;lia
  refine {.inl {'l','l'},?_};exact q H2 (s1.trans (.of G.same)) (J.same G.same)
abbrev qE:Stmt:=top 59
abbrev oo:Stmt:=top 60
abbrev pR:Stmt:=top 61
def atD(ns:List Int)(k:Int):Int:=if k<ns.length then ns.getD k.toNat 0 else 0
inductive kJ(K:Frag)(vs:List V)(H:Hp)(Q:VK)(E:XK):Prop
 | mk:∀(a:Addr)(ns:List Int)(k:Int),(vs=[.ref a,.int k])->(SqL K H a (ns.map V.int))->(0<=k)->(Q (.int (atD ns k)) H)->kJ K vs H Q E
inductive qt(vs:List V)(H:Hp)(Q:VK)(E:XK):Prop
 | mk:∀(n k:Int),(vs=[.int n,.int k])->(∀r:Int,1<=r->r<=2147483629->Q (.int r) H)->qt vs H Q E
inductive gB(K:Frag)(vs:List V)(H:Hp)(Q:VK)(E:XK):Prop
 | mk:∀(a:Addr)(ns:List Int)(k m b:Int),(vs=[.ref a,.int k,.int m,.int b])->(SqL K H a (ns.map V.int))->(0<=k)->(0<=m)->(m<=1000)->(0<b)->(b<1073741824)->(∀(l:Addr)(ds:List Int)(H':Hp),ze H H'->H l=none->H' l=some (.lst (ds.map V.int))->ds.length=m.toNat->(∀d∈ds,0<=d/\d<b)->Q (.ref l) H')->gB K vs H Q E
theorem Ir:zq Zt Zt (zk qE):=fsc
theorem Dq(F:Fun K "_law_at" "_law_at" qE f fd)(T:Txt w K mg A):zp P w K mg base CX0 cm 1 f fd Zt (kJ K):=by
 refine F.ok Ir (λvs H Q E h=>?_) (λS U outer s H vs Q E hr h=>?_)
 .obtain ⟨a,ns,k,rfl,_⟩:=h;rfl
 .obtain ⟨a,ns,k,rfl,G,O,q⟩:=h;refine {_,tY (vI (uD gZ (pv 1) (yk mO rfl T.qb LY (eI (pv 0) d0)) (zC _))
   (pZ (ph (uh yf (pv 0) (pv 1) (λ_ _=>rfl)))) uc) (pZ (ph jI)),?_}
  right;refine {_,.inl G,?_};rw [Ln];refine zS (λh=>?_) (λh=>?_)
  .have h':k<(ns.length:Int):=of_decide_eq_true h;have J:k.toNat<ns.length:=by lia
   have e:atD ns k=ns[k.toNat]:=by unfold atD;rw [if_pos h',Lr,KE J];rfl
   refine {a,ns.map V.int,k,.int (ns[k.toNat]),rfl,rfl,G,?_,by rw [<- e];exact q};have z:atI (ns.map V.int) ((k.toNat:Nat):Int)=some (.int (ns[k.toNat])):=bz (by rw [LP,KE J];rfl);have kz:((k.toNat:Nat):Int)=k:=by lia
   rw [kz] at z;exact z
  .have h' : ¬ k<(ns.length:Int):=λz=>h (decide_eq_true z);have e:atD ns k=0:=by unfold atD;rw [if_neg h']
   rw [<- e];exact q
theorem wg:zq Xy Xy (zk oo):=fsc
theorem Ci(F:Fun K "_law_mixed" "_law_mixed" oo f fd)(T:Txt w K mg A):zp P w K mg base CX0 cm 1 f fd Xy qt:=by
 refine F.ok wg (λvs H Q E h=>?_) (λG O outer s H vs Q E hr h=>?_)
 .obtain ⟨n,k,rfl,_⟩:=h;rfl
 .obtain ⟨n,k,rfl,q⟩:=h;refine {_,(W.h (zg (zw (i:=0) wg.nd rfl (LK rfl) (zl (oI zX) (zl zP (zl (oI zX) (za 0) zi) (zl bT zi (zl zP (za 1) zi))) zi))
   (zh (zu (zl zP zi (zl (oI zX) (zl zP (zl zP (zl bT (za 0) (za 0)) (zl bT zi (za 0))) (zl bT zi (za 1))) zi)))))),?_}
  right;generalize hm:(n % 2147483629+48271*(k+1)) % 2147483629=m;have z:0<=m:=by lia
  have J:m<2147483629:=by lia
  refine {'d',.inl {'d','d'},'d',.inl {'l','l'},.inl {'d','d'},.inl {'d','d'},'d',q _ ?_ ?_}<;>lia
theorem gS:zq ["_law_script","_law_k","_law_many","_law_base","_law_left","_law_found","_law_turn"] ZE (zk pR):=fsc
structure yR(H:Hp)(l a:Addr)(k m b:Int)(i:Nat)(σ:L2.St)(H':Hp):Prop where
 ex:∃(left:Int)(ds:List Int)(tn:Option V),σ=[some (V.ref a),some (.int k),some (.int m),some (.int b),some (.int left),some (.ref l),tn] /\
   ze H H'/\H' l=some (.lst (ds.map V.int))/\ds.length=i/\∀d∈ds,0<=d/\d<b
theorem Gd(F:Fun K V4 V4 pR f fd)(T:Txt w K mg A)(S:GF P w K mg base true 1 "_law_at" Zt (kJ K))(Zc:GF P w K mg base true 1 "_law_mixed" Xy qt):zp P w K mg base CX0 true 2 f fd ZE (gB K):=by
 refine F.ok gS (λvs H Q E h=>?_) (λZY Ar outer s H vs Q E hr h=>?_)
 .obtain ⟨a,ns,k,m,b,rfl,_⟩:=h;rfl
 .obtain ⟨a,ns,k,m,b,rfl,U,Z,hm,ab,hb,O,q⟩:=h;refine {_,(W.h (zg (zw (i:=4) gS.nd rfl (LK rfl) (zl (oI0 eR) (caD (zA S hr rfl (clP (zb (za 0) (zb (za 1) zc))))) (zl (oI Bl) zi zi)))
   (zg (zw (i:=5) gS.nd rfl (LK rfl) (aq zc))
   (zg (bX NH.never (λ_=>rfl) (cK rfl T.ro (zb (za 2) zc)) (zz (i:=6) gS.nd rfl (LK rfl))
   (zg (zJ (tD (zG (clO (oI0 gZ)) (clE (za 4)) (clE zi) (zC _)))
   (zh (zw (i:=4) gS.nd rfl (LK rfl) (caD (zA Zc hr rfl (clP (zb (zl zP (caD (zA S hr rfl (clP (zb (za 0) (zb (za 1) zc))))) (zl bT zi (caD (zA S hr rfl (clP (zb (za 0) (zb (zl zP (za 1) (zl (oI zX) (za 6) zi)) zc))))))) (zb (zl zP (zl bT zi (za 1)) (za 6)) zc)))))))
   zR)
   (zg (aC (d6 (za 5) (zl (oI zX) (za 4) (za 3))))
   (zh (zw (i:=4) gS.nd rfl (LK rfl) (zl (oI dO) (za 4) (za 3)))))))
   (zh (zu (za 5))))))),?_}
  right;refine {a,ns,k,rfl,U,Z,?_};right;refine {{'d','d','d'},'d',λl H1 nl _=>?_};have hl:=nl.no;refine {'l','l',?_};have fin:∀(i:Nat)(H':Hp)(x:Int)(ds:List Int),i<m.toNat->ze H H'->H' l=some (.lst (ds.map V.int))->ds.length=i->(∀d∈ds,0<=d/\d<b) ->
    (OV V.int ds).length<sizeLine/\wo x b/\yR H l a k m b (i+1) [some (V.ref a),some (.int k),some (.int m),some (.int b),some (.int (x / b)),some (.ref l),some (.int (0+i))] (upd H' l (.lst (ds.map V.int++[.int (x % b)]))):=by
   intro i H' x ds hi sm z G J;refine {by rw [Ln];exact i8 'l',⟨hb,O⟩,{x / b,ds++[x % b],_,rfl,λc o e=>by rw [zd (zr e hl)];exact sm c o e,by rw [zx,Mp];rfl,by simp [G],λd hd=>?_}};rcases L6.mp hd with hd|hd
   .exact J d hd
   .rw [Lw] at hd;subst hd;exact {Ph _ 'l',Oj _ hb}
  refine aj.rng (yR H l a k m b) {{_,[],_,rfl,nl.same,nl.at_,rfl,'s'}} ?_ ?_
  .rintro i σ H' hi ⟨⟨left,ds,tn,rfl,sm,z,G,J⟩⟩;erw [z,hb,O];refine zS (λ_=>?_) (λ_=>?_)
   .refine {a,ns,k,rfl,sm.seq U,Z,?_};erw [z,hb,O];refine {'d',a,ns,_,rfl,sm.seq U,'l',?_};erw [z,hb,O];refine {.inl {'d','d'},.inl {'d','d'},_,_,rfl,λr _ _=>?_};erw [z,hb,O];exact fin i H' r ds hi sm z G J
   .exact fin i H' left ds hi sm z G J
  .rintro σ H' ⟨⟨left,ds,tn,rfl,sm,z,G,J⟩⟩;right;exact q l ds H' sm hl z G J
theorem gy{α:Type}{xs:List α}{i:Int}(G:0<=i)(h1:i<xs.length):∃v,atI xs i=some v/\v∈xs:=by
 have F:i.toNat<xs.length:=by lia
 have z:atI xs ((i.toNat:Nat):Int)=some xs[i.toNat]:=bz (KE F);rw [show ((i.toNat:Nat):Int)=i by lia] at z;exact {_,z,Nw F}
abbrev lS:Stmt:=top 67
abbrev nV:Stmt:=top 68
def onV:Option Int->V|none=>.non|some n=>.int n
abbrev Mdl:=List (List (Option Int))
def som(r:List (Option Int)):Nat:=(r.filter isSome).length
theorem qL(r:List (Option Int)):som (r++[none])=som r:=by unfold som;rw [Qp];simp
theorem jH(r:List (Option Int))(n:Int):som (r++[some n])=som r+1:=by unfold som;rw [Qp];simp
theorem FT(r:List (Option Int)):som r<=r.length:=Pt ..
structure bN(H:Hp)(a:Addr)(cs:List Addr)(ms:Mdl):Prop where
 ls:H a=some (.lst (cs.map V.ref))
 rows:Paired (λc r=>H c=some (.lst (r.map onV))) cs ms
theorem bN.same(h:bN H a cs ms)(s:ze H H'):bN H' a cs ms:={s _ _ h.ls,Paired.z9 h.rows λ_ _ e=>s _ _ e}
theorem bN.at(h:bN H a cs ms)(hi:i<ms.length):∃c,cs[i]?=some c/\H c=some (.lst ((ms.getD i []).map onV)):=by
 have hl:=h.rows.length;have h1:cs[i]?=some cs[i]:=KE 'l';have h2:ms[i]?=some ms[i]:=KE hi;refine {_,h1,?_};rw [Lr,h2];exact aX h.rows h1 h2
def bb(ms:Mdl):Nat->List Nat
 | 0=>[]
 | i+1=>bb ms i++if (ms.getD i []).length=0 then [i] else []
theorem yF(ms:Mdl):∀i,(bb ms i).length<=i
 | 0=>Ll _
 | i+1=>by show (bb ms i++_).length<=_;have:=yF ms i;rw [LC];split<;>simp<;>lia
structure EmI(H:Hp)(a:Addr)(ms:Mdl)(i:Nat)(τ:L2.St)(ys:List V)(H':Hp):Prop where
 ex:∃t,τ=[t,some (V.ref a)]
 ys:ys=(bb ms i).map iv
 same:ze H H'
 le:i<=16
inductive lq(vs:List V)(H:Hp)(Q:VK)(E:XK):Prop
 | mk:∀(a:Addr)(cs:List Addr)(ms:Mdl),(vs=[.ref a])->(bN H a cs ms)->(ms.length<=16)->(∀l H',ze H H'->H l=none->H' l=some (.lst ((bb ms ms.length).map iv))->Q (.ref l) H')->lq vs H Q E
theorem Kx:zq Xn Xn (zk lS):=fsc
theorem He:aY { kind:=.function,names:=[(Lo ".0",.local),(Lo "_law_k",.local),(Lo "_law_model",.free)],isGenerator:=false,isCoroutine:=false,more:=[] } (zk lS).names Xn Xt [none,some 0]=true:=by decide +kernel
theorem JE:(Xt:List Str).Nodup:=by decide +kernel
theorem Gs(F:Fun K VZ VZ lS f fd)(T:Txt w K mg A):zp P w K mg base CX0 true 1 f fd Xn lq:=by
 refine F.ok Kx (λvs H Q E h=>?_) (λZY Ar outer s H vs Q E hr h=>?_)
 .obtain ⟨a,cs,ms,rfl,_⟩:=h;rfl
 .obtain ⟨a,cs,ms,rfl,M,hl,q⟩:=h;have Z:_<cLine:=Mo (zY hr);refine {_,(W.h (zh (zu (cF (λ_=>rfl) (ah.of He) (cK rfl T.ro (zb (zH af rfl T.qb LY (zb (za 0) zc)) zc)) (λ_ _ _ _ _=>(zz (i:=0) JE rfl (LK rfl))) (λ_ _ _ _ _=>(hV (tD (zG (clO (qV Z)) (clE (zQ zT (za 1) (za 0) (λ_ _=>rfl))) (clE (aq zc)) (zC _))))) (λ_ _ _ _ _=>(za 0)))))),?_};have lc:=M.rows.length;right;refine {_,.inl M.ls,?_};rw [Ln,lc,Nb];refine {'l','l',zZ.Ub (EmI H a ms) (λi τ ys H' I=>?_) {{_,rfl},rfl,ze.refl _,'l'} ?_ ?_}
  .rw [I.ys,Ln];exact aJ (by have:=yF ms i;have:=I.le;lia)
  .intro N i τ ys H' hi I hN;obtain ⟨t,rfl⟩:=I.ex;have O:=M.same I.same;obtain ⟨c,hc,e⟩:=O.at hi;have U:(0+(i:Int))=((i:Nat):Int):=by lia
   erw [U];refine {_,.inl O.ls,.ref c,bz (by rw [LP,hc];rfl),Mu _,λl2 H2 z _=>?_};have S:=z.same _ _ e;right;refine {_,S,_,z.at_,.inr rfl,?_};rw [Ln,NA];have J:bb ms (i+1)=bb ms i++if (ms.getD i []).length=0 then [i] else []:=rfl;by_cases G:(ms.getD i []).length=0
   .rw [decide_eq_true G];right;exact hN _ _ _ {{_,rfl},by rw [I.ys,J,if_pos G,Mp];rfl,I.same.trans z.same,'l'}
   .rw [decide_eq_false G];right;exact hN _ _ _ {{_,rfl},by rw [I.ys,J,if_neg G,MS],I.same.trans z.same,'l'}
  .intro τ ys H' I D2 H2 z ns;rw [I.ys] at z;exact q D2 H2 (I.same.trans z.same) (I.same.free z.no) z.at_
def iJ(ms:Mdl)(e:Option Nat)(wd:Int):Int:=wd*(if ((bb ms ms.length).length:Int)-1>0 then ((bb ms ms.length).length:Int)-1 else (0:Int))+(match e with|none=>0|some k=>wd-(ms.getD k []).length)
inductive rq(vs:List V)(H:Hp)(Q:VK)(E:XK):Prop
 | mk:∀(a el:Addr)(cs:List Addr)(ms:Mdl)(e0 e1:Option Nat)(wd:Int),(vs=[.ref a,.ref el,.int wd])->(bN H a cs ms)->(ms.length<=16)->(H el=some (.lst [ov e0,ov e1]))->((∀k,e0=some k->k<ms.length))->(0<=wd)->(wd<=1000)->(∀H',ze H H'->Q (.int (iJ ms e0 wd)) H')->rq vs H Q E
theorem rB:zq ["_law_model","_law_ends","_law_wide","_law_found"] XA (zk nV):=fsc
theorem BS(F:Fun K "_law_room" "_law_room" nV f fd)(T:Txt w K mg A)(J:GF P w K mg base true 1 VZ Xn lq):zp P w K mg base CX0 true 2 f fd XA rq:=by
 refine F.ok rB (λvs H Q E h=>?_) (λZ Ar outer s H vs Q E hr h=>?_)
 .obtain ⟨a,el,cs,ms,e0,e1,wd,rfl,_⟩:=h;rfl
 .obtain ⟨a,el,cs,ms,e0,e1,wd,rfl,M,hl,he,G,w0,S,q⟩:=h;have U:_<cLine:=Mo (zY hr);refine {_,(W.h (zg (zw (i:=3) rB.nd rfl (LK rfl) (zl bT (za 2) (zH (uY rfl) rfl T.T6 boot_max (zb zi (zb (zl (oI0 eR) (zH af rfl T.qb LY (zb (caD (zA J hr rfl (clP (zb (za 0) zc)))) zc)) zi) zc)))))
   (zg (zJ (tD (zG (clO iV) (clE (zQ zT (za 1) zi (λ_ _=>rfl))) (clE aE) (zC _)))
   (zh (zw (i:=3) rB.nd rfl (LK rfl) (zl (oI0 eR) (zl zP (za 3) (za 2)) (zH af rfl T.qb LY (zb (zQ zT (za 0) (zQ zT (za 1) zi (λ_ _=>rfl)) (λ_ _=>rfl)) zc)))))
   zR)
   (zh (zu (za 3)))))),?_}
  right;refine {a,cs,ms,rfl,M,hl,λl H1 s1 _ z=>?_};right;refine {_,.inl z,?_};rw [Ln];right;refine {.inl {'l','l'},_,.inl (s1 _ _ he),ov e0,rfl,?_};cases e0 with
  | none =>
   show cR true V.non V.non H1 _;right;have q:=q H1 s1;unfold iJ at q;rw [Int.add_zero] at q;exact q
  | some k =>
   obtain ⟨c,hc,O⟩:=(M.same s1).at (G k rfl);show cR true (V.int k) V.non H1 _;right;refine {_,.inl (s1 _ _ he),.int k,rfl,?_};right;refine {_,.inl (s1 _ _ M.ls),.ref c,bz (by rw [LP,hc];rfl),?_};right;refine {_,.inl O,?_};rw [Ln];right;have q:=q H1 s1;unfold iJ at q;dsimp only at q;rw [<- Int.add_sub_assoc] at q;exact q
abbrev ke:Stmt:=top 69
def smM(ms:Mdl)(e0 e1:Option Nat):Nat->List Nat
 | 0=>[]
 | i+1=>smM ms e0 e1 i++if (ms.getD i []).length=0\/e0=some i\/e1=some i then [] else [i]
theorem kI(ms:Mdl)(e0 e1:Option Nat):∀i,(smM ms e0 e1 i).length<=i
 | 0=>Ll _
 | i+1=>by show (smM ms e0 e1 i++_).length<=_;have:=kI ms e0 e1 i;rw [LC];split<;>simp<;>lia
theorem yL{i:Nat}:eqV (ov e) (.int i)=decide (e=some i):=by
 cases e with
 | none=>simp [ov,eqV]
 | some k=>simp [ov,eqV,Bool.beq_eq_decide_eq];lia
theorem Ld{i:Nat}:inV (.int i) [ov e0,ov e1]=decide (e0=some i\/e1=some i):=by
 show (eqV (ov e0) (.int i)||(eqV (ov e1) (.int i)||false))=_;rw [yL,yL,O4,Bool.decide_or]
theorem yC:zF (ov e)=true:=by cases e<;>rfl
structure SmI(H:Hp)(a el:Addr)(ms:Mdl)(e0 e1:Option Nat)(i:Nat)(τ:L2.St)(ys:List V)(H':Hp):Prop where
 ex:∃t,τ=[t,some (V.ref a),some (.ref el)]
 ys:ys=(smM ms e0 e1 i).map iv
 same:ze H H'
 le:i<=16
inductive jG(vs:List V)(H:Hp)(Q:VK)(E:XK):Prop
 | mk:∀(a el:Addr)(cs:List Addr)(ms:Mdl)(e0 e1:Option Nat),(vs=[.ref a,.ref el])->(bN H a cs ms)->(ms.length<=16)->(H el=some (.lst [ov e0,ov e1]))->(∀l H',ze H H'->H l=none->H' l=some (.lst ((smM ms e0 e1 ms.length).map iv))->Q (.ref l) H')->jG vs H Q E
theorem J2:zq YG YG (zk ke):=fsc
theorem EE:aY { kind:=.function,names:=[(Lo ".0",.local),(Lo "_law_k",.local),(Lo "_law_model",.free),(Lo "_law_ends",.free)],isGenerator:=false,isCoroutine:=false,more:=[] } (zk ke).names YG ["_law_k","_law_model","_law_ends"] [none,some 0,some 1]=true:=by decide +kernel
theorem Iv:(["_law_k","_law_model","_law_ends"]:List Str).Nodup:=by decide +kernel
theorem KM(F:Fun K VU VU ke f fd)(T:Txt w K mg A):zp P w K mg base CX0 true 1 f fd YG jG:=by
 refine F.ok J2 (λvs H Q E h=>?_) (λZY Ar outer s H vs Q E hr h=>?_)
 .obtain ⟨a,el,cs,ms,e0,e1,rfl,_⟩:=h;rfl
 .obtain ⟨a,el,cs,ms,e0,e1,rfl,M,hl,he,q⟩:=h;have O:_<cLine:=Mo (zY hr);refine {_,(W.h (zh (zu (cF (λ_=>rfl) (ah.of EE) (cK rfl T.ro (zb (zH af rfl T.qb LY (zb (za 0) zc)) zc)) (λ_ _ _ _ _=>(zz (i:=0) Iv rfl (LK rfl))) (λ_ _ _ _ _=>(hV (cO (eS (tD (zG (clO (oH O)) (clE (zQ zT (za 1) (za 0) (λ_ _=>rfl))) (clE (aq zc)) (zC _))) (eQ (tD (zG (clO (BX O)) (clE (za 0)) (clE (za 2)) rfl))))))) (λ_ _ _ _ _=>(za 0)))))),?_};have lc:=M.rows.length;right;refine {_,.inl M.ls,?_};rw [Ln,lc,Nb];refine {'l','l',zZ.Ub (SmI H a el ms e0 e1) (λi τ ys H' I=>?_) {{_,rfl},rfl,ze.refl _,'l'} ?_ ?_}
  .rw [I.ys,Ln];exact aJ (by have:=kI ms e0 e1 i;have:=I.le;lia)
  .intro N i τ ys H' hi I hN;obtain ⟨t,rfl⟩:=I.ex;have S:=M.same I.same;obtain ⟨c,hc,e⟩:=S.at hi;have Z:(0+(i:Int))=((i:Nat):Int):=by lia
   erw [Z];refine {_,.inl S.ls,.ref c,bz (by rw [LP,hc];rfl),Mu _,λl2 H2 z _=>?_};have U:=z.same _ _ e;right;refine {_,U,_,z.at_,.inr rfl,?_};rw [Ln,NA];have J:smM ms e0 e1 (i+1)=smM ms e0 e1 i++if (ms.getD i []).length=0\/e0=some i\/e1=some i then [] else [i]:=rfl;have s2:=I.same.trans z.same;by_cases G:(ms.getD i []).length=0
   .rw [decide_eq_true G,if_neg 'd'];exact hN _ _ _ {{_,rfl},by rw [I.ys,J,if_pos (.inl G),MS],s2,'l'}
   rw [decide_eq_false G,if_pos 'd'];refine {_,.inl (s2 _ _ he),rfl,by show (zF (ov e0)&&(zF (ov e1)&&true))=true;rw [yC,yC];rfl,?_};rw [Ld];by_cases h1:e0=some i\/e1=some i
   .rw [decide_eq_true h1];right;exact hN _ _ _ {{_,rfl},by rw [I.ys,J,if_pos (.inr h1),MS],s2,'l'}
   .rw [decide_eq_false h1];right;exact hN _ _ _ {{_,rfl},by rw [I.ys,J,if_neg (not_or.mpr ⟨G,h1⟩),Mp];rfl,s2,'l'}
  .intro τ ys H' I D2 H2 z ns;rw [I.ys] at z;exact q D2 H2 (I.same.trans z.same) (I.same.free z.no) z.at_
abbrev lE:Stmt:=top 62
structure TxI(l:Addr)(H:Hp)(i:Nat)(τ:L2.St)(ys:List V)(H':Hp):Prop where
 ex:∃t,τ=[t]
 ys:∃cs:List Nat,ys=(cs.map c1).map V.str/\cs.length=i/\∀c∈cs,c∈sg (LET++FIG)
 same:ze H H'
 le:i<=4
inductive pB(K:Frag)(vs:List V)(H:Hp)(Q:VK)(E:XK):Prop
 | mk:∀(a:Addr)(ns:List Int)(k:Int),(vs=[.ref a,.int k])->(SqL K H a (ns.map V.int))->(0<=k)->(∀(z:Str) H',ze H H'->dA z=true->Q (.str z) H')->pB K vs H Q E
theorem yW:zq ["_law_script","_law_k","_law_digits"] Zt (zk lE):=fsc
theorem E1:aY { kind:=.function,names:=[(Lo ".0",.local),(Lo "_law_digit",.local)],isGenerator:=false,isCoroutine:=false,more:=[] } (zk lE).names ["_law_script","_law_k","_law_digits"] ["_law_digit"] [none]=true:=by decide +kernel
theorem FZ:(["_law_digit"]:List Str).Nodup:=by decide +kernel
theorem E4(F:Fun K "_law_text" "_law_text" lE f fd)(T:Txt w K mg A)(ZX:GF P w K mg base true 2 V4 ZE (gB K)):zp P w K mg base CX0 true 3 f fd Zt (pB K):=by
 refine F.ok yW (λvs H Q E h=>?_) (λZY Ar outer s H vs Q E hr h=>?_)
 .obtain ⟨a,ns,k,rfl,_⟩:=h;rfl
 .obtain ⟨a,ns,k,rfl,Z,k0,q⟩:=h;have hu:_<cLine:=Mo (zY hr);refine {_,(W.h (zg (zw (i:=2) yW.nd rfl (LK rfl) (caD (zA ZX hr rfl (clP (zb (za 0) (zb (za 1) (zb zi (zb zi zc))))))))
   (zh (zu (ui zO (cF (λ_=>rfl) (ah.of E1) (liD (cU (clE (za 2)))) (λ_ _ _ _ _=>(zz (i:=0) FZ rfl (LK rfl))) (λ_ _ _ _ _=>cB) (λ_ _ _ _ _=>(zQ zT zO (za 0) (λ_ _=>rfl))))))))),?_}
  right;refine {a,ns,k,4,36,rfl,Z,k0,'d','d','d','d',λl ds H1 s1 _ el dl U=>?_};right;have G:LET++FIG=("abcdefghijklmnopqrstuvwxyz0123456789":Str):=by decide +kernel
  have ab:ds.length=4:=dl;refine {{_,SqL.of el},zZ.lst (xs:=ds.map V.int) (λi τ ys H'=>TxI l H1 i τ ys H'/\i<=4) (λi τ ys H' ⟨I,hi⟩=>?_) (λi τ ys H' ⟨I,_⟩=>SqL.of (I.same _ _ el)) {{{_,rfl},{[],rfl,rfl,nofun},ze.refl _,'l'},'l'} ?_ ?_}
  .obtain ⟨cs,rfl,e,_⟩:=I.ys;rw [Ln,Ln,e];exact aJ 'l'
  .rintro N i x τ ys H' hx ⟨I,hi⟩ hN;obtain ⟨t,rfl⟩:=I.ex;obtain ⟨cs,rfl,e,hm⟩:=I.ys;rw [LP] at hx;obtain ⟨n,S,rfl⟩:=Me.mp hx;have li:=(Lp.mp S).1;have hb:=U n (LF S);right;obtain ⟨c,ec,hc⟩:=gy (xs:=(Str.cps "abcdefghijklmnopqrstuvwxyz0123456789").toList) (i:=n) hb.1 (by show n<((36:Nat):Int);lia);refine {'d',c,ec,hN _ _ _ {{{_,rfl},{cs++[c],by simp [c1],by simp [e],λy z=>?_},I.same,'l'},'l'}};rcases L6.mp z with z|z
   .exact hm y z
   .rw [Lw.mp z,G];exact hc
  .rintro τ ys H' ⟨I,_⟩ D H3 n3;obtain ⟨cs,rfl,e,hm⟩:=I.ys;rw [Ln] at e;rw [oK];have sm:∀l:List Nat,(l.map ((λx:Str=>x.length)∘c1)).sum=l.length:=λl=>by
    induction l with
    | nil=>rfl
    | cons a l J=>rw [MD,List.sum_cons,J];show 1+_=_;simp;lia
   refine {cs.map c1,n3.at_,?_,q _ H3 ((s1.trans I.same).trans n3.same) ?_}
   .rw [Mv,show ("":Str).length=0 by decide,Nat.mul_zero,Nat.add_zero,sm];lia
   .have O:sg (Om "" (cs.map c1))=cs:=by
     rw [yj,Mv];have:∀l:List Nat,(l.map (sg∘c1)).flatten=l:=λl=>by
      induction l with
      | nil=>rfl
      | cons a l J=>rw [MD,Np,J];rfl
     exact this cs
    have el:(Om "" (cs.map c1)).length=cs.length:=(show (Om "" (cs.map c1)).length=(sg (Om "" (cs.map c1))).length from Mi.symm).trans (by rw [O]);unfold dA aS;rw [el,O,decide_eq_true 'l',decide_eq_true 'l',PL,PL,Mx];exact λc hc=>NY.mpr (hm c hc)
abbrev oN:Stmt:=top 64
structure LR(n:Int)(hot:Bool)(xs:List V):Prop where
 ok:c7 xs
 hd:∃y ys,xs = .str y::.int n::ys/\(hot = !decide (y="carry"))
 len:xs.length<=7
inductive qI(vs:List V)(H:Hp)(Q:VK)(E:XK):Prop
 | mk:∀(n way:Int),(vs=[.int n,.int way])->(0<=n)->(n<10 ^ 17)->(∀r xs H',ze H H'->LR n true xs->H' r=some (.tup xs)->Q (.ref r) H')->qI vs H Q E
theorem CM:zq XI XI (zk oN):=fsc
theorem Kt(F:Fun K "_law_idle" "_law_idle" oN f fd)(T:Txt w K mg A):zp P w K mg base CX0 true 1 f fd XI qI:=by
 refine F.ok CM (λvs H Q E h=>?_) (λZY Ar outer s H vs Q E hr h=>?_)
 .obtain ⟨n,z,rfl,_⟩:=h;rfl
 .obtain ⟨n,z,rfl,n0,n1,q⟩:=h;have hu:_<cLine:=Mo (zY hr);refine {_,(W.h (zh (zu (zQ zT (aq (zb (aU (zb zO (zb (za 0) (zb zO zc)))) (zb (aU (zb zO (zb (za 0) (zb zO zc)))) (zb (aU (zb zO (zb (za 0) (zb zO (zb zi zc))))) zc)))) (zl (oI zX) (za 1) zi) (λ_ _=>rfl))))),?_};have U:bM n:={'l','l'};right;refine {'d',λZ H1 m1=>{'d',λp2 H2 O=>{'d',λp3 H3 J=>{'d',λl H4 G _=>?_}}}};have S:ze H H4:=((m1.same.trans O.same).trans J.same).trans G.same;obtain ⟨v,ev,hv⟩:=gy (xs:=[V.ref Z,.ref p2,.ref p3]) (i:=z % 3) 'l' (by show z % 3<((3:Nat):Int);lia);refine {'d',_,.inl G.at_,v,ev,?_};simp only [Lu,LS,or_false] at hv;rcases hv with rfl|rfl|rfl
  .exact q Z _ H4 S {.hold n _ U (f!""),{_,_,rfl,f!""},'s'} (G.same _ _ (J.same _ _ (O.same _ _ m1.at_)))
  .exact q p2 _ H4 S {.free n _ U (f!""),{_,_,rfl,f!""},'s'} (G.same _ _ (J.same _ _ O.at_))
  .exact q p3 _ H4 S {.cut n _ _ U {'d','d'} (f!""),{_,_,rfl,f!""},'s'} (G.same _ _ J.at_)
abbrev p8:Stmt:=top 63
theorem rP{α β:Type}(f:α->β):∀(l:List α)(i:Nat),(l.map f).eraseIdx i=(l.eraseIdx i).map f
 | [],_=>rfl
 | _::_,0=>rfl
 | a::l,i+1=>by show f a::(l.map f).eraseIdx i=f a::(l.eraseIdx i).map f;rw [rP f l i]
theorem mW:∀{l:List Nat}{i:Nat}(h:i<l.length),(l[i]::l.eraseIdx i).Perm l
 | _::_,0,_=>.refl _
 | a::l,i+1,h=>by
  have h':i<l.length:=by simpa using h
  show (l[i]::a::l.eraseIdx i).Perm (a::l);exact (N7.swap ..).trans ((mW h').cons a)
structure Lay(n:Nat)(wd:Int)(os:List Nat):Prop where
 pm:os.Perm (Oi n)
 n3:3<=n
 n16:n<=16
 w2:2<=wd
 w32:wd<=32
structure LyW(H8:Hp)(a l7 p fo:Addr)(n:Nat)(wd d4:Int)(m:Nat)(σ:L2.St)(H':Hp):Prop where
 ex:∃(left os:List Nat)(od:Int),σ=[some (.ref a),some (.int n),some (.int wd),some (.int od),some (.int d4),some (.ref l7),some (.ref p),some (.ref fo)]/\H' p=some (.lst (left.map iv))/\H' fo=some (.lst (os.map iv))/\m=left.length/\(os++left).Perm (Oi n)/\0<=od
 same:ze H8 H'
inductive qZ(K:Frag)(vs:List V)(H:Hp)(Q:VK)(E:XK):Prop
 | mk:∀(a:Addr)(ns:List Int),(vs=[.ref a])->(SqL K H a (ns.map V.int))->(∀r l n wd os H',ze H H'->H l=none->H' r=some (.tup [.int (n:Nat),.int wd,.ref l])->H' l=some (.lst (os.map iv))->Lay n wd os->Q (.ref r) H')->qZ K vs H Q E
theorem di:zq ["_law_script","_law_many","_law_wide","_law_order","_law_far","_law_sizes","_law_left","_law_found"] YA (zk p8):=fsc
theorem CW(F:Fun K VR VR p8 f fd)(T:Txt w K mg A)(ZX:GF P w K mg base true 2 V4 ZE (gB K)):zp P w K mg base CX0 true 3 f fd YA (qZ K):=by
 refine F.ok di (λvs H Q E h=>?_) (λZY Ar outer s H vs Q E hr h=>?_)
 .obtain ⟨a,ns,rfl,_⟩:=h;rfl
 .obtain ⟨a,ns,rfl,hS,q⟩:=h;have hu:_<cLine:=Mo (zY hr);refine {_,(W.h (zg (cQ (caD (zA ZX hr rfl (clP (zb (za 0) (zb zi (zb zi (zb zi zc))))))) (xp rfl (n:=4) (gsD (zU (zz (i:=1) di.nd rfl (LK rfl)) (gsD (zU (zz (i:=2) di.nd rfl (LK rfl)) (gsD (zU (zz (i:=3) di.nd rfl (LK rfl)) (gsD (zU (zz (i:=4) di.nd rfl (LK rfl)) cV))))))))))
   (zg (zw (i:=5) di.nd rfl (LK rfl) (zl zP (aq (zb (aU (zb (zl zP zi (zl (oI zX) (za 1) zi)) (zb (zl zP zi (zl (oI zX) (za 2) zi)) zc))) (zb (aU (zb (zl zP zi (zl (oI zX) (za 1) zi)) (zb (zl zP zi (zl (oI zX) (za 2) zi)) zc))) zc))) (zl bT (aq (zb (aU (zb (zl zP zi (zl (oI zX) (za 1) zi)) (zb (zl zP zi (zl (oI zX) (za 2) zi)) zc))) zc)) zi)))
   (zg (cQ (zQ zT (za 5) (zl (oI zX) (za 4) zi) (λ_ _=>rfl)) (fI (n:=2) (gsD (zU (zz (i:=1) di.nd rfl (LK rfl)) (gsD (zU (zz (i:=2) di.nd rfl (LK rfl)) cV))))))
   (zg (zw (i:=6) di.nd rfl (LK rfl) (cX (Fc rfl) rfl T.RO boot_list (zb (cX yZ rfl T.ro boot_range (zb (za 1) zc)) zc)))
   (zg (zw (i:=7) di.nd rfl (LK rfl) (aq zc))
   (zg (AX NH.never (tD (zG (clO (oH hu)) (clE (za 6)) (clE (aq zc)) (zC _)))
   (zg (aC (d6 (za 7) (vn (za 6) (zl (oI zX) (za 3) (zH af rfl T.qb LY (zb (za 6) zc))))))
   (zh (zw (i:=3) di.nd rfl (LK rfl) (zl zP (zl (oI dO) (za 3) zi) zi)))))
   (zh (zu (aU (zb (za 1) (zb (za 2) (zb (za 7) zc))))))))))))),?_}
  right;refine {a,ns,0,4,720,rfl,hS,'d','d','d','d','d',λl ds H1 s1 _ el dl db=>?_}
  match ds,dl,db with
  | [d1,d2,d3,d4],_,db =>
  have b1:=db d1 's';have b2:=db d2 's';have b3:=db d3 's';have b4:=db d4 's';refine {l,_,rfl,SqL.of el,rfl,?_};right;refine {'d','d','d',λp1 H2 m1=>{'d','d','d',λp2 H3 m2=>{'d',λl3 H4 m3 _=>{'d','d','d',λp4 H5 m4=>{'d',λl5 H6 m5 _=>{_,m5.at_,'d','d',by show 4<=sizeLine;decide,λl6 H7 m6=>{_,m6.same _ _ (m5.same _ _ (m4.same _ _ m3.at_)),_,m6.at_,by show 6<=sizeLine;decide,λl7 H8 m7=>{'d',_,.inl m7.at_,?_}}}}}}}};have s8:ze H1 H8:=((((((m1.same.trans m2.same).trans m3.same).trans m4.same).trans m5.same).trans m6.same).trans m7.same);have Z:ze H5 H8:=(m5.same.trans m6.same).trans m7.same;obtain ⟨v,ev,hv⟩:=gy (xs:=[V.ref p1,.ref p2]++(Ml (Int.toNat 4) [V.ref p4]).flatten) (i:=d4 % 6) 'l' (by show d4 % 6<((6:Nat):Int);lia);obtain ⟨pt,n,wd,rfl,av,n3,n16,w2,w32⟩:∃(pt:Addr)(n:Nat)(wd:Int),v = .ref pt/\H8 pt=some (.tup [.int n,.int wd])/\3<=n/\n<=16/\2<=wd/\wd<=32:=by
   have mk:∀{pt:Addr}{x y:Int},H8 pt=some (.tup [.int (3+x),.int (2+y)])->0<=x->x<14->0<=y->y<31->V.ref pt=v->∃(pt:Addr)(n:Nat)(wd:Int),v = .ref pt/\H8 pt=some (.tup [.int n,.int wd])/\3<=n/\n<=16/\2<=wd/\wd<=32:=λ{pt x y} h x0 x1 y0 y1 e=>{pt,(3+x).toNat,2+y,e.symm,by rw [h,show (((3+x).toNat:Nat):Int)=3+x by lia],'l','l','l','l'};have hv:v = .ref p1\/v = .ref p2\/v = .ref p4:=by
    simp [Ml] at hv;rcases hv with h|h|h<;>simp [h]
   rcases hv with h|h|h
   .exact mk (Z _ _ (m4.same _ _ (m3.same _ _ (m2.same _ _ m1.at_)))) 'l' 'l' 'l' 'l' h.symm
   .exact mk (Z _ _ (m4.same _ _ (m3.same _ _ m2.at_))) 'l' 'l' 'l' 'l' h.symm
   .exact mk (Z _ _ m4.at_) 'l' 'l' 'l' 'l' h.symm
  refine {_,ev,pt,_,rfl,SqT.of av,rfl,?_};right;refine λpr H9 m9=>{n,m9.at_,'l',λp H10 O=>{Mu _,λfo H11 S _=>?_}};have np:H8 p=none:=m9.same.free O.no;have nf:H8 fo=none:=(m9.same.trans O.same).free S.no;have pf:p≠fo:=λz=>by have:=S.no;rw [<- z,O.at_] at this;cases this
  unfold wa;refine {LyW H8 a l7 p fo n wd d4,{n,{Oi n,[],d3,rfl,S.same _ _ O.at_,S.at_,(OX).symm,N7.refl _,b3.1},(m9.same.trans O.same).trans S.same},?_};rintro m σ H' ⟨⟨left,os,od,rfl,hp,hf,rfl,pm,o0⟩,sm⟩;right;refine {Mu _,λaL H12 G _=>{_,G.same _ _ hp,_,G.at_,.inr rfl,?_}};rw [Ln,NA];by_cases hl:left.length=0
  .rw [decide_eq_true hl,if_neg 'd'];have e0:left=[]:=M1.mp hl;subst e0;rw [MS] at pm;right;refine {'d',λr H13 ab=>?_};have Xv:ze H8 H13:=(sm.trans G.same).trans ab.same;exact q r fo n wd os H13 ((s1.trans s8).trans Xv) ((s1.trans s8).free nf) ab.at_ (ab.same _ _ (G.same _ _ hf)) ⟨pm,n3,n16,w2,w32⟩
  .rw [decide_eq_false hl,if_pos 'd'];refine {λai H'=>LyW H8 a l7 p fo n wd d4 (left.length-1) ai H',λai H' h=>{_,'l',h},?_};have J:=G.same _ _ hp;have U:=G.same _ _ hf;right;obtain ⟨kk,ek⟩:∃kk:Nat,od % (left.length:Int)=kk:={(od % (left.length:Int)).toNat,by have:=Ph od (show (left.length:Int)≠0 by lia);lia};have hk:kk<left.length:=by have:=Oj od (show 0<(left.length:Int) by lia);lia
   have ln:os.length+left.length=n:=by have:=pm.length_eq;rw [LC,OX] at this;exact this
   refine {{_,U},{_,J},_,.inl J,by rw [Ln];lia,_,kk,by rw [Ln];exact ek,J,iv left[kk],by rw [LP,KE hk];rfl,os.map iv,by rw [zd (L9 pf)];exact U,by rw [Ln];exact aJ 'l',?_,{left.eraseIdx kk,os++[left[kk]],_,rfl,?_,?_,?_,?_,?_},λc o e=>?_}
   .exact {'d','d'}
   .rw [zd pf,zx,rP]
   .rw [zx,Mp];rfl
   .rw [List.length_eraseIdx_of_lt hk]
   .refine N7.trans ?_ pm;rw [Ma];exact (mW hk).append_left os
   .lia
   .rw [zd (zr e nf),zd (zr e np)];exact G.same _ _ (sm _ _ e)
end
def bW(U:List Tri)(hot:Bool)(o:Option Nat):Prop:=match o with
 | none=>∀t∈U,cT t≠hot
 | some e=>∃t∈U,cT t=hot/\t.2.1=e/\∀t'∈U,cT t'=hot->zt t'<=zt t
theorem G7(U:List Tri):∃ts:List Tri,ts.Perm U/\ts.Pairwise (λa b=>zt a<=zt b):=by
 induction U with
 | nil=>exact {[],.refl _,.nil}
 | cons x U G =>
  obtain ⟨ts,p,h⟩:=G;have ins:∀l:List Tri,l.Pairwise (λa b=>zt a<=zt b)->∃m:List Tri,m.Perm (x::l)/\m.Pairwise (λa b=>zt a<=zt b):=λl=>by
   induction l with
   | nil=>exact λ_=>{[x],.refl _,'s'}
   | cons y l G =>
    intro h;obtain ⟨h1,h2⟩:=Ny.mp h;by_cases hx:zt x<=zt y
    .refine {x::y::l,.refl _,Ny.mpr {λz F=>?_,h}};rcases Lu.mp F with rfl|F
     .exact hx
     .have:=h1 z F;lia
    .obtain ⟨m,p,hm⟩:=G h2;refine {y::m,(p.cons y).trans (.swap x y l),Ny.mpr {λz F=>?_,hm}};rcases Lu.mp (p.mem_iff.mp F) with rfl|F
     .lia
     .exact h1 z F
  obtain ⟨m,p2,hm⟩:=ins ts h;exact {m,p2.trans (p.cons x),hm}
theorem DD(U:List Tri):(aO U).Pairwise (λa b=>zt a<=zt b):=by
 have ex:=G7 U;unfold aO;rw [dif_pos ex];exact ex.choose_spec.2
theorem vG(h:ts.Pairwise (λa b=>zt a<=zt b))(hot:Bool):∀i,i<=ts.length->bW (ts.take i) hot (cE ts hot i)
 | 0,_=>λt G=>by simp at G
 | i+1,hi=>by
  have S:i<ts.length:=by lia
  have e:ts[i]?=some ts[i]:=KE S;have O:=vG h hot i 'l';have Z:ts.take (i+1)=ts.take i++[ts[i]]:=by rw [MP,e];rfl
  have ep:cE ts hot (i+1)=if cT ts[i]=hot then some ts[i].2.1 else cE ts hot i:=by
   show (match ts[i]? with|some t=>_|none=>_)=_;rw [e]
  rw [ep,Z];by_cases J:cT ts[i]=hot
  .rw [if_pos J];refine {ts[i],LU _ (Lw.mpr rfl),J,rfl,λt' z _=>?_};rcases L6.mp z with z|z
   .obtain ⟨j,W,rfl⟩:=NB z;rw [ME] at W;rw [QA];exact M9.mp h j i 'l' S 'l'
   .rw [Lw.mp z];exact MR _
  .rw [if_neg J];cases U:cE ts hot i with
   | none =>
    rw [U] at O;intro t G;rcases L6.mp G with G|G
    .exact O t G
    .rw [Lw.mp G];exact J
   | some n =>
    rw [U] at O;obtain ⟨t,h1,h2,h3,h4⟩:=O;refine {t,MG _ h1,h2,h3,λt' z F=>?_};rcases L6.mp z with z|z
    .exact h4 t' z F
    .rw [Lw.mp z] at F;exact absurd F J
theorem qm(d:DM)(hot:Bool):bW (nU d) hot (bA d hot):=by
 have h:=vG (DD (nU d)) hot (aO (nU d)).length (Ll _);rw [L5 (Ll _)] at h;unfold bA;cases e:cE (aO (nU d)) hot (aO (nU d)).length with
 | none=>rw [e] at h;exact λt F=>h t ((hX _).mem_iff.mpr F)
 | some n =>
  rw [e] at h;obtain ⟨t,h1,h2,h3,h4⟩:=h;exact {t,(hX _).mem_iff.mp h1,h2,h3,λt' z=>h4 t' ((hX _).mem_iff.mpr z)}
theorem HF{U:List Tri}(nd:(U.map zt).Nodup){s t:Tri}(hs:s∈U)(F:t∈U)(h:zt s=zt t):s=t:=by
 obtain ⟨i,hi,rfl⟩:=NB hs;obtain ⟨j,z,rfl⟩:=NB F;have:i=j:=by
  have h1:(U.map zt)[i]?=(U.map zt)[j]?:=by rw [LP,LP,KE hi,KE z];simpa using h
  exact (P7 (by simpa using hi) nd).mp h1
 subst this;rfl
theorem my(nd:(U.map zt).Nodup){o o':Option Nat}(h:bW U hot o)(h':bW U hot o'):o=o':=by
 cases o with
 | none =>
  cases o' with
  | none=>rfl
  | some e=>obtain ⟨t,h1,h2,_⟩:=h';exact absurd h2 (h t h1)
 | some e =>
  obtain ⟨t,h1,h2,h3,h4⟩:=h;cases o' with
  | none=>exact absurd h2 (h' t h1)
  | some J =>
   obtain ⟨s,g1,F,G,z⟩:=h';have:=h4 s g1 F;have:=z t h1 h2;have es:=HF nd h1 g1 'l';rw [<- h3,<- G,es]
theorem aP{α:Type}{l:List α}{k i:Nat}{x d:α}(z:k<l.length):(l.set k x).getD i d=if i=k then x else l.getD i d:=by
 rw [Lr,Lr];by_cases h:i=k
 .rw [if_pos h,h,Oc z];rfl
 .rw [if_neg h,N5 (L9 h)]
theorem bG.set(h:bG d){k:Nat}{r:List Tx}{st:Bool}(hr:r.length<=32/\∀t∈r,∀z,t=some z->asc z=true/\z.length<=1000):bG {d.rows.set k r,sd,c,lf,st}:=by
 refine {λq F=>?_,by show (d.rows.set k r).length<=16;rw [MZ];exact h.len};rcases List.mem_or_eq_of_mem_set F with F|rfl
 .exact h.ok q F
 .exact hr
def DM.wrote(d:DM)(k:Nat)(t:Str)(c:Int):DM:={ d with rows:=d.rows.set k (d.rows.getD k []++[some t]),cnt:=c }
theorem wC{d:DM}{k:Nat}{t:Str}(h1:d.left=none)(h2:d.st=false)(O:((d.rows.getD k []).length:Int)<m):d.write m k t=(.val (.int (d.rows.getD k []).length),d.wrote k t (d.cnt+t.length)):=by
 have F:dn d.left t.length=t.length:=by rw [h1];rfl
 have es:(d.spend t.length).st=false:=by show decide _=false;rw [F];exact decide_eq_false (Int.lt_irrefl _)
 unfold DM.write;rw [if_neg (by rw [h2];exact Lz),if_neg 'l',if_neg (by rw [es];exact λz=>Lz z.2),if_neg (by rw [es];exact Lz),F];have J:kQ t t.length=some t:=by
  show some (Txt.slice t none (some (t.length:Int)))=_;rw [rE (by rw [ag];exact Ll _),<- ag,L5 (Ll _),iH]
 rw [J];have G:d.spend t.length={ d with cnt:=d.cnt+t.length }:=by
  unfold DM.spend;rw [F,h1,h2,decide_eq_false (Int.lt_irrefl _)];rfl
 rw [G];rfl
def DM.To(d:DM)(k j:Nat):DM:={ d with rows:=d.rows.set k (Ml j none++(d.rows.getD k []).drop j),cnt:=d.cnt+j }
theorem IY{d:DM}{k j:Nat}(h2:d.st=false)(O:j<(d.rows.getD k []).length):(d.stop j).empty k=(.stop,{ d.To k j with left:=some 0,st:=true }):=by
 have z:dn (d.stop j).left (((d.stop j).rows.getD k []).length:Nat)=j:=by
  show (if (j:Int)<((d.rows.getD k []).length:Int) then (j:Int) else _)=j;rw [if_pos 'l']
 have F:(d.stop j).spend (((d.stop j).rows.getD k []).length:Nat)={ d with cnt:=d.cnt+j,left:=some 0,st:=true }:=by
  unfold DM.spend;rw [z];have G:(d.stop j).left.map (· - (j:Int))=some 0:=by show some ((j:Int)-j)=some 0;rw [Int.sub_self]
  have J:decide ((j:Int)<(((d.stop j).rows.getD k []).length:Nat))=true:=decide_eq_true (by show (j:Int)<((d.rows.getD k []).length:Int);lia);rw [G,J];rfl
 unfold DM.empty;rw [if_neg (by show ¬ d.st=true;rw [h2];exact Lz),if_pos (by rw [F]),z,F,Nb];rfl
theorem o6{d:DM}{k j:Nat}(z:j<(d.rows.getD k []).length):(Ml j (none:Tx)++(d.rows.getD k []).drop j).length=(d.rows.getD k []).length:=by rw [LC,M6,Ni];lia
theorem yq(ok:c7 xs)(hl:xs.length<=7):asc (bC xs)=true/\(bC xs).length<=1000:=by
 obtain ⟨_,_,_,G⟩:=ok.parts;obtain ⟨J,z⟩:=mH G;have F:=gJ (fS (tx (ay xs))).1 (by have:=(fS (tx (ay xs))).2;lia);have nl:=xk (fS (tx (ay xs))).1 (by have:=(fS (tx (ay xs))).2;lia);refine {?_,?_}
 .unfold bC e9;rw [bU,d9,d9,dy,Rc,Rc,z];have:(sg (toString (cZ (tx (ay xs))):Str)).all (λc=>decide (c<128))=true:=Mx.mpr λc hc=>decide_eq_true (by have:=F.dig c hc;lia);rw [this];decide +kernel
 .unfold bC e9;rw [<- ag,d9,d9,dy,LC,LC,ag];have:(sg (";":Str)).length=1:=by decide +kernel
  rw [this];lia
theorem yH{k:Nat}:∀j,j<=l.length->rIn (l++m) k j=rIn l k j
 | 0,_=>rfl
 | j+1,h=>by
  show rIn (l++m) k j++_=rIn l k j++_;rw [yH j 'l',Lr,Lr,NR 'l']
theorem Iz{k:Nat}:rIn (l++[x]) k (l++[x]).length=rIn l k l.length++one (rdT x) k l.length:=by
 rw [LC];show rIn (l++[x]) k l.length++one (rdT ((l++[x]).getD l.length none)) k l.length=_;rw [yH _ (Ll _),Lr,NI (Ll _),Pn];rfl
theorem xa{k j:Nat}:∀i,(rIn (Ml j none++l.drop j) k i).Sublist (rIn l k i)
 | 0=>.slnil
 | i+1=>by
  refine (xa i).append ?_;by_cases h:i<j
  .rw [Lr,NR (by rw [M6];exact h),Na,if_pos h];exact List.nil_sublist _
  .rw [Lr,NI (by rw [M6];lia),M6,O3,show j+(i-j)=i by lia,<- Lr];exact Sublist.refl _
section
variable {rows rows':List (List Tx)}{k:Nat} (h:∀i,i≠k->rows'.getD i []=rows.getD i [])
include h
theorem xH{x:List Tri}(hx:rIn (rows'.getD k []) k (rows'.getD k []).length=rIn (rows.getD k []) k (rows.getD k []).length++x):∀n,(wU rows' n).Perm (wU rows n++if k<n then x else [])
 | 0=>by rw [if_neg 'l'];exact .refl _
 | n+1=>by
  show (wU rows' n++_).Perm (wU rows n++rIn (rows.getD n []) n (rows.getD n []).length++_);have F:=xH hx n;by_cases e:n=k
  .subst e;rw [if_neg 'l',MS] at F;rw [if_pos 'l',hx,Ma];exact F.append_right _
  .rw [h n e];refine (F.append_right _).trans ?_;have:(if k<n+1 then x else [])=if k<n then x else []:=by
    by_cases z:k<n
    .rw [if_pos z,if_pos 'l']
    .rw [if_neg z,if_neg 'l']
   rw [this,Ma,Ma];exact OG.append_left _
theorem wL(hx:(rIn (rows'.getD k []) k (rows'.getD k []).length).Sublist (rIn (rows.getD k []) k (rows.getD k []).length)):∀n,(wU rows' n).Sublist (wU rows n)
 | 0=>.slnil
 | n+1=>by
  refine (wL hx n).append ?_;by_cases e:n=k
  .subst e;exact hx
  .rw [h n e];exact Sublist.refl _
theorem tI{t:Tri}(F:t.2.1≠k):∀n,t∈wU rows n->t∈wU rows' n
 | 0,z=>z
 | n+1,z=>by
  rcases L6.mp z with z|z
  .exact MG _ (tI F n z)
  .have:=lG z;exact LU _ (by rw [h n 'l'];exact z)
end
theorem tB(h:bG d):∀n,n<=d.rows.length->(wU d.rows n).length<=32*n
 | 0,_=>Ll _
 | n+1,G=>by
  have z:∀(r:List Tx) k j,(rIn r k j).length<=j:=λr k j=>by
   induction j with
   | zero=>exact Ll _
   | succ j F=>show (rIn r k j++_).length<=_;rw [LC];have:=xq (rdT (r.getD j none)) k j;lia
  have:=tB h n 'l';have:=z (d.rows.getD n []) n (d.rows.getD n []).length;have:=(h.ok _ (eX (x:=[]) (show n<d.rows.length by lia))).1;show (wU d.rows n++_).length<=_;rw [LC];lia
theorem bW.less{o:Option Nat}{k:Nat}(h:bW U hot o)(h1:∀t∈F,t∈U)(h2:∀t∈U,t.2.1≠k->t∈F)(h3:o≠some k):bW F hot o:=by
 cases o with
 | none=>exact λt O=>h t (h1 t O)
 | some e =>
  obtain ⟨t,g1,J,G,S⟩:=h;exact {t,h2 t g1 λz=>h3 (by rw [<- G,z]),J,G,λt' W=>S t' (h1 t' W)}
structure DP(d:DM)(n:Int)(e0 e1:Option Nat):Prop where
 tx:bG d
 nd:((nU d).map zt).Nodup
 lt:∀t∈nU d,zt t<n
 hot:bW (nU d) true e0
 cold:bW (nU d) false e1
theorem DP.few{n:Int}(h:DP d n e0 e1):(nU d).length<3000:=by
 have:=tB h.tx d.rows.length (Ll _);have:=h.tx.len;show (wU d.rows d.rows.length).length<3000;lia
theorem DP.end_{n:Int}(h:DP d n e0 e1):bA d true=e0:=my h.nd (qm d true) h.hot
theorem DP.less{n:Int}{k:Nat}(h:DP d n e0 e1)(tx:bG d')(hl:d'.rows.length=d.rows.length)(hi:∀i,i≠k->d'.rows.getD i []=d.rows.getD i [])(hx:(rIn (d'.rows.getD k []) k (d'.rows.getD k []).length).Sublist (rIn (d.rows.getD k []) k (d.rows.getD k []).length))(J:e0≠some k)(h1:e1≠some k):DP d' n e0 e1:=by
 have F:(nU d').Sublist (nU d):=by unfold nU;rw [hl];exact wL hi hx _
 have kp:∀t∈nU d,t.2.1≠k->t∈nU d':=λt z G=>by unfold nU at z ⊢;rw [hl];exact tI hi G _ z
 exact {tx,(F.map zt).nodup h.nd,λt z=>h.lt t (F.subset z),h.hot.less (λt z=>F.subset z) kp J,h.cold.less (λt z=>F.subset z) kp h1}
section
variable {d:DM}{n c:Int}{e0 e1:Option Nat}{k:Nat}
theorem DP.Ur{st:Bool}(h:DP d n e0 e1)(G:k<d.rows.length)(O:j<(d.rows.getD k []).length)(S:e0≠some k)(h1:e1≠some k):DP { d.To k j with left:=lf,st:=st } n e0 e1:=by
 refine h.less (h.tx.set {?_,λq F z J=>?_}) (MZ ..) (λi hi=>?_) ?_ S h1
 .rw [o6 O];exact (h.tx.ok _ (eX G)).1
 .rcases L6.mp F with F|F
  .rw [(List.mem_replicate.mp F).2] at J;cases J
  .exact (h.tx.ok _ (eX G)).2 q (O6 F) z J
 .show (d.rows.set k _).getD i []=_;rw [aP G,if_neg hi]
 .show (rIn ((d.rows.set k _).getD k []) k ((d.rows.set k _).getD k []).length).Sublist _;rw [aP G,if_pos rfl,o6 O];exact xa _
theorem yx{t:Str}(z:k<d.rows.length):(nU (d.wrote k t c)).Perm (nU d++one (bE t) k (d.rows.getD k []).length):=by
 have:=xH (rows:=d.rows) (rows':=d.rows.set k (d.rows.getD k []++[some t])) (k:=k) (λi hi=>by rw [aP z,if_neg hi]) (x:=one (bE t) k (d.rows.getD k []).length) (by rw [aP z,if_pos rfl];exact Iz) d.rows.length;rw [if_pos z] at this;unfold nU;show (wU (d.rows.set k _) (d.rows.set k _).length).Perm _;rw [MZ];exact this
theorem DP.UO{t:Str}(h:DP d n e0 e1)(J:k<d.rows.length)(S:(d.rows.getD k []).length<32)(O:asc t=true/\t.length<=1000):bG (d.wrote k t c):=by
 refine h.tx.set {by rw [LC,List.length_singleton];lia,λq F z G=>?_};rcases L6.mp F with F|F
 .exact (h.tx.ok _ (eX J)).2 q F z G
 .rw [Lw.mp F] at G;cases G;exact O
theorem DP.text{t:Str}(h:DP d n e0 e1)(F:k<d.rows.length)(G:(d.rows.getD k []).length<32)(J:asc t=true/\t.length<=1000)(hr:bE t=none):DP (d.wrote k t c) n e0 e1:=by
 have p:=yx (c:=c) (t:=t) F;rw [hr] at p;have p:(nU (d.wrote k t c)).Perm (nU d):=by rw [<- MS (nU d)];exact p
 have kp:∀x∈nU d,x.2.1≠d.rows.length->x∈nU (d.wrote k t c):=λx hx _=>p.mem_iff.mpr hx;have lt:∀{o:Option Nat}{hot:Bool},bW (nU d) hot o->o≠some d.rows.length:=λ{o hot} ho z=>by
  subst z;obtain ⟨x,hx,_,e,_⟩:=ho;have:=rF hx;lia
 exact {h.UO F G J,(p.map zt).nodup_iff.mpr h.nd,λx hx=>h.lt x (p.mem_iff.mp hx),h.hot.less (λx hx=>p.mem_iff.mp hx) kp (lt h.hot),h.cold.less (λx hx=>p.mem_iff.mp hx) kp (lt h.cold)}
theorem bW.add{o:Option Nat}(h:bW U hot o)(hm:∀t,t∈G↔t∈U\/t=x)(hl:∀t∈U,zt t<zt x):bW G hot (if cT x=hot then some x.2.1 else o):=by
 by_cases hx:cT x=hot
 .rw [if_pos hx];refine {x,(hm x).mpr (.inr rfl),hx,rfl,λt z _=>?_};rcases (hm t).mp z with z|rfl
  .exact M3 (hl t z)
  .exact MR _
 .rw [if_neg hx];cases o with
  | none =>
   intro t z;rcases (hm t).mp z with z|rfl
   .exact h t z
   .exact hx
  | some e =>
   obtain ⟨t,g1,O,W,S⟩:=h;refine {t,(hm t).mpr (.inl g1),O,W,λt' F J=>?_};rcases (hm t').mp F with F|rfl
   .exact S t' F J
   .exact absurd J hx
theorem DP.row{hot:Bool}(h:DP d n e0 e1)(O:k<d.rows.length)(U:(d.rows.getD k []).length<32)(G:LR n hot xs):DP (d.wrote k (bC xs) c) (n+1) (if hot then some k else e0) (if hot then e1 else some k):=by
 have p:=yx (c:=c) (t:=bC xs) O;rw [G.ok.read] at p;have hm:∀t,t∈nU (d.wrote k (bC xs) c)↔t∈nU d\/t=(xs,k,(d.rows.getD k []).length):=λt=>by
  rw [p.mem_iff,L6];show _\/t∈[_]↔_;rw [Lw]
 obtain ⟨y,ys,rfl,W⟩:=G.hd;have hl:∀t∈nU d,zt t<zt (V.str y::V.int n::ys,k,(d.rows.getD k []).length):=h.lt;have hx:cT (V.str y::V.int n::ys,k,(d.rows.getD k []).length)=hot:=W.symm;have J:=h.hot.add hm hl;have S:=h.cold.add hm hl;rw [hx] at J S;refine {h.UO O U (yq G.ok G.len),(p.map zt).nodup_iff.mpr ?_,λt F=>?_,?_,?_}
 .rw [Mp,Oa];refine {h.nd,by show [_].Nodup;simp,λa ha b hb z=>?_};obtain ⟨t,F,rfl⟩:=Ow.mp ha;rw [show OV zt (one (some (V.str y::V.int n::ys)) k (d.rows.getD k []).length)=[n] from rfl,Lw] at hb;have:=h.lt t F;lia
 .rcases (hm t).mp F with F|rfl
  .have:=h.lt t F;lia
  .show n<n+1;lia
 .cases hot<;>exact J
 .cases hot<;>exact S
end
theorem DP.new{n:Nat}(G:n<=16)(m:Int):DP (DM.new n) m none none:=by
 have e:∀i,(DM.new n).rows.getD i []=[]:=λi=>by
  unfold DM.new;rw [Lr,Na];split<;>rfl
 have u:∀i,wU (DM.new n).rows i=[]:=λi=>by
  induction i with
  | zero=>rfl
  | succ i F=>show wU _ i++_=_;rw [F,e i];rfl
 have u:nU (DM.new n)=[]:=u _;exact {{λr hr=>by rw [(List.mem_replicate.mp hr).2];simp,by show (Ml n _).length<=16;rw [M6];exact G},by rw [u];exact .nil,by rw [u];nofun,(by rw [u];exact λt z=>nomatch z),by rw [u];exact λt z=>nomatch z}
abbrev jR:Stmt:=top 66
theorem i6{k:Nat}:∀{n:Nat},k∈smM ms e0 e1 n->k<n/\(ms.getD k []).length≠0/\e0≠some k/\e1≠some k
 | 0,h=>by cases h
 | n+1,h=>by
  rcases L6.mp h with h|h
  .have:=i6 h;exact {'l',this.2}
  .split at h
   .cases h
   .rename_i z;rw [Lw] at h;subst h;exact {'l',λe=>z (.inl e),λe=>z (.inr (.inl e)),λe=>z (.inr (.inr e))}
theorem hU:(∀ps,HO.lst xs≠.tbl ps)/\∀oc,HO.lst xs≠.frz oc (.own 0):={λ_ z=>HO.noConfusion z,λ_ z=>HO.noConfusion z}
structure gh(d:DM)(ms:Mdl):Prop where
 len:ms.length=d.rows.length
 at_:∀i,(ms.getD i []).length=(d.rows.getD i []).length
theorem zE.kind{p wl sl:Addr}(D:zE A H p wl sl cells m d)(hx:x∈p::wl::sl::cells):(∃dx fs,H x=some (.ins A.pD dx fs))\/∃xs,H x=some (.lst xs):=by
 simp only [Lu] at hx;rcases hx with rfl|rfl|rfl|hx
 .obtain ⟨dx,e⟩:=D.ob;exact .inl {_,_,e}
 .exact .inr {_,D.rows.w}
 .exact .inr {_,D.Pv}
 .obtain ⟨i,hi⟩:=MO hx;exact .inr {_,D.rows.at_ i x hi}
theorem TB.tj{p wl sl:Addr}(h:TB A H)(D:zE A H p wl sl cells m d)(k:zy (p::wl::sl::cells) H H'):TB A H':=h.keep k λx hx o ho=>by
 rcases D.kind hx with ⟨dx,fs,e⟩|⟨xs,e⟩
 .rw [ho] at e;cases e;exact {λ_ z=>HO.noConfusion z,λ_ z=>HO.noConfusion z}
 .rw [ho] at e;cases e;exact hU
theorem bN.keep(h:bN H a cs ms)(s:∀x∈a::cs,∀o,H x=some o->(∀ps,o≠.tbl ps)->H' x=some o):bN H' a cs ms:=by
 refine {s _ (LN ..) _ h.ls hU.1,?_};have:∀c∈cs,∀o,H c=some o->(∀ps,o≠.tbl ps)->H' c=some o:=λc hc=>s c (LA _ hc);have hr:=h.rows;clear h s
 induction hr with
 | nil=>exact .nil
 | cons r _ z=>exact .cons (this _ (LN ..) _ r hU.1) (z λc hc=>this c (LA _ hc))
theorem bG.wide(h:bG d)(i:Nat):(d.rows.getD i []).length<=32:=by
 by_cases hi:i<d.rows.length
 .exact (h.ok _ (eX hi)).1
 .rw [Lr,NK 'l'];exact Mu _
theorem Iy(r:List (Option Int)):(r.map onV).all zF=true:=by
 rw [List.all_map,Mx];intro o _;cases o<;>rfl
theorem KA(n:Nat):((Ml n [V.non]).flatten).all zF=true:=by
 induction n with
 | zero=>rfl
 | succ n z=>rw [NQ,Np,Rc,z];rfl
section
variable {P:Ly}{w:LW}{K:Frag}{mg:Str->Option Value}{base:Heap}{A:zj}
structure DH(A:zj)(H:Hp)(p wl sl:Addr)(cells:List Addr)(m:Int)(d:DM)(md el:Addr)(mcs:List Addr)(ms:Mdl)(e0 e1:Option Nat):Prop where
 tj:zE A H p wl sl cells m d
 mo:bN H md mcs ms
 ends:H el=some (.lst [ov e0,ov e1])
 ap:∀x∈md::el::mcs,x∉p::wl::sl::cells
 nd:(md::el::mcs).Nodup
 tb:TB A H
structure DK(A:zj)(H:Hp)(p wl sl:Addr)(cells:List Addr)(m:Int)(d:DM)(md el:Addr)(mcs:List Addr)(ms:Mdl)(e0 e1:Option Nat):Prop where
 dh:DH A H p wl sl cells m d md el mcs ms e0 e1
 dp:∃n,DP d n e0 e1
 ln:gh d ms
 sz:3<=d.rows.length/\d.rows.length<=16/\2<=m/\m<=32
section
variable {H H':Hp}{p wl sl:Addr}{cells:List Addr}{m:Int}{d d':DM}{md el:Addr}{mcs:List Addr}{ms:Mdl}{e0 e1:Option Nat} (h:DH A H p wl sl cells m d md el mcs ms e0 e1)
include h
theorem DH.keep{F:List Addr}(k:zy F H H')(h1:∀x∈p::wl::sl::cells,x∉F)(h2:∀x∈md::el::mcs,x∉F)(tb:TB A H'):DH A H' p wl sl cells m d md el mcs ms e0 e1 :=
 {h.tj.keep k h1,h.mo.keep λx hx o e _=>k x o e (h2 x (by simp only [Lu] at hx ⊢;exact hx.elim .inl λz=>.inr (.inr z))),k _ _ h.ends (h2 el 's'),h.ap,h.nd,tb}
theorem DH.pL(s:zN H H')(tb:TB A H'):DH A H' p wl sl cells m d md el mcs ms e0 e1 :=
 {h.tj.pL s,h.mo.keep λx _ o e n=>s x o n e,s _ _ hU.1 h.ends,h.ap,h.nd,tb}
theorem DH.same(s:ze H H'):DH A H' p wl sl cells m d md el mcs ms e0 e1:=h.pL (.of s) (h.tb.same s)
theorem DH.T9(k:zy (p::wl::sl::cells) H H')(D:zE A H' p wl sl cells m d'):DH A H' p wl sl cells m d' md el mcs ms e0 e1 :=
 {D,h.mo.keep λx hx o e _=>k x o e (h.ap x (by simp only [Lu] at hx ⊢;exact hx.elim .inl λz=>.inr (.inr z))),k _ _ h.ends (h.ap el 's'),h.ap,h.nd,h.tb.tj h.tj k}
theorem DH.TH{x:Addr}(hx:x∈md::el::mcs):∃xs,H x=some (.lst xs):=by
 simp only [Lu] at hx;rcases hx with rfl|rfl|hx
 .exact {_,h.mo.ls}
 .exact {_,h.ends}
 .obtain ⟨i,hi⟩:=MO hx;have hl:=h.mo.rows.length;have z:i<ms.length:=by have:=(Lp.mp hi).1;lia
  exact {_,aX h.mo.rows hi (KE z)}
theorem DH.dict{b:Addr}{kvs:List (Key×V)}(s:But b H H')(e:H b=some (.dK kvs)):DH A H' p wl sl cells m d md el mcs ms e0 e1:=by
 refine h.keep (F:=[b]) (λc o hc n=>s c o (λz=>n (Lw.mpr z)) hc) (λx hx z=>?_) (λx hx z=>?_) ?_
 .rw [Lw.mp z] at hx;rcases h.tj.kind hx with ⟨_,_,G⟩|⟨_,G⟩<;>(rw [e] at G;cases G)
 .rw [Lw.mp z] at hx;obtain ⟨_,G⟩:=h.TH hx;rw [e] at G;cases G
 .refine h.tb.keep (F:=[b]) (λc o hc n=>s c o (λz=>n (Lw.mpr z)) hc) λx hx o ho=>?_;rw [Lw.mp hx,e] at ho;cases ho;exact {λ_ z=>HO.noConfusion z,λ_ z=>HO.noConfusion z}
theorem DH.tbl{x:Addr}{xs:List V}{o:HO}(e:H x=some (.lst xs)):TB A (upd H x o):=h.tb.keep (F:=[x]) (zy.upd 's') λy G u z=>by
 rw [Lw.mp G,e] at z;cases z;exact hU
theorem DH.Uy{i0:Nat}{c:Addr}{r:List (Option Int)}(hc:mcs[i0]?=some c):DH A (upd H c (.lst (r.map onV))) p wl sl cells m d md el mcs (ms.set i0 r) e0 e1:=by
 have cm:=LF hc;obtain ⟨J,F⟩:=ML.mp h.nd;obtain ⟨n3,G⟩:=ML.mp F;obtain ⟨xs,e⟩:=h.TH (x:=c) (by simp [cm]);have k:zy [c] H (upd H c (.lst (r.map onV))):=zy.upd 's';refine {h.tj.keep k λx hx z=>h.ap c (by simp [cm]) (Lw.mp z ▸ hx),{k _ _ h.mo.ls λz=>J (by rw [Lw.mp z];simp [cm]),iR (by rw [MZ];exact h.mo.rows.length) λi a b ha hb=>?_},k _ _ h.ends λz=>n3 (by rw [Lw.mp z];exact cm),h.ap,h.nd,h.tbl e};by_cases hi:i0=i
 .subst hi;rw [hc] at ha;cases ha;have hl:=h.mo.rows.length;rw [Oc (by have:=(Lp.mp hc).1;lia)] at hb;cases hb;exact zx
 .rw [N5 hi] at hb;rw [zd (λz=>hi (by subst z;exact (P7 (Lp.mp hc).1 G).mp (hc.trans ha.symm)))];exact aX h.mo.rows ha hb
theorem DH.eset{f0 f1:Option Nat}:DH A (upd H el (.lst [ov f0,ov f1])) p wl sl cells m d md el mcs ms f0 f1:=by
 obtain ⟨G,F⟩:=ML.mp h.nd;obtain ⟨n3,J⟩:=ML.mp F;have k:zy [el] H (upd H el (.lst [ov f0,ov f1])):=zy.upd 's';refine {h.tj.keep k λx hx z=>h.ap el 's' (Lw.mp z ▸ hx),h.mo.keep λx hx o e _=>k x o e λz=>?_,zx,h.ap,h.nd,h.tbl h.ends};rw [Lw.mp z] at hx;rcases Lu.mp hx with z|z
 .exact G (z ▸ LN ..)
 .exact n3 z
end
theorem DK.same{p wl sl:Addr}(h:DK A H p wl sl cells m d md el mcs ms e0 e1)(s:ze H H'):DK A H' p wl sl cells m d md el mcs ms e0 e1:={h.dh.same s,h.dp,h.ln,h.sz}
structure ToI(H:Hp)(md:Addr)(js:List Nat)(i:Nat)(τ:L2.St)(ys:List V)(H':Hp):Prop where
 ex:∃t,τ=[t,some (V.ref md)]
 ys:∃l:List Nat,ys=l.map iv/\l.length<=i/\∀k∈l,k∈js
 same:ze H H'
 le:i<=js.length
inductive om(A:zj)(vs:List V)(H:Hp)(Q:VK)(E:XK):Prop
 | mk:∀(p wl sl:Addr)(cells:List Addr)(m:Int)(d:DM)(md el:Addr)(mcs:List Addr)(ms:Mdl)(e0 e1:Option Nat)(far:Int),(vs=[.ref p,.ref md,.ref el,.int far])->(DK A H p wl sl cells m d md el mcs ms e0 e1)->(d.left=none)->(d.st=false)->(∀p' wl' sl' Y1 d' H',DK A H' p' wl' sl' Y1 m d' md el mcs ms e0 e1->zy (p::wl::sl::cells) H H'->Q (.ref p') H')->om A vs H Q E
theorem qh:zq X2 Yb (zk jR):=fsc
theorem Kn:aY { kind:=.function,names:=[(Lo ".0",.local),(Lo "_law_k",.local),(Lo "_law_model",.free),(Lo "len",.globalImplicit)],isGenerator:=false,isCoroutine:=false,more:=[] } (zk jR).names X2 Xt [none,some 1]=true:=by decide +kernel
theorem CB:(Xt:List Str).Nodup:=by decide +kernel
theorem FF(F:Fun K "_law_torn" "_law_torn" jR f fd)(T:Txt w K mg A)(ZH:GF P w K mg base true 1 VU YG jG)(YZ:GM P w K mg base true 1 A.pD "stop" X3 (pW A))(Zb:GMX P w K mg base true 2 A.pD "empty" Zl (nh A))(Zn:GM P w K mg base false 5 A.pD V2 ZK (mZ A)):zp P w K mg base CX0 true 6 f fd Yb (om A):=by
 refine F.ok qh (λvs H Q E h=>?_) (λZY Ar outer s H vs Q E hr h=>?_)
 .obtain ⟨p,wl,sl,cells,m,d,md,el,mcs,ms,e0,e1,G,rfl,_⟩:=h;rfl
 .obtain ⟨p,wl,sl,cells,m,d,md,el,mcs,ms,e0,e1,G,rfl,Z,lf,st,q⟩:=h;have hu:_<cLine:=Mo (zY hr);refine {_,(W.h (zg (jf (i0:=4) qh.nd rfl (LK rfl) (λ_=>rfl) (ah.of Kn) (liD (cU (clE (caD (zA ZH hr rfl (clP (zb (za 1) (zb (za 2) zc)))))))) (λ_ _ _ _ _=>(zz (i:=0) CB rfl (LK rfl))) (λ_ _ _ _ _=>(hV (tD (zG (clO (oE (aW hu))) (clE (zQ zT (za 1) (za 0) (λ_ _=>rfl))) (clE (zl bT (aq (zb aE zc)) (zH af rfl T.qb LY (zb (zQ zT (za 1) (za 0) (λ_ _=>rfl)) zc)))) (zC _))))) (λ_ _ _ _ _=>(za 0)))
   (zg (zJ (cO (jD (tD (zG (clO (qV hu)) (clE (za 4)) (clE (aq zc)) (zC _))) (jO (tD (zG (clO (oE (aW hu))) (clE (zl (oI zX) (za 3) zi)) (clE zi) (zC _))))))
   (zh (zu (za 0)))
   zR)
   (zg (zw (i:=5) qh.nd rfl (LK rfl) (zQ zT (za 4) (zl (oI zX) (zl (oI dO) (za 3) zi) (zH af rfl T.qb LY (zb (za 4) zc))) (λ_ _=>rfl)))
   (zg (aC (mD (bI (clE (za 0)) T.mu YZ hr (clP (zb (zl (oI zX) (zl (oI dO) (za 3) zi) (zH af rfl T.qb LY (zb (zQ zT (za 1) (za 5) (λ_ _=>rfl)) zc))) zc)))))
   (zg (vY rfl rfl {rfl,rfl} T.RC rfl T.RP (λGo Ex=>(zh (aC (mXD (jk (clE (za 0)) T.mu uT Zb hr (clP (zb (za 5) zc))))))) (λGo ea=>by
   have hr:=hr.mark (v:=some (.ref ea));exact (zh (zJ (tD (zG (clO (oE (aW hu))) (clE (zl (oI zX) (za 3) zi)) (clE zi) (zC _)))
   (zh (zu (m0D (bB (clE (za 0)) T.mu Zn hr))))
   zR))))
   (zh (zu (za 0))))))))),?_}
  have aT:ms.length<=16:=by rw [Z.ln.len];exact Z.sz.2.1
  right;refine {md,el,mcs,ms,e0,e1,rfl,Z.dh.mo,aT,Z.dh.ends,λl1 H1 s1 _ WX=>?_};have Z1:=Z.same s1;have jl:=kI ms e0 e1 ms.length;generalize ai:smM ms e0 e1 ms.length=js at WX jl;right;refine {{_,SqL.of WX},zZ.lst (xs:=js.map iv) (ToI H1 md js) (λi τ ys H' I=>?_) (λi τ ys H' I=>SqL.of (I.same _ _ WX)) {{_,rfl},{[],rfl,Ll _,λ_ z=>(nomatch z)},ze.refl _,Mu _} ?_ ?_}
  .obtain ⟨l,e,hl,_⟩:=I.ys;rw [e,Ln];exact aJ (by have:=I.le;lia)
  .intro N i x τ ys H' hx I hN;obtain ⟨t1,rfl⟩:=I.ex;obtain ⟨l,e,hl,hm⟩:=I.ys;rw [LP] at hx;obtain ⟨k,U,rfl⟩:=Me.mp hx;have hi:i<js.length:=(Lp.mp U).1;have kj:=LF U;obtain ⟨k1,k2,_,_⟩:=i6 (by rw [ai];exact kj:k∈smM ms e0 e1 ms.length);have M2:=(Z1.same I.same).dh.mo;obtain ⟨c,hc,ec⟩:=M2.at k1;have ea:atI (mcs.map V.ref) (k:Int)=some (.ref c):=bz (by rw [LP,hc];rfl);have w32:(ms.getD k []).length<=32:=by rw [Z.ln.at_ k];obtain ⟨_,dp⟩:=Z.dp;exact dp.tx.wide k
   unfold iv;right;refine {_,.inl M2.ls,_,ea,'d',λp3 H3 n3 _=>{_,.inl (n3.same _ _ M2.ls),_,ea,?_}};rw [jW];refine {_,.inl (n3.same _ _ ec),?_};right;rw [Ln];refine {_,n3.at_,'l','l',cH (by clear ec;generalize ms.getD k []=r at w32 ⊢;simp;lia),λp4 H4 n4=>{_,n4.same _ _ (n3.same _ _ ec),_,n4.at_,Iy _,KA _,?_}};have sm:=(I.same.trans n3.same).trans n4.same;cases eqL ((ms.getD k []).map onV) (Ml ((ms.getD k []).length:Int).toNat [V.non]).flatten with
   | false =>
    right;exact hN _ _ _ {{_,rfl},{l,e,'l',hm},sm,hi}
   | true =>
    right;refine hN _ _ _ {{_,rfl},{l++[k],by rw [e,Mp];rfl,by simp;lia,λx hx=>?_},sm,hi};rcases L6.mp hx with hx|hx
    .exact hm x hx
    .rw [Lw.mp hx];exact kj
  .intro τ ys H' I D2 H2 m2;obtain ⟨l,e,hl,hm⟩:=I.ys;rw [e] at m2;have s2:ze H H2:=(s1.trans I.same).trans m2.same;right;refine {Mu _,λp3 H3 n3 _=>{_,n3.same _ _ m2.at_,_,n3.at_,.inr rfl,?_}};have s3:ze H H3:=s2.trans n3.same;have Z3:=Z.same s3;have stay:Q (.ref p) H3:=q p wl sl cells d H3 Z3 (zy.same s3);rw [Ln,NA];by_cases av:l.length=0
   .rw [if_pos (decide_eq_true av)];exact stay
   rw [if_neg (by rw [decide_eq_false av];exact Lz)];refine {'d',zS (λ_=>stay) λ_=>?_};obtain ⟨v,ev,hv⟩:=gy (xs:=l.map iv) (i:=G / 3 % (l.length:Int)) (Ph _ 'l') (by rw [Ln];exact Oj _ 'l');obtain ⟨k,a4,rfl⟩:=Ow.mp hv;obtain ⟨k1,k2,k3,k4⟩:=i6 (by rw [ai];exact hm k a4:k∈smM ms e0 e1 ms.length);have U:k<d.rows.length:=by rw [<- Z.ln.len];exact k1
   obtain ⟨c,hc,ec⟩:=Z3.dh.mo.at k1;have ea:atI (mcs.map V.ref) (k:Int)=some (.ref c):=bz (by rw [LP,hc];rfl);obtain ⟨Wq,a0⟩:=Z3.dh.tj.ob;have em:=n3.same _ _ m2.at_;refine {{'d','d'},_,.inl em,by rw [Ln];lia,_,.inl em,iv k,by rw [Ln];exact ev,Wq,_,a0,Be,{'d','d'},?_};unfold iv;rw [yz];refine {_,.inl Z3.dh.mo.ls,_,ea,?_};rw [jW];refine {_,.inl ec,?_};rw [t6,Ln,Z.ln.at_ k];have YM:(d.rows.getD k []).length≠0:=by rw [<- Z.ln.at_ k];exact k2
   obtain ⟨j,hj⟩:∃j:Nat,G / 5 % ((d.rows.getD k []).length:Int)=j:={(G / 5 % ((d.rows.getD k []).length:Int)).toNat,by have:=Ph (G / 5) (show ((d.rows.getD k []).length:Int)≠0 by lia);lia};have O:j<(d.rows.getD k []).length:=by have:=Oj (G / 5) (show 0<((d.rows.getD k []).length:Int) by lia);lia
   rw [hj];refine {'l',p,wl,sl,cells,m,d,j,rfl,Z3.dh.tj,λH4 D4 b4=>?_};obtain ⟨a8,a5⟩:=D4.ob;obtain ⟨nn,dp⟩:=Z.dp;refine {a8,_,a5,DE,p,wl,sl,cells,m,d.stop j,k,rfl,D4,U,λi=>L8 (dp.tx.wide i) 'd',(λl e=>by cases e;lia),λH5 D5 b5=>?_};rw [IY st O] at D5 ⊢;unfold Out;dsimp only;refine {_,rfl,T.RC,T.Ti,λea oe he _=>?_};have S:ze H5 (upd H5 ea (.frz oe (.own 0))):=λx o e=>by rw [zd (zr e he)];exact e
   generalize upd H5 ea (.frz oe (.own 0))=H6 at S ⊢;have aL:zy (p::wl::sl::cells) H3 H6:=((b4.mono 's').trans b5).trans (zy.same S);have D6:=D5.pL (.of S);have rl:(d.To k j).rows.length=d.rows.length:=MZ ..;have ln:∀lf sx,gh { d.To k j with left:=lf,st:=sx } ms:=λlf sx=>{by rw [Z.ln.len];exact rl.symm,λi=>by
    rw [Z.ln.at_ i];show _=((d.rows.set k _).getD i []).length;rw [aP U];split
    .rename_i z;rw [o6 O,z]
    .rfl}
   have J:DK A H6 p wl sl cells m { d.To k j with left:=some 0,st:=true } md el mcs ms e0 e1:={Z3.dh.T9 aL D6,{nn,dp.Ur U O k3 k4},ln _ _,by rw [show ({ d.To k j with left:=some 0,st:=true }:DM).rows.length=d.rows.length from rl];exact Z.sz};have ab:zy (p::wl::sl::cells) H H6:=(zy.same s3).trans aL;right;refine {'d',zS (λ_=>?_) λ_=>q p wl sl cells _ H6 J ab};obtain ⟨a9,a3⟩:=J.dh.tj.ob;refine {a9,_,a3,Hj,p,wl,sl,cells,m,_,rfl,J.dh.tj,J.sz.1,J.sz.2.1,J.sz.2.2.1,J.sz.2.2.2,λp' a7 a6 Y1 H7 D7 s7 f7=>?_};have h7:=J.dh.same s7;refine q p' a7 a6 Y1 _ H7 {{D7,h7.mo,h7.ends,λx hx z=>?_,h7.nd,h7.tb},{nn,dp.Ur U O k3 k4},ln _ _,J.sz} (ab.trans (zy.same s7));obtain ⟨xs,e⟩:=J.dh.TH hx;rw [f7 x z] at e;cases e
end
abbrev jN:Stmt:=top 65
structure NL(H H':Hp):Prop where
 dic:∀c kvs,H c=some (.dK kvs)->H' c=some (.dK kvs)
 tup:∀c xs,H c=some (.tup xs)->H' c=some (.tup xs)
theorem NL.of(s:ze H H'):NL H H':={λc _ e=>s c _ e,λc _ e=>s c _ e}
theorem NL.upd{H:Hp}{x:Addr}{xs:List V}{o:HO}(e:H x=some (.lst xs)):NL H (upd H x o):={λc _ h=>by rw [zd (λz=>by rw [z,e] at h;cases h)];exact h,λc _ h=>by rw [zd (λz=>by rw [z,e] at h;cases h)];exact h}
theorem NL.tj{p wl sl:Addr}(D:zE A H p wl sl cells m d)(k:zy (p::wl::sl::cells) H H'):NL H H' :=
 {λc _ h=>k c _ h λz=>by rcases D.kind z with ⟨_,_,e⟩|⟨_,e⟩<;>(rw [h] at e;cases e),λc _ h=>k c _ h λz=>by rcases D.kind z with ⟨_,_,e⟩|⟨_,e⟩<;>(rw [h] at e;cases e)}
theorem zM.nl{fp b k:Addr}{t:Tab}(h:zM A H fp b k t [])(n:NL H H')(hf:∀o,H fp=some o->H' fp=some o):zM A H' fp b k t []:=by
 obtain ⟨dx,e⟩:=h.ob;obtain ⟨kk,F,d⟩:=h.kept;obtain ⟨kvs,G,J⟩:=h.qf.ex;cases d;exact {{dx,hf _ e},{{kvs,n.dic _ _ G,J.imp λv l ⟨p,z,O⟩=>{p,z,n.tup _ _ O}},h.qf.nd},{[],n.dic _ _ F,.nil},h.ndk,h.ne}
theorem zM.bd{p b k:Addr}{t:Tab}(h:zM A H p b k t ks):∃kvs,H b=some (.dK kvs):=let ⟨_,e,_⟩:=h.qf.ex;{_,e}
theorem zM.kd{p b k:Addr}{t:Tab}(h:zM A H p b k t ks):∃kvs,H k=some (.dK kvs):=let ⟨_,e,_⟩:=h.kept;{_,e}
theorem Fd{α:Type}{t:List (Str×α)}{n:Str}{a:α}:(bx t n a).length<=t.length+1:=by
 unfold bx;split<;>simp
theorem Bw{t:Tab}{n m:Str}:lk (bx t n l) m=if m=n then l else lk t m:=by
 unfold lk;rw [KW];split<;>rfl
theorem Dv{α β:Type}{R:α->β->Prop}{l:List α}{m:List β}(h:Paired R l m):Paired R l.reverse m.reverse:=by
 induction h with
 | nil=>exact .nil
 | cons r _ z=>rw [Q0,Q0];exact eE z (.cons r .nil)
def mt(b sp md el:Addr)(mcs:List Addr)(p wl sl:Addr)(cells:List Addr):List Addr:=b::sp::md::el::(mcs++p::wl::sl::cells)
structure BH(A:zj)(Ha H:Hp)(p wl sl:Addr)(cells:List Addr)(m:Int)(d:DM)(md el:Addr)(mcs:List Addr)(ms:Mdl)(e0 e1:Option Nat)(fp b k:Addr)(t:Tab)(sp:Addr)(as:List Addr)(ts:List T3):Prop where
 dh:DH A H p wl sl cells m d md el mcs ms e0 e1
 files:zM A H fp b k t []
 Td:H sp=some (.lst (as.map V.ref))
 T4:Paired (dQ H) as ts
 fd:fp∉p::wl::sl::cells
 sd:sp∉p::wl::sl::cells
 sm:sp∉md::el::mcs
 keep:zy (mt b sp md el mcs p wl sl cells) Ha H
section
variable {A:zj}{Ha H H':Hp}{p wl sl:Addr}{cells:List Addr}{m:Int}{d d':DM}{md el:Addr}{mcs:List Addr}{ms ms':Mdl}{e0 e1 f0 f1:Option Nat}{fp b k:Addr}{t t':Tab}{sp:Addr}{as:List Addr}{ts:List T3} (h:BH A Ha H p wl sl cells m d md el mcs ms e0 e1 fp b k t sp as ts)
include h
theorem BH.go(dh:DH A H' p wl sl cells m d' md el mcs ms' f0 f1)(n:NL H H')(hf:∀o,H fp=some o->H' fp=some o)(hs:∀o,H sp=some o->H' sp=some o)(kp:zy (mt b sp md el mcs p wl sl cells) H H'):BH A Ha H' p wl sl cells m d' md el mcs ms' f0 f1 fp b k t sp as ts :=
 {dh,h.files.nl n hf,hs _ h.Td,Paired.z9 h.T4 λ_ _ e=>n.tup _ _ e,h.fd,h.sd,h.sm,h.keep.trans kp}
theorem BH.same(s:ze H H'):BH A Ha H' p wl sl cells m d md el mcs ms e0 e1 fp b k t sp as ts:=h.go (h.dh.same s) (.of s) (λ_ e=>s _ _ e) (λ_ e=>s _ _ e) (zy.same s)
theorem BH.at(z:Hp)(kp:zy (mt b sp md el mcs p wl sl cells) z H):BH A z H p wl sl cells m d md el mcs ms e0 e1 fp b k t sp as ts:=⟨h.dh,h.files,h.Td,h.T4,h.fd,h.sd,h.sm,kp⟩
theorem BH.live{x:Addr}(hx:x∈mt b sp md el mcs p wl sl cells):∃o,H x=some o:=by
 unfold mt at hx;rcases Lu.mp hx with rfl|hx
 .obtain ⟨_,e⟩:=h.files.bd;exact {_,e}
 rcases Lu.mp hx with rfl|hx
 .exact {_,h.Td}
 rw [<- Qx,<- Qx] at hx;rcases L6.mp hx with hx|hx
 .obtain ⟨_,e⟩:=h.dh.TH hx;exact {_,e}
 .rcases h.dh.tj.kind hx with ⟨_,_,e⟩|⟨_,e⟩<;>exact {_,e}
theorem BH.new{x:Addr}(hx:H x=none):x∉mt b sp md el mcs p wl sl cells:=λz=>by
 obtain ⟨o,e⟩:=h.live z;rw [hx] at e;cases e
theorem BH.write(kp:zy (p::wl::sl::cells) H H')(D:zE A H' p wl sl cells m d'):BH A Ha H' p wl sl cells m d' md el mcs ms e0 e1 fp b k t sp as ts :=
 h.go (h.dh.T9 kp D) (.tj h.dh.tj kp) (λ_ e=>kp _ _ e h.fd) (λ_ e=>kp _ _ e h.sd) (kp.mono λx hx=>by unfold mt;simp only [Lu,L6] at hx ⊢;exact .inr (.inr (.inr (.inr (.inr hx)))))
theorem BH.list{x:Addr}{o:HO}(hx:x∈md::el::mcs)(dh:DH A (upd H x o) p wl sl cells m d' md el mcs ms' f0 f1):BH A Ha (upd H x o) p wl sl cells m d' md el mcs ms' f0 f1 fp b k t sp as ts:=by
 obtain ⟨xs,e⟩:=h.dh.TH hx;refine h.go dh (.upd e) (λu F=>?_) (λu F=>?_) (zy.upd ?_)
 .obtain ⟨dx,G⟩:=h.files.ob;rw [zd (λz=>by rw [z,e] at G;cases G)];exact F
 .rw [zd (λz=>h.sm (by rw [z];exact hx))];exact F
 .unfold mt;simp only [Lu,L6] at hx ⊢;exact hx.elim (λz=>.inr (.inr (.inl z))) λz=>z.elim (λz=>.inr (.inr (.inr (.inl z)))) λz=>.inr (.inr (.inr (.inr (.inl z))))
theorem BH.UK{a:Addr}{x:T3}(ha:dQ H a x):BH A Ha (upd H sp (.lst ((as++[a]).map V.ref))) p wl sl cells m d md el mcs ms e0 e1 fp b k t sp (as++[a]) (ts++[x]):=by
 have kp:zy [sp] H (upd H sp (.lst ((as++[a]).map V.ref))):=zy.upd 's';have n:NL H (upd H sp (.lst ((as++[a]).map V.ref))):=.upd h.Td;refine {h.dh.keep kp (λy F z=>h.sd (Lw.mp z ▸ F)) (λy F z=>h.sm (Lw.mp z ▸ F)) (h.dh.tbl h.Td),h.files.nl n λu J=>?_,zx,eE (Paired.z9 h.T4 λ_ _ e=>n.tup _ _ e) (.cons (n.tup _ _ ha) .nil),h.fd,h.sd,h.sm,h.keep.trans (kp.mono (by simp [mt]))};obtain ⟨dx,G⟩:=h.files.ob;rw [zd (λz=>by rw [z,h.Td] at G;cases G)];exact J
theorem BH.put(s:But b H H')(F:zM A H' fp b k t' []):BH A Ha H' p wl sl cells m d md el mcs ms e0 e1 fp b k t' sp as ts:=by
 obtain ⟨kvs,e⟩:=h.files.bd;refine {h.dh.dict s e,F,s _ _ (λz=>by have:=h.Td;rw [z,e] at this;cases this) h.Td,Paired.z9 h.T4 λc x hc=>s _ _ (λz=>?_) hc,h.fd,h.sd,h.sm,h.keep.trans λc o hc n=>s c o (λz=>n (by rw [z];simp [mt])) hc};have hc:H c=some (.tup _):=hc;rw [z,e] at hc;cases hc
end
structure BP(m:Int)(d:DM)(ms:Mdl)(e0 e1:Option Nat)(n:Int)(t:Tab)(ts:List T3)(c:Nat):Prop where
 dp:DP d n e0 e1
 lf:d.left=none
 st:d.st=false
 n0:0<=n
 nc:n<=c
 tl:t.length<=ts.length
 al:(lk t "a").length=ts.length
 few:ts.length<=200
 num:∀x∈ts,(0<=x.1/\x.1<n)\/(5000<=x.1/\x.1<5000+n)
 nd:(ts.map (·.1)).Nodup
 sm:∀k:Nat,alv ts k=som (ms.getD k [])
 wd:∀k:Nat,((ms.getD k []).length:Int)<=m
 ne:∀k,e0=some k->e1≠some k
theorem uu:∀{i:Nat}{t:Tri},t∈wU rows i->0<(rows.getD t.2.1 []).length
 | 0,t,h=>by cases h
 | i+1,t,h=>by
  rcases L6.mp h with h|h
  .exact uu h
  .rw [lG h];refine ON λz=>?_;rw [z] at h;cases h
theorem jm{k:Nat}(h:bW (nU d) hot (some k)):0<(d.rows.getD k []).length:=by
 obtain ⟨t,z,_,rfl,_⟩:=h;exact uu z
theorem DS{e0 e1:Option Nat}{c:Int}{kk:Nat}(ne:∀k,e0=some k->e1≠some k)(en:(c=0->e1≠some kk)/\(c≠0->e0≠some kk)):(∀k,(if decide (c=0)=true then some kk else e0)=some k->(if decide (c=0)=true then e1 else some kk)≠some k)/\(c=0->(if decide (c=0)=true then e1 else some kk)≠some kk)/\(c≠0->(if decide (c=0)=true then some kk else e0)≠some kk):=by
 by_cases hc:c=0
 .rw [decide_eq_true hc,if_pos rfl,if_pos rfl];exact {λk e=>by cases e;exact en.1 hc,en.1,λz=>absurd hc z}
 .rw [decide_eq_false hc,if_neg 'd',if_neg 'd'];exact {λk e z=>en.2 hc (by rw [e,<- z]),λz=>absurd z hc,en.2}
theorem nX{ms:Mdl}(h:∀k:Nat,((ms.getD k []).length:Int)<=m)(z:kk<ms.length)(F:((ms.getD kk []).length:Int)<m):∀k:Nat,(((ms.set kk (ms.getD kk []++[y])).getD k []).length:Int)<=m:=λk=>by
 rw [aP z];split
 .rw [LC];show (((ms.getD kk []).length+1:Nat):Int)<=m;lia
 .exact h k
theorem wJ{ms:Mdl}(h:∀k:Nat,alv ts k=som (ms.getD k []))(z:kk<ms.length):∀k:Nat,alv ts k=som ((ms.set kk (ms.getD kk []++[none])).getD k []):=λk=>by
 rw [aP z];split
 .rename_i e;rw [e,qL];exact h kk
 .exact h k
theorem Bc{ms:Mdl}{n j:Int}(h:∀k:Nat,alv ts k=som (ms.getD k []))(F:kk<ms.length):∀k:Nat,alv (ts++[(n,(kk:Int),j)]) k=som ((ms.set kk (ms.getD kk []++[some n])).getD k []):=λk=>by
 rw [aP F,CU];by_cases e:k=kk
 .rw [if_pos e,if_pos (by rw [e]),jH,e,h kk]
 .rw [if_neg e,if_neg (λz=>e (by have z:(kk:Int)=k:=z;lia)),h k]
theorem Bm{A:zj}{H:Hp}{x p dx dp f d wl sl:Addr}{n m G:Int}(h:H x=some (.ins A.State dx (gp f d n m)))(h':H p=some (.ins A.pD dp (zD G wl sl F))):x≠p:=λz=>by
 rw [z,h'] at h;have h:=Mm.inj h;simp only [HO.ins.injEq,zD,gp,List.cons.injEq,Prod.mk.injEq] at h;exact absurd h.2.2.1.1 (f!"")
theorem dj.tj{x p wl sl:Addr}{W:DM}(h:dj A H x ts)(D:zE A H p wl sl cells m W)(b:zy (p::wl::sl::cells) H H'):dj A H' x ts:=by
 obtain ⟨dx,f,d,n,S,kvs,e1,G,J⟩:=h.ex;obtain ⟨dp,ep⟩:=D.ob;have nl:=NL.tj D b;refine {{dx,f,d,n,S,kvs,b _ _ e1 λz=>?_,nl.dic _ _ G,Paired.z9 J λp t r=>r.keep λr xs e=>nl.tup _ _ e},h.ok};rcases Lu.mp z with F|F
 .exact Bm e1 ep F
 .rcases D.kind z with ⟨U,fs,q⟩|⟨xs,q⟩
  .obtain ⟨xs,O⟩:∃xs,H x=some (.lst xs):=by
    rcases Lu.mp F with rfl|F
    .exact {_,D.rows.w}
    .rcases Lu.mp F with rfl|F
     .exact {_,D.Pv}
     .obtain ⟨i,hi⟩:=MO F;exact {_,D.rows.at_ i x hi}
   rw [O] at e1;cases e1
  .rw [q] at e1;cases e1
section
variable {P:Ly}{w:LW}{K:Frag}{mg:Str->Option Value}{base:Heap}{A:zj}
structure OuI(A:zj)(Ha:Hp)(a lo:Addr)(N:Nat)(m:Int)(os:List Nat)(p wl sl:Addr)(cells:List Addr)(md el:Addr)(mcs:List Addr)(fp b k sp:Addr)(i:Nat)(σ:L2.St)(H:Hp):Prop where
 ex:∃(d:DM)(ms:Mdl)(e0 e1:Option Nat)(t:Tab)(as:List Addr)(ts:List T3)(n:Int)(x10 x11 x12 x13 x14 x15 x16 x17 x18 x19 x20:Option V),σ=[some (V.ref a),some (.int N),some (.int m),some (.ref lo),some (.ref p),some (.ref md),some (.ref fp),some (.ref sp),some (.int n),some (.ref el),x10,x11,x12,x13,x14,x15,x16,x17,x18,x19,x20] /\
  BH A Ha H p wl sl cells m d md el mcs ms e0 e1 fp b k t sp as ts/\BP m d ms e0 e1 n t ts (32*i)/\gh d ms/\d.rows.length=N/\∀j k,i<=j->os[j]?=some k->(d.rows.getD k []).length=0
structure InI(A:zj)(Ha:Hp)(a lo:Addr)(N:Nat)(m:Int)(os:List Nat)(p wl sl:Addr)(cells:List Addr)(md el:Addr)(mcs:List Addr)(fp b k sp wy:Addr)(i kk:Nat)(c:Int)(j:Nat)(σ:L2.St)(H:Hp):Prop where
 ex:∃(d:DM)(ms:Mdl)(e0 e1:Option Nat)(t:Tab)(as:List Addr)(ts:List T3)(n:Int)(x14 x15 x16 x17 x18 x19 x20:Option V),σ=[some (V.ref a),some (.int N),some (.int m),some (.ref lo),some (.ref p),some (.ref md),some (.ref fp),some (.ref sp),some (.int n),some (.ref el),some (.int i),some (.int kk),some (.ref wy),some (.int c),x14,x15,x16,x17,x18,x19,x20] /\
  BH A Ha H p wl sl cells m d md el mcs ms e0 e1 fp b k t sp as ts/\BP m d ms e0 e1 n t ts (32*i+j)/\gh d ms/\d.rows.length=N/\(d.rows.getD kk []).length=j/\(∀j k,i+1<=j->os[j]?=some k->(d.rows.getD k []).length=0)/\(c=0->e1≠some kk)/\(c≠0->e0≠some kk)
inductive qr(K:Frag)(A:zj)(vs:List V)(H:Hp)(Q:VK)(E:XK):Prop
 | mk:∀(a:Addr)(ns:List Int),(vs=[.ref a])->(SqL K H a (ns.map V.int))->(TB A H)->(∀r p wl sl cells m d md el mcs ms e0 e1 x H',ze H H'->H' r=some (.tup [.ref p,.ref x,.ref md,.ref el,.int m])->DK A H' p wl sl cells m d md el mcs ms e0 e1->H md=none->(∀ts,dj A H' x ts->(∀k:Nat,alv ts k=som (ms.getD k []))->(∀k:Nat,((ms.getD k []).length:Int)<=m)->(∀k,e0=some k->e1≠some k)->Q (.ref r) H'))->qr K A vs H Q E
theorem aH:zq ZQ YA (zk jN):=fsc
theorem Al:aY { kind:=.function,names:=[(Lo ".0",.local),(Lo "_law_k",.local)],isGenerator:=false,isCoroutine:=false,more:=[] } (zk jN).names ZQ ["_law_k"] [none]=true:=by decide +kernel
theorem JA:(["_law_k"]:List Str).Nodup:=by decide +kernel
theorem Ei(F:Fun K "_law_disk" "_law_disk" jN f fd)(T:Txt w K mg A)(Zm:GF P w K mg base true 3 VR YA (qZ K))(Yt:GC P w K mg base true 3 "Disk" A.pD Y7 (kM A))(YL:GC P w K mg base true 1 "Files" A.sM ZK (kY A))(ZT:GF P w K mg base true 1 "_law_at" Zt (kJ K))(ZX:GF P w K mg base true 2 V4 ZE (gB K))(Zx:GMX P w K mg base true 3 A.pD "write" WW (qF A))(Zo:GF P w K mg base true 3 "_law_text" Zt (pB K))(YY:GF P w K mg base true 1 "_law_idle" XI qI)(YC:GF P w K mg base true 3 "row_text" ["row"] pP)(YX:GM P w K mg base true 4 A.sM V8 Xk (qH A))(Za:GM P w K mg base true 5 A.sM Wb Wh (rO A))(YW:GM P w K mg base true 4 A.sM V7 Xo (rn A))(XO:GC P w K mg base true 5 "State" A.State ZA (mX A))(YV:GF P w K mg base true 6 "_law_torn" Yb (om A)):zp P w K mg base CX0 true 7 f fd YA (qr K A):=by
 refine F.ok aH (λvs H Q E h=>?_) (λZY Ar outer s H vs Q E hr h=>?_)
 .obtain ⟨a,ns,rfl,_⟩:=h;rfl
 .obtain ⟨a,ns,rfl,hS,tb,q⟩:=h;have hu:_<cLine:=Mo (zY hr);refine {_,(W.h (zg (cQ (caD (zA Zm hr rfl (clP (zb (za 0) zc)))) (fI (n:=3) (gsD (zU (zz (i:=1) aH.nd rfl (LK rfl)) (gsD (zU (zz (i:=2) aH.nd rfl (LK rfl)) (gsD (zU (zz (i:=3) aH.nd rfl (LK rfl)) cV))))))))
   (zg (zw (i:=4) aH.nd rfl (LK rfl) (oO Yt hr rfl (zb (za 1) (zb (za 2) zc))))
   (zg (jf (i0:=5) aH.nd rfl (LK rfl) (λ_=>rfl) (ah.of Al) (cK rfl T.ro (zb (za 1) zc)) (λ_ _ _ _ _=>(zz (i:=0) JA rfl (LK rfl))) (λ_ _ _ _ _=>cB) (λ_ _ _ _ _=>(aq zc)))
   (zg (zw (i:=6) aH.nd rfl (LK rfl) (xQ YL hr rfl))
   (zg (zw (i:=7) aH.nd rfl (LK rfl) (aq zc))
   (zg (zw (i:=8) aH.nd rfl (LK rfl) zi)
   (zg (zw (i:=9) aH.nd rfl (LK rfl) (aq (zb aE (zb aE zc))))
   (zg (bX NH.never (λ_=>rfl) (Kg rfl T.RJ (zb (dH eY (za 3) dC (dG (zl (oI0 eR) (za 1) (zl (oI zX) (caD (zA ZT hr rfl (clP (zb (za 0) (zb zi zc))))) zi)))) zc)) (fI (n:=2) (gsD (zU (zz (i:=10) aH.nd rfl (LK rfl)) (gsD (zU (zz (i:=11) aH.nd rfl (LK rfl)) cV)))))
   (zg (zw (i:=12) aH.nd rfl (LK rfl) (caD (zA ZX hr rfl (clP (zb (za 0) (zb (zl zP zi (za 10)) (zb (zl zP (zl bT zi (za 2)) zi) (zb zi zc))))))))
   (zg (zw (i:=13) aH.nd rfl (LK rfl) (zl (oI dO) (zl (oI zX) (zQ zT (za 12) zi (λ_ _=>rfl)) zi) zi))
   (zh (bX NH.never (λ_=>rfl) (cK rfl T.ro (zb (zl zP zi (zQ zT (aq (zb (zl (oI zX) (zQ zT (za 12) zi (λ_ _=>rfl)) (za 2)) (zb (zl (oI0 eR) (za 2) zi) zc))) (zl (oI zX) (zl (oI dO) (zQ zT (za 12) zi (λ_ _=>rfl)) zi) zi) (λ_ _=>rfl))) zc)) (zz (i:=14) aH.nd rfl (LK rfl))
   (zg (cQ (dH eY (dH eY (za 12) (dG (zl zP zi (zl bT zi (za 14)))) dC) dC (dG zi)) (xp rfl (n:=2) (gsD (zU (zz (i:=15) aH.nd rfl (LK rfl)) (gsD (zU (zz (i:=16) aH.nd rfl (LK rfl)) cV))))))
   (zg (aC (d6 (zQ zT (za 5) (za 11) (λ_ _=>rfl)) aE))
   (zh (zJ (tD (zG (clO (oE (aW hu))) (clE (zl (oI zX) (za 15) zi)) (clE zi) (zC _)))
   (zh (aC (mXD (jk (clE (za 4)) T.mu uj Zx hr (clP (zb (za 11) (zb zO zc)))))))
   (zg (zw (i:=17) aH.nd rfl (LK rfl) (zl zP (za 8) (zl bT (za 13) zi)))
   (zg (fQ (zw (i:=18) aH.nd rfl (LK rfl) (anD (jF (clE (dZ (oI0 qR) (zl (oI zX) (za 16) zi) (zl (oI zX) (za 15) zi) (zC _))) (hG (dZ (oI0 gZ) (zH af rfl T.qb LY (zb (za 7) zc)) zi (zC _)))))))
   (zg (zw (i:=19) aH.nd rfl (LK rfl) (aU (zb zO (zb (za 8) (zb (za 8) (zb fh (zb zO (zb (zH af rfl T.qb LY (zb (za 7) zc)) (zb (caD (zA Zo hr rfl (clP (zb (za 0) (zb (za 14) zc))))) zc)))))))))
   (zg (fQ (zJ (tD (zG (clO (oE (aW hu))) (clE (za 13)) (clE zi) (zC _)))
   (zh (zw (i:=19) aH.nd rfl (LK rfl) (aU (zb zO (zb (za 8) (zb (za 17) (zb (caD (zA Zo hr rfl (clP (zb (za 0) (zb (za 14) zc))))) zc)))))))
   (zh (zJ (cO (eS (eL (bH (za 18))) (eQ (tD (zG (clO (oE (aW hu))) (clE (zl (oI zX) (za 15) zi)) (clE zi) (zC _))))))
   (zh (zw (i:=19) aH.nd rfl (LK rfl) (caD (zA YY hr rfl (clP (zb (za 8) (zb (za 16) zc)))))))
   zR))))
   (zg (aC (mXD (jk (clE (za 4)) T.mu uj Zx hr (clP (zb (za 11) (zb (caD (zA YC hr rfl (clP (zb (za 19) zc)))) zc))))))
   (zg (cQ (za 11) (fA (za 9) (za 13) il))
   (zg (zJ (bH (za 18))
   (zg (aC (mD (bI (clE (za 6)) T.mC YX hr (clP (zb zO (zb (zH af rfl T.qb LY (zb (za 7) zc)) (zb (za 17) zc)))))))
   (zg (aC (d6 (za 7) (aU (zb (za 17) (zb (za 11) (zb (za 14) zc))))))
   (zh (cQ (za 17) (fA (zQ zT (za 5) (za 11) (λ_ _=>rfl)) (xZ pH zi) il)))))
   zR)
   (zh (zw (i:=8) aH.nd rfl (LK rfl) (zl zP (za 8) zi)))))))))))))))))))
   (zg (fQ (zJ (tD (zG (clO (oE (aW hu))) (clE (zl (oI zX) (zH af rfl T.qb LY (zb (za 7) zc)) zi)) (clE zi) (zC _)))
   (zg (aC (mD (bI (clE (za 6)) T.mC Za hr (clP (zb zO zc)))))
   (zh (aC (mD (bI (clE (za 6)) T.mC YW hr (clP (zb zO (zb (zl (oI zX) (zl (oI dO) (caD (zA ZT hr rfl (clP (zb (za 0) (zb zi zc))))) zi) (zl zP (zH af rfl T.qb LY (zb (za 7) zc)) zi)) zc))))))))
   zR))
   (zg (zw (i:=20) aH.nd rfl (LK rfl) (oO XO hr rfl (zb (za 6) (zb (xC (za 7)) (zb (zl zP (za 8) zi) (zb (zl (oI zX) (caD (zA ZT hr rfl (clP (zb (za 0) (zb zi zc))))) zi) zc))))))
   (zh (zu (aU (zb (caD (zA YV hr rfl (clP (zb (za 4) (zb (za 5) (zb (za 9) (zb (zl (oI dO) (caD (zA ZT hr rfl (clP (zb (za 0) (zb zi zc))))) zi) zc))))))) (zb (za 20) (zb (za 5) (zb (za 9) (zb (za 2) zc))))))))))))))))))),?_}
  generalize hR:qw _ _ _=R;right;refine {a,ns,rfl,hS,λr0 lo N m os H1 s1 _ hs X4 O=>?_};refine {r0,_,rfl,SqT.of hs,rfl,?_};right;refine λp dx H2 n2=>{p,dx,N,m,rfl,n2.at_,by have:=O.n3;lia,by have:=O.n16;lia,O.w2,O.w32,λwl sl cells H3 D3 fF f3=>{rfl,?_}};have s3:ze H1 H3:=λc o e=>fF c o (n2.same c o e) (zr e n2.no);have f3:∀x∈p::wl::sl::cells,H1 x=none:=λx hx=>(Lu.mp hx).elim (λz=>by rw [z];exact n2.no) λz=>n2.same.free (f3 x z);rw [Nb] at D3;right;refine {by have:=O.n3;lia,by have:=O.n16;lia,zZ.rng (tq H3) (λi τ ys H' I=>?_) {{_,rfl},{[],rfl,rfl,'s',QL},ze.refl _,'d'} ?_ ?_}
  .obtain ⟨cs,e,l,_⟩:=I.ex;rw [e,Ln,l];exact i8 (L8 I.le 'd')
  .intro N' i τ ys H' hi I hN;obtain ⟨t,rfl⟩:=I.τ;obtain ⟨cs,e,l,hc,WY⟩:=I.ex;right;refine {'d',λc H4 n4 _=>hN _ _ _ {{_,rfl},{cs++[c],by rw [e,Mp];rfl,by simp [l],λb hb=>?_,?_},I.same.trans n4.same,by have:=O.n16;lia}}
   .rcases L6.mp hb with hb|hb
    .exact {n4.same _ _ (hc b hb).1,(hc b hb).2}
    .rw [Lw] at hb;subst hb;exact {n4.at_,I.same.free n4.no}
   .refine Oa.mpr {WY,'s',λa ha b hb=>?_};rw [Lw] at hb;subst hb;exact zr (hc a ha).1 n4.no
  .intro τ ys H4 I md H5 n5;obtain ⟨mcs,e,l,hc,WY⟩:=I.ex;rw [e] at n5;rw [Nb] at l;right;refine λfp a4 H6 n6=>{fp,a4,rfl,n6.at_,λb k H7 b7 nb nk eb ek f7 ex=>{rfl,?_}};right;refine {Mu _,λsp H8 n8 _=>{'d',λel H9 n9 _=>?_}};have Xg:ze H3 H5:=I.same.trans n5.same;have b1:ze H5 H7:=λc o e=>b7 c o (zr e n6.no) (n6.same _ _ e);have c5:ze H7 H9:=n8.same.trans n9.same;have b9:ze H1 H9:=(s3.trans Xg).trans (b1.trans c5);subst hR;right;refine {a,ns,1,rfl,(s1.trans b9).seq hS,'d',?_};right;refine {'d',_,b9 _ _ X4,λfm H10 bq=>?_};have ee:=O.n16;have l3:=O.n3;have hK:os.length=N:=by rw [O.pm.length_eq,OX]
   obtain ⟨u,fL,hO⟩:∃u:Nat,(N:Int)-atD ns 1 % 3=u/\u<=N:={((N:Int)-atD ns 1 % 3).toNat,'l','l'};rw [fL,kR 'l' (by rw [Ln];lia),Nb,<- map_take] at bq;have s9:ze H9 H10:=bq.same;have eu:H3 md=none:=I.same.free n5.no;have al:∀{x},x∈p::wl::sl::cells->∃o,H3 x=some o:=λ{x} hx=>by rcases D3.kind hx with ⟨_,_,e⟩|⟨_,e⟩<;>exact {_,e}
   have no:∀{x},H3 x=none->x∉p::wl::sl::cells:=λ{x} hx z=>by obtain ⟨o,e⟩:=al z;rw [hx] at e;cases e
   have XG:H5 sp=none:=b1.free n8.no;have e7:H7 el=none:=n8.same.free n9.no;have X1:∀c∈mcs,H5 c=some (.lst []):=λc Yj=>n5.same _ _ (hc c Yj).1;have M5:bN H5 md mcs (Ml N []):={n5.at_,iR (by rw [M6];exact l) λi c r hi hr=>by
    rw [Na] at hr;split at hr
    .cases hr;exact X1 c (LF hi)
    .cases hr}
   have s5:ze H5 H9:=b1.trans c5;have c2:∀{x},H5 x=none->x∉md::mcs:=λ{x} hx z=>by
    rcases Lu.mp z with rfl|z
    .rw [n5.at_] at hx;cases hx
    .rw [X1 x z] at hx;cases hx
   have a6:=b1.free e7;have D:DH A H9 p wl sl cells m (DM.new N) md el mcs (Ml N []) none none:=by
    refine {D3.pL (.of (Xg.trans s5)),M5.same s5,n9.at_,λx hx=>?_,?_,(tb.same s1).same b9}
    .refine no ?_;simp only [Lu] at hx;rcases hx with rfl|rfl|hx
     .exact eu
     .exact Xg.free a6
     .exact (hc x hx).2
    .refine ML.mpr {λz=>?_,ML.mpr {λz=>c2 a6 (LA _ z),WY}};rcases Lu.mp z with z|z
     .rw [<- z,n5.at_] at a6;cases a6
     .have:=n5.no;rw [(hc md z).1] at this;cases this
   have F7:zM A H7 fp b k [] []:={⟨a4,ex⟩,{{[],eb,.nil},by simp [names]},{[],ek,.nil},by simp [names],f7};have B9:BH A H9 H9 p wl sl cells m (DM.new N) md el mcs (Ml N []) none none fp b k [] sp [] []:=by
    refine {D,F7.same c5,n9.same _ _ n8.at_,.nil,no (Xg.free n6.no),no (Xg.free XG),λz=>?_,zy.refl};rcases Lu.mp z with z|z
    .exact c2 XG (z ▸ LN ..)
    .rcases Lu.mp z with z|z
     .have:=n9.no;rw [<- z,n8.at_] at this;cases this
     .exact c2 XG (LA _ z)
   have fr:∀x∈mt b sp md el mcs p wl sl cells,H x=none:=λx hx=>by
    refine s1.free ?_;unfold mt at hx;simp only [Lu,L6] at hx;rcases hx with rfl|rfl|rfl|rfl|hx|hx
    .exact s3.free (Xg.free (n6.same.free nb))
    .exact s3.free (Xg.free XG)
    .exact s3.free eu
    .exact s3.free (Xg.free a6)
    .exact s3.free (hc x hx).2
    .exact f3 x (by simpa only [Lu] using hx)
   have sS:∀{H'},zy (mt b sp md el mcs p wl sl cells) H10 H'->ze H H':=λ{H'} kp c o e=>kp c o (s9 _ _ (b9 _ _ (s1 _ _ e))) λz=>by rw [fr c z] at e;cases e
   have hE:fm∉mt b sp md el mcs p wl sl cells:=B9.new bq.no;have B:=(B9.same s9).at H10 zy.refl;have nr:∀k:Nat,(DM.new N).rows.getD k []=[]:=λk=>by
    unfold DM.new;rw [Lr,Na];split<;>rfl
   refine {{_,SqL.of bq.at_},aj.enum (xs:=(os.take u).map iv) (OuI A H10 a lo N m os p wl sl cells md el mcs fp b k sp) {{DM.new N,_,none,none,[],[],[],0,_,_,_,_,_,_,_,_,_,_,_,rfl,B,{.new ee 0,rfl,rfl,'d','d','d',by simp [lk,look],'d',(λ_ z=>nomatch z),QL,λk=>by rw [Lr,Na];split<;>rfl,λk=>by rw [Lr,Na];have:=O.w2;split<;>(show ((0:Nat):Int)<=m;lia),(λ_ z=>nomatch z)},?_,?_,?_}} (λi σ H' _ I=>?_) ?_ ?_}
   .exact {by show (Ml N []).length=(Ml N []).length;rw [M6,M6],λi=>by rw [nr i,Lr,Na];split<;>rfl}
   .exact M6
   .exact λj k _ _=>by rw [nr k];rfl
   .obtain ⟨_,_,_,_,_,_,_,_,_,_,_,_,_,_,_,_,_,_,_,_,B',_⟩:=I.ex;exact SqL.of (B'.keep _ _ bq.at_ hE)
   .rintro i x pt σ H11 hx ⟨⟨d,ms,e0,e1,t,as,ts,n,dt,ej,dk,ed,bL,b0,b3,cc,b2,a5,a0,rfl,B1,G,ln,dl,XN⟩⟩ c9;rw [LP] at hx;obtain ⟨kk,a8,rfl⟩:=Me.mp hx;refine {pt,_,rfl,SqT.of zx,rfl,?_};have nw:New H11 pt (.tup [.int i,iv kk]) (upd H11 pt (.tup [.int i,iv kk])):=.mk' c9;generalize upd H11 pt (.tup [.int i,iv kk])=H12 at nw ⊢;have B2:=B1.same nw.same;have hi:i<u:=by have:=(Lp.mp a8).1;rw [ME] at this;lia
    have hok:os[i]?=some kk:=by rw [List.getElem?_take] at a8;split at a8<;>first|exact a8|cases a8
    have h5:kk<N:=by have:=O.pm.mem_iff.mp (LF hok);rw [P9] at this;exact this
    unfold iv;right;have m2:=O.w2;have Wp:=O.w32;refine {.inl {'d','d'},a,ns,_,_,60,rfl,(sS B2.keep).seq hS,'l','l','l','d','d',λwy ds H13 Xv wn ew f6 db=>?_};have B3:=B2.same Xv;have hF:wy∉mt b sp md el mcs p wl sl cells:=B2.new wn;have dn:(ds.map V.int).length=(2*m+2).toNat:=by rw [Ln];exact f6
    have ix:∀i:Int,0<=i->i<2*m+2->∃v:Int,atI (ds.map V.int) i=some (.int v)/\0<=v/\v<60:=λi h0 h1=>by
     obtain ⟨v,e,hv⟩:=gy (xs:=ds.map V.int) (i:=i) h0 'l';obtain ⟨y,hy,rfl⟩:=Ow.mp hv;exact {y,e,db y hy}
    obtain ⟨v0,hD,ia,h4⟩:=ix 0 'd' 'l';obtain ⟨v1,ez,hL,hP⟩:=ix 1 'd' 'l';right;refine {_,.inl ew,_,hD,?_};right;refine {'d',{'d','d'},_,.inl ew,_,ez,?_};right;refine {'l','d',λhM c6 Xs _=>{_,.inl (Xs.same _ _ ew),_,ez,?_}};right;obtain ⟨v2,g8,eg⟩:=gy (xs:=[V.int (v1 % m),.int (m-1)]) (i:=v1 / 20 % 2) 'l' (by show v1 / 20 % 2<((2:Nat):Int);lia);obtain ⟨cn,rfl,c0,c1⟩:∃cn:Nat,v2 = .int cn/\(cn:Int)<m/\cn<32:=by
     have g1:=Ph v1 (show m≠0 by lia);have g2:=Oj v1 (show 0<m by lia);simp only [Lu,LS,or_false] at eg;rcases eg with rfl|rfl
     .exact {(v1 % m).toNat,by rw [O1 g1],'l','l'}
     .exact {(m-1).toNat,by rw [O1 'l'],'l','l'}
    refine {{'d','d'},'d',_,.inl Xs.at_,_,g8,?_};right;refine {'l','l',?_};rw [show (1+(cn:Int)).toNat=cn+1 by lia];have B4:=B3.same Xs.same;have fb:=Xs.same _ _ ew;have gb:∀j k,i+1<=j->os[j]?=some k->k≠kk:=λj k hj hk z=>by
     subst z;have:=(P7 (Lp.mp hok).1 (O.pm.nodup_iff.mpr List.nodup_range)).mp (hok.trans hk.symm);lia
    have kc:v0 % 3 / 2=0\/v0 % 3 / 2=1:=by lia
    generalize v0 % 3 / 2=cold at kc;refine aj.rng (InI A c6 a lo N m os p wl sl cells md el mcs fp b k sp wy i kk cold) {{d,ms,e0,e1,t,as,ts,n,_,_,_,_,_,_,_,rfl,B4.at c6 zy.refl,G,ln,dl,XN i kk (Ll _) hok,λj k hj hk=>XN j k 'l' hk,λ_ z=>(by have c0:=G.dp.cold;rw [z] at c0;have:=jm c0;have:=XN i kk (Ll _) hok;lia),λ_ z=>(by have c0:=G.dp.hot;rw [z] at c0;have:=jm c0;have:=XN i kk (Ll _) hok;lia)}} ?_ ?_
    .rintro j σ H15 hj ⟨⟨d,ms,e0,e1,t,as,ts,n,bL,b0,b3,cc,b2,a5,a0,rfl,B5,G,ln,dl,rl,XN,en⟩⟩;right;have e4:=B5.keep _ _ fb hF;obtain ⟨w1,w2,ec⟩:∃w1 w2:Int,aR (aR (ds.map V.int) (some (2+2*(0+(j:Int)))) none) none (some 2)=[.int w1,.int w2]:=by
      rw [yN 'l' 'l',kR 'd' (by rw [Ni];lia),<- List.map_drop,<- map_take];have hl:2<=(ds.drop (2+2*(0+(j:Int))).toNat).length:=by rw [Ni];lia
      generalize ds.drop (2+2*(0+(j:Int))).toNat=l at hl
      match l,hl with
      | x::y::l,_=>exact {x,y,rfl}
     refine {.inl {'d','d'},_,e4,λee H16 n16=>{_,n16.at_,λhg c3 U=>?_}};rw [ec] at U;refine {hg,_,rfl,SqL.of U.at_,rfl,?_};have B6:=B5.same (n16.same.trans U.same);have a3:kk<d.rows.length:=by lia
     have J:kk<ms.length:=by rw [ln.len];exact a3
     obtain ⟨c,aL,Xq⟩:=B6.dh.mo.at J;have ac:atI (mcs.map V.ref) (kk:Int)=some (.ref c):=bz (by rw [LP,aL];rfl);have jz:(0+(j:Int))=j:=by lia
     have rm:(ms.getD kk []).length=j:=by rw [ln.at_ kk];exact rl
     erw [jz];refine {_,.inl B6.dh.mo.ls,_,ac,?_};right;refine {{_,Xq},_,Xq,by rw [Ln];exact aJ 'l','d',?_};have B7:=B6.list (LA _ (LA _ (LF aL))) (B6.dh.Uy (r:=ms.getD kk []++[none]) aL);rw [Mp,show OV onV [none]=[V.non] from rfl] at B7;generalize upd c3 c (.lst (OV onV (ms.getD kk [])++[V.non]))=b4 at B7 ⊢;obtain ⟨ff,gk⟩:=B7.dh.tj.ob;have d7:nG d:=λi=>L8 (G.dp.tx.wide i) 'd';have hw:((d.rows.getD kk []).length:Int)<m:=by lia
     have da:((ms.getD kk []).length:Int)<m:=by rw [ln.at_ kk];exact hw
     have gw:∀(z:Str)(c:Int)(y:Option Int),gh (d.wrote kk z c) (ms.set kk (ms.getD kk []++[y]))/\(d.wrote kk z c).rows.length=N/\((d.wrote kk z c).rows.getD kk []).length=j+1/\∀j' k',i+1<=j'->os[j']?=some k'->((d.wrote kk z c).rows.getD k' []).length=0:=λz c y=>by
      have gr:∀k',(d.wrote kk z c).rows.getD k' []=if k'=kk then d.rows.getD kk []++[some z] else d.rows.getD k' []:=λk'=>by
       show (d.rows.set kk _).getD k' []=_;exact aP a3
      refine {{by rw [MZ,ln.len];exact (MZ ..).symm,λi'=>?_},by rw [<- dl];exact MZ ..,by rw [gr,if_pos rfl,LC,rl];rfl,λj' k' W7 W1=>?_}
      .rw [gr,aP J];split
       .rw [LC,LC,ln.at_ kk];rfl
       .exact ln.at_ i'
      .rw [gr,if_neg (gb j' k' W7 W1)];exact XN j' k' W7 W1
     have dg:(d.rows.getD kk []).length<32:=by lia
     refine zS (λh7=>?_) λh7=>?_
     .refine {ff,_,gk,sh,p,wl,sl,cells,m,d,kk,_,rfl,B7.dh.tj,a3,f!"",d7,λe6 dV gd=>?_};rw [wC G.lf G.st hw] at dV ⊢;obtain ⟨g1,g2,g3,g4⟩:=gw "put 1 1 " (d.cnt+(("put 1 1 ":Str).length:Int)) none;exact {_,_,_,_,_,_,_,_,_,_,_,_,_,_,_,rfl,B7.write gd dV,{G.dp.text a3 dg {f!"",f!""} (f!""),G.lf,G.st,G.n0,by have:=G.nc;lia,G.tl,G.al,G.few,G.num,G.nd,wJ G.sm J,nX G.wd J da,G.ne},g1,g2,g3,g4,en}
     .refine {.inl {'l','l'},?_};rw [fV];have ab:=aN B7.T4;refine {λZ H'=>∃lv:Bool,Z=[some (V.ref a),some (.int N),some (.int m),some (.ref lo),some (.ref p),some (.ref md),some (.ref fp),some (.ref sp),some (.int n),some (.ref el),some (.int i),some (.int kk),some (.ref wy),some (.int cold),some (.int j),some (.int w1),some (.int w2),some (.int (n+cold*5000)),some (.bl lv),a5,a0]/\H'=b4/\(lv=true->ts.length<200),?_,?_}
      .right;refine {'d','d',zS (λ_=>{_,.inl B7.Td,?_}) λ_=>?_}
       .exact λz=>by have z:=of_decide_eq_true z;rw [Ln,ab] at z;lia
       .exact λz=>z.elim
      rintro Z b4 ⟨lv,rfl,rfl,ht⟩;right;refine {_,.inl B7.Td,a,ns,j,rfl,(sS (B4.keep.trans B7.keep)).seq hS,'l',λz e6 d3 wz=>{'d',λe2 H20 d5=>?_}};rw [fV];have n5:n<5000:=by have:=G.nc;lia
      have n0:=G.n0;have hn:bM n:={'l','l'};refine {λZ H'=>∃r xs,Z=[some (V.ref a),some (.int N),some (.int m),some (.ref lo),some (.ref p),some (.ref md),some (.ref fp),some (.ref sp),some (.int n),some (.ref el),some (.int i),some (.int kk),some (.ref wy),some (.int cold),some (.int j),some (.int w1),some (.int w2),some (.int (n+cold*5000)),some (.bl lv),some (.ref r),a0]/\ze b4 H'/\LR n (decide (cold=0)) xs/\H' r=some (.tup xs),?_,?_}
      .right;have ba:ze b4 H20:=d3.trans d5.same;refine zS (λhc=>?_) λhc=>?_
       .have hc:=of_decide_eq_true hc;refine {a,ns,j,rfl,(sS (B4.keep.trans (B7.same ba).keep)).seq hS,'l',λz2 dT a9 hH=>{'d',λib gC eF=>?_}};exact {ba.trans (a9.trans eF.same),_,{.carry n _ _ hn {'l','l'} hH,{_,_,rfl,by rw [hc];decide +kernel},'s'},eF.at_}
       .have hc:cold=0:=by have : ¬ cold=1:=λz=>hc (decide_eq_true z);lia
        have dc:decide (cold=0)=true:=decide_eq_true hc;have pt:∃xs,LR n (decide (cold=0)) xs/\H20 e2=some (.tup xs):=by
         rw [dc];exact {_,{.put n n true "a" _ z hn hn {'l',by rw [Ln,ab];have:=G.few;lia} (f!"") wz,{_,_,rfl,f!""},'s'},d5.at_}
        refine zS (λ_=>{'d',zS (λ_=>{n,w2,rfl,n0,'l',λr xs dT a9 lr e=>?_}) λ_=>⟨ba,pt⟩}) λ_=>⟨ba,pt⟩;exact {r,rfl,ba.trans a9,xs,by rw [dc];exact lr,e}
      rintro Z dT ⟨r,xs,rfl,a9,lr,er⟩;right;have B8:=B7.same a9;obtain ⟨WX,_,_,c9⟩:=lr.ok.parts;obtain ⟨hA,hq⟩:=B8.dh.tj.ob;refine {hA,_,hq,sh,r,xs,rfl,.inr er,WX,c9,λgC g7=>?_};have dm:=B8.same g7;refine {p,wl,sl,cells,m,d,kk,_,rfl,dm.dh.tj,a3,(yq lr.ok lr.len).2,d7,λfv eC f5=>?_};rw [wC G.lf G.st hw] at eC ⊢;have cP:=dm.write f5 eC;unfold Out;dsimp only;right;obtain ⟨hz,g0,ea⟩:∃ix,ixN [ov e0,ov e1].length cold=some ix/\[ov e0,ov e1].set ix (V.int kk)=[ov (if decide (cold=0)=true then some kk else e0),ov (if decide (cold=0)=true then e1 else some kk)]:=by
       rcases kc with rfl|rfl
       .exact {0,rfl,rfl}
       .exact {1,rfl,rfl}
      refine {_,cP.dh.ends,hz,g0,?_};rw [ea];have S:=cP.list (x:=el) 's' (cP.dh.eset (f0:=if decide (cold=0)=true then some kk else e0) (f1:=if decide (cold=0)=true then e1 else some kk));have bP:=G.dp.row (c:=d.cnt+((bC xs).length:Int)) a3 dg lr;obtain ⟨b8,b5⟩:=DS G.ne en;generalize (if decide (cold=0)=true then some kk else e0)=f0 at S bP b8 b5 ⊢;generalize (if decide (cold=0)=true then e1 else some kk)=f1 at S bP b8 b5 ⊢;generalize upd fv el (.lst [ov f0,ov f1])=hT at S ⊢;have cp:∀x∈ts,(0<=x.1/\x.1<n+1)\/(5000<=x.1/\x.1<5000+(n+1)):=λx hx=>by have:=G.num x hx;lia
      refine zS (λhv=>?_) λ_=>?_
      .have hI:=ht hv;obtain ⟨a4,ef⟩:=S.files.ob;refine {a4,_,ef,Jz,_,.inl S.Td,fp,b,k,t,[],"a",_,_,rfl,S.files,'l',?_,?_,?_,λhY hp d4=>?_}
       .rw [Ln,ab,G.al];exact MR _
       .rw [G.al];lia
       .have:=G.tl;lia
       rw [Ln,ab,Nb] at d4;have eV:=S.put hp d4;refine {{_,eV.Td},'d',λh6 h3 eh=>?_};have d1:=eV.same eh.same;refine {_,d1.Td,by rw [Ln,ab];exact aJ 'l',?_};have a7:=d1.UK (x:=(n+cold*5000,(kk:Int),(j:Int))) eh.at_;rw [Mp] at a7;refine {_,.inl a7.dh.mo.ls,_,ac,?_};have d2:kk<(ms.set kk (ms.getD kk []++[none])).length:=by rw [MZ];exact J
       obtain ⟨c',ct,cv⟩:=a7.dh.mo.at d2;rw [aL] at ct;cases ct;rw [aP J,if_pos rfl] at cv;rw [qx];refine {_,j,cv,by rw [Ln,LC,rm];show ixN (j+1) (-1)=some j;unfold ixN;rw [if_neg 'd',if_pos 'l'];congr 1;lia,?_};have eset:(OV onV (ms.getD kk []++[none])).set j (V.int (n+cold*5000))=OV onV (ms.getD kk []++[some (n+cold*5000)]):=by
        rw [Mp,Mp,Pr _ _ (by rw [Ln,rm];exact Ll _),Ln,rm,Pn];rfl
       rw [eset];have eD:=a7.list (LA _ (LA _ (LF aL))) (a7.dh.Uy (r:=ms.getD kk []++[some (n+cold*5000)]) aL);rw [List.set_set] at eD;obtain ⟨g1,g2,g3,g4⟩:=gw (bC xs) (d.cnt+((bC xs).length:Int)) (some (n+cold*5000));refine {_,_,_,_,_,_,_,_,_,_,_,_,_,_,_,rfl,eD,{bP,G.lf,G.st,'l',by have:=G.nc;lia,?_,?_,?_,λx hx=>?_,?_,Bc G.sm J,nX G.wd J da,b8},g1,g2,g3,g4,b5}
       .have:=Fd (t:=t) (n:="a") (a:=(lk t "a").take ts.length++[n+cold*5000]++(lk t "a").drop (ts.length+1));have:=G.tl;rw [LC];show _<=ts.length+1;lia
       .rw [Bw,if_pos rfl];have:=G.al;simp;lia
       .rw [LC];show ts.length+1<=200;lia
       .rcases L6.mp hx with hx|hx
        .exact cp x hx
        .rw [Lw.mp hx];show (0<=n+cold*5000/\n+cold*5000<n+1)\/(5000<=n+cold*5000/\n+cold*5000<5000+(n+1));lia
       .rw [Mp,Oa];refine {G.nd,'s',λa' hh b' fx z=>?_};obtain ⟨y,hy,rfl⟩:=Ow.mp hh;rw [show OV (·.1) [(n+cold*5000,(kk:Int),(j:Int))]=[n+cold*5000] from rfl,Lw] at fx;have:=G.num y hy;lia
      .obtain ⟨g1,g2,g3,g4⟩:=gw (bC xs) (d.cnt+((bC xs).length:Int)) none;exact {_,_,_,_,_,_,_,_,_,_,_,_,_,_,_,rfl,S,{bP,G.lf,G.st,'l',by have:=G.nc;lia,G.tl,G.al,G.few,cp,G.nd,wJ G.sm J,nX G.wd J da,b8},g1,g2,g3,g4,b5}
    .rintro σ H15 ⟨⟨d,ms,e0,e1,t,as,ts,n,bL,b0,b3,cc,b2,a5,a0,rfl,B5,G,ln,dl,rl,XN,en⟩⟩;refine {d,ms,e0,e1,t,as,ts,n,_,_,_,_,_,_,_,_,_,_,_,rfl,B5.at H10 (B4.keep.trans B5.keep),{G.dp,G.lf,G.st,G.n0,by have:=G.nc;lia,G.tl,G.al,G.few,G.num,G.nd,G.sm,G.wd,G.ne},ln,dl,XN}
   .rintro σ H11 ⟨⟨d,ms,e0,e1,t,as,ts,n,dt,ej,dk,ed,bL,b0,b3,cc,b2,a5,a0,rfl,B1,G,ln,dl,XN⟩⟩;right;rw [fV];have ab:=aN B1.T4;have kn:H k=none:=s1.free (s3.free (Xg.free (n6.same.free nk)));have bn:H b=none:=fr b (by simp [mt]);obtain ⟨kb,ei⟩:=B1.files.kd;have SH:=sS B1.keep;refine {λZ H'=>Z=[some (V.ref a),some (.int N),some (.int m),some (.ref lo),some (.ref p),some (.ref md),some (.ref fp),some (.ref sp),some (.int n),some (.ref el),dt,ej,dk,ed,bL,b0,b3,cc,b2,a5,a0]/\ze H H'/\DH A H' p wl sl cells m d md el mcs ms e0 e1/\(∃t ks,zM A H' fp b k t ks)/\H' sp=some (.lst (as.map V.ref))/\Paired (dQ H') as ts,?_,?_}
    .right;refine {_,.inl B1.Td,'d',zS (λho=>?_) λ_=>{SH,B1.dh,{_,_,B1.files},B1.Td,B1.T4}};have ho:=of_decide_eq_true ho;rw [Ln,ab] at ho;obtain ⟨l,e3,ll⟩:∃l,look t "a"=some l/\l.length=ts.length:=by
      have:=G.al;unfold lk at this;cases e:look t "a" with
      | none=>rw [e] at this;have:0=ts.length:=this;lia
      | some l=>rw [e] at this;exact {l,rfl,this}
     obtain ⟨a4,ef⟩:=B1.files.ob;refine {a4,_,ef,JG,fp,b,k,t,[],"h",rfl,B1.files,rfl,'s',λH12 c4 bc=>?_};have aT:ze H H12:=λc o e=>c4 c o (zr e kn) (SH c o e);have ds:∀{H H':Hp}{x:Addr}{kvs:List (Key×V)},But x H H'->H x=some (.dK kvs)->H sp=some (.lst (as.map V.ref))/\Paired (dQ H) as ts->H' sp=some (.lst (as.map V.ref))/\Paired (dQ H') as ts:=λ{H H' x kvs} bt e h=>{bt _ _ (λz=>by have:=h.1;rw [z,e] at this;cases this) h.1,Paired.z9 h.2 λc y hc=>bt _ _ (λz=>by have hc:H c=some (.tup _):=hc;rw [z,e] at hc;cases hc) hc};have cC:=ds c4 ei ⟨B1.Td,B1.T4⟩;have av:=B1.dh.dict c4 ei;obtain ⟨ey,fa⟩:=bc.ob;obtain ⟨hQ,cD⟩:=bc.bd;right;refine {ey,_,fa,Es,a,ns,1,rfl,aT.seq hS,'d',?_};right;refine {{'d','d'},_,.inl cC.1,?_};right;rw [Ln,ab];refine {'l',fp,b,k,t,_,"a",l,_,rfl,bc,e3,Ph _ 'l',by rw [ll];have:=Oj (atD ns 1 / 3) (show 0<(ts.length:Int)+1 by lia);lia,by have:=G.tl;have:=G.few;lia,λH13 dd hC=>?_};have ck:=ds dd cD cC;exact {λc o e=>dd c o (zr e bn) (aT c o e),av.dict dd cD,{_,_,hC},ck.1,ck.2}
    rintro Z H12 ⟨rfl,aT,av,⟨t',ks',bc⟩,eo,eH⟩;right;refine {_,eo,λsr H13 ai=>?_};rw [<- QU] at ai;refine {a,ns,1,rfl,(aT.trans ai.same).seq hS,'d',?_};right;have nn:=G.nc;rw [Ln,ME] at nn;have rev:Paired (dQ H13) as.reverse ts.reverse:=Dv (Paired.z9 eH λc y hc=>ai.same _ _ (show H12 c=some (.tup _) from hc));refine {'d',λx dx c6 Xs=>{x,fp,b,k,sr,dx,_,_,t',ks',as.reverse,ts.reverse,rfl,Xs.at_,(bc.same ai.same).same Xs.same,Xs.same _ _ ai.at_,Paired.z9 rev λc y hc=>Xs.same _ _ hc,{?_,?_,λy hy=>?_},λH15 ft fy=>{rfl,?_}}}
    .rw [QU];exact (Qz _).nodup_iff.mpr G.nd
    .rw [List.length_reverse];have:=G.few;lia
    .have:=G.num y (List.mem_reverse.mp hy);have:=G.n0;lia
    have b6:ze H12 H15:=λc o e=>ft c o (zr (ai.same _ _ e) Xs.no) (Xs.same _ _ (ai.same _ _ e));refine {a,ns,1,rfl,(aT.trans b6).seq hS,'d',?_};right;refine {{'d','d'},p,wl,sl,cells,m,d,md,el,mcs,ms,e0,e1,_,rfl,{av.same b6,⟨n,G.dp⟩,ln,'l','l',O.w2,O.w32},G.lf,G.st,λp' g5 fo Y1 d' H16 gT et=>{'d',λe5 c3 U=>?_}};have g9:=(av.same b6).tj;have hB:=(fy.tj g9 et).pL (.of U.same);refine q e5 p' g5 fo Y1 m d' md el mcs ms e0 e1 x c3 (λc o e=>U.same _ _ (et c o (b6 _ _ (aT _ _ e)) λz=>?_)) U.at_ (gT.same U.same) (fr md (by simp [mt])) ts.reverse hB (λk=>by rw [IZ (Qz ts),G.sm k]) G.wd G.ne;rw [fr c (by unfold mt;simp only [Lu,L6] at z ⊢;exact .inr (.inr (.inr (.inr (.inr z)))))] at e;cases e
abbrev mT:Stmt:=top 47
def nu(m:Int)(f:Nat->Nat)(o:Option (Int×Int))(k:Nat):Option (Int×Int):=o.bind λq=>if (f k:Int)>q.1 then none else some (q.1+(m-f k),q.2+f k)
def bY(m:Int)(f:Nat->Nat)(ks:List Nat)(fr:Int):Option (Int×Int):=ks.foldl (nu m f) (some (fr,0))
theorem uw:∀ks:List Nat,ks.foldl (nu m f) none=none
 | []=>rfl
 | _::ks=>uw ks
theorem w8{ks:List Nat}{fr:Int}{i k:Nat}(h:ks[i]?=some k):bY m f (ks.take (i+1)) fr=nu m f (bY m f (ks.take i) fr) k:=by
 unfold bY;rw [MP,h,Q9];rfl
theorem vc{fr:Int}(h:bY m f (ks.take i) fr=none):bY m f ks fr=none:=by
 have e:=MW i ks;unfold bY at h ⊢;rw [<- e,Q9,h,uw]
noncomputable def cy(d:DM)(m:Int):Int:=fw d m (bA d false)+m*(emp d.rows d.rows.length).length
noncomputable def gM(d:DM)(ts:List T3)(m:Int)(ks:List Nat):Option (Int×Int):=(bY m (alv ts) ks (cy d m)).map λq=>(rk d m (bA d true) (q.1 / m),q.2)
theorem Fi(G:2<=m)(F:m<=32)(z:d.rows.length<=16)(wd:∀k:Nat,((d.rows.getD k []).length:Int)<=m):0<=cy d m/\cy d m<=600:=by
 have h1:0<=fw d m (bA d false)/\fw d m (bA d false)<=m:=by
  cases bA d false with
  | none=>exact {MR 0,by show (0:Int)<=m;lia}
  | some k=>have:=wd k;show 0<=m-_/\m-_<=m;lia
 have h2:(emp d.rows d.rows.length).length<=16:=L8 (kC ..) z;have h3:0<=m*(emp d.rows d.rows.length).length:=Int.mul_nonneg 'l' 'l';have h4:m*(emp d.rows d.rows.length).length<=32*16:=Int.mul_le_mul F 'l' 'l' 'l';unfold cy;lia
structure ClI(H1:Hp)(p x a:Addr)(m f0:Int)(f:Nat->Nat)(ks:List Nat)(i:Nat)(σ:L2.St)(H':Hp):Prop where
 ex:∃fr XJ t u,σ=[some (V.ref p),some (.ref x),some (.ref a),some (.int fr),some (.int XJ),t,u]/\bY m f (ks.take i) f0=some (fr,XJ)/\0<=fr/\fr<=600+32*i
 same:ze H1 H'
inductive qi(A:zj)(vs:List V)(H:Hp)(Q:VK)(E:XK):Prop
 | mk:∀(p wl sl x a:Addr)(cells:List Addr)(m:Int)(d:DM)(ts:List T3)(ks:List Nat),(vs=[.ref p,.ref x,.ref a])->(zE A H p wl sl cells m d)->(bG d)->(((nU d).map zt).Nodup)->((nU d).length<3000)->(TB A H)->(2<=m)->(m<=32)->(d.rows.length<=16)->((∀k:Nat,((d.rows.getD k []).length:Int)<=m))->(dj A H x ts)->((∀k:Nat,alv ts k<64))->(ks.length<=16)->((H a=some (.lst (ks.map iv))\/H a=some (.tup (ks.map iv))))->((∀H',zN H H'->TB A H'->gM d ts m ks=none->Q .non H'))->((∀t r c H',zN H H'->TB A H'->gM d ts m ks=some (r,c)->H' t=some (.tup [.int r,.int c])->Q (.ref t) H'))->qi A vs H Q E
theorem fZ:zq ["disk","state",V9,"free","carried","stretch","many"] Xb (zk mT):=fsc
theorem HW(F:Fun K "cleaned" "cleaned" mT f fd)(T:Txt w K mg A)(YU:GF P w K mg base true 11 "cold_room" XX (qG A))(YT:GF P w K mg base true 2 "living_in" ["state","stretch"] (mv A))(Z5:GM P w K mg base true 1 A.pD VY ZK (cW A λm _=>.int m))(YS:GF P w K mg base true 11 "room_with" Wg (rJ A)):zp P w K mg base CX0 true 12 f fd Xb (qi A):=by
 refine F.ok fZ (λvs H Q E h=>?_) (λZY Ar outer s H vs Q E hr h=>?_)
 .obtain ⟨p,wl,sl,x,a,cells,m,d,ts,ks,rfl,_⟩:=h;rfl
 .obtain ⟨p,wl,sl,x,a,cells,m,d,ts,ks,rfl,D,tx,nd,few,tb,m2,Wp,J,wd,hS,av,aL,ha,q0,q1⟩:=h;refine {_,(W.h (zg (zw (i:=3) fZ.nd rfl (LK rfl) (caD (zA YU hr rfl (clP (zb (za 0) zc)))))
   (zg (zw (i:=4) fZ.nd rfl (LK rfl) zi)
   (zg (bX NH.never (λ_=>rfl) (vN (za 2)) (zz (i:=5) fZ.nd rfl (LK rfl))
   (zg (zw (i:=6) fZ.nd rfl (LK rfl) (zH af rfl T.qb LY (zb (caD (zA YT hr rfl (clP (zb (za 1) (zb (za 5) zc))))) zc)))
   (zg (zJ (tD (zG (clO (oI0 qR)) (clE (za 6)) (clE (za 3)) (zC _)))
   (zh (zu aE))
   zR)
   (zg (mr (i:=4) fZ.nd rfl (LK rfl) (za 6) rT)
   (zh (mr (i:=3) fZ.nd rfl (LK rfl) (zl (oI0 eR) (m0D (bB (clE (za 0)) T.mu Z5 hr)) (za 6)) rT))))))
   (zh (zu (aU (zb (caD (zA YS hr rfl (clP (zb (za 0) (zb (zl (oI dO) (za 3) (m0D (bB (clE (za 0)) T.mu Z5 hr))) zc))))) (zb (za 4) zc))))))))),?_}
  right;refine {p,wl,sl,cells,m,d,rfl,D,tx,nd,few,tb,'l','l',J,λH1 s1 S=>?_};obtain ⟨c0,c1⟩:=Fi m2 Wp J wd;change 0<=cy d m at c0;right;have i0:ClI H1 p x a m (cy d m) (alv ts) ks 0 [some (V.ref p),some (.ref x),some (.ref a),some (.int (cy d m)),some (.int 0),none,none] H1:={{_,_,_,_,rfl,rfl,c0,'l'},ze.refl _};refine (λhs hd=>ha.elim (λha=>.inl {{_,SqL.of (s1.list ha)},aj.lst (xs:=ks.map iv) (ClI H1 p x a m (cy d m) (alv ts) ks) i0 (λi σ H' _ I=>SqL.of (I.same _ _ (s1.list ha))) hs hd}) λha=>.inr {{_,SqT.of (s1.tup ha)},aj.tup (xs:=ks.map iv) (ClI H1 p x a m (cy d m) (alv ts) ks) i0 (λi σ H' _ I=>SqT.of (I.same _ _ (s1.tup ha))) hs hd}) ?_ ?_
  .rintro i v σ H2 hv ⟨⟨fr,XJ,t,u,rfl,Z,f0,f1⟩,s2⟩;rw [LP] at hv;obtain ⟨k,hk,rfl⟩:=Me.mp hv;have z:=s1.trans (.of s2);show cG 5 (.int k) _ _ _;right;refine {x,ts,k,rfl,hS.pL z,av k,λl ns H3 U l0 _ hl ab=>?_};erw [hl];rw [Ln,Du ab];have et:=w8 (m:=m) (f:=alv ts) (fr:=cy d m) hk;rw [Z] at et;have O:=z.trans (.of U);by_cases G:fr<(alv ts k:Int)
   .have en:bY m (alv ts) (ks.take (i+1)) (cy d m)=none:=by rw [et];show (if (alv ts k:Int)>fr then _ else _)=_;rw [if_pos G]
    rw [decide_eq_true G];exact q0 H3 O ((S.same s2).same U) (by unfold gM;rw [vc en];rfl)
   .have en:bY m (alv ts) (ks.take (i+1)) (cy d m)=some (fr+(m-alv ts k),XJ+alv ts k):=by rw [et];show (if (alv ts k:Int)>fr then _ else _)=_;rw [if_neg G]
    have D3:=D.pL O;obtain ⟨Wq,g3⟩:=D3.ob;rw [decide_eq_false G];erw [g3,gO];refine {p,wl,sl,cells,m,d,rfl,D3,?_};right;exact {{_,_,_,_,rfl,en,'l','l'},s2.trans U}
  .rintro σ H2 ⟨⟨fr,XJ,t,u,rfl,Z,f0,f1⟩,s2⟩;rw [Ln,L5 (Ll _)] at Z;rw [Ln] at f1;have z:=s1.trans (.of s2);have D2:=D.pL z;obtain ⟨WI,g2⟩:=D2.ob;have f2:0<=fr / m:=Int.ediv_nonneg f0 'l';have f3:fr / m<=600:=Int.ediv_le_of_le_mul 'l' 'l';erw [g2,gO];refine {p,wl,sl,cells,m,d,rfl,D2,?_};right;refine {{'l','l'},p,wl,sl,cells,m,d,(fr / m).toNat,by rw [O1 f2],D2,tx,nd,few,S.same s2,'l','l','l',λH3 U ai=>?_};rw [O1 f2];right;exact {'d',λtp H4 n4=>q1 tp _ _ H4 ((z.trans U).trans (.of n4.same)) (ai.same n4.same) (by unfold gM;rw [Z];rfl) n4.at_}
abbrev jg:Stmt:=top 70
structure MC(H0 H:Hp)(a:Addr)(cs:List Addr)(ms:Mdl):Prop where
 mo:bN H a cs ms
 nd:(a::cs).Nodup
 fr:∀c∈a::cs,H0 c=none
 same:ze H0 H
theorem MC.go(h:MC z H a cs ms)(s:ze H H'):MC z H' a cs ms:={h.mo.same s,h.nd,h.fr,h.same.trans s}
theorem MC.at(h:MC z H a cs ms)(hi:i<ms.length):∃c,cs[i]?=some c/\H c=some (.lst ((ms.getD i []).map onV)):=h.mo.at hi
theorem MC.set{r:List (Option Int)}(h:MC F H a cs ms)(hc:cs[i0]?=some c):MC F (upd H c (.lst (r.map onV))) a cs (ms.set i0 r):=by
 have cm:=LF hc;obtain ⟨J,G⟩:=ML.mp h.nd;refine {{by rw [zd (λz=>J (by rw [z];exact cm))];exact h.mo.ls,iR (by rw [MZ];exact h.mo.rows.length) λi a b ha hb=>?_},h.nd,h.fr,λb o e=>by rw [zd (zr e (h.fr c (LA _ cm)))];exact h.same _ _ e};by_cases hi:i0=i
 .subst hi;rw [hc] at ha;cases ha;have hl:=h.mo.rows.length;rw [Oc (by have:=(Lp.mp hc).1;lia)] at hb;cases hb;exact zx
 .rw [N5 hi] at hb;rw [zd (λz=>hi (by subst z;exact (P7 (Lp.mp hc).1 G).mp (hc.trans ha.symm)))];exact aX h.mo.rows ha hb
theorem K5{cs:List Addr}{k:Nat}(nd:cs.Nodup)(G:c∉cs):(cs.set k c).Nodup:=by
 refine Qo.mpr (M9.mpr λi j hi F J=>?_);rw [MZ] at hi F;rw [List.getElem_set,List.getElem_set];have h:=M9.mp (Qo.mp nd) i j hi F J;split
 .split
  .lia
  .exact λz=>G (z ▸ Nw F)
 .split
  .exact λz=>G (z ▸ Nw hi)
  .exact h
theorem MC.swap{k:Nat}{r:List (Option Int)}(h:MC G H a cs ms)(U:k<ms.length)(hc:H c=some (.lst (r.map onV)))(F:c∉a::cs)(O:G c=none):MC G (upd H a (.lst ((cs.set k c).map V.ref))) a (cs.set k c) (ms.set k r):=by
 obtain ⟨J,S⟩:=ML.mp h.nd;simp only [Lu,not_or] at F;have hl:=h.mo.rows.length;have hm:∀x∈cs.set k c,x=c\/x∈cs:=λx hx=>(List.mem_or_eq_of_mem_set hx).symm;refine {{zx,iR (by rw [MZ,MZ];exact hl) λi a b ha hb=>?_},ML.mpr {λz=>(hm _ z).elim (λe=>F.1 e.symm) J,K5 S F.2},λx hx=>?_,λb o e=>by rw [zd (zr e (h.fr a (LN ..)))];exact h.same _ _ e}
 .by_cases hi:k=i
  .subst hi;rw [Oc 'l'] at ha hb;cases ha;cases hb;rw [zd F.1];exact hc
  .rw [N5 hi] at ha hb;rw [zd (λz=>J (by rw [<- z];exact LF ha))];exact aX h.mo.rows ha hb
 .rcases Lu.mp hx with rfl|hx
  .exact h.fr _ (LN ..)
  .rcases hm x hx with rfl|hx
   .exact O
   .exact h.fr x (LA _ hx)
def emN(ms:Mdl):Nat:=ms.countP λr=>r.length==0
theorem xi(ms:Mdl):∀n,n<=ms.length->(bb ms n).length=(ms.take n).countP λr=>r.length==0
 | 0,_=>rfl
 | n+1,h=>by
  show (bb ms n++_).length=_;have z:n<ms.length:=by lia
  rw [LC,xi ms n 'l',MP,KE z,List.countP_append,Lr,KE z];congr 1;show (if ms[n].length=0 then [n] else []).length=[ms[n]].countP _;by_cases e:ms[n].length=0
  .rw [if_pos e];simp [e]
  .rw [if_neg e];simp [e]
theorem mG(ms:Mdl):(bb ms ms.length).length=emN ms:=by rw [xi ms _ (Ll _),L5 (Ll _)];rfl
theorem nN{k:Nat}:∀{n},k∈bb ms n->k<n/\(ms.getD k []).length=0
 | n+1,h=>by
  rcases L6.mp (show k∈bb ms n++_ from h) with h|h
  .obtain ⟨h1,h2⟩:=nN h;exact {'l',h2}
  .split at h
   .rename_i e;rw [Lw] at h;subst h;exact {'l',e}
   .cases h
theorem ml{k:Nat}{r:List (Option Int)}(z:k<ms.length):emN (ms.set k r)+(if (ms.getD k []).length=0 then 1 else 0)=emN ms+if r.length=0 then 1 else 0:=by
 unfold emN;rw [List.countP_set (h:=z),Lr,KE z];show _+(if ms[k].length=0 then 1 else 0)=_;have h:ms[k].length=0->0<ms.countP λr=>r.length==0:=λe=>List.countP_pos_iff.mpr {ms[k],Nw z,by simpa using e};by_cases e:ms[k].length=0<;>by_cases F:r.length=0<;>simp [e,F]<;>(have:=h;simp only [e] at this;lia)
def frO(wd:Int)(ms:Mdl)(c:Option Nat):Int:=match c with|none=>0|some k=>wd-(ms.getD k []).length
def frM(wd:Int)(ms:Mdl)(c:Option Nat):Int:=frO wd ms c+wd*emN ms
structure CI(wd:Int)(Yr:Mdl)(e0:Option Nat)(ks:List Nat)(ms:Mdl)(c:Option Nat):Prop where
 len:ms.length=Yr.length
 wd:∀k:Nat,((ms.getD k []).length:Int)<=wd
 UE:∀k,c=some k->k<ms.length/\0<(ms.getD k []).length/\k∉ks/\e0≠some k
 hot:∀k,e0=some k->0<(Yr.getD k []).length/\ms.getD k []=Yr.getD k []
 rem:∀k∈ks,k<ms.length/\ms.getD k []=Yr.getD k []/\0<(Yr.getD k []).length/\e0≠some k
theorem CI.write{wd:Int}{k:Nat}(h:CI wd G e0 ks ms c)(F:k<ms.length)(J:((ms.getD k []).length:Int)<wd)(h1:k∉ks)(h2:e0≠some k):CI wd G e0 ks (ms.set k (ms.getD k []++[b])) (some k):=by
 refine {by rw [MZ];exact h.len,λi=>?_,λi e=>?_,λi e=>?_,λi hi=>?_}
 .rw [aP F];split
  .rw [LC];show (((ms.getD k []).length+1:Nat):Int)<=wd;lia
  .exact h.wd i
 .cases e;rw [aP F,if_pos rfl,MZ,LC];exact {F,'s',h1,h2}
 .rw [aP F,if_neg (λz=>h2 (by rw [e,z]))];exact h.hot i e
 .rw [aP F,if_neg (λz:i=k=>h1 (z ▸ hi)),MZ];exact h.rem i hi
theorem CI.end_{wd:Int}{k:Nat}(h:CI wd z e0 ks ms (some k))(G:((ms.getD k []).length:Int)≠wd):CI wd z e0 ks (ms.set k (ms.getD k []++[b])) (some k)/\frM wd (ms.set k (ms.getD k []++[b])) (some k)=frM wd ms (some k)-1:=by
 obtain ⟨h1,h2,h3,h4⟩:=h.UE k rfl;have F:=h.wd k;refine {h.write h1 'l' h3 h4,?_};have e:=ml (r:=ms.getD k []++[b]) h1;rw [if_neg 'l',if_neg 's'] at e;unfold frM frO;dsimp only;rw [aP h1,if_pos rfl,LC,show emN (ms.set k (ms.getD k []++[b]))=emN ms by lia];show wd-(((ms.getD k []).length+1:Nat):Int)+_=_;lia
theorem CI.new{wd:Int}{k:Nat}(w2:2<=wd)(h:CI wd J e0 ks ms c)(G:k<ms.length)(F:(ms.getD k []).length=0)(hc:∀i,c=some i->((ms.getD i []).length:Int)=wd):CI wd J e0 ks (ms.set k (ms.getD k []++[b])) (some k)/\frM wd (ms.set k (ms.getD k []++[b])) (some k)=frM wd ms c-1:=by
 refine {h.write G 'l' (λz=>?_) (λz=>?_),?_}
 .obtain ⟨_,e,g,_⟩:=h.rem k z;rw [e] at F;lia
 .obtain ⟨g,e⟩:=h.hot k z;rw [e] at F;lia
 .have e:=ml (r:=ms.getD k []++[b]) G;rw [if_pos F,if_neg 's'] at e;have f0:frO wd ms c=0:=by
   cases c with
   | none=>rfl
   | some i=>have:=hc i rfl;show wd-_=0;lia
  unfold frM;rw [f0];have f1:frO wd (ms.set k (ms.getD k []++[b])) (some k)=wd-1:=by show wd-_=_;rw [aP G,if_pos rfl,LC,F];rfl
  rw [f1];have O:((emN ms:Nat):Int)=((emN (ms.set k (ms.getD k []++[b])):Nat):Int)+1:=by lia
  rw [O,Int.mul_add];lia
theorem CI.full{wd:Int}(h:CI wd z e0 ks ms c)(he:bb ms ms.length=[])(hc:∀i,c=some i->((ms.getD i []).length:Int)=wd):frM wd ms c=0:=by
 have e:emN ms=0:=by rw [<- mG,he];rfl
 unfold frM;rw [e];cases c with
 | none=>show (0:Int)+wd*((0:Nat):Int)=0;simp
 | some i=>have:=hc i rfl;show wd-((ms.getD i []).length:Int)+wd*((0:Nat):Int)=0;rw [this];simp
theorem CI.clean{wd:Int}{k:Nat}(w2:2<=wd)(h:CI wd G e0 (k::ks) ms c)(nd:k∉ks):CI wd G e0 ks (ms.set k []) c/\frM wd (ms.set k []) c=frM wd ms c+wd:=by
 obtain ⟨F,e1,Z,O⟩:=h.rem k (LN ..);have nc:c≠some k:=λz=>(h.UE k z).2.2.1 (LN ..);refine {{by rw [MZ];exact h.len,λi=>?_,λi e=>?_,λi e=>?_,λi hi=>?_},?_}
 .rw [aP F];split
  .show ((0:Nat):Int)<=wd;lia
  .exact h.wd i
 .obtain ⟨g1,J,W,S⟩:=h.UE i e;rw [aP F,if_neg (λz=>nc (by rw [e,z])),MZ];exact {g1,J,λz=>W (LA _ z),S}
 .rw [aP F,if_neg (λz=>O (by rw [e,z]))];exact h.hot i e
 .rw [aP F,if_neg (λz:i=k=>nd (z ▸ hi)),MZ];exact h.rem i (LA _ hi)
 .have e:=ml (r:=[]) F;rw [if_neg (by rw [e1];lia),if_pos (show ([]:List (Option Int)).length=0 from rfl)] at e;have f0:frO wd (ms.set k []) c=frO wd ms c:=by
   cases c with
   | none=>rfl
   | some i=>show wd-_=wd-_;rw [aP F,if_neg (λz=>nc (by rw [z]))]
  unfold frM;rw [f0];have U:((emN (ms.set k []):Nat):Int)=((emN ms:Nat):Int)+1:=by lia
  rw [U,Int.mul_add];lia
theorem CI.pos{wd:Int}(h:CI wd z e0 ks ms c)(w2:2<=wd):0<=frM wd ms c/\frM wd ms c / wd=emN ms:=by
 have hx:0<=frO wd ms c/\frO wd ms c<wd:=by
  cases c with
  | none=>exact {MR 0,by show (0:Int)<wd;lia}
  | some k=>have:=h.wd k;have:=(h.UE k rfl).2.1;show 0<=wd-_/\wd-_<wd;lia
 obtain ⟨F,h1⟩:=hx;unfold frM;have:0<=wd*(emN ms:Nat):=Int.mul_nonneg 'l' 'l';refine {'l',?_};rw [Int.add_mul_ediv_left _ _ 'l',Int.ediv_eq_zero_of_lt F h1,Int.zero_add]
def iM(wd:Int)(ms:Mdl)(e:Option Nat)(n:Int):Int:=wd*(if n-1>0 then n-1 else 0)+(match e with|none=>0|some k=>wd-(ms.getD k []).length)
def fM(wd:Int)(ms:Mdl)(e0 e1:Option Nat)(ks:List Nat):Option (Int×Int):=(bY wd (λk=>som (ms.getD k [])) ks (frM wd ms e1)).map λq=>(iM wd ms e0 (q.1 / wd),q.2)
theorem A5(r:List (Option Int))(j:Nat):som (r.take j)<=som r:=((Qy j r).filter _).length_le
structure CpI(H:Hp)(ms:Mdl)(i:Nat)(τ:L2.St)(ys:List V)(H':Hp):Prop where
 ex:∃t,τ=[t]
 ys:∃cs,ys=cs.map V.ref/\Paired (λc r=>H' c=some (.lst (r.map onV))) cs (ms.take i)/\cs.Nodup/\∀c∈cs,H c=none
 same:ze H H'
structure OuC(H0:Hp)(md el a:Addr)(wd:Int)(Yr:Mdl)(e0 e1:Option Nat)(ks:List Nat)(i:Nat)(σ:L2.St)(H':Hp):Prop where
 ex:∃cs ms c XJ t u,σ=[some (V.ref md),some (.ref el),some (.int wd),some (.ref a),some (ov c),some (.int XJ),t,u]/\MC H0 H' md cs ms/\CI wd Yr e0 (ks.drop i) ms c/\bY wd (λk=>som (Yr.getD k [])) (ks.take i) (frM wd Yr e1)=some (frM wd ms c,XJ)
structure InC(H0:Hp)(md ck el a:Addr)(wd:Int)(Yr:Mdl)(e0:Option Nat)(ks:List Nat)(k:Nat)(fr XJ:Int)(r:List (Option Int))(j:Nat)(σ:L2.St)(H':Hp):Prop where
 ex:∃cs ms c u,σ=[some (V.ref md),some (.ref el),some (.int wd),some (.ref a),some (ov c),some (.int (XJ+som (r.take j))),some (.int k),u]/\MC H0 H' md cs ms/\cs[k]?=some ck/\CI wd Yr e0 ks ms c/\frM wd ms c=fr-som (r.take j)
inductive qg(vs:List V)(H:Hp)(Q:VK)(E:XK):Prop
 | mk:∀(md el a:Addr)(cs:List Addr)(ms:Mdl)(e0 e1:Option Nat)(wd:Int)(ks:List Nat),(vs=[.ref md,.ref el,.int wd,.ref a])->(bN H md cs ms)->(ms.length<=16)->(H el=some (.lst [ov e0,ov e1]))->(2<=wd)->(wd<=32)->(H a=some (.lst (ks.map iv)))->(ks.Nodup)->(CI wd ms e0 ks ms e1)->((∀k,e0=some k->k<ms.length))->((∀H',ze H H'->fM wd ms e0 e1 ks=none->Q .non H'))->((∀t r c H',ze H H'->fM wd ms e0 e1 ks=some (r,c)->H' t=some (.tup [.int r,.int c])->Q (.ref t) H'))->qg vs H Q E
theorem eU:zq Yq Yk (zk jg):=fsc
theorem AD:aY { kind:=.function,names:=[(Lo ".0",.local),(Lo "_law_births",.local),(Lo "list",.globalImplicit)],isGenerator:=false,isCoroutine:=false,more:=[] } (zk jg).names Yq ["_law_births"] [none]=true:=by decide +kernel
theorem IG:(["_law_births"]:List Str).Nodup:=by decide +kernel
theorem GT(F:Fun K VX VX jg f fd)(T:Txt w K mg A)(ZR:GF P w K mg base true 1 VZ Xn lq)(YR:GF P w K mg base true 2 "_law_room" XA rq):zp P w K mg base CX0 true 3 f fd Yk qg:=by
 refine F.ok eU (λvs H Q E h=>?_) (λZY Ar outer s H vs Q E hr h=>?_)
 .obtain ⟨md,el,a,cs,ms,e0,e1,wd,ks,rfl,_⟩:=h;rfl
 .obtain ⟨md,el,a,cs,ms,e0,e1,wd,ks,rfl,M,bp,he,w2,w32,ha,nd,ci,b5,q0,q1⟩:=h;have hu:_<cLine:=Mo (zY hr);refine {_,(W.h (zg (jf (i0:=0) eU.nd rfl (LK rfl) (λ_=>rfl) (ah.of AD) (liD (cU (clE (za 0)))) (λ_ _ _ _ _=>(zz (i:=0) IG rfl (LK rfl))) (λ_ _ _ _ _=>cB) (λ_ _ _ _ _=>(cX jQ rfl T.RO boot_list (zb (za 0) zc))))
   (zg (zw (i:=4) eU.nd rfl (LK rfl) (zQ zT (za 1) zi (λ_ _=>rfl)))
   (zg (zw (i:=5) eU.nd rfl (LK rfl) zi)
   (zg (bX NH.never (λ_=>rfl) (liD (cU (clE (za 3)))) (zz (i:=6) eU.nd rfl (LK rfl))
   (zg (bX NH.never (λ_=>rfl) (liD (cU (clE (zQ zT (za 0) (za 6) (λ_ _=>rfl))))) (zz (i:=7) eU.nd rfl (LK rfl))
   (zh (zJ (tD (zG (clO iV) (clE (za 7)) (clE aE) (zC _)))
   (zg (fQ (zJ (cO (jD (tD (zG (clO k9) (clE (za 4)) (clE aE) (zC _))) (jO (tD (zG (clO (oE (aW hu))) (clE (zH af rfl T.qb LY (zb (zQ zT (za 0) (za 4) (λ_ _=>rfl)) zc))) (clE (za 2)) (zC _))))))
   (zg (zJ (tD (zG (clO (qV hu)) (clE (caD (zA ZR hr rfl (clP (zb (za 0) zc))))) (clE (aq zc)) (zC _)))
   (zh (zu aE))
   zR)
   (zh (zw (i:=4) eU.nd rfl (LK rfl) (zQ zT (caD (zA ZR hr rfl (clP (zb (za 0) zc)))) zi (λ_ _=>rfl)))))
   zR))
   (zg (aC (d6 (zQ zT (za 0) (za 4) (λ_ _=>rfl)) (za 7)))
   (zh (zw (i:=5) eU.nd rfl (LK rfl) (zl zP (za 5) zi)))))
   zR)))
   (zh (cQ (aq zc) (fA (za 0) (za 6) il)))))
   (zh (zu (aU (zb (caD (zA YR hr rfl (clP (zb (za 0) (zb (aq (zb (zQ zT (za 1) zi (λ_ _=>rfl)) (zb (za 4) zc))) (zb (za 2) zc)))))) (zb (za 5) zc)))))))))),?_}
  have lc:=M.rows.length;right;refine {{_,SqL.of M.ls},zZ.lst (xs:=cs.map V.ref) (CpI H ms) (λi τ ys H' I=>?_) (λi τ ys H' I=>SqL.of (I.same _ _ M.ls)) {{_,rfl},{[],rfl,.nil,QL,(λ_ z=>nomatch z)},ze.refl _} ?_ ?_}
  .obtain ⟨ds,e,pr,_⟩:=I.ys;have h1:=aN pr;have h2:=O7 i ms;rw [e,Ln];exact aJ 'l'
  .rintro N i v τ ys H' hv ⟨⟨t,rfl⟩,⟨ds,rfl,pr,n1,n2⟩,sm⟩ hN;rw [LP] at hv;obtain ⟨c,hc,rfl⟩:=Me.mp hv;have hi:i<ms.length:=by rw [<- lc];exact (Lp.mp hc).1
   have bL:ms[i]?=some ms[i]:=KE hi;have e:=sm _ _ (aX M.rows hc bL);right;refine {_,.inl e,λp H2 Wo=>hN _ _ _ {{_,rfl},{ds++[p],by rw [Mp];rfl,?_,?_,?_},sm.trans Wo.same}}
   .rw [MP,bL];exact eE (Paired.z9 pr λ_ _ e=>Wo.same _ _ e) (.cons Wo.at_ .nil)
   .rw [Oa];refine {n1,'s',λx hx y hy z=>?_};rw [Lw] at hy;subst hy;obtain ⟨j,hj⟩:=MO hx;have lp:=aN pr;have Xj:j<(ms.take i).length:=by rw [<- lp];exact (Lp.mp hj).1
    have:=aX pr hj (KE Xj);rw [z,Wo.no] at this;cases this
   .intro x hx;rcases L6.mp hx with hx|hx
    .exact n2 x hx
    .rw [Lw.mp hx];exact sm.free Wo.no
  .rintro τ ys H1 ⟨⟨t,rfl⟩,⟨ds,rfl,pr,n1,n2⟩,sm⟩ J H2 Wo;rw [Ln,lc,L5 (Ll _)] at pr;have ba:MC H H2 J ds ms:=by
    refine {{Wo.at_,Paired.z9 pr λ_ _ e=>Wo.same _ _ e},ML.mpr {λz=>?_,n1},λc hc=>?_,sm.trans Wo.same}
    .obtain ⟨j,hj⟩:=MO z;have lp:=aN pr;have:=aX pr hj (KE (by rw [<- lp];exact (Lp.mp hj).1));rw [Wo.no] at this;cases this
    .rcases Lu.mp hc with rfl|hc
     .exact sm.free Wo.no
     .exact n2 c hc
   have s2:=ba.same;have b0:=s2 _ _ he;erw [b0];have b2:=s2 _ _ ha;refine {_,rfl,{_,SqL.of b2},aj.lst (xs:=ks.map iv) (OuC H J el a wd ms e0 e1 ks) {{ds,ms,e1,0,_,_,rfl,ba,ci,rfl}} (λi σ H' _ I=>by obtain ⟨_,_,_,_,_,_,_,mc,_⟩:=I.ex;exact SqL.of (mc.same _ _ ha)) ?_ ?_}
   .rintro i v σ H3 hv ⟨⟨a4,U,c3,XJ,t,u,rfl,Z,O,ec⟩⟩;rw [LP] at hv;obtain ⟨k,hk,rfl⟩:=Me.mp hv;have b6:=(Lp.mp hk).1;have dk:ks.drop i=k::ks.drop (i+1):=by rw [NT b6,(Lp.mp hk).2]
    have ndk:k∉ks.drop (i+1):=by
     have:=nd.sublist (List.drop_sublist i ks);rw [dk] at this;exact (ML.mp this).1
    rw [dk] at O;obtain ⟨cn,a6,r0,_⟩:=O.rem k (LN ..);obtain ⟨ck,a9,b4⟩:=Z.at cn;have et:=w8 (m:=wd) (f:=λk=>som (ms.getD k [])) (fr:=frM wd ms e1) hk;rw [ec] at et;show cG 6 (.int k) _ _ _;right;refine {_,.inl Z.mo.ls,.ref ck,bz (by rw [LP,a9];rfl),?_};right;refine {{_,SqL.of b4},aj.lst (xs:=(U.getD k []).map onV) (InC H J ck el a wd ms e0 (k::ks.drop (i+1)) k (frM wd U c3) XJ (U.getD k [])) {{a4,U,c3,u,by simp [som],Z,a9,O,by simp [som]}} (λj σ H' _ I=>?_) ?_ ?_}
    .obtain ⟨cs4,G,c4,u4,_,S,Wn,W4,_⟩:=I.ex;obtain ⟨a3,b8,_⟩:=W4.rem k (LN ..);obtain ⟨cp,aT,aL⟩:=S.at a3;rw [Wn] at aT;cases aT;rw [b8,<- a6] at aL;exact SqL.of aL
    .rintro j v σ H4 hv ⟨⟨cs4,G,c4,u4,rfl,S,Wn,W4,ef⟩⟩;rw [LP] at hv;obtain ⟨b,hb,rfl⟩:=Me.mp hv;have ab:(U.getD k []).take (j+1)=(U.getD k []).take j++[b]:=by rw [MP,hb];rfl
     cases b with
     | none =>
      show cG 7 .non _ _ _;right;exact {{cs4,G,c4,_,by rw [ab,qL],S,Wn,W4,by rw [ab,qL];exact ef}}
     | some n =>
      show cG 7 (.int n) _ _ _;have stk:=A5 (U.getD k []) (j+1);rw [ab,jH] at stk;have av:(∀i,c4=some i->((G.getD i []).length:Int)=wd)->bb G G.length=[]->∀H',ze H4 H'->Q .non H':=λhc he H' s'=>by
       have f0:=W4.full he hc;refine q0 H' (S.same.trans s') ?_;have:bY wd (λk=>som (ms.getD k [])) (ks.take (i+1)) (frM wd ms e1)=none:=by
        rw [et];show (if (som (ms.getD k []):Int)>frM wd U c3 then _ else _)=_;rw [if_pos (by rw [<- a6];lia)]
       unfold fM;rw [vc this];rfl
      right;rw [fV];refine {λbP H'=>∃k':Nat,bP=[some (V.ref J),some (.ref el),some (.int wd),some (.ref a),some (.int k'),some (.int (XJ+som ((U.getD k []).take j))),some (.int k),some (.int n)]/\ze H4 H'/\k'<G.length/\CI wd ms e0 (k::ks.drop (i+1)) (G.set k' (G.getD k' []++[some n])) (some k')/\frM wd (G.set k' (G.getD k' []++[some n])) (some k')=frM wd G c4-1,?_,?_}
      .have l4:G.length<=16:=by rw [W4.len];exact bp
       cases c4 with
       | none =>
        erw [ov];refine {J,cs4,G,rfl,S.mo,l4,λl H5 s5 l0 hl=>{Mu _,λl2 H6 n6 _=>?_}};right;refine {_,n6.same _ _ hl,_,n6.at_,.inr rfl,?_};rw [Ln,NA];have s6:=s5.trans n6.same;by_cases he:(bb G G.length).length=0
        .rw [decide_eq_true he];exact av (λ_ z=>nomatch z) (M1.mp he) H6 s6
        .rw [decide_eq_false he];refine {J,cs4,G,rfl,(S.go s6).mo,l4,λl3 H7 s7 _ WN=>?_};obtain ⟨k',tl,ek⟩:=Py (ON he);obtain ⟨ai,a5⟩:=nN (ms:=G) (k:=k') (n:=G.length) (by rw [ek];exact LN ..);rw [ek] at WN;right;exact {_,.inl WN,.int k',bz (j:=0) rfl,k',rfl,s6.trans s7,ai,W4.new w2 ai a5 (λ_ z=>nomatch z)}
       | some i4 =>
        erw [ov];obtain ⟨bt,_⟩:=W4.UE i4 rfl;obtain ⟨c6,cc,b1⟩:=S.at bt;refine {_,.inl S.mo.ls,.ref c6,bz (by rw [LP,cc];rfl),?_};erw [b1];rw [Ln];by_cases hw:((G.getD i4 []).length:Int)=wd
        .rw [decide_eq_true hw];have hc:∀i,some i4=some i->((G.getD i []).length:Int)=wd:=λi e=>by cases e;exact hw
         right;refine {J,cs4,G,rfl,S.mo,l4,λl H5 s5 l0 hl=>{Mu _,λl2 H6 n6 _=>?_}};right;refine {_,n6.same _ _ hl,_,n6.at_,.inr rfl,?_};rw [Ln,NA];have s6:=s5.trans n6.same;by_cases he:(bb G G.length).length=0
         .rw [decide_eq_true he];exact av hc (M1.mp he) H6 s6
         .rw [decide_eq_false he];refine {J,cs4,G,rfl,(S.go s6).mo,l4,λl3 H7 s7 _ WN=>?_};obtain ⟨k',tl,ek⟩:=Py (ON he);obtain ⟨ai,a5⟩:=nN (ms:=G) (k:=k') (n:=G.length) (by rw [ek];exact LN ..);rw [ek] at WN;right;exact {_,.inl WN,.int k',bz (j:=0) rfl,k',rfl,s6.trans s7,ai,W4.new w2 ai a5 hc}
        .rw [decide_eq_false hw];exact {i4,rfl,ze.refl _,bt,W4.end_ hw}
      .rintro bP H5 ⟨k',rfl,s5,W1,b9,b3⟩;have a0:=S.go s5;obtain ⟨c5,a7,bc⟩:=a0.at W1;right;refine {_,.inl a0.mo.ls,.ref c5,bz (by rw [LP,a7];rfl),?_};have wk:=W4.wd k';right;refine {{_,bc},_,bc,by rw [Ln];exact aJ 'l',?_};have eV:(G.getD k' []).map onV++[V.int n]=(G.getD k' []++[some n]).map onV:=by rw [Mp];rfl
       rw [eV];have bq:XJ+((som ((U.getD k []).take j)+1:Nat):Int)=XJ+(som ((U.getD k []).take j):Nat)+1:=by lia
       refine {{cs4,_,some k',some (.int n),by rw [ab,jH,bq];rfl,a0.set a7,Wn,b9,by rw [b3,ef,ab,jH];lia}}
    .rintro σ H4 ⟨⟨cs4,G,c4,u4,rfl,S,Wn,W4,ef⟩⟩;rw [Ln,L5 (Ll _)] at ef ⊢;right;obtain ⟨a3,_⟩:=W4.rem k (LN ..);have lk:=S.mo.rows.length;refine {Mu _,λc' H5 n5 _=>{_,n5.same _ _ S.mo.ls,k,by unfold ixN;rw [Ln,lk,if_pos 'l',if_pos 'l'];rfl,?_}};have nc:c'∉J::cs4:=λz=>by
      rcases Lu.mp z with e|z
      .have:=S.mo.ls;rw [<- e,n5.no] at this;cases this
      .obtain ⟨j,hj⟩:=MO z;have:=aX S.mo.rows hj (KE (by rw [<- lk];exact (Lp.mp hj).1));rw [n5.no] at this;cases this
     obtain ⟨b7,f6⟩:=W4.clean w2 ndk;have a8:=(S.go n5.same).swap (r:=[]) a3 n5.at_ nc (S.same.free n5.no);rw [List.map_set] at a8;have f4:=(W4.pos w2).1;refine {{_,_,c4,_,_,_,rfl,a8,b7,?_}};rw [et];show (if (som (ms.getD k []):Int)>frM wd U c3 then none else some (frM wd U c3+(wd-som (ms.getD k [])),XJ+som (ms.getD k [])))=_;rw [<- a6,if_neg 'l',f6,ef];congr 2;lia
   .rintro σ H3 ⟨⟨a4,U,c3,XJ,t,u,rfl,Z,O,ec⟩⟩;rw [Ln,L5 (Ll _)] at ec;right;rw [List.drop_of_length_le (by rw [Ln];exact Ll _)] at O;obtain ⟨p0,p1⟩:=O.pos w2;refine {_,.inl (Z.same _ _ he),_,rfl,'d',λp H4 n4 _=>{J,p,a4,U,e0,c3,wd,rfl,Z.mo.same n4.same,by rw [O.len];exact bp,n4.at_,λk e=>by rw [O.len];exact b5 k e,'l','l',λH5 s5=>{'d',λtp H6 n6=>?_}}};refine q1 tp _ _ H6 (((Z.same.trans n4.same).trans s5).trans n6.same) ?_ n6.at_;unfold fM;rw [ec];show some (iM wd ms e0 (frM wd U c3 / wd),XJ)=_;have er:iJ U e0 wd=iM wd ms e0 (frM wd U c3 / wd):=by
     rw [p1];unfold iJ iM;rw [mG];cases e0 with
     | none=>rfl
     | some k=>dsimp only;rw [(O.hot k rfl).2]
    rw [er]
abbrev oJ:Stmt:=top 71
structure LlI(H:Hp)(a:Addr)(k:Int)(l lf fo lr:Addr)(js:List Nat)(ds:List Int)(i:Nat)(σ:L2.St)(H':Hp):Prop where
 ex:∃(left os:List Nat)(t:Option V),σ=[some (V.ref a),some (.int k),some (.ref l),some (.ref lf),some (.ref fo),t]/\H' lf=some (.lst (left.map iv))/\H' fo=some (.lst (os.map iv))/\(os++left).Perm js
 row:H' lr=some (.lst (ds.map V.int))
 same:ze H H'
inductive nv(K:Frag)(vs:List V)(H:Hp)(Q:VK)(E:XK):Prop
 | mk:∀(a l:Addr)(ns:List Int)(k:Int)(js:List Nat),(vs=[.ref a,.int k,.ref l])->(SqL K H a (ns.map V.int))->(0<=k)->(H l=some (.lst (js.map iv)))->(js.length<=16)->(∀(fo:Addr)(os ZZ:List Nat)(H':Hp),ze H H'->H fo=none->(os++ZZ).Perm js->H' fo=some (.lst (os.map iv))->Q (.ref fo) H')->nv K vs H Q E
theorem kh:zq ["_law_script","_law_k","_law_some_here","_law_left","_law_found","_law_digit"] XW (zk oJ):=fsc
theorem KS(F:Fun K VV VV oJ f fd)(T:Txt w K mg A)(ZX:GF P w K mg base true 2 V4 ZE (gB K)):zp P w K mg base CX0 true 3 f fd XW (nv K):=by
 refine F.ok kh (λvs H Q E h=>?_) (λZY Ar outer s H vs Q E hr h=>?_)
 .obtain ⟨a,l,ns,k,js,rfl,_⟩:=h;rfl
 .obtain ⟨a,l,ns,k,js,rfl,hS,k0,hl,a3,q⟩:=h;have hu:_<cLine:=Mo (zY hr);refine {_,(W.h (zg (zw (i:=3) kh.nd rfl (LK rfl) (cX jQ rfl T.RO boot_list (zb (za 2) zc)))
   (zg (zw (i:=4) kh.nd rfl (LK rfl) (aq zc))
   (zg (bX NH.never (λ_=>rfl) (liD (cU (clE (caD (zA ZX hr rfl (clP (zb (za 0) (zb (za 1) (zb (zl zP zi (zH af rfl T.qb LY (zb (za 2) zc))) (zb zi zc)))))))))) (zz (i:=5) kh.nd rfl (LK rfl))
   (zh (zJ (cO (eS (tD (zG (clO (oH hu)) (clE (za 3)) (clE (aq zc)) (zC _))) (eQ (tD (zG (clO (oI0 qR)) (clE (zl (oI zX) (za 5) zi)) (clE zi) (zC _))))))
   (zh (aC (d6 (za 4) (vn (za 3) (zl (oI zX) (za 5) (zH af rfl T.qb LY (zb (za 3) zc)))))))
   zR)))
   (zh (zu (za 4))))))),?_}
  right;refine {_,.inl hl,λlf H1 U=>{Mu _,λfo H2 S _=>?_}};have s2:=U.same.trans S.same;have X5:=s2 _ _ hl;right;refine {_,.inl X5,?_};rw [Ln];refine {a,ns,k,1+(js.length:Int),60,rfl,s2.seq hS,k0,'l','l','d','d',λlr ds H3 s3 G el dl db=>?_};have av:=s2.trans s3;have a0:H lf=none:=U.no;have ai:H fo=none:=U.same.free S.no;have Z:lf≠fo:=λz=>by have:=S.no;rw [<- z,U.at_] at this;cases this
  have aL:lr≠lf:=λz=>by rw [z,S.same _ _ U.at_] at G;cases G
  have aT:lr≠fo:=λz=>by rw [z,S.at_] at G;cases G
  right;refine {{_,SqL.of el},aj.lst (xs:=ds.map V.int) (LlI H a k l lf fo lr js ds) {{js,[],_,rfl,s3 _ _ (S.same _ _ U.at_),s3 _ _ S.at_,N7.refl _},el,av} (λi σ H' _ I=>SqL.of I.row) ?_ ?_}
  .rintro i v σ H4 hv ⟨⟨left,os,t,rfl,h1,h2,pm⟩,er,s4⟩;rw [LP] at hv;obtain ⟨d,hd,rfl⟩:=Me.mp hv;have bd:=db d (LF hd);show cG 5 (.int d) _ _ _;right;have nx:∀{H5:Hp},ze H4 H5->LlI H a k l lf fo lr js ds (i+1) [some (V.ref a),some (.int k),some (.ref l),some (.ref lf),some (.ref fo),some (.int d)] H5:=λ{H5} s5=>{{left,os,_,rfl,s5 _ _ h1,s5 _ _ h2,pm},s5 _ _ er,s4.trans s5};refine {Mu _,λe5 H5 J _=>{_,J.same _ _ h1,_,J.at_,.inr rfl,?_}};rw [Ln,NA];by_cases h0:left.length=0
   .rw [decide_eq_true h0,if_neg 'd'];exact nx J.same
   rw [decide_eq_false h0,if_pos 'd'];refine {'d',zS (λ_=>?_) λ_=>nx J.same};have O:=J.same _ _ h1;have ab:=J.same _ _ h2;obtain ⟨kk,ek⟩:∃kk:Nat,d % (left.length:Int)=kk:={(d % (left.length:Int)).toNat,by have:=Ph d (show (left.length:Int)≠0 by lia);lia};have hk:kk<left.length:=by have:=Oj d (show 0<(left.length:Int) by lia);lia
   have lj:=pm.length_eq;rw [LC] at lj;refine {{_,ab},{_,O},_,.inl O,by rw [Ln];lia,_,kk,by rw [Ln];exact ek,O,iv left[kk],by rw [LP,KE hk];rfl,os.map iv,by rw [zd (L9 Z)];exact ab,by rw [Ln];exact aJ 'l',?_};refine {{left.eraseIdx kk,os++[left[kk]],_,rfl,by rw [zd Z,zx,rP],by rw [zx,Mp];rfl,?_},by rw [zd aT,zd aL];exact J.same _ _ er,λb o e=>by rw [zd (zr e ai),zd (zr e a0)];exact J.same _ _ (s4 _ _ e)};rw [Ma];exact (N7.append_left os (mW hk)).trans pm
  .rintro σ H4 ⟨⟨left,os,t,rfl,h1,h2,pm⟩,er,s4⟩;right;exact q fo os left H4 s4 ai pm h2
abbrev gN:Stmt:=top 72
theorem yX(h:gh d ms):∀n,emp d.rows n=bb ms n
 | 0=>rfl
 | n+1=>by
  show emp d.rows n++_=bb ms n++_;rw [yX h n,h.at_ n]
theorem xD(ms:Mdl)(e0 e1:Option Nat):∀n,(smM ms e0 e1 n).Nodup
 | 0=>QL
 | n+1=>by
  show (smM ms e0 e1 n++_).Nodup;rw [Oa];refine {xD ms e0 e1 n,by split<;>simp,λa ha b hb z=>?_};have:=(i6 ha).1;split at hb
  .cases hb
  .rw [Lw] at hb;lia
theorem vk:∀{l m:List Int},l.Perm m->l.Pairwise (·<=·)->m.Pairwise (·<=·)->l=m
 | [],m,p,_,_=>N7.nil_eq p
 | x::l,[],p,_,_=>absurd p.length_eq 's'
 | x::l,y::m,p,hl,hm=>by
  have e:x=y:=by
   rcases Lu.mp (p.mem_iff.mp (LN ..)) with e|h1
   .exact e
   .rcases Lu.mp (p.mem_iff.mpr (LN ..)) with e|h2
    .exact e.symm
    .have a:=(Ny.mp hl).1 y h2;have b:=(Ny.mp hm).1 x h1;lia
  subst e;rw [vk ((List.perm_cons x).mp p) (Ny.mp hl).2 (Ny.mp hm).2]
theorem E6{ts us vs:List T3}(nd:(ts.map (·.1)).Nodup)(p:us.Perm ts)(F:vs.Perm ts)(s:(us.map (·.1)).Pairwise (·<=·))(s':(vs.map (·.1)).Pairwise (·<=·)):us=vs:=by
 have e:∀{us:List T3},(∀u∈us,u∈ts)->(us.map (·.1)).map (cL ts)=us:=λ{us} h=>by
  rw [Mv]
  induction us with
  | nil=>rfl
  | cons u us G=>rw [MD,G λv J=>h v (LA _ J)];show cL ts u.1::us=_;rw [lL nd (h u (LN ..))]
 have k:=vk ((p.trans F.symm).map (·.1)) s s';rw [<- e λu z=>p.mem_iff.mp z,k,e λu z=>F.mem_iff.mp z]
theorem Ad{n m:Int}(h:DP d n e0 e1)(ln:gh d ms)(sm:∀k:Nat,alv ts k=som (ms.getD k []))(ks:List Nat):gM d ts m ks=fM m ms e0 e1 ks:=by
 have z:bA d true=e0:=h.end_;have h1:bA d false=e1:=my h.nd (qm d false) h.cold;have F:alv ts=λk=>som (ms.getD k []):=funext sm;have fr:∀e:Option Nat,fw d m e=frO m ms e:=λe=>by
  cases e with
  | none=>rfl
  | some k=>show m-_=m-_;rw [ln.at_ k]
 unfold gM fM cy;rw [z,h1,F,fr,yX ln,<- ln.len,mG];show Rn _ (bY m _ ks (frM m ms e1))=_;congr 1;funext q;congr 1;unfold rk iM;rw [fr,Int.add_comm];congr 1;congr 1;split<;>split<;>lia
def wx(z:List Nat)(H:Hp)(b:Addr)(os:List Nat):Prop:=H b=some (.lst (os.map iv))/\∃ZZ,(os++ZZ).Perm z
structure NpI(H:Hp)(p:Addr)(d:DM)(i:Nat)(τ:L2.St)(ys:List V)(H':Hp):Prop where
 ex:∃t,τ=[t,some (V.ref p)]
 ys:ys=(Oi i).map λk=>V.int (d.rows.getD k []).length
 same:H'=H
 le:i<=16
structure LwI(A:zj)(H:Hp)(σ0:L2.St)(i:Nat)(σ:L2.St)(H':Hp):Prop where
 ex:∃t u v,σ=σ0++[t,u,v]
 same:zN H H'
 tb:TB A H'
structure LsI(H:Hp)(a l:Addr)(js:List Nat)(i:Nat)(τ:L2.St)(ys:List V)(H':Hp):Prop where
 ex:∃t,τ=[t,some (V.ref a),some (.ref l)]
 ys:∃bs oss,ys=bs.map V.ref/\Paired (wx js H') bs oss/\bs.length=i
 same:ze H H'
 le:i<=8
inductive ic(t1:Addr)(K:Frag)(vs:List V)(H:Hp)(Q:VK)(E:XK):Prop
 | mk:∀(a:Addr)(ns:List Int),(vs=[.ref a])->(SqL K H a (ns.map V.int))->(ns.length<=63)->(H t1=some (.tbl #[]))->(∀H',Q (.bl true) H')->ic t1 K vs H Q E
theorem cS:zq Z6 YA (zk gN):=fsc
theorem BL:aY { kind:=.function,names:=[(Lo ".0",.local),(Lo "_law_k",.local),(Lo "_law_list",.globalImplicit),(Lo "_law_script",.free),(Lo "_law_some_here",.free)],isGenerator:=false,isCoroutine:=false,more:=[] } (zk gN).names Z6 Wf [none,some 0,some 6]=true:=by decide +kernel
theorem En:(Wf:List Str).Nodup:=by decide +kernel
theorem CF:aY { kind:=.function,names:=[(Lo ".0",.local),(Lo "_law_k",.local),(Lo "_law_disk_here",.free)],isGenerator:=false,isCoroutine:=false,more:=[] } (zk gN).names Z6 XS [none,some 1]=true:=by decide +kernel
theorem K2:(XS:List Str).Nodup:=by decide +kernel
theorem Ja:aY { kind:=.function,names:=[(Lo ".0",.local),(Lo "_law_k",.local),(Lo "_law_disk_here",.free)],isGenerator:=false,isCoroutine:=false,more:=[] } (zk gN).names Z6 XS [none,some 1]=true:=by decide +kernel
theorem Jh:(XS:List Str).Nodup:=by decide +kernel
theorem Jx(F:Fun K "law" "law" gN f fd)(T:Txt w K mg A)(YQ:GF P w K mg base true 7 "_law_disk" YA (qr K A))(ZH:GF P w K mg base true 1 VU YG jG)(YO:GF P w K mg base true 3 VV XW (nv K))(Zw:GM P w K mg base true 1 A.pD "signs" ZK (cW A λ_ d=>.int d.cnt))(Z7:GM P w K mg base true 1 A.pD Wa Zl (gQ A))(ZU:GM P w K mg base true 1 A.State "spots" ZK (lD A))(Zr:GF P w K mg base true 3 VX Yk qg)(YK:GF P w K mg base true 12 "cleaned" Xb (qi A)):zp P w K mg base CX0 true 13 f fd YA (ic A.Q2 K):=by
 refine F.ok cS (λvs H Q E h=>?_) (λZY Ar outer s H vs Q E hr h=>?_)
 .obtain ⟨a,ns,rfl,_⟩:=h;rfl
 .obtain ⟨a,ns,rfl,hS,_,ht,q⟩:=h;have hu:_<cLine:=Mo (zY hr);refine {_,(W.h (zg (cQ (caD (zA YQ hr rfl (clP (zb (za 0) zc)))) (fI (n:=5) (gsD (zU (zz (i:=1) cS.nd rfl (QF rfl)) (gsD (zU (zz (i:=2) cS.nd rfl (LK rfl)) (gsD (zU (zz (i:=3) cS.nd rfl (LK rfl)) (gsD (zU (zz (i:=4) cS.nd rfl (LK rfl)) (gsD (zU (zz (i:=5) cS.nd rfl (LK rfl)) cV))))))))))))
   (zg (zw (i:=6) cS.nd rfl (QF rfl) (caD (zA ZH hr rfl (clP (zb (za 3) (zb (za 4) zc))))))
   (zg (zw (i:=7) cS.nd rfl (LK rfl) (zl zP (aq (zb (aq zc) (zb (za 6) (zb (xC (za 6)) zc)))) (cF (λ_=>rfl) (ah.of BL) (cK rfl T.ro (zb zi zc)) (λ_ _ _ _ _=>(zz (i:=0) En rfl (LK rfl))) (λ_ _ _ _ _=>cB) (λ_ _ _ _ _=>(caD (zA YO hr rfl (clP (zb (za 1) (zb (zl zP zi (za 0)) (zb (za 2) zc))))))))))
   (zg (zw (i:=8) cS.nd rfl (LK rfl) (aq (zb (m0D (bB (clE (za 1)) T.mu Zw hr)) (zb (cF (λ_=>rfl) (ah.of CF) (cK rfl T.ro (zb (zH af rfl T.qb LY (zb (za 3) zc)) zc)) (λ_ _ _ _ _=>(zz (i:=0) K2 rfl (LK rfl))) (λ_ _ _ _ _=>cB) (λ_ _ _ _ _=>(mD (bI (clE (za 1)) T.mu Z7 hr (clP (zb (za 0) zc)))))) (zb (m0D (bB (clE (za 2)) T.vx ZU hr)) zc)))))
   (zg (bX NH.never (λ_=>rfl) (liD (cU (clE (za 7)))) (zz (i:=9) cS.nd rfl (LK rfl))
   (zg (zw (i:=10) cS.nd rfl (LK rfl) (caD (zA Zr hr rfl (clP (zb (za 3) (zb (za 4) (zb (za 5) (zb (za 9) zc))))))))
   (zg (zw (i:=11) cS.nd rfl (LK rfl) (caD (zA YK hr rfl (clP (zb (za 1) (zb (za 2) (zb (za 9) zc)))))))
   (zg (zJ (cO (jD (tD (zG (clO (xh hu)) (clE (za 11)) (clE (za 10)) (zC _))) (jO (tD (zG (clO (xh hu)) (clE (caD (zA YK hr rfl (clP (zb (za 1) (zb (za 2) (zb (cX yS rfl T.Su boot_tuple (zb (za 9) zc)) zc))))))) (clE (za 10)) (zC _))))))
   (zh (zu fh))
   zR)
   (zh (zJ (cO (eS (tD (zG (clO iV) (clE (za 10)) (clE aE) (zC _))) (eQ (eL (bH (zH hW rfl T.vu O8 (zb (za 11) (zb (iN rfl T.Su boot_tuple (v:=.ty "tuple") rfl) zc))))))))
   (zh (zu fh))
   zR))))))
   (zh (zu (dZ (Gm (n:=2) hr.u3) (za 8) (aq (zb (m0D (bB (clE (za 1)) T.mu Zw hr)) (zb (cF (λ_=>rfl) (ah.of Ja) (cK rfl T.ro (zb (zH af rfl T.qb LY (zb (za 3) zc)) zc)) (λ_ _ _ _ _=>(zz (i:=0) Jh rfl (LK rfl))) (λ_ _ _ _ _=>cB) (λ_ _ _ _ _=>(mD (bI (clE (za 1)) T.mu Z7 hr (clP (zb (za 0) zc)))))) (zb (m0D (bB (clE (za 2)) T.vx ZU hr)) zc)))) (zC _)))))))))),?_}
  right;refine {a,ns,rfl,hS,{.inl ht},λr p wl sl cells m d md el mcs ms e0 e1 x H1 s1 er Z mn ts S1 sm wd ne=>?_};refine {r,_,rfl,SqT.of er,rfl,?_};have L:=Z.ln.len;obtain ⟨z3,bp,m2,Wp⟩:=Z.sz;have ck:ms.length<=16:=by lia
  right;refine {md,el,mcs,ms,e0,e1,rfl,Z.dh.mo,ck,Z.dh.ends,λl2 H2 s2 nl X5=>?_};have hj:∀k∈smM ms e0 e1 ms.length,k<ms.length/\(ms.getD k []).length≠0/\e0≠some k/\e1≠some k:=λk hk=>i6 hk;have hn:=xD ms e0 e1 ms.length;have bc:=kI ms e0 e1 ms.length;generalize smM ms e0 e1 ms.length=js at X5 hj hn bc;right;refine {Mu _,λb0 H3 n3 _=>{_,n3.same _ _ X5,λb2 H4 n4=>{'d',λb3 H5 n5 _=>{'d','d',?_}}}};have s5:=(n3.same.trans n4.same).trans n5.same;have dt:=s2.trans s5;refine zZ.rng (LsI H5 a l2 js) (λi τ ys H' I=>?_) {{_,rfl},{[],[],rfl,.nil,rfl},ze.refl _,'d'} ?_ ?_
  .obtain ⟨bs,aL,e,_,le⟩:=I.ys;rw [e,Ln,le];exact aJ (by have:=I.le;lia)
  .intro N i τ ys H' hi I hN;obtain ⟨t,rfl⟩:=I.ex;obtain ⟨bs,aL,rfl,pr,le⟩:=I.ys;have ej:(0+(i:Int))=((i:Nat):Int):=by lia
   erw [ej];refine {a,l2,ns,8+(i:Int),js,rfl,((s1.trans dt).trans I.same).seq hS,'l',I.same _ _ (s5 _ _ X5),'l',λfo os ZZ H6 s6 e2 pm ho=>hN _ _ _ {{_,rfl},{bs++[fo],aL++[os],by rw [Mp];rfl,eE (Paired.z9 pr λ_ _ e=>{s6 _ _ e.1,e.2}) (.cons ⟨ho,ZZ,pm⟩ .nil),by rw [LC,le];rfl},I.same.trans s6,by have hi:i<8:=hi;lia}}
  .intro τ ys H6 I b6 H7 n7;obtain ⟨bs,aL,rfl,pr,le⟩:=I.ys;have s7:ze H5 H7:=I.same.trans n7.same;have ey:=s7 _ _ n5.at_;have d2:=n7.at_;erw [ey,d2];refine {by rw [Ln,le];decide,λb8 H8 n8=>?_};have bt:ze H1 H8:=(dt.trans s7).trans n8.same;have Z8:=Z.same bt;obtain ⟨eo,dk⟩:=Z8.dh.tj.ob;refine {eo,_,dk,tQ,p,wl,sl,cells,m,d,rfl,Z8.dh.tj,_,.inl Z8.dh.mo.ls,?_};rw [Ln,Z.dh.mo.rows.length,Nb];refine {'l','l',zZ.rng (NpI H8 p d) (λi τ ys H' I=>?_) {{_,rfl},rfl,rfl,'d'} ?_ ?_}
   .rw [I.ys,Ln,OX];exact aJ (by have:=I.le;lia)
   .intro N i τ ys H' hi I hN;obtain ⟨t,rfl⟩:=I.ex;have e:=I.same;subst e;have ej:(0+(i:Int))=((i:Nat):Int):=by lia
    erw [ej,dk,gF];refine {p,wl,sl,cells,m,d,i,rfl,Z8.dh.tj,'l',hN _ _ _ {{_,rfl},by rw [I.ys,List.range_succ,Mp];rfl,rfl,'l'}}
   .intro τ ys H9 I b9 ee n9;have e:=I.same;subst e;have hy:=I.ys;rw [hy] at n9;have S9:=S1.pL (.of (bt.trans n9.same));obtain ⟨ek,fs,ed,e3,e6,eH,g9,_⟩:=id S9.ex;erw [g9,mE];refine {x,ts,rfl,S9,λls as cD H10 dg e7 ei da ec ea=>{'d',λew H11 a6 _=>?_}};have av:ze H9 H11:=(n9.same.trans dg).trans a6.same;have cC:=av _ _ n8.at_;have bP:ze H7 H11:=n8.same.trans av;have aT:=s7.trans bP;have cP:Paired (wx js H11) (b0::l2::b2::bs) ([]::js::js.reverse::aL):=by
     refine .cons {aT _ _ (n5.same _ _ (n4.same _ _ n3.at_)),js,.refl _} (.cons {aT _ _ (s5 _ _ X5),[],by rw [MS]} (.cons {by rw [aT _ _ (n5.same _ _ n4.at_),QU],[],by rw [MS];exact Qz js} (Paired.z9 pr λ_ _ e=>{(n7.same.trans bP) _ _ e.1,e.2})))
    have b7:=Z.same (bt.trans av);have dK:=S1.pL (.of (bt.trans av));obtain ⟨nn,dp⟩:=Z.dp;have ef:bA d false=e1:=my dp.nd (qm d false) dp.cold;have dm:∀k,e0=some k->k<ms.length:=λk e=>by rw [L];exact jP (dp.end_.trans e)
    have d1:∀k,e0=some k->0<(ms.getD k []).length:=λk e=>by rw [Z.ln.at_ k];have h:=dp.hot;rw [e] at h;exact jm h
    have et:∀k,e1=some k->0<(ms.getD k []).length:=λk e=>by rw [Z.ln.at_ k];have h:=dp.cold;rw [e] at h;exact jm h
    have a8:∀k:Nat,((d.rows.getD k []).length:Int)<=m:=λk=>by rw [<- Z.ln.at_ k];exact wd k
    have bq:∀k:Nat,alv ts k<64:=λk=>by rw [sm k];have:=FT (ms.getD k []);have:=wd k;lia
    refine {{_,SqL.of cC},aj.lst (xs:=(b0::l2::b2::bs).map V.ref) (LwI A H11 [some (V.ref a),some (.ref p),some (.ref x),some (.ref md),some (.ref el),some (.int m),some (.ref l2),some (.ref b8),some (.ref ew)]) {{none,none,none,rfl},zN.refl,b7.dh.tb} (λi σ H' _ I=>SqL.of (I.same.list cC)) ?_ ?_}
    .rintro i v σ H12 hv ⟨⟨t,u,v',rfl⟩,sT,a0⟩;rw [LP] at hv;obtain ⟨bi,cv,rfl⟩:=Me.mp hv;have d7:i<([]::js::js.reverse::aL).length:=by rw [<- aN cP];exact (Lp.mp cv).1
     obtain ⟨hb,ZZ,pm⟩:=aX cP cv (KE d7);generalize ([]::js::js.reverse::aL)[i]=os at hb pm;have WM:=sT.list hb;have G:DK A H12 p wl sl cells m d md el mcs ms e0 e1:={b7.dh.pL sT a0,Z.dp,Z.ln,Z.sz};have a7:=dK.pL sT;have d5:=pm.nodup_iff.mpr hn;have ct:=(Oa.mp d5).1;have c5:∀k∈os,k<ms.length/\(ms.getD k []).length≠0/\e0≠some k/\e1≠some k:=λk hk=>hj k (pm.mem_iff.mp (MG _ hk));have a9:os.length<=16:=by have:=pm.length_eq;rw [LC] at this;lia
     have ci:CI m ms e0 os ms e1:={rfl,wd,λk e=>{by rw [L];exact jP (ef.trans e),et k e,λz=>(c5 k z).2.2.2 e,λz=>ne k z e},λk e=>{d1 k e,rfl},λk hk=>by obtain ⟨g1,g2,g3,_⟩:=c5 k hk;exact {g1,rfl,ON g2,g3}};have U:=Ad (m:=m) dp Z.ln sm os;show cG 9 (.ref bi) _ _ _;right;cases a3:fM m ms e0 e1 os with
     | none =>
      rw [a3] at U;refine {md,el,bi,mcs,ms,e0,e1,m,os,rfl,G.dh.mo,ck,G.dh.ends,m2,Wp,WM,ct,ci,dm,λH13 Xv _=>?_,λt r c H13 Xv e=>(by rw [a3] at e;cases e)};have ai:=G.same Xv;have a4:=a7.pL (.of Xv);right;refine {p,wl,sl,x,bi,cells,m,d,ts,os,rfl,ai.dh.tj,dp.tx,dp.nd,dp.few,ai.dh.tb,m2,Wp,bp,a8,a4,bq,a9,.inl (Xv _ _ WM),λba S Wm _=>?_,λt r c ba S Wm e=>(by rw [U] at e;cases e)};right;refine .inl (.inl {rfl,?_});rw [if_pos rfl,decide_eq_true rfl];right;refine {_,S.list (Xv _ _ WM),λlt H15 J=>?_};have Xf:zN H13 H15:=S.trans (.of J.same);have a5:DK A H15 p wl sl cells m d md el mcs ms e0 e1:={ai.dh.pL Xf (Wm.same J.same),Z.dp,Z.ln,Z.sz};refine {p,wl,sl,x,lt,cells,m,d,ts,os,rfl,a5.dh.tj,dp.tx,dp.nd,dp.few,a5.dh.tb,m2,Wp,bp,a8,a4.pL Xf,bq,a9,.inr J.at_,λH16 ab Wl _=>?_,λt r c H16 ab Wl e=>(by rw [U] at e;cases e)};refine .inl (.inl {rfl,?_});rw [if_pos rfl,decide_eq_true rfl];right;exact {{_,_,_,rfl},((sT.trans (.of Xv)).trans Xf).trans ab,Wl}
     | some q2 =>
      obtain ⟨rr,cc⟩:=q2;rw [a3] at U;have c6:eqL [V.int rr,.int cc] [V.int rr,.int cc]=true:=mI rfl λy hy b z=>by simp [z] at hy
      refine {md,el,bi,mcs,ms,e0,e1,m,os,rfl,G.dh.mo,ck,G.dh.ends,m2,Wp,WM,ct,ci,dm,λH13 Xv e=>(by rw [a3] at e;cases e),λt1 r1 c1 H13 Xv e eu=>?_};rw [a3] at e;cases e;have ai:=G.same Xv;have a4:=a7.pL (.of Xv);right;refine {p,wl,sl,x,bi,cells,m,d,ts,os,rfl,ai.dh.tj,dp.tx,dp.nd,dp.few,ai.dh.tb,m2,Wp,bp,a8,a4,bq,a9,.inl (Xv _ _ WM),λba S Wm e=>(by rw [U] at e;cases e),λt2 r2 c2 ba S Wm e c4=>?_};rw [U] at e;cases e;have b1:=S.tup eu;right;refine {_,_,.inr ⟨c4,b1⟩,rfl,rfl,?_};rw [c6];right;refine {_,S.list (Xv _ _ WM),λlt H15 J=>?_};have Xf:zN H13 H15:=S.trans (.of J.same);have a5:DK A H15 p wl sl cells m d md el mcs ms e0 e1:={ai.dh.pL Xf (Wm.same J.same),Z.dp,Z.ln,Z.sz};refine {p,wl,sl,x,lt,cells,m,d,ts,os,rfl,a5.dh.tj,dp.tx,dp.nd,dp.few,a5.dh.tb,m2,Wp,bp,a8,a4.pL Xf,bq,a9,.inr J.at_,λH16 ab Wl e=>(by rw [U] at e;cases e),λt3 r3 c3 H16 ab Wl e eb=>?_};rw [U] at e;cases e;right;refine {_,_,.inr {eb,ab.tup (J.same _ _ b1)},rfl,rfl,?_};rw [c6];right;refine {_,_,_,_,_,rfl,rfl,.of (.tup (ab.tup (J.same _ _ c4))),rfl,?_};right;exact {{_,_,_,rfl},((sT.trans (.of Xv)).trans Xf).trans ab,Wl}
    .rintro σ H12 ⟨⟨t,u,v',rfl⟩,sT,a0⟩;have G:DK A H12 p wl sl cells m d md el mcs ms e0 e1:={b7.dh.pL sT a0,Z.dp,Z.ln,Z.sz};have a7:=dK.pL sT;obtain ⟨eC,b5⟩:=G.dh.tj.ob;erw [b5,tQ];refine {p,wl,sl,cells,m,d,rfl,G.dh.tj,_,.inl G.dh.mo.ls,?_};rw [Ln,Z.dh.mo.rows.length,Nb];refine {'l','l',zZ.rng (NpI H12 p d) (λi τ ys H' I=>?_) {{_,rfl},rfl,rfl,'d'} ?_ ?_}
     .rw [I.ys,Ln,OX];exact aJ (by have:=I.le;lia)
     .intro N i τ ys H' hi I hN;obtain ⟨t,rfl⟩:=I.ex;have e:=I.same;subst e;have ej:(0+(i:Int))=((i:Nat):Int):=by lia
      erw [ej,b5,gF];refine {p,wl,sl,cells,m,d,i,rfl,G.dh.tj,'l',hN _ _ _ {{_,rfl},by rw [I.ys,List.range_succ,Mp];rfl,rfl,'l'}}
     .intro τ ys H13 I c9 ba Xs;have e:=I.same;subst e;have d4:=I.ys;rw [d4] at Xs;have dd:=a7.pL (.of Xs.same);obtain ⟨ek,fs,ed,eD,eF,eh,d3,_⟩:=id dd.ex;erw [d3,mE];refine {x,ts,rfl,dd,λe5 e4 ts2 H15 bL ez dc b4 dT cp=>{'d',λeV H16 n16 _=>?_}};have cn:ze H13 H16:=(Xs.same.trans bL).trans n16.same;have sA:zN H11 H16:=sT.trans (.of cn);refine {_,sA.list a6.at_,_,n16.at_,rfl,?_,q H16};have en:cD=ts2:=E6 S1.ok.nd ec dT ea cp;subst en;have dV:∀{c:Addr}{xs:List V},ee c=some (.lst xs)->H16 c=some (.lst xs):=λh=>sA.list (a6.same _ _ (dg _ _ h));intro j y z O W9
      match j,O,W9 with
      | 0,O,W9=>cases O;cases W9;exact .inl {rfl,rfl}
      | 1,O,W9 =>
       cases O;cases W9;refine .inr {_,_,_,_,rfl,rfl,.inl {dV n9.at_,(bL.trans n16.same) _ _ Xs.at_},rfl,λj y z h1 h2=>?_};rw [h1] at h2;cases h2;obtain ⟨k,_,rfl⟩:=Ow.mp (LF h1);exact .inl {rfl,rfl}
      | 2,O,W9 =>
       cases O;cases W9;have la:=aN da;have eg:=aN b4;refine .inr {_,_,_,_,rfl,rfl,.inl {sA.list (a6.same _ _ ei),n16.same _ _ dc},by rw [Ln,Ln,la,eg],λj y z h1 h2=>?_};rw [LP] at h1 h2;obtain ⟨c1,c0,rfl⟩:=Me.mp h1;obtain ⟨c2,Xq,rfl⟩:=Me.mp h2;have bc:j<cD.length:=by rw [<- la];exact (Lp.mp c0).1
       have g1:H10 c1=some (.tup _):=aX da c0 (KE bc);have g2:H15 c2=some (.tup _):=aX b4 Xq (KE bc);refine .inr {c1,c2,_,_,rfl,rfl,.inr {sA.tup (a6.same _ _ g1),n16.same _ _ g2},rfl,λj y z h1 h2=>?_};rw [h1] at h2;cases h2;refine {rfl,?_};have:=LF h1;simp only [Lu,LS,or_false] at this;rcases this with rfl|rfl|rfl<;>rfl
      | j+3,O,_=>cases O
end
theorem all_mk{l:OpenLaw}{w:LW}{K:Frag}{h:Heap}{mg:Str->Option Value}{fa:Addr}{a6 ab bc a3 v6 a8 bt bL bP J S W a0 Z ul av aT a5 a7 a4 ut:Addr}{hu gw gd gr i4 c9 d7:Option Addr}{fv kl c3 d4 h6 h3:Array (Option Value)}{c4 eD cD hD ho:Value}{e6 b4 k5 ll hs ly dV eh hq kq jl cv ed hE hC l4 kb fb kn kE er eV j5 d5 lB f3 mb hx lp eo e5 hp:Tok}{g9 l5 lR gC hL ec:Nat}(X:K.In h)(G:h.Ns LG mg)(l1:mg "law"=some (.ref fa))
  (ia:Oh K LG "CleanError"=some (some (.ref a6)))
  (ez:Oh K LG "NoRow"=some (some (.ref ab)))
  (l3:Oh K LG "NoDisk"=some (some (.ref bc)))
  (k0:Oh K LG "Full"=some (some (.ref a3)))
  (et:Oh K LG "Stopped"=some (some (.ref v6)))
  (f6:Oh K LG "NoFile"=some (some (.ref a8)))
  (hn:Oh K LG "NoPlace"=some (some (.ref bt)))
  (c6:Oh K LG "HeldAlready"=some (some (.ref bL)))
  (j0:Oh K LG "NotHeld"=some (some (.ref bP)))
  (bp:Oh K LG "Disk"=some (some (.ref J)))
  (a9:Oh K LG "Files"=some (some (.ref S)))
  (ba:Oh K LG "State"=some (some (.ref W)))
  (cc:FnM K "is_whole" pN)
  (kf:FnM K V3 qo)
  (k3:FnM K V6 kL)
  (hF:FnM K V0 pO)
  (e7:FnM K "is_name" ma)
  (da:FnM K "is_word" mj)
  (d2:FnM K "sum_of" oA)
  (lz:FnM K "summed" mF)
  (iA:FnM K "body_of" qc)
  (hB:FnM K "row_text" jC)
  (lA:FnM K VW qJ)
  (g0:FnM K "read_row" jZ)
  (hI:FnM K "row_of" j7)
  (fm:FnM K VT jT)
  (iK:FnM K "row_at" rf)
  (b6:FnM K "rows_in" me)
  (b7:Oh K LG Wd=some (some (.ref a0)))
  (eu:K.lookup a0=some {c4,hu,.func (fnOf Wd Wd (gI fi) (dE fi) (zk fi) .none eD cD hD gw (.ref Z) ho),fv})
  (ih:codeIn K (.ref Z) Wd=true)
  (mn:tabIn K Wd=some (Z,ul))
  (b1:codeHdIn K Z ul=true)
  (ey:K.lookup ul=none)
  (b0:P2 K (.ref a0)=true)
  (lr:FnM K "end_of" rK)
  (ct:FnM K "empties" kP)
  (e4:FnM K "free_in" lZ)
  (dg:FnM K "room_with" lT)
  (ew:FnM K "cold_room" nK)
  (dT:FnM K "cleaned" mT)
  (en:FnM K "living_in" h9)
  (dk:au K J We "Disk.__init__" jx)
  (k6:au K J V9 "Disk.stretches" qv)
  (fy:au K J VY "Disk.places" qU)
  (hK:au K J Wa "Disk.next_place" pT)
  (hH:au K J "told" "Disk.told" oi)
  (la:au K J "signs" "Disk.signs" mU)
  (kj:au K J "write" "Disk.write" jr)
  (b9:au K J "empty" "Disk.empty" jt)
  (dh:au K J "stop" "Disk.stop" pe)
  (kx:au K J V2 "Disk.copied" k8)
  (v4:au K J Wc V5 lK)
  (c0:au K J "spend" "Disk.spend" mV)
  (eb:au K J VS "Disk.first_signs" jw)
  (ko:au K S We "Files.__init__" oF)
  (hg:au K S "many" "Files.many" nM)
  (kp:au K S V8 "Files.put" rp)
  (dp:au K S V7 "Files.cut" lW)
  (b5:au K S Wb "Files.hold" mi)
  (h7:au K S V2 "Files.copied" nO)
  (iB:au K S "bare" "Files.bare" ng)
  (b2:au K S "keep" "Files.keep" pX)
  (ht:au K S V1 "Files.refuse_if_none" rN)
  (hM:au K W We "State.__init__" lQ)
  (eF:au K W "spots" "State.spots" kH)
  (k4:FnM K "_law_at" qE)
  (lj:FnM K "_law_mixed" oo)
  (eH:FnM K V4 pR)
  (cp:FnM K "_law_text" lE)
  (hS:FnM K VR p8)
  (hY:FnM K "_law_idle" oN)
  (hh:FnM K "_law_disk" jN)
  (ek:FnM K "_law_torn" jR)
  (fL:FnM K VZ lS)
  (hO:FnM K "_law_room" nV)
  (l2:FnM K VU ke)
  (kF:FnM K VX jg)
  (hN:FnM K VV oJ)
  (d1:FnM K "law" gN)
  (lb:Oh K LG "all"=some none)
  (k2:Oh K LG "bool"=some none)
  (k1:Oh K LG "dict"=some none)
  (j2:Oh K LG "enumerate"=some none)
  (dm:Oh K LG "int"=some none)
  (h5:Oh K LG "isinstance"=some none)
  (ei:Oh K LG "len"=some none)
  (ib:Oh K LG "list"=some none)
  (gT:Oh K LG "max"=some none)
  (l6:Oh K LG "min"=some none)
  (gb:Oh K LG "ord"=some none)
  (lX:Oh K LG "range"=some none)
  (mc:Oh K LG "sorted"=some none)
  (hc:Oh K LG "str"=some none)
  (fF:Oh K LG "tuple"=some none)
  (b3:Oh K LG "zip"=some none)
  (hR:Oh K LG "FIGURES"=some (some (.str "0123456789" e6)))
  (ha:Oh K LG "LETTERS"=some (some (.str "abcdefghijklmnopqrstuvwxyz" b4)))
  (ft:Oh K LG "MOST_FIGURES"=some (some (.int 18 k5)))
  (fx:Oh K LG "MOST_LETTERS"=some (some (.int 6 ll)))
  (ef:Oh K LG "MOST_SIGNS"=some (some (.int 20 hs)))
  (hP:Oh K LG "MODULUS"=some (some (.int 65521 ly)))
  (kA:Oh K LG "COLD_KIND"=some (some (.str "carry" dV)))
  (f5:Oh K LG "LEAST_STRETCHES"=some (some (.int 3 eh)))
  (dt:Oh K LG "MOST_STRETCHES"=some (some (.int 16 hq)))
  (e2:Oh K LG "LEAST_PLACES"=some (some (.int 2 kq)))
  (g7:Oh K LG "MOST_PLACES"=some (some (.int 32 jl)))
  (gk:Oh K LG "PARTS"=some (some (.ref av)))
  (dd:K.lookup av=some { cls:=.type "dict",dict:=none,data:=.dict #[{ hash:=OU w.params (Lo "put"),key:=.str (Lo "put") cv,val:=.ref aT },{ hash:=OU w.params (Lo "cut"),key:=.str (Lo "cut") kn,val:=.ref a5 },{ hash:=OU w.params (Lo "hold"),key:=.str (Lo "hold") j5,val:=.ref a7 },{ hash:=OU w.params (Lo "free"),key:=.str (Lo "free") f3,val:=.ref a4 },{ hash:=OU w.params (Lo "carry"),key:=.str (Lo "carry") lp,val:=.ref ut }] g9,slots:=#[] })
  (e3:(av==sysModules)=false)
  (hj:K.lookup aT=some { cls:=.type "tuple",dict:=gd,data:=.seq #[.str (Lo "number") ed,.str (Lo "number") hE,.str (Lo "end") hC,.str (Lo "name") l4,.str (Lo "number") kb,.str (Lo "word") fb] l5,slots:=kl })
  (cC:K.lookup a5=some { cls:=.type "tuple",dict:=gr,data:=.seq #[.str (Lo "number") kE,.str (Lo "name") er,.str (Lo "number") eV] lR,slots:=c3 })
  (l7:K.lookup a7=some { cls:=.type "tuple",dict:=i4,data:=.seq #[.str (Lo "number") d5,.str (Lo "name") lB] gC,slots:=d4 })
  (eg:K.lookup a4=some { cls:=.type "tuple",dict:=c9,data:=.seq #[.str (Lo "number") mb,.str (Lo "name") hx] hL,slots:=h6 })
  (g8:K.lookup ut=some { cls:=.type "tuple",dict:=d7,data:=.seq #[.str (Lo "number") eo,.str (Lo "number") e5,.str (Lo "word") hp] ec,slots:=h3 })
  (eC:excIn K a6 [.type "ValueError",.type "Exception",.type "BaseException",.type "object"] "ValueError.__new__"=true)
  (ck:excIn K ab [.type "ValueError",.type "Exception",.type "BaseException",.type "object"] "ValueError.__new__"=true)
  (hk:excIn K a3 [.type "ValueError",.type "Exception",.type "BaseException",.type "object"] "ValueError.__new__"=true)
  (fo:excIn K v6 [.type "ValueError",.type "Exception",.type "BaseException",.type "object"] "ValueError.__new__"=true)
  (c2:mroIn K ab (.ref ab)=some true)
  (b8:mroIn K v6 (.ref v6)=some true)
  (jz:QJ K J Qb=true)
  (kc:QN K J=true)
  (dc:plainOver K J=true)
  (ee:findIn K (.ref J) "__setattr__"=some (some (.builtin "object.__setattr__")))
  (kk:makesIn K J=true)
  (g4:P2 K (.ref J)=true)
  (hb:findIn K (.ref J) "at_sides"=some none)
  (ff:findIn K (.ref J) "counted"=some none)
  (c5:findIn K (.ref J) "has_stopped"=some none)
  (ej:findIn K (.ref J) "left"=some none)
  (ka:findIn K (.ref J) "width"=some none)
  (ea:findIn K (.ref J) "written"=some none)
  (hQ:QJ K S Qb=true)
  (ky:QN K S=true)
  (j3:plainOver K S=true)
  (hr:findIn K (.ref S) "__setattr__"=some (some (.builtin "object.__setattr__")))
  (js:makesIn K S=true)
  (cn:P2 K (.ref S)=true)
  (d3:findIn K (.ref S) "births"=some none)
  (lY:findIn K (.ref S) "kept"=some none)
  (f7:QJ K W Qb=true)
  (hz:QN K W=true)
  (dK:plainOver K W=true)
  (g5:findIn K (.ref W) "__setattr__"=some (some (.builtin "object.__setattr__")))
  (j1:makesIn K W=true)
  (hy:P2 K (.ref W)=true)
  (hA:findIn K (.ref W) "next_mark"=some none)
  (l0:findIn K (.ref W) "next_row"=some none)
  (hl:findIn K (.ref W) "own_files"=some none)
  (hv:findIn K (.ref W) "spot_of"=some none) :
  ∃fd:LL,(∀(s:Lk)(v:Value),BindsTo s fd {[v],[]} [("_law_script",v)])/\(∀T,T∈[ul]->K.lookup T=none/\∃c,codeHdIn K c T=true)/\∀base:Heap,K.In base->base.Ns LG mg->fE mg base->zp l.prog w K mg base CX0 true 13 fa fd YA (ic ul K):=by
 obtain ⟨mm,ai,bq,aL⟩:=d1;have e:=l1.symm.trans (Og X G bq);cases e;have cP:∀(s:Lk)(v:Value),BindsTo s ai {[v],[]} [("_law_script",v)]:=by obtain ⟨_,_,_,_,_,_,_,_,_,rfl,_⟩:=aL.ex;exact λs v=>.of_eq rfl
 have T:Txt w K mg ⟨a6,ab,bc,a3,v6,a8,bt,bL,bP,J,S,W,ul,av,aT,a5,a7,a4,ut⟩:={Og X G gk,{{_,_,dd,(.cons (.cons (.cons (.cons (.cons .nil)))))},by show ([V8,V7,Wb,"free","carry"]:List Str).Nodup;decide +kernel,e3},λH=>.inr {_,_,_,hj,rfl,rfl,by show 6<=sizeLine;decide,(.cons {_,rfl} (.cons {_,rfl} (.cons {_,rfl} (.cons {_,rfl} (.cons {_,rfl} (.cons {_,rfl} .nil))))))},λH=>.inr {_,_,_,cC,rfl,rfl,by show 3<=sizeLine;decide,(.cons {_,rfl} (.cons {_,rfl} (.cons {_,rfl} .nil)))},λH=>.inr {_,_,_,l7,rfl,rfl,by show 2<=sizeLine;decide,(.cons {_,rfl} (.cons {_,rfl} .nil))},λH=>.inr {_,_,_,eg,rfl,rfl,by show 2<=sizeLine;decide,(.cons {_,rfl} (.cons {_,rfl} .nil))},λH=>.inr {_,_,_,g8,rfl,rfl,by show 3<=sizeLine;decide,(.cons {_,rfl} (.cons {_,rfl} (.cons {_,rfl} .nil)))},Nt X G lb,Nt X G k2,Nt X G k1,Nt X G j2,Nt X G dm,Nt X G h5,Nt X G ei,Nt X G ib,Nt X G gT,Nt X G l6,Nt X G gb,Nt X G lX,Nt X G mc,Nt X G hc,Nt X G fF,Nt X G b3,{_,Og X G hR,{_,rfl}},{_,Og X G ha,{_,rfl}},{_,Og X G ft,{_,rfl}},{_,Og X G fx,{_,rfl}},{_,Og X G ef,{_,rfl}},{_,Og X G hP,{_,rfl}},{_,Og X G kA,{_,rfl}},{_,Og X G f5,{_,rfl}},{_,Og X G dt,{_,rfl}},{_,Og X G e2,{_,rfl}},{_,Og X G g7,{_,rfl}},Og X G ia,Og X G ez,Og X G l3,Og X G k0,Og X G et,Og X G f6,Og X G hn,Og X G c6,Og X G j0,Og X G bp,Og X G a9,Og X G ba,eC,ck,hk,fo,c2,b8,⟨jz,kc,dc,ee⟩,hb,ff,c5,ej,ka,ea,⟨hQ,ky,j3,hr⟩,d3,lY,⟨f7,hz,dK,g5⟩,hA,l0,hl,hv};have z:=GU (st:=fi) eu ih b0;have U:=z.binds (ps:=XX) fun|_,_,_,_,_,_,[_],_=>rfl;refine {ai,cP,λT hT=>?_,λbase KB _ h4=>?_}
 .simp only [Lu,LS,or_false] at hT;rcases hT with rfl
  .exact {ey,_,b1}
 have O:iz mg base (.ref Z) ul:={{Z,rfl,codeHd_of_K KB b1},h4};have ZW:=gf l.prog base true X G k3 (λ_ _ F=>BE F T) λ_ _ _ _ _ _=>u3 λ_ _ _=>rfl;have Yx:=gf l.prog base true X G e7 (λ_ _ F=>D8 F T ZW) λ_ _ _ _ _ _=>u1 λ_=>rfl;have Yw:=gf l.prog base true X G da (λ_ _ F=>Kf F T ZW) λ_ _ _ _ _ _=>u1 λ_=>rfl;have ZC:=gf l.prog base true X G hF (λ_ _ F=>By F T ZW) λ_ _ _ _ _ _=>u1 λ_=>rfl;have Yd:=gf l.prog base true X G d2 (λ_ _ F=>A9 F T) λ_ _ _ _ _ _=>u1 λ_=>rfl;have Zk:=gf l.prog base true X G lz (λ_ _ F=>Jg F T Yd) λ_ _ _ _ _ _=>u1 λ_=>rfl;have Yv:=gf l.prog base true X G iA (λ_ _ F=>Jw F T Zk) λ_ _ _ _ _ _=>u1 λ_=>rfl;have Y3:=gf l.prog base true X G lA (λ_ _ F=>FQ F T) λ_ _ _ _ _ _=>u1 λ_=>rfl;have YC:=gf l.prog base true X G hB (λ_ _ F=>JL F T Zk Y3) λ_ _ _ _ _ _=>u1 λ_=>rfl;have Y2:=gx l.prog base true X G fm (λ_ _ F=>Gy F T ZC Yx Yw) λ_ _ _ _ _ _=>u2 λ_ _=>rfl;have Yc:=gx l.prog base true X G hI (λ_ _ F=>FV F T Y2) λ_ _ _ _ _ _=>u1 λ_=>rfl;have YD:=gx l.prog base true X G g0 (λ_ _ F=>Fp F T Yv Yc) λ_ _ _ _ _ _=>u1 λ_=>rfl;have Z4:=gm l.prog base false k6 (λ_ _ F=>Ji F T) λ_ _ _ _ _ _=>u1 λ_=>rfl;have Z5:=gm l.prog base true fy (λ_ _ F=>Fu F T) λ_ _ _ _ _ _=>u1 λ_=>rfl;have Zw:=gm l.prog base true la (λ_ _ F=>FO F T) λ_ _ _ _ _ _=>u1 λ_=>rfl;have Z7:=gm l.prog base true hK (λ_ _ F=>Ht F T) λ_ _ _ _ _ _=>u2 λ_ _=>rfl;have Y0:=gm l.prog base true hH (λ_ _ F=>FK F T) λ_ _ _ _ _ _=>u3 λ_ _ _=>rfl;have Z9:=gmx l.prog base true v4 (λ_ _ F=>ET F T) λ_ _ _ _ _ _=>u1 λ_=>rfl;have ZN:=gm l.prog base true c0 (λ_ _ F=>Gn F T) λ_ _ _ _ _ _=>u2 λ_ _=>rfl;have ZJ:=gmx l.prog base true eb (λ_ _ F=>Ko F T ZN Z9) λ_ _ _ _ _ _=>u2 λ_ _=>rfl;have Zx:=gmx l.prog base true kj (λ_ _ F=>La F T ZJ Z9) λ_ _ _ _ _ _=>u3 λ_ _ _=>rfl;have YE:=gf l.prog base false X G cc (λ_ _ F=>Ft F T) λ_ _ _ _ _ _=>u1 λ_=>rfl;have ZV:=gf l.prog base false X G kf (λ_ _ F=>Ay F T YE) λ_ _ _ _ _ _=>u3 λ_ _ _=>rfl;have Yt:=gc l.prog base false X G bp kk g4 dk (λ_ _ F=>Ed F T ZV) λ_ _ _ _ _ _=>u3 λ_ _ _=>rfl;have Zb:=gmx l.prog base true b9 (λ_ _ F=>C7 F T ZN Z9) λ_ _ _ _ _ _=>u2 λ_ _=>rfl;have Ya:=gf l.prog base true X G iK (λ_ _ F=>Hi F T Y0 YD) λ_ _ _ _ _ _=>u3 λ_ _ _=>rfl;have Yu:=gf l.prog base true X G b6 (λ_ _ F=>Lj F T Z7 Ya) λ_ _ _ _ _ _=>u2 λ_ _=>rfl;have Ze:GF l.prog w K mg base true 9 Wd XX (jv _):={_,_,FB z rfl O T Z4.weak Yu,Og X G b7,b0,U};have Zj:=gf l.prog base true X G lr (λ_ _ F=>Au F T Ze) λ_ _ _ _ _ _=>u2 λ_ _=>rfl;have Ys:=gf l.prog base true X G ct (λ_ _ F=>Fo F T Z4.weak Z7) λ_ _ _ _ _ _=>u1 λ_=>rfl;have Zv:=gf l.prog base true X G e4 (λ_ _ F=>KG F T Z5 Z7) λ_ _ _ _ _ _=>u2 λ_ _=>rfl;have Zn:=gm l.prog base false kx (λ_ _ F=>FD F T Z4 Yt) λ_ _ _ _ _ _=>u1 λ_=>rfl;have YZ:=gm l.prog base true dh (λ_ _ F=>FI F T) λ_ _ _ _ _ _=>u2 λ_ _=>rfl;have YL:=gc l.prog base true X G a9 js cn ko (λ_ _ F=>Jv F T) λ_ _ _ _ _ _=>u1 λ_=>rfl;have ZM:=gm l.prog base true hg (λ_ _ F=>Bu F T) λ_ _ _ _ _ _=>u2 λ_ _=>rfl;have ZS:=gm l.prog base true ht (λ_ _ F=>KC F T) λ_ _ _ _ _ _=>u2 λ_ _=>rfl;have YX:=gm l.prog base true kp (λ_ _ F=>Dt F T ZM ZV.weak) λ_ _ _ _ _ _=>u4 λ_ _ _ _=>rfl;have YW:=gm l.prog base true dp (λ_ _ F=>Gk F T ZS ZM ZV.weak) λ_ _ _ _ _ _=>u3 λ_ _ _=>rfl;have ZL:=gm l.prog base true iB (λ_ _ F=>Ih F T YL) λ_ _ _ _ _ _=>u1 λ_=>rfl;have Zd:=gm l.prog base true b2 (λ_ _ F=>F5 F T ZL) λ_ _ _ _ _ _=>u3 λ_ _ _=>rfl;have Za:=gm l.prog base true b5 (λ_ _ F=>Ec F T Zd) λ_ _ _ _ _ _=>u2 λ_ _=>rfl;have Zs:=gm l.prog base true h7 (λ_ _ F=>FR F T ZL) λ_ _ _ _ _ _=>u1 λ_=>rfl;have XO:=gc l.prog base true X G ba j1 hy hM (λ_ _ F=>CC F T Zs) λ_ _ _ _ _ _=>u5 λ_ _ _ _ _=>rfl;have ZU:=gm l.prog base true eF (λ_ _ F=>IB F T) λ_ _ _ _ _ _=>u1 λ_=>rfl;have YT:=gf l.prog base true X G en (λ_ _ F=>Fk F T ZU) λ_ _ _ _ _ _=>u2 λ_ _=>rfl;have YS:=gf l.prog base true X G dg (λ_ _ F=>EV F T Zv Zj Z5) λ_ _ _ _ _ _=>u2 λ_ _=>rfl;have YU:=gf l.prog base true X G ew (λ_ _ F=>JY F T Zv Zj Z5 Ys) λ_ _ _ _ _ _=>u1 λ_=>rfl;have ZT:=gf l.prog base true X G k4 (λ_ _ F=>Dq F T) λ_ _ _ _ _ _=>u2 λ_ _=>rfl;have Zc:=gf l.prog base true X G lj (λ_ _ F=>Ci F T) λ_ _ _ _ _ _=>u2 λ_ _=>rfl;have ZX:=gf l.prog base true X G eH (λ_ _ F=>Gd F T ZT Zc) λ_ _ _ _ _ _=>u4 λ_ _ _ _=>rfl;have ZR:=gf l.prog base true X G fL (λ_ _ F=>Gs F T) λ_ _ _ _ _ _=>u1 λ_=>rfl;have YR:=gf l.prog base true X G hO (λ_ _ F=>BS F T ZR) λ_ _ _ _ _ _=>u3 λ_ _ _=>rfl;have ZH:=gf l.prog base true X G l2 (λ_ _ F=>KM F T) λ_ _ _ _ _ _=>u2 λ_ _=>rfl;have Zo:=gf l.prog base true X G cp (λ_ _ F=>E4 F T ZX) λ_ _ _ _ _ _=>u2 λ_ _=>rfl;have YY:=gf l.prog base true X G hY (λ_ _ F=>Kt F T) λ_ _ _ _ _ _=>u2 λ_ _=>rfl;have Zm:=gf l.prog base true X G hS (λ_ _ F=>CW F T ZX) λ_ _ _ _ _ _=>u1 λ_=>rfl;have YV:=gf l.prog base true X G ek (λ_ _ F=>FF F T ZH YZ Zb Zn) λ_ _ _ _ _ _=>u4 λ_ _ _ _=>rfl;have YQ:=gf l.prog base true X G hh (λ_ _ F=>Ei F T Zm Yt.weak YL ZT ZX Zx Zo YY YC YX Za YW XO YV) λ_ _ _ _ _ _=>u1 λ_=>rfl;have YK:=gf l.prog base true X G dT (λ_ _ F=>HW F T YU YT Z5 YS) λ_ _ _ _ _ _=>u3 λ_ _ _=>rfl;have Zr:=gf l.prog base true X G kF (λ_ _ F=>GT F T ZR YR) λ_ _ _ _ _ _=>u4 λ_ _ _ _=>rfl;have YO:=gf l.prog base true X G hN (λ_ _ F=>KS F T ZX) λ_ _ _ _ _ _=>u3 λ_ _ _=>rfl;exact Jx aL T YQ ZH YO Zw Z7 ZU Zr YK
theorem walk{l:OpenLaw}{W:(Str->Option Value)->Heap->Prop}{K:Params->Frag}(ul:Addr){ts:List Addr}(hn:l.most=some 63)(S:d.params.defaults=[])(hY:∀(w:LW)(h:Heap),U w h->(K w.params).In h/\∀T∈ts,h.get? T=some (tabObj #[]))(O:∀T,T∈ts->T∈[ul])(G:∀T,T∈[ul]->T∈ts)(hnd:([ul]:List Addr).Nodup)(F:∀(w:LW)(mg:Str->Option Value)(fa:Addr)(h:Heap),(K w.params).In h->h.Ns LG mg->mg d.name=some (.ref fa) ->
   ∃fd:LL,(∀(s:Lk)(u:Value),BindsTo s fd {[u],[]} [("_law_script",u)])/\(∀T,T∈[ul]->(K w.params).lookup T=none/\∃c,codeHdIn (K w.params) c T=true)/\∀base:Heap,(K w.params).In base->base.Ns LG mg->fE mg base->zp l.prog w (K w.params) mg base CX0 true 13 fa fd YA (ic ul (K w.params))):
  WalkO q Z W U l.row.toRowW d [] (λf vs=>PySem.call f vs) :=
 L2.walk_ofT (n:=63) (k:=13) (x:="_law_script") (CX:=λ_=>CX0) (sp:=λw=>ic ul (K w.params)) (ts:=ts) hn 'd' S {λ_=>rfl,'d','d',rfl} hY (λw mg fa h a b c=>let ⟨fd,g1,g2,g3⟩:=F w mg fa h a b c;{fd,g1,λT J=>g2 T (O T J),g3}) (λ_ H a ns hl J hS=>{a,ns,rfl,hS,hl,J _ (G _ 's'),λ_=>rfl}) λ_ _ _ _ _ z=>z
end K82
def PySem.W.Fast.SL:Nat:=0
def PySem.W.Fast.Sb:Nat:=0
def PySem.W.Fast.SN:Nat:=0
def PySem.W.Fast.R6:Nat:=0
def PySem.W.Fast.SX:Nat:=0
def PySem.W.Fast.SD:Nat:=0
def PySem.W.Fast.Sj:Nat:=0
def PySem.W.Fast.SV:Nat:=0
def PySem.W.Fast.So:Nat:=0
def PySem.W.Fast.SQ:Nat:=0
def PySem.W.Fast.Sg:Nat:=0
def PySem.W.Fast.R7:Nat:=0
def PySem.W.Fast.Sl:Nat:=0
def PySem.W.Fast.SJ:Nat:=0
def PySem.W.Fast.SK:Nat:=0
def PySem.W.Fast.Sf:Nat:=0
def PySem.W.Fast.R1:Nat:=0
def PySem.W.Fast.SA:Nat:=0
def PySem.W.Fast.S2:Nat:=0
def PySem.W.Fast.SR:Nat:=0
def PySem.W.Fast.S3:Nat:=0
def PySem.W.Fast.S6:Nat:=0
def PySem.W.Fast.SS:Nat:=0
def PySem.W.Fast.Si:Nat:=0
def PySem.W.Fast.SM:Nat:=0
def PySem.W.Fast.R0:Nat:=0
def PySem.W.Fast.R8:Nat:=0
def PySem.W.Fast.S4:Nat:=0
def PySem.W.Fast.SY:Nat:=0
def PySem.W.Fast.Sy:Nat:=0
def PySem.W.Fast.SO:Nat:=0
def PySem.W.Fast.R5:Nat:=0
def PySem.W.Fast.SC:Nat:=0
def PySem.W.Fast.Sa:Nat:=0
def PySem.W.Fast.SF:Nat:=0
def PySem.W.Fast.S0:Nat:=0
def PySem.W.Fast.SE:Nat:=0
def PySem.W.Fast.SW:Nat:=0
def PySem.W.Fast.Sh:Nat:=0
def PySem.W.Fast.Sd:Nat:=0
def PySem.W.Fast.R9:Nat:=0
def PySem.W.Fast.Sx:Nat:=0
def PySem.W.Fast.Se:Nat:=0
def PySem.W.Fast.R4:Nat:=0
def PySem.W.Fast.S5:Nat:=0
def PySem.W.Fast.SZ:Nat:=0
def PySem.W.Fast.Sz:Nat:=0
def PySem.W.Fast.Sk:Nat:=0
def PySem.W.Fast.Sm:Nat:=0
def PySem.W.Fast.R3:Nat:=0
def PySem.W.Fast.SU:Nat:=0
structure PySem.W.Fast:Prop where(tw6167075067333817973 tw15325361311707152073 tw5366117946794127201 tw17094125845754016086 tw2610533006641233354 tw8126072292604259213 tw12096485035323870091 tw3371082511085777124 tw10002757641131043831 tw4818745989159957620 tw14072150209747640111 tw17074151310568329640 tw10497488001247036069 tw7092726498952790892 tw6310848921717014634 tw14088701307282230479 tw18138205551083952087 tw9128957048332516235 tw1639403711458886173 tw4772460903758974966 tw1330694407888001616 tw313693450524046663 tw3716957077550178395 tw12872709926841217120 tw5737170647739995186 tw18228452046715448551 tw17007332714534222772 tw602068396682058843 tw2268358378336688439 tw9587955272514590636 tw5005375844763285013 tw17647794494246027312 tw8473723241927728245 tw16060832580188761588 tw7366048545172534772 tw1973027701103432530 tw7715893183033804968 tw2646027763461067737 tw13681265918727883954 tw14801227944910570698 tw16931603540812796986 tw9843923584994131992 tw14425104903092057069 tw17666744179855694832 tw565268530450376739 tw2241229167570710937 tw9205084895309634212 tw11980227543932508495 tw17733954304871536960 tw10020152049788963941 tw3433947140039539859 tw3191368842267726860 tw13389145847084221652 tw2946480925937340419 tw6808188272678406522 tw18062912484145145650 tw6137409306987862921 tw9084225560373447394 tw12546927517794249818 tw2429654846549995343 tw15289953326210722498 tw6894576054821270849 tw17800286148990551713 tw13279371773497240094 tw6555773782870177140 tw17205550798363316448 tw11327460087654940500 tw14655142139638267742 tw7220651959303517893 tw7095724652092945996 tw3771606414339004826 tw14430919746515926368 tw6439732304900847990 tw17667609419390556573 tw17929678739555989642 tw16839727294417069771 tw5982243187077506124 tw4926406645192331446 tw12577214571250205990 tw521461599347641036 tw18100694910358770181 tw13165541813360770083 tw3490606653370687779 tw1850778547968377181 tw6162230030524294816 tw17804046002468561101 tw8670943451710168439 tw6693639605989306670 tw5542090969574623156 tw3745182967245123863 tw8231635198665763193 tw12639744448998060361 tw2997788297980994769 tw12109980415304409787 tw8670846481648874575 tw10205669101523695460 tw14255313662606122313 tw9971223624016901940 tw4658431594448547372 tw17634726333057402406 tw3876750807523304457 tw971557380562662459 tw15100097199938989688 tw5809466741858897303 tw9238980131850522102 tw5346451439495780156 tw16719039639027672783 tw13658462259532932508 tw7125229756766574240 tw15019439601324547034 tw8521718904863875288 tw8255697967141487173 tw7361252345709697287 tw4534512080635737234 tw1951487375416760150 tw1926655670560305366 tw7895374350926914093 tw2723248807694424958 tw2158770717408153603 tw6044594528291667893 tw16244344624613166600 tw3728348635306582075 tw2106357400334530676 tw10703335395478744703 tw4447040472117277722 tw12026531374460083370 tw15712769749275194260 tw12306187470993511476 tw3101781692294076087 tw2168570194829295383 tw11629550426359750063 tw8054102071102463014 tw15259843275111565958 tw6426959686194839012 tw5473436218638658027 tw17596049454004191187 tw10002655512288262912 tw5131181028771133206 tw5194636392625177090 tw2622601144467729221 tw10424232981971020192 tw10045841080719363392 tw15824230103920160435 tw12555546094748053161 tw9879579023920643844 tw17555009140148274396 tw14966741769796840014 tw18169420860571143755 tw16197149027936644309 tw16369148028554787123 tw15926451286194632705 tw1565506872762668389 tw14613425121344469763 tw4589740780982374057 tw477488065052096281 tw588397569475287173 tw18342036944596512113 tw9997545755091185180 tw13777182919584880044 tw3257710875708715435 tw17728257029315936067 tw3687999650260940238 tw16369264157243003933 tw3073731780532784399 tw1112234199607456835 tw1512347749881074062 tw1724613476746153382 tw13201919741948587042 tw1698823078521678999 tw12327223127913133381 tw6642969242425794958 tw1104500477188088009 tw16534544445536781354 tw1493724452974436923 tw14869499606202448311 tw10303399941242035462 tw2814130221963077030 tw10205604350434273857 tw14798333944239640237 tw6381444309631117976 tw3685552439596703602 tw14877149931769139813 tw17579887815693294486 tw10636259465073907582 tw10644625561682985832 tw13680558539604389496 tw13510138455448947235 tw9588874070351505342 tw10699020135708159117 tw17923955189607241359 tw12344160050773143387 tw16900054017254372526 tw12159779110359193043 tw13626070717129812911 tw8346733941262784505 tw6828241675600017800 tw3712846410486458652 tw16013708610042902935 tw4121734700685393823 tw16788811623889542016 tw7208261096700875354 tw4917403736171024713 tw9891305299385623694 tw7880657388720079592 tw12150230584624296011 tw9427992426459243573 tw4327891324342669269 tw7227874276335380049 tw10668368519465835623 tw7726337690272137449 tw388271693561347430 tw3167201444576063017 tw13298346294638366180 tw9361003037480156527 tw8161228120550408635 tw18056955824521123524 tw9910240053700148195 tw7113229678265778363 tw1938193320148913227 tw9297176075505479226 tw14186617103118298171 tw13548012499709910780 tw10413076406358349215 tw13968690153515164995 tw12302694521125019125 tw7002835255326902942 tw11522650481098397290 tw11990872211510068704 tw17744394772274266615 tw12016847697891321521 tw11430987302068894924 tw2084698688178555172 tw13597511498120339076 tw7930802848023151077 tw7184942991839163752 tw8530306666455544266 tw8706406670672495019 tw5528753524520810942 tw15757949744986405843 tw14275254389862526801 tw8363886676556871773 tw16664131474875136148 tw12221425804953568775 tw7282172756922535140 tw307233607057704532 tw1131815734348082480 tw8555336605890187481 tw17068550865063268273 tw17245658629788954870 tw11682757412275591781 tw17589979276714325854 tw10663935418887992303 tw14641373088933527961 tw134756117945705771 tw1321411641411059974 tw7172047305490542005 tw3971966818036698666 tw6282091948500337183 tw13306992222847790328 tw17777098521886039828 tw18174747566987866009 tw13434443948419686882 tw8401906109619987356 tw3697437602858269676 tw304937250288643314 tw2003267258363060896 tw17700181330623745137 tw13534616086181165162 tw8408335144805855047 tw7722542705753468552 tw2528862076638659375 tw5023185477707002989 tw13044016381659747655 tw1500064832181368625 tw10777356576244444674 tw3692374653921444855 tw14147186429173194526 tw11203191772228428020 tw9160929103504774146 tw9891272331449374925 tw14240736124334464091 tw17203631972399666301 tw12419683338348613743 tw6387163838187210261 tw13077048538536322491 tw7666477681100259049 tw6186217475961116961 tw5291145660780709269 tw1660486864539069518 tw17899245584935193801 tw10354908784612403343 tw10169209442184721562 tw9009597137397687637 tw2934312529399618165 tw11620438500963823086 tw14700270584572101828 tw1244058655623702636 tw14280753783521001341 tw6857877198024799178 tw2033266537673506625 tw15758371678615565281 tw11480858073493726584 tw11128333372417670574 tw8177919392775840904 tw17634366681710777315 tw17218602450279522808 tw13089080329334251797 tw7292986309700822423 tw7018733466122876976 tw17020046051900082300 tw16187189424850618593 tw16493939825960713217 tw10955766585682124241 tw689858378495707964 tw4159039300817504938 tw17221906082241176064 tw15455416835879934342 tw17277937151507948199 tw15684753721533540547 tw12139675680200487593 tw10789835008267338311 tw4225508197018165436 tw11567234990400251995 tw8677224026521302868 tw8667354632874870269 tw3586489743561199968 tw17566204781499381807 tw17537367048146598188 tw16742006661091679042 tw12755016399685629871 tw9923255670947446383 tw15585191101113454964 tw8218722161168976104 tw17051913409288817934 tw14757715890803987884 tw13307208615930808626 tw12987989248896174118 tw11954885994540359337 tw1172053276295880609 tw9223589649387221559 tw5155546965055579710 tw8415197366848131107 tw3505309723417509336 tw17889608866829986034 tw9069628358686572019 tw8814751025702035397 tw3977395281687556147 tw17811776198785265330 tw14394697126185699496 tw1398291424487754195 tw12806961744125633679 tw17350966592809500484 tw13740513181583583407 tw13202210141227156426 tw8556648845230886325 tw2376381232600577814 tw6214816635700678920 tw5184021222439171062 tw15616330207928996073 tw9191372983390682676 tw3382233812343956791 tw14975588804054391358 tw13320723038763374233 tw13030481482276234321 tw8876664860301606563 tw15353407225002924907 tw1991634394880159186 tw175704971539587434 tw11248562395805469865 tw10838428393684581268 tw4362194806188416703 tw10553733116951570996 tw6823319911013459232 tw9217118911696508263 tw7981757592168176037 tw8930566837661483828 tw4608078957837845982 tw18040435123319265648 tw16738554056672755285 tw15259104209540459526 tw14175667161428402929 tw3420118697504113824 tw9720628169401794442 tw3031026947953600190 tw16399416025201890181 tw995158145900681086 tw12797784746363971861 tw3064491182122855635 tw17906405150774054196 tw4100590212320376597 tw17671368845334871459 tw17060904884655253589 tw14258252908064609492 tw7590331184133997138 tw14760418011486581325 tw356036400042671102 tw4873735338867030464 tw15232286251363502149 tw7418913515700730297 tw14065870071708185476 tw16532376656494202544 tw14822335934508580143 tw9948942090023514235 tw10302494263690038508 tw15853934536123469389 tw18094452379112352387 tw3522834680178599478 tw2822271692386968204 tw17837150345203753686 tw12498123474077422134 tw16079576405339215712 tw16053998896145761116 tw3662942463603464236 tw12712725714005339845 tw3449731751537106523 tw3498127442747016891 tw1353341675120534554 tw17516229724003772537 tw1535560042058071070 tw5154653317221420461 tw4301126846345933645 tw11622063229526755213 tw9241991841357087574 tw6792208146161722036 tw6585447673447993342 tw13857746913077270708 tw17688424376252006530 tw12578012568171563313 tw17915561316020174757 tw9618614260680746948 tw6582742281954079872 tw3213361678847195673 tw16954943392799347946 tw13093523286677260189 tw3749595907835953358 tw16332484337447344596 tw9819737791753000080 tw5109484062275754354 tw12667012939316660069 tw17913374425663445090 tw15180438802044085837 tw13359490206406866742 tw11661067917704845897 tw15084969104525653273 tw13609012684859212161 tw12760776962031768792 tw8697230690100789132 tw243245818105305144 tw1789968849736640709 tw4538959856653768816 tw10090083205840970898 tw13641699214506087622 tw9817396305789897800 tw13140519316162999179 tw11862845908157230780 tw7059699318579944372 tw6358271581813790030 tw2145515455548203260 tw1071233486426739804 tw3244301064051444389 tw17724051521392085177 tw7245639202750450242 tw11605766221847658139 tw788989915125113519 tw2367033382129356485 tw167231749659989280 tw5885341268270720929 tw4326197929481119563 tw355087766018818684 tw18190401361817108013 tw15111550511387986781 tw15095823509870218074 tw13567521417530061722 tw10853473076002920909 tw7613509744147269919 tw17233022863052518843 tw10334723947255836665 tw6995181210116981296 tw15214495477244721271 tw15041037018802796959 tw12159760502442008154 tw10868248495812097989 tw9890590520839528135 tw2157153183851084907 tw16700339860542270415 tw11327011152606991132 tw8186698711269474219 tw5830436811598904890 tw18039077095806441022 tw16710028303661652116 tw16618391141691381628 tw14838562013444224535 tw13746881301705968353 tw13041628188510564502 tw12600146621127147556 tw14942519868344943234 tw16679928248121227270 tw8588939476732237971 tw818659115125000880 tw477700583638349053 tw2808908958152509812 tw12954034826348574469 tw10659450013819011905 tw12974811387710218441 tw319907537234552979 tw12788097533798052722 tw9952790694458225930 tw9658216903600154589 tw8066203008177759226 tw7585667152927774473 tw6624644798972286324 tw6123664391264648790 tw5938494992066400138 tw5354634693729143767 tw3656103850003496697 tw199228167914222436 tw17525013825773967025 tw16659696872342755881 tw1641848555545033780 tw15281213439512266603:True)
open PySem PySem.W PyProof.Rows
set_option maxRecDepth 100000 in
set_option maxHeartbeats 0 in
theorem PySem.Challenge.cw_cleanrows_k82_cleaned_in_any_order_holds : PySem.Challenge.rw_cleanrows_k82_cleaned_in_any_order.Holds := by
 w_on;o_law;k_head;(case hw=>w_witness2)
 k_fill
 refine K82.walk 246 (l:=PySem.Challenge.rw_cleanrows_k82_cleaned_in_any_order) rfl rfl (λw h Y=>{PySem.W.km_in_of Y,PySem.W.km_tabs_of Y}) 'd' 'd' 'd' ?F
 case F =>
  intro w mg fa h KX G hmg
  refine' K82.all_mk KX G hmg ..
  all_goals try refine' {_,_,?_,{{_,_,_,_,_,_,_,_,_,rfl,?_,?_},?_}}
  all_goals try refine' {_,_,?_,?_,{{_,_,_,_,_,_,_,_,_,rfl,?_,?_},?_}}
  all_goals first|k_is|kit_is|k_exc|rfl|decide +kernel|skip
