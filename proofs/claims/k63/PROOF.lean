import PyProof.Rows.All
import Wide.All
import OpenK.AllK
import Wide.FinOn
import Lean
import PyProof.EqAt
import PyProof.EqKinds
import PyProof.TupleCall
import KE.KUnpack
import PyProof.NeKinds
import PyProof.EnumFor
import PyProof.EnumStmt
import PyProof.EnumMake
import PyProof.Draws
import PyProof.StrWalks
import PyProof.Rows.FStr
import PyProof.Rows.CallKw2
import PyProof.StrBlockL
import KE.KIntText
import PyProof.ConsumeWalk
import PyProof.StrBlockG
import PyProof.CallStr
import PyProof.Rows.Range3
import PyProof.MeetsDict
import PyProof.DictList
import PyProof.StrLawsChain
import PyProof.StrLawsNeg
import KE.IntTextLaws
import KE.IntTextText
import PyProof.CallFns
import PyProof.CompUse
import PyProof.DictWalks
import KE.KDictSum
import PyProof.FString5
import KE.KLam
import KE.KSortKey
import KE.KNestM
import PyProof.Rows.RuleN_abs
import PyProof.WalkInts
import KE.KMinKey
import KE.KSortTup
import PyProof.DictCompW
import PyProof.SetRoads
import PyProof.SetNew
import KE.KEqDict
import PyProof.ListRange
import KE.KRevSl
import PySem.Challenge.RW_cleanrows_k63_whole_emptied_best_first
open PySem renaming wpAny_bind->fv,Shared->p8,wpAny_pure->MZ,mainGlobals->M6,Program->M8,FuncData->M9,wpAny->Nb,model->Nf,Builtin->Ng,World->Nl,Around->Np,starEach->Nq,Expr->Nr,wpAny_field->Nv,boot_len->NA,wpAny_holding->NH,compareOp->NK,wpAny_callSpecial?_slot->NR,eval->NT,sizeLine_eq->NX,NameKind->NZ,wpAny_call_entry->N2,rawInt->N4,wpAny_newObj_type->N5,wpAny_mono->N7,PassesOwn->N9,mem_of_lookup->Oa,Spec->Oc,wpAny_Call_Name_kw->Oe,attributeBase->Oi,wpAny_setField->Oo,wpAny_seqItems->Oq,wpAny_Call_method_late->Ox,foldedSetIterable->Oy,binaryOp->OE,cellsFrom->OF,wpAny_truthy_bool->OK,assignEach->OP,backTo->OT,wpAny_passesOwn->OZ,letOwnedTupleGo->O0,wpAny_pyIter_list->O4,wpAny_standAt->Pa,wpAny_rule->Pb,keywordEach->Pl,wpAny_setField_rec->Pm,tupleKind_room_in1->Pn,holding->Pr,call_meets->Pu,bootBuiltins->Pw,IsPair->PF,strIterType->PN,pyNext->PP,callWith->PU,standAt->P0,getMethod->Qf,codeAny_mono->Qg,wpAny_attempt->Qi,wpAny_execs_nil->Qm,codeAny->Qp,builtinsNs->Qs,sliceBounds->Qu,wpAny_pyIter_enum->Qx,intText?->QD,wpAny_pyIter_zip->QI,wpAny_isInstance->QJ,typeIs_str->QK,checkBuiltinCall->QN,behindInMarks->QR,wpAny_loadName_local->QS,wpAny_letGo->QT,codeAny_call_builtin->QU,backToKw->QX,IsRangeIter->Q1,wpAny_loadPart'->Q4,codeAny_builtin->Q7,pushCells->Rf,wpAny_Constant_int->Rk,isSubtype_stop->Rp,field->Rq,closureFor->Rr,IsPart->Ry,wpAny_pyIter_strU->RD,wpAny_newList->RH,plainId_quiet->RI,assignInOrder->RK,tupleKind->RO,seqItems?->RP,seqIndex?->RQ,noteFrame->RS,DictEntry->R0,wpAny_typeOf->R1,wpAny_call->R3,getItem->R8,call_meetsIn->Sa,Within->Sd
open List renaming getElem?_eq_getElem->l6,length_map->MV,getD_eq_getElem?_getD->MW,mem_cons->MX,getElem?_eq_some_iff->MY,mem_singleton->M0,not_mem_nil->M1,mem_cons_of_mem->M7,mem_of_getElem?->Na,size_toArray->Nc,getElem?_map->Nh,mem_append_right->Nk,mem_cons_self->Nm,length_append->Nt,replicate->Nw,take_of_length_le->Nz,mem_append->NF,map_append->NI,map_map->NL,all_eq_true->NM,map_cons->NO,getElem_mem->NP,getElem_of_mem->NQ,pairwise_cons->NS,take_add_one->NW,mem_append_left->N0,length_cons->N6,length_replicate->N8,nodup_cons->Ob,replicate_succ->Os,pairwise_map->Ou,length_set->Ov,length_take->Ow,append_nil->Oz,getElem?_append_right->OB,map_congr_left->OI,getElem?_append_left->OJ,filter_cons_of_pos->OL,filter_cons_of_neg->OM,length_take_le'->OO,getElem?_eq_none->OS,mem_map->OU,pairwise_iff_getElem->OW,drop_eq_getElem_cons->OX,Perm->O2,lookup->O8,contains_iff_mem->Ph,length_eq_zero_iff->Pi,getElem?_replicate->Pj,nodup_append->Pp,length_nil->Pq,getElem?_set_self->Py,zip_cons_cons->PC,append_assoc->PK,lookup_cons->PQ,filter_cons->PR,mem_of_mem_take->PY,getElem?_of_mem->PZ,length_singleton->P9,mem_or_eq_of_mem_set->Qh,pairwise_append->Qn,getElem?_set_ne->Qo,find?_cons->Qr,length_drop->Qv,pairwise_singleton->Qw,getElem?_inj->Qy,flatten_cons->Qz,drop_eq_nil_of_le->QF,length_filter_le->QH,foldl_cons->QM,mem_filterMap->QQ,any_cons->QY,getLast?_concat->QZ,eq_nil_of_length_eq_zero->Q0,range->Ra,filterMap_cons->Rb,mem_filter->Ro,map_replicate->Rv,length_eraseIdx_of_lt->Rw,getElem?_drop->Rx,getElem_take->RG,mem_range->RT,toArray->R4,nil_append->R6,forIn_cons->R9,of_mem_zip->Sh,drop_zero->Sm
open PySem.Heap renaming get?_push_of_some->we,get?_push_size->Nd,lt_size->Nj,get?_update_other->NC,get?_update_self->Om,size_push->OQ,SameBut->QC
open PySem.Str renaming ofString->yv,length_append->QA,empty->Rj
open Nat renaming le_refl->zv,lt_of_lt_of_le->Nn,le_trans->Nx,lt_of_succ_lt->Ny,lt_irrefl->ND,ne_of_lt->NN,zero_le->NV,lt_of_le_of_lt->Og,le_of_lt->OH,ne_of_gt->Pe,le_succ_of_le->PH,not_lt->PX,lt_succ_of_lt->Qj,gcd_pos_of_pos_right->Qk,lt_succ_self->QO,le_succ->RE,le_of_eq->RV,sub_self->Se,min_eq_left->Sf,div_le_self->Sg,toDigits->Si
open PySem.W renaming Frag->KE,mg_none_of->Of,kia_one->Oj,findIn->Ot,nsIn->OV,mg_of->O5,keepIn->QL,methodCall_KW->RJ,mroIn->RL,plainGet->RR,hasDictIn->RW,of_hideAll->R5,instObj->R7,callWith_K->Sb,codeHdIn->Sk
open PySem.Value renaming ref->M3,none->NB,int->O1,bool->Px,str->Rh
open Bool renaming false_ne_true->M4,and_eq_true->NJ,false_eq_true->Pd,eq_false_iff->Pt,eq_iff_iff->PB,or_false->Ql,false_and->RA
open Or renaming inl->M5,inr->Ru
open Ne renaming symm->Ni
open Option renaming map_eq_some_iff->Nu,some->NG,bind_some->Rg,isSome_iff_exists->RF,map_some->Sj
open Array renaming getElem?_setIfInBounds_self_of_lt->NU,getElem?_eq_some_iff->Oh,length_toList->Pc,getElem?_setIfInBounds_ne->QG,toArray_toList->Q3,getElem?_toList->Q6,getElem?_eq_getElem->RC
open PyProof.Rows renaming slot_tuple_getitem->NY,callWith_type1->Od,seqObj->OA,strKind->O6,envOfC->Pf,subscriptTail_builtinR->Po,IntsAre->Pz,AllBare->PL,boot_sorted->QV,boot_isinstance->Q8,IsTup->Rc,slot_tuple_getitem->Rl,size_push'->Rn,assignInOrder_cons->Rt
open PySem.Txt renaming split->N1,slice->Ol,rfind->Qq,join->Sl
open PySem.Obj renaming isFreed_of_fields->On,data_mapFields->Pg,mapSeq->PD,cls_mapFields->QE,mapFields->RU
open Int renaming toNat_natCast->OG,eq_ofNat_of_zero_le->ON,mul_le_mul_of_nonneg_right->Pk,lt_of_le_of_lt->Qt,mul_lt_mul_of_pos_right->Re,mul_right_comm->Rz,mul_assoc->RM,lt_irrefl->RN
open Classical renaming byContradiction->OY
open PySem.PyData renaming keyHash->PV
open PySem.F renaming slot_dict_get->QP,plainAttrs_list->Q5,slot_str_split->Rm,slot_dict_delitem->RB,plainAttrs_dict->RX,attr_ValueError->RY,args_dict_get_3->RZ
open PySem.W (methodObj hideAll hideAll_get lookIn handedIn plainGet_of isFn plainOver takerIn makesIn emptyDict callWith_K0 fnOf codeIn excIn clsIn kla_obj tabObj kla_fn codeHd_of_K tabIn)
open List (length map_nil foldl Pairwise cons_append range' all_append map nodup_nil map_set)
open PySem.Heap (UpToSlots ExtBut)
open Nat (gcd)
open Option (getD_none isSome_some isSome_map bind_eq_some_iff)
open PySem.Value (float type builtin)
open PyProof.Rows (KeyOrd)
open PySem.F (slot_tuple_add entry_tuple_add args_tuple_add_2 entry_str_split args_str_split_2 entry_dict_get)
local macro_rules | `(f!$_)=>`(by decide +kernel)
set_option Elab.async false
set_option linter.all false
set_option autoImplicit true
set_option maxRecDepth 100000
namespace L2
open PySem PySem.Spec PyProof.Rows
abbrev Wf:PySem.Str:="_law_draw"
abbrev We:PySem.Str:="__init__"
abbrev Wd:PySem.Str:="_law_rows"
abbrev Wc:PySem.Str:="whole_rows"
abbrev Wb:PySem.Str:="refuse_if_stopped"
abbrev Wa:PySem.Str:="hold"
abbrev V9:PySem.Str:="put"
abbrev V8:PySem.Str:="worth"
abbrev V7:PySem.Str:="cut"
abbrev V6:PySem.Str:="stretches"
abbrev V5:PySem.Str:="_law_drawn"
abbrev V4:PySem.Str:="copied"
abbrev V3:PySem.Str:="living_in"
abbrev V2:PySem.Str:="Disk.refuse_if_stopped"
abbrev V1:PySem.Str:="is_made_of"
abbrev V0:PySem.Str:="is_within"
abbrev VZ:PySem.Str:="next_number"
abbrev VY:PySem.Str:="common_divisor"
abbrev VX:PySem.Str:="is_number_text"
abbrev VW:PySem.Str:="refuse_if_none"
abbrev VV:PySem.Str:="next_place"
abbrev VU:PySem.Str:="_law_in_order"
abbrev VT:PySem.Str:="_law_emptied"
abbrev VS:PySem.Str:="_law_numbers"
abbrev VR:PySem.Str:="part_text"
abbrev VQ:PySem.Str:="_law_more"
abbrev VP:PySem.Str:="read_part"
abbrev VO:PySem.Str:="first_signs"
abbrev VN:PySem.Str:="_law_births"
abbrev VM:PySem.Str:="last_number"
abbrev VL:PySem.Str:="_law_walked"
abbrev Zv:List PySem.Str:=["_law_pot_here","_law_many"]
abbrev Zn:List PySem.Str:=["self"]
abbrev YO:List PySem.Str:=["self","files","spots","next_number","mark_number"]
abbrev Ys:List PySem.Str:=["_law_pot_here","_law_shelf"]
abbrev Yr:List PySem.Str:=["disk","state","stretch"]
abbrev Yi:List PySem.Str:=["_law_pot_here","_law_some"]
abbrev Yc:List PySem.Str:=["self","stretch"]
abbrev Ya:List PySem.Str:=["self","stretches","places"]
abbrev X0:List PySem.Str:=["_law_script","_law_k"]
abbrev XM:List PySem.Str:=["_law_pot_here","_law_disk_here","_law_shelf","_law_numbers_here","_law_stretch","_law_way","_law_heats","_law_row_here","_law_text"]
abbrev Xy:List PySem.Str:=["_law_pot_here","_law_disk_here","_law_shelf","_law_numbers_here"]
abbrev Xx:List PySem.Str:=["disk","stretch"]
abbrev Xw:List PySem.Str:=["text","signs","most"]
abbrev Xv:List PySem.Str:=["text"]
abbrev Xs:List PySem.Str:=["self","file"]
abbrev Xk:List PySem.Str:=["value","least","most"]
abbrev Xg:List PySem.Str:=["_law_pot_here","_law_disk_here","_law_shelf","_law_some","_law_stretch","_law_many","_law_told"]
abbrev Xc:List PySem.Str:=["_law_disk_here","_law_state_here","_law_later"]
abbrev WZ:List PySem.Str:=["_law_one","_law_other"]
abbrev WY:List PySem.Str:=["_law_disk_here","_law_state_here","_law_kind"]
abbrev WQ:List PySem.Str:=["self","many"]
abbrev WO:List PySem.Str:=["_law_pot_here","_law_disk_here","_law_shelf"]
abbrev WN:List PySem.Str:=["_law_pot_here","_law_number","_law_is_hot"]
abbrev WM:List PySem.Str:=["state","stretch"]
abbrev WL:List PySem.Str:=["_law_pot_here","_law_disk_here","_law_shelf","_law_numbers_here","_law_turn_here"]
abbrev WK:List PySem.Str:=["disk","state","kind","stretch","other"]
abbrev WJ:List PySem.Str:=["disk","stretch","place"]
abbrev WI:List PySem.Str:=["_law_disk_here","_law_state_here","_law_some","_law_kind","_law_found"]
abbrev WH:List PySem.Str:=["_law_pot_here","_law_births_here"]
abbrev WG:List PySem.Str:=["_law_disk_here","_law_state_here"]
abbrev WE:List PySem.Str:=["self","name","files"]
abbrev WD:List PySem.Str:=["self","file","many"]
abbrev WC:List PySem.Str:=["_law_shelf"]
abbrev WB:List PySem.Str:=["_law_pot_here","_law_shelf","_law_births_here","_law_spots"]
abbrev WA:List PySem.Str:=["self","file","place","birth"]
abbrev Wz:List PySem.Str:=["_law_shelf","_law_found","_law_stretch","_law_rows_here"]
abbrev Wy:List PySem.Str:=["disk"]
abbrev Wx:List PySem.Str:=["kind","word"]
abbrev Wv:List PySem.Str:=["state","stretch","found"]
abbrev Wu:List PySem.Str:=["self","stretch","place"]
abbrev Wt:List PySem.Str:=["number","other"]
abbrev Ws:List PySem.Str:=["_law_pot_here","_law_shelf","_law_numbers_here"]
abbrev Wq:List PySem.Str:=["_law_found","_law_kind"]
abbrev Wp:List PySem.Str:=["self","stretch","text"]
abbrev Wo:List PySem.Str:=["number","number","end","name","number","word"]
abbrev Wn:List PySem.Str:=["number","name"]
abbrev Wm:List PySem.Str:=["_law_place","_law_row_here","_law_stretch"]
abbrev Wl:List PySem.Str:=["self","other"]
abbrev Wk:List PySem.Str:=["disk","state","kind"]
abbrev Wj:List PySem.Str:=["self","stretch","texts","done","place"]
abbrev Wi:List PySem.Str:=["self","stretch","text","texts","place"]
abbrev Wh:List PySem.Str:=["self","name"]
abbrev Wg:List PySem.Str:=["_law_script"]
structure W(p:Prop):Prop where
 h:p
abbrev Key:=Sum Int Str
def eO:Key->Value->Bool
 | .inl k,v=>Value.isInt k v
 | .inr x,v=>Value.isStrOf x v
def B3(w:Nl):Key->Int
 | .inl k=>hashInt k
 | .inr x=>hashStr w x
theorem c8:∀{k:Key}{v:Value},eO k v=true->(∃i t,k=Sum.inl i/\v=O1 i t)\/(∃x t,k=Sum.inr x/\v=Rh x t)
 | .inl i,v,h=>by
  obtain ⟨t,e⟩:=Value.isInt_shape (k:=i) (v:=v) h;exact .inl ⟨i,t,rfl,e⟩
 | .inr x,v,h=>by
  obtain ⟨t,e⟩:=Value.isStrOf_shape (x:=x) (v:=v) h;exact .inr ⟨x,t,rfl,e⟩
theorem Mu(i:Int)(t:Tok):eO (.inl i) (.int i t)=true:=by simp [eO,Value.isInt]
theorem Lf(x:Str)(t:Tok):eO (.inr x) (.str x t)=true:=by simp [eO,Value.isStrOf]
theorem EK(a b:Int):decide ((Sum.inl a:Key)=Sum.inl b)=(a==b):=by
 by_cases e:a=b
 .subst e;simp
 .have h : ¬ (Sum.inl a:Key)=Sum.inl b:=λq=>e (Sum.inl.inj q);rw [decide_eq_false h];exact (beq_eq_false_iff_ne.mpr e).symm
theorem LM(a b:Str):decide ((Sum.inr a:Key)=Sum.inr b)=decide (a=b):=by
 by_cases e:a=b
 .subst e;simp
 .have h : ¬ (Sum.inr a:Key)=Sum.inr b:=λq=>e (Sum.inr.inj q);rw [decide_eq_false h,decide_eq_false e]
theorem KM(a:Int)(b:Str):decide ((Sum.inl a:Key)=Sum.inr b)=false:=decide_eq_false (λq=>nomatch q)
theorem IC(a:Str)(b:Int):decide ((Sum.inr a:Key)=Sum.inl b)=false:=decide_eq_false (λq=>nomatch q)
def ax(prog:M8)(w:Nl):PySem.KeyKind prog w Key where
 is:=eO
 hash:=B3 w
 inj:=λv a b ha hb=>by
  rcases c8 ha with ⟨i,t,rfl,rfl⟩|⟨x,t,rfl,rfl⟩
  .rcases c8 hb with ⟨j,u,rfl,e⟩|⟨y,u,rfl,e⟩
   .injection e with e1 _;rw [e1]
   .exact nomatch e
  .rcases c8 hb with ⟨j,u,rfl,e⟩|⟨y,u,rfl,e⟩
   .exact nomatch e
   .injection e with e1 _;rw [e1]
 byValue:=λk v h=>by
  rcases c8 h with ⟨i,t,rfl,rfl⟩|⟨x,t,rfl,rfl⟩<;>rfl
 pyHash:=λz h=>by
  rcases c8 z with ⟨i,t,rfl,rfl⟩|⟨x,t,rfl,rfl⟩
  .exact wpAny_pyHash_int h
  .exact wpAny_pyHash_str h
 eqBool:=λF z h=>by
  rcases c8 F with ⟨i,t,rfl,rfl⟩|⟨x,t,rfl,rfl⟩
  .rcases c8 z with ⟨j,u,rfl,rfl⟩|⟨y,u,rfl,rfl⟩
   .rw [EK] at h;exact wpAny_eqBool_int h
   .rw [KM] at h;exact SeqAt.EqAt.int_str i t y u _ _ _ _ h
  .rcases c8 z with ⟨j,u,rfl,rfl⟩|⟨y,u,rfl,rfl⟩
   .rw [IC] at h;exact SeqAt.EqAt.str_int x t j u _ _ _ _ h
   .rw [LM] at h;exact wpAny_eqBool_str h
 «strs»:=λk x t v h=>by
  rcases c8 h with ⟨i,u,rfl,e⟩|⟨y,u,rfl,e⟩
  .exact nomatch e
  .injection e with e1 _
   subst e1;cases v<;>rfl
theorem Gp(prog:M8)(w:Nl)(i:Int)(t:Tok):(ax prog w).is (.inl i) (.int i t)=true:=Mu i t
theorem jF(prog:M8)(w:Nl)(x:Str)(t:Tok):(ax prog w).is (.inr x) (.str x t)=true:=Lf x t
inductive V where
 | non|bl (b:Bool)|int (i:Int)|str (x:Str)|byt (b:Array UInt8)|flt (b:UInt64)|ref (a:Addr)|ty (n:String)
 deriving DecidableEq
def zo:V->Value->Prop
 | .non,u=>u=NB
 | .bl b,u=>u=Px b
 | .int i,u=>∃t,u=O1 i t
 | .str x,u=>∃t,u=Rh x t
 | .byt b,u=>∃t,u=Value.bytes b t
 | .flt b,u=>∃t,u=float b t
 | .ref a,u=>u=M3 a
 | .ty n,u=>u=type n
abbrev zp:List V->List Value->Prop:=Paired zo
theorem zp.length(r:zp xs us):xs.length=us.length:=Paired.length r
theorem zp.get:∀{xs:List V}{us:List Value}{i:Nat}{x:V},zp xs us->xs[i]?=some x->∃u,us[i]?=some u/\zo x u
 | _,_,_,_,.nil,e=>by simp at e
 | _,_,0,_,.cons r _,e=>by simp at e;subst e;exact ⟨_,rfl,r⟩
 | _,_,i+1,x,.cons _ t,e=>by
  obtain ⟨u,h1,h2⟩:=zp.get (i:=i) (x:=x) t (by simpa using e);exact ⟨u,by simpa using h1,h2⟩
theorem zp.set(r:zo x u):∀{xs:List V}{us:List Value}(i:Nat),zp xs us->zp (xs.set i x) (us.set i u)
 | _,_,_,.nil=>.nil
 | _,_,0,.cons _ t=>.cons r t
 | _,_,i+1,.cons q t=>.cons q (zp.set r i t)
theorem zp.append(h:zp xs us)(k:zp ys ws):zp (xs++ys) (us++ws):=by
 induction h with
 | nil=>exact k
 | cons r t z=>exact .cons r z
theorem zp.take:∀{xs:List V}{us:List Value}(n:Nat),zp xs us->zp (xs.take n) (us.take n)
 | _,_,0,_=>.nil
 | _,_,_+1,.nil=>.nil
 | _,_,n+1,.cons r t=>.cons r (zp.take n t)
theorem zp.drop:∀{xs:List V}{us:List Value}(n:Nat),zp xs us->zp (xs.drop n) (us.drop n)
 | _,_,0,r=>r
 | _,_,_+1,.nil=>.nil
 | _,_,n+1,.cons _ t=>zp.drop n t
def bH:Option V->Option Value->Prop
 | some v,some u=>zo v u
 | none,none=>True
 | _,_=>False
def KV{κ:Type}:List (κ×V)->List (κ×Value)->Prop:=Paired λ(p:κ×V)(q:κ×Value)=>p.1=q.1/\zo p.2 q.2
def kV:Key->V
 | .inl i=>.int i
 | .inr x=>.str x
inductive HO where
 | lst (xs:List V)
 | tup (xs:List V)
 | dK (kvs:List (Key×V))|dT (kvs:List (List Key×V))
 | set (S:Int->Bool) (n:Nat)
 | ins (C dx:Addr) (fs:List (Str×V))
 | own (x:Addr)
 | xd (fs:List (Str×V))
 | met (f x:Addr)
 | rng (lo hi:Int)
 | frz (o:Obj) (u:HO)
 | tbl (ps:Array Value)
 | ext (φ:Heap->Prop)
abbrev Hp:=Addr->Option HO
def upd(H:Hp)(a:Addr)(o:HO):Hp:=λb=>if b=a then some o else H b
theorem zx{o:HO}:upd H a o a=some o:=by unfold upd;rw [if_pos rfl]
theorem zd{o:HO}(h:b≠a):upd H a o b=H b:=by unfold upd;rw [if_neg h]
theorem eQ{o u:HO}:upd (upd H a o) a u=upd H a u:=by
 funext b;unfold upd;split<;>rfl
theorem EZ{H:Hp}{o u:HO}(h:H a=some o)(h':H b=some u)(d:o≠u):a≠b:=by
 intro e;subst e;rw [h] at h';exact d (NG.inj h')
theorem zC{H:Hp}{o:HO}(h:H a=some o)(h':H b=none):a≠b:=by
 intro e;subst e;rw [h] at h';cases h'
section
variable (P:M8) (w:Nl)
def ah(H:Hp)(h:Heap)(a:Addr):HO->Prop
 | .lst xs=>xs.length<=sizeLine/\∃(its:List Value)(n:Nat),zp xs its/\h.get? a=some { cls:=.type "list",data:=.seq its.toArray n }
 | .tup xs=>xs.length<=sizeLine/\∃its:List Value,zp xs its/\Rc h a its.toArray
 | .dK kvs=>kvs.length<=sizeLine/\(a==sysModules)=false/\∃vs,KV kvs vs/\h.DictOf (ax P w) a vs
 | .dT kvs=>kvs.length<=sizeLine/\(a==sysModules)=false/\∃xs:List (List Key×Addr×Value),
   Paired (λ(p:List Key×V)(q:List Key×Addr×Value)=>p.1=q.1/\H q.2.1=some (.tup (p.1.map kV))/\zo p.2 q.2.2) kvs xs /\
   ∃o es ep,h.get? a=some o/\o.ExactDict/\o.data = .dict es ep/\es.toList=xs.map (entryOfKey (RO (ax P w)))/\(xs.map (·.1)).Nodup
 | .set S n=>h.SetOf (intKind P w) a S n
 | .ins C dx fs=>H dx=some (.own a)/\fs.length<=1000/\dx≠a/\h.get? a=some (R7 C dx) /\
   ∃mA,h.Ns1 dx mA/\(∀f,bH (fs.lookup f) (mA f))/\Sd mA (fs.map (·.1))
 | .own _=>∃o,h.get? a=some o
 | .xd fs=>∃mA,h.Ns1 a mA/\∀f,bH (fs.lookup f) (mA f)
 | .rng lo hi=>∃t u v,h.get? a=some { cls:=.type "range",data:=.fields #[.int lo t,.int hi u,.int 1 v] }
 | .frz o u=>h.get? a=some o/\ah H h a u
 | .tbl ps=>h.get? a=some { cls:=.none,data:=.fields ps }
 | .met f x=>h.get? a=some (methodObj (.ref f) (.ref x))
 | .ext z=>z h/\(∃o,h.get? a=some o)/\∀h1 h2:Heap,z h1->(∀o,h1.get? a=some o->h2.get? a=some o)->z h2
def HOk(H:Hp)(h:Heap):Prop:=∀a o,H a=some o->ah P w H h a o
end
section
variable {P:M8}{w:Nl}{H H':Hp}{h h':Heap}{a:Addr}{o:HO}
theorem ah.lt(x:ah P w H h a o):a<h.objs.size:=by
 cases o with
 | lst xs=>obtain ⟨_,_,_,_,e⟩:=x;exact Nj e
 | tup xs=>obtain ⟨_,_,_,p⟩:=x;exact p.lt
 | dK kvs=>obtain ⟨_,_,_,_,o,_,_,e,_⟩:=x;exact Nj e
 | dT kvs=>obtain ⟨_,_,_,_,o,_,_,e,_⟩:=x;exact Nj e
 | set S n=>obtain ⟨o,_,_,_,e,_⟩:=x;exact Nj e
 | ins C dx fs=>obtain ⟨_,_,_,e,_⟩:=x;exact Nj e
 | own y=>obtain ⟨_,e⟩:=x;exact Nj e
 | xd fs=>obtain ⟨_,⟨_,_,_,e,_⟩,_⟩:=x;exact Nj e
 | rng lo hi=>obtain ⟨_,_,_,e⟩:=x;exact Nj e
 | frz ob u=>obtain ⟨e,_⟩:=x;exact Nj e
 | tbl ps=>exact Nj (show h.get? a=some _ from x)
 | met f y=>exact Nj (show h.get? a=some _ from x)
 | ext z=>obtain ⟨_,⟨_,e⟩,_⟩:=x;exact Nj e
theorem Paired.wh{α β:Type}{F G:α->β->Prop}{z:List α}{l₂:List β}(h:Paired F z l₂)(f:∀a b,F a b->G a b):Paired G z l₂:=by
 induction h with
 | nil=>exact .nil
 | cons r t J=>exact .cons (f _ _ r) J
theorem ah.stay(x:ah P w H h a o)(k:∀b u,(b=a\/H b=some (.own a))->h.get? b=some u->h'.get? b=some u)
  (ho:∀b,H b=some (.own a)->H' b=some (.own a)) (G:∀b xs,H b=some (.tup xs)->H' b=some (.tup xs)):ah P w H' h' a o:=by
 induction o with
 | lst xs=>obtain ⟨z,its,n,r,e⟩:=x;exact ⟨z,its,n,r,k _ _ (.inl rfl) e⟩
 | tup xs=>obtain ⟨z,its,r,ob,e,c⟩:=x;exact ⟨z,its,r,ob,k _ _ (.inl rfl) e,c⟩
 | dK kvs=>obtain ⟨z,y,vs,r,ob,es,ep,e,c⟩:=x;exact ⟨z,y,vs,r,ob,es,ep,k _ _ (.inl rfl) e,c⟩
 | dT kvs =>
  obtain ⟨z,y,xs,r,ob,es,ep,e,c⟩:=x;exact ⟨z,y,xs,Paired.wh r λp q z=>⟨z.1,G _ _ z.2.1,z.2.2⟩,ob,es,ep,k _ _ (.inl rfl) e,c⟩
 | set S n=>obtain ⟨ob,es,ep,t,e,c⟩:=x;exact ⟨ob,es,ep,t,k _ _ (.inl rfl) e,c⟩
 | ins C dx fs =>
  obtain ⟨d,z,ne,e,mA,⟨F,es,ep,J,c⟩,r⟩:=x;exact ⟨ho _ d,z,ne,k _ _ (.inl rfl) e,mA,⟨F,es,ep,k _ _ (.inr d) J,c⟩,r⟩
 | own y=>obtain ⟨ob,e⟩:=x;exact ⟨ob,k _ _ (.inl rfl) e⟩
 | xd fs=>obtain ⟨mA,⟨F,es,ep,e,c⟩,r⟩:=x;exact ⟨mA,⟨F,es,ep,k _ _ (.inl rfl) e,c⟩,r⟩
 | rng lo hi=>obtain ⟨t,u,v,e⟩:=x;exact ⟨t,u,v,k _ _ (.inl rfl) e⟩
 | frz ob u O=>obtain ⟨e,q⟩:=x;exact ⟨k _ _ (.inl rfl) e,O q⟩
 | tbl ps =>
  have e:h.get? a=some { cls:=.none,data:=.fields ps }:=x;show h'.get? a=some { cls:=.none,data:=.fields ps };exact k a _ (.inl rfl) e
 | met f y =>
  have e:h.get? a=some (methodObj (.ref f) (.ref y)):=x;show h'.get? a=some (methodObj (.ref f) (.ref y));exact k a _ (.inl rfl) e
 | ext U=>obtain ⟨p,⟨o,e⟩,st⟩:=x;exact ⟨st _ _ p λo q=>k _ _ (.inl rfl) q,⟨o,k _ _ (.inl rfl) e⟩,st⟩
theorem HOk.lt(x:HOk P w H h)(e:H a=some o):a<h.objs.size:=(x a o e).lt
theorem HOk.fresh(x:HOk P w H h)(e:h.objs.size<=a):H a=none:=by
 cases q:H a with
 | none=>rfl
 | some u=>exact absurd (Nn (x.lt q) e) (ND _)
theorem HOk.kept(x:HOk P w H h)(k:∀b u,h.get? b=some u->h'.get? b=some u):HOk P w H h':=λa o e =>
 (x a o e).stay (λb u _ q=>k b u q) (λ_ q=>q) λ_ _ q=>q
theorem HOk.laid(x:HOk P w H h)(k:∀b u,h.get? b=some u->h'.get? b=some u)(z:h.objs.size<=a)(new:ah P w (upd H a o) h' a o):HOk P w (upd H a o) h':=λb u e=>by
 have hn:=x.fresh z;by_cases hb:b=a
 .subst hb;rw [zx] at e;cases e;exact new
 .rw [zd hb] at e;exact (x b u e).stay (λc v _ q=>k c v q) (λc q=>by rw [zd (zC q hn)];exact q) λc xs q=>by rw [zd (zC q hn)];exact q
end
def Rd(H:Hp)(a:Addr)(u:HO):Prop:=H a=some u\/∃o,H a=some (.frz o u)
theorem Rd.ok(r:Rd H a u)(x:HOk P w H h):ah P w H h a u:=by
 rcases r with r|⟨o,r⟩
 .exact x a u r
 .obtain ⟨_,q⟩:=x a _ r;exact q
def Mut:Option HO->Prop
 | some (.lst _)=>True
 | some (.dK _)=>True
 | some (.dT _)=>True
 | some (.set _ _)=>True
 | some (.ins _ _ _)=>True
 | some (.ext _)=>True
 | _=>False
section
variable {P:M8}{w:Nl}{H:Hp}{h h':Heap}{x e:Addr}{o':HO}
theorem HOk.write(ok:HOk P w H h)(O:Mut (H x))(he:e=x\/H e=some (.own x))(k:∀b u,b≠e->h.get? b=some u->h'.get? b=some u)(S:∃u,h'.get? e=some u)
  (new:ah P w (upd H x o') h' x o'):HOk P w (upd H x o') h':=λb u q=>by
 have G:∀c y,H c=some (.own y)->c≠x:=λc y r z=>by subst z;rw [r] at O;exact O
 have J:∀c xs,H c=some (.tup xs)->c≠x:=λc xs r z=>by subst z;rw [r] at O;exact O
 by_cases hb:b=x
 .subst hb;rw [zx] at q;cases q;exact new
 .rw [zd hb] at q;by_cases F:b=e
  .have U:H b=some (.own x):=by
    rcases he with z|z
    .exact absurd (F.trans z) hb
    .rw [F];exact z
   rw [q] at U;cases U;obtain ⟨v,W⟩:=S;exact ⟨v,by rw [F];exact W⟩
  .refine (ok b u q).stay (λc v hc r=>k c v ?_ r) (λc r=>by rw [zd (G c b r)];exact r) λc xs r=>by rw [zd (J c xs r)];exact r
   rcases hc with rfl|hc
   .exact F
   .rintro rfl;rcases he with z|z
    .exact G c b hc z
    .rw [hc] at z;cases z;exact hb rfl
end
structure Un(fs ex:List Addr)(H H':Hp)(h h':Heap):Prop where
 keep:∀b o,h.get? b=some o->H b=none->b∉fs->b∉ex->h'.get? b=some o
 slot:∀b o,h.get? b=some o->H b=none->b∈fs->b∉ex->∃sl,h'.get? b=some { o with slots:=sl }
 free:∀b o,h.get? b=some o->H b=none->b∉ex->H' b=none
 there:∀b o,h.get? b=some o->b∉ex->∃o',h'.get? b=some o'
 tups:∀b xs,H b=some (.tup xs)->H' b=some (.tup xs)
 frzs:∀b o u,H b=some (.frz o u)->H' b=some (.frz o u)
 tbls:∀b ps,H b=some (.tbl ps)->∃more,H' b=some (.tbl (ps++more))
section
variable {fs fs' ex ex':List Addr}{H H1 H2:Hp}{h h1 h2 h':Heap}{a x e:Addr}{o:HO}
theorem Un.any(u:Un fs ex H H1 h h1)(q:h.get? b=some ob)(n:H b=none)(hx:b∉ex):∃sl,h1.get? b=some { ob with slots:=sl }:=by
 by_cases hb:b∈fs
 .exact u.slot b ob q n hb hx
 .exact ⟨ob.slots,u.keep b ob q n hb hx⟩
theorem Un.kept(k:∀b u,h.get? b=some u->h'.get? b=some u):Un fs ex H H h h' :=
 ⟨λb ob q _ _ _=>k b ob q,λb ob q _ _ _=>⟨ob.slots,k b ob q⟩,λ_ _ _ n _=>n,λb ob q _=>⟨ob,k b ob q⟩,λ_ _ q=>q,λ_ _ _ q=>q,λ_ ps q=>⟨#[],by rw [q];simp⟩⟩
theorem Un.refl:Un fs ex H H h h:=Un.kept λ_ _ q=>q
theorem Un.laid(k:∀b u,h.get? b=some u->h'.get? b=some u)(z:h.objs.size<=a)(hn:H a=none):Un fs ex H (upd H a o) h h' where
 keep:=λb u q _ _ _=>k b u q
 slot:=λb u q _ _ _=>⟨u.slots,k b u q⟩
 free:=λb u q n _=>by rw [zd (NN (Nn (Nj q) z))];exact n
 there:=λb u q _=>⟨u,k b u q⟩
 tups:=λb xs q=>by rw [zd (zC q hn)];exact q
 frzs:=λb u xs q=>by rw [zd (zC q hn)];exact q
 tbls:=λb ps q=>⟨#[],by rw [zd (zC q hn),q];simp⟩
theorem Un.write(G:Mut (H x))(he:e=x\/H e=some (.own x))(k:∀b u,b≠e->h.get? b=some u->h'.get? b=some u)(J:∃u,h'.get? e=some u):Un fs ex H (upd H x o) h h':=by
 have hx:∀b,H b=none->b≠x:=λb n z=>by subst z;rw [n] at G;exact G
 have hb:∀b,H b=none->b≠e:=λb n z=>by
  subst z;rcases he with r|r
  .exact hx b n r
  .rw [n] at r;cases r
 have hm:∀b u,H b=some u->¬ Mut (some u)->b≠x:=λb u q nm z=>by subst z;rw [q] at G;exact nm G
 refine ⟨λb u q n _ _=>k b u (hb b n) q,λb u q n _ _=>⟨u.slots,k b u (hb b n) q⟩,λb u q n _=>by rw [zd (hx b n)];exact n,λb u q _=>?_,
  λb xs q=>by rw [zd (hm b _ q λz=>z)];exact q,λb u xs q=>by rw [zd (hm b _ q λz=>z)];exact q,λb ps q=>⟨#[],by rw [zd (hm b _ q λz=>z),q];simp⟩⟩
 by_cases F:b=e
 .subst F;exact J
 .exact ⟨u,k b u F q⟩
end
def trk(h:Heap)(H:Hp):List Addr:=(Ra h.objs.size).filter λa=>(H a).isSome
def eA(h:Heap)(H:Hp):Heap:=hideAll h (trk h H)
theorem Dh(h:Heap)(H:Hp):(eA h H).objs.size=h.objs.size:=PySem.W.hideAll_size _ _
theorem JT{o:Obj}(e:h.get? b=some o)(n:H b=none):(eA h H).get? b=some o :=
 hideAll_get _ e λhm=>by
  have q:(H b).isSome=true:=(Ro.mp hm).2;rw [n] at q;simp at q
theorem Jj{o:Obj}(e:(eA h H).get? b=some o):h.get? b=some o/\H b=none:=by
 have F:h.get? b=some o:=R5 (trk h H) e;refine ⟨F,?_⟩;cases q:H b with
 | none=>rfl
 | some x =>
  have hm:b∈trk h H:=Ro.mpr ⟨RT.mpr (Nj F),by simp [q]⟩;have z:(eA h H).get? b=none:=PySem.W.hideAll_none (trk h H) hm;rw [z] at e;cases e
def gw(g h:Heap)(L:Addr):List (Addr×Obj):=(Ra h.objs.size).filterMap λa=>if a=L\/(g.get? a).isSome=true then none else (h.get? a).map λo=>(a,o)
theorem MF{o:Obj}(h1:a≠L)(h2:g.get? a=none)(h3:h.get? a=some o):(a,o)∈gw g h L :=
 QQ.mpr ⟨a,RT.mpr (Nj h3),by simp [h1,h2,h3]⟩
theorem MD{p:Addr×Obj}(F:p∈gw g h L):p.1≠L/\g.get? p.1=none/\h.get? p.1=some p.2:=by
 obtain ⟨b,_,e⟩:=QQ.mp F;split at e
 .cases e
 .rename_i hn;cases q:h.get? b with
  | none=>rw [q] at e;simp at e
  | some u =>
   rw [q] at e;simp only [Sj,NG.injEq] at e;subst e;refine ⟨λz=>hn (.inl z),?_,q⟩;show g.get? b=none;cases r:g.get? b with
   | none=>rfl
   | some v=>exact (hn (.inr (by simp [r]))).elim
theorem Hz:News g L h (gw g h L):=λp z=>let ⟨a,b,c⟩:=MD z;⟨c,a,b⟩
structure Mod(K:KE)(mg:Str->Option Value)(base:Heap):Prop where
 Vv:K.In base
 glob:base.Ns M6 mg
 blt:∃mb,base.Ns Qs mb/\∀x:Str,x≠"__name__"->mb x=Pw x
 nolimit:base.NoLimit
def iq(A:Np)(H:Hp):Prop:=A.handled=none\/∃(a:Addr)(o:Obj)(vs:Array Value),A.handled=some (.ref a)/\H a=some (.frz o (.own 0))/\o.data = .fields vs/\vs[2]?=some .none/\∃C,o.cls = .ref C
theorem iq.same(x:iq A H)(k:∀b o u,H b=some (.frz o u)->H' b=some (.frz o u)):iq A H':=by
 rcases x with x|⟨a,o,vs,h1,h2,h3⟩
 .exact .inl x
 .exact .inr ⟨a,o,vs,h1,k _ _ _ h2,h3⟩
structure Cx where
 prog:M8
 w:Nl
 K:KE
 mg:Str->Option Value
 base:Heap
 A:Np
 N:List Str
 s₀:p8
 H₀:Hp
 env:Env
 outer:List Env
 stack:List Env
 ex:List Addr
 fn:Str->Bool
 calm:Bool
 pn:List (Addr×Obj)
 xe:Value->p8->Prop
def frs(l:List Env):List Addr:=l.filterMap (·.frame)
abbrev Cx.fs(X:Cx):List Addr:=frs X.outer
def Vis(sc:Scope)(x:Str):Prop:=sc.names.lookup x=some .local\/sc.names.lookup x=some .cell\/sc.names.lookup x=some .free
def Loc(sc:Scope)(x:Str):Prop:=sc.names.lookup x=some .local\/sc.names.lookup x=some .cell
def JD(env:Env)(h:Heap)(m:Str->Option Value)(x:Str)(u:Value):Prop :=
 (env.kindOf x=some .local/\m x=some u)\/((env.kindOf x=some .cell\/env.kindOf x=some .free)/\∃c,env.cells.lookup x=some c/\h.IsCell c (some u))
structure Cx.Ok(X:Cx):Prop where
 mod:Mod X.K X.mg X.base
 kind:X.env.scope.kind = .function
 glob:X.env.globals=M6
 blt:X.env.builtins=Qs
 above:X.s₀.heap.objs.size<=X.env.locals
 inj:∀x y c,X.env.cells.lookup x=some c->X.env.cells.lookup y=some c->x=y
 has:∀x,(X.env.kindOf x=some .cell\/X.env.kindOf x=some .free)->∃c,X.env.cells.lookup x=some c
 VE:∀x c,X.fn x=true->X.env.cells.lookup x=some c->X.s₀.heap.objs.size<=c
 hd:X.calm=true->X.A.handled=none
 frames:X.A.frames=some X.stack
 VH:X.stack=X.outer\/(X.stack=X.env::X.outer/\X.env.frame=some X.env.locals)
 aw:∀b∈X.ex,b≠X.env.locals/\∀x c,X.env.cells.lookup x=some c->c≠b
 bs:∀b o,X.base.get? b=some o->X.s₀.heap.get? b=some o/\X.H₀ b=none
 Vf:X.base.objs.size<=X.s₀.heap.objs.size
 UV:∀b o,X.base.get? b=some o->b∉X.ex
 U0:∀b∈X.ex,b∉X.fs
 SM:X.s₀.heap.FunFrames X.base X.outer
 Vo:∀b∈X.fs,X.H₀ b=none
structure Inv(X:Cx)(Go:List (Addr×Obj))(σ:List (Option V))(H:Hp)(s:p8):Prop where
 ok:X.Ok
 os:s.os=X.s₀.os
 bare:PL s.gens
 base:Un X.fs X.ex X.H₀ H X.s₀.heap s.heap
 loc:∃m,s.heap.Ns X.env.locals m/\∀(i:Nat)(x:Str)(v:V),X.N[i]?=some x->σ[i]?=some (some v)->Vis X.env.scope x->∃u,zo v u/\JD X.env s.heap m x u
 cell:∀x c,X.env.cells.lookup x=some c->∃v,s.heap.IsCell c v
 free:H X.env.locals=none
 So:∀x c,X.env.cells.lookup x=some c->H c=none
 pin:∀p∈X.pn++Go,s.heap.get? p.1=some p.2/\H p.1=none/\p.1≠X.env.locals/\p.1∉X.fs/\∀v,p.2.data≠.cell v
 hok:HOk X.prog X.w H s.heap
 len:σ.length=X.N.length
 hdk:iq X.A H
section
variable {X:Cx}{Go:List (Addr×Obj)}{σ:List (Option V)}{H H':Hp}{s:p8}{h':Heap}
theorem Cx.Ok.aD(ok:X.Ok){o:Obj}(e:X.base.get? b=some o):b∉X.fs:=λhb=>by
 have:=(ok.SM.mem hb).1;rw [e] at this;cases this
theorem Inv.bs(I:Inv X Go σ H s):∀b o,X.base.get? b=some o->s.heap.get? b=some o/\H b=none:=λb o e =>
 ⟨I.base.keep b o (I.ok.bs b o e).1 (I.ok.bs b o e).2 (I.ok.aD e) (I.ok.UV b o e),I.base.free b o (I.ok.bs b o e).1 (I.ok.bs b o e).2 (I.ok.UV b o e)⟩
theorem Inv.bk(I:Inv X Go σ H s):∀b o,X.base.get? b=some o->s.heap.get? b=some o:=λb o e=>(I.bs b o e).1
theorem Inv.mod(I:Inv X Go σ H s):Mod X.K X.mg X.base:=I.ok.mod
theorem Inv.SD(I:Inv X Go σ H s):X.K.In s.heap:=I.ok.mod.Vv.keeps I.bk
theorem Inv.fr(I:Inv X Go σ H s):∃m,Fr X.base X.env.locals s.heap m :=
 let ⟨m,hn,_⟩:=I.loc
 ⟨m,hn,I.bk,Nx I.ok.Vf I.ok.above⟩
theorem Inv.lt(I:Inv X Go σ H s):X.env.locals<s.heap.objs.size:=let ⟨_,hn,_⟩:=I.loc;hn.lt
theorem Inv.sz(I:Inv X Go σ H s):X.s₀.heap.objs.size<=s.heap.objs.size:=Nx I.ok.above (OH I.lt)
theorem Inv.ae(I:Inv X Go σ H s)(h:s.heap.objs.size<=a):a∉X.fs:=λhb=>by
 obtain ⟨_,o,ho,_⟩:=I.ok.SM.mem hb;exact absurd (Nn (Nj ho) (Nx I.sz h)) (ND _)
theorem Inv.cne(I:Inv X Go σ H s):∀x c,X.env.cells.lookup x=some c->c≠X.env.locals:=λx c e z=>by
 obtain ⟨v,o,ho,hd⟩:=I.cell x c e;obtain ⟨m,⟨o',es,ep,G,F,_⟩,_⟩:=I.loc;rw [z,G] at ho;cases ho;rw [F] at hd;cases hd
theorem Inv.SM(I:Inv X Go σ H s):s.heap.FunFrames X.base X.outer:=by
 have all:∀(l:List Env),(∀b∈frs l,b∈X.fs)->X.s₀.heap.FunFrames X.base l->s.heap.FunFrames X.base l:=by
  intro l
  induction l with
  | nil=>intro _ _;trivial
  | cons env r G =>
   intro hs hl;obtain ⟨J,⟨L,o,hf,hn,ho,hd⟩,hr⟩:=hl;have F:L∈X.fs:=hs L (by unfold frs;rw [Rb,hf];exact Nm);obtain ⟨sl,e⟩:=I.base.slot L o ho (I.ok.Vo L F) F λz=>I.ok.U0 L z F;exact ⟨J,⟨L,_,hf,hn,e,hd⟩,G (λb hb=>hs b (by unfold frs;rw [Rb,hf];exact M7 _ hb)) hr⟩
 exact all X.outer (λ_ hb=>hb) I.ok.SM
theorem Inv.stack(I:Inv X Go σ H s):s.heap.FunFrames X.base X.stack:=by
 rcases I.ok.VH with e|⟨e,hf⟩
 .rw [e];exact I.SM
 .rw [e];obtain ⟨m,hn,_⟩:=I.loc;refine .cons (by rw [I.ok.kind];decide) hf hn ?_ I.SM;exact Heap.get?_none_of_le (Nx I.ok.Vf I.ok.above)
theorem Inv.SV(I:Inv X Go σ H s):∀b∈frs X.stack,b∈X.env.locals::X.fs:=λb hb=>by
 rcases I.ok.VH with e|⟨e,hf⟩
 .rw [e] at hb;exact M7 _ hb
 .rw [e] at hb;unfold frs at hb;rw [Rb,hf] at hb;exact hb
theorem Inv.Ul(I:Inv X Go σ H s):∀b∈frs X.stack,H b=none:=λb hb=>by
 rcases MX.mp (I.SV b hb) with e|hb
 .rw [e];exact I.free
 .obtain ⟨_,o,ho,_⟩:=I.ok.SM.mem hb;exact I.base.free b o ho (I.ok.Vo b hb) λz=>I.ok.U0 b z hb
theorem Inv.step{ch:List Addr}(I:Inv X Go σ H s)(U:∀b∈ch,(b∈X.ex\/X.s₀.heap.objs.size<=b)/\b≠X.env.locals/\(∀x c,X.env.cells.lookup x=some c->c≠b)/\∀p∈X.pn++Go,p.1≠b)(keep:∀b o,b≠X.env.locals->b∉X.fs->b∉ch->s.heap.get? b=some o->H b=none->h'.get? b=some o)(slot:∀b o,b≠X.env.locals->b∈X.fs->b∉ch->s.heap.get? b=some o->H b=none->∃sl,h'.get? b=some { o with slots:=sl })(free:∀b o,b∉ch->s.heap.get? b=some o->H b=none->H' b=none)(there:∀b o,b∉ch->s.heap.get? b=some o->∃o',h'.get? b=some o')(tups:∀b xs,H b=some (.tup xs)->H' b=some (.tup xs))(frzs:∀b o u,H b=some (.frz o u)->H' b=some (.frz o u))(tbls:∀b ps,H b=some (.tbl ps)->∃more,H' b=some (.tbl (ps++more)))(ns:∀m,s.heap.Ns X.env.locals m->h'.Ns X.env.locals m)(hok:HOk X.prog X.w H' h')(hg:PL g'):
  Inv X Go σ H' { s with heap:=h',gens:=g',drawn:=d',toks:=t' }:=by
 have S:∀b o,X.s₀.heap.get? b=some o->b≠X.env.locals:=λb o e=>NN (Nn (Nj e) I.ok.above);have J:∀b o,X.s₀.heap.get? b=some o->b∉X.ex->b∉ch:=λb o e hx hb=>by
  rcases (U b hb).1 with z|z
  .exact hx z
  .exact absurd (Nn (Nj e) z) (ND _)
 have F:∀x c,X.env.cells.lookup x=some c->∀v,s.heap.IsCell c v->h'.IsCell c v:=λx c e v ⟨o,ho,hd⟩=>by
  have G:c∉ch:=λz=>(U c z).2.2.1 x c e rfl;by_cases hc:c∈X.fs
  .obtain ⟨sl,q⟩:=slot c o (I.cne x c e) hc G ho (I.So x c e);exact ⟨_,q,hd⟩
  .exact ⟨o,keep c o (I.cne x c e) hc G ho (I.So x c e),hd⟩
 refine ⟨I.ok,I.os,hg,⟨λb o e n hb hx=>?_,λb o e n hb hx=>?_,λb o e n hx=>?_,λb o e hx=>?_,λb xs e=>tups b xs (I.base.tups b xs e),λb o xs e=>frzs b o xs (I.base.frzs b o xs e),λb ps e=>?_⟩,?_,λx c e=>?_,?_,λx c e=>?_,λp Z=>?_,hok,I.len,I.hdk.same frzs⟩
 .exact keep b o (S b o e) hb (J b o e hx) (I.base.keep b o e n hb hx) (I.base.free b o e n hx)
 .obtain ⟨sl,O⟩:=I.base.slot b o e n hb hx;obtain ⟨XW,W⟩:=slot b _ (S b o e) hb (J b o e hx) O (I.base.free b o e n hx);exact ⟨XW,W⟩
 .obtain ⟨o',O⟩:=I.base.there b o e hx;exact free b o' (J b o e hx) O (I.base.free b o e n hx)
 .obtain ⟨o',O⟩:=I.base.there b o e hx;exact there b o' (J b o e hx) O
 .obtain ⟨m1,O⟩:=I.base.tbls b ps e;obtain ⟨m2,W⟩:=tbls b _ O;exact ⟨m1++m2,by rw [W,Array.append_assoc]⟩
 .obtain ⟨m,hn,hl⟩:=I.loc;refine ⟨m,ns m hn,λi x v O W e3=>?_⟩;obtain ⟨u,r,l⟩:=hl i x v O W e3;refine ⟨u,r,?_⟩;rcases l with l|⟨k,c,e,z⟩
  .exact .inl l
  .exact .inr ⟨k,c,e,F x c e _ z⟩
 .obtain ⟨v,z⟩:=I.cell x c e;exact ⟨v,F x c e v z⟩
 .obtain ⟨m,⟨o,_,_,ho,_⟩,_⟩:=I.loc;exact free _ o (λz=>(U _ z).2.1 rfl) ho I.free
 .obtain ⟨v,o,ho,hd⟩:=I.cell x c e;exact free c o (λz=>(U c z).2.2.1 x c e rfl) ho (I.So x c e)
 .obtain ⟨e,n,ne,nf,d⟩:=I.pin p Z;have G:p.1∉ch:=λz=>(U p.1 z).2.2.2 p Z rfl;exact ⟨keep p.1 p.2 ne nf G e n,free p.1 p.2 G e n,ne,nf,d⟩
theorem Inv.un(I:Inv X Go σ H s)(u:Un X.fs [] H H' s.heap h')(hok:HOk X.prog X.w H' h'):Inv X Go σ H' { s with heap:=h',toks:=t' }:=by
 obtain ⟨m,⟨o,es,ep,ho,r⟩,_⟩:=id I.loc;obtain ⟨sl,O⟩:=u.any ho I.free (by simp);exact I.step (g':=s.gens) (d':=s.drawn) (ch:=[]) (λ_ z=>nomatch z) (λb o _ hb _ e n=>u.keep b o e n hb (by simp)) (λb o _ hb _ e n=>u.slot b o e n hb (by simp)) (λb o _ e n=>u.free b o e n (by simp)) (λb o _ e=>u.there b o e (by simp)) u.tups u.frzs u.tbls (λS hm=>by
  obtain ⟨o',F,G,J,r'⟩:=hm;rw [ho] at J;cases J;exact ⟨_,F,G,O,r'⟩) hok I.bare
theorem Inv.call(I:Inv X Go σ H s)(u:Un (frs X.stack) ch H H' s.heap h')(hok:HOk X.prog X.w H' h')(hg:PL g')(O:∀b∈ch,(b∈X.ex\/X.s₀.heap.objs.size<=b)/\b≠X.env.locals/\(∀x c,X.env.cells.lookup x=some c->c≠b)/\∀p∈X.pn++Go,p.1≠b):
  Inv X Go σ H' { s with heap:=h',gens:=g',drawn:=d',toks:=t' }:=by
 obtain ⟨m,⟨o,es,ep,ho,r⟩,_⟩:=id I.loc;obtain ⟨sl,G⟩:=u.any ho I.free λz=>(O _ z).2.1 rfl;exact I.step (ch:=ch) O (λb o G hb hc e n=>u.keep b o e n (λz=>(MX.mp (I.SV b z)).elim G hb) hc) (λb o _ _ hc e n=>u.any e n hc) (λb o hc e n=>u.free b o e n hc) (λb o hc e=>u.there b o e hc) u.tups u.frzs u.tbls (λU hm=>by
  obtain ⟨o',F,J,S,r'⟩:=hm;rw [ho] at S;cases S;exact ⟨_,F,J,G,r'⟩) hok hg
theorem Inv.turned(I:Inv X Go σ H s)(k:∀b o,b≠it->s.heap.get? b=some o->h'.get? b=some o)(hn:H it=none)(G:it≠X.env.locals)(h1:it∈X.ex\/X.s₀.heap.objs.size<=it)(h2:∀x c,X.env.cells.lookup x=some c->c≠it)(h3:∀p∈X.pn++Go,p.1≠it):Inv X Go σ H { s with heap:=h',toks:=t' }:=by
 have F:∀b u,H b=some u->b≠it:=λb u e z=>by rw [z,hn] at e;cases e
 refine I.step (g':=s.gens) (d':=s.drawn) (ch:=[it]) (λb hb=>?_) (λb o _ _ hc e _=>k b o (λz=>hc (by simp [z])) e) (λb o _ _ hc e _=>⟨o.slots,k b o (λz=>hc (by simp [z])) e⟩) (λ_ _ _ _ n=>n)
  (λb o hc e=>⟨o,k b o (λz=>hc (by simp [z])) e⟩) (λ_ _ e=>e) (λ_ _ _ e=>e) (λb ps e=>⟨#[],by rw [e];simp⟩) (λm hm=>?_) (λb u e=>?_) I.bare
 .have e:b=it:=by simpa using hb
  subst e;exact ⟨h1,G,h2,h3⟩
 .obtain ⟨o,es,ep,ho,r⟩:=hm;exact ⟨o,es,ep,k _ o (Ni G) ho,r⟩
 .refine (I.hok b u e).stay (λc v hc q=>k c v ?_ q) (λ_ q=>q) λ_ _ q=>q;rcases hc with z|z
  .rw [z];exact F b u e
  .exact F c _ z
theorem Inv.tok(I:Inv X Go σ H s)(t:Nat):Inv X Go σ H { s with toks:=t }:=I.un (h':=s.heap) (t':=t) Un.refl I.hok
theorem Inv.kept(I:Inv X Go σ H s)(k:∀b u,s.heap.get? b=some u->h'.get? b=some u):Inv X Go σ H { s with heap:=h',toks:=t' }:=I.un (Un.kept k) (I.hok.kept k)
theorem Inv.laid{o:HO}(I:Inv X Go σ H s)(k:∀b u,s.heap.get? b=some u->h'.get? b=some u)(z:s.heap.objs.size<=a)(new:ah X.prog X.w (upd H a o) h' a o):
  Inv X Go σ (upd H a o) { s with heap:=h',toks:=t' }:=I.un (Un.laid k z (I.hok.fresh z)) (I.hok.laid k z new)
theorem Inv.write{o:HO}(I:Inv X Go σ H s)(F:Mut (H x))(he:e=x\/H e=some (.own x))(k:∀b u,b≠e->s.heap.get? b=some u->h'.get? b=some u)(z:∃u,h'.get? e=some u)(new:ah X.prog X.w (upd H x o) h' x o):Inv X Go σ (upd H x o) { s with heap:=h',toks:=t' }:=I.un (Un.write F he k z) (I.hok.write F he k z new)
theorem Inv.L1(I:Inv X Go σ H s)(h:∀p∈pins',s.heap.get? p.1=some p.2/\H p.1=none/\p.1≠X.env.locals/\p.1∉X.fs/\∀v,p.2.data≠.cell v):Inv X pins' σ H s :=
 ⟨I.ok,I.os,I.bare,I.base,I.loc,I.cell,I.free,I.So,λp F=>(NF.mp F).elim (λz=>I.pin p (N0 _ z)) (h p),I.hok,I.len,I.hdk⟩
theorem vc{N:List Str}(hN:N.Nodup){i j:Nat}(a:N[i]?=some x)(b:N[j]?=some x):i=j:=by
 obtain ⟨h1,z⟩:=MY.mp a;obtain ⟨h2,F⟩:=MY.mp b;exact (List.getElem_inj hN).mp (z.trans F.symm)
theorem KU(I:Inv X Go σ H s)(hN:X.N.Nodup)(hi:X.N[i]?=some x)(hx:Loc X.env.scope x)(r:zo v u)(h:∀s',Inv X Go (σ.set i (some v)) H s'->(∃a,QC a s.heap s'.heap/\(a=X.env.locals\/X.env.cells.lookup x=some a))->Q () s')(hf:X.fn x=true\/X.env.scope.names.lookup x=some .local:=by first|exact .inl rfl|exact .inr rfl|assumption):Nb M A (storeName X.env x u) Q E s:=by
 obtain ⟨m,hn,hl⟩:=id I.loc;have Z:(X.env.scope.kind == .class||(X.env.scope.kind == .module&&X.env.locals != X.env.globals))=false:=by rw [I.ok.kind];rfl
 have O:i<σ.length:=by rw [I.len];exact (MY.mp hi).1
 have cne:=I.cne;have Xz:∀{a:Addr}{h':Heap},(∃o,s.heap.get? a=some o/\H a=none)->QC a s.heap h'->HOk X.prog X.w H h':=λ{a h'} ha hs b ob e=>by
  obtain ⟨_,_,G⟩:=ha;refine (I.hok b ob e).stay (λc w' hc q=>(hs.2 c ?_).trans q) (λ_ q=>q) λ_ _ q=>q;rintro rfl;rcases hc with rfl|hc
  .rw [G] at e;cases e
  .rw [G] at hc;cases hc
 rcases hx with S|S
 .refine wpAny_storeName_local S hn (λh' aj hs=>?_) Z;obtain ⟨oL,_,_,Xf,_⟩:=id hn;refine h _ ⟨I.ok,I.os,I.bare,⟨λb o e n hb hx=>?_,λb o e n hb hx=>?_,I.base.free,λb o e hx=>?_,I.base.tups,I.base.frzs,I.base.tbls⟩,⟨_,aj,λj y v' F J e3=>?_⟩,λy c e=>?_,I.free,I.So,λp hp=>?_,Xz ⟨oL,Xf,I.free⟩ hs,by simpa using I.len,I.hdk⟩ ⟨_,hs,.inl rfl⟩
  .exact (hs.2 b (NN (Nn (Nj e) I.ok.above))).trans (I.base.keep b o e n hb hx)
  .obtain ⟨sl,F⟩:=I.base.slot b o e n hb hx;exact ⟨sl,(hs.2 b (NN (Nn (Nj e) I.ok.above))).trans F⟩
  .obtain ⟨o',F⟩:=I.base.there b o e hx;exact ⟨o',(hs.2 b (NN (Nn (Nj e) I.ok.above))).trans F⟩
  .by_cases U:j=i
   .subst U;rw [hi] at F;cases F;rw [Py O] at J;cases J;exact ⟨u,r,.inl ⟨S,by simp⟩⟩
   .rw [Qo (Ni U)] at J;obtain ⟨u',r',q⟩:=hl j y v' F J e3;refine ⟨u',r',?_⟩;rcases q with ⟨k,e⟩|⟨k,c,e,z⟩
    .refine .inl ⟨k,?_⟩;have:y≠x:=λe=>U (vc hN F (e ▸ hi));simp [this,e]
    .exact .inr ⟨k,c,e,z.sameBut hs (cne y c e)⟩
  .obtain ⟨w',z⟩:=I.cell y c e;exact ⟨w',z.sameBut hs (cne y c e)⟩
  .obtain ⟨e,n,ne,nf,d⟩:=I.pin p hp;exact ⟨(hs.2 p.1 ne).trans e,n,ne,nf,d⟩
 .have W:X.fn x=true:=by
   rcases hf with z|z
   .exact z
   .rw [z] at S;cases S
  obtain ⟨c,hc⟩:=I.ok.has x (.inl S);obtain ⟨w',z⟩:=I.cell x c hc;refine wpAny_storeName_cell I.ok.kind S hc z (λh' YA hs=>?_);obtain ⟨oc,ag,ab⟩:=id z;refine h { s with heap:=h' } ⟨I.ok,I.os,I.bare,⟨λb o e n hb hx=>?_,λb o e n hb hx=>?_,I.base.free,λb o e hx=>?_,I.base.tups,I.base.frzs,I.base.tbls⟩,⟨m,hn.sameBut hs (Ni (cne x c hc)),λj y v' F J e3=>?_⟩,λy c' e=>?_,I.free,I.So,λp hp=>?_,Xz ⟨oc,ag,I.So x c hc⟩ hs,by simpa using I.len,I.hdk⟩ ⟨c,hs,.inr hc⟩
  .exact (hs.2 b (NN (Nn (Nj e) (I.ok.VE x c W hc)))).trans (I.base.keep b o e n hb hx)
  .obtain ⟨sl,F⟩:=I.base.slot b o e n hb hx;exact ⟨sl,(hs.2 b (NN (Nn (Nj e) (I.ok.VE x c W hc)))).trans F⟩
  .obtain ⟨o',F⟩:=I.base.there b o e hx;exact ⟨o',(hs.2 b (NN (Nn (Nj e) (I.ok.VE x c W hc)))).trans F⟩
  .by_cases U:j=i
   .subst U;rw [hi] at F;cases F;rw [Py O] at J;cases J;exact ⟨u,r,.inr ⟨.inl S,c,hc,YA⟩⟩
   .rw [Qo (Ni U)] at J;obtain ⟨u',r',q⟩:=hl j y v' F J e3;refine ⟨u',r',?_⟩;rcases q with q|⟨k,c',e,z'⟩
    .exact .inl q
    .refine .inr ⟨k,c',e,z'.sameBut hs ?_⟩;rintro rfl;exact U (vc hN F (I.ok.inj _ _ _ e hc ▸ hi))
  .by_cases ai:c'=c
   .subst ai;exact ⟨_,YA⟩
   .obtain ⟨w2,z2⟩:=I.cell y c' e;exact ⟨w2,z2.sameBut hs ai⟩
  .obtain ⟨e,n,ne,nf,d⟩:=I.pin p hp;refine ⟨(hs.2 p.1 ?_).trans e,n,ne,nf,d⟩;intro q;rw [q,ag] at e;have q':oc=p.2:=NG.inj e;exact d w' (by rw [<- q'];exact ab)
theorem ic(I:Inv X Go σ H s)(hN:X.N.Nodup)(hi:X.N[i]?=some x)(hx:Loc X.env.scope x)(r:zo v u)(h:∀s',Inv X Go (σ.set i (some v)) H s'->Q () s')(hf:X.fn x=true\/X.env.scope.names.lookup x=some .local:=by first|exact .inl rfl|exact .inr rfl|assumption):Nb M A (storeName X.env x u) Q E s :=
 KU I hN hi hx r (λs' z _=>h s' z) hf
theorem Inv.Ve(I:Inv X Go σ H s)(ho:s'.os=s.os)(u:Un (frs X.stack) ch H H' s.heap s'.heap)(hok:HOk X.prog X.w H' s'.heap)(hg:PL s'.gens)(z:∀b∈ch,(b∈X.ex\/X.s₀.heap.objs.size<=b)/\b≠X.env.locals/\(∀x c,X.env.cells.lookup x=some c->c≠b)/\∀p∈X.pn++Go,p.1≠b):Inv X Go σ H' s':=by
 obtain ⟨h',g',d',t',o'⟩:=s';have e:o'=s.os:=ho;subst e;exact I.call (g':=g') (t':=t') (d':=d') u hok hg z
end
abbrev XK:=Value->Option Addr->Hp->Prop
abbrev St:=List (Option V)
abbrev VK:=V->Hp->Prop
abbrev TE:=St->Hp->VK->Prop
abbrev TT:=St->Hp->(Bool->Hp->Prop)->Prop
abbrev TA:=St->Hp->(List V->Hp->Prop)->Prop
structure aK where
 nx:St->Hp->Prop
 rt:VK
 bk:St->Hp->Prop:=λ_ _=>False
 ct:St->Hp->Prop:=λ_ _=>False
abbrev TS:=aK->St->Hp->Prop
def EP(X:Cx)(Go:List (Addr×Obj))(σ:St)(Q:VK)(u:Value)(s':p8):Prop:=∃v H',Inv X Go σ H' s'/\zo v u/\Q v H'
def TP(X:Cx)(Go:List (Addr×Obj))(σ:St)(Q:Bool->Hp->Prop)(b:Bool)(s':p8):Prop:=∃H',Inv X Go σ H' s'/\Q b H'
def AP(X:Cx)(Go:List (Addr×Obj))(σ:St)(Q:List V->Hp->Prop)(us:List Value)(s':p8):Prop:=∃vs H',Inv X Go σ H' s'/\zp vs us/\Q vs H'
def SP(X:Cx)(Go:List (Addr×Obj))(D:aK)(f:Flow)(s':p8):Prop :=
 match f with
 | .next=>∃z H',Inv X Go z H' s'/\D.nx z H'
 | .brk=>∃z H',Inv X Go z H' s'/\D.bk z H'
 | .cont=>∃z H',Inv X Go z H' s'/\D.ct z H'
 | .ret u=>∃v z H',Inv X Go z H' s'/\zo v u/\D.rt v H'
def PE(X:Cx)(e:Nr)(t:TE):Prop :=
 ∀(Go:List (Addr×Obj))(s:p8)(σ:St)(H:Hp)(Q:VK),Inv X Go σ H s->t σ H Q->Nb (Nf X.prog X.w) X.A (NT e X.env) (EP X Go σ Q) X.xe s
def PT(X:Cx)(e:Nr)(t:TT):Prop :=
 ∀(Go:List (Addr×Obj))(s:p8)(σ:St)(H:Hp)(Q:Bool->Hp->Prop),Inv X Go σ H s->t σ H Q->Nb (Nf X.prog X.w) X.A (isTrue e X.env (NT e X.env)) (TP X Go σ Q) X.xe s
def PW(X:Cx)(e:Nr)(t:TT):Prop :=
 ∀(z:Sem Value)(Go:List (Addr×Obj))(s:p8)(σ:St)(H:Hp)(Q:Bool->Hp->Prop),Inv X Go σ H s->t σ H Q->Nb (Nf X.prog X.w) X.A (isTrue e X.env z) (TP X Go σ Q) X.xe s
theorem PW.pt{t:TT}(h:PW X e t):PT X e t:=h _
def PA(X:Cx)(es:List Nr)(t:TA):Prop :=
 ∀(pos:Pos)(Go:List (Addr×Obj))(s:p8)(σ:St)(H:Hp)(Q:List V->Hp->Prop),Inv X Go σ H s->t σ H Q->Nb (Nf X.prog X.w) X.A (spliced (OT pos (Nq es X.env))) (AP X Go σ Q) X.xe s
def PS(X:Cx)(st:Stmt)(t:TS):Prop :=
 ∀(Go:List (Addr×Obj))(s:p8)(σ:St)(H:Hp)(D:aK),Inv X Go σ H s->t D σ H->Nb (Nf X.prog X.w) X.A (exec st X.env) (SP X Go D) X.xe s
def PSs(X:Cx)(st:List Stmt)(t:TS):Prop :=
 ∀(Go:List (Addr×Obj))(s:p8)(σ:St)(H:Hp)(D:aK),Inv X Go σ H s->t D σ H->Nb (Nf X.prog X.w) X.A (execs st X.env) (SP X Go D) X.xe s
theorem x2e{a b c:Prop}(f:a->b->c)(h:a/\b):c:=f h.1 h.2
theorem x3e{α:Sort _}{A B:α->Prop}{D:Prop}(f:∀x,A x->B x->D)(h:∃x,A x/\B x):D:=h.elim λx z=>f x z.1 z.2
theorem x4e{α β:Sort _}{A B:α->β->Prop}{D:Prop}(f:∀x y,A x y->B x y->D)(h:∃x y,A x y/\B x y):D:=h.elim λx=>x3e (f x)
theorem x5e{α β:Sort _}{A B C:α->β->Prop}{D:Prop}(f:∀x y,A x y->B x y->C x y->D)(h:∃x y,A x y/\B x y/\C x y):D:=h.elim λx=>x3e λy a=>x2e (f x y a)
theorem thn{α:Type}{t:Sem α}{Q z:α->p8->Prop}(h:Nb M A t Q E s)(F:∀a s,Q a s->z a s):Nb M A t z E s:=N7 h F λ_ _ x=>x
section
variable {X:Cx}
def qT(i:Nat):TE:=λσ H Q=>∃v,σ[i]?=some (some v)/\Q v H
def tC(v:V):TE:=λ_ H Q=>Q v H
theorem C8(hN:X.N[i]?=some x)(J:Vis X.env.scope x)(hd:(x==("__debug__":Str))=false:=by decide)(O:(x==("__classdict__":Str))=false:=by decide):PE X (.Name x pos) (qT i):=by
 intro Go s σ H Q I h;obtain ⟨v,e,h⟩:=h;obtain ⟨m,hn,hl⟩:=I.loc;obtain ⟨u,r,l⟩:=hl i x v hN e J;have z:EP X Go σ Q u s:=⟨v,H,I,r,h⟩;rcases l with ⟨F,hm⟩|⟨F,c,hc,G⟩
 .exact wpAny_Name (QS I.ok.kind F hn hm z) hd
 .rcases F with F|F
  .exact wpAny_Name (wpAny_loadName_cell I.ok.kind F hc G z) hd
  .exact wpAny_Name (wpAny_loadName_free I.ok.kind F hc G z O) hd
theorem qA{i j pos}:PE X (.Constant (.int i) j pos) (tC (.int i)):=λ_ _ _ H _ I h=>Rk ⟨.int i,H,I.tok _,⟨_,rfl⟩,h⟩
theorem bz{b j pos}:W (PE X (.Constant (.bool b) j pos) (tC (.bl b))):=⟨λ_ _ _ H _ I h=>Constant_bool ⟨.bl b,H,I,rfl,h⟩⟩
theorem aR{j pos}:W (PE X (.Constant .none j pos) (tC .non)):=⟨λ_ _ _ H _ I h=>Constant_none ⟨.non,H,I,rfl,h⟩⟩
theorem zF{x j pos}:W (PE X (.Constant (.str x) j pos) (tC (.str x))):=⟨λ_ _ _ H _ I h=>Calls.Constant_str ⟨.str x,H,I.tok _,⟨_,rfl⟩,h⟩⟩
def Gl(X:Cx)(x:Str):Prop:=X.env.kindOf x=some .globalImplicit
theorem gs(I:Inv X Go σ H s)(hg:Gl X x)(hm:X.mg x=some u)(h:Q u s)(hd:(x==("__debug__":Str))=false:=by decide):Nb (Nf X.prog X.w) X.A (NT (.Name x pos) X.env) Q E s :=
 Calls.Name_function_global I.ok.kind hg (Calls.loadGlobal_global (by rw [I.ok.glob];exact I.mod.glob.keeps I.bk) hm h) hd
theorem dI(I:Inv X Go σ H s)(hg:Gl X x)(hm:X.mg x=none)(z:Pw x=some u)(h:Q u s)(hn:x≠"__name__":=by decide)(hd:(x==("__debug__":Str))=false:=by decide):Nb (Nf X.prog X.w) X.A (NT (.Name x pos) X.env) Q E s:=by
 obtain ⟨F,h1,h2⟩:=I.mod.blt;exact Calls.Name_function_global I.ok.kind hg (Calls.loadGlobal_builtin (by rw [I.ok.glob];exact I.mod.glob.keeps I.bk) hm (by rw [I.ok.blt];exact h1.keeps I.bk) ((h2 x hn).trans z) h) hd
theorem KO(hg:Gl X x)(hm:X.mg x=some u)(r:zo v u)(hd:(x==("__debug__":Str))=false:=by decide):PE X (.Name x pos) (tC v) :=
 λ_ _ _ H _ I h=>gs I hg hm ⟨v,H,I,r,h⟩ hd
theorem ji(hg:Gl X x)(hm:X.mg x=none)(z:Pw x=some u)(r:zo v u)(hn:x≠"__name__":=by decide)(hd:(x==("__debug__":Str))=false:=by decide):W (PE X (.Name x pos) (tC v)):=⟨λ_ _ _ H _ I h=>dI I hg hm z ⟨v,H,I,r,h⟩ hn hd⟩
variable {a b:Nr}{ta tb:TE}{pos:Pos}
variable {tA tB':TT}{Zo:List Nr}
def wL(t u:TT):TT:=λσ H Q=>t σ H λc H1=>if c=true then u σ H1 Q else Q false H1
def tOr(t u:TT):TT:=λσ H Q=>t σ H λc H1=>if c=true then Q true H1 else u σ H1 Q
def uI(t:TT):TT:=λσ H Q=>t σ H λc H1=>Q (!c) H1
theorem dQ(ha:W (PT X a tA)):W (PW X (.BoolOp .And [a] pos) tA):=by
 refine ⟨?_⟩;have ha:=ha.h;intro z Go s σ H Q I h;refine isTrue_and (thn (ha Go s σ H Q I h) λc s1 e=>?_);cases c with
 | true=>exact isTrue_and_nil e
 | false=>exact e
theorem jx(ha:W (PT X a tA)):W (PW X (.BoolOp .Or [a] pos) tA):=by
 refine ⟨?_⟩;have ha:=ha.h;intro z Go s σ H Q I h;refine isTrue_or (thn (ha Go s σ H Q I h) λc s1 e=>?_);cases c with
 | false=>exact isTrue_or_nil e
 | true=>exact e
theorem dM(ha:W (PT X a tA))(hb:W (PW X (.BoolOp .And (b::Zo) pos) tB')):W (PW X (.BoolOp .And (a::b::Zo) pos) (wL tA tB')):=by
 refine ⟨?_⟩;have ha:=ha.h;have hb:=hb.h;intro G Go s σ H Q I h;refine isTrue_and (thn (ha Go s σ H _ I h) λc s1=>x3e λH1 z F=>?_);cases c with
 | true=>exact hb G Go s1 σ H1 Q z F
 | false=>exact ⟨H1,z,F⟩
theorem kN(ha:W (PT X a tA))(hb:W (PW X (.BoolOp .Or (b::Zo) pos) tB')):W (PW X (.BoolOp .Or (a::b::Zo) pos) (tOr tA tB')):=by
 refine ⟨?_⟩;have ha:=ha.h;have hb:=hb.h;intro G Go s σ H Q I h;refine isTrue_or (thn (ha Go s σ H _ I h) λc s1=>x3e λH1 z F=>?_);cases c with
 | true=>exact ⟨H1,z,F⟩
 | false=>exact hb G Go s1 σ H1 Q z F
theorem dA(ha:W (PT X a tA)):W (PT X (.UnaryOp .Not a pos) (uI tA)):=by
 refine ⟨?_⟩;have ha:=ha.h;intro Go s σ H Q I h;exact isTrue_not (ha Go s σ H (λc H1=>Q (!c) H1) I h)
def qc(ta tb:TE):TE:=λσ H Q=>ta σ H λx H1=>∃c,x = .bl c/\if c=true then tb σ H1 Q else Q (.bl false) H1
def xV(ta tb:TE):TE:=λσ H Q=>ta σ H λx H1=>∃c,x = .bl c/\if c=true then Q (.bl true) H1 else tb σ H1 Q
def qF(ta:TE):TE:=λσ H Q=>ta σ H λx H1=>∃c,x = .bl c/\Q (.bl (!c)) H1
theorem lI{op}{t:TE}(h:W (PE X a t)):W (PE X (.BoolOp op [a] pos) t):=by refine ⟨?_⟩;have h:=h.h;exact λGo s σ H Q I z=>BoolOp_one (h Go s σ H Q I z)
theorem oX(ha:W (PE X a ta))(hb:W (PE X (.BoolOp .And (b::Zo) pos) tb)):W (PE X (.BoolOp .And (a::b::Zo) pos) (qc ta tb)):=by
 refine ⟨?_⟩;have ha:=ha.h;have hb:=hb.h;intro Go s σ H Q I h;refine BoolOp_and (thn (ha Go s σ H _ I h) λv s1=>x5e λx H1 F G z=>?_);obtain ⟨c,rfl,z⟩:=z;cases G;refine OK ?_;cases c with
 | true=>exact hb Go s1 σ H1 Q F z
 | false=>exact ⟨.bl false,H1,F,rfl,z⟩
theorem EM(ha:W (PE X a ta))(hb:W (PE X (.BoolOp .Or (b::Zo) pos) tb)):W (PE X (.BoolOp .Or (a::b::Zo) pos) (xV ta tb)):=by
 refine ⟨?_⟩;have ha:=ha.h;have hb:=hb.h;intro Go s σ H Q I h;refine BoolOp_or (thn (ha Go s σ H _ I h) λv s1=>x5e λx H1 F G z=>?_);obtain ⟨c,rfl,z⟩:=z;cases G;refine OK ?_;cases c with
 | false=>exact hb Go s1 σ H1 Q F z
 | true=>exact ⟨.bl true,H1,F,rfl,z⟩
theorem FC(ha:W (PE X a ta)):W (PE X (.UnaryOp .Not a pos) (qF ta)):=by
 refine ⟨?_⟩;have ha:=ha.h;intro Go s σ H Q I h;refine UnaryOp_ (thn (ha Go s σ H _ I h) λv s1=>x5e λx H1 G F z=>?_);obtain ⟨c,rfl,z⟩:=z;cases F;exact not_of (OK ⟨.bl (!c),H1,G,rfl,z⟩)
def tIf(t:TT)(ta tb:TE):TE:=λσ H Q=>t σ H λc H1=>if c=true then ta σ H1 Q else tb σ H1 Q
theorem kP(hc:W (PT X c tA))(ha:W (PE X a ta))(hb:W (PE X b tb)):W (PE X (.IfExp c a b pos) (tIf tA ta tb)):=by
 refine ⟨?_⟩;have hc:=hc.h;have ha:=ha.h;have hb:=hb.h;intro Go s σ H Q I h;refine wpAny_IfExp (thn (hc Go s σ H _ I h) λd s1=>x3e λH1 z F=>?_);cases d with
 | true=>exact ha Go s1 σ H1 Q z F
 | false=>exact hb Go s1 σ H1 Q z F
end
def SqL(K:KE)(H:Hp)(a:Addr)(xs:List V):Prop :=
 Rd H a (.lst xs) \/
  ∃(o:Obj)(its:Array Value)(n:Nat),K.lookup a=some o/\o.cls = .type "list"/\o.dict=none/\o.data = .seq its n/\its.size<=sizeLine/\zp xs its.toList
def SqT(K:KE)(H:Hp)(a:Addr)(xs:List V):Prop :=
 Rd H a (.tup xs) \/
  ∃(o:Obj)(its:Array Value)(n:Nat),K.lookup a=some o/\o.cls = .type "tuple"/\o.data = .seq its n/\its.size<=sizeLine/\zp xs its.toList
def KF:Value->Option V
 | .none=>some .non
 | .bool b=>some (.bl b)
 | .int i _=>some (.int i)
 | .str x _=>some (.str x)
 | .bytes b _=>some (.byt b)
 | .float b _=>some (.flt b)
 | .ref a=>some (.ref a)
 | .type n=>some (.ty n)
 | _=>none
theorem zo.abs(r:zo x u):KF u=some x:=by
 cases x with
 | non=>cases r;rfl
 | bl _=>cases r;rfl
 | int _=>obtain ⟨t,rfl⟩:=r;rfl
 | str _=>obtain ⟨t,rfl⟩:=r;rfl
 | byt _=>obtain ⟨t,rfl⟩:=r;rfl
 | flt _=>obtain ⟨t,rfl⟩:=r;rfl
 | ref _=>cases r;rfl
 | ty _=>cases r;rfl
theorem zo.inj(r:zo x u)(q:zo y u):x=y:=NG.inj (r.abs.symm.trans q.abs)
theorem zp.inj(h:zp xs us):∀{ys:List V},zp ys us->xs=ys:=by
 induction h with
 | nil=>intro ys k;cases k;rfl
 | cons r t z =>
  intro ys k;cases k with
  | cons r' t'=>rw [r.inj r',z t']
section
variable {X:Cx}{Go:List (Addr×Obj)}{σ:St}{H:Hp}{s:p8}{a:Addr}{xs ys:List V}
theorem SqL.of{K:KE}(h:H a=some (.lst xs)):SqL K H a xs:=.inl (.inl h)
theorem SqT.of{K:KE}(h:H a=some (.tup xs)):SqT K H a xs:=.inl (.inl h)
theorem Inv.list(I:Inv X Go σ H s)(h:SqL X.K H a xs):∃its:List Value,zp xs its/\PlainL s.heap a its.toArray/\xs.length<=sizeLine:=by
 rcases h with h|⟨o,its,n,F,hc,hd,hs,G,r⟩
 .obtain ⟨z,its,n,r,e⟩:=h.ok I.hok;exact ⟨its,r,⟨_,n,e,rfl,rfl,rfl⟩,z⟩
 .refine ⟨its.toList,r,⟨o,n,I.SD a o F,hc,hd,by simpa using hs⟩,?_⟩;have e:=r.length;simp only [Pc] at e;lia
theorem Inv.tuple(I:Inv X Go σ H s)(h:SqT X.K H a xs):∃its:List Value,zp xs its/\Rc s.heap a its.toArray/\xs.length<=sizeLine:=by
 rcases h with h|⟨o,its,n,F,hc,hs,G,r⟩
 .obtain ⟨z,its,r,p⟩:=h.ok I.hok;exact ⟨its,r,p,z⟩
 .refine ⟨its.toList,r,⟨o,I.SD a o F,hc,n,by simpa using hs⟩,?_⟩;have e:=r.length;simp only [Pc] at e;lia
theorem Inv.Sx(I:Inv X Go σ H s)(h:SqL X.K H a xs)(h':SqL X.K H a ys):xs=ys:=by
 obtain ⟨its,r,⟨o,n,e,_,_,d⟩,_⟩:=I.list h;obtain ⟨its',r',⟨o',F,z,_,_,d'⟩,_⟩:=I.list h';rw [e] at z;cases z;rw [d] at d';injection d' with d1 _
 have:its=its':=by simpa using congrArg Array.toList d1
 subst this;exact r.inj r'
theorem Inv.S6(I:Inv X Go σ H s)(h:SqT X.K H a xs)(h':SqT X.K H a ys):xs=ys:=by
 obtain ⟨its,r,⟨o,e,_,n,d⟩,_⟩:=I.tuple h;obtain ⟨its',r',⟨o',z,_,F,d'⟩,_⟩:=I.tuple h';rw [e] at z;cases z;rw [d] at d';injection d' with d1 _
 have:its=its':=by simpa using congrArg Array.toList d1
 subst this;exact r.inj r'
end
abbrev Cx.SH(X:Cx)(E:Value->p8->Prop):Cx:={ X with xe:=E }
abbrev Cx.U3(X:Cx):Cx:=X.SH λ_ _=>False
theorem Cx.Ok.SH{X:Cx}(ok:X.Ok)(E:Value->p8->Prop):(X.SH E).Ok :=
 ⟨ok.mod,ok.kind,ok.glob,ok.blt,ok.above,ok.inj,ok.has,ok.VE,ok.hd,ok.frames,ok.VH,ok.aw,ok.bs,ok.Vf,ok.UV,ok.U0,ok.SM,ok.Vo⟩
theorem Cx.Ok.xy{X:Cx}(ok:(X.SH E).Ok):X.Ok :=
 ⟨ok.mod,ok.kind,ok.glob,ok.blt,ok.above,ok.inj,ok.has,ok.VE,ok.hd,ok.frames,ok.VH,ok.aw,ok.bs,ok.Vf,ok.UV,ok.U0,ok.SM,ok.Vo⟩
section
variable {X:Cx}{Go:List (Addr×Obj)}{σ:St}{H:Hp}{s:p8}{E:Value->p8->Prop}
theorem Inv.SH(I:Inv X Go σ H s)(E:Value->p8->Prop):Inv (X.SH E) Go σ H s:=⟨I.ok.SH E,I.os,I.bare,I.base,I.loc,I.cell,I.free,I.So,I.pin,I.hok,I.len,I.hdk⟩
theorem Inv.xy(I:Inv (X.SH E) Go σ H s):Inv X Go σ H s:=⟨I.ok.xy,I.os,I.bare,I.base,I.loc,I.cell,I.free,I.So,I.pin,I.hok,I.len,I.hdk⟩
theorem SP.xy(h:SP (X.SH E) Go D f s'):SP X Go D f s':=by
 cases f with
 | next=>obtain ⟨z,H',I,q⟩:=h;exact ⟨z,H',I.xy,q⟩
 | brk=>obtain ⟨z,H',I,q⟩:=h;exact ⟨z,H',I.xy,q⟩
 | cont=>obtain ⟨z,H',I,q⟩:=h;exact ⟨z,H',I.xy,q⟩
 | ret u=>obtain ⟨v,z,H',I,r,q⟩:=h;exact ⟨v,z,H',I.xy,r,q⟩
theorem PSs.U3{st:List Stmt}{t:TS}(h:PSs X.U3 st t):PSs X st t:=λGo s σ H D I F =>
 N7 (h Go s σ H D (I.SH _) F) (λ_ _ q=>q.xy) λ_ _ z=>False.elim z
end
section
variable {X:Cx}{st:Stmt}{Zo:List Stmt}{t u:TS}{e:Nr}{te:TE}{pos:Pos}
def qI:TS:=λD σ H=>D.nx σ H
def pY(t u:TS):TS:=λD σ H=>t { D with nx:=u D } σ H
theorem yO:PSs X [] qI:=λ_ _ σ H _ I h=>Qm ⟨σ,H,I,h⟩
theorem xB(h1:PS X st t)(h2:PSs X Zo u):PSs X (st::Zo) (pY t u):=by
 intro Go s σ H D I h;refine wpAny_execs_cons (thn (h1 Go s σ H { D with nx:=u D } I h) λf s1 q=>?_);cases f with
 | next =>
  obtain ⟨z,H',F,q⟩:=q;exact h2 Go s1 z H' D F q
 | ret v=>exact q
 | brk=>exact q
 | cont=>exact q
theorem mq(h1:PS X st t):PSs X [st] t:=by
 intro Go s σ H D I h;refine wpAny_execs_cons (thn (h1 Go s σ H D I h) λf s1 q=>?_);cases f with
 | next=>exact Qm q
 | ret v=>exact q
 | brk=>exact q
 | cont=>exact q
theorem Inv.quiet(I:Inv X Go σ H s):interactive X.env=false:=by simp [interactive,I.ok.kind]
def wF(te:TE):TS:=λD σ H=>te σ H λ_ H1=>D.nx σ H1
theorem aw(he:W (PE X e te))(hs:swapsWith e none pos.line X.env=pure false:=by rfl):W (PS X (.Expr e pos) (wF te)):=by
 refine ⟨?_⟩;have he:=he.h;intro Go s σ H D I h;exact wpAny_Expr_any (thn (he Go s σ H _ I h) λv s1=>x5e λx H1 z G F=>⟨σ,H1,z,F⟩) I.quiet hs
def oK(te:TE):TS:=λD σ H=>te σ H D.rt
theorem lY(he:PE X e te):PS X (.Return (some e) pos) (oK te):=by
 intro Go s σ H D I h;exact wpAny_Return_some (thn (he Go s σ H _ I h) λv s1=>x5e λx H1 F z G=>⟨x,σ,H1,F,z,G⟩)
def mU(c:TT)(t u:TS):TS:=λD σ H=>c σ H λb H1=>if b=true then t D σ H1 else u D σ H1
theorem Aa(hc:PT X c tc)(ha:PSs X a t)(hb:PSs X b u):PS X (.If c a b pos) (mU tc t u):=by
 intro Go s σ H D I h;refine wpAny_If (thn (hc Go s σ H _ I h) λd s1=>x3e λH1 z F=>?_);cases d with
 | true=>exact ha Go s1 σ H1 D z F
 | false=>exact hb Go s1 σ H1 D z F
end
abbrev TG:=V->St->Hp->(St->Hp->Prop)->Prop
abbrev TGs:=List V->St->Hp->(St->Hp->Prop)->Prop
def PG(X:Cx)(z:Nr)(t:TG):Prop :=
 ∀(Go:List (Addr×Obj))(s:p8)(σ:St)(H:Hp)(v:V)(u:Value)(Q:St->Hp->Prop),Inv X Go σ H s->zo v u->t v σ H Q ->
  Nb (Nf X.prog X.w) X.A (assign z X.env u) (λ_ s'=>∃F H',Inv X Go F H' s'/\Q F H') X.xe s
def PGs(X:Cx)(ts:List Nr)(t:TGs):Prop :=
 ∀(Go:List (Addr×Obj))(s:p8)(σ:St)(H:Hp)(vs:List V)(us:List Value)(Q:St->Hp->Prop),Inv X Go σ H s->zp vs us->t vs σ H Q ->
  Nb (Nf X.prog X.w) X.A (RK ((OP ts X.env).map (·.2)) us) (λ_ s'=>∃z H',Inv X Go z H' s'/\Q z H') X.xe s
abbrev pK:=V->V->V->Hp->(Hp->Prop)->Prop
def qZ(X:Cx)(t:pK):Prop :=
 ∀(Go:List (Addr×Obj))(s:p8)(σ:St)(H:Hp)(o i v:V)(ov iv u:Value)(Q:Hp->Prop),Inv X Go σ H s->zo o ov->zo i iv->zo v u->t o i v H Q ->
  Nb (Nf X.prog X.w) X.A (setItem ov iv u) (λ_ s'=>∃H',Inv X Go σ H' s'/\Q H') X.xe s
abbrev TIp:=V->V->Hp->VK->Prop
def PIp(X:Cx)(op:Operator)(t:TIp):Prop :=
 ∀(Go:List (Addr×Obj))(s:p8)(σ:St)(H:Hp)(x y:V)(v u:Value)(Q:VK),Inv X Go σ H s->zo x v->zo y u->t x y H Q ->
  Nb (Nf X.prog X.w) X.A (inplaceOp op v u) (EP X Go σ Q) X.xe s
section
variable {X:Cx}{pos:Pos}
def d9(i:Nat):TG:=λv σ H Q=>Q (σ.set i (some v)) H
theorem yw(hN:X.N.Nodup)(hi:X.N[i]?=some x)(hx:Loc X.env.scope x)(hf:X.fn x=true\/X.env.scope.names.lookup x=some .local:=by first|exact .inl rfl|exact .inr rfl|assumption):PG X (.Name x pos) (d9 i):=by
 intro Go s σ H v u Q I r h;exact wpAny_assign_Name (ic I hN hi hx r (λs' z=>⟨_,H,z,h⟩) hf)
def xM:TGs:=λvs σ H Q=>vs=[]/\Q σ H
def oZ(t:TG)(u:TGs):TGs:=λvs σ H Q=>∃v r,vs=v::r/\t v σ H λz H'=>u r z H' Q
theorem bC:W (PGs X [] xM):=by
 refine ⟨?_⟩;intro Go s σ H vs us Q I r h;obtain ⟨e,h⟩:=h;subst e;cases r;exact assignInOrder_nil ⟨σ,H,I,h⟩
theorem zJ{t:TG}(h1:W (PG X e t))(h2:W (PGs X es u))(hs:(OP (e::es) X.env).map (·.2)=assign e X.env::(OP es X.env).map (·.2):=by rfl):W (PGs X (e::es) (oZ t u)):=by
 refine ⟨?_⟩;have h1:=h1.h;have h2:=h2.h;intro Go s σ H vs us Q I r h;obtain ⟨v,S,G,h⟩:=h;subst G;cases r with
 | cons r O =>
  rw [hs];refine Rt (thn (h1 Go s σ H _ _ _ I r h) λ_ s1=>x4e λz H1 F J=>?_);exact h2 Go s1 z H1 _ _ Q F O J
def pM(K:KE)(n:Nat)(t:TGs):TG:=λv σ H Q=>∃a xs,v = .ref a/\SqT K H a xs/\xs.length=n/\t xs σ H Q
def x5(to ti:TE)(t:pK):TG:=λv σ H Q=>to σ H λo H1=>ti σ H1 λi H2=>t o i v H2 λH3=>Q σ H3
theorem fB{o i:Nr}{t:pK}(ho:W (PE X o to))(hi:W (PE X i ti))(hs:qZ X t)(ha:∀v,assign (.Subscript o i pos) X.env v=(do
   let ov<-Pr [v] (NT o X.env)
   let iv<-Pr [v,ov] (NT i X.env)
   P0 pos
   Pr [v,ov,iv] (setItem ov iv v)
   release [v,ov,iv] []):=by intro _;rfl):W (PG X (.Subscript o i pos) (x5 to ti t)):=by
 refine ⟨?_⟩;have ho:=ho.h;have hi:=hi.h;intro Go s σ H v u Q I r h;rw [ha];refine fv (NH (thn (ho Go s σ H _ I h) λov s1=>x5e λx H1 G z Z=>?_));refine fv (NH (thn (hi Go s1 σ H1 _ G Z) λiv s2=>x5e λy H2 O J S=>?_));refine fv (Pa (fv (NH (thn (hs Go s2 σ H2 x y v ov iv u _ O z J r S) λ_ s3=>x3e λH3 F U=>?_))));exact wpAny_release ⟨σ,H3,F,U⟩
def iU(te:TE)(g:TG):TS:=λD σ H=>te σ H λx H1=>g x σ H1 D.nx
theorem cj(he:W (PE X e te))(hg:W (PG X tg g))(hs:swapsWithSole [tg] e pos.line X.env=pure false:=by rfl)(z:swappedStores [tg] e X.env=pure none:=by rfl)(h1:(OP [tg] X.env).map (·.2)=[assign tg X.env]:=by rfl):W (PS X (.Assign [tg] e pos) (iU te g)):=by
 refine ⟨?_⟩;have he:=he.h;have hg:=hg.h;intro Go s σ H D I h;refine wpAny_Assign_stores (thn (he Go s σ H _ I h) λv s1=>x5e λx H1 F J G=>?_) hs z;rw [h1];exact thn (hg Go s1 σ H1 x v _ F J G) λ_ s2 q=>q
theorem zz(hN:X.N.Nodup)(hi:X.N[i]?=some x)(hx:Loc X.env.scope x)(he:W (PE X e te))(hs:swapsWith e (some (.Name x Y4)) pos.line X.env=pure false:=by rfl)(hf:X.fn x=true\/X.env.scope.names.lookup x=some .local:=by first|exact .inl rfl|exact .inr rfl|assumption):W (PS X (.Assign [.Name x Y4] e pos) (iU te (d9 i))):=by
 refine ⟨?_⟩;have he:=he.h;intro Go s σ H D I h;refine wpAny_Assign_Name (thn (he Go s σ H _ I h) λv s1=>x5e λy H1 z F J=>?_) hs;exact ic z hN hi hx F (λs2 G=>⟨_,H1,G,J⟩) hf
def rh(i j:Nat)(ta:TA):TS:=λD σ H=>ta σ H λvs H1=>∃v w,vs=[v,w]/\D.nx ((σ.set i (some v)).set j (some w)) H1
theorem Ej{z G pt:Pos}{kt k2 pt2}(hc:X.calm=true)(hN:X.N.Nodup)(hi:X.N[i]?=some x)(hj:X.N[j]?=some y)(Yg:i≠j)(hx:X.env.scope.names.lookup x=some .local)(S:X.env.scope.names.lookup y=some .local)(ha:PA X [a,b] ta)(hw:swappedStores [.Tuple [.Name x z,.Name y G] kt pt] (.Tuple [a,b] k2 pt2) X.env=pure (some [x,y]))(hs:swapsWithSole [.Tuple [.Name x z,.Name y G] kt pt] (.Tuple [a,b] k2 pt2) pos.line X.env=pure false:=by rfl):
  PS X (.Assign [.Tuple [.Name x z,.Name y G] kt pt] (.Tuple [a,b] k2 pt2) pos) (rh i j ta):=by
 intro Go s σ H D I h;rw [exec_Assign_arm];refine fv (Pa ?_);rw [hs];refine fv (MZ ?_);rw [if_neg (by decide)];refine fv (Tuple_ (thn (ha _ Go s σ H _ I h) λus s1=>x5e λvs H1 W r1 J=>?_));obtain ⟨v,w,e1,J⟩:=J;subst e1;obtain ⟨u1,u2,rfl,Z,XS⟩:∃u1 u2,us=[u1,u2]/\zo v u1/\zo w u2:=by
  cases r1 with
  | cons p q =>
   cases q with
   | cons p' q' =>
    cases q';exact ⟨_,_,rfl,p,p'⟩
 refine N5 ?_ (by show 2<=sizeLine;decide);have I2:Inv X Go σ H1 { s1 with heap:=s1.heap.push { cls:=.type "tuple",data:=.seq [u1,u2].toArray } }:=W.kept (t':=s1.toks) λb o e=>we _ e;rw [hw];refine fv (MZ ?_);show Nb (Nf X.prog X.w) X.A (do rule "assign.swapped-stores";let items<-unpackItems (.ref s1.heap.objs.size) 2 none;RK [λv=>bindName X.env y v,λv=>bindName X.env x v] items.reverse;pure Flow.next) _ _ _;refine fv (Pb (fv (unpackItems_tuple (items:=#[u1,u2]) (I.ok.hd hc) (Rc.new s1.heap _) λh' F=>?_)));have U:=I2.kept (h':=h') (t':=s1.toks) λb o e=>F b o (NN (Nj e)) e;show Nb _ _ (RK [λv=>bindName X.env y v,λv=>bindName X.env x v] [u2,u1]>>=λ_=>pure Flow.next) _ _ _;refine fv (Rt (wpAny_bindName (ic U hN hj (.inl S) XS (λs2 I4=>?_) (.inr S))));refine Rt (wpAny_bindName (ic I4 hN hi (.inl hx) Z (λs3 O=>assignInOrder_nil (MZ ?_)) (.inr hx)));rw [List.set_comm _ _ (Ni Yg)] at O;exact ⟨_,H1,O,J⟩
def xv(i:Nat)(te:TE)(ti:TIp):TS:=λD σ H=>∃x,σ[i]?=some (some x)/\te σ H λy H1=>ti x y H1 λz H2=>D.nx (σ.set i (some z)) H2
theorem HU(hN:X.N.Nodup)(hi:X.N[i]?=some x)(hx:Loc X.env.scope x)(he:W (PE X e te))(ho:PIp X op ti)(hf:X.fn x=true\/X.env.scope.names.lookup x=some .local:=by first|exact .inl rfl|exact .inr rfl|assumption):W (PS X (.AugAssign (.Name x Y4) op e pos) (xv i te ti)):=by
 refine ⟨?_⟩;have he:=he.h;intro Go s σ H D I h;obtain ⟨v,e1,h⟩:=h;obtain ⟨m,hn,hl⟩:=I.loc;have J:Vis X.env.scope x:=by rcases hx with k|k;exact .inl k;exact .inr (.inl k)
 obtain ⟨u,r,l⟩:=hl i x v hi e1 J;refine wpAny_AugAssign_Name ?_;have go:Nb (Nf X.prog X.w) X.A (NT e X.env) (λw G=>Nb (Nf X.prog X.w) X.A (inplaceOp op u w) (λr s₃=>Nb (Nf X.prog X.w) X.A (storeName X.env x r) (λ_=>SP X Go D .next) X.xe s₃) X.xe G) X.xe s:=by
  refine thn (he Go s σ H _ I h) λw s1=>x5e λy H1 Z S q1=>?_;refine thn (ho Go s1 σ H1 v y u w _ Z r S q1) λz s2=>x5e λzv H2 I2 r2 q2=>?_;exact ic I2 hN hi hx r2 (λs3 U=>⟨_,H2,U,q2⟩) hf
 rcases l with ⟨F,hm⟩|⟨F,c,hc,O⟩
 .exact QS I.ok.kind F hn hm go
 .rcases F with F|F
  .exact wpAny_loadName_cell I.ok.kind F hc O go
  .rcases hx with k|k
   .have:X.env.scope.names.lookup x=some .free:=F;rw [k] at this;cases this
   .have:X.env.scope.names.lookup x=some .free:=F;rw [k] at this;cases this
def ipI(f:Int->Int->Int):TIp:=λx y H Q=>∃i j,x = .int i/\y = .int j/\Q (.int (f i j)) H
theorem Kp:PIp X .Add (ipI λi j=>i+j):=by
 intro Go s σ H x y v u Q I z F h;obtain ⟨i,j,G,J,q⟩:=h;subst G;subst J;obtain ⟨t,rfl⟩:=z;obtain ⟨t',rfl⟩:=F;exact iadd_int ⟨.int _,H,I.tok _,⟨_,rfl⟩,q⟩
def vT(c:TT)(tb:TS):TS:=λD σ H=>∃W:Nat->St->Hp->Prop,(∃m,W m σ H)/\∀m σ H,W m σ H ->
 c σ H λb H1=>if b=true then ∃N:St->Hp->Prop,(∀z H',N z H'->∃F,F<m/\W F z H')/\tb { D with nx:=N,ct:=N,bk:=D.nx } σ H1 else D.nx σ H1
theorem Et(hp:N9 (Nf X.prog X.w) X.A X.env X.xe)(hc:W (PT X c tc))(hb:W (PSs X Zx tb)):W (PS X (.While c Zx [] pos) (vT tc tb)):=by
 refine ⟨?_⟩;have hc:=hc.h;have hb:=hb.h;intro Go s σ H D I h;obtain ⟨W,⟨m0,w0⟩,J⟩:=h;refine wpAny_While (codeAny_whileLoop (λn s'=>∃G H',Inv X Go G H' s'/\W n G H') ?_ m0 ⟨σ,H,I,w0⟩);rintro n s1 ⟨F,H1,I1,w1⟩;refine OZ hp (thn (hc Go s1 F H1 _ I1 (J n F H1 w1)) λb s2=>x3e λH2 I2 O=>?_);cases b with
 | true =>
  obtain ⟨N,hN,O⟩:=O;rw [if_pos rfl];refine OZ hp (thn (hb Go s2 F H2 _ I2 O) λf s3 S=>?_);cases f with
  | next =>
   obtain ⟨z,H3,I3,n3⟩:=S;obtain ⟨Z,hm,U⟩:=hN z H3 n3;exact ⟨Z,hm,z,H3,I3,U⟩
  | cont =>
   obtain ⟨z,H3,I3,n3⟩:=S;obtain ⟨Z,hm,U⟩:=hN z H3 n3;exact ⟨Z,hm,z,H3,I3,U⟩
  | brk=>exact S
  | ret v=>exact S
 | false =>
  rw [if_neg M4];exact Qm ⟨F,H2,I2,O⟩
end
structure It where
 go:Nat->Hp->Prop
 U2:Nat->Hp->V->Hp->Prop
 stop:Nat->Hp->Prop
def dJ(X:Cx)(Go:List (Addr×Obj))(H:Hp)(b:Addr):Prop :=
 H b=none/\b≠X.env.locals/\b∉X.fs/\(b∈X.ex\/X.s₀.heap.objs.size<=b)/\(∀x c,X.env.cells.lookup x=some c->c≠b)/\∀p∈X.pn++Go,p.1≠b
theorem Inv.SR(I:Inv X Go σ H s)(hb:s.heap.objs.size<=b)(hn:H' b=none):dJ X Go H' b:=by
 refine ⟨hn,Pe (Nn I.lt hb),I.ae hb,.inr (Nx I.sz hb),λx c e z=>?_,λp F z=>?_⟩
 .obtain ⟨v,q⟩:=I.cell x c e;exact absurd (Nn q.lt (by rw [z];exact hb)) (ND _)
 .exact absurd (Nn (Nj (I.pin p F).1) (by rw [z];exact hb)) (ND _)
structure cS(c:Bool)(P:M8)(w:Nl)(K:KE)(tg:Nr)(J:It)(fp:List Addr)(it:Addr)(tn:Nat->Heap->Prop):Prop where
 mem:it∈fp
 obj:∀i h,tn i h->∀b∈fp,∃o,h.get? b=some o/\∀v,o.data≠.cell v
 keep:∀i h h',tn i h->(∀b∈fp,∀o,h.get? b=some o->h'.get? b=some o)->tn i h'
 item:∀(X:Cx),X.prog=P->X.w=w->X.K=K->(c=true->X.calm=true)->∀(i:Nat)(Go:List (Addr×Obj))(s:p8)(σ:St)(H:Hp)(E:Value->p8->Prop),Inv X Go σ H s->(∀b∈fp,dJ X Go H b)->tn i s.heap->J.go i H ->
  Nb (Nf P w) X.A (PP (.ref it)) (λr s1=>∃u,r=some u /\
   Nb (Nf P w) X.A (O0 tg (.ref it) u) (λ_ s2=>∃x H',Inv X Go σ H' s2/\zo x u/\J.U2 i H x H'/\tn (i+1) s2.heap/\∀b∈fp,H' b=none) E s1) E s
 done:∀(X:Cx),X.prog=P->X.w=w->X.K=K->(c=true->X.calm=true)->∀(i:Nat)(Go:List (Addr×Obj))(s:p8)(σ:St)(H:Hp)(E:Value->p8->Prop),Inv X Go σ H s->(∀b∈fp,dJ X Go H b)->tn i s.heap->J.stop i H ->
  Nb (Nf P w) X.A (PP (.ref it)) (λr s1=>r=none/\Inv X Go σ H s1) E s
 self:∀(A:Np)(i:Nat)(s:p8)(Q:Value->p8->Prop)(E:Value->p8->Prop),tn i s.heap->Q (.ref it) s->Nb (Nf P w) A (pyIter (.ref it)) Q E s
abbrev TI:=St->Hp->(It->Hp->Prop)->Prop
def PIE(c:Bool)(X:Cx)(Go:List (Addr×Obj))(σ:St)(tg:Nr)(R:It->Hp->Prop)(z:Value)(s2:p8):Prop :=
 ∃(it:Addr)(fp:List Addr)(F:Nat->Heap->Prop)(J:It)(H':Hp),z = .ref it/\Inv X Go σ H' s2/\cS c X.prog X.w X.K tg J fp it F/\F 0 s2.heap/\(∀b∈fp,dJ X Go H' b)/\R J H'
def PIc(c:Bool)(X:Cx)(tg iter:Nr)(wi:TI):Prop :=
 ∀(Go:List (Addr×Obj))(s:p8)(σ:St)(H:Hp)(R:It->Hp->Prop),Inv X Go σ H s->wi σ H R ->
  Nb (Nf X.prog X.w) X.A (NT iter X.env) (λv s1=>Nb (Nf X.prog X.w) X.A (pyIter v) (PIE c X Go σ tg R) X.xe s1) X.xe s
abbrev PI:=PIc true
theorem fI{o:Obj}(ho:s.heap.get? it=some o)(hc:o.cls = .type n)(hd:o.data = .fields vs)(hn:["enumerate","zip","dict_itemiterator","dict_reverseitemiterator","odict_iterator","itertools.zip_longest","itertools.pairwise"].contains n=false)(z:Q () s):Nb M A (O0 tg (.ref it) u) Q E s:=by
 unfold O0;cases tg<;>first
  | exact MZ z
  | (cases u<;>first
    | exact MZ z
    | (refine fv (wpAny_load ho ?_)
       rw [hc, hd];show Nb M A (if (["enumerate", "zip", "dict_itemiterator", "dict_reverseitemiterator", "odict_iterator", "itertools.zip_longest", "itertools.pairwise"].contains n && vs[0]? == some (N4 _)) = true then _ else _) Q E s;rw [if_neg (by intro h; rw [hn, RA] at h; cases h)];exact MZ z))
def Itl(K:KE)(a:Addr):It :=
 ⟨λi H=>∃xs x,SqL K H a xs/\xs[i]?=some x,λi H x H'=>H'=H/\∀xs,SqL K H a xs->xs[i]?=some x,λi H=>∃xs,SqL K H a xs/\xs.length<=i⟩
def Itt(K:KE)(a:Addr):It :=
 ⟨λi H=>∃xs x,SqT K H a xs/\xs[i]?=some x,λi H x H'=>H'=H/\∀xs,SqT K H a xs->xs[i]?=some x,λi H=>∃xs,SqT K H a xs/\xs.length<=i⟩
def Itr(lo:Int)(n:Nat):It:=⟨λi _=>i<n,λi H x H'=>H'=H/\x = .int (lo+i),λi _=>n<=i⟩
theorem jY{P:M8}{w:Nl}{K:KE}{tg:Nr}(a it:Addr):cS true P w K tg (Itl K a) [it] it (λi h=>h.IsListIter it a i) where
 mem:=by simp
 obj:=λi h st b hb=>by
  have e:b=it:=by simpa using hb
  subst e;obtain ⟨o,e,c,d⟩:=st;exact ⟨o,e,λv z=>by rw [d] at z;cases z⟩
 keep:=λi h h' st k=>st.at λo e=>k it (by simp) o e
 item:=by
  intro X S J Z hc i Go s σ H E I hf st hg;subst S J Z;obtain ⟨xs,x,F,hx⟩:=hg;obtain ⟨its,G,p,hz⟩:=I.list F;obtain ⟨u,hu,ru⟩:=G.get hx;obtain ⟨f0,U,f2,f3,O,W⟩:=hf it (by simp);refine wpAny_pyNext_list_item st p.isList (x:=u) (by simpa using hu) λh' YQ sb=>?_;have I1:Inv X Go σ H { s with heap:=h' }:=I.turned (t':=s.toks) (λb o hb e=>(sb.2 b hb).trans e) f0 U f3 O W;obtain ⟨o,e,c,d⟩:=id YQ;exact ⟨u,rfl,fI (s:={ s with heap:=h' }) e c d (by decide) ⟨x,H,I1,ru,⟨rfl,λys hy=>by rw [I.Sx hy F];exact hx⟩,YQ,λb hb=>(hf b hb).1⟩⟩
 done:=by
  intro X S J Z hc i Go s σ H E I hf st hg;subst S J Z;obtain ⟨xs,F,hx⟩:=hg;obtain ⟨its,G,p,hz⟩:=I.list F;obtain ⟨f0,U,f2,f3,O,W⟩:=hf it (by simp);have hl:=G.length;exact wpAny_pyNext_list_end (I.ok.hd (hc rfl)) st p.isList (by simp;lia) λh' eb=>⟨rfl,I.turned (t':=s.toks) (λb o hb e=>eb b o hb e) f0 U f3 O W⟩
 self:=λ_ _ _ _ _ st h=>wpAny_pyIter_listiter st h
theorem CC{P:M8}{w:Nl}{K:KE}{tg:Nr}(a it:Addr):cS true P w K tg (Itt K a) [it] it (λi h=>h.IsTupleIter it a i) where
 mem:=by simp
 obj:=λi h st b hb=>by
  have e:b=it:=by simpa using hb
  subst e;obtain ⟨o,e,c,d⟩:=st;exact ⟨o,e,λv z=>by rw [d] at z;cases z⟩
 keep:=λi h h' st k=>st.at λo e=>k it (by simp) o e
 item:=by
  intro X S J Z hc i Go s σ H E I hf st hg;subst S J Z;obtain ⟨xs,x,F,hx⟩:=hg;obtain ⟨its,G,p,hz⟩:=I.tuple F;obtain ⟨u,hu,ru⟩:=G.get hx;obtain ⟨f0,U,f2,f3,O,W⟩:=hf it (by simp);refine wpAny_pyNext_tuple_item st (show s.heap.IsTuple a its.toArray from p) (x:=u) (by simpa using hu) λh' YQ sb=>?_;have I1:Inv X Go σ H { s with heap:=h' }:=I.turned (t':=s.toks) (λb o hb e=>(sb.2 b hb).trans e) f0 U f3 O W;obtain ⟨o,e,c,d⟩:=id YQ;exact ⟨u,rfl,fI (s:={ s with heap:=h' }) e c d (by decide) ⟨x,H,I1,ru,⟨rfl,λys hy=>by rw [I.S6 hy F];exact hx⟩,YQ,λb hb=>(hf b hb).1⟩⟩
 done:=by
  intro X S J Z hc i Go s σ H E I hf st hg;subst S J Z;obtain ⟨xs,F,hx⟩:=hg;obtain ⟨its,G,p,hz⟩:=I.tuple F;obtain ⟨f0,U,f2,f3,O,W⟩:=hf it (by simp);have hl:=G.length;exact wpAny_pyNext_tuple_end (I.ok.hd (hc rfl)) st (show s.heap.IsTuple a its.toArray from p) (by simp;lia) λh' eb=>⟨rfl,I.turned (t':=s.toks) (λb o hb e=>eb b o hb e) f0 U f3 O W⟩
 self:=λ_ _ _ _ _ st h=>wpAny_pyIter_tupleiter st h
theorem ml{P:M8}{w:Nl}{K:KE}{tg:Nr}(it:Addr)(lo:Int)(n:Nat):cS true P w K tg (Itr lo n) [it] it (λi h=>Q1 h it (lo+(i:Nat)*1) ((n:Int)-(i:Nat)) 1) where
 mem:=by simp
 obj:=λi h st b hb=>by
  have e:b=it:=by simpa using hb
  subst e;exact ⟨_,st,λv z=>by
   have z':Data.fields _=Data.cell v:=z;cases z'⟩
 keep:=λi h h' st k=>k it (by simp) _ st
 item:=by
  intro X U S hK hc i Go s σ H E I hf st hg;subst U S hK;obtain ⟨J,F,f2,Z,G,O⟩:=hf it (by simp);have W:=Walks.range (prog:=X.prog) (w:=X.w) (I.ok.hd (hc rfl)) it lo 1 n;refine W.item i s _ _ hg st λv h' tk hv YQ kk=>?_;obtain ⟨t,rfl⟩:=hv;have I1:Inv X Go σ H { s with heap:=h',toks:=tk }:=I.turned (λb o hb e=>kk b o (by simpa using hb) e) J F Z G O;refine ⟨_,rfl,fI (s:={ s with heap:=h',toks:=tk }) (n:="range_iterator") YQ rfl rfl (by decide) ⟨.int (lo+i),H,I1,⟨t,?_⟩,⟨rfl,rfl⟩,YQ,λb hb=>(hf b hb).1⟩⟩;rw [Int.mul_one]
 done:=by
  intro X U S hK hc i Go s σ H E I hf st hg;subst U S hK;obtain ⟨J,F,f2,Z,G,O⟩:=hf it (by simp);exact wpAny_pyNext_range_end (I.ok.hd (hc rfl)) st (by have:n<=i:=hg;lia) λh' eb=>⟨rfl,I.turned (t':=s.toks) (λb o hb e=>eb b o hb e) J F Z G O⟩
 self:=λ_ _ _ _ _ st h=>wpAny_pyIter_rangeiter st h
section
variable {X:Cx}{tg:Nr}
def jf(K:KE)(tl:TE):TI:=λσ H R=>tl σ H λx H1=>∃a,x = .ref a/\(∃xs,SqL K H1 a xs)/\R (Itl K a) H1
theorem bU(hl:W (PE X l tl)):W (PI X tg l (jf X.K tl)):=by
 refine ⟨?_⟩;have hl:=hl.h;intro Go s σ H R I h;refine thn (hl Go s σ H _ I h) λv s1=>x5e λx H1 z F J=>?_;obtain ⟨a,e,⟨xs,G⟩,q⟩:=J;subst e;cases F;obtain ⟨its,S,p,O⟩:=z.list G;refine O4 p.isList ?_;refine ⟨s1.heap.objs.size,[s1.heap.objs.size],_,_,H1,rfl,z.kept (t':=s1.toks) λb o e=>we _ e,jY a _,⟨_,Nd _ rfl,rfl,rfl⟩,λb hb=>?_,q⟩;have e:b=s1.heap.objs.size:=by simpa using hb
 subst e;exact z.SR (zv _) (z.hok.fresh (zv _))
theorem HZ{lo hi:Int}{t u v:Tok}(I:Inv X Go σ H s)(h1 : -(2 ^ 62)<=lo)(h2:lo<2 ^ 62)(h3 : -(2 ^ 62)<=hi)(h4:hi<2 ^ 62)(q:R (Itr lo (hi-lo).toNat) H):Nb (Nf X.prog X.w) X.A (pyIter (.ref s.heap.objs.size)) (PIE true X Go σ tg R) E { s with heap:=s.heap.push { cls:=.type "range",data:=.fields #[.int lo t,.int hi u,.int 1 v] },toks:=tk }:=by
 refine wpAny_pyIter_range (IsRange.new ..) (small_one h1 h2 h3 h4) ?_;have z:Inv X Go σ H { s with heap:=s.heap.push { cls:=.type "range",data:=.fields #[.int lo t,.int hi u,.int 1 v] },toks:=tk }:=I.kept λb o e=>we _ e;refine ⟨(s.heap.push { cls:=.type "range",data:=.fields #[.int lo t,.int hi u,.int 1 v] }).objs.size,[(s.heap.push { cls:=.type "range",data:=.fields #[.int lo t,.int hi u,.int 1 v] }).objs.size],_,_,H,rfl,
  z.kept (t':=tk) λb o e=>we _ e,ml _ lo (hi-lo).toNat,?_,λb hb=>?_,q⟩
 .have F:lo+((0:Nat):Int)*1=lo:=by simp
  have G:(((hi-lo).toNat:Nat):Int)-((0:Nat):Int)=Ng.Range.rangeSize lo hi 1:=by rw [rangeSize_one];split<;>lia
  show Q1 _ _ (lo+((0:Nat):Int)*1) ((((hi-lo).toNat:Nat):Int)-((0:Nat):Int)) 1;rw [F,G];exact Nd _ rfl
 .have e:b=(s.heap.push { cls:=.type "range",data:=.fields #[.int lo t,.int hi u,.int 1 v] }).objs.size:=by simpa using hb
  subst e;exact z.SR (zv _) (z.hok.fresh (zv _))
def iR(ta:TA):TI:=λσ H R=>ta σ H λvs H1=>∃j:Int,vs=[.int j]/\-(2 ^ 62)<=j/\j<2 ^ 62/\R (Itr 0 j.toNat) H1
theorem DB{p pos:Pos}(hg:Gl X "range")(hm:X.mg "range"=none)(ha:PA X [a] ta)(hs:Nq [a] X.env=[(false,NT a X.env)]:=by rfl):PI X tg (.Call (.Name "range" p) [a] [] pos) (iR ta):=by
 intro Go s σ H R I h;refine Call_ (dI I hg hm boot_range (Od (thn (ha pos Go s σ H _ I h) λus s1=>x5e λvs H1 G F z=>?_) hs rfl));obtain ⟨j,e,z,J,q⟩:=z;subst e;cases F with
 | cons r O =>
  cases O;obtain ⟨t,rfl⟩:=r;exact call_range_1 (HZ G (by lia) (by lia) z J (by simpa using q))
def tV(wi:TI)(g:TG)(tb:TS):TS:=λD σ H=>wi σ H λJ H1=>∃W:Nat->Nat->St->Hp->Prop,(∃m,W 0 m σ H1)/\∀i m σ H,W i m σ H ->
 (J.stop i H/\D.nx σ H)\/(J.go i H/\∃N:St->Hp->Prop,(∀z H',N z H'->∃G,G<m/\W (i+1) G z H')/\∀x H',J.U2 i H x H'->g x σ H' λF H2=>tb { D with nx:=N,ct:=N,bk:=D.nx } F H2)
def iE(fp:List Addr)(h:Heap):List (Addr×Obj):=fp.filterMap λb=>(h.get? b).map λo=>(b,o)
theorem lA{o:Obj}(hb:b∈fp)(e:h.get? b=some o):(b,o)∈iE fp h:=QQ.mpr ⟨b,hb,by rw [e];rfl⟩
theorem Jy{p:Addr×Obj}(F:p∈iE fp h):p.1∈fp/\h.get? p.1=some p.2:=by
 obtain ⟨b,hb,e⟩:=QQ.mp F;cases q:h.get? b with
 | none=>rw [q] at e;cases e
 | some o =>
  rw [q] at e;have z:(b,o)=p:=NG.inj e;subst z;exact ⟨hb,q⟩
theorem Inv.pinned(I:Inv X Go σ H s)(hf:∀b∈fp,dJ X Go H b)(ho:∀b∈fp,∃o,s.heap.get? b=some o/\∀v,o.data≠.cell v):Inv X (Go++iE fp s.heap) σ H s :=
 I.L1 λp J=>(NF.mp J).elim (λz=>I.pin p (Nk _ z)) λz=>by
  obtain ⟨hb,e⟩:=Jy z;obtain ⟨O,G,S,_⟩:=hf p.1 hb;obtain ⟨o,F,d⟩:=ho p.1 hb;rw [e] at F;cases F;exact ⟨e,O,G,S,d⟩
theorem Inv.Sw(I:Inv X (Go++pl) σ H s):Inv X Go σ H s:=I.L1 λp z=>I.pin p (Nk _ (N0 _ z))
theorem bh(hp:N9 (Nf X.prog X.w) X.A X.env X.xe)(hc:c=true->X.calm=true)(hi:W (PIc c X tg iter wi))(hg:W (PG X tg g))(hb:W (PSs X Zx tb))(hs:∀x,Oy iter X.env x=pure x:=by intro _;rfl):W (PS X (.For tg iter Zx [] pos) (tV wi g tb)):=by
 refine ⟨?_⟩;have hi:=hi.h;have hg:=hg.h;have hb:=hb.h;intro Go s σ H D I h;refine wpAny_For (thn (hi Go s σ H _ I h) λv s1 h1=>thn h1 λa0 s2 h2=>?_) hs;obtain ⟨it,fp,tn,J,H2,e,I2,T,aj,f2,W,⟨m0,w0⟩,ab⟩:=h2;subst e;have O:∀{H':Hp},(∀b∈fp,H' b=none)->∀b∈fp,dJ X Go H' b:=λhn b hb=>⟨hn b hb,(f2 b hb).2⟩;refine codeAny_forLoop_any (λn s'=>∃i S H',Inv X Go S H' s'/\tn i s'.heap/\(∀b∈fp,H' b=none)/\W i n S H') ?_ m0 ⟨0,σ,H2,I2,aj,λb hb=>(f2 b hb).1,w0⟩;rintro n s3 ⟨i,G,H3,I3,ai,ag,w3⟩;rcases ab i n G H3 w3 with ⟨stop,qn⟩|⟨go,N,hN,step⟩
 .refine OZ hp (thn (T.done X rfl rfl rfl hc i Go s3 G H3 X.xe I3 (O ag) ai stop) λr s4=>x2e λhr I4=>?_);subst hr;exact Qm ⟨G,H3,I4,qn⟩
 .refine OZ hp (thn (T.item X rfl rfl rfl hc i Go s3 G H3 X.xe I3 (O ag) ai go) λr s4=>x3e λu hr h4=>?_);subst hr;refine OZ hp (thn h4 λ_ s5=>x5e λx H5 I5 r5 Yw=>?_);obtain ⟨y5,Z,aT⟩:=Yw;have av:=I5.pinned (O aT) (T.obj _ _ Z);refine OZ hp (thn (hg _ s5 G H5 x u _ av r5 (step x H5 y5)) λ_ s6=>x4e λak H6 I6 q6=>?_);refine OZ hp (thn (hb _ s6 ak H6 _ I6 q6) λf s7 U=>?_);have again:∀{z:St}{H7:Hp},Inv X (Go++iE fp s5.heap) z H7 s7->N z H7->∃m,m<n/\∃i S H',Inv X Go S H' s7/\tn i s7.heap/\(∀b∈fp,H' b=none)/\W i m S H':=λ{z H7} F n7=>by
   obtain ⟨m',hm,w7⟩:=hN z H7 n7;refine ⟨m',hm,i+1,z,H7,F.Sw,T.keep _ _ _ Z λb hb o e=>(F.pin (b,o) (Nk _ (Nk _ (lA hb e)))).1,λb hb=>?_,w7⟩;obtain ⟨o,e,d⟩:=T.obj _ _ Z b hb;exact (F.pin (b,o) (Nk _ (Nk _ (lA hb e)))).2.1
  cases f with
  | next=>obtain ⟨z,H7,F,n7⟩:=U;exact again F n7
  | cont=>obtain ⟨z,H7,F,n7⟩:=U;exact again F n7
  | brk=>obtain ⟨z,H7,F,U⟩:=U;exact ⟨z,H7,F.Sw,U⟩
  | ret v=>obtain ⟨x7,z,H7,F,r7,U⟩:=U;exact ⟨x7,z,H7,F.Sw,r7,U⟩
end
theorem L8{K:KE}{g:TG}{tb:TS}{D:aK}(z:Nat->St->Hp->Prop)(S:z 0 σ H)(hl:∀i σ H,i<=xs.length->z i σ H->SqL K H a xs)(hs:∀i x σ H,xs[i]?=some x->z i σ H->g x σ H λF H2=>tb { D with nx:=z (i+1),ct:=z (i+1),bk:=D.nx } F H2)(hd:∀σ H,z xs.length σ H->D.nx σ H):
  ∃W:Nat->Nat->St->Hp->Prop,(∃m,W 0 m σ H)/\∀i m σ H,W i m σ H ->
   ((Itl K a).stop i H/\D.nx σ H)\/((Itl K a).go i H/\∃N:St->Hp->Prop,(∀G H',N G H'->∃J,J<m/\W (i+1) J G H')/\∀x H',(Itl K a).U2 i H x H'->g x σ H' λF H2=>tb { D with nx:=N,ct:=N,bk:=D.nx } F H2):=by
 refine ⟨λi m σ H=>m=xs.length-i/\i<=xs.length/\z i σ H,⟨xs.length,by simp,NV _,S⟩,?_⟩;rintro i m σ H ⟨rfl,hi,p⟩;have q:=hl i σ H hi p;by_cases O:i<xs.length
 .refine .inr ⟨⟨xs,xs[i],q,by simp [O]⟩,z (i+1),λG H' U=>⟨xs.length-(i+1),by lia,rfl,O,U⟩,λx H' y=>?_⟩;obtain ⟨e,y⟩:=y;subst e;exact hs i x σ _ (y xs q) p
 .have e:i=xs.length:=by lia
  subst e;exact .inl ⟨⟨xs,q,zv _⟩,hd σ H p⟩
theorem J2{lo:Int}{g:TG}{tb:TS}{D:aK}(G:Nat->St->Hp->Prop)(S:G 0 σ H)(hs:∀i σ H,i<n->G i σ H->g (.int (lo+i)) σ H λz H2=>tb { D with nx:=G (i+1),ct:=G (i+1),bk:=D.nx } z H2)(hd:∀σ H,G n σ H->D.nx σ H):
  ∃W:Nat->Nat->St->Hp->Prop,(∃m,W 0 m σ H)/\∀i m σ H,W i m σ H ->
   ((Itr lo n).stop i H/\D.nx σ H)\/((Itr lo n).go i H/\∃N:St->Hp->Prop,(∀F H',N F H'->∃O,O<m/\W (i+1) O F H')/\∀x H',(Itr lo n).U2 i H x H'->g x σ H' λz H2=>tb { D with nx:=N,ct:=N,bk:=D.nx } z H2):=by
 refine ⟨λi m σ H=>m=n-i/\i<=n/\G i σ H,⟨n,by simp,NV _,S⟩,?_⟩;rintro i m σ H ⟨rfl,hi,p⟩;by_cases J:i<n
 .refine .inr ⟨J,G (i+1),λF H' U=>⟨n-(i+1),by lia,rfl,J,U⟩,λx H' y=>?_⟩;obtain ⟨e,y⟩:=y;subst e y;exact hs i σ _ J p
 .have e:i=n:=by lia
  subst e;exact .inl ⟨zv _,hd σ H p⟩
abbrev R2:=V->V->Hp->VK->Prop
def OpR(X:Cx)(f:Value->Value->Sem Value)(r:R2):Prop :=
 ∀(Go:List (Addr×Obj))(s:p8)(σ:St)(H:Hp)(x y:V)(v u:Value)(Q:VK),Inv X Go σ H s->zo x v->zo y u->r x y H Q ->
  Nb (Nf X.prog X.w) X.A (f v u) (EP X Go σ Q) X.xe s
def UnR(X:Cx)(f:Value->Sem Value)(r:V->Hp->VK->Prop):Prop :=
 ∀(Go:List (Addr×Obj))(s:p8)(σ:St)(H:Hp)(x:V)(v:Value)(Q:VK),Inv X Go σ H s->zo x v->r x H Q ->
  Nb (Nf X.prog X.w) X.A (f v) (EP X Go σ Q) X.xe s
def zN(X:Cx)(f:Value)(r:List V->Hp->VK->Prop):Prop :=
 ∀(Go:List (Addr×Obj))(s:p8)(σ:St)(H:Hp)(xs:List V)(us:List Value)(Q:VK),Inv X Go σ H s->zp xs us->r xs H Q ->
  Nb (Nf X.prog X.w) X.A (call f us) (EP X Go σ Q) X.xe s
def FF(X:Cx)(r:V->Hp->(Bool->Hp->Prop)->Prop):Prop :=
 ∀(Go:List (Addr×Obj))(s:p8)(σ:St)(H:Hp)(x:V)(v:Value)(Q:Bool->Hp->Prop),Inv X Go σ H s->zo x v->r x H Q ->
  Nb (Nf X.prog X.w) X.A (truthy v) (TP X Go σ Q) X.xe s
def tOp(r:R2)(ta tb:TE):TE:=λσ H Q=>ta σ H λx H1=>tb σ H1 λy H2=>r x y H2 Q
def tUn(r:V->Hp->VK->Prop)(ta:TE):TE:=λσ H Q=>ta σ H λx H1=>r x H1 Q
def rI(C:Int->Int->Prop)(g:Int->Int->V):R2:=λx y H Q=>∃i j,x = .int i/\y = .int j/\C i j/\Q (g i j) H
def rI0(g:Int->Int->V):R2:=λx y H Q=>∃i j,x = .int i/\y = .int j/\Q (g i j) H
def rU(g:Int->V):V->Hp->VK->Prop:=λx H Q=>∃i,x = .int i/\Q (g i) H
section
variable {X:Cx}{a b c:Nr}{ta tb tc:TE}{pos:Pos}
theorem pj(ha:PE X a ta)(hb:PE X b tb){R:V->V->Hp->Prop}(I:Inv X Go σ H s)(h:ta σ H λx H1=>tb σ H1 λy H2=>R x y H2){f:Value->Value->Sem Value}(hf:∀v u s2 x y H2,Inv X Go σ H2 s2->zo x v->zo y u->R x y H2->Nb (Nf X.prog X.w) X.A (f v u) Q X.xe s2):
  Nb (Nf X.prog X.w) X.A (NT a X.env) (λv s₁=>Nb (Nf X.prog X.w) X.A (NT b X.env) (λu z=>Nb (Nf X.prog X.w) X.A (f v u) Q X.xe z) X.xe s₁) X.xe s:=by
 refine thn (ha Go s σ H _ I h) λv s1=>x5e λx H1 G F U=>?_;refine thn (hb Go s1 σ H1 _ G U) λu s2=>x5e λy H2 O J S=>?_;exact hf v u s2 x y H2 O F J S
theorem zB{r:R2}(ho:OpR X (OE op) r)(ha:W (PE X a ta))(hb:W (PE X b tb)):W (PE X (.BinOp a op b pos) (tOp r ta tb)):=by
 refine ⟨?_⟩;have ha:=ha.h;have hb:=hb.h;intro Go s σ H Q I h;exact wpAny_BinOp (pj ha hb I h λv u s2 x y H2 z F G q=>ho Go s2 σ H2 x y v u Q z F G q)
theorem t9{r:V->Hp->VK->Prop}(ho:UnR X (unaryOp op) r)(ha:W (PE X a ta)):W (PE X (.UnaryOp op a pos) (tUn r ta)):=by
 refine ⟨?_⟩;have ha:=ha.h;intro Go s σ H Q I h;exact UnaryOp_ (thn (ha Go s σ H _ I h) λv s1=>x5e λx H1 F z G=>ho Go s1 σ H1 x v Q F z G)
theorem opI{g:Int->Int->Int}(rule:∀(i j:Int)(t u:Tok)(s:p8)(Q:Value->p8->Prop)(E:Value->p8->Prop),C i j->Q (.int (g i j) s.toks) { s with toks:=s.toks+1 }->Nb (Nf X.prog X.w) X.A (f (.int i t) (.int j u)) Q E s):
  OpR X f (rI C λi j=>.int (g i j)):=by
 intro Go s σ H x y v u Q I z F h;obtain ⟨i,j,rfl,rfl,hc,q⟩:=h;obtain ⟨t,rfl⟩:=z;obtain ⟨t',rfl⟩:=F;exact rule i j t t' s _ _ hc ⟨.int (g i j),H,I.tok _,⟨_,rfl⟩,q⟩
theorem Aw{g:Int->Int->Int}(rule:∀(i j:Int)(t u:Tok)(s:p8)(Q:Value->p8->Prop)(E:Value->p8->Prop),Q (.int (g i j) s.toks) { s with toks:=s.toks+1 }->Nb (Nf X.prog X.w) X.A (f (.int i t) (.int j u)) Q E s):
  OpR X f (rI0 λi j=>.int (g i j)):=by
 intro Go s σ H x y v u Q I z F h;obtain ⟨i,j,rfl,rfl,q⟩:=h;obtain ⟨t,rfl⟩:=z;obtain ⟨t',rfl⟩:=F;exact rule i j t t' s _ _ ⟨.int (g i j),H,I.tok _,⟨_,rfl⟩,q⟩
theorem mB{g:Int->Int->Bool}(rule:∀(i j:Int)(t u:Tok)(s:p8)(Q:Value->p8->Prop)(E:Value->p8->Prop),Q (.bool (g i j)) s->Nb (Nf X.prog X.w) X.A (f (.int i t) (.int j u)) Q E s):
  OpR X f (rI0 λi j=>.bl (g i j)):=by
 intro Go s σ H x y v u Q I z F h;obtain ⟨i,j,rfl,rfl,q⟩:=h;obtain ⟨t,rfl⟩:=z;obtain ⟨t',rfl⟩:=F;exact rule i j t t' s _ _ ⟨.bl (g i j),H,I,rfl,q⟩
def Gy(i j:Int):Prop:=0<j/\j<1073741824
def Ih(i j:Int):Prop:=0<=j/\j<=1000000/\i.natAbs<2 ^ 64
def gJ(i j:Int):Prop:=(-(2 ^ 64)<i/\i<2 ^ 64)\/(-(2 ^ 64)<j/\j<2 ^ 64)
theorem gJ.ok(h:gJ i j):IntMulOk i j:=by
 rcases h with ⟨h1,h2⟩|⟨h1,h2⟩
 .exact .of_left (intBits_le_64 h1 h2)
 .exact .of_right (intBits_le_64 h1 h2)
theorem EX:OpR X (OE .Add) (rI0 λi j=>.int (i+j)):=Aw λ_ _ _ _ _ _ _ q=>add_int q
theorem gF:OpR X (OE .Sub) (rI0 λi j=>.int (i-j)):=Aw λ_ _ _ _ _ _ _ q=>sub_int q
theorem LC:OpR X (OE .Mult) (rI gJ λi j=>.int (i*j)):=opI λ_ _ _ _ _ _ _ hc q=>mul_int q hc.ok
theorem ot:OpR X (OE .FloorDiv) (rI Gy λi j=>.int (i / j)):=opI λi j _ _ _ _ _ hc q=>by
 have h1:(0:Int)<j:=hc.1;have h2:j<1073741824:=hc.2;exact floordiv_int (by lia) (by rw [Int.fdiv_eq_ediv_of_nonneg i (by lia)];exact q) (.inl (PyProof.noPylong_small (by lia)))
theorem fQ:OpR X (OE .Mod) (rI (λ_ j=>0<j) λi j=>.int (i % j)):=opI λi j _ _ _ _ _ hc q=>by
 have h1:(0:Int)<j:=hc;exact mod_int' (by lia) (by rw [Int.fmod_eq_emod_of_nonneg i (by lia)];exact q)
theorem jw:OpR X (OE .Pow) (rI Ih λi j=>.int (i ^ j.toNat)):=opI λ_ _ _ _ _ _ _ hc q=>pow_int_small hc.1 hc.2.1 hc.2.2 q
theorem unI{g:Int->Int}(rule:∀(i:Int)(t:Tok)(s:p8)(Q:Value->p8->Prop)(E:Value->p8->Prop),Q (.int (g i) s.toks) { s with toks:=s.toks+1 }->Nb (Nf X.prog X.w) X.A (f (.int i t)) Q E s):
  UnR X f (rU λi=>.int (g i)):=by
 intro Go s σ H x v Q I z h;obtain ⟨i,rfl,q⟩:=h;obtain ⟨t,rfl⟩:=z;exact rule i t s _ _ ⟨.int (g i),H,I.tok _,⟨_,rfl⟩,q⟩
theorem vP:UnR X (unaryOp .USub) (rU λi=>.int (-i)):=unI λ_ _ _ _ _ q=>neg_int q
def fO:V->V->Bool
 | .non,.non=>true | .non,.int _=>true | .int _,.non=>true | .non,.bl _=>true | .bl _,.non=>true | .non,.str _=>true | .str _,.non=>true
 | .int _,.int _=>true | .bl _,.bl _=>true | .str _,.str _=>true | .byt _,.byt _=>true
 | .int _,.str _=>true | .str _,.int _=>true | .bl _,.str _=>true | .str _,.bl _=>true
 | _,_=>false
def rEq:R2:=λx y H Q=>fO x y=true/\Q (.bl (decide (x=y))) H
def rNe:R2:=λx y H Q=>fO x y=true/\Q (.bl (!decide (x=y))) H
theorem yD:decide (V.int i=V.int j)=(i==j):=by
 rw [PB];simp
theorem rP:decide (V.bl i=V.bl j)=(i==j):=by
 rw [PB];simp
theorem wK:decide (V.str i=V.str j)=(i==j):=by
 rw [PB];simp
theorem wI:decide (V.byt i=V.byt j)=(i.toList==j.toList):=by
 rw [PB];cases i;cases j;simp
theorem aa{k k':Bool}(I:Inv X Go σ H s)(q:Q (.bl k) H)(e:k=k'):EP X Go σ Q (.bool k') s:=by
 subst e;exact ⟨.bl k,H,I,rfl,q⟩
theorem Ec:OpR X (NK .Eq) rEq:=by
 intro Go s σ H x y v u Q I F z h;obtain ⟨hs,q⟩:=h;cases x with
 | non =>
  cases F;cases y with
  | non=>cases z;exact PySem.EqNone.eq_none_none (aa I q (by simp))
  | bl j=>cases z;exact PySem.EqNone.eq_none_bool (aa I q (by simp))
  | int j=>obtain ⟨t',rfl⟩:=z;exact PySem.EqNone.eq_none_int (aa I q (by simp))
  | str j=>obtain ⟨t',rfl⟩:=z;exact PySem.EqNone.eq_none_str (aa I q (by simp))
  | _=>exact absurd (show false=true from hs) M4
 | bl i =>
  cases F;cases y with
  | non=>cases z;exact PySem.EqNone.eq_bool_none (aa I q (by simp))
  | bl j=>cases z;exact eq_bool (aa I q rP)
  | str j=>obtain ⟨t',rfl⟩:=z;exact PySem.EqMixed.eq_bool_str (aa I q (by simp))
  | _=>exact absurd (show false=true from hs) M4
 | int i =>
  obtain ⟨t,rfl⟩:=F;cases y with
  | non=>cases z;exact PySem.EqNone.eq_int_none (aa I q (by simp))
  | int j=>obtain ⟨t',rfl⟩:=z;exact eq_int (aa I q yD)
  | str j=>obtain ⟨t',rfl⟩:=z;exact PySem.EqMixed.eq_int_str (aa I q (by simp))
  | _=>exact absurd (show false=true from hs) M4
 | str i =>
  obtain ⟨t,rfl⟩:=F;cases y with
  | non=>cases z;exact PySem.EqNone.eq_str_none (aa I q (by simp))
  | bl j=>cases z;exact PySem.EqMixed.eq_str_bool (aa I q (by simp))
  | int j=>obtain ⟨t',rfl⟩:=z;exact PySem.EqMixed.eq_str_int (aa I q (by simp))
  | str j=>obtain ⟨t',rfl⟩:=z;exact eq_str (aa I q wK)
  | _=>exact absurd (show false=true from hs) M4
 | byt i =>
  obtain ⟨t,rfl⟩:=F;cases y with
  | byt j=>obtain ⟨t',rfl⟩:=z;exact PySem.W.eq_bytes (aa I q wI)
  | _=>exact absurd (show false=true from hs) M4
 | _=>cases y<;>exact absurd (show false=true from hs) M4
theorem C5:OpR X (NK .NotEq) rNe:=by
 intro Go s σ H x y v u Q I F z h;obtain ⟨hs,q⟩:=h;cases x with
 | non =>
  cases F;cases y with
  | non=>cases z;exact PySem.EqNone.ne_none_none (aa I q (by simp))
  | bl j=>cases z;exact PySem.EqNone.ne_none_bool (aa I q (by simp))
  | int j=>obtain ⟨t',rfl⟩:=z;exact PySem.EqNone.ne_none_int (aa I q (by simp))
  | str j=>obtain ⟨t',rfl⟩:=z;exact PySem.EqNone.ne_none_str (aa I q (by simp))
  | _=>exact absurd (show false=true from hs) M4
 | bl i =>
  cases F;cases y with
  | non=>cases z;exact PySem.EqNone.ne_bool_none (aa I q (by simp))
  | bl j=>cases z;exact ne_bool (aa I q (congrArg not rP))
  | str j=>obtain ⟨t',rfl⟩:=z;exact PySem.EqMixed.ne_bool_str (aa I q (by simp))
  | _=>exact absurd (show false=true from hs) M4
 | int i =>
  obtain ⟨t,rfl⟩:=F;cases y with
  | non=>cases z;exact PySem.EqNone.ne_int_none (aa I q (by simp))
  | int j=>obtain ⟨t',rfl⟩:=z;exact ne_int (aa I q (congrArg not yD))
  | str j=>obtain ⟨t',rfl⟩:=z;exact PySem.EqMixed.ne_int_str (aa I q (by simp))
  | _=>exact absurd (show false=true from hs) M4
 | str i =>
  obtain ⟨t,rfl⟩:=F;cases y with
  | non=>cases z;exact PySem.EqNone.ne_str_none (aa I q (by simp))
  | bl j=>cases z;exact PySem.EqMixed.ne_str_bool (aa I q (by simp))
  | int j=>obtain ⟨t',rfl⟩:=z;exact PySem.EqMixed.ne_str_int (aa I q (by simp))
  | str j=>obtain ⟨t',rfl⟩:=z;exact ne_str (aa I q (congrArg not wK))
  | _=>exact absurd (show false=true from hs) M4
 | byt i =>
  obtain ⟨t,rfl⟩:=F;cases y with
  | byt j=>obtain ⟨t',rfl⟩:=z;exact PySem.W.ne_bytes (aa I q (congrArg not wI))
  | _=>exact absurd (show false=true from hs) M4
 | _=>cases y<;>exact absurd (show false=true from hs) M4
theorem fg:OpR X (NK .Lt) (rI0 λi j=>.bl (decide (i<j))):=mB λ_ _ _ _ _ _ _ q=>lt_int q
theorem ku:OpR X (NK .LtE) (rI0 λi j=>.bl (decide (i<=j))):=mB λ_ _ _ _ _ _ _ q=>le_int q
theorem gR:OpR X (NK .Gt) (rI0 λi j=>.bl (decide (j<i))):=mB λ_ _ _ _ _ _ _ q=>gt_int q
theorem LA:OpR X (NK .In) (λx y H Q=>∃i j,x = .str i/\y = .str j/\Q (.bl (!(Ng.Str.occurrences j i 0 j.length 1).isEmpty)) H):=by
 intro Go s σ H x y v u Q I z F h;obtain ⟨i,j,rfl,rfl,q⟩:=h;obtain ⟨t,rfl⟩:=z;obtain ⟨t',rfl⟩:=F;exact in_str (aa I q rfl)
theorem GQ:OpR X (NK .Is) (λx y H Q=>y = .non/\Q (.bl (decide (x = .non))) H):=by
 intro Go s σ H x y v u Q I z F h;obtain ⟨rfl,q⟩:=h;cases F;refine is_none_gen (aa I q ?_);cases x<;>first
  | (cases z;rfl)
  | (obtain ⟨t,rfl⟩:=z;rfl)
theorem Lk:OpR X (NK .IsNot) (λx y H Q=>y = .non/\Q (.bl (!decide (x = .non))) H):=by
 intro Go s σ H x y v u Q I z F h;obtain ⟨rfl,q⟩:=h;cases F;refine isnot_none_gen (aa I q ?_);cases x<;>first
  | (cases z;rfl)
  | (obtain ⟨t,rfl⟩:=z;rfl)
theorem OpR.or{r r':R2}(h:OpR X f r)(h':OpR X f r'):OpR X f (λx y H Q=>r x y H Q\/r' x y H Q):=by
 intro Go s σ H x y v u Q I z F q;rcases q with q|q
 .exact h Go s σ H x y v u Q I z F q
 .exact h' Go s σ H x y v u Q I z F q
theorem zD(b:Nr)(h:op≠.In:=by decide)(h2:op≠.NotIn:=by decide):QR op b=false:=by
 have z:(op==CmpOp.In)=false:=by cases op<;>first|rfl|exact absurd rfl h
 have F:(op==CmpOp.NotIn)=false:=by cases op<;>first|rfl|exact absurd rfl h2
 cases b<;>simp [QR,z,F]
theorem cz{r:R2}(ho:OpR X (NK op) r)(ha:W (PE X a ta))(hb:W (PE X b tb))(hm:QR op b=false):W (PE X (.Compare a [op] [b] pos) (tOp r ta tb)):=by
 refine ⟨?_⟩;have ha:=ha.h;have hb:=hb.h;intro Go s σ H Q I h;exact wpAny_Compare1 (pj ha hb I h λv u s2 x y H2 z F G q=>ho Go s2 σ H2 x y v u Q z F G q) hm
def k8(t:TE):TT:=λσ H Q=>t σ H λx H'=>∃k,x = .bl k/\Q k H'
theorem tP{r:R2}(ho:OpR X (NK op) r)(ha:PE X a ta)(hb:PE X b tb)(hm:QR op b=false):PT X (.Compare a [op] [b] pos) (k8 (tOp r ta tb)):=by
 intro Go s σ H Q I h;refine wpAny_isTrue_Compare1 (thn (ha Go s σ H _ I h) λv s1=>x5e λx H1 O F q1=>thn (hb Go s1 σ H1 _ O q1) λu s2=>x5e λy H2 W U Z =>
  thn (ho Go s2 σ H2 x y v u _ W F U Z) λc s3=>x5e λz H3 G S J=>?_) hm
 obtain ⟨k,e,q3⟩:=J;subst e;cases S;exact OK ⟨H3,G,q3⟩
def vR(r r':R2)(ta tb tc:TE):TE:=λσ H Q=>ta σ H λx H1=>tb σ H1 λy H2=>r x y H2 λz H3=>∃k,z = .bl k /\
 (if k=true then tc σ H3 λw' H4=>r' y w' H4 Q else Q (.bl false) H3)
theorem y7{r r':R2}(ho:OpR X (NK op) r)(Yx:OpR X (NK F) r')(ha:W (PE X a ta))(hb:W (PE X b tb))(hc:W (PE X c tc))(hm:lastMarks [op,F] [b,c]=false:=by with_unfolding_all rfl):W (PE X (.Compare a [op,F] [b,c] pos) (vR r r' ta tb tc)):=by
 refine ⟨?_⟩;have ha:=ha.h;have hb:=hb.h;have hc:=hc.h;intro Go s σ H Q I h;refine Compare_chain (thn (ha Go s σ H _ I h) λv s1=>x5e λx H1 I1 U q1=>chain_link (thn (hb Go s1 σ H1 _ I1 q1) λu s2=>x5e λy H2 I2 O q2 =>
  thn (ho Go s2 σ H2 x y v u _ I2 U O q2) λd s3=>x5e λz H3 J r3 G=>?_)) hm
 obtain ⟨k,e,S⟩:=G;subst e;cases r3;refine OK ?_;cases k with
 | false=>exact ite_ff ⟨.bl false,H3,J,rfl,S⟩
 | true=>exact ite_tt (chain_last (thn (hc Go s3 σ H3 _ J S) λw' s4=>x5e λz' H4 Z r4 q4=>Yx Go s4 σ H4 y z' u w' Q Z O r4 q4))
def fP(K:KE)(x:V)(H:Hp)(k:Bool):Prop :=
 match x with
 | .non=>k=false
 | .bl b=>k=b
 | .int i=>k=(i != 0)
 | .str y=>y.length<=sizeLine/\k=((y.length:Int) != 0)
 | .byt y=>y.size<=sizeLine/\k=((y.size:Int) != 0)
 | .ref p=>(∃xs,SqL K H p xs/\k = !xs.isEmpty)\/(∃xs,SqT K H p xs/\k = !xs.isEmpty)\/∃kvs,H p=some (.dK kvs)/\k = !kvs.isEmpty
 | _=>False
theorem Cs{κ:Type}{kvs:List (κ×V)}{vs:List (κ×Value)}(r:KV kvs vs):(!vs.isEmpty) = !kvs.isEmpty:=by
 cases r<;>rfl
theorem AI(r:zp xs its):(!its.toArray.isEmpty) = !xs.isEmpty:=by
 cases r<;>simp
theorem gh:(sizeLine:Nat)<2 ^ 63:=by rw [NX];decide
theorem C7:FF X (λx H Q=>∃k,fP X.K x H k/\Q k H):=by
 intro Go s σ H x v Q I F h;obtain ⟨k,e,q⟩:=h;have hl:=gh;have hs:sizeLine=16777216:=NX;cases x with
 | non =>
  cases F;have z:k=false:=e;subst z;exact truthy_none ⟨H,I,q⟩
 | bl b =>
  cases F;have z:k=b:=e;subst z;exact OK ⟨H,I,q⟩
 | int i =>
  obtain ⟨t,rfl⟩:=F;have z:k=(i != 0):=e;subst z;exact PySem.P.truthy_int ⟨H,I,q⟩
 | str y =>
  obtain ⟨t,rfl⟩:=F;obtain ⟨S,z⟩:y.length<=sizeLine/\k=((y.length:Int) != 0):=e;subst z;exact PySem.P.truthy_str (by lia) ⟨H,I.tok _,q⟩
 | byt y =>
  obtain ⟨t,rfl⟩:=F;obtain ⟨S,z⟩:y.size<=sizeLine/\k=((y.size:Int) != 0):=e;subst z;exact PySem.W.truthy_bytes (by lia) ⟨H,I.tok _,q⟩
 | ref p =>
  cases F;have z:(∃xs,SqL X.K H p xs/\k = !xs.isEmpty)\/(∃xs,SqT X.K H p xs/\k = !xs.isEmpty)\/∃kvs,H p=some (.dK kvs)/\k = !kvs.isEmpty:=e;rcases z with ⟨xs,hx,z⟩|⟨xs,hx,z⟩|⟨kvs,hx,z⟩
  .subst z;obtain ⟨its,r,pl,G⟩:=I.list hx;have J:=r.length;exact wpAny_truthy_list pl.isList (by simp only [Nc];lia) ⟨H,I.tok _,by rw [AI r];exact q⟩
  .subst z;obtain ⟨its,r,pl,G⟩:=I.tuple hx;have J:=r.length;exact truthy_tuple pl (by simp only [Nc];lia) ⟨H,I.tok _,by rw [AI r];exact q⟩
  .subst z;obtain ⟨G,O,vs,r,m⟩:kvs.length<=sizeLine/\(p==sysModules)=false/\∃vs,KV kvs vs/\s.heap.DictOf (ax X.prog X.w) p vs:=I.hok p _ hx;have J:kvs.length=vs.length:=Paired.length r;exact wpAny_truthy_dict O m (by lia) ⟨H,I.tok _,by rw [Cs r];exact q⟩
 | _=>exact (show False from e).elim
theorem Hl(ha:PE X a ta)(he:∀z,isTrue a X.env z=(do let v<-z;P0 a.pos;Pr [v] (truthy v))) :
  PT X a (λσ H Q=>ta σ H λx H'=>∃k,fP X.K x H' k/\Q k H'):=by
 intro Go s σ H Q I h;exact isTrue_plain (thn (ha Go s σ H _ I h) λv s1=>x5e λx H1 G F J=>C7 Go s1 σ H1 x v Q G F J) (he _)
theorem Hh:OpR X (OE .Add) (λx y H Q=>∃i j,x = .str i/\y = .str j/\i.length+j.length<=sizeLine/\Q (.str (i++j)) H):=by
 intro Go s σ H x y v u Q I F G h;obtain ⟨i,j,rfl,rfl,z,q⟩:=h;obtain ⟨t,rfl⟩:=F;obtain ⟨t',rfl⟩:=G;exact add_str (λt' tk=>⟨.str (i++j),H,I.tok _,⟨_,rfl⟩,q⟩) z
theorem bV(r:zp [x] us):∃u,us=[u]/\zo x u:=by
 cases r with
 | cons z F=>cases F;exact ⟨_,rfl,z⟩
theorem qv(r:zp [x,y] us):∃u w',us=[u,w']/\zo x u/\zo y w':=by
 cases r with
 | cons z J =>
  cases J with
  | cons G F=>cases F;exact ⟨_,_,rfl,z,G⟩
theorem FO(hc:X.calm=true):zN X (.builtin "max") (λxs H Q=>∃i j,xs=[.int i,.int j]/\Q (.int (if j>i then j else i)) H):=by
 intro Go s σ H xs us Q I r h;obtain ⟨i,j,rfl,q⟩:=h;obtain ⟨u,w',rfl,⟨t,rfl⟩,⟨t',rfl⟩⟩:=qv r;refine max_two_ints (I.ok.hd hc) λh' tk k=>⟨_,H,I.kept k,?_,q⟩;by_cases z:j>i
 .rw [if_pos z,if_pos z];exact ⟨_,rfl⟩
 .rw [if_neg z,if_neg z];exact ⟨_,rfl⟩
theorem B7(hc:X.calm=true):zN X (.builtin "min") (λxs H Q=>∃i j,xs=[.int i,.int j]/\Q (.int (if j<i then j else i)) H):=by
 intro Go s σ H xs us Q I r h;obtain ⟨i,j,rfl,q⟩:=h;obtain ⟨u,w',rfl,⟨t,rfl⟩,⟨t',rfl⟩⟩:=qv r;refine min_two_ints (I.ok.hd hc) λh' tk k=>⟨_,H,I.kept k,?_,q⟩;by_cases z:j<i
 .rw [if_pos z,if_pos z];exact ⟨_,rfl⟩
 .rw [if_neg z,if_neg z];exact ⟨_,rfl⟩
theorem Hs:zN X (.type "int") (λxs H Q=>(∃i,xs=[.int i]/\Q (.int i) H)\/∃k,xs=[.bl k]/\Q (.int (if k then 1 else 0)) H):=by
 intro Go s σ H xs us Q I r h;rcases h with ⟨i,rfl,q⟩|⟨k,rfl,q⟩
 .obtain ⟨u,rfl,t,rfl⟩:=bV r;exact call_int_int ⟨.int i,H,I,⟨_,rfl⟩,q⟩
 .obtain ⟨u,rfl,z⟩:=bV r;cases z;exact call_int_bool ⟨.int (if k then 1 else 0),H,I.tok _,⟨_,rfl⟩,q⟩
theorem FK:zN X (.type "str") (λxs H Q=>∃i,xs=[.int i]/\i.natAbs.log2<1920/\Q (.str (toString i)) H):=by
 intro Go s σ H xs us Q I r h;obtain ⟨i,rfl,z,q⟩:=h;obtain ⟨u,rfl,t,rfl⟩:=bV r;exact PySem.P.str_of_int z ⟨.str _,H,I.tok _,⟨_,rfl⟩,q⟩
theorem Cq:zN X (.builtin "ord") (λxs H Q=>∃x,xs=[.str x]/\x.length=1/\Q (.int (x.cps.getD 0 0:Nat)) H):=by
 intro Go s σ H xs us Q I r h;obtain ⟨x,rfl,z,q⟩:=h;obtain ⟨u,rfl,t,rfl⟩:=bV r;exact ord_of_one z ⟨.int _,H,I.tok _,⟨_,rfl⟩,q⟩
end
structure fY(h:Heap)(x dx C:Addr)(mA:Str->Option Value):Prop where
 obj:h.get? x=some (R7 C dx)
 ns:h.Ns1 dx mA
 ne:dx≠x
theorem BI{h:Heap}(n:h.Ns1 dx mA):∃F,h.get? dx=some F/\∀name,lookIn name F=some (mA name):=by
 obtain ⟨o,es,ep,ho,hd,J,_,hm⟩:=n;refine ⟨o,ho,λname=>?_⟩;have e:=hm name;unfold nsFind findBy at e;rw [<- Array.find?_toList] at e;unfold lookIn;rw [hd];dsimp only;split
 .rename_i y q;rw [q] at e;exact congrArg some e
 .rename_i q;rw [q] at e;have a:es.toList.any (·.refKey)=false:=by
   rw [List.any_eq_false];intro y G;obtain ⟨z,t,O⟩:=J y (Array.mem_toList_iff.mp G);simp [R0.refKey,O]
  have a' : ¬ es.toList.any (·.refKey)=true:=by rw [a];exact M4
  rw [if_neg a'];exact congrArg some e
theorem fY.look(I:fY h x dx C mA):∃z,PySem.W.InstAt h x (R7 C dx) C (some z)/\∀name,lookIn name z=some (mA name) :=
 let ⟨z,ho,hl⟩:=BI I.ns
 ⟨z,⟨I.obj,rfl,rfl,ho⟩,hl⟩
section
variable {prog:M8}{w:Nl}{A:Np}{E:Value->p8->Prop}{s:p8}{K:KE}{x dx C f:Addr}{mA:Str->Option Value}{name:Str}{v:Value}
theorem IH(X:K.In s.heap)(I:fY s.heap x dx C mA)(hg:RR K C name=true)(G:RW K C=true)(ha:Ot K (.ref C) name=some none)(O:mA name=some v)(F:handedIn v=true)(h:Q v { s with toks:=s.toks+1 }):
  Nb (Nf prog w) A (getAttr (.ref x) name z) Q E s:=by
 obtain ⟨S,J,hl⟩:=I.look;exact PySem.W.get_value X J (plainGet_of hg).1 (PySem.W.findObj_own G ha rfl (by rw [hl,O])) F h
theorem Ml(X:K.In s.heap)(I:fY s.heap x dx C mA)(hg:RR K C name=true)(hf:Ot K (.ref C) name=some (some (.ref f)))(z:isFn K (.ref f)=true)(F:mA name=none)(h:Q (.ref f,[.ref x]) s):
  Nb (Nf prog w) A (Qf (.ref x) name pl) Q E s:=by
 obtain ⟨G,J,hl⟩:=I.look;exact PySem.W.method_fn X J (plainGet_of hg).1 (plainGet_of hg).2 hf (beq_iff_eq.mp z) (by show (lookIn name G).map (·.isSome)=some false;rw [hl,F];rfl) h
theorem Ck(X:K.In s.heap)(I:fY s.heap x dx C mA)(hs:Ot K (.ref C) "__setattr__"=some (some (.builtin "object.__setattr__")))(hp:plainOver K C=true)(ht:takerIn K C name=some none)(Z:RW K C=true)(hw:Sd mA ns)(hsz:ns.length<=sizeLine)(h:∀h',fY h' x dx C (λy=>if y=name then some v else mA y)->QC dx s.heap h'->Q () { s with heap:=h',toks:=s.toks+2 }):
  Nb (Nf prog w) A (setAttr (.ref x) name v) Q E s:=by
 obtain ⟨od,J,hl⟩:=I.look;refine PySem.W.set_plain X J hs (PySem.W.osa_open (s:={ s with toks:=s.toks+1 }) (r:=none) X J hp ht λb=>?_);obtain ⟨cd,hc,S⟩:=PySem.W.any_some Z;have hx:s.heap.get? x=some ⟨.ref C,some dx,.plain,#[]⟩:=I.obj;refine fv (MZ (fv (fv (wpAny_loadPart hx (fv (PySem.W.Looks.here (s:={ s with toks:=s.toks+1 }) (PySem.W.looks_clsIn X hc) ?_))))));rw [S];refine MZ (a:=some dx) (fv (MZ (fv ?_)));refine wpAny_nsSet1 (s:={ s with toks:=s.toks+1 }) I.ns λh' z U=>?_;obtain ⟨oD,ag,ab,O,F,G⟩:=z.count (Sd.cons name v hw);refine fv (wpAny_lookBehind O (by rw [F];exact pastItsLine_dict (Nx G (by rw [N6];lia))) ?_);exact MZ (h _ ⟨(U.2 _ (Ni I.ne)).trans I.obj,z,I.ne⟩ U)
theorem Hm(X:K.In s.heap)(hm:makesIn K C=true)(hi:Ot K (.ref C) We=some (some (.ref f)))(hf:PySem.W.typeIn K (.ref f)=some (.type "function"))(h:Qp (Nf prog w) (A.under (.builtin "type.__call__" ⟨.ref C::vs,kw⟩)) (.call (.ref f) ⟨.ref (s.heap.objs.size+1)::vs,kw⟩) (PySem.W.InitBack (s.heap.objs.size+1) R)
   { s with heap:=(s.heap.push emptyDict).push (R7 C s.heap.objs.size) }):
  Qp (Nf prog w) A (.call (.ref C) ⟨vs,kw⟩) R s:=by
 obtain ⟨z,g,d,t,os⟩:=s;exact PySem.W.make_core (PySem.W.makes_of X hm) (PySem.W.looks_findIn X hi) (λself=>PySem.W.bind_fn X self hf) (.inl rfl) h
end
def zR(f:Str)(v:V):List (Str×V)->List (Str×V)
 | []=>[(f,v)]
 | (g,x)::r=>if g=f then (g,v)::r else (g,x)::zR f v r
theorem uJ(f g:Str)(v:V):∀fs:List (Str×V),(zR f v fs).lookup g=if g=f then some v else fs.lookup g
 | []=>by
  show O8 g [(f,v)]=_;by_cases h:g=f
  .have hb:(g==f)=true:=beq_iff_eq.mpr h;simp only [O8,hb,if_pos h]
  .have hb:(g==f)=false:=beq_eq_false_iff_ne.mpr h;simp only [O8,hb,if_neg h]
 | (k,x)::r=>by
  have F:=uJ f g v r;rw [show zR f v ((k,x)::r)=(if k=f then (k,v)::r else (k,x)::zR f v r) from rfl];by_cases z:k=f
  .rw [if_pos z];by_cases h:g=k
   .have hb:(g==k)=true:=beq_iff_eq.mpr h;simp only [O8,hb,if_pos (h.trans z)]
   .have hb:(g==k)=false:=beq_eq_false_iff_ne.mpr h;simp only [O8,hb,if_neg (λe:g=f=>h (e.trans z.symm))]
  .rw [if_neg z];by_cases h:g=k
   .have hb:(g==k)=true:=beq_iff_eq.mpr h;simp only [O8,hb,if_neg (λe:g=f=>z (h.symm.trans e))]
   .have hb:(g==k)=false:=beq_eq_false_iff_ne.mpr h;simp only [O8,hb];exact F
theorem n9(f:Str)(v:V):∀fs:List (Str×V),f∈(zR f v fs).map (·.1)/\∀g,g∈fs.map (·.1)->g∈(zR f v fs).map (·.1)
 | []=>⟨by simp [zR],λg h=>by simp at h⟩
 | (k,x)::r=>by
  obtain ⟨i1,i2⟩:=n9 f v r;rw [show zR f v ((k,x)::r)=(if k=f then (k,v)::r else (k,x)::zR f v r) from rfl];by_cases z:k=f
  .rw [if_pos z];subst z;exact ⟨by simp,λg h=>by simpa using h⟩
  .rw [if_neg z];refine ⟨?_,λg h=>?_⟩
   .rw [NO];exact M7 _ i1
   .rw [NO] at h ⊢;rcases MX.mp h with e|e
    .exact MX.mpr (.inl e)
    .exact M7 _ (i2 g e)
theorem wC(f:Str)(v:V):∀fs:List (Str×V),(zR f v fs).length<=fs.length+1
 | []=>by simp [zR]
 | (k,x)::r=>by
  have F:=wC f v r;rw [show zR f v ((k,x)::r)=(if k=f then (k,v)::r else (k,x)::zR f v r) from rfl];by_cases z:k=f
  .rw [if_pos z,N6,N6];lia
  .rw [if_neg z,N6,N6];lia
theorem bH.some_of{o:Option Value}(r:bH (some v) o):∃u,o=some u/\zo v u:=by
 cases o with
 | none=>exact (show False from r).elim
 | some u=>exact ⟨u,rfl,r⟩
theorem bH.none_of{o:Option Value}(r:bH none o):o=none:=by
 cases o with
 | none=>rfl
 | some u=>exact (show False from r).elim
theorem Dt(r:zo v u):handedIn u=true:=by
 cases v with
 | non=>cases (show u=NB from r);rfl
 | bl b=>cases (show u=Px b from r);rfl
 | int i=>obtain ⟨t,e⟩:=(show ∃t,u=O1 i t from r);cases e;rfl
 | str x=>obtain ⟨t,e⟩:=(show ∃t,u=Rh x t from r);cases e;rfl
 | byt b=>obtain ⟨t,e⟩:=(show ∃t,u=Value.bytes b t from r);cases e;rfl
 | flt b=>obtain ⟨t,e⟩:=(show ∃t,u=float b t from r);cases e;rfl
 | ref a=>cases (show u=M3 a from r);rfl
 | ty n=>cases (show u=type n from r);rfl
section
variable {P:M8}{w:Nl}{H H':Hp}{h h':Heap}{a C dx:Addr}{fs fs':List (Str×V)}
theorem jG(hok:HOk P w H h)(e:H a=some (.ins C dx fs)):∃mA,fY h a dx C mA/\(∀f,bH (fs.lookup f) (mA f))/\Sd mA (fs.map (·.1))/\fs.length<=1000/\H dx=some (.own a):=by
 obtain ⟨d,z,ne,ob,mA,n,r,q⟩:=(show ah P w H h a (.ins C dx fs) from hok a _ e);exact ⟨mA,⟨ob,n,ne⟩,r,q,z,d⟩
end
structure Cls(K:KE)(C:Addr):Prop where
 pg:RR K C Rj=true
 hd:RW K C=true
 po:plainOver K C=true
 sa:Ot K (.ref C) "__setattr__"=some (some (.builtin "object.__setattr__"))
theorem Cls.get{K:KE}(c:Cls K C)(f:Str):RR K C f=true:=c.pg
def bu(K:KE)(C:Addr)(f:Str):Prop:=Ot K (.ref C) f=some none
theorem bu.aa{K:KE}(n:bu K C f):takerIn K C f=some none:=by
 unfold takerIn;rw [show Ot K (.ref C) f=some none from n];rfl
structure gn(K:KE)(C:Addr)(m:Str)(f:Addr):Prop where
 at_:Ot K (.ref C) m=some (some (.ref f))
 fn:isFn K (.ref f)=true
 kp:QL K (.ref f)=true
section
variable {X:Cx}{Go:List (Addr×Obj)}{σ:St}{H:Hp}{s:p8}{a C dx:Addr}{fs:List (Str×V)}{f:Str}{v:V}{A:Np}{E:Value->p8->Prop}
theorem ve(I:Inv X Go σ H s)(e:H a=some (.ins C dx fs))(c:Cls X.K C)(n:bu X.K C f)(l:fs.lookup f=some v)(h:∀u s',Inv X Go σ H s'->zo v u->Q u s'):Nb (Nf X.prog X.w) A (getAttr (.ref a) f b) Q E s:=by
 obtain ⟨mA,O,r,_,_,_⟩:=jG I.hok e;obtain ⟨u,F,z⟩:=bH.some_of (v:=v) (o:=mA f) (by rw [<- l];exact r f);exact IH I.SD O (c.get f) c.hd n F (Dt z) (h u _ (I.tok _) z)
theorem kg(I:Inv X Go σ H s)(e:H a=some (.ins C dx fs))(c:Cls X.K C)(k:gn X.K C m g)(l:fs.lookup m=none)(h:Q (.ref g,[.ref a]) s):Nb (Nf X.prog X.w) A (Qf (.ref a) m pl) Q E s:=by
 obtain ⟨mA,O,r,_,_,_⟩:=jG I.hok e;have hn:mA m=none:=bH.none_of (by rw [<- l];exact r m);exact Ml I.SD O (c.get m) k.at_ k.fn hn h
theorem uf(I:Inv X Go σ H s)(e:H a=some (.ins C dx fs))(c:Cls X.K C)(n:bu X.K C f)(hl:fs.length<1000)(S:zo y u)(h:∀s',Inv X Go σ (upd H a (.ins C dx (zR f y fs))) s'->Q () s'):Nb (Nf X.prog X.w) A (setAttr (.ref a) f u) Q E s:=by
 obtain ⟨mA,O,r,wi,_,ho⟩:=jG I.hok e;have G:(fs.map (·.1)).length<=sizeLine:=by rw [MV,NX];lia
 refine Ck I.SD O c.sa c.po n.aa c.hd wi G λh' F J=>h _ ?_;have hd:∃o,h'.get? dx=some o:=let ⟨o,_,_,e',_⟩:=F.ns;⟨o,e'⟩;refine I.write (x:=a) (e:=dx) (by rw [e];exact True.intro) (.inr ho) (λb q hb z=>(J.2 b hb).trans z) hd ?_;refine ⟨by rw [zd O.ne];exact ho,?_,O.ne,F.obj,_,F.ns,λg=>?_,λg hg=>?_⟩
 .have:=wC f y fs;lia
 .show bH ((zR f y fs).lookup g) (if g=f then some u else mA g);rw [uJ];by_cases q:g=f
  .rw [if_pos q,if_pos q];exact S
  .rw [if_neg q,if_neg q];exact r g
 .by_cases q:g=f
  .rw [q];exact (n9 f y fs).1
  .refine (n9 f y fs).2 g (wi g λz=>hg ?_);show (if g=f then some u else mA g)=none;rw [if_neg q];exact z
theorem Inv.made(I:Inv X Go σ H s):Inv X Go σ (upd (upd H s.heap.objs.size (.own (s.heap.objs.size+1))) (s.heap.objs.size+1) (.ins C s.heap.objs.size []))
  { s with heap:=(s.heap.push emptyDict).push (R7 C s.heap.objs.size) }:=by
 have z:(s.heap.push emptyDict).get? s.heap.objs.size=some emptyDict:=Nd s.heap rfl;have J:((s.heap.push emptyDict).push (R7 C s.heap.objs.size)).get? (s.heap.objs.size+1)=some (R7 C s.heap.objs.size):=by
  have:=Nd (s.heap.push emptyDict) (o:=R7 C s.heap.objs.size) rfl;rwa [OQ] at this
 have F:(s.heap.push emptyDict).Ns s.heap.objs.size (λ_=>none):=⟨emptyDict,#[],_,z,rfl,(λe he=>absurd he (by simp)),λ_=>rfl⟩;have G:=I.laid (a:=s.heap.objs.size) (o:=.own (s.heap.objs.size+1)) (h':=s.heap.push emptyDict) (t':=s.toks) (λb u q=>we _ q) (zv _) ⟨_,z⟩;refine G.laid (a:=s.heap.objs.size+1) (o:=.ins C s.heap.objs.size []) (t':=s.toks) (λb u q=>we _ q) (RV (OQ _ _)) ?_;have ne:s.heap.objs.size≠s.heap.objs.size+1:=NN (QO _);refine ⟨by rw [zd ne,zx],NV _,ne,J,λ_=>none,(Heap.Ns1.of_empty F).at λo q=>we _ q,λ_=>True.intro,λy O=>absurd rfl O⟩
theorem LU{f:Str}{s:p8}(hb:Oi e f env (NT e env)=NT e env)(h:Nb (Nf prog w) A (NT e env) (λo s₁=>Nb (Nf prog w) A (getAttr o f true) Q E s₁) E s):Nb (Nf prog w) A (NT (.Attribute e f pos) env) Q E s :=
 Attribute_any_ h (by rw [arm_eval_Attribute,hb])
end
def l8(X:Cx)(op:Operator)(z:V->V->Hp->VK->Prop):Prop :=
 ∀(Go:List (Addr×Obj))(s:p8)(σ:St)(H:Hp)(x y:V)(u v:Value)(Q:VK),Inv X Go σ H s->zo x u->zo y v->z x y H Q->Nb (Nf X.prog X.w) X.A (inplaceOp op u v) (EP X Go σ Q) X.xe s
section
variable {X:Cx}{o e ZK:Nr}{f:Str}{pos Y4 W9:Pos}{ta tv:TE}
def p9:V->V->Hp->VK->Prop:=λx y H Q=>∃i j,x = .int i/\y = .int j/\Q (.int (i+j)) H
def oV:V->V->Hp->VK->Prop:=λx y H Q=>∃i j,x = .int i/\y = .int j/\Q (.int (i-j)) H
theorem Jd:l8 X .Add p9:=by
 rintro Go s σ H x y u v Q I z F ⟨i,j,rfl,rfl,q⟩;obtain ⟨t,rfl⟩:=(show ∃t,u=O1 i t from z);obtain ⟨t',rfl⟩:=(show ∃t',v=O1 j t' from F);exact PyProof.Rows.iadd_int ⟨.int (i+j),H,I.tok _,⟨_,rfl⟩,q⟩
theorem CA:l8 X .Sub oV:=by
 rintro Go s σ H x y u v Q I z F ⟨i,j,rfl,rfl,q⟩;obtain ⟨t,rfl⟩:=(show ∃t,u=O1 i t from z);obtain ⟨t',rfl⟩:=(show ∃t',v=O1 j t' from F);exact PyProof.Rows.isub_int ⟨.int (i-j),H,I.tok _,⟨_,rfl⟩,q⟩
end
section
variable {X:Cx}{Go:List (Addr×Obj)}{σ:St}{H:Hp}{s:p8}{A:Np}{E:Value->p8->Prop}{Q:Value->p8->Prop}{c:Value}{b:Bool}
inductive cG(K:KE)(H:Hp):V->Value->Prop where
 | non:cG K H .non (.type "NoneType")
 | bl (x:Bool):cG K H (.bl x) (.type "bool")
 | int (i:Int):cG K H (.int i) (.type "int")
 | str (x:Str):cG K H (.str x) (.type "str")
 | flt (x:UInt64):cG K H (.flt x) (.type "float")
 | lst {a:Addr}{xs:List V} (e:H a=some (.lst xs)):cG K H (.ref a) (.type "list")
 | frz {a:Addr}{o:Obj}{xs:List V} (e:H a=some (.frz o (.lst xs))):cG K H (.ref a) (.type "list")
 | tup {a:Addr}{xs:List V} (e:H a=some (.tup xs)):cG K H (.ref a) (.type "tuple")
 | dK {a:Addr}{kvs:List (Key×V)} (e:H a=some (.dK kvs)):cG K H (.ref a) (.type "dict")
 | dT {a:Addr}{kvs:List (List Key×V)} (e:H a=some (.dT kvs)):cG K H (.ref a) (.type "dict")
 | ins {a C dx:Addr}{fs:List (Str×V)} (e:H a=some (.ins C dx fs)) (cl:Cls K C) (ha:Ot K (.ref C) "__class__"=some (some (.builtin "object.__class__")))
   (hn:PySem.W.specialIn K (.builtin "object.__class__") "__get__"=some (some (.builtin "getset_descriptor.__get__"))) (htk:PySem.W.takesIn K (.builtin "object.__class__")=some true)
   (hm:RL K C (.type "object")=some true):cG K H (.ref a) (.ref C)
theorem LV{u t:Value}(I:Inv X Go σ H s)(F:zo x u)(ty:cG X.K H x t)(e:PySem.W.kitOne X.K t c=some b)(h:∀tk,Q (.bool b) { s with toks:=tk }):
  Nb (Nf X.prog X.w) A (call (.builtin "isinstance") [u,c]) Q E s:=by
 cases ty with
 | non=>cases (show u=NB from F);exact Oj PySem.W.kitx_none I.SD True.intro e (λz=>nomatch z) h
 | bl y=>cases (show u=Px y from F);exact Oj PySem.W.kitx_bool I.SD True.intro e (λz=>nomatch z) h
 | int i=>obtain ⟨t,q⟩:=(show ∃t,u=O1 i t from F);cases q;exact Oj PySem.W.kitx_int I.SD True.intro e (λz=>nomatch z) h
 | str y=>obtain ⟨t,q⟩:=(show ∃t,u=Rh y t from F);cases q;exact Oj PySem.W.kitx_str I.SD True.intro e (λz=>nomatch z) h
 | flt y=>obtain ⟨t,q⟩:=(show ∃t,u=float y t from F);cases q;exact Oj PySem.W.kitx_float I.SD True.intro e (λz=>nomatch z) h
 | @lst a xs ea =>
  cases (show u=M3 a from F);obtain ⟨_,_,n,_,h1⟩:=(show ah X.prog X.w H s.heap a (.lst xs) from I.hok a _ ea);exact Oj PySem.W.kitx_list I.SD ⟨_,h1,rfl⟩ e (λz=>nomatch z) h
 | @frz a ob xs ea =>
  cases (show u=M3 a from F);obtain ⟨_,_,_,n,_,h1⟩:=(show ah X.prog X.w H s.heap a (.frz ob (.lst xs)) from I.hok a _ ea);exact Oj PySem.W.kitx_list I.SD ⟨_,h1,rfl⟩ e (λz=>nomatch z) h
 | @tup a xs ea =>
  cases (show u=M3 a from F);obtain ⟨_,_,_,p⟩:=(show ah X.prog X.w H s.heap a (.tup xs) from I.hok a _ ea);obtain ⟨o,h1,h2,_⟩:=p;exact Oj PySem.W.kitx_tuple I.SD ⟨o,h1,h2⟩ e (λz=>nomatch z) h
 | @dK a kvs ea =>
  cases (show u=M3 a from F);obtain ⟨_,_,vs,_,p⟩:=(show ah X.prog X.w H s.heap a (.dK kvs) from I.hok a _ ea);obtain ⟨o,es,ep,h1,h2,_⟩:=p;exact Oj PySem.W.kitx_dict I.SD ⟨o,h1,h2.1⟩ e (λz=>nomatch z) h
 | @dT a kvs ea =>
  cases (show u=M3 a from F);obtain ⟨_,_,xs,_,o,es,ep,h1,h2,_⟩:=(show ah X.prog X.w H s.heap a (.dT kvs) from I.hok a _ ea);exact Oj PySem.W.kitx_dict I.SD ⟨o,h1,h2.1⟩ e (λz=>nomatch z) h
 | @ins a C dx fs ea cl ha hn G hm =>
  cases (show u=M3 a from F);obtain ⟨mA,O,_⟩:=jG I.hok ea;obtain ⟨S,J,_⟩:=O.look;exact Oj (PySem.W.kitx_own (cl.get _) cl.hd ha hn G hm) I.SD J e (λz=>nomatch z) h
end
structure zG(c:Bool)(k:Nat)(A:Np):Prop where
 hd:c=true->A.handled=none
 dp:A.depth+3*k+5<recursionLimit
 un:A.units+16*k+200<cLine
 gd:A.guards=some []
theorem zG.mono{j k:Nat}(r:zG c k A)(h:j<=k):zG c j A:=⟨r.hd,by have:=r.dp;lia,by have:=r.un;lia,r.gd⟩
theorem zG.deeper{k:Nat}(r:zG c (k+1) A)(env:Env):zG c k (A.deeper env) :=
 ⟨r.hd,by have:=r.dp;show A.depth+1+3*k+5<_;lia,by have:=r.un;show A.units+3+16*k+200<_;lia,by first|exact r.gd|simpa [Np.deeper,Np.under,Code.isGuard] using r.gd⟩
theorem Ig{A:Np}:(A.under (.builtin "type.__call__" ⟨.ref C::us,kw⟩)).depth=A.depth+1:=by
 first|rfl|simp [Np.under,Code.weight,Code.isCreation,Code.isGuard,Code.isCaller,Code.frames,Code.isFrame,guardIds]
theorem Du{A:Np}:(A.under (.builtin "type.__call__" ⟨.ref C::us,kw⟩)).units=A.units+1:=by
 first|rfl|simp [Np.under,Code.cUnits,Code.frames,Code.isFrame]
theorem zG.make{k:Nat}(r:zG c (k+1) A)(C:Addr)(us:List Value)(kw:List (Str×Value)):zG c k (A.under (.builtin "type.__call__" ⟨.ref C::us,kw⟩)) :=
 ⟨r.hd,by have:=r.dp;rw [Ig];lia,by have:=r.un;rw [Du];lia,by first|exact r.gd|simpa [Np.under,Code.isGuard,guardIds] using r.gd⟩
theorem zG.depth{k:Nat}(r:zG c k A):A.depth<recursionLimit:=by have:=r.dp;lia
theorem zG.units{k:Nat}(r:zG c k A):A.units+64<cLine:=by have:=r.un;lia
def bQ:TA:=λ_ H Q=>Q [] H
def jk(ta:TE)(z:TA):TA:=λσ H Q=>ta σ H λx H1=>z σ H1 λxs H2=>Q (x::xs) H2
section
variable {X:Cx}{e:Nr}{es:List Nr}{te:TE}{t:TA}{pos:Pos}
theorem d6:PA X [] bQ:=λ_ _ _ _ H Q I h=>Calls.spliced_nil ⟨[],H,I,.nil,h⟩
theorem dS(ha:PE X e te)(hr:PA X es t)(hs:Nq (e::es) X.env=(false,NT e X.env)::Nq es X.env:=by rfl):PA X (e::es) (jk te t):=by
 intro pos Go s σ H Q I h;rw [hs];show Nb _ _ (spliced ((false,NT e X.env)::OT pos (Nq es X.env))) _ _ s;refine Calls.spliced_cons (thn (ha Go s σ H _ I h) λu s1=>x5e λx H1 F z S=>?_);exact thn (hr pos Go s1 σ H1 _ F S) λus s2=>x5e λxs H2 J G O=>⟨x::xs,H2,J,.cons z G,O⟩
def Ll(t:TA):TE:=λσ H Q=>t σ H λxs H1=>xs.length<=sizeLine/\∀p,H1 p=none->Q (.ref p) (upd H1 p (.tup xs))
theorem Jw{x1}(h:PA X es t):PE X (.Tuple es x1 pos) (Ll t):=by
 intro Go s σ H Q I G;refine wpAny_Tuple_spliced (thn (h pos Go s σ H _ I G) λus s1=>x5e λxs H1 F r=>x2e λz q=>⟨by rw [<- r.length];exact z,?_⟩);have hf:H1 s1.heap.objs.size=none:=F.hok.fresh (zv _);refine ⟨.ref s1.heap.objs.size,upd H1 s1.heap.objs.size (.tup xs),F.laid (t':=s1.toks) (λb u e=>we _ e) (zv _) ?_,rfl,q _ hf⟩;exact ⟨z,us,r,⟨_,Nd _ rfl,rfl,_,rfl⟩⟩
end
abbrev Sp:=List V->Hp->VK->XK->Prop
abbrev CXT:=List Env->Hp->p8->XK->Value->p8->Prop
structure gy(P:M8)(w:Nl)(K:KE)(mg:Str->Option Value)(base:Heap)(A:Np)(outer:List Env)(s:p8)(H:Hp):Prop where
 frames:A.frames=some outer
 hdk:iq A H
 mod:Mod K mg base
 bs:∀b o,base.get? b=some o->s.heap.get? b=some o/\H b=none
 Vf:base.objs.size<=s.heap.objs.size
 SM:s.heap.FunFrames base outer
 Vo:∀b∈frs outer,H b=none
 hok:HOk P w H s.heap
 bare:PL s.gens
def CE(outer:List Env)(P:M8)(w:Nl)(H:Hp)(s:p8)(Q:VK)(u:Value)(s':p8):Prop :=
 ∃v H',s'.os=s.os/\PL s'.gens/\Un (frs outer) [] H H' s.heap s'.heap/\HOk P w H' s'.heap/\zo v u/\Q v H'
def CR(CX:CXT)(outer:List Env)(P:M8)(w:Nl)(H:Hp)(s:p8)(Q:VK)(E:XK)(r:Result)(s':p8):Prop :=
 match r with
 | .ok (.ret u)=>CE outer P w H s Q u s'
 | .ok _=>False
 | .error e=>CX outer H s E e s'
structure zm(P:M8)(w:Nl)(K:KE)(mg:Str->Option Value)(base:Heap)(CX:CXT)(c:Bool)(k:Nat)(f:Addr)(fd:M9)(ps:List Str)(sp:Sp):Prop where
 len:∀vs H Q E,sp vs H Q E->vs.length=ps.length
 run:∀(A:Np)(outer:List Env)(s:p8)(H:Hp)(args:Args)(us:List Value)(vs:List V)(Q:VK)(E:XK),zG c k A->gy P w K mg base A outer s H->BindsTo s fd args (ps.zip us)->zp vs us->sp vs H Q E ->
  Qp (Nf P w) A (.call (.ref f) args) (CR CX outer P w H s Q E) s
theorem gy.make{K:KE}(e:gy P w K mg base A outer s H)(C:Addr)(us:List Value)(kw:List (Str×Value)):
  gy P w K mg base (A.under (.builtin "type.__call__" ⟨.ref C::us,kw⟩)) outer s H:=⟨by first|exact e.frames|(simpa [Np.under,Code.envs,Code.isFrame,pushEnvs] using e.frames),e.hdk,e.mod,e.bs,e.Vf,e.SM,e.Vo,e.hok,e.bare⟩
section
variable {X:Cx}{Go:List (Addr×Obj)}{σ:St}{H:Hp}{s s':p8}
theorem Inv.VD(I:Inv X Go σ H s):gy X.prog X.w X.K X.mg X.base X.A X.stack s H :=
 ⟨I.ok.frames,I.hdk,I.ok.mod,I.bs,Nx I.ok.Vf I.sz,I.stack,I.Ul,I.hok,I.bare⟩
theorem Inv.after(I:Inv X Go σ H s)(h:CE X.stack X.prog X.w H s Q u s'):EP X Go σ Q u s':=by
 obtain ⟨v,H',os,bare,un,hok,r,q⟩:=h;obtain ⟨G,g,d,t,F⟩:=s';obtain rfl:F=s.os:=os;exact ⟨v,H',I.call (h':=G) (g':=g) (d':=d) (t':=t) (ch:=[]) un hok bare (λb z=>absurd z (by simp)),r,q⟩
end
def jE(sp:Sp)(Zq:List V)(E:XK)(t:TA):TE:=λσ H Q=>t σ H λvs H1=>sp (vs++Zq) H1 Q E
def eW(C:Addr)(m:Str)(sp:Sp)(Zq:List V)(E:XK)(ta:TE)(t:TA):TE:=λσ H Q=>ta σ H λx H1=>∃a dx fs,x = .ref a/\H1 a=some (.ins C dx fs)/\fs.lookup m=none /\
 t σ H1 λvs H2=>sp (x::(vs++Zq)) H2 Q E
def sy(C:Addr)(sp:Sp)(Zq:List V)(E:XK)(t:TA):TE:=λσ H Q=>t σ H λvs H1=>∀x dx,H1 x=none->H1 dx=none->dx≠x ->
 sp (.ref x::(vs++Zq)) (upd (upd H1 dx (.own x)) x (.ins C dx [])) (λv H2=>v = .non/\Q (.ref x) H2) E
def bo(K:KE)(fd:M9)(ps:List Str)(ds:List Value):Prop :=
 ∀(s:p8)(us:List Value),K.In s.heap->(us++ds).length=ps.length->BindsTo s fd ⟨us,[]⟩ (ps.zip (us++ds))
theorem bo.all{K:KE}(h:∀us:List Value,us.length=ps.length->bindArgs fd ⟨us,[]⟩=pure (ps.zip us)):bo K fd ps []:=λs us _ hl=>by
 rw [Oz] at hl ⊢;exact .of_eq (h us hl)
def fh(CX:CXT)(X:Cx)(E:XK):Prop:=∀(Go:List (Addr×Obj))(σ:St)(H:Hp)(s:p8)(e:Value)(s':p8),Inv X Go σ H s->CX X.stack H s E e s'->X.xe e s'
section
variable {X:Cx}{CX:CXT}{cm:Bool}{k:Nat}{f C:Addr}{fd:M9}{ps:List Str}{sp:Sp}{Zq:List V}{ds:List Value}{E:XK}{x m:Str}{p pos Z3:Pos}{e o:Nr}{es:List Nr}{ta:TE}{t:TA}
theorem rB(F:zm X.prog X.w X.K X.mg X.base CX cm k f fd ps sp)(hr:zG cm k X.A)(hb:bo X.K fd ps ds)(hd:zp Zq ds)(hx:fh CX X E)(I:Inv X Go σ H s)(r:zp vs us)(h:sp (vs++Zq) H Q E):Nb (Nf X.prog X.w) X.A (call (.ref f) us) (EP X Go σ Q) X.xe s:=by
 have G:zp (vs++Zq) (us++ds):=r.append hd;have hl:(us++ds).length=ps.length:=by rw [<- G.length];exact F.len _ _ _ _ h
 refine R3 (Qg (F.run X.A X.stack s H ⟨us,[]⟩ (us++ds) (vs++Zq) Q E hr I.VD (hb s us I.SD hl) G h) λr s' z=>?_);cases r with
 | error e=>exact hx Go σ H s e s' I z
 | ok fl =>
  cases fl with
  | ret u=>exact I.after z
  | next=>exact False.elim z
  | brk=>exact False.elim z
  | cont=>exact False.elim z
theorem Dz(F:zm X.prog X.w X.K X.mg X.base CX cm k f fd ps sp)(hr:zG cm k X.A)(hg:Gl X x)(hm:X.mg x=some (.ref f))(G:QL X.K (.ref f)=true)(hb:bo X.K fd ps ds)(hd:zp Zq ds)(hx:fh CX X E)
  (ha:PA X (e::es) t) (J:(x==("__debug__":Str))=false:=by decide) (he:Nq (e::es) X.env=(false,NT e X.env)::Nq es X.env:=by rfl) (O:(OT pos (Nq es X.env)).any (·.1)=false:=by rfl) :
  PE X (.Call (.Name x p) (e::es) [] pos) (jE sp Zq E t):=by
 intro Go s σ H Q I h;refine Oe (gs I hg hm ?_ J);refine Sb (h₀:=X.base) I.ok.mod.Vv G (thn (ha pos Go s σ H _ I h) λus s1=>x5e λvs H1 z r q=>⟨z.SD,?_⟩) he O;exact rB F hr hb hd hx z r q
theorem Fn(he:PE X o ta)(c:Cls X.K C)(hm:gn X.K C m f)(F:zm X.prog X.w X.K X.mg X.base CX cm k f fd ps sp)(hr:zG cm k X.A)(hb:bo X.K fd ps ds)(hd:zp Zq ds)(hx:fh CX X E)(ha:PA X (e::es) t)(hst:Nq (e::es) X.env=(false,NT e X.env)::Nq es X.env:=by rfl)(U:(OT pos (Nq es X.env)).any (·.1)=false:=by rfl)(O:NT (.Call (.Attribute o m Z3) (e::es) [] pos) X.env=(do
   let ov<-NT o X.env
   P0 Z3.atName
   let (f,first)<-Pr [ov] (Qf ov m pl)
   PU pos f first (OT pos (Nq (e::es) X.env)) (QX pos (Pl [] X.env))):=by rfl):
  PE X (.Call (.Attribute o m Z3) (e::es) [] pos) (eW C m sp Zq E ta t):=by
 intro Go s σ H Q I h;refine RJ (pl:=pl) (thn (he Go s σ H _ I h) λu s1=>x5e λx H1 G S z=>?_) O;obtain ⟨a,dx,fs,ex,ea,l,q⟩:=z;subst ex;obtain rfl:u=M3 a:=S;refine kg G ea c hm l ?_;refine Sb (first:=[.ref a]) (h₀:=X.base) I.ok.mod.Vv hm.kp (thn (ha pos Go s1 σ H1 _ G q) λus s2=>x5e λvs H2 J r W=>⟨J.SD,?_⟩) hst U;exact rB (us:=.ref a::us) (vs:=.ref a::vs) F hr hb hd hx J (.cons rfl r) W
theorem Le(he:PE X o ta)(c:Cls X.K C)(hm:gn X.K C m f)(F:zm X.prog X.w X.K X.mg X.base CX cm k f fd ps sp)(hr:zG cm k X.A)(hb:bo X.K fd ps ds)(hd:zp Zq ds)(hx:fh CX X E)(J:NT (.Call (.Attribute o m Z3) [] [] pos) X.env=(do
   let ov<-NT o X.env
   P0 Z3.atName
   let (f,first)<-Pr [ov] (Qf ov m pl)
   PU pos f first (OT pos (Nq [] X.env)) (QX pos (Pl [] X.env))):=by rfl):
  PE X (.Call (.Attribute o m Z3) [] [] pos) (eW C m sp Zq E ta bQ):=by
 intro Go s σ H Q I h;refine RJ (pl:=pl) (thn (he Go s σ H _ I h) λu s1=>x5e λx H1 G O z=>?_) J;obtain ⟨a,dx,fs,ex,ea,l,q⟩:=z;subst ex;obtain rfl:u=M3 a:=O;refine kg G ea c hm l ?_;exact callWith_K0 (first:=[.ref a]) G.SD hm.kp (rB (us:=[.ref a]) (vs:=[.ref a]) F hr hb hd hx G (.cons rfl .nil) q)
structure Mk(K:KE)(C f:Addr):Prop where
 makes:makesIn K C=true
 init:Ot K (.ref C) We=some (some (.ref f))
 fn:isFn K (.ref f)=true
 kp:QL K (.ref C)=true
theorem vS(M:Mk X.K C f)(F:zm X.prog X.w X.K X.mg X.base CX cm k f fd ps sp)(hr:zG cm (k+1) X.A)(hb:bo X.K fd ps ds)(hd:zp Zq ds)(hx:fh CX X E)(I:Inv X Go σ H s)(r:zp vs us)(h:∀x dx,H x=none->H dx=none->dx≠x->sp (.ref x::(vs++Zq)) (upd (upd H dx (.own x)) x (.ins C dx [])) (λv H2=>v = .non/\Q (.ref x) H2) E):
  Nb (Nf X.prog X.w) X.A (call (.ref C) us) (EP X Go σ Q) X.xe s:=by
 have O:=h (s.heap.objs.size+1) s.heap.objs.size (I.hok.fresh (RE _)) (I.hok.fresh (zv _)) (NN (QO _));have G:=Inv.made (C:=C) I;have J:zp (V.ref (s.heap.objs.size+1)::(vs++Zq)) (M3 (s.heap.objs.size+1)::(us++ds)):=.cons rfl (r.append hd);have hl:(M3 (s.heap.objs.size+1)::us++ds).length=ps.length:=by
  have e:=J.length;rw [F.len _ _ _ _ O] at e;exact e.symm
 refine R3 (Hm (f:=f) I.SD M.makes M.init (beq_iff_eq.mp M.fn) (Qg (F.run _ X.stack _ _ ⟨M3 (s.heap.objs.size+1)::us,[]⟩ (M3 (s.heap.objs.size+1)::(us++ds)) _ _ E (hr.make C us [])
  (G.VD.make C us []) (hb _ (M3 (s.heap.objs.size+1)::us) G.SD hl) J O) λr s' z=>?_))
 cases r with
 | error e=>exact hx Go σ _ _ e s' G z
 | ok fl =>
  cases fl with
  | ret u =>
   obtain ⟨v,H',S,W,U,Z⟩:=G.after z;subst U;exact ⟨W,⟨V.ref (s.heap.objs.size+1),H',S,rfl,Z⟩⟩
  | next=>exact False.elim z
  | brk=>exact False.elim z
  | cont=>exact False.elim z
theorem IS(M:Mk X.K C f)(F:zm X.prog X.w X.K X.mg X.base CX cm k f fd ps sp)(hr:zG cm (k+1) X.A)(hg:Gl X x)(hm:X.mg x=some (.ref C))(hb:bo X.K fd ps ds)(hd:zp Zq ds)(hx:fh CX X E)
  (ha:PA X (e::es) t) (G:(x==("__debug__":Str))=false:=by decide) (he:Nq (e::es) X.env=(false,NT e X.env)::Nq es X.env:=by rfl) (J:(OT pos (Nq es X.env)).any (·.1)=false:=by rfl) :
  PE X (.Call (.Name x p) (e::es) [] pos) (sy C sp Zq E t):=by
 intro Go s σ H Q I h;refine Oe (gs I hg hm ?_ G);refine Sb (h₀:=X.base) I.ok.mod.Vv M.kp (thn (ha pos Go s σ H _ I h) λus s1=>x5e λvs H1 z r q=>⟨z.SD,?_⟩) he J;exact vS M F hr hb hd hx z r q
theorem Dq(M:Mk X.K C f)(F:zm X.prog X.w X.K X.mg X.base CX cm k f fd ps sp)(hr:zG cm (k+1) X.A)(hg:Gl X x)(hm:X.mg x=some (.ref C))(hb:bo X.K fd ps ds)(hd:zp Zq ds)(hx:fh CX X E)
  (z:(x==("__debug__":Str))=false:=by decide):PE X (.Call (.Name x p) [] [] pos) (sy C sp Zq E bQ):=by
 intro Go s σ H Q I h;refine Oe (gs I hg hm ?_ z);exact callWith_K0 I.SD M.kp (vS (us:=[]) M F hr hb hd hx I .nil h)
end
structure zw(N P:List Str)(sc:Scope):Prop where
 kind:sc.kind = .function
 co:sc.isCoroutine=false
 gen:sc.isGenerator=false
 nd:N.Nodup
 pre:N.take P.length=P
 par:∀x∈P,sc.names.lookup x=some .local\/sc.names.lookup x=some .cell
 Vz:∀y∈sc.names,y.2≠.free
theorem yH{kindOf:Str->Option NZ}:∀{binds:List (Str×Value)}{m:Str->Option Value},(∀v,(x,v)∉binds)->bindL kindOf binds m x=m x
 | [],_,_=>rfl
 | (n,v)::r,m,h=>by
  unfold bindL;rw [yH λw z=>h w (M7 _ z)];split
  .have:x≠n:=by rintro rfl;exact h v Nm
   simp [this]
  .rfl
theorem rV{kindOf:Str->Option NZ}:∀{binds:List (Str×Value)}{m:Str->Option Value},(∀v,(x,v)∉binds)->bindC kindOf binds m x=m x
 | [],_,_=>rfl
 | (n,v)::r,m,h=>by
  unfold bindC;rw [rV λw z=>h w (M7 _ z)];split
  .rfl
  .have:x≠n:=by rintro rfl;exact h v Nm
   simp [this]
theorem sA{kindOf:Str->Option NZ}:∀{P:List Str}{vs:List Value}{i:Nat}{m:Str->Option Value},P.Nodup->P[i]?=some x->vs[i]?=some v->kindOf x=some .local ->
  bindL kindOf (P.zip vs) m x=some v
 | [],_,_,_,_,h,_,_=>by simp at h
 | _::_,[],_,_,_,_,h,_=>by simp at h
 | p::P,w::vs,0,m,nd,h1,h2,z=>by
  simp at h1 h2;subst h1;subst h2;show bindL kindOf ((p,w)::P.zip vs) m p=_;unfold bindL;rw [yH λv F=>(Ob.mp nd).1 (Sh F).1,if_pos z];simp
 | p::P,w::vs,i+1,m,nd,h1,h2,z=>by
  show bindL kindOf ((p,w)::P.zip vs) m x=_;unfold bindL;exact sA (i:=i) (Ob.mp nd).2 (by simpa using h1) (by simpa using h2) z
theorem u6{kindOf:Str->Option NZ}:∀{P:List Str}{vs:List Value}{i:Nat}{m:Str->Option Value},P.Nodup->P[i]?=some x->vs[i]?=some v->kindOf x≠some .local ->
  bindC kindOf (P.zip vs) m x=some v
 | [],_,_,_,_,h,_,_=>by simp at h
 | _::_,[],_,_,_,_,h,_=>by simp at h
 | p::P,w::vs,0,m,nd,h1,h2,z=>by
  simp at h1 h2;subst h1;subst h2;show bindC kindOf ((p,w)::P.zip vs) m p=_;unfold bindC;rw [rV λv F=>(Ob.mp nd).1 (Sh F).1,if_neg z];simp
 | p::P,w::vs,i+1,m,nd,h1,h2,z=>by
  show bindC kindOf ((p,w)::P.zip vs) m x=_;unfold bindC;exact u6 (i:=i) (Ob.mp nd).2 (by simpa using h1) (by simpa using h2) z
def start(N:List Str)(vs:List V):St:=vs.map some++Nw (N.length-vs.length) none
def cq(CX:CXT)(cm:Bool)(P:M8)(w:Nl)(K:KE)(mg:Str->Option Value)(base:Heap)(N:List Str)(qual:Str)(scope:Scope)(f:Addr)(cd:Value)(A:Np)(outer:List Env)(s:p8)(H:Hp)(E:XK):Cx where
 prog:=P
 w:=w
 K:=K
 mg:=mg
 base:=base
 A:=A.deeper (Pf qual scope s.heap.objs.size f cd)
 N:=N
 s₀:=s
 H₀:=H
 env:=Pf qual scope s.heap.objs.size f cd
 outer:=outer
 stack:=Pf qual scope s.heap.objs.size f cd::outer
 ex:=[]
 calm:=cm
 fn:=λ_=>true
 pn:=[]
 xe:=λe s'=>Nb (Nf P w) (A.deeper (Pf qual scope s.heap.objs.size f cd)) (leaving (Pf qual scope s.heap.objs.size f cd) e) (λ_ z=>CX outer H s E e z) (λF z=>CX outer H s E F z) s'
theorem yp{sc:Scope}(h:sc.names.lookup x=some .cell):∃c,(OF n sc.names []).lookup x=some c:=by
 have q:=PySem.W.cellsFrom_some sc.names n [] (.inl h);exact RF.mp q
theorem Ic{K:KE}(S:zw N ps scope)(hd:cm=true->A.handled=none)(F:gy P w K mg base A outer s H)(hl:vs.length=ps.length)(r:zp vs us)(x:InCallC s s.heap.objs.size (bindL (Pf qual scope s.heap.objs.size f cd).kindOf (ps.zip us) λ_=>none) (OF (s.heap.objs.size+1) scope.names []) (bindC (Pf qual scope s.heap.objs.size f cd).kindOf (ps.zip us) λ_=>none) s1):
  Inv (cq CX cm P w K mg base N qual scope f cd A outer s H E) [] (start N vs) H s1:=by
 have Yu:ps.length<=N.length:=by have:=congrArg length S.pre;rw [Ow] at this;lia
 obtain ⟨h1,tk,rfl,Z⟩:=x.done;have G:∀b:Addr,b∉(cq CX cm P w K mg base N qual scope f cd A outer s H E).ex:=λb z=>absurd (show b∈([]:List Addr) from z) (by simp);refine ⟨⟨F.mod,S.kind,rfl,rfl,zv _,λy z c h1 h2=>?_,λy J=>?_,λy c _ h=>?_,hd,Np.frames_deeper F.frames,.inr ⟨rfl,rfl⟩,λb z=>absurd z (G b),F.bs,F.Vf,λb _ _=>G b,λb z=>absurd z (G b),F.SM,F.Vo⟩,
  rfl,F.bare,Un.kept Z,⟨_,x.toInCall.ns,λi y v h1 h2 h3=>?_⟩,λy c h=>⟨_,x.cell y c h⟩,F.hok.fresh (zv _),λy c h=>?_,λp O=>absurd (show p∈([]:List (Addr×Obj)) from O) (by simp),F.hok.kept Z,?_,F.hdk⟩
 .exact name_of_addr x.apart (Oa h1) (Oa h2)
 .have J:scope.names.lookup y=some .cell\/scope.names.lookup y=some .free:=J;rcases J with J|J
  .exact yp J
  .exact absurd rfl (S.Vz _ (Oa J))
 .exact OH (x.above y c (Oa h))
 .have hi:i<vs.length:=by
   unfold start at h2;by_cases hi:i<vs.length
   .exact hi
   .rw [OB (by simpa using hi)] at h2;rw [Pj] at h2;split at h2<;>cases h2
  have ha:vs[i]?=some v:=by
   unfold start at h2;rw [OJ (by simpa using hi),Nh] at h2;cases e:vs[i]? with
   | none=>rw [e] at h2;cases h2
   | some a=>rw [e] at h2;cases h2;rfl
  obtain ⟨u,W,rv⟩:=r.get ha;have O:ps[i]?=some y:=by
   rw [<- S.pre,List.getElem?_take_of_lt (by lia)];exact h1
  have U:ps.Nodup:=by rw [<- S.pre];exact S.nd.sublist (List.take_sublist _ _)
  refine ⟨u,rv,?_⟩;rcases S.par y (Na O) with k|k
  .exact .inl ⟨k,sA U O W k⟩
  .obtain ⟨c,e⟩:=yp (n:=s.heap.objs.size+1) k;refine .inr ⟨.inl k,c,e,?_⟩;have q:=x.cell y c e;rw [u6 U O W (by show scope.names.lookup y≠_;rw [k];decide)] at q;exact q
 .exact F.hok.fresh (OH (x.above y c (Oa h)))
 .unfold start;show _=N.length;rw [Nt,MV,N8];lia
theorem mQ{K:KE}{k:Nat}{dV kV Ym pm F ct oc:Value}(lk:K.lookup f=some ⟨oc,od,.func (fnOf name qual ZQ Z scope dV kV Ym pm an F ct),ab⟩)(Yj:codeIn K F qual=true)(S:zw N ps scope)(len:∀vs H Q E,sp vs H Q E->vs.length=ps.length)(Yt:∀(A:Np)(outer:List Env)(s:p8)(H:Hp)(vs:List V)(Q:VK)(E:XK),zG cm k (A.deeper (Pf qual scope s.heap.objs.size f F))->sp vs H Q E ->
   ∃t,PSs (cq CX cm P w K mg base N qual scope f F A outer s H E) Z t/\t { nx:=λ_ H'=>Q .non H',rt:=Q } (start N vs) H):
  zm P w K mg base CX cm (k+1) f (fnOf name qual ZQ Z scope dV kV Ym pm an F ct) ps sp:=by
 refine ⟨len,λA outer s H args us vs Q E hr G hb r Xe=>?_⟩;have hl:=len _ _ _ _ Xe;have KX:K.In s.heap:=G.mod.Vv.keeps λb o e=>(G.bs b o e).1;have ag:s.heap.NoLimit:=G.mod.nolimit.keeps λb o e=>(G.bs b o e).1;have Yf:∀y∈ps.zip us,scope.names.lookup y.1=some .local\/(scope.names.lookup y.1=some .cell/\((OF (s.heap.objs.size+1) scope.names []).lookup y.1).isSome=true):=λ⟨n,v⟩ hy=>by
  rcases S.par n (Sh hy).1 with q|q
  .exact .inl q
  .exact .inr ⟨q,PySem.W.cellsFrom_some _ _ _ (.inl q)⟩
 refine codeAny_call_function hr.depth (KX _ _ lk) rfl S.co S.gen rfl (PySem.W.codeRec_of KX Yj) (hb _ _ _ _ ?_);refine wpAny_newFunctionEnv_cells S.kind Yf λenv he s1 x=>?_;subst he;refine ⟨ag.keeps x.toInCall.keep,codeAny_func ?_⟩;obtain ⟨t,ht,hq⟩:=Yt A outer s H vs Q E (hr.deeper _) Xe;have I:Inv (cq CX cm P w K mg base N qual scope f F A outer s H E) [] (start N vs) H s1:=Ic S hr.hd G hl r x;refine N7 (ht [] s1 (start N vs) H _ I hq) (λfl s' hs=>?_) λe s' hs=>hs;have O:∀{z:St}{H':Hp}{v:V}{u:Value},Inv (cq CX cm P w K mg base N qual scope f F A outer s H E) [] z H' s'->zo v u->Q v H'->CE outer P w H s Q u s' :=
  λ{z H' v u} J U q=>⟨v,H',J.os,J.bare,J.base,J.hok,U,q⟩
 cases fl with
 | ret u =>
  obtain ⟨v,z,H',J,U,q⟩:=hs;exact O J U q
 | next =>
  obtain ⟨z,H',J,q⟩:=hs;exact O (v:=V.non) (u:=NB) J rfl q
 | brk =>
  obtain ⟨_,_,_,q⟩:=hs;exact False.elim q
 | cont =>
  obtain ⟨_,_,_,q⟩:=hs;exact False.elim q
section
variable {X:Cx}{x:Str}{p pos:Pos}{e:Nr}{es:List Nr}{t:TA}{id T:String}{r:List V->Hp->VK->Prop}
def tCB(r:List V->Hp->VK->Prop)(t:TA):TE:=λσ H Q=>t σ H λvs H1=>r vs H1 Q
theorem sr(hc:zN X (.builtin id) r)(hg:Gl X x)(hm:X.mg x=none)(J:Pw x=some (.builtin id))(ha:PA X (e::es) t)(hn:x≠"__name__":=by decide)(O:(x==("__debug__":Str))=false:=by decide)
  (he:Nq (e::es) X.env=(false,NT e X.env)::Nq es X.env:=by rfl) (G:(OT pos (Nq es X.env)).any (·.1)=false:=by rfl):PE X (.Call (.Name x p) (e::es) [] pos) (tCB r t):=by
 intro Go s σ H Q I h;refine Oe (dI I hg hm J ?_ hn O);exact PyProof.Rows.callWith_builtin1 (thn (ha pos Go s σ H _ I h) λus s1=>x5e λvs H1 F z S=>hc Go s1 σ H1 vs us Q F z S) he G
theorem Jr(hc:zN X (.type T) r)(hg:Gl X x)(hm:X.mg x=none)(J:Pw x=some (.type T))(ha:PA X (e::es) t)(hn:x≠"__name__":=by decide)(O:(x==("__debug__":Str))=false:=by decide)
  (he:Nq (e::es) X.env=(false,NT e X.env)::Nq es X.env:=by rfl) (G:(OT pos (Nq es X.env)).any (·.1)=false:=by rfl):PE X (.Call (.Name x p) (e::es) [] pos) (tCB r t):=by
 intro Go s σ H Q I h;refine Oe (dI I hg hm J ?_ hn O);exact Od (thn (ha pos Go s σ H _ I h) λus s1=>x5e λvs H1 F z S=>hc Go s1 σ H1 vs us Q F z S) he G
end
end L2
namespace HT
open PySem PyProof.Rows
theorem Bj(A:Np)(s:p8)(a:Int)(t:Tok)(c:Int)(u:Tok):∃e,SeqAt.EqAt A s (.int a t) (.int c u) e/\(e=true↔a=c) :=
 ⟨(a==c),SeqAt.EqAt.int_int a t c u,by simp⟩
section
variable {prog:M8}{w:Nl}{A:Np}{E:Value->p8->Prop}{s:p8}
theorem cat_tup{t b:Addr}(ht:Rc s.heap t vs.toArray)(hb:Rc s.heap b ws.toArray)(Z:vs≠[])(h1:ws=[]->Q (.ref t) s)(h2:ws≠[]->Q (.ref s.heap.objs.size) { s with heap:=s.heap.push { cls:=.type "tuple",data:=.seq (vs++ws).toArray } })(hsz:vs.length+ws.length<=sizeLine):Nb (Nf prog w) A (OE .Add (.ref t) (.ref b)) Q E s:=by
 obtain ⟨⟨cls,dd,data,sl⟩,ho,hc,n,hd⟩:=id ht;obtain ⟨⟨U,S,data2,G⟩,z,F,W,J⟩:=id hb;simp only at hc hd F J;subst hc hd F J;have e:vs.toArray++ws.toArray=(vs++ws).toArray:=by simp
 by_cases O:ws=[]
 .exact concat_meets ⟨_,ho,rfl⟩ ⟨_,z,rfl⟩ noFill_tuple_add seq_tuple_add slot_tuple_add entry_tuple_add (args_tuple_add_2 _ _)
   (tuple_addW1 t b vs.toArray ws.toArray n W dd S sl G (by simpa using Z) (by simp [O])) ⟨ho,z,h1 O⟩
 .refine concat_meets ⟨_,ho,rfl⟩ ⟨_,z,rfl⟩ noFill_tuple_add seq_tuple_add slot_tuple_add entry_tuple_add (args_tuple_add_2 _ _)
   (tuple_addW2 t b vs.toArray ws.toArray n W dd S sl G (by simpa using Z) (by simpa using O) (by rw [Nc,Nc];exact hsz)) ⟨ho,z,?_⟩
  rw [e];exact h2 O
def sIx(n d:Nat):Option Int->Nat
 | none=>d
 | some v=>if v<0 then (v+(n:Int)).toNat else min v.toNat n
theorem sIx_none(n d:Nat):sIx n d none=d:=rfl
theorem sIx_nat(n d k:Nat):sIx n d (some (k:Int))=min k n:=by
 show (if (k:Int)<0 then ((k:Int)+(n:Int)).toNat else min (k:Int).toNat n)=min k n;rw [if_neg (by lia),OG]
theorem Df(n d:Nat)(hd:d<=n)(o:Option Int):sIx n d o<=n:=by
 cases o with
 | none=>exact hd
 | some v =>
  show (if v<0 then (v+(n:Int)).toNat else min v.toNat n)<=n;by_cases z:v<0
  .rw [if_pos z];lia
  .rw [if_neg z];exact Nat.min_le_right _ _
theorem uH(v:Int)(n d:Nat):(if v<0 then max (v+(n:Int)) 0 else min v (n:Int))=((sIx n d (some v):Nat):Int):=by
 show (if v<0 then max (v+(n:Int)) 0 else min v (n:Int))=(((if v<0 then (v+(n:Int)).toNat else min v.toNat n):Nat):Int);by_cases z:v<0
 .simp only [if_pos z];lia
 .simp only [if_neg z];lia
theorem Gj(lo hi:Option Int)(n:Nat):Ng.Slice.sliceAdjust lo hi 1 (n:Int)=(((sIx n 0 lo:Nat):Int),((sIx n n hi:Nat):Int)):=by
 have h1 : ¬ ((1:Int)<0):=by lia
 unfold Ng.Slice.sliceAdjust;simp only [h1,if_false];refine Prod.ext ?_ ?_
 .cases lo with
  | none=>rfl
  | some v=>exact uH v n 0
 .cases hi with
  | none=>rfl
  | some v=>exact uH v n n
theorem Hw(i j:Nat):Ng.Slice.slicePlaces (i:Int) (j:Int) 1=j-i:=by
 unfold Ng.Slice.slicePlaces;have h1:(1:Int)>0:=by lia
 simp only [h1,if_true,Int.ediv_one];split<;>lia
theorem v5{o:Option Int}(p:Ry v o)(h:Q o s):Nb (Nf prog w) A (Ng.Slice.slicePartIndex v) Q E s:=by
 cases p with
 | none=>exact slicePart_none h
 | int i t=>exact slicePart_int h
theorem vN{sl:Addr}{G J:Value}{lo hi:Option Int}{n:Nat}{Q:Int×Int×Nat->p8->Prop}(hs:s.heap.IsSliceOf sl G J .none)(pl:Ry G lo)(O:Ry J hi)
  (h:Q (((sIx n 0 lo:Nat):Int),1,sIx n n hi-sIx n 0 lo) s):Nb (Nf prog w) A (Ng.Slice.sliceApplied (.ref sl) (pure (n:Int))) Q E s:=by
 obtain ⟨os,z,S,F⟩:=id hs;unfold Ng.Slice.sliceApplied Ng.Slice.sliceFields;refine fv (fv (Nv z F (x:=G) rfl (fv (Nv z F (x:=J) rfl (fv (Nv z F (x:=.none) rfl (MZ ?_)))))));refine fv (slicePart_none ?_);show Nb _ _ (if ((1:Int)==0)=true then _ else _) _ _ s;rw [if_neg (by decide)];refine fv (v5 pl (fv (v5 O (fv (MZ ?_)))));show Nb _ _ (match Ng.Slice.sliceAdjust lo hi 1 (n:Int) with|(lo,hi)=>pure (lo,(1:Int),Ng.Slice.slicePlaces lo hi 1)) _ _ s;rw [Gj lo hi n];show Nb _ _ (pure (((sIx n 0 lo:Nat):Int),(1:Int),Ng.Slice.slicePlaces ((sIx n 0 lo:Nat):Int) ((sIx n n hi:Nat):Int) 1)) _ _ s;rw [Hw];exact MZ h
theorem Dc(xs:Array Value)(i k:Nat):((Ra k).filterMap λ(m:Nat)=>xs[((i:Int)+(m:Int)*1).toNat]?).toArray=((xs.toList.drop i).take k).toArray:=by
 have e:(λ(m:Nat)=>xs[((i:Int)+(m:Int)*1).toNat]?)=λm=>xs[i+m]?:=by
  funext m;have:((i:Int)+(m:Int)*1).toNat=i+m:=by lia
  rw [this]
 rw [e];have:=pick_run xs i k;rw [List.filterMap_map] at this;have z:((λx=>xs[x]?)∘λx=>i+x)=λm=>xs[i+m]?:=rfl;rw [z] at this;rw [this]
theorem getItem_tuple_cut{t sl:Addr}{W:Value}{lo hi:Option Int}(z:Rc s.heap t items)(hs:s.heap.IsSliceOf sl U W .none)(pl:Ry U lo)(Z:Ry W hi)(hw : ¬ (sIx items.size 0 lo=0/\sIx items.size items.size hi=items.size))(h:Q (.ref s.heap.objs.size) { s with heap:=s.heap.push { cls:=.type "tuple",data:=.seq ((items.toList.drop (sIx items.size 0 lo)).take (sIx items.size items.size hi-sIx items.size 0 lo)).toArray } })(hsz:items.size<=sizeLine):Nb (Nf prog w) A (R8 (.ref t) (.ref sl)) Q E s:=by
 have F:sizeOk (.seq ((items.toList.drop (sIx items.size 0 lo)).take (sIx items.size items.size hi-sIx items.size 0 lo)).toArray):=by
  show ((items.toList.drop (sIx items.size 0 lo)).take (sIx items.size items.size hi-sIx items.size 0 lo)).toArray.size<=sizeLine;rw [Nc,Ow,Qv,Pc];lia
 have hj:sIx items.size items.size hi<=items.size:=Df _ _ (zv _) hi;obtain ⟨os,G,J,ab⟩:=id hs;have O:s.TypeIs (.ref sl) "slice":=⟨os,G,J⟩;unfold R8
 try with_reducible refine NH ?_
 first|refine fv (MZ ?_)|skip
 refine fv (wpAny_sequenceKey z.typeIs (by decide) ?_);refine fv (NR (name:=yv "__getitem__") z.typeIs NY
  (N2 NY z.typeIs entry_tuple_getitem ?_ (args_tuple_getitem _ _)))
 show Nb _ _ (Ng.Tuple.tupleItemsOf (.ref t)>>=_) _ _ s;refine fv (tupleItemsOf_ z ?_);refine fv (R1 O ?_);rw [if_pos (by decide)];refine fv (vN hs pl Z ?_);have S : ¬ ((((sIx items.size 0 lo:Nat):Int)==0&&(1:Int)==1&&(sIx items.size items.size hi-sIx items.size 0 lo)==items.size)=true):=by
  intro q;rw [NJ,NJ] at q;have q1:((sIx items.size 0 lo:Nat):Int)=0:=eq_of_beq q.1.1;have q2:sIx items.size items.size hi-sIx items.size 0 lo=items.size:=eq_of_beq q.2;exact hw ⟨by lia,by lia⟩
 show Nb _ _ (if (((sIx items.size 0 lo:Nat):Int)==0&&(1:Int)==1&&(sIx items.size items.size hi-sIx items.size 0 lo)==items.size)=true then _ else _) _ _ s;rw [if_neg S,Dc]
 first
  | exact fv (m:=Ng.Tuple.tupleExact _) (N5 (MZ ⟨_,rfl,MZ h⟩) F)
  | exact fv (m:=Ng.Tuple.tupleExact _) (N5 (fv (MZ (MZ ⟨_,rfl,MZ h⟩))) F)
  | exact fv (fv (m:=Ng.Tuple.tupleExact _) (N5 (MZ (MZ ⟨_,rfl,MZ h⟩)) F))
  | exact fv (fv (m:=Ng.Tuple.tupleExact _) (N5 (MZ ⟨_,rfl,MZ h⟩) F))
end
end HT
namespace L2
open PySem PySem.Spec PyProof.Rows
abbrev TO:=St->Hp->(Option Int->Hp->Prop)->Prop
def PO(X:Cx)(e:Option Nr)(t:TO):Prop :=
 ∀(Go:List (Addr×Obj))(s:p8)(σ:St)(H:Hp)(Q:Option Int->Hp->Prop),Inv X Go σ H s->t σ H Q ->
  Nb (Nf X.prog X.w) X.A (evalPart e X.env) (λu s'=>∃o H',Inv X Go σ H' s'/\Ry u o/\Q o H') X.xe s
def si:TO:=λ_ H Q=>Q none H
def xp(t:TE):TO:=λσ H Q=>t σ H λx H1=>∃i,x = .int i/\Q (some i) H1
theorem pB:∀{us:List Value},zp (ns.map V.int) us->Pz us ns:=by
 induction ns with
 | nil=>intro us r;rw [map_nil] at r;cases r;exact .nil
 | cons n ns G =>
  intro us r;rw [NO] at r;cases r with
  | cons z F =>
   obtain ⟨t,e⟩:=z;subst e;exact .cons n t (G F)
section
variable {X:Cx}{e:Nr}{te:TE}{lo hi:Option Nr}{tl th:TO}{pos p2:Pos}
theorem eG:W (PO X none si):=by
 refine ⟨?_⟩;intro Go s σ H Q I h;rw [evalPart_none];exact MZ ⟨none,H,I,.none,h⟩
theorem dW(h:W (PE X e te)):W (PO X (some e) (xp te)):=by
 refine ⟨?_⟩;have h:=h.h;intro Go s σ H Q I z;rw [evalPart_some];refine thn (h Go s σ H _ I z) λu s1=>x5e λx H1 F J G=>?_;obtain ⟨i,rfl,q⟩:=G;obtain ⟨t,rfl⟩:=J;exact ⟨some i,H1,F,.int i t,q⟩
def SlR(X:Cx)(r:V->Option Int->Option Int->Hp->VK->Prop):Prop :=
 ∀(Go:List (Addr×Obj))(s:p8)(σ:St)(H:Hp)(x:V)(v z F:Value)(lo hi:Option Int)(sl:Addr)(Q:VK),Inv X Go σ H s->zo x v->s.heap.IsSliceOf sl z F .none->Ry z lo->Ry F hi->r x lo hi H Q ->
  ∃T id,typeLookup (.type T) "__getitem__"=pure (some (.builtin id))/\s.TypeIs v T/\Nb (Nf X.prog X.w) X.A (R8 v (.ref sl)) (EP X Go σ Q) X.xe s
theorem SlR.or{r r':V->Option Int->Option Int->Hp->VK->Prop}(h:SlR X r)(h':SlR X r'):SlR X (λx lo hi H Q=>r x lo hi H Q\/r' x lo hi H Q):=by
 intro Go s σ H x v J F lo hi sl Q I G hs pl z q;rcases q with q|q
 .exact h Go s σ H x v J F lo hi sl Q I G hs pl z q
 .exact h' Go s σ H x v J F lo hi sl Q I G hs pl z q
def tSl(r:V->Option Int->Option Int->Hp->VK->Prop)(te:TE)(tl th:TO):TE:=λσ H Q=>te σ H λx H1=>tl σ H1 λl H2=>th σ H2 λu H3=>r x l u H3 Q
theorem dY{r:V->Option Int->Option Int->Hp->VK->Prop}(hr:SlR X r)(he:W (PE X e te))(hl:W (PO X lo tl))(J:W (PO X hi th)):W (PE X (.Subscript e (.Slice lo hi none p2) pos) (tSl r te tl th)):=by
 refine ⟨?_⟩;have he:=he.h;have hl:=hl.h;have J:=J.h;intro Go s σ H Q I h;refine Subscript_ (thn (he Go s σ H _ I h) λv s1=>x5e λx H1 I1 O q1=>?_);refine wpAny_Slice (thn (hl Go s1 σ H1 _ I1 q1) λF s2=>x5e λl H2 I2 pl q2=>thn (J Go s2 σ H2 _ I2 q2) λG z=>x5e λu H3 I3 U q3=>?_);rw [evalPart_none];refine MZ ?_;have Z:Inv X Go σ H3 { z with heap:=z.heap.push { cls:=.type "slice",data:=.fields #[F,G,.none] } }:=I3.kept (t':=z.toks) λb ob q=>we _ q;obtain ⟨T,id,hT,S,hg⟩:=hr Go { z with heap:=z.heap.push { cls:=.type "slice",data:=.fields #[F,G,.none] } } σ H3 x v F G l u z.heap.objs.size Q Z O (Heap.IsSliceOf.new ..) pl U q3;show Nb (Nf X.prog X.w) X.A (subscriptTail e (.Slice lo hi none p2) v (.ref z.heap.objs.size)) (EP X Go σ Q) X.xe { z with heap:=z.heap.push { cls:=.type "slice",data:=.fields #[F,G,.none] } };exact tail_any (ops:=[.ref z.heap.objs.size,v]) S hT hg (by with_unfolding_all rfl)
def aY(xs:List V)(lo hi:Option Int):List V:=(xs.drop (HT.sIx xs.length 0 lo)).take (HT.sIx xs.length xs.length hi-HT.sIx xs.length 0 lo)
theorem xU(xs:List V)(lo hi:Option Int):(aY xs lo hi).length<=xs.length:=by
 unfold aY;rw [Ow,Qv];lia
def Ey(K:KE):V->Option Int->Option Int->Hp->VK->Prop:=λx lo hi H Q=>∃a xs,x = .ref a/\SqT K H a xs /\
 ¬ (HT.sIx xs.length 0 lo=0/\HT.sIx xs.length xs.length hi=xs.length)/\∀p,H p=none->Q (.ref p) (upd H p (.tup (aY xs lo hi)))
theorem Fd:SlR X (Ey X.K):=by
 intro Go s σ H x v U W lo hi sl Q I O hs pl J h;obtain ⟨a,xs,rfl,hx,S,q⟩:=h;cases O;obtain ⟨its,r,F,G⟩:=I.tuple hx;have z:its.toArray.size=xs.length:=by rw [Nc];exact r.length.symm
 refine ⟨"tuple",_,NY.lookup,F.typeIs,?_⟩;refine HT.getItem_tuple_cut F hs pl J (by rw [z];exact S) ?_ (by rw [z];exact G);rw [z];refine ⟨.ref s.heap.objs.size,_,I.laid (t':=s.toks) (o:=.tup (aY xs lo hi)) (λb ob q=>we _ q) (zv _) ?_,rfl,q _ (I.hok.fresh (zv _))⟩;exact ⟨Nx (xU xs lo hi) G,_,(r.drop (HT.sIx xs.length 0 lo)).take (HT.sIx xs.length xs.length hi-HT.sIx xs.length 0 lo),Rc.new _ _⟩
def MS(K:KE):R2:=λx y H Q=>∃a b xs ys,x = .ref a/\y = .ref b/\SqT K H a xs/\SqT K H b ys/\xs≠[]/\xs.length+ys.length<=sizeLine /\
 (ys=[]->Q (.ref a) H)/\(ys≠[]->∀p,H p=none->Q (.ref p) (upd H p (.tup (xs++ys))))
theorem zp.SU(r:zp xs us):us=[]↔xs=[]:=by
 cases r with
 | nil=>simp
 | cons _ _=>simp
theorem A7:OpR X (OE .Add) (MS X.K):=by
 intro Go s σ H x y v u Q I O S h;obtain ⟨a,b,xs,ys,rfl,rfl,ha,hb,hx,J,Z,W⟩:=h;cases O;cases S;obtain ⟨its,G,U,_⟩:=I.tuple ha;obtain ⟨Yz,F,p2,_⟩:=I.tuple hb;refine HT.cat_tup U p2 (λz=>hx (G.SU.mp z)) (λz=>⟨.ref a,H,I,rfl,Z (F.SU.mp z)⟩) (λz=>?_) (by rw [<- G.length,<- F.length];exact J);refine ⟨.ref s.heap.objs.size,_,I.laid (t':=s.toks) (o:=.tup (xs++ys)) (λb ob q=>we _ q) (zv _) ?_,rfl,W (λw=>z (F.SU.mpr w)) _ (I.hok.fresh (zv _))⟩;exact ⟨by rw [Nt];exact J,_,G.append F,Rc.new _ _⟩
end
def ixN(n:Nat)(i:Int):Option Nat:=if 0<=i then (if i<n then some i.toNat else none) else if -(n:Int)<=i then some (i+n).toNat else none
def atI{α:Type}(xs:List α)(i:Int):Option α:=(ixN xs.length i).bind λj=>xs[j]?
theorem tR(h:ixN n i=some j):RQ i n=some j/\j<n/\-(n:Int)<=i/\i<n:=by
 unfold ixN at h;by_cases z:0<=i
 .rw [if_pos z] at h;by_cases h1:i<n
  .rw [if_pos h1] at h;have e:i.toNat=j:=NG.inj h;exact ⟨by rw [seqIndex_of z h1,e],by lia,by lia,h1⟩
  .rw [if_neg h1] at h;cases h
 .rw [if_neg z] at h;by_cases h1 : -(n:Int)<=i
  .rw [if_pos h1] at h;have e:(i+n).toNat=j:=NG.inj h;exact ⟨by rw [seqIndex_neg (by lia) h1,e],by lia,h1,by lia⟩
  .rw [if_neg h1] at h;cases h
theorem ox{α:Type}{xs:List α}{v:α}(h:atI xs i=some v):∃j,RQ i xs.length=some j/\xs[j]?=some v/\j<xs.length/\-(xs.length:Int)<=i/\i<xs.length:=by
 unfold atI at h;cases e:ixN xs.length i with
 | none=>rw [e] at h;cases h
 | some j =>
  rw [e] at h;obtain ⟨h1,h2,h3,h4⟩:=tR e;exact ⟨j,h1,h,h2,h3,h4⟩
theorem dh{α:Type}{xs:List α}{j:Nat}{v:α}(h:xs[j]?=some v):atI xs (j:Int)=some v:=by
 have z:j<xs.length:=(MY.mp h).1;have e:ixN xs.length (j:Int)=some j:=by
  unfold ixN;rw [if_pos (by lia),if_pos (by lia)];simp
 unfold atI;rw [e];exact h
theorem Gg{α:Type}(xs:List α)(v:α):atI (xs++[v]) (-1)=some v:=by
 have hl:(xs++[v]).length=xs.length+1:=by simp
 have e:ixN (xs++[v]).length (-1)=some xs.length:=by
  unfold ixN;rw [hl,if_neg (by decide),if_pos (by lia)];congr 1;lia
 unfold atI;rw [e];show (xs++[v])[xs.length]?=some v;simp
def vj(b:Nr):Prop:=∀o i,subscripted b false o i=operate [o,i] (R8 o i)
def IxR(X:Cx)(r:R2):Prop :=
 ∀(ZK z:Nr)(Go:List (Addr×Obj))(s:p8)(σ:St)(H:Hp)(x y:V)(v u:Value)(Q:VK),Inv X Go σ H s->zo x v->zo y u->r x y H Q ->
  subscripted z false v u=operate [v,u] (R8 v u)->Nb (Nf X.prog X.w) X.A (subscriptTail ZK z v u) (EP X Go σ Q) X.xe s
def MtR(X:Cx)(id:String)(r:V->List V->Hp->VK->Prop):Prop :=
 ∀(Go:List (Addr×Obj))(s:p8)(σ:St)(H:Hp)(x:V)(xs:List V)(v:Value)(us:List Value)(Q:VK),Inv X Go σ H s->zo x v->zp xs us->r x xs H Q ->
  Nb (Nf X.prog X.w) X.A (call (.builtin id) (v::us)) (EP X Go σ Q) X.xe s
section
variable {X:Cx}{a b:Nr}{ta tb:TE}{pos:Pos}
theorem IxR.or{r r':R2}(h:IxR X r)(h':IxR X r'):IxR X (λx y H Q=>r x y H Q\/r' x y H Q):=by
 intro ZK z Go s σ H x y v u Q I F G q hs;rcases q with q|q
 .exact h ZK z Go s σ H x y v u Q I F G q hs
 .exact h' ZK z Go s σ H x y v u Q I F G q hs
theorem xl{r:R2}(hr:IxR X r)(ha:PE X a ta)(hb:PE X b tb)(hs:vj b):PE X (.Subscript a b pos) (tOp r ta tb):=by
 intro Go s σ H Q I h;exact Subscript_ (pj ha hb I h λv u s2 x y H2 z F G q=>hr a b Go s2 σ H2 x y v u Q z F G q (hs _ _))
def y9(K:KE):R2:=λx y H Q=>∃p xs i v,x = .ref p/\y = .int i/\SqL K H p xs/\atI xs i=some v/\Q v H
def tf(K:KE):R2:=λx y H Q=>∃p xs i v,x = .ref p/\y = .int i/\SqT K H p xs/\atI xs i=some v/\Q v H
def u9:R2:=λx y H Q=>∃z i c,x = .str z/\y = .int i/\z.length<=sizeLine/\atI z.cps.toList i=some c/\Q (.str ⟨#[c]⟩) H
theorem ux:IxR X (y9 X.K):=by
 intro ZK Y6 Go s σ H x y v u Q I U W h hs;obtain ⟨p,xs,i,z,rfl,rfl,hq,he,q⟩:=h;cases U;obtain ⟨t,rfl⟩:=W;obtain ⟨its,r,pl,hz⟩:=I.list hq;obtain ⟨j,h1,h2,h3,h4,Z⟩:=ox he;obtain ⟨w,J,S⟩:=r.get h2;have hl:=r.length;have hn:=gh;have F:EP X Go σ Q w s:=⟨z,H,I,S,q⟩;by_cases O:0<=i
 .have G:i.toNat=j:=by
   rw [seqIndex_of O Z] at h1;exact NG.inj h1
  exact item_listR pl.isList O (by lia) (by rw [G];simpa using J) F hs
 .have G:(i+(its.toArray.size:Int)).toNat=j:=by
   rw [seqIndex_neg (by lia) h4] at h1;rw [Nc,<- hl];exact NG.inj h1
  exact Po (x:=w) pl.isList.typeIs slot_list_getitem.lookup
   (wpAny_getItem_list_neg (Q:=λr s'=>r=w/\EP X Go σ Q r s') pl.isList (by lia) (by rw [Nc]<;>lia) (by lia) (by rw [G];simpa using J) ⟨rfl,F⟩) hs
theorem JK:IxR X (tf X.K):=by
 intro ZK W Go s σ H x y v u Q I J O h hs;obtain ⟨p,xs,i,z,rfl,rfl,U,he,q⟩:=h;cases J;obtain ⟨t,rfl⟩:=O;obtain ⟨its,r,pl,hz⟩:=I.tuple U;obtain ⟨j,h1,h2,h3,h4,Z⟩:=ox he;obtain ⟨w,S,G⟩:=r.get h2;have hl:=r.length;have hn:=gh;have F:EP X Go σ Q w s:=⟨z,H,I,G,q⟩;exact Po (x:=w) pl.typeIs Rl.lookup
  (getItem_tuple (j:=j) (Q:=λr s'=>r=w/\EP X Go σ Q r s') pl (by lia) (by lia) (by rw [Nc,<- hl];exact h1) (by simpa using S) ⟨rfl,F⟩) hs
theorem FZ:IxR X u9:=by
 intro ZK U Go s σ H x y v u Q I F G h hs;obtain ⟨z,i,c,rfl,rfl,W,he,q⟩:=h;obtain ⟨t,rfl⟩:=F;obtain ⟨t',rfl⟩:=G;obtain ⟨j,h1,h2,h3,h4,J⟩:=ox he;have hl:z.cps.toList.length=z.length:=by simp [Str.length]
 rw [hl] at h1 h4 J;have hn:=gh;exact tail_any (QK s z t) slot_str_getitem.lookup (getItem_str (c:=c) (by
  have O:decide (i < -(2 ^ 63:Int))=false:=decide_eq_false (by lia);have S:decide (i ≥ 2 ^ 63)=false:=decide_eq_false (by lia);rw [O,S,Ql]) (by rw [h1];simpa using h2) ⟨.str ⟨#[c]⟩,H,I.tok _,⟨_,rfl⟩,q⟩) hs
def rIx(K:KE):R2:=λx y H Q=>y9 K x y H Q\/tf K x y H Q\/u9 x y H Q
theorem Kl:IxR X (rIx X.K):=ux.or (JK.or FZ)
theorem Ma(its:List Value)(n j:Nat)(u:Value):PD (·.setIfInBounds j u) { cls:=.type "list",data:=.seq its.toArray n }={ cls:=.type "list",data:=.seq (its.set j u).toArray n }:=by
 simp [PD]
theorem Inv.lst{Go:List (Addr×Obj)}{σ:St}{H:Hp}{s:p8}{p:Addr}{xs:List V}(I:Inv X Go σ H s)(h:H p=some (.lst xs)) :
  ∃(its:List Value)(n:Nat),zp xs its/\s.heap.get? p=some { cls:=.type "list",data:=.seq its.toArray n }/\xs.length<=sizeLine:=by
 obtain ⟨z,its,n,r,e⟩:=I.hok p _ h;exact ⟨its,n,r,e,z⟩
theorem Inv.VC{p:Addr}{its its':List Value}(I:Inv X Go σ H s)(h:H p=some (.lst xs))(ho:s.heap.get? p=some { cls:=.type "list",data:=.seq its.toArray n })(hf:f { cls:=.type "list",data:=.seq its.toArray n }={ cls:=.type "list",data:=.seq its'.toArray z })(r:zp ys its')(F:ys.length<=sizeLine)(t:Nat):
  Inv X Go σ (upd H p (.lst ys)) { s with heap:=s.heap.update p f,toks:=t }:=by
 have e:(s.heap.update p f).get? p=some { cls:=.type "list",data:=.seq its'.toArray z }:=by
  rw [Om f ho (by rw [hf]<;>rfl),hf]
 refine I.write (x:=p) (e:=p) (by rw [h];trivial) (.inl rfl) (λb u hb q=>(NC _ _ (Ni hb)).trans q) ⟨_,e⟩ ?_;exact ⟨F,its',z,r,e⟩
def qJ:V->V->V->Hp->(Hp->Prop)->Prop:=λo i v H Q=>∃p xs k j,o = .ref p/\i = .int k/\H p=some (.lst xs)/\ixN xs.length k=some j/\Q (upd H p (.lst (xs.set j v)))
theorem iM:qZ X qJ:=by
 intro Go s σ H o i v ov iv u Q I ro Z S h;obtain ⟨p,xs,k,j,rfl,rfl,G,U,q⟩:=h;cases ro;obtain ⟨t,rfl⟩:=Z;obtain ⟨its,n,r,ho,O⟩:=I.lst G;obtain ⟨h1,h2,h3,h4⟩:=tR U;have hl:=r.length;have hn:=gh;have J:Inv X Go σ (upd H p (.lst (xs.set j v))) { s with heap:=s.heap.update p (PD (·.setIfInBounds j u)) } :=
  I.VC G ho (Ma its n j u) (r.set S j) (by rw [Ov];exact O) s.toks
 by_cases F:0<=k
 .have z:k.toNat=j:=by
   rw [seqIndex_of F h4] at h1;exact NG.inj h1
  exact PySem.W.ki_setAt ho F (by lia) (by rw [Nc,<- hl];exact h4) (by rw [z];exact ⟨_,J,q⟩)
 .have z:(k+(its.toArray.size:Int)).toNat=j:=by
   rw [seqIndex_neg (by lia) h3] at h1;rw [Nc,<- hl];exact NG.inj h1
  exact PySem.W.ki_setBack ho (by lia) (by rw [Nc,<- hl];exact h3) (by lia) (by rw [z];exact ⟨_,J,q⟩)
theorem AS(lo hi:Option Int)(n:Nat):(Qu lo hi none n).1=((HT.sIx n 0 lo:Nat):Int)/\(Qu lo hi none n).2.1=((HT.sIx n n hi:Nat):Int)/\(Qu lo hi none n).2.2=1:=by
 refine ⟨?_,?_,rfl⟩
 .cases lo with
  | none=>simp [Qu,HT.sIx]
  | some i =>
   simp only [Qu,HT.sIx,getD_none,show (1:Int)>0 by decide,if_true];by_cases h:i<0
   .simp only [h,if_true]<;>lia
   .simp only [h,if_false]<;>lia
 .cases hi with
  | none=>simp [Qu,HT.sIx]
  | some i =>
   simp only [Qu,HT.sIx,getD_none,show (1:Int)>0 by decide,if_true];by_cases h:i<0
   .simp only [h,if_true]<;>lia
   .simp only [h,if_false]<;>lia
theorem GU(its:List Value)(lo hi:Option Int):slicePick its.toArray lo hi none=((its.drop (HT.sIx its.length 0 lo)).take (HT.sIx its.length its.length hi-HT.sIx its.length 0 lo)).toArray:=by
 obtain ⟨h1,h2,h3⟩:=AS lo hi its.toArray.size;unfold slicePick;rw [h1,h2,h3];simp only [sliceRange_one,pick_run,Nc]<;>rfl
def Bo(K:KE):V->Option Int->Option Int->Hp->VK->Prop:=λx lo hi H Q=>∃a xs,x = .ref a/\SqL K H a xs/\∀p,H p=none->Q (.ref p) (upd H p (.lst (aY xs lo hi)))
theorem MT:SlR X (Bo X.K):=by
 intro Go s σ H x v S U lo hi sl Q I G hs pl F h;obtain ⟨a,xs,rfl,hx,q⟩:=h;cases G;obtain ⟨its,r,z,J⟩:=I.list hx;have O:=r.length;refine ⟨"list",_,slot_list_getitem.lookup,z.isList.typeIs,?_⟩;refine wpAny_getItem_list_slice z.isList hs pl F .none (by simp) ?_ (by rw [Nc]<;>lia);rw [GU,<- O];refine ⟨.ref s.heap.objs.size,_,I.laid (t':=s.toks) (o:=.lst (aY xs lo hi)) (λb ob q=>we _ q) (zv _) ?_,rfl,q _ (I.hok.fresh (zv _))⟩;exact ⟨Nx (xU xs lo hi) J,_,0,(r.drop (HT.sIx xs.length 0 lo)).take (HT.sIx xs.length xs.length hi-HT.sIx xs.length 0 lo),Nd _ rfl⟩
def zV:V->Bool
 | .non=>true
 | .bl _=>true
 | .int _=>true
 | .str _=>true
 | _=>false
def eqV:V->V->Bool
 | .non,.non=>true
 | .bl a,.bl b=>a==b
 | .bl a,.int b=>(if a then 1 else 0)==b
 | .int a,.bl b=>a==(if b then 1 else 0)
 | .int a,.int b=>a==b
 | .str a,.str b=>a==b
 | _,_=>false
theorem mO(G:zo y u)(z:zo x v)(J:zV y=true)(F:zV x=true):SeqAt.EqAt A s u v (eqV y x):=by
 cases y with
 | non =>
  cases G;cases x with
  | non=>cases z;exact SeqAt.EqAt.same _
  | bl b=>cases z;exact SeqAt.EqAt.none_bool b
  | int b=>obtain ⟨t,rfl⟩:=z;exact SeqAt.EqAt.none_int b t
  | str b=>obtain ⟨t,rfl⟩:=z;exact SeqAt.EqAt.none_str b t
  | _=>exact absurd (show false=true from F) M4
 | bl a =>
  cases G;cases x with
  | non=>cases z;exact SeqAt.EqAt.bool_none a
  | bl b=>cases z;exact SeqAt.EqAt.bool_bool a b
  | int b=>obtain ⟨t,rfl⟩:=z;exact SeqAt.EqAt.bool_int a b t
  | str b=>obtain ⟨t,rfl⟩:=z;exact SeqAt.EqAt.bool_str a b t
  | _=>exact absurd (show false=true from F) M4
 | int a =>
  obtain ⟨t',rfl⟩:=G;cases x with
  | non=>cases z;exact SeqAt.EqAt.int_none a t'
  | bl b=>cases z;exact SeqAt.EqAt.int_bool a t' b
  | int b=>obtain ⟨t,rfl⟩:=z;exact SeqAt.EqAt.int_int a t' b t
  | str b=>obtain ⟨t,rfl⟩:=z;exact SeqAt.EqAt.int_str a t' b t
  | _=>exact absurd (show false=true from F) M4
 | str a =>
  obtain ⟨t',rfl⟩:=G;cases x with
  | non=>cases z;exact SeqAt.EqAt.str_none a t'
  | bl b=>cases z;exact SeqAt.EqAt.str_bool a t' b
  | int b=>obtain ⟨t,rfl⟩:=z;exact SeqAt.EqAt.str_int a t' b t
  | str b=>obtain ⟨t,rfl⟩:=z;exact SeqAt.EqAt.str_str a t' b t
  | _=>exact absurd (show false=true from F) M4
 | _=>exact absurd (show false=true from J) M4
def eqU(x:V)(u:Value):Bool:=match u with
 | .none=>eqV .non x
 | .bool b=>eqV (.bl b) x
 | .int i _=>eqV (.int i) x
 | .str z _=>eqV (.str z) x
 | _=>false
theorem uQ(r:zo y u)(f:zV y=true):eqU x u=eqV y x:=by
 cases y with
 | non=>cases r;rfl
 | bl b=>cases r;rfl
 | int i=>obtain ⟨t,rfl⟩:=r;rfl
 | str z=>obtain ⟨t,rfl⟩:=r;rfl
 | _=>exact absurd (show false=true from f) M4
theorem kR(h:zp xs us)(f:xs.all zV=true):us.any (eqU x)=xs.any λy=>eqV y x:=by
 induction h with
 | nil=>rfl
 | cons r t z =>
  rw [List.all_cons,NJ] at f;rw [QY,QY,uQ r f.1,z f.2]
theorem iO(G:zo x v)(F:zV x=true):∀{xs:List V}{us:List Value},zp xs us->xs.all zV=true->∀u∈us,SeqAt.EqAt A s u v (eqU x u)
 | _,_,.nil,_=>λu z=>by cases z
 | y::xs,u::us,.cons r t,f=>λJ z=>by
  rw [List.all_cons,NJ] at f;rcases MX.mp z with rfl|z
  .rw [uQ r f.1];exact mO r G f.1 F
  .exact iO G F t f.2 J z
def inV(x:V)(xs:List V):Bool:=xs.any λy=>eqV y x
def rIn(K:KE)(neg:Bool):R2:=λx y H Q=>∃p xs,y = .ref p/\(SqL K H p xs\/SqT K H p xs)/\zV x=true/\xs.all zV=true/\Q (.bl (if neg then !inV x xs else inV x xs)) H
theorem Es:OpR X (NK .In) (rIn X.K false):=by
 intro Go s σ H x y v u Q I G O h;obtain ⟨p,xs,rfl,z,J,fs,q⟩:=h;cases O;rcases z with z|z
 .obtain ⟨its,r,pl,S⟩:=I.list z;refine SeqAt.in_listAt (eqU x) pl.isList (λw F=>iO G J r fs w (by simpa using F)) ⟨.bl _,H,I,rfl,?_⟩;rw [show its.toArray.any (eqU x)=its.any (eqU x) by simp,kR r fs];exact q
 .obtain ⟨its,r,pl,S⟩:=I.tuple z;refine SeqAt.in_tupleAt (eqU x) pl (λw F=>iO G J r fs w (by simpa using F)) ⟨.bl _,H,I,rfl,?_⟩;rw [show its.toArray.any (eqU x)=its.any (eqU x) by simp,kR r fs];exact q
theorem Lr:OpR X (NK .NotIn) (rIn X.K true):=by
 intro Go s σ H x y v u Q I G O h;obtain ⟨p,xs,rfl,z,J,fs,q⟩:=h;cases O;rcases z with z|z
 .obtain ⟨its,r,pl,S⟩:=I.list z;refine SeqAt.notIn_listAt (eqU x) pl.isList (λw F=>iO G J r fs w (by simpa using F)) ⟨.bl _,H,I,rfl,?_⟩;rw [show its.toArray.any (eqU x)=its.any (eqU x) by simp,kR r fs];exact q
 .obtain ⟨its,r,pl,S⟩:=I.tuple z;refine SeqAt.notIn_tupleAt (eqU x) pl (λw F=>iO G J r fs w (by simpa using F)) ⟨.bl _,H,I,rfl,?_⟩;rw [show its.toArray.any (eqU x)=its.any (eqU x) by simp,kR r fs];exact q
theorem j8:zN X (.builtin "len") (λxs H Q=>∃p ys,xs=[.ref p]/\(SqL X.K H p ys\/SqT X.K H p ys)/\Q (.int ys.length) H):=by
 intro Go s σ H xs us Q I r h;obtain ⟨p,ys,rfl,z,q⟩:=h;obtain ⟨u,rfl,J⟩:=bV r;cases J;have hn:=gh;rcases z with z|z
 .obtain ⟨its,r',pl,G⟩:=I.list z;have F:=r'.length;exact Calls.call_len_list pl.isList (by simp only [Nc]<;>lia) ⟨.int ys.length,H,I.tok _,⟨s.toks+1,by rw [Nc,F]⟩,q⟩
 .obtain ⟨its,r',pl,G⟩:=I.tuple z;have F:=r'.length;exact len_tuple pl (by simp only [Nc]<;>lia) ⟨.int ys.length,H,I.tok _,⟨s.toks+1,by rw [Nc,F]⟩,q⟩
theorem KY:zN X (.builtin "len") (λxs H Q=>∃z,xs=[.str z]/\z.length<=sizeLine/\Q (.int z.length) H):=by
 intro Go s σ H xs us Q I r h;obtain ⟨z,rfl,F,q⟩:=h;obtain ⟨u,rfl,t,rfl⟩:=bV r;have hn:=gh;exact len_str (by lia) ⟨.int z.length,H,I.tok _,⟨_,rfl⟩,q⟩
theorem zN.or{r r':List V->Hp->VK->Prop}(h:zN X f r)(h':zN X f r'):zN X f (λxs H Q=>r xs H Q\/r' xs H Q):=by
 intro Go s σ H xs us Q I rs q;rcases q with q|q
 .exact h Go s σ H xs us Q I rs q
 .exact h' Go s σ H xs us Q I rs q
theorem Ge:zN X (.type "list") (λxs H Q=>∃p ys,xs=[.ref p]/\(SqL X.K H p ys\/SqT X.K H p ys)/\∀l,H l=none->Q (.ref l) (upd H l (.lst ys))):=by
 intro Go s σ H xs us Q I r h;obtain ⟨p,ys,rfl,G,q⟩:=h;obtain ⟨u,rfl,J⟩:=bV r;cases J;have F:∀(its:List Value),zp ys its->ys.length<=sizeLine->∀(h':Heap)(c':Nat),(∀b o',s.heap.get? b=some o'->h'.get? b=some o') ->
   h'.get? s.heap.objs.size=some { cls:=.type "list",dict:=none,data:=.seq its.toArray c',slots:=#[] }->EP X Go σ Q (.ref s.heap.objs.size) { s with heap:=h' }:=λits r' z h' c' kp e =>
  ⟨.ref s.heap.objs.size,_,I.laid (t':=s.toks) kp (zv _) (show ah X.prog X.w _ h' _ (.lst ys) from ⟨z,its,c',r',e⟩),rfl,q _ (I.hok.fresh (zv _))⟩
 rcases G with G|G
 .obtain ⟨its,r',pl,z⟩:=I.list G;have O:=r'.length;obtain ⟨o,ho,hc,n,hd⟩:=pl.isList;exact call_list_seq p (.inl rfl) ho hc hd (λh' c' kp e=>F its r' z h' c' kp e) (by simp only [Nc]<;>lia)
 .obtain ⟨its,r',pl,z⟩:=I.tuple G;have O:=r'.length;obtain ⟨o,ho,hc,n,hd⟩:=pl;exact call_list_seq p (.inr rfl) ho hc hd (λh' c' kp e=>F its r' z h' c' kp e) (by simp only [Nc]<;>lia)
theorem JY:zN X (.type "tuple") (λxs H Q=>∃p ys,xs=[.ref p]/\((SqL X.K H p ys/\∀l,H l=none->Q (.ref l) (upd H l (.tup ys)))\/(SqT X.K H p ys/\Q (.ref p) H))):=by
 intro Go s σ H xs us Q I r h;obtain ⟨p,ys,rfl,h⟩:=h;obtain ⟨u,rfl,J⟩:=bV r;cases J;rcases h with ⟨z,q⟩|⟨z,q⟩
 .obtain ⟨its,r',pl,G⟩:=I.list z;have S:=r'.length;refine call_tuple_list pl.isList (λh' kp=>?_) (by simp only [Nc]<;>lia);have F:Inv X Go σ H { s with heap:=h' }:=I.kept (t':=s.toks) kp;have O:Inv X Go σ (upd H h'.objs.size (.tup ys)) { s with heap:=h'.push { cls:=.type "tuple",data:=.seq its.toArray } } :=
   F.laid (t':=s.toks) (λb o e=>we _ e) (zv _) (show ah X.prog X.w _ _ _ (.tup ys) from ⟨G,its,r',Rc.new _ _⟩)
  exact ⟨.ref h'.objs.size,_,O,rfl,q _ (F.hok.fresh (zv _))⟩
 .obtain ⟨its,r',pl,G⟩:=I.tuple z;exact call_tuple_same pl ⟨.ref p,H,I,rfl,q⟩
def tyV(K:KE)(T:String)(x:V)(H:Hp):Prop:=match x with
 | .str _=>T="str"
 | .int _=>T="int"
 | .ref p=>(T="list"/\∃xs,SqL K H p xs)\/(T="tuple"/\∃o,K.lookup p=some o/\o.cls = .type "tuple"/\o.dict=none) \/
   (T="dict"/\((∃kvs,H p=some (.dK kvs))\/∃kvs,H p=some (.dT kvs)))\/(T="set"/\∃S n,H p=some (.set S n))
 | _=>False
theorem gW(I:Inv X Go σ H s)(r:zo x v)(ty:tyV X.K T x H):
  s.TypeIs v T/\∀a,v = .ref a->∃ob,s.heap.get? a=some ob/\ob.dict=none:=by
 cases x with
 | str z =>
  obtain ⟨t,rfl⟩:=r;cases (show T="str" from ty);exact ⟨QK s z t,λ_ e=>nomatch e⟩
 | int i =>
  obtain ⟨t,rfl⟩:=r;cases (show T="int" from ty);exact ⟨typeIs_int s i t,λ_ e=>nomatch e⟩
 | ref p =>
  cases r;rcases ty with ⟨rfl,xs,J⟩|⟨rfl,o,F,hc,hd⟩|⟨rfl,F⟩|⟨rfl,S,n,F⟩
  .obtain ⟨its,_,pl,_⟩:=I.list J;refine ⟨pl.isList.typeIs,λa e=>?_⟩;cases e;obtain ⟨o,n,e,c,hd,_⟩:=pl;exact ⟨o,e,hd⟩
  .refine ⟨⟨o,I.SD p o F,hc⟩,λa e=>?_⟩;cases e;exact ⟨o,I.SD _ o F,hd⟩
  .have z:∃o,s.heap.get? p=some o/\o.ExactDict:=by
    rcases F with ⟨kvs,F⟩|⟨kvs,F⟩
    .obtain ⟨_,_,_,_,o,_,_,e,ex,_⟩:=I.hok p _ F;exact ⟨o,e,ex⟩
    .obtain ⟨_,_,_,_,o,_,_,e,ex,_⟩:=I.hok p _ F;exact ⟨o,e,ex⟩
   obtain ⟨o,e,ex⟩:=z;refine ⟨⟨o,e,ex.1⟩,λa G=>?_⟩;cases G;exact ⟨o,e,ex.2.1⟩
  .obtain ⟨o,_,_,_,e,ex,_⟩:=I.hok p _ F;refine ⟨⟨o,e,ex.1⟩,λa G=>?_⟩;cases G;exact ⟨o,e,ex.2.1⟩
 | _=>exact False.elim ty
variable {o e:Nr}{es:List Nr}{to:TE}{t:TA}{name:Str}{Z3 cpos:Pos}{T id:String}{r:V->List V->Hp->VK->Prop}
end
def MtM(X:Cx)(id:String)(r:V->List V->Hp->VK->Prop):Prop :=
 ∀(Go:List (Addr×Obj))(s:p8)(σ:St)(H:Hp)(x:V)(xs:List V)(v:Value)(us:List Value)(Q:VK),Inv X Go σ H s->zo x v->zp xs us->r x xs H Q ->
  Nb (Nf X.prog X.w) X.A (call (.builtin id) (v::us)) (EP X Go σ Q) X.xe s
theorem yG{α β:Type}{F:α->β->Prop}{x:α}{xs:List α}{us:List β}(h:Paired F (x::xs) us):∃u ws,us=u::ws/\F x u/\Paired F xs ws:=by
 cases h with
 | cons r t=>exact ⟨_,_,rfl,r,t⟩
theorem AD{α β:Type}{F:α->β->Prop}{us:List β}(h:Paired F [] us):us=[]:=by cases h;rfl
theorem zp.one(h:zp [x] us):∃u,us=[u]/\zo x u:=by
 obtain ⟨u,ws,rfl,r,t⟩:=yG h;cases AD t;exact ⟨_,rfl,r⟩
def cf(k:V->Prop):List V->Prop
 | [y]=>k y
 | _=>False
theorem cf.ex{k:V->Prop}(h:cf k vs):∃y,vs=[y]/\k y:=by
 cases vs with
 | nil=>exact h.elim
 | cons y t =>
  cases t with
  | nil=>exact ⟨y,rfl,h⟩
  | cons _ _=>exact h.elim
theorem zp.two(h:zp [x,y] us):∃u v,us=[u,v]/\zo x u/\zo y v:=by
 obtain ⟨u,ws,rfl,r,t⟩:=yG h;obtain ⟨v,rfl,q⟩:=zp.one t;exact ⟨_,_,rfl,r,q⟩
theorem zp.zero(h:zp [] us):us=[]:=AD h
theorem zp.eraseIdx:∀{xs:List V}{us:List Value}(i:Nat),zp xs us->zp (xs.eraseIdx i) (us.eraseIdx i)
 | _,_,_,.nil=>.nil
 | _,_,0,.cons _ t=>t
 | _,_,i+1,.cons r t=>.cons r (zp.eraseIdx i t)
theorem zp.rep(h:zp xs us):∀k:Nat,zp (Nw k xs).flatten (Nw k us).flatten
 | 0=>.nil
 | k+1=>by
  rw [Os,Os,Qz,Qz];exact zp.append h (zp.rep h k)
theorem yY{α:Type}:∀(l:List α)(i:Nat),(l.eraseIdx i).length<=l.length
 | [],_=>zv _
 | _::_,0=>RE _
 | _::r,i+1=>Nat.succ_le_succ (yY r i)
theorem yA(its:List Value):∀(k:Nat)(ZI:List Value),
  foldl (λG z=>G++z) ZI.toArray (Nw k its.toArray)=(ZI++(Nw k its).flatten).toArray
 | 0,ZI=>by simp
 | k+1,ZI=>by
  have e:ZI.toArray++its.toArray=(ZI++its).toArray:=by simp
  have F:(ZI++its)++(Nw k its).flatten=ZI++(Nw (k+1) its).flatten:=by
   rw [Os,Qz,PK]
  rw [<- F,<- yA its k (ZI++its),<- e,Os,QM]
section
variable {X:Cx}{Go:List (Addr×Obj)}{σ:St}{H:Hp}{s:p8}{l b:Addr}{xs ys zs:List V}
theorem Inv.Vm{its its':List Value}(I:Inv X Go σ H s)(z:H l=some (.lst xs))(e:s.heap.get? l=some { cls:=.type "list",data:=.seq its.toArray n })(hf:f its.toArray=its'.toArray)(J:zp ys its')(G:ys.length<=sizeLine):
  Inv X Go σ (upd H l (.lst ys)) { s with heap:=s.heap.update l (PD f),toks:=t' }:=by
 have q:=PySem.IsL.update e f;rw [hf] at q;refine I.write (x:=l) (e:=l) (by rw [z];exact trivial) (.inl rfl) (λO u hb F=>(NC s.heap (PD f) (Ni hb)).trans F) ⟨_,q⟩ ?_;exact ⟨G,its',_,J,q⟩
theorem Inv.ak(I:Inv X Go σ H s)(F:zp ys its)(z:ys.length<=sizeLine):
  Inv X Go σ (upd H s.heap.objs.size (.lst ys)) { s with heap:=s.heap.push { cls:=.type "list",data:=.seq its.toArray },toks:=t' } :=
 I.laid (λ_ _ q=>we _ q) (zv _) ⟨z,its,0,F,Nd _ rfl⟩
theorem Inv.fresh(I:Inv X Go σ H s):H s.heap.objs.size=none:=I.hok.fresh (zv _)
theorem Inv.Um(I:Inv X Go σ H s)(F:H l=some (.lst xs)):xs.length<=sizeLine/\∃(its:List Value)(n:Nat),zp xs its/\xs.length=its.length/\s.heap.get? l=some { cls:=.type "list",data:=.seq its.toArray n }:=by
 obtain ⟨z,its,n,r,e⟩:=I.hok l _ F;exact ⟨z,its,n,r,r.length,e⟩
theorem wq(h:n<=sizeLine):Ng.List.listTooLong n=false:=by
 unfold Ng.List.listTooLong;exact decide_eq_false (by lia)
end
section
variable {X:Cx}
def Jx:V->List V->Hp->VK->Prop:=λx vs H Q=>∃l xs y,x = .ref l/\vs=[y]/\H l=some (.lst xs)/\xs.length<sizeLine/\Q .non (upd H l (.lst (xs++[y])))
theorem Kw:MtM X "list.append" Jx:=by
 intro Go s σ H x vs v us Q I J O h;obtain ⟨l,xs,y,rfl,rfl,G,U,q⟩:=h;cases J;obtain ⟨u,rfl,S⟩:=O.one;obtain ⟨z,its,n,r,hl,e⟩:=I.Um G;refine Pu F.slot_list_append ⟨_,e,rfl⟩ F.entry_list_append (F.args_list_append_2 _ _) (PySem.list_append l its.toArray n u (by rw [Nc];lia)) ⟨e,?_⟩;refine ⟨.non,_,I.Vm (its':=its++[u]) G e (by simp) (r.append (.cons S .nil)) ?_,rfl,q⟩;rw [Nt,P9];lia
def BB:V->List V->Hp->VK->Prop:=λx vs H Q=>∃l b xs zs,x = .ref l/\vs=[.ref b]/\H l=some (.lst xs)/\H b=some (.lst zs)/\xs.length+zs.length<=sizeLine/\Q .non (upd H l (.lst (xs++zs)))
theorem EY:MtM X "list.extend" BB:=by
 intro Go s σ H x vs v us Q I S Z h;obtain ⟨l,b,xs,zs,rfl,rfl,J,U,hz,q⟩:=h;cases S;obtain ⟨u,rfl,O⟩:=Z.one;cases O;obtain ⟨z,its,n,r,hl,e⟩:=I.Um J;obtain ⟨z2,G,W,r2,X6,e2⟩:=I.Um U;have hsz:its.toArray.size+G.toArray.size<=sizeLine:=by rw [Nc,Nc];lia
 have W6 : ¬ (!its.toArray.isEmpty&&Ng.List.listTooLong (its.toArray.size+G.toArray.size))=true:=by
  rw [wq hsz,Bool.and_false];exact M4
 refine Pu F.slot_list_extend ⟨_,e,rfl⟩ F.entry_list_extend (F.args_list_extend_2 _ _)
  (AutoSeq1.list_extend_list_list_0 l its.toArray n b G.toArray W W6 (by rw [Nc];lia) (by lia)) ⟨e,e2,?_⟩
 refine ⟨.non,_,I.Vm (its':=its++G) J e (by simp) (r.append r2) ?_,rfl,q⟩;rw [Nt];lia
def Ep:V->List V->Hp->VK->Prop:=λx vs H Q=>∃l xs i k y,x = .ref l/\vs=[.int i]/\H l=some (.lst xs)/\-(2 ^ 63)<=i/\i<2 ^ 63/\RQ i xs.length=some k/\xs[k]?=some y/\Q y (upd H l (.lst (xs.eraseIdx k)))
theorem Io:MtM X "list.pop" Ep:=by
 intro Go s σ H x vs v us Q I J O h;obtain ⟨l,xs,i,k,y,rfl,rfl,G,h1,h2,Z,U,q⟩:=h;cases J;obtain ⟨u,rfl,ru⟩:=O.one;obtain ⟨t,rfl⟩:=ru;obtain ⟨z,its,n,r,hl,e⟩:=I.Um G;obtain ⟨w,S,W⟩:=r.get U;refine Pu F.slot_list_pop ⟨_,e,rfl⟩ F.entry_list_pop (F.args_list_pop_2 _ _)
  (MeetsSeq.list_pop_at l its.toArray n i t k w (fitsIndex_both h1 h2) (by rw [Nc,<- hl];exact Z) (by rw [<- Q6];exact S) (by rw [Nc];lia)) ⟨e,?_⟩
 refine ⟨y,_,I.Vm (its':=its.eraseIdx k) G e ?_ (r.eraseIdx k) ?_,W,q⟩
 .show its.toArray.eraseIdxIfInBounds k=(its.eraseIdx k).toArray;rw [List.eraseIdxIfInBounds_toArray]
 .have:=yY xs k;lia
def CB:V->List V->Hp->VK->Prop:=λx vs H Q=>∃l xs,x = .ref l/\vs=[]/\H l=some (.lst xs)/\Q .non (upd H l (.lst []))
theorem GD:MtM X "list.clear" CB:=by
 intro Go s σ H x vs v us Q I O S h;obtain ⟨l,xs,rfl,rfl,J,q⟩:=h;cases O;have G:=S.zero;subst G;obtain ⟨z,its,n,r,hl,e⟩:=I.Um J;refine Pu F.slot_list_clear ⟨_,e,rfl⟩ F.entry_list_clear (F.args_list_clear_1 _) (AutoSeq1.list_clear_list_0 l its.toArray n (by rw [Nc];lia)) ⟨e,?_⟩;exact ⟨.non,_,I.Vm (its':=[]) (ys:=[]) J e rfl .nil (NV _),rfl,q⟩
def Ky:R2:=λx y H Q=>∃l b xs zs,x = .ref l/\y = .ref b/\H l=some (.lst xs)/\H b=some (.lst zs)/\xs.length+zs.length<=sizeLine/\∀p,H p=none->Q (.ref p) (upd H p (.lst (xs++zs)))
theorem HN:OpR X (OE .Add) Ky:=by
 intro Go s σ H x y v u Q I G J h;obtain ⟨l,b,xs,zs,rfl,rfl,O,S,hz,q⟩:=h;cases G;cases J;obtain ⟨z,its,n,r,hl,e⟩:=I.Um O;obtain ⟨z2,F,n2,U,Z,W⟩:=I.Um S;refine PySem.P.add_list e W ?_ (by rw [Nc,Nc];lia);have ea:its.toArray++F.toArray=(its++F).toArray:=by simp
 rw [ea];exact ⟨.ref _,_,I.ak (t':=s.toks) (r.append U) (by rw [Nt];lia),rfl,q _ I.fresh⟩
def CY:R2:=λx y H Q=>∃l k xs,x = .ref l/\y = .int k/\H l=some (.lst xs)/\-(2 ^ 63)<=k/\k<2 ^ 63/\xs.length*k.toNat<=sizeLine /\
 ∀p,H p=none->Q (.ref p) (upd H p (.lst (Nw k.toNat xs).flatten))
theorem BQ{α:Type}(xs:List α)(k:Nat):(Nw k xs).flatten.length=k*xs.length:=by
 induction k with
 | zero=>simp
 | succ k z=>rw [Os,Qz,Nt,z,Nat.succ_mul,Nat.add_comm]
theorem Bm:OpR X (OE .Mult) CY:=by
 intro Go s σ H x y v u Q I rx ry h;obtain ⟨l,k,xs,rfl,rfl,hH,h1,h2,Z,q⟩:=h;cases rx;obtain ⟨t,rfl⟩:=ry;obtain ⟨z,its,n,r,hl,e⟩:=I.Um hH;have Z6:its.toArray.size*k.toNat<=sizeLine:=by rw [Nc,<- hl];exact Z
 have G : ¬ its.toArray.size*k.toNat>(2 ^ 63-1) / 8:=by
  have:(sizeLine:Nat)<=(2 ^ 63-1) / 8:=by decide
  lia
 have J : ¬ (!Builtin.List.listFitsIndex k)=true:=by
  rw [fitsIndex_both h1 h2];exact M4
 have W6 : ¬ Ng.List.listTooLong (its.toArray.size*k.toNat)=true:=by
  rw [wq Z6];exact M4
 have O:foldl (λS W=>S++W) #[] (Nw (if its.toArray.isEmpty=true then 0 else k.toNat) its.toArray)=(Nw k.toNat its).flatten.toArray:=by
  have f0:∀m:Nat,foldl (λS W=>S++W) #[] (Nw m its.toArray)=(Nw m its).flatten.toArray:=λm=>by
   have:=yA its m [];rw [R6] at this;exact this
  rw [f0];cases its with
  | nil=>simp
  | cons a r'=>rw [if_neg (by simp)]
 refine wpAny_binaryOp_repeat_ref (T:="list") (U:="int") (by decide) ⟨_,e,rfl⟩ (λs'=>typeIs_int s' k t) noFill_list_mul F.fills_int_mul F.slot_int_rmul repeat_list F.slot_int_index.lookup
  (Pu F.slot_int_rmul (typeIs_int s k t) F.entry_int_rmul (F.args_int_rmul_2 _ _) (int___rmul___int_list k t l its.toArray n)
   ⟨e,rfl,⟨_,e,rfl⟩,Pu F.slot_list_mul ⟨_,e,rfl⟩ F.entry_list_mul (F.args_list_mul_2 _ _) (AutoListH.list___mul___list_int_3 l its.toArray n k t J G W6) ⟨e,?_⟩⟩)
 rw [O];exact ⟨.ref _,_,I.ak (t':=s.toks) (r.rep k.toNat) (by rw [BQ,Nat.mul_comm];exact Z),rfl,q _ I.fresh⟩
end
end L2
namespace Att
open PySem PySem.W PySem.Calls PyProof.Rows
theorem Kc:∀(ns:List Int)(vs:List Value),WellAll P h vs (ns.map WData.int)->Pz vs ns:=by
 intro ns
 induction ns with
 | nil =>
  intro vs w;rw [map_nil] at w;cases w;exact .nil
 | cons n ns z =>
  intro vs w;rw [NO] at w;cases w with
  | cons a b =>
   cases a;exact .cons _ _ (z _ b)
theorem KQ{l:OpenLaw}(hn:l.most=some n)(F:l.row.toRowW.claim.pre args=true)(S:WellAll P h z args):
  ∃a vs ns,z=[M3 a]/\args=[WData.list (ns.map WData.int)]/\h.get? a=some { cls:=.type "list",data:=.seq vs.toArray }/\Pz vs ns/\ns.length<=n:=by
 have O:WShape.hasAll [] args [.list .int]=true:=(pre_splitW F).1;have hc:l.pre.holds [] { args:=args }=true:=(pre_splitW F).2;obtain ⟨d,r,rfl,h1,h2⟩:=hasAllW_cons O;obtain rfl:=hasAllW_nil h2;obtain ⟨xs,rfl,h3⟩:=hasW_list h1;obtain ⟨ns,rfl⟩:=items_int h3;have W:ns.length<=n:=by
  unfold OpenLaw.pre at hc;have h4:(WTm.not (.lt (.lit (.int (n:Int))) (.len (.arg 0)))).holds [] { args:=[.list (ns.map .int)] }=true:=by
   have h4:=(holds_andW hc).1;rw [hn] at h4;exact h4
  have J:=condW_of h4 (w_not (w_lt w_lit (w_len_list (w_arg rfl))));rw [MV] at J;refine Nat.le_of_not_lt λq=>?_;have U:(n:Int)<((ns.length:Nat):Int):=by lia
  first
   | (rw [decide_eq_true U] at J;exact absurd J (by decide))
   | (simp at J;lia)
 cases S with
 | cons w1 Z =>
  cases Z;cases w1 with
  | list ho G=>exact ⟨_,_,ns,rfl,rfl,ho,Kc ns _ G,W⟩
theorem Fz(l:OpenLaw)(args:List WData):l.row.toRowW.claim.post args (.bool true) args=true :=
 postW_of (r:=l.row.toRowW) (X:=(true==true))
  (show WShape.has [] (.bool true) .bool=true by first|rfl|decide|simp [WShape.has,WShape.arms,WShape.armsAll])
  (show (WTm.eq .res (.lit (.bool true))).value [] { args:=args,res:=some (.bool true),after:=args }=some (.bool (true==true)) from w_eq_bool (w_res rfl) w_lit) rfl
theorem attach_call{l:OpenLaw}(hn:l.most=some n)(U:d.params.defaults=[])(call:∀(w:Nl)(s₀ s₁:p8)(mg W:Str->Option Value)(fa:Addr)(o:Obj)(pm cd J:Value)(a:Addr)(vs:List Value)(ns:List Int),
   Ground q Ye [] XP w s₀ mg W s₁.heap->YP w s₁.heap ->
   s₁.heap.get? fa=some o->o.data = .func (docDef d.name d.params d.body d.scope pm cd J)->s₁.heap.CodeRec cd d.name->mg d.name=some (.ref fa) ->
   s₁.heap.get? a=some { cls:=.type "list",data:=.seq vs.toArray }->Pz vs ns->ns.length<=n->s₁.gens = #[] ->
   Qp (Nf l.prog w) callerA (.call (.ref fa) ⟨[.ref a],[]⟩) (λr s'=>r = .ok (.ret (.bool true))/\OldK s₁.heap s'.heap/\s'.os=s₁.os/\PL s'.gens) s₁):
  WalkO q Ye XP YP l.row.toRowW d [] (λf vs=>PySem.call f vs):=by
 intro w s₀ s₁ mg W G Y fa o pm cd J dV kV ho hd Yj Z S hg args ab as F ag aj O ai;obtain rfl:dV = .none:=Dflts.none Z U;obtain rfl:kV = .none:=Dflts.noKw Z;obtain ⟨a,vs,ns,rfl,rfl,z,W0,Z6⟩:=KQ hn F O;refine enter_call (Qg (call w s₀ s₁ mg W fa o pm cd J a vs ns G Y ho (fd_plain hd) Yj S z W0 Z6 hg) λr s' hq=>?_);obtain ⟨rfl,h2,h3,h4⟩:=hq;exact ⟨.inl ⟨.bool true,.bool true,[],rfl,λ_=>rfl,.bool true,Fz l _,λ_=>⟨Pairwise.nil,λ_ hm=>(nomatch hm)⟩⟩,h2,h3,h4⟩
end Att
namespace L2
open PySem PySem.Spec PyProof.Rows
theorem pZ(h:Pz vs ns):zp (ns.map V.int) vs:=by
 induction h with
 | nil=>exact .nil
 | cons n t h z=>exact .cons ⟨t,rfl⟩ z
def aC(s:Stmt)(j:Nat):Stmt:=match s with
 | .ClassDef _ _ _ z _ _ _ _ _ _ _=>z.getD j (.Pass ⟨0,0,0,0⟩)
 | _=>.Pass ⟨0,0,0,0⟩
def gB(s:Stmt):Arguments:=match s with
 | .FunctionDef _ a _ _ _ _ _ _ _ _=>a
 | _=>{ posonlyargs:=[],args:=[],vararg:=none,kwonlyargs:=[],kw_defaults:=[],kwarg:=none,defaults:=[] }
def cT(s:Stmt):List Stmt:=match s with
 | .FunctionDef _ _ b _ _ _ _ _ _ _=>b
 | _=>[]
def zj(s:Stmt):Scope:=match s with
 | .FunctionDef _ _ _ _ _ _ sc _ _ _=>sc
 | _=>{ kind:=.function,names:=[],isGenerator:=false,isCoroutine:=false }
abbrev CX0:CXT:=λ_ _ _ _ _ _=>False
abbrev E0:XK:=λ_ _ _=>False
theorem i6:fh CX0 X E0:=λ_ _ _ _ _ _ _ h=>h.elim
structure Fun(K:KE)(x qual:Str)(st:Stmt)(f:Addr)(fd:M9):Prop where
 ex:∃(oc:Value)(od:Option Addr)(kV Ym pm:Value)(an:Option Addr)(Z0 ct:Value)(osl:Array (Option Value)),
  fd=fnOf x qual (gB st) (cT st) (zj st) .none kV Ym pm an Z0 ct/\K.lookup f=some ⟨oc,od,.func fd,osl⟩/\codeIn K Z0 qual=true
 kp:QL K (.ref f)=true
section
variable {P:M8}{w:Nl}{K:KE}{mg:Str->Option Value}{base:Heap}
theorem Fun.ok{st:Stmt}{k:Nat}(F:Fun K x qual st f fd)(S:zw N ps (zj st))(len:∀vs H Q E,sp vs H Q E->vs.length=ps.length)(J:∀(z:Value)(A:Np)(outer:List Env)(s:p8)(H:Hp)(vs:List V)(Q:VK)(E:XK),zG cm k (A.deeper (Pf qual (zj st) s.heap.objs.size f z))->sp vs H Q E ->
   ∃t,PSs (cq CX0 cm P w K mg base N qual (zj st) f z A outer s H E).U3 (cT st) t/\t { nx:=λ_ H'=>Q .non H',rt:=Q } (start N vs) H):zm P w K mg base CX0 cm (k+1) f fd ps sp:=by
 obtain ⟨oc,W,kV,Ym,pm,Z,z,ct,O,rfl,lk,U⟩:=F.ex;refine mQ lk U S len λA outer s H vs Q E hr G=>?_;obtain ⟨t,h,q⟩:=J z A outer s H vs Q E hr G;exact ⟨t,h.U3,q⟩
theorem Fun.binds{st:Stmt}(F:Fun K x qual st f fd)(h:∀(kV G pm:Value)(z:Option Addr)(J ct:Value)(us:List Value),us.length=ps.length->bindArgs (fnOf x qual (gB st) (cT st) (zj st) .none kV G pm z J ct) ⟨us,[]⟩=pure (ps.zip us)):bo K fd ps []:=by
 obtain ⟨oc,S,kV,G,pm,z,J,ct,O,rfl,lk,U⟩:=F.ex;exact .all (h kV G pm z J ct)
theorem wc{st:Stmt}{kV J pm F ct:Value}(l:K.lookup f=some ⟨oc,O,.func (fnOf x qual (gB st) (cT st) (zj st) .none kV J pm G F ct),z⟩)(c:codeIn K F qual=true)(k:QL K (.ref f)=true):Fun K x qual st f (fnOf x qual (gB st) (cT st) (zj st) .none kV J pm G F ct):=⟨⟨oc,O,kV,J,pm,G,F,ct,z,rfl,l,c⟩,k⟩
end
theorem zT{k:Nat}(hr:zG c k A):A.units+1<cLine:=Og (Nat.add_le_add_left (by decide:1<=64) _) hr.units
theorem nu(h:n<=1000):n<sizeLine:=Og h (by decide)
section
variable {X:Cx}
theorem pv(i:Nat)(hN:X.N[i]?=some x:=by rfl)(z:Vis X.env.scope x:=by first|exact M5 rfl|exact Ru (M5 rfl)|exact Ru (Ru rfl))(hd:(x==("__debug__":Str))=false:=by decide)(F:(x==("__classdict__":Str))=false:=by decide):PE X (.Name x pos) (qT i):=C8 hN z hd F
end
theorem je{A B:Prop}(h:B):if false=true then A else B:=by
 rw [if_neg M4];exact h
theorem jJ{A B:Prop}(h:A):if true=true then A else B:=by
 rw [if_pos rfl];exact h
theorem zY{c A B:Prop} [Decidable c] (h1:c->A) (h2 : ¬ c->B):if c then A else B:=by
 by_cases h:c
 .rw [if_pos h];exact h1 h
 .rw [if_neg h];exact h2 h
def zi(H H':Hp):Prop:=∀b o,H b=some o->H' b=some o
theorem zi.refl(H:Hp):zi H H:=λ_ _ h=>h
theorem zi.trans(a:zi H H1)(b:zi H1 H2):zi H H2:=λc o h=>b c o (a c o h)
theorem zi.free(e:zi H H')(h:H' l=Option.none):H l=Option.none:=by
 cases q:H l with
 | none=>rfl
 | some o =>
  rw [e l o q] at h;cases h
end L2
set_option maxHeartbeats 4000000
namespace L2
open PySem PySem.Spec PyProof.Rows
def ck(cells:List (Str×Addr)):List (Str×NZ)->List (Str×Addr)->List (Str×Addr)
 | [],cs=>cs
 | (n,k)::r,cs=>ck cells r (if k == .free then (match cells.lookup n with|some c=>(n,c)::cs|none=>cs) else cs)
theorem Lb(h:∀y∈scope.names,y.2 = .free->∃c,env.cells.lookup y.1=some c):Rr scope env=pure (ck env.cells scope.names []):=by
 simp only [Rr];have all:∀(l:List (Str×NZ))(cs:List (Str×Addr)),(∀y∈l,y.2 = .free->∃c,env.cells.lookup y.1=some c) ->
   (forIn l cs λ(x:Str×NZ)(r:List (Str×Addr))=>match x with|(name,kind)=>if (kind==NZ.free)=true then do let a<-cellOf env name;pure (ForInStep.yield ((name,a)::r)) else pure (ForInStep.yield r):Sem (List (Str×Addr)))=pure (ck env.cells l cs):=by
  intro l
  induction l with
  | nil=>intro cs _;rfl
  | cons y r J =>
   intro cs G;obtain ⟨n,k⟩:=y;rw [R9];by_cases O:k = .free
   .subst O;obtain ⟨c,hc⟩:=G (n,.free) Nm rfl;have S:env.cells.lookup n=some c:=hc;simp only [cellOf,S,ck,beq_self_eq_true,if_true];exact J _ λz F=>G z (M7 _ F)
   .have hb:(k==NZ.free)=false:=by simpa using O
    simp only [ck,hb,Pd,if_false];exact J _ λz F=>G z (M7 _ F)
 have e:=all scope.names [] h;show (do let cs<-forIn scope.names [] _;pure cs)=_
 first
  | (rw [bind_pure];exact e)
  | exact e
  | (simpa using e)
theorem Au:∀{l:List (Str×NZ)}{cs:List (Str×Addr)}{x:Str}{c:Addr},(ck cells l cs).lookup x=some c->cs.lookup x=some c\/(cells.lookup x=some c/\(x,NZ.free)∈l)
 | [],_,_,_,h=>.inl h
 | (n,k)::r,cs,x,c,h=>by
  unfold ck at h;rcases Au h with h|⟨h1,h2⟩
  .by_cases z:k = .free
   .subst z;simp only [beq_self_eq_true,if_true] at h;cases e:cells.lookup n with
    | none=>rw [e] at h;exact .inl h
    | some c' =>
     rw [e] at h;simp only [PQ] at h;by_cases hx:x=n
     .subst hx;simp only [beq_self_eq_true] at h;cases h;exact .inr ⟨e,Nm⟩
     .have hb:(x==n)=false:=by simpa using hx
      rw [hb] at h;exact .inl h
   .have hb:(k==NZ.free)=false:=by simpa using z
    rw [hb] at h;exact .inl h
  .exact .inr ⟨h1,M7 _ h2⟩
theorem yc:∀{l:List (Str×NZ)}{cs:List (Str×Addr)}{x:Str},(cs.lookup x).isSome=true->((ck cells l cs).lookup x).isSome=true
 | [],_,_,h=>h
 | (n,k)::r,cs,x,h=>by
  unfold ck;refine yc ?_;split
  .split
   .simp only [PQ];split
    .rfl
    .exact h
   .exact h
  .exact h
theorem vE:∀{l:List (Str×NZ)}{cs:List (Str×Addr)}{x:Str}{c:Addr},(x,NZ.free)∈l->cells.lookup x=some c->((ck cells l cs).lookup x).isSome=true
 | (n,k)::r,cs,x,c,hm,hc=>by
  unfold ck;rcases MX.mp hm with e|hm
  .cases e;refine yc ?_;simp only [beq_self_eq_true,if_true,hc,PQ];rfl
  .exact vE hm hc
theorem jB:∀(names:List (Str×NZ))(n:Nat)(ZI:List (Str×Addr)),OF n names ZI=OF n names []++ZI
 | [],_,_=>rfl
 | (x,k)::r,n,ZI=>by
  unfold OF;split
  .rw [jB r (n+1) ((x,n)::ZI),jB r (n+1) [(x,n)],PK];rfl
  .exact jB r n ZI
theorem oN:∀{names:List (Str×NZ)}{n:Nat}{ZI:List (Str×Addr)},(x,c)∈OF n names ZI->(x,c)∈ZI\/(x,NZ.cell)∈names
 | [],_,_,h=>.inl h
 | (y,k)::r,n,ZI,h=>by
  unfold OF at h;split at h
  .next hk =>
   rcases oN h with h|h
   .rcases MX.mp h with e|h
    .cases e;rw [eq_of_beq hk];exact .inr Nm
    .exact .inl h
   .exact .inr (M7 _ h)
  .rcases oN h with h|h
   .exact .inl h
   .exact .inr (M7 _ h)
theorem j4:∀{names:List (Str×NZ)}{n:Nat}{ZI:List (Str×Addr)},(ZI.lookup x).isSome=true->((OF n names ZI).lookup x).isSome=true
 | [],_,_,h=>h
 | (y,k)::r,n,ZI,h=>by
  unfold OF;split
  .refine j4 ?_;rw [PQ];cases x==y with
   | true=>rfl
   | false=>exact h
  .exact j4 h
theorem qU:∀{names:List (Str×NZ)}{n:Nat}{ZI:List (Str×Addr)},(x,NZ.cell)∈names->((OF n names ZI).lookup x).isSome=true
 | (y,k)::r,n,ZI,h=>by
  unfold OF;rcases MX.mp h with e|h
  .cases e;rw [if_pos (by decide)];exact j4 (by rw [PQ,beq_self_eq_true];rfl)
  .split
   .exact qU h
   .exact qU h
def fc(cells:List (Str×Addr))(sc:Scope)(C:Addr):List (Str×Addr):=OF (C+1) sc.names (ck cells sc.names [])
structure j7(cells:List (Str×Addr))(sc:Scope)(C:Addr)(h:Heap):Prop where
 Vi:∀x c,(fc cells sc C).lookup x=some c->(C<c/\h.IsCell c none/\(x,NZ.cell)∈sc.names)\/(cells.lookup x=some c/\(x,NZ.free)∈sc.names)
 inj:∀x y c,(fc cells sc C).lookup x=some c->(fc cells sc C).lookup y=some c->C<c->x=y\/(cells.lookup x=some c\/cells.lookup y=some c)
theorem xP:∀{a b:List (Str×Addr)},(a++b).lookup x=(a.lookup x).or (b.lookup x)
 | [],b=>rfl
 | (y,c)::r,b=>by
  rw [cons_append,PQ,PQ];cases x==y with
  | true=>rfl
  | false=>exact xP
theorem j7.mk'(z:h.objs.size=C+1):j7 cells sc C (Rf h sc.names):=by
 have ok:=cellsFrom_ok sc.names h (C+1) [] ⟨λ_ _ hm=>(nomatch hm),Pairwise.nil⟩ (RV z.symm);rw [z] at ok;have sp:∀x c,(fc cells sc C).lookup x=some c->(x,c)∈OF (C+1) sc.names []\/(cells.lookup x=some c/\(x,NZ.free)∈sc.names):=λx c h=>by
  unfold fc at h;rw [jB,xP] at h;cases e:(OF (C+1) sc.names []).lookup x with
  | some d=>rw [e] at h;cases h;exact .inl (Oa e)
  | none =>
   rw [e] at h;rcases Au (show (ck cells sc.names []).lookup x=some c from h) with h|h
   .cases h
   .exact .inr h
 refine ⟨λx c h=>?_,λx y c h1 h2 _=>?_⟩
 .rcases sp x c h with h|h
  .refine .inl ⟨(ok.empty x c h).2,(ok.empty x c h).1,?_⟩;rcases oN h with h|h
   .cases h
   .exact h
  .exact .inr h
 .rcases sp x c h1 with a|a
  .rcases sp y c h2 with b|b
   .exact .inl (PySem.name_of_addr ok.apart a b)
   .exact .inr (.inr b.1)
  .exact .inr (.inl a.1)
theorem ED{code:Value}(O:Q (newEnv scope s.heap.objs.size G (OF (s.heap.objs.size+1) scope.names J) qual z code (some outer) Qs) { s with heap:=Rf (s.heap.push { cls:=.type "dict",data:=.dict #[] }) scope.names }):
  Nb M A (newFunctionEnv scope G J [] qual z code (some outer)) Q E s:=by
 simp only [newFunctionEnv,isSome_some,if_true];refine fv (wpAny_alloc ?_);refine fv (wpAny_layCells _ (λname kind cells=>by cases F:kind==NZ.cell<;>simp [F]) _ _ _ _ ?_);rw [show ({ s with heap:=s.heap.push { cls:=.type "dict",data:=.dict #[] } }:p8).heap.objs.size=s.heap.objs.size+1 from OQ ..];exact fv (MZ (MZ O))
def bw(sc:Scope)(names:List (Str×NZ))(N N':List Str)(ix:List (Option Nat)):Bool :=
 sc.kind == .function&&sc.names.all (λy=>(y.2 != .cell||sc.names.lookup y.1==some .cell)&&(y.2 != .local||sc.names.lookup y.1==some .local)&&(y.2 != .free||(names.lookup y.1==some .cell&&sc.names.lookup y.1==some .free)) ) &&
 ix.length==N'.length&&(Ra ix.length).all (λi=>match ix.getD i none with
  | none=>true
  | some j=>(match N'[i]?,N[j]? with|some x,some y=>x==y&&sc.names.lookup x==some .free|_,_=>false))
def cn(ix:List (Option Nat))(σ:St):St:=ix.map λo=>o.bind λj=>(σ[j]?).join
structure aB(X:Cx)(sc:Scope)(N':List Str)(ix:List (Option Nat)):Prop where
 kind:sc.kind = .function
 cell:∀y∈sc.names,y.2 = .cell->sc.names.lookup y.1=some .cell
 names:∀y∈sc.names,y.2 = .local->sc.names.lookup y.1=some .local
 free:∀y∈sc.names,y.2 = .free->X.env.kindOf y.1=some .cell/\sc.names.lookup y.1=some .free
 len:ix.length=N'.length
 at_:∀(i j:Nat),ix[i]?=some (some j)->∃x,N'[i]?=some x/\X.N[j]?=some x/\sc.names.lookup x=some .free
theorem aB.of(h:bw sc X.env.scope.names X.N N' ix=true):aB X sc N' ix:=by
 unfold bw at h;simp only [NJ,NM] at h;obtain ⟨⟨⟨h1,h2⟩,h3⟩,h4⟩:=h;refine ⟨by simpa using h1,λy z F=>?_,λy z F=>?_,λy z F=>?_,by simpa using h3,λi j e=>?_⟩
 .have q:=(h2 y z).1.1;rw [F] at q;simpa using q
 .have q:=(h2 y z).1.2;rw [F] at q;simpa using q
 .have q:=(h2 y z).2;rw [F] at q;simp only [bne_self_eq_false,Bool.false_or,NJ,beq_iff_eq] at q;exact q
 .have hi:i<ix.length:=(MY.mp e).1;have:=h4 i (RT.mpr hi);have O:ix.getD i none=some j:=by rw [MW,e];rfl
  rw [O] at this;dsimp only at this;cases G:N'[i]? with
  | none=>rw [G] at this;simp at this
  | some x =>
   cases J:X.N[j]? with
   | none=>rw [G,J] at this;simp at this
   | some y =>
    rw [G,J] at this;simp only [NJ,beq_iff_eq] at this;exact ⟨x,rfl,by rw [this.1],this.2⟩
def zS(X:Cx)(sc:Scope)(N':List Str)(Go:List (Addr×Obj))(C:Addr)(fp:List Addr)(s:p8)(H:Hp):Cx :=
 { X with N:=N',s₀:=s,H₀:=H,env:=compEnvC sc (fc X.env.cells sc C) C X.env,outer:=X.stack,stack:=X.stack,ex:=fp,fn:=λx=>sc.names.lookup x==some .cell,pn:=X.pn++Go,xe:=λ_ _=>False }
theorem HOk.add{o:HO}(x:HOk P w H h)(hn:H D=none)(new:ah P w (upd H D o) h D o):HOk P w (upd H D o) h:=λb u e=>by
 by_cases hb:b=D
 .subst hb;rw [zx] at e;cases e;exact new
 .rw [zd hb] at e;exact (x b u e).stay (λ_ _ _ q=>q) (λc q=>by rw [zd (zC q hn)];exact q) λc xs q=>by rw [zd (zC q hn)];exact q
theorem HOk.but(x:HOk P w H h)(hn:H C=none)(k:∀b u,b≠C->h.get? b=some u->h'.get? b=some u):HOk P w H h':=λb u e =>
 (x b u e).stay (λc v hc q=>k c v (by
  rcases hc with z|z
  .rw [z];exact zC e hn
  .exact zC z hn) q) (λ_ q=>q) λ_ _ q=>q
theorem GO(J:env.scope.kind = .function)(hf:∀y∈sc.names,y.2 = .free->env.kindOf y.1=some .cell):
  ∀x,(relabel sc env).names.lookup x=(sc.names.lookup x).map λk=>if k == .free then .cell else k:=by
 intro x;have em:(relabel sc env).names=sc.names.map λy=>(y.1,if y.2 == .free then NZ.cell else y.2):=by
  show sc.names.map _=_;refine OI λy F=>?_;obtain ⟨n,k⟩:=y;by_cases z:k = .free
  .subst z;have e:env.kindOf n=some .cell:=hf (n,.free) F rfl;simp [J,e]
  .have hb:(k==NZ.free)=false:=by simpa using z
   simp [hb]
 rw [em];generalize sc.names=l
 induction l with
 | nil=>rfl
 | cons y r G =>
  obtain ⟨n,k⟩:=y;simp only [NO,PQ];cases x==n with
  | true=>rfl
  | false=>exact G
section
variable {X:Cx}{sc:Scope}{N':List Str}{ix:List (Option Nat)}
theorem L6{i:Nat}(h:(cn ix σ)[i]?=some (some v)):∃j,ix[i]?=some (some j)/\σ[j]?=some (some v):=by
 unfold cn at h;rw [Nh] at h;cases e:ix[i]? with
 | none=>rw [e] at h;cases h
 | some o =>
  rw [e] at h;have h':(o.bind λj=>(σ[j]?).join)=some v:=NG.inj h;cases o with
  | none=>cases h'
  | some j =>
   have F:(σ[j]?).join=some v:=h';cases G:σ[j]? with
   | none=>rw [G] at F;cases F
   | some z =>
    rw [G] at F;have:z=some v:=F;exact ⟨j,rfl,by rw [G,this]⟩
theorem Lc(I:Inv X Go σ H s)(L:aB X sc N' ix)(f:∀b∈fp,dJ X Go H b)(fl:∀b∈fp,b<s.heap.objs.size)(O:s.heap.objs.size<=C)(ai:h₁.Ns C m)(U:∀b o,s.heap.get? b=some o->h₁.get? b=some o)(own:j7 X.env.cells sc C h₁):
  Inv (zS X sc N' Go C fp s H) [] (cn ix σ) H { s with heap:=h₁,toks:=tk }:=by
 have lt:∀{x c},X.env.cells.lookup x=some c->¬ C<c:=λ{x c} h=>by
  obtain ⟨_,q⟩:=I.cell x c h;have:=q.lt;lia
 have rl:=GO (sc:=sc) (env:=X.env) I.ok.kind λy hy G=>(L.free y hy G).1;have J:∀x,sc.names.lookup x=some .free->∃c,(fc X.env.cells sc C).lookup x=some c/\X.env.cells.lookup x=some c:=λx hx=>by
  have hm:(x,NZ.free)∈sc.names:=Oa hx;obtain ⟨c,hc⟩:=I.ok.has x (.inl (L.free _ hm rfl).1);obtain ⟨c',S⟩:=RF.mp (j4 (names:=sc.names) (n:=C+1) (vE (cs:=[]) hm hc));rcases own.Vi x c' S with a|a
  .have:=L.cell _ a.2.2 rfl;rw [hx] at this;cases this
  .exact ⟨c',S,a.1⟩
 refine ⟨⟨I.ok.mod,L.kind,I.ok.glob,I.ok.blt,O,λx y c h1 h2=>?_,λx hx=>?_,λx c h h'=>?_,I.ok.hd,I.ok.frames,.inl rfl,λb hb=>⟨NN (Nn (fl b hb) O),λx c h=>?_⟩,
   I.bs,Nx I.ok.Vf I.sz,λb o e hb=>?_,λb hb z=>?_,I.stack,I.Ul⟩,rfl,I.bare,Un.kept U,⟨m,ai,λi x v e1 e2 e3=>?_⟩,λx c h=>?_,I.hok.fresh O,λx c h=>?_,λp hp=>?_,I.hok.kept U,?_,I.hdk⟩
 .rcases own.Vi x c h1 with a|a<;>rcases own.Vi y c h2 with b|b
  .rcases own.inj x y c h1 h2 a.1 with e|e|e
   .exact e
   .exact absurd a.1 (lt e)
   .exact absurd a.1 (lt e)
  .exact absurd a.1 (lt b.1)
  .exact absurd b.1 (lt a.1)
  .exact I.ok.inj x y c a.1 b.1
 .have F:(relabel sc X.env).names.lookup x=some .cell\/(relabel sc X.env).names.lookup x=some .free:=hx;rw [rl x] at F;cases e:sc.names.lookup x with
  | none=>rw [e] at F;simp at F
  | some k =>
   have G:k = .free\/k = .cell:=by
    cases k with
    | free=>exact .inl rfl
    | cell=>exact .inr rfl
    | _=>rw [e] at F;revert F;decide
   rcases G with G|G
   .subst G;obtain ⟨c,h1,_⟩:=J x e;exact ⟨c,h1⟩
   .subst G;exact RF.mp (qU (Oa e))
 .rcases own.Vi x c h' with a|a
  .exact Nx O (OH a.1)
  .have:=(L.free _ a.2 rfl).2;have h:(sc.names.lookup x==some .cell)=true:=h;rw [this] at h;exact absurd h (by decide)
 .rcases own.Vi x c h with a|a
  .have:=fl b hb;have:=a.1;exact λz=>by subst z;lia
  .exact (f b hb).2.2.2.2.1 x c a.1
 .rcases (f b hb).2.2.2.1 with z|z
  .exact I.ok.UV b o e z
  .exact absurd (Nn (Nj (I.ok.bs b o e).1) z) (ND _)
 .rcases MX.mp (I.SV b z) with e|e
  .exact (f b hb).2.1 e
  .exact (f b hb).2.2.1 e
 .obtain ⟨j,hj,hv⟩:=L6 e2;obtain ⟨y,n1,n2,Z⟩:=L.at_ i j hj;have ag:x=y:=NG.inj ((show N'[i]?=some x from e1).symm.trans n1);subst ag;obtain ⟨c,c1,c2⟩:=J x Z;have kf:=(L.free _ (Oa Z) rfl).1;obtain ⟨m0,aj,hl⟩:=I.loc;obtain ⟨u,r,l⟩:=hl j x v n2 hv (.inr (.inl kf));refine ⟨u,r,.inr ⟨.inl ?_,c,c1,?_⟩⟩
  .show (relabel sc X.env).names.lookup x=some .cell;rw [rl x,Z];rfl
  .rcases l with ⟨G,_⟩|⟨_,c',S,z⟩
   .have W:X.env.kindOf x=some .cell:=kf;rw [G] at W;cases W
   .rw [c2] at S;cases S;obtain ⟨oc,ho,hd⟩:=z;exact ⟨oc,U _ _ ho,hd⟩
 .rcases own.Vi x c h with a|a
  .exact ⟨_,a.2.1⟩
  .obtain ⟨v,oc,ho,hd⟩:=I.cell x c a.1;exact ⟨v,oc,U _ _ ho,hd⟩
 .rcases own.Vi x c h with a|a
  .exact I.hok.fresh (Nx O (OH a.1))
  .exact I.So x c a.1
 .have ab:p∈X.pn++Go:=by
   have:p∈(X.pn++Go)++[]:=hp;simpa using this
  obtain ⟨a,b,c,d,e⟩:=I.pin p ab;exact ⟨U _ _ a,b,NN (Nn (Nj a) O),λz=>(MX.mp (I.SV p.1 z)).elim c d,e⟩
 .show (cn ix σ).length=N'.length;unfold cn;rw [MV,L.len]
end
def PTs(X:Cx)(z:List Nr)(t:TT):Prop :=
 ∀(Go:List (Addr×Obj))(s:p8)(σ:St)(H:Hp)(Q:Bool->Hp->Prop),Inv X Go σ H s->t σ H Q ->
  Nb (Nf X.prog X.w) X.A (forIn z true λc r=>if r=true then do let ok<-isTrue c X.env (NT c X.env);pure (ForInStep.yield ok) else pure (ForInStep.yield r)) (TP X Go σ Q) X.xe s
def qN:TT:=λ_ H Q=>Q true H
theorem du:W (PTs X [] qN):=⟨λ_ _ _ H _ I h=>wpAny_tests_nil ⟨H,I,h⟩⟩
theorem ip{t:TT}(h:W (PT X c t)):W (PTs X [c] t):=by refine ⟨?_⟩;have h:=h.h;exact λGo s σ H Q I q=>wpAny_tests_one (h Go s σ H Q I q)
theorem C3{e tg iter : Nr}{Zf : List Nr}(hct : (∀ B : Np, B.under (.compLoop e 0 it ZI env) = B) ∧ (Nf prog w).den (.compLoop e 0 it ZI env) = Sem.onRaise (do
      P0 iter.pos
      match ← PP it with
      | none => pure (.done .next)
      | some v =>
        O0 tg it v
        assign tg env v
        let mut ok := true
        for c in Zf do
          if ok then ok ← isTrue c env (NT c env)
        if ok then
          em
        again (.compLoop e 0 it ZI env)) (fun x => do RS x env; theTreesLotGoes x))(I:Nat->p8->Prop)(Z:∀n s,I n s->Nb (Nf prog w) A (PP it) (λr s₁=>match r with
   | none=>R (.ok .next) s₁
   | some v=>Nb (Nf prog w) A (O0 tg it v) (λ_ F=>Nb (Nf prog w) A (assign tg env v) (λ_ G =>
     Nb (Nf prog w) A (forIn Zf true λc r=>if r=true then do let ok<-isTrue c env (NT c env);pure (ForInStep.yield ok) else pure (ForInStep.yield r)) (λok s₃ =>
      if ok=true then Nb (Nf prog w) A em (λ_ O=>∃m,m<n/\I m O) (λ_ _=>False) s₃
      else ∃m,m<n/\I m s₃) (λ_ _=>False) G) (λ_ _=>False) F) (λ_ _=>False) s₁) (λ_ _=>False) s)(n:Nat)(h:I n s):Qp (Nf prog w) A (.compLoop e 0 it ZI env) R s:=by
 refine codeAny_loop rfl I (λn s hI=>?_) n h;rw [hct.1,hct.2];refine wpAny_noted (N7 (E:=λ_ _=>False) ?_ (λ_ _ q=>q) λ_ _ z=>z.elim);refine fv (Pa (fv (N7 (Z n s hI) (λr s₁ h₁=>?_) λ_ _ h'=>h')));cases r with
 | none=>exact MZ h₁
 | some v =>
  refine fv (N7 h₁ (λ_ F S=>?_) λ_ _ h'=>h');refine fv (N7 S (λ_ G U=>fv (N7 U (λok s₃ J=>?_) λ_ _ h'=>h')) λ_ _ h'=>h');cases ok with
  | false=>exact MZ ⟨rfl,J⟩
  | true=>exact fv (N7 J (λ_ O W=>MZ ⟨rfl,W⟩) λ_ _ h'=>h')
def tLC(ix:List (Option Nat))(wi:TI)(g:TG)(tt:TT)(te:TE):TE:=λσ H Q=>wi σ H λJ H1=>∃W:Nat->Nat->St->List V->Hp->Prop,(∃m,W 0 m (cn ix σ) [] H1)/\∀i m τ ys H2,W i m τ ys H2->ys.length<sizeLine /\
 ((J.stop i H2 ∧ ∀ D, H2 D = none → D ≠ sysModules → Q (.ref D) (upd H2 D (.lst ys))) ∨
  (J.go i H2 ∧ ∀ x H3, J.U2 i H2 x H3 → g x τ H3 fun z H4 => tt z H4 fun ok H5 => if ok = true then te z H5 fun y H6 => ∃ F, F < m ∧ W (i + 1) F z (ys ++ [y]) H6 else ∃ F, F < m ∧ W (i + 1) F z ys H5))
theorem tN{α:Type}{Q:VK}{em:Addr->Env->Sem Unit}(len:α->Nat)(ho:α->HO)(a0:α)(At:α->Obj->Prop)(tm:(α->Hp->Prop)->α->St->Hp->Prop)(c4:clausesOf e=[⟨tg,iter,Zf,0⟩])(hsz:sizeOk dt)(cv:∀it D env,(∀B:Np,B.under (.compLoop e 0 it (.ref D) env)=B)/\(Nf X.prog X.w).den (.compLoop e 0 it (.ref D) env)=Sem.onRaise (do
   P0 iter.pos
   match<-PP it with
   | none=>pure (.done .next)
   | some v =>
    O0 tg it v
    assign tg env v
    let mut ok:=true
    for c in Zf do
     if ok then ok<-isTrue c env (NT c env)
    if ok then
     em D env
    again (.compLoop e 0 it (.ref D) env)) (λx=>do RS x env;theTreesLotGoes x))(hst:∀{A:Np}{R:Result->p8->Prop}{s:p8}{it ZI:Value}{env:Env},Qp (Nf X.prog X.w) A (.compLoop e 0 it ZI env) R s->Nb (Nf X.prog X.w) A (pyIter it) (λb7 s'=>Qp (Nf X.prog X.w) A (.compLoop e 0 b7 ZI env) R s') (notedBy (Nf X.prog X.w) A env λx s'=>R (.error x) s') s->Qp (Nf X.prog X.w) A (.compStart e 0 it ZI env) R s)(h0:At a0 { cls:=.type T,dict:=none,data:=dt })(Ze:({ cls:=.type T,dict:=none,data:=dt }:Obj).isFreed=false)(a9:∀{ys o},At ys o->∀v,o.data≠.cell v)(bt:∀{ys o H' h D},At ys o->len ys<sizeLine->D≠sysModules->h.get? D=some o->ah X.prog X.w H' h D (ho ys))(cD:∀Go C fp s H pins' s8 τ H8 ys ob D (K:α->Hp->Prop),Inv (zS X sc N' Go C fp s H) pins' τ H8 s8->tm K ys τ H8->At ys ob->len ys<sizeLine->(D,ob)∈pins' ->
   Nb (Nf X.prog X.w) X.A (em D (zS X sc N' Go C fp s H).env) (λ_ s'=>∃s9 ba H9 aj h' tk,s'={ s9 with heap:=h',toks:=tk }/\K ba H9/\Inv (zS X sc N' Go C fp s H) pins' τ H9 s9/\At ba aj/\h'.get? D=some aj/\QC D s9.heap h') (λ_ _=>False) s8)(hc:c=true->X.calm=true)(L:aB X sc N' ix)(hi:PIc c X tg iter wi)(hg:∀Go C fp s H,PG (zS X sc N' Go C fp s H) tg g)(ht:∀Go C fp s H,PTs (zS X sc N' Go C fp s H) Zf tt)(hs:∀x,Oy iter X.env x=pure x)(I:Inv X Go σ H s)(h:wi σ H λJ H1=>∃W:Nat->Nat->St->α->Hp->Prop,(∃m,W 0 m (cn ix σ) a0 H1)/\∀i m τ ys H2,W i m τ ys H2->len ys<sizeLine /\
   ((J.stop i H2 ∧ ∀ D, H2 D = none → D ≠ sysModules → Q (.ref D) (upd H2 D (ho ys))) ∨
    (J.go i H2 ∧ ∀ x H3, J.U2 i H2 x H3 → g x τ H3 fun ai H4 => tt ai H4 fun ok H5 => if ok = true then tm (fun zs H6 => ∃ m', m' < m ∧ W (i + 1) m' ai zs H6) ys ai H5 else ∃ m', m' < m ∧ W (i + 1) m' ai ys H5)))(kk:∀(C D:Addr)(oC:Obj)(H':Hp)(s5:p8)(m5:Str->Option Value),Inv X (Go++[(C,oC)]) σ H' s5->(∀{F:Heap},F.get? C=some oC->F.Ns C m5)->(∀{b5:St}{a6:Hp}{s':p8}{h':Heap},Inv X Go b5 a6 s'->a6 C=none->QC C s'.heap h'->Inv X Go b5 a6 { s' with heap:=h' })->Q (.ref D) H'->compPost (Nf X.prog X.w) X.A X.xe use R (.ref D) C (.ok .next) s5):
  Nb (Nf X.prog X.w) X.A (comprehension e sc X.env (firstIterPos [⟨tg,iter,Zf,0⟩] pos) (newObj (.type T) dt none) (firstAsync [⟨tg,iter,Zf,0⟩]) (firstIter [⟨tg,iter,Zf,0⟩] X.env) use) R X.xe s:=by
 have a7:Rr sc X.env=pure (ck X.env.cells sc.names []):=Lb λy hy hk=>I.ok.has y.1 (.inl (L.free y hy hk).1);refine wpAny_comprehension_free (use:=use) c4 hs a7 L.kind L.names (thn (hi Go s σ H _ I h) λv s1 h1=>thn h1 λdk s2 h2=>?_);obtain ⟨it,fp,tn,J,H2,e,Z,T',bP,f2,W,⟨m0,w0⟩,bZ⟩:=h2;subst e;refine N5 (ED ?_) hsz;dsimp only;generalize a8:s2.heap.push { cls:=.type T,dict:=none,data:=dt }=G2;have hC:G2.objs.size=s2.heap.objs.size+1:=by rw [<- a8,OQ]
 have b6:s2.heap.objs.size≠G2.objs.size:=by rw [hC];exact NN (QO _)
 have XQ:s2.heap.objs.size<=G2.objs.size:=by rw [hC];exact RE _
 have below:∀b,b<s2.heap.objs.size->b≠G2.objs.size/\b≠s2.heap.objs.size:=λb hb=>⟨by rw [hC];exact NN (Qj hb),NN hb⟩;have YH:∀b o,s2.heap.get? b=some o->(Rf (G2.push { cls:=.type "dict",data:=.dict #[] }) sc.names).get? b=some o:=λb o e=>pushCells_keeps _ _ _ _ (we _ (a8 ▸ we _ e));have S:(Rf (G2.push { cls:=.type "dict",data:=.dict #[] }) sc.names).Ns G2.objs.size λ_=>none:=(Heap.Ns.new G2 (.type "dict")).keeps (pushCells_keeps _ _);have own:j7 X.env.cells sc G2.objs.size (Rf (G2.push { cls:=.type "dict",data:=.dict #[] }) sc.names):=.mk' (OQ ..);have X4:(Rf (G2.push { cls:=.type "dict",data:=.dict #[] }) sc.names).get? s2.heap.objs.size=some { cls:=.type T,dict:=none,data:=dt }:=pushCells_keeps _ _ _ _ (we _ (a8 ▸ Nd _ Ze));generalize Rf (G2.push { cls:=.type "dict",data:=.dict #[] }) sc.names=h₁ at YH S own X4 ⊢;have fl:∀b∈fp,b<s2.heap.objs.size:=λb hb=>by
  obtain ⟨o,e,_⟩:=T'.obj 0 _ bP b hb;exact Nj e
 have ab:s2.heap.objs.size∉fp:=λz=>ND _ (fl _ z);generalize O:s2.heap.objs.size=D at *
 generalize df:G2.objs.size=C at *
 have b0:tn 0 h₁:=T'.keep _ _ _ bP λb _ o e=>YH b o e;have I3:Inv (zS X sc N' Go C fp s2 H2) [] (cn ix σ) H2 { s2 with heap:=h₁ }:=Lc (tk:=s2.toks) Z L f2 (λb hb=>by rw [O];exact fl b hb) (by rw [O];exact XQ) S YH own;have D0:H2 D=none:=Z.hok.fresh (RV O);have fD:∀{H':Hp},H' D=none->dJ (zS X sc N' Go C fp s2 H2) [] H' D:=λ{H'} hn=>by
  refine ⟨hn,b6,λz=>?_,.inr (RV O),λx c hx z=>?_,λp F z=>?_⟩
  .obtain ⟨_,o,ho,_⟩:=Z.stack.mem (show D∈frs X.stack from z);exact absurd (Nj ho) (by rw [O];exact ND _)
  .rcases own.Vi x c hx with a|a
   .have:=a.1;rw [z] at this;exact absurd this (PX.mpr XQ)
   .obtain ⟨v,q⟩:=Z.cell x c a.1;have:=q.lt;rw [z,O] at this;exact ND _ this
  .have cP:p∈X.pn++Go:=by
    have:p∈(X.pn++Go)++[]:=F;simpa using this
   have:=Nj (Z.pin p cP).1;rw [z,O] at this;exact ND _ this
 have fF:∀{H':Hp},(∀b∈fp,H' b=none)->∀b∈fp,dJ (zS X sc N' Go C fp s2 H2) [] H' b:=λ{H'} hn b hb=>by
  obtain ⟨_,g1,g2,g3,g4,g5⟩:=f2 b hb;refine ⟨hn b hb,(below b (fl b hb)).1,λz=>?_,.inl hb,λx c hx=>?_,λp F=>g5 p ?_⟩
  .rcases MX.mp (Z.SV b z) with e|e
   .exact g1 e
   .exact g2 e
  .rcases own.Vi x c hx with a|a
   .have:=a.1;have:=fl b hb;exact λz=>by subst z;lia
   .exact g4 x c a.1
  .have:p∈(X.pn++Go)++[]:=F;simpa using this
 have aT:∀s₃:p8,s₃={ s2 with heap:=h₁ } ->
   Qp (Nf X.prog X.w) X.A (.compLoop e 0 (.ref it) (.ref D) (compEnvC sc (fc X.env.cells sc C) C X.env))
    (compPost (Nf X.prog X.w) X.A X.xe use R (.ref D) C) s₃:=by
  rintro s₃ rfl;refine C3 (cv _ _ _) (λn s'=>∃i τ ys H',Inv (zS X sc N' Go C fp s2 H2) [] τ H' s'/\tn i s'.heap/\(∀b∈fp,H' b=none)/\H' D=none/\(∃ob,At ys ob/\s'.heap.get? D=some ob)/\W i n τ ys H')
   ?_ m0 ⟨0,_,a0,H2,I3,b0,λb hb=>(f2 b hb).1,D0,⟨_,h0,X4⟩,w0⟩
  rintro n s4 ⟨i,τ,ys,H4,I4,bp,bc,G,⟨ob,av,dg⟩,w4⟩;obtain ⟨Z6,step⟩:=bZ i n τ ys H4 w4;rcases step with ⟨stop,b8⟩|⟨go,step⟩
  .refine thn (T'.done (zS X sc N' Go C fp s2 H2) rfl rfl rfl hc i [(D,ob)] s4 τ H4 (λ_ _=>False) (I4.L1 λp F=>?_) (λb hb=>?_) bp stop) λr s5=>x2e λhr I5=>?_
   .have e:p=(D,ob):=by simpa using F
    subst e;obtain ⟨g0,g1,g2,_⟩:=fD G;exact ⟨dg,g0,g1,g2,a9 av⟩
   .obtain ⟨g0,g1,g2,g3,g4,g5⟩:=fF bc b hb;refine ⟨g0,g1,g2,g3,g4,λp F=>?_⟩;rcases NF.mp F with z|z
    .exact g5 p (N0 _ z)
    .have e:p=(D,ob):=by simpa using z
     subst e;exact λq=>ab (by have q':D=b:=q;rw [q'];exact hb)
   .subst hr;have b9:=(I5.pin (D,_) (Nk _ (M0.mpr rfl))).1;obtain ⟨m5,cC,_⟩:=id I5.loc;have ZN:∀b o,s2.heap.get? b=some o->b≠C/\b≠D:=λb o e=>by
     have:=Nj e;rw [O] at this;exact below b this
    have bq:D≠sysModules:=by have h:M6<s2.heap.objs.size:=(Z.mod.glob.keeps Z.bk).lt;rw [O] at h;exact Pe (Nat.lt_trans (by decide) h)
    have U:=I5.base;have IX:Inv X Go σ (upd H4 D (ho ys)) s5:=by
     refine Z.Ve (s':=s5) (ch:=fp) I5.os ⟨λb o e n hb hx=>U.keep b o e n hb hx,λb o e n hb hx=>U.slot b o e n hb hx,λb o e n hx=>?_,λb o e hx=>U.there b o e hx,λb xs e=>?_,λb o u e=>?_,λb ps e=>?_⟩ ?_ I5.bare (λb hb=>?_)
     .rw [zd (ZN b o e).2];exact U.free b o e n hx
     .have q:=U.tups b xs e;rw [zd (zC q G)];exact q
     .have q:=U.frzs b o u e;rw [zd (zC q G)];exact q
     .obtain ⟨more,q⟩:=U.tbls b ps e;exact ⟨more,by rw [zd (zC q G)];exact q⟩
     .exact I5.hok.add G (bt av Z6 bq b9)
     .obtain ⟨_,g1,g2,g3,g4,g5⟩:=f2 b hb;exact ⟨g3,g1,g4,g5⟩
    obtain ⟨oC,cp,c3,gC,rC⟩:=id cC;have a5:∀v,oC.data≠.cell v:=λv z=>by rw [rC.1] at z;cases z
    have bB:C≠D:=Ni b6;have HC:upd H4 D (ho ys) C=none:=by rw [zd bB];exact I5.free
    have a3:C≠X.env.locals:=λz=>by
     have:=Z.lt;rw [<- z,O] at this;exact absurd (Nn this XQ) (ND _)
    have cc:C∉X.fs:=Z.ae (by rw [O];exact XQ);have c0:=IX.L1 (pins':=Go++[(C,oC)]) λp F=>by
     rcases NF.mp F with z|z
     .exact IX.pin p (Nk _ z)
     .rw [M0.mp z];exact ⟨gC,HC,a3,cc,a5⟩
    refine kk C D oC _ s5 m5 c0 (λe=>⟨oC,cp,c3,e,rC⟩) (λ{dm H6 s6 h'} I7 ct c9=>I7.turned (t':=s6.toks) (it:=C) (λb o hb e=>(c9.2 b hb).trans e) ct a3 (.inr (Nx Z.sz (by rw [O];exact XQ))) (λx c hx z=>?_) (λp F z=>?_)) (b8 D G bq)
    .obtain ⟨v,q⟩:=Z.cell x c hx;have:=q.lt;rw [z,O] at this;exact absurd (Nn this XQ) (ND _)
    .have:=Nj (Z.pin p F).1;rw [z,O] at this;exact absurd (Nn this XQ) (ND _)
  .refine thn (T'.item (zS X sc N' Go C fp s2 H2) rfl rfl rfl hc i [(D,ob)] s4 τ H4 (λ_ _=>False) (I4.L1 λp F=>?_) (λb hb=>?_) bp go) λr s5=>x3e λu hr h5=>?_
   .have e:p=(D,ob):=by simpa using F
    subst e;obtain ⟨g0,g1,g2,_⟩:=fD G;exact ⟨dg,g0,g1,g2,a9 av⟩
   .obtain ⟨g0,g1,g2,g3,g4,g5⟩:=fF bc b hb;refine ⟨g0,g1,g2,g3,g4,λp F=>?_⟩;rcases NF.mp F with z|z
    .exact g5 p (N0 _ z)
    .have e:p=(D,ob):=by simpa using z
     subst e;exact λq=>ab (by have q':D=b:=q;rw [q'];exact hb)
   .subst hr;refine thn h5 λ_ s6=>x5e λx H6 I6 r6 Yw=>?_;obtain ⟨y6,a4,dd⟩:=Yw;obtain ⟨ak,c5,_⟩:=I6.pin (D,_) (Nk _ (M0.mpr rfl));have bx:H6 D=none:=c5;have bA:∀b∈D::fp,dJ (zS X sc N' Go C fp s2 H2) [] H6 b:=λb hb=>by
     rcases MX.mp hb with z|z
     .subst z;exact fD bx
     .exact fF dd b z
    have bL:∀b∈D::fp,∃o,s6.heap.get? b=some o/\∀v,o.data≠.cell v:=λb hb=>by
     rcases MX.mp hb with z|z
     .subst z;exact ⟨_,ak,a9 av⟩
     .exact T'.obj _ _ a4 b z
    have da:=(I6.Sw (Go:=[])).pinned bA bL;refine thn (hg Go C fp s2 H2 _ s6 τ H6 x u _ da r6 (step x H6 y6)) λ_ s7=>x4e λag H7 I7 q7=>?_;refine thn (ht Go C fp s2 H2 _ s7 ag H7 _ I7 q7) λok s8=>x3e λH8 I8 q8=>?_;have back:∀{s9:p8}{H9:Hp},Inv (zS X sc N' Go C fp s2 H2) ([]++iE (D::fp) s6.heap) ag H9 s9->s9.heap.get? D=some ob/\H9 D=none/\tn (i+1) s9.heap/\∀b∈fp,H9 b=none:=λ{s9 H9} I9=>by
     have pin:∀b o,b∈D::fp->s6.heap.get? b=some o->s9.heap.get? b=some o/\H9 b=none:=λb o hb e=>by
      have q:=I9.pin (b,o) (Nk _ (Nk _ (lA hb e)));exact ⟨q.1,q.2.1⟩
     refine ⟨(pin D _ Nm ak).1,(pin D _ Nm ak).2,T'.keep _ _ _ a4 λb hb o e=>(pin b o (M7 _ hb) e).1,λb hb=>?_⟩;obtain ⟨o,e,_⟩:=T'.obj _ _ a4 b hb;exact (pin b o (M7 _ hb) e).2
    cases ok with
    | false =>
     obtain ⟨b1,b2,b3,b4⟩:=back I8;simp only [Pd,if_false] at q8 ⊢;obtain ⟨m',hm,w'⟩:=q8;exact ⟨m',hm,i+1,ag,ys,H8,I8.Sw,b3,b4,b2,⟨ob,av,b1⟩,w'⟩
    | true =>
     simp only [if_true] at q8 ⊢;refine thn (cD Go C fp s2 H2 _ s8 ag H8 ys ob D _ I8 q8 av Z6 (Nk _ (lA Nm ak))) λ_ s'=>?_;rintro ⟨s9,zs,H9,aj,di,tk,rfl,⟨m',hm,w'⟩,I9,c2,c6,sb⟩;obtain ⟨b1,b2,b3,b4⟩:=back I9;obtain ⟨_,g1,_,g3,g4,g5⟩:=fD b2;exact ⟨m',hm,i+1,ag,zs,H9,(I9.Sw (Go:=[])).turned (t':=tk) (λb o hb e=>(sb.2 b hb).trans e) b2 g1 g3 g4 g5,T'.keep _ _ _ b3 λb hb o e=>(sb.2 b λq=>ab (by rw [<- q];exact hb)).trans e,b4,b2,⟨aj,c2,c6⟩,w'⟩
 exact hst (aT _ rfl) (T'.self _ 0 _ _ _ b0 (aT _ rfl))
theorem sO(hc:c=true->X.calm=true)(L:aB X sc N' ix)(hi:PIc c X tg iter wi)(hg:∀Go C fp s H,PG (zS X sc N' Go C fp s H) tg g)(ht:∀Go C fp s H,PTs (zS X sc N' Go C fp s H) G tt)(he:∀Go C fp s H,PE (zS X sc N' Go C fp s H) X3 te)(hs:∀x,Oy iter X.env x=pure x)(I:Inv X Go σ H s)(h:tLC ix wi g tt te σ H Q)(kk:∀(C D:Addr)(oC:Obj)(H':Hp)(s5:p8)(m5:Str->Option Value),Inv X (Go++[(C,oC)]) σ H' s5->(∀{W:Heap},W.get? C=some oC->W.Ns C m5)->(∀{O:St}{F:Hp}{s':p8}{h':Heap},Inv X Go O F s'->F C=none->QC C s'.heap h'->Inv X Go O F { s' with heap:=h' })->Q (.ref D) H'->compPost (Nf X.prog X.w) X.A X.xe use R (.ref D) C (.ok .next) s5):
  Nb (Nf X.prog X.w) X.A (comprehension (.ListComp X3 [⟨tg,iter,G,0⟩] sc pos) sc X.env (firstIterPos [⟨tg,iter,G,0⟩] pos) (newList []) (firstAsync [⟨tg,iter,G,0⟩]) (firstIter [⟨tg,iter,G,0⟩] X.env) use) R X.xe s:=by
 refine tN (e:=.ListComp X3 [⟨tg,iter,G,0⟩] sc pos) (em:=λD env=>do let _<-call (.builtin "list.append") [.ref D,<- NT X3 env]) (T:="list") (dt:=.seq ([]:List Value).toArray) length HO.lst [] (λys o=>∃its k,zp ys its/\o={ cls:=.type "list",data:=.seq its.toArray k }) (λK ys τ H=>te τ H λy H'=>K (ys++[y]) H') rfl (by size_fits) (λ_ _ _=>⟨λ_=>rfl,rfl⟩) codeAny_compStart_list ⟨[],0,.nil,rfl⟩ rfl ?_ ?_ ?_ hc L hi hg ht hs I h kk
 .rintro ys o ⟨its,k,_,rfl⟩ v z;cases z
 .rintro ys o H' h D ⟨its,k,S,rfl⟩ hl _ e;exact ⟨OH hl,its,k,S,e⟩
 .rintro Go C fp s H pins' s8 τ H8 ys ob D K I8 q8 ⟨its,k,S,rfl⟩ hl hD;refine fv (thn (he Go C fp s H _ s8 τ H8 _ I8 q8) λy s9=>x5e λyv H9 Z r9 w'=>?_);have el:its.toArray.size<=sizeLine:=by
   have:=S.length;simp only [Nc];lia
  refine fv (append_at (hsz:=el) (Z.pin _ (Nk _ hD)).1 λU sb J=>MZ ⟨s9,_,H9,_,U,s9.toks,rfl,w',Z,⟨its++[y],k+1,S.append (.cons r9 .nil),rfl⟩,?_,sb⟩);rw [J];simp
theorem dE(hc:c=true->X.calm=true)(L:aB X sc N' ix)(hi:W (PIc c X tg iter wi))(hg:∀Go C fp s H,W (PG (zS X sc N' Go C fp s H) tg g))(S:∀Go C fp s H,W (PTs (zS X sc N' Go C fp s H) Zf tt))(he:∀Go C fp s H,W (PE (zS X sc N' Go C fp s H) X3 te))(hs:∀x,Oy iter X.env x=pure x:=by intro _;rfl):W (PE X (.ListComp X3 [⟨tg,iter,Zf,0⟩] sc pos) (tLC ix wi g tt te)):=by
 refine ⟨?_⟩;have hi:=hi.h;have hg:=λG z J O F=>(hg G z J O F).h;have S:=λG z J O F=>(S G z J O F).h;have he:=λG z J O F=>(he G z J O F).h;intro Go s σ H Q I h;rw [eval_ListComp];refine sO (use:=none) hc L hi hg S he hs I h λC D oC H' s5 m5 IX ns tu q=>?_;obtain ⟨p6,Z,_⟩:=IX.pin (C,oC) (Nk _ (Nk _ (M0.mpr rfl)));exact ⟨m5,ns p6,λh' U=>⟨.ref D,H',tu (IX.L1 λp hp=>IX.pin p (Nk _ (N0 _ hp))) Z U,rfl,q⟩⟩
structure br(B:Heap)(l:List Env)(e:Addr)(cls fl:Value)(h:Heap):Prop where
 stays:B.StaysIn h
 new:B.get? e=none
 frames:h.FunFrames B l
 obj:∃oe vs,h.get? e=some oe/\oe.cls=cls/\oe.dict=none/\oe.data = .fields vs/\2<vs.size/\vs[2]?=some .none /\
  (vs[1]?=some .none\/∃T oT ts,vs[1]?=some (.ref T)/\B.get? T=none/\T≠e/\h.get? T=some oT/\oT.data = .fields ts/\ts[3]?=some fl)
section
variable {M:Model}{A:Np}{E:Value->p8->Prop}{s:p8}{B:Heap}{env:Env}{outer l:List Env}{L e:Addr}{cls fl:Value}
theorem rM(o:Obj)(f:Array Value->Array Value):(o.mapFields f).dict=o.dict:=by
 obtain ⟨c,d,dt,sl⟩:=o;cases dt<;>rfl
theorem uV(Z:A.frames=some (env::outer))(hf:env.frame=some L)(st:B.StaysIn s.heap)(hn:B.get? e=none)(hl:s.heap.FunFrames B (env::outer))(he:s.heap.get? e=some oe)(hc:oe.cls=cls)(X9:oe.dict=none)(hd:oe.data = .fields vs)(hz:2<vs.size)(h2:vs[2]?=some .none)(k:∀h',br B (env::outer) e cls (N4 L) h'->s.heap.UpToSlots h'->Q () { s with heap:=h' }):
  Nb M A (do let a<-frameOf env;let pl<-entryPlaceOf L J;let b<-EntryCells.newEntry head a .none (N4 L) .none pl;setField (.ref e) 1 b) Q E s:=by
 have G:e∉(env::outer).filterMap (·.frame):=λz=>by
  obtain ⟨_,o,ho,F⟩:=hl.mem z;rw [he] at ho;cases ho;exact F vs hd
 refine fv (wpAny_frameOf_fun Z hl hf λg only=>?_);obtain ⟨_,same,slots⟩:=only;refine fv (wpAny_entryPlaceOf λpl Yu=>?_);have key:∀(tb:Obj)(ts:Array Value),tb.data = .fields ts->ts[3]?=some (N4 L)->Nb M A (setField (.ref e) 1 (.ref g.objs.size)) Q E { s with heap:=g.push tb }:=by
  intro tb ts td t3;have S:g.get? e=some oe:=(same e G).trans he;have W:(g.push tb).get? e=some oe:=we _ S;have hT:(g.push tb).get? g.objs.size=some tb:=Nd _ (by rw [On td]);have U:g.objs.size≠e:=Pe (Nj S);have fresh:B.get? g.objs.size=none:=by
   cases q:B.get? g.objs.size with
   | none=>rfl
   | some o =>
    obtain ⟨sl,z⟩:=slots _ o (st _ o q);exact absurd (Nj z) (ND _)
  have up:∀b o,b≠e->g.get? b=some o->((g.push tb).update e (RU (·.setIfInBounds 1 (.ref g.objs.size)))).get? b=some o:=λb o hb q =>
   (NC _ _ (Ni hb)).trans (we _ q)
  have O:∀b o,s.heap.get? b=some o->(∀ws,o.data≠.fields ws)->b≠e:=λb o q F z=>by
   rw [z,he] at q;cases q;exact F vs hd
  have dd:=Pg hd (·.setIfInBounds 1 (M3 g.objs.size));refine Oo W hd (by lia) (k _ ⟨λb o q=>?_,hn,?_,?_⟩ λb o q F=>?_)
  .refine up b o (λz=>by rw [z,hn] at q;cases q) ((same b λz=>?_).trans (st b o q));rw [(hl.mem z).1] at q;cases q
  .refine hl.of_keeps λb o q F=>?_;obtain ⟨sl,z⟩:=slots b o q;exact ⟨_,up b _ (O b o q F) z,rfl⟩
  .refine ⟨_,_,Om _ W (On dd),(QE _ _).trans hc,(rM _ _).trans X9,dd,by simpa using hz,by rw [QG (by decide)];exact h2,.inr ⟨g.objs.size,tb,ts,?_,fresh,U,?_,td,t3⟩⟩
   .rw [NU (by lia)]
   .rw [NC _ _ (Ni U)];exact hT
  .obtain ⟨sl,z⟩:=slots b o q;exact ⟨sl,up b _ (O b o q F) z⟩
 unfold EntryCells.newEntry newFields;refine fv (N5 ?_ (Yu.sizeOk5 _ _ _ _ _));exact key _ _ rfl (by simp)
theorem tX(W:A.frames=some (env::outer))(hf:env.frame=some L)(x:br B (env::outer) e cls fl s.heap)(k:∀h',br B (env::outer) e cls (N4 L) h'->s.heap.UpToSlots h'->Q () { s with heap:=h' }):Nb M A (RS (.ref e) env) Q E s:=by
 obtain ⟨st,hn,hl,oe,vs,he,hc,O,hd,S,h2,h1⟩:=x;unfold RS;simp only [hf];rcases h1 with h1|⟨T,oT,ts,h1,nT,Te,J,dT,U⟩
 .refine fv (Nv he hd h1 ?_);rw [if_neg (show ¬ ((NB != NB)=true) by decide)];exact uV W hf st hn hl he hc O hd S h2 k
 .refine fv (Nv he hd h1 ?_);rw [if_pos (show (M3 T != NB)=true by simp)];refine fv (Nv J dT U ?_);by_cases G:fl=N4 L
  .subst G;rw [if_pos (show (N4 L==N4 L)=true by simp)];exact MZ (k s.heap ⟨st,hn,hl,oe,vs,he,hc,O,hd,S,h2,.inr ⟨T,oT,ts,h1,nT,Te,J,dT,U⟩⟩ (UpToSlots.refl _))
  .rw [if_neg (show ¬ ((fl==N4 L)=true) by simpa using G)];refine fv (Oo J dT (Oh.mp U).1 ?_);have oth:∀b,b≠T->(s.heap.update T (RU (·.setIfInBounds 3 NB))).get? b=s.heap.get? b:=λb hb=>NC _ _ (Ni hb);have Z:∀b o,s.heap.get? b=some o->(∀ws,o.data≠.fields ws)->b≠T:=λb o q F z=>by
    rw [z,J] at q;cases q;exact F ts dT
   refine uV (B:=B) (cls:=cls) W hf (λb o q=>?_) hn (hl.of_keeps λb o q F=>⟨o,(oth b (Z b o q F)).trans q,rfl⟩) ((oth e (Ni Te)).trans he) hc O hd S h2 λh' y up=>k h' y λb o q F=>up b o ((oth b (Z b o q F)).trans q) F;exact (oth b λz=>by rw [z,nT] at q;cases q).trans (st b o q)
theorem qV(x:br B l e cls fl s.heap)(k:∀h',br B l e cls .none h'->s.heap.UpToSlots h'->Q () { s with heap:=h' }):Nb M A (setFlight (.ref e) none) Q E s:=by
 obtain ⟨st,hn,hl,oe,vs,he,hc,S,hd,U,h2,h1⟩:=x;unfold setFlight;rcases h1 with h1|⟨T,oT,ts,h1,Z,W,J,dT,t3⟩
 .refine fv (Nv he hd h1 ?_);rw [if_neg (show ¬ ((NB != NB)=true) by decide)];exact MZ (k s.heap ⟨st,hn,hl,oe,vs,he,hc,S,hd,U,h2,.inl h1⟩ (UpToSlots.refl _))
 .refine fv (Nv he hd h1 ?_);rw [if_pos (show (M3 T != NB)=true by simp)];have F:3<ts.size:=(Oh.mp t3).1;have dd:=Pg dT (·.setIfInBounds 3 NB);have oth:∀b,b≠T->(s.heap.update T (RU (·.setIfInBounds 3 NB))).get? b=s.heap.get? b:=λb hb=>NC _ _ (Ni hb);have O:∀b o,s.heap.get? b=some o->(∀ws,o.data≠.fields ws)->b≠T:=λb o q G z=>by
   rw [z,J] at q;cases q;exact G ts dT
  refine Oo J dT F (k _ ⟨λb o q=>(oth b λz=>by rw [z,Z] at q;cases q).trans (st b o q),hn,hl.of_keeps λb o q G=>⟨o,(oth b (O b o q G)).trans q,rfl⟩,oe,vs,(oth e (Ni W)).trans he,hc,S,hd,U,h2,
   .inr ⟨T,_,_,h1,Z,W,Om _ J (On dd),dd,?_⟩⟩ λb o q G=>⟨o.slots,(oth b (O b o q G)).trans q⟩)
  rw [NU F]
theorem Cf(F:A.frames=some (env::outer))(hf:env.frame=some L)(x:br B (env::outer) e cls fl s.heap)(k:∀h',br B outer e cls .none h'->s.heap.UpToSlots h'->Q () { s with heap:=h' }):Nb M A (leaving env (.ref e)) Q E s:=by
 unfold leaving;refine fv (tX F hf x λh1 y u1=>qV (s:={ s with heap:=h1 }) y λh2 z u2=>?_);obtain ⟨a,b,⟨_,_,c⟩,d⟩:=z;exact k h2 ⟨a,b,c,d⟩ (u1.trans u2)
end
def CXW(P:M8)(w:Nl):CXT:=λouter H s E e s'=>∃(ea C:Addr)(B:Heap)(H':Hp)(z:p8),e = .ref ea/\br B outer ea (.ref C) .none s'.heap/\Un (frs outer) [] H H' s.heap z.heap/\HOk P w H' z.heap /\
 z.os=s.os/\PL z.gens/\s'.os=s.os/\PL s'.gens/\(∀b o,z.heap.get? b=some o->b∉frs outer->B.get? b=some o)/\z.heap.UpToSlots s'.heap/\E (.ref C) none H'
def bK(X:Cx)(Ex:Addr->St->Hp->Prop):Prop:=∀(Go:List (Addr×Obj))(σ:St)(H:Hp)(z:p8)(ea C:Addr)(B:Heap)(fl:Value)(s':p8),Inv X Go σ H z->br B X.stack ea (.ref C) fl s'.heap->s'.os=z.os->PL s'.gens ->
 (∀b o,z.heap.get? b=some o->b∉frs X.stack->B.get? b=some o)->z.heap.UpToSlots s'.heap->Ex C σ H->X.xe (.ref ea) s'
theorem jX:bK X (λ_ _ _=>False):=λ_ _ _ _ _ _ _ _ _ _ _ _ _ _ _ h=>h.elim
theorem fV{K:KE}:
  bK (cq (CXW P w) cm P w K mg base N qual scope f cd A outer s H E) (λC _ H'=>E (.ref C) none H'):=by
 intro Go σ H' G ea C B fl s' I x os bare O up q;have ff:A.frames=some outer:=by
  have:=I.ok.frames;cases h:A.frames with
  | none =>
   have z:(A.deeper (Pf qual scope s.heap.objs.size f cd)).frames=none:=by
    first|(show (A.frames.map _)=none;rw [h];rfl)|simp [Np.deeper,Np.under,h]
   rw [show (cq (CXW P w) cm P w K mg base N qual scope f cd A outer s H E).A=A.deeper (Pf qual scope s.heap.objs.size f cd) from rfl,z] at this;cases this
  | some l =>
   have z:=Np.frames_deeper (env:=Pf qual scope s.heap.objs.size f cd) h;rw [show (cq (CXW P w) cm P w K mg base N qual scope f cd A outer s H E).A=A.deeper (Pf qual scope s.heap.objs.size f cd) from rfl,z] at this;have:=NG.inj this;exact congrArg some (List.cons.inj this).2
 show Nb (Nf P w) (A.deeper (Pf qual scope s.heap.objs.size f cd)) (leaving (Pf qual scope s.heap.objs.size f cd) (.ref ea)) _ _ s';refine Cf (L:=s.heap.objs.size) (Np.frames_deeper ff) rfl x λh' y u=>?_;have F:∀b o,b≠s.heap.objs.size->G.heap.get? b=some o->(hideAll G.heap [s.heap.objs.size]).get? b=some o:=λb o hb e=>hideAll_get _ e (by simpa using hb);have U:=I.base;have lt:∀b o,s.heap.get? b=some o->b≠s.heap.objs.size:=λb o e=>NN (Nj e);have nl:∀b:Addr,b∉(cq (CXW P w) cm P w K mg base N qual scope f cd A outer s H E).ex:=λb z=>absurd (show b∈([]:List Addr) from z) (by simp);refine ⟨ea,C,B,H',{ G with heap:=hideAll G.heap [s.heap.objs.size] },rfl,y,⟨λb o e n hb _=>F b o (lt b o e) (U.keep b o e n hb (nl b)),λb o e n hb _=>?_,λb o e n _=>U.free b o e n (nl b),λb o e _=>?_,U.tups,U.frzs,U.tbls⟩,
  I.hok.but (C:=s.heap.objs.size) I.free F,I.os,I.bare,os.trans I.os,bare,λb o e hb=>?_,λb o e nf=>?_,q⟩
 .obtain ⟨sl,z⟩:=U.slot b o e n hb (nl b);exact ⟨sl,F b _ (lt b o e) z⟩
 .obtain ⟨o',z⟩:=U.there b o e (nl b);exact ⟨o',F b _ (lt b o e) z⟩
 .have S:=R5 _ e;refine O b o S λz=>?_;have J:b∈s.heap.objs.size::frs outer:=z;rcases MX.mp J with r|r
  .rw [r] at e;have Z:(hideAll G.heap [s.heap.objs.size]).get? s.heap.objs.size=none:=PySem.W.hideAll_none _ (by simp);exact absurd (Z.symm.trans e) (by simp)
  .exact hb r
 .exact (up.trans u) b o (R5 _ e) nf
def XE(Ex:Addr->St->Hp->Prop)(σ:St):XK:=λc _ H'=>∃C,c = .ref C/\Ex C σ H'
def kI(sp:Sp)(Zq:List V)(Ex:Addr->St->Hp->Prop)(t:TA):TE:=λσ H Q=>t σ H λvs H1=>sp (vs++Zq) H1 Q (XE Ex σ)
def eX(C:Addr)(m:Str)(sp:Sp)(Zq:List V)(Ex:Addr->St->Hp->Prop)(ta:TE)(t:TA):TE:=λσ H Q=>ta σ H λx H1=>∃a dx fs,x = .ref a/\H1 a=some (.ins C dx fs)/\fs.lookup m=none /\
 t σ H1 λvs H2=>sp (x::(vs++Zq)) H2 Q (XE Ex σ)
section
variable {X:Cx}{cm:Bool}{k:Nat}{f C:Addr}{fd:M9}{ps:List Str}{sp:Sp}{Zq:List V}{ds:List Value}{Ex:Addr->St->Hp->Prop}{x m:Str}{p pos Z3:Pos}{e o:Nr}{es:List Nr}{ta:TE}{t:TA}
theorem bK.of(T:bK X Ex)(I:Inv X Go σ H s)(h:CXW X.prog X.w X.stack H s (XE Ex σ) v s'):X.xe v s':=by
 obtain ⟨ea,C,B,H',J,rfl,y,un,hok,os,bare,G,F,S,up,U,O,q⟩:=h;cases O;exact T Go σ H' J ea C B .none s' (I.Ve os un hok bare λb z=>absurd z (by simp)) y (G.trans os.symm) F S up q
theorem mV(T:bK X Ex)(F:zm X.prog X.w X.K X.mg X.base (CXW X.prog X.w) cm k f fd ps sp)(hr:zG cm k X.A)(hb:bo X.K fd ps ds)(hd:zp Zq ds)(I:Inv X Go σ H s)(r:zp vs us)(h:sp (vs++Zq) H Q (XE Ex σ)):Nb (Nf X.prog X.w) X.A (call (.ref f) us) (EP X Go σ Q) X.xe s:=by
 have G:zp (vs++Zq) (us++ds):=r.append hd;have hl:(us++ds).length=ps.length:=by rw [<- G.length];exact F.len _ _ _ _ h
 refine R3 (Qg (F.run X.A X.stack s H ⟨us,[]⟩ (us++ds) (vs++Zq) Q (XE Ex σ) hr I.VD (hb s us I.SD hl) G h) λr s' z=>?_);cases r with
 | error v=>exact T.of I z
 | ok fl =>
  cases fl with
  | ret u=>exact I.after z
  | next=>exact False.elim z
  | brk=>exact False.elim z
  | cont=>exact False.elim z
theorem J5(T:bK X Ex)(F:zm X.prog X.w X.K X.mg X.base (CXW X.prog X.w) cm k f fd ps sp)(hr:zG cm k X.A)(hg:Gl X x)(hm:X.mg x=some (.ref f))(G:QL X.K (.ref f)=true)(hb:bo X.K fd ps ds)(hd:zp Zq ds)
  (ha:PA X (e::es) t) (J:(x==("__debug__":Str))=false:=by decide) (he:Nq (e::es) X.env=(false,NT e X.env)::Nq es X.env:=by rfl) (O:(OT pos (Nq es X.env)).any (·.1)=false:=by rfl) :
  PE X (.Call (.Name x p) (e::es) [] pos) (kI sp Zq Ex t):=by
 intro Go s σ H Q I h;refine Oe (gs I hg hm ?_ J);refine Sb (h₀:=X.base) I.ok.mod.Vv G (thn (ha pos Go s σ H _ I h) λus s1=>x5e λvs H1 z r q=>⟨z.SD,?_⟩) he O;exact mV T F hr hb hd z r q
theorem LN(he:PE X o ta)(c:Cls X.K C)(hm:gn X.K C m f)(T:bK X Ex)(F:zm X.prog X.w X.K X.mg X.base (CXW X.prog X.w) cm k f fd ps sp)(hr:zG cm k X.A)(hb:bo X.K fd ps ds)(hd:zp Zq ds)(ha:PA X (e::es) t)(hst:Nq (e::es) X.env=(false,NT e X.env)::Nq es X.env:=by rfl)(U:(OT pos (Nq es X.env)).any (·.1)=false:=by rfl)(J:NT (.Call (.Attribute o m Z3) (e::es) [] pos) X.env=(do
   let ov<-NT o X.env
   P0 Z3.atName
   let (f,first)<-Pr [ov] (Qf ov m pl)
   PU pos f first (OT pos (Nq (e::es) X.env)) (QX pos (Pl [] X.env))):=by rfl):
  PE X (.Call (.Attribute o m Z3) (e::es) [] pos) (eX C m sp Zq Ex ta t):=by
 intro Go s σ H Q I h;refine RJ (pl:=pl) (thn (he Go s σ H _ I h) λu s1=>x5e λx H1 z O S=>?_) J;obtain ⟨a,dx,fs,ex,ea,l,q⟩:=S;subst ex;obtain rfl:u=M3 a:=O;refine kg z ea c hm l ?_;refine Sb (first:=[.ref a]) (h₀:=X.base) I.ok.mod.Vv hm.kp (thn (ha pos Go s1 σ H1 _ z q) λus s2=>x5e λvs H2 G r W=>⟨G.SD,?_⟩) hst U;exact mV (us:=.ref a::us) (vs:=.ref a::vs) T F hr hb hd G (.cons rfl r) W
theorem Gz(he:PE X o ta)(c:Cls X.K C)(hm:gn X.K C m f)(T:bK X Ex)(F:zm X.prog X.w X.K X.mg X.base (CXW X.prog X.w) cm k f fd ps sp)(hr:zG cm k X.A)(hb:bo X.K fd ps ds)(hd:zp Zq ds)(J:NT (.Call (.Attribute o m Z3) [] [] pos) X.env=(do
   let ov<-NT o X.env
   P0 Z3.atName
   let (f,first)<-Pr [ov] (Qf ov m pl)
   PU pos f first (OT pos (Nq [] X.env)) (QX pos (Pl [] X.env))):=by rfl):
  PE X (.Call (.Attribute o m Z3) [] [] pos) (eX C m sp Zq Ex ta bQ):=by
 intro Go s σ H Q I h;refine RJ (pl:=pl) (thn (he Go s σ H _ I h) λu s1=>x5e λx H1 z O G=>?_) J;obtain ⟨a,dx,fs,ex,ea,l,q⟩:=G;subst ex;obtain rfl:u=M3 a:=O;refine kg z ea c hm l ?_;exact callWith_K0 (first:=[.ref a]) z.SD hm.kp (mV (us:=[.ref a]) (vs:=[.ref a]) T F hr hb hd z (.cons rfl .nil) q)
end
theorem PS.U3{st:Stmt}{t:TS}(h:PS X.U3 st t):PS X st t:=λGo s σ H D I F =>
 N7 (h Go s σ H D (I.SH _) F) (λ_ _ q=>q.xy) λ_ _ z=>False.elim z
theorem Fun.aH{K:KE}{st:Stmt}{k:Nat}(F:Fun K x qual st f fd)(S:zw N ps (zj st))(len:∀vs H Q E,sp vs H Q E->vs.length=ps.length)(J:∀(z:Value)(A:Np)(outer:List Env)(s:p8)(H:Hp)(vs:List V)(Q:VK)(E:XK),zG cm k (A.deeper (Pf qual (zj st) s.heap.objs.size f z))->sp vs H Q E ->
   ∃t,PSs (cq (CXW P w) cm P w K mg base N qual (zj st) f z A outer s H E) (cT st) t/\t { nx:=λ_ H'=>Q .non H',rt:=Q } (start N vs) H):zm P w K mg base (CXW P w) cm (k+1) f fd ps sp:=by
 obtain ⟨oc,W,kV,Ym,pm,Z,z,ct,O,rfl,lk,U⟩:=F.ex;exact mQ lk U S len λA outer s H vs Q E hr G=>J z A outer s H vs Q E hr G
def bmV:List Value:=[.type "ValueError",.type "Exception",.type "BaseException",.type "object"]
def bR(K:KE)(C:Addr):Prop:=excIn K C bmV "ValueError.__new__"=true
structure pG(h:Heap)(C:Addr)(mro:List Value):Prop where
 ex:∃bm N nm q bs hdct sn sub ab col dd k0 k1 k2 k3 k5 mN,mro = .ref C::bm/\h.get? C=some (excClassObj nm q C N bs bm hdct sn sub ab col dd k0 k1 k2 k3 k5 "ValueError.__new__")/\h.Ns N mN/\mN We=none/\OwnTail h bmV bm
theorem bR.obj{K:KE}(x:bR K C)(X:K.In h):∃cd,clsIn K C=some cd/\pG h C cd.mro:=by
 unfold bR excIn at x;split at x
 .rename_i dd cd sl look;have hc:clsIn K C=some cd:=by
   unfold clsIn;rw [look]
  refine ⟨cd,hc,?_⟩;split at x
  .rename_i C' bm k0 k1 k2 k3 n k5 em es;simp only [NJ,beq_iff_eq,Bool.not_eq_true'] at x;obtain ⟨⟨⟨⟨⟨c1,Z⟩,G⟩,c4⟩,z⟩,J⟩:=x;subst c1 Z;obtain ⟨a1,U,a3,S,a5,a6,a7,O,a9,F,ab⟩:=cd;dsimp only at em G z J ⊢;subst em G;obtain ⟨sl⟩:=sl;dsimp only at es;subst es;exact ⟨bm,S,a1,a5,U,a6,a7,O,a9,F,dd,k0,k1,k2,k3,k5,_,rfl,X _ _ look,.of_isNs (PySem.W.isNs_of_in X z),PySem.W.nsMap_none_of_in X z J,PySem.W.tail_of_in X c4⟩
  .cases x
 .cases x
def pV(C:Addr)(Ex:Addr->St->Hp->Prop)(t:TA):TS:=λ_ σ H=>t σ H λvs H1=>vs.length<=sizeLine/\Ex C σ H1
theorem Jp{t:TA}(hc:X.calm=true)(T:bK X Ex)(O:bR X.K C)(hg:Gl X x)(hm:X.mg x=some (.ref C))(ha:PA X (e::es) t)(Y5:(x==("__debug__":Str))=false:=by decide)(hst:Nq (e::es) X.env=(false,NT e X.env)::Nq es X.env:=by rfl)(Yu:(OT cpos (Nq es X.env)).any (·.1)=false:=by rfl):
  PS X (.Raise (some (.Call (.Name x np) (e::es) [] cpos)) none pos) (pV C Ex t):=by
 intro Go s σ H D I h;obtain ⟨cd,_,⟨bm,N,nm,q,bs,hdct,sn,sub,ab,col,dd,k0,k1,k2,k3,k5,mN,em,hC,hN,S,Z⟩⟩:=O.obj I.ok.mod.Vv;refine wpAny_Raise_call_subT (C:=C) (nm:=nm) (q:=q) (N:=N) (bs:=bs) (bm:=bm) (hdct:=hdct) (sn:=sn) (sub:=sub) (ab:=ab) (col:=col) (dd:=dd) (k0:=k0) (k1:=k1) (k2:=k2) (k3:=k3) (k5:=k5) (mN:=mN) PySem.F.excBase_ValueError (Z.hasType (by decide)) (I.ok.hd hc)
  (by rw [hst];show (false||(OT cpos (Nq es X.env)).any (·.1))=false;rw [Yu];rfl) S (gs I hg hm ⟨rfl,?_⟩ Y5)
 have U:=ha cpos Go s σ H _ I h;rw [hst] at U ⊢;refine Calls.evalArgs_plain (thn U λus s2=>x5e λvs H2 J r2=>x2e λhz q2=>⟨rfl,by rw [<- r2.length];exact hz,J.bk _ _ hC,hN.keeps J.bk,Z.keeps J.bk,λh' ea G=>?_⟩);obtain ⟨tt,he,ag,_⟩:=G.there;have Yd:∀env∈X.stack,∀a,env.frame=some a->a∈frs X.stack:=λenv hm a ha=>QQ.mpr ⟨env,hm,ha⟩;refine T Go σ H2 s2 ea C (hideAll s2.heap (frs X.stack)) .none { s2 with heap:=h' } J ⟨λb o e=>G.keeps b o (R5 _ e),?_,?_,?_⟩ rfl J.bare (λb o e hb=>hideAll_get _ e hb) (λb o e _=>⟨o.slots,G.keeps b o e⟩) q2
 .cases z:(hideAll s2.heap (frs X.stack)).get? ea with
  | none=>rfl
  | some o =>
   have:=R5 _ z;rw [G.new] at this;cases this
 .exact (PySem.W.funFrames_hide J.stack Yd).of_keeps λb o e _=>⟨o,G.keeps b o e,rfl⟩
 .exact ⟨_,_,he,rfl,rfl,rfl,by simp,rfl,.inl rfl⟩
section
variable {M:Model}{A:Np}{E:Value->p8->Prop}
theorem DG{t:Nat}{os:OsState}{O mD:List Value}(OC:pG h C O)(OD:pG h D mD)(he:h.get? e=some oe)(z:oe.cls = .ref C)(Xn:O.contains (.ref D)=true)(hq:Q true ⟨h,g,d,t,os⟩):Nb M A (excMatches (.ref e) (.ref D)) Q E ⟨h,g,d,t,os⟩:=by
 obtain ⟨bm,N,nm,q,bs,hdct,sn,sub,ab,col,dd,k0,k1,k2,k3,k5,mN,rfl,hC,_,_,TC⟩:=OC;obtain ⟨G,N',ag,q',Z,F,ai,S,aj,U,ak,j0,j1,j2,j3,j5,W,rfl,J,_,_,TD⟩:=OD;have b1:(M3 D::G).contains (.type "BaseException")=true:=by
  rw [List.contains_cons,TD.hasType (X:="BaseException") (b:=true) (by decide),Bool.or_true]
 have b2:=tc_notTuple;unfold excMatches
 repeat (first|(with_reducible refine wpAny_loadPart_at he ?_;rw [z])|with_reducible refine wpAny_loadPart_at J ?_|(with_reducible refine wpAny_isSubtype_exc J ?_;rw [b1])|(with_reducible refine wpAny_isSubtype_exc hC ?_;rw [Xn])|wp_step)
 exact hq
end
theorem ah.ex{o:HO}(x:ah P w H h a o):∃ob,h.get? a=some ob:=by
 cases o with
 | lst xs=>obtain ⟨_,_,_,_,e⟩:=x;exact ⟨_,e⟩
 | tup xs=>obtain ⟨_,_,_,o,e,_⟩:=x;exact ⟨_,e⟩
 | dK kvs=>obtain ⟨_,_,_,_,o,_,_,e,_⟩:=x;exact ⟨_,e⟩
 | dT kvs=>obtain ⟨_,_,_,_,o,_,_,e,_⟩:=x;exact ⟨_,e⟩
 | set S n=>obtain ⟨o,_,_,_,e,_⟩:=x;exact ⟨_,e⟩
 | ins C dx fs=>obtain ⟨_,_,_,e,_⟩:=x;exact ⟨_,e⟩
 | own y=>exact x
 | xd fs=>obtain ⟨_,⟨_,_,_,e,_⟩,_⟩:=x;exact ⟨_,e⟩
 | rng lo hi=>obtain ⟨_,_,_,e⟩:=x;exact ⟨_,e⟩
 | frz ob u=>exact ⟨_,x.1⟩
 | tbl ps=>exact ⟨_,x⟩
 | met f y=>exact ⟨_,x⟩
 | ext z=>exact x.2.1
abbrev cxP(X:Cx)(Go:List (Addr×Obj)):Cx:={ X with pn:=X.pn++Go }
theorem Cx.Ok.p(ok:X.Ok)(Go:List (Addr×Obj)):(cxP X Go).Ok :=
 ⟨ok.mod,ok.kind,ok.glob,ok.blt,ok.above,ok.inj,ok.has,ok.VE,ok.hd,ok.frames,ok.VH,ok.aw,ok.bs,ok.Vf,ok.UV,ok.U0,ok.SM,ok.Vo⟩
theorem Inv.p(I:Inv X Go σ H s):Inv (cxP X Go) [] σ H s :=
 ⟨I.ok.p Go,I.os,I.bare,I.base,I.loc,I.cell,I.free,I.So,λp z=>I.pin p (by have h:p∈(X.pn++Go)++[]:=z;simpa using h),I.hok,I.len,I.hdk⟩
theorem Inv.au(ok:X.Ok)(I:Inv (cxP X Go) [] σ H s):Inv X Go σ H s :=
 ⟨ok,I.os,I.bare,I.base,I.loc,I.cell,I.free,I.So,λp z=>I.pin p (by show p∈(X.pn++Go)++[];simpa using z),I.hok,I.len,I.hdk⟩
abbrev rG(X:Cx)(Go:List (Addr×Obj))(Ex:Addr->St->Hp->Prop):Cx:=(cxP X Go).SH λe s'=>∃(ea C:Addr)(B:Heap)(H':Hp)(fl:Value)(σ:St)(z:p8),e = .ref ea/\Inv (cxP X Go) [] σ H' z/\br B X.stack ea (.ref C) fl s'.heap /\
 s'.os=z.os/\PL s'.gens/\(∀b o,z.heap.get? b=some o->b∉frs X.stack->B.get? b=some o)/\z.heap.UpToSlots s'.heap/\Ex C σ H'
theorem yV:bK (rG X Go Ex) Ex:=λps σ H F ea C B fl s' I y os bare z up q =>
 ⟨ea,C,B,H,fl,σ,F,rfl,(I.xy.L1 λp G=>(nomatch G)),y,os,bare,z,up,q⟩
abbrev h7(X:Cx)(Go:List (Addr×Obj))(ea:Addr):Cx:={ X with pn:=X.pn++Go,A:=X.A.mark (some (.ref ea)),calm:=false,xe:=λ_ _=>False }
def iQ(C:Addr)(o:Obj):Prop:=o.cls = .ref C/\o.dict=none/\∃vs,o.data = .fields vs
theorem sH(ab:X.ex=[])(I:Inv (cxP X Go) [] σ H J)(y:br B X.stack ea (.ref C) fl s'.heap)(os:s'.os=J.os)(bare:PL s'.gens)(hB:∀b o,J.heap.get? b=some o->b∉frs X.stack->B.get? b=some o)(up:J.heap.UpToSlots s'.heap):
  H ea=none/\∃oe,iQ C oe/\s'.heap.get? ea=some oe/\Inv (h7 X Go ea) [] σ (upd H ea (.frz oe (.own 0))) s':=by
 obtain ⟨st,hn,hl,oe,vs,he,hc,X9,hd,hz,h2,h1⟩:=y;have U:ea∉frs X.stack:=λz=>by
  obtain ⟨_,o,ho,nf⟩:=hl.mem z;rw [he] at ho;cases ho;exact nf vs hd
 have new:J.heap.get? ea=none:=by
  cases q:J.heap.get? ea with
  | none=>rfl
  | some o =>
   have:=hB _ o q U;rw [hn] at this;cases this
 have O:H ea=none:=by
  cases q:H ea with
  | none=>rfl
  | some u =>
   obtain ⟨ob,z⟩:=(I.hok ea u q).ex;rw [new] at z;cases z
 have keep:∀b o,J.heap.get? b=some o->b∉frs X.stack->s'.heap.get? b=some o:=λb o e hb=>st b o (hB b o e hb);have slot:∀b o,J.heap.get? b=some o->b∈frs X.stack->∃sl,s'.heap.get? b=some { o with slots:=sl }:=λb o e hb=>by
  obtain ⟨_,o',S,nf⟩:=I.stack.mem (show b∈(cxP X Go).stack.filterMap (·.frame) from hb);rw [e] at S;cases S;exact up b o e nf
 have F:Inv (cxP X Go) [] σ H s':=I.Ve (ch:=[]) os ⟨λb o e _ hb _=>keep b o e hb,λb o e _ hb _=>slot b o e hb,λ_ _ _ n _=>n,λb o e _=>?_,λ_ _ e=>e,λ_ _ _ e=>e,λb ps e=>⟨#[],by rw [e];simp⟩⟩
  (λb u e=>(I.hok b u e).stay (λc v hc q=>keep c v q λz=>?_) (λ_ q=>q) λ_ _ q=>q) bare λb z=>absurd z (by simp)
 .have Z:ea≠X.env.locals:=λz=>by
   obtain ⟨m,⟨o,es,ep,ho,G,_⟩,_⟩:=F.loc;have S:s'.heap.get? ea=some o:=by rw [z];exact ho
   rw [he] at S;cases S;rw [hd] at G;cases G
  refine ⟨O,oe,⟨hc,X9,vs,hd⟩,he,⟨⟨F.ok.mod,F.ok.kind,F.ok.glob,F.ok.blt,F.ok.above,F.ok.inj,F.ok.has,F.ok.VE,λz=>(nomatch z),F.ok.frames,F.ok.VH,F.ok.aw,F.ok.bs,F.ok.Vf,F.ok.UV,F.ok.U0,F.ok.SM,F.ok.Vo⟩,F.os,F.bare,
   ⟨F.base.keep,F.base.slot,λb o e n hx=>?_,F.base.there,λb xs e=>?_,λb o u e=>?_,λb ps e=>?_⟩,F.loc,F.cell,?_,λx c e=>?_,λp hp=>?_,F.hok.add O ⟨he,oe,he⟩,F.len,.inr ⟨ea,oe,vs,rfl,zx,hd,h2,C,hc⟩⟩⟩
  .obtain ⟨o',z⟩:=I.base.there b o e hx;rw [zd (λw=>by rw [w,new] at z;cases z)];exact F.base.free b o e n hx
  .have z:=F.base.tups b xs e;rw [zd (zC z O)];exact z
  .have z:=F.base.frzs b o u e;rw [zd (zC z O)];exact z
  .obtain ⟨more,z⟩:=F.base.tbls b ps e;exact ⟨more,by rw [zd (zC z O)];exact z⟩
  .rw [zd (Ni Z)];exact F.free
  .have nc:c≠ea:=λw=>by
    obtain ⟨v,o,ho,G⟩:=F.cell x c e;rw [w,he] at ho;cases ho;rw [hd] at G;cases G
   rw [zd nc];exact F.So x c e
  .obtain ⟨a,b,c,d,f⟩:=F.pin p hp;refine ⟨a,?_,c,d,f⟩;rw [zd λw=>?_]
   .exact b
   .have:=(I.pin p hp).1;rw [w,new] at this;cases this
 .by_cases hb:b∈frs X.stack
  .obtain ⟨sl,z⟩:=slot b o e hb;exact ⟨_,z⟩
  .exact ⟨o,keep b o e hb⟩
 .have W:H c=none:=I.Ul c z;rcases hc with w|w
  .rw [w] at W;rw [W] at e;cases e
  .rw [W] at w;cases w
theorem Inv.SS(ok:X.Ok)(z:X.A.handled=none)(I:Inv (h7 X Go ea) [] σ H s):Inv X Go σ H s :=
 ⟨ok,I.os,I.bare,I.base,I.loc,I.cell,I.free,I.So,λp F=>I.pin p (by show p∈(X.pn++Go)++[];simpa using F),I.hok,I.len,.inl z⟩
end L2
namespace L2
open PySem PySem.Spec PyProof.Rows PySem.W
section
variable {prog:M8}{w:Nl}{A:Np}{E:Value->p8->Prop}{K:Frag}{h:Heap}{g:Array GenState}{d:Drawn}{t:Nat}{os:OsState}{e C:Addr}{oe:Obj}
theorem Bg(X:K.In h)(I:InstAt h e oe C none)(J:findIn K (.ref C) "__class__"=some (some (.builtin "object.__class__")))(hm:mroIn K C (.type "object")=some true)(O:Q (.done (.ret (.ref C))) ⟨h,g,d,t,os⟩):Nb (Nf prog w) A (Ng.«object.__getattribute__» ⟨[.ref e,.str "__class__" tk],[]⟩) Q E ⟨h,g,d,t,os⟩:=by
 have G:=I.type (M:=Nf prog w);have z:=looks_findIn (M:=Nf prog w) X J;have U:=F.typeOf_object_class;have W:=F.slot_gs_get.lookup;have S:=F.slot_gs_set.lookup
 repeat (any_goals (first|assumption|with_reducible refine G.at ?_|with_reducible refine z.at ?_|wp_step))
 exact class_get (s:=⟨h,g,d,t,os⟩) X I hm (MZ O)
theorem GT(X:K.In h)(I:InstAt h e oe C none)(hb:mroIn K C (.type "BaseException")=some true)(S:Q () ⟨h,g,d,t,os⟩):
  Nb (Nf prog w) A (QN "BaseException.__getattribute__" ⟨[.ref e,z],[]⟩) Q E ⟨h,g,d,t,os⟩:=by
 have J:=I.type (M:=Nf prog w);have O:=looks_mroIn (M:=Nf prog w) X hb;have c1:builtinKind "BaseException.__getattribute__"=some .slot:=by decide +kernel
 have G:splitId "BaseException.__getattribute__"=some ("BaseException","__getattribute__"):=by decide +kernel
 have U:=F.args_bexc_ga (.ref e) z;simp only [QN,c1,G];refine fv ?_;unfold isInstance
 repeat (first|with_reducible refine J.at ?_|with_reducible refine O.at ?_|wp_step)
 exact S
theorem IE(X:K.In h)(I:InstAt h e oe C none)(z:findIn K (.ref C) "__getattribute__"=some (some (.builtin "BaseException.__getattribute__")))(U:findIn K (.ref C) "__getattr__"=some none)(O:findIn K (.ref C) "__class__"=some (some (.builtin "object.__class__")))(hm:mroIn K C (.type "object")=some true)(hb:mroIn K C (.type "BaseException")=some true)(hq:Q (some (.ref C)) ⟨h,g,d,t+1,os⟩):
  Nb (Nf prog w) A (getAttr? (.ref e) "__class__") Q E ⟨h,g,d,t,os⟩:=by
 have J:=I.type (M:=Nf prog w);have G:=looks_findIn (M:=Nf prog w) X z;have L2:=looks_findIn (M:=Nf prog w) X U;have Z:=RY.ga.bind (.ref e);have S:(builtin "BaseException.__getattribute__" == builtin "object.__getattribute__")=false:=by decide +kernel
 have x1:(onTheHeap (M3 C)&&builtin "BaseException.__getattribute__" == builtin "object.__getattribute__")=false:=by rw [S];rfl
 have W:(false&&onTheHeap (builtin "BaseException.__getattribute__"))=false:=rfl;unfold getAttr? getAttrBy?;refine fv (wpAny_mkText (fv (Qi ?_)))
 repeat (any_goals (first|assumption|with_reducible refine J.at ?_|with_reducible refine G.at ?_|with_reducible refine L2.at ?_|wp_step))
 refine QU RY.ga.plain F.entry_bexc_ga (GT X I hb (Bg X I O hm ?_))
 repeat (any_goals (first|assumption|wp_step))
structure so(K:Frag)(C:Addr):Prop where
 err:bR K C
 ga:findIn K (.ref C) "__getattribute__"=some (some (.builtin "BaseException.__getattribute__"))
 gr:findIn K (.ref C) "__getattr__"=some none
 cl:findIn K (.ref C) "__class__"=some (some (.builtin "object.__class__"))
 ob:mroIn K C (.type "object")=some true
 ba:mroIn K C (.type "BaseException")=some true
theorem Gf(O:so K C):KitX K (.ref e) (.ref C) (λh=>InstAt h e oe C none) where
 ty:=λ_ _ _ I=>I.type
 it:=λM h X I=>by
  obtain ⟨cd,_,⟨bm,N,nm,q,bs,hdct,sn,sub,ab,col,dd,k0,k1,k2,k3,k5,mN,_,G,_⟩⟩:=O.err.obj X;intro Z Q' E' s' k J;unfold isType loadHead;exact fv (wpAny_loadPart (k _ _ G) (MZ J))
 ne:=λh tp dd its n sl X F=>by
  obtain ⟨cd,_,⟨bm,N,nm,q,bs,hdct,sn,sub,ab,col,W,k0,k1,k2,k3,k5,mN,_,G,_⟩⟩:=O.err.obj X;refine Pt.mpr λz=>?_;have S:C=tp:=M3.inj (beq_iff_eq.mp z);subst S;have U:=congrArg Obj.data (NG.inj (G.symm.trans F));cases U
 ca:=λ{prog w A E Q s} X I k=>by
  obtain ⟨h,g,d,t,os⟩:=s;exact IE X I O.ga O.gr O.cl O.ob O.ba k
end
def DF:V->Option Value
 | .ref a=>some (.ref a)
 | .ty n=>some (.type n)
 | _=>none
inductive TyX(K:Frag)(H:Hp):V->Value->Prop where
 | of {x:V}{t:Value} (h:cG K H x t):TyX K H x t
 | exc {a C:Addr}{o:Obj} (e:H a=some (.frz o (.own 0))) (ho:iQ C o) (O:so K C):TyX K H (.ref a) (.ref C)
def kL(K:Frag):List V->Hp->VK->Prop:=λxs H Q=>∃x c t u b,xs=[x,c]/\DF c=some u/\TyX K H x t/\kitOne K t u=some b/\Q (.bl b) H
theorem kG:zN X (.builtin "isinstance") (kL X.K):=by
 intro Go s σ H xs us Q I r h;obtain ⟨x,c,t,u,b,rfl,hc,ty,U,q⟩:=h;cases r with
 | cons G F =>
  cases F with
  | cons S F =>
   cases F;rename_i v1 Z;have e2:Z=u:=by
    cases c with
    | ref a=>cases hc;exact S
    | ty n=>cases hc;exact S
    | _=>cases hc
   subst e2;cases ty with
   | of ty=>exact LV I G ty U λtk=>⟨.bl b,H,I.tok tk,rfl,q⟩
   | exc e ho O =>
    rename_i a C o;obtain rfl:v1=M3 a:=G;obtain ⟨z,_⟩:=I.hok a _ e;obtain ⟨c1,c2,vs,W⟩:=ho;have J:InstAt s.heap a o C none:=⟨z,c1,by unfold notCls;rw [W],by rw [c2];trivial⟩;exact kia_one (Gf O) I.SD J U (λw=>nomatch w) λtk=>⟨.bl b,H,I.tok tk,rfl,q⟩
end L2
namespace L2
open PySem PySem.Spec PyProof.Rows
def Hnd(A:Np)(h:Heap):Prop:=A.handled=none\/∃(a:Addr)(o:Obj)(vs:Array Value),A.handled=some (.ref a)/\h.get? a=some o/\o.data = .fields vs/\vs[2]?=some .none/\∃C,o.cls = .ref C
theorem Inv.hnd(I:Inv X Go σ H s):Hnd X.A s.heap:=by
 rcases I.hdk with h|⟨a,o,vs,h1,h2,h3⟩
 .exact .inl h
 .exact .inr ⟨a,o,vs,h1,(I.hok a _ h2).1,h3⟩
theorem Hnd.keeps(x:Hnd A h)(k:∀b o,(∃C,o.cls = .ref C)->h.get? b=some o->h'.get? b=some o):Hnd A h':=by
 rcases x with x|⟨a,o,vs,h1,h2,h3,h4,z⟩
 .exact .inl x
 .exact .inr ⟨a,o,vs,h1,k a o z h2,h3,h4,z⟩
theorem LP:entryFor table "proto.unchain"=some Ng.«proto.unchain»:=entryFor_of_tree (by kernel_rfl)
section
variable {prog:M8}{w:Nl}{A:Np}{E:Value->p8->Prop}{s:p8}
theorem Ea{α:Type}{Q:α->p8->Prop}(F:Hnd A s.heap)(he:s.heap.get? e=some oe)(hd:oe.data = .fields ws)(J:2<ws.size)(hc:∀C,oe.cls≠.ref C)(k:∀h',QC e s.heap h'->(∃o,h'.get? e=some o/\o.cls=oe.cls)->E (.ref e) { s with heap:=h' }):Nb (Nf prog w) A (raiseNew (.ref e):Sem α) Q E s:=by
 unfold raiseNew;refine fv (wpAny_handled ?_);rcases F with F|⟨a,o,vs,h1,h2,h3,h4,C,G⟩
 .rw [F];exact fv (MZ (wpAny_throw (k s.heap (QC.refl _ _) ⟨oe,he,rfl⟩)))
 .rw [h1];have ne:a≠e:=λz=>by rw [z,he] at h2;cases h2;exact hc C G
  dsimp only;rw [if_pos (show (M3 a != M3 e)=true by simpa using ne)];refine fv (NH (wpAny_runValue (Q7 LP ?_)));refine fv (m:=Rq (.ref a) 2) (Nv h2 h3 h4 ?_);rw [if_pos (show (NB==NB)=true by rfl)];refine MZ (fv ?_);show Nb _ _ (setField (.ref e) 2 (.ref a)) _ _ _;have dd:=Pg hd (·.setIfInBounds 2 (M3 a));exact Oo he hd J (wpAny_throw (k _ (QC.update ..) ⟨_,Om _ he (On dd),QE _ _⟩))
theorem jN{α:Type}{Q:α->p8->Prop}(O:Hnd A s.heap)(k:∀h' e,(∀b o,s.heap.get? b=some o->h'.get? b=some o)->(∃o,h'.get? e=some o/\o.cls = .type "StopIteration")->E (.ref e) { s with heap:=h' }) :
  Nb (Nf prog w) A (newExc (.type "StopIteration") []>>=λe=>(raiseNew e:Sem α)) Q E s:=by
 refine fv ?_;simp only [newExc,newTuple];refine fv (N5 (fv (m:=firstArgMember _ _) (wpAny_of_eq (a:=NB) (by first|rfl|(simp only [firstArgMember];rfl)) (N5 ?_ (by size_fits)))) (by size_fits));have J:∀(F G:Obj) b o,s.heap.get? b=some o->((s.heap.push F).push G).get? b=some o:=λF G b o q=>we _ (we _ q);refine Ea (O.keeps λb o _ q=>J _ _ b o q) (Nd _ rfl) rfl (by simp;lia) (λC z=>by cases z) λh' S=>x3e λo g c=>k h' _ (λb o q=>?_) ⟨o,g,c⟩;refine (S.2 b (λz=>?_)).trans (J _ _ b o q);have:=Nj q;rw [z,OQ] at this;exact absurd (Ny this) (ND _)
theorem DD{it t:Addr}(U:Hnd A s.heap)(O:s.heap.IsTupleIter it t i)(W:s.heap.IsTuple t items)(hx:items[i]?=none)(k:∀h',ExtBut it s.heap h'->Q none { s with heap:=h' }):Nb (Nf prog w) A (PP (.ref it)) Q E s:=by
 obtain ⟨o,ho,hc,hd⟩:=id O;obtain ⟨ol,G,_,nl,J⟩:=W;unfold PP;refine fv (Qi (NR (name:=yv "__next__") O.typeIs F.slot_tuple_iterator_next (N2 F.slot_tuple_iterator_next O.typeIs F.entry_tuple_iterator_next ?_ (F.args_tuple_iterator_next_1 _))));refine fv (m:=Rq (.ref it) 0) (Nv ho hd (x:=.ref t) rfl ?_);rw [if_neg (show ¬ ((M3 t==NB)=true) by simp)];refine fv (m:=Rq (.ref it) 1) (Nv ho hd (x:=.int i 0) rfl (fv (m:=RP (.ref t)) (Oq G J ?_)));simp only [OG,hx];refine fv (Pb (fv (Oo ho hd (by simp) ?_)));refine jN (U.keeps λb q Z e=>(NC _ _ λz=>?_).trans e) λh' e up=>x3e λo' g' c' =>
  fv (QJ (T:="StopIteration") (b:=true) ⟨o',g',c'⟩ Rp (MZ (k h' λb q hb z=>up b q ((NC _ _ (Ni hb)).trans z))))
 obtain ⟨C,S⟩:=Z;rw [<- z,ho] at e;cases e;rw [hc] at S;cases S
theorem I0{x1}{t:Addr}(U:Hnd A s.heap)(G:Rc s.heap t items)(hn:(OP J env).length=items.size)(F:(OP J env).findIdx? (·.1)=none)(h:∀h',ExtBut s.heap.objs.size s.heap h'->Nb (Nf prog w) A (RK ((OP J env).map (·.2)) items.toList) Q E { s with heap:=h' }):Nb (Nf prog w) A (assign (.Tuple J x1 pos) env (.ref t)) Q E s:=by
 have lt:t≠s.heap.objs.size:=by obtain ⟨o,ho,_⟩:=G;exact NN (Nj ho)
 have all:List.take items.size (List.drop 0 items.toList)=items.toList:=by rw [Sm];exact Nz (by simp)
 have Z:Nb (Nf prog w) A (unpackItems (.ref t) items.size none) (λvs s'=>∃h',vs=items.toList/\s'={ s with heap:=h' }/\ExtBut s.heap.objs.size s.heap h') E s:=by
  unfold unpackItems;refine fv ?_;unfold notIterableAtAll;refine fv (wpAny_specialOf G.typeIs slot_tuple_iter.lookup (MZ ?_));simp only [Pd,if_false];refine fv (NH (iter_tuple G (fv (NH (draw_tuple lt items.size 0 _ _ ⟨_,Nd _ rfl,rfl,rfl⟩ (G.push _) (by lia) λh1 O s1=>?_)))));rw [all,if_neg (by simp)];have t1:Rc h1 t items:=(G.push _).extBut s1.extBut lt;have up1:∀b o,b≠s.heap.objs.size->s.heap.get? b=some o->h1.get? b=some o:=λb o hb e=>s1.extBut b o hb (we _ e);refine fv (NH (DD (s:={ s with heap:=h1 }) (U.keeps λb o _ e=>up1 b o (NN (Nj e)) e) O t1 (by simp) λh2 S=>?_));simp only [Option.isSome_none,Pd,if_false];exact MZ ⟨h2,rfl,rfl,λb o hb e=>S b o hb (up1 b o hb e)⟩
 rw [assign_Tuple];refine fv (Pa ?_);unfold unpack;rw [F,hn];refine fv (NH (N7 Z (λvs s'=>x3e λh' W=>x2e λS x=>?_) λ_ _ z=>z));subst W S;exact h h' x
end
theorem wJ{k:Nat}{t:TGs}(h:PGs X es t)(hl:(OP es X.env).length=n:=by rfl)(hst:(OP es X.env).findIdx? (·.1)=none:=by rfl):PG X (.Tuple es k pos) (pM X.K n t):=by
 intro Go s σ H v u Q I r q;obtain ⟨a,xs,rfl,hx,hn,q⟩:=q;obtain rfl:u=M3 a:=r;obtain ⟨its,z,F,J⟩:=I.tuple hx;refine I0 I.hnd F (by rw [hl,<- hn,z.length];simp) hst λh' ex=>?_;have G:Inv X Go σ H { s with heap:=h' }:=I.kept (t':=s.toks) λb o e=>ex b o (NN (Nj e)) e;have:=h Go { s with heap:=h' } σ H xs its Q G z q;simpa using this
def Itz(K:KE)(a b:Addr):It :=
 ⟨λi H=>∃xs ys x y,SqL K H a xs/\SqL K H b ys/\xs[i]?=some x/\ys[i]?=some y,λi H v H'=>∃T x y,H T=none/\v = .ref T/\H'=upd H T (.tup [x,y])/\(∀xs,SqL K H a xs->xs[i]?=some x)/\∀ys,SqL K H b ys->ys[i]?=some y,
  λi H=>∃xs ys,SqL K H a xs/\SqL K H b ys/\xs.length<=i⟩
structure gK(z TI TO i1 i2 l1 l2:Addr)(i:Nat)(h:Heap):Prop where
 z:IsZip h z TI TO .none
 ti:PF h TI (.ref i1) (.ref i2)
 to:∃a b,PF h TO a b
 a:h.IsListIter i1 l1 i
 b:h.IsListIter i2 l2 i
theorem gK.keep{z TI TO i1 i2 l1 F:Addr}(x:gK z TI TO i1 i2 l1 F i h)(k:∀b∈[z,TI,TO,i1,i2],∀o,h.get? b=some o->h'.get? b=some o):gK z TI TO i1 i2 l1 F i h':=by
 obtain ⟨U,J,⟨u,v,S⟩,G,O⟩:=x;exact ⟨k _ (by simp) _ U,k _ (by simp) _ J,⟨u,v,k _ (by simp) _ S⟩,G.at λo e=>k _ (by simp) o e,O.at λo e=>k _ (by simp) o e⟩
theorem KP{K:KE}{l1 O z TI TO i1 i2:Addr}(D:ZipApart z TI TO i1 i2 l1 O):∀(X:Cx),X.prog=P->X.w=w->X.K=K->∀(i:Nat)(Go:List (Addr×Obj))(s:p8)(σ:St)(H:Hp)(E:Value->p8->Prop),Inv X Go σ H s->(∀b∈[z,TI,TO,i1,i2],dJ X Go H b)->gK z TI TO i1 i2 l1 O i s.heap->(Itz K l1 O).go i H ->
  Nb (Nf P w) X.A (PP (.ref z)) (λr s1=>∃u,r=some u /\
   Nb (Nf P w) X.A (O0 (.Tuple Zr kk tp) (.ref z) u) (λ_ s2=>∃x H',Inv X Go σ H' s2/\zo x u/\(Itz K l1 O).U2 i H x H'/\gK z TI TO i1 i2 l1 O (i+1) s2.heap/\∀b∈[z,TI,TO,i1,i2],H' b=none) E s1) E s:=by
 intro X hP hw hK i Go s σ H E I hf st hg;subst hP hw hK;obtain ⟨xs,ys,x,y,Xu,J,hx,hy⟩:=hg;obtain ⟨a0,XU,p1,aT⟩:=I.list Xu;obtain ⟨a6,ag,p2,a7⟩:=I.list J;obtain ⟨u1,aj,av⟩:=XU.get hx;obtain ⟨u2,ai,ab⟩:=ag.get hy;obtain ⟨a1,Z,⟨u,v,a3⟩,U,W⟩:=st;refine wpAny_pyNext_zip_item D a1 Z a3 U W p1.isList p2.isList (x:=u1) (y:=u2) (by simpa using aj) (by simpa using ai) λh' b1 b2 b3 b4 b5 b6 b7=>?_;refine ⟨_,rfl,wpAny_letOwnedTupleGo_zip (s:={ s with heap:=h' }) b1 λh2 c1 F=>?_⟩;have Xt:z<s.heap.objs.size:=Nj a1;have nz:s.heap.objs.size≠z:=Pe Xt;have all:∀c o,c≠z->c≠TO->c≠i1->c≠i2->s.heap.get? c=some o->h2.get? c=some o:=λc o n1 n2 n3 n4 e=>F.extBut c o n1 (b7 c o n1 n2 n3 n4 e);have tT:h2.get? s.heap.objs.size=some { cls:=.type "tuple",data:=.seq #[u1,u2] }:=F.extBut _ _ nz b5;have G:H s.heap.objs.size=none:=I.hok.fresh (zv _);have XO:HOk X.prog X.w H h2:=λb u e=>by
  refine (I.hok b u e).stay (λc v hc q=>?_) (λ_ q=>q) λ_ _ q=>q;have S:∀d∈[z,TI,TO,i1,i2],c≠d:=λd hd w=>by
   have fd:=(hf d hd).1;rcases hc with k|k
   .rw [k] at w;rw [w,fd] at e;cases e
   .rw [w,fd] at k;cases k
  exact all c v (S z (by simp)) (S TO (by simp)) (S i1 (by simp)) (S i2 (by simp)) q
 have ak:∀b o,s.heap.get? b=some o->b≠s.heap.objs.size:=λb o e=>NN (Nj e);have I2:Inv X Go σ (upd H s.heap.objs.size (.tup [x,y])) { s with heap:=h2 }:=by
  refine I.step (g':=s.gens) (d':=s.drawn) (t':=s.toks) (ch:=[z,TO,i1,i2]) (λb hb=>?_) (λb o _ _ hb e _=>?_) (λb o _ _ hb e _=>?_) (λb o _ e n=>?_) (λb o hb e=>?_) (λb ps e=>?_) (λb o u e=>?_) (λb ps e=>?_) (λm hm=>?_) (XO.add G ?_) I.bare
  .have XN:b∈[z,TI,TO,i1,i2]:=by simp only [MX,M1,or_false] at hb ⊢;rcases hb with h|h|h|h<;>simp [h]
   obtain ⟨f0,f1,f2,f3,f4,f5⟩:=hf b XN;exact ⟨f3,f1,f4,f5⟩
  .simp only [MX,M1,or_false,not_or] at hb;exact all b o hb.1 hb.2.1 hb.2.2.1 hb.2.2.2 e
  .simp only [MX,M1,or_false,not_or] at hb;exact ⟨o.slots,all b o hb.1 hb.2.1 hb.2.2.1 hb.2.2.2 e⟩
  .rw [zd (ak b o e)];exact n
  .simp only [MX,M1,or_false,not_or] at hb;exact ⟨o,all b o hb.1 hb.2.1 hb.2.2.1 hb.2.2.2 e⟩
  .rw [zd (zC e G)];exact e
  .rw [zd (zC e G)];exact e
  .exact ⟨#[],by rw [zd (zC e G),e];simp⟩
  .obtain ⟨o,es,ep,ho,r⟩:=hm;exact ⟨o,es,ep,all _ o (Ni (hf z (by simp)).2.1) (Ni (hf TO (by simp)).2.1) (Ni (hf i1 (by simp)).2.1) (Ni (hf i2 (by simp)).2.1) ho,r⟩
  .exact ⟨by show 2<=sizeLine;decide,[u1,u2],.cons av (.cons ab .nil),⟨_,tT,rfl,_,rfl⟩⟩
 refine ⟨.ref s.heap.objs.size,_,I2,rfl,⟨_,x,y,G,rfl,rfl,λzs hz=>by rw [I.Sx hz Xu];exact hx,λzs hz=>by rw [I.Sx hz J];exact hy⟩,?_,λb hb=>?_⟩
 .exact ⟨c1,F.extBut _ _ D.TIz (b7 _ _ D.TIz D.TITO D.TIi1 D.TIi2 Z),⟨u1,u2,F.extBut _ _ D.TOz b2⟩,b3.extBut F.extBut D.i1z,b4.extBut F.extBut D.i2z⟩
 .have ne:b≠s.heap.objs.size:=λq=>by
   have:b<s.heap.objs.size:=by
    simp only [MX,M1,or_false] at hb;obtain ⟨o4,U,_⟩:=U;obtain ⟨o5,W,_⟩:=W;rcases hb with rfl|rfl|rfl|rfl|rfl
    .exact Xt
    .exact Nj Z
    .exact Nj a3
    .exact Nj U
    .exact Nj W
   exact absurd (q ▸ this) (ND _)
  rw [zd ne];exact (hf b hb).1
def eqL(xs ys:List V):Bool:=xs.length==ys.length&&(Ra xs.length).all λi=>eqV (xs.getD i .non) (ys.getD i .non)
theorem y8:∀{xs:List V},xs.all zV=true->(∀x∈xs,∀b,x≠.byt b)->eqL xs xs=true:=by
 intro xs h _;unfold eqL;rw [beq_self_eq_true,Bool.true_and,NM];intro i hi;have z:=RT.mp hi;have hm:xs[i]∈xs:=NP z;have:=NM.mp h _ hm;rw [MW,l6 z,Option.getD_some];cases e:xs[i] with
 | non=>rfl
 | bl b=>simp [eqV]
 | int j=>simp [eqV]
 | str x=>simp [eqV]
 | _=>rw [e] at this;cases this
section
variable {X:Cx}
def vi(K:KE)(neg:Bool):R2:=λx y H Q=>∃a b xs ys,x = .ref a/\y = .ref b/\SqL K H a xs/\SqL K H b ys/\xs.all zV=true/\ys.all zV=true/\Q (.bl (if neg then !eqL xs ys else eqL xs ys)) H
theorem tH(I:Inv X Go σ H s)(ha:SqL X.K H a xs)(hb:SqL X.K H b ys)(fx:xs.all zV=true)(W:ys.all zV=true):
  ∃is F:List Value,s.heap.IsList a is.toArray/\s.heap.IsList b F.toArray/\xs.length=is.length/\ys.length=F.length/\∀(A:Np)(j:Nat)(h1:j<is.toArray.size)(h2:j<F.toArray.size),SeqAt.EqAt A s is.toArray[j] F.toArray[j] (eqV (xs.getD j .non) (ys.getD j .non)):=by
 obtain ⟨is,G,p1,_⟩:=I.list ha;obtain ⟨F,J,p2,_⟩:=I.list hb;refine ⟨is,F,p1.isList,p2.isList,G.length,J.length,λA j h1 h2=>?_⟩;have l1:=G.length;have l2:=J.length;simp only [Nc] at h1 h2;have O:xs[j]?=some (xs.getD j .non):=by rw [MW,l6 (by lia)];rfl
 have S:ys[j]?=some (ys.getD j .non):=by rw [MW,l6 (by lia)];rfl
 obtain ⟨u,g1,q1⟩:=G.get O;obtain ⟨v,U,q2⟩:=J.get S;rw [l6 h1] at g1;rw [l6 h2] at U;have f1:=NM.mp fx _ (Na O);have Z:=NM.mp W _ (Na S);have z:=mO (A:=A) (s:=s) q1 q2 f1 Z;have w1:is.toArray[j]=u:=by simpa using NG.inj g1
 have w2:F.toArray[j]=v:=by simpa using NG.inj U
 rw [w1,w2];exact z
theorem yh(G:X.A.units<cLine):OpR X (NK .Eq) (vi X.K false):=by
 intro Go s σ H x y v u Q I W Z h;obtain ⟨a,b,xs,ys,rfl,rfl,ha,hb,fx,S,q⟩:=h;cases W;cases Z;obtain ⟨is,js,J,p2,l1,O,U⟩:=tH I ha hb fx S;by_cases z:is.toArray.size=js.toArray.size
 .refine SeqAt.eq_listAt J p2 z G (λj h1 h2=>U _ j h1 h2) ⟨.bl _,H,I,rfl,?_⟩;have e:eqL xs ys=(Ra is.toArray.size).all λj=>eqV (xs.getD j .non) (ys.getD j .non):=by
   unfold eqL;simp only [Nc] at z ⊢;rw [l1,O,z];simp
  rw [<- e];exact q
 .refine SeqAt.eq_list_lengthsAt J p2 (by simpa using z) G ⟨.bl false,H,I,rfl,?_⟩;have e:eqL xs ys=false:=by
   unfold eqL;have:(xs.length==ys.length)=false:=by simp only [Nc] at z;rw [l1,O];simpa using z
   rw [this,RA]
  have F:Q (.bl (eqL xs ys)) H:=q;rw [e] at F;exact F
theorem vC(G:X.A.units<cLine):OpR X (NK .NotEq) (vi X.K true):=by
 intro Go s σ H x y v u Q I W Z h;obtain ⟨a,b,xs,ys,rfl,rfl,ha,hb,fx,S,q⟩:=h;cases W;cases Z;obtain ⟨is,js,J,p2,l1,O,U⟩:=tH I ha hb fx S;have F:Q (.bl (!eqL xs ys)) H:=q;by_cases z:is.toArray.size=js.toArray.size
 .refine SeqAt.RcNeAt.lists J p2 z G (λj h1 h2=>U _ j h1 h2) _ _ _ _ ⟨.bl _,H,I,rfl,?_⟩;have e:eqL xs ys=(Ra is.toArray.size).all λj=>eqV (xs.getD j .non) (ys.getD j .non):=by
   unfold eqL;simp only [Nc] at z ⊢;rw [l1,O,z];simp
  rw [<- e];exact F
 .refine SeqAt.RcNeAt.lists_lengths J p2 (by simpa using z) G _ _ _ _ ⟨.bl true,H,I,rfl,?_⟩;have e:eqL xs ys=false:=by
   unfold eqL;have:(xs.length==ys.length)=false:=by simp only [Nc] at z;rw [l1,O];simpa using z
   rw [this,RA]
  rw [e] at F;exact F
theorem Inv.big(I:Inv X Go σ H s):sysModules<s.heap.objs.size:=by
 have h:M6<s.heap.objs.size:=(I.mod.glob.keeps I.bk).lt;exact Nat.lt_trans (by decide) h
def Mh:TE:=λ_ H Q=>∀p,H p=none->Q (.ref p) (upd H p (.dK []))
theorem AY:PE X (.Dict [] [] pos) Mh:=λGo s σ H Q I h =>
 wpAny_Dict_empty ⟨.ref s.heap.objs.size,_,I.laid (a:=s.heap.objs.size) (o:=.dK []) (t':=s.toks) (λ_ _ q=>we _ q) (zv _) ⟨NV _,beq_eq_false_iff_ne.mpr (Ni (NN I.big)),[],.nil,Heap.DictOf.new s.heap⟩,rfl,h _ (I.hok.fresh (zv _))⟩
theorem zG.mark{k:Nat}(r:zG c k A):zG false k (A.mark v):=⟨λh=>(nomatch h),r.dp,r.un,r.gd⟩
def zW:Nr->Bool
 | .Starred _ _=>false
 | _=>true
theorem dr(h:zW e=true):Nq (e::es) env=(false,NT e env)::Nq es env:=by
 cases e<;>first|rfl|(exact absurd (show false=true from h) M4)
def dF(es:List Nr):Bool:=es.all zW
theorem yL:∀{es:List Nr}(h:dF es=true),(Nq es env).any (·.1)=false
 | [],_=>rfl
 | e::es,h=>by
  unfold dF at h;rw [List.all_cons,NJ] at h;rw [dr h.1,QY,yL h.2];rfl
theorem fe(h:dF es=true):(OT pos (Nq es env)).any (·.1)=false:=by
 have q:=yL (env:=env) h;unfold OT;rw [List.any_map];exact q
theorem cw(h:zW e=true):Nq [e] env=[(false,NT e env)]:=(dr h).trans rfl
theorem A9(h:zW e=true)(h':zW z=true):Nq [e,z] env=[(false,NT e env),(false,NT z env)]:=by rw [dr h,cw h']
theorem zb{t:TA}(ha:W (PE X e te))(hr:W (PA X es t))(z:zW e=true:=by rfl):W (PA X (e::es) (jk te t)):=by refine ⟨?_⟩;have ha:=ha.h;have hr:=hr.h;exact dS ha hr (dr z)
theorem zO{id:String}{r:List V->Hp->VK->Prop}{t:TA}{p pos:Pos}(hc:zN X (.builtin id) r)(hg:Gl X x)(hm:X.mg x=none)(J:Pw x=some (.builtin id))(ha:W (PA X (e::es) t))(G:zW e=true:=by rfl)(z:dF es=true:=by rfl)(hn:x≠"__name__":=by decide)(F:(x==("__debug__":Str))=false:=by decide):W (PE X (.Call (.Name x p) (e::es) [] pos) (tCB r t)):=by refine ⟨?_⟩;have ha:=ha.h;exact sr hc hg hm J ha hn F (dr G) (fe z)
theorem eU{r:List V->Hp->VK->Prop}{t:TA}{p pos:Pos}(hc:zN X (.type T) r)(hg:Gl X x)(hm:X.mg x=none)(J:Pw x=some (.type T))(ha:W (PA X (e::es) t))(G:zW e=true:=by rfl)(z:dF es=true:=by rfl)(hn:x≠"__name__":=by decide)(F:(x==("__debug__":Str))=false:=by decide):W (PE X (.Call (.Name x p) (e::es) [] pos) (tCB r t)):=by refine ⟨?_⟩;have ha:=ha.h;exact Jr hc hg hm J ha hn F (dr G) (fe z)
theorem ef{p pos:Pos}(hg:Gl X "range")(hm:X.mg "range"=none)(ha:W (PA X [a] ta))(z:zW a=true:=by rfl):W (PIc true X tg (.Call (.Name "range" p) [a] [] pos) (iR ta)):=by refine ⟨?_⟩;have ha:=ha.h;exact DB hg hm ha (cw z)
theorem iu{t:TA}(hc:X.calm=true)(T:bK X Ex)(O:bR X.K C)(hg:Gl X x)(hm:X.mg x=some (.ref C))(ha:W (PA X (e::es) t))(J:zW e=true:=by rfl)(z:dF es=true:=by rfl)(G:(x==("__debug__":Str))=false:=by decide):W (PS X (.Raise (some (.Call (.Name x F) (e::es) [] cpos)) none pos) (pV C Ex t)):=by refine ⟨?_⟩;have ha:=ha.h;exact Jp hc T O hg hm ha G (dr J) (fe z)
structure New(H:Hp)(p:Addr)(o:HO)(H':Hp):Prop where
 no:H p=none
 at_:H' p=some o
 same:zi H H'
theorem New.mk'{p:Addr}{o:HO}(h:H p=none):New H p o (upd H p o):=⟨h,zx,λb u e=>by rw [zd (zC e h)];exact e⟩
def rS(t:TA):TE:=λσ H Q=>t σ H λxs H1=>xs.length<=sizeLine/\∀p H2,New H1 p (.lst xs) H2->p≠sysModules->Q (.ref p) H2
theorem aA{t:TA}(h:W (PA X es t)):W (PE X (.List es pos) (rS t)):=by
 refine ⟨?_⟩;have h:=h.h;intro Go s σ H Q I G;refine wpAny_List_spliced (thn (h pos Go s σ H _ I G) λus s1=>x5e λxs H1 F r=>x2e λz q=>⟨by rw [<- r.length];exact z,?_⟩);have hf:H1 s1.heap.objs.size=none:=F.hok.fresh (zv _);refine ⟨.ref s1.heap.objs.size,upd H1 s1.heap.objs.size (.lst xs),F.laid (t':=s1.toks) (λb u e=>we _ e) (zv _) ?_,rfl,q _ _ (.mk' hf) (Pe F.big)⟩;exact ⟨z,us,0,r,Nd _ rfl⟩
def sv(t:TA):TE:=λσ H Q=>t σ H λxs H1=>xs.length<=sizeLine/\∀p H2,New H1 p (.tup xs) H2->Q (.ref p) H2
theorem AG{t:TA}(F:∀xs H,R xs H->z xs H)(h:PA X es t)(pos:Pos)(Go:List (Addr×Obj))(s:p8)(σ:St)(H:Hp)(I:Inv X Go σ H s)(q:t σ H R):
  Nb (Nf X.prog X.w) X.A (spliced (OT pos (Nq es X.env))) (AP X Go σ z) X.xe s :=
 thn (h pos Go s σ H R I q) λ_ _=>x5e λvs H' a b c=>⟨vs,H',a,b,F _ _ c⟩
theorem aH{t:TA}{x1}(h:W (PA X es t)):W (PE X (.Tuple es x1 pos) (sv t)):=by
 refine ⟨?_⟩;have h:=h.h;have h':PA X es (λσ H Q=>∃R:List V->Hp->Prop,t σ H R/\∀xs H,R xs H->Q xs H):=λpos Go s σ H Q I=>x3e λR q F=>AG F h pos Go s σ H I q;intro Go s σ H Q I G;exact Jw h' Go s σ H Q I ⟨_,G,λxs H1=>x2e λz q=>⟨z,λp J=>q p _ (.mk' J)⟩⟩
def Ae:TE:=λ_ H Q=>∀p H2,New H p (.dK []) H2->Q (.ref p) H2
theorem pW:W (PE X (.Dict [] [] pos) Ae):=⟨λGo s σ H Q I h=>AY Go s σ H Q I λp z=>h p _ (.mk' z)⟩
end
def uR(v:V)(q:Addr->Prop):Prop:=∃a,v = .ref a/\q a
def rL(to te:TE):TE:=λσ H Q=>to σ H λx H1=>uR x λl=>(∃xs,H1 l=some (.lst xs))/\te σ H1 λy H2=>∃xs,H2 l=some (.lst xs)/\xs.length<sizeLine/\Q .non (upd H2 l (.lst (xs++[y])))
section
variable {X:Cx}
theorem OpR.weak{r r':R2}(h:OpR X f r)(z:∀x y H Q,r' x y H Q->r x y H Q):OpR X f r' :=
 λGo s σ H x y v u Q I F G q=>h Go s σ H x y v u Q I F G (z x y H Q q)
theorem zN.weak{r r':List V->Hp->VK->Prop}(h:zN X f r)(z:∀xs H Q,r' xs H Q->r xs H Q):zN X f r' :=
 λGo s σ H xs us Q I rs q=>h Go s σ H xs us Q I rs (z xs H Q q)
theorem IxR.weak{r r':R2}(h:IxR X r)(F:∀x y H Q,r' x y H Q->r x y H Q):IxR X r' :=
 λZK z Go s σ H x y v u Q I G J q hs=>h ZK z Go s σ H x y v u Q I G J (F x y H Q q) hs
def eE:R2:=λx y H Q=>(∃i j,x = .int i/\y = .int j/\Q (.int (i+j)) H)\/(∃i j,x = .str i/\y = .str j/\i.length+j.length<=sizeLine/\Q (.str (i++j)) H) \/
 (∃l b xs zs,x = .ref l/\y = .ref b/\H l=some (.lst xs)/\H b=some (.lst zs)/\xs.length+zs.length<=sizeLine/\∀p H2,New H p (.lst (xs++zs)) H2->Q (.ref p) H2)
theorem sS:OpR X (OE .Add) eE:=EX.or (Hh.or (HN.weak λx y H Q h=>by
 obtain ⟨l,b,xs,zs,F,G,h1,h2,h3,h4⟩:=h;exact ⟨l,b,xs,zs,F,G,h1,h2,h3,λp z=>h4 p _ (.mk' z)⟩))
def e9:R2:=λx y H Q=>(∃i j,x = .int i/\y = .int j/\gJ i j/\Q (.int (i*j)) H) \/
 (∃l k xs,x = .ref l/\y = .int k/\H l=some (.lst xs)/\-(2 ^ 63)<=k/\k<2 ^ 63/\xs.length*k.toNat<=sizeLine/\∀p H2,New H p (.lst (Nw k.toNat xs).flatten) H2->Q (.ref p) H2)
theorem Cm:OpR X (OE .Mult) e9:=LC.or (Bm.weak λx y H Q h=>by
 obtain ⟨l,k,xs,F,G,h1,h2,h3,z,h4⟩:=h;exact ⟨l,k,xs,F,G,h1,h2,h3,z,λp J=>h4 p _ (.mk' J)⟩)
def uIx:R2:=λx y H Q=>(∃p xs i v,x = .ref p/\y = .int i/\H p=some (.lst xs)/\atI xs i=some v/\Q v H) \/
 (∃p xs i v,x = .ref p/\y = .int i/\H p=some (.tup xs)/\atI xs i=some v/\Q v H)\/(∃z i c,x = .str z/\y = .int i/\z.length<=sizeLine/\atI z.cps.toList i=some c/\Q (.str ⟨#[c]⟩) H)
theorem Km:IxR X uIx:=Kl.weak λx y H Q h=>by
 rcases h with ⟨p,xs,i,v,z,F,h,r⟩|⟨p,xs,i,v,z,F,h,r⟩|h
 .exact .inl ⟨p,xs,i,v,z,F,SqL.of h,r⟩
 .exact .inr (.inl ⟨p,xs,i,v,z,F,SqT.of h,r⟩)
 .exact .inr (.inr h)
def jM:List V->Hp->VK->Prop:=λxs H Q=>(∃p ys,xs=[.ref p]/\H p=some (.lst ys)/\Q (.int ys.length) H)\/(∃p ys,xs=[.ref p]/\H p=some (.tup ys)/\Q (.int ys.length) H) \/
 (∃z,xs=[.str z]/\z.length<=sizeLine/\Q (.int z.length) H)
theorem HI:zN X (.builtin "len") jM:=(j8.or KY).weak λxs H Q h=>by
 rcases h with ⟨p,ys,e,h,q⟩|⟨p,ys,e,h,q⟩|h
 .exact .inl ⟨p,ys,e,.inl (SqL.of h),q⟩
 .exact .inl ⟨p,ys,e,.inr (SqT.of h),q⟩
 .exact .inr h
def uEq(neg:Bool):R2:=λx y H Q=>(fO x y=true/\Q (.bl (if neg then !decide (x=y) else decide (x=y))) H) \/
 (∃a b xs ys,x = .ref a/\y = .ref b/\H a=some (.lst xs)/\H b=some (.lst ys)/\xs.all zV=true/\ys.all zV=true/\Q (.bl (if neg then !eqL xs ys else eqL xs ys)) H)
theorem aX(z:X.A.units<cLine):OpR X (NK .Eq) (uEq false):=(Ec.or (yh z)).weak λx y H Q h=>by
 rcases h with h|⟨a,b,xs,ys,F,G,h1,h2,r⟩
 .exact .inl ⟨h.1,by simpa using h.2⟩
 .exact .inr ⟨a,b,xs,ys,F,G,SqL.of h1,SqL.of h2,r⟩
theorem gL(z:X.A.units<cLine):OpR X (NK .NotEq) (uEq true):=(C5.or (vC z)).weak λx y H Q h=>by
 rcases h with h|⟨a,b,xs,ys,F,G,h1,h2,r⟩
 .exact .inl ⟨h.1,by simpa using h.2⟩
 .exact .inr ⟨a,b,xs,ys,F,G,SqL.of h1,SqL.of h2,r⟩
def wm(K:KE)(ta:TE):TT:=λσ H Q=>ta σ H λx H'=>∃k,fP K x H' k/\Q k H'
theorem aO(ha:W (PE X a ta))(he:∀z,isTrue a X.env z=(do let v<-z;P0 a.pos;Pr [v] (truthy v)):=by intro _;rfl):W (PT X a (wm X.K ta)):=by refine ⟨?_⟩;have ha:=ha.h;exact Hl ha he
def km(C:Addr)(ta:TE)(f:Str):TE:=λσ H Q=>ta σ H λx H1=>∃a dx fs v,x = .ref a/\H1 a=some (.ins C dx fs)/\fs.lookup f=some v/\Q v H1
theorem aq(c:Cls X.K C)(n:bu X.K C f)(he:W (PE X e ta))(hb:Oi e f X.env (NT e X.env)=NT e X.env:=by rfl):W (PE X (.Attribute e f pos) (km C ta f)):=by
 refine ⟨?_⟩;have he:=he.h;intro Go s σ H Q I h;refine LU hb (thn (he Go s σ H _ I h) λu s1=>x5e λx H1 F z G=>?_);obtain ⟨a,dx,fs,v,ex,ea,l,q⟩:=G;subst ex;obtain rfl:u=M3 a:=z;exact ve F ea c n l λS s2 J O=>⟨v,H1,J,O,q⟩
def lQ(C:Addr)(ta tv:TE)(f:Str):TS:=λD σ H=>tv σ H λy H1=>ta σ H1 λx H2=>∃a dx fs,x = .ref a/\H2 a=some (.ins C dx fs)/\fs.length<1000/\D.nx σ (upd H2 a (.ins C dx (zR f y fs)))
theorem bg{o ZK:Nr}{ta tv:TE}(c:Cls X.K C)(n:bu X.K C f)(ha:W (PE X o ta))(z:W (PE X ZK tv))(hs:swapsWith ZK (some (.Attribute o f Y4)) pos.line X.env=pure false:=by rfl):W (PS X (.Assign [.Attribute o f Y4] ZK pos) (lQ C ta tv f)):=by
 refine ⟨?_⟩;have ha:=ha.h;have z:=z.h;intro Go s σ H D I h;refine plainObj_wpAny_Assign_Attribute (thn (z Go s σ H _ I h) λu s1=>x5e λy H1 S G q=>thn (ha Go s1 σ H1 _ S q) λov s2=>x5e λx H2 U F O=>?_) hs;obtain ⟨a,dx,fs,ex,ea,l,Z⟩:=O;subst ex;obtain rfl:ov=M3 a:=F;exact uf U ea c n l G λs3 J=>⟨σ,_,J,Z⟩
structure GF(P:M8)(w:Nl)(K:KE)(mg:Str->Option Value)(base:Heap)(cm:Bool)(k:Nat)(x:Str)(ps:List Str)(sp:Sp):Prop where
 ex:∃(f:Addr)(fd:M9),zm P w K mg base CX0 cm k f fd ps sp/\mg x=some (.ref f)/\QL K (.ref f)=true/\bo K fd ps []
structure GX(P:M8)(w:Nl)(K:KE)(mg:Str->Option Value)(base:Heap)(cm:Bool)(k:Nat)(x:Str)(ps:List Str)(sp:Sp):Prop where
 ex:∃(f:Addr)(fd:M9),zm P w K mg base (CXW P w) cm k f fd ps sp/\mg x=some (.ref f)/\QL K (.ref f)=true/\bo K fd ps []
structure GM(P:M8)(w:Nl)(K:KE)(mg:Str->Option Value)(base:Heap)(cm:Bool)(k:Nat)(C:Addr)(m:Str)(ps:List Str)(sp:Sp):Prop where
 ex:∃(f:Addr)(fd:M9),zm P w K mg base CX0 cm k f fd ps sp/\gn K C m f/\bo K fd ps []
structure GMX(P:M8)(w:Nl)(K:KE)(mg:Str->Option Value)(base:Heap)(cm:Bool)(k:Nat)(C:Addr)(m:Str)(ps:List Str)(sp:Sp):Prop where
 ex:∃(f:Addr)(fd:M9),zm P w K mg base (CXW P w) cm k f fd ps sp/\gn K C m f/\bo K fd ps []
structure GC(P:M8)(w:Nl)(K:KE)(mg:Str->Option Value)(base:Heap)(cm:Bool)(k:Nat)(x:Str)(C:Addr)(ps:List Str)(sp:Sp):Prop where
 ex:∃(f:Addr)(fd:M9),zm P w K mg base CX0 cm k f fd ps sp/\mg x=some (.ref C)/\Mk K C f/\bo K fd ps []
variable {cm:Bool}{k j:Nat}{x m:Str}{C:Addr}{ps:List Str}{sp:Sp}{e o:Nr}{es:List Nr}{t:TA}{ta:TE}{p pos Z3:Pos}{Ex:Addr->St->Hp->Prop}
theorem zq(G:GF X.prog X.w X.K X.mg X.base cm j x ps sp)(hr:zG cm k X.A)(hg:Gl X x)(ha:W (PA X (e::es) t))(O:j<=k:=by decide)(U:(x==("__debug__":Str))=false:=by decide)(J:zW e=true:=by rfl)(z:dF es=true:=by rfl):W (PE X (.Call (.Name x p) (e::es) [] pos) (jE sp [] E0 t)):=by
 refine ⟨?_⟩;have ha:=ha.h;obtain ⟨f,fd,F,hm,S,hb⟩:=G.ex;exact Dz F (hr.mono O) hg hm S hb .nil i6 ha U (dr J) (fe z)
theorem qk(T:bK X Ex)(G:GX X.prog X.w X.K X.mg X.base cm j x ps sp)(hr:zG cm k X.A)(hg:Gl X x)(ha:W (PA X (e::es) t))(O:j<=k:=by decide)(U:(x==("__debug__":Str))=false:=by decide)(J:zW e=true:=by rfl)(z:dF es=true:=by rfl):W (PE X (.Call (.Name x p) (e::es) [] pos) (kI sp [] Ex t)):=by
 refine ⟨?_⟩;have ha:=ha.h;obtain ⟨f,fd,F,hm,S,hb⟩:=G.ex;exact J5 T F (hr.mono O) hg hm S hb .nil ha U (dr J) (fe z)
theorem cb(he:W (PE X o ta))(c:Cls X.K C)(G:GM X.prog X.w X.K X.mg X.base cm j C m ps sp)(hr:zG cm k X.A)(ha:W (PA X (e::es) t))(S:j<=k:=by decide)(O:zW e=true:=by rfl)(z:dF es=true:=by rfl)(J:NT (.Call (.Attribute o m Z3) (e::es) [] pos) X.env=(do
   let ov<-NT o X.env
   P0 Z3.atName
   let (f,first)<-Pr [ov] (Qf ov m pl)
   PU pos f first (OT pos (Nq (e::es) X.env)) (QX pos (Pl [] X.env))):=by rfl):W (PE X (.Call (.Attribute o m Z3) (e::es) [] pos) (eW C m sp [] E0 ta t)):=by
 refine ⟨?_⟩;have he:=he.h;have ha:=ha.h;obtain ⟨f,fd,F,hm,hb⟩:=G.ex;exact Fn he c hm F (hr.mono S) hb .nil i6 ha (dr O) (fe z) J
theorem bb(he:W (PE X o ta))(c:Cls X.K C)(G:GM X.prog X.w X.K X.mg X.base cm j C m ps sp)(hr:zG cm k X.A)(J:j<=k:=by decide)(z:NT (.Call (.Attribute o m Z3) [] [] pos) X.env=(do
   let ov<-NT o X.env
   P0 Z3.atName
   let (f,first)<-Pr [ov] (Qf ov m pl)
   PU pos f first (OT pos (Nq [] X.env)) (QX pos (Pl [] X.env))):=by rfl):W (PE X (.Call (.Attribute o m Z3) [] [] pos) (eW C m sp [] E0 ta bQ)):=by
 refine ⟨?_⟩;have he:=he.h;obtain ⟨f,fd,F,hm,hb⟩:=G.ex;exact Le he c hm F (hr.mono J) hb .nil i6 z
theorem hU(he:W (PE X o ta))(c:Cls X.K C)(T:bK X Ex)(G:GMX X.prog X.w X.K X.mg X.base cm j C m ps sp)(hr:zG cm k X.A)(ha:W (PA X (e::es) t))(S:j<=k:=by decide)(O:zW e=true:=by rfl)(z:dF es=true:=by rfl)(J:NT (.Call (.Attribute o m Z3) (e::es) [] pos) X.env=(do
   let ov<-NT o X.env
   P0 Z3.atName
   let (f,first)<-Pr [ov] (Qf ov m pl)
   PU pos f first (OT pos (Nq (e::es) X.env)) (QX pos (Pl [] X.env))):=by rfl):W (PE X (.Call (.Attribute o m Z3) (e::es) [] pos) (eX C m sp [] Ex ta t)):=by
 refine ⟨?_⟩;have he:=he.h;have ha:=ha.h;obtain ⟨f,fd,F,hm,hb⟩:=G.ex;exact LN he c hm T F (hr.mono S) hb .nil ha (dr O) (fe z) J
theorem ij(he:W (PE X o ta))(c:Cls X.K C)(T:bK X Ex)(G:GMX X.prog X.w X.K X.mg X.base cm j C m ps sp)(hr:zG cm k X.A)(J:j<=k:=by decide)(z:NT (.Call (.Attribute o m Z3) [] [] pos) X.env=(do
   let ov<-NT o X.env
   P0 Z3.atName
   let (f,first)<-Pr [ov] (Qf ov m pl)
   PU pos f first (OT pos (Nq [] X.env)) (QX pos (Pl [] X.env))):=by rfl):W (PE X (.Call (.Attribute o m Z3) [] [] pos) (eX C m sp [] Ex ta bQ)):=by
 refine ⟨?_⟩;have he:=he.h;obtain ⟨f,fd,F,hm,hb⟩:=G.ex;exact Gz he c hm T F (hr.mono J) hb .nil z
structure qi(H:Hp)(C x dx:Addr)(H':Hp):Prop where
 no:H x=none
 nod:H dx=none
 ne:dx≠x
 at_:H' x=some (.ins C dx [])
 own:H' dx=some (.own x)
 same:zi H H'
theorem qi.mk'{C x dx:Addr}(h:H x=none)(hd:H dx=none)(ne:dx≠x):qi H C x dx (upd (upd H dx (.own x)) x (.ins C dx [])) :=
 ⟨h,hd,ne,zx,by rw [zd ne,zx],λb u e=>by rw [zd (zC e h),zd (zC e hd)];exact e⟩
def kr(C:Addr)(sp:Sp)(t:TA):TE:=λσ H Q=>t σ H λvs H1=>∀x dx H2,qi H1 C x dx H2->sp (.ref x::vs) H2 (λv H3=>v = .non/\Q (.ref x) H3) E0
theorem PA.any{es:List Nr}{t:TA}(h:PA X es t):PA X es (λσ H Q=>∃R:List V->Hp->Prop,t σ H R/\∀xs H,R xs H->Q xs H):=λpos Go s σ H Q I=>x3e λR q z=>AG z h pos Go s σ H I q
theorem jT(G:GC X.prog X.w X.K X.mg X.base cm j x C ps sp)(hr:zG cm k X.A)(hg:Gl X x)(ha:W (PA X (e::es) t))(S:j+1<=k:=by decide)(J:(x==("__debug__":Str))=false:=by decide)(O:zW e=true:=by rfl)(z:dF es=true:=by rfl):W (PE X (.Call (.Name x p) (e::es) [] pos) (kr C sp t)):=by
 refine ⟨?_⟩;have ha:=ha.h;obtain ⟨f,fd,F,hm,M,hb⟩:=G.ex;intro Go s σ H Q I h;exact IS M F (hr.mono S) hg hm hb .nil i6 ha.any J (dr O) (fe z) Go s σ H Q I ⟨_,h,λvs H1 q x dx hx hd ne=>by rw [Oz];exact q x dx _ (.mk' hx hd ne)⟩
theorem vM{pos:Pos}(hg:Gl X x)(hm:∃u,X.mg x=some u/\zo v u)(hd:(x==("__debug__":Str))=false:=by decide):PE X (.Name x pos) (tC v):=by
 obtain ⟨u,hm,r⟩:=hm;exact KO hg hm r hd
theorem fN{o e:Nr}{Z3 cpos:Pos}(ho:W (PE X o to))(he:W (PE X e te))(ZH:Oi o "append" X.env (NT o X.env)=NT o X.env:=by rfl)(ZG:(Z3.endLine==cpos.line)=true:=by rfl)(hp:zW e=true:=by rfl):W (PE X (.Call (.Attribute o "append" Z3) [e] [] cpos) (rL to te)):=by
 refine ⟨?_⟩;have ho:=ho.h;have he:=he.h;intro Go s σ H Q I h;have hs:Nq [e] X.env=[(false,NT e X.env)]:=cw hp;refine Ox ZH (by rw [hs];rfl) ZG rfl (thn (ho Go s σ H _ I h) λv s1=>x5e λx H1 Z S J=>?_);obtain ⟨l,ex,⟨xs,hx⟩,q1⟩:=J;subst ex;obtain ⟨h1,h2⟩:=gW (T:="list") Z S (.inl ⟨rfl,xs,SqL.of hx⟩);refine ⟨"list","list.append",Q5,PySem.F.slot_list_append,PySem.F.type_list_append,h1,h2,?_⟩;rw [hs];refine Calls.callWith_builtin rfl (Calls.evalArgs_plain ?_);have U:=dS he d6 (hs:=hs) cpos Go s1 σ H1 (λys H2=>cf (λy=>∃xs,H2 l=some (.lst xs)/\xs.length<sizeLine/\Q .non (upd H2 l (.lst (xs++[y])))) ys) Z q1;rw [hs] at U;refine thn U λus s2=>x5e λvs H2 I2 r2 O=>?_;obtain ⟨y,rfl,z,G,X6,O⟩:=cf.ex O;exact Kw Go s2 σ H2 (.ref l) [y] v us Q I2 S r2 ⟨l,z,y,rfl,rfl,G,X6,O⟩
end
section
variable {X:Cx}
def eR:List V->Hp->VK->Prop:=λxs H Q=>(∃i,xs=[.int i]/\Q (.int i) H)\/∃k,xs=[.bl k]/\Q (.int (if k then 1 else 0)) H
theorem A6:zN X (.type "int") eR:=Hs
def gz:List V->Hp->VK->Prop:=λxs H Q=>∃i,xs=[.int i]/\i.natAbs.log2<1920/\Q (.str (toString i)) H
theorem Js:zN X (.type "str") gz:=FK
theorem Mv:eR [.int i] H Q=Q (.int i) H:=by simp [eR]
theorem Co{k:Bool}:eR [.bl k] H Q=Q (.int (if k then 1 else 0)) H:=by simp [eR]
theorem AZ:gz [.int i] H Q=(i.natAbs.log2<1920/\Q (.str (toString i)) H):=by simp [gz]
def mR:List V->Hp->VK->Prop:=λxs H Q=>∃i j,xs=[.int i,.int j]/\Q (.int (if j>i then j else i)) H
def sC:List V->Hp->VK->Prop:=λxs H Q=>∃i j,xs=[.int i,.int j]/\Q (.int (if j<i then j else i)) H
theorem D4(hc:X.calm=true):zN X (.builtin "max") mR:=FO hc
theorem pS(hc:X.calm=true):zN X (.builtin "min") sC:=B7 hc
theorem qR:mR [.int i,.int j] H Q=Q (.int (if j>i then j else i)) H:=by
 apply propext;constructor
 .rintro ⟨a,b,e,q⟩;cases e;exact q
 .exact λq=>⟨i,j,rfl,q⟩
theorem JX:sC [.int i,.int j] H Q=Q (.int (if j<i then j else i)) H:=by
 apply propext;constructor
 .rintro ⟨a,b,e,q⟩;cases e;exact q
 .exact λq=>⟨i,j,rfl,q⟩
end
section
variable {Y:Cx}{sc:Scope}{N':List Str}{Go:List (Addr×Obj)}{D:Addr}{fp:List Addr}{s:p8}{H:Hp}
theorem hV{k:Nat}{t:TGs}(h:W (PGs (zS Y sc N' Go D fp s H) es t))(hl:(OP es (zS Y sc N' Go D fp s H).env).length=n:=by rfl)(hst:(OP es (zS Y sc N' Go D fp s H).env).findIdx? (·.1)=none:=by rfl):W (PG (zS Y sc N' Go D fp s H) (.Tuple es k pos) (pM Y.K n t)):=by refine ⟨?_⟩;have h:=h.h;exact wJ h hl hst
end
theorem B6{t:TG}{r:List V}:oZ t u (v::r) σ H Q=t v σ H λz H'=>u r z H' Q:=by
 apply propext;constructor
 .rintro ⟨v,r,e,h⟩;cases e;exact h
 .exact λh=>⟨v,r,rfl,h⟩
theorem Lz:xM [] σ H Q=Q σ H:=by
 apply propext;constructor
 .exact λh=>h.2
 .exact λh=>⟨rfl,h⟩
section
variable {H:Hp}{Q:VK}{i j:Int}{x y:Str}{a b:Addr}{K:KE}{g:Int->Int->V}{C:Int->Int->Prop}{k c:Bool}{QB:Bool->Hp->Prop}
theorem w9:eE (.int i) (.int j) H Q=Q (.int (i+j)) H:=by simp [eE]
theorem xE:eE (.str x) (.str y) H Q=(x.length+y.length<=sizeLine/\Q (.str (x++y)) H):=by simp [eE]
theorem nE:eE (.ref a) (.ref b) H Q = ∃xs zs,H a=some (.lst xs)/\H b=some (.lst zs)/\xs.length+zs.length<=sizeLine/\∀p H2,New H p (.lst (xs++zs)) H2->Q (.ref p) H2:=by simp [eE]
theorem sV:e9 (.int i) (.int j) H Q=(gJ i j/\Q (.int (i*j)) H):=by simp [e9]
theorem FE:e9 (.ref a) (.int i) H Q = ∃xs,H a=some (.lst xs)/\-(2 ^ 63)<=i/\i<2 ^ 63/\xs.length*i.toNat<=sizeLine/\∀p H2,New H p (.lst (Nw i.toNat xs).flatten) H2->Q (.ref p) H2:=by simp [e9]
theorem ui:uIx (.ref a) (.int i) H Q = ∃xs,(H a=some (.lst xs)\/H a=some (.tup xs))/\∃v,atI xs i=some v/\Q v H:=by
 apply propext;constructor
 .rintro (⟨p,xs,i,v,F,G,h,r⟩|⟨p,xs,i,v,F,G,h,r⟩|⟨z,i,c,e,_⟩)
  .cases F;cases G;exact ⟨xs,.inl h,v,r⟩
  .cases F;cases G;exact ⟨xs,.inr h,v,r⟩
  .cases e
 .rintro ⟨xs,h|h,v,r⟩
  .exact .inl ⟨_,xs,_,v,rfl,rfl,h,r⟩
  .exact .inr (.inl ⟨_,xs,_,v,rfl,rfl,h,r⟩)
theorem uW:uIx (.str x) (.int i) H Q=(x.length<=sizeLine/\∃c,atI x.cps.toList i=some c/\Q (.str ⟨#[c]⟩) H):=by simp [uIx]
theorem vt:jM [.ref a] H Q = ∃ys,(H a=some (.lst ys)\/H a=some (.tup ys))/\Q (.int ys.length) H:=by
 apply propext;constructor
 .rintro (⟨p,xs,F,h,r⟩|⟨p,xs,F,h,r⟩|⟨z,e,_⟩)
  .cases F;exact ⟨xs,.inl h,r⟩
  .cases F;exact ⟨xs,.inr h,r⟩
  .cases e
 .rintro ⟨xs,h|h,r⟩
  .exact .inl ⟨_,xs,rfl,h,r⟩
  .exact .inr (.inl ⟨_,xs,rfl,h,r⟩)
theorem AM:jM [.str x] H Q=(x.length<=sizeLine/\Q (.int x.length) H):=by simp [jM]
theorem MN:rI C g (.int i) (.int j) H Q=(C i j/\Q (g i j) H):=by simp [rI]
theorem ud:rI0 g (.int i) (.int j) H Q=Q (g i j) H:=by simp [rI0]
theorem EF{g:Int->V}:rU g (.int i) H Q=Q (g i) H:=by simp [rU]
theorem wW:uEq c (.int i) (.int j) H Q=Q (.bl (if c then !decide (i=j) else decide (i=j))) H:=by simp [uEq,fO]
theorem wk:uEq c (.str x) (.str y) H Q=Q (.bl (if c then !decide (x=y) else decide (x=y))) H:=by simp [uEq,fO]
theorem Af:uEq c (.bl k) (.bl k') H Q=Q (.bl (if c then !decide (k=k') else decide (k=k'))) H:=by simp [uEq,fO]
theorem tQ:uEq c (.ref a) (.ref b) H Q = ∃xs ys,H a=some (.lst xs)/\H b=some (.lst ys)/\xs.all zV=true/\ys.all zV=true/\Q (.bl (if c then !eqL xs ys else eqL xs ys)) H:=by simp [uEq,fO]
def gi(K:KE)(v:V)(H:Hp)(Q:Bool->Hp->Prop):Prop:=∃k,fP K v H k/\Q k H
theorem Mj:gi K (.bl k) H QB=QB k H:=by simp [gi,fP]
theorem BY:gi K .non H QB=QB false H:=by simp [gi,fP]
theorem HL:gi K (.int i) H QB=QB (i != 0) H:=by simp [gi,fP]
theorem GY:wm K ta σ H QB=ta σ H λx H'=>gi K x H' QB:=rfl
def uB(v:V)(q:Bool->Prop):Prop:=∃c,v = .bl c/\q c
theorem F0:uB (.bl k) q=q k:=by simp [uB]
theorem MR{t:TE}:k8 t σ H QB=t σ H λx H1=>uB x λc=>QB c H1:=rfl
theorem Gn{t u:TE}:qc t u σ H Q=t σ H λx H1=>uB x λc=>if c=true then u σ H1 Q else Q (.bl false) H1:=rfl
theorem GV{t u:TE}:xV t u σ H Q=t σ H λx H1=>uB x λc=>if c=true then Q (.bl true) H1 else u σ H1 Q:=rfl
theorem Jn{t:TE}:qF t σ H Q=t σ H λx H1=>uB x λc=>Q (.bl (!c)) H1:=rfl
theorem Mt{r r':R2}:vR r r' ta tb tc σ H Q=ta σ H λx H1=>tb σ H1 λy H2=>r x y H2 λz H3=>uB z λk=>if k=true then tc σ H3 λw' H4=>r' y w' H4 Q else Q (.bl false) H3:=rfl
theorem rJ:uR (.ref a) q=q a:=by simp [uR]
theorem Iz{C:Addr}:km C ta f σ H Q=ta σ H λx H1=>uR x λa=>∃dx fs v,H1 a=some (.ins C dx fs)/\fs.lookup f=some v/\Q v H1:=by
 unfold km uR;congr;funext x H1;apply propext;constructor
 .rintro ⟨a,dx,fs,v,h1,h2,h3,h4⟩;exact ⟨a,h1,dx,fs,v,h2,h3,h4⟩
 .rintro ⟨a,h1,dx,fs,v,h2,h3,h4⟩;exact ⟨a,dx,fs,v,h1,h2,h3,h4⟩
theorem Li{C:Addr}{ta tv:TE}:lQ C ta tv f D σ H=tv σ H λy H1=>ta σ H1 λx H2=>uR x λa=>∃dx fs,H2 a=some (.ins C dx fs)/\fs.length<1000/\D.nx σ (upd H2 a (.ins C dx (zR f y fs))):=by
 unfold lQ uR;congr;funext x H1;congr;funext x2 H2;apply propext;constructor
 .rintro ⟨a,dx,fs,h1,h2,h3,h4⟩;exact ⟨a,h1,dx,fs,h2,h3,h4⟩
 .rintro ⟨a,h1,dx,fs,h2,h3,h4⟩;exact ⟨a,dx,fs,h1,h2,h3,h4⟩
theorem Ip{C:Addr}{t:TA}:eW C m sp Zq E ta t σ H Q=ta σ H λx H1=>uR x λa=>∃dx fs,H1 a=some (.ins C dx fs)/\fs.lookup m=none/\t σ H1 λvs H2=>sp (.ref a::(vs++Zq)) H2 Q E:=by
 unfold eW uR;congr;funext x H1;apply propext;constructor
 .rintro ⟨a,dx,fs,rfl,h2,h3,h4⟩;exact ⟨a,rfl,dx,fs,h2,h3,h4⟩
 .rintro ⟨a,rfl,dx,fs,h2,h3,h4⟩;exact ⟨a,dx,fs,rfl,h2,h3,h4⟩
theorem GW{C:Addr}{t:TA}:eX C m sp Zq Ex ta t σ H Q=ta σ H λx H1=>uR x λa=>∃dx fs,H1 a=some (.ins C dx fs)/\fs.lookup m=none/\t σ H1 λvs H2=>sp (.ref a::(vs++Zq)) H2 Q (XE Ex σ):=by
 unfold eX uR;congr;funext x H1;apply propext;constructor
 .rintro ⟨a,dx,fs,rfl,h2,h3,h4⟩;exact ⟨a,rfl,dx,fs,h2,h3,h4⟩
 .rintro ⟨a,rfl,dx,fs,h2,h3,h4⟩;exact ⟨a,dx,fs,rfl,h2,h3,h4⟩
end
section
variable {K:KE}{g:TG}{tb:TS}{D:aK}{σ:St}{H:Hp}{ta:TA}{tl:TE}{wi:TI}{R:It->Hp->Prop}{j:Int}{tt:TT}{te:TE}{ix:List (Option Nat)}{Q:VK}
def ao(J:It)(g:TG)(tb:TS)(D:aK)(σ:St)(H:Hp):Prop:=∃W:Nat->Nat->St->Hp->Prop,(∃m,W 0 m σ H)/\∀i m σ H,W i m σ H ->
 (J.stop i H/\D.nx σ H)\/(J.go i H/\∃N:St->Hp->Prop,(∀z H',N z H'->∃G,G<m/\W (i+1) G z H')/\∀x H',J.U2 i H x H'->g x σ H' λF H2=>tb { D with nx:=N,ct:=N,bk:=D.nx } F H2)
theorem Gd:tV wi g tb D σ H=wi σ H λJ H1=>ao J g tb D σ H1:=rfl
def uI1(vs:List V)(q:Int->Prop):Prop:=∃j,vs=[.int j]/\q j
theorem KR:uI1 [.int j] q=q j:=by simp [uI1]
theorem Lm:iR ta σ H R=ta σ H λvs H1=>uI1 vs λj=>-(2 ^ 62)<=j/\j<2 ^ 62/\R (Itr 0 j.toNat) H1:=rfl
theorem Dg:jf K tl σ H R=tl σ H λx H1=>uR x λa=>(∃xs,SqL K H1 a xs)/\R (Itl K a) H1:=rfl
def uR2(vs:List V)(q:Addr->Addr->Prop):Prop:=∃a b,vs=[.ref a,.ref b]/\q a b
theorem Gr:uR2 [.ref a,.ref b] q=q a b:=by
 apply propext;constructor
 .rintro ⟨c,d,e,h⟩;cases e;exact h
 .exact λh=>⟨a,b,rfl,h⟩
def zX(J:It)(g:TG)(tt:TT)(te:TE)(τ:St)(H:Hp)(Q:VK):Prop:=∃W:Nat->Nat->St->List V->Hp->Prop,(∃m,W 0 m τ [] H)/\∀i m τ ys H2,W i m τ ys H2->ys.length<sizeLine /\
 ((J.stop i H2 ∧ ∀ D, H2 D = none → D ≠ sysModules → Q (.ref D) (upd H2 D (.lst ys))) ∨
  (J.go i H2 ∧ ∀ x H3, J.U2 i H2 x H3 → g x τ H3 fun z H4 => tt z H4 fun ok H5 => if ok = true then te z H5 fun y H6 => ∃ F, F < m ∧ W (i + 1) F z (ys ++ [y]) H6 else ∃ F, F < m ∧ W (i + 1) F z ys H5))
theorem Ms:tLC ix wi g tt te σ H Q=wi σ H λJ H1=>zX J g tt te (cn ix σ) H1 Q:=rfl
theorem ao.rng{lo:Int}(z:Nat->St->Hp->Prop)(G:z 0 σ H)(hs:∀i σ H,i<n->z i σ H->g (.int (lo+i)) σ H λF H2=>tb { D with nx:=z (i+1),ct:=z (i+1),bk:=D.nx } F H2)(hd:∀σ H,z n σ H->D.nx σ H):ao (Itr lo n) g tb D σ H:=J2 z G hs hd
theorem ao.lst{a:Addr}{xs:List V}(z:Nat->St->Hp->Prop)(G:z 0 σ H)(hl:∀i σ H,i<=xs.length->z i σ H->SqL K H a xs)
  (hs:∀i x σ H,xs[i]?=some x->z i σ H->g x σ H λF H2=>tb { D with nx:=z (i+1),ct:=z (i+1),bk:=D.nx } F H2) (hd:∀σ H,z xs.length σ H->D.nx σ H):ao (Itl K a) g tb D σ H:=L8 z G hl hs hd
def dH(N:St->List V->Hp->Prop)(ys:List V)(z:St)(te:TE)(ok:Bool)(H5:Hp):Prop:=if ok=true then te z H5 λy H6=>N z (ys++[y]) H6 else N z ys H5
theorem MC:dH N ys τ te true H=te τ H λy H6=>N τ (ys++[y]) H6:=rfl
theorem E1:dH N ys τ te false H=N τ ys H:=rfl
theorem zX.rng{lo:Int}(F:Nat->St->List V->Hp->Prop)(S:∀i τ ys H,F i τ ys H->ys.length<sizeLine)(U:F 0 τ [] H)(hs:∀(N:St->List V->Hp->Prop) i τ ys H,i<n->F i τ ys H->(∀τ ys H,F (i+1) τ ys H->N τ ys H)->g (.int (lo+i)) τ H λz H4=>tt z H4 λok H5=>dH N ys z te ok H5)(hd:∀τ ys H,F n τ ys H->∀D H',New H D (.lst ys) H'->Q (.ref D) H'):zX (Itr lo n) g tt te τ H Q:=by
 refine ⟨λi m τ ys H=>m=n-i/\i<=n/\F i τ ys H,⟨n,by simp,NV _,U⟩,?_⟩;rintro i m τ ys H2 ⟨rfl,hi,p⟩;refine ⟨S i τ ys H2 p,?_⟩;by_cases G:i<n
 .refine .inr ⟨G,λx H' y=>?_⟩;obtain ⟨e,y⟩:=y;subst e y;exact hs (λz ys H=>∃J,J<n-i/\J=n-(i+1)/\i+1<=n/\F (i+1) z ys H) i τ ys _ G p λz zs H q=>⟨n-(i+1),by lia,rfl,G,q⟩
 .have e:i=n:=by lia
  subst e;exact .inl ⟨zv _,λD O _=>hd τ ys H2 p D _ (.mk' O)⟩
end
section
variable {X:Cx}
def ju:V->Option Int->Option Int->Hp->VK->Prop:=λx lo hi H Q=>∃z,x = .str z/\z.length<=sizeLine/\Q (.str (Txt.slice z lo hi)) H
theorem FH{h:Heap}{lo hi:Option Int}(hs:h.IsSliceOf sl F G .none)(pl:Ry F lo)(z:Ry G hi):∃l u:Option (Int×Tok),h.IsSlice sl l u none/\l.map (·.1)=lo/\u.map (·.1)=hi:=by
 obtain ⟨o,h1,h2,h3⟩:=hs;cases pl with
 | none =>
  cases z with
  | none=>exact ⟨none,none,⟨o,h1,h2,h3⟩,rfl,rfl⟩
  | int j t=>exact ⟨none,some (j,t),⟨o,h1,h2,h3⟩,rfl,rfl⟩
 | int i t' =>
  cases z with
  | none=>exact ⟨some (i,t'),none,⟨o,h1,h2,h3⟩,rfl,rfl⟩
  | int j t=>exact ⟨some (i,t'),some (j,t),⟨o,h1,h2,h3⟩,rfl,rfl⟩
theorem MK:SlR X ju:=by
 intro Go s σ H x v Z vu lo hi sl Q I J hs pl G h;obtain ⟨z,rfl,O,q⟩:=h;obtain ⟨t,rfl⟩:=J;obtain ⟨l,u,U,S,W⟩:=FH hs pl G;subst S W;exact ⟨"str",_,F.slot_str_getitem.lookup,QK _ _ _,wpAny_getItem_str_slice (l:=l) (u:=u) (st:=none) U rfl
  (post_val_or_str ⟨Nx (Txt.slice_le z _ _) O,λt' k=>⟨.str _,H,I.tok k,⟨_,rfl⟩,q⟩⟩)⟩
def uSl:V->Option Int->Option Int->Hp->VK->Prop:=λx lo hi H Q=>(∃a xs,x = .ref a/\H a=some (.lst xs)/\∀p H2,New H p (.lst (aY xs lo hi)) H2->Q (.ref p) H2)\/ju x lo hi H Q
theorem SlR.weak{r r':V->Option Int->Option Int->Hp->VK->Prop}(h:SlR X r)(G:∀x l u H Q,r' x l u H Q->r x l u H Q):SlR X r' :=
 λGo s σ H x v J O lo hi sl Q I F hs pl z q=>h Go s σ H x v J O lo hi sl Q I F hs pl z (G _ _ _ _ _ q)
theorem fC:SlR X uSl:=((MT (X:=X)).or MK).weak λx l u H Q h=>by
 rcases h with ⟨a,xs,e,h,q⟩|h
 .exact .inl ⟨a,xs,e,SqL.of h,λp z=>q p _ (.mk' z)⟩
 .exact .inr h
def pR(v:V)(q:Int->Prop):Prop:=∃i,v = .int i/\q i
theorem ue:pR (.int i) q=q i:=by simp [pR]
theorem HA{t:TE}:xp t σ H Q=t σ H λx H1=>pR x λi=>Q (some i) H1:=rfl
theorem wV{lo hi:Option Int}:uSl (.str z) lo hi H Q=(z.length<=sizeLine/\Q (.str (Txt.slice z lo hi)) H):=by simp [uSl,ju]
theorem ph{lo hi:Option Int}:uSl (.ref a) lo hi H Q = ∃xs,H a=some (.lst xs)/\∀p H2,New H p (.lst (aY xs lo hi)) H2->Q (.ref p) H2:=by simp [uSl,ju]
theorem MB:∀{us:List Value},zp (ys.map V.str) us->StrsAre us ys:=by
 induction ys with
 | nil=>intro us r;rw [map_nil] at r;cases r;exact .nil
 | cons n ns G =>
  intro us r;rw [NO] at r;cases r with
  | cons z F =>
   obtain ⟨t,e⟩:=z;subst e;exact .cons n t (G F)
def iB:V->List V->Hp->VK->Prop:=λx vs H Q=>∃z p ys,x = .str z/\vs=[.ref p]/\H p=some (.lst (ys.map V.str))/\(ys.map (·.length)).sum+ys.length*z.length<=16777216/\Q (.str (Txt.join z ys)) H
theorem L5:MtR X "str.join" iB:=by
 intro Go s σ H x xs v us Q I J rs h;obtain ⟨z,p,ys,rfl,rfl,S,O,q⟩:=h;obtain ⟨t,rfl⟩:=J;cases rs with
 | cons F U =>
  cases U;cases (show _=M3 p from F);obtain ⟨its,r,G,_⟩:=I.list (SqL.of (K:=X.K) S);exact join_list G.isList (by simpa using MB r) O λt' k=>⟨.str _,H,I.tok k,⟨_,rfl⟩,q⟩
def ig(z:Str)(n:Nat):Str:=⟨((Nw n z.cps.toList).flatten).toArray⟩
theorem vn{α:Type}(l:List α):∀(n:Nat)(ZI:List α),foldl (λF z:Array α=>F++z) ZI.toArray (Nw n l.toArray)=(ZI++(Nw n l).flatten).toArray
 | 0,ZI=>by simp
 | n+1,ZI=>by
  rw [Os,QM,List.append_toArray,vn l n (ZI++l)];simp [Os]
theorem IT(z:Str)(n:Nat):(⟨(Nw n z.cps).foldl (·++·) #[]⟩:Str)=ig z n:=by
 have h:=vn z.cps.toList n [];unfold ig;congr 1
theorem uG{α:Type}(l:List α):∀n:Nat,((Nw n l).flatten).length=l.length*n
 | 0=>by simp
 | n+1=>by rw [Os,Qz,Nt,uG l n,Nat.mul_succ];lia
theorem Kg(z:Str)(n:Nat):(ig z n).length=z.length*n:=by
 show (((Nw n z.cps.toList).flatten).toArray).size=_;rw [Nc,uG];rfl
def h8:R2:=λx y H Q=>∃z n,x = .str z/\y = .int n/\1<n/\n<2 ^ 31/\z.length≠0/\z.length*n.toNat<=sizeLine/\Q (.str (ig z n.toNat)) H
theorem HB:OpR X (OE .Mult) h8:=by
 intro Go s σ H x y v u Q I G J h;obtain ⟨z,n,rfl,rfl,h1,h2,h3,h4,q⟩:=h;obtain ⟨t,rfl⟩:=G;obtain ⟨t',rfl⟩:=J;have hs:sizeLine=16777216:=NX;have hc:(n==1||z.length==0)=false:=by
  rw [Bool.or_eq_false_iff];exact ⟨beq_eq_false_iff_ne.mpr (by lia),beq_eq_false_iff_ne.mpr h3⟩
 have O:z.length<=16777216:=by
  have:z.length*1<=z.length*n.toNat:=Nat.mul_le_mul_left _ (by lia);lia
 refine PySem.P.mul_str ?_ ?_ ?_ ?_
 .rw [decide_eq_false (show ¬ n < -(2 ^ 63:Int) by lia),decide_eq_false (show ¬ n ≥ 2 ^ 63 by lia)];rfl
 .intro _ _ F;have:(16777216:Int)<=(2 ^ 63-1) / n:=Int.le_ediv_of_mul_le (by lia) (by lia);lia
 .intro _ _;exact decide_eq_false (by lia)
 .rw [if_neg (show ¬ n<1 by lia),if_neg (by rw [hc];exact M4),IT];exact ⟨by rw [Kg];lia,⟨.str _,H,I.tok _,⟨_,rfl⟩,q⟩⟩
theorem rZ{p:Addr}{k:Int}:qJ (.ref p) (.int k) v H Q = ∃xs j,H p=some (.lst xs)/\ixN xs.length k=some j/\Q (upd H p (.lst (xs.set j v))):=by
 apply propext;constructor
 .rintro ⟨G,xs,k',j,z,F,h⟩;cases z;cases F;exact ⟨xs,j,h⟩
 .rintro ⟨xs,j,h⟩;exact ⟨p,xs,k,j,rfl,rfl,h⟩
def xN:List V->Hp->VK->Prop:=λxs H Q=>∃p ys,xs=[.ref p]/\(H p=some (.lst ys)\/H p=some (.tup ys))/\∀l H2,New H l (.lst ys) H2->Q (.ref l) H2
theorem xG:zN X (.type "list") xN:=Ge.weak λxs H Q h=>by
 obtain ⟨p,ys,e,h1,q⟩:=h;exact ⟨p,ys,e,h1.elim (λh=>.inl (SqL.of h)) (λh=>.inr (SqT.of h)),λl hl=>q l _ (.mk' hl)⟩
theorem FP:xN [.ref a] H Q = ∃ys,(H a=some (.lst ys)\/H a=some (.tup ys))/\∀l H2,New H l (.lst ys) H2->Q (.ref l) H2:=by
 apply propext;constructor
 .rintro ⟨p,ys,e,h⟩;cases e;exact ⟨ys,h⟩
 .rintro ⟨ys,h⟩;exact ⟨a,ys,rfl,h⟩
def wj(to:TE):TE:=λσ H Q=>to σ H λx H1=>uR x λl=>∃xs,H1 l=some (.lst xs)/\Q .non (upd H1 l (.lst []))
theorem rY{o:Nr}(ho:W (PE X o to))(O:Oi o "clear" X.env (NT o X.env)=NT o X.env:=by rfl)(S:(Z3.endLine==cpos.line)=true:=by rfl):W (PE X (.Call (.Attribute o "clear" Z3) [] [] cpos) (wj to)):=by
 refine ⟨?_⟩;have ho:=ho.h;intro Go s σ H Q I h;refine wpAny_Call_method0_late O S (thn (ho Go s σ H _ I h) λv s1=>x5e λx H1 G z J=>?_);obtain ⟨l,ex,xs,hx,U⟩:=J;subst ex;obtain ⟨h1,h2⟩:=gW (T:="list") G z (.inl ⟨rfl,xs,SqL.of hx⟩);exact ⟨"list","list.clear",Q5,PySem.F.slot_list_clear,PySem.F.type_list_clear,h1,h2,Calls.callWith_builtin rfl (PySem.evalArgs_none (GD Go s1 σ H1 (.ref l) [] v [] Q G z .nil ⟨l,xs,rfl,rfl,hx,U⟩))⟩
theorem wb{p:Addr}:iB (.str z) [.ref p] H Q = ∃ys:List Str,H p=some (.lst (ys.map V.str))/\(ys.map (·.length)).sum+ys.length*z.length<=16777216/\Q (.str (Txt.join z ys)) H:=by
 apply propext;constructor
 .rintro ⟨J,O,ys,F,G,h⟩;cases F;cases G;exact ⟨ys,h⟩
 .rintro ⟨ys,h⟩;exact ⟨z,p,ys,rfl,rfl,h⟩
end
def Ite(K:KE)(a:Addr):It :=
 ⟨λi H=>∃xs x,SqL K H a xs/\xs[i]?=some x,λi H v H'=>∃T x,H T=none/\v = .ref T/\H'=upd H T (.tup [.int i,x])/\∀xs,SqL K H a xs->xs[i]?=some x,λi H=>∃xs,SqL K H a xs/\xs.length<=i⟩
structure Ks(e it l:Addr)(i:Nat)(h:Heap):Prop where
 z:∃YH,IsEnum h e it i YH
 a:h.IsListIter it l i
theorem Ln{P:M8}{w:Nl}{K:KE}{Zr:List Nr}{kk:Nat}{tp:Pos}{l e it:Addr}(Zw:e≠it) :
  cS true P w K (.Tuple Zr kk tp) (Ite K l) [e,it] e (Ks e it l) where
 mem:=by simp
 obj:=λi h st b hb=>by
  obtain ⟨⟨U,G⟩,⟨o4,F,_,d4⟩⟩:=st;simp only [MX,M1,or_false] at hb;rcases hb with rfl|rfl
  .exact ⟨_,G,λv q=>nomatch q⟩
  .exact ⟨_,F,λv q=>by rw [d4] at q;cases q⟩
 keep:=λi h h' st k=>by
  obtain ⟨⟨U,G⟩,F⟩:=st;exact ⟨⟨U,k _ (by simp) _ G⟩,F.at λo e=>k _ (by simp) o e⟩
 item:=by
  intro X hP Z hK hc i Go s σ H E I hf st hg;subst hP Z hK;obtain ⟨xs,x,W,hx⟩:=hg;obtain ⟨ag,XU,p1,ab⟩:=I.list W;obtain ⟨u1,ai,ak⟩:=XU.get hx;obtain ⟨⟨U,G⟩,F⟩:=st;refine wpAny_pyNext_enum_item G F p1.isList (x:=u1) (by simpa using ai) Zw λh' b1 b2 b3 b4 b5=>?_;refine ⟨_,rfl,wpAny_letOwnedTupleGo_enum (s:={ s with heap:=h',toks:=s.toks+1 }) b1 λh2 c1 c2=>?_⟩;have Xt:e<s.heap.objs.size:=Nj G;have nz:s.heap.objs.size≠e:=Pe Xt;have all:∀c o,c≠e->c≠it->s.heap.get? c=some o->h2.get? c=some o:=λc o n1 n2 q=>c2.extBut c o n1 (b5 c o n1 n2 q);have tT:h2.get? s.heap.objs.size=some { cls:=.type "tuple",data:=.seq #[.int i s.toks,u1] }:=c2.extBut _ _ nz b3;have S:H s.heap.objs.size=none:=I.hok.fresh (zv _);have XO:HOk X.prog X.w H h2:=λb u O=>by
   refine (I.hok b u O).stay (λc v hc q=>?_) (λ_ q=>q) λ_ _ q=>q;have J:∀d∈[e,it],c≠d:=λd hd w=>by
    have fd:=(hf d hd).1;rcases hc with k|k
    .rw [k] at w;rw [w,fd] at O;cases O
    .rw [w,fd] at k;cases k
   exact all c v (J e (by simp)) (J it (by simp)) q
  have aj:∀b o,s.heap.get? b=some o->b≠s.heap.objs.size:=λb o e=>NN (Nj e);have I2:Inv X Go σ (upd H s.heap.objs.size (.tup [.int i,x])) { s with heap:=h2,toks:=s.toks+1 }:=by
   refine I.step (g':=s.gens) (d':=s.drawn) (t':=s.toks+1) (ch:=[e,it]) (λb hb=>?_) (λb o _ _ hb q _=>?_) (λb o _ _ hb q _=>?_) (λb o _ q n=>?_) (λb o hb q=>?_) (λb ps q=>?_) (λb o u q=>?_) (λb ps q=>?_) (λm hm=>?_) (XO.add S ?_) I.bare
   .obtain ⟨f0,f1,f2,f3,f4,f5⟩:=hf b hb;exact ⟨f3,f1,f4,f5⟩
   .simp only [MX,M1,or_false,not_or] at hb;exact all b o hb.1 hb.2 q
   .simp only [MX,M1,or_false,not_or] at hb;exact ⟨o.slots,all b o hb.1 hb.2 q⟩
   .rw [zd (aj b o q)];exact n
   .simp only [MX,M1,or_false,not_or] at hb;exact ⟨o,all b o hb.1 hb.2 q⟩
   .rw [zd (zC q S)];exact q
   .rw [zd (zC q S)];exact q
   .exact ⟨#[],by rw [zd (zC q S),q];simp⟩
   .obtain ⟨o,es,ep,ho,r⟩:=hm;exact ⟨o,es,ep,all _ o (Ni (hf e (by simp)).2.1) (Ni (hf it (by simp)).2.1) ho,r⟩
   .exact ⟨by show 2<=sizeLine;decide,[.int i s.toks,u1],.cons ⟨_,rfl⟩ (.cons ak .nil),⟨_,tT,rfl,_,rfl⟩⟩
  refine ⟨.ref s.heap.objs.size,_,I2,rfl,⟨_,x,S,rfl,rfl,λzs hz=>by rw [I.Sx hz W];exact hx⟩,?_,λb hb=>?_⟩
  .exact ⟨⟨_,c1⟩,b2.extBut c2.extBut (Ni Zw)⟩
  .have ne:b≠s.heap.objs.size:=λq=>by
    have:b<s.heap.objs.size:=by
     simp only [MX,M1,or_false] at hb;obtain ⟨o4,F,_⟩:=F;rcases hb with rfl|rfl
     .exact Xt
     .exact Nj F
    exact absurd (q ▸ this) (ND _)
   rw [zd ne];exact (hf b hb).1
 done:=by
  intro X hP Z hK hc i Go s σ H E I hf st hg;subst hP Z hK;obtain ⟨xs,W,hx⟩:=hg;obtain ⟨ag,XU,p1,ab⟩:=I.list W;have hl:=XU.length;obtain ⟨⟨U,G⟩,F⟩:=st;refine wpAny_pyNext_enum_end (I.ok.hd (hc rfl)) G F p1.isList (by simp;lia) λh' up=>⟨rfl,?_⟩;refine I.step (g':=s.gens) (d':=s.drawn) (t':=s.toks) (ch:=[it]) (λb hb=>?_) (λb o _ _ hb q _=>?_) (λb o _ _ hb q _=>?_) (λ_ _ _ _ n=>n) (λb o hb q=>?_) (λ_ _ q=>q) (λ_ _ _ q=>q) (λb ps q=>⟨#[],by rw [q];simp⟩) (λm hm=>?_) (λb u O=>?_) I.bare
  .have XN:b∈[e,it]:=by simp only [MX,M1,or_false] at hb ⊢;exact .inr hb
   obtain ⟨f0,f1,f2,f3,f4,f5⟩:=hf b XN;exact ⟨f3,f1,f4,f5⟩
  .simp only [MX,M1,or_false] at hb;exact up b o hb q
  .simp only [MX,M1,or_false] at hb;exact ⟨o.slots,up b o hb q⟩
  .simp only [MX,M1,or_false] at hb;exact ⟨o,up b o hb q⟩
  .obtain ⟨o,es,ep,ho,r⟩:=hm;exact ⟨o,es,ep,up _ o (Ni (hf it (by simp)).2.1) ho,r⟩
  .refine (I.hok b u O).stay (λc v hc q=>?_) (λ_ q=>q) λ_ _ q=>q;have J:c≠it:=λw=>by
    have fd:=(hf it (by simp)).1;rcases hc with k|k
    .rw [k] at w;rw [w,fd] at O;cases O
    .rw [w,fd] at k;cases k
   exact up c v J q
 self:=λ_ _ _ _ _ st h=>by
  obtain ⟨U,G⟩:=st.z;exact Qx G h
section
variable {X:Cx}
def wa(K:KE)(ta:TA):TI:=λσ H R=>ta σ H λvs H1=>∃a,vs=[.ref a]/\(∃xs,SqL K H1 a xs)/\R (Ite K a) H1
theorem nA{tp p pos:Pos}(hg:Gl X "enumerate")(hm:X.mg "enumerate"=none)(ha:W (PA X [a] ta))(S:zW a=true:=by rfl):W (PIc true X (.Tuple Zr U tp) (.Call (.Name "enumerate" p) [a] [] pos) (wa X.K ta)):=by
 refine ⟨?_⟩;have ha:=ha.h;intro Go s σ H R I h;have hs:Nq [a] X.env=[(false,NT a X.env)]:=cw S;refine Call_ (dI I hg hm boot_enumerate (Od (thn (ha pos Go s σ H _ I h) λus s1=>x5e λvs H1 z G q1=>?_) hs rfl));obtain ⟨l1,e,⟨xs,h1⟩,q⟩:=q1;subst e;cases G with
 | cons r rr =>
  cases rr;cases (show _=M3 l1 from r);obtain ⟨O,XU,Z,_⟩:=z.list h1;refine call_enumerate_list Z.isList λh' F J a6 a7=>Qx (s:={ s1 with heap:=h' }) F ?_;refine ⟨_,_,_,_,H1,rfl,z.kept (t':=s1.toks) a7,Ln (Nat.succ_ne_self _),⟨⟨_,F⟩,J⟩,λb hb=>?_,q⟩;have le:s1.heap.objs.size<=b:=by
   simp only [MX,M1,or_false] at hb;rcases hb with rfl|rfl<;>lia
  exact z.SR le (z.hok.fresh le)
end
section
variable {K:KE}{g:TG}{tb:TS}{D:aK}{σ:St}{H:Hp}{ta:TA}{R:It->Hp->Prop}
def uR1(vs:List V)(q:Addr->Prop):Prop:=∃a,vs=[.ref a]/\q a
theorem fj:uR1 [.ref a] q=q a:=by
 apply propext;constructor
 .rintro ⟨c,e,h⟩;cases e;exact h
 .exact λh=>⟨a,rfl,h⟩
theorem J0:wa K ta σ H R=ta σ H λvs H1=>uR1 vs λa=>(∃xs,SqL K H1 a xs)/\R (Ite K a) H1:=rfl
theorem ao.enum(F:Nat->St->Hp->Prop)(O:F 0 σ H)(hl:∀i σ H,i<=xs.length->F i σ H->SqL K H a xs)(hs:∀i x p σ H,xs[i]?=some x->F i σ H->H p=none->g (.ref p) σ (upd H p (.tup [.int i,x])) λG H2=>tb { D with nx:=F (i+1),ct:=F (i+1),bk:=D.nx } G H2)(hd:∀σ H,F xs.length σ H->D.nx σ H):ao (Ite K a) g tb D σ H:=by
 refine ⟨λi m σ H=>m=xs.length-i/\i<=xs.length/\F i σ H,⟨xs.length,by simp,NV _,O⟩,?_⟩;rintro i m σ H ⟨rfl,hi,p⟩;have q:=hl i σ H hi p;by_cases J:i<xs.length
 .refine .inr ⟨⟨xs,xs[i],q,by simp [J]⟩,F (i+1),λW H' Z=>⟨xs.length-(i+1),by lia,rfl,J,Z⟩,λx H' y=>?_⟩;obtain ⟨T,z,S,rfl,rfl,U⟩:=y;exact hs i z T σ _ (U xs q) p S
 .have e:i=xs.length:=by lia
  subst e;exact .inl ⟨⟨xs,q,zv _⟩,hd σ H p⟩
end
section
variable {X:Cx}
def xw(C:Addr)(ta tv:TE)(G:V->V->Hp->VK->Prop)(f:Str):TS:=λD σ H=>ta σ H λx H1=>uR x λa=>∃dx fs v,H1 a=some (.ins C dx fs)/\fs.lookup f=some v /\
 tv σ H1 λy H2=>G v y H2 λz H3=>∃F fs',H3 a=some (.ins C F fs')/\fs'.length<1000/\D.nx σ (upd H3 a (.ins C F (zR f z fs')))
theorem Ak{o ZK:Nr}{ta tv:TE}(c:Cls X.K C)(n:bu X.K C f)(ha:W (PE X o ta))(J:W (PE X ZK tv))(F:l8 X op O):W (PS X (.AugAssign (.Attribute o f W9) op ZK pos) (xw C ta tv O f)):=by
 refine ⟨?_⟩;have ha:=ha.h;have J:=J.h;intro Go s σ H D I h;refine wpAny_AugAssign_AttributeAny (thn (ha Go s σ H _ I h) λov s1=>x5e λx H1 I1 rx Yw=>?_);obtain ⟨a,ex,dx,fs,v,ea,l,q⟩:=Yw;subst ex;obtain rfl:ov=M3 a:=rx;refine ve I1 ea c n l λu s2 I2 ru=>thn (J Go s2 σ H1 _ I2 q) λw3 s3=>x5e λy H2 U S q3=>thn (F Go s3 σ H2 v y u w3 _ U ru S q3) λw4 s4=>x5e λz H3 I4 rz Z=>?_;obtain ⟨ab,fs',G,l',q4⟩:=Z;exact uf I4 G c n l' rz λs5 I5=>⟨σ,_,I5,q4⟩
theorem Gx:p9 (.int i) (.int j) H Q=Q (.int (i+j)) H:=by simp [p9]
theorem Cg:oV (.int i) (.int j) H Q=Q (.int (i-j)) H:=by simp [oV]
def dP(neg:Bool):R2:=λx y H Q=>y = .non/\Q (.bl (if neg then !decide (x = .non) else decide (x = .non))) H
theorem gN:OpR X (NK .Is) (dP false):=GQ.weak λx y H Q h=>⟨h.1,by simpa using h.2⟩
theorem kH:OpR X (NK .IsNot) (dP true):=Lk.weak λx y H Q h=>⟨h.1,by simpa using h.2⟩
theorem Bc:dP c .non .non H Q=Q (.bl (if c then false else true)) H:=by simp [dP]
theorem Hk:dP c (.int i) .non H Q=Q (.bl (if c then true else false)) H:=by simp [dP]
def f9:R2:=λx y H Q=>e9 x y H Q\/h8 x y H Q
theorem dC:OpR X (OE .Mult) f9:=Cm.or HB
theorem yS:f9 (.int i) (.int j) H Q=(gJ i j/\Q (.int (i*j)) H):=by simp [f9,sV,h8]
theorem KS:f9 (.ref a) (.int i) H Q=e9 (.ref a) (.int i) H Q:=by simp [f9,h8]
theorem EV:f9 (.str z) (.int i) H Q=(1<i/\i<2 ^ 31/\z.length≠0/\z.length*i.toNat<=sizeLine/\Q (.str (ig z i.toNat)) H):=by
 simp [f9,e9,h8]
def uS(v:V)(q:Str->Prop):Prop:=∃z,v = .str z/\q z
theorem qX:uS (.str z) q=q z:=by simp [uS]
def yN(to te:TE):TE:=λσ H Q=>to σ H λx H1=>uS x λz=>te σ H1 λy H2=>iB (.str z) [y] H2 Q
theorem Jc{o e:Nr}(ho:W (PE X o to))(he:W (PE X e te))(ZH:Oi o "join" X.env (NT o X.env)=NT o X.env:=by rfl)(ZG:(Z3.endLine==cpos.line)=true:=by rfl)(Z:zW e=true:=by rfl):W (PE X (.Call (.Attribute o "join" Z3) [e] [] cpos) (yN to te)):=by
 refine ⟨?_⟩;have ho:=ho.h;have he:=he.h;intro Go s σ H Q I h;have hs:Nq [e] X.env=[(false,NT e X.env)]:=cw Z;refine Ox ZH (by rw [hs];rfl) ZG rfl (thn (ho Go s σ H _ I h) λv s1=>x5e λx H1 U O G=>?_);obtain ⟨z,ex,q1⟩:=G;subst ex;obtain ⟨h1,h2⟩:=gW (T:="str") U O rfl;refine ⟨"str","str.join",PySem.F.plainAttrs_str,PySem.F.slot_str_join,PySem.F.type_str_join,h1,h2,?_⟩;rw [hs];refine Calls.callWith_builtin rfl (Calls.evalArgs_plain ?_);have S:=dS he d6 (hs:=hs) cpos Go s1 σ H1 (λys H2=>cf (λy=>iB (.str z) [y] H2 Q) ys) U q1;rw [hs] at S;refine thn S λus s2=>x5e λvs H2 I2 r2 J=>?_;obtain ⟨y,rfl,J⟩:=cf.ex J;exact L5 Go s2 σ H2 (.str z) [y] v us Q I2 O r2 J
end
section
variable {K:KE}{g:TG}{tb:TS}{D:aK}{σ:St}{H:Hp}{ta:TA}{tl:TE}{wi:TI}{R:It->Hp->Prop}{j:Int}{tt:TT}{te:TE}{ix:List (Option Nat)}{Q:VK}
theorem zX.lst{a:Addr}{xs:List V}{τ:St}(F:Nat->St->List V->Hp->Prop)(S:∀i τ ys H,F i τ ys H->ys.length<sizeLine)(ha:∀i τ ys H,F i τ ys H->SqL K H a xs)(U:F 0 τ [] H)
  (hs:∀(N:St->List V->Hp->Prop) i x τ ys H,xs[i]?=some x->F i τ ys H->(∀τ ys H,F (i+1) τ ys H->N τ ys H)->g x τ H λz H4=>tt z H4 λok H5=>dH N ys z te ok H5) (hd:∀τ ys H,F xs.length τ ys H->∀D H',New H D (.lst ys) H'->Q (.ref D) H'):zX (Itl K a) g tt te τ H Q:=by
 refine ⟨λi m τ ys H=>m=xs.length-i/\i<=xs.length/\F i τ ys H,⟨xs.length,by simp,NV _,U⟩,?_⟩;rintro i m τ ys H2 ⟨rfl,hi,p⟩;refine ⟨S i τ ys H2 p,?_⟩;have q:=ha i τ ys H2 p;by_cases J:i<xs.length
 .refine .inr ⟨⟨xs,xs[i],q,by simp [J]⟩,λx H' y=>?_⟩;obtain ⟨e,y⟩:=y;subst e;exact hs (λz ys H=>∃G,G<xs.length-i/\G=xs.length-(i+1)/\i+1<=xs.length/\F (i+1) z ys H) i x τ ys _ (y xs q) p λz zs H q=>⟨xs.length-(i+1),by lia,rfl,J,q⟩
 .have e:i=xs.length:=by lia
  subst e;exact .inl ⟨⟨xs,q,zv _⟩,λD O _=>hd τ ys H2 p D _ (.mk' O)⟩
def uj(t:TS):TS:=λD σ H=>∃z:St->Hp->Prop,t { D with nx:=z } σ H/\∀F H',z F H'->D.nx F H'
theorem pT{st:Stmt}{t:TS}(h:W (PS X st t)):W (PS X st (uj t)):=by
 refine ⟨?_⟩;have h:=h.h;exact λGo s σ H D I F=>by
  obtain ⟨J,h1,h2⟩:=F;refine thn (h Go s σ H _ I h1) λf s1 q=>?_;cases f with
  | next=>obtain ⟨z,H',G,q⟩:=q;exact ⟨z,H',G,h2 _ _ q⟩
  | ret v=>exact q
  | brk=>exact q
  | cont=>exact q
theorem qQ{t:TS}{D:aK}{σ:St}{H:Hp}:uj t D σ H = ∃z:St->Hp->Prop,t { D with nx:=z } σ H/\∀F H',z F H'->D.nx F H':=rfl
end
section
variable {X:Cx}
theorem zQ  : W (PSs X [] qI):=⟨yO ⟩
theorem ze{st:Stmt}{Zo:List Stmt}{t:TS}(h1:W (PS X st t))(h2:W (PSs X Zo u)):W (PSs X (st::Zo) (pY t u)):=⟨xB (h1:=h1.h) (h2:=h2.h)⟩
theorem zg{st:Stmt}{t:TS}(h1:W (PS X st t)):W (PSs X [st] t):=⟨mq (h1:=h1.h)⟩
theorem zu(he:W (PE X e te)):W (PS X (.Return (some e) pos) (oK te)):=⟨lY (he:=he.h)⟩
theorem zL{t:TS}(hc:W (PT X c tc))(ha:W (PSs X a t))(hb:W (PSs X b u)):W (PS X (.If c a b pos) (mU tc t u)):=⟨Aa (hc:=hc.h) (ha:=ha.h) (hb:=hb.h)⟩
theorem zc  : W (PA X [] bQ):=⟨d6 ⟩
theorem zI{r:R2}(ho:OpR X (NK op) r)(ha:W (PE X a ta))(hb:W (PE X b tb))(hm:QR op b=false):W (PT X (.Compare a [op] [b] pos) (k8 (tOp r ta tb))):=⟨tP (ho:=ho) (ha:=ha.h) (hb:=hb.h) (hm:=hm)⟩
theorem cQ(hg:Gl X x)(hm:∃u,X.mg x=some u/\zo v u)(hd:(x==("__debug__":Str))=false:=by decide):W (PE X (.Name x pos) (tC v)):=⟨vM (hg:=hg) (hm:=hm) (hd:=hd)⟩
theorem zl{i j pos}:W (PE X (.Constant (.int i) j pos) (tC (.int i))):=⟨qA ⟩
theorem zK{r:R2}(hr:IxR X r)(ha:W (PE X a ta))(hb:W (PE X b tb))(hs:vj b):W (PE X (.Subscript a b pos) (tOp r ta tb)):=⟨xl (hr:=hr) (ha:=ha.h) (hb:=hb.h) (hs:=hs)⟩
theorem zy(hN:X.N.Nodup)(hi:X.N[i]?=some x)(hx:Loc X.env.scope x)(hf:X.fn x=true\/X.env.scope.names.lookup x=some .local:=by first|exact .inl rfl|exact .inr rfl|assumption):W (PG X (.Name x pos) (d9 i)):=⟨yw (hN:=hN) (hi:=hi) (hx:=hx) (hf:=hf)⟩
theorem cM{X:Cx}{k:Nat}{t:TGs}(h:W (PGs X es t))(hl:(OP es X.env).length=n:=by rfl)(hst:(OP es X.env).findIdx? (·.1)=none:=by rfl):W (PG X (.Tuple es k pos) (pM X.K n t)):=⟨wJ (h:=h.h) (hl:=hl) (hst:=hst)⟩
theorem cy{t:TT}(h:W (PW X e t)):W (PT X e t):=⟨PW.pt h.h⟩
theorem Gv{st:Stmt}{t:TS}(h:W (PS X.U3 st t)):W (PS X st t):=⟨PS.U3 h.h⟩
end
def asc(z:Str):Bool:=z.cps.all (· < 128)
def Its(z:Str):It:=⟨λi _=>i<z.cps.size,λi H x H'=>H'=H/\∃c,z.cps[i]?=some c/\x = .str ⟨#[c]⟩,λi _=>z.cps.size<=i⟩
theorem Fv{P:M8}{w:Nl}{K:KE}{tg:Nr}(z:Str)(it:Addr):cS true P w K tg (Its z) [it] it (λi h=>∃t,h.IsStrIter it "str_ascii_iterator" z t i) where
 mem:=by simp
 obj:=λi h st b hb=>by
  have e:b=it:=by simpa using hb
  subst e;obtain ⟨t,o,e,c,d⟩:=st;exact ⟨o,e,λv z=>by rw [d] at z;cases z⟩
 keep:=λi h h' st k=>by
  obtain ⟨t,o,e,r⟩:=st;exact ⟨t,o,k it (by simp) o e,r⟩
 item:=by
  intro X U S Z hc i Go s σ H E I hf st hg;subst U S Z;obtain ⟨t,st⟩:=st;obtain ⟨J,F,f2,W,G,O⟩:=hf it (by simp);have hi:i<z.cps.size:=hg;refine wpAny_pyNext_ascii_item st (c:=z.cps[i]) (by simp [hi]) λh' YQ sb=>?_;have I1:Inv X Go σ H { s with heap:=h',toks:=s.toks+1 }:=I.turned (λb o hb e=>(sb.2 b hb).trans e) J F W G O;obtain ⟨o,e,c,d⟩:=id YQ;exact ⟨_,rfl,fI (s:={ s with heap:=h',toks:=s.toks+1 }) e c d (by decide) ⟨.str ⟨#[z.cps[i]]⟩,H,I1,⟨_,rfl⟩,⟨rfl,_,by simp [hi],rfl⟩,⟨t,YQ⟩,λb hb=>(hf b hb).1⟩⟩
 done:=by
  intro X U S Z hc i Go s σ H E I hf st hg;subst U S Z;obtain ⟨t,st⟩:=st;obtain ⟨J,F,f2,W,G,O⟩:=hf it (by simp);have hi:z.cps.size<=i:=hg;exact wpAny_pyNext_ascii_end (I.ok.hd (hc rfl)) st (by simp [hi]) λh' eb=>⟨rfl,I.turned (t':=s.toks) (λb o hb e=>eb b o hb e) J F W G O⟩
 self:=λ_ _ _ _ _ st h=>by
  obtain ⟨t,st⟩:=st;exact wpAny_pyIter_striter_ascii st h
section
variable {X:Cx}{tg:Nr}
def sQ(tl:TE):TI:=λσ H R=>tl σ H λx H1=>uS x λz=>asc z=true/\R (Its z) H1
theorem Kb:sQ tl σ H R=tl σ H λx H1=>uS x λz=>asc z=true/\R (Its z) H1:=rfl
theorem GJ(hl:W (PE X l tl)):W (PIc true X tg l (sQ tl)):=by
 refine ⟨?_⟩;have hl:=hl.h;intro Go s σ H R I h;refine thn (hl Go s σ H _ I h) λv s1=>x5e λx H1 F G J=>?_;obtain ⟨z,e,ha,q⟩:=J;subst e;obtain ⟨t,rfl⟩:=G;refine wpAny_pyIter_ascii ha ?_;refine ⟨s1.heap.objs.size,[s1.heap.objs.size],_,_,H1,rfl,F.kept (t':=s1.toks) λb o e=>we _ e,Fv z _,⟨t,_,Nd _ rfl,rfl,rfl⟩,λb hb=>?_,q⟩;have e:b=s1.heap.objs.size:=by simpa using hb
 subst e;exact F.SR (zv _) (F.hok.fresh (zv _))
end
theorem Draws.later{prog:M8}{w:Nl}{A:Np}{it:Addr}{fp:List Addr}{n k:Nat}{P:Nat->Value->Prop}{St:Nat->Heap->Prop}(D:Draws prog w A it fp n P St) :
  Draws prog w A it fp (n+k) (λi v=>P (i-k) v) (λi h=>k<=i/\St (i-k) h) where
 live:=λ_ _ st=>D.live _ _ st.2
 frame:=λ_ _ _ st O=>⟨st.1,D.frame _ _ _ st.2 O⟩
 item:=λi s Q E hi st J=>D.item (i-k) s Q E (by have:=st.1;lia) st.2 λx h' tk p z F=>J x h' tk p ⟨by have:=st.1;lia,by
  have e:i+1-k=i-k+1:=by have:=st.1;lia
  rw [e];exact z⟩ F
 done:=λs Q E st G=>D.done s Q E (by
  have e:n+k-k=n:=by lia
  have:=st.2;rwa [e] at this) G
def ia(z:Str)(k:Nat):It :=
 ⟨λi _=>i<z.cps.size,λi H v H'=>∃T c,H T=none/\v = .ref T/\z.cps[i]?=some c/\H'=upd H T (.tup [.int ((i:Nat)+k:Nat),.str ⟨#[c]⟩]),λi _=>i=z.cps.size⟩
structure J8(e it:Addr)(z:Str)(k i:Nat)(h:Heap):Prop where
 en:∃YH,IsEnum h e it ((i+k:Nat):Int) YH
 a:∃t,h.IsStrIter it "str_ascii_iterator" z t i
theorem Ko{P:M8}{w:Nl}{K:KE}{Zr:List Nr}{kk:Nat}{tp:Pos}{z:Str}{k:Nat}{e it:Addr}(Zw:e≠it) :
  cS true P w K (.Tuple Zr kk tp) (ia z k) [e,it] e (J8 e it z k) where
 mem:=by simp
 obj:=λi h st b hb=>by
  obtain ⟨⟨YH,G⟩,⟨t,o4,F,_,d4⟩⟩:=st;simp only [MX,M1,or_false] at hb;rcases hb with rfl|rfl
  .exact ⟨_,G,λv q=>nomatch q⟩
  .exact ⟨_,F,λv q=>by rw [d4] at q;cases q⟩
 keep:=λi h h' st k=>by
  obtain ⟨⟨YH,G⟩,⟨t,o,F,r⟩⟩:=st;exact ⟨⟨YH,k _ (by simp) _ G⟩,t,o,k _ (by simp) o F,r⟩
 item:=by
  intro X hP hw hK hc i Go s σ H E I hf st hg;subst hP hw hK;obtain ⟨⟨YH,G⟩,⟨t,F⟩⟩:=st;have hi:i<z.cps.size:=hg;have O:=I.ok.hd (hc rfl);have D:=Draws.later (k:=k) (Draws.strAscii (prog:=X.prog) (w:=X.w) (A:=X.A.in1) O it z t);refine wpAny_pyNext_enum_itemD D G (i:=i+k) ⟨by lia,by rw [Nat.add_sub_cancel];exact F⟩ (by lia) Zw (by simpa using Zw) λx h' tk px b1 U b3 b4 b5=>?_;obtain ⟨c,u,W,rfl⟩:=px;rw [Nat.add_sub_cancel] at W;refine ⟨_,rfl,wpAny_letOwnedTupleGo_enum (s:={ s with heap:=h',toks:=tk+1 }) b1 λh2 c1 c2=>?_⟩;have Xt:e<s.heap.objs.size:=Nj G;have nz:s.heap.objs.size≠e:=Pe Xt;have all:∀c o,c≠e->c≠it->s.heap.get? c=some o->h2.get? c=some o:=λc o n1 n2 q=>c2.extBut c o n1 (b5 c o n1 n2 q);have tT:h2.get? s.heap.objs.size=some { cls:=.type "tuple",data:=.seq #[.int ((i+k:Nat):Int) tk,.str ⟨#[c]⟩ u] }:=c2.extBut _ _ nz b3;have Z:H s.heap.objs.size=none:=I.hok.fresh (zv _);have XO:HOk X.prog X.w H h2:=λb u S=>by
   refine (I.hok b u S).stay (λc v hc q=>?_) (λ_ q=>q) λ_ _ q=>q;have J:∀d∈[e,it],c≠d:=λd hd w=>by
    have fd:=(hf d hd).1;rcases hc with k|k
    .rw [k] at w;rw [w,fd] at S;cases S
    .rw [w,fd] at k;cases k
   exact all c v (J e (by simp)) (J it (by simp)) q
  have ab:∀b o,s.heap.get? b=some o->b≠s.heap.objs.size:=λb o e=>NN (Nj e);have I2:Inv X Go σ (upd H s.heap.objs.size (.tup [.int ((i+k:Nat):Int),.str ⟨#[c]⟩])) { s with heap:=h2,toks:=tk+1 }:=by
   refine I.step (g':=s.gens) (d':=s.drawn) (t':=tk+1) (ch:=[e,it]) (λb hb=>?_) (λb o _ _ hb q _=>?_) (λb o _ _ hb q _=>?_) (λb o _ q n=>?_) (λb o hb q=>?_) (λb ps q=>?_) (λb o u q=>?_) (λb ps q=>?_) (λm hm=>?_) (XO.add Z ?_) I.bare
   .obtain ⟨f0,f1,f2,f3,f4,f5⟩:=hf b hb;exact ⟨f3,f1,f4,f5⟩
   .simp only [MX,M1,or_false,not_or] at hb;exact all b o hb.1 hb.2 q
   .simp only [MX,M1,or_false,not_or] at hb;exact ⟨o.slots,all b o hb.1 hb.2 q⟩
   .rw [zd (ab b o q)];exact n
   .simp only [MX,M1,or_false,not_or] at hb;exact ⟨o,all b o hb.1 hb.2 q⟩
   .rw [zd (zC q Z)];exact q
   .rw [zd (zC q Z)];exact q
   .exact ⟨#[],by rw [zd (zC q Z),q];simp⟩
   .obtain ⟨o,es,ep,ho,r⟩:=hm;exact ⟨o,es,ep,all _ o (Ni (hf e (by simp)).2.1) (Ni (hf it (by simp)).2.1) ho,r⟩
   .exact ⟨by show 2<=sizeLine;decide,[.int ((i+k:Nat):Int) tk,.str ⟨#[c]⟩ u],.cons ⟨_,rfl⟩ (.cons ⟨_,rfl⟩ .nil),⟨_,tT,rfl,_,rfl⟩⟩
  refine ⟨.ref s.heap.objs.size,_,I2,rfl,⟨_,c,Z,rfl,W,rfl⟩,?_,λb hb=>?_⟩
  .obtain ⟨_,U⟩:=U;have e1:i+k+1-k=i+1:=by lia
   rw [e1] at U;obtain ⟨o,U,r⟩:=U;have e3:((i+1+k:Nat):Int)=((i+k:Nat):Int)+1:=by lia
   refine ⟨?_,t,o,c2.extBut _ _ (Ni Zw) U,r⟩;rw [e3];exact ⟨_,c1⟩
  .have ne:b≠s.heap.objs.size:=λq=>by
    have:b<s.heap.objs.size:=by
     simp only [MX,M1,or_false] at hb;obtain ⟨o4,F,_⟩:=F;rcases hb with rfl|rfl
     .exact Xt
     .exact Nj F
    exact absurd (q ▸ this) (ND _)
   rw [zd ne];exact (hf b hb).1
 done:=by
  intro X hP hw hK hc i Go s σ H E I hf st hg;subst hP hw hK;obtain ⟨⟨YH,G⟩,⟨t,F⟩⟩:=st;have hi:i=z.cps.size:=hg;have O:=I.ok.hd (hc rfl);have D:=Draws.strAscii (prog:=X.prog) (w:=X.w) (A:=X.A.in1) O it z t;rw [hi] at F;refine wpAny_pyNext_enum_endD D G F λh' up=>⟨rfl,?_⟩;refine I.step (g':=s.gens) (d':=s.drawn) (t':=s.toks) (ch:=[it]) (λb hb=>?_) (λb o _ _ hb q _=>?_) (λb o _ _ hb q _=>?_) (λ_ _ _ _ n=>n) (λb o hb q=>?_) (λ_ _ q=>q) (λ_ _ _ q=>q) (λb ps q=>⟨#[],by rw [q];simp⟩) (λm hm=>?_) (λb u S=>?_) I.bare
  .have XN:b∈[e,it]:=by simp only [MX,M1,or_false] at hb ⊢;exact .inr hb
   obtain ⟨f0,f1,f2,f3,f4,f5⟩:=hf b XN;exact ⟨f3,f1,f4,f5⟩
  .simp only [MX,M1,or_false] at hb;exact up b o hb q
  .simp only [MX,M1,or_false] at hb;exact ⟨o.slots,up b o hb q⟩
  .simp only [MX,M1,or_false] at hb;exact ⟨o,up b o hb q⟩
  .obtain ⟨o,es,ep,ho,r⟩:=hm;exact ⟨o,es,ep,up _ o (Ni (hf it (by simp)).2.1) ho,r⟩
  .refine (I.hok b u S).stay (λc v hc q=>?_) (λ_ q=>q) λ_ _ q=>q;have J:c≠it:=λw=>by
    have fd:=(hf it (by simp)).1;rcases hc with k|k
    .rw [k] at w;rw [w,fd] at S;cases S
    .rw [w,fd] at k;cases k
   exact up c v J q
 self:=λ_ _ _ _ _ st h=>by
  obtain ⟨YH,G⟩:=st.en;exact Qx G h
section
variable {prog:M8}{w:Nl}{A:Np}{E:Value->p8->Prop}{s:p8}
theorem Fe(a b:Value):checkTypeCall "enumerate" ⟨[a],[(yv "start",b)]⟩=pure ():=by kernel_rfl
theorem BP(a b:Value):QN "enumerate.__new__" ⟨[.type "enumerate",a],[(yv "start",b)]⟩=pure ():=by kernel_rfl
theorem KI(o a b:Value):argsOk "object.__init__" ⟨[o,a],[(yv "start",b)]⟩:=by
 unfold argsOk;kernel_rfl
theorem LL (x : Str) (t u : Tok) : Meets (Ng.«enumerate.__new__» ⟨[.type "enumerate", .str x t], [(yv "start", .int 1 u)]⟩) (fun _ R s =>
      R (.ok (.ret (.ref (s.heap.push { cls := .type (PN x), data := .fields #[.str x t, .int 0 0] }).objs.size)))
        { s with heap := (s.heap.push { cls := .type (PN x), data := .fields #[.str x t, .int 0 0] }).push { cls := .type "enumerate", data := .fields #[.none, .bool false, .ref s.heap.objs.size, N4 1, .none, .none] } }) :=
 .of_wp λprog w A R s h=>by
  obtain ⟨F,g,d,tk,os⟩:=s;have z:=sub_enumerate
  wp_walk
  refine wpAny_stack_any λst=>MZ ?_;split
  .rename_i c _ _ _ _ _;cases (c==type "enumerate")
   .wp_walk using RD
    exact ⟨_,rfl,h⟩
   .wp_walk using RD
    exact ⟨_,rfl,h⟩
  .wp_walk using RD
   exact ⟨_,rfl,h⟩
theorem Gb(hl:typeLookup (.type T) We=pure (some (.builtin "object.__init__")))(hm:Bind.madeBy (.type T)=pure (some z))(G:(some z != some "object.__new__")=true):Meets (Ng.«object.__init__» ⟨[self,a],kws⟩) (λ_ R s=>s.TypeIs self T/\R (.ok (.ret .none)) s):=by
 refine Meets.of_wp λprog w A R s=>x2e λJ F=>?_
 repeat (any_goals (first|assumption|wp_step))
 exact ⟨_,rfl,F⟩
theorem HY(z:TypeCalled T O "object.__init__")(Zw:(some O != some "object.__new__")=true)(ag:checkTypeCall T ⟨[a],kws⟩=pure ())(Xm:QN O ⟨[.type T,a],kws⟩=pure ())(hok:∀obj,argsOk "object.__init__" ⟨[obj,a],kws⟩)(G:entryFor table O=some Z)(g:Meets (Z ⟨[.type T,a],kws⟩) S)(h:S A.in1 (wants (λobj s₁=>s₁.TypeIs obj T/\Q obj s₁) E) s):Nb (Nf prog w) A (call (.type T) [a] kws) Q E s:=by
 obtain ⟨c,tl,ab⟩:=z.mro;have W:=z.made;have Xn:=z.sub;refine R3 (A:=A) (codeAny_of_tree (A:=A) ?_);show Nb (Nf prog w) _ (callAny (.type T) _) _ _ _;refine MZ ⟨Code.quiet_builtin _ (f!""),Q7 (A:=A) F.entry_type_call ?_⟩;rw [Np.under_plain (weight_type_call_type T [a] kws) (units_type_call_type T [a] kws)];have k1:=z.notType;have k2:=z.canCreate
 repeat (any_goals (first|assumption|wp_step))
 refine Qg (QU z.plain G (wpAny_of_eq Xm (g prog w A.in1 _ s h))) λr s1 hr=>?_;cases r with
 | error e=>exact hr
 | ok fl =>
  cases fl with
  | ret obj =>
   have aj:=z.init.lookup;have ai:=z.init.bind obj;have hT:=hr.1
   repeat (any_goals (first|assumption|wp_step))
   refine Qg (QU z.init.plain F.entry_object_init (z.init.check _ _ _ _ _ _ _ _ hr.1 (hok obj) (Gb z.init.lookup z.made Zw prog w A.in1 (wants (λr s2=>r = .none/\Q obj s2) E) s1 ⟨hr.1,rfl,hr.2⟩))) λr2 s2 J=>?_;cases r2 with
   | error e=>exact J
   | ok U =>
    cases U with
    | ret r =>
     obtain ⟨rfl,hq⟩:=J
     repeat (any_goals (first|assumption|wp_step))
    | _=>exact J.elim
  | _=>exact hr.elim
theorem Hv{t u:Tok}(h:∀h',IsEnum h' (s.heap.objs.size+1) s.heap.objs.size 1 .none->h'.IsStrIter s.heap.objs.size (PN x) x t 0->h'.objs.size=s.heap.objs.size+2->(∀b o,s.heap.get? b=some o->h'.get? b=some o)->Q (.ref (s.heap.objs.size+1)) { s with heap:=h' }):
  Nb (Nf prog w) A (call (.type "enumerate") [.str x t] [(yv "start",.int 1 u)]) Q E s:=by
 refine HY F.called_enumerate (by decide) (Fe _ _) (BP _ _) (λobj=>KI obj _ _) F.entry_enumerate_new (LL x t u) ?_;have z:(s.heap.push { cls:=.type (PN x),data:=.fields #[.str x t,.int 0 0] }).objs.size=s.heap.objs.size+1:=OQ ..;show _/\_;rw [z];have he:IsEnum ((s.heap.push { cls:=.type (PN x),data:=.fields #[.str x t,.int 0 0] }).push { cls:=.type "enumerate",data:=.fields #[.none,.bool false,.ref s.heap.objs.size,N4 1,.none,.none] }) (s.heap.objs.size+1) s.heap.objs.size 1 .none:=by
  have q:=Nd (s.heap.push { cls:=.type (PN x),data:=.fields #[.str x t,.int 0 0] }) (o:={ cls:=.type "enumerate",data:=.fields #[.none,.bool false,.ref s.heap.objs.size,N4 1,.none,.none] }) rfl;rw [z] at q;exact q
 exact ⟨⟨_,he,rfl⟩,h _ he ⟨_,we _ (Nd _ rfl),rfl,rfl⟩ (by rw [OQ,z]) λb o y=>we _ (we _ y)⟩
theorem Hj(G:args.any (·.1)=false)(z:F.any (·.1.isNone)=false)(h:Nb M A (evalArgs (.type T) true args F) (λa s1=>Nb M A (call (.type T) a.pos a.kw) Q E s1) E s):Nb M A (PU pos (.type T) [] args F) Q E s:=by
 unfold PU;refine fv (NH (N7 h (λa s1 h1=>fv (Pa ?_)) λ_ _ x=>x));simp only [G,z,Ql];exact fv (MZ (fv (N7 h1 (λr s2 hr=>fv (NH (wpAny_point (MZ hr)))) λ_ _ x=>x)))
end
section
variable {X:Cx}
def Ao(k:Nat)(ta:TE):TI:=λσ H R=>ta σ H λx H1=>uS x λz=>asc z=true/\R (ia z k) H1
theorem DS{k:Nat}:Ao k ta σ H R=ta σ H λx H1=>uS x λz=>asc z=true/\R (ia z k) H1:=rfl
theorem Bf(h:asc z=true):PN z="str_ascii_iterator":=by
 unfold PN;rw [show z.cps.all (· < 128)=true from h];rfl
theorem Jb{tp p pos kp cp:Pos}(hg:Gl X "enumerate")(hm:X.mg "enumerate"=none)(ha:W (PE X a ta))(hp:zW a=true:=by rfl):W (PIc true X (.Tuple Zr kk tp) (.Call (.Name "enumerate" p) [a] [⟨some (yv "start"),.Constant (.int 1) j cp,kp⟩] pos) (Ao 1 ta)):=by
 refine ⟨?_⟩;have ha:=ha.h;intro Go s σ H R I h;have hs:Nq [a] X.env=[(false,NT a X.env)]:=cw hp;have S:=dS ha d6 (hs:=hs) pos Go s σ H (λys H2=>cf (λy=>uS y λz=>asc z=true/\R (ia z 1) H2) ys) I h;refine Oe (dI I hg hm boot_enumerate (Hj (by rw [hs];rfl) rfl ?_));rw [hs] at S ⊢;refine evalArgs_kwB rfl (thn S λus s1=>x5e λvs H1 Z r1 q1=>kws_cons (thn (qA Go s1 σ H1 (λv H=>v = .int 1/\H=H1) Z ⟨rfl,rfl⟩) λw2 s2=>x5e λy2 H2 F r2 Yw=>kws_nil ?_));obtain ⟨G,J⟩:=Yw;subst G J;obtain ⟨t2,rfl⟩:=r2;obtain ⟨y,rfl,z,ey,hz,q⟩:=cf.ex q1;subst ey;cases r1 with
 | cons r rr =>
  cases rr;obtain ⟨t,rfl⟩:=r;refine Hv (s:=s2) λh' U O a6 a7=>Qx (s:={ s2 with heap:=h' }) U ?_;rw [Bf hz] at O;refine ⟨_,_,_,_,H2,rfl,F.kept (t':=s2.toks) a7,Ko (Nat.succ_ne_self _),⟨⟨_,U⟩,t,O⟩,λb hb=>?_,q⟩;have le:s2.heap.objs.size<=b:=by
   simp only [MX,M1,or_false] at hb;rcases hb with rfl|rfl
   .exact RE _
   .exact zv _
  exact F.SR le (F.hok.fresh le)
end
section
variable {K:KE}{g:TG}{tb:TS}{D:aK}{σ:St}{H:Hp}{tt:TT}{te:TE}{Q:VK}
theorem ao.aq{k:Nat}(F:Nat->St->Hp->Prop)(O:F 0 σ H)(hs:∀i c p σ H,z.cps[i]?=some c->F i σ H->H p=none->g (.ref p) σ (upd H p (.tup [.int ((i+k:Nat):Int),.str ⟨#[c]⟩])) λG H2=>tb { D with nx:=F (i+1),ct:=F (i+1),bk:=D.nx } G H2)(hd:∀σ H,F z.cps.size σ H->D.nx σ H):ao (ia z k) g tb D σ H:=by
 refine ⟨λi m σ H=>m=z.cps.size-i/\i<=z.cps.size/\F i σ H,⟨z.cps.size,by simp,NV _,O⟩,?_⟩;rintro i m σ H ⟨rfl,hi,p⟩;by_cases J:i<z.cps.size
 .refine .inr ⟨J,F (i+1),λU H' W=>⟨z.cps.size-(i+1),by lia,rfl,J,W⟩,λx H' y=>?_⟩;obtain ⟨T,c,S,rfl,hc,rfl⟩:=y;exact hs i c T σ _ hc p S
 .have e:i=z.cps.size:=by lia
  subst e;exact .inl ⟨rfl,hd σ H p⟩
theorem zX.str(G:Nat->St->List V->Hp->Prop)(U:∀i τ ys H,G i τ ys H->ys.length<sizeLine)(W:G 0 τ [] H)(hs:∀(N:St->List V->Hp->Prop) i c τ ys H,z.cps[i]?=some c->G i τ ys H->(∀τ ys H,G (i+1) τ ys H->N τ ys H)->g (.str ⟨#[c]⟩) τ H λF H4=>tt F H4 λok H5=>dH N ys F te ok H5)(hd:∀τ ys H,G z.cps.size τ ys H->∀D H',New H D (.lst ys) H'->Q (.ref D) H'):zX (Its z) g tt te τ H Q:=by
 refine ⟨λi m τ ys H=>m=z.cps.size-i/\i<=z.cps.size/\G i τ ys H,⟨z.cps.size,by simp,NV _,W⟩,?_⟩;rintro i m τ ys H2 ⟨rfl,hi,p⟩;refine ⟨U i τ ys H2 p,?_⟩;by_cases O:i<z.cps.size
 .refine .inr ⟨O,λx H' y=>?_⟩;obtain ⟨e,c,hc,rfl⟩:=y;subst e;exact hs (λF ys H=>∃J,J<z.cps.size-i/\J=z.cps.size-(i+1)/\i+1<=z.cps.size/\G (i+1) F ys H) i c τ ys _ hc p λF zs H q=>⟨z.cps.size-(i+1),by lia,rfl,O,q⟩
 .have e:i=z.cps.size:=by lia
  subst e;exact .inl ⟨zv _,λD S _=>hd τ ys H2 p D _ (.mk' S)⟩
end
section
variable {X:Cx}
def yf:List V->Hp->VK->Prop:=λxs H Q=>uR1 xs λp=>∃bs:List Bool,H p=some (.lst (bs.map V.bl))/\Q (.bl (bs.all id)) H
theorem EO{bs:List Bool}:∀{us:List Value},zp (bs.map V.bl) us->us=bs.map Px:=by
 induction bs with
 | nil=>intro us r;rw [map_nil] at r;cases r;rfl
 | cons b bs G =>
  intro us r;rw [NO] at r;cases r with
  | cons z F=>rw [show _=Px b from z,G F];rfl
theorem E9(hc:X.calm=true):zN X (.builtin "all") yf:=by
 intro Go s σ H xs us Q I r h;obtain ⟨p,rfl,bs,O,q⟩:=h;cases r with
 | cons G Z =>
  cases Z;cases (show _=M3 p from G);obtain ⟨its,S,pl,_⟩:=I.list (SqL.of (K:=X.K) O);have e:=EO S;subst e;have U:p≠s.heap.objs.size:=by obtain ⟨o,e,_⟩:=pl.isList;exact NN (Nj e)
  refine call_all_walk (O4 pl.isList ?_);have hl:∀k:Nat,k=bs.length->(Ra k).all (λi=>bs.getD i true)=bs.all id:=by
   intro k e;subst e;rw [PB,NM,NM];constructor
   .intro h x hx;obtain ⟨i,hi,rfl⟩:=NQ hx;have:=h i (RT.mpr hi);rw [MW,l6 hi] at this;exact this
   .intro h i hi;have hi:=RT.mp hi;rw [MW,l6 hi];exact h _ (NP hi)
  refine ⟨s.heap.objs.size,_,_,_,_,_,λi=>bs.getD i true,rfl,Walks.list (prog:=X.prog) (w:=X.w) (A:=X.A.in1) (show X.A.in1.handled=none from I.ok.hd hc) s.heap.objs.size p U (bs.map Px).toArray,⟨⟨_,Nd _ rfl,rfl,rfl⟩,pl.isList.push _⟩,?_,λh' tk kp=>?_⟩
  .intro i v s2 J E2 z F;have z:(bs.map Px)[i]?=some v:=by simpa using z
   rw [Nh] at z;cases e:bs[i]? with
   | none=>rw [e] at z;cases z
   | some b =>
    rw [e] at z;cases z;have W:bs.getD i true=b:=by rw [MW,e];rfl
    have F:J (bs.getD i true) s2:=F;rw [W] at F;exact MZ F
  .refine ⟨.bl _,H,I.kept (t':=tk) λb o e=>kp b o ?_ (we _ e),rfl,?_⟩
   .simpa using NN (Nj e)
   .rw [hl _ (by simp)];exact q
theorem BV{p:Addr}:yf [.ref p] H Q = ∃bs:List Bool,H p=some (.lst (bs.map V.bl))/\Q (.bl (bs.all id)) H:=fj
def uIn:R2:=λx y H Q=>(∃i j,x = .str i/\y = .str j/\Q (.bl (!(Ng.Str.occurrences j i 0 j.length 1).isEmpty)) H)\/∃p xs,y = .ref p/\(H p=some (.lst xs)\/H p=some (.tup xs))/\zV x=true/\xs.all zV=true/\Q (.bl (inV x xs)) H
theorem pb(G:X.A.units<cLine):OpR X (NK .In) uIn:=(LA.or Es).weak λx y H Q h=>by
 rcases h with h|⟨p,xs,e,h,F,z,q⟩
 .exact .inl h
 .exact .inr ⟨p,xs,e,h.elim (λh=>.inl (SqL.of h)) (λh=>.inr (SqT.of h)),F,z,by simpa using q⟩
theorem DO:uIn (.str x) (.str y) H Q=Q (.bl (!(Ng.Str.occurrences y x 0 y.length 1).isEmpty)) H:=by simp [uIn]
theorem EU{p:Addr}:uIn x (.ref p) H Q = ∃xs,(H p=some (.lst xs)\/H p=some (.tup xs))/\zV x=true/\xs.all zV=true/\Q (.bl (inV x xs)) H:=by simp [uIn]
def uM1(to te:TE)(r:Str->V->Hp->VK->Prop):TE:=λσ H Q=>to σ H λx H1=>uS x λz=>te σ H1 λy H2=>r z y H2 Q
theorem GE{r:Str->V->Hp->VK->Prop}:uM1 to te r σ H Q=to σ H λx H1=>uS x λz=>te σ H1 λy H2=>r z y H2 Q:=rfl
theorem xX{o e:Nr}{id:String}{r:Str->V->Hp->VK->Prop}(G:Slot "str" m id)(Yv:typeOf (.builtin id)=pure (.type "method_descriptor"))(hr:∀(Go:List (Addr×Obj))(s:p8)(σ:St)(H:Hp)(z:Str)(y:V)(t:Tok)(v:Value)(Q:VK),Inv X Go σ H s->zo y v->r z y H Q->Nb (Nf X.prog X.w) X.A (call (.builtin id) [.str z t,v]) (λu s1=>∃x H',Inv X Go σ H' s1/\zo x u/\Q x H') X.xe s)(ho:PE X o to)(he:PE X e te)(ZH:Oi o m X.env (NT o X.env)=NT o X.env:=by rfl)(ZG:(Z3.endLine==cpos.line)=true:=by rfl)(hp:zW e=true:=by rfl):
  PE X (.Call (.Attribute o m Z3) [e] [] cpos) (uM1 to te r):=by
 intro Go s σ H Q I h;have hs:Nq [e] X.env=[(false,NT e X.env)]:=cw hp;refine Ox ZH (by rw [hs];rfl) ZG rfl (thn (ho Go s σ H _ I h) λv s1=>x5e λx H1 U O Z=>?_);obtain ⟨z,ex,q1⟩:=Z;subst ex;obtain ⟨h1,h2⟩:=gW (T:="str") U O rfl;refine ⟨"str",id,PySem.F.plainAttrs_str,G,Yv,h1,h2,?_⟩;rw [hs];refine Calls.callWith_builtin rfl (Calls.evalArgs_plain ?_);have S:=dS he d6 (hs:=hs) cpos Go s1 σ H1 (λys H2=>cf (λy=>r z y H2 Q) ys) U q1;rw [hs] at S;refine thn S λus s2=>x5e λvs H2 I2 r2 J=>?_;obtain ⟨t,rfl⟩:=O;obtain ⟨y,rfl,J⟩:=cf.ex J;obtain ⟨_,rfl,W⟩:=zp.one r2;exact hr Go s2 σ H2 z y t _ Q I2 W J
def yK:Str->V->Hp->VK->Prop:=λz y H Q=>uS y λq=>Q (.int (Qq z q)) H
theorem Ef{o e:Nr}(ho:W (PE X o to))(he:W (PE X e te))(S:Oi o "rfind" X.env (NT o X.env)=NT o X.env:=by rfl)(J:(Z3.endLine==cpos.line)=true:=by rfl)(G:zW e=true:=by rfl):W (PE X (.Call (.Attribute o "rfind" Z3) [e] [] cpos) (uM1 to te yK)):=by
 refine ⟨?_⟩;have ho:=ho.h;have he:=he.h;exact
  xX PySem.F.slot_str_rfind PySem.F.type_str_rfind (λGo s σ H z y t v Q I O q=>by
   obtain ⟨w,rfl,q⟩:=q;obtain ⟨u,rfl⟩:=O;exact Pu PySem.F.slot_str_rfind (QK _ _ _) PySem.F.entry_str_rfind (PySem.F.args_str_rfind_2 _ _) (gives_str_rfind z w t u).meets ⟨.int _,H,I.tok _,⟨_,rfl⟩,q⟩) ho he S J G
theorem GR:yK z (.str q) H Q=Q (.int (Qq z q)) H:=qX
theorem sT:∀(k:Nat)(ys:List Str),zp (ys.map V.str) (strsFrom k ys)
 | _,[]=>.nil
 | k,y::ys=>.cons ⟨k,rfl⟩ (sT (k+1) ys)
def sG:Str->V->Hp->VK->Prop:=λz y H Q=>uS y λq=>(q.length==0)=false/\z.length<sizeLine/\(N1 z q).length<=sizeLine/\∀p H2,New H p (.lst ((N1 z q).map V.str)) H2->Q (.ref p) H2
theorem JM{o e:Nr}(ho:W (PE X o to))(he:W (PE X e te))(ZH:Oi o "split" X.env (NT o X.env)=NT o X.env:=by rfl)(ZG:(Z3.endLine==cpos.line)=true:=by rfl)(Z:zW e=true:=by rfl):W (PE X (.Call (.Attribute o "split" Z3) [e] [] cpos) (uM1 to te sG)):=by
 refine ⟨?_⟩;have ho:=ho.h;have he:=he.h;exact
  xX Rm PySem.F.type_str_split (λGo s σ H z y t v Q I S q=>by
   obtain ⟨w,rfl,O,U,hn,q⟩:=q;obtain ⟨u,rfl⟩:=S;have G:∀(ys:List Str)(us:List Value)(k:Nat),ys=N1 z w->zp (ys.map V.str) us->∃x H',Inv X Go σ H' { s with heap:=s.heap.push { cls:=.type "list",data:=.seq us.toArray },toks:=k }/\zo x (.ref s.heap.objs.size)/\Q x H':=λys us k e J=>by
    subst e;have hl:=J.length;rw [MV] at hl;exact ⟨.ref s.heap.objs.size,_,I.laid (t':=k) (o:=.lst _) (λb ob q=>we _ q) (zv _) ⟨by rw [MV];exact hn,us,0,J,Nd _ rfl⟩,rfl,q _ _ (.mk' (I.hok.fresh (zv _)))⟩
   cases h1:(decide (z.length<w.length)||decide (Ng.Str.strKind z<Ng.Str.strKind w))
   .cases hf:(Ng.Str.occurrences z w 0 z.length (z.length+1)).isEmpty
    .have es:N1 z w=Ng.Str.partsBetween z (Ng.Str.occurrences z w 0 z.length (z.length+1)) w.length:=(if_neg (ne_true_of_eq_false h1)).trans (if_neg (ne_true_of_eq_false hf));rw [es] at hn;exact Pu Rm (QK _ _ _) entry_str_split (args_str_split_2 _ _) (meets_str_split_sep z w t u h1 O hf (OH U) hn) (G _ _ _ es.symm (sT _ _))
    .exact Pu Rm (QK _ _ _) entry_str_split (args_str_split_2 _ _) (meets_str_split_not_found z w t u h1 O hf) (G [z] [.str z t] s.toks ((if_neg (ne_true_of_eq_false h1)).trans (if_pos hf)).symm (.cons ⟨t,rfl⟩ .nil))
   .exact Pu Rm (QK _ _ _) entry_str_split (args_str_split_2 _ _) (meets_str_split_cannot_occur z w t u h1) (G [z] [.str z t] s.toks (if_pos h1).symm (.cons ⟨t,rfl⟩ .nil))) ho he ZH ZG Z
theorem JZ:sG z (.str q) H Q=((q.length==0)=false/\z.length<sizeLine/\(N1 z q).length<=sizeLine/\∀p H2,New H p (.lst ((N1 z q).map V.str)) H2->Q (.ref p) H2):=qX
def yZ(te:TE):TE:=λσ H Q=>te σ H λx H1=>(∃z,x = .str z/\z.length<=sizeLine/\Q (.str z) H1)\/∃i,x = .int i/\i.natAbs.log2<1920/\Q (.str (toString i)) H1
def jd:V->Hp->VK->Prop:=λx H1 Q=>(∃z,x = .str z/\z.length<=sizeLine/\Q (.str z) H1)\/∃i,x = .int i/\i.natAbs.log2<1920/\Q (.str (toString i)) H1
theorem FI:yZ te σ H Q=te σ H λx H1=>jd x H1 Q:=rfl
theorem Fb:jd (.str z) H Q=(z.length<=sizeLine/\Q (.str z) H):=by simp [jd]
theorem EI:jd (.int i) H Q=(i.natAbs.log2<1920/\Q (.str (toString i)) H):=by simp [jd]
theorem uq(he:W (PE X e te)):W (PE X (.FormattedValue e (-1) none pos) (yZ te)):=by
 refine ⟨?_⟩;have he:=he.h;intro Go s σ H Q I h;refine FormattedValue_plain (thn (he Go s σ H _ I h) λv s1=>x5e λx H1 G F J=>?_);rcases J with ⟨z,rfl,O,q⟩|⟨i,rfl,hi,q⟩
 .obtain ⟨t,rfl⟩:=F;exact formatField_str (λt' tk=>⟨.str z,H1,G.tok _,⟨_,rfl⟩,q⟩) O
 .obtain ⟨t,rfl⟩:=F;exact formatField_int_small hi ⟨.str _,H1,G.tok _,⟨_,rfl⟩,q⟩
abbrev TJ:=Str->TE
def PJ(X:Cx)(es:List Nr)(z:TJ):Prop:=∀(out:Str)(Go:List (Addr×Obj))(s:p8)(σ:St)(H:Hp)(Q:VK),Inv X Go σ H s->z out σ H Q ->
 Nb (Nf X.prog X.w) X.A (joinParts out (evalEach es X.env)) (λu s1=>∃x H',Inv X Go σ H' s1/\zo x u/\Q x H') X.xe s
def yB:TJ:=λout _ H Q=>out.length<=sizeLine/\Q (.str out) H
def uY(te:TE)(z:TJ):TJ:=λout σ H Q=>te σ H λx H1=>uS x λy=>(out++y).length<=sizeLine/\z (out++y) σ H1 Q
theorem E7:W (PJ X [] yB):=⟨λout Go s σ H Q I h=>joinParts_nil ⟨.str out,H,I.tok _,⟨_,rfl⟩,h.2⟩ h.1⟩
theorem qC(he:W (PE X e te))(z:W (PJ X es F)):W (PJ X (e::es) (uY te F)):=by
 refine ⟨?_⟩;have he:=he.h;have z:=z.h;exact λout Go s σ H Q I h=>by
  refine joinParts_cons (thn (he Go s σ H _ I h) λv s1=>x5e λx H1 J G S=>?_);obtain ⟨y,rfl,O,q⟩:=S;obtain ⟨t,rfl⟩:=G;exact ⟨O,z _ Go s1 σ H1 Q J q⟩
def AF(z:TJ):TE:=z Rj
theorem HD:AF z=z Rj:=rfl
theorem Bk(h:W (PJ X (e::F::es) z)):W (PE X (.JoinedStr (e::F::es) pos) (AF z)):=by refine ⟨?_⟩;have h:=h.h;exact λGo s σ H Q I q=>JoinedStr_many (h Rj Go s σ H Q I q)
def gq:List V->Hp->VK->Prop:=λxs H Q=>eR xs H Q\/∃z n,xs=[.str z]/\z.length<=640/\QD z=some n/\Q (.int n) H
theorem xx:zN X (.type "int") gq:=by
 intro Go s σ H xs us Q I r h;rcases h with h|⟨z,n,rfl,hl,hn,q⟩
 .exact A6 Go s σ H xs us Q I r h
 .cases r with
  | cons F G =>
   cases G;obtain ⟨t,rfl⟩:=F;exact PySem.W.KIN.call_text hn hl ⟨.int n,H,I.tok _,⟨_,rfl⟩,q⟩
theorem G1:gq [.int i] H Q=Q (.int i) H:=by simp [gq,eR]
theorem ma{k:Bool}:gq [.bl k] H Q=Q (.int (if k then 1 else 0)) H:=by simp [gq,eR]
theorem Kd:gq [.str z] H Q = ∃n,z.length<=640/\QD z=some n/\Q (.int n) H:=by simp [gq,eR]
def gD:List V->Hp->VK->Prop:=λxs H Q=>gz xs H Q\/∃z,xs=[.str z]/\Q (.str z) H
theorem JP:zN X (.type "str") gD:=by
 intro Go s σ H xs us Q I r h;rcases h with h|⟨z,rfl,q⟩
 .exact Js Go s σ H xs us Q I r h
 .cases r with
  | cons F G =>
   cases G;obtain ⟨t,rfl⟩:=F;exact PySem.P.str_of_str ⟨.str z,H,I,⟨_,rfl⟩,q⟩
theorem sE:gD [.int i] H Q=(i.natAbs.log2<1920/\Q (.str (toString i)) H):=by simp [gD,gz]
theorem As:gD [.str z] H Q=Q (.str z) H:=by simp [gD,gz]
def wy:List V->Hp->VK->Prop:=λxs H Q=>uR1 xs λp=>∃ys,H p=some (.lst ys)/\∀l H2,New H l (.tup ys) H2->Q (.ref l) H2
theorem Dp:zN X (.type "tuple") wy:=JY.weak λxs H Q h=>by
 obtain ⟨p,e,ys,h1,q⟩:=h;exact ⟨p,ys,e,.inl ⟨SqL.of h1,λl hl=>q l _ (.mk' hl)⟩⟩
theorem BL{p:Addr}:wy [.ref p] H Q = ∃ys,H p=some (.lst ys)/\∀l H2,New H l (.tup ys) H2->Q (.ref l) H2:=fj
def mX:List V->Hp->VK->Prop:=λxs H Q=>∃x,xs=[.str x]/\x.length=1/\Q (.int (x.cps.getD 0 0:Nat)) H
theorem Fl:zN X (.builtin "ord") mX:=Cq
theorem Gi:mX [.str x] H Q=(x.length=1/\Q (.int (x.cps.getD 0 0:Nat)) H):=by simp [mX]
inductive iW(w:Nl):List R0->List (Str×Addr)->Prop
 | nil:iW w [] []
 | cons {k:Str}{t:Tok}{r:Addr}{es:List R0}{kvs:List (Str×Addr)}:iW w es kvs->iW w ({ hash:=PV w.params k,key:=.str k t,val:=.ref r }::es) ((k,r)::kvs)
structure lL(w:Nl)(K:KE)(a:Addr)(kvs:List (Str×Addr)):Prop where
 ex:∃es n,K.lookup a=some { cls:=.type "dict",dict:=none,data:=.dict es n,slots:=#[] }/\iW w es.toList kvs
 nd:(kvs.map (·.1)).Nodup
 ns:(a==sysModules)=false
def eS(kvs:List (Str×Addr))(z:Str):V:=match kvs.find? (λp=>p.1=z) with|some p=>.ref p.2|none=>.non
theorem uC:∀{es:List R0}{kvs:List (Str×Addr)},iW w es kvs->PySem.Pairs (ax P w) es (kvs.map λp=>(Sum.inr p.1,M3 p.2))/\∀e∈es,∃k,(ax P w).is k e.key=true/\e.hash=(ax P w).hash k
 | _,_,.nil=>⟨.nil,λe he=>by cases he⟩
 | _,_,.cons (k:=k) (t:=t) h=>by
  obtain ⟨h1,h2⟩:=uC (P:=P) h;refine ⟨.cons (jF P w k t) rfl h1,λe he=>?_⟩;rcases MX.mp he with rfl|he
  .exact ⟨Sum.inr k,jF P w k t,rfl⟩
  .exact h2 e he
theorem lL.dictOf{K:KE}{h:Heap}(D:lL w K a kvs)(G:∀o,K.lookup a=some o->h.get? a=some o):h.DictOf (ax P w) a (kvs.map λp=>(Sum.inr p.1,M3 p.2)):=by
 obtain ⟨es,n,h1,h2⟩:=D.ex;obtain ⟨F,p2⟩:=uC (P:=P) h2;refine ⟨_,es,n,G _ h1,⟨rfl,rfl,rfl⟩,rfl,λe he=>p2 e (by simpa using he),F,?_⟩;rw [NL];have e:((λp:Key×Value=>p.1)∘λp:Str×Addr=>((Sum.inr p.1:Key),M3 p.2))=(λz:Str=>(Sum.inr z:Key))∘(λp:Str×Addr=>p.1):=rfl;rw [e,<- NL];exact Pairwise.map _ (λx y q z=>q (Sum.inr.inj z)) D.nd
def Ad(kvs:List (Str×Addr))(te:TE):TE:=λσ H Q=>te σ H λy H1=>uS y λz=>Q (eS kvs z) H1
theorem BD:Ad kvs te σ H Q=te σ H λy H1=>uS y λz=>Q (eS kvs z) H1:=rfl
theorem Ez:zo (eS kvs z) ((PySem.valueAt (kvs.map λp=>((Sum.inr p.1:Key),M3 p.2)) (Sum.inr z)).getD .none):=by
 unfold eS PySem.valueAt;rw [List.find?_map];have e:((λF:Key×Value=>decide (F.1=Sum.inr z))∘λp:Str×Addr=>((Sum.inr p.1:Key),M3 p.2))=λp:Str×Addr=>decide (p.1=z):=by
  funext p;simp
 rw [e];cases kvs.find? (λp=>decide (p.1=z)) with
 | none=>rfl
 | some p=>rfl
theorem Eo(hg:Gl X x)(hm:X.mg x=some (.ref a))(D:lL X.w X.K a kvs)(he:W (PE X e te))(ZH:Oi (.Name x G) "get" X.env (NT (.Name x G) X.env)=NT (.Name x G) X.env:=by rfl)(ZG:(Z3.endLine==cpos.line)=true:=by rfl)(hp:zW e=true:=by rfl)(hd:(x==("__debug__":Str))=false:=by decide):W (PE X (.Call (.Attribute (.Name x G) "get" Z3) [e] [] cpos) (Ad kvs te)):=by
 refine ⟨?_⟩;have he:=he.h;intro Go s σ H Q I h;have hs:Nq [e] X.env=[(false,NT e X.env)]:=cw hp;refine Ox ZH (by rw [hs];rfl) ZG rfl (thn (vM (v:=.ref a) hg ⟨_,hm,rfl⟩ hd Go s σ H (λv H1=>v = .ref a/\H1=H) I ⟨rfl,rfl⟩) λv s1=>x5e λx1 H1 U r1 Yw=>?_);obtain ⟨ex,eH⟩:=Yw;subst ex eH;cases r1;have dd:=D.dictOf (P:=X.prog) (h:=s1.heap) λo ho=>U.SD a o ho;refine ⟨"dict","dict.get",RX,QP,PySem.F.type_dict_get,dd.typeIs,λb q=>?_,?_⟩
 .cases q;obtain ⟨ob,_,_,h1,h2,_⟩:=dd;exact ⟨ob,h1,h2.2.1⟩
 rw [hs];refine Calls.callWith_builtin rfl (Calls.evalArgs_plain ?_);have S:=dS he d6 (hs:=hs) cpos Go s1 σ H1 (λys H2=>cf (λy=>uS y λz=>Q (eS kvs z) H2) ys) U h;rw [hs] at S;refine thn S λus s2=>x5e λvs H2 Z r2 J=>?_;obtain ⟨y,rfl,J⟩:=cf.ex J;obtain ⟨_,rfl,ry⟩:=zp.one r2;obtain ⟨z,ey,q⟩:=J;subst ey;obtain ⟨t,rfl⟩:=ry;have O:=D.dictOf (P:=X.prog) (h:=s2.heap) λo ho=>Z.SD a o ho;refine Sa QP O.typeIs entry_dict_get (PySem.F.args_dict_get_2 _ _) (meets_dict_get (ax X.prog X.w) a (jF X.prog X.w z t) D.ns) ⟨_,O.mapOf,?_⟩;exact ⟨eS kvs z,H2,Z.tok _,Ez,q⟩
end
section
variable {prog:M8}{w:Nl}{A:Np}{E:Value->p8->Prop}{s:p8}
theorem uL{h h':Heap}(x:h.IsTuple l xs)(k:∀o,h.get? l=some o->h'.get? l=some o):h'.IsTuple l xs:=by
 obtain ⟨o,e,r⟩:=x;exact ⟨o,k o e,r⟩
theorem Iv{it t:Addr}(J:s.heap.IsTupleIter it t i)(O:s.heap.IsTuple t items)(hx:items[i]?=some x)(k:∀h',h'.IsTupleIter it t (i+1)->QC it s.heap h'->Q x { s with heap:=h' }):Nb (Nf prog w) A (Ng.SmallTypes.nextOf (.ref it)) Q E s:=by
 obtain ⟨o,ho,hc,hd⟩:=id J;obtain ⟨S,z,_,nl,G⟩:=O;unfold Ng.SmallTypes.nextOf;refine fv (NR (name:=yv "__next__") J.typeIs F.slot_tuple_iterator_next (N2 F.slot_tuple_iterator_next J.typeIs F.entry_tuple_iterator_next ?_ (F.args_tuple_iterator_next_1 _)));refine fv (m:=Rq (.ref it) 0) (Nv ho hd (x:=.ref t) rfl ?_);rw [if_neg (show ¬ ((M3 t==NB)=true) by simp)];refine fv (m:=Rq (.ref it) 1) (Nv ho hd (x:=.int i 0) rfl (fv (m:=RP (.ref t)) (Oq z G ?_)));simp only [OG,hx];refine fv (m:=setField _ _ _) (Oo ho hd (by simp) (MZ ⟨x,rfl,MZ (k _ ?_ (QC.update ..))⟩));refine ⟨_,Om _ ho (On (Pg hd _)),(QE ..).trans hc,?_⟩;rw [Pg hd];simp [N4]
theorem CM{it t:Addr}(U:Hnd A s.heap)(O:s.heap.IsTupleIter it t i)(W:s.heap.IsTuple t items)(hx:items[i]?=none)(k:∀h' e,ExtBut it s.heap h'->(∃o,h'.get? e=some o/\o.cls = .type "StopIteration")->E (.ref e) { s with heap:=h' }):Nb (Nf prog w) A (Ng.SmallTypes.nextOf (.ref it)) Q E s:=by
 obtain ⟨o,ho,hc,hd⟩:=id O;obtain ⟨ol,G,_,nl,J⟩:=W;unfold Ng.SmallTypes.nextOf;refine fv (NR (name:=yv "__next__") O.typeIs F.slot_tuple_iterator_next (N2 F.slot_tuple_iterator_next O.typeIs F.entry_tuple_iterator_next ?_ (F.args_tuple_iterator_next_1 _)));refine fv (m:=Rq (.ref it) 0) (Nv ho hd (x:=.ref t) rfl ?_);rw [if_neg (show ¬ ((M3 t==NB)=true) by simp)];refine fv (m:=Rq (.ref it) 1) (Nv ho hd (x:=.int i 0) rfl (fv (m:=RP (.ref t)) (Oq G J ?_)));simp only [OG,hx];refine fv (Pb (fv (Oo ho hd (by simp) ?_)));refine jN (U.keeps λb q Z e=>(NC _ _ λz=>?_).trans e) λh' e up st=>k h' e (λb q hb z=>up b q ((NC _ _ (Ni hb)).trans z)) st;obtain ⟨C,S⟩:=Z;rw [<- z,ho] at e;cases e;rw [hc] at S;cases S
theorem DT{z TI TO i1 i2 l1 S:Addr}(D:ZipApart z TI TO i1 i2 l1 S)(J:IsZip s.heap z TI TO .none)(aj:PF s.heap TI (.ref i1) (.ref i2))(ag:PF s.heap TO a b)(h1:s.heap.IsTupleIter i1 l1 k1)(h2:s.heap.IsListIter i2 S k2)(ab:s.heap.IsTuple l1 xs)(X6:s.heap.IsList S ys)(hx:xs[k1]?=some x)(hy:ys[k2]?=some y)(k:∀h',IsZip h' z TI TO (N4 s.heap.objs.size)->PF h' TO x y->h'.IsTupleIter i1 l1 (k1+1)->h'.IsListIter i2 S (k2+1)->PF h' s.heap.objs.size x y->h'.objs.size=s.heap.objs.size+1 ->
   (∀c o,c≠z->c≠TO->c≠i1->c≠i2->s.heap.get? c=some o->h'.get? c=some o)->Q (some (.ref s.heap.objs.size)) { s with heap:=h' }):Nb (Nf prog w) A (PP (.ref z)) Q E s:=by
 have hT:s.TypeIs (.ref z) "zip":=⟨_,J,rfl⟩;have X2:∀(Q':Value->p8->Prop)(E':Value->p8->Prop),(∀h',IsZip h' z TI TO (N4 s.heap.objs.size)->PF h' TO x y->h'.IsTupleIter i1 l1 (k1+1)->h'.IsListIter i2 S (k2+1)->PF h' s.heap.objs.size x y->h'.objs.size=s.heap.objs.size+1 ->
   (∀c o,c≠z->c≠TO->c≠i1->c≠i2->s.heap.get? c=some o->h'.get? c=some o)->Q' (.ref s.heap.objs.size) { s with heap:=h' }) ->
   Nb (Nf prog w) A.in1 (Ng.«zip.__next__» ⟨[.ref z],[]⟩) (λai s'=>∃v,ai = .done (.ret v)/\Q' v s') E' s:=by
  intro Q' E' kk;refine fv (m:=Rq (.ref z) 2) (Nv J rfl (x:=.bool false) rfl (fv (m:=Rq (.ref z) 3) (Nv J rfl (x:=.ref TI) rfl (fv (Oq aj rfl (fv (m:=Ng.SmallTypes.ownedTupleIsFree (.ref z)) ?_))))));unfold Ng.SmallTypes.ownedTupleIsFree;refine fv (Nv J rfl (x:=.none) rfl (MZ ?_));simp only [if_true];refine fv (Pb (fv (Nv J rfl (x:=.ref TO) rfl (fv (Pm J (by simp) λg1 z1 s1=>?_)))))
  replace z1:IsZip g1 z TI TO .ellipsis:=z1
  refine fv ?_;simp only [List.zipIdx_cons,List.zipIdx_nil,R9,List.forIn_nil];refine fv (fv (wpAny_onRaise (fv (m:=Ng.SmallTypes.nextOf (.ref i1)) ?_)));refine Iv (s:={ s with heap:=g1 }) (h1.at λo e=>s1.extBut _ o D.i1z e) (uL ab λo e=>s1.extBut _ o D.l1z e) hx λg2 a2 s2=>MZ ?_;have t2:PF g2 TO a b:=s2.extBut _ _ D.TOi1 (s1.extBut _ _ D.TOz ag);refine fv (Oq t2 rfl (fv (wpAny_updateSeq_pair t2 λg3 t3 O=>?_)))
  replace t3:PF g3 TO x b:=t3
  refine fv (QT (MZ (fv (fv (wpAny_onRaise (fv (m:=Ng.SmallTypes.nextOf (.ref i2)) ?_))))));refine wpAny_nextOf_list_item (((h2.extBut s1.extBut D.i2z).extBut s2.extBut D.i12.symm).extBut O.extBut D.TOi2.symm) (((X6.extBut s1.extBut D.l2z).extBut s2.extBut D.l2i1).extBut O.extBut D.l2TO) hy λg4 b4 W=>MZ ?_;have t4:PF g4 TO x b:=W.extBut _ _ D.TOi2 t3;refine fv (Oq t4 rfl (fv (wpAny_updateSeq_pair t4 λG t5 s5=>?_)))
  replace t5:PF G TO x y:=t5
  refine fv (QT (MZ (MZ (fv (Oq t5 rfl (fv (wpAny_newTuple ?_)))))));have sz:G.objs.size=s.heap.objs.size:=by rw [s5.1,W.1,O.1,s2.1,s1.1]
  have z5:IsZip G z TI TO .ellipsis:=s5.extBut _ _ D.TOz.symm (W.extBut _ _ D.i2z.symm (O.extBut _ _ D.TOz.symm (s2.extBut _ _ D.i1z.symm z1)));have YH:∀c o,c≠z->c≠TO->c≠i1->c≠i2->s.heap.get? c=some o->G.get? c=some o:=λc o c1 c2 c3 c4 e=>s5.extBut _ _ c2 (W.extBut _ _ c4 (O.extBut _ _ c2 (s2.extBut _ _ c3 (s1.extBut _ _ c1 e))));have a5:G.IsTupleIter i1 l1 (k1+1):=a2.at λo e=>s5.extBut _ _ D.TOi1.symm (W.extBut _ _ D.i12 (O.extBut _ _ D.TOi1.symm e));have b5:G.IsListIter i2 S (k2+1):=b4.extBut s5.extBut D.TOi2.symm;have Xt:z<G.objs.size:=Nj z5;refine fv (m:=Ng.SmallTypes.ownedTupleHandOut (.ref z) (.ref G.objs.size)) ?_;unfold Ng.SmallTypes.ownedTupleHandOut;have z6:IsZip (G.push { cls:=.type "tuple",data:=.seq #[x,y] }) z TI TO .ellipsis:=we _ z5;refine fv (Pm z6 (by simp) λg7 z7 s7=>?_)
  replace z7:IsZip g7 z TI TO (N4 G.objs.size):=z7
  refine Pm z7 (by simp) λU z8 s8=>?_
  replace z8:IsZip U z TI TO (N4 G.objs.size):=z8
  have up:∀c o,c≠z->G.get? c=some o->U.get? c=some o:=λc o c1 e=>s8.extBut _ _ c1 (s7.extBut _ _ c1 (we _ e));have t8:PF U G.objs.size x y:=s8.extBut _ _ (Pe Xt) (s7.extBut _ _ (Pe Xt) (Nd _ rfl));have Z:U.objs.size=G.objs.size+1:=by rw [s8.1,s7.1,OQ]
  rw [sz] at z8 t8 Z;refine MZ ⟨_,rfl,?_⟩;show Q' (.ref G.objs.size) _;rw [sz];exact kk U z8 (up _ _ D.TOz t5) (a5.at λo e=>up _ o D.i1z e) (b5.at λo e=>up _ o D.i2z e) t8 Z λc o c1 c2 c3 c4 e=>up c o c1 (YH c o c1 c2 c3 c4 e)
 unfold PP;exact fv (Qi (NR (name:=yv "__next__") hT F.slot_zip_next (N2 F.slot_zip_next hT F.entry_zip_next (X2 _ _ λh' q1 q2 q3 q4 q5 q6 q7=>MZ (k h' q1 q2 q3 q4 q5 q6 q7)) (F.args_zip_next_1 _))))
theorem Iw{z TI TO i1 i2 l1 l2:Addr}(hh:Hnd A s.heap)(D:ZipApart z TI TO i1 i2 l1 l2)(G:IsZip s.heap z TI TO .none)(U:PF s.heap TI (.ref i1) (.ref i2))(ab:PF s.heap TO a b)(h1:s.heap.IsTupleIter i1 l1 k1)(O:s.heap.IsTuple l1 xs)(hx:xs[k1]?=none)(k:∀h',(∀c o,c≠z->c≠i1->s.heap.get? c=some o->h'.get? c=some o)->Q none { s with heap:=h' }):Nb (Nf prog w) A (PP (.ref z)) Q E s:=by
 have W:s.TypeIs (.ref z) "zip":=⟨_,G,rfl⟩;have X2:∀(Z:Fin->p8->Prop)(E':Value->p8->Prop),(∀h' e,(∀c o,c≠z->c≠i1->s.heap.get? c=some o->h'.get? c=some o)->(∃o,h'.get? e=some o/\o.cls = .type "StopIteration")->E' (.ref e) { s with heap:=h' }) ->
   Nb (Nf prog w) A.in1 (Ng.«zip.__next__» ⟨[.ref z],[]⟩) Z E' s:=by
  intro Z E' kE;refine fv (m:=Rq (.ref z) 2) (Nv G rfl (x:=.bool false) rfl (fv (m:=Rq (.ref z) 3) (Nv G rfl (x:=.ref TI) rfl (fv (Oq U rfl (fv (m:=Ng.SmallTypes.ownedTupleIsFree (.ref z)) ?_))))));unfold Ng.SmallTypes.ownedTupleIsFree;refine fv (Nv G rfl (x:=.none) rfl (MZ ?_));simp only [if_true];refine fv (Pb (fv (Nv G rfl (x:=.ref TO) rfl (fv (Pm G (by simp) λg1 z1 s1=>?_)))));refine fv ?_;simp only [List.zipIdx_cons,List.zipIdx_nil,R9,List.forIn_nil];refine fv (fv (wpAny_onRaise (fv (m:=Ng.SmallTypes.nextOf (.ref i1)) ?_)));have J:Hnd A.in1 g1:=Hnd.keeps (h:=s.heap) hh λc o ⟨C,hC⟩ e=>s1.extBut c o (λq=>by rw [q,G] at e;cases e;cases hC) e;refine CM (s:={ s with heap:=g1 }) J (h1.at λo e=>s1.extBut _ o D.i1z e) (uL O λo e=>s1.extBut _ o D.l1z e) hx λg2 e s2 st=>?_;obtain ⟨oe,S,ce⟩:=st;have z2:IsZip g2 z TI TO .ellipsis:=s2 _ _ D.i1z.symm z1;have ez:e≠z:=λq=>by rw [q,z2] at S;cases S;simp at ce
  exact Pm z2 (by simp) λg3 _ s3=>kE g3 e (λc o c1 c2 q=>s3.extBut _ _ c1 (s2 _ _ c2 (s1.extBut _ _ c1 q))) ⟨oe,s3.extBut _ _ ez S,ce⟩
 unfold PP;refine fv (Qi (NR (name:=yv "__next__") W F.slot_zip_next (N2 F.slot_zip_next W F.entry_zip_next (X2 _ _ λh' e up st=>?_) (F.args_zip_next_1 _))));obtain ⟨o,g,c⟩:=st;exact fv (QJ (T:="StopIteration") (b:=true) ⟨o,g,c⟩ Rp (MZ (k h' up)))
end
abbrev zT1(h:Heap)(l1:Addr):Heap:=h.push { cls:=.type "tuple_iterator",data:=.fields #[.ref l1,.int 0 0] }
abbrev zT2(h:Heap)(l1 z:Addr):Heap:=(zT1 h l1).push { cls:=.type "list_iterator",data:=.fields #[.ref z,.int 0 0] }
abbrev zT3(h:Heap)(l1 z:Addr):Heap:=(zT2 h l1 z).push { cls:=.type "tuple",data:=.seq #[.ref h.objs.size,.ref (zT1 h l1).objs.size] }
abbrev zT4(h:Heap)(l1 z:Addr):Heap:=(zT3 h l1 z).push { cls:=.type "tuple",data:=.seq #[.none,.none] }
abbrev zT5(h:Heap)(l1 z:Addr):Heap:=(zT4 h l1 z).push { cls:=.type "zip",data:=.fields #[.none,.bool false,.bool false,.ref (zT2 h l1 z).objs.size,.ref (zT3 h l1 z).objs.size] }
theorem De(l1 z:Addr)(xs ys:Array Value):Meets (Ng.«zip.__new__» ⟨[.type "zip",.ref l1,.ref z],[]⟩) (λ_ R s=>s.heap.IsTuple l1 xs/\s.heap.IsList z ys/\R (.ok (.ret (.ref (zT4 s.heap l1 z).objs.size))) { s with heap:=zT5 s.heap l1 z }) :=
 .of_wp λprog w A R s h=>by
  obtain ⟨O,g,d,tk,os⟩:=s;obtain ⟨J,S,h⟩:=h;have U:=sub_zip;have F:Heap.IsTuple (p8.heap ⟨O,g,d,tk,os⟩) l1 xs:=J;have G:Heap.IsList (p8.heap ⟨O.push { cls:=.type "tuple_iterator",data:=.fields #[.ref l1,.int 0 0] },g,d,tk,os⟩) z ys:=Heap.IsList.push S _
  wp_walk using wpAny_pyIter_tuple F,O4 G
  exact ⟨_,rfl,h⟩
section
variable {prog:M8}{w:Nl}{A:Np}{E:Value->p8->Prop}{s:p8}
theorem LO(S:s.heap.IsTuple l1 xs)(X6:s.heap.IsList z ys)(h:∀h',IsZip h' (s.heap.objs.size+4) (s.heap.objs.size+2) (s.heap.objs.size+3) .none->PF h' (s.heap.objs.size+2) (.ref s.heap.objs.size) (.ref (s.heap.objs.size+1)) ->
   PF h' (s.heap.objs.size+3) .none .none->h'.IsTupleIter s.heap.objs.size l1 0->h'.IsListIter (s.heap.objs.size+1) z 0->h'.objs.size=s.heap.objs.size+5 ->
   (∀c o,s.heap.get? c=some o->h'.get? c=some o)->Q (.ref (s.heap.objs.size+4)) { s with heap:=h' }):Nb (Nf prog w) A (call (.type "zip") [.ref l1,.ref z]) Q E s:=by
 refine callType_new F.called_zip (by decide) (F.typeCall_zip_2 _ _) (F.newCall_zip_2 _ _) (λobj=>F.args_object_init_3 obj _ _) F.entry_zip_new (De l1 z xs ys) ⟨S,X6,?_⟩;have G:(zT1 s.heap l1).objs.size=s.heap.objs.size+1:=OQ ..;have U:(zT2 s.heap l1 z).objs.size=s.heap.objs.size+2:=by rw [OQ,G]
 have W:(zT3 s.heap l1 z).objs.size=s.heap.objs.size+3:=by rw [OQ,U]
 have J:(zT4 s.heap l1 z).objs.size=s.heap.objs.size+4:=by rw [OQ,W]
 have z5:(zT5 s.heap l1 z).objs.size=s.heap.objs.size+5:=by rw [OQ,J]
 have O:(zT5 s.heap l1 z).get? (zT4 s.heap l1 z).objs.size=some _:=Nd _ rfl;have Z:(zT5 s.heap l1 z).get? (zT3 s.heap l1 z).objs.size=some _:=we _ (Nd _ rfl);have g3:(zT5 s.heap l1 z).get? (zT2 s.heap l1 z).objs.size=some _:=we _ (we _ (Nd _ rfl));have g2:(zT5 s.heap l1 z).get? (zT1 s.heap l1).objs.size=some _:=we _ (we _ (we _ (Nd _ rfl)));have g1:(zT5 s.heap l1 z).get? s.heap.objs.size=some _:=we _ (we _ (we _ (we _ (Nd _ rfl))));show _/\_;rw [U,W,J] at O;rw [G,U] at g3;rw [W] at Z;rw [G] at g2;rw [J];refine ⟨⟨_,O,rfl⟩,h _ O g3 Z ⟨_,g1,rfl,rfl⟩ ⟨_,g2,rfl,rfl⟩ z5 λc o x=>?_⟩;exact we _ (we _ (we _ (we _ (we _ x))))
end
def jz(K:KE)(a b:Addr):It :=
 ⟨λi H=>∃xs ys x y,SqT K H a xs/\SqL K H b ys/\xs[i]?=some x/\ys[i]?=some y,λi H v H'=>∃T x y,H T=none/\v = .ref T/\H'=upd H T (.tup [x,y])/\(∀xs,SqT K H a xs->xs[i]?=some x)/\∀ys,SqL K H b ys->ys[i]?=some y,
  λi H=>∃xs ys,SqT K H a xs/\SqL K H b ys/\xs.length<=i⟩
structure jR(z TI TO i1 i2 l1 l2:Addr)(i:Nat)(h:Heap):Prop where
 z:IsZip h z TI TO .none
 ti:PF h TI (.ref i1) (.ref i2)
 to:∃a b,PF h TO a b
 a:h.IsTupleIter i1 l1 i
 b:h.IsListIter i2 l2 i
theorem jR.keep{z TI TO i1 i2 l1 F:Addr}(x:jR z TI TO i1 i2 l1 F i h)(k:∀b∈[z,TI,TO,i1,i2],∀o,h.get? b=some o->h'.get? b=some o):jR z TI TO i1 i2 l1 F i h':=by
 obtain ⟨U,J,⟨u,v,S⟩,G,O⟩:=x;exact ⟨k _ (by simp) _ U,k _ (by simp) _ J,⟨u,v,k _ (by simp) _ S⟩,G.at λo e=>k _ (by simp) o e,O.at λo e=>k _ (by simp) o e⟩
theorem HV{P:M8}{w:Nl}{K:KE}{Zr:List Nr}{kk:Nat}{tp:Pos}{l1 l2 z TI TO i1 i2:Addr}(D:ZipApart z TI TO i1 i2 l1 l2) :
  cS false P w K (.Tuple Zr kk tp) (jz K l1 l2) [z,TI,TO,i1,i2] z (jR z TI TO i1 i2 l1 l2) where
 mem:=by simp
 obj:=λi h st b hb=>by
  obtain ⟨Z,G,⟨u,v,W⟩,⟨o4,F,_,d4⟩,⟨o5,S,_,d5⟩⟩:=st;simp only [MX,M1,or_false] at hb;rcases hb with rfl|rfl|rfl|rfl|rfl
  .exact ⟨_,Z,λv q=>nomatch q⟩
  .exact ⟨_,G,λv q=>nomatch q⟩
  .exact ⟨_,W,λv q=>nomatch q⟩
  .exact ⟨_,F,λv q=>by rw [d4] at q;cases q⟩
  .exact ⟨_,S,λv q=>by rw [d5] at q;cases q⟩
 keep:=λi h h' st k=>st.keep k
 item:=by
  intro X hP hw hK hc i Go s σ H E I hf st hg;subst hP hw hK;obtain ⟨xs,ys,x,y,Xu,J,hx,hy⟩:=hg;obtain ⟨ag,XU,p1,ab⟩:=I.tuple Xu;obtain ⟨a6,aj,p2,a7⟩:=I.list J;obtain ⟨u1,av,a0⟩:=XU.get hx;obtain ⟨u2,ak,ai⟩:=aj.get hy;obtain ⟨Z,G,⟨u,v,W⟩,F,S⟩:=st;refine DT D Z G W F S p1 p2.isList (x:=u1) (y:=u2) (by simpa using av) (by simpa using ak) λh' b1 b2 b3 b4 b5 b6 b7=>?_;refine ⟨_,rfl,wpAny_letOwnedTupleGo_zip (s:={ s with heap:=h' }) b1 λh2 c1 U=>?_⟩;have Xt:z<s.heap.objs.size:=Nj Z;have nz:s.heap.objs.size≠z:=Pe Xt;have all:∀c o,c≠z->c≠TO->c≠i1->c≠i2->s.heap.get? c=some o->h2.get? c=some o:=λc o n1 n2 n3 n4 e=>U.extBut c o n1 (b7 c o n1 n2 n3 n4 e);have tT:h2.get? s.heap.objs.size=some { cls:=.type "tuple",data:=.seq #[u1,u2] }:=U.extBut _ _ nz b5;have Ze:H s.heap.objs.size=none:=I.hok.fresh (zv _);have XO:HOk X.prog X.w H h2:=λb u e=>by
   refine (I.hok b u e).stay (λc v hc q=>?_) (λ_ q=>q) λ_ _ q=>q;have O:∀d∈[z,TI,TO,i1,i2],c≠d:=λd hd w=>by
    have fd:=(hf d hd).1;rcases hc with k|k
    .rw [k] at w;rw [w,fd] at e;cases e
    .rw [w,fd] at k;cases k
   exact all c v (O z (by simp)) (O TO (by simp)) (O i1 (by simp)) (O i2 (by simp)) q
  have aT:∀b o,s.heap.get? b=some o->b≠s.heap.objs.size:=λb o e=>NN (Nj e);have I2:Inv X Go σ (upd H s.heap.objs.size (.tup [x,y])) { s with heap:=h2 }:=by
   refine I.step (g':=s.gens) (d':=s.drawn) (t':=s.toks) (ch:=[z,TO,i1,i2]) (λb hb=>?_) (λb o _ _ hb e _=>?_) (λb o _ _ hb e _=>?_) (λb o _ e n=>?_) (λb o hb e=>?_) (λb ps e=>?_) (λb o u e=>?_) (λb ps e=>?_) (λm hm=>?_) (XO.add Ze ?_) I.bare
   .have XN:b∈[z,TI,TO,i1,i2]:=by simp only [MX,M1,or_false] at hb ⊢;rcases hb with h|h|h|h<;>simp [h]
    obtain ⟨f0,f1,f2,f3,f4,f5⟩:=hf b XN;exact ⟨f3,f1,f4,f5⟩
   .simp only [MX,M1,or_false,not_or] at hb;exact all b o hb.1 hb.2.1 hb.2.2.1 hb.2.2.2 e
   .simp only [MX,M1,or_false,not_or] at hb;exact ⟨o.slots,all b o hb.1 hb.2.1 hb.2.2.1 hb.2.2.2 e⟩
   .rw [zd (aT b o e)];exact n
   .simp only [MX,M1,or_false,not_or] at hb;exact ⟨o,all b o hb.1 hb.2.1 hb.2.2.1 hb.2.2.2 e⟩
   .rw [zd (zC e Ze)];exact e
   .rw [zd (zC e Ze)];exact e
   .exact ⟨#[],by rw [zd (zC e Ze),e];simp⟩
   .obtain ⟨o,es,ep,ho,r⟩:=hm;exact ⟨o,es,ep,all _ o (Ni (hf z (by simp)).2.1) (Ni (hf TO (by simp)).2.1) (Ni (hf i1 (by simp)).2.1) (Ni (hf i2 (by simp)).2.1) ho,r⟩
   .exact ⟨by show 2<=sizeLine;decide,[u1,u2],.cons a0 (.cons ai .nil),⟨_,tT,rfl,_,rfl⟩⟩
  refine ⟨.ref s.heap.objs.size,_,I2,rfl,⟨_,x,y,Ze,rfl,rfl,λzs hz=>by rw [I.S6 hz Xu];exact hx,λzs hz=>by rw [I.Sx hz J];exact hy⟩,?_,λb hb=>?_⟩
  .exact ⟨c1,U.extBut _ _ D.TIz (b7 _ _ D.TIz D.TITO D.TIi1 D.TIi2 G),⟨u1,u2,U.extBut _ _ D.TOz b2⟩,b3.at λo e=>U.extBut _ o D.i1z e,b4.extBut U.extBut D.i2z⟩
  .have ne:b≠s.heap.objs.size:=λq=>by
    have:b<s.heap.objs.size:=by
     simp only [MX,M1,or_false] at hb;obtain ⟨o4,F,_⟩:=F;obtain ⟨o5,S,_⟩:=S;rcases hb with rfl|rfl|rfl|rfl|rfl
     .exact Xt
     .exact Nj G
     .exact Nj W
     .exact Nj F
     .exact Nj S
    exact absurd (q ▸ this) (ND _)
   rw [zd ne];exact (hf b hb).1
 done:=by
  intro X hP hw hK hc i Go s σ H E I hf st hg;subst hP hw hK;obtain ⟨xs,ys,Xu,J,hx⟩:=hg;obtain ⟨ag,XU,p1,ab⟩:=I.tuple Xu;have hl:=XU.length;obtain ⟨Z,G,⟨u,v,W⟩,F,S⟩:=st;refine Iw I.hnd D Z G W F p1 (by simp;lia) λh' up=>⟨rfl,?_⟩;refine I.step (g':=s.gens) (d':=s.drawn) (t':=s.toks) (ch:=[z,i1]) (λb hb=>?_) (λb o _ _ hb e _=>?_) (λb o _ _ hb e _=>?_) (λ_ _ _ _ n=>n) (λb o hb e=>?_) (λ_ _ e=>e) (λ_ _ _ e=>e) (λb ps e=>⟨#[],by rw [e];simp⟩) (λm hm=>?_) (λb u e=>?_) I.bare
  .have XN:b∈[z,TI,TO,i1,i2]:=by simp only [MX,M1,or_false] at hb ⊢;rcases hb with h|h<;>simp [h]
   obtain ⟨f0,f1,f2,f3,f4,f5⟩:=hf b XN;exact ⟨f3,f1,f4,f5⟩
  .simp only [MX,M1,or_false,not_or] at hb;exact up b o hb.1 hb.2 e
  .simp only [MX,M1,or_false,not_or] at hb;exact ⟨o.slots,up b o hb.1 hb.2 e⟩
  .simp only [MX,M1,or_false,not_or] at hb;exact ⟨o,up b o hb.1 hb.2 e⟩
  .obtain ⟨o,es,ep,ho,r⟩:=hm;exact ⟨o,es,ep,up _ o (Ni (hf z (by simp)).2.1) (Ni (hf i1 (by simp)).2.1) ho,r⟩
  .refine (I.hok b u e).stay (λc v hc q=>?_) (λ_ q=>q) λ_ _ q=>q;have O:∀d∈[z,TI,TO,i1,i2],c≠d:=λd hd w=>by
    have fd:=(hf d hd).1;rcases hc with k|k
    .rw [k] at w;rw [w,fd] at e;cases e
    .rw [w,fd] at k;cases k
   exact up c v (O z (by simp)) (O i1 (by simp)) q
 self:=λ_ _ _ _ _ st h=>QI st.z h
section
variable {X:Cx}
def xF(K:KE)(ta:TA):TI:=λσ H R=>ta σ H λvs H1=>∃a b,vs=[.ref a,.ref b]/\(∃xs,SqT K H1 a xs)/\(∃ys,SqL K H1 b ys)/\R (jz K a b) H1
theorem JA{tp p pos:Pos}(hg:Gl X "zip")(hm:X.mg "zip"=none)(ha:W (PA X [a,b] ta))(hs:Nq [a,b] X.env=[(false,NT a X.env),(false,NT b X.env)]:=by rfl)(U:Nq [b] X.env=[(false,NT b X.env)]:=by rfl):W (PIc false X (.Tuple Zr kk tp) (.Call (.Name "zip" p) [a,b] [] pos) (xF X.K ta)):=by
 refine ⟨?_⟩;have ha:=ha.h;intro Go s σ H R I h;refine Call_ (dI I hg hm boot_zip (Od (thn (ha pos Go s σ H _ I h) λus s1=>x5e λvs H1 z r1 q1=>?_) (by rw [hs,U]) (by rw [U];rfl)));obtain ⟨l1,O,e,⟨xs,h1⟩,⟨ys,h2⟩,q⟩:=q1;subst e;cases r1 with
 | cons r J =>
  cases J with
  | cons r' J =>
   cases J;cases (show _=M3 l1 from r);cases (show _=M3 O from r');obtain ⟨ab,XU,S,_⟩:=z.tuple h1;obtain ⟨ai,ag,p2,_⟩:=z.list h2;have F:l1<s1.heap.objs.size:=by obtain ⟨o,e,_⟩:=S;exact Nj e
   have G:O<s1.heap.objs.size:=by obtain ⟨o,e,_⟩:=p2.isList;exact Nj e
   refine LO S p2.isList λh' Z a2 a3 a4 a5 a6 a7=>QI (s:={ s1 with heap:=h' }) Z ?_;refine ⟨_,_,_,_,H1,rfl,z.kept (t':=s1.toks) a7,HV (zipApart_new F G),⟨Z,a2,⟨_,_,a3⟩,a4,a5⟩,λb hb=>?_,q⟩;have le:s1.heap.objs.size<=b:=by
    simp only [MX,M1,or_false] at hb;rcases hb with rfl|rfl|rfl|rfl|rfl<;>lia
   exact z.SR le (z.hok.fresh le)
end
section
variable {K:KE}{g:TG}{tb:TS}{D:aK}{σ:St}{H:Hp}{ta:TA}{R:It->Hp->Prop}
theorem Er:xF K ta σ H R=ta σ H λvs H1=>uR2 vs λa b=>(∃xs,SqT K H1 a xs)/\(∃ys,SqL K H1 b ys)/\R (jz K a b) H1:=by
 apply propext;constructor
 .intro h;exact h
 .intro h;exact h
theorem ao.ay(W:xs.length=ys.length)(z:Nat->St->Hp->Prop)(S:z 0 σ H)(hl:∀i σ H,i<=xs.length->z i σ H->SqT K H a xs/\SqL K H b ys)(hs:∀i x y p σ H,xs[i]?=some x->ys[i]?=some y->z i σ H->H p=none->g (.ref p) σ (upd H p (.tup [x,y])) λF H2=>tb { D with nx:=z (i+1),ct:=z (i+1),bk:=D.nx } F H2)(hd:∀σ H,z xs.length σ H->D.nx σ H):ao (jz K a b) g tb D σ H:=by
 refine ⟨λi m σ H=>m=xs.length-i/\i<=xs.length/\z i σ H,⟨xs.length,by simp,NV _,S⟩,?_⟩;rintro i m σ H ⟨rfl,hi,p⟩;obtain ⟨O,J⟩:=hl i σ H hi p;by_cases G:i<xs.length
 .refine .inr ⟨⟨xs,ys,xs[i],ys[i]'(by lia),O,J,by simp [G],by simp [W ▸ G]⟩,z (i+1),λZ H' p'=>⟨xs.length-(i+1),by lia,rfl,G,p'⟩,λv H' y=>?_⟩;obtain ⟨T,x,y,U,rfl,rfl,hx,hy⟩:=y;exact hs i x y T σ _ (hx xs O) (hy ys J) p U
 .have e:i=xs.length:=by lia
  subst e;exact .inl ⟨⟨xs,ys,O,J,zv _⟩,hd σ H p⟩
end
def tx(l:List Nat):Str:=⟨l.toArray⟩
def sg(z:Str):List Nat:=z.cps.toList
theorem cx(l:List Nat):sg (tx l)=l:=by simp [sg,tx]
theorem iy(z:Str):tx (sg z)=z:=by cases z;simp [sg,tx]
theorem jA(h:sg a=sg b):a=b:=by rw [<- iy a,h,iy]
theorem dB(a b:Str):sg (a++b)=sg a++sg b:=by simp [sg,Str.cps_append]
theorem af(z:Str):(sg z).length=z.length:=by simp [sg,Str.length]
theorem ni(l:List Nat):(tx l).length=l.length:=by simp [tx,Str.length]
def c1(c:Nat):Str:=⟨#[c]⟩
theorem kJ:StrLaws.At x (c1 c) x.length i↔(sg x)[i]?=some c:=by
 unfold StrLaws.At;rw [StrLaws.subAt_eq];show i+1<=x.length/\((((sg x).drop i).take 1)==[c])=true↔_;rw [<- af x];constructor
 .rintro ⟨h1,h2⟩;have h2:=eq_of_beq h2;rw [l6 (by lia)];have h3:((sg x).drop i).take 1=[(sg x)[i]'(by lia)]:=by
   rw [OX (by lia)];rfl
  rw [h3] at h2;injection h2 with h2 _
  rw [h2]
 .intro h;obtain ⟨h1,h2⟩:=MY.mp h;refine ⟨by lia,?_⟩;rw [OX h1,h2];simp
theorem HP(y:Str)(c:Nat):(!(Ng.Str.occurrences y ⟨#[c]⟩ 0 y.length 1).isEmpty)=(sg y).contains c:=by
 rcases StrLaws.occ_head y (c1 c) 1 (zv _) with ⟨h,hn⟩|⟨i,r,h,ha,_⟩
 .rw [show Ng.Str.occurrences y ⟨#[c]⟩ 0 y.length 1=[] from h];symm;show (sg y).contains c=false;rw [Pt];intro hc;obtain ⟨i,hi,e⟩:=NQ (Ph.mp hc);exact hn i (kJ.mpr (by rw [l6 hi,e]))
 .rw [show Ng.Str.occurrences y ⟨#[c]⟩ 0 y.length 1=i::r from h];symm;exact Ph.mpr (Na (kJ.mp ha))
def aE(c:Nat):List Nat->List (List Nat)
 | []=>[[]]
 | x::t=>if x=c then []::aE c t else match aE c t with
  | []=>[[x]]
  | h::r=>(x::h)::r
def fo(p:List Nat):List (List Nat)->List (List Nat)
 | []=>[p]
 | h::r=>(p++h)::r
theorem fM(c:Nat):∀l,∃h r,aE c l=h::r
 | []=>⟨_,_,rfl⟩
 | x::t=>by
  unfold aE;split
  .exact ⟨_,_,rfl⟩
  .obtain ⟨h,r,e⟩:=fM c t;rw [e];exact ⟨_,_,rfl⟩
theorem iK(c x:Nat)(t:List Nat)(h:x≠c):aE c (x::t)=fo [x] (aE c t):=by
 obtain ⟨a,r,e⟩:=fM c t;show (if x=c then _ else _)=_;rw [if_neg h,e];rfl
theorem K0(p q:List Nat)(l:List (List Nat)):fo p (fo q l)=fo (p++q) l:=by
 cases l<;>simp [fo]
theorem qx(s:Str)(c hi z:Nat):∀(l:List Nat)(st:Array Nat×Nat),(∀i∈l,st.2<=i)->l.Pairwise (· < ·)->st.1.size+l.length<=z ->
  (forIn l st (StrLaws.occBody s (c1 c) hi z)).run.fst.toList=st.1.toList++l.filter λi=>decide (i+1<=hi)&&Ng.Str.subAt s (c1 c) i
 | [],st,_,_,_=>by simp
 | a::l,st,h1,h2,h3=>by
  rw [R9];unfold StrLaws.occBody;have ha:=h1 a (Nm ..);rw [NS] at h2;simp only [N6] at h3;split
  .rename_i hc;have F:=qx s c hi z l (st.1.push a,a+(c1 c).length) (λi hi=>by have:=h2.1 i hi;show a+1<=i;lia) h2.2 (by simp;lia);have G:(decide (a+1<=hi)&&Ng.Str.subAt s (c1 c) a)=true:=by rw [NJ];exact ⟨decide_eq_true hc.1.2,hc.2⟩
   rw [PR,G,if_pos rfl];refine Eq.trans F ?_;simp
  .rename_i hc;have F:=qx s c hi z l st (λi hi=>h1 i (M7 _ hi)) h2.2 (by lia);have G:(decide (a+1<=hi)&&Ng.Str.subAt s (c1 c) a)=false:=by
    rw [Pt];intro h;rw [NJ] at h;exact hc ⟨⟨⟨by lia,ha⟩,of_decide_eq_true h.1⟩,h.2⟩
   rw [PR,G,if_neg (by simp)];exact F
theorem xk(x:Str)(c:Nat):Ng.Str.occurrences x (c1 c) 0 x.length (x.length+1)=(range' 0 (x.length+1)).filter λi=>(sg x)[i]? == some c:=by
 rw [StrLaws.occ_eq];rw [qx x c x.length (x.length+1) _ _ (λ_ _=>NV _) (List.pairwise_lt_range' (s:=0) (n:=x.length+1-0)) (by simp)];simp only [R6,Nat.sub_zero];refine List.filter_congr λi _=>?_;rw [PB];have:=kJ (x:=x) (c:=c) (i:=i);unfold StrLaws.At at this;rw [NJ,decide_eq_true_eq,beq_iff_eq];exact this
theorem oP(x:Str)(c:Nat):∀(k a i:Nat),i+k=x.length->a<=i->StrLaws.partsFrom x 1 a ((range' i (k+1)).filter λi=>(sg x)[i]? == some c)=(fo (((sg x).drop a).take (i-a)) (aE c ((sg x).drop i))).map tx
 | 0,a,i,h,ha=>by
  have hl:=af x;have O:(sg x)[i]?=none:=OS (by lia);have U:(sg x).drop i=[]:=QF (by lia);have F:(range' i (0+1)).filter (λi=>(sg x)[i]? == some c)=[]:=by
   show List.filter _ [i]=[];rw [PR,O];rfl
  rw [U,F];show [Ng.Str.strSub x a x.length]=[tx _];refine congrArg (·::[]) (jA ?_);rw [cx];show (Ng.Str.strSub x a x.length).cps.toList=_;rw [StrLaws.strSub_toList,show x.length=i by lia];simp [aE,sg]
 | k+1,a,i,h,ha=>by
  have hl:=af x;have hi:i<(sg x).length:=by lia
  have z:(sg x)[i]?=some ((sg x)[i]):=l6 hi;have S:(sg x).drop i=(sg x)[i]::(sg x).drop (i+1):=OX hi;rw [List.range'_succ,PR,z,S];by_cases hc:(sg x)[i]=c
  .rw [if_pos (by simp [hc])];have W:=oP x c k (i+1) (i+1) (by lia) (zv _);show Ng.Str.strSub x a i::StrLaws.partsFrom x 1 (i+1) _=_;rw [W];have J:aE c ((sg x)[i]::(sg x).drop (i+1))=[]::aE c ((sg x).drop (i+1)):=by
    show (if _=c then _ else _)=_;rw [if_pos hc]
   rw [J];obtain ⟨p,r,e⟩:=fM c ((sg x).drop (i+1));rw [e];simp only [Se,List.take_zero,fo,R6,Oz,NO];refine congrArg (·::_) (jA ?_);rw [cx];exact StrLaws.strSub_toList x a i
  .rw [if_neg (by simp [hc])];rw [oP x c k a (i+1) (by lia) (by lia),iK c _ _ hc,K0];have G:((sg x).drop a).take (i+1-a)=((sg x).drop a).take (i-a)++[(sg x)[i]]:=by
    rw [show i+1-a=(i-a)+1 by lia,NW];congr 1;rw [Rx,show a+(i-a)=i by lia,z];rfl
   rw [G]
theorem tU:∀{l:List Nat},c∉l->aE c l=[l]
 | [],_=>rfl
 | x::t,h=>by
  rw [MX,not_or] at h;rw [iK c x t (Ni h.1),tU h.2];rfl
theorem xH(x:Str)(hc:c<128):N1 x (c1 c)=(aE c (sg x)).map tx:=by
 have G:Ng.Str.strKind (c1 c)=1:=by
  unfold Ng.Str.strKind;rw [if_pos];show (#[c]:Array Nat).all (· < 256)=true;simp;lia
 have F : ¬ Ng.Str.strKind x<Ng.Str.strKind (c1 c):=by
  rw [G];unfold Ng.Str.strKind;split<;>(try split)<;>lia
 have z:c∉sg x->[x]=(aE c (sg x)).map tx:=λh=>by rw [tU h];show [x]=[tx (sg x)];rw [iy]
 unfold N1;split
 .rename_i h;rw [decide_eq_false F,Ql,decide_eq_true_eq] at h;have h:x.length<1:=h;rw [<- af] at h;refine z ?_;have J:sg x=[]:=Q0 (by lia);rw [J];exact M1
 .split
  .rename_i h;refine z λhm=>?_;obtain ⟨i,hi,e⟩:=NQ hm;rw [xk] at h;have:i∈(range' 0 (x.length+1)).filter λi=>(sg x)[i]? == some c:=by
    rw [Ro];refine ⟨?_,by rw [l6 hi,e];simp⟩;rw [List.mem_range'_1];rw [af] at hi;lia
   rw [List.isEmpty_iff.mp h] at this;exact absurd this M1
  .rw [StrLaws.partsBetween_eq,xk];show StrLaws.partsFrom x 1 0 _=_;rw [oP x c x.length 0 0 (by lia) (zv _)];simp only [Se,List.take_zero,Sm];obtain ⟨h,r,e⟩:=fM c (sg x);rw [e];rfl
theorem rq:∀(w:List Nat)(ws:List (List Nat)),(∀v∈w::ws,c∉v)->aE c (w++(ws.map (c::·)).flatten)=w::ws
 | [],[],_=>rfl
 | [],v::ws,h=>by
  have F:=rq v ws λu z=>h u (M7 _ z);show aE c (c::(v++(ws.map (c::·)).flatten))=_;show (if c=c then _ else _)=_;rw [if_pos rfl,F]
 | x::w,ws,h=>by
  have hx:=h _ (Nm ..);rw [MX,not_or] at hx;have F:=rq w ws λu z=>by
   rcases MX.mp z with rfl|z
   .exact hx.2
   .exact h u (M7 _ z)
  show aE c (x::(w++(ws.map (c::·)).flatten))=_;rw [iK c x _ (Ni hx.1),F];rfl
theorem qz(x:Str)(c hi:Nat):∀(l:List Nat)(st:Option Nat),(forIn l st (λi r=>if (decide (i+(c1 c).length<=hi)&&Ng.Str.subAt x (c1 c) i)=true then (pure (ForInStep.yield (some i)):Id _) else pure (ForInStep.yield r))).run =
  l.foldl (λZI i=>if (decide (i+1<=hi)&&Ng.Str.subAt x (c1 c) i)=true then some i else ZI) st
 | [],st=>rfl
 | a::l,st=>by
  rw [R9,QM];show _=l.foldl _ (if (decide (a+(c1 c).length<=hi)&&Ng.Str.subAt x (c1 c) a)=true then some a else st);split
  .exact qz x c hi l _
  .exact qz x c hi l _
theorem xc(x:Str)(c:Nat):Ng.Str.lastOccurrence x (c1 c) 0 x.length=(range' 0 (x.length+1)).foldl (λZI i=>if (sg x)[i]?=some c then some i else ZI) none:=by
 have e:Ng.Str.lastOccurrence x (c1 c) 0 x.length=(forIn (range' 0 (x.length+1)) none (λi r=>if (decide (i+(c1 c).length<=x.length)&&Ng.Str.subAt x (c1 c) i)=true then (pure (ForInStep.yield (some i)):Id _) else pure (ForInStep.yield r))).run:=by
  unfold Ng.Str.lastOccurrence;simp
 rw [e,qz];congr 1;funext ZI i;have:=kJ (x:=x) (c:=c) (i:=i);unfold StrLaws.At at this;by_cases h:(sg x)[i]?=some c
 .rw [if_pos h,if_pos];rw [NJ,decide_eq_true_eq];exact this.mpr h
 .rw [if_neg h,if_neg];intro q;rw [NJ,decide_eq_true_eq] at q;exact h (this.mp q)
theorem qq{p:Nat->Prop} [DecidablePred p]:∀(l:List Nat)(a:Option Nat),(∀i∈l,¬ p i)->l.foldl (λZI i=>if p i then some i else ZI) a=a
 | [],_,_=>rfl
 | x::l,a,h=>by
  rw [QM,if_neg (h x (Nm ..))];exact qq l a λi hi=>h i (M7 _ hi)
theorem Ia(h:sg x=a++c::b)(hb:c∉b):Qq x (c1 c)=a.length:=by
 have hl:x.length=a.length+(b.length+1):=by rw [<- af,h];simp
 have e:Ng.Str.lastOccurrence x (c1 c) 0 x.length=some a.length:=by
  rw [xc,show x.length+1=a.length+((b.length+1)+1) by lia,<- List.range'_append_1,List.foldl_append,List.range'_succ,QM];rw [if_pos (by rw [h];simp),Nat.zero_add];refine qq (p:=λi=>(sg x)[i]?=some c) _ _ λi hi=>?_;rw [List.mem_range'_1] at hi;intro q;rw [h,OB (by lia)] at q;obtain ⟨j,z⟩:∃j,i-a.length=j+1:=⟨i-a.length-1,by lia⟩;rw [z,List.getElem?_cons_succ] at q;exact hb (Na q)
 show (match Ng.Str.lastOccurrence x (c1 c) 0 x.length with|some i=>(i:Int)|none=>-1)=_;rw [e]
theorem Ku(h:c∉sg x):Qq x (c1 c) = -1:=by
 have e:Ng.Str.lastOccurrence x (c1 c) 0 x.length=none:=by
  rw [xc];exact qq (p:=λi=>(sg x)[i]?=some c) _ _ λi _ q=>h (Na q)
 show (match Ng.Str.lastOccurrence x (c1 c) 0 x.length with|some i=>(i:Int)|none=>-1)=_;rw [e]
theorem jW(h:j<=(sg x).length):Ol x none (some (j:Int))=tx ((sg x).take j):=by
 have e:=StrLaws.sliceText_to (x:=x) (j:=(j:Int)) ⟨by lia,by simpa [sg] using h⟩;refine Eq.trans (show Ol x none (some (j:Int))=StrLaws.sliceText x none (some (j:Int)) from rfl) (e.trans ?_);show tx _=tx _;simp [sg]
theorem yd(h:0<(sg x).length):Ol x none (some (-1))=tx ((sg x).dropLast):=by
 rw [af] at h;have e:=StrLaws.sliceText_to_neg (x:=x) (j:=-1) (by lia) (by lia);refine Eq.trans (show Ol x none (some (-1))=StrLaws.sliceText x none (some (-1)) from rfl) (e.trans ?_);show tx _=tx _;rw [List.dropLast_eq_take,af,Sm,show (-1+(x.length:Int)-0).toNat=x.length-1 by lia];rfl
theorem iC(m:Nat):sg (toString ((m:Nat):Int):Str)=(Si 10 m).map Char.toNat:=PySem.W.KIN.signs_num m
section
variable {X:Cx}{tg:Nr}
def oo(K:KE)(tl:TE):TI:=λσ H R=>tl σ H λx H1=>uR x λa=>(∃xs,SqL K H1 a xs/\R (Itl K a) H1)\/∃xs,SqT K H1 a xs/\R (Itt K a) H1
theorem G4{K:KE}:oo K tl σ H R=tl σ H λx H1=>uR x λa=>(∃xs,SqL K H1 a xs/\R (Itl K a) H1)\/∃xs,SqT K H1 a xs/\R (Itt K a) H1:=rfl
theorem KJ(hl:PE X l tl):PIc true X tg l (oo X.K tl):=by
 intro Go s σ H R I h;refine thn (hl Go s σ H _ I h) λv s1=>x5e λx H1 z J G=>?_;obtain ⟨a,e,G⟩:=G;subst e;cases J;rcases G with ⟨xs,F,q⟩|⟨xs,F,q⟩
 .obtain ⟨its,S,p,O⟩:=z.list F;refine O4 p.isList ⟨s1.heap.objs.size,[s1.heap.objs.size],_,_,H1,rfl,z.kept (t':=s1.toks) λb o e=>we _ e,jY a _,⟨_,Nd _ rfl,rfl,rfl⟩,λb hb=>?_,q⟩;have e:b=s1.heap.objs.size:=by simpa using hb
  subst e;exact z.SR (zv _) (z.hok.fresh (zv _))
 .obtain ⟨its,S,p,O⟩:=z.tuple F;refine wpAny_pyIter_tuple (show s1.heap.IsTuple a its.toArray from p) ⟨s1.heap.objs.size,[s1.heap.objs.size],_,_,H1,rfl,z.kept (t':=s1.toks) λb o e=>we _ e,CC a _,⟨_,Nd _ rfl,rfl,rfl⟩,λb hb=>?_,q⟩;have e:b=s1.heap.objs.size:=by simpa using hb
  subst e;exact z.SR (zv _) (z.hok.fresh (zv _))
theorem FN(hl:W (PE X l tl)):W (PIc true X tg l (oo X.K tl)):=⟨KJ hl.h⟩
end
section
variable {K:KE}{g:TG}{tt:TT}{te:TE}{H:Hp}{Q:VK}{R:It->Hp->Prop}
theorem zX.tup{a:Addr}{xs:List V}{τ:St}(F:Nat->St->List V->Hp->Prop)(S:∀i τ ys H,F i τ ys H->ys.length<sizeLine)(ha:∀i τ ys H,F i τ ys H->SqT K H a xs)(U:F 0 τ [] H)
  (hs:∀(N:St->List V->Hp->Prop) i x τ ys H,xs[i]?=some x->F i τ ys H->(∀τ ys H,F (i+1) τ ys H->N τ ys H)->g x τ H λz H4=>tt z H4 λok H5=>dH N ys z te ok H5) (hd:∀τ ys H,F xs.length τ ys H->∀D H',New H D (.lst ys) H'->Q (.ref D) H'):zX (Itt K a) g tt te τ H Q:=by
 refine ⟨λi m τ ys H=>m=xs.length-i/\i<=xs.length/\F i τ ys H,⟨xs.length,by simp,NV _,U⟩,?_⟩;rintro i m τ ys H2 ⟨rfl,hi,p⟩;refine ⟨S i τ ys H2 p,?_⟩;have q:=ha i τ ys H2 p;by_cases J:i<xs.length
 .refine .inr ⟨⟨xs,xs[i],q,by simp [J]⟩,λx H' y=>?_⟩;obtain ⟨e,y⟩:=y;subst e;exact hs (λz ys H=>∃G,G<xs.length-i/\G=xs.length-(i+1)/\i+1<=xs.length/\F (i+1) z ys H) i x τ ys _ (y xs q) p λz zs H q=>⟨xs.length-(i+1),by lia,rfl,J,q⟩
 .have e:i=xs.length:=by lia
  subst e;exact .inl ⟨⟨xs,q,zv _⟩,λD O _=>hd τ ys H2 p D _ (.mk' O)⟩
theorem Eb{H:Hp}{Q:VK}:dP c (.ref a) .non H Q=Q (.bl (if c then true else false)) H:=by simp [dP]
theorem Iq{H:Hp}{Q:VK}:dP c (.str a) .non H Q=Q (.bl (if c then true else false)) H:=by simp [dP]
theorem bO(z:Str):asc z=(sg z).all (· < 128):=by simp [asc,sg]
end
def vw(h:Heap)(e:Addr):Prop:=∃oe vs T,h.get? e=some oe/\oe.data = .fields vs/\vs[1]?=some (M3 T)
section
variable {M:Model}{A:Np}{E:Value->p8->Prop}{s:p8}{B:Heap}{env:Env}{outer l:List Env}{L e:Addr}{cls fl:Value}
theorem yb(Z:A.frames=some (env::outer))(hf:env.frame=some L)(st:B.StaysIn s.heap)(hn:B.get? e=none)(hl:s.heap.FunFrames B (env::outer))(he:s.heap.get? e=some oe)(hc:oe.cls=cls)(X9:oe.dict=none)(hd:oe.data = .fields vs)(hz:2<vs.size)(h2:vs[2]?=some .none)(k:∀h',br B (env::outer) e cls (N4 L) h'->vw h' e->s.heap.UpToSlots h'->Q () { s with heap:=h' }):
  Nb M A (do let a<-frameOf env;let pl<-entryPlaceOf L J;let b<-EntryCells.newEntry head a .none (N4 L) .none pl;setField (.ref e) 1 b) Q E s:=by
 have G:e∉(env::outer).filterMap (·.frame):=λz=>by
  obtain ⟨_,o,ho,F⟩:=hl.mem z;rw [he] at ho;cases ho;exact F vs hd
 refine fv (wpAny_frameOf_fun Z hl hf λg only=>?_);obtain ⟨_,same,slots⟩:=only;refine fv (wpAny_entryPlaceOf λpl Yu=>?_);have key:∀(tb:Obj)(ts:Array Value),tb.data = .fields ts->ts[3]?=some (N4 L)->Nb M A (setField (.ref e) 1 (.ref g.objs.size)) Q E { s with heap:=g.push tb }:=by
  intro tb ts td t3;have U:g.get? e=some oe:=(same e G).trans he;have O:(g.push tb).get? e=some oe:=we _ U;have hT:(g.push tb).get? g.objs.size=some tb:=Nd _ (by rw [On td]);have W:g.objs.size≠e:=Pe (Nj U);have fresh:B.get? g.objs.size=none:=by
   cases q:B.get? g.objs.size with
   | none=>rfl
   | some o =>
    obtain ⟨sl,z⟩:=slots _ o (st _ o q);exact absurd (Nj z) (ND _)
  have up:∀b o,b≠e->g.get? b=some o->((g.push tb).update e (RU (·.setIfInBounds 1 (.ref g.objs.size)))).get? b=some o:=λb o hb q =>
   (NC _ _ (Ni hb)).trans (we _ q)
  have S:∀b o,s.heap.get? b=some o->(∀ws,o.data≠.fields ws)->b≠e:=λb o q F z=>by
   rw [z,he] at q;cases q;exact F vs hd
  have dd:=Pg hd (·.setIfInBounds 1 (M3 g.objs.size));refine Oo O hd (by lia) (k _ ⟨λb o q=>?_,hn,?_,?_⟩ ⟨_,_,g.objs.size,Om _ O (On dd),dd,by rw [NU (by lia)]⟩ λb o q F=>?_)
  .refine up b o (λz=>by rw [z,hn] at q;cases q) ((same b λz=>?_).trans (st b o q));rw [(hl.mem z).1] at q;cases q
  .refine hl.of_keeps λb o q F=>?_;obtain ⟨sl,z⟩:=slots b o q;exact ⟨_,up b _ (S b o q F) z,rfl⟩
  .refine ⟨_,_,Om _ O (On dd),(QE _ _).trans hc,(rM _ _).trans X9,dd,by simpa using hz,by rw [QG (by decide)];exact h2,.inr ⟨g.objs.size,tb,ts,?_,fresh,W,?_,td,t3⟩⟩
   .rw [NU (by lia)]
   .rw [NC _ _ (Ni W)];exact hT
  .obtain ⟨sl,z⟩:=slots b o q;exact ⟨sl,up b _ (S b o q F) z⟩
 unfold EntryCells.newEntry newFields;refine fv (N5 ?_ (Yu.sizeOk5 _ _ _ _ _));exact key _ _ rfl (by simp)
theorem Jl(W:A.frames=some (env::outer))(hf:env.frame=some L)(x:br B (env::outer) e cls fl s.heap)(k:∀h',br B (env::outer) e cls (N4 L) h'->vw h' e->s.heap.UpToSlots h'->Q () { s with heap:=h' }):Nb M A (RS (.ref e) env) Q E s:=by
 obtain ⟨st,hn,hl,oe,vs,he,hc,O,hd,S,h2,h1⟩:=x;unfold RS;simp only [hf];rcases h1 with h1|⟨T,oT,ts,h1,nT,Te,J,dT,U⟩
 .refine fv (Nv he hd h1 ?_);rw [if_neg (show ¬ ((NB != NB)=true) by decide)];exact yb W hf st hn hl he hc O hd S h2 k
 .refine fv (Nv he hd h1 ?_);rw [if_pos (show (M3 T != NB)=true by simp)];refine fv (Nv J dT U ?_);by_cases G:fl=N4 L
  .subst G;rw [if_pos (show (N4 L==N4 L)=true by simp)];exact MZ (k s.heap ⟨st,hn,hl,oe,vs,he,hc,O,hd,S,h2,.inr ⟨T,oT,ts,h1,nT,Te,J,dT,U⟩⟩ ⟨oe,vs,T,he,hd,h1⟩ (UpToSlots.refl _))
  .rw [if_neg (show ¬ ((fl==N4 L)=true) by simpa using G)];refine fv (Oo J dT (Oh.mp U).1 ?_);have oth:∀b,b≠T->(s.heap.update T (RU (·.setIfInBounds 3 NB))).get? b=s.heap.get? b:=λb hb=>NC _ _ (Ni hb);have Z:∀b o,s.heap.get? b=some o->(∀ws,o.data≠.fields ws)->b≠T:=λb o q F z=>by
    rw [z,J] at q;cases q;exact F ts dT
   refine yb (B:=B) (cls:=cls) W hf (λb o q=>?_) hn (hl.of_keeps λb o q F=>⟨o,(oth b (Z b o q F)).trans q,rfl⟩) ((oth e (Ni Te)).trans he) hc O hd S h2 λh' y ht up=>k h' y ht λb o q F=>up b o ((oth b (Z b o q F)).trans q) F;exact (oth b λz=>by rw [z,nT] at q;cases q).trans (st b o q)
theorem Gq(x:br B l e cls fl s.heap)(k:∀h',br B l e cls (N4 L) h'->s.heap.UpToSlots h'->Q () { s with heap:=h' }):Nb M A (setFlight (.ref e) (some L)) Q E s:=by
 obtain ⟨st,hn,hl,oe,vs,he,hc,S,hd,U,h2,h1⟩:=x;unfold setFlight;rcases h1 with h1|⟨T,oT,ts,h1,Z,W,J,dT,t3⟩
 .refine fv (Nv he hd h1 ?_);rw [if_neg (show ¬ ((NB != NB)=true) by decide)];exact MZ (k s.heap ⟨st,hn,hl,oe,vs,he,hc,S,hd,U,h2,.inl h1⟩ (UpToSlots.refl _))
 .refine fv (Nv he hd h1 ?_);rw [if_pos (show (M3 T != NB)=true by simp)];have F:3<ts.size:=(Oh.mp t3).1;have dd:=Pg dT (·.setIfInBounds 3 (N4 L));have oth:∀b,b≠T->(s.heap.update T (RU (·.setIfInBounds 3 (N4 L)))).get? b=s.heap.get? b:=λb hb=>NC _ _ (Ni hb);have O:∀b o,s.heap.get? b=some o->(∀ws,o.data≠.fields ws)->b≠T:=λb o q G z=>by
   rw [z,J] at q;cases q;exact G ts dT
  refine Oo J dT F (k _ ⟨λb o q=>(oth b λz=>by rw [z,Z] at q;cases q).trans (st b o q),hn,hl.of_keeps λb o q G=>⟨o,(oth b (O b o q G)).trans q,rfl⟩,oe,vs,(oth e (Ni W)).trans he,hc,S,hd,U,h2,
   .inr ⟨T,_,_,h1,Z,W,Om _ J (On dd),dd,?_⟩⟩ λb o q G=>⟨o.slots,(oth b (O b o q G)).trans q⟩)
  rw [NU F]
end
def v7(X:Cx)(Ex:Addr->St->Hp->Prop):Value->p8->Prop:=λe s'=>∃(ea C:Addr)(B:Heap)(H':Hp)(fl:Value)(σ:St)(z:p8)(Go:List (Addr×Obj)),e = .ref ea/\Inv X Go σ H' z/\br B X.stack ea (.ref C) fl s'.heap /\
 s'.os=z.os/\PL s'.gens/\(∀b o,z.heap.get? b=some o->b∉frs X.stack->B.get? b=some o)/\z.heap.UpToSlots s'.heap/\Ex C σ H'
abbrev cxF(X:Cx)(Ex:Addr->St->Hp->Prop):Cx:=X.SH (v7 X Ex)
theorem JU:bK (cxF X Ex) Ex:=λps σ H F ea C B fl s' I y os bare z up q =>
 ⟨ea,C,B,H,fl,σ,F,ps,rfl,I.xy,y,os,bare,z,up,q⟩
theorem CZ(hst:X.stack=X.env::X.outer)(G:X.Ok->X.A.frames=some (X.env::X.outer))(F:X.env.frame=some L):N9 (Nf X.prog X.w) X.A X.env (v7 X Ex):=by
 rintro e s' ⟨ea,C,B,H',fl,σ,O,Go,rfl,I,y,os,bare,S,up,q⟩;have fr:=G I.ok;rw [hst] at y;refine Jl fr F y λh1 W J u1=>?_;obtain ⟨oe,vs,T,g1,Z,U⟩:=J;refine fv (Nv g1 Z U ?_);rw [if_neg (show ¬ ((M3 T==NB)=true) by simp)];rw [F];refine Gq (s:={ s' with heap:=h1 }) W λh2 z u2=>?_;rw [<- hst] at z;exact ⟨ea,C,B,H',_,σ,O,Go,rfl,I,z,os,bare,S,(up.trans u1).trans u2,q⟩
theorem PS.aN{st:Stmt}{t:TS}(T:bK X Ex)(h:PS (cxF X Ex) st t):PS X st t:=λGo s σ H D I O =>
 N7 (h Go s σ H D (I.SH _) O) (λ_ _ q=>q.xy) <| by
  rintro e s' ⟨ea,C,B,H',fl,z,F,ps,he,J,y,os,bare,G,up,q⟩;subst he;exact T ps z H' F ea C B fl s' J y os bare G up q
theorem KW{st:Stmt}{t:TS}(T:bK X Ex)(h:W (PS (cxF X Ex) st t)):W (PS X st t):=⟨PS.aN T h.h⟩
section
variable {X:Cx}
def fH:List V->Hp->VK->Prop:=λxs H Q=>gD xs H Q\/∃b:Bool,xs=[.bl b]/\Q (.str (if b then "True" else "False")) H
theorem GP:zN X (.type "str") fH:=by
 intro Go s σ H xs us Q I r h;rcases h with h|⟨b,rfl,q⟩
 .exact JP Go s σ H xs us Q I r h
 .cases r with
  | cons z F =>
   cases F;cases (show _=Px b from z);exact PySem.P.str_of_bool ⟨.str _,H,I.tok _,⟨_,by cases b<;>rfl⟩,q⟩
theorem Bh:fH [.int i] H Q=(i.natAbs.log2<1920/\Q (.str (toString i)) H):=by simp [fH,sE]
theorem JQ:fH [.str z] H Q=Q (.str z) H:=by simp [fH,As]
theorem Cw:fH [.bl b] H Q=Q (.str (if b then "True" else "False")) H:=by simp [fH,gD,gz]
end
theorem J9(J:X.N.Nodup)(U:X.N[i0]?=some z)(Xd:Loc X.env.scope z)(hc:c=true->X.calm=true)(L:aB X sc N' ix)(hi:PIc c X tg iter wi)(hg:∀Go C fp s H,PG (zS X sc N' Go C fp s H) tg g)(ht:∀Go C fp s H,PTs (zS X sc N' Go C fp s H) F tt)(he:∀Go C fp s H,PE (zS X sc N' Go C fp s H) X3 te)(hs:∀x,Oy iter X.env x=pure x:=by intro _;rfl)(W:swapsWith (.ListComp X3 [⟨tg,iter,F,0⟩] sc pos) (some (.Name z Y4)) Xl.line X.env=pure true:=by rfl)(O:X.fn z=true\/X.env.scope.names.lookup z=some .local:=by first|exact .inl rfl|exact .inr rfl|assumption):
  PS X (.Assign [.Name z Y4] (.ListComp X3 [⟨tg,iter,F,0⟩] sc pos) Xl) (iU (tLC ix wi g tt te) (d9 i0)):=by
 intro Go s σ H Z I h;rw [exec_Assign_Name_used z Y4 _ Xl W];refine fv (Pa (fv ?_));rw [arm_evalThenUse_ListComp];show Nb (Nf X.prog X.w) X.A (comprehension (.ListComp X3 [⟨tg,iter,F,0⟩] sc pos) sc X.env (firstIterPos [⟨tg,iter,F,0⟩] pos) (newList []) (firstAsync [⟨tg,iter,F,0⟩]) (firstIter [⟨tg,iter,F,0⟩] X.env) (some (assign (.Name z Y4) X.env))>>=λ_=>pure ()) _ _ _;refine fv (sO hc L hi hg ht he hs I h λC D oC H' s5 m5 IX ns tu q=>?_);refine thn (yw J U Xd O (Go++[(C,oC)]) s5 σ H' (.ref D) (.ref D) Z.nx IX rfl q) λ_ s6=>x4e λS H6 I6 q6=>?_;obtain ⟨p6,G,_⟩:=I6.pin (C,oC) (Nk _ (Nk _ (M0.mpr rfl)));exact ⟨m5,ns p6,λh' ab=>MZ (MZ ⟨S,H6,tu (I6.L1 λp hp=>I6.pin p (Nk _ (N0 _ hp))) G ab,q6⟩)⟩
theorem iw(O:X.N.Nodup)(J:X.N[i0]?=some z)(Xd:Loc X.env.scope z)(hc:c=true->X.calm=true)(L:aB X sc N' ix)(hi:W (PIc c X tg iter wi))(hg:∀Go C fp s H,W (PG (zS X sc N' Go C fp s H) tg g))(Z:∀Go C fp s H,W (PTs (zS X sc N' Go C fp s H) G tt))(he:∀Go C fp s H,W (PE (zS X sc N' Go C fp s H) X3 te))(hs:∀x,Oy iter X.env x=pure x:=by intro _;rfl)(S:swapsWith (.ListComp X3 [⟨tg,iter,G,0⟩] sc pos) (some (.Name z Y4)) U.line X.env=pure true:=by rfl)(F:X.fn z=true\/X.env.scope.names.lookup z=some .local:=by first|exact .inl rfl|exact .inr rfl|assumption):
  W (PS X (.Assign [.Name z Y4] (.ListComp X3 [⟨tg,iter,G,0⟩] sc pos) U) (iU (tLC ix wi g tt te) (d9 i0))) :=
 ⟨J9 O J Xd hc L hi.h (λa b c d e=>(hg a b c d e).h) (λa b c d e=>(Z a b c d e).h) (λa b c d e=>(he a b c d e).h) hs S F⟩
section
variable {κ:Type} [DecidableEq κ]
def zZ(kvs:List (κ×V))(k:κ):Option V:=(kvs.find? λz=>decide (z.1=k)).map (·.2)
def aJ(kvs:List (κ×V))(k:κ)(v:V):List (κ×V) :=
 if (kvs.any λz=>decide (z.1=k))=true then kvs.map (λz=>if z.1=k then (z.1,v) else z) else kvs++[(k,v)]
def cA(kvs:List (κ×V))(k:κ):List (κ×V):=kvs.filter λz=>decide (z.1≠k)
theorem iN{p:κ×V}{r:List (κ×V)}{k:κ}(e:p.1=k):zZ (p::r) k=some p.2:=by simp [zZ,Qr,e]
theorem iI{p:κ×V}{r:List (κ×V)}{k:κ}(e : ¬ p.1=k):zZ (p::r) k=zZ r k:=by simp [zZ,Qr,e]
theorem pQ(k:κ):∀kvs:List (κ×V),(kvs.any λz=>decide (z.1=k))=(zZ kvs k).isSome
 | []=>rfl
 | p::r=>by
  rw [QY];by_cases e:p.1=k
  .simp only [iN e,decide_eq_true e,Bool.true_or,isSome_some]
  .rw [iI e,decide_eq_false e,Bool.false_or];exact pQ k r
theorem uO(kvs:List (κ×V))(k:κ)(v:V):(aJ kvs k v).length<=kvs.length+1:=by
 unfold aJ;split
 .rw [MV];lia
 .rw [Nt,N6,Pq];lia
theorem bH.Pv{o:Option V}(r:bH o u):o.isSome=u.isSome:=by
 cases o with
 | none=>cases u with
  | none=>rfl
  | some _=>exact (show False from r).elim
 | some _=>cases u with
  | none=>exact (show False from r).elim
  | some _=>rfl
theorem bH.getD{o:Option V}(r:bH o u)(z:zo d d'):zo (o.getD d) (u.getD d'):=by
 cases o with
 | none=>cases u with
  | none=>exact z
  | some _=>exact (show False from r).elim
 | some _=>cases u with
  | none=>exact (show False from r).elim
  | some _=>exact r
theorem KV.val(r:KV kvs vs)(k:κ):bH (zZ kvs k) (valueAt vs k):=by
 unfold KV at r
 induction r with
 | nil=>exact True.intro
 | @cons p q ps G h t J =>
  obtain ⟨h1,h2⟩:=h;by_cases e:p.1=k
  .have F:q.1=k:=h1.symm.trans e;have b:valueAt (q::G) k=some q.2:=by simp [valueAt,Qr,F]
   rw [iN e,b];exact h2
  .have F : ¬ q.1=k:=λz=>e (h1.trans z);have b:valueAt (q::G) k=valueAt G k:=by simp [valueAt,Qr,F]
   rw [iI e,b];exact J
theorem KV.any(r:KV kvs vs)(k:κ):(kvs.any λz=>decide (z.1=k))=vs.any λz=>decide (z.1=k):=by
 unfold KV at r
 induction r with
 | nil=>rfl
 | cons h t F=>rw [QY,QY,F,h.1]
theorem KV.Vy(r:KV kvs vs)(k:κ)(J:zo y u):
  KV (kvs.map λF=>if F.1=k then (F.1,y) else F) (vs.map λF=>if F.1=k then (F.1,u) else F):=by
 unfold KV at r ⊢
 induction r with
 | nil=>exact .nil
 | @cons p q ps O h t G =>
  rw [NO,NO];refine .cons ?_ G;obtain ⟨h1,h2⟩:=h;by_cases e:p.1=k
  .rw [if_pos e,if_pos (h1.symm.trans e)];exact ⟨h1,J⟩
  .rw [if_neg e,if_neg (λz=>e (h1.trans z))];exact ⟨h1,h2⟩
theorem KV.put(r:KV kvs vs)(k:κ)(z:zo y u):KV (aJ kvs k y) (stored vs k u):=by
 unfold aJ stored;rw [r.any k];by_cases e:(vs.any λF=>decide (F.1=k))=true
 .rw [if_pos e,if_pos e];exact r.Vy k z
 .rw [if_neg e,if_neg e];exact Paired.snoc r ⟨rfl,z⟩
theorem KV.drop(r:KV kvs vs)(k:κ):KV (cA kvs k) (without vs k):=by
 unfold KV at r ⊢;unfold cA without
 induction r with
 | nil=>exact .nil
 | @cons p q ps J h t F =>
  obtain ⟨h1,h2⟩:=h;rw [PR,PR];by_cases e:p.1=k
  .have a : ¬ decide (p.1≠k)=true:=by simp [e]
   have b : ¬ decide (q.1≠k)=true:=by simp [h1.symm.trans e]
   rw [if_neg a,if_neg b];exact F
  .have G : ¬ q.1=k:=λz=>e (h1.trans z);have a:decide (p.1≠k)=true:=by simp [e]
   have b:decide (q.1≠k)=true:=by simp [G]
   rw [if_pos a,if_pos b];exact .cons ⟨h1,h2⟩ F
theorem KV.length{kvs:List (κ×V)}{vs:List (κ×Value)}(r:KV kvs vs):kvs.length=vs.length:=Paired.length r
theorem Dm(kvs:List (κ×V))(k:κ):(cA kvs k).length<=kvs.length:=QH _ _
end
theorem fE{k:Key}(r:zo (kV k) u):(ax P w).is k u=true:=by
 cases k with
 | inl i=>obtain ⟨t,e⟩:=(show ∃t,u=O1 i t from r);subst e;exact Gp P w i t
 | inr x=>obtain ⟨t,e⟩:=(show ∃t,u=Rh x t from r);subst e;exact jF P w x t
theorem vA:∀{ks:List Key}{us:List Value},zp (ks.map kV) us->ItemsAre (ax P w) ks us
 | [],_,r=>by rw [map_nil] at r;cases r;exact .nil
 | k::ks,_,r=>by
  rw [NO] at r;cases r with
  | cons h t=>exact .cons (fE h) (vA t)
abbrev KT(H:Hp):List (List Key×V)->List (List Key×Addr×Value)->Prop:=Paired λp q=>p.1=q.1/\H q.2.1=some (.tup (p.1.map kV))/\zo p.2 q.2.2
theorem KT.val(r:KT H kvs xs)(k:List Key):bH (zZ kvs k) ((atKey xs k).map (·.2)):=by
 induction r with
 | nil=>exact True.intro
 | @cons p q ps G h t J =>
  obtain ⟨h1,_,h2⟩:=h;by_cases e:p.1=k
  .have F:q.1=k:=h1.symm.trans e;have b:atKey (q::G) k=some q.2:=by simp [atKey,Qr,F]
   rw [iN e,b];exact h2
  .have F : ¬ q.1=k:=λz=>e (h1.trans z);have b:atKey (q::G) k=atKey G k:=by simp [atKey,Qr,F]
   rw [iI e,b];exact J
theorem KT.Vy(r:KT H kvs xs)(k:List Key)(J:zo y u):
  KT H (kvs.map λF=>if F.1=k then (F.1,y) else F) (xs.map (putAt k u)):=by
 induction r with
 | nil=>exact .nil
 | @cons p q ps O h t G =>
  rw [NO,NO];refine .cons ?_ G;obtain ⟨h1,h2,h3⟩:=h;unfold putAt;by_cases e:p.1=k
  .rw [if_pos e,if_pos (h1.symm.trans e)];exact ⟨h1,h2,J⟩
  .rw [if_neg e,if_neg (λz=>e (h1.trans z))];exact ⟨h1,h2,h3⟩
theorem KT.put(r:KT H kvs xs)(k:List Key)(hb:H b=some (.tup (k.map kV)))(z:zo y u):
  KT H (aJ kvs k y) (storedH xs k b u):=by
 have e:(kvs.any λF=>decide (F.1=k))=(atKey xs k).isSome:=by
  rw [pQ,(r.val k).Pv,isSome_map]
 unfold aJ storedH;rw [e];by_cases q:(atKey xs k).isSome=true
 .rw [if_pos q,if_pos q];exact r.Vy k z
 .rw [if_neg q,if_neg q];exact Paired.snoc r ⟨rfl,hb,z⟩
theorem KT.keeps(r:KT H kvs xs)(F:∀b ys,H b=some (.tup ys)->H' b=some (.tup ys)):KT H' kvs xs :=
 Paired.wh r λ_ _ z=>⟨z.1,F _ _ z.2.1,z.2.2⟩
section
variable {P:M8}{w:Nl}{H:Hp}{h:Heap}{a:Addr}
theorem su(ok:HOk P w H h)(e:Rd H a u):ah P w H h a u:=e.ok ok
theorem dX(ok:HOk P w H h)(e:Rd H a (.dK kvs)):kvs.length<=sizeLine/\(a==sysModules)=false/\∃vs,KV kvs vs/\h.DictOf (ax P w) a vs :=
 show ah P w H h a (.dK kvs) from su ok e
theorem pC(ok:HOk P w H h)(e:H a=some (.dK kvs)):kvs.length<=sizeLine/\(a==sysModules)=false/\∃vs,KV kvs vs/\h.DictOf (ax P w) a vs:=dX ok (.inl e)
theorem hX(ok:HOk P w H h)(e:H a=some (.tup (ks.map kV))):(RO (ax P w)).is h ks a:=by
 obtain ⟨_,its,r,o,h1,h2,n,h3⟩:=(show ah P w H h a (.tup (ks.map kV)) from ok a _ e);exact ⟨o,its.toArray,n,h1,h2,h3,by simpa using vA r⟩
theorem fT(ok:HOk P w H h)(e:Rd H a (.dT kvs)):kvs.length<=sizeLine/\(a==sysModules)=false /\
  ∃xs,KT H kvs xs/\h.DictOfH (RO (ax P w)) a xs:=by
 obtain ⟨z,y,xs,r,o,es,ep,h1,h2,h3,h4,J⟩:=(show ah P w H h a (.dT kvs) from su ok e);refine ⟨z,y,xs,r,o,es,ep,h1,h2,h3,h4,λx hx=>?_,J⟩;have all:∀{l:List (List Key×V)}{m:List (List Key×Addr×Value)},KT H l m->∀x∈m,(RO (ax P w)).is h x.1 x.2.1:=by
  intro l m q
  induction q with
  | nil=>intro x hx;exact nomatch hx
  | @cons p q ps O F t G =>
   intro x hx;rcases MX.mp hx with e|hx
   .subst e;exact hX ok (by rw [<- F.1];exact F.2.1)
   .exact G x hx
 exact all r x hx
theorem Ho(ok:HOk P w H h)(e:H a=some (.dT kvs)):kvs.length<=sizeLine/\(a==sysModules)=false /\
  ∃xs,KT H kvs xs/\h.DictOfH (RO (ax P w)) a xs:=fT ok (.inl e)
end
def dU(H:Hp)(a:Addr)(y:V)(r:Option V):Prop :=
 (∃kvs k,Rd H a (.dK kvs)/\y=kV k/\r=zZ kvs k)\/∃kvs k b,Rd H a (.dT kvs)/\y = .ref b/\H b=some (.tup (k.map kV))/\r=zZ kvs k
def ib(H:Hp)(a:Addr)(y v:V)(H':Hp):Prop :=
 (∃kvs k,H a=some (.dK kvs)/\y=kV k/\kvs.length<sizeLine/\H'=upd H a (.dK (aJ kvs k v))) \/
 ∃kvs k b,H a=some (.dT kvs)/\y = .ref b/\H b=some (.tup (k.map kV))/\kvs.length<sizeLine/\H'=upd H a (.dT (aJ kvs k v))
theorem dU.k{k:Key}(e:H a=some (.dK kvs)):dU H a (kV k) (zZ kvs k):=.inl ⟨kvs,k,.inl e,rfl,rfl⟩
theorem dU.t{k:List Key}(e:H a=some (.dT kvs))(z:H b=some (.tup (k.map kV))):dU H a (.ref b) (zZ kvs k):=.inr ⟨kvs,k,b,.inl e,rfl,z,rfl⟩
theorem ib.k{k:Key}(e:H a=some (.dK kvs))(hl:kvs.length<sizeLine):ib H a (kV k) v (upd H a (.dK (aJ kvs k v))):=.inl ⟨kvs,k,e,rfl,hl,rfl⟩
theorem ib.t{k:List Key}(e:H a=some (.dT kvs))(z:H b=some (.tup (k.map kV)))(hl:kvs.length<sizeLine):
  ib H a (.ref b) v (upd H a (.dT (aJ kvs k v))):=.inr ⟨kvs,k,b,e,rfl,z,hl,rfl⟩
section
variable {X:Cx}{Go:List (Addr×Obj)}{σ:St}{H:Hp}{s:p8}{a:Addr}{y v:V}{u r:Value}{o:Option V}{A:Np}{E:Value->p8->Prop}
theorem Ca(W:A.units+1<cLine)(I:Inv X Go σ H s)(g:dU H a y (some v))(U:zo y u)(h:∀w' s',Inv X Go σ H s'->zo v w'->Q w' s'):
  Nb (Nf X.prog X.w) A (R8 (.ref a) u) Q E s:=by
 rcases g with ⟨kvs,k,e,S,l⟩|⟨kvs,k,b,e,S,Z,l⟩
 .subst S;obtain ⟨z,hd,vs,O,dd⟩:=dX I.hok e;obtain ⟨w',G,J⟩:=bH.some_of (v:=v) (o:=valueAt vs k) (by rw [l];exact O.val k);exact wpAny_getItem_of (fE U) dd.mapOf G (h w' _ (I.tok _) J)
 .subst S;cases (show u=M3 b from U);obtain ⟨z,hd,xs,O,dd⟩:=fT I.hok e;obtain ⟨w',G,J⟩:=bH.some_of (v:=v) (o:=(atKey xs k).map (·.2)) (by rw [l];exact O.val k);obtain ⟨p,hp,F⟩:=Nu.mp G;refine wpAny_getItem_heap (Pn W) (hX I.hok Z) dd hp ?_;rw [F];exact h w' _ (I.tok _) J
theorem FW(O:A.units+1<cLine)(I:Inv X Go σ H s)(g:dU H a y o)(J:zo y u)(h:∀s',Inv X Go σ H s'->Q (.bool o.isSome) s'):
  Nb (Nf X.prog X.w) A (NK .In u (.ref a)) Q E s:=by
 rcases g with ⟨kvs,k,e,G,l⟩|⟨kvs,k,b,e,G,S,l⟩
 .subst G;obtain ⟨z,hd,vs,F,dd⟩:=dX I.hok e;refine wpAny_in_of (fE J) hd dd.mapOf ?_;rw [<- (F.val k).Pv,<- l];exact h _ (I.tok _)
 .subst G;cases (show u=M3 b from J);obtain ⟨z,hd,xs,F,dd⟩:=fT I.hok e;refine wpAny_in_heap (Pn O) (hX I.hok S) hd dd ?_;have q:=(F.val k).Pv;rw [isSome_map] at q;rw [<- q,<- l];exact h _ (I.tok _)
theorem A2(O:A.units+1<cLine)(I:Inv X Go σ H s)(g:dU H a y o)(J:zo y u)(h:∀s',Inv X Go σ H s'->Q (.bool (!o.isSome)) s'):
  Nb (Nf X.prog X.w) A (NK .NotIn u (.ref a)) Q E s:=by
 rcases g with ⟨kvs,k,e,G,l⟩|⟨kvs,k,b,e,G,S,l⟩
 .subst G;obtain ⟨z,hd,vs,F,dd⟩:=dX I.hok e;refine wpAny_notIn_of (fE J) hd dd.mapOf ?_;rw [<- (F.val k).Pv,<- l];exact h _ (I.tok _)
 .subst G;cases (show u=M3 b from J);obtain ⟨z,hd,xs,F,dd⟩:=fT I.hok e;refine wpAny_notIn_heap (Pn O) (hX I.hok S) hd dd ?_;have q:=(F.val k).Pv;rw [isSome_map] at q;rw [<- q,<- l];exact h _ (I.tok _)
theorem oB(I:Inv X Go σ H s)(F:Mut (H a))(hs:QC a s.heap h')(he:∃q,h'.get? a=some q)(new:ah X.prog X.w (upd H a ob) h' a ob):
  Inv X Go σ (upd H a ob) { s with heap:=h',toks:=t' } :=
 I.write (x:=a) (e:=a) F (.inl rfl) (λb q hb z=>(hs.2 b hb).trans z) he new
theorem qE(z:kvs.length<=sizeLine)(hd:(a==sysModules)=false)(F:KV kvs vs)(dd:h'.DictOf (ax P w) a vs):
  ah P w H' h' a (.dK kvs):=⟨z,hd,vs,F,dd⟩
theorem GN(hu:A.units+1<cLine)(I:Inv X Go σ H s)(g:ib H a y v H')(Z:zo y u)(rv:zo v r)(h:∀s',Inv X Go σ H' s'->Q () s'):
  Nb (Nf X.prog X.w) A (setItem (.ref a) u r) Q E s:=by
 rcases g with ⟨kvs,k,e,U,l,O⟩|⟨kvs,k,b,e,U,eb,l,O⟩
 .subst U O;obtain ⟨z,hd,vs,G,dd⟩:=pC I.hok e;have S:vs.length<=sizeLine:=by rw [<- G.length];exact z
  have hl:(aJ kvs k v).length<=sizeLine:=by have:=uO kvs k v;lia
  refine wpAny_setItem_pairs (hsz:=S) (fE Z) dd λh' F hs=>h _ ?_;have he:∃q,h'.get? a=some q:=let ⟨q,_,_,J,_⟩:=F;⟨q,J⟩;exact oB I (by rw [e];exact True.intro) hs he (qE hl hd (G.put k rv) F)
 .subst U O;cases (show u=M3 b from Z);obtain ⟨z,hd,xs,G,dd⟩:=Ho I.hok e;have S:xs.length<=sizeLine:=by rw [<- Paired.length G];exact z
  have hl:(aJ kvs k v).length<=sizeLine:=by have:=uO kvs k v;lia
  refine wpAny_setItem_heap (hsz:=S) (Pn hu) (hX I.hok eb) dd λh' F hs=>h _ ?_;obtain ⟨q,es,ep,J,h2,h3,h4,_,h5⟩:=F;refine oB I (by rw [e];exact True.intro) hs ⟨q,J⟩ ⟨hl,hd,_,(G.put k eb rv).keeps λc ys W=>?_,q,es,ep,J,h2,h3,h4,h5⟩;rw [zd (EZ W e (λz=>nomatch z))];exact W
end
section
variable {X:Cx}{Go:List (Addr×Obj)}{σ:St}{H:Hp}{s:p8}{a:Addr}{kvs:List (Key×V)}{k:Key}{u:Value}{A:Np}{E:Value->p8->Prop}
theorem JB(I:Inv X Go σ H s)(e:H a=some (.dK kvs))(O:zo (kV k) u)(l:(zZ kvs k).isSome=true)(h:∀s',Inv X Go σ (upd H a (.dK (cA kvs k))) s'->Q () s'):
  Nb (Nf X.prog X.w) A (delItem (.ref a) u) Q E s:=by
 obtain ⟨z,hd,vs,J,dd⟩:=pC I.hok e;refine wpAny_delItem_slot dd.typeIs (by decide) RB
  (Sa RB dd.typeIs PySem.F.entry_dict_delitem (PySem.F.args_dict_delitem_2 _ _) (meets_dict_delitem_pairs (ax X.prog X.w) a (fE O)) ⟨vs,dd,by rw [<- J.length];exact z,by rw [<- (J.val k).Pv];exact l,λh' G hs=>h _ ?_⟩)
 have he:∃q,h'.get? a=some q:=let ⟨q,_,_,hq,_⟩:=G;⟨q,hq⟩;exact oB I (by rw [e];exact True.intro) hs he (qE (Nx (Dm kvs k) z) hd (J.drop k) G)
end
theorem An{o:Option V}(I:Inv X Go σ H s)(g:dU H a y o):s.TypeIs (.ref a) "dict":=by
 rcases g with ⟨kvs,k,e,_,_⟩|⟨kvs,k,b,e,_,_,_⟩
 .obtain ⟨_,_,vs,_,dd⟩:=dX I.hok e;exact dd.typeIs
 .obtain ⟨_,_,xs,_,dd⟩:=fT I.hok e;exact dd.typeIs
structure M2(X:Cx)(o:Nr)(m:Str)(Z3:Pos)(e f:Nr)(cpos:Pos):Prop where
 base:Oi o m X.env (NT o X.env)=NT o X.env
 few:((OT cpos (Nq [e,f] X.env)).all (λx=>!x.1)&&(QX cpos (Pl [] X.env)).all (λx=>x.1.isSome)
  && decide (([e,f]:List Nr).length+([]:List Keyword).length+(if ([]:List Keyword).isEmpty then 0 else 1)<30))=true
 line:(Z3.endLine==cpos.line)=true
 trees:OT cpos (Nq [e,f] X.env)=[(false,NT e X.env),(false,NT f X.env)]
def IsD(H:Hp)(a:Addr):Prop:=(∃kvs,Rd H a (.dK kvs))\/∃kvs,Rd H a (.dT kvs)
theorem Hq(I:Inv X Go σ H s)(d:IsD H a):
  s.TypeIs (.ref a) "dict"/\(∀b,M3 a = .ref b->∃ob,s.heap.get? b=some ob/\ob.dict=none)/\(a==sysModules)=false:=by
 rcases d with ⟨kvs,e⟩|⟨kvs,e⟩
 .obtain ⟨_,hd,vs,_,dd⟩:=dX I.hok e;refine ⟨dd.typeIs,λb q=>?_,hd⟩;cases q;obtain ⟨ob,_,_,h1,h2,_⟩:=dd;exact ⟨ob,h1,h2.2.1⟩
 .obtain ⟨_,hd,xs,_,dd⟩:=fT I.hok e;refine ⟨dd.typeIs,λb q=>?_,hd⟩;cases q;obtain ⟨ob,_,_,h1,h2,_⟩:=dd;exact ⟨ob,h1,h2.2.1⟩
section
variable {X:Cx}{Go:List (Addr×Obj)}{σ:St}{H:Hp}{s:p8}{a:Addr}{y d:V}{u r:Value}{o:Option V}{A:Np}{E:Value->p8->Prop}
theorem DY(S:A.units+1<cLine)(I:Inv X Go σ H s)(g:dU H a y o)(O:zo y u)(J:zo d r)(h:∀w' s',Inv X Go σ H s'->zo (o.getD d) w'->Q w' s'):
  Nb (Nf X.prog X.w) A (call (.builtin "dict.get") [.ref a,u,r]) Q E s:=by
 rcases g with ⟨kvs,k,e,G,l⟩|⟨kvs,k,b,e,G,U,l⟩
 .subst G;obtain ⟨z,hd,vs,F,dd⟩:=dX I.hok e;refine Sa QP dd.typeIs entry_dict_get (RZ _ _ _) (meets_dict_get_default (ax X.prog X.w) a (fE O) hd r) ⟨_,dd.mapOf,h _ _ (I.tok _) ?_⟩;rw [l];exact (F.val k).getD J
 .subst G;cases (show u=M3 b from O);obtain ⟨z,hd,xs,F,dd⟩:=fT I.hok e;refine Sa QP dd.typeIs entry_dict_get (RZ _ _ _) (meetsH_dict_get_default (RO (ax X.prog X.w)) a b hd r) ⟨Pn S,k,xs,hX I.hok U,dd,h _ _ (I.tok _) ?_⟩;rw [l];exact (F.val k).getD J
end
section
variable {X:Cx}{Go:List (Addr×Obj)}{σ:St}{H:Hp}{s:p8}{a:Addr}{kvs:List (Key×V)}{A:Np}{E:Value->p8->Prop}
theorem Ga(I:Inv X Go σ H s)(e:Rd H a (.dK kvs))(h:∀p s',H p=none->Inv X Go σ (upd H p (.dK kvs)) s'->Q (.ref p) s'):Nb (Nf X.prog X.w) A (call (.type "dict") [.ref a]) Q E s:=by
 obtain ⟨z,hd,vs,G,dd⟩:=dX I.hok e;refine kt_call_dict hd dd (by rw [<- G.length];exact z) λh' F hs=>?_;refine h _ _ (I.hok.fresh (zv _)) (I.laid (a:=s.heap.objs.size) (o:=.dK kvs) (t':=s.toks) (λb q J=>?_) (zv _) (qE z (beq_eq_false_iff_ne.mpr (Ni (NN I.big))) G F));exact (hs.2 b (NN (Nj J))).trans (we _ J)
end
section
variable {κ:Type} [DecidableEq κ]
theorem BJ{p:κ×V}{r:List (κ×V)}{k:κ}(e:p.1=k):cA (p::r) k=cA r k:=by
 unfold cA;rw [PR,if_neg (by simp [e])]
theorem IK{p:κ×V}{r:List (κ×V)}{k:κ}(e : ¬ p.1=k):cA (p::r) k=p::cA r k:=by
 unfold cA;rw [PR,if_pos (by simp [e])]
end
section
variable {X:Cx}{Go:List (Addr×Obj)}{σ:St}{H:Hp}{s:p8}{a:Addr}{o:Obj}{kvs:List (Key×V)}
theorem Inv.swap(I:Inv X Go σ H s)(e:H a=some F)(h1:∀x,F≠.own x)(h2:∀xs,F≠.tup xs)(h3:∀ob,F≠.frz ob (.own 0))(h4:∀ps,F≠.tbl ps)(S:∀ob u,X.H₀ a≠some (.frz ob u))(new:∀H',ah X.prog X.w H' s.heap a J):Inv X Go σ (upd H a J) s:=by
 have ne:∀b,H b=none->b≠a:=λb n z=>by subst z;rw [e] at n;cases n
 have G:∀b,H b=none->upd H a J b=none:=λb n=>by rw [zd (ne b n)];exact n
 refine ⟨I.ok,I.os,I.bare,⟨I.base.keep,I.base.slot,λb ob q n hx=>G b (I.base.free b ob q n hx),I.base.there,λb xs q=>?_,λb ob u q=>?_,λb ps q=>?_⟩,I.loc,I.cell,G _ I.free,λx c q=>G c (I.So x c q),λp U=>?_,λb u q=>?_,I.len,?_⟩
 .have z:=I.base.tups b xs q;rw [zd (λy=>by subst y;rw [e] at z;cases z;exact h2 _ rfl)];exact z
 .by_cases hb:b=a
  .subst hb;exact absurd q (S ob u)
  .rw [zd hb];exact I.base.frzs b ob u q
 .obtain ⟨more,z⟩:=I.base.tbls b ps q;exact ⟨more,by rw [zd (λy=>by subst y;rw [e] at z;cases z;exact h4 _ rfl)];exact z⟩
 .obtain ⟨W,p2,Z⟩:=I.pin p U;exact ⟨W,G _ p2,Z⟩
 .by_cases hb:b=a
  .subst hb;rw [zx] at q;cases q;exact new _
  .rw [zd hb] at q;exact (I.hok b u q).stay (λc z _ y=>y) (λc z=>by rw [zd (λy=>by subst y;rw [e] at z;cases z;exact h1 _ rfl)];exact z) (λc xs z=>by rw [zd (λy=>by subst y;rw [e] at z;cases z;exact h2 _ rfl)];exact z)
 .rcases I.hdk with z|⟨b,ob,vs,q1,O,q3⟩
  .exact .inl z
  .exact .inr ⟨b,ob,vs,q1,by rw [zd (λy=>by subst y;rw [e] at O;cases O;exact h3 _ rfl)];exact O,q3⟩
theorem Inv.freeze(I:Inv X Go σ H s)(e:H a=some (.dK kvs)):(∀ob u,X.H₀ a≠some (.frz ob u))/\∃o,Inv X Go σ (upd H a (.frz o (.dK kvs))) s:=by
 have F:∀ob u,X.H₀ a≠some (.frz ob u):=λob u q=>by
  have z:=I.base.frzs a ob u q;rw [e] at z;cases z
 refine ⟨F,?_⟩;obtain ⟨z,hd,vs,G,dd⟩:=pC I.hok e;obtain ⟨o,es,ep,ho,r⟩:=id dd;exact ⟨o,I.swap e (λ_ q=>nomatch q) (λ_ q=>nomatch q) (λ_ q=>nomatch q) (λ_ q=>nomatch q) F λH'=>⟨ho,z,hd,vs,G,dd⟩⟩
theorem Inv.UT(I:Inv X Go σ H s)(e:H a=some (.frz o (.dK kvs)))(F:∀ob u,X.H₀ a≠some (.frz ob u)):Inv X Go σ (upd H a (.dK kvs)) s:=by
 obtain ⟨ho,z⟩:=I.hok a _ e;exact I.swap e (λ_ q=>nomatch q) (λ_ q=>nomatch q) (λ_ q=>by injection q with _ q;cases q) (λ_ q=>nomatch q) F λH'=>z
end
def lC(a:Addr)(kvs:List (Key×V))(H:Hp)(R:Hp->Prop):Prop:=∃o,H a=some (.frz o (.dK kvs))/\R (upd H a (.dK kvs))
def aK.UT(D:aK)(a:Addr)(kvs:List (Key×V)):aK:=⟨λσ H=>lC a kvs H (D.nx σ),λv H=>lC a kvs H (D.rt v),λσ H=>lC a kvs H (D.bk σ),λσ H=>lC a kvs H (D.ct σ)⟩
def tFz(t:TS):TS:=λD σ H=>∃a kvs,H a=some (.dK kvs)/\∀o,t (D.UT a kvs) σ (upd H a (.frz o (.dK kvs)))
theorem Cz{st:Stmt}{t:TS}(h:W (PS X st t)):W (PS X st (tFz t)):=by
 refine ⟨?_⟩;have h:=h.h;rintro Go s σ H D I ⟨a,kvs,e,q⟩;obtain ⟨O,o,S⟩:=I.freeze e;refine thn (h Go s σ _ _ S (q o)) λf s' z=>?_;cases f with
 | next=>obtain ⟨F,H',J,o',G,d⟩:=z;exact ⟨F,_,J.UT G O,d⟩
 | brk=>obtain ⟨F,H',J,o',G,d⟩:=z;exact ⟨F,_,J.UT G O,d⟩
 | cont=>obtain ⟨F,H',J,o',G,d⟩:=z;exact ⟨F,_,J.UT G O,d⟩
 | ret u=>obtain ⟨v,F,H',J,r,o',G,d⟩:=z;exact ⟨v,F,_,J.UT G O,r,d⟩
theorem KV.at(r:KV kvs vs):∀{i:Nat}{p:Key×V},kvs[i]?=some p->∃u,vs[i]?=some (p.1,u)/\zo p.2 u:=by
 induction r with
 | nil=>intro i p h;simp at h
 | @cons x y l m r t z =>
  intro i p h;cases i with
  | zero =>
   have e:x=p:=by simpa using h
   subst e;exact ⟨y.2,by rw [r.1];rfl,r.2⟩
  | succ i=>exact z (by simpa using h)
def Itd(a:Addr)(o:Obj)(kvs:List (Key×V)):It:=⟨λi H=>H a=some (.frz o (.dK kvs))/\i<kvs.length,λi H x H'=>H'=H/\∃p,kvs[i]?=some p/\x=kV p.1,λi H=>H a=some (.frz o (.dK kvs))/\kvs.length<=i⟩
theorem mG{o:Obj}(I:Inv X Go σ H s)(e:H a=some (.frz o (.dK kvs)))(hd:o.data = .dict es ep):
  (a==sysModules)=false/\∃vs,KV kvs vs/\s.heap.DictAt (ax X.prog X.w) a vs ep/\vs.length=kvs.length:=by
 obtain ⟨ho,z,hm,vs,J,o',O,S,G,hc,F,r⟩:=I.hok a _ e;rw [ho] at G;cases G;rw [hd] at F;cases F;exact ⟨hm,vs,J,⟨o,es,ho,hc,hd,r⟩,J.length.symm⟩
theorem Lo{o:Obj}(I:Inv X Go σ H s)(e:H a=some (.frz o (.dK kvs))):∃es ep,o.data = .dict es ep:=by
 obtain ⟨ho,z,hm,vs,S,o',J,O,G,hc,F,r⟩:=I.hok a _ e;rw [ho] at G;cases G;exact ⟨_,_,F⟩
theorem C4{P:M8}{w:Nl}{K:KE}{tg:Nr}(a it:Addr){o:Obj}{kvs:List (Key×V)}{es:Array R0}{ep:Nat}(hd:o.data = .dict es ep):cS true P w K tg (Itd a o kvs) [it] it (λi h=>h.IsKeyIter it a i kvs.length ep) where
 mem:=by simp
 obj:=λi h st b hb=>by
  have e:b=it:=by simpa using hb
  subst e;obtain ⟨o,e,c,d⟩:=st;exact ⟨o,e,λv z=>by rw [d] at z;cases z⟩
 keep:=λi h h' st k=>st.at λo e=>k it (by simp) o e
 item:=by
  intro X J F W hc i Go s σ H E I hf st hg;subst J F W;obtain ⟨Z,hi⟩:=hg;obtain ⟨hm,vs,Zs,dd,hl⟩:=mG I Z hd;obtain ⟨p,hp⟩:∃p,kvs[i]?=some p:=⟨kvs[i],by simp [hi]⟩;obtain ⟨u,hu,ru⟩:=Zs.at hp;obtain ⟨f0,S,f2,f3,G,U⟩:=hf it (by simp);rw [<- hl] at st;refine wpAny_pyNext_dict_item st dd hu λkey h' hk O sb=>?_;rw [hl] at O;have I1:Inv X Go σ H { s with heap:=h' }:=I.turned (t':=s.toks) (λb o hb e=>(sb.2 b hb).trans e) f0 S f3 G U;have rk:zo (kV p.1) key:=by
   rcases c8 (show eO p.1 key=true from hk) with ⟨j,t,e1,e2⟩|⟨x,t,e1,e2⟩
   .rw [e1,e2];exact ⟨t,rfl⟩
   .rw [e1,e2];exact ⟨t,rfl⟩
  obtain ⟨o,e,c,d⟩:=id O;exact ⟨key,rfl,fI (s:={ s with heap:=h' }) e c d (by decide) ⟨kV p.1,H,I1,rk,⟨rfl,p,hp,rfl⟩,O,λb hb=>(hf b hb).1⟩⟩
 done:=by
  intro X J F W hc i Go s σ H E I hf st hg;subst J F W;obtain ⟨Z,hi⟩:=hg;obtain ⟨hm,vs,Zs,dd,hl⟩:=mG I Z hd;obtain ⟨f0,S,f2,f3,G,U⟩:=hf it (by simp);rw [<- hl] at st;exact wpAny_pyNext_dict_end (I.ok.hd (hc rfl)) st dd (OS (by lia)) λh' eb=>⟨rfl,I.turned (t':=s.toks) (λb o hb e=>eb b o hb e) f0 S f3 G U⟩
 self:=λ_ _ _ _ _ st h=>wpAny_pyIter_keyiter st h
section
variable {X:Cx}{tg:Nr}
def rA(tl:TE):TI:=λσ H R=>tl σ H λx H1=>∃a o kvs,x = .ref a/\H1 a=some (.frz o (.dK kvs))/\R (Itd a o kvs) H1
theorem Iu(hl:W (PE X l tl)):W (PI X tg l (rA tl)):=by
 refine ⟨?_⟩;have hl:=hl.h;intro Go s σ H R I h;refine thn (hl Go s σ H _ I h) λv s1=>x5e λx H1 z G J=>?_;obtain ⟨a,o,kvs,e,F,q⟩:=J;subst e;cases G;obtain ⟨es,ep,hd⟩:=Lo z F;obtain ⟨hm,vs,O,dd,hl⟩:=mG z F hd;refine wpAny_pyIter_dict hm dd ?_;rw [hl];refine ⟨s1.heap.objs.size,[s1.heap.objs.size],_,_,H1,rfl,z.kept (t':=s1.toks) λb o e=>we _ e,C4 a _ hd,⟨_,Nd _ rfl,rfl,rfl⟩,λb hb=>?_,q⟩;have e:b=s1.heap.objs.size:=by simpa using hb
 subst e;exact z.SR (zv _) (z.hok.fresh (zv _))
end
def uK(y:V)(q:Key->Prop):Prop:=∃k,y=kV k/\q k
theorem MI:uK (.str z) q=q (.inr z):=by
 apply propext;constructor
 .rintro ⟨k,e,h⟩;cases k with
  | inl i=>cases e
  | inr x=>cases e;exact h
 .exact λh=>⟨.inr z,rfl,h⟩
theorem Ki:uK (.int i) q=q (.inl i):=by
 apply propext;constructor
 .rintro ⟨k,e,h⟩;cases k with
  | inl i=>cases e;exact h
  | inr x=>cases e
 .exact λh=>⟨.inl i,rfl,h⟩
section
variable {X:Cx}
def mv:R2:=λx y H Q=>∃a k kvs v,x = .ref a/\y=kV k/\Rd H a (.dK kvs)/\zZ kvs k=some v/\Q v H
theorem kY(W:X.A.units+1<cLine):IxR X mv:=by
 intro ZK U Go s σ H x y v u Q I J O h hs;obtain ⟨a,k,kvs,z,rfl,rfl,hq,he,q⟩:=h;obtain rfl:v=M3 a:=J;have g:dU H a (kV k) (some z):=.inl ⟨kvs,k,hq,rfl,he.symm⟩;unfold subscriptTail;refine fv ?_;rw [getitemInPython_of_ne (An I g).not_modules];refine fv (wpAny_specialOf (An I g) PySem.F.slot_dict_getitem.lookup ?_);have G:Nb (Nf X.prog X.w) X.A (subscripted U false (.ref a) u) (λr s₃=>Nb (Nf X.prog X.w) X.A (letTemporaryGo ZK (.ref a) r>>=λ_=>pure r) (EP X Go σ Q) X.xe s₃) X.xe s:=by
  rw [hs];exact wpAny_operating (Ca W I g O λw' s3 S Z=>fv (wpAny_letTemporaryGo (MZ ⟨z,H,S,Z,q⟩)))
 first
  | exact MZ (fv G)
  | exact fv (MZ (fv G))
  | exact fv G
def jO(c:Bool):R2:=λy x H Q=>∃a k kvs,x = .ref a/\y=kV k/\Rd H a (.dK kvs)/\Q (.bl (if c then !(zZ kvs k).isSome else (zZ kvs k).isSome)) H
theorem HF(J:X.A.units+1<cLine):OpR X (NK .In) (jO false):=by
 intro Go s σ H x y v u Q I z F h;obtain ⟨a,k,kvs,rfl,rfl,O,q⟩:=h;obtain rfl:u=M3 a:=F;exact FW J I (.inl ⟨kvs,k,O,rfl,rfl⟩) z λS G=>⟨.bl (zZ kvs k).isSome,H,G,rfl,q⟩
theorem GB(J:X.A.units+1<cLine):OpR X (NK .NotIn) (jO true):=by
 intro Go s σ H x y v u Q I z F h;obtain ⟨a,k,kvs,rfl,rfl,O,q⟩:=h;obtain rfl:u=M3 a:=F;exact A2 J I (.inl ⟨kvs,k,O,rfl,rfl⟩) z λS G=>⟨.bl (!(zZ kvs k).isSome),H,G,rfl,q⟩
theorem CJ{p:Addr}:jO c (.str x) (.ref p) H Q = ∃kvs,Rd H p (.dK kvs)/\Q (.bl (if c then !(zZ kvs (.inr x)).isSome else (zZ kvs (.inr x)).isSome)) H:=by
 apply propext;constructor
 .rintro ⟨a,k,kvs,F,z,h,q⟩;cases F;cases k with
  | inl i=>cases z
  | inr x=>cases z;exact ⟨kvs,h,q⟩
 .rintro ⟨kvs,h,q⟩;exact ⟨p,.inr x,kvs,rfl,rfl,h,q⟩
def i4:V->V->V->Hp->(Hp->Prop)->Prop:=λo i v H Q=>qJ o i v H Q\/∃a k kvs,o = .ref a/\i=kV k/\H a=some (.dK kvs)/\kvs.length<sizeLine/\Q (upd H a (.dK (aJ kvs k v)))
theorem kK(J:X.A.units+1<cLine):qZ X i4:=by
 intro Go s σ H o i v ov iv u Q I G F z h;rcases h with h|⟨a,k,kvs,rfl,rfl,e,l,q⟩
 .exact iM Go s σ H o i v ov iv u Q I G F z h
 .obtain rfl:ov=M3 a:=G;exact GN J I (.inl ⟨kvs,k,e,rfl,l,rfl⟩) F z λs' O=>⟨_,O,q⟩
theorem Bv:i4 (.ref a) (.str z) v H Q = ∃kvs,H a=some (.dK kvs)/\kvs.length<sizeLine/\Q (upd H a (.dK (aJ kvs (.inr z) v))):=by
 apply propext;constructor
 .rintro (⟨_,_,_,_,_,e,_⟩|⟨a',k,kvs,G,F,h,l,q⟩)
  .cases e
  .cases G;cases k with
   | inl i=>cases F
   | inr x=>cases F;exact ⟨kvs,h,l,q⟩
 .rintro ⟨kvs,h,l,q⟩;exact .inr ⟨a,.inr z,kvs,rfl,rfl,h,l,q⟩
theorem wQ:i4 (.ref a) (.int i) v H Q=((∃xs j,H a=some (.lst xs)/\ixN xs.length i=some j/\Q (upd H a (.lst (xs.set j v))))\/∃kvs,H a=some (.dK kvs)/\kvs.length<sizeLine/\Q (upd H a (.dK (aJ kvs (.inl i) v)))):=by
 apply propext;unfold i4;rw [rZ];constructor
 .rintro (h|⟨a',k,kvs,F,z,h,l,q⟩)
  .exact .inl h
  .cases F;cases k with
   | inl i=>cases z;exact .inr ⟨kvs,h,l,q⟩
   | inr x=>cases z
 .rintro (h|⟨kvs,h,l,q⟩)
  .exact .inl h
  .exact .inr ⟨a,.inl i,kvs,rfl,rfl,h,l,q⟩
def xf(td ty:TE):TS:=λD σ H=>td σ H λx H1=>ty σ H1 λy H2=>uR x λa=>uK y λk=>∃kvs,H2 a=some (.dK kvs)/\(zZ kvs k).isSome=true/\D.nx σ (upd H2 a (.dK (cA kvs k)))
theorem DU{o i:Nr}(ho:W (PE X o td))(hi:W (PE X i ty)):W (PS X (.Delete [.Subscript o i W9] pos) (xf td ty)):=by
 refine ⟨?_⟩;have ho:=ho.h;have hi:=hi.h;intro Go s σ H D I h;refine wpAny_Delete (wpAny_deleteEach_cons (wpAny_delete_Subscript (thn (ho Go s σ H _ I h) λu s1=>x5e λx H1 O z Z=>thn (hi Go s1 σ H1 _ O Z) λiv s2=>x5e λy H2 S F J=>?_)));obtain ⟨a,ex,k,ey,kvs,e,l,U⟩:=J;subst ex ey;obtain rfl:u=M3 a:=z;exact JB S e F l λs3 G=>wpAny_deleteEach_nil ⟨σ,_,G,U⟩
theorem MQ:xf td ty D σ H=td σ H λx H1=>ty σ H1 λy H2=>uR x λa=>uK y λk=>∃kvs,H2 a=some (.dK kvs)/\(zZ kvs k).isSome=true/\D.nx σ (upd H2 a (.dK (cA kvs k))):=rfl
def sR(td ty tx:TE):TE:=λσ H Q=>td σ H λx H1=>uR x λa=>(∃kvs,Rd H1 a (.dK kvs))/\ty σ H1 λy H2=>tx σ H2 λz H3=>uK y λk=>∃kvs,Rd H3 a (.dK kvs)/\Q ((zZ kvs k).getD z) H3
theorem IF{td ty tx:TE}:sR td ty tx σ H Q=td σ H λx H1=>uR x λa=>(∃kvs,Rd H1 a (.dK kvs))/\ty σ H1 λy H2=>tx σ H2 λz H3=>uK y λk=>∃kvs,Rd H3 a (.dK kvs)/\Q ((zZ kvs k).getD z) H3:=rfl
theorem yQ{o e f:Nr}{td ty tx:TE}(hu:X.A.units+1<cLine)(ho:W (PE X o td))(he:W (PE X e ty))(hf:W (PE X f tx))(m:M2 X o "get" Z3 e f cpos:=by exact ⟨rfl,rfl,rfl,rfl⟩):W (PE X (.Call (.Attribute o "get" Z3) [e,f] [] cpos) (sR td ty tx)):=by
 refine ⟨?_⟩;have ho:=ho.h;have he:=he.h;have hf:=hf.h;intro Go s σ H Q I h;refine wpAny_Call_method m.base m.few m.line RX QP PySem.F.type_dict_get (thn (ho Go s σ H _ I h) λu s1=>x5e λx H1 J S Xo=>?_);obtain ⟨a,ex,d,q1⟩:=Xo;subst ex;obtain rfl:u=M3 a:=S;obtain ⟨t1,t2,_⟩:=Hq J (.inl d);refine ⟨t1,t2,?_⟩;rw [m.trees];refine Calls.callWith_builtin rfl (Calls.evalArgs_plain (Calls.spliced_cons (thn (he Go s1 σ H1 _ J q1) λiv s2=>x5e λy H2 I2 U q2 =>
  Calls.spliced_cons (thn (hf Go s2 σ H2 _ I2 q2) λfv s3=>x5e λz H3 Z rz G=>Calls.spliced_nil ?_))))
 obtain ⟨k,ey,kvs,g,q3⟩:=G;subst ey;exact DY hu Z (.inl ⟨kvs,k,g,rfl,rfl⟩) U rz λw' s4 O XS=>⟨_,H3,O,XS,q3⟩
end
end L2
namespace L2
open PySem PySem.Spec PyProof.Rows PySem.W PySem.Calls
def leS(a b:Str):Prop:=ltCps b.cps.toList a.cps.toList=false
theorem FD(h1:leS a b)(h2:leS b a):a=b:=by
 unfold leS at h1 h2;rw [ltCps_eq] at h1 h2;exact jA (O6.total a.cps.toList b.cps.toList h2 h1)
theorem xr:∀{l:List Str},sortedS l=true->l.Pairwise leS:=by
 have key:∀(r:List Str)(x:Str),risingS x r=true->(x::r).Pairwise leS:=by
  intro r
  induction r with
  | nil=>intro x _;simp
  | cons y r U =>
   intro x h;have h':(!ltCps y.cps.toList x.cps.toList&&risingS y r)=true:=h;rw [NJ,Bool.not_eq_true'] at h';have F:=U y h'.2;refine NS.mpr ⟨λz G=>?_,F⟩;rcases MX.mp G with rfl|G
   .exact h'.1
   .have J:=(NS.mp F).1 z G;unfold leS at J ⊢;have S:=h'.1;rw [ltCps_eq] at J S ⊢;exact KeyOrd.kle_trans (O:=O6.toKeyOrd) S J
 intro l h;cases l with
 | nil=>exact .nil
 | cons x r=>exact key r x h
theorem sM:∀{l m:List Str},l.Perm m->l.Pairwise leS->m.Pairwise leS->l=m
 | [],m,p,_,_=>(O2.nil_eq p)
 | x::l,[],p,_,_=>absurd p.length_eq (by simp)
 | x::l,y::m,p,hl,hm=>by
  have e:x=y:=by
   have h1:x∈y::m:=p.mem_iff.mp (Nm ..);have h2:y∈x::l:=p.mem_iff.mpr (Nm ..);rcases MX.mp h1 with e|h1
   .exact e
   .rcases MX.mp h2 with e|h2
    .exact e.symm
    .exact FD ((NS.mp hl).1 y h2) ((NS.mp hm).1 x h1)
  subst e;rw [sM ((List.perm_cons x).mp p) (NS.mp hl).2 (NS.mp hm).2]
open Classical in
noncomputable def cZ(ks:List Str):List Str:=if h:∃z:List Str,z.Perm ks/\sortedS z=true then h.choose else ks
theorem Ac(p:z.Perm ks)(h:sortedS z=true):z=cZ ks:=by
 have ex:∃z:List Str,z.Perm ks/\sortedS z=true:=⟨z,p,h⟩;unfold cZ;rw [dif_pos ex];exact sM (p.trans ex.choose_spec.1.symm) (xr h) (xr ex.choose_spec.2)
section
variable {X:Cx}
def vY:List V->Hp->VK->Prop:=λxs H Q=>uR1 xs λa=>∃kvs,Rd H a (.dK kvs)/\∀p H2,New H p (.dK kvs) H2->Q (.ref p) H2
theorem MM:vY [.ref a] H Q = ∃kvs,Rd H a (.dK kvs)/\∀p H2,New H p (.dK kvs) H2->Q (.ref p) H2:=fj
theorem wB:zN X (.type "dict") vY:=by
 intro Go s σ H xs us Q I r h;obtain ⟨a,rfl,kvs,ha,q⟩:=h;obtain ⟨u,rfl,F⟩:=bV r;cases F;exact Ga I ha λp s' hn z=>⟨.ref p,_,z,rfl,q _ _ (.mk' hn)⟩
def sk(kvs:List (Str×V)):List (Key×V):=kvs.map λp=>(.inr p.1,p.2)
def xt:List V->Hp->VK->Prop:=λxs H Q=>uR1 xs λa=>∃kvs:List (Str×V),Rd H a (.dK (sk kvs))/\kvs.length<64/\∀p H2,New H p (.lst ((cZ (kvs.map (·.1))).map V.str)) H2->Q (.ref p) H2
theorem Bq:xt [.ref a] H Q = ∃kvs:List (Str×V),Rd H a (.dK (sk kvs))/\kvs.length<64/\∀p H2,New H p (.lst ((cZ (kvs.map (·.1))).map V.str)) H2->Q (.ref p) H2:=fj
theorem sY:∀{vs:List Value}{z:List Str},vs.length=z.length->(∀(j:Nat)(v:Value),vs[j]?=some v->∃t,v=Rh (z.getD j "") t)->StrsAre vs z
 | [],[],_,_=>.nil
 | [],_::_,h,_=>absurd h (by simp)
 | _::_,[],h,_=>absurd h (by simp)
 | v::vs,x::z,h,f=>by
  obtain ⟨t,e⟩:=f 0 v rfl;have G:v=Rh x t:=e;rw [G];exact .cons x t (sY (by simpa using h) λj u F=>f (j+1) u F)
theorem tM:∀{vs:List Value}{z:List Str},StrsAre vs z->zp (z.map V.str) vs
 | _,_,.nil=>.nil
 | _,_,.cons x t h=>.cons ⟨t,rfl⟩ (tM h)
theorem IR(hc:X.calm=true):zN X (.builtin "sorted") xt:=by
 intro Go s σ H xs us Q I r h;obtain ⟨a,rfl,kvs,hq,Yk,q⟩:=h;obtain ⟨u,rfl,ru⟩:=bV r;cases ru;obtain ⟨z,hd,vs,Zs,dd⟩:=dX I.hok hq;obtain ⟨ep,O⟩:=dd.dictAt;have Z6:vs.length=kvs.length:=by rw [<- Zs.length];simp [sk]
 refine call_function_entry kind_sorted plain_sorted entry_sorted (args_sorted1 _) ?_;unfold Ng.«sorted»
 refine fv (m:=checkCount "sorted" 1 1 _) (MZ ?_);refine fv (kdu_collect (A:=X.A.in1) (kdl_dict (knd:=ax X.prog X.w) (kvs:=vs) (ep:=ep) hd) (I.ok.hd hc) O (by rw [Z6,NX];lia) λh' tk ZI hk X4=>?_);have hl:ZI.toList.length=kvs.length:=by rw [Pc,<- Z6];exact X4.1
 have Z:StrsAre ZI.toList (kvs.map (·.1)):=sY (by rw [hl,MV]) λj v hv=>by
  obtain ⟨k,x,hx,hk⟩:=X4.2 j v (by rw [<- Q6];exact hv);have hj:j<vs.length:=(MY.mp hx).1;have G:j<kvs.length:=by lia
  have J:(sk kvs)[j]?=some (.inr kvs[j].1,kvs[j].2):=by simp [sk,G]
  obtain ⟨u',F,_⟩:=Zs.at J;rw [hx] at F;cases F;rcases c8 (show eO (Sum.inr kvs[j].1) v=true from hk) with ⟨i,t,W,J⟩|⟨y,t,W,J⟩
  .cases W
  .cases W;exact ⟨t,by rw [J,MW,Nh,l6 G];rfl⟩
 have I1:Inv X Go σ H { s with heap:=h',toks:=tk }:=I.kept hk;refine fv (RH ?_ (by rw [hl,NX];lia));have U:(h'.push (OA "list" ZI.toList.toArray 0)).get? h'.objs.size=some (OA "list" ZI.toList.toArray 0):=Nd _ rfl;refine fv (NH (N2 slot_list_sort ⟨_,U,rfl⟩ entry_list_sort (list_sort_treeK strKind_oneLt U Z.keysOf (λag ab Zo e=>keyKind_strs (by rw [<- e];exact Z)) (by rw [hl];exact Yk) λYQ a1 a2=>⟨_,rfl,?_⟩) (args_list_sort _)));obtain ⟨ai,b1,b2,b3⟩:=sorted_out_str Z a1 a2;have e3:=Ac b2 b3;subst e3;obtain ⟨c,S⟩:=sortedHeap_at (vs:=ZI.toList) (out:=(arrOf YQ).map (·.2)) U;refine MZ ⟨_,rfl,.ref h'.objs.size,upd H h'.objs.size (.lst ((cZ (kvs.map (·.1))).map V.str)),I1.laid (a:=h'.objs.size) (t':=tk) (λb o e=>?_) (zv _) ⟨?_,((arrOf YQ).map (·.2)).toList,c,tM b1,by rw [Q3];exact S⟩,rfl,q _ _ (.mk' (I1.hok.fresh (zv _)))⟩
 .have hb:b<h'.objs.size:=Nj e;rw [sortedHeap_old (NN hb) (by rw [Rn];exact Qj hb)];exact we _ e
 .have:=b2.length_eq;rw [MV,this,MV,NX];lia
end
end L2
namespace HT
open PySem PySem.Spec PyProof.Rows PySem.Calls
section
variable {prog:M8}{w:Nl}{A:Np}{E:Value->p8->Prop}{s:p8}
theorem getItem_tuple_whole{t sl:Addr}{W:Value}{lo hi:Option Int}(z:Rc s.heap t items)(hs:s.heap.IsSliceOf sl W Z .none)(pl:Ry W lo)(pu:Ry Z hi)(h0:sIx items.size 0 lo=0)(h1:sIx items.size items.size hi=items.size)(h:Q (.ref t) s):Nb (Nf prog w) A (R8 (.ref t) (.ref sl)) Q E s:=by
 obtain ⟨os,G,J,ab⟩:=id hs;have O:s.TypeIs (.ref sl) "slice":=⟨os,G,J⟩;unfold R8
 try with_reducible refine NH ?_
 first|refine fv (MZ ?_)|skip
 refine fv (wpAny_sequenceKey z.typeIs (by decide) ?_);refine fv (NR (name:=yv "__getitem__") z.typeIs NY
  (N2 NY z.typeIs entry_tuple_getitem ?_ (args_tuple_getitem _ _)))
 show Nb _ _ (Ng.Tuple.tupleItemsOf (.ref t)>>=_) _ _ s;refine fv (tupleItemsOf_ z ?_);refine fv (R1 O ?_);rw [if_pos (by decide)];refine fv (vN hs pl pu ?_);have F:(((sIx items.size 0 lo:Nat):Int)==0&&(1:Int)==1&&(sIx items.size items.size hi-sIx items.size 0 lo)==items.size)=true:=by
  rw [h0,h1];simp
 show Nb _ _ (if (((sIx items.size 0 lo:Nat):Int)==0&&(1:Int)==1&&(sIx items.size items.size hi-sIx items.size 0 lo)==items.size)=true then _ else _) _ _ s;rw [if_pos F];have S:∀{R:Bool->p8->Prop}{U:Np}{E':Value->p8->Prop},R true s->Nb (Nf prog w) U (Ng.Tuple.tupleIsExact (.ref t)) R E' s:=λ{R U E'} hr=>by
  unfold Ng.Tuple.tupleIsExact
  first
   | exact fv (R1 z.typeIs (MZ hr))
   | exact wpAny_map (R1 z.typeIs hr)
 refine fv (S ?_)
 first
  | exact fv (Pb (fv (MZ (MZ ⟨_,rfl,MZ h⟩))))
  | exact fv (Pb (MZ ⟨_,rfl,MZ h⟩))
  | exact fv (Pb (fv (MZ ⟨_,rfl,MZ h⟩)))
end
end HT
namespace L2
open PySem PySem.Spec PyProof.Rows PySem.W PySem.Calls
section
variable {X:Cx}
def jb:V->Option Int->Option Int->Hp->VK->Prop:=λx lo hi H Q=>uSl x lo hi H Q\/∃a xs,x = .ref a/\H a=some (.tup xs)/\∀p H2,zi H H2->H2 p=some (.tup (aY xs lo hi))->Q (.ref p) H2
theorem qY:SlR X jb:=by
 intro Go s σ H x v S U lo hi sl Q I G hs pl F h;rcases h with h|⟨a,xs,rfl,hx,q⟩
 .exact fC Go s σ H x v S U lo hi sl Q I G hs pl F h
 .by_cases z:HT.sIx xs.length 0 lo=0/\HT.sIx xs.length xs.length hi=xs.length
  .cases G;obtain ⟨its,r,J,Z⟩:=I.tuple (SqT.of hx);have O:its.toArray.size=xs.length:=by rw [Nc];exact r.length.symm
   refine ⟨"tuple",_,NY.lookup,J.typeIs,?_⟩;refine HT.getItem_tuple_whole J hs pl F (by rw [O];exact z.1) (by rw [O];exact z.2) ⟨.ref a,H,I,rfl,q a H (zi.refl _) ?_⟩;rw [hx];unfold aY;rw [z.1,z.2];simp
  .exact Fd Go s σ H _ v S U lo hi sl Q I G hs pl F ⟨a,xs,rfl,SqT.of hx,z,λp W=>q p _ (New.mk' (o:=.tup (aY xs lo hi)) W).same zx⟩
theorem A8{lo hi:Option Int}:jb (.str z) lo hi H Q=(z.length<=sizeLine/\Q (.str (Txt.slice z lo hi)) H):=by simp [jb,wV]
theorem HE{lo hi:Option Int}:jb (.ref a) lo hi H Q=((∃xs,H a=some (.lst xs)/\∀p H2,New H p (.lst (aY xs lo hi)) H2->Q (.ref p) H2)\/∃xs,H a=some (.tup xs)/\∀p H2,zi H H2->H2 p=some (.tup (aY xs lo hi))->Q (.ref p) H2):=by
 unfold jb;rw [ph];apply propext;constructor
 .rintro (h|⟨a',xs,e,h⟩)
  .exact .inl h
  .cases e;exact .inr ⟨xs,h⟩
 .rintro (h|⟨xs,h⟩)
  .exact .inl h
  .exact .inr ⟨a,xs,rfl,h⟩
def jg:R2:=λx y H Q=>∃a b xs ys,x = .ref a/\y = .ref b/\H a=some (.tup xs)/\H b=some (.tup ys)/\xs.length+ys.length<=sizeLine/\∀p H2,zi H H2->H2 p=some (.tup (xs++ys))->Q (.ref p) H2
theorem IG:OpR X (OE .Add) jg:=by
 intro Go s σ H x y v u Q I O S h;obtain ⟨a,b,xs,ys,rfl,rfl,ha,hb,hz,q⟩:=h;by_cases hx:xs=[]
 .cases O;cases S;obtain ⟨its,W,p1,_⟩:=I.tuple (SqT.of ha);obtain ⟨Yz,r2,p2,_⟩:=I.tuple (SqT.of hb);obtain ⟨⟨cls,dd,data,sl⟩,ho,hc,n,hd⟩:=id p1;obtain ⟨⟨U,Z,data2,J⟩,F,z,n2,G⟩:=id p2;simp only at hc hd z G;subst hc hd z G;have hi:its=[]:=W.SU.mpr hx;exact concat_meets ⟨_,ho,rfl⟩ ⟨_,F,rfl⟩ noFill_tuple_add seq_tuple_add slot_tuple_add entry_tuple_add (args_tuple_add_2 _ _)
   (tuple_addW0 a b its.toArray Yz.toArray n n2 dd Z sl J (by simp [hi])) ⟨ho,F,⟨.ref b,H,I,rfl,q b H (zi.refl _) (by rw [hb,hx];rfl)⟩⟩
 .exact A7 Go s σ H _ _ v u Q I O S ⟨a,b,xs,ys,rfl,rfl,SqT.of ha,SqT.of hb,hx,hz,λe=>q a H (zi.refl _) (by rw [ha,e,Oz]),λ_ p hp=>q p _ (New.mk' (o:=.tup (xs++ys)) hp).same zx⟩
def fX:R2:=λx y H Q=>eE x y H Q\/jg x y H Q
theorem jS:OpR X (OE .Add) fX:=sS.or IG
theorem Mi:fX (.int i) (.int j) H Q=Q (.int (i+j)) H:=by simp [fX,jg,eE]
theorem E5:fX (.str i) (.str j) H Q=(i.length+j.length<=sizeLine/\Q (.str (i++j)) H):=by simp [fX,jg,eE]
theorem E4:fX (.ref a) (.ref b) H Q=((∃xs zs,H a=some (.lst xs)/\H b=some (.lst zs)/\xs.length+zs.length<=sizeLine/\∀p H2,New H p (.lst (xs++zs)) H2->Q (.ref p) H2) \/
  ∃xs ys,H a=some (.tup xs)/\H b=some (.tup ys)/\xs.length+ys.length<=sizeLine/\∀p H2,zi H H2->H2 p=some (.tup (xs++ys))->Q (.ref p) H2):=by
 unfold fX;rw [nE];apply propext;constructor
 .rintro (h|⟨a',G,xs,ys,z,F,h⟩)
  .exact .inl h
  .cases z;cases F;exact .inr ⟨xs,ys,h⟩
 .rintro (h|⟨xs,ys,h⟩)
  .exact .inl h
  .exact .inr ⟨a,b,xs,ys,rfl,rfl,h⟩
def ug:List V->Hp->VK->Prop:=λxs H Q=>∃i j,xs=[.int i,.int j]/\(0<j/\j<2 ^ 64)/\∀p H2,New H p (.tup [.int (i / j),.int (i % j)]) H2->Q (.ref p) H2
theorem KH:ug [.int i,.int j] H Q=((0<j/\j<2 ^ 64)/\∀p H2,New H p (.tup [.int (i / j),.int (i % j)]) H2->Q (.ref p) H2):=by
 apply propext;constructor
 .rintro ⟨F,z,e,h⟩;cases e;exact h
 .exact λh=>⟨i,j,rfl,h⟩
theorem Be:zN X (.builtin "divmod") ug:=by
 intro Go s σ H xs us Q I r h;obtain ⟨i,j,rfl,⟨h1,h2⟩,q⟩:=h;obtain ⟨u,w',rfl,⟨t,rfl⟩,⟨t',rfl⟩⟩:=qv r;have z:j.natAbs.log2<9000:=by
  have:j.natAbs.log2<64:=(Nat.log2_lt (by lia)).mpr (by lia);lia
 refine divmod_int (by lia) ?_ (.inl (PyProof.noPylong_of_log2 z));rw [Int.fdiv_eq_ediv_of_nonneg i (by lia),Int.fmod_eq_emod_of_nonneg i (by lia)];have hn:H s.heap.objs.size=none:=I.hok.fresh (zv _);refine ⟨.ref s.heap.objs.size,_,?_,rfl,q _ _ (.mk' hn)⟩;refine I.laid (λb o e=>we _ e) (zv _) ⟨by simp only [N6,Pq];rw [NX];decide,[.int (i / j) s.toks,.int (i % j) (s.toks+1)],.cons ⟨_,rfl⟩ (.cons ⟨_,rfl⟩ .nil),?_⟩;exact ⟨_,Nd s.heap rfl,rfl,0,rfl⟩
def vH:TS:=λ_ _ _=>False
theorem h6{st:Stmt}:W (PS X st vH):=⟨λ_ _ _ _ _ _ h=>h.elim⟩
def yF(to te:TE):TE:=λσ H Q=>to σ H λx H1=>uR x λl=>(∃xs,H1 l=some (.lst xs))/\te σ H1 λy H2=>uR y λb=>∃xs zs,H2 l=some (.lst xs)/\H2 b=some (.lst zs)/\xs.length+zs.length<=sizeLine/\Q .non (upd H2 l (.lst (xs++zs)))
theorem JH:yF to te σ H Q=to σ H λx H1=>uR x λl=>(∃xs,H1 l=some (.lst xs))/\te σ H1 λy H2=>uR y λb=>∃xs zs,H2 l=some (.lst xs)/\H2 b=some (.lst zs)/\xs.length+zs.length<=sizeLine/\Q .non (upd H2 l (.lst (xs++zs))):=rfl
theorem FY{o e:Nr}(ho:W (PE X o to))(he:W (PE X e te))(ZH:Oi o "extend" X.env (NT o X.env)=NT o X.env:=by rfl)(ZG:(Z3.endLine==cpos.line)=true:=by rfl)(U:zW e=true:=by rfl):W (PE X (.Call (.Attribute o "extend" Z3) [e] [] cpos) (yF to te)):=by
 refine ⟨?_⟩;have ho:=ho.h;have he:=he.h;intro Go s σ H Q I h;have hs:Nq [e] X.env=[(false,NT e X.env)]:=cw U;refine Ox ZH (by rw [hs];rfl) ZG rfl (thn (ho Go s σ H _ I h) λv s1=>x5e λx H1 G z Z=>?_);obtain ⟨l,ex,⟨xs,hx⟩,q1⟩:=Z;subst ex;obtain ⟨h1,h2⟩:=gW (T:="list") G z (.inl ⟨rfl,xs,SqL.of hx⟩);refine ⟨"list","list.extend",Q5,PySem.F.slot_list_extend,PySem.F.type_list_extend,h1,h2,?_⟩;rw [hs];refine Calls.callWith_builtin rfl (Calls.evalArgs_plain ?_);refine Calls.spliced_cons (thn (he Go s1 σ H1 _ G q1) λu s2=>x5e λy H2 I2 r2 O=>Calls.spliced_nil ?_);obtain ⟨b,ey,J,zs,hl,hb,S,q⟩:=O;subst ey;exact EY Go s2 σ H2 (.ref l) [.ref b] v [u] Q I2 z (.cons r2 .nil) ⟨l,b,J,zs,rfl,rfl,hl,hb,S,q⟩
end
section
variable {K:KE}{g:TG}{tb:TS}{D:aK}{σ:St}{H:Hp}{tl:TE}{R:It->Hp->Prop}{tt:TT}{te:TE}{Q:VK}{a:Addr}{o:Obj}{kvs:List (Key×V)}
theorem Mp:rA tl σ H R=tl σ H λx H1=>uR x λa=>∃o kvs,H1 a=some (.frz o (.dK kvs))/\R (Itd a o kvs) H1:=by
 unfold rA uR;congr;funext x H1;apply propext;constructor
 .rintro ⟨a,o,kvs,e,h⟩;exact ⟨a,e,o,kvs,h⟩
 .rintro ⟨a,e,o,kvs,h⟩;exact ⟨a,o,kvs,e,h⟩
theorem zX.aO(G:Nat->St->List V->Hp->Prop)(J:∀i τ ys H,G i τ ys H->ys.length<sizeLine)(ha:∀i τ ys H,G i τ ys H->H a=some (.frz o (.dK kvs)))(W:G 0 τ [] H)(hs:∀(N:St->List V->Hp->Prop) i p τ ys H,kvs[i]?=some p->G i τ ys H->(∀τ ys H,G (i+1) τ ys H->N τ ys H)->g (kV p.1) τ H λF H4=>tt F H4 λok H5=>dH N ys F te ok H5)(hd:∀τ ys H,G kvs.length τ ys H->∀D H',New H D (.lst ys) H'->Q (.ref D) H'):zX (Itd a o kvs) g tt te τ H Q:=by
 refine ⟨λi m τ ys H=>m=kvs.length-i/\i<=kvs.length/\G i τ ys H,⟨kvs.length,by simp,NV _,W⟩,?_⟩;rintro i m τ ys H2 ⟨rfl,hi,p⟩;refine ⟨J i τ ys H2 p,?_⟩;have q:=ha i τ ys H2 p;by_cases S:i<kvs.length
 .refine .inr ⟨⟨q,S⟩,λx H' y=>?_⟩;obtain ⟨e,z,J,ex⟩:=y;subst e ex;exact hs (λF ys H=>∃O,O<kvs.length-i/\O=kvs.length-(i+1)/\i+1<=kvs.length/\G (i+1) F ys H) i z τ ys _ J p λF zs H q=>⟨kvs.length-(i+1),by lia,rfl,S,q⟩
 .have e:i=kvs.length:=by lia
  subst e;exact .inl ⟨⟨q,zv _⟩,λD U _=>hd τ ys H2 p D _ (.mk' U)⟩
theorem Ly{t:TS}:tFz t D σ H = ∃a kvs,H a=some (.dK kvs)/\∀o,t (D.UT a kvs) σ (upd H a (.frz o (.dK kvs))):=rfl
end
end L2
namespace L2
open PySem PySem.Spec PyProof.Rows
section
variable {α β:Type}
def look(t:List (Str×α))(n:Str):Option α:=(t.find? λp=>decide (p.1=n)).map (·.2)
def bF(t:List (Str×α))(n:Str)(a:α):List (Str×α):=if (look t n).isSome then t.map λp=>if p.1=n then (p.1,a) else p else t++[(n,a)]
def aQ(t:List (Str×α))(n:Str):List (Str×α):=t.filter λp=>!decide (p.1=n)
def names(t:List (Str×α)):List Str:=t.map (·.1)
theorem Am:look ([]:List (Str×α)) n=none:=rfl
theorem cH{p:Str×α}{t:List (Str×α)}:look (p::t) n=if p.1=n then some p.2 else look t n:=by
 unfold look;by_cases h:p.1=n
 .rw [List.find?_cons_of_pos (by simpa using h),if_pos h];rfl
 .rw [List.find?_cons_of_neg (by simpa using h),if_neg h]
theorem gS{t:List (Str×α)}:look t n=none↔n∉names t:=by
 induction t with
 | nil=>simp [look,names]
 | cons p t z =>
  rw [cH];by_cases e:p.1=n
  .rw [if_pos e];simp [names,e]
  .rw [if_neg e,z];simp [names];exact λ_=>λh=>e h.symm
theorem Eu{t:List (Str×α)}:names (bF t n a)=if (look t n).isSome then names t else names t++[n]:=by
 unfold bF names;by_cases h:(look t n).isSome
 .rw [if_pos h,if_pos h,NL];refine OI λp _=>?_;show (if p.1=n then (p.1,a) else p).1=p.1;split<;>rfl
 .rw [if_neg h,if_neg h,NI];rfl
theorem mL{t:List (Str×α)}(nd:(names t).Nodup):(names (bF t n a)).Nodup:=by
 rw [Eu];by_cases h:(look t n).isSome
 .rw [if_pos h];exact nd
 .rw [if_neg h];have:look t n=none:=by simpa using h
  rw [gS] at this;rw [Pp];refine ⟨nd,by simp,λx hx y z e=>?_⟩;have:y=n:=by simpa using z
  subst this;subst e;contradiction
theorem Jt{t:List (Str×α)}(nd:(names t).Nodup):(names (aQ t n)).Nodup:=by
 unfold names aQ;exact nd.sublist (List.Sublist.map _ List.filter_sublist)
theorem GZ{t:List (Str×α)}:look (t.map λp=>if p.1=n then (p.1,a) else p) m=if m=n then (if (look t n).isSome then some a else none) else look t m:=by
 induction t with
 | nil=>by_cases h:m=n<;>simp [look,h]
 | cons p t F =>
  rw [NO,cH,F,cH,cH];by_cases e:p.1=n
  .rw [if_pos e,if_pos e];show (if p.1=m then some a else _)=_;by_cases h:m=n
   .rw [if_pos (by rw [e,h]),if_pos h];rfl
   .rw [if_neg (λz=>h (by rw [<- z,e])),if_neg h,if_neg h,if_neg (λz=>h (by rw [<- z,e]))]
  .rw [if_neg e,if_neg e];by_cases h:m=n
   .rw [if_pos h,if_pos h,if_neg (λz=>e (by rw [z,h]))]
   .rw [if_neg h,if_neg h]
theorem Ii{t u:List (Str×α)}:look (t++u) m=(look t m).or (look u m):=by
 induction t with
 | nil=>simp [Am]
 | cons p t z =>
  rw [cons_append,cH,cH,z];by_cases h:p.1=m
  .rw [if_pos h,if_pos h];rfl
  .rw [if_neg h,if_neg h]
theorem yR{t:List (Str×α)}:look (bF t n a) m=if m=n then some a else look t m:=by
 unfold bF;by_cases h:(look t n).isSome
 .rw [if_pos h,GZ,if_pos h]
 .rw [if_neg h,Ii,cH];have hn:look t n=none:=by simpa using h
  by_cases e:m=n
  .rw [if_pos e,e,hn,if_pos rfl];rfl
  .rw [if_neg e,if_neg (λz=>e z.symm),Am,Option.or_none]
theorem Mr{t:List (Str×α)}:look (aQ t n) m=if m=n then none else look t m:=by
 induction t with
 | nil=>by_cases h:m=n<;>simp [look,aQ,h]
 | cons p t F =>
  by_cases e:p.1=n
  .have:aQ (p::t) n=aQ t n:=by unfold aQ;rw [OM (by simpa using e)]
   rw [this,F,cH];by_cases h:m=n
   .rw [if_pos h,if_pos h]
   .rw [if_neg h,if_neg h,if_neg (λz=>h (by rw [<- z,e]))]
  .have:aQ (p::t) n=p::aQ t n:=by unfold aQ;rw [OL (by simpa using e)]
   rw [this,cH,cH,F];by_cases h:m=n
   .rw [if_pos h,if_pos h,if_neg (λz=>e (by rw [z,h]))]
   .rw [if_neg h,if_neg h]
def x9(t u:List (Str×α)):Prop:=∀n,look t n=look u n
theorem x9.names{t u:List (Str×α)}(h:x9 t u)(G:(names t).Nodup)(F:(L2.names u).Nodup):(L2.names t).Perm (L2.names u):=by
 refine (List.perm_ext_iff_of_nodup G F).mpr λn=>?_;have h1:=h n;constructor
 .intro hn;refine OY λz=>?_;rw [gS.mpr z] at h1;exact gS.mp h1 hn
 .intro hn;refine OY λz=>?_;rw [gS.mpr z] at h1;exact gS.mp h1.symm hn
def Dct(R:V->α->Prop):List (Str×V)->List (Str×α)->Prop:=Paired λp q=>p.1=q.1/\R p.2 q.2
theorem Dct.names{t:List (Str×α)}(h:Dct R kvs t):kvs.map (·.1)=L2.names t:=by
 induction h with
 | nil=>rfl
 | @cons p q l m r _ z=>show p.1::l.map (·.1)=q.1::m.map (·.1);rw [r.1,z];rfl
theorem Dct.length{t:List (Str×α)}(h:Dct R kvs t):kvs.length=t.length:=Paired.length h
theorem Dct.imp{t:List (Str×α)}(h:Dct R kvs t)(f:∀v a,R v a->S v a):Dct S kvs t:=Paired.wh h λp q z=>⟨z.1,f _ _ z.2⟩
theorem Dct.look{t:List (Str×α)}(h:Dct R kvs t)(n:Str):(∃v a,L2.look kvs n=some v/\L2.look t n=some a/\R v a)\/(L2.look kvs n=none/\L2.look t n=none):=by
 induction h with
 | nil=>exact .inr ⟨rfl,rfl⟩
 | cons r _ z =>
  rw [cH,cH,<- r.1];split
  .exact .inl ⟨_,_,rfl,rfl,r.2⟩
  .exact z
theorem Dct.put{t:List (Str×α)}(h:Dct R kvs t)(n:Str)(r:R v a):Dct R (bF kvs n v) (bF t n a):=by
 have hs:(L2.look kvs n).isSome=(L2.look t n).isSome:=by
  rcases h.look n with ⟨v,a,F,G,_⟩|⟨F,G⟩<;>rw [F,G]<;>rfl
 have hm:Dct R (kvs.map λp=>if p.1=n then (p.1,v) else p) (t.map λp=>if p.1=n then (p.1,a) else p):=by
  clear hs
  induction h with
  | nil=>exact .nil
  | @cons p q _ _ r' _ z =>
   refine .cons ?_ z;show (if p.1=n then (p.1,v) else p).1=(if q.1=n then (q.1,a) else q).1/\R (if p.1=n then (p.1,v) else p).2 (if q.1=n then (q.1,a) else q).2;by_cases e:p.1=n
   .rw [if_pos e,if_pos (by rw [<- r'.1];exact e)];exact ⟨r'.1,r⟩
   .rw [if_neg e,if_neg (by rw [<- r'.1];exact e)];exact r'
 have ha:Dct R (kvs++[(n,v)]) (t++[(n,a)]):=by
  clear hs hm
  induction h with
  | nil=>exact .cons ⟨rfl,r⟩ .nil
  | cons r' _ z=>exact .cons r' z
 unfold bF;rw [hs];split
 .exact hm
 .exact ha
theorem Dct.drop{t:List (Str×α)}(h:Dct R kvs t)(n:Str):Dct R (aQ kvs n) (aQ t n):=by
 induction h with
 | nil=>exact .nil
 | @cons p q _ _ r _ z =>
  unfold aQ at z ⊢;by_cases e:p.1=n
  .rw [OM (by simpa using e),OM (by rw [<- r.1];simpa using e)];exact z
  .rw [OL (by simpa using e),OL (by rw [<- r.1];simpa using e)];exact .cons r z
theorem Dct.at{t:List (Str×α)}(h:Dct R kvs t):∀{i:Nat}{p:Str×V},kvs[i]?=some p->∃a,t[i]?=some (p.1,a)/\R p.2 a:=by
 induction h with
 | nil=>intro i p e;simp at e
 | @cons x y _ _ r _ z =>
  intro i p e;cases i with
  | zero =>
   have F:x=p:=by simpa using e
   subst F;exact ⟨y.2,by rw [r.1];rfl,r.2⟩
  | succ i=>exact z (by simpa using e)
end
theorem gj:zZ (sk kvs) (.inr n)=look kvs n:=by
 induction kvs with
 | nil=>rfl
 | cons p t F =>
  rw [cH];by_cases e:p.1=n
  .rw [if_pos e];exact iN (show (Sum.inr p.1:Key)=Sum.inr n by rw [e])
  .rw [if_neg e,<- F];exact iI (λz=>e (by injection z))
theorem ql:aJ (sk kvs) (.inr n) v=sk (bF kvs n v):=by
 unfold aJ bF;have hs:((sk kvs).any λz=>decide (z.1 = .inr n))=(look kvs n).isSome:=by rw [pQ,gj]
 rw [hs];split
 .unfold sk;rw [NL,NL];refine OI λp _=>?_;by_cases e:p.1=n
  .simp [e]
  .simp [e]
 .simp [sk]
theorem Ek:cA (sk kvs) (.inr n)=sk (aQ kvs n):=by
 induction kvs with
 | nil=>rfl
 | cons p t F =>
  by_cases e:p.1=n
  .have:aQ (p::t) n=aQ t n:=by unfold aQ;rw [OM (by simpa using e)]
   rw [this,<- F];exact BJ (show (Sum.inr p.1:Key)=Sum.inr n by rw [e])
  .have:aQ (p::t) n=p::aQ t n:=by unfold aQ;rw [OL (by simpa using e)]
   rw [this];show cA ((Sum.inr p.1,p.2)::sk t) (Sum.inr n)=(Sum.inr p.1,p.2)::sk (aQ t n);rw [<- F];exact IK (λz=>e (by injection z))
theorem ER:mv (.ref a) (.str z) H Q = ∃kvs,Rd H a (.dK kvs)/\∃v,zZ kvs (.inr z)=some v/\Q v H:=by
 apply propext;constructor
 .rintro ⟨a',k,kvs,v,G,F,h1,h2,q⟩;cases G;cases k with
  | inl i=>cases F
  | inr x=>cases F;exact ⟨kvs,h1,v,h2,q⟩
 .rintro ⟨kvs,h1,v,h2,q⟩;exact ⟨a,.inr z,kvs,v,rfl,rfl,h1,h2,q⟩
theorem CP:jg (.ref a) (.ref b) H Q = ∃xs ys,H a=some (.tup xs)/\H b=some (.tup ys)/\xs.length+ys.length<=sizeLine/\∀p H2,zi H H2->H2 p=some (.tup (xs++ys))->Q (.ref p) H2:=by
 apply propext;constructor
 .rintro ⟨a',G,xs,ys,z,F,h⟩;cases z;cases F;exact ⟨xs,ys,h⟩
 .rintro ⟨xs,ys,h⟩;exact ⟨a,b,xs,ys,rfl,rfl,h⟩
theorem Kf{k j:Nat}{p pos:Pos}(G:GC X.prog X.w X.K X.mg X.base cm j x C ps sp)(hr:zG cm k X.A)(hg:Gl X x)(J:j+1<=k:=by decide)(z:(x==("__debug__":Str))=false:=by decide):
  PE X (.Call (.Name x p) [] [] pos) (kr C sp bQ):=by
 obtain ⟨f,fd,F,hm,M,hb⟩:=G.ex;intro Go s σ H Q I h;exact Dq M F (hr.mono J) hg hm hb .nil i6 z Go s σ H Q I (λy dx hx hd ne=>h y dx _ (.mk' hx hd ne))
theorem vK{k j:Nat}{p pos:Pos}(G:GC X.prog X.w X.K X.mg X.base cm j x C ps sp)(hr:zG cm k X.A)(hg:Gl X x)(F:j+1<=k:=by decide)(z:(x==("__debug__":Str))=false:=by decide):
  W (PE X (.Call (.Name x p) [] [] pos) (kr C sp bQ)):=⟨Kf G hr hg F z⟩
def mE:R2:=λx y H Q=>∃p xs,y = .ref p/\(H p=some (.lst xs)\/H p=some (.tup xs))/\zV x=true/\xs.all zV=true/\Q (.bl (!inV x xs)) H
theorem CL(G:X.A.units<cLine):OpR X (NK .NotIn) mE:=Lr.weak λx y H Q h=>by
 obtain ⟨p,xs,e,h,F,z,q⟩:=h;exact ⟨p,xs,e,h.elim (λh=>.inl (SqL.of h)) (λh=>.inr (SqT.of h)),F,z,by simpa using q⟩
theorem Cu{p:Addr}:mE x (.ref p) H Q = ∃xs,(H p=some (.lst xs)\/H p=some (.tup xs))/\zV x=true/\xs.all zV=true/\Q (.bl (!inV x xs)) H:=by simp [mE]
theorem oH:(sk kvs).length=kvs.length:=by simp [sk]
section
variable {M:Model}{A:Np}{E:Value->p8->Prop}{s:p8}
theorem x8{id:String}(G:args.any (·.1)=false)(z:F.any (·.1.isNone)=false)(h:Nb M A (evalArgs (.builtin id) true args F) (λa s1=>Nb M A (call (.builtin id) a.pos a.kw) Q E s1) E s):Nb M A (PU pos (.builtin id) [] args F) Q E s:=by
 unfold PU;refine fv (NH (N7 h (λa s1 h1=>fv (Pa ?_)) λ_ _ x=>x));simp only [G,z,Ql];exact fv (MZ (fv (N7 h1 (λr s2 hr=>fv (NH (wpAny_point (MZ hr)))) λ_ _ x=>x)))
end
theorem IP{J p2 O p4 F:Pos}{W:Nat}{a r:Addr}{k:Int}{t:Tok}(S:env.scope.kind = .function)(hl:env.kindOf x=some .local)(hn:s.heap.Ns env.locals m)(hm:m x=some (.ref a))(ha:Rc s.heap a its)(z:its[0]?=some (.ref r))(hr:Rc s.heap r ks)(h1:ks[1]?=some (.int k t))(hd:(x==("__debug__":Str))=false)(q:∀tk,Q (.int k t) { s with toks:=tk }):Nb (Nf prog w) A (NT (.Subscript (.Subscript (.Name x J) (.Constant (.int 0) U p2) O) (.Constant (.int 1) W p4) F) env) Q E s:=by
 refine Subscript_ (Subscript_ (wpAny_Name (QS S hl hn hm ?_) hd));refine Rk ?_;have G:0<its.size:=(Oh.mp z).1;have s1:1<ks.size:=(Oh.mp h1).1;refine Po (x:=.ref r) (T:="tuple") ha.typeIs Rl.lookup (getItem_tuple (j:=0) ha (by decide) (by decide) (by simp [RQ,G]) z ⟨rfl,?_⟩);refine Rk ?_;exact Po (x:=.int k t) (T:="tuple") hr.typeIs Rl.lookup (getItem_tuple (j:=1) hr (by decide) (by decide) (by simp [RQ];lia) h1 ⟨rfl,q _⟩)
def cB(pos:Pos)(qual:Str)(H:Hp)(P:Addr):Prop :=
 H P=some (.tbl #[])\/∃c' oc vs t,H P=some (.tbl #[N4 pos.line,N4 pos.col,.ref c'])/\H c'=some (.frz oc (.own 0))/\oc.data = .fields vs/\vs[1]?=some (.str qual t)
structure fR(mg:Str->Option Value)(base:Heap)(Z0:Value)(P:Addr):Prop where
 cd:∃c,Z0 = .ref c/\PySem.W.CodeHd base c P
 bt:∃bm o,mg "__builtins__"=some (.ref bm)/\bm≠Qs/\bm≠M6/\base.get? bm=some o/\o.cls = .type "module"/\o.dict=some Qs/\o.data = .plain
def iP(H H':Hp)(P:Addr):Prop:=∀a o,a≠P->H a=some o->H' a=some o
theorem EG(LB:fR X.mg X.base X.env.code P)(WX:defaultsOf ZQ X.env=([],[]))(aj:Rr scope X.env=pure [])(I:Inv X Go σ H s)(hT:cB pos (X.env.qual++"<lambda>") H P)(h:∀(f c':Addr)(F:Value)(h':Heap)(tk:Nat)(H':Hp),f+1=h'.objs.size->s.heap.objs.size<=f->h'.CodeRec (.ref c') (X.env.qual++"<lambda>") ->
   h'.get? f=some (kla_obj "<lambda>" (X.env.qual++"<lambda>") ZQ Zx scope [] ((X.mg "__name__").getD .none) c' F)->cB pos (X.env.qual++"<lambda>") H' P->iP H H' P->Inv X Go σ H' { s with heap:=h',toks:=tk }->Q (.ref f) { s with heap:=h',toks:=tk }):
  Nb (Nf X.prog X.w) X.A (NT (.Lambda ZQ Zx scope pos) X.env) Q E s:=by
 refine PySem.W.kla_eval WX ?_;obtain ⟨c,hc,C⟩:=LB.cd;obtain ⟨bm,ob,b1,b2,b3,b4,b5,b6,b7⟩:=LB.bt;obtain ⟨og,a7,a6,eg,a8⟩:=id I.ok.mod.glob;have av:s.heap.Ns M6 X.mg:=I.ok.mod.glob.keeps I.bk;have ag:∀{b:Addr}{o:Obj}{u:HO},X.base.get? b=some o->H P=some u->b≠P:=λe G z=>by
  have:=(I.bs _ _ e).2;rw [z,G] at this;cases this
 rcases hT with G|⟨c',oc,vs,t,G,YA,hd,hv⟩
 .have S:s.heap.get? P=some (tabObj #[]):=I.hok P _ G;refine PySem.W.kla_makeFunction (mg:=X.mg) aj I.ok.glob av hc (C.keeps I.bk) S trivial rfl (ag eg G) ⟨bm,ob,b1,b2,b3,ag b4 G,I.bk _ _ b4,b5,b6,b7⟩ λc' F h' tk hx O ZN ai a0=>?_;obtain ⟨a5,oc,vs,t,e2,U,hd,hv⟩:=ai;cases e2;have a3:P<s.heap.objs.size:=Nj S;have cP:c'≠P:=λz=>by rw [z] at O;exact absurd a3 (PX.mpr O)
  have Z:∀{b:Addr}{u:HO},H b=some u->b≠c':=λe z=>by
   have:=I.hok.lt e;rw [z] at this;exact absurd this (PX.mpr O)
  have aT:∀{b:Addr}{u:Obj},s.heap.get? b=some u->b≠c':=λe z=>by
   have:=Nj e;rw [z] at this;exact absurd this (PX.mpr O)
  have kp:∀b o,b≠P->s.heap.get? b=some o->(h'.push (kla_obj "<lambda>" (X.env.qual++"<lambda>") ZQ Zx scope [] ((X.mg "__name__").getD .none) c' F)).get? b=some o:=λb o n e=>we _ (hx b o n e)
  let H':Hp:=upd (upd H P (.tbl #[N4 pos.line,N4 pos.col,.ref c'])) c' (.frz oc (.own 0))
  have J:∀b,b≠P->b≠c'->H' b=H b:=λb n1 n2=>by show upd _ c' _ b=H b;rw [zd n2,zd n1]
  have ab:H' P=some (.tbl #[N4 pos.line,N4 pos.col,.ref c']):=by show upd _ c' _ P=_;rw [zd (Ni cP),zx]
  have ak:H' c'=some (.frz oc (.own 0)):=zx;have nP:∀b,H b=none->b≠P:=λb e z=>by rw [z,G] at e;cases e
  have ext:∀b u,H b=some u->(∀ps,u≠.tbl ps)->H' b=some u:=λb u e n=>by rw [J b (λz=>by rw [z,G] at e;cases e;exact n _ rfl) (Z e)];exact e
  have un:Un X.fs [] H H' s.heap (h'.push (kla_obj "<lambda>" (X.env.qual++"<lambda>") ZQ Zx scope [] ((X.mg "__name__").getD .none) c' F)):=by
   refine ⟨λb o e n _ _=>kp b o (nP b n) e,λb o e n _ _=>⟨o.slots,kp b o (nP b n) e⟩,λb o e n _=>by rw [J b (nP b n) (aT e)];exact n,λb o e _=>?_,λb xs e=>ext b _ e λ_=>nofun,λb o u e=>ext b _ e λ_=>nofun,λb ps e=>?_⟩
   .by_cases z:b=P
    .exact ⟨_,by rw [z];exact we _ a0⟩
    .exact ⟨o,kp b o z e⟩
   .by_cases z:b=P
    .rw [z,G] at e;cases e;exact ⟨#[N4 pos.line,N4 pos.col,.ref c'],by rw [z,ab];simp⟩
    .exact ⟨#[],by rw [J b z (Z e),e];simp⟩
  have hok:HOk X.prog X.w H' (h'.push (kla_obj "<lambda>" (X.env.qual++"<lambda>") ZQ Zx scope [] ((X.mg "__name__").getD .none) c' F)):=λa o e=>by
   by_cases z1:a=c'
   .rw [z1,ak] at e;cases e;rw [z1];exact ⟨we _ U,⟨_,we _ U⟩⟩
   .by_cases z2:a=P
    .rw [z2,ab] at e;cases e;rw [z2];show Heap.get? _ P=_;exact we _ a0
    .rw [J a z2 z1] at e;refine (I.hok a o e).stay (λb u hb q=>kp b u ?_ q) (λb q=>ext b _ q λ_=>nofun) λb xs q=>ext b _ q λ_=>nofun;rcases hb with rfl|hb
     .exact z2
     .intro z;rw [z,G] at hb;cases hb
  refine h h'.objs.size c' F _ tk H' (by rw [Rn]) (OH (Og O ZN)) ⟨c',oc,vs,t,rfl,we _ U,hd,hv⟩ (Nd _ rfl) (.inr ⟨c',oc,vs,t,ab,ak,hd,hv⟩) (λa o n e=>by rw [J a n (Z e)];exact e) (I.un un hok)
 .have S:s.heap.get? P=some (tabObj #[N4 pos.line,N4 pos.col,.ref c']):=I.hok P _ G;have a4:s.heap.get? c'=some oc:=(I.hok c' _ YA).1;refine PySem.W.kla_makeFunctionHit (mg:=X.mg) (cv:=.ref c') aj I.ok.glob av hc (C.keeps I.bk) S ?_ ?_ ⟨bm,ob,b1,b2,b3,ag b4 G,I.bk _ _ b4,b5,b6,b7⟩ λF h' tk hk hsz=>?_
  .exact trivial
  .simp [codeAmong,N4]
  .exact h h'.objs.size c' F _ tk H (by rw [Rn]) hsz ⟨c',oc,vs,t,rfl,we _ (hk _ _ a4),hd,hv⟩ (Nd _ rfl) (.inr ⟨c',oc,vs,t,G,YA,hd,hv⟩) (λ_ _ _ e=>e) (I.kept λb o e=>we _ (hk b o e))
def rF(H:Hp)(a:Addr)(k:Int):Prop:=∃r Zo y ys,H a=some (.tup (.ref r::Zo))/\H r=some (.tup (y::.int k::ys))
def gv(P:Addr)(pos:Pos)(qual:Str)(v:V)(H1:Hp)(Q:VK):Prop:=uR v λl=>∃(as:List Addr)(ks:List Int),H1 l=some (.lst (as.map V.ref))/\cB pos qual H1 P/\as.length<64/\Paired (rF H1) as ks /\
 ∀(D:Addr)(zs:List (Int×Addr))(H2:Hp),iP H1 H2 P->cB pos qual H2 P->H1 D=none->D≠P->D≠sysModules->H2 D=some (.lst (zs.map λz=>V.ref z.2))->zs.Perm (ks.zip as)->zs.Pairwise (λp q=>p.1<=q.1)->Q (.ref D) H2
def pA(P:Addr)(pos:Pos)(qual:Str)(ta:TE):TE:=λσ H Q=>ta σ H λv H1=>gv P pos qual v H1 Q
theorem JV:pA P pos qual ta σ H Q=ta σ H λv H1=>gv P pos qual v H1 Q:=rfl
theorem Kr:gv P pos qual (.ref l) H1 Q = ∃(as:List Addr)(ks:List Int),H1 l=some (.lst (as.map V.ref))/\cB pos qual H1 P/\as.length<64/\Paired (rF H1) as ks /\
 ∀(D:Addr)(zs:List (Int×Addr))(H2:Hp),iP H1 H2 P->cB pos qual H2 P->H1 D=none->D≠P->D≠sysModules->H2 D=some (.lst (zs.map λz=>V.ref z.2))->zs.Perm (ks.zip as)->zs.Pairwise (λp q=>p.1<=q.1)->Q (.ref D) H2:=rJ
theorem yC{as:List Addr}(h:zp (as.map V.ref) its):its=as.map M3:=by
 induction as generalizing its with
 | nil=>cases h;rfl
 | cons a as z =>
  cases h with
  | cons r F=>rw [z F,show _=M3 a from r];rfl
theorem rQ(as:List Addr):zp (as.map V.ref) (as.map M3):=by
 induction as with
 | nil=>exact .nil
 | cons a as z=>exact .cons rfl z
theorem G3(h:ps.Perm (l.map λz=>(z.1,M3 z.2))):∃zs:List (Int×Addr),zs.Perm l/\ps=zs.map λz=>(z.1,M3 z.2):=by
 let g:Int×Value->Int×Addr:=λp=>(p.1,match p.2 with | .ref a=>a|_=>0)
 have G:(l.map λz=>(z.1,M3 z.2)).map g=l:=by
  rw [NL];have:(g∘λz:Int×Addr=>(z.1,M3 z.2))=id:=rfl;rw [this,List.map_id]
 refine ⟨ps.map g,by have:=h.map g;rw [G] at this;exact this,?_⟩;rw [NL];have:∀p∈ps,((λz:Int×Addr=>(z.1,M3 z.2))∘g) p=p:=λp F=>by
  obtain ⟨z,_,rfl⟩:=OU.mp (h.mem_iff.mp F);rfl
 exact (List.map_id ps).symm.trans (OI λp F=>(this p F).symm)
theorem rX:∀(ks:List Int)(as:List Addr),ks.zip (as.map M3)=(ks.zip as).map λz=>(z.1,M3 z.2)
 | [],_=>rfl
 | _::_,[]=>rfl
 | k::ks,a::as=>by rw [NO,PC,PC,NO,rX ks as]
theorem bG{α β:Type}{R:α->β->Prop}:∀{l:List α}{m:List β},Paired R l m->∀{i:Nat}{a:α}{b:β},l[i]?=some a->m[i]?=some b->R a b
 | _,_,.nil,i,a,b,h,_=>by simp at h
 | _,_,.cons r t,0,a,b,h,h'=>by
  simp at h h';subst h h';exact r
 | _,_,.cons r t,i+1,a,b,h,h'=>bG t (by simpa using h) (by simpa using h')
theorem ar{α β:Type}{R:α->β->Prop}{l:List α}{m:List β}(h:Paired R l m):l.length=m.length:=Paired.length h
theorem Kz{k:Nat}{p pos X8 kp p1 p2 p3 p4 p5:Pos}(LB:fR X.mg X.base X.env.code P)(hr:zG cm k X.A)(hg:Gl X "sorted")(hm:X.mg "sorted"=none)(ha:PE X a ta)(WX:defaultsOf ZQ X.env=([],[]))(bx:Rr scope X.env=pure [])(X1:∀(q:Str)(pm cd ct v:Value),bindArgs (kla_fn "<lambda>" q ZQ (.Subscript (.Subscript (.Name x p1) (.Constant (.int 0) j1 p2) p3) (.Constant (.int 1) j2 p4) p5) scope [] pm cd ct) ⟨[v],[]⟩=pure [(x,v)])(WW:scope.names=[(x,.local)])(Yf:scope.kind = .function)(bA:scope.isCoroutine=false)(a6:scope.isGenerator=false)(hp:zW a=true:=by rfl)(Y5:(x==("__debug__":Str))=false:=by decide):
  PE X (.Call (.Name "sorted" p) [a] [⟨some (yv "key"),.Lambda ZQ (.Subscript (.Subscript (.Name x p1) (.Constant (.int 0) j1 p2) p3) (.Constant (.int 1) j2 p4) p5) scope X8,kp⟩] pos) (pA P X8 (X.env.qual++"<lambda>") ta):=by
 intro Go s σ H Q I h;have hs:Nq [a] X.env=[(false,NT a X.env)]:=cw hp;have hA:=dS ha d6 (hs:=hs) pos Go s σ H (λys H1=>∃y,ys=[y]/\gv P X8 (X.env.qual++"<lambda>") y H1 Q) I (by
  show ta σ H λx H1=>∃y,[x]=[y]/\gv P X8 (X.env.qual++"<lambda>") y H1 Q;have e:(λ(x:V)(H1:Hp)=>∃y,[x]=[y]/\gv P X8 (X.env.qual++"<lambda>") y H1 Q)=λv H1=>gv P X8 (X.env.qual++"<lambda>") v H1 Q:=by
   funext x H1;apply propext;constructor
   .rintro ⟨y,e,h⟩;cases e;exact h
   .exact λh=>⟨x,rfl,h⟩
  rw [e];exact h)
 refine Oe (dI I hg hm QV (x8 (by rw [hs];rfl) rfl ?_));rw [hs] at hA ⊢;refine evalArgs_kwB rfl (thn hA λus s1=>x5e λvs H1 I1 r1 q1=>kws_cons ?_);obtain ⟨y,rfl,l,rfl,as,ks,hl,hT,Yk,hK,q⟩:=q1
 .cases r1 with
  | cons r rr =>
   cases rr;cases r;refine EG LB WX bx I1 hT λf c' b1 h2 tk H2 hsz ab Yj hf a5 hL J=>kws_nil ?_;have bq:l≠P:=λz=>by
    rcases hT with G|⟨_,_,_,_,G,_⟩ <;> · rw [z,G] at hl;cases hl
   have X6:=hL _ _ bq hl;obtain ⟨its,rv,⟨o,n,e1,e2,e3,e4⟩,hz⟩:=J.list (SqL.of X6);have ak:=yC rv;subst ak;obtain ⟨m,F⟩:=J.fr;have bp:=ar hK;have XJ:∀b o,h2.get? b=some o->b≠X.env.locals->X.base.get? b=none->(b,o)∈gw X.base h2 X.env.locals:=λb o e n1 n2=>MF n1 n2 e;refine PyProof.Rows.ksk_sorted (b:=false) (kz:=ks) (f:=.ref f) (h₀:=X.base) (L:=X.env.locals) (news:=gw X.base h2 X.env.locals) F Hz (vs:=as.map M3) (l:=l) ⟨o,e1,e2,n,e4⟩ (by rw [MV];exact bp.symm) (by rw [MV];exact Yk) (PyProof.Rows.ksk_s1 _ _) (λx=>PyProof.Rows.ksk_l1 _ _) (λx=>PyProof.Rows.ksk_t1 _ _) (λi v k' hv YI h3 aT own S N3=>?_) λD h3 aT out c S N3 lt ko=>?_
   .have Z:∀b o,b≠X.env.locals->h2.get? b=some o->h3.get? b=some o:=λb o n e=>by
     cases U:X.base.get? b with
     | some u =>
      have:=F.keep b u U;rw [show h2.get? b=some u from this] at e;cases e;exact S.keep b _ U
     | none=>exact (N3 (b,o) (N0 _ (XJ b o e n U))).1
    rw [Nh] at hv;obtain ⟨ai,a9,rfl⟩:=Nu.mp hv;obtain ⟨r,Zo,y,ys,k1,k2⟩:=bG hK a9 YI;have tt:∀{b xs},H1 b=some (.tup xs)->∃its,zp xs its/\Rc h3 b its.toArray:=λ{b xs} e=>by
     have bP:b≠P:=λz=>by
      rcases hT with G|⟨_,_,_,_,G,_⟩ <;> · rw [z,G] at e;cases e
     have e2:=hL _ _ bP e;obtain ⟨_,its,rv,ob,g1,g2⟩:=J.hok b _ e2;have bL:b≠X.env.locals:=λz=>by rw [z,J.free] at e2;cases e2
     exact ⟨its,rv,ob,Z _ _ bL g1,g2⟩
    obtain ⟨b2,XU,t1⟩:=tt k1;obtain ⟨b4,bB,t2⟩:=tt k2;cases XU with
    | cons ra _ =>
    cases ra;cases bB with
    | cons rb rc =>
    cases rc with
    | cons rd _ =>
    obtain ⟨a4,rfl⟩:=rd;have fL:f≠X.env.locals:=λz=>by
     have:=I1.lt;rw [<- z] at this;exact absurd this (PX.mpr ab)
    have b0:=Z _ _ fL hf;have a7:h3.CodeRec (.ref c') (X.env.qual++"<lambda>"):=by
     obtain ⟨c2,oc,vs,t,e,g1,g2,g3⟩:=Yj;refine ⟨c2,oc,vs,t,e,Z _ _ (λz=>?_) g1,g2,g3⟩;obtain ⟨m',⟨ol,es,ep,el,a3,_⟩,_⟩:=id J.loc;rw [z] at g1;rw [show h2.get? X.env.locals=some ol from el] at g1;cases g1;rw [g2] at a3;cases a3
    refine R3 (PySem.W.kla_callFunE (by show X.A.depth<recursionLimit;exact hr.depth) b0 rfl bA a6 rfl a7 ?_);rw [X1];refine MZ (wpAny_newFunctionEnv (λy hy=>?_) (λy hy=>?_) (λh4 bc bZ=>?_) Yf)
    .rw [WW,M0] at hy;rw [hy];nofun
    .rw [M0] at hy;rw [hy];show scope.names.lookup x=_;rw [WW];simp [O8]
    .have k4:∀b o,h3.get? b=some o->h4.get? b=some o:=λb o e=>bZ.extBut b o (NN (Nj e)) (we _ e);refine ⟨(I.ok.mod.nolimit.keeps S.keep).keeps k4,PySem.W.kla_codeExpr ?_⟩;refine IP (m:=λy=>([(x,M3 ai)]:List (Str×Value)).reverse.lookup y) (a:=ai) (r:=r) (k:=k') (t:=a4) Yf ?_ bc (by simp [O8]) (its:=(M3 r::_).toArray) ⟨t1.choose,k4 _ _ t1.choose_spec.1,t1.choose_spec.2⟩ (by simp) (ks:=(_::O1 k' a4::_).toArray) ⟨t2.choose,k4 _ _ t2.choose_spec.1,t2.choose_spec.2⟩ (by simp) Y5 λb3=>?_
     .show scope.names.lookup x=_;rw [WW];simp [O8]
     .exact PyProof.Rows.KskEnd.intro (news':=gw X.base h2 X.env.locals++own) ⟨S.ns.keeps k4,λb o e=>k4 _ _ (S.keep b o e),S.above⟩ (λp hp=>⟨k4 _ _ (N3 p hp).1,(N3 p hp).2⟩) λ_ h=>h
   .obtain ⟨ps,av,bt,ba⟩:=ko;rw [rX] at av;obtain ⟨zs,aj,rfl⟩:=G3 av;have fm:(f,kla_obj "<lambda>" (X.env.qual++"<lambda>") ZQ (.Subscript (.Subscript (.Name x p1) (.Constant (.int 0) j1 p2) p3) (.Constant (.int 1) j2 p4) p5) scope [] ((X.mg "__name__").getD .none) c' b1)∈gw X.base h2 X.env.locals:=XJ _ _ hf (λz=>by
     have:=I1.lt;rw [<- z] at this;exact absurd this (PX.mpr ab)) (by
     cases U:X.base.get? f with
     | none=>rfl
     | some u =>
      have:=Nj (I1.bk _ _ U);exact absurd this (PX.mpr ab))
    have ag:h2.objs.size<=D:=by have:=lt _ fm;rw [<- hsz];exact this
    have D2:H2 D=none:=J.hok.fresh ag;have DP:D≠P:=λz=>by
     rcases a5 with G|⟨_,_,_,_,G,_⟩ <;> · rw [z,G] at D2;cases D2
    have D1:H1 D=none:=by
     cases qd:H1 D with
     | none=>rfl
     | some u=>rw [hL _ _ DP qd] at D2;cases D2
    have eo:out=((zs.map (·.2)).map M3).toArray:=by
     apply Array.toList_inj.mp;rw [bt];simp
    have lz:zs.length<=as.length:=by rw [aj.length_eq,List.length_zip];lia
    have Z:∀b o,b≠X.env.locals->h2.get? b=some o->h3.get? b=some o:=λb o hb e=>by
     cases U:X.base.get? b with
     | some u =>
      have:=F.keep b u U;rw [show h2.get? b=some u from this] at e;cases e;exact S.keep b _ U
     | none=>exact (N3 (b,o) (M7 _ (XJ b o e hb U))).1
    have O:∀{b:Addr}{u:HO},H2 b=some u->b≠D:=λe z=>by rw [z,D2] at e;cases e
    have a0:∀{b:Addr}{u:HO},H2 b=some u->b≠X.env.locals:=λe z=>by rw [z,J.free] at e;cases e
    have hm:(zs.map λz:Int×Addr=>V.ref z.2)=(zs.map (·.2)).map V.ref:=by rw [NL];rfl
    have new:ah X.prog X.w (upd H2 D (.lst (zs.map λz:Int×Addr=>V.ref z.2))) h3 D (.lst (zs.map λz:Int×Addr=>V.ref z.2)):=⟨by rw [MV,NX];lia,(zs.map (·.2)).map M3,c,by rw [hm];exact rQ _,by rw [<- eo];exact (N3 _ (Nm ..)).1⟩;refine ⟨.ref D,upd H2 D (.lst (zs.map λz:Int×Addr=>V.ref z.2)),?_,rfl,q D zs _ (λb u n e=>by rw [zd (λz=>by rw [z,D1] at e;cases e)];exact hL _ _ n e) ?_ D1 DP (Pe (Nn J.big ag)) zx aj ?_⟩
    .refine J.step (h':=h3) (g':=s1.gens) (d':=s1.drawn) (t':=aT) (ch:=[]) (λ_ z=>nomatch z) (λb o n _ _ e _=>Z b o n e) (λb o n _ _ e _=>⟨o.slots,Z b o n e⟩) (λb o _ e n=>?_) (λb o _ e=>?_) (λb xs e=>by rw [zd (O e)];exact e) (λb o u e=>by rw [zd (O e)];exact e) (λb ps e=>⟨#[],by rw [zd (O e),e];simp⟩) (λm' a8=>?_) (λb u e=>?_) J.bare
     .rw [zd (λz=>?_)]
      .exact n
      .have:=Nj e;rw [z] at this;exact absurd this (PX.mpr ag)
     .by_cases hb:b=X.env.locals
      .obtain ⟨o1,_,_,g1,_⟩:=S.ns;exact ⟨o1,by rw [hb];exact g1⟩
      .exact ⟨o,Z b o hb e⟩
     .have e1:=a8.eq_nsMap;have e2:=F.ns.eq_nsMap;have:m'=m:=e1.trans e2.symm;rw [this];exact S.ns
     .by_cases z:b=D
      .rw [z,zx] at e;cases e;rw [z];exact new
      .rw [zd z] at e;refine (J.hok b u e).stay (λc v hc q=>Z c v ?_ q) (λc q=>by rw [zd (O q)];exact q) λc xs q=>by rw [zd (O q)];exact q
       rcases hc with rfl|hc
       .exact a0 e
       .exact a0 hc
    .rcases a5 with G|⟨c1,oc,vs,t,G,hc,hr⟩
     .exact .inl (by rw [zd (Ni DP)];exact G)
     .exact .inr ⟨c1,oc,vs,t,by rw [zd (Ni DP)];exact G,by rw [zd (λz=>by rw [<- z,hc] at D2;cases D2)];exact hc,hr⟩
    .have:=Ou.mp ba;exact this.imp λh=>by simpa using h
def gA(mg:Str->Option Value)(base:Heap):Prop:=∃bm o,mg "__builtins__"=some (.ref bm)/\bm≠Qs/\bm≠M6/\base.get? bm=some o/\o.cls = .type "module"/\o.dict=some Qs/\o.data = .plain
theorem B5{K:KE}{k:Nat}{ts:List Addr}(W:∀T∈ts,s₁.heap.get? T=some (tabObj #[]))(hC:∀T∈ts,K.lookup T=none/\∃c,Sk K c T=true)(a0:gA mg s₁.heap)(KX:K.In s₁.heap)(ak:s₁.heap.Ns M6 mg)(hb:s₁.heap.Ns Qs mb)(a3:∀x:Str,x≠"__name__"->mb x=Pw x)(ag:s₁.heap.NoLimit)(hg:s₁.gens = #[])(ha:s₁.heap.get? a=some { cls:=.type "list",data:=.seq vs.toArray })(hi:Pz vs ns)(hl:ns.length<=sizeLine)(hr:zG true k callerA)(F:∀base:Heap,K.In base->base.Ns M6 mg->gA mg base->zm P w K mg base CX true k fa fd [x] sp)(X1:∀(s:p8)(u:Value),BindsTo s fd ⟨[u],[]⟩ [(x,u)])(Xe:∀H:Hp,(∀T∈ts,H T=some (.tbl #[]))->SqL K H a (ns.map V.int)->sp [.ref a] H (λv _=>v = .bl true) λ_ _ _=>False)(av:∀H e s',CX [] H s₁ (λ_ _ _=>False) e s'->False):
  Qp (Nf P w) callerA (.call (.ref fa) ⟨[.ref a],[]⟩) (λr s'=>r = .ok (.ret (.bool true))/\OldK s₁.heap s'.heap/\s'.os=s₁.os/\PL s'.gens) s₁:=by
 have rv:=pZ hi;have aj:=hi.length;have aT:a∉ts:=λh=>by have:=W a h;rw [ha] at this;cases this
 have X2:∀H:Hp,(∀b,H b=none\/(∃o xs,H b=some (.frz o (.lst xs)))\/(b∈ts/\H b=some (.tbl #[])))->(∀T∈ts,H T=some (.tbl #[]))->SqL K H a (ns.map V.int)->HOk P w H s₁.heap->(∀b,H b≠none->b=a\/b∈ts)->(H a≠none->K.lookup a=none) ->
   Qp (Nf P w) callerA (.call (.ref fa) ⟨[.ref a],[]⟩) (λr s'=>r = .ok (.ret (.bool true))/\OldK s₁.heap s'.heap/\s'.os=s₁.os/\PL s'.gens) s₁:=by
  intro H hO Z hS hok hA hK;have G:∀{b:Addr}{o:Obj},s₁.heap.get? b=some o->H b=none->(eA s₁.heap H).get? b=some o:=λe n=>JT e n;have ab:∀{b:Addr}{o:Obj},s₁.heap.get? b=some o->(∀xs n,o.data≠.seq xs n)->(∀ps,o.data≠.fields ps)->H b=none:=λ{b o} e d1 d2=>by
   cases q:H b with
   | none=>rfl
   | some u =>
    rcases hA b (by rw [q];simp) with e'|e'
    .subst e';rw [ha] at e;cases e;exact absurd rfl (d1 _ _)
    .rw [W b e'] at e;cases e;exact absurd rfl (d2 _)
  have O:∀{b:Addr}{m:Str->Option Value},s₁.heap.Ns b m->(eA s₁.heap H).Ns b m:=λ{b m} ⟨o,es,ep,e,d,r⟩=>⟨o,es,ep,G e (ab e (λ_ _=>by rw [d];nofun) (λ_=>by rw [d];nofun)),d,r⟩;have ai:K.In (eA s₁.heap H):=λb o e=>G (KX b o e) (by
   cases q:H b with
   | none=>rfl
   | some u =>
    rcases hA b (by rw [q];simp) with e'|e'
    .subst e';rw [hK (by rw [q];simp)] at e;cases e
    .rw [(hC b e').1] at e;cases e)
  have hM:Mod K mg (eA s₁.heap H):=⟨ai,O ak,⟨mb,O hb,a3⟩,let ⟨mc,h1,h2⟩:=ag;⟨mc,O h1,h2⟩⟩;have hB:gA mg (eA s₁.heap H):=let ⟨bm,o,b1,b2,b3,b4,b5,b6,b7⟩:=a0;⟨bm,o,b1,b2,b3,G b4 (ab b4 (λ_ _=>by rw [b7];nofun) (λ_=>by rw [b7];nofun)),b5,b6,b7⟩;have e0:gy P w K mg (eA s₁.heap H) callerA [] s₁ H:=⟨rfl,.inl rfl,hM,λb o e=>Jj e,RV (Dh _ _),trivial,λb hb=>absurd (show b∈([]:List Addr) from hb) (by simp),hok,.of_eq hg⟩;refine Qg ((F _ ai (O ak) hB).run callerA [] s₁ H ⟨[.ref a],[]⟩ [.ref a] [.ref a] _ _ hr e0 (X1 s₁ (.ref a)) (.cons rfl .nil) (Xe H Z hS)) λr s' h=>?_;cases r with
  | error e=>exact (av H e s' h).elim
  | ok fl =>
   cases fl with
   | next=>exact False.elim h
   | brk=>exact False.elim h
   | cont=>exact False.elim h
   | ret u =>
    obtain ⟨v,H',os,bare,un,S,r',q⟩:=h;have q':v = .bl true:=q;subst q';obtain rfl:u=Px true:=r';have U:∀b,b∈ts->∃more:Array Value,s'.heap.get? b=some (tabObj (#[]++more)):=λb hb=>by
     obtain ⟨more,z⟩:=un.tbls b #[] (Z b hb);exact ⟨more,S b _ z⟩
    refine ⟨rfl,⟨λb o e=>?_,λb o e=>un.there b o e (by simp)⟩,os,bare⟩;cases q:H b with
    | none=>exact .inl (un.keep b o e q (by intro z;exact absurd (show b∈([]:List Addr) from z) (by simp)) (by simp))
    | some u =>
     rcases hO b with z|⟨ob,xs,z⟩|⟨hb,z⟩
     .rw [q] at z;cases z
     .have z2:=un.frzs b ob _ z;obtain ⟨e1,_⟩:=hok b _ z;obtain ⟨e2,_⟩:=S b _ z2;rw [e] at e1;cases e1;exact .inl e2
     .obtain ⟨more,g⟩:=U b hb;have e2:=W b hb;rw [e] at e2;cases e2;obtain ⟨_,c,hc⟩:=hC b hb;exact .inr (.inl ⟨((codeHd_of_K KX hc).tab (W b hb)).isCodeTable,rfl,#[],more,rfl,g⟩)
 cases hk:K.lookup a with
 | some o =>
  have e:=KX a o hk;rw [ha] at e;cases e;refine X2 (λb=>if b∈ts then some (.tbl #[]) else none) (λb=>?_) (λT h=>if_pos h) (.inr ⟨_,vs.toArray,_,hk,rfl,rfl,rfl,by rw [Nc,aj];exact hl,by simpa using rv⟩) (λb u z=>?_) (λb z=>?_) λz=>absurd (if_neg aT) z
  .by_cases hb:b∈ts
   .exact .inr (.inr ⟨hb,if_pos hb⟩)
   .exact .inl (if_neg hb)
  .by_cases hb:b∈ts
   .have z':=(if_pos hb).symm.trans z;cases z';exact W b hb
   .have z':=(if_neg hb).symm.trans z;cases z'
  .by_cases hb:b∈ts
   .exact .inr hb
   .exact absurd (if_neg hb) z
 | none =>
  refine X2 (λb=>if b=a then some (.frz { cls:=.type "list",data:=.seq vs.toArray } (.lst (ns.map V.int))) else if b∈ts then some (.tbl #[]) else none) (λb=>?_) (λT h=>?_) (.inl (.inr ⟨{ cls:=.type "list",data:=.seq vs.toArray },if_pos rfl⟩)) (λb u z=>?_) (λb z=>?_) λ_=>hk
  .by_cases hb:b=a
   .exact .inr (.inl ⟨_,_,if_pos hb⟩)
   .by_cases J:b∈ts
    .exact .inr (.inr ⟨J,by rw [if_neg hb,if_pos J]⟩)
    .exact .inl (by rw [if_neg hb,if_neg J])
  .rw [if_neg (λz=>aT (by rw [<- z];exact h)),if_pos h]
  .by_cases hb:b=a
   .have z':=(if_pos hb).symm.trans z;cases z';subst hb;exact ⟨ha,by rw [MV];exact hl,vs,_,rv,ha⟩
   .have z1:=(if_neg hb).symm.trans z;by_cases J:b∈ts
    .have z2:=(if_pos J).symm.trans z1;cases z2;exact W b J
    .have z2:=(if_neg J).symm.trans z1;cases z2
  .by_cases hb:b=a
   .exact .inl hb
   .by_cases J:b∈ts
    .exact .inr J
    .exact absurd (show (if b=a then _ else if b∈ts then _ else none)=none by rw [if_neg hb,if_neg J]) z
theorem walk_ofT{l:PySem.W.OpenLaw}{n k:Nat}{K:Params->KE}{CX:Nl->CXT}{sp:Nl->Sp}{ts:List Addr}(hn:l.most=some n)(O:n<=sizeLine)(ag:d.params.defaults=[])(hr:zG true k callerA)(hY:∀(w:Nl)(h:Heap),YP w h->(K w.params).In h/\∀T∈ts,h.get? T=some (tabObj #[]))(F:∀(w:Nl)(mg:Str->Option Value)(fa:Addr)(h:Heap),(K w.params).In h->h.Ns M6 mg->mg d.name=some (.ref fa) ->
   ∃fd:M9,(∀(s:p8)(u:Value),BindsTo s fd ⟨[u],[]⟩ [(x,u)])/\(∀T∈ts,(K w.params).lookup T=none/\∃c,Sk (K w.params) c T=true) /\
    ∀base:Heap,(K w.params).In base->base.Ns M6 mg->gA mg base->zm l.prog w (K w.params) mg base (CX w) true k fa fd [x] (sp w))(Xe:∀(w:Nl)(H:Hp)(a:Addr)(ns:List Int),ns.length<=n->(∀T∈ts,H T=some (.tbl #[]))->SqL (K w.params) H a (ns.map V.int)->sp w [.ref a] H (λv _=>v = .bl true) λ_ _ _=>False)(S:∀(w:Nl)(H:Hp)(s:p8)(e:Value)(s':p8),CX w [] H s (λ_ _ _=>False) e s'->False):
  PySem.W.WalkO q Ye XP YP l.row.toRowW d [] (λf vs=>PySem.call f vs):=by
 refine Att.attach_call hn ag λw s₀ s₁ mg mb fa o pm cd Ym a vs ns G Y ho hd Yj ab J W0 Z6 hg=>?_;obtain ⟨KX,hT⟩:=hY w _ Y;obtain ⟨fd,hb,hC,hF⟩:=F w mg fa _ KX G.T.g ab;have U:gA mg s₁.heap:=by
  obtain ⟨bm,ob,b1,b2,Z,b4,b5,b6⟩:=G.T.bmain;refine ⟨bm,ob,b1,b2,λz=>?_,Z,b4,b5,b6⟩;obtain ⟨og,es,ep,eg,ai,_⟩:=G.T.g;rw [z,eg] at Z;cases Z;rw [ai] at b6;cases b6
 exact B5 hT hC U KX G.T.g G.T.b G.T.builtins G.T.nolimit hg J W0 (Nx Z6 O) hr hF hb (λH hO hS=>Xe w H a ns Z6 hO hS) λH e s'=>S w H s₁ e s'
theorem Fun.aJ{K:KE}{st:Stmt}{k:Nat}(F:Fun K x qual st f fd)(hc:fd.code = .ref c)(S:zw N ps (zj st))(len:∀vs H Q E,sp vs H Q E->vs.length=ps.length)(G:∀(A:Np)(outer:List Env)(s:p8)(H:Hp)(vs:List V)(Q:VK)(E:XK),zG cm k (A.deeper (Pf qual (zj st) s.heap.objs.size f (.ref c)))->sp vs H Q E ->
   ∃t,PSs (cq CX0 cm P w K mg base N qual (zj st) f (.ref c) A outer s H E).U3 (cT st) t/\t { nx:=λ_ H'=>Q .non H',rt:=Q } (start N vs) H):zm P w K mg base CX0 cm (k+1) f fd ps sp:=by
 obtain ⟨oc,W,kV,Ym,pm,Z,J,ct,O,rfl,lk,U⟩:=F.ex;have e:J = .ref c:=hc;subst e;refine mQ lk U S len λA outer s H vs Q E hr z=>?_;obtain ⟨t,h,q⟩:=G A outer s H vs Q E hr z;exact ⟨t,h.U3,q⟩
section
variable {X:Cx}
theorem se{k:Nat}{p pos S kp U p2 Z p4 O:Pos}(LB:fR X.mg X.base X.env.code P)(hr:zG cm k X.A)(hg:Gl X "sorted")(hm:X.mg "sorted"=none)(ha:W (PE X a ta))(WX:defaultsOf G X.env=([],[]))(J:Rr scope X.env=pure [])(X1:∀(q:Str)(pm cd ct v:Value),bindArgs (kla_fn "<lambda>" q G (.Subscript (.Subscript (.Name x U) (.Constant (.int 0) j1 p2) Z) (.Constant (.int 1) j2 p4) O) scope [] pm cd ct) ⟨[v],[]⟩=pure [(x,v)])(WW:scope.names=[(x,.local)])(Yf:scope.kind = .function)(F:scope.isCoroutine=false)(z:scope.isGenerator=false)(hp:zW a=true:=by rfl)(Y5:(x==("__debug__":Str))=false:=by decide):
  W (PE X (.Call (.Name "sorted" p) [a] [⟨some (yv "key"),.Lambda G (.Subscript (.Subscript (.Name x U) (.Constant (.int 0) j1 p2) Z) (.Constant (.int 1) j2 p4) O) scope S,kp⟩] pos) (pA P S (X.env.qual++"<lambda>") ta)):=⟨Kz LB hr hg hm ha.h WX J X1 WW Yf F z hp Y5⟩
def oS(K:KE)(D:Addr)(tb:(Addr->St->Hp->Prop)->TS)(ts:TS):TS:=λZ σ H =>
 tb (λC z H'=>bR K C/\RL K C (.ref D)=some true/\∀ea oe,H' ea=none->iQ C oe->ts Z z (upd H' ea (.frz oe (.own 0)))) Z σ H
theorem Fh{W:Pos}(hc:X.calm=true)(ag:X.ex=[])(XI:X.stack=X.env::X.outer/\X.env.frame=some X.env.locals)(OD:bR X.K D)(hg:Gl X x)(hm:X.mg x=some (.ref D))(hb:∀Go Ex,PSs (rG X Go Ex) Zx (tb Ex))(hs:∀Go ea,PSs (h7 X Go ea) (G::XZ) ts)(Y5:(x==("__debug__":Str))=false:=by decide):
  PS X (.Try Zx [.ExceptHandler (some (.Name x np)) none (G::XZ) W] [] [] pos) (oS X.K D tb ts):=by
 intro Go s σ H Z I h;have hh:X.A.handled=none:=I.ok.hd hc;refine wpAny_Try_except (N7 (hb Go _ [] s σ H Z (I.p.SH _) h) (λf s1 q=>?_) λe s1 q=>?_)
 .cases f with
  | next =>
   obtain ⟨F,H',J,q⟩:=q;exact Qm ⟨F,H',Inv.au I.ok J.xy,q⟩
  | brk=>obtain ⟨F,H',J,q⟩:=q;exact ⟨F,H',Inv.au I.ok J.xy,q⟩
  | cont=>obtain ⟨F,H',J,q⟩:=q;exact ⟨F,H',Inv.au I.ok J.xy,q⟩
  | ret u=>obtain ⟨v,F,H',J,r,q⟩:=q;exact ⟨v,F,H',Inv.au I.ok J.xy,r,q⟩
 .obtain ⟨ea,C,B,H',fl,F,sI,rfl,J,y,os,bare,hB,up,OC,sub,ai⟩:=q;have fr:X.A.frames=some (X.env::X.outer):=by rw [I.ok.frames,XI.1]
  rw [XI.1] at y;refine tX fr XI.2 y λh2 y2 u2=>qV (s:={ s1 with heap:=h2 }) y2 λh3 y3 u3=>?_;have a0:br B X.stack ea (.ref C) .none h3:=by rw [XI.1];exact y3
  have ab:=(up.trans u2).trans u3;obtain ⟨_,a4,c3,g3,J3⟩:=sH (s':={ s1 with heap:=h3 }) ag J a0 os bare hB ab;obtain ⟨ak,cC,eC⟩:=OC.obj J3.SD;obtain ⟨a3,cD,eD⟩:=OD.obj J3.SD;have Xn:ak.mro.contains (.ref D)=true:=by
   unfold RL at sub;rw [cC] at sub;simp only [Rg] at sub;split at sub
   .cases sub
   .exact NG.inj sub
  refine wpAny_handleBy_cons (codeAny_handlers_test (gs (X:=h7 X Go ea) J3 hg hm ?_ Y5)) (by intro q;cases q);refine DG (h:=h3) (g:=s1.gens) (d:=s1.drawn) (t:=s1.toks) (os:=s1.os) eC eD g3 c3.1 Xn ?_;refine codeAny_handlers_suite ?_;refine qV (s:={ s1 with heap:=h3 }) y3 λh4 y4 u4=>?_;have av:br B X.stack ea (.ref C) .none h4:=by rw [XI.1];exact y4
  obtain ⟨aj,aT,c4,g4,J4⟩:=sH (s':={ s1 with heap:=h4 }) ag J av os bare hB (ab.trans u4);refine N7 (hs Go ea [] _ _ _ _ J4 (ai ea aT aj c4)) (λf s6 q6=>?_) λ_ _ z=>z.elim;cases f with
  | next=>obtain ⟨O,H7,S,U⟩:=q6;exact ⟨_,_,Inv.SS I.ok hh S,U⟩
  | brk=>obtain ⟨O,H7,S,U⟩:=q6;exact ⟨_,_,Inv.SS I.ok hh S,U⟩
  | cont=>obtain ⟨O,H7,S,U⟩:=q6;exact ⟨_,_,Inv.SS I.ok hh S,U⟩
  | ret u=>obtain ⟨v,O,H7,S,r7,U⟩:=q6;exact ⟨v,_,_,Inv.SS I.ok hh S,r7,U⟩
theorem sX(hc:X.calm=true)(G:X.ex=[])(Z:X.stack=X.env::X.outer/\X.env.frame=some X.env.locals)(U:bR X.K D)(hg:Gl X x)(hm:X.mg x=some (.ref D))(hb:∀Go Ex,W (PSs (rG X Go Ex) O (tb Ex)))(hs:∀Go ea,W (PSs (h7 X Go ea) (z::J) ts))(Y5:(x==("__debug__":Str))=false:=by decide):
  W (PS X (.Try O [.ExceptHandler (some (.Name x S)) none (z::J) F] [] [] pos) (oS X.K D tb ts)):=⟨Fh hc G Z U hg hm (λGo Ex=>(hb Go Ex).h) (λGo ea=>(hs Go ea).h) Y5⟩
theorem A5{K:KE}:oS K D tb ts Z σ H=tb (λC z H'=>bR K C/\RL K C (.ref D)=some true/\∀ea oe,H' ea=none->iQ C oe->ts Z z (upd H' ea (.frz oe (.own 0)))) Z σ H:=rfl
def oJ(neg:Bool):R2:=λx y H Q=>∃a b xs ys,x = .ref a/\y = .ref b/\H a=some (.lst xs)/\H b=some (.lst ys)/\(xs.length=0\/ys.length=0)/\Q (.bl (if neg then !decide (xs.length=ys.length) else decide (xs.length=ys.length))) H
theorem FB(F:X.A.units<cLine):OpR X (NK .Eq) (oJ false):=by
 intro Go s σ H x y v u Q I J O h;obtain ⟨a,b,xs,ys,rfl,rfl,ha,hb,Z,q⟩:=h;cases J;cases O;by_cases S:xs.length=ys.length
 .have h1:xs=[]:=Pi.mp (by lia);have h2:ys=[]:=Pi.mp (by lia);subst h1 h2;exact yh F Go s σ H (.ref a) (.ref b) (.ref a) (.ref b) Q I rfl rfl ⟨a,b,[],[],rfl,rfl,SqL.of ha,SqL.of hb,rfl,rfl,q⟩
 .obtain ⟨is,G,U,_⟩:=I.list (SqL.of (K:=X.K) ha);obtain ⟨js,W,p2,_⟩:=I.list (SqL.of (K:=X.K) hb);have l1:=G.length;have l2:=W.length;refine SeqAt.eq_list_lengthsAt U.isList p2.isList (by simp;lia) F ⟨.bl false,H,I,rfl,?_⟩;have z:Q (.bl (decide (xs.length=ys.length))) H:=q;rw [decide_eq_false S] at z;exact z
theorem Ls(F:X.A.units<cLine):OpR X (NK .NotEq) (oJ true):=by
 intro Go s σ H x y v u Q I J O h;obtain ⟨a,b,xs,ys,rfl,rfl,ha,hb,Z,q⟩:=h;cases J;cases O;by_cases S:xs.length=ys.length
 .have h1:xs=[]:=Pi.mp (by lia);have h2:ys=[]:=Pi.mp (by lia);subst h1 h2;exact vC F Go s σ H (.ref a) (.ref b) (.ref a) (.ref b) Q I rfl rfl ⟨a,b,[],[],rfl,rfl,SqL.of ha,SqL.of hb,rfl,rfl,q⟩
 .obtain ⟨is,G,U,_⟩:=I.list (SqL.of (K:=X.K) ha);obtain ⟨js,W,p2,_⟩:=I.list (SqL.of (K:=X.K) hb);have l1:=G.length;have l2:=W.length;refine SeqAt.RcNeAt.lists_lengths U.isList p2.isList (by simp;lia) F _ _ _ _ ⟨.bl true,H,I,rfl,?_⟩;have z:Q (.bl (!decide (xs.length=ys.length))) H:=q;rw [decide_eq_false S] at z;exact z
theorem sf:oJ neg (.ref a) (.ref b) H Q = ∃xs ys,H a=some (.lst xs)/\H b=some (.lst ys)/\(xs.length=0\/ys.length=0)/\Q (.bl (if neg then !decide (xs.length=ys.length) else decide (xs.length=ys.length))) H:=by
 apply propext;constructor
 .rintro ⟨a',G,xs,ys,z,F,h⟩;cases z;cases F;exact ⟨xs,ys,h⟩
 .rintro ⟨xs,ys,h⟩;exact ⟨a,b,xs,ys,rfl,rfl,h⟩
def lU:List V->Hp->VK->Prop:=λxs H Q=>∃i,xs=[.int i]/\Q (.int (if i<0 then -i else i)) H
theorem B9:lU [.int i] H Q=Q (.int (if i<0 then -i else i)) H:=by simp [lU]
theorem IL:zN X (.builtin "abs") lU:=by
 intro Go s σ H xs us Q I r h;obtain ⟨i,rfl,q⟩:=h;obtain ⟨u,rfl,t,rfl⟩:=bV r;exact call_abs_int λu tk=>⟨.int _,H,I.tok tk,⟨_,rfl⟩,q⟩
end
section
variable {K:KE}{g:TG}{tt:TT}{te:TE}{H:Hp}{Q:VK}
theorem zX.enum(G:Nat->St->List V->Hp->Prop)(J:∀i τ ys H,G i τ ys H->ys.length<sizeLine)(ha:∀i τ ys H,G i τ ys H->SqL K H a xs)(Z:G 0 τ [] H)(hs:∀(N:St->List V->Hp->Prop) i x p τ ys H,xs[i]?=some x->G i τ ys H->H p=none->(∀τ ys H,G (i+1) τ ys H->N τ ys H)->g (.ref p) τ (upd H p (.tup [.int i,x])) λF H4=>tt F H4 λok H5=>dH N ys F te ok H5)(hd:∀τ ys H,G xs.length τ ys H->∀D H',New H D (.lst ys) H'->D≠sysModules->Q (.ref D) H'):zX (Ite K a) g tt te τ H Q:=by
 refine ⟨λi m τ ys H=>m=xs.length-i/\i<=xs.length/\G i τ ys H,⟨xs.length,by simp,NV _,Z⟩,?_⟩;rintro i m τ ys H2 ⟨rfl,hi,p⟩;refine ⟨J i τ ys H2 p,?_⟩;have q:=ha i τ ys H2 p;by_cases S:i<xs.length
 .refine .inr ⟨⟨xs,xs[i],q,by simp [S]⟩,λx H' y=>?_⟩;obtain ⟨T,z,W,rfl,rfl,J⟩:=y;exact hs (λF ys H=>∃O,O<xs.length-i/\O=xs.length-(i+1)/\i+1<=xs.length/\G (i+1) F ys H) i z T τ ys _ (J xs q) p W λF zs H q=>⟨xs.length-(i+1),by lia,rfl,S,q⟩
 .have e:i=xs.length:=by lia
  subst e;exact .inl ⟨⟨xs,q,zv _⟩,λD U hs=>hd τ ys H2 p D _ (.mk' U) hs⟩
theorem zX.aC{lo:Int}(F:Nat->St->List V->Hp->Prop)(S:∀i τ ys H,F i τ ys H->ys.length<sizeLine)(U:F 0 τ [] H)(hs:∀(N:St->List V->Hp->Prop) i τ ys H,i<n->F i τ ys H->(∀τ ys H,F (i+1) τ ys H->N τ ys H)->g (.int (lo+i)) τ H λz H4=>tt z H4 λok H5=>dH N ys z te ok H5)(hd:∀τ ys H,F n τ ys H->∀D H',New H D (.lst ys) H'->D≠sysModules->Q (.ref D) H'):zX (Itr lo n) g tt te τ H Q:=by
 refine ⟨λi m τ ys H=>m=n-i/\i<=n/\F i τ ys H,⟨n,by simp,NV _,U⟩,?_⟩;rintro i m τ ys H2 ⟨rfl,hi,p⟩;refine ⟨S i τ ys H2 p,?_⟩;by_cases G:i<n
 .refine .inr ⟨G,λx H' y=>?_⟩;obtain ⟨rfl,rfl⟩:=y;exact hs (λz ys H=>∃J,J<n-i/\J=n-(i+1)/\i+1<=n/\F (i+1) z ys H) i τ ys _ G p λz zs H q=>⟨n-(i+1),by lia,rfl,G,q⟩
 .have e:i=n:=by lia
  subst e;exact .inl ⟨zv _,λD O hs=>hd τ ys H2 p D _ (.mk' O) hs⟩
end
theorem HJ{p:Addr}:jO c (.int i) (.ref p) H Q = ∃kvs,Rd H p (.dK kvs)/\Q (.bl (if c then !(zZ kvs (.inl i)).isSome else (zZ kvs (.inl i)).isSome)) H:=by
 apply propext;constructor
 .rintro ⟨a,k,kvs,F,z,h,q⟩;cases F;cases k with
  | inl i=>cases z;exact ⟨kvs,h,q⟩
  | inr x=>cases z
 .rintro ⟨kvs,h,q⟩;exact ⟨p,.inl i,kvs,rfl,rfl,h,q⟩
def bj(f:Nat->Int):Nat->Option Int
 | 0=>none
 | j+1=>some (match bj f j with|none=>f j|some m=>if f j>m then f j else m)
def kh:Option Int->Array Value->Prop|none,its=>its = #[]|some m,its=>∃t,its = #[.int m t,.int m t]
def pH(d:Value):Option Int->Value->Prop|none,v=>v=d|some m,v=>∃t,v = .int m t
section
variable {prog:M8}{w:Nl}{A:Np}{E:Value->p8->Prop}{s:p8}
theorem Ju{St:Nat->Heap->Prop}(W:Walks prog w A.in1 I fp wr n P St)(f:Nat->Int)(hv:∀i v,P i v->∃t,v = .int (f i) t)(S:Addr)(ag:S∉fp)(aT:0<n\/kw=[(yv "default",d)]):
  ∀(k j:Nat)(s:p8)(c:Nat)(its:Array Value),n-j=k->j<=n->St j s.heap->kh (bj f j) its ->
  s.heap.get? S=some { cls:=.type "list",dict:=none,data:=.seq its c,slots:=#[] } ->
  (∀v h' tk,pH d (bj f n) v->(∀b o,b∉wr->b≠S->s.heap.get? b=some o->h'.get? b=some o)->R (.ok (.ret v)) { s with heap:=h',toks:=tk }) ->
  Qp (Nf prog w) A (.builtin "max.loop" ⟨[.ref I,.none,.ref S],kw⟩) R s:=by
 have ai:S∉wr:=λh=>ag (W.sub _ h);have XY:(toString "max"++toString ".loop":String)="max.loop":=by decide
 intro k
 induction k with
 | zero =>
  intro j s c its hk hj hst hC hS hR;have Yd:j=n:=by lia
  refine Q7 F.entry_max_loop ?_;rw [Np.under_plainId F.plain_max_loop _];show Nb _ A.in1 (RP (.ref S)>>=_) _ _ s;refine fv (Oq hS rfl ?_);show Nb _ A.in1 (tryCatch (PP (.ref I)) _>>=_) _ _ s;refine fv (wpAny_tryCatch (W.done s _ _ (Yd ▸ hst) λh' tk YI=>?_));have J:=YI S _ ai hS;rw [Yd] at hC;cases hb:bj f n with
  | none =>
   rw [hb] at hC hR;cases (show its = #[] from hC);have h0 : ¬ 0<n:=λz=>by
    cases n with
    | zero=>lia
    | succ m=>cases hb
   rcases aT with z|rfl
   .exact absurd z h0
   show Nb _ A.in1 (rule _>>=_) _ _ _;exact fv (Pb (MZ (hR d _ tk rfl λb o O _ e=>YI b o O e)))
  | some m =>
   rw [hb] at hC hR;obtain ⟨t,rfl⟩:=hC;show Nb _ A.in1 (updateSeq S (λ_=>#[])>>=_) _ _ _;refine fv (wpAny_updateSeq J rfl (fv (QT (MZ ?_))));exact hR _ _ tk ⟨t,rfl⟩ λb o O G e=>(NC _ _ (Ni G)).trans (YI b o O e)
 | succ k ih =>
  intro j s c its hk hj hst hC hS hR;have ZN:j<n:=by lia
  refine Q7 F.entry_max_loop ?_;rw [Np.under_plainId F.plain_max_loop _];show Nb _ A.in1 (RP (.ref S)>>=_) _ _ s;refine fv (Oq hS rfl ?_);show Nb _ A.in1 (tryCatch (PP (.ref I)) _>>=_) _ _ s;refine fv (wpAny_tryCatch (W.item j s _ _ ZN hst λv h' tk hP ab YI=>?_));have J:=YI S _ ai hS;obtain ⟨t,rfl⟩:=hv j v hP;have U:∀{b o}{g:Array Value->Array Value},b≠S->h'.get? b=some o->(h'.update S (PD g)).get? b=some o:=λn e=>(NC _ _ (Ni n)).trans e;have ak:∀{g:Array Value->Array Value},St (j+1) (h'.update S (PD g)):=λ{g}=>W.frame _ _ _ ab λb hb o e=>U (λz=>ag (z ▸ hb)) e;cases hb:bj f j with
  | none =>
   rw [hb] at hC;cases (show its = #[] from hC);show Nb _ A.in1 (updateSeq S (λ_=>#[.int (f j) t,.int (f j) t])>>=_) _ _ _;refine fv (wpAny_updateSeq J rfl ?_);rw [XY];refine MZ ⟨RI F.plain_max_loop _,ih (j+1) _ _ _ (by lia) ZN ak ?_ (Om _ J rfl) λv' h2 Z WV Yb=>?_⟩
   .show kh (some _) _;rw [hb];exact ⟨t,rfl⟩
   .exact hR v' h2 Z WV λb o O G e=>Yb b o O G (U G (YI b o O e))
  | some m =>
   rw [hb] at hC;obtain ⟨u,rfl⟩:=hC;show Nb _ A.in1 (tryCatch (Pr [.int (f j) t,.int (f j) t] (richCompare .Gt (.int (f j) t) (.int m u)>>=_)) _>>=_) _ _ _;obtain ⟨bt,aj,av⟩:∃bt:Nat->Nat->Bool,bt 0 1=decide (f j>m)/\CmpOf prog w A.in1 .Gt (λi v=>(i=0/\v = .int (f j) t)\/(i=1/\v = .int m u)) bt:=⟨_,rfl,CmpOf.ints_gt (λi=>if i=0 then f j else m) λi v h=>by rcases h with ⟨rfl,rfl⟩|⟨rfl,rfl⟩<;>exact ⟨_,rfl⟩⟩;refine fv (wpAny_tryCatch (NH (fv (av 0 1 _ _ _ _ _ (.inl ⟨rfl,rfl⟩) (.inr ⟨rfl,rfl⟩) ?_))));refine fv (NH (OK ?_));refine fv (QT (MZ ?_));by_cases hg:f j>m
   .rw [aj,decide_eq_true hg];simp only [if_true];refine fv (wpAny_updateSeq J rfl (fv (QT ?_)));rw [XY];refine MZ ⟨RI F.plain_max_loop _,ih (j+1) _ _ _ (by lia) ZN ak ?_ (Om _ J rfl) λv' h2 Z WV Yb=>?_⟩
    .show kh (some _) _;rw [hb];simp only [if_pos hg];exact ⟨t,rfl⟩
    .exact hR v' h2 Z WV λb o O G e=>Yb b o O G (U G (YI b o O e))
   .rw [aj,decide_eq_false hg];simp only [Pd,if_false];refine fv (QT ?_);rw [XY];refine MZ ⟨RI F.plain_max_loop _,ih (j+1) _ _ _ (by lia) ZN ab ?_ J λv' h2 Z WV Yb=>?_⟩
    .show kh (some _) _;rw [hb];simp only [if_neg hg];exact ⟨u,rfl⟩
    .exact hR v' h2 Z WV λb o O G e=>Yb b o O G (YI b o O e)
theorem Jf(a d:Value):argsOk "max" ⟨[a],[(yv "default",d)]⟩:=by unfold argsOk;kernel_rfl
theorem sL(hh:A.handled=none)(hl:s.heap.IsList l its)(hv:∀(i:Nat) v,its[i]?=some v->∃t,v = .int (f i) t)(G:(0<its.size/\kw=[])\/kw=[(yv "default",d)])(h:∀v h' tk,pH d (bj f its.size) v->(∀b o,s.heap.get? b=some o->h'.get? b=some o)->Q v { s with heap:=h',toks:=tk }):
  Nb (Nf prog w) A (call (.builtin "max") [.ref l] kw) Q E s:=by
 have XY:(toString "max"++toString ".loop":String)="max.loop":=by decide
 have Z:l<s.heap.objs.size:=by obtain ⟨_,e,_⟩:=hl;exact Nj e
 have U:argsOk "max" ⟨[.ref l],kw⟩:=by
  rcases G with ⟨_,rfl⟩|rfl
  .exact F.args_max1 _
  .exact Jf _ _
 refine PyProof.Rows.kmk_tree F.kind_max F.plain_max F.entry_max U ?_;obtain ⟨J,O,hdk⟩:∃J:Option Value,Ng.Builtins.bindParams "max" ["key","default"] 0 ⟨[],kw⟩=pure [none,J]/\(J.toList.map λd=>((yv "default":Str),d))=kw:=by
  rcases G with ⟨_,rfl⟩|rfl
  .exact ⟨none,rfl,rfl⟩
  .exact ⟨some d,rfl,rfl⟩
 show Nb _ A.in1 (Ng.Builtins.bindParams "max" ["key","default"] 0 ⟨[],kw⟩>>=_) _ _ s;refine fv (wpAny_of_eq O ?_);refine fv (MZ ?_);refine fv (O4 hl ?_);refine fv (N5 ?_);rw [XY];have W:(s.heap.push { cls:=.type "list_iterator",data:=.fields #[.ref l,.int 0 0] }).objs.size=s.heap.objs.size+1:=Rn ..;have S:l≠s.heap.objs.size:=NN Z;refine MZ ⟨RI F.plain_max_loop _,?_⟩;show Qp _ A (.builtin "max.loop" ⟨[_,.none,_],J.toList.map λd=>((yv "default":Str),d)⟩) _ _;rw [hdk];refine Ju (Walks.list (A:=A.in1) hh _ l S its) f hv _ (λhm=>?_) (G.imp (·.1) id) _ 0 _ _ #[] rfl (NV _) ⟨⟨_,we _ (Nd _ rfl),rfl,rfl⟩,(hl.push _).push _⟩ rfl (Nd _ rfl) λv h' tk hr hk=>?_
 .rcases MX.mp hm with e|hm
  .rw [W] at e;exact absurd e (Pe (QO _))
  .rcases MX.mp hm with e|hm
   .rw [W] at e;exact absurd (e ▸ Qj Z) (ND _)
   .cases hm
 .refine h v h' tk hr λb o e=>hk b o (λhm=>?_) (λz=>?_) (we _ (we _ e))
  .rcases MX.mp hm with e1|hm
   .exact absurd (e1 ▸ Nj e) (ND _)
   .cases hm
  .have:=Nj e;rw [z,W] at this;exact absurd this (PX.mpr (RE _))
end
section
variable {X:Cx}
def oi:Option Int->V|none=>.non|some m=>.int m
def mM:List V->Hp->VK->Prop:=λxs H Q=>mR xs H Q\/∃(l:Addr)(ks:List Int),xs=[.ref l]/\H l=some (.lst (ks.map V.int))/\0<ks.length/\Q (oi (bj (λi=>ks.getD i 0) ks.length)) H
theorem tJ{ks:List Int}(r:zp (ks.map V.int) its):∀(i:Nat) v,its.toArray[i]?=some v->∃t,v = .int (ks.getD i 0) t:=by
 intro i v h;rw [<- Q6] at h
 replace h:its[i]?=some v:=h
 induction ks generalizing its i with
 | nil=>cases r;simp at h
 | cons k ks z =>
  cases r with
  | cons r F =>
   cases i with
   | zero=>obtain ⟨t,rfl⟩:=r;simp at h;subst h;exact ⟨t,rfl⟩
   | succ i=>exact z F i (by simpa using h)
theorem wX{o:Option Int}(h:pH .none o v):zo (oi o) v:=by
 cases o with
 | none=>cases (show v = .none from h);rfl
 | some m=>obtain ⟨t,rfl⟩:=h;exact ⟨_,rfl⟩
theorem lZ(hc:X.calm=true):zN X (.builtin "max") mM:=by
 intro Go s σ H xs us Q I r h;rcases h with h|⟨l,ks,rfl,hl,hn,q⟩
 .exact D4 hc Go s σ H xs us Q I r h
 .obtain ⟨u,rfl,J⟩:=bV r;cases J;obtain ⟨its,F,p,O⟩:=I.list (SqL.of (K:=X.K) hl);have z:=F.length;rw [MV] at z;refine sL (d:=.none) (f:=λi=>ks.getD i 0) (I.ok.hd hc) p.isList (tJ F) (.inl ⟨by rw [Nc];lia,rfl⟩) λv h' tk hr G=>⟨_,H,I.kept G,wX hr,?_⟩;rw [Nc,<- z];exact q
def lX(ta:TE):TE:=λσ H Q=>ta σ H λv H1=>uR v λl=>∃ks:List Int,H1 l=some (.lst (ks.map V.int))/\Q (oi (bj (λi=>ks.getD i 0) ks.length)) H1
theorem B2:lX ta σ H Q=ta σ H λv H1=>uR v λl=>∃ks:List Int,H1 l=some (.lst (ks.map V.int))/\Q (oi (bj (λi=>ks.getD i 0) ks.length)) H1:=rfl
theorem Mo{p pos kp S:Pos}(hc:X.calm=true)(hg:Gl X "max")(hm:X.mg "max"=none)(ha:PE X a ta)(U:zW a=true:=by rfl):
  PE X (.Call (.Name "max" p) [a] [⟨some (yv "default"),.Constant .none j S,kp⟩] pos) (lX ta):=by
 intro Go s σ H Q I h;have hs:Nq [a] X.env=[(false,NT a X.env)]:=cw U;have F:=dS ha d6 (hs:=hs) pos Go s σ H (λys H1=>∃y,ys=[y]/\uR y λl=>∃ks:List Int,H1 l=some (.lst (ks.map V.int))/\Q (oi (bj (λi=>ks.getD i 0) ks.length)) H1) I (by
  show ta σ H λx H1=>∃y,[x]=[y]/\_;have e:(λ(x:V)(H1:Hp)=>∃y,[x]=[y]/\uR y λl=>∃ks:List Int,H1 l=some (.lst (ks.map V.int))/\Q (oi (bj (λi=>ks.getD i 0) ks.length)) H1)=λv H1=>uR v λl=>∃ks:List Int,H1 l=some (.lst (ks.map V.int))/\Q (oi (bj (λi=>ks.getD i 0) ks.length)) H1:=by
   funext x H1;apply propext;constructor
   .rintro ⟨y,e,h⟩;cases e;exact h
   .exact λh=>⟨x,rfl,h⟩
  rw [e];exact h)
 refine Oe (dI I hg hm boot_max (x8 (by rw [hs];rfl) rfl ?_));rw [hs] at F ⊢;refine evalArgs_kwB rfl (thn F λus s1=>x5e λvs H1 z O Z=>kws_cons ?_);obtain ⟨y,rfl,l,rfl,ks,hl,q⟩:=Z;cases O with
 | cons r rr =>
  cases rr;cases r;refine wpAny_Constant_none (kws_nil ?_);obtain ⟨its,J,pl,hz⟩:=z.list (SqL.of (K:=X.K) hl);have G:=J.length;rw [MV] at G;refine sL (d:=.none) (f:=λi=>ks.getD i 0) (z.ok.hd hc) pl.isList (tJ J) (.inr rfl) λv h' tk hr W=>⟨_,H1,z.kept W,wX hr,?_⟩;rw [Nc,<- G];exact q
theorem EC{p pos kp z:Pos}(hc:X.calm=true)(hg:Gl X "max")(hm:X.mg "max"=none)(ha:W (PE X a ta))(F:zW a=true:=by rfl):
  W (PE X (.Call (.Name "max" p) [a] [⟨some (yv "default"),.Constant .none j z,kp⟩] pos) (lX ta)):=⟨Mo hc hg hm ha.h F⟩
theorem Di:mM [.int i,.int j] H Q=Q (.int (if j>i then j else i)) H:=by
 apply propext;constructor
 .rintro (h|⟨l,ks,e,_⟩)
  .rw [qR] at h;exact h
  .cases e
 .exact λq=>.inl (by rw [qR];exact q)
theorem yr:mM [.ref l] H Q = ∃ks:List Int,H l=some (.lst (ks.map V.int))/\0<ks.length/\Q (oi (bj (λi=>ks.getD i 0) ks.length)) H:=by
 apply propext;constructor
 .rintro (⟨i,j,e,_⟩|⟨l',ks,e,h⟩)
  .cases e
  .cases e;exact ⟨ks,h⟩
 .rintro ⟨ks,h⟩;exact .inr ⟨l,ks,rfl,h⟩
def rn(to te:TE):TE:=λσ H Q=>to σ H λx H1=>uR x λl=>(∃xs,H1 l=some (.lst xs))/\te σ H1 λy H2=>∃(xs:List V)(k:Nat)(v:V),y = .int k/\H2 l=some (.lst xs)/\xs[k]?=some v/\Q v (upd H2 l (.lst (xs.eraseIdx k)))
theorem FU:rn to te σ H Q=to σ H λx H1=>uR x λl=>(∃xs,H1 l=some (.lst xs))/\te σ H1 λy H2=>∃(xs:List V)(k:Nat)(v:V),y = .int k/\H2 l=some (.lst xs)/\xs[k]?=some v/\Q v (upd H2 l (.lst (xs.eraseIdx k))):=rfl
theorem AU{o e:Nr}(ho:PE X o to)(he:PE X e te)(ZH:Oi o "pop" X.env (NT o X.env)=NT o X.env:=by rfl)(ZG:(Z3.endLine==cpos.line)=true:=by rfl)(hp:zW e=true:=by rfl):PE X (.Call (.Attribute o "pop" Z3) [e] [] cpos) (rn to te):=by
 intro Go s σ H Q I h;have hs:Nq [e] X.env=[(false,NT e X.env)]:=cw hp;refine Ox ZH (by rw [hs];rfl) ZG rfl (thn (ho Go s σ H _ I h) λv s1=>x5e λx H1 W S Yw=>?_);obtain ⟨l,ex,⟨xs,hx⟩,q1⟩:=Yw;subst ex;obtain ⟨h1,h2⟩:=gW (T:="list") W S (.inl ⟨rfl,xs,SqL.of hx⟩);refine ⟨"list","list.pop",Q5,PySem.F.slot_list_pop,PySem.F.type_list_pop,h1,h2,?_⟩;rw [hs];refine Calls.callWith_builtin rfl (Calls.evalArgs_plain ?_);have U:=dS he d6 (hs:=hs) cpos Go s1 σ H1 (λys H2=>cf (λy=>∃(xs:List V)(k:Nat)(v:V),y = .int k/\H2 l=some (.lst xs)/\xs[k]?=some v/\Q v (upd H2 l (.lst (xs.eraseIdx k)))) ys) W q1;rw [hs] at U;refine thn U λus s2=>x5e λvs H2 Z r2 O=>?_;obtain ⟨_,rfl,z,k,y,rfl,G,hk,O⟩:=cf.ex O;obtain ⟨hz,_⟩:=Z.Um G;have ZN:k<z.length:=(MY.mp hk).1;have J:k<sizeLine:=Nn ZN hz;rw [NX] at J;exact Io Go s2 σ H2 (.ref l) [.int k] v us Q Z S r2 ⟨l,z,k,k,y,rfl,rfl,G,by lia,by lia,by simp [RQ];lia,hk,O⟩
theorem ID{o e:Nr}(ho:W (PE X o to))(he:W (PE X e te))(G:Oi o "pop" X.env (NT o X.env)=NT o X.env:=by rfl)(F:(Z3.endLine==cpos.line)=true:=by rfl)(z:zW e=true:=by rfl):W (PE X (.Call (.Attribute o "pop" Z3) [e] [] cpos) (rn to te)):=⟨AU ho.h he.h G F z⟩
end
end L2
namespace L2
open PySem PySem.Spec PyProof.Rows PySem.W
section
variable {α β:Type}{lt:Nat->Nat->Bool}{N:Nat}
def wpK(lt:Nat->Nat->Bool)(N:Nat){α:Type}:KasT α->(α->Prop)->Prop
 | .ret a,Q=>Q a
 | .ask i j k,Q=>i<N/\j<N/\wpK lt N (k (lt i j)) Q
theorem gO:∀{t:KasT α},wpK lt N t (λa=>wpK lt N (f a) Q)->wpK lt N (t.bind f) Q
 | .ret _,h=>h
 | .ask _ _ _,h=>⟨h.1,h.2.1,gO h.2.2⟩
theorem cE(F:∀a,Q a->z a):∀{t:KasT α},wpK lt N t Q->wpK lt N t z
 | .ret _,h=>F _ h
 | .ask _ _ _,h=>⟨h.1,h.2.1,cE F h.2.2⟩
theorem tY(hc:∀i j C,i<N->j<N->C (lt i j) s->cmp i j C s):∀{t:KasT α},wpK lt N t (λa=>Q a s)->t.kasWp cmp Q s
 | .ret _,h=>h
 | .ask i j k,h=>hc i j _ h.1 h.2.1 (tY hc h.2.2)
structure bX(lt:Nat->Nat->Bool):Prop where
 ar:∀i j,lt i j=true->lt j i=false
 UZ:∀i j k,lt j i=false->lt k j=false->lt k i=false
def at0(p:Array Nat)(i:Nat):Nat:=p.getD i 0
structure PM(N:Nat)(p:Array Nat):Prop where
 perm:p.Perm (R4 (Ra N))
theorem PM.size{p:Array Nat}(h:PM N p):p.size=N:=by have:=h.perm.size_eq;simpa using this
theorem PM.low{p:Array Nat}(h:PM N p)(hi:i<N):at0 p i<N:=by
 have hs:i<p.size:=by rw [h.size];exact hi
 have e:at0 p i=p[i]:=by unfold at0;simp [Array.getD,hs]
 have m:p[i]∈R4 (Ra N):=h.perm.mem_iff.mp (Array.getElem_mem hs);rw [e];simpa using m
theorem nZ(p:Array Nat)(i:Nat):at0 p i=(p[i]?).getD 0:=by unfold at0;rw [Array.getD_eq_getD_getElem?]
def Ri(lt:Nat->Nat->Bool)(p:Array Nat)(n:Nat):Prop:=∀i j,i<=j->j<n->lt (at0 p j) (at0 p i)=false
def Fa(lt:Nat->Nat->Bool)(p:Array Nat)(n:Nat):Prop:=∀i j,i<=j->j<n->lt (at0 p i) (at0 p j)=false
theorem bX.Vd(O:bX lt)(i:Nat):lt i i=false:=by
 cases h:lt i i with
 | false=>rfl
 | true=>rw [O.ar i i h] at h;cases h
theorem gM{p:Array Nat}{i j k:Nat}(z:j<=p.size):at0 (kas_rev p i j) k=if i<=k/\k<j then at0 p (i+j-1-k) else at0 p k:=by
 simp only [nZ];unfold kas_rev;rw [getElem?_mirror_all z];split<;>rfl
theorem PM.rev{p:Array Nat}(h:PM N p)(i j:Nat):PM N (kas_rev p i j):=⟨(mirror_perm p i j _).trans h.perm⟩
theorem uz{p:Array Nat}{k d x:Nat}(z:k<p.size)(hd:d<=k):at0 (bubble p k d) x=if x=k-d then at0 p k else if k-d<x/\x<=k then at0 p (x-1) else at0 p x:=by
 simp only [nZ];rw [getElem?_bubble z d hd];split
 .rfl
 .split<;>rfl
theorem PM.aP{p:Array Nat}(h:PM N p)(k d:Nat):PM N (bubble p k d):=⟨(bubble_perm p k d).trans h.perm⟩
theorem pd(O:bX lt){p:Array Nat}(P:PM N p):∀(f n:Nat),1<=n->n+f<=N->Ri lt p n->wpK lt N (kas_asc p f n) λm=>n<=m/\m<=n+f/\Ri lt p m/\(m=n+f\/lt (at0 p m) (at0 p (m-1))=true)
 | 0,n,h1,hn,r=>⟨zv _,zv _,r,.inl rfl⟩
 | f+1,n,h1,hn,r=>by
  refine ⟨P.low (show n<N by lia),P.low (show n-1<N by lia),?_⟩;by_cases c:lt (at0 p n) (at0 p (n-1))=true
  .show wpK lt N (if lt (at0 p n) (at0 p (n-1))=true then _ else _) _;rw [if_pos c];exact ⟨zv _,by lia,r,.inr c⟩
  .show wpK lt N (if lt (at0 p n) (at0 p (n-1))=true then _ else _) _;rw [if_neg c];have c':lt (at0 p n) (at0 p (n-1))=false:=by simpa using c
   refine cE (λm hm=>⟨by lia,by lia,hm.2.2.1,hm.2.2.2.imp (λe=>by lia) id⟩) (pd O P f (n+1) (by lia) (by lia) λi j F J=>?_);by_cases e:j<n
   .exact r i j F e
   .have G:j=n:=by lia
    subst G;by_cases z:i=j
    .subst z;exact O.Vd _
    .exact O.UZ _ _ _ (r i (j-1) (by lia) (by lia)) c'
def Ali(lt:Nat->Nat->Bool)(p:Array Nat)(n q:Nat):Prop:=∀i,n<=i+(q+1)->i<n->lt (at0 p (n-1)) (at0 p i)=false
theorem oY(O:bX lt){p:Array Nat}(hs:n<=p.size)(hq:q+1<=n)(a:Ali lt p n q)(f:Fa lt p n):Fa lt (kas_rev p (n-(q+1)) n) n:=by
 have z:∀k,k<n->lt (at0 (kas_rev p (n-(q+1)) n) k) (at0 p k)=false/\lt (at0 p k) (at0 (kas_rev p (n-(q+1)) n) k)=false:=λk Z=>by
  rw [gM hs];split
  .rename_i h;have S:=a k (by lia) Z;have W:=f k (n-1) (by lia) (by lia);have U:=a (n-(q+1)+n-1-k) (by lia) (by lia);have J:=f (n-(q+1)+n-1-k) (n-1) (by lia) (by lia);exact ⟨O.UZ _ _ _ S J,O.UZ _ _ _ U W⟩
  .exact ⟨O.Vd _,O.Vd _⟩
 intro i j G F;exact O.UZ _ _ _ (O.UZ _ _ _ (z j F).2 (f i j G F)) (z i (by lia)).1
theorem yj{p:Array Nat}{i j k:Nat}(z:j<=p.size)(F:j<=k):at0 (kas_rev p i j) k=at0 p k:=by rw [gM z,if_neg (by lia)]
structure DI(lt:Nat->Nat->Bool)(N:Nat)(p:Array Nat)(n q:Nat):Prop where
 pm:PM N p
 fa:Fa lt p n
 qn:q+1<=n
 al:Ali lt p n q
theorem lH(O:bX lt){p:Array Nat}(f:Fa lt p n)(h1:1<=n)(c:lt (at0 p (n-1)) (at0 p n)=false):Fa lt p (n+1):=λi j F J=>by
 by_cases e:j<n
 .exact f i j F e
 .have G:j=n:=by lia
  subst G;by_cases z:i=j
  .subst z;exact O.Vd _
  .exact O.UZ _ _ _ c (f i (j-1) (by lia) (by lia))
theorem jy(O:bX lt):∀(f:Nat)(p:Array Nat)(n q:Nat),n+f<=N->DI lt N p n q->wpK lt N (kas_desc f p n q) λr=>n<=r.2.1/\r.2.1<=n+f/\DI lt N r.1 r.2.1 r.2.2
 | 0,p,n,q,hn,d=>⟨zv _,zv _,d⟩
 | f+1,p,n,q,hn,d=>by
  have S:=d.qn;have hs:n<=p.size:=by rw [d.pm.size];lia
  refine ⟨d.pm.low (show n<N by lia),d.pm.low (show n-1<N by lia),?_⟩;show wpK lt N (if lt (at0 p n) (at0 p (n-1))=true then _ else _) _;by_cases c:lt (at0 p n) (at0 p (n-1))=true
  .rw [if_pos c];have c':=O.ar _ _ c;have z:∀F:Array Nat,Ali lt F (n+1) 0:=λF i h1 h2=>by
    have:i=n:=by lia
    subst this;exact O.Vd _
   split
   .refine cE (λr h=>⟨by lia,by lia,h.2.2⟩) (jy O f _ (n+1) 0 (by lia) ⟨d.pm.rev _ _,lH O (oY O hs S d.al d.fa) (by lia) ?_,by lia,z _⟩);rw [yj hs (zv _),gM hs];split
    .have e:=d.fa (n-(q+1)+n-1-(n-1)) (n-1) (by lia) (by lia);have a:=d.al (n-(q+1)+n-1-(n-1)) (by lia) (by lia);exact O.UZ _ _ _ c' e
    .exact c'
   .exact cE (λr h=>⟨by lia,by lia,h.2.2⟩) (jy O f p (n+1) 0 (by lia) ⟨d.pm,lH O d.fa (by lia) c',by lia,z _⟩)
  .rw [if_neg c];have c1:lt (at0 p n) (at0 p (n-1))=false:=by simpa using c
   refine ⟨d.pm.low (show n-1<N by lia),d.pm.low (show n<N by lia),?_⟩;show wpK lt N (if lt (at0 p (n-1)) (at0 p n)=true then _ else _) _;by_cases e:lt (at0 p (n-1)) (at0 p n)=true
   .rw [if_pos e];show n<=n/\n<=n+(f+1)/\DI lt N p n q;exact ⟨zv _,by lia,d⟩
   .rw [if_neg e];have J:lt (at0 p (n-1)) (at0 p n)=false:=by simpa using e
    refine cE (λr h=>⟨by lia,by lia,h.2.2⟩) (jy O f p (n+1) (q+1) (by lia) ⟨d.pm,lH O d.fa (by lia) J,by lia,λi h1 h2=>?_⟩);show lt (at0 p n) (at0 p i)=false;by_cases G:i=n
    .subst G;exact O.Vd _
    .exact O.UZ _ _ _ (d.al i (by lia) (by lia)) c1
theorem tL(O:bX lt){p:Array Nat}(P:PM N p)(f:Fa lt p n)(h1:1<=n)(hn:n<=N):wpK lt N (kas_tail3 n N p) λr=>1<=r.1/\r.1<=N/\PM N r.2/\Ri lt r.2 r.1:=by
 have hs:n<=p.size:=by rw [P.size];exact hn
 unfold kas_tail3;refine gO (cE (λm h=>?_) (pd O (P.rev 0 n) (N-n) n h1 (by lia) λi j z F=>?_))
 .show 1<=m/\m<=N/\PM N (kas_rev p 0 n)/\Ri lt (kas_rev p 0 n) m;exact ⟨by lia,by lia,P.rev 0 n,h.2.2.1⟩
 .rw [gM hs,gM hs,if_pos (by lia),if_pos (by lia)];exact f _ _ (by lia) (by lia)
theorem w6(O:bX lt){p:Array Nat}(P:PM N p)(f:Fa lt p (n+1))(hn:n+1<=N):wpK lt N (kas_descPart n N p) λr=>1<=r.1/\r.1<=N/\PM N r.2/\Ri lt r.2 r.1:=by
 unfold kas_descPart;refine gO (cE (λr h=>?_) (jy O (N-(n+1)) p (n+1) 0 (by lia) ⟨P,f,by lia,λi h1 h2=>?_⟩))
 .have z:=h.2.2.qn;split
  .exact tL O (h.2.2.pm.rev _ _) (oY O (by rw [h.2.2.pm.size];lia) z h.2.2.al h.2.2.fa) (by lia) (by lia)
  .exact tL O h.2.2.pm h.2.2.fa (by lia) (by lia)
 .have:i=n:=by lia
  subst this;exact O.Vd _
theorem GK(O:bX lt){p:Array Nat}(P:PM N p)(h1:1<=N):wpK lt N (kas_count N p) λr=>1<=r.1/\r.1<=N/\PM N r.2/\Ri lt r.2 r.1:=by
 unfold kas_count;refine gO (cE (λn h=>?_) (pd O P (N-1) 1 (zv _) (by lia) λi j J S=>?_))
 .obtain ⟨G,a2,F,W⟩:=h;by_cases e:n=N
  .rw [if_pos (by simpa using e)];exact ⟨G,by lia,P,F⟩
  .rw [if_neg (by simpa using e)];have c:lt (at0 p n) (at0 p (n-1))=true:=W.resolve_left (by lia);have hs:n<=p.size:=by rw [P.size];lia
   split
   .refine ⟨P.low (show 0<N by lia),P.low (show n-1<N by lia),?_⟩;show wpK lt N (if lt (at0 p 0) (at0 p (n-1))=true then _ else _) _;by_cases z:lt (at0 p 0) (at0 p (n-1))=true
    .rw [if_pos z];exact ⟨G,by lia,P,F⟩
    .rw [if_neg z];have Z:lt (at0 p 0) (at0 p (n-1))=false:=by simpa using z
     have al:Ali lt p n (n-1):=λi _ hi=>F i (n-1) (by lia) (by lia);have fa:Fa lt p n:=λi j J S=>O.UZ _ _ _ (O.UZ _ _ _ (F j (n-1) (by lia) (by lia)) Z) (F 0 i (by lia) (by lia));have e0:n-(n-1+1)=0:=by lia
     have fr:=oY O hs (q:=n-1) (by lia) al fa;rw [e0] at fr;refine w6 O (P.rev 0 n) (lH O fr G ?_) (by lia);rw [yj hs (zv _),gM hs,if_pos (by lia)];exact O.UZ _ _ _ (O.ar _ _ c) (fa (0+n-1-(n-1)) (n-1) (by lia) (by lia))
   .have en:n=1:=by lia
    subst en;refine w6 O P (λi j J S=>?_) (by lia);by_cases U:i=j
    .subst U;exact O.Vd _
    .have:i=0/\j=1:=by lia
     rw [this.1,this.2];exact O.ar _ _ c
 .have:i=j:=by lia
  subst this;exact O.Vd _
theorem nQ(O:bX lt){p:Array Nat}{k:Nat}(P:PM N p)(F:k<N)(s:Ri lt p k):∀(f l r:Nat),l<=r->r<=k->r<=l+f->(∀i,i<l->lt (at0 p k) (at0 p i)=false)->(∀i,r<=i->i<k->lt (at0 p i) (at0 p k)=false) ->
  wpK lt N (kas_place p k f l r) λx=>x<=k/\(∀i,i<x->lt (at0 p k) (at0 p i)=false)/\∀i,x<=i->i<k->lt (at0 p i) (at0 p k)=false
 | 0,l,r,h1,h2,h3,a,b=>by
  have e:l=r:=by lia
  subst e;exact ⟨h2,a,b⟩
 | f+1,l,r,h1,h2,h3,a,b=>by
  unfold kas_place;split
  .have e:l=r:=by lia
   subst e;exact ⟨h2,a,b⟩
  .refine ⟨P.low F,P.low (show (l+r) / 2<N by lia),?_⟩;show wpK lt N (if lt (at0 p k) (at0 p ((l+r) / 2))=true then _ else _) _;by_cases c:lt (at0 p k) (at0 p ((l+r) / 2))=true
   .rw [if_pos c];exact nQ O P F s f l _ (by lia) (by lia) (by lia) a λi hi z=>O.UZ _ _ _ (O.ar _ _ c) (s _ _ hi z)
   .rw [if_neg c];have c':lt (at0 p k) (at0 p ((l+r) / 2))=false:=by simpa using c
    exact nQ O P F s f _ r (by lia) h2 (by lia) (λi hi=>O.UZ _ _ _ (s i ((l+r) / 2) (by lia) (by lia)) c') b
theorem sZ(O:bX lt):∀(f:Nat)(p:Array Nat)(k:Nat),PM N p->k+f<=N->Ri lt p k->wpK lt N (kas_bin f p k) λq=>PM N q/\Ri lt q (k+f)
 | 0,p,k,P,S,s=>⟨P,s⟩
 | f+1,p,k,P,S,s=>by
  unfold kas_bin;refine gO (cE (λl h=>?_) (nQ O P (show k<N by lia) s k 0 k (NV _) (zv _) (by lia) (λi hi=>by lia) λi h1 h2=>by lia));obtain ⟨h1,h2,h3⟩:=h;have hs:k<p.size:=by rw [P.size];lia
  refine cE (λq h=>⟨h.1,by rw [show k+(f+1)=k+1+f by lia];exact h.2⟩) (sZ O f _ (k+1) (P.aP _ _) (by lia) λi j J U=>?_);rw [uz hs (by lia),uz hs (by lia),show k-(k-l)=l by lia];by_cases F:j=l
  .rw [if_pos F];by_cases z:i=l
   .rw [if_pos z];exact O.Vd _
   .rw [if_neg z,if_neg (by lia)];exact h2 i (by lia)
  .rw [if_neg F];by_cases G:l<j/\j<=k
   .rw [if_pos G];by_cases z:i=l
    .rw [if_pos z];exact h3 _ (by lia) (by lia)
    .rw [if_neg z];split
     .exact s _ _ (by lia) (by lia)
     .exact s _ _ (by lia) (by lia)
   .rw [if_neg G,if_neg (by lia),if_neg (by lia)];exact s _ _ J (by lia)
theorem Mb(O:bX lt)(h1:1<=N):wpK lt N (kas_sort N) λp=>PM N p/\Ri lt p N:=by
 unfold kas_sort;refine gO (cE (λr h=>?_) (GK O ⟨Array.Perm.refl _⟩ h1));obtain ⟨J,G,F,z⟩:=h;split
 .refine cE (λq h=>⟨h.1,by have e:=h.2;rw [show max r.1 1+(N-max r.1 1)=N by lia] at e;exact e⟩) (sZ O _ _ _ F (by lia) (by rw [show max r.1 1=r.1 by lia];exact z))
 .have e:r.1=N:=by lia
  rw [e] at z;exact ⟨F,z⟩
end
end L2
namespace L2
open PySem PySem.Spec PyProof.Rows
def tDC(ix:List (Option Nat))(wi:TI)(g:TG)(tt:TT)(tk tv:TE):TE:=λσ H Q=>wi σ H λJ H1=>∃W:Nat->Nat->St->List (Key×V)->Hp->Prop,(∃m,W 0 m (cn ix σ) [] H1)/\∀i m τ ys H2,W i m τ ys H2->ys.length<sizeLine /\
 ((J.stop i H2 ∧ ∀ D, H2 D = none → D ≠ sysModules → Q (.ref D) (upd H2 D (.dK ys))) ∨
  (J.go i H2 ∧ ∀ x H3, J.U2 i H2 x H3 → g x τ H3 fun F H4 => tt F H4 fun ok H5 => if ok = true then tk F H5 fun y H6 => tv F H6 fun z H7 => uK y fun k => ∃ G, G < m ∧ W (i + 1) G F (aJ ys k z) H7 else ∃ G, G < m ∧ W (i + 1) G F ys H5))
theorem BR{tk tv:TE}(hc:c=true->X.calm=true)(L:aB X sc N' ix)(hi:PIc c X tg iter wi)(hg:∀Go C fp s H,PG (zS X sc N' Go C fp s H) tg g)(ht:∀Go C fp s H,PTs (zS X sc N' Go C fp s H) Zf tt)(hk:∀Go C fp s H,PE (zS X sc N' Go C fp s H) J tk)(hv:∀Go C fp s H,PE (zS X sc N' Go C fp s H) F tv)(hs:∀x,Oy iter X.env x=pure x:=by intro _;rfl):PE X (.DictComp J F [⟨tg,iter,Zf,0⟩] sc pos) (tDC ix wi g tt tk tv):=by
 intro Go s σ H Q I h;rw [arm_eval_DictComp];refine tN (e:=.DictComp J F [⟨tg,iter,Zf,0⟩] sc pos) (use:=none) (em:=λD env=>do
  let Z<-NT J env
  let vv<-Pr [Z] (NT F env)
  P0 { J.pos with endLine:=F.pos.endLine,endCol:=F.pos.endCol }
  Pr [Z,vv] (dictSet D Z vv)) (T:="dict") (dt:=.dict #[]) length HO.dK [] (λys o=>∃vs es ep,KV ys vs/\o.ExactDict/\o.data = .dict es ep/\KeysOf (ax X.prog X.w) es/\Pairs (ax X.prog X.w) es.toList vs/\(vs.map (·.1)).Nodup) (λK ys τ H=>tk τ H λy H6=>tv τ H6 λz H7=>uK y λk=>K (aJ ys k z) H7) rfl (by size_fits) (λ_ _ _=>⟨λ_=>rfl,rfl⟩) codeAny_compStart_dict ?_ rfl ?_ ?_ ?_ hc L hi hg ht hs I h λC D oC H' s5 m5 W ns tu q=>?_
 .obtain ⟨o,es,ep,e,r⟩:=Heap.DictOf.new (knd:=ax X.prog X.w) s.heap;rw [Nd _ rfl] at e;cases e;exact ⟨[],es,ep,.nil,r⟩
 .rintro ys o ⟨vs,es,ep,_,_,d,_⟩ v z;rw [d] at z;cases z
 .rintro ys o H' h D ⟨vs,es,ep,U,dx,r⟩ hl n e;exact ⟨OH hl,by simpa using n,vs,U,o,es,ep,e,dx,r⟩
 .rintro Go C fp s H pins' s8 τ H8 ys ob D K I8 q8 ⟨vs,es,ep,U,r⟩ hl hD;refine fv (thn (hk Go C fp s H _ s8 τ H8 _ I8 q8) λy s9=>x5e λyv H9 I9 r9 q9=>fv (NH (thn (hv Go C fp s H _ s9 τ H9 _ I9 q9) λz G=>x5e λzv H10 S aj Xo=>?_)));obtain ⟨kk,ek,w'⟩:=Xo;subst ek;have lv:vs.length<sizeLine:=by rw [<- U.length];exact hl
  refine fv (Pa (NH (wpAny_dictSet_pairs (hsz:=OH lv) (fE r9) ⟨ob,es,ep,(S.pin _ (Nk _ hD)).1,r⟩ λag O sb=>?_)));obtain ⟨o2,ak,ai,e2,r2⟩:=O;exact ⟨G,_,H10,o2,ag,G.toks+1,rfl,w',S,⟨_,ak,ai,U.put kk aj,r2⟩,e2,sb⟩
 .obtain ⟨p6,ab,_⟩:=W.pin (C,oC) (Nk _ (Nk _ (M0.mpr rfl)));exact ⟨m5,ns p6,λh' av=>⟨.ref D,H',tu (W.L1 λp hp=>W.pin p (Nk _ (N0 _ hp))) ab av,rfl,q⟩⟩
end L2
namespace L2
open PySem PySem.Spec PyProof.Rows PySem.W PySem.Calls
theorem v8{α:Type}(d:α):∀vs:List α,(Ra vs.length).map (λi=>vs.getD i d)=vs:=λvs=>by
 apply List.ext_getElem?;intro i;rw [Nh];by_cases h:i<vs.length
 .rw [List.getElem?_range h,l6 h];show some (vs.getD i d)=_;rw [MW,l6 h];rfl
 .rw [OS (by simp;lia),OS (by lia)];rfl
section
variable {prog:M8}{w:Nl}{A:Np}{E:Value->p8->Prop}{s:p8}
theorem ML{lt:Nat->Nat->Bool}(O:bX lt)(ho:s.heap.get? a=some (OA "list" vs.toArray n))(Yk:vs.length<64)(hk:∀(h':Heap)(Q:SortKind->p8->Prop),(∀b o,b≠a->s.heap.get? b=some o->h'.get? b=some o)->2<=vs.length->Q κ { s with heap:=h' }->Nb (Nf prog w) A (keyKind' vs.toArray) Q E { s with heap:=h' })(hl:∀(h':Heap) i j C,(∀b o,b≠a->s.heap.get? b=some o->h'.get? b=some o)->i<vs.length->j<vs.length->C (lt i j) { s with heap:=h' }->kas_ask prog w A κ vs i j C { s with heap:=h' })(h:∀p:Array Nat,PM vs.length p->Ri lt p vs.length->P (.done (.ret .none)) { s with heap:=sortedHeap s.heap a vs (R4 (p.toList.map λi=>vs.getD i NB)) }):
  Nb (Nf prog w) A (Ng.«list.sort» ⟨[.ref a],[]⟩) P E s:=by
 rw [list_sort_plain];have ha:a<s.heap.objs.size:=Nj ho;obtain ⟨U,G⟩:∃U,(s.heap.update a (PD λ_=>(#[]:Array Value))).get? a=some (OA "list" #[] U):=⟨_,get?_update_seq ho λ_=>#[]⟩;refine fv (listItems_at ho rfl (fv (listUpdate_at ho rfl ?_ (by rw [Nc,NX];lia) (NV _))));refine fv (seqEpoch_at G rfl (fv (wpAny_newTuple (fv (RH (NH ?_) (NV _))) (by show vs.length<=_;rw [NX];lia))));have W:∀b o,b≠a->s.heap.get? b=some o->(((s.heap.update a (PD λ_=>(#[]:Array Value))).push (OA "tuple" vs.toArray 0)).push (OA "list" #[] 0)).get? b=some o:=λb o hb e=>by
  refine we _ (we _ ?_);rw [Heap.get?_update_ne _ _ _ _ hb];exact e
 have F:(((s.heap.update a (PD λ_=>(#[]:Array Value))).push (OA "tuple" vs.toArray 0)).push (OA "list" #[] 0)).get? a=some (OA "list" #[] U):=we _ (we _ G);show Nb (Nf prog w) A _ P E { s with heap:=((s.heap.update a (PD λ_=>(#[]:Array Value))).push (OA "tuple" vs.toArray 0)).push (OA "list" #[] 0) };dsimp only;have hz:vs.toArray.size=vs.length:=by simp
 have big:vs.length<=sizeLine:=by rw [NX];lia
 by_cases h2:vs.toArray.size<2
 .rw [if_pos h2,if_pos h2];refine fv (MZ ?_);rw [StateT.run_pure];refine fv (MZ ?_);dsimp only;have hr:=h (R4 (Ra vs.length)) ⟨Array.Perm.refl _⟩ (λi j Yg hj=>by
   have:i=j:=by lia
   subst this;exact O.Vd _)
  rw [show (R4 (Ra vs.length)).toList=Ra vs.length from rfl,v8] at hr;have eo:(arrOf (SortSt.mk' general' (vs.toArray.zip vs.toArray) #[] 7 none)).map (·.2)=vs.toArray:=by
   show (vs.toArray.zip vs.toArray).map (·.2)=vs.toArray;apply Array.ext
   .simp
   .intro i h1 h2;simp
  rw [eo];refine fv (seqEpoch_at F rfl (fv (listUpdate_at F rfl ?_ (NV _) (by rw [hz];exact PH big))));simp only [bne_self_eq_false,Pd,if_false];exact MZ hr
 .rw [if_neg h2,if_neg h2];have Z:2<=vs.length:=by lia
  refine fv (hk _ _ W Z ?_);have run:=Mb O (N:=vs.length) (by lia);have wp:=tY (cmp:=kas_ask prog w A κ vs) (s:={ s with heap:=((s.heap.update a (PD λ_=>(#[]:Array Value))).push (OA "tuple" vs.toArray 0)).push (OA "list" #[] 0) }) (hl _ · · · W) (Q:=λp s'=>s'={ s with heap:=((s.heap.update a (PD λ_=>(#[]:Array Value))).push (OA "tuple" vs.toArray 0)).push (OA "list" #[] 0) }/\PM vs.length p/\Ri lt p vs.length) (cE (λp q=>⟨rfl,q⟩) run);refine fv (N7 (kat_run (E:=E) (Q:=λJ s'=>∃p:Array Nat,p.size=vs.length/\arrOf J=p.map (kas_item (vs.toArray.zip vs.toArray))/\failedOf J=none/\s'={ s with heap:=((s.heap.update a (PD λ_=>(#[]:Array Value))).push (OA "tuple" vs.toArray 0)).push (OA "list" #[] 0) }/\PM vs.length p/\Ri lt p vs.length) rfl Z Yk (λp J s' a1 a2 a3 a4=>⟨p,a1,a2,a3,a4⟩) wp) ?_ λ_ _ z=>z);rintro ⟨⟨⟩,J⟩ s' ⟨p,hp,S,hf,rfl,pm,ri⟩;dsimp only;have Yx:=kat_snds rfl S;rw [Yx,hf];refine fv (seqEpoch_at F rfl (fv (listUpdate_at F rfl ?_ (NV _) (by rw [Nc,MV,Pc,hp];exact PH big))));simp only [bne_self_eq_false,Pd,if_false];exact MZ (h p pm ri)
theorem HS{lt:Nat->Nat->Bool}(O:bX lt)(F:s.heap.IsList l vs.toArray)(S:vs.length<64)(Z:∀(h':Heap)(Q:SortKind->p8->Prop),(∀b o,s.heap.get? b=some o->h'.get? b=some o)->2<=vs.length->Q κ { s with heap:=h' }->Nb (Nf prog w) A.in1.in1 (keyKind' vs.toArray) Q E { s with heap:=h' })(hl:∀(h':Heap) i j C,(∀b o,s.heap.get? b=some o->h'.get? b=some o)->i<vs.length->j<vs.length->C (lt i j) { s with heap:=h' }->kas_ask prog w A.in1.in1 κ vs i j C { s with heap:=h' })(h:∀p:Array Nat,PM vs.length p->Ri lt p vs.length->Q (.ref (s.heap.objs.size+1)) { s with heap:=sortedAll s.heap vs (R4 (p.toList.map λi=>vs.getD i NB)) }):
  Nb (Nf prog w) A (call (.builtin "sorted") [.ref l]) Q E s:=by
 refine call_function_entry kind_sorted plain_sorted entry_sorted (args_sorted1 _) ?_;unfold Ng.«sorted»
 refine fv (m:=checkCount "sorted" 1 1 _) (MZ (fv (collect_list F (fv (RH ?_ (by rw [NX];lia))) (by rw [NX];lia))));have hsz:((s.heap.push (OA "list" #[] 0)).update s.heap.objs.size (PD (·++vs.toArray))).objs.size=s.heap.objs.size+1:=(Heap.size_update ..).trans (Rn ..);have G:(((s.heap.push (OA "list" #[] 0)).update s.heap.objs.size (PD (·++vs.toArray))).push (OA "list" vs.toArray 0)).get? (s.heap.objs.size+1)=some (OA "list" vs.toArray 0):=hsz ▸ Nd _ rfl;have keep:∀b o,s.heap.get? b=some o->(((s.heap.push (OA "list" #[] 0)).update s.heap.objs.size (PD (·++vs.toArray))).push (OA "list" vs.toArray 0)).get? b=some o:=λb o q=>by
  refine we _ ?_;rw [Heap.get?_update_ne _ _ _ _ (NN (Nj q))];exact we _ q
 show Nb _ _ _ _ _ { s with heap:=((s.heap.push (OA "list" #[] 0)).update s.heap.objs.size (PD (·++vs.toArray))).push (OA "list" vs.toArray 0) };rw [hsz];have ne:∀b o,s.heap.get? b=some o->b≠s.heap.objs.size+1:=λb o e=>NN (Qj (Nj e));refine fv (NH (N2 slot_list_sort ⟨_,G,rfl⟩ entry_list_sort (ML (κ:=κ) O (s:={ s with heap:=((s.heap.push (OA "list" #[] 0)).update s.heap.objs.size (PD (·++vs.toArray))).push (OA "list" vs.toArray 0) }) G S (λh' Q k U q=>?_) (λh' i j C k hi W q=>?_) λp a1 J=>⟨_,rfl,MZ ⟨_,rfl,h p a1 J⟩⟩) (args_list_sort _)))
 .exact N7 (Z h' Q (λb o e=>k b o (ne b o e) (keep b o e)) U q) (λ_ _ z=>z) λ_ _ z=>z
 .exact hl h' i j C (λb o e=>k b o (ne b o e) (keep b o e)) hi W q
end
def ltP(p q:Int×Int):Bool:=decide (p.1<q.1)||(decide (p.1=q.1)&&decide (p.2<q.2))
theorem nL{p q:Int×Int}:ltP p q=false↔q.1<p.1\/(p.1=q.1/\q.2<=p.2):=by
 unfold ltP;simp only [Bool.or_eq_false_iff,Bool.and_eq_false_iff,decide_eq_false_iff_not];lia
theorem LQ{p q:Int×Int}:ltP p q=true↔p.1<q.1\/(p.1=q.1/\p.2<q.2):=by
 unfold ltP;simp only [Bool.or_eq_true,NJ,decide_eq_true_eq]
theorem LS(f:Nat->Int×Int):bX λi j=>ltP (f i) (f j):=⟨λi j h=>by rw [LQ] at h;rw [nL];lia,λi j k h1 h2=>by rw [nL] at *;lia⟩
def fW(H:Hp)(a:Addr)(p:Int×Int):Prop:=H a=some (.tup [.int p.1,.int p.2])
theorem vh{α β:Type}{R:α->β->Prop}{l:List α}{m:List β}{x:α}{y:β}(h:Paired R l m):∀{ix:List Nat},(∀i∈ix,i<l.length)->Paired R (ix.map λi=>l.getD i x) (ix.map λi=>m.getD i y)
 | [],_=>.nil
 | i::ix,hi=>by
  have h1:i<l.length:=hi i (Nm ..);have h2:i<m.length:=by rw [<- ar h];exact h1
  refine .cons ?_ (vh h λj z=>hi j (M7 _ z));show R (l.getD i x) (m.getD i y);rw [MW,MW,l6 h1,l6 h2];exact bG h (l6 h1) (l6 h2)
theorem PM.mem{p:Array Nat}(h:PM N p):∀i∈p.toList,i<N:=λi hi=>by
 have m:i∈R4 (Ra N):=h.perm.mem_iff.mp (by simpa using hi);simpa using m
theorem PM.perms{α:Type}{p:Array Nat}(h:PM N p){l:List α}(hl:l.length=N)(d:α):(p.toList.map λi=>l.getD i d).Perm l:=by
 have e:p.toList.Perm (Ra N):=by have:=Array.perm_iff_toList_perm.mp h.perm;simpa using this
 have:=e.map λi=>l.getD i d;rw [<- hl,v8] at this;exact this
theorem Jo{α:Type}{p:Array Nat}(h:PM N p){l:List α}{d:α}{f:α->α->Bool}(r:Ri (λi j=>f (l.getD i d) (l.getD j d)) p N):(p.toList.map λi=>l.getD i d).Pairwise λa b=>f b a=false:=by
 rw [OW];intro i j hi z F;rw [MV,Pc] at hi z;have:=r i j (OH F) (by rw [<- h.size];exact z);simp only [nZ] at this;simp only [List.getElem_map,Array.getElem_toList];rw [RC hi,RC z] at this;exact this
def yq:List V->Hp->VK->Prop:=λxs H Q=>uR1 xs λl=>∃(as:List Addr)(ps:List (Int×Int)),H l=some (.lst (as.map V.ref))/\Paired (fW H) as ps/\as.length<64 /\
 ∀D F z H2,New H D (.lst (F.map V.ref)) H2->D≠sysModules->Paired (fW H) F z->z.Perm ps->z.Pairwise (λa b=>ltP b a=false)->Q (.ref D) H2
theorem Fs:yq [.ref l] H Q = ∃(as:List Addr)(ps:List (Int×Int)),H l=some (.lst (as.map V.ref))/\Paired (fW H) as ps/\as.length<64 /\
 ∀D F z H2,New H D (.lst (F.map V.ref)) H2->D≠sysModules->Paired (fW H) F z->z.Perm ps->z.Pairwise (λa b=>ltP b a=false)->Q (.ref D) H2:=fj
section
variable {X:Cx}
theorem AJ{p:Int×Int}(I:Inv X Go σ H s)(e:fW H a p):∃o n t u,s.heap.get? a=some o/\o.cls = .type "tuple"/\o.data = .seq #[.int p.1 t,.int p.2 u] n:=by
 obtain ⟨_,its,F,ob,g1,U,n,G⟩:=I.hok a _ e;cases F with
 | cons S z =>
 cases z with
 | cons O J =>
 cases J;obtain ⟨t,rfl⟩:=S;obtain ⟨u,rfl⟩:=O;exact ⟨ob,n,t,u,g1,U,G⟩
theorem B8(I:Inv X Go σ H s)(k:∀b o,s.heap.get? b=some o->h'.get? b=some o)(h:Paired (fW H) as ps):∃fs,KatTups h' (as.map M3) fs/\fs.length=as.length/\∀v∈fs,∃n t,v=O1 n t:=by
 induction h with
 | nil=>exact ⟨[],.nil,rfl,by simp⟩
 | cons r _ G =>
  obtain ⟨fs,h1,h2,h3⟩:=G;obtain ⟨o,n,t,u,g1,J,F⟩:=AJ I r;refine ⟨.int _ t::fs,KatTups.cons (k _ _ g1) J F rfl h1,by simp [h2],λv z=>?_⟩;rcases MX.mp z with rfl|z
  .exact ⟨_,_,rfl⟩
  .exact h3 v z
theorem By:zN X (.builtin "sorted") yq:=by
 intro Go s σ H xs us Q I r h;obtain ⟨l,rfl,as,ps,hl,O,Yk,q⟩:=h;obtain ⟨u,rfl,ru⟩:=bV r;cases ru;obtain ⟨its,rv,⟨o,n,e1,e2,e3,e4⟩,hz⟩:=I.list (SqL.of hl);have G:=yC rv;subst G;have lp:=ar O;refine HS (κ:=tuples' true) (LS λi=>ps.getD i (0,0)) ⟨o,e1,e2,n,e4⟩ (by rw [MV];exact Yk) (λh' Q' k n2 q'=>?_) (λh' i j C k hi S F=>?_) λp pm U=>?_
 .obtain ⟨fs,t1,t2,t3⟩:=B8 I k O;refine kat_kind (T:=.type "int") t1 (by rw [t2];rw [MV] at n2;lia) (λv hv=>?_) (by decide) (by rw [show (type "int" != type "tuple")=true by decide];exact q');obtain ⟨n,t,rfl⟩:=t3 v hv;exact .now
 .rw [MV] at hi S;have get:∀i,i<as.length->∃a t u,(as.map M3).getD i NB = .ref a/\∃o n,h'.get? a=some o/\o.data = .seq #[.int (ps.getD i (0,0)).1 t,.int (ps.getD i (0,0)).2 u] n:=λi hi=>by
   have J:i<ps.length:=by lia
   obtain ⟨o,n,t,u,g1,_,g3⟩:=AJ I (bG O (l6 hi) (l6 J));refine ⟨as[i],t,u,by rw [MW,Nh,l6 hi];rfl,o,n,k _ _ g1,?_⟩;rw [MW,l6 J];exact g3
  obtain ⟨a,t,u,ea,oa,na,ga,da⟩:=get i hi;obtain ⟨b,t',u',eb,ob,nb,gb,db⟩:=get j S;unfold kas_ask;rw [ea,eb];generalize ps.getD i (0,0)=x at *
  generalize ps.getD j (0,0)=y at *
  refine kat_lt ga da gb db (kat_cons (wpAny_eqBool_int ?_));by_cases z:x.1=y.1
  .rw [show (x.1==y.1)=true by simpa using z];refine kat_yes (kat_cons (wpAny_eqBool_int ?_));by_cases W:x.2=y.2
   .rw [show (x.2==y.2)=true by simpa using W];refine kat_yes (kat_nil ?_);have e:ltP x y=false:=by rw [nL];lia
    rw [e] at F;exact F
   .rw [show (x.2==y.2)=false by simpa using W];refine kat_no (kat_one _ _ (PyProof.Rows.lt_int ?_));have e:ltP x y=decide (x.2<y.2):=by unfold ltP;rw [z];simp
    rw [e] at F;exact F
  .rw [show (x.1==y.1)=false by simpa using z];refine kat_no (oneLt_int ?_);have e:ltP x y=decide (x.1<y.1):=by unfold ltP;simp [z]
   rw [e] at F;exact F
 .rw [MV] at pm U;have hm:=pm.mem;have Z:(p.toList.map λi=>(as.map M3).getD i NB)=(p.toList.map λi=>as.getD i 0).map M3:=by
   rw [NL];refine OI λi hi=>?_;show (as.map M3).getD i NB=M3 (as.getD i 0);have:=hm i hi;rw [MW,MW,Nh,l6 this];rfl
  obtain ⟨e,he⟩:=sortedAll_at s.heap (as.map M3) (R4 (p.toList.map λi=>(as.map M3).getD i NB));have lz:(p.toList.map λi=>as.getD i 0).length=as.length:=by rw [MV,Pc,pm.size]
  refine ⟨.ref (s.heap.objs.size+1),upd H (s.heap.objs.size+1) (.lst ((p.toList.map λi=>as.getD i 0).map V.ref)),I.laid (t':=s.toks) (λb o e=>sortedAll_old e) (RE _) ⟨by rw [MV,lz,NX];lia,(p.toList.map λi=>as.getD i 0).map M3,e,rQ _,by rw [<- Z];exact he⟩,rfl,?_⟩;exact q _ (p.toList.map λi=>as.getD i 0) (p.toList.map λi=>ps.getD i (0,0)) _ (.mk' (I.hok.fresh (RE _))) (Pe (Qj I.big)) (vh O hm) (pm.perms lp.symm (0,0)) (Jo pm U)
def ik(kvs:List (Int×V)):List (Key×V):=kvs.map λp=>(.inl p.1,p.2)
def xK:List V->Hp->VK->Prop:=λxs H Q=>uR1 xs λa=>∃kvs:List (Int×V),Rd H a (.dK (ik kvs))/\kvs.length<64/\∀p (ns:List Int) H2,New H p (.lst (ns.map V.int)) H2->ns.Perm (kvs.map (·.1))->ns.Pairwise (·<=·)->Q (.ref p) H2
theorem BC:xK [.ref a] H Q = ∃kvs:List (Int×V),Rd H a (.dK (ik kvs))/\kvs.length<64/\∀p (ns:List Int) H2,New H p (.lst (ns.map V.int)) H2->ns.Perm (kvs.map (·.1))->ns.Pairwise (·<=·)->Q (.ref p) H2:=fj
theorem vX:∀{vs:List Value}{ns:List Int},vs.length=ns.length->(∀(j:Nat)(v:Value),vs[j]?=some v->∃t,v=O1 (ns.getD j 0) t)->Pz vs ns
 | [],[],_,_=>.nil
 | [],_::_,h,_=>absurd h (by simp)
 | _::_,[],h,_=>absurd h (by simp)
 | v::vs,x::ns,h,f=>by
  obtain ⟨t,e⟩:=f 0 v rfl;have F:v=O1 x t:=e;rw [F];exact .cons x t (vX (by simpa using h) λj u z=>f (j+1) u z)
theorem tZ(hc:X.calm=true):zN X (.builtin "sorted") xK:=by
 intro Go s σ H xs us Q I r h;obtain ⟨a,rfl,kvs,hq,Yk,q⟩:=h;obtain ⟨u,rfl,ru⟩:=bV r;cases ru;obtain ⟨z,hd,vs,Zs,dd⟩:=dX I.hok hq;obtain ⟨ep,O⟩:=dd.dictAt;have Z6:vs.length=kvs.length:=by rw [<- Zs.length];simp [ik]
 refine call_function_entry kind_sorted plain_sorted entry_sorted (args_sorted1 _) ?_;unfold Ng.«sorted»
 refine fv (m:=checkCount "sorted" 1 1 _) (MZ (fv (kdu_collect (A:=X.A.in1) (kdl_dict (knd:=ax X.prog X.w) (kvs:=vs) (ep:=ep) hd) (I.ok.hd hc) O (by rw [Z6,NX];lia) λh' tk ZI Z X4=>?_)));have hl:ZI.toList.length=kvs.length:=by rw [Pc,<- Z6];exact X4.1
 have hS:Pz ZI.toList (kvs.map (·.1)):=vX (by rw [hl,MV]) λj v hv=>by
  obtain ⟨k,x,hx,Z⟩:=X4.2 j v (by rw [<- Q6];exact hv);have hj:j<vs.length:=(MY.mp hx).1;have G:j<kvs.length:=by lia
  have J:(ik kvs)[j]?=some (.inl kvs[j].1,kvs[j].2):=by simp [ik,G]
  obtain ⟨u',F,_⟩:=Zs.at J;rw [hx] at F;cases F;rcases c8 (show eO (Sum.inl kvs[j].1) v=true from Z) with ⟨i,t,W,J⟩|⟨y,t,W,J⟩
  .cases W;exact ⟨t,by rw [J,MW,Nh,l6 G];rfl⟩
  .cases W
 have I1:Inv X Go σ H { s with heap:=h',toks:=tk }:=I.kept Z;refine fv (RH ?_ (by rw [hl,NX];lia));have U:(h'.push (OA "list" ZI.toList.toArray 0)).get? h'.objs.size=some (OA "list" ZI.toList.toArray 0):=Nd _ rfl;refine fv (NH (N2 slot_list_sort ⟨_,U,rfl⟩ entry_list_sort (list_sort_tree U hS (by rw [hl];exact Yk) λout ns' b1 b2 b3=>⟨_,rfl,?_⟩) (args_list_sort _)));obtain ⟨c,S⟩:=sortedHeap_at (vs:=ZI.toList) (out:=out) U;refine MZ ⟨_,rfl,.ref h'.objs.size,upd H h'.objs.size (.lst (ns'.map V.int)),I1.laid (a:=h'.objs.size) (t':=tk) (λb o e=>?_) (zv _) ⟨?_,out.toList,c,pZ b1,by rw [Q3];exact S⟩,rfl,q _ ns' _ (.mk' (I1.hok.fresh (zv _))) b2 b3⟩
 .have hb:b<h'.objs.size:=Nj e;rw [sortedHeap_old (NN hb) (by rw [Rn];exact Qj hb)];exact we _ e
 .have:=b2.length_eq;rw [MV,this,MV,NX];lia
end
theorem MP{tk tv:TE}(hc:c=true->X.calm=true)(L:aB X sc N' ix)(hi:W (PIc c X tg iter wi))(hg:∀Go C fp s H,W (PG (zS X sc N' Go C fp s H) tg g))(J:∀Go C fp s H,W (PTs (zS X sc N' Go C fp s H) F tt))(S:∀Go C fp s H,W (PE (zS X sc N' Go C fp s H) z tk))(O:∀Go C fp s H,W (PE (zS X sc N' Go C fp s H) G tv))(hs:∀x,Oy iter X.env x=pure x:=by intro _;rfl):W (PE X (.DictComp z G [⟨tg,iter,F,0⟩] sc pos) (tDC ix wi g tt tk tv)):=⟨BR hc L hi.h (λa b c d e=>(hg a b c d e).h) (λa b c d e=>(J a b c d e).h) (λa b c d e=>(S a b c d e).h) (λa b c d e=>(O a b c d e).h) hs⟩
theorem Cn:mv (.ref a) (.int i) H Q = ∃kvs,Rd H a (.dK kvs)/\∃v,zZ kvs (.inl i)=some v/\Q v H:=by
 apply propext;constructor
 .rintro ⟨a',k,kvs,v,F,z,h1,h2,q⟩;cases F;cases k with
  | inl j=>cases z;exact ⟨kvs,h1,v,h2,q⟩
  | inr x=>cases z
 .rintro ⟨kvs,h1,v,h2,q⟩;exact ⟨a,.inl i,kvs,v,rfl,rfl,h1,h2,q⟩
section
variable {K:KE}{g:TG}{tt:TT}{te tk tv:TE}{σ:St}{H:Hp}{wi:TI}{ix:List (Option Nat)}{Q:VK}
def jV(J:It)(g:TG)(tt:TT)(tk tv:TE)(τ:St)(H:Hp)(Q:VK):Prop:=∃W:Nat->Nat->St->List (Key×V)->Hp->Prop,(∃m,W 0 m τ [] H)/\∀i m τ ys H2,W i m τ ys H2->ys.length<sizeLine /\
 ((J.stop i H2 ∧ ∀ D, H2 D = none → D ≠ sysModules → Q (.ref D) (upd H2 D (.dK ys))) ∨
  (J.go i H2 ∧ ∀ x H3, J.U2 i H2 x H3 → g x τ H3 fun F H4 => tt F H4 fun ok H5 => if ok = true then tk F H5 fun y H6 => tv F H6 fun z H7 => uK y fun k => ∃ G, G < m ∧ W (i + 1) G F (aJ ys k z) H7 else ∃ G, G < m ∧ W (i + 1) G F ys H5))
theorem En:tDC ix wi g tt tk tv σ H Q=wi σ H λJ H1=>jV J g tt tk tv (cn ix σ) H1 Q:=rfl
def md(N:St->List (Key×V)->Hp->Prop)(ys:List (Key×V))(F:St)(tk tv:TE)(ok:Bool)(H5:Hp):Prop:=if ok=true then tk F H5 λy H6=>tv F H6 λz H7=>uK y λk=>N F (aJ ys k z) H7 else N F ys H5
theorem Bt:md N ys τ tk tv true H=tk τ H λy H6=>tv τ H6 λz H7=>uK y λk=>N τ (aJ ys k z) H7:=rfl
theorem Cb:md N ys τ tk tv false H=N τ ys H:=rfl
theorem jV.lst{a:Addr}{xs:List V}{τ:St}(F:Nat->St->List (Key×V)->Hp->Prop)(S:∀i τ ys H,F i τ ys H->ys.length<sizeLine)(ha:∀i τ ys H,F i τ ys H->SqL K H a xs)(U:F 0 τ [] H)
  (hs:∀(N:St->List (Key×V)->Hp->Prop) i x τ ys H,xs[i]?=some x->F i τ ys H->(∀τ ys H,F (i+1) τ ys H->N τ ys H)->g x τ H λz H4=>tt z H4 λok H5=>md N ys z tk tv ok H5) (hd:∀τ ys H,F xs.length τ ys H->∀D H',New H D (.dK ys) H'->Q (.ref D) H'):jV (Itl K a) g tt tk tv τ H Q:=by
 refine ⟨λi m τ ys H=>m=xs.length-i/\i<=xs.length/\F i τ ys H,⟨xs.length,by simp,NV _,U⟩,?_⟩;rintro i m τ ys H2 ⟨rfl,hi,p⟩;refine ⟨S i τ ys H2 p,?_⟩;have q:=ha i τ ys H2 p;by_cases J:i<xs.length
 .refine .inr ⟨⟨xs,xs[i],q,by simp [J]⟩,λx H' y=>?_⟩;obtain ⟨e,y⟩:=y;subst e;exact hs (λz ys H=>∃G,G<xs.length-i/\G=xs.length-(i+1)/\i+1<=xs.length/\F (i+1) z ys H) i x τ ys _ (y xs q) p λz zs H q=>⟨xs.length-(i+1),by lia,rfl,J,q⟩
 .have e:i=xs.length:=by lia
  subst e;exact .inl ⟨⟨xs,q,zv _⟩,λD O _=>hd τ ys H2 p D _ (.mk' O)⟩
theorem zX.aF(F:Nat->St->List V->Hp->Prop)(S:∀i τ ys H,F i τ ys H->ys.length<sizeLine)(ha:∀i τ ys H,F i τ ys H->SqL K H a xs)(U:F 0 τ [] H)(hs:∀(N:St->List V->Hp->Prop) i x τ ys H,xs[i]?=some x->F i τ ys H->(∀τ ys H,F (i+1) τ ys H->N τ ys H)->g x τ H λz H4=>tt z H4 λok H5=>dH N ys z te ok H5)(hd:∀τ ys H,F xs.length τ ys H->∀D H',New H D (.lst ys) H'->D≠sysModules->Q (.ref D) H'):zX (Itl K a) g tt te τ H Q:=by
 refine ⟨λi m τ ys H=>m=xs.length-i/\i<=xs.length/\F i τ ys H,⟨xs.length,by simp,NV _,U⟩,?_⟩;rintro i m τ ys H2 ⟨rfl,hi,p⟩;refine ⟨S i τ ys H2 p,?_⟩;have q:=ha i τ ys H2 p;by_cases J:i<xs.length
 .refine .inr ⟨⟨xs,xs[i],q,by simp [J]⟩,λx H' y=>?_⟩;obtain ⟨e,y⟩:=y;subst e;exact hs (λz ys H=>∃G,G<xs.length-i/\G=xs.length-(i+1)/\i+1<=xs.length/\F (i+1) z ys H) i x τ ys _ (y xs q) p λz zs H q=>⟨xs.length-(i+1),by lia,rfl,J,q⟩
 .have e:i=xs.length:=by lia
  subst e;exact .inl ⟨⟨xs,q,zv _⟩,λD O n=>hd τ ys H2 p D _ (.mk' O) n⟩
end
end L2
namespace L2
open PySem PySem.Spec PyProof.Rows
def Ris(xs:Array Nat):Prop:=∀i j,i<j->j<xs.size->xs.getD i 0<xs.getD j 0
structure Mm(bt:Bool)(t:SetTable):Prop where
 led:t.led = !bt
 dum:t.dummies = #[]
 ris:Ris t.place
def btW(w:Nl):Bool:=w.params.followText "set-order"
def Kh(e:Int×Value):Int:=numOf e.2
structure mH(prog:M8)(w:Nl)(h:Heap)(a:Addr)(ns:List Int):Prop where
 ex:∃o es ep t,h.get? a=some o/\o.ExactSet/\o.data = .set es ep t/\ElemsOf (PySem.intKind prog w) es.toList/\t.fits es.size=true/\Mm (btW w) t/\(es.toList.map Kh).Perm ns
 few:ns.length<4000
section
variable {prog:M8}{w:Nl}{A:Np}{E:Value->p8->Prop}{s:p8}
theorem mH.at(x:mH prog w h a ns)(k:∀o,h.get? a=some o->h'.get? a=some o):mH prog w h' a ns :=
 let ⟨o,es,ep,t,ho,r⟩:=x.ex;⟨⟨o,es,ep,t,k o ho,r⟩,x.few⟩
end
section
variable {prog:M8}{w:Nl}{A:Np}{E:Value->p8->Prop}{s:p8}
structure SIt(h:Heap)(I a:Addr)(n ep:Nat)(first:Value)(i:Nat):Prop where
 ex:∃o,h.get? I=some o/\o.cls = .type "set_iterator"/\o.data = .fields #[first,.int i 0,.ref a,.int n 0,.int ep 0]
theorem SIt.at(x:SIt h I a n ep first i)(k:∀o,h.get? I=some o->h'.get? I=some o):SIt h' I a n ep first i:=let ⟨o,ho,r⟩:=x.ex;⟨⟨o,k o ho,r⟩⟩
end
end L2
namespace L2
open PySem PySem.Spec PyProof.Rows PySem.W PySem.Calls
end L2
namespace L2
open PySem PySem.Spec PyProof.Rows
section
variable {X:Cx}
def EqR(H:Hp)(x y:V)(b:Bool):Prop:=∃p q zs ws,x = .ref p/\y = .ref q/\H p=some (.tup zs)/\H q=some (.tup ws)/\zs.all zV=true/\ws.all zV=true/\b=eqL zs ws
theorem EqR.at(I:Inv X Go σ H s)(h:EqR H x y b)(rx:zo x u)(ry:zo y v)(hu:A.units<cLine):SeqAt.EqAt A s u v b:=by
 obtain ⟨p,q,xs,ys,rfl,rfl,ha,hb,J,fy,rfl⟩:=h;cases rx;cases ry;by_cases F:p=q
 .subst F;rw [ha] at hb;cases hb;rw [y8 J λx hx b e=>by have:=NM.mp J x hx;rw [e] at this;cases this];exact SeqAt.EqAt.same _
 obtain ⟨is,U,p1,_⟩:=I.tuple (SqT.of (K:=X.K) ha);obtain ⟨G,O,p2,_⟩:=I.tuple (SqT.of (K:=X.K) hb);have l1:=U.length;have l2:=O.length;have z:=SeqAt.RcAt.tuples (A:=A) (e:=λj=>eqV (xs.getD j .non) (ys.getD j .non)) p1 p2 hu λj h1 h2=>by
  simp only [Nc] at h1 h2;have W:xs[j]?=some (xs.getD j .non):=by rw [MW,l6 (by lia)];rfl
  have Z:ys[j]?=some (ys.getD j .non):=by rw [MW,l6 (by lia)];rfl
  obtain ⟨u,g1,q1⟩:=U.get W;obtain ⟨v,g2,q2⟩:=O.get Z;rw [l6 h1] at g1;rw [l6 h2] at g2;have w1:is.toArray[j]=u:=by simpa using NG.inj g1
  have w2:G.toArray[j]=v:=by simpa using NG.inj g2
  rw [w1,w2];exact mO q1 q2 (NM.mp J _ (Na W)) (NM.mp fy _ (Na Z))
 have e:eqL xs ys=((Ra (min is.toArray.size G.toArray.size)).all (λj=>eqV (xs.getD j .non) (ys.getD j .non))&&is.toArray.size==G.toArray.size):=by
  unfold eqL;simp only [Nc];rw [l1,l2];by_cases S:is.length=G.length
  .rw [S];simp
  .have z:(is.length==G.length)=false:=by simpa using S
   rw [z,RA,Bool.and_false]
 rw [e];exact .of_refs F z
theorem Ba{F z pt:Pos}{kt k2 pt2}(hc:X.calm=true)(hN:X.N.Nodup)(hi:X.N[i]?=some x)(O:X.N[j]?=some y)(J:i≠j)(hx:X.env.scope.names.lookup x=some .local)(S:X.env.scope.names.lookup y=some .local)(ha:W (PA X [a,b] ta))(G:swappedStores [.Tuple [.Name x F,.Name y z] kt pt] (.Tuple [a,b] k2 pt2) X.env=pure (some [x,y]))(hs:swapsWithSole [.Tuple [.Name x F,.Name y z] kt pt] (.Tuple [a,b] k2 pt2) pos.line X.env=pure false:=by rfl):
  W (PS X (.Assign [.Tuple [.Name x F,.Name y z] kt pt] (.Tuple [a,b] k2 pt2) pos) (rh i j ta)):=⟨Ej hc hN hi O J hx S ha.h G hs⟩
theorem Lp:rh i j ta D σ H=ta σ H λvs H1=>∃v w,vs=[v,w]/\D.nx ((σ.set i (some v)).set j (some w)) H1:=rfl
end
section
variable {prog:M8}{w:Nl}{A:Np}{E:Value->p8->Prop}{s:p8}
theorem JC(S:Hnd A s.heap)(J:s.heap.IsListIter it l i)(hl:s.heap.IsList l items)(hx:items[i]?=none)(k:∀h',ExtBut it s.heap h'->Q none { s with heap:=h' }):Nb (Nf prog w) A (PP (.ref it)) Q E s:=by
 obtain ⟨o,ho,hc,hd⟩:=id J;obtain ⟨W,F,_,nl,G⟩:=hl;unfold PP;refine fv (Qi (NR (name:=yv "__next__") J.typeIs slot_listiter_next (N2 slot_listiter_next J.typeIs entry_listiter_next ?_ (args_listiter_next _))));refine fv (m:=Rq (.ref it) 0) (Nv ho hd (x:=.ref l) rfl ?_);rw [if_neg (show ¬ ((M3 l==NB)=true) by simp)];refine fv (m:=Rq (.ref it) 1) (Nv ho hd (x:=.int i 0) rfl (fv (m:=RP (.ref l)) (Oq F G ?_)));simp only [OG,hx];refine fv (Pb (fv (Oo ho hd (by simp) ?_)));refine jN (S.keeps λb q U e=>(NC _ _ λz=>?_).trans e) λh' e up=>x3e λo' g' c' =>
  fv (QJ (T:="StopIteration") (b:=true) ⟨o',g',c'⟩ Rp (MZ (k h' λb q hb z=>up b q ((NC _ _ (Ni hb)).trans z))))
 obtain ⟨C,O⟩:=U;rw [<- z,ho] at e;cases e;rw [hc] at O;cases O
theorem Fq{x left step:Int}(S:Hnd A s.heap)(J:Q1 s.heap it x left step)(G:left<=0)(k:∀h',ExtBut it s.heap h'->Q none { s with heap:=h' }):Nb (Nf prog w) A (PP (.ref it)) Q E s:=by
 have O:s.TypeIs (.ref it) "range_iterator":=⟨_,J,rfl⟩;unfold PP;refine fv (Qi (NR (name:=yv "__next__") O F.slot_range_iterator_next (N2 F.slot_range_iterator_next O F.entry_range_iterator_next ?_ (F.args_range_iterator_next_1 _))));refine fv (m:=Rq (.ref it) 0) (Nv J rfl (x:=N4 x) rfl ?_);refine fv (m:=Rq (.ref it) 1) (Nv J rfl (x:=N4 left) rfl ?_);refine fv (m:=Rq (.ref it) 2) (Nv J rfl (x:=N4 step) rfl ?_);show Nb _ _ (if left<=0 then _ else _) _ _ s;rw [if_pos G];refine fv (Pb (fv ?_));exact jN S λh' e up=>x3e λo' g' c' =>
  fv (QJ (T:="StopIteration") (b:=true) ⟨o',g',c'⟩ Rp (MZ (k h' λb q hb z=>up b q z)))
end
theorem Fg{P:M8}{w:Nl}{K:KE}{tg:Nr}(a it:Addr):cS false P w K tg (Itl K a) [it] it (λi h=>h.IsListIter it a i) where
 mem:=by simp
 obj:=(jY (P:=P) (w:=w) (K:=K) (tg:=tg) a it).obj
 keep:=(jY (P:=P) (w:=w) (K:=K) (tg:=tg) a it).keep
 item:=by
  intro X O G W hc i Go s σ H E I hf st hg;subst O G W;obtain ⟨xs,x,z,hx⟩:=hg;obtain ⟨its,F,p,hz⟩:=I.list z;obtain ⟨u,hu,ru⟩:=F.get hx;obtain ⟨Z,S,f2,f3,J,U⟩:=hf it (by simp);refine wpAny_pyNext_list_item st p.isList (x:=u) (by simpa using hu) λh' YQ sb=>?_;have I1:Inv X Go σ H { s with heap:=h' }:=I.turned (t':=s.toks) (λb o hb e=>(sb.2 b hb).trans e) Z S f3 J U;obtain ⟨o,e,c,d⟩:=id YQ;exact ⟨u,rfl,fI (s:={ s with heap:=h' }) e c d (by decide) ⟨x,H,I1,ru,⟨rfl,λys hy=>by rw [I.Sx hy z];exact hx⟩,YQ,λb hb=>(hf b hb).1⟩⟩
 done:=by
  intro X O G W hc i Go s σ H E I hf st hg;subst O G W;obtain ⟨xs,z,hx⟩:=hg;obtain ⟨its,F,p,hz⟩:=I.list z;obtain ⟨Z,S,f2,f3,J,U⟩:=hf it (by simp);have hl:=F.length;exact JC I.hnd st p.isList (by simp;lia) λh' eb=>⟨rfl,I.turned (t':=s.toks) (λb o hb e=>eb b o hb e) Z S f3 J U⟩
 self:=λ_ _ _ _ _ st h=>wpAny_pyIter_listiter st h
theorem Lx{P:M8}{w:Nl}{K:KE}{tg:Nr}(it:Addr)(lo:Int)(n:Nat):cS false P w K tg (Itr lo n) [it] it (λi h=>Q1 h it (lo+(i:Nat)*1) ((n:Int)-(i:Nat)) 1) where
 mem:=by simp
 obj:=(ml (P:=P) (w:=w) (K:=K) (tg:=tg) it lo n).obj
 keep:=(ml (P:=P) (w:=w) (K:=K) (tg:=tg) it lo n).keep
 item:=by
  intro X U S Z hc i Go s σ H E I hf st hg;subst U S Z;obtain ⟨J,F,f2,W,G,O⟩:=hf it (by simp);have hg:i<n:=hg;refine wpAny_pyNext_range_item st (by lia) λh' z sb=>?_;have I1:Inv X Go σ H { s with heap:=h',toks:=s.toks+1 }:=I.turned (λb o hb e=>(sb.2 b hb).trans e) J F W G O;have z:Q1 h' it (lo+((i+1:Nat):Int)*1) ((n:Int)-((i+1:Nat):Int)) 1:=by
   rw [show lo+((i+1:Nat):Int)*1=lo+(i:Int)*1+1 by lia,show (n:Int)-((i+1:Nat):Int)=(n:Int)-(i:Int)-1 by lia];exact z
  refine ⟨_,rfl,fI (s:={ s with heap:=h',toks:=s.toks+1 }) (n:="range_iterator") z rfl rfl (by decide) ⟨.int (lo+i),H,I1,⟨s.toks,?_⟩,⟨rfl,rfl⟩,z,λb hb=>(hf b hb).1⟩⟩;rw [Int.mul_one]
 done:=by
  intro X U S Z hc i Go s σ H E I hf st hg;subst U S Z;obtain ⟨J,F,f2,W,G,O⟩:=hf it (by simp);exact Fq I.hnd st (by have:n<=i:=hg;lia) λh' eb=>⟨rfl,I.turned (t':=s.toks) (λb o hb e=>eb b o hb e) J F W G O⟩
 self:=λ_ _ _ _ _ st h=>wpAny_pyIter_rangeiter st h
section
variable {X:Cx}{tg:Nr}
theorem J1(hl:PE X l tl):PIc false X tg l (jf X.K tl):=by
 intro Go s σ H R I h;refine thn (hl Go s σ H _ I h) λv s1=>x5e λx H1 z F J=>?_;obtain ⟨a,e,⟨xs,G⟩,q⟩:=J;subst e;cases F;obtain ⟨its,S,p,O⟩:=z.list G;refine O4 p.isList ?_;refine ⟨s1.heap.objs.size,[s1.heap.objs.size],_,_,H1,rfl,z.kept (t':=s1.toks) λb o e=>we _ e,Fg a _,⟨_,Nd _ rfl,rfl,rfl⟩,λb hb=>?_,q⟩;have e:b=s1.heap.objs.size:=by simpa using hb
 subst e;exact z.SR (zv _) (z.hok.fresh (zv _))
theorem Gk{p pos:Pos}(hg:Gl X "range")(hm:X.mg "range"=none)(ha:PA X [a] ta)(O:zW a=true:=by rfl):PIc false X tg (.Call (.Name "range" p) [a] [] pos) (iR ta):=by
 intro Go s σ H R I h;refine Call_ (dI I hg hm boot_range (Od (thn (ha pos Go s σ H _ I h) λus s1=>x5e λvs H1 J G F=>?_) (cw O) rfl));obtain ⟨j,e,F,U,q⟩:=F;subst e;cases G with
 | cons r W =>
  cases W;obtain ⟨t,rfl⟩:=r;refine call_range_1 (wpAny_pyIter_range (IsRange.new ..) (small_one (by lia) (by lia) F U) ?_);have z:Inv X Go σ H1 { s1 with heap:=s1.heap.push { cls:=.type "range",data:=.fields #[.int 0 s1.toks,.int j t,.int 1 (s1.toks+1)] },toks:=s1.toks+1+1 }:=J.kept λb o e=>we _ e;refine ⟨_,[_],_,_,H1,rfl,z.kept (t':=s1.toks+1+1) λb o e=>we _ e,Lx _ 0 j.toNat,?_,λb hb=>?_,q⟩
  .have S:((j.toNat:Nat):Int)-((0:Nat):Int)=Ng.Range.rangeSize 0 j 1:=by rw [rangeSize_one];split<;>lia
   show Q1 _ _ (0+((0:Nat):Int)*1) (((j.toNat:Nat):Int)-((0:Nat):Int)) 1;rw [S];exact Nd _ rfl
  .have e:b=_:=M0.mp hb;subst e;exact z.SR (zv _) (z.hok.fresh (zv _))
theorem C1(hl:W (PE X l tl)):W (PIc false X tg l (jf X.K tl)):=⟨J1 hl.h⟩
theorem G6{p pos:Pos}(hg:Gl X "range")(hm:X.mg "range"=none)(ha:W (PA X [a] ta))(z:zW a=true:=by rfl):W (PIc false X tg (.Call (.Name "range" p) [a] [] pos) (iR ta)):=⟨Gk hg hm ha.h z⟩
end
theorem Ei{α β:Type}{f:α->β}{a:α}{l:List α}:(a::l).map f=f a::l.map f:=rfl
theorem BH{α β:Type}{f:α->β}:([]:List α).map f=[]:=rfl
theorem Cr:(!true)=false:=rfl
theorem IM:(!false)=true:=rfl
theorem fsc(a:sc.kind = .function:=by rfl)(b:sc.isCoroutine=false:=by rfl)(c:sc.isGenerator=false:=by rfl)(d:N.Nodup:=by decide +kernel)(e:N.take P.length=P:=by rfl)(f:∀x∈P,sc.names.lookup x=some .local\/sc.names.lookup x=some .cell:=by decide +kernel)(g:∀y∈sc.names,y.2≠.free:=by decide +kernel):zw N P sc:=⟨a,b,c,d,e,f,g⟩
abbrev FnM(K:KE)(x:Str)(st:Stmt):Prop:=∃f fd,OV K M6 x=some (some (.ref f))/\Fun K x x st f fd
abbrev au(K:KE)(C:Addr)(m q:Str)(st:Stmt):Prop:=∃f fd,Ot K (.ref C) m=some (some (.ref f))/\isFn K (.ref f)=true/\Fun K m q st f fd
theorem u1{α:Type}{p:List α->Prop}(h:∀a,p [a]):∀us,us.length=1->p us
 | [a],_=>h a
theorem u2{α:Type}{p:List α->Prop}(h:∀a b,p [a,b]):∀us,us.length=2->p us
 | [a,b],_=>h a b
theorem u3{α:Type}{p:List α->Prop}(h:∀a b c,p [a,b,c]):∀us,us.length=3->p us
 | [a,b,c],_=>h a b c
theorem u4{α:Type}{p:List α->Prop}(h:∀a b c d,p [a,b,c,d]):∀us,us.length=4->p us
 | [a,b,c,d],_=>h a b c d
theorem u5{α:Type}{p:List α->Prop}(h:∀a b c d e,p [a,b,c,d,e]):∀us,us.length=5->p us
 | [a,b,c,d,e],_=>h a b c d e
section
variable {w:Nl}{K:KE}{mg:Str->Option Value}{h:Heap}{k:Nat}{x q:Str}{C:Addr}{ps:List Str}{sp:Sp}{st:Stmt} (P:M8) (base:Heap) (cm:Bool)
abbrev BdA(x q:Str)(st:Stmt)(ps:List Str):Prop:=∀(kV F pm:Value)(z:Option Addr)(G ct:Value)(us:List Value),us.length=ps.length->bindArgs (fnOf x q (gB st) (cT st) (zj st) .none kV F pm z G ct) ⟨us,[]⟩=pure (ps.zip us)
theorem gf(X:K.In h)(G:h.Ns M6 mg)(m:FnM K x st)(o:∀f fd,Fun K x x st f fd->zm P w K mg base CX0 cm k f fd ps sp)(b:BdA x x st ps):GF P w K mg base cm k x ps sp:=let ⟨f,fd,a,F⟩:=m;⟨f,fd,o f fd F,O5 X G a,F.kp,F.binds b⟩
theorem gx(X:K.In h)(G:h.Ns M6 mg)(m:FnM K x st)(o:∀f fd,Fun K x x st f fd->zm P w K mg base (CXW P w) cm k f fd ps sp)(b:BdA x x st ps):GX P w K mg base cm k x ps sp:=let ⟨f,fd,a,F⟩:=m;⟨f,fd,o f fd F,O5 X G a,F.kp,F.binds b⟩
theorem gm(m:au K C x q st)(o:∀f fd,Fun K x q st f fd->zm P w K mg base CX0 cm k f fd ps sp)(b:BdA x q st ps):GM P w K mg base cm k C x ps sp:=let ⟨f,fd,a,i,F⟩:=m;⟨f,fd,o f fd F,⟨a,i,F.kp⟩,F.binds b⟩
theorem gmx(m:au K C x q st)(o:∀f fd,Fun K x q st f fd->zm P w K mg base (CXW P w) cm k f fd ps sp)(b:BdA x q st ps):GMX P w K mg base cm k C x ps sp:=let ⟨f,fd,a,i,F⟩:=m;⟨f,fd,o f fd F,⟨a,i,F.kp⟩,F.binds b⟩
theorem gc(X:K.In h)(G:h.Ns M6 mg)(c:OV K M6 x=some (some (.ref C)))(mk:makesIn K C=true)(z:QL K (.ref C)=true)(m:au K C We q st)(o:∀f fd,Fun K We q st f fd->zm P w K mg base CX0 cm k f fd ps sp)(b:BdA We q st ps):GC P w K mg base cm k x C ps sp:=let ⟨f,fd,a,i,F⟩:=m;⟨f,fd,o f fd F,O5 X G c,⟨mk,a,i,z⟩,F.binds b⟩
end
def jc(i:Nat):TE:=λσ H Q=>match σ[i]? with|some (some v)=>Q v H|_=>False
def rID(C:Int->Int->Prop)(g:Int->Int->V):R2:=λx y H Q=>match x,y with | .int i,.int j=>C i j/\Q (g i j) H|_,_=>False
def ye(g:Int->Int->V):R2:=λx y H Q=>match x,y with | .int i,.int j=>Q (g i j) H|_,_=>False
section
variable {X:Cx}{f:Value->Value->Sem Value}{C:Int->Int->Prop}{g:Int->Int->V}
theorem pvD(i:Nat)(hN:X.N[i]?=some x:=by rfl)(z:Vis X.env.scope x:=by first|exact M5 rfl|exact Ru (M5 rfl)|exact Ru (Ru rfl))(hd:(x==("__debug__":Str))=false:=by decide)(F:(x==("__classdict__":Str))=false:=by decide):PE X (.Name x pos) (jc i):=λGo s σ H Q I h=>pv i hN z hd F Go s σ H Q I (by
 unfold jc at h;split at h
 .exact ⟨_,by assumption,h⟩
 .exact h.elim)
theorem za(i:Nat)(hN:X.N[i]?=some x:=by rfl)(z:Vis X.env.scope x:=by first|exact M5 rfl|exact Ru (M5 rfl)|exact Ru (Ru rfl))(hd:(x==("__debug__":Str))=false:=by decide)(F:(x==("__classdict__":Str))=false:=by decide):W (PE X (.Name x pos) (jc i)):=⟨pvD i hN z hd F⟩
theorem oI(h:OpR X f (rI C g)):OpR X f (rID C g):=h.weak λx y H Q q=>by
 cases x<;>cases y<;>first|exact q.elim|exact ⟨_,_,rfl,rfl,q⟩
theorem oI0(h:OpR X f (rI0 g)):OpR X f (ye g):=h.weak λx y H Q q=>by
 cases x<;>cases y<;>first|exact q.elim|exact ⟨_,_,rfl,rfl,q⟩
end
section
variable {i j:Int}{H:Hp}{Q:VK}{C:Int->Int->Prop}{g:Int->Int->V}
theorem Ik:rID C g (.int i) (.int j) H Q=(C i j/\Q (g i j) H):=rfl
theorem EA:ye g (.int i) (.int j) H Q=Q (g i j) H:=rfl
end
abbrev clT(t:TE):TE:=λσ H Q=>∃R:VK,t σ H R/\∀v H,R v H->Q v H
abbrev clR(r:R2):R2:=λx y H Q=>∃R:VK,r x y H R/\∀v H,R v H->Q v H
abbrev clA(t:TA):TA:=λσ H Q=>∃R:List V->Hp->Prop,t σ H R/\∀v H,R v H->Q v H
def bD(v:V)(q:Bool->Prop):Prop:=match v with | .bl c=>q c|_=>False
def aD(v:V)(q:Addr->Prop):Prop:=match v with | .ref a=>q a|_=>False
theorem xQ:bD (.bl c) q=q c:=rfl
theorem AE:aD (.ref a) q=q a:=rfl
theorem bD.ex(h:bD v q):∃c,v = .bl c/\q c:=by
 cases v<;>first|exact ⟨_,rfl,h⟩|exact h.elim
theorem aD.ex(h:aD v q):∃a,v = .ref a/\q a:=by
 cases v<;>first|exact ⟨_,rfl,h⟩|exact h.elim
def uy(t:TE):TT:=λσ H Q=>t σ H λx H1=>bD x λc=>Q c H1
def uZ(ta tb:TE):TE:=λσ H Q=>ta σ H λx H1=>bD x λc=>if c=true then tb σ H1 Q else Q (.bl false) H1
def u7(ta:TE):TE:=λσ H Q=>ta σ H λx H1=>bD x λc=>Q (.bl (!c)) H1
def qr(C:Addr)(m:Str)(sp:Sp)(E:XK)(ta:TE)(t:TA):TE:=λσ H Q=>ta σ H λx H1=>aD x λa=>∃dx fs,H1 a=some (.ins C dx fs)/\fs.lookup m=none/\t σ H1 λvs H2=>sp (.ref a::vs) H2 Q E
def qe(C:Addr)(m:Str)(sp:Sp)(Ex:Addr->St->Hp->Prop)(ta:TE)(t:TA):TE:=λσ H Q=>ta σ H λx H1=>aD x λa=>∃dx fs,H1 a=some (.ins C dx fs)/\fs.lookup m=none/\t σ H1 λvs H2=>sp (.ref a::vs) H2 Q (XE Ex σ)
def rm(sp:Sp)(E:XK)(t:TA):TE:=λσ H Q=>t σ H λvs H1=>sp vs H1 Q E
def xg(sp:Sp)(Ex:Addr->St->Hp->Prop)(t:TA):TE:=λσ H Q=>t σ H λvs H1=>sp vs H1 Q (XE Ex σ)
def rN(C:Addr)(ta:TE)(f:Str):TE:=λσ H Q=>ta σ H λx H1=>aD x λa=>∃dx fs v,H1 a=some (.ins C dx fs)/\fs.lookup f=some v/\Q v H1
def tI(C:Addr)(ta tv:TE)(f:Str):TS:=λD σ H=>tv σ H λy H1=>ta σ H1 λx H2=>aD x λa=>∃dx fs,H2 a=some (.ins C dx fs)/\fs.length<1000/\D.nx σ (upd H2 a (.ins C dx (zR f y fs)))
def uU(K:KE)(tl:TE):TI:=λσ H R=>tl σ H λx H1=>aD x λa=>(∃xs,SqL K H1 a xs)/\R (Itl K a) H1
def xI(t:TG)(u:TGs):TGs:=λvs σ H Q=>match vs with|v::r=>t v σ H λz H'=>u r z H' Q|[]=>False
theorem Ib{t:TG}{r:List V}:xI t u (v::r) σ H Q=t v σ H λz H'=>u r z H' Q:=rfl
def qo:R2:=λx y H Q=>match x,y with
 | .ref a,.int i=>∃xs,(H a=some (.lst xs)\/H a=some (.tup xs))/\∃v,atI xs i=some v/\Q v H
 | .str x,.int i=>x.length<=sizeLine/\∃c,atI x.cps.toList i=some c/\Q (.str ⟨#[c]⟩) H
 | _,_=>False
def mP:List V->Hp->VK->Prop:=λxs H Q=>match xs with
 | [.ref a]=>∃ys,(H a=some (.lst ys)\/H a=some (.tup ys))/\Q (.int ys.length) H
 | [.str x]=>x.length<=sizeLine/\Q (.int x.length) H
 | _=>False
def ja(c:Bool):R2:=λx y H Q=>match x,y with
 | .int i,.int j=>Q (.bl (if c then !decide (i=j) else decide (i=j))) H
 | .str i,.str j=>Q (.bl (if c then !decide (i=j) else decide (i=j))) H
 | .bl i,.bl j=>Q (.bl (if c then !decide (i=j) else decide (i=j))) H
 | .ref a,.ref b=>∃xs ys,H a=some (.lst xs)/\H b=some (.lst ys)/\xs.all zV=true/\ys.all zV=true/\Q (.bl (if c then !eqL xs ys else eqL xs ys)) H
 | _,_=>False
def gH:R2:=λx y H Q=>match x,y with
 | .int i,.int j=>Q (.int (i+j)) H
 | .str x,.str y=>x.length+y.length<=sizeLine/\Q (.str (x++y)) H
 | .ref a,.ref b=>∃xs zs,H a=some (.lst xs)/\H b=some (.lst zs)/\xs.length+zs.length<=sizeLine/\∀p H2,New H p (.lst (xs++zs)) H2->Q (.ref p) H2
 | _,_=>False
section
variable {H:Hp}{Q:VK}{i j:Int}{x y:Str}{a b:Addr}{k k' c:Bool}
theorem gG:qo (.ref a) (.int i) H Q = ∃xs,(H a=some (.lst xs)\/H a=some (.tup xs))/\∃v,atI xs i=some v/\Q v H:=rfl
theorem wo:qo (.str x) (.int i) H Q=(x.length<=sizeLine/\∃c,atI x.cps.toList i=some c/\Q (.str ⟨#[c]⟩) H):=rfl
theorem nH:mP [.ref a] H Q = ∃ys,(H a=some (.lst ys)\/H a=some (.tup ys))/\Q (.int ys.length) H:=rfl
theorem Mc:mP [.str x] H Q=(x.length<=sizeLine/\Q (.int x.length) H):=rfl
theorem tS:ja c (.int i) (.int j) H Q=Q (.bl (if c then !decide (i=j) else decide (i=j))) H:=rfl
theorem nX:ja c (.str x) (.str y) H Q=Q (.bl (if c then !decide (x=y) else decide (x=y))) H:=rfl
theorem E6:ja c (.bl k) (.bl k') H Q=Q (.bl (if c then !decide (k=k') else decide (k=k'))) H:=rfl
theorem vd:ja c (.ref a) (.ref b) H Q = ∃xs ys,H a=some (.lst xs)/\H b=some (.lst ys)/\xs.all zV=true/\ys.all zV=true/\Q (.bl (if c then !eqL xs ys else eqL xs ys)) H:=rfl
theorem fS:gH (.int i) (.int j) H Q=Q (.int (i+j)) H:=rfl
theorem IB:gH (.str x) (.str y) H Q=(x.length+y.length<=sizeLine/\Q (.str (x++y)) H):=rfl
theorem iJ:gH (.ref a) (.ref b) H Q = ∃xs zs,H a=some (.lst xs)/\H b=some (.lst zs)/\xs.length+zs.length<=sizeLine/\∀p H2,New H p (.lst (xs++zs)) H2->Q (.ref p) H2:=rfl
end
section
variable {X:Cx}{e:Nr}{es:List Nr}{st:Stmt}{t ta tb tv:TE}{tA:TA}{r:R2}{f:Value->Value->Sem Value}{C:Addr}{m:Str}{sp:Sp}{E:XK}{Ex:Addr->St->Hp->Prop}{c:Bool}
theorem clE(h:W (PE X e t)):W (PE X e (clT t)):=⟨λGo s σ H Q I=>x3e λR q z=>thn (h.h Go s σ H R I q) λ_ _=>x5e λv H' a b c=>⟨v,H',a,b,z _ _ c⟩⟩
theorem clO(h:OpR X f r):OpR X f (clR r):=λGo s σ H x y v u Q I F G=>x3e λR q z=>thn (h Go s σ H x y v u R I F G q) λ_ _=>x5e λv H' a b c=>⟨v,H',a,b,z _ _ c⟩
theorem clP(h:W (PA X es tA)):W (PA X es (clA tA)):=⟨h.h.any⟩
theorem peD(h:W (PE X e t))(w:∀σ H Q,t' σ H Q->t σ H Q):W (PE X e t'):=⟨λGo s σ H Q I q=>h.h Go s σ H Q I (w σ H Q q)⟩
theorem tD(h:W (PT X e (k8 (tOp (clR r) (clT ta) (clT tb))))):W (PT X e (uy (tOp r ta tb))):=⟨λGo s σ H Q I q=>h.h Go s σ H Q I ⟨_,q,λx H1 J=>⟨_,J,λy H2 F=>⟨_,F,λz H3 G=>G.ex⟩⟩⟩⟩
theorem anD(h:W (PE X e (qc (clT ta) tb))):W (PE X e (uZ ta tb)):=peD h λσ H Q q=>⟨_,q,λx H1 z=>z.ex⟩
theorem ntD(h:W (PE X e (qF (clT ta)))):W (PE X e (u7 ta)):=peD h λσ H Q q=>⟨_,q,λx H1 z=>z.ex⟩
theorem mD(h:W (PE X e (eW C m sp [] E (clT ta) (clA tA)))):W (PE X e (qr C m sp E ta tA)):=peD h λσ H Q q=>⟨_,q,λx H1 G=>by
 obtain ⟨a,rfl,dx,fs,h1,h2,z⟩:=G.ex;exact ⟨a,dx,fs,rfl,h1,h2,_,z,λvs H2 F=>by dsimp only;rw [Oz];exact F⟩⟩
theorem m0D(h:W (PE X e (eW C m sp [] E (clT ta) bQ))):W (PE X e (qr C m sp E ta bQ)):=peD h λσ H Q q=>⟨_,q,λx H1 F=>by
 obtain ⟨a,rfl,dx,fs,h1,h2,z⟩:=F.ex;exact ⟨a,dx,fs,rfl,h1,h2,z⟩⟩
theorem mXD(h:W (PE X e (eX C m sp [] Ex (clT ta) (clA tA)))):W (PE X e (qe C m sp Ex ta tA)):=peD h λσ H Q q=>⟨_,q,λx H1 G=>by
 obtain ⟨a,rfl,dx,fs,h1,h2,z⟩:=G.ex;exact ⟨a,dx,fs,rfl,h1,h2,_,z,λvs H2 F=>by dsimp only;rw [Oz];exact F⟩⟩
theorem iA(h:W (PE X e (eX C m sp [] Ex (clT ta) bQ))):W (PE X e (qe C m sp Ex ta bQ)):=peD h λσ H Q q=>⟨_,q,λx H1 F=>by
 obtain ⟨a,rfl,dx,fs,h1,h2,z⟩:=F.ex;exact ⟨a,dx,fs,rfl,h1,h2,z⟩⟩
theorem caD(h:W (PE X e (jE sp [] E (clA tA)))):W (PE X e (rm sp E tA)):=peD h λσ H Q q=>⟨_,q,λvs H2 z=>by dsimp only;rw [Oz];exact z⟩
theorem cXD(h:W (PE X e (kI sp [] Ex (clA tA)))):W (PE X e (xg sp Ex tA)):=peD h λσ H Q q=>⟨_,q,λvs H2 z=>by dsimp only;rw [Oz];exact z⟩
theorem fD(h:W (PE X e (km C (clT ta) m))):W (PE X e (rN C ta m)):=peD h λσ H Q q=>⟨_,q,λx H1 F=>by
 obtain ⟨a,rfl,dx,fs,v,z⟩:=F.ex;exact ⟨a,dx,fs,v,rfl,z⟩⟩
theorem sfD(h:W (PS X st (lQ C (clT ta) (clT tv) m))):W (PS X st (tI C ta tv m)):=⟨λGo s σ H D I q=>h.h Go s σ H D I ⟨_,q,λy H1 G=>⟨_,G,λx H2 z=>by
 obtain ⟨a,rfl,dx,fs,F⟩:=z.ex;exact ⟨a,dx,fs,rfl,F⟩⟩⟩⟩
theorem liD(h:W (PIc c X tg e (jf X.K (clT ta)))):W (PIc c X tg e (uU X.K ta)):=⟨λGo s σ H R I q=>h.h Go s σ H R I ⟨_,q,λx H1 z=>z.ex⟩⟩
theorem gsD(h:W (PGs X ts (oZ g u))):W (PGs X ts (xI g u)):=⟨λGo s σ H vs us Q I z q=>h.h Go s σ H vs us Q I z (by cases vs with|nil=>exact q.elim|cons v r=>exact ⟨v,r,rfl,q⟩)⟩
theorem zP:IxR X qo:=Km.weak λx y H Q h=>by
 cases x<;>cases y<;>first|exact h.elim|skip
 .rename_i a i;exact (uW (x:=a) (i:=i)).mpr h
 .rename_i a i;exact (ui (a:=a) (i:=i)).mpr h
theorem bf:zN X (.builtin "len") mP:=HI.weak λxs H Q h=>by
 match xs,h with
 | [.ref a],h=>exact (vt (a:=a)).mpr h
 | [.str x],h=>exact (AM (x:=x)).mpr h
theorem oE{f:Value->Value->Sem Value}(h:OpR X f (uEq c)):OpR X f (ja c):=h.weak λx y H Q h=>by
 cases x<;>cases y<;>first|exact h.elim|exact wW.mpr h|exact wk.mpr h|exact Af.mpr h|exact tQ.mpr h
theorem aF:OpR X (OE .Add) gH:=sS.weak λx y H Q h=>by
 cases x<;>cases y<;>first|exact h.elim|exact w9.mpr h|exact xE.mpr h|exact nE.mpr h
end
end L2
namespace HT
open PySem PyProof.Rows
def lexLe:List Int->List Int->Bool
 | [],_=>true
 | _::_,[]=>false
 | x::xs,y::ys=>if x=y then lexLe xs ys else decide (x<=y)
theorem GA(A:Np)(s:p8)(a:Int)(t:Tok)(c:Int)(u:Tok)(prog:M8)(w:Nl)(E:Value->p8->Prop)(Q:Value->p8->Prop)(h:Q (.bool (decide (a<=c))) s) :
  Nb (Nf prog w) A (richCompare .LtE (.int a t) (.int c u)) Q E s :=
 (PyProof.Rows.le_int h:Nb (Nf prog w) A (NK .LtE (.int a t) (.int c u)) Q E s)
section
open PySem.SeqAt
open PySem.AutoSeq1 (wpAny_loadPart')
open PySem.MeetsSeq PySem.MeetsSeq2 PySem.MeetsSeq3
theorem HK(l b:Addr)(items U:Array Value)(n n2:Nat)(dd XR:Option Addr)(sl ag:Array (Option Value))(ns ms:List Int)(hi:Pz items.toList ns)(hj:Pz U.toList ms) :
  Meets (Ng.«tuple.__le__» ⟨[.ref l,.ref b],[]⟩)
   (λ_ R s=>s.heap.get? l=some { cls:=.type "tuple",dict:=dd,data:=.seq items n,slots:=sl }/\s.heap.get? b=some { cls:=.type "tuple",dict:=XR,data:=.seq U n2,slots:=ag } /\
    R (.ok (.ret (.bool (lexLe ns ms)))) s) :=
 .of_wp λprog w A R s h=>by
  obtain ⟨hp,g,d,tk,os⟩:=s;obtain ⟨hl,hb,h⟩:=h;have f2:=AutoSeq1.sub_tuple_tuple;have z1:items.size=ns.length:=by rw [<- hi.length];simp
  have z2:U.size=ms.length:=by rw [<- hj.length];simp
  wp_walk using Q4 hl,Q4 hb,wpAny_forIn_list _ (λZo b s'=>b.1=none/\s'=⟨hp,g,d,tk,os⟩/\∃(vs ws:List Value)(ns' z:List Int),Zo=vs.zip ws /\
   Pz vs ns'/\Pz ws z/\ns'.length+U.size=z.length+items.size/\R (.ok (.ret (.bool (lexLe ns' z)))) ⟨hp,g,d,tk,os⟩) _
  case turn =>
   rintro ⟨y,x⟩ Zo b s' ⟨XN,rfl,vs,ws,ns',z,F,O,S,Z6,J⟩;cases O with
   | nil=>rw [List.zip_nil_left] at F;cases F
   | cons a t W =>
    cases S with
    | nil=>rw [List.zip_nil_right] at F;cases F
    | cons c u Z =>
     rw [PC] at F;injection F with hyx hrest
     injection hyx with hy hx
     subst hy hx;unfold lexLe at J;simp only [N6] at Z6;obtain ⟨e,he,G⟩:=Bj A.in1 ⟨hp,g,d,tk,os⟩ a t c u;refine fv (he prog w _ _ ?_);cases e with
     | true =>
      rw [if_pos (G.mp rfl)] at J
      wp_walk
      exact ⟨rfl,rfl,_,_,_,_,hrest,W,Z,by lia,J⟩
     | false =>
      rw [if_neg (λq=>absurd (G.mpr q) M4)] at J;have ab:=GA A.in1 ⟨hp,g,d,tk,os⟩ a t c u prog w
      wp_walk using ab
      exact ⟨_,rfl,by simpa using J⟩
  case fin =>
   rintro ⟨b1,b2⟩ s' ⟨XN,rfl,vs,ws,ns',z,F,O,S,Z6,J⟩;simp only at XN;subst XN;have hv:lexLe ns' z=decide (items.size<=U.size):=by
    cases O with
    | nil =>
     simp only [Pq] at Z6;exact (decide_eq_true (by lia)).symm
    | cons a t hv =>
     cases S with
     | nil =>
      simp only [Pq,N6] at Z6;exact (decide_eq_false (by lia)).symm
     | cons c u hw =>
      rw [PC] at F;cases F
   rw [hv] at J
   wp_walk
   exact ⟨_,rfl,by simpa [Ng.Tuple.tupleCompareSizes] using J⟩
  case h =>
   exact ⟨rfl,rfl,items.toList,U.toList,ns,ms,rfl,hi,hj,by lia,h⟩
end
section
variable {prog:M8}{w:Nl}{A:Np}{E:Value->p8->Prop}{s:p8}
theorem le_tupInts(hl:Rc s.heap l items)(hb:Rc s.heap b O)(hi:Pz items.toList ns)(hj:Pz O.toList ms)(Z:A.units<cLine)(h:Q (.bool (lexLe ns ms)) s):Nb (Nf prog w) A (NK .LtE (.ref l) (.ref b)) Q E s:=by
 obtain ⟨⟨cls,dd,data,sl⟩,ho,hc,n,hd⟩:=id hl;obtain ⟨⟨U,W,data2,S⟩,G,z,n2,J⟩:=id hb;simp only at hc hd z J;subst hc hd z J;exact richCompare_meets_room (op:=.LtE) ⟨_,ho,rfl⟩ ⟨_,G,rfl⟩ PySem.F.slot_tuple_le PySem.F.entry_tuple_le (PySem.F.args_tuple_le_2 _ _) (HK l b items O n n2 dd W sl S ns ms hi hj)
  ⟨ho,G,show Px (lexLe ns ms)≠Value.notImplemented/\Q (.bool (lexLe ns ms)) s from ⟨(λx=>nomatch x),h⟩⟩ Z
end
end HT
namespace L2
open PySem PySem.Spec PyProof.Rows
section
variable {X:Cx}
def AH(K:KE):R2:=λx y H Q=>∃a b ns ms,x = .ref a/\y = .ref b/\SqT K H a (ns.map V.int)/\SqT K H b (ms.map V.int)/\Q (.bl (HT.lexLe ns ms)) H
theorem Hu(O:X.A.units<cLine):OpR X (NK .LtE) (AH X.K):=by
 intro Go s σ H x y v u Q I F J h;obtain ⟨a,b,ns,ms,rfl,rfl,ha,hb,q⟩:=h;cases F;cases J;obtain ⟨its,z,S,_⟩:=I.tuple ha;obtain ⟨G,U,p2,_⟩:=I.tuple hb;have i1:Pz its.toArray.toList ns:=pB z;have i2:Pz G.toArray.toList ms:=pB U;exact HT.le_tupInts S p2 i1 i2 O ⟨.bl (HT.lexLe ns ms),H,I,rfl,q⟩
def ll(K:KE)(a b:Addr):It :=
 ⟨λi H=>∃xs ys x y,SqL K H a xs/\SqL K H b ys/\xs[i]?=some x/\ys[i]?=some y,λi H v H'=>∃T x y,H T=none/\v = .ref T/\H'=upd H T (.tup [x,y])/\(∀xs,SqL K H a xs->xs[i]?=some x)/\∀ys,SqL K H b ys->ys[i]?=some y,
  λi H=>∃xs ys,SqL K H a xs/\SqL K H b ys/\(xs.length<=i\/ys.length<=i)⟩
theorem L9{P:M8}{w:Nl}{K:KE}{Zr:List Nr}{kk:Nat}{tp:Pos}{l1 S z TI TO i1 i2:Addr}(D:ZipApart z TI TO i1 i2 l1 S) :
  cS true P w K (.Tuple Zr kk tp) (ll K l1 S) [z,TI,TO,i1,i2] z (gK z TI TO i1 i2 l1 S) where
 mem:=by simp
 obj:=λi h st b hb=>by
  obtain ⟨a1,J,⟨u,v,a3⟩,⟨o4,Z,_,d4⟩,⟨o5,a5,_,d5⟩⟩:=st;simp only [MX,M1,or_false] at hb;rcases hb with rfl|rfl|rfl|rfl|rfl
  .exact ⟨_,a1,λv q=>nomatch q⟩
  .exact ⟨_,J,λv q=>nomatch q⟩
  .exact ⟨_,a3,λv q=>nomatch q⟩
  .exact ⟨_,Z,λv q=>by rw [d4] at q;cases q⟩
  .exact ⟨_,a5,λv q=>by rw [d5] at q;cases q⟩
 keep:=λi h h' st k=>st.keep k
 item:=λX U G hK _=>KP D X U G hK
 done:=by
  intro X U G hK hc i Go s σ H E I hf st hg;subst U G hK;obtain ⟨xs,ys,Xu,O,hx⟩:=hg;obtain ⟨ag,XU,p1,ab⟩:=I.list Xu;obtain ⟨ai,W,p2,aj⟩:=I.list O;have hl:=XU.length;have X6:=W.length;obtain ⟨a1,J,⟨u,v,a3⟩,Z,a5⟩:=st;refine wpAny_pyNext_zip_end (I.ok.hd (hc rfl)) D a1 J a3 Z a5 p1.isList p2.isList (by rcases hx with h|h;exact .inl (by simp;lia);exact .inr (by simp;lia)) λh' up=>⟨rfl,?_⟩;refine I.step (g':=s.gens) (d':=s.drawn) (t':=s.toks) (ch:=[z,TO,i1,i2]) (λb hb=>?_) (λb o _ _ hb e _=>?_) (λb o _ _ hb e _=>?_) (λ_ _ _ _ n=>n) (λb o hb e=>?_) (λ_ _ e=>e) (λ_ _ _ e=>e) (λb ps e=>⟨#[],by rw [e];simp⟩) (λm hm=>?_) (λb u e=>?_) I.bare
  .have XN:b∈[z,TI,TO,i1,i2]:=by simp only [MX,M1,or_false] at hb ⊢;rcases hb with h|h|h|h<;>simp [h]
   obtain ⟨f0,f1,f2,f3,f4,f5⟩:=hf b XN;exact ⟨f3,f1,f4,f5⟩
  .simp only [MX,M1,or_false,not_or] at hb;exact up b o hb.1 hb.2.1 hb.2.2.1 hb.2.2.2 e
  .simp only [MX,M1,or_false,not_or] at hb;exact ⟨o.slots,up b o hb.1 hb.2.1 hb.2.2.1 hb.2.2.2 e⟩
  .simp only [MX,M1,or_false,not_or] at hb;exact ⟨o,up b o hb.1 hb.2.1 hb.2.2.1 hb.2.2.2 e⟩
  .obtain ⟨o,es,ep,ho,r⟩:=hm;exact ⟨o,es,ep,up _ o (Ni (hf z (by simp)).2.1) (Ni (hf TO (by simp)).2.1) (Ni (hf i1 (by simp)).2.1) (Ni (hf i2 (by simp)).2.1) ho,r⟩
  .refine (I.hok b u e).stay (λc v hc q=>?_) (λ_ q=>q) λ_ _ q=>q;have F:∀d∈[z,TI,TO,i1,i2],c≠d:=λd hd w=>by
    have fd:=(hf d hd).1;rcases hc with k|k
    .rw [k] at w;rw [w,fd] at e;cases e
    .rw [w,fd] at k;cases k
   exact up c v (F z (by simp)) (F TO (by simp)) (F i1 (by simp)) (F i2 (by simp)) q
 self:=λ_ _ _ _ _ st h=>QI st.z h
def Ab(K:KE)(ta:TA):TI:=λσ H R=>ta σ H λvs H1=>uR2 vs λa b=>(∃xs,SqL K H1 a xs)/\(∃ys,SqL K H1 b ys)/\R (ll K a b) H1
theorem Kq{tp p pos:Pos}(hg:Gl X "zip")(hm:X.mg "zip"=none)(ha:W (PA X [a,b] ta))(hp:zW a=true:=by rfl)(F:zW b=true:=by rfl):
  W (PIc true X (.Tuple Zr kk tp) (.Call (.Name "zip" p) [a,b] [] pos) (Ab X.K ta)):=by
 refine ⟨?_⟩;have ha:=ha.h;have hs:=A9 (env:=X.env) hp F;have U:=cw (env:=X.env) F;intro Go s σ H R I h;refine Call_ (dI I hg hm boot_zip (Od (thn (ha pos Go s σ H _ I h) λus s1=>x5e λvs H1 z r1 q1=>?_) (by rw [hs,U]) (by rw [U];rfl)));obtain ⟨l1,O,e,⟨xs,h1⟩,⟨ys,h2⟩,q⟩:=q1;subst e;obtain ⟨_,_,rfl,r,r'⟩:=zp.two r1;cases (show _=M3 l1 from r);cases (show _=M3 O from r');obtain ⟨ab,XU,S,_⟩:=z.list h1;obtain ⟨ai,ag,p2,_⟩:=z.list h2;have G:l1<s1.heap.objs.size:=by obtain ⟨o,e,_⟩:=S.isList;exact Nj e
 have J:O<s1.heap.objs.size:=by obtain ⟨o,e,_⟩:=p2.isList;exact Nj e
 refine call_zip_2 S.isList p2.isList λh' Z a2 a3 a4 a5 a6 a7=>QI (s:={ s1 with heap:=h' }) Z ?_;refine ⟨_,_,_,_,H1,rfl,z.kept (t':=s1.toks) a7,L9 (zipApart_new G J),⟨Z,a2,⟨_,_,a3⟩,a4,a5⟩,λb hb=>?_,q⟩;have le:s1.heap.objs.size<=b:=by
  simp only [MX,M1,or_false] at hb;rcases hb with rfl|rfl|rfl|rfl|rfl<;>lia
 exact z.SR le (z.hok.fresh le)
theorem C6{K:KE}:AH K (.ref a) (.ref b) H Q = ∃ns ms,SqT K H a (ns.map V.int)/\SqT K H b (ms.map V.int)/\Q (.bl (HT.lexLe ns ms)) H:=by
 apply propext;constructor
 .rintro ⟨c,d,ns,ms,z,F,h⟩;cases z;cases F;exact ⟨ns,ms,h⟩
 .rintro ⟨ns,ms,h⟩;exact ⟨a,b,ns,ms,rfl,rfl,h⟩
theorem Bu{K:KE}:Ab K ta σ H R=ta σ H λvs H1=>uR2 vs λa b=>(∃xs,SqL K H1 a xs)/\(∃ys,SqL K H1 b ys)/\R (ll K a b) H1:=rfl
theorem ao.ax{K:KE}(Z6:ys.length<=xs.length)(z:Nat->St->Hp->Prop)(U:z 0 σ H)(hl:∀i σ H,i<=ys.length->z i σ H->SqL K H a xs/\SqL K H b ys)(hs:∀i x y p σ H,xs[i]?=some x->ys[i]?=some y->z i σ H->H p=none->g (.ref p) σ (upd H p (.tup [x,y])) λF H2=>tb { D with nx:=z (i+1),ct:=z (i+1),bk:=D.nx } F H2)(hd:∀σ H,z ys.length σ H->D.nx σ H):ao (ll K a b) g tb D σ H:=by
 refine ⟨λi m σ H=>m=ys.length-i/\i<=ys.length/\z i σ H,⟨ys.length,by simp,NV _,U⟩,?_⟩;rintro i m σ H ⟨rfl,hi,p⟩;obtain ⟨J,G⟩:=hl i σ H hi p;by_cases O:i<ys.length
 .refine .inr ⟨⟨xs,ys,xs[i]'(by lia),ys[i],J,G,l6 (by lia),l6 O⟩,z (i+1),λW H' Z=>⟨ys.length-(i+1),by lia,rfl,O,Z⟩,λv H' y=>?_⟩;obtain ⟨T,x,y,S,rfl,rfl,hx,hy⟩:=y;exact hs i x y T σ _ (hx xs J) (hy ys G) p S
 .have e:i=ys.length:=by lia
  subst e;exact .inl ⟨⟨xs,ys,J,G,.inr (zv _)⟩,hd σ H p⟩
def vq:List V->Hp->VK->Prop:=λxs H Q=>uR1 xs λa=>∃ns:List Int,H a=some (.lst (ns.map V.int))/\ns.length<64/\∀p (ms:List Int) H2,New H p (.lst (ms.map V.int)) H2->ms.Perm ns->ms.Pairwise (·<=·)->Q (.ref p) H2
theorem xZ:vq [.ref a] H Q = ∃ns:List Int,H a=some (.lst (ns.map V.int))/\ns.length<64/\∀p (ms:List Int) H2,New H p (.lst (ms.map V.int)) H2->ms.Perm ns->ms.Pairwise (·<=·)->Q (.ref p) H2:=fj
theorem LW:zN X (.builtin "sorted") vq:=by
 intro Go s σ H xs us Q I r h;obtain ⟨a,rfl,ns,hl,S,q⟩:=h;obtain ⟨u,rfl,Z⟩:=bV r;cases Z;obtain ⟨its,z,⟨o,n,U,W,e3,J⟩,hz⟩:=I.list (SqL.of hl);refine PyProof.Rows.sorted_ints (vs:=its) ⟨o,U,W,n,J⟩ (pB z) (by rw [<- z.length,MV];exact S) λout ms O F G=>?_;obtain ⟨e,he⟩:=sortedAll_at s.heap its out;refine ⟨.ref (s.heap.objs.size+1),upd H (s.heap.objs.size+1) (.lst (ms.map V.int)),I.laid (t':=s.toks) (λb o e=>sortedAll_old e) (RE _) ⟨by rw [MV,F.length_eq,NX];lia,out.toList,e,pZ O,by rw [Q3];exact he⟩,rfl,q _ ms _ (.mk' (I.hok.fresh (RE _))) F G⟩
end
section
variable {P:M8}{w:Nl}{K:KE}{mg:Str->Option Value}{base:Heap}{x qual:Str}{st:Stmt}{f:Addr}{fd:M9}{N ps:List Str}{cm:Bool}{k:Nat}{sp:Sp}
theorem Fun.o(F:Fun K x qual st f fd)(S:zw N ps (zj st))
  (hb:∀(z:Value)(A:Np)(outer:List Env)(s:p8)(H:Hp)(vs:List V)(Q:VK)(E:XK),zG cm k (A.deeper (Pf qual (zj st) s.heap.objs.size f z))->sp vs H Q E ->
   ∃t,PSs (cq CX0 cm P w K mg base N qual (zj st) f z A outer s H E).U3 (cT st) t/\t { nx:=λ_ H'=>Q .non H',rt:=Q } (start N vs) H)
  (len:∀vs H Q E,sp vs H Q E->vs.length=ps.length:=by intro _ _ _ _ h;repeat (first|(obtain ⟨rfl,_⟩:=h;rfl)|(obtain ⟨_,h⟩:=h))):zm P w K mg base CX0 cm (k+1) f fd ps sp:=F.ok S len hb
theorem Fun.oW(F:Fun K x qual st f fd)(S:zw N ps (zj st))
  (hb:∀(z:Value)(A:Np)(outer:List Env)(s:p8)(H:Hp)(vs:List V)(Q:VK)(E:XK),zG cm k (A.deeper (Pf qual (zj st) s.heap.objs.size f z))->sp vs H Q E ->
   ∃t,PSs (cq (CXW P w) cm P w K mg base N qual (zj st) f z A outer s H E) (cT st) t/\t { nx:=λ_ H'=>Q .non H',rt:=Q } (start N vs) H)
  (len:∀vs H Q E,sp vs H Q E->vs.length=ps.length:=by intro _ _ _ _ h;repeat (first|(obtain ⟨rfl,_⟩:=h;rfl)|(obtain ⟨_,h⟩:=h))):zm P w K mg base (CXW P w) cm (k+1) f fd ps sp:=F.aH S len hb
end
end L2
namespace K63
open PySem PySem.Spec PyProof.Rows L2
open PySem.W (Frag OpenLaw WalkO findIn mroIn)
local macro_rules | `(tactic| erw [$ls,*])=>do
 let l<-("qT tC wL tOr uI tIf qI pY wF oK mU d9 Lz B6 iU xv ipI tOp tUn bQ jk sv rS Ae jE kr kI tCB pV w9 xE nE sV FE ui uW vt AM MN ud EF wW wk Af tQ Mv Co AZ qR JX Mj BY HL GY F0 MR Gn GV Jn Mt rJ Iz Li Ip GW rL Gd KR Lm Dg Gr Ms MC E1 cn Rg Option.bind_none Option.join_some qN and_assoc exists_and_left exists_and_right exists_eq_left' exists_eq_left exists_eq exists_eq' exists_eq_right exists_eq_right' and_true true_and and_false false_and or_false false_or exists_false exists_const NG.injEq V.int.injEq V.str.injEq V.ref.injEq V.bl.injEq V.ty.injEq HO.lst.injEq HO.tup.injEq HO.ins.injEq List.cons.injEq reduceCtorEq reduceIte Pd List.getElem?_cons_zero List.getElem?_cons_succ List.set_cons_zero List.set_cons_succ R6 cons_append Oz N6 Pq L2.start Ei BH Nw Nat.reduceSub Nat.reduceAdd Cr IM xw Gx Cg Bc Hk yS KS EV wV ph tSl si HA ue rZ x5 FP wj yN qX wb J0 fj Kb DS Er DO EU GE GR JZ FI Fb EI yB uY HD G1 ma Kd sE As BL Gi BV BD G4 Eb Iq Bh JQ Cw ER CJ Bv wQ MQ MI Ki IF MM Bq A8 HE Mi E5 E4 CP KH JH Mp Ly vH Cu JV Kr A5 sf B9 HJ B2 Di yr FU Fs BC Cn En Bt Cb Lp jc Ik EA uy uZ u7 qr qe rm xg rN tI uU xQ AE Ib gG wo nH Mc tS nX E6 vd fS IB iJ C6 Bu xZ".splitOn " ").toArray.mapM fun s=>`(Lean.Parser.Tactic.simpLemma|$(Lean.mkIdent s.toName):ident)
 let k<-ls.getElems.mapM fun s=>match s with
  | `(Lean.Parser.Tactic.rwRule|$t:term)=>`(Lean.Parser.Tactic.simpLemma|$t:term)
  | _=>Lean.Macro.throwUnsupported
 let l:=l++k
 `(tactic| try simp only [$l,*])
local macro_rules | `(tactic| ac_rfl)=>`(tactic| erw [])
def top(i:Nat):Stmt:=PySem.Challenge.pw_cleanrows_k63_whole_emptied_best_first.main.body.getD i (.Pass ⟨0,0,0,0⟩)
structure zh where
 S0:Addr
 SB:Addr
 VG:Addr
 Full:Addr
 Sy:Addr
 VF:Addr
 Vs:Addr
 US:Addr
 Vr:Addr
 ub:Addr
 uc:Addr
 State:Addr
 L0:Addr
 Sq:Addr
 Vx:Addr
 SF:Addr
 SG:Addr
 Sz:Addr
 SA:Addr
 Sv:Addr
structure Txt(w:Nl)(K:Frag)(mg:Str->Option Value)(A:zh):Prop where
 Vb:mg "PARTS"=some (.ref A.Vx)
 Vq:lL w K A.Vx [(V9,A.SF),(V7,A.SG),(Wa,A.Sz),("free",A.SA),("carry",A.Sv)]
 UM:∀H:Hp,SqT K H A.SF [.str "number",.str "number",.str "end",.str "name",.str "number",.str "word"]
 UN:∀H:Hp,SqT K H A.SG [.str "number",.str "name",.str "number"]
 Uj:∀H:Hp,SqT K H A.Sz [.str "number",.str "name"]
 Uk:∀H:Hp,SqT K H A.SA [.str "number",.str "name"]
 S1:∀H:Hp,SqT K H A.Sv [.str "number",.str "number",.str "word"]
 ah:mg "abs"=none
 ag:mg "all"=none
 U9:mg "bool"=none
 U8:mg "dict"=none
 U7:mg "divmod"=none
 Su:mg "enumerate"=none
 U6:mg "int"=none
 L4:mg "isinstance"=none
 vx:mg "len"=none
 U5:mg "list"=none
 UX:mg "max"=none
 U4:mg "min"=none
 af:mg "ord"=none
 z4:mg "range"=none
 Q2:mg "sorted"=none
 Vu:mg "str"=none
 Vk:mg "tuple"=none
 Vt:mg "zip"=none
 Tf:∃u,mg "FIGURES"=some u/\zo (.str "0123456789") u
 Tc:∃u,mg "LETTERS"=some u/\zo (.str "abcdefghijklmnopqrstuvwxyz") u
 SY:∃u,mg "MOST_FIGURES"=some u/\zo (.int 18) u
 SX:∃u,mg "MOST_LETTERS"=some u/\zo (.int 6) u
 Uo:∃u,mg "MOST_SIGNS"=some u/\zo (.int 20) u
 U1:∃u,mg "MODULUS"=some u/\zo (.int 65521) u
 UQ:∃u,mg "COLD_KIND"=some u/\zo (.str "carry") u
 SN:∃u,mg "LEAST_STRETCHES"=some u/\zo (.int 3) u
 SO:∃u,mg "MOST_STRETCHES"=some u/\zo (.int 16) u
 SZ:∃u,mg "LEAST_PLACES"=some u/\zo (.int 2) u
 S2:∃u,mg "MOST_PLACES"=some u/\zo (.int 32) u
 Vg:mg "CleanError"=some (.ref A.S0)
 SL:mg "NoRow"=some (.ref A.SB)
 VJ:mg "NoDisk"=some (.ref A.VG)
 Vl:mg "Full"=some (.ref A.Full)
 SW:mg "Stopped"=some (.ref A.Sy)
 VI:mg "NoFile"=some (.ref A.VF)
 VB:mg "NoPlace"=some (.ref A.Vs)
 Vc:mg "HeldAlready"=some (.ref A.US)
 VA:mg "NotHeld"=some (.ref A.Vr)
 av:mg "Disk"=some (.ref A.ub)
 aj:mg "Files"=some (.ref A.uc)
 ai:mg "State"=some (.ref A.State)
 Vh:bR K A.S0
 SE:bR K A.SB
 Vp:bR K A.Full
 SJ:bR K A.Sy
 Va:mroIn K A.SB (.ref A.SB)=some true
 UW:mroIn K A.Sy (.ref A.Sy)=some true
 pw:Cls K A.ub
 Bn:bu K A.ub "at_sides"
 zf:bu K A.ub "counted"
 vl:bu K A.ub "has_stopped"
 z3:bu K A.ub "left"
 F6:bu K A.ub "width"
 tr:bu K A.ub "written"
 qb:Cls K A.uc
 qs:bu K A.uc "births"
 y0:bu K A.uc "kept"
 vr:Cls K A.State
 SI:bu K A.State "next_mark"
 Ss:bu K A.State "next_row"
 Qe:bu K A.State "own_files"
 z9:bu K A.State "spot_of"
def dG:Nat->List Nat->Nat
 | _,[]=>0
 | k,c::l=>c*k+dG (k+1) l
def cg(z:Str):Int:=((dG 1 (sg z) % 65521:Nat):Int)
def c7(z:Str):Str:=z++(toString (cg z):Str)++";"
def aV(z y:Str)(m:Int):Bool:=decide (1<=(z.length:Int))&&decide ((z.length:Int)<=m)&&(sg z).all λc=>(sg y).contains c
def FIG:Str:="0123456789"
def LET:Str:="abcdefghijklmnopqrstuvwxyz"
def bT(z:Str):Bool:=aV z FIG 18&&(decide (z="0") || !decide (tx ((sg z).take 1)="0"))
def cJ(z:Str):Bool:=aV z LET 6
def dZ(z:Str):Bool:=aV z (LET++FIG) 20
def aZ(k z:Str):Option V :=
 if k="number"/\bT z=true then some (.int ((QD z).getD 0))
 else if k="end"/\(z="0"\/z="1") then some (.bl (decide (z="1")))
 else if k="name"/\cJ z=true then some (.str z)
 else if k="word"/\dZ z=true then some (.str z)
 else none
def dO(z:Str):Option (List Str) :=
 if z=V9 then some Wo
 else if z=V7 then some ["number","name","number"]
 else if z=Wa then some Wn
 else if z="free" then some Wn
 else if z="carry" then some ["number","number","word"]
 else none
def aG:List Str->List Str->Option (List V)
 | k::ks,z::zs=>(aZ k z).bind λv=>(aG ks zs).map (v::·)
 | _,_=>some []
def cR(ws:List Str):Option (List V):=match ws with
 | []=>none
 | w::zs=>(dO w).bind λks=>if zs.length=ks.length then (aG ks zs).map (.str w::·) else none
def cK(z:Str):Str:=Ol z none (some (Qq z (c1 32)+1))
def eL(z:Str):Option Str:=if z=c7 (cK z) then some (cK z) else none
def bN(z:Str):Option (List V):=(eL z).bind λb=>cR (N1 (Ol b none (some (-1))) (c1 32))
def az:V->Str
 | .bl b=>if b then "1" else "0"
 | .int i=>toString i
 | .str z=>z
 | _=>""
inductive dv:V->Prop
 | bl (b:Bool):dv (.bl b)
 | int (i:Int):0<=i->i<10 ^ 18->dv (.int i)
 | str (z:Str):asc z=true->z.length<=100->dv (.str z)
def zU(xs:List V):List Nat:=(xs.map λv=>sg (az v)++[32]).flatten
def aP(xs:List V):Str:=c7 (tx (zU xs))
def jr:Sp:=λvs H Q _=>∃z y m,vs=[.str z,.str y,.int m]/\asc z=true/\z.length<=100000/\∀H',zi H H'->Q (.bl (aV z y m)) H'
def gX(p:Str->Bool):Sp:=λvs H Q _=>∃z,vs=[.str z]/\asc z=true/\z.length<=100000/\∀H',zi H H'->Q (.bl (p z)) H'
def um:Sp:=λvs H Q _=>∃z,vs=[.str z]/\asc z=true/\z.length<=100000/\∀H',zi H H'->Q (.int (cg z)) H'
def jK:Sp:=λvs H Q _=>∃z,vs=[.str z]/\asc z=true/\z.length<=100000/\∀H',zi H H'->Q (.str (c7 z)) H'
def pU(o:Option Str):V:=match o with|some b=>.str b|none=>.non
inductive dj(H:Hp):V->Prop
 | non:dj H .non
 | bl (b:Bool):dj H (.bl b)
 | int (i:Int):dj H (.int i)
 | lst {a:Addr}{xs:List V}:H a=some (.lst xs)->dj H (.ref a)
 | tup {a:Addr}{xs:List V}:H a=some (.tup xs)->dj H (.ref a)
 | dic {a:Addr}{kvs:List (Key×V)}:H a=some (.dK kvs)->dj H (.ref a)
theorem dj.same(t:dj H v)(s:zi H H'):dj H' v:=by
 cases t with
 | non=>exact .non
 | bl b=>exact .bl b
 | int i=>exact .int i
 | lst h=>exact .lst (s _ _ h)
 | tup h=>exact .tup (s _ _ h)
 | dic h=>exact .dic (s _ _ h)
theorem JR{X:Cx}(t:dj H v)(q:Q (.bl false) H):kL X.K [v,.ty "str"] H Q:=by
 cases t with
 | non=>exact ⟨_,_,_,_,_,rfl,rfl,.of .non,rfl,q⟩
 | bl b=>exact ⟨_,_,_,_,_,rfl,rfl,.of (.bl b),rfl,q⟩
 | int i=>exact ⟨_,_,_,_,_,rfl,rfl,.of (.int i),rfl,q⟩
 | lst h=>exact ⟨_,_,_,_,_,rfl,rfl,.of (.lst h),rfl,q⟩
 | tup h=>exact ⟨_,_,_,_,_,rfl,rfl,.of (.tup h),rfl,q⟩
 | dic h=>exact ⟨_,_,_,_,_,rfl,rfl,.of (.dK h),rfl,q⟩
def uX:Sp:=λvs H Q _=>(∃z,vs=[.str z]/\asc z=true/\z.length<=100000/\∀H',zi H H'->Q (pU (eL z)) H')\/∃v,vs=[v]/\dj H v/\Q .non H
def nK:Sp:=λvs H Q _=>∃v,vs=[v]/\dv v/\Q (.str (az v)) H
def r8:Sp:=λvs H Q _=>∃a xs,vs=[.ref a]/\(H a=some (.lst xs)\/H a=some (.tup xs))/\xs.length<=10/\(∀v∈xs,dv v)/\∀H',zi H H'->Q (.str (aP xs)) H'
def yE(A:zh):Sp:=λvs H Q E=>∃k z,vs=[.str k,.str z]/\asc z=true/\z.length<=100000/\∀H',zi H H'->(∀v,aZ k z=some v->Q v H')/\(aZ k z=none->E (.ref A.SB) none H')
def vF(A:zh):Sp:=λvs H Q E=>∃a ws,vs=[.ref a]/\H a=some (.lst (ws.map V.str))/\ws≠[]/\ws.length<=100001/\(∀z∈ws,asc z=true/\z.length<=100000) /\
 (∀xs,cR ws=some xs->∀p H',zi H H'->H' p=some (.tup xs)->Q (.ref p) H')/\(cR ws=none->∀H',zi H H'->E (.ref A.SB) none H')
def uv(A:zh):Sp:=λvs H Q E=>(∃v,vs=[v]/\dj H v/\E (.ref A.SB) none H)\/∃z,vs=[.str z]/\asc z=true/\z.length<=100000 /\
 (∀xs,bN z=some xs->∀p H',zi H H'->H' p=some (.tup xs)->Q (.ref p) H')/\(bN z=none->∀H',zi H H'->E (.ref A.SB) none H')
theorem aN(h:n<=1000000):n<=sizeLine:=Nx h (by decide)
theorem aW(h:n<=1000000):n<sizeLine:=Og h (by decide)
abbrev jh:Stmt:=top 19
abbrev oh:Stmt:=top 20
abbrev oR:Stmt:=top 21
abbrev pq:Stmt:=top 22
section
variable {P:M8}{w:Nl}{K:Frag}{mg:Str->Option Value}{base:Heap}{A:zh}
structure JS(H:Hp)(z y:Str)(i:Nat)(τ:L2.St)(ys:List V)(H':Hp):Prop where
 ex:∃t,τ=[t,some (V.str y)]
 ys:ys=(((sg z).take i).map λc=>(sg y).contains c).map V.bl
 same:H'=H
theorem II:zw Xw Xw (zj jh):=fsc
theorem HR:bw { kind:=.function,names:=[(yv ".0",.local),(yv "sign",.local),(yv "signs",.free)],isGenerator:=false,isCoroutine:=false,more:=[] } (zj jh).names Xw ["sign","signs"] [none,some 1]=true:=by decide +kernel
theorem Jm:(["sign","signs"]:List Str).Nodup:=by decide +kernel
theorem CS(F:Fun K V1 V1 jh f fd)(T:Txt w K mg A):zm P w K mg base CX0 true 1 f fd Xw jr:=by
 refine F.o II λZ U outer s H vs Q E hr h=>?_;obtain ⟨z,y,m,rfl,ha,S,q⟩:=h;have O:_<cLine:=Ny (zT hr);refine ⟨_,(W.h (zg (zu (anD (oX (clE (y7 (oI0 ku) (oI0 ku) zl (zO bf rfl T.vx NA (zb (za 0) zc)) (za 2))) (lI (zO (E9 rfl) rfl T.ag boot_all (zb (dE (λ_=>rfl) (aB.of HR) (GJ (za 0)) (λ_ _ _ _ _=>(zy (i:=0) Jm rfl (M5 rfl))) (λ_ _ _ _ _=>du) (λ_ _ _ _ _=>(cz (pb O) (za 0) (za 1) rfl))) zc)))))))),?_⟩;erw [aN (Nx S (by decide))];refine zY (λh1=>zY (λh2=>?_) λh2=>?_) λh1=>?_
 .refine ⟨ha,zX.str (JS H z y) (λi τ ys H' I=>?_) ⟨⟨_,rfl⟩,by simp,rfl⟩ ?_ ?_⟩
  .rw [I.ys,MV,MV,Ow];exact aW (by rw [af];lia)
  .intro N i c τ ys H' hc I hN;obtain ⟨t,rfl⟩:=I.ex;ac_rfl;rw [HP];have J:(sg z)[i]?=some c:=by simpa [sg] using hc
   exact hN _ _ _ ⟨⟨_,rfl⟩,by rw [I.ys,NW,J];simp,I.same⟩
  .intro τ ys H' I p H2 G;ac_rfl;refine ⟨_,by rw [G.at_,I.ys],?_⟩;have hs:zi H H2:=by have:=G.same;rw [I.same] at this;exact this
   have e:aV z y m=(((sg z).take z.cps.size).map λc=>(sg y).contains c).all id:=by
    unfold aV;rw [h1,h2,Nz (by rw [af];exact zv _),List.all_map];rfl
   rw [<- e];exact q H2 hs
 .have e:aV z y m=false:=by unfold aV;rw [Pt.mpr h2];simp
  rw [<- e];exact q H (zi.refl _)
 .have e:aV z y m=false:=by unfold aV;rw [Pt.mpr h1];simp
  rw [<- e];exact q H (zi.refl _)
theorem CD:zw Xv Xv (zj oR):=fsc
theorem Hx(F:Fun K "is_name" "is_name" oR f fd)(T:Txt w K mg A)(G:GF P w K mg base true 1 V1 Xw jr):zm P w K mg base CX0 true 2 f fd Xv (gX cJ):=by
 refine F.o CD λS O outer s H vs Q E hr h=>?_;obtain ⟨z,rfl,ha,J,q⟩:=h;refine ⟨_,(W.h (zg (zu (caD (zq G hr rfl (clP (zb (za 0) (zb (cQ rfl T.Tc) (zb (cQ rfl T.SX) zc))))))))),?_⟩;ac_rfl;exact ⟨z,_,_,rfl,ha,J,q⟩
theorem CH:zw Xv Xv (zj pq):=fsc
theorem Ed(F:Fun K "is_word" "is_word" pq f fd)(T:Txt w K mg A)(G:GF P w K mg base true 1 V1 Xw jr):zm P w K mg base CX0 true 2 f fd Xv (gX dZ):=by
 refine F.o CH λS O outer s H vs Q E hr h=>?_;obtain ⟨z,rfl,ha,J,q⟩:=h;refine ⟨_,(W.h (zg (zu (caD (zq G hr rfl (clP (zb (za 0) (zb (zB aF (cQ rfl T.Tc) (cQ rfl T.Tf)) (zb (cQ rfl T.Uo) zc))))))))),?_⟩;ac_rfl;exact ⟨by decide,z,_,_,rfl,ha,J,q⟩
theorem CU:zw Xv Xv (zj oh):=fsc
theorem EN(F:Fun K VX VX oh f fd)(T:Txt w K mg A)(O:GF P w K mg base true 1 V1 Xw jr):zm P w K mg base CX0 true 2 f fd Xv (gX bT):=by
 refine F.o CU λZ U outer s H vs Q E hr h=>?_;obtain ⟨z,rfl,ha,J,q⟩:=h;have G:_<cLine:=Ny (zT hr);refine ⟨_,(W.h (ze (zL (dA (aO (caD (zq O hr rfl (clP (zb (za 0) (zb (cQ rfl T.Tf) (zb (cQ rfl T.SY) zc))))))))
   (zg (zu bz))
   zQ)
   (zg (zu (EM (cz (oE (aX G)) (za 0) zF (zD _)) (lI (cz (oE (gL G)) (zK zP (za 0) zl (λ_ _=>rfl)) zF (zD _)))))))),?_⟩
 ac_rfl;refine ⟨z,_,_,rfl,ha,J,λH1 s1=>?_⟩;erw [aN (Nx J (by decide))];refine zY (λh1=>?_) λh1=>?_
 .have e:bT z=false:=by
   unfold bT FIG;rw [show aV z "0123456789" 18=false by simpa using h1];rfl
  rw [<- e];exact q H1 s1
 .have h1:aV z "0123456789" 18=true:=by simpa using h1
  refine zY (λh2=>?_) λh2=>?_
  .have e:bT z=true:=by
    unfold bT FIG;rw [h1,h2];rfl
   rw [<- e];exact q H1 s1
  .have hl:0<(sg z).length:=by
    rw [af];unfold aV at h1;rw [NJ,NJ,decide_eq_true_eq] at h1;lia
   have S:(sg z).take 1=[(sg z)[0]]:=by
    generalize sg z=l at hl;cases l with
    | nil=>cases hl
    | cons x l=>rfl
   refine ⟨(sg z)[0],dh (xs:=sg z) (j:=0) (l6 hl),?_⟩;have e:bT z = !decide (({ cps:=#[(sg z)[0]] }:Str)="0"):=by
    unfold bT FIG;rw [h1,Pt.mpr h2,S];rfl
   rw [<- e];exact q H1 s1
abbrev qm:Stmt:=top 30
abbrev jP:Stmt:=top 29
abbrev o9:Stmt:=top 26
abbrev om:Stmt:=top 27
abbrev qP:Stmt:=top 28
theorem wu:∀(k:Nat)(a b:List Nat),dG k (a++b)=dG k a+dG (k+a.length) b
 | k,[],b=>by simp [dG]
 | k,c::a,b=>by
  show c*k+dG (k+1) (a++b)=c*k+dG (k+1) a+_;rw [wu (k+1) a b,N6,show k+1+a.length=k+(a.length+1) by lia];lia
structure HH(H:Hp)(z:Str)(i:Nat)(σ:L2.St)(H':Hp):Prop where
 ex:∃a b,σ=[some (V.str z),some (.int (dG 1 ((sg z).take i):Nat)),a,b]
 same:zi H H'
theorem iT:zw ["text","total","place","sign"] Xv (zj o9):=fsc
theorem J6(F:Fun K "sum_of" "sum_of" o9 f fd)(T:Txt w K mg A):zm P w K mg base CX0 true 1 f fd Xv um:=by
 refine F.o iT λZ0 Z outer s H vs Q E hr h=>?_;obtain ⟨z,rfl,ha,U,q⟩:=h;refine ⟨_,(W.h (ze (zz (i:=1) iT.nd rfl (M5 rfl) zl)
   (ze (bh N9.never (λ_=>rfl) (Jb rfl T.Su (za 0)) (cM (n:=2) (gsD (zJ (zy (i:=2) iT.nd rfl (M5 rfl)) (gsD (zJ (zy (i:=3) iT.nd rfl (M5 rfl)) bC)))))
   (zg (HU (i:=1) iT.nd rfl (M5 rfl) (zB dC (zO Fl rfl T.af boot_ord (zb (za 3) zc)) (za 2)) Kp)))
   (zg (zu (zB (oI fQ) (za 1) (cQ rfl T.U1))))))),?_⟩
 ac_rfl;refine ⟨ha,ao.aq (HH H z) ⟨⟨_,_,rfl⟩,zi.refl _⟩ ?_ ?_⟩
 .rintro i c p σ H' hc ⟨⟨a,b,rfl⟩,J⟩ O;have G:(sg z)[i]?=some c:=by simpa [sg] using hc
  ac_rfl;refine ⟨p,_,rfl,SqT.of zx,rfl,?_⟩;ac_rfl;refine ⟨rfl,.inl ⟨by simp;lia,?_⟩,⟨⟨some (.int ((i+1:Nat):Int)),some (.str ⟨#[c]⟩),?_⟩,?_⟩⟩
  .have S:c<128:=by
    have h3:=Na G;rw [bO] at ha;simpa using NM.mp ha c h3
   simp;lia
  .rw [NW,G,wu];have hi:i<(sg z).length:=(MY.mp G).1;rw [Ow,Sf (by lia)];simp [dG];rw [Int.add_comm 1 (i:Int)]
  .exact J.trans λb o e=>by rw [zd (zC e O)];exact e
 .rintro σ H' ⟨⟨a,b,rfl⟩,J⟩;ac_rfl;refine ⟨by decide,?_⟩;have e:cg z=((dG 1 ((sg z).take z.cps.size):Nat):Int) % 65521:=by
   unfold cg;rw [Nz (by rw [af];exact zv _)];lia
  rw [<- e];exact q H' J
theorem ym:(" ":Str)=c1 32:=by decide +kernel
theorem yy(h:n<2 ^ 64):n.log2<1920:=by
 by_cases z:n=0
 .subst z;decide
 .exact Nat.lt_trans ((Nat.log2_lt z).mpr h) (by decide)
theorem fu(z:Str):0<=cg z/\cg z<65521:=by unfold cg;lia
theorem va(m:Nat)(h:0<m):∃c r,(Si 10 m).map Char.toNat=c::r/\49<=c:=by
 induction m using Nat.strongRecOn with
 | _ m z =>
  by_cases h1:m<10
  .rw [Nat.toDigits_of_lt_base h1];refine ⟨_,[],rfl,?_⟩;have:∀d:Nat,d<10->0<d->49<=(Nat.digitChar d).toNat:=by decide
   exact this m h1 h
  .have hm:m % 10<10:=Nat.mod_lt m (by decide);have t:Si 10 (m / 10)++Si 10 (m % 10)=Si 10 (10*(m / 10)+m % 10):=Nat.toDigits_append_toDigits (by decide) (by lia) hm;rw [Nat.div_add_mod] at t;obtain ⟨c,r,e,hc⟩:=z (m / 10) (by lia) (by lia);rw [<- t,NI,e];exact ⟨c,_,rfl,hc⟩
structure DH(i:Int):Prop where
 dig:∀c∈sg (toString i:Str),48<=c/\c<=57
 one:1<=(sg (toString i:Str)).length
 most:(sg (toString i:Str)).length<=18
 back:QD (toString i:Str)=some i
 head:(toString i:Str)="0"\/∃c r,sg (toString i:Str)=c::r/\49<=c
theorem fU(F:0<=i)(h1:i<10 ^ 18):DH i:=by
 obtain ⟨m,rfl⟩:=ON F;have hd:∀c∈sg (toString ((m:Nat):Int):Str),48<=c/\c<=57:=by
  intro c hc;rw [iC] at hc;obtain ⟨ch,G,e⟩:=OU.mp hc;have r:=Nat.isDigit_of_mem_toDigits (by decide) (by decide) G;rw [<- e];exact PyProof.Rows.digit_range r
 have hn:1<=(sg (toString ((m:Nat):Int):Str)).length:=by
  rcases Nat.eq_zero_or_pos m with h|h
  .rw [h,iC];decide
  .obtain ⟨c,r,e,_⟩:=va m h;rw [iC,e];simp
 have hl:(sg (toString ((m:Nat):Int):Str)).length<=18:=by
  have e:(Nat.repr m).length<=18:=(Nat.length_repr_le_iff (by decide)).mpr (by lia);rw [af];show (yv (toString ((m:Nat):Int))).length<=18;rw [PySem.ofString_length];exact e
 refine ⟨hd,hn,hl,?_,?_⟩
 .have e:=intText_digits (x:=(toString ((m:Nat):Int):Str)) hd (λz=>by rw [show sg (toString ((m:Nat):Int):Str)=[] from z] at hn;cases hn) (by rw [<- af];lia);have J:(toString ((m:Nat):Int):Str).cps.toList=(Si 10 m).map Char.toNat:=iC m;rw [J,PySem.W.KIN.val_back] at e;exact e
 .rcases Nat.eq_zero_or_pos m with h|h
  .left;rw [h];rfl
  .obtain ⟨c,r,e,hc⟩:=va m h;exact .inr ⟨c,r,by rw [iC,e],hc⟩
theorem yg{i:Int}(z:0<=i)(h1:i<10 ^ 18):(toString i:Str).length<=19:=by
 have e:=int_text_length_le10 (a:=i) (k:=18) (by decide) (by lia);show (yv (toString i)).length<=19;rw [PySem.ofString_length];exact e
theorem DK:zw ["body"] ["body"] (zj om):=fsc
theorem A1(F:Fun K "summed" "summed" om f fd)(T:Txt w K mg A)(O:GF P w K mg base true 1 "sum_of" Xv um):zm P w K mg base CX0 true 2 f fd ["body"] jK:=by
 refine F.o DK λU S outer s H vs Q E hr h=>?_;obtain ⟨z,rfl,ha,J,q⟩:=h;refine ⟨_,(W.h (zg (zu (Bk (qC (uq (za 0)) (qC (uq (caD (zq O hr rfl (clP (zb (za 0) zc))))) (qC zF E7))))))),?_⟩;ac_rfl;have hs:=fu z;have hn:=yg hs.1 (by lia);refine ⟨aN (by lia),by rw [Str.empty_append];exact aN (by lia),z,rfl,ha,J,λH' s1=>?_⟩;ac_rfl;rw [Str.empty_append];have l1:(z++(toString (cg z):Str)).length<=1000000:=by rw [QA];lia
 have G:(z++(toString (cg z):Str)++";").length<=1000000:=by
  rw [QA,QA];have:(";":Str).length=1:=by decide
  lia
 exact ⟨yy (by lia),aN l1,aN G,aN G,q H' s1⟩
theorem pF(l:List Nat):asc (tx l)=l.all (· < 128):=by rw [bO,cx]
theorem nN(h:asc z=true)(hl:∀c∈l,c∈sg z):asc (tx l)=true:=by
 rw [pF,NM];rw [bO,NM] at h;exact λc hc=>h c (hl c hc)
theorem uw(c:Nat):∀l:List Nat,c∈l->∃a b,l=a++c::b/\c∉b
 | [],h=>by cases h
 | x::l,h=>by
  by_cases hm:c∈l
  .obtain ⟨a,b,e,hb⟩:=uw c l hm;exact ⟨x::a,b,by rw [e];rfl,hb⟩
  .rcases MX.mp h with e|e
   .exact ⟨[],l,by rw [e];rfl,hm⟩
   .exact absurd e hm
theorem yT(h:sg z=a++32::b)(hb:32∉b):cK z=tx (a++[32]):=by
 unfold cK;rw [Ia h hb];have e:((a.length:Int)+1)=((a.length+1:Nat):Int):=by lia
 rw [e,jW (by rw [h];simp),h];congr 1;rw [show a++32::b=(a++[32])++b by simp,List.take_left' (by simp)]
theorem DA(h:32∉sg z):cK z=tx []:=by
 unfold cK;rw [Ku h];exact jW (j:=0) (NV _)
theorem uo(h:asc z=true):asc (cK z)=true/\(cK z).length<=z.length:=by
 refine ⟨?_,PySem.Txt.slice_le _ _ _⟩;by_cases hm:32∈sg z
 .obtain ⟨a,b,e,hb⟩:=uw 32 _ hm;rw [yT e hb];refine nN h λc hc=>?_;rw [e,show a++32::b=(a++[32])++b by simp];exact N0 _ hc
 .rw [DA hm,pF];rfl
theorem rW:zw ["text","body"] Xv (zj qP):=fsc
theorem Gh(F:Fun K "body_of" "body_of" qP f fd)(T:Txt w K mg A)(U:GF P w K mg base true 2 "summed" ["body"] jK):zm P w K mg base CX0 true 3 f fd Xv uX:=by
 refine F.ok rW (λvs H Q E h=>?_) (λZ0 Z outer s H vs Q E hr h=>?_)
 .rcases h with ⟨z,rfl,_⟩|⟨v,rfl,_⟩<;>rfl
 .have J:_<cLine:=Ny (zT hr);refine ⟨_,(W.h (ze (zL (dA (aO (zO kG rfl T.L4 Q8 (zb (za 0) (zb (ji rfl T.Vu boot_str (v:=.ty "str") rfl) zc)))))
   (zg (zu aR))
   zQ)
   (ze (zz (i:=1) rW.nd rfl (M5 rfl) (dY fC (za 0) eG (dW (zB aF (Ef (za 0) zF) zl))))
   (zg (zu (kP (tD (zI (clO (oE (aX J))) (clE (za 0)) (clE (caD (zq U hr rfl (clP (zb (za 1) zc))))) (zD _))) (za 1) aR)))))),?_⟩
  rcases h with ⟨z,rfl,ha,O,q⟩|⟨v,rfl,tv,q⟩
  case inr =>
   ac_rfl;refine JR tv ?_;ac_rfl;exact q
  ac_rfl;refine ⟨_,_,_,_,_,rfl,rfl,.of (.str z),rfl,?_⟩;erw [aN (Nx O (by decide)),ym];obtain ⟨S,b2⟩:=uo ha;refine ⟨cK z,rfl,S,by lia,λH' s1=>?_⟩;ac_rfl;have G:=q H' s1;refine zY (λh=>?_) λh=>?_
  .have e:eL z=some (cK z):=if_pos (of_decide_eq_true h);rw [e] at G;exact G
  .have e:eL z=none:=if_neg λx=>h (decide_eq_true x);rw [e] at G;exact G
theorem G7:∀ys:List Str,sg (Sl "" ys)=(ys.map sg).flatten:=by
 intro ys;have e:Sl "" ys=Str.join "" ys:=StrLaws.glued_eq_join "" ys;rw [e]
 induction ys with
 | nil=>rfl
 | cons y ys z =>
  cases ys with
  | nil=>show sg y=_;simp
  | cons x ys =>
   have z:=z (StrLaws.glued_eq_join "" _);show sg (y++""++Str.join "" (x::ys))=_;rw [dB,dB,z];have:sg ("":Str)=[]:=by decide
   rw [this];simp
theorem rT(h:dv v):(az v).length<=100/\asc (az v)=true:=by
 cases h with
 | bl b=>cases b<;>exact ⟨by decide,by rw [bO];decide⟩
 | int i G h1 =>
  have F:=fU G h1;refine ⟨by show (toString i:Str).length<=100;rw [<- af];have:=F.most;lia,?_⟩;show asc (toString i:Str)=true;rw [bO,NM];exact λc hc=>decide_eq_true (by have:=F.dig c hc;lia)
 | str z ha J=>exact ⟨J,ha⟩
theorem qH:∀{xs:List V},(∀v∈xs,dv v)->(zU xs).length<=101*xs.length/\(zU xs).all (· < 128)=true
 | [],_=>⟨by simp [zU],rfl⟩
 | v::xs,h=>by
  obtain ⟨h1,h2⟩:=qH (xs:=xs) λu F=>h u (M7 _ F);obtain ⟨z,p2⟩:=rT (h v (Nm ..));have e:zU (v::xs)=sg (az v)++[32]++zU xs:=by simp [zU]
  rw [e];rw [<- af] at z;rw [bO] at p2;refine ⟨by simp;lia,?_⟩;rw [all_append,all_append,p2,h2];rfl
theorem KA:zw ["part"] ["part"] (zj qm):=fsc
theorem Im(F:Fun K VR VR qm f fd)(T:Txt w K mg A):zm P w K mg base CX0 cm 1 f fd ["part"] nK:=by
 refine F.o KA λU S outer s H vs Q E hr h=>?_;obtain ⟨v,rfl,G,q⟩:=h;refine ⟨_,(W.h (ze (zL (aO (zO kG rfl T.L4 Q8 (zb (za 0) (zb (ji rfl T.U9 boot_bool (v:=.ty "bool") rfl) zc))))
   (zg (zu (kP (aO (za 0)) zF zF)))
   zQ)
   (zg (zu (eU GP rfl T.Vu boot_str (zb (za 0) zc)))))),?_⟩
 ac_rfl;cases G with
 | bl b =>
  refine ⟨_,_,_,_,_,rfl,rfl,.of (.bl b),rfl,?_⟩;ac_rfl;cases b with
  | true=>exact jJ q
  | false=>exact je q
 | int i J h1 =>
  refine ⟨_,_,_,_,_,rfl,rfl,.of (.int i),rfl,?_⟩;ac_rfl;exact ⟨yy (by lia),q⟩
 | str z ha O =>
  refine ⟨_,_,_,_,_,rfl,rfl,.of (.str z),rfl,?_⟩;ac_rfl;exact q
structure gE(H:Hp)(xs:List V)(i:Nat)(τ:L2.St)(ys:List V)(H':Hp):Prop where
 ex:∃t,τ=[t]
 ys:ys=((xs.take i).map λv=>az v++" ").map V.str
 same:H'=H
theorem Me:zw ["row"] ["row"] (zj jP):=fsc
theorem Lu:bw { kind:=.function,names:=[(yv ".0",.local),(yv "part",.local),(yv "part_text",.globalImplicit)],isGenerator:=false,isCoroutine:=false,more:=[] } (zj jP).names ["row"] ["part"] [none]=true:=by decide +kernel
theorem MG:(["part"]:List Str).Nodup:=by decide +kernel
theorem IZ(F:Fun K "row_text" "row_text" jP f fd)(T:Txt w K mg A)(Zg:GF P w K mg base true 2 "summed" ["body"] jK)(Y3:GF P w K mg base true 1 VR ["part"] nK):zm P w K mg base CX0 true 3 f fd ["row"] r8:=by
 refine F.o Me λZ0 Ar outer s H vs Q E hr h=>?_;obtain ⟨a,xs,rfl,z,hx,Z,q⟩:=h;refine ⟨_,(W.h (zg (zu (caD (zq Zg hr rfl (clP (zb (Jc zF (dE (λ_=>rfl) (aB.of Lu) (FN (za 0)) (λ_ _ _ _ _=>(zy (i:=0) MG rfl (M5 rfl))) (λ_ _ _ _ _=>du) (λ_ _ _ _ _=>(zB aF (caD (zq Y3 hr rfl (clP (zb (za 0) zc)))) zF)))) zc))))))),?_⟩;ac_rfl;have U:(" ":Str).length=1:=by decide
 have step:∀(N:L2.St->List V->Hp->Prop)(i:Nat)(x:V)(τ:L2.St)(ys:List V)(H':Hp),xs[i]?=some x->gE H xs i τ ys H'->(∀τ ys H3,gE H xs (i+1) τ ys H3->N τ ys H3)->d9 0 x τ H' λG H4=>qN G H4 λok H5=>dH N ys G (tOp gH (rm nK E0 (jk (jc 0) bQ)) (tC (V.str " "))) ok H5:=by
  intro N i x τ ys H' J I hN;obtain ⟨t,rfl⟩:=I.ex;have hv:=Z x (Na J);ac_rfl;refine ⟨x,rfl,hv,?_⟩;ac_rfl;refine ⟨?_,hN _ _ _ ⟨⟨_,rfl⟩,by rw [I.ys,NW,J];simp,I.same⟩⟩;rw [U];exact aN (by have:=(rT hv).1;lia)
 have done:∀(τ:L2.St)(ys:List V)(H':Hp),gE H xs xs.length τ ys H'->∀D H2,New H' D (.lst ys) H2->iB (V.str "") [.ref D] H2 λx H1=>jK [x] H1 Q E0:=by
  intro τ ys H' I D H2 n2;rw [wb];have S:xs.take xs.length=xs:=Nz (zv _);have e:Sl "" (xs.map λv=>az v++" ")=tx (zU xs):=by
   refine jA ?_;rw [G7,cx,NL];unfold zU;congr 1;refine OI λv _=>?_;show sg (az v++" ")=_;rw [dB];rfl
  obtain ⟨l1,l2⟩:=qH Z;refine ⟨xs.map λv=>az v++" ",by rw [n2.at_,I.ys,S],?_,tx (zU xs),by rw [e],by rw [pF];exact l2,by rw [ni];lia,λH3 s3=>q H3 ?_⟩
  .have es:((xs.map λv=>az v++" ").map (·.length)).sum=(zU xs).length:=by
    unfold zU;rw [List.length_flatten,NL,NL];congr 1;refine OI λv _=>?_;show (az v++" ").length=(sg (az v)++[32]).length;rw [QA,Nt,af];rfl
   rw [es,show ("":Str).length=0 by decide];lia
  .have:=n2.same;rw [I.same] at this;exact this.trans s3
 have O:∀i τ ys H',gE H xs i τ ys H'->ys.length<sizeLine:=λi τ ys H' I=>by
  rw [I.ys,MV,MV,Ow];exact aW (by lia)
 rcases z with z|z
 .exact .inl ⟨⟨_,SqL.of z⟩,zX.lst (xs:=xs) (gE H xs) O (λi τ ys H' I=>SqL.of (by rw [I.same];exact z)) ⟨⟨_,rfl⟩,by simp,rfl⟩ step done⟩
 .exact .inr ⟨⟨_,SqT.of z⟩,zX.tup (xs:=xs) (gE H xs) O (λi τ ys H' I=>SqT.of (by rw [I.same];exact z)) ⟨⟨_,rfl⟩,by simp,rfl⟩ step done⟩
abbrev kB:Stmt:=top 33
abbrev jt:Stmt:=top 32
abbrev kT:Stmt:=top 31
theorem IY(h:bT z=true):∃n,QD z=some n/\z.length<=640:=by
 unfold bT aV at h;rw [NJ,NJ,NJ,decide_eq_true_eq,decide_eq_true_eq] at h;obtain ⟨⟨⟨h1,h2⟩,h3⟩,_⟩:=h;have hl:z.length<=18:=by lia
 have hd:∀c∈sg z,48<=c/\c<=57:=by
  intro c hc;have:=NM.mp h3 c hc;have hf:sg FIG=[48,49,50,51,52,53,54,55,56,57]:=by decide
  rw [hf] at this;have:=Ph.mp this;simp only [MX,M1,or_false] at this;omega
 refine ⟨_,intText_digits (x:=z) hd (λe=>?_) (by lia),by lia⟩;have:z.length=0:=by rw [<- af];rw [show sg z=[] from e];rfl
 lia
theorem HX:zw Wx Wx (zj kB):=fsc
theorem Ht(F:Fun K VP VP kB f fd)(T:Txt w K mg A)(ZD:GF P w K mg base true 2 VX Xv (gX bT))(YF:GF P w K mg base true 2 "is_name" Xv (gX cJ))(YE:GF P w K mg base true 2 "is_word" Xv (gX dZ)):
  zm P w K mg base (CXW P w) true 3 f fd Wx (yE A):=by
 refine F.oW HX λZ0 Ar outer s H vs Q E hr h=>?_;obtain ⟨k,z,rfl,ha,hz,q⟩:=h;have O:_<cLine:=Ny (zT hr);have Th:=fV (cm:=true) (P:=P) (w:=w) (K:=K) (mg:=mg) (base:=base) (N:=Wx) (qual:=VP) (scope:=zj kB) (f:=f) (cd:=Z0) (A:=Ar) (outer:=outer) (s:=s) (H:=H) (E:=E);refine ⟨_,(W.h (ze (pT (zL (cy (dM (tD (zI (clO (oE (aX O))) (clE (za 0)) (clE zF) (zD _))) (dQ (aO (caD (zq ZD hr rfl (clP (zb (za 1) zc))))))))
   (zg (zu (eU xx rfl T.U6 boot_int (zb (za 1) zc))))
   zQ))
   (ze (pT (zL (cy (dM (tD (zI (clO (oE (aX O))) (clE (za 0)) (clE zF) (zD _))) (dQ (tD (zI (clO (pb O)) (clE (za 1)) (clE (aH (zb zF (zb zF zc)))) rfl)))))
   (zg (zu (cz (oE (aX O)) (za 1) zF (zD _))))
   zQ))
   (ze (pT (zL (cy (dM (tD (zI (clO (oE (aX O))) (clE (za 0)) (clE zF) (zD _))) (dQ (aO (caD (zq YF hr rfl (clP (zb (za 1) zc))))))))
   (zg (zu (za 1)))
   zQ))
   (ze (zL (cy (dM (tD (zI (clO (oE (aX O))) (clE (za 0)) (clE zF) (zD _))) (dQ (aO (caD (zq YE hr rfl (clP (zb (za 1) zc))))))))
   (zg (zu (za 1)))
   zQ)
   (zg (iu rfl Th T.SE rfl T.SL (zb zF zc)))))))),?_⟩
 erw [qQ];refine ⟨λG H'=>G=[some (.str k),some (.str z)]/\zi H H'/\¬ (k="number"/\bT z=true),?_,?_⟩
 .refine zY (λh1=>?_) λh1=>⟨rfl,zi.refl _,λx=>h1 (decide_eq_true x.1)⟩;refine ⟨z,rfl,ha,hz,λH1 s1=>?_⟩;ac_rfl;refine zY (λh2=>?_) λh2=>⟨s1,λx=>h2 x.2⟩;obtain ⟨n,hn,hl⟩:=IY h2;refine ⟨hl,n,hn,(q H1 s1).1 _ ?_⟩;unfold aZ;rw [if_pos ⟨of_decide_eq_true h1,h2⟩,hn];rfl
 rintro G H1 ⟨rfl,s1,U⟩;erw [qQ];refine ⟨λG H'=>G=[some (.str k),some (.str z)]/\zi H H'/\¬ (k="end"/\(z="0"\/z="1")),?_,?_⟩
 .refine zY (λh1=>?_) λh1=>⟨rfl,s1,λx=>h1 (decide_eq_true x.1)⟩;refine ⟨by decide,λp H2 J=>⟨_,.inr J.at_,rfl,rfl,?_⟩⟩;have e:inV (V.str z) [V.str "0",V.str "1"]=true↔(z="0"\/z="1"):=by
   unfold inV;rw [QY,QY,List.any_nil,Ql,Bool.or_eq_true];have e3:∀a:Str,eqV (V.str a) (V.str z)=true↔z=a:=λa=>by
    show (a==z)=true↔_;rw [beq_iff_eq];exact eq_comm
   rw [e3,e3]
  refine zY (λh2=>?_) λh2=>⟨rfl,s1.trans J.same,λx=>h2 (e.mpr x.2)⟩;refine (q H2 (s1.trans J.same)).1 _ ?_;unfold aZ;rw [if_neg U,if_pos ⟨of_decide_eq_true h1,e.mp h2⟩]
 rintro G H2 ⟨rfl,s2,J⟩;erw [qQ];refine ⟨λG H'=>G=[some (.str k),some (.str z)]/\zi H H'/\¬ (k="name"/\cJ z=true),?_,?_⟩
 .refine zY (λh1=>?_) λh1=>⟨rfl,s2,λx=>h1 (decide_eq_true x.1)⟩;refine ⟨z,rfl,ha,hz,λH3 S=>?_⟩;ac_rfl;refine zY (λh2=>?_) λh2=>⟨s2.trans S,λx=>h2 x.2⟩;refine (q H3 (s2.trans S)).1 _ ?_;unfold aZ;rw [if_neg U,if_neg J,if_pos ⟨of_decide_eq_true h1,h2⟩]
 rintro G H3 ⟨rfl,S,Z⟩;ac_rfl;refine zY (λh1=>?_) λh1=>?_
 .refine ⟨z,rfl,ha,hz,λH4 s4=>?_⟩;ac_rfl;refine zY (λh2=>?_) λh2=>?_
  .refine (q H4 (S.trans s4)).1 _ ?_;unfold aZ;rw [if_neg U,if_neg J,if_neg Z,if_pos ⟨of_decide_eq_true h1,h2⟩]
  .refine ⟨by decide,(q H4 (S.trans s4)).2 ?_⟩;unfold aZ;rw [if_neg U,if_neg J,if_neg Z,if_neg λx=>h2 x.2]
 .refine ⟨by decide,(q H3 S).2 ?_⟩;unfold aZ;rw [if_neg U,if_neg J,if_neg Z,if_neg λx=>h1 (decide_eq_true x.1)]
theorem BG(T:Txt w K mg A)(z:Str):(eS [(V9,A.SF),(V7,A.SG),(Wa,A.Sz),("free",A.SA),("carry",A.Sv)] z = .non/\dO z=none) \/
  ∃p ks,eS [(V9,A.SF),(V7,A.SG),(Wa,A.Sz),("free",A.SA),("carry",A.Sv)] z = .ref p/\dO z=some ks/\ks.length<=10/\∀H:Hp,SqT K H p (ks.map V.str):=by
 unfold eS dO;simp only [Qr,List.find?_nil];by_cases h1:z=V9
 .rw [if_pos h1,decide_eq_true h1.symm];exact .inr ⟨_,_,rfl,rfl,by decide,T.UM⟩
 rw [if_neg h1,decide_eq_false (Ni h1)];by_cases h2:z=V7
 .rw [if_pos h2,decide_eq_true h2.symm];exact .inr ⟨_,_,rfl,rfl,by decide,T.UN⟩
 rw [if_neg h2,decide_eq_false (Ni h2)];by_cases h3:z=Wa
 .rw [if_pos h3,decide_eq_true h3.symm];exact .inr ⟨_,_,rfl,rfl,by decide,T.Uj⟩
 rw [if_neg h3,decide_eq_false (Ni h3)];by_cases h4:z="free"
 .rw [if_pos h4,decide_eq_true h4.symm];exact .inr ⟨_,_,rfl,rfl,by decide,T.Uk⟩
 rw [if_neg h4,decide_eq_false (Ni h4)];by_cases F:z="carry"
 .rw [if_pos F,decide_eq_true F.symm];exact .inr ⟨_,_,rfl,rfl,by decide,T.S1⟩
 rw [if_neg F,decide_eq_false (Ni F)];exact .inl ⟨rfl,rfl⟩
theorem lh:∀{ks zs:List Str}(ks' F:List Str),ks.length=zs.length->aG (ks++ks') (zs++F)=(aG ks zs).bind λvs=>(aG ks' F).map (vs++·)
 | [],[],ks',F,_=>by simp [aG]
 | k::ks,z::zs,ks',F,h=>by
  have G:=lh (ks:=ks) (zs:=zs) ks' F (by simpa using h);show (aZ k z).bind (λv=>(aG (ks++ks') (zs++F)).map (v::·))=((aZ k z).bind λv=>(aG ks zs).map (v::·)).bind _;rw [G];cases aZ k z with
  | none=>rfl
  | some v =>
   cases aG ks zs with
   | none=>rfl
   | some vs =>
    show ((aG ks' F).map (vs++·)).map (v::·)=(aG ks' F).map ((v::vs)++·);rw [Option.map_map];rfl
 | [],z::zs,_,_,h=>by cases h
 | k::ks,[],_,_,h=>by cases h
theorem eK(z:Str)(zs:List Str):cR (z::zs)=(dO z).bind λks=>if zs.length=ks.length then (aG ks zs).map (.str z::·) else none:=rfl
theorem v3:aY (x::l) (some 1) none=l:=by
 have z:HT.sIx (x::l).length 0 (some 1)=1:=by simp [HT.sIx]
 have F:HT.sIx (x::l).length (x::l).length none=l.length+1:=by simp [HT.sIx]
 unfold aY;rw [z,F];simp
structure Cy(H:Hp)(a p r b:Addr)(z:Str)(ks zs:List Str)(i:Nat)(σ:L2.St)(H':Hp):Prop where
 ex:∃k' z',σ=[some (V.ref a),some (.ref p),some (.ref r),k',z']
 same:zi H H'
 row:∃vs,H' r=some (.lst (.str z::vs))/\aG (ks.take i) (zs.take i)=some vs/\vs.length=i
 words:H' b=some (.lst (zs.map V.str))
 ne:H r=none/\H b=none/\r≠b
theorem i5:zw ["words","kinds","row","kind","word"] ["words"] (zj jt):=fsc
theorem Kn(F:Fun K "row_of" "row_of" jt f fd)(T:Txt w K mg A)(Y2:GX P w K mg base true 3 VP Wx (yE A)):zm P w K mg base (CXW P w) true 4 f fd ["words"] (vF A):=by
 refine F.oW i5 λZ0 Ar outer s H vs Q E hr h=>?_;obtain ⟨a,ws,rfl,hH,Zw,hl,hw,q,qn⟩:=h;have hu:_<cLine:=Ny (zT hr);have Th:=fV (cm:=true) (P:=P) (w:=w) (K:=K) (mg:=mg) (base:=base) (N:=["words","kinds","row","kind","word"]) (qual:="row_of") (scope:=zj jt) (f:=f) (cd:=Z0) (A:=Ar) (outer:=outer) (s:=s) (H:=H) (E:=E);obtain ⟨z,zs,rfl⟩:=List.exists_cons_of_ne_nil Zw;have e0:atI (V.str z::map V.str zs) 0=some (.str z):=dh (j:=0) rfl;refine ⟨_,(W.h (ze (zz (i:=1) i5.nd rfl (M5 rfl) (Eo rfl T.Vb T.Vq (zK zP (za 0) zl (λ_ _=>rfl))))
   (ze (zL (cy (kN (tD (zI (clO gN) (clE (za 1)) (clE aR) (zD _))) (jx (tD (zI (clO (oE (gL hu))) (clE (zO bf rfl T.vx NA (zb (za 0) zc))) (clE (zB aF (zO j8 rfl T.vx NA (zb (za 1) zc)) zl)) (zD _))))))
   (zg (iu rfl Th T.SE rfl T.SL (zb zF zc)))
   zQ)
   (ze (zz (i:=2) i5.nd rfl (M5 rfl) (aA (zb (zK zP (za 0) zl (λ_ _=>rfl)) zc)))
   (ze (KW Th (bh (CZ rfl (λok=>ok.frames) rfl) (by intro h;exact nomatch h) (JA rfl T.Vt (zb (za 1) (zb (dY fC (za 0) (dW zl) eG) zc))) (cM (n:=2) (gsD (zJ (zy (i:=3) i5.nd rfl (M5 rfl)) (gsD (zJ (zy (i:=4) i5.nd rfl (M5 rfl)) bC)))))
   (zg (aw (fN (za 2) (cXD (qk JU Y2 hr rfl (clP (zb (za 3) (zb (za 4) zc))))))))))
   (zg (zu (eU Dp rfl T.Vk boot_tuple (zb (za 2) zc))))))))),?_⟩
 erw [hH,e0];rcases BG T z with ⟨g1,g2⟩|⟨p,ks,g1,g2,g4,g3⟩
 .erw [g1];exact ⟨by decide,qn (by rw [eK,g2];rfl) H (zi.refl _)⟩
 erw [g1,hH];refine ⟨_,.inr (g3 H),?_⟩;have X6:(!decide ((((map V.str zs).length+1:Nat):Int)=((map V.str ks).length:Int)+1))=true↔zs.length≠ks.length:=by
  rw [MV,MV];simp;lia
 refine zY (λh=>?_) λh=>?_
 .refine ⟨by decide,qn ?_ H (zi.refl _)⟩;rw [eK,g2];show (if zs.length=ks.length then _ else _)=_;rw [if_neg (X6.mp h)]
 have Z6:ks.length=zs.length:=by
  refine OY λhx=>h (X6.mpr λx=>hx x.symm)
 have XH:cR (z::zs)=(aG ks zs).map (.str z::·):=by
  rw [eK,g2];show (if zs.length=ks.length then _ else _)=_;rw [if_pos Z6.symm]
 refine ⟨_,e0,by decide,λr H1 J _=>⟨_,J.same _ _ hH,λb H2 G=>?_⟩⟩;have s2:zi H H2:=J.same.trans G.same;have er:=G.same _ _ J.at_;have eb:=G.at_;rw [NO,v3] at eb;have ab:r≠b:=λx=>by rw [x] at J;have:=J.at_;rw [G.no] at this;cases this
 refine ⟨⟨_,g3 H2⟩,⟨_,SqL.of eb⟩,ao.ay (xs:=ks.map V.str) (ys:=zs.map V.str) (by rw [MV,MV];exact Z6) (Cy H a p r b z ks zs) ⟨⟨_,_,rfl⟩,s2,⟨[],er,by simp [aG],rfl⟩,eb,J.no,J.same.free G.no,ab⟩ (λi σ H' _ I=>⟨g3 H',SqL.of I.words⟩) ?_ ?_⟩
 .intro i x y t σ H' hx hy I ht;obtain ⟨k',z',rfl⟩:=I.ex;rw [Nh] at hx hy;obtain ⟨k,hk,rfl⟩:=Nu.mp hx;obtain ⟨u,Z,rfl⟩:=Nu.mp hy;obtain ⟨vs,S,hp,U⟩:=I.row;have hm:=hw u (M7 _ (Na Z));ac_rfl;refine ⟨t,_,rfl,SqT.of zx,rfl,?_⟩;have ag:r≠t:=λx=>by rw [x] at S;rw [ht] at S;cases S
  have ak:b≠t:=λx=>by have:=I.words;rw [x,ht] at this;cases this
  have XG:upd H' t (.tup [.str k,.str u]) r=some (.lst (.str z::vs)):=by rw [zd ag];exact S
  erw [XG];have st:zi H (upd H' t (.tup [.str k,.str u])):=λc o e=>by
   have:=I.same c o e;rw [zd (zC this ht)];exact this
  have hi:i<ks.length:=(MY.mp hk).1;have ta:(ks.take i).length=(zs.take i).length:=by rw [Ow,Ow,Z6]
  have tk:ks.take (i+1)=ks.take i++[k]:=by rw [NW,hk];rfl
  have tz:zs.take (i+1)=zs.take i++[u]:=by rw [NW,Z];rfl
  refine ⟨k,u,rfl,hm.1,hm.2,λH3 s3=>⟨λv O=>?_,λO=>?_⟩⟩
  .have aj:H3 r=some (.lst (.str z::vs)):=s3 _ _ XG;have ai:H3 b=some (.lst (zs.map V.str)):=s3 _ _ (by rw [zd ak];exact I.words);refine ⟨_,aj,by simp;exact aW (by lia),⟨⟨_,_,rfl⟩,λc o e=>?_,⟨vs++[v],by rw [zx];rfl,?_,by simp [U]⟩,by rw [zd (Ni ab)];exact ai,I.ne⟩⟩
   .rw [zd (zC e I.ne.1)];exact s3 _ _ (st c o e)
   .rw [tk,tz,lh _ _ ta,hp];show (aG [k] [u]).map (vs++·)=_;simp [aG,O]
  .refine ⟨_,rfl,qn ?_ H3 (st.trans s3)⟩;have e1:aG ks zs=none:=by
    have k1:ks=ks.take (i+1)++ks.drop (i+1):=(List.take_append_drop _ _).symm;have z1:zs=zs.take (i+1)++zs.drop (i+1):=(List.take_append_drop _ _).symm;rw [k1,z1,lh _ _ (by rw [Ow,Ow,Z6]),tk,tz,lh _ _ ta,hp];simp [aG,O]
   rw [XH,e1];rfl
 .rintro σ H' I;obtain ⟨k',z',rfl⟩:=I.ex;obtain ⟨vs,S,hp,U⟩:=I.row;erw [S];intro l H2 G;rw [MV,Nz (zv _),Nz (by lia)] at hp;exact q _ (by rw [XH,hp];rfl) l H2 (I.same.trans G.same) G.at_
theorem jn:∀{l:List Nat}{w:List Nat},w∈aE c l->∀x∈w,x∈l
 | [],w,h,x,hx=>by
  rw [show aE c []=[[]] from rfl,M0] at h;rw [h] at hx;cases hx
 | y::l,w,h,x,hx=>by
  by_cases hc:y=c
  .rw [show aE c (y::l)=[]::aE c l from if_pos hc] at h;rcases MX.mp h with e|h
   .rw [e] at hx;cases hx
   .exact M7 _ (jn h x hx)
  .rw [iK c y l hc] at h;obtain ⟨a,r,e⟩:=fM c l;rw [e] at h;rcases MX.mp h with F|h
   .rw [F] at hx;rcases MX.mp hx with z|hx
    .rw [z];exact Nm ..
    .exact M7 _ (jn (l:=l) (w:=a) (by rw [e];exact Nm ..) x hx)
   .exact M7 _ (jn (l:=l) (by rw [e];exact M7 _ h) x hx)
theorem xC(c:Nat):∀l:List Nat,(aE c l).length<=l.length+1/\∀w∈aE c l,w.length<=l.length
 | []=>⟨by simp [aE],by simp [aE]⟩
 | y::l=>by
  obtain ⟨h1,h2⟩:=xC c l;by_cases hc:y=c
  .rw [show aE c (y::l)=[]::aE c l from if_pos hc];refine ⟨by simp;lia,λw z=>?_⟩;rcases MX.mp z with e|z
   .rw [e];simp
   .have:=h2 w z;simp;lia
  .rw [iK c y l hc];obtain ⟨a,r,e⟩:=fM c l;rw [e] at h1 h2 ⊢;refine ⟨by simpa [fo] using PH h1,λw z=>?_⟩;rcases MX.mp z with F|z
   .have:=h2 a (Nm ..);rw [F];simp;lia
   .have:=h2 w (M7 _ z);simp;lia
theorem yX:zw ["text","body"] Xv (zj kT):=fsc
theorem Ir(F:Fun K "read_row" "read_row" kT f fd)(T:Txt w K mg A)(YD:GF P w K mg base true 3 "body_of" Xv uX)(Yp:GX P w K mg base true 4 "row_of" ["words"] (vF A)):zm P w K mg base (CXW P w) true 5 f fd Xv (uv A):=by
 refine F.aH yX (λvs H Q E h=>?_) (λZ0 Ar outer s H vs Q E hr h=>?_)
 .rcases h with ⟨v,rfl,_⟩|⟨z,rfl,_⟩<;>rfl
 .have U:=fV (cm:=true) (P:=P) (w:=w) (K:=K) (mg:=mg) (base:=base) (N:=["text","body"]) (qual:="read_row") (scope:=zj kT) (f:=f) (cd:=Z0) (A:=Ar) (outer:=outer) (s:=s) (H:=H) (E:=E);refine ⟨_,(W.h (ze (zz (i:=1) yX.nd rfl (M5 rfl) (caD (zq YD hr rfl (clP (zb (za 0) zc)))))
   (ze (zL (tD (zI (clO gN) (clE (za 1)) (clE aR) (zD _)))
   (zg (iu rfl U T.SE rfl T.SL (zb zF zc)))
   zQ)
   (zg (zu (cXD (qk U Yp hr rfl (clP (zb (JM (dY fC (za 1) eG (dW (t9 vP zl))) zF) zc))))))))),?_⟩
  rcases h with ⟨v,rfl,tv,q⟩|⟨z,rfl,ha,Z,q,qn⟩
  case inl =>
   ac_rfl;refine .inr ⟨v,rfl,tv,?_⟩;ac_rfl;exact ⟨by decide,q⟩
  ac_rfl;refine .inl ⟨z,rfl,ha,Z,λH1 s1=>?_⟩;cases hb:eL z with
  | none =>
   erw [pU];exact ⟨by decide,qn (by unfold bN;rw [hb];rfl) H1 s1⟩
  | some b =>
   have eb:b=cK z:=by
    unfold eL at hb;split at hb
    .exact (NG.inj hb).symm
    .cases hb
   obtain ⟨b1,b2⟩:=uo ha;rw [<- eb] at b1 b2;have hs:bN z=cR (N1 (Ol b none (some (-1))) (c1 32)):=by unfold bN;rw [hb];rfl
   have b3:(Ol b none (some (-1))).length<=b.length:=PySem.Txt.slice_le _ _ _;erw [pU,ym,aN (Nx (Nx b2 Z) (by decide))];generalize S:Ol b none (some (-1))=y at *
   have ya:asc y=true:=by
    by_cases h0:0<(sg b).length
    .rw [yd h0] at S;rw [<- S];exact nN b1 λc hc=>(List.dropLast_sublist _).subset hc
    .rw [af] at h0;have:sg y=[]:=Q0 (by rw [af];lia);rw [bO,this];rfl
   have es:=xH y (c:=32) (by decide);obtain ⟨l1,l2⟩:=xC 32 (sg y);rw [af] at l1;refine ⟨by decide,aW (by lia),by rw [es,MV];exact aN (by lia),λp H2 G=>?_⟩;refine ⟨p,N1 y (c1 32),rfl,G.at_,?_,by rw [es,MV];lia,λu O=>?_,λxs hx p3 H3 J h3=>q xs (by rw [hs];exact hx) p3 H3 ((s1.trans G.same).trans J) h3,λhx H3 J=>⟨_,rfl,qn (by rw [hs];exact hx) H3 ((s1.trans G.same).trans J)⟩⟩
   .rw [es];obtain ⟨a,r,e⟩:=fM 32 (sg y);rw [e];simp
   .rw [es] at O;obtain ⟨v,hv,rfl⟩:=OU.mp O;refine ⟨nN ya (jn hv),?_⟩;rw [ni];have:=l2 v hv;rw [af] at this;lia
end
def bJ(i:Int):Prop:=0<=i/\i<10 ^ 18
inductive bI:List V->Prop
 | put (n g:Int) (b:Bool) (nm:Str) (pl:Int) (wd:Str):bJ n->bJ g->bJ pl->cJ nm=true->dZ wd=true->bI [.str V9,.int n,.int g,.bl b,.str nm,.int pl,.str wd]
 | cut (n:Int) (nm:Str) (pl:Int):bJ n->bJ pl->cJ nm=true->bI [.str V7,.int n,.str nm,.int pl]
 | hold (n:Int) (nm:Str):bJ n->cJ nm=true->bI [.str Wa,.int n,.str nm]
 | free (n:Int) (nm:Str):bJ n->cJ nm=true->bI [.str "free",.int n,.str nm]
 | carry (n g:Int) (wd:Str):bJ n->bJ g->dZ wd=true->bI [.str "carry",.int n,.int g,.str wd]
theorem Ct(h:∀c∈sg z,c∈sg y)(h1:1<=z.length)(h2:(z.length:Int)<=m):aV z y m=true:=by
 unfold aV;rw [decide_eq_true (show (1:Int)<=z.length by lia),decide_eq_true h2];rw [Bool.true_and,Bool.true_and,NM];exact λc hc=>Ph.mpr (h c hc)
theorem Fi(hl:∃a,l=a++[32]):cK (c7 (tx l))=tx l:=by
 obtain ⟨a,rfl⟩:=hl;have F:=fU (fu (tx (a++[32]))).1 (by have:=(fu (tx (a++[32]))).2;lia);have e:sg (c7 (tx (a++[32])))=a++32::(sg (toString (cg (tx (a++[32]))):Str)++[59]):=by
  unfold c7;rw [dB,dB,cx];simp;decide +kernel
 refine yT e λh=>?_;rcases NF.mp h with h|h
 .have:=F.dig 32 h;lia
 .simp at h
theorem vG(h:aV z y m=true)(F:32∉sg y):32∉sg z:=by
 unfold aV at h;rw [NJ] at h;intro G;exact F (Ph.mp (NM.mp h.2 32 G))
theorem lE(h:cJ z=true):32∉sg z:=vG h (f!"")
theorem wZ(h:dZ z=true):32∉sg z:=vG h (f!"")
theorem eJ(h:bJ i):32∉sg (toString i:Str):=λz=>by
 have:=(fU h.1 h.2).dig 32 z;lia
theorem AK(h:aV z y m=true)(F:∀c∈sg y,c<128)(hm:m<=100):asc z=true/\z.length<=100:=by
 unfold aV at h;rw [NJ,NJ,decide_eq_true_eq,decide_eq_true_eq] at h;refine ⟨?_,by lia⟩;rw [bO,NM];exact λc hc=>decide_eq_true (F c (Ph.mp (NM.mp h.2 c hc)))
theorem kO(h:cJ z=true):dv (.str z):=by
 obtain ⟨a,b⟩:=AK h (f!"") (by decide);exact .str z a b
theorem yi(h:dZ z=true):dv (.str z):=by
 obtain ⟨a,b⟩:=AK h (f!"") (by decide);exact .str z a b
theorem eT(h:bJ i):dv (.int i):=.int i h.1 h.2
theorem KD(h:bJ i):bT (toString i:Str)=true:=by
 have F:=fU h.1 h.2;unfold bT;rw [NJ];constructor
 .refine Ct (λc hc=>?_) (by rw [<- af];exact F.one) (by rw [<- af];have:=F.most;lia);have hf:sg FIG=[48,49,50,51,52,53,54,55,56,57]:=by decide
  rw [hf];have:=F.dig c hc;simp;lia
 .rcases F.head with h|⟨c,r,e,hc⟩
  .rw [decide_eq_true h];rfl
  .rw [e];have : ¬ tx (List.take 1 (c::r))=("0":Str):=λx=>by
    have:=congrArg sg x;rw [cx] at this;have z:sg ("0":Str)=[48]:=by decide
    rw [z] at this;injection this with h1 _
    lia
   rw [decide_eq_false this];simp
theorem eI(h:bJ i):aZ "number" (toString i:Str)=some (.int i):=by
 unfold aZ;rw [if_pos ⟨rfl,KD h⟩,(fU h.1 h.2).back];rfl
theorem lF(h:cJ z=true):aZ "name" z=some (.str z):=by
 unfold aZ;rw [if_neg (λx=>absurd x.1 (f!"")),if_neg (λx=>absurd x.1 (f!"")),if_pos ⟨rfl,h⟩]
theorem vJ(h:dZ z=true):aZ "word" z=some (.str z):=by
 unfold aZ;rw [if_neg (λx=>absurd x.1 (f!"")),if_neg (λx=>absurd x.1 (f!"")),if_neg (λx=>absurd x.1 (f!"")),if_pos ⟨rfl,h⟩]
theorem Mg(b:Bool):aZ "end" (az (.bl b))=some (.bl b):=by cases b<;>decide +kernel
theorem iZ(hn:∀u∈v::xs,32∉sg (az u)):bN (aP (v::xs))=cR ((v::xs).map az):=by
 have F:∀l:List V,zU l=(l.map λu=>sg (az u)++[32]).flatten:=λl=>rfl;have ap:∀(u:V)(l:List V),zU (u::l)=sg (az u)++32::zU l:=λu l=>by simp [zU]
 have key:∀(u:V)(l:List V),zU (u::l)=sg (az u)++((l.map λt=>sg (az t)).map (32::·)).flatten++[32]:=by
  intro u l
  induction l generalizing u with
  | nil=>simp [zU]
  | cons t l G =>
   rw [ap u (t::l),G t];simp
 have hb:cK (aP (v::xs))=tx (zU (v::xs)):=Fi ⟨_,key v xs⟩;have hs:eL (aP (v::xs))=some (tx (zU (v::xs))):=by
  unfold eL;rw [hb];exact if_pos rfl
 unfold bN;rw [hs];show cR (N1 (Ol (tx (zU (v::xs))) none (some (-1))) (c1 32))=_;rw [yd (by rw [cx,key,Nt];exact Nn (by decide) (Nat.le_add_left _ _)),cx,key,List.dropLast_concat,xH _ (by decide),cx,rq]
 .congr 1;rw [NO,NL,NO,iy];congr 1
 .intro u z;rcases MX.mp z with rfl|z
  .exact hn v (Nm ..)
  .obtain ⟨t,J,rfl⟩:=OU.mp z;exact hn t (M7 _ J)
theorem bI.read(h:bI xs):bN (aP xs)=some xs:=by
 have F:∀b:Bool,32∉sg (az (.bl b)):=λb=>by cases b<;>decide
 cases h with
 | put n g b nm pl G h1 h2 h3 h4 J =>
  rw [iZ (by
   simp only [MX,M1,or_false];rintro u (rfl|rfl|rfl|rfl|rfl|rfl|rfl)
   .decide +kernel
   .exact eJ h1
   .exact eJ h2
   .exact F b
   .exact lE h4
   .exact eJ h3
   .exact wZ J)]
  have z:dO V9=some (Wo:List Str):=by decide +kernel
  show cR [(V9:Str),(toString n:Str),(toString g:Str),az (.bl b),nm,(toString pl:Str),G]=_;rw [eK,z];simp only [Rg,N6,Pq,if_true,aG,eI h1,eI h2,Mg,lF h4,eI h3,vJ J,Sj]
 | cut n nm pl h1 h2 h3 =>
  rw [iZ (by
   simp only [MX,M1,or_false];rintro u (rfl|rfl|rfl|rfl)
   .decide +kernel
   .exact eJ h1
   .exact lE h3
   .exact eJ h2)]
  have z:dO V7=some (["number","name","number"]:List Str):=by decide +kernel
  show cR [(V7:Str),(toString n:Str),nm,(toString pl:Str)]=_;rw [eK,z];simp only [Rg,N6,Pq,if_true,aG,eI h1,lF h3,eI h2,Sj]
 | hold n nm h1 h2 =>
  rw [iZ (by
   simp only [MX,M1,or_false];rintro u (rfl|rfl|rfl)
   .decide +kernel
   .exact eJ h1
   .exact lE h2)]
  have z:dO Wa=some (Wn:List Str):=by decide +kernel
  show cR [(Wa:Str),(toString n:Str),nm]=_;rw [eK,z];simp only [Rg,N6,Pq,if_true,aG,eI h1,lF h2,Sj]
 | free n nm h1 h2 =>
  rw [iZ (by
   simp only [MX,M1,or_false];rintro u (rfl|rfl|rfl)
   .decide +kernel
   .exact eJ h1
   .exact lE h2)]
  have z:dO "free"=some (Wn:List Str):=by decide +kernel
  show cR [("free":Str),(toString n:Str),nm]=_;rw [eK,z];simp only [Rg,N6,Pq,if_true,aG,eI h1,lF h2,Sj]
 | carry n g G h1 h2 h3 =>
  rw [iZ (by
   simp only [MX,M1,or_false];rintro u (rfl|rfl|rfl|rfl)
   .decide +kernel
   .exact eJ h1
   .exact eJ h2
   .exact wZ h3)]
  have z:dO "carry"=some (["number","number","word"]:List Str):=by decide +kernel
  show cR [("carry":Str),(toString n:Str),(toString g:Str),G]=_;rw [eK,z];simp only [Rg,N6,Pq,if_true,aG,eI h1,eI h2,vJ h3,Sj]
theorem bI.parts(h:bI xs):xs.length<=10/\xs.all zV=true/\(∀v∈xs,∀b,v≠.byt b)/\∀v∈xs,dv v:=by
 have kp:∀z:Str,asc z=true->z.length<=100->dv (.str z):=λz a b=>.str z a b;cases h with
 | put n g b nm pl G h1 h2 h3 h4 F =>
  refine ⟨by simp,rfl,by simp,?_⟩;simp only [MX,M1,or_false];rintro u (rfl|rfl|rfl|rfl|rfl|rfl|rfl)
  .exact kp _ (by rw [bO];decide +kernel) (by decide)
  .exact eT h1
  .exact eT h2
  .exact .bl b
  .exact kO h4
  .exact eT h3
  .exact yi F
 | cut n nm pl h1 h2 h3 =>
  refine ⟨by simp,rfl,by simp,?_⟩;simp only [MX,M1,or_false];rintro u (rfl|rfl|rfl|rfl)
  .exact kp _ (by rw [bO];decide +kernel) (by decide)
  .exact eT h1
  .exact kO h3
  .exact eT h2
 | hold n nm h1 h2 =>
  refine ⟨by simp,rfl,by simp,?_⟩;simp only [MX,M1,or_false];rintro u (rfl|rfl|rfl)
  .exact kp _ (by rw [bO];decide +kernel) (by decide)
  .exact eT h1
  .exact kO h2
 | free n nm h1 h2 =>
  refine ⟨by simp,rfl,by simp,?_⟩;simp only [MX,M1,or_false];rintro u (rfl|rfl|rfl)
  .exact kp _ (by rw [bO];decide +kernel) (by decide)
  .exact eT h1
  .exact kO h2
 | carry n g G h1 h2 h3 =>
  refine ⟨by simp,rfl,by simp,?_⟩;simp only [MX,M1,or_false];rintro u (rfl|rfl|rfl|rfl)
  .exact kp _ (by rw [bO];decide +kernel) (by decide)
  .exact eT h1
  .exact eT h2
  .exact yi h3
abbrev Tx:=Option Str
def tv:Tx->V|none=>.non|some z=>.str z
def lv:Option Int->V|none=>.non|some i=>.int i
structure DM where
 rows:List (List Tx)
 J7:List Tx
 cnt:Int
 left:Option Int
 st:Bool
def dn(left:Option Int)(z:Int):Int:=match left with|none=>z|some l=>if l<z then l else z
def DM.spend(d:DM)(z:Int):DM:={ d with cnt:=d.cnt+dn d.left z,left:=d.left.map (· - dn d.left z),st:=decide (dn d.left z<z) }
inductive Res where|val (v:V)|full|stop
def jo(t:Str)(n:Int):Tx:=some (Txt.slice t none (some n))
def DM.write(m:Int)(d:DM)(k:Nat)(t:Str):Res×DM :=
 if d.st=true then (.stop,d) else if ((d.rows.getD k []).length:Int)=m then (.full,d) else
 if dn d.left t.length=0/\(d.spend t.length).st=true then (.stop,d.spend t.length) else
 ((if (d.spend t.length).st=true then .stop else .val (.int (d.rows.getD k []).length)),{ d.spend t.length with rows:=d.rows.set k (d.rows.getD k []++[jo t (dn d.left t.length)]) })
def DM.empty(d:DM)(k:Nat):Res×DM :=
 if d.st=true then (.stop,d) else
 if (d.spend (d.rows.getD k []).length).st=true then (.stop,{ d.spend (d.rows.getD k []).length with rows:=d.rows.set k (Nw (dn d.left (d.rows.getD k []).length).toNat none++(d.rows.getD k []).drop (dn d.left (d.rows.getD k []).length).toNat) }) else
 (.val .non,{ d.spend (d.rows.getD k []).length with rows:=d.rows.set k [] })
structure Rows(H:Hp)(wl:Addr)(cells:List Addr)(rows:List (List Tx)):Prop where
 w:H wl=some (.lst (cells.map V.ref))
 len:cells.length=rows.length
 at_:∀i c,cells[i]?=some c->H c=some (.lst ((rows.getD i []).map tv))
def zH(m:Int)(wl sl:Addr)(d:DM):List (Str×V):=[("width",.int m),("written",.ref wl),("at_sides",.ref sl),("counted",.int d.cnt),("left",lv d.left),("has_stopped",.bl d.st)]
structure zE(A:zh)(H:Hp)(p wl sl:Addr)(cells:List Addr)(m:Int)(d:DM):Prop where
 ob:∃dx,H p=some (.ins A.ub dx (zH m wl sl d))
 rows:Rows H wl cells d.rows
 J7:H sl=some (.lst (d.J7.map tv))
 nd:(p::wl::sl::cells).Nodup
def zt(F:List Addr)(H H':Hp):Prop:=∀b o,H b=some o->b∉F->H' b=some o
theorem zt.refl:zt F H H:=λ_ _ h _=>h
theorem zt.trans(a:zt F H H1)(b:zt F H1 H2):zt F H H2:=λc o h hc=>b c o (a c o h hc) hc
theorem zt.mono(a:zt F H H')(s:∀x∈F,x∈G):zt G H H':=λc o h hc=>a c o h λz=>hc (s c z)
theorem zt.same(a:zi H H'):zt F H H':=λc o h _=>a c o h
theorem zt.upd{o:HO}(hx:x∈F):zt F H (L2.upd H x o):=λc u h hc=>by
 have G:c≠x:=λz=>hc (by rw [z];exact hx);rw [zd G];exact h
theorem Rows.keep{rows:List (List Tx)}(r:Rows H wl cells rows)(k:∀b o,H b=some o->b=wl\/b∈cells->H' b=some o):Rows H' wl cells rows :=
 ⟨k _ _ r.w (.inl rfl),r.len,λi c hc=>k _ _ (r.at_ i c hc) (.inr (Na hc))⟩
theorem zE.keep{p wl sl:Addr}(D:zE A H p wl sl cells m d)(k:zt F H H')(z:∀x∈p::wl::sl::cells,x∉F):zE A H' p wl sl cells m d:=by
 obtain ⟨dx,h⟩:=D.ob;refine ⟨⟨dx,k _ _ h (z _ (by simp))⟩,D.rows.keep λb o e hb=>k b o e (z b ?_),k _ _ D.J7 (z _ (by simp)),D.nd⟩;rcases hb with rfl|hb
 .simp
 .simp [hb]
theorem sq{l:List Addr}(nd:l.Nodup){i j:Nat}(h1:l[i]?=some a)(h2:l[j]?=some a):i=j:=by
 obtain ⟨hi,z⟩:=MY.mp h1;obtain ⟨G,F⟩:=MY.mp h2;exact (List.getElem_inj nd).mp (z.trans F.symm)
theorem Rows.set{rows:List (List Tx)}{k:Nat}{r:List Tx}(R:Rows H wl cells rows)(nd:(wl::cells).Nodup)(hc:cells[k]?=some c):Rows (upd H c (.lst (r.map tv))) wl cells (rows.set k r):=by
 have hn:=Ob.mp nd;have J:k<rows.length:=by rw [<- R.len];exact (MY.mp hc).1
 have F:wl≠c:=λz=>hn.1 (by rw [z];exact Na hc);refine ⟨by rw [zd F];exact R.w,by rw [Ov];exact R.len,λi b hb=>?_⟩;by_cases hi:i=k
 .subst hi;rw [hc] at hb;cases hb;rw [zx];simp [MW,J]
 .have G:b≠c:=λz=>by
   subst z;exact hi (sq hn.2 hb hc)
  rw [zd G,R.at_ i b hb];simp [MW,Qo (Ni hi)]
abbrev qM:Stmt:=aC (top 55) 1
abbrev qt:Stmt:=aC (top 55) 2
abbrev qO:Stmt:=aC (top 55) 3
abbrev qw:Stmt:=aC (top 55) 4
abbrev ki:Stmt:=aC (top 55) 12
abbrev mj:Stmt:=aC (top 55) 13
abbrev jU:Stmt:=aC (top 55) 14
section
variable {P:M8}{w:Nl}{K:Frag}{mg:Str->Option Value}{base:Heap}{A:zh}
section
variable {m:Int}{wl sl:Addr}{d:DM}
theorem mi:(zH m wl sl d).lookup ("width":Str)=some (.int m):=by kernel_rfl
theorem gQ:(zH m wl sl d).lookup ("written":Str)=some (.ref wl):=by kernel_rfl
theorem BK:(zH m wl sl d).lookup ("at_sides":Str)=some (.ref sl):=by kernel_rfl
theorem rj:(zH m wl sl d).lookup ("counted":Str)=some (.int d.cnt):=by kernel_rfl
theorem w8:(zH m wl sl d).lookup ("left":Str)=some (lv d.left):=by kernel_rfl
theorem yl:(zH m wl sl d).lookup ("has_stopped":Str)=some (.bl d.st):=by kernel_rfl
theorem il:(zH m wl sl d).lookup (V6:Str)=none:=by kernel_rfl
theorem lJ:(zH m wl sl d).lookup ("places":Str)=none:=by kernel_rfl
theorem sN:(zH m wl sl d).lookup (VV:Str)=none:=by kernel_rfl
theorem Je:(zH m wl sl d).lookup ("told":Str)=none:=by kernel_rfl
theorem wt:(zH m wl sl d).lookup ("write":Str)=none:=by kernel_rfl
theorem my:(zH m wl sl d).lookup ("empty":Str)=none:=by kernel_rfl
theorem Gs:(zH m wl sl d).lookup ("stop":Str)=none:=by kernel_rfl
theorem vU:(zH m wl sl d).lookup (V4:Str)=none:=by kernel_rfl
theorem gU:(zH m wl sl d).lookup (Wb:Str)=none:=by kernel_rfl
theorem wY:(zH m wl sl d).lookup ("spend":Str)=none:=by kernel_rfl
theorem KZ:(zH m wl sl d).lookup (VO:Str)=none:=by kernel_rfl
theorem BW:zR "left" (lv x) (zH m wl sl d)=zH m wl sl { d with left:=x }:=by kernel_rfl
theorem qj:zR "left" (.int x) (zH m wl sl d)=zH m wl sl { d with left:=some x }:=BW (x:=some x)
theorem mn:zR "counted" (.int x) (zH m wl sl d)=zH m wl sl { d with cnt:=x }:=by kernel_rfl
theorem tF:zR "has_stopped" (.bl x) (zH m wl sl d)=zH m wl sl { d with st:=x }:=by kernel_rfl
theorem i9:(zH m wl sl d).length<1000:=by show 6<1000;decide
end
def d8(A:zh)(r:Int->DM->V):Sp:=λvs H Q _=>∃(p wl sl:Addr)(cells:List Addr)(m:Int)(d:DM),vs=[.ref p]/\zE A H p wl sl cells m d/\Q (r m d) H
def nY(A:zh):Sp:=λvs H Q _=>∃(p wl sl:Addr)(cells:List Addr)(m:Int)(d:DM)(k:Nat),vs=[.ref p,.int k]/\zE A H p wl sl cells m d/\k<d.rows.length/\Q (.int (d.rows.getD k []).length) H
def kQ(d:DM)(k j:Nat):V:=tv ((d.rows.getD k []).getD j none)
def uh(A:zh):Sp:=λvs H Q _=>∃(p wl sl:Addr)(cells:List Addr)(m:Int)(d:DM)(k j:Nat),vs=[.ref p,.int k,.int j]/\zE A H p wl sl cells m d/\k<d.rows.length/\Q (kQ d k j) H
def kU(A:zh):Sp:=λvs H Q E=>∃(p wl sl:Addr)(cells:List Addr)(m:Int)(d:DM),vs=[.ref p]/\zE A H p wl sl cells m d/\(d.st=true->E (.ref A.Sy) none H)/\(d.st=false->Q .non H)
def rp(A:zh):Sp:=λvs H Q _=>∃(p wl sl:Addr)(cells:List Addr)(m:Int)(d:DM)(n:Int),vs=[.ref p,.int n]/\zE A H p wl sl cells m d/\∀H',zE A H' p wl sl cells m (d.spend n)->zt [p] H H'->Q (.int (dn d.left n)) H'
def sP(A:zh):Sp:=λvs H Q E=>∃(p wl sl:Addr)(cells:List Addr)(m:Int)(d:DM)(t:Str),vs=[.ref p,.str t]/\zE A H p wl sl cells m d/\t.length<=1000 /\
 ∀H',zE A H' p wl sl cells m (d.spend t.length)->zt [p] H H'->((dn d.left t.length=0/\(d.spend t.length).st=true->E (.ref A.Sy) none H')/\(¬ (dn d.left t.length=0/\(d.spend t.length).st=true)->Q (.str (Txt.slice t none (some (dn d.left t.length)))) H'))
theorem Rows.cell{rows:List (List Tx)}(R:Rows H wl cells rows){k:Nat}(F:k<rows.length):∃c,cells[k]?=some c/\atI (cells.map V.ref) (k:Int)=some (.ref c)/\H c=some (.lst ((rows.getD k []).map tv)):=by
 have z:k<cells.length:=by rw [R.len];exact F
 refine ⟨cells[k],l6 z,dh (by rw [Nh,l6 z];rfl),R.at_ k _ (l6 z)⟩
theorem zE.obj{p wl sl dx:Addr}(D:zE A H p wl sl cells m d)(h1:d'.rows=d.rows)(h2:d'.J7=d.J7):zE A (upd H p (.ins A.ub dx (zH m wl sl d'))) p wl sl cells m d':=by
 have hn:=Ob.mp D.nd;have ne:∀b∈wl::sl::cells,b≠p:=λb hb z=>hn.1 (by rw [<- z];exact hb);refine ⟨⟨dx,zx⟩,?_,?_,D.nd⟩
 .rw [h1];refine D.rows.keep λb o e hb=>?_;rw [zd (ne b (by rcases hb with rfl|hb<;>simp_all))];exact e
 .rw [h2,zd (ne sl (by simp))];exact D.J7
theorem HM:zw Zn Zn (zj qM):=fsc
theorem G8(F:Fun K V6 "Disk.stretches" qM f fd)(T:Txt w K mg A):zm P w K mg base CX0 cm 1 f fd Zn (d8 A λ_ d=>.int d.rows.length):=by
 refine F.o HM λG z outer s H vs Q E hr h=>?_;obtain ⟨p,wl,sl,cells,m,d,rfl,D,q⟩:=h;obtain ⟨dx,h1⟩:=D.ob;refine ⟨_,(W.h (zg (zu (zO bf rfl T.vx NA (zb (fD (aq T.pw T.tr (clE (za 0)))) zc))))),?_⟩;erw [h1,D.rows.w,gQ,MV,D.rows.len];exact q
theorem FX:zw Zn Zn (zj qt):=fsc
theorem Dl(F:Fun K "places" "Disk.places" qt f fd)(T:Txt w K mg A):zm P w K mg base CX0 cm 1 f fd Zn (d8 A λm _=>.int m):=by
 refine F.o FX λG z outer s H vs Q E hr h=>?_;obtain ⟨p,wl,sl,cells,m,d,rfl,D,q⟩:=h;obtain ⟨dx,h1⟩:=D.ob;refine ⟨_,(W.h (zg (zu (fD (aq T.pw T.F6 (clE (za 0))))))),?_⟩;erw [h1,mi];exact q
theorem JE:zw Yc Yc (zj qO):=fsc
theorem Il(F:Fun K VV "Disk.next_place" qO f fd)(T:Txt w K mg A):zm P w K mg base CX0 cm 1 f fd Yc (nY A):=by
 refine F.o JE λO J outer s H vs Q E hr h=>?_;obtain ⟨p,wl,sl,cells,m,d,k,rfl,D,G,q⟩:=h;obtain ⟨dx,h1⟩:=D.ob;obtain ⟨c,hc,ha,z⟩:=D.rows.cell G;refine ⟨_,(W.h (zg (zu (zO bf rfl T.vx NA (zb (zK zP (fD (aq T.pw T.tr (clE (za 0)))) (za 1) (λ_ _=>rfl)) zc))))),?_⟩;erw [h1,D.rows.w,gQ,ha,z,MV];exact q
theorem xu:zw ["self","stretch","place","texts"] Wu (zj qw):=fsc
theorem Jh(F:Fun K "told" "Disk.told" qw f fd)(T:Txt w K mg A):zm P w K mg base CX0 cm 1 f fd Wu (uh A):=by
 refine F.o xu λU S outer s H vs Q E hr h=>?_;obtain ⟨p,wl,sl,cells,m,d,k,j,rfl,D,O,q⟩:=h;obtain ⟨dx,h1⟩:=D.ob;obtain ⟨c,hc,ha,J⟩:=D.rows.cell O;refine ⟨_,(W.h (ze (zz (i:=3) xu.nd rfl (M5 rfl) (zK zP (fD (aq T.pw T.tr (clE (za 0)))) (za 1) (λ_ _=>rfl)))
   (zg (zu (kP (tD (zI (clO (oI0 fg)) (clE (za 2)) (clE (zO bf rfl T.vx NA (zb (za 3) zc))) (zD _))) (zK zP (za 3) (za 2) (λ_ _=>rfl)) aR))))),?_⟩
 erw [h1,D.rows.w,gQ,ha,J,MV];refine zY (λh=>?_) (λh=>?_)
 .have G:j<(d.rows.getD k []).length:=by have:=of_decide_eq_true h;lia
  refine ⟨_,dh (by rw [Nh,l6 G];rfl),?_⟩;unfold kQ at q;rw [MW,l6 G] at q;exact q
 .have G : ¬ j<(d.rows.getD k []).length:=λz=>h (decide_eq_true (by lia));unfold kQ at q;rw [MW,OS (by lia)] at q;exact q
theorem Br:zw Zn Zn (zj ki):=fsc
theorem Cv(F:Fun K Wb V2 ki f fd)(T:Txt w K mg A):zm P w K mg base (CXW P w) true 1 f fd Zn (kU A):=by
 refine F.oW Br λG z outer s H vs Q E hr h=>?_;obtain ⟨p,wl,sl,cells,m,d,rfl,D,O,J⟩:=h;obtain ⟨dx,h1⟩:=D.ob;have S:=fV (cm:=true) (P:=P) (w:=w) (K:=K) (mg:=mg) (base:=base) (N:=Zn) (qual:=V2) (scope:=zj ki) (f:=f) (cd:=G) (A:=z) (outer:=outer) (s:=s) (H:=H) (E:=E);refine ⟨_,(W.h (zg (zL (aO (fD (aq T.pw T.vl (clE (za 0)))))
   (zg (iu rfl S T.SJ rfl T.SW (zb zF zc)))
   zQ))),?_⟩
 erw [h1,yl];refine zY (λh=>⟨by decide,O h⟩) (λh=>J (Pt.mpr h))
theorem qD:zw ["self","many","done"] WQ (zj mj):=fsc
theorem Ce(F:Fun K "spend" "Disk.spend" mj f fd)(T:Txt w K mg A):zm P w K mg base CX0 true 1 f fd WQ (rp A):=by
 refine F.o qD λJ G outer s H vs Q E hr h=>?_;obtain ⟨p,wl,sl,cells,m,d,n,rfl,D,q⟩:=h;obtain ⟨dx,h1⟩:=D.ob;refine ⟨_,(W.h (ze (zz (i:=2) qD.nd rfl (M5 rfl) (za 1))
   (ze (zL (tD (zI (clO kH) (clE (fD (aq T.pw T.z3 (clE (za 0))))) (clE aR) (zD _)))
   (ze (zz (i:=2) qD.nd rfl (M5 rfl) (zO (pS rfl) rfl T.U4 boot_min (zb (za 1) (zb (fD (aq T.pw T.z3 (clE (za 0)))) zc))))
   (zg (Ak T.pw T.z3 (za 0) (za 2) CA)))
   zQ)
   (ze (Ak T.pw T.zf (za 0) (za 2) Jd)
   (ze (sfD (bg T.pw T.vl (clE (za 0)) (clE (cz (oI0 fg) (za 2) (za 1) (zD _)))))
   (zg (zu (za 2)))))))),?_⟩
 cases hl:d.left with
 | none =>
  erw [h1,w8,hl,lv,zx,rj,mn,tF,qj,i9,eQ];have e:d.spend n={ d with cnt:=d.cnt+n,left:=none,st:=decide (n<n) }:=by unfold DM.spend;rw [hl];rfl
  have z:dn d.left n=n:=by rw [hl];rfl
  rw [e,z] at q;exact q _ (D.obj rfl rfl) (zt.upd (by simp))
 | some l =>
  erw [h1,w8,hl,lv,zx,rj,mn,tF,qj,i9,eQ];have z:dn d.left n=if l<n then l else n:=by rw [hl];rfl
  have e:d.spend n={ d with cnt:=d.cnt+(if l<n then l else n),left:=some (l-if l<n then l else n),st:=decide ((if l<n then l else n)<n) }:=by unfold DM.spend;rw [z,hl];rfl
  rw [e,z] at q;exact q _ (D.obj rfl rfl) (zt.upd (by simp))
theorem AO:zw ["self","text","done"] ["self","text"] (zj jU):=fsc
theorem ET(F:Fun K VO "Disk.first_signs" jU f fd)(T:Txt w K mg A)(ZP:GM P w K mg base true 1 A.ub "spend" WQ (rp A))(Z8:GMX P w K mg base true 1 A.ub Wb Zn (kU A)):zm P w K mg base (CXW P w) true 2 f fd ["self","text"] (sP A):=by
 refine F.oW AO λZ0 Ar outer s H vs Q E hr h=>?_;obtain ⟨p,wl,sl,cells,m,d,t,rfl,D,S,q⟩:=h;obtain ⟨dx,h1⟩:=D.ob;have U:_<cLine:=Ny (zT hr);have Th:=fV (cm:=true) (P:=P) (w:=w) (K:=K) (mg:=mg) (base:=base) (N:=["self","text","done"]) (qual:="Disk.first_signs") (scope:=zj jU) (f:=f) (cd:=Z0) (A:=Ar) (outer:=outer) (s:=s) (H:=H) (E:=E);refine ⟨_,(W.h (ze (zz (i:=2) AO.nd rfl (M5 rfl) (mD (cb (clE (za 0)) T.pw ZP hr (clP (zb (zO bf rfl T.vx NA (zb (za 1) zc)) zc)))))
   (ze (zL (tD (zI (clO (oE (aX U))) (clE (za 2)) (clE zl) (zD _)))
   (zg (aw (iA (ij (clE (za 0)) T.pw Th Z8 hr))))
   zQ)
   (zg (zu (dY fC (za 1) eG (dW (za 2)))))))),?_⟩
 have J:t.length<=sizeLine:=Nx S (by decide);erw [h1,wY,J];refine ⟨p,wl,sl,cells,m,d,_,rfl,D,λH1 G k1=>?_⟩;obtain ⟨q1,O⟩:=q H1 G k1;obtain ⟨ab,g1⟩:=G.ob;erw [g1,gU,J];refine zY (λh=>?_) (λh=>?_)
 .have Z:=of_decide_eq_true h;refine ⟨p,wl,sl,cells,m,_,rfl,G,λhs=>?_,λhs=>?_⟩
  .exact ⟨_,rfl,q1 ⟨Z,hs⟩⟩
  .erw [J];exact O λz=>by rw [z.2] at hs;cases hs
 .exact O λz=>h (decide_eq_true z.1)
end
abbrev lM:Stmt:=aC (top 55) 7
abbrev ly:Stmt:=aC (top 55) 9
section
variable {P:M8}{w:Nl}{K:Frag}{mg:Str->Option Value}{base:Heap}{A:zh}
theorem zE.UU{p wl sl c:Addr}{k:Nat}{r:List Tx}(D:zE A H p wl sl cells m d)(hc:cells[k]?=some c):zE A (upd H c (.lst (r.map tv))) p wl sl cells m { d with rows:=d.rows.set k r }:=by
 have hm:=Na hc;have nd:=D.nd;simp only [Ob,MX,not_or] at nd;obtain ⟨⟨W,Z,F⟩,⟨n4,O⟩,G,S⟩:=nd;obtain ⟨dx,h⟩:=D.ob;have J:p≠c:=λz=>F (by rw [z];exact hm);have U:sl≠c:=λz=>G (by rw [z];exact hm);exact ⟨⟨dx,by rw [zd J];exact h⟩,D.rows.set (Ob.mpr ⟨O,S⟩) hc,by rw [zd U];exact D.J7,D.nd⟩
def Out(A:zh)(r:Res)(Q:VK)(E:XK)(H:Hp):Prop:=match r with | .val v=>Q v H | .full=>E (.ref A.Full) none H | .stop=>E (.ref A.Sy) none H
def small(d:DM):Prop:=∀k,(d.rows.getD k []).length<=1000
def mr(A:zh):Sp:=λvs H Q E=>∃(p wl sl:Addr)(cells:List Addr)(m:Int)(d:DM)(k:Nat)(t:Str),vs=[.ref p,.int k,.str t]/\zE A H p wl sl cells m d/\k<d.rows.length/\t.length<=1000/\small d /\
 ∀H',zE A H' p wl sl cells m (d.write m k t).2->zt (p::wl::sl::cells) H H'->Out A (d.write m k t).1 Q E H'
def kX(A:zh):Sp:=λvs H Q E=>∃(p wl sl:Addr)(cells:List Addr)(m:Int)(d:DM)(k:Nat),vs=[.ref p,.int k]/\zE A H p wl sl cells m d/\k<d.rows.length/\small d/\(∀l,d.left=some l->0<=l) /\
 ∀H',zE A H' p wl sl cells m (d.empty k).2->zt (p::wl::sl::cells) H H'->Out A (d.empty k).1 Q E H'
theorem wD{d:DM}:(d.spend n).rows=d.rows:=rfl
theorem DX{r:List Tx}{t:Str}:r.map tv++[V.str (Txt.slice t none (some n))]=(r++[jo t n]).map tv:=by rw [NI];rfl
theorem nr:zw Wi Wp (zj lM):=fsc
theorem Bd(F:Fun K "write" "Disk.write" lM f fd)(T:Txt w K mg A)(ZL:GMX P w K mg base true 2 A.ub VO ["self","text"] (sP A))(Z8:GMX P w K mg base true 1 A.ub Wb Zn (kU A)):zm P w K mg base (CXW P w) true 3 f fd Wp (mr A):=by
 refine F.oW nr λZ0 Ar outer s H vs Q E hr h=>?_;obtain ⟨p,wl,sl,cells,m,d,k,t,rfl,D,hk,ht,Z,q⟩:=h;obtain ⟨dx,h1⟩:=D.ob;have hu:_<cLine:=Ny (zT hr);obtain ⟨c,hc,ha,hH⟩:=D.rows.cell hk;have S:=fV (cm:=true) (P:=P) (w:=w) (K:=K) (mg:=mg) (base:=base) (N:=Wi) (qual:="Disk.write") (scope:=zj lM) (f:=f) (cd:=Z0) (A:=Ar) (outer:=outer) (s:=s) (H:=H) (E:=E);refine ⟨_,(W.h (ze (aw (iA (ij (clE (za 0)) T.pw S Z8 hr)))
   (ze (zz (i:=3) nr.nd rfl (M5 rfl) (zK zP (fD (aq T.pw T.tr (clE (za 0)))) (za 1) (λ_ _=>rfl)))
   (ze (zz (i:=4) nr.nd rfl (M5 rfl) (zO bf rfl T.vx NA (zb (za 3) zc)))
   (ze (zL (tD (zI (clO (oE (aX hu))) (clE (za 4)) (clE (fD (aq T.pw T.F6 (clE (za 0))))) (zD _)))
   (zg (iu rfl S T.Vp rfl T.Vl (zb zF zc)))
   zQ)
   (ze (aw (fN (za 3) (mXD (hU (clE (za 0)) T.pw S ZL hr (clP (zb (za 2) zc))))))
   (ze (aw (iA (ij (clE (za 0)) T.pw S Z8 hr)))
   (zg (zu (za 4)))))))))),?_⟩
 erw [h1,gU];unfold DM.write at q;refine ⟨p,wl,sl,cells,m,d,rfl,D,λhs=>?_,λhs=>?_⟩
 .rw [if_pos hs] at q;exact ⟨_,rfl,q H D zt.refl⟩
 rw [if_neg (by rw [hs];exact M4)] at q;erw [h1,D.rows.w,gQ,mi,ha,hH,MV];refine zY (λh=>?_) (λh=>?_)
 .rw [if_pos (of_decide_eq_true h)] at q;exact ⟨by decide,q H D zt.refl⟩
 rw [if_neg (λz=>h (decide_eq_true z))] at q;erw [h1,hH,KZ];refine ⟨p,wl,sl,cells,m,d,t,rfl,D,ht,λH1 U k1=>⟨λhz=>?_,λhz=>?_⟩⟩
 .rw [if_pos hz] at q;exact ⟨_,rfl,q H1 U (k1.mono (by simp))⟩
 rw [if_neg hz] at q;obtain ⟨ab,g1⟩:=U.ob;have gc:=U.rows.at_ k c hc;rw [wD] at gc;have O:=U.UU (r:=d.rows.getD k []++[jo t (dn d.left t.length)]) hc;obtain ⟨Xj,g2⟩:=O.ob;erw [gc,DX,g2,gU];refine ⟨by rw [MV];exact nu (Z k),p,wl,sl,cells,m,_,rfl,O,λYv=>⟨_,rfl,?_⟩,λYv=>?_⟩
 .have G:(d.spend t.length).st=true:=Yv;have J:=q _ O ((k1.mono (by simp)).trans (zt.upd (by simp [Na hc])));rw [if_pos G] at J;exact J
 .have G:(d.spend t.length).st=false:=Yv;ac_rfl;have J:=q _ O ((k1.mono (by simp)).trans (zt.upd (by simp [Na hc])));rw [if_neg (by rw [G];exact M4)] at J;exact J
abbrev nj:Stmt:=top 17
abbrev mF:Stmt:=top 18
abbrev kj:Stmt:=aC (top 55) 0
abbrev lu:Stmt:=aC (top 55) 11
inductive Thg(H:Hp):V->Prop
 | non:Thg H .non
 | bl (b:Bool):Thg H (.bl b)
 | int (i:Int):Thg H (.int i)
 | str (x:Str):Thg H (.str x)
 | lst {a:Addr}{xs:List V}:H a=some (.lst xs)->Thg H (.ref a)
 | tup {a:Addr}{xs:List V}:H a=some (.tup xs)->Thg H (.ref a)
 | dic {a:Addr}{kvs:List (Key×V)}:H a=some (.dK kvs)->Thg H (.ref a)
theorem Thg.same(t:Thg H v)(s:zi H H'):Thg H' v:=by
 cases t with
 | non=>exact .non
 | bl b=>exact .bl b
 | int i=>exact .int i
 | str x=>exact .str x
 | lst h=>exact .lst (s _ _ h)
 | tup h=>exact .tup (s _ _ h)
 | dic h=>exact .dic (s _ _ h)
def rK:V->Bool | .int _=>true|_=>false
def gI(v:V)(a b:Int):Bool:=match v with | .int i=>decide (a<=i)&&decide (i<=b)|_=>false
def tK:Sp:=λvs H Q _=>∃v,vs=[v]/\Thg H v/\Q (.bl (rK v)) H
def kM:Sp:=λvs H Q _=>∃v a b,vs=[v,.int a,.int b]/\Thg H v/\Q (.bl (gI v a b)) H
theorem HQ{X:Cx}(t:Thg H v)(q:Q (.bl (match v with | .int _=>true | .bl _=>true|_=>false)) H):kL X.K [v,.ty "int"] H Q:=by
 cases t with
 | non=>exact ⟨_,_,_,_,_,rfl,rfl,.of .non,rfl,q⟩
 | bl b=>exact ⟨_,_,_,_,_,rfl,rfl,.of (.bl b),rfl,q⟩
 | int i=>exact ⟨_,_,_,_,_,rfl,rfl,.of (.int i),rfl,q⟩
 | str x=>exact ⟨_,_,_,_,_,rfl,rfl,.of (.str x),rfl,q⟩
 | lst h=>exact ⟨_,_,_,_,_,rfl,rfl,.of (.lst h),rfl,q⟩
 | tup h=>exact ⟨_,_,_,_,_,rfl,rfl,.of (.tup h),rfl,q⟩
 | dic h=>exact ⟨_,_,_,_,_,rfl,rfl,.of (.dK h),rfl,q⟩
theorem Ay{X:Cx}(t:Thg H v)(q:Q (.bl (match v with | .bl _=>true|_=>false)) H):kL X.K [v,.ty "bool"] H Q:=by
 cases t with
 | non=>exact ⟨_,_,_,_,_,rfl,rfl,.of .non,rfl,q⟩
 | bl b=>exact ⟨_,_,_,_,_,rfl,rfl,.of (.bl b),rfl,q⟩
 | int i=>exact ⟨_,_,_,_,_,rfl,rfl,.of (.int i),rfl,q⟩
 | str x=>exact ⟨_,_,_,_,_,rfl,rfl,.of (.str x),rfl,q⟩
 | lst h=>exact ⟨_,_,_,_,_,rfl,rfl,.of (.lst h),rfl,q⟩
 | tup h=>exact ⟨_,_,_,_,_,rfl,rfl,.of (.tup h),rfl,q⟩
 | dic h=>exact ⟨_,_,_,_,_,rfl,rfl,.of (.dK h),rfl,q⟩
theorem LJ:zw ["value"] ["value"] (zj nj):=fsc
theorem BE(F:Fun K "is_whole" "is_whole" nj f fd)(T:Txt w K mg A):zm P w K mg base CX0 cm 1 f fd ["value"] tK:=by
 refine F.o LJ λG z outer s H vs Q E hr h=>?_;obtain ⟨v,rfl,th,q⟩:=h;refine ⟨_,(W.h (zg (zu (anD (oX (clE (zO kG rfl T.L4 Q8 (zb (za 0) (zb (ji rfl T.U6 boot_int (v:=.ty "int") rfl) zc)))) (lI (ntD (FC (clE (zO kG rfl T.L4 Q8 (zb (za 0) (zb (ji rfl T.U9 boot_bool (v:=.ty "bool") rfl) zc)))))))))))),?_⟩;ac_rfl;refine HQ th ?_;cases th with
 | int i=>dsimp only [bD];exact jJ (Ay (.int i) q)
 | bl i=>dsimp only [bD];exact jJ (Ay (.bl i) q)
 | _=>dsimp only [bD];exact je q
theorem FL:zw Xk Xk (zj mF):=fsc
theorem AX(F:Fun K V0 V0 mF f fd)(T:Txt w K mg A)(z:GF P w K mg base cm 1 "is_whole" ["value"] tK):zm P w K mg base CX0 cm 2 f fd Xk kM:=by
 refine F.o FL λJ G outer s H vs Q E hr h=>?_;obtain ⟨v,a,b,rfl,th,q⟩:=h;refine ⟨_,(W.h (zg (zu (anD (oX (clE (caD (zq z hr rfl (clP (zb (za 0) zc))))) (lI (y7 (oI0 ku) (oI0 ku) (za 1) (za 0) (za 2)))))))),?_⟩;ac_rfl;refine ⟨_,rfl,th,?_⟩;cases th with
 | int i =>
  dsimp only [bD,rK];refine jJ ?_;ac_rfl;refine zY (λh=>?_) (λh=>?_)
  .have e:gI (.int i) a b=decide (i<=b):=by show (decide (a<=i)&&_)=_;rw [h];rfl
   rw [<- e];exact q
  .have e:gI (.int i) a b=false:=by show (decide (a<=i)&&_)=_;rw [Pt.mpr h];rfl
   rw [<- e];exact q
 | _=>dsimp only [bD,rK];exact je q
def DM.new(n:Nat):DM:=⟨Nw n [],[none,none],0,none,false⟩
def mz(A:zh):Sp:=λvs H Q _=>∃(p dx:Addr)(n m:Int),vs=[.ref p,.int n,.int m]/\H p=some (.ins A.ub dx [])/\3<=n/\n<=16/\2<=m/\m<=32 /\
 ∀(wl sl:Addr)(cells:List Addr)(H':Hp),zE A H' p wl sl cells m (DM.new n.toNat)->(∀b o,H b=some o->b≠p->H' b=some o)->(∀x∈wl::sl::cells,H x=none)->Q .non H'
structure xn(H:Hp)(i:Nat)(τ:L2.St)(ys:List V)(H':Hp):Prop where
 τ:∃t,τ=[t]
 ex:∃cells:List Addr,ys=cells.map V.ref/\cells.length=i/\(∀c∈cells,H' c=some (.lst [])/\H c=none)/\cells.Nodup
 same:zi H H'
 le:i<=16
theorem IJ:zw Ya Ya (zj kj):=fsc
theorem EL:bw { kind:=.function,names:=[(yv ".0",.local),(yv "number",.local)],isGenerator:=false,isCoroutine:=false,more:=[] } (zj kj).names Ya ["number"] [none]=true:=by decide +kernel
theorem A0:(["number"]:List Str).Nodup:=by decide +kernel
theorem Bz(F:Fun K We "Disk.__init__" kj f fd)(T:Txt w K mg A)(ZV:GF P w K mg base cm 2 V0 Xk kM):zm P w K mg base CX0 cm 3 f fd Ya (mz A):=by
 refine F.o IJ λZ0 Ar outer s H vs Q E hr h=>?_;obtain ⟨p,dx,n,m,rfl,hp,n0,n1,m0,m1,q⟩:=h;have h1:gI (.int n) 3 16=true:=by show (decide _&&decide _)=true;rw [decide_eq_true n0,decide_eq_true n1];rfl
 have h2:gI (.int m) 2 32=true:=by show (decide _&&decide _)=true;rw [decide_eq_true m0,decide_eq_true m1];rfl
 refine ⟨_,(W.h (ze (zL (dA (aO (caD (zq ZV hr rfl (clP (zb (za 1) (zb (cQ rfl T.SN) (zb (cQ rfl T.SO) zc))))))))
   (zg h6)
   zQ)
   (ze (zL (dA (aO (caD (zq ZV hr rfl (clP (zb (za 2) (zb (cQ rfl T.SZ) (zb (cQ rfl T.S2) zc))))))))
   (zg h6)
   zQ)
   (ze (sfD (bg T.pw T.F6 (clE (za 0)) (clE (za 2))))
   (ze (sfD (bg T.pw T.tr (clE (za 0)) (clE (dE (by intro h;exact nomatch h) (aB.of EL) (G6 rfl T.z4 (zb (za 1) zc)) (λ_ _ _ _ _=>(zy (i:=0) A0 rfl (M5 rfl))) (λ_ _ _ _ _=>du) (λ_ _ _ _ _=>(aA zc))))))
   (ze (sfD (bg T.pw T.Bn (clE (za 0)) (clE (aA (zb aR (zb aR zc))))))
   (ze (sfD (bg T.pw T.zf (clE (za 0)) (clE zl)))
   (ze (sfD (bg T.pw T.z3 (clE (za 0)) (clE aR)))
   (zg (sfD (bg T.pw T.vl (clE (za 0)) (clE bz)))))))))))),?_⟩
 ac_rfl;refine ⟨.int n,3,16,rfl,.int n,?_⟩;erw [h1];refine ⟨.int m,2,32,rfl,.int m,?_⟩;erw [h2,hp,zx,zR,cn];refine ⟨by decide,by lia,by lia,zX.rng (xn (upd H p (.ins A.ub dx [("width",.int m)]))) (λi τ ys H' I=>?_) ⟨⟨_,rfl⟩,⟨[],rfl,rfl,by simp,nodup_nil⟩,zi.refl _,by decide⟩ ?_ ?_⟩
 .obtain ⟨cells,e,l,_⟩:=I.ex;rw [e,MV,l];exact nu (Nx I.le (by decide))
 .intro N i τ ys H' hi I hN;obtain ⟨t,rfl⟩:=I.τ;obtain ⟨cells,e,l,hc,Xm⟩:=I.ex;ac_rfl;refine ⟨by decide,λc H2 Z _=>hN _ _ _ ⟨⟨_,rfl⟩,⟨cells++[c],by rw [e,NI];rfl,by simp [l],λb hb=>?_,?_⟩,I.same.trans Z.same,by lia⟩⟩
  .rcases NF.mp hb with hb|hb
   .exact ⟨Z.same _ _ (hc b hb).1,(hc b hb).2⟩
   .rw [M0] at hb;subst hb;exact ⟨Z.at_,I.same.free Z.no⟩
  .refine Pp.mpr ⟨Xm,by simp,λa ha b hb=>?_⟩;rw [M0] at hb;subst hb;exact zC (hc a ha).1 Z.no
 .intro τ ys H1 I D H2 S;obtain ⟨cells,e,l,hc,Xm⟩:=I.ex;have e1:H2 p=some (.ins A.ub dx [("width",.int m)]):=S.same _ _ (I.same _ _ zx);have w1:zR "written" (.ref D) [(("width":Str),V.int m)]=[(("width":Str),V.int m),("written",.ref D)]:=by kernel_rfl
  refine ⟨dx,_,e1,by show 1<1000;decide,by decide,λs1 H3 U _=>?_⟩;rw [w1] at U;have e3:H3 p=some (.ins A.ub dx [("width",.int m),("written",.ref D)]):=U.same _ _ zx;have w2:zR "at_sides" (.ref s1) [(("width":Str),V.int m),("written",.ref D)]=[(("width":Str),V.int m),("written",.ref D),("at_sides",.ref s1)]:=by kernel_rfl
  have w3:zR "counted" (.int 0) [(("width":Str),V.int m),("written",.ref D),("at_sides",.ref s1)]=[(("width":Str),V.int m),("written",.ref D),("at_sides",.ref s1),("counted",.int 0)]:=by kernel_rfl
  have w4:zR "left" .non [(("width":Str),V.int m),("written",.ref D),("at_sides",.ref s1),("counted",.int 0)]=[(("width":Str),V.int m),("written",.ref D),("at_sides",.ref s1),("counted",.int 0),("left",.non)]:=by kernel_rfl
  have w5:zR "has_stopped" (.bl false) [(("width":Str),V.int m),("written",.ref D),("at_sides",.ref s1),("counted",.int 0),("left",.non)]=zH m D s1 (DM.new n.toNat):=by kernel_rfl
  refine ⟨dx,_,e3,?_⟩;rw [w2,w3,w4,w5,eQ,eQ,eQ];refine ⟨by show 2<1000;decide,by show 3<1000;decide,by show 4<1000;decide,by show 5<1000;decide,?_⟩;have pD:p≠D:=zC (I.same _ _ zx) S.no;have ps:p≠s1:=zC zx U.no;have J:∀b o,b≠p->H2 b=some o->H3 b=some o:=λb o hb h=>U.same _ _ (by rw [zd hb];exact h);have G:=S.at_;rw [e] at G;have cp:∀c∈cells,c≠p:=λc O z=>by have:=(hc c O).2;rw [z,zx] at this;cases this
  have cD:∀c∈cells,c≠D:=λc O=>zC (hc c O).1 S.no;have cs:∀c∈cells,c≠s1:=λc O=>zC (show (upd H2 p (.ins A.ub dx [("width",.int m),("written",.ref D)])) c=some _ by rw [zd (cp c O)];exact S.same _ _ (hc c O).1) U.no;have Ds:D≠s1:=zC (show (upd H2 p (.ins A.ub dx [("width",.int m),("written",.ref D)])) D=some _ by rw [zd (Ni pD)];exact G) U.no;have Hn:∀b,b≠p->(upd H p (.ins A.ub dx [("width",V.int m)])) b=none->H b=none:=λb hb h=>by rw [zd hb] at h;exact h
  refine q D s1 cells _ ⟨⟨dx,zx⟩,⟨?_,?_,λi c hi=>?_⟩,?_,?_⟩ (λb o hb Zw=>?_) (λx hx=>?_)
  .rw [zd (Ni pD)];exact J D _ (Ni pD) G
  .simp [DM.new,l]
  .have O:=Na hi;rw [zd (cp c O),J c _ (cp c O) (S.same _ _ (hc c O).1)];have:((DM.new n.toNat).rows.getD i [])=[]:=by
    unfold DM.new;rw [MW,Pj];split<;>rfl
   rw [this];rfl
  .rw [zd (Ni ps)];exact U.at_
  .simp only [Ob,MX,not_or];exact ⟨⟨pD,ps,λz=>cp p z rfl⟩,⟨Ds,λz=>cD D z rfl⟩,λz=>cs s1 z rfl,Xm⟩
  .rw [zd Zw];exact J b _ Zw (S.same _ _ (I.same _ _ (by rw [zd Zw];exact hb)))
  .simp only [MX] at hx;rcases hx with rfl|rfl|hx
   .exact Hn _ (Ni pD) (I.same.free S.no)
   .have z:=U.no;rw [zd (Ni ps)] at z;exact Hn _ (Ni ps) (I.same.free (S.same.free z))
   .exact Hn _ (cp x hx) (hc x hx).2
theorem DC{o:HO}(h:H a=some o):upd H a o=H:=by
 funext b;by_cases hb:b=a
 .rw [hb,zx,h]
 .rw [zd hb]
def eV(i:Nat)(r:List Tx):List Tx:=Nw i none++r.drop i
theorem JF{r:List Tx}(h:i<=r.length):(eV i r).length=r.length:=by simp [eV];lia
theorem Dj{r:List Tx}(h:i<r.length):((eV i r).map tv).set i .non=(eV (i+1) r).map tv:=by
 have e:V.non=tv none:=rfl;rw [e,<- map_set];congr 1;unfold eV;rw [List.set_append_right _ _ (by simp)];have h2:r.drop i=r[i]::r.drop (i+1):=OX h;rw [h2,N8,Se,List.set_cons_zero,List.replicate_succ',PK];rfl
structure B0(H1:Hp)(p c:Addr)(k:Nat)(n:Int)(r:List Tx)(i:Nat)(σ:L2.St)(H':Hp):Prop where
 ex:∃x,σ=[some (V.ref p),some (.int k),some (.ref c),some (.int n),x]
 at_:H'=upd H1 c (.lst ((eV i r).map tv))
 le:i<=r.length
theorem lO:zw Wj Yc (zj ly):=fsc
theorem Bs(F:Fun K "empty" "Disk.empty" ly f fd)(T:Txt w K mg A)(ZP:GM P w K mg base true 1 A.ub "spend" WQ (rp A))(Z8:GMX P w K mg base true 1 A.ub Wb Zn (kU A)):zm P w K mg base (CXW P w) true 2 f fd Yc (kX A):=by
 refine F.oW lO λZ0 Ar outer s H vs Q E hr h=>?_;obtain ⟨p,wl,sl,cells,m,d,k,rfl,D,hk,Z,hl,q⟩:=h;obtain ⟨dx,h1⟩:=D.ob;obtain ⟨c,hc,ha,hH⟩:=D.rows.cell hk;have Th:=fV (cm:=true) (P:=P) (w:=w) (K:=K) (mg:=mg) (base:=base) (N:=Wj) (qual:="Disk.empty") (scope:=zj ly) (f:=f) (cd:=Z0) (A:=Ar) (outer:=outer) (s:=s) (H:=H) (E:=E);refine ⟨_,(W.h (ze (aw (iA (ij (clE (za 0)) T.pw Th Z8 hr)))
   (ze (zz (i:=2) lO.nd rfl (M5 rfl) (zK zP (fD (aq T.pw T.tr (clE (za 0)))) (za 1) (λ_ _=>rfl)))
   (ze (zz (i:=3) lO.nd rfl (M5 rfl) (mD (cb (clE (za 0)) T.pw ZP hr (clP (zb (zO bf rfl T.vx NA (zb (za 2) zc)) zc)))))
   (ze (zL (aO (fD (aq T.pw T.vl (clE (za 0)))))
   (zg (Gv (bh N9.never (λ_=>rfl) (ef rfl T.z4 (zb (za 3) zc)) (zy (i:=4) lO.nd rfl (M5 rfl))
   (zg (cj aR (fB (za 2) (za 4) iM))))))
   (zg (aw (rY (za 2)))))
   (zg (aw (iA (ij (clE (za 0)) T.pw Th Z8 hr))))))))),?_⟩
 erw [h1,gU];unfold DM.empty at q;refine ⟨p,wl,sl,cells,m,d,rfl,D,λhs=>?_,λhs=>?_⟩
 .rw [if_pos hs] at q;exact ⟨_,rfl,q H D zt.refl⟩
 rw [if_neg (by rw [hs];exact M4)] at q;erw [h1,D.rows.w,gQ,ha,hH,MV,wY];generalize J:d.rows.getD k []=r at q hH ⊢;have ag:r.length<=1000:=by rw [<- J];exact Z k
 refine ⟨p,wl,sl,cells,m,d,_,rfl,D,λH1 U k1=>?_⟩;obtain ⟨ak,g1⟩:=U.ob;have gc:=U.rows.at_ k c hc;rw [wD,J] at gc;have aj:0<=dn d.left r.length:=by
  unfold dn;split
  .lia
  .rename_i l e;have:=hl l e;split<;>lia
 have ai:dn d.left r.length<=r.length:=by
  unfold dn;split
  .lia
  .split<;>lia
 have kF:∀o,zt (p::wl::sl::cells) H (upd H1 c o):=λo=>(k1.mono (by simp)).trans (zt.upd (by simp [Na hc]));erw [g1,yl];refine zY (λhst=>?_) (λhst=>?_)
 .rw [if_pos hst] at q;refine ⟨by lia,by lia,ao.rng (B0 H1 p c k (dn d.left r.length) r) ⟨⟨_,rfl⟩,(DC gc).symm,NV _⟩ ?_ ?_⟩
  .rintro i σ H' hi ⟨⟨x,rfl⟩,rfl,G⟩;have ix:ixN ((eV i r).map tv).length (0+(i:Int))=some i:=by
    unfold ixN;rw [if_pos (by lia),if_pos (by rw [MV,JF G];lia)];simp
   erw [zx,ix,eQ,Dj (show i<r.length by lia)];exact ⟨⟨_,rfl⟩,rfl,by lia⟩
  .rintro σ H' ⟨⟨x,rfl⟩,rfl,G⟩;have z:=U.UU (r:=eV (dn d.left r.length).toNat r) hc;obtain ⟨Xj,g2⟩:=z.ob;erw [g2,gU];refine ⟨p,wl,sl,cells,m,_,rfl,z,λO=>⟨_,rfl,q _ z (kF _)⟩,λO=>?_⟩;have S:(d.spend r.length).st=false:=O;rw [S] at hst;cases hst
 .rw [if_neg hst] at q;have z:=U.UU (r:=[]) hc;obtain ⟨Xj,g2⟩:=z.ob;have ab:upd H1 c (.lst []) p=some (.ins A.ub Xj (zH m wl sl { d.spend r.length with rows:=(d.spend r.length).rows.set k [] })):=g2;erw [gc,ab,gU];refine ⟨p,wl,sl,cells,m,_,rfl,z,λO=>absurd O hst,λO=>?_⟩;ac_rfl;exact q _ z (kF _)
def DM.copy(d:DM):DM:={ d with left:=none,st:=false }
def p0(A:zh):Sp:=λvs H Q _=>∃(p wl sl:Addr)(cells:List Addr)(m:Int)(d:DM),vs=[.ref p]/\zE A H p wl sl cells m d/\3<=d.rows.length/\d.rows.length<=16/\2<=m/\m<=32 /\
 ∀(z J G:Addr)(F:List Addr)(H':Hp),zE A H' z J G F m d.copy->zi H H'->(∀x∈z::J::G::F,H x=none)->Q (.ref z) H'
end
abbrev fJ:Stmt:=top 38
abbrev oj:Stmt:=top 36
abbrev l9:Stmt:=top 37
def rdT:Tx->Option (List V)|none=>none|some z=>bN z
structure cL(d:DM):Prop where
 ok:∀r∈d.rows,r.length<=32/\∀t∈r,∀z,t=some z->asc z=true/\z.length<=1000
 len:d.rows.length<=16
abbrev Tri:=List V×Nat×Nat
def jv:List V->Int|_::.int k::_=>k|_=>0
def one(o:Option (List V))(k j:Nat):List Tri:=match o with|some row=>[(row,k,j)]|none=>[]
theorem mZ(o:Option (List V))(k j:Nat):(one o k j).length<=1:=by cases o<;>simp [one]
def rIn(l:List Tx)(k:Nat):Nat->List Tri
 | 0=>[]
 | j+1=>rIn l k j++one (rdT (l.getD j none)) k j
def wU(rows:List (List Tx)):Nat->List Tri
 | 0=>[]
 | i+1=>wU rows i++rIn (rows.getD i []) i (rows.getD i []).length
def hW(H:Hp)(a:Addr)(t:Tri):Prop:=∃r,H a=some (.tup [.ref r,.int t.2.1,.int t.2.2])/\H r=some (.tup t.1)
def bE(H:Hp)(as:List Addr)(ts:List Tri):Prop:=Paired (hW H) as ts
def zA(H H':Hp):Prop:=∀a o,(∀ps,o≠.tbl ps)->H a=some o->H' a=some o
theorem zA.of(s:zi H H'):zA H H':=λa o _ e=>s a o e
theorem zA.refl:zA H H:=λ_ _ _ e=>e
theorem zA.trans(x:zA H H1)(y:zA H1 H2):zA H H2:=λa o n e=>y a o n (x a o n e)
theorem zA.ao(x:iP H H' P)(h:H P=some (.tbl ps)):zA H H':=λa o n e=>x a o (λz=>by subst z;rw [h] at e;cases e;exact n _ rfl) e
theorem zA.lam(x:iP H H' P)(h:cB pos q H P):zA H H':=by
 rcases h with h|⟨_,_,_,_,h,_⟩
 .exact zA.ao x h
 .exact zA.ao x h
theorem zA.list(s:zA H H')(h:H a=some (.lst xs)):H' a=some (.lst xs):=s _ _ (λ_=>nofun) h
theorem zA.tup{H H':Hp}(s:zA H H'){a:Addr}{xs:List V}(h:H a=some (.tup xs)):H' a=some (.tup xs):=s _ _ (λ_=>nofun) h
theorem zE.pL{p wl sl:Addr}(D:zE A H p wl sl cells m d)(s:zA H H'):zE A H' p wl sl cells m d:=by
 obtain ⟨dx,e⟩:=D.ob;exact ⟨⟨dx,s _ _ (λ_=>nofun) e⟩,⟨s.list D.rows.w,D.rows.len,λi c h=>s.list (D.rows.at_ i c h)⟩,s.list D.J7,D.nd⟩
theorem hW.pL{t:Tri}(h:hW H a t)(s:zA H H'):hW H' a t:=let ⟨r,e1,e2⟩:=h;⟨r,s.tup e1,s.tup e2⟩
theorem bE.pL(h:bE H as ts)(s:zA H H'):bE H' as ts:=Paired.wh h λ_ _ r=>r.pL s
theorem bE.same(h:bE H as ts)(s:zi H H'):bE H' as ts:=h.pL (.of s)
theorem cY{α β:Type}{R:α->β->Prop}{l1 z:List α}{F m2:List β}(h1:Paired R l1 F)(h2:Paired R z m2):Paired R (l1++z) (F++m2):=by
 induction h1 with
 | nil=>exact h2
 | cons r _ G=>exact .cons r G
theorem Hi(h:bN z=some row):∃y k ys,row = .str y::.int k::ys:=by
 unfold bN at h;obtain ⟨b,_,h⟩:=bind_eq_some_iff.mp h;cases e:N1 (Ol b none (some (-1))) (c1 32) with
 | nil=>rw [e] at h;cases h
 | cons w ws =>
  rw [e,eK] at h;obtain ⟨ks,F,h⟩:=bind_eq_some_iff.mp h;split at h
  .obtain ⟨vs,O,rfl⟩:=Nu.mp h;have:∃ks',ks=("number":Str)::ks':=by
    unfold dO at F;split at F
    .cases F;exact ⟨_,rfl⟩
    .split at F
     .cases F;exact ⟨_,rfl⟩
     .split at F
      .cases F;exact ⟨_,rfl⟩
      .split at F
       .cases F;exact ⟨_,rfl⟩
       .split at F
        .cases F;exact ⟨_,rfl⟩
        .cases F
   obtain ⟨ks',rfl⟩:=this;cases ws with
   | nil=>rename_i hl;cases hl
   | cons z zs =>
    have G:(aZ "number" z).bind (λv=>(aG ks' zs).map (v::·))=some vs:=O;obtain ⟨v,h1,h2⟩:=bind_eq_some_iff.mp G;obtain ⟨S,_,rfl⟩:=Nu.mp h2;have:∃k,v = .int k:=by
     unfold aZ at h1;by_cases J:bT z=true
     .rw [if_pos ⟨rfl,J⟩] at h1;cases h1;exact ⟨_,rfl⟩
     .rw [if_neg (λq=>J q.2),if_neg (λq=>absurd q.1 (by decide)),if_neg (λq=>absurd q.1 (by decide)),if_neg (λq=>absurd q.1 (by decide))] at h1;cases h1
    obtain ⟨k,rfl⟩:=this;exact ⟨w,k,S,rfl⟩
  .cases h
theorem fq{α:Type}{l:List α}{x:α}(h:j<l.length):l.getD j x∈l:=by
 rw [MW,l6 h];exact NP h
section
variable {P:M8}{w:Nl}{K:Frag}{mg:Str->Option Value}{base:Heap}{A:zh}
def Aq(A:zh):Sp:=λvs H Q _=>∃(p wl sl:Addr)(cells:List Addr)(m:Int)(d:DM)(k j:Nat),vs=[.ref p,.int k,.int j]/\zE A H p wl sl cells m d/\cL d/\k<d.rows.length /\
 (∀row,rdT ((d.rows.getD k []).getD j none)=some row->∀r H',zi H H'->H' r=some (.tup row)->Q (.ref r) H')/\(rdT ((d.rows.getD k []).getD j none)=none->∀H',zi H H'->Q .non H')
theorem Ew:zw WJ WJ (zj oj):=fsc
theorem LG(F:Fun K "row_at" "row_at" oj f fd)(T:Txt w K mg A)(S:GM P w K mg base true 1 A.ub "told" Wu (uh A))(YM:GX P w K mg base true 5 "read_row" Xv (uv A)):zm P w K mg base CX0 true 7 f fd WJ (Aq A):=by
 refine F.o Ew λZ0 Ar outer s H vs Q E hr h=>?_;obtain ⟨p,wl,sl,cells,m,d,k,j,rfl,D,tx,J,O,q2⟩:=h;refine ⟨_,(W.h (zg (sX rfl rfl ⟨rfl,rfl⟩ T.SE rfl T.SL (λGo Ex=>(zg (zu (cXD (qk yV YM hr rfl (clP (zb (mD (cb (clE (za 0)) T.pw S hr (clP (zb (za 1) (zb (za 2) zc))))) zc))))))) (λGo ea=>by
   have hr:=hr.mark (v:=some (.ref ea));exact (zg (zu aR)))))),?_⟩
 obtain ⟨dx,h1⟩:=D.ob;erw [h1,Je];refine ⟨p,wl,sl,cells,m,d,k,j,rfl,D,J,?_⟩;unfold kQ;have G:∀z,(d.rows.getD k []).getD j none=some z->asc z=true/\z.length<=1000:=λz e=>by
  have hr:d.rows.getD k []∈d.rows:=fq J;by_cases Z:j<(d.rows.getD k []).length
  .exact (tx.ok _ hr).2 _ (fq Z) z e
  .rw [MW,OS (by lia)] at e;cases e
 have exc:∀H1,zi H H1->rdT ((d.rows.getD k []).getD j none)=none->bR K A.SB/\mroIn K A.SB (.ref A.SB)=some true/\∀(ea:Addr)(oe:Obj),H1 ea=none->iQ A.SB oe->Q V.non (upd H1 ea (HO.frz oe (HO.own 0))):=λH1 s1 hn=>⟨T.SE,T.Va,λea oe he _=>q2 hn _ λa o e=>by rw [zd (zC (s1 _ _ e) he)];exact s1 _ _ e⟩;generalize (d.rows.getD k []).getD j none=t at G exc O;cases t with
 | none=>exact .inl ⟨_,rfl,.non,_,rfl,exc H (zi.refl _) rfl⟩
 | some z =>
  obtain ⟨a1,a2⟩:=G z rfl;exact .inr ⟨z,rfl,a1,by lia,λxs hx U H' s' h'=>O xs hx U H' s' h',λhn H' s'=>⟨_,rfl,exc H' s' hn⟩⟩
def nR(A:zh):Sp:=λvs H Q _=>∃(p wl sl:Addr)(cells:List Addr)(m:Int)(d:DM)(k:Nat),vs=[.ref p,.int k]/\zE A H p wl sl cells m d/\cL d/\k<d.rows.length /\
 ∀l as H',zi H H'->H l=none->H' l=some (.lst (as.map V.ref))->bE H' as (rIn (d.rows.getD k []) k (d.rows.getD k []).length)->Q (.ref l) H'
structure Bx(H:Hp)(p l:Addr)(k:Nat)(r:List Tx)(j:Nat)(σ:L2.St)(H':Hp):Prop where
 ex:∃t1 t2,σ=[some (V.ref p),some (.int k),some (.ref l),t1,t2]
 same:zi H H'
 no:H l=none
 ls:∃as:List Addr,H' l=some (.lst (as.map V.ref))/\bE H' as (rIn r k j)/\as.length<=j
theorem j6:zw ["disk","stretch","found","place","row"] Xx (zj l9):=fsc
theorem Dv(F:Fun K "rows_in" "rows_in" l9 f fd)(T:Txt w K mg A)(ZY:GM P w K mg base true 1 A.ub VV Yc (nY A))(Yo:GF P w K mg base true 7 "row_at" WJ (Aq A)):zm P w K mg base CX0 true 8 f fd Xx (nR A):=by
 refine F.o j6 λZ0 Ar outer s H vs Q E hr h=>?_;obtain ⟨p,wl,sl,cells,m,d,k,rfl,D,tx,hk,q⟩:=h;refine ⟨_,(W.h (ze (zz (i:=2) j6.nd rfl (M5 rfl) (aA zc))
   (ze (bh N9.never (λ_=>rfl) (ef rfl T.z4 (zb (mD (cb (clE (za 0)) T.pw ZY hr (clP (zb (za 1) zc)))) zc)) (zy (i:=3) j6.nd rfl (M5 rfl))
   (ze (zz (i:=4) j6.nd rfl (M5 rfl) (caD (zq Yo hr rfl (clP (zb (za 0) (zb (za 1) (zb (za 3) zc)))))))
   (zg (zL (tD (zI (clO kH) (clE (za 4)) (clE aR) (zD _)))
   (zg (aw (fN (za 2) (aH (zb (za 4) (zb (za 1) (zb (za 3) zc)))))))
   zQ))))
   (zg (zu (za 2)))))),?_⟩
 have ag:d.rows.getD k []∈d.rows:=by rw [MW,l6 hk];exact NP hk
 have ai:=(tx.ok _ ag).1;ac_rfl;refine ⟨by decide,λl H1 Z _=>?_⟩;have D1:=D.pL (.of Z.same);obtain ⟨dx,h1⟩:=D1.ob;erw [h1,sN];refine ⟨p,wl,sl,cells,m,d,k,rfl,D1,hk,?_⟩;ac_rfl;have er:(((d.rows.getD k []).length:Nat):Int).toNat=(d.rows.getD k []).length:=by lia
 rw [er];refine ⟨by lia,by lia,ao.rng (Bx H p l k (d.rows.getD k [])) ⟨⟨_,_,rfl⟩,Z.same,Z.no,[],Z.at_,.nil,zv _⟩ ?_ ?_⟩
 .rintro j σ H2 hj ⟨⟨t1,t2,rfl⟩,S,U,as,hl,ht,ha⟩;have ej:(0+(j:Int))=((j:Nat):Int):=by lia
  erw [ej];refine ⟨p,wl,sl,cells,m,d,k,j,rfl,D.pL (.of S),tx,hk,λrow XH r H3 J h3=>?_,λhn H3 J=>?_⟩
  .have G:=J _ _ hl;erw [G];refine ⟨by decide,λa H4 O=>?_⟩;have ab:=O.same _ _ G;erw [ab];have al:a≠l:=λz=>by have:=O.no;rw [z,G] at this;cases this
   have rl:r≠l:=λz=>by rw [z,G] at h3;cases h3
   refine ⟨by rw [MV];exact aW (by lia),⟨_,_,rfl⟩,λc o e=>?_,U,as++[a],by rw [zx];simp,?_,by simp;lia⟩
   .rw [zd (zC e U)];exact O.same _ _ (J _ _ (S _ _ e))
   .have e1:rIn (d.rows.getD k []) k (j+1)=rIn (d.rows.getD k []) k j++[(row,k,j)]:=by
     show rIn _ k j++_=_;rw [XH];rfl
    rw [e1];refine cY (Paired.wh ht λx t ⟨r',g1,g2⟩=>?_) (.cons ⟨r,?_,?_⟩ .nil)
    .refine ⟨r',?_,?_⟩
     .rw [zd (λz=>by rw [z,hl] at g1;cases g1)];exact O.same _ _ (J _ _ g1)
     .rw [zd (λz=>by rw [z,hl] at g2;cases g2)];exact O.same _ _ (J _ _ g2)
    .rw [zd al];exact O.at_
    .rw [zd rl];exact O.same _ _ h3
  .ac_rfl;refine ⟨⟨_,_,rfl⟩,S.trans J,U,as,J _ _ hl,?_,by lia⟩;have e1:rIn (d.rows.getD k []) k (j+1)=rIn (d.rows.getD k []) k j:=by
    show rIn _ k j++_=_;rw [hn];exact Oz _
   rw [e1];exact bE.same ht J
 .rintro σ H2 ⟨⟨t1,t2,rfl⟩,S,U,as,hl,ht,ha⟩;ac_rfl;exact q l as H2 S U hl ht
end
abbrev rD:Stmt:=top 39
def zr(t:Tri):Int:=jv t.1
theorem IU{α β:Type}{f:α->β}{zs m:List β}(h:zs.Perm m):∀{L:List α},m=L.map f->∃G:List α,G.Perm L/\zs=G.map f:=by
 induction h with
 | nil=>intro L e;cases L with
  | nil=>exact ⟨[],.nil,rfl⟩
  | cons a L=>cases e
 | cons x _ S =>
  intro L e;cases L with
  | nil=>cases e
  | cons a L =>
   rw [NO] at e;injection e with F z
   obtain ⟨G,p,rfl⟩:=S z;exact ⟨a::G,p.cons a,by rw [NO,F]⟩
 | swap x y l =>
  intro L e;cases L with
  | nil=>cases e
  | cons a L =>
   cases L with
   | nil=>rw [NO] at e;injection e with _ z;cases z
   | cons b L =>
    rw [NO,NO] at e;injection e with F z
    injection z with z e3
    exact ⟨b::a::L,.swap ..,by rw [NO,NO,F,z,e3]⟩
 | trans _ _ O J =>
  intro L e;obtain ⟨W,U,F⟩:=J e;obtain ⟨L2,p2,z⟩:=O F;exact ⟨L2,p2.trans U,z⟩
theorem AC:∀{l m:List Tri},l.Perm m->l.Pairwise (λa b=>zr a<zr b)->m.Pairwise (λa b=>zr a<zr b)->l=m
 | [],m,p,_,_=>(O2.nil_eq p)
 | a::l,[],p,_,_=>by have:=p.length_eq;cases this
 | a::l,b::m,p,h1,h2=>by
  obtain ⟨g1,F⟩:=NS.mp h1;obtain ⟨k1,k2⟩:=NS.mp h2;have e:a=b:=by
   refine OY λne=>?_;have ha:a∈b::m:=p.mem_iff.mp (Nm ..);have hb:b∈a::l:=p.mem_iff.mpr (Nm ..);rcases MX.mp ha with z|ha
   .exact ne z
   .rcases MX.mp hb with z|hb
    .exact ne z.symm
    .have:=k1 a ha;have:=g1 b hb;lia
  subst e;rw [AC (O2.cons_inv p) F k2]
theorem xA{l:List Tri}(nd:(l.map zr).Nodup)(h:l.Pairwise (λa b=>zr a<=zr b)):l.Pairwise (λa b=>zr a<zr b) :=
 (h.and (Ou.mp nd)).imp λ⟨h1,h2⟩=>by lia
open Classical in
noncomputable def ae(U:List Tri):List Tri:=if h:∃ts:List Tri,ts.Perm U/\ts.Pairwise (λa b=>zr a<=zr b) then h.choose else U
theorem Jk(nd:(U.map zr).Nodup)(p:ts.Perm U)(h:ts.Pairwise (λa b=>zr a<=zr b)):ts=ae U:=by
 have ex:∃ts:List Tri,ts.Perm U/\ts.Pairwise (λa b=>zr a<=zr b):=⟨ts,p,h⟩;unfold ae;rw [dif_pos ex];have F:(ts.map zr).Nodup:=(p.map zr).nodup_iff.mpr nd;have z:(ex.choose.map zr).Nodup:=(ex.choose_spec.1.map zr).nodup_iff.mpr nd;exact AC (p.trans ex.choose_spec.1.symm) (xA F h) (xA z ex.choose_spec.2)
def lpW:Pos:=⟨105,29,105,50⟩
def lpL:Pos:=⟨410,34,410,65⟩
def qW:Str:=(Pf Wc (zj fJ) 0 0 .none).qual++"<lambda>"
abbrev fk:Stmt:=top 70
def qL:Str:=(Pf Wd (zj fk) 0 0 .none).qual++"<lambda>"
structure TB(A:zh)(H:Hp):Prop where
 w:cB lpW qW H A.L0
 l:cB lpL qL H A.Sq
 ne:A.L0≠A.Sq
theorem Ap(h:cB pos q H P):∃ps,H P=some (.tbl ps):=by
 rcases h with h|⟨_,_,_,_,h,_⟩<;>exact ⟨_,h⟩
theorem jI(h:cB pos q H P)(k:∀a o,H a=some o->(a=P\/∀ps,o≠.tbl ps)->H' a=some o):cB pos q H' P:=by
 rcases h with h|⟨c,oc,vs,t,h1,h2,h3⟩
 .exact .inl (k _ _ h (.inl rfl))
 .exact .inr ⟨c,oc,vs,t,k _ _ h1 (.inl rfl),k _ _ h2 (.inr λps z=>by cases z),h3⟩
theorem TB.same(h:TB A H)(s:zi H H'):TB A H':=⟨jI h.w λa o e _=>s a o e,jI h.l λa o e _=>s a o e,h.ne⟩
theorem TB.keep(h:TB A H)(k:zt F H H')(G:∀x∈F,∀o,H x=some o->(∀ps,o≠.tbl ps)/\∀oc,o≠.frz oc (.own 0)):TB A H':=by
 have go:∀{pos q P},cB pos q H P->cB pos q H' P:=λ{pos q P} h=>by
  rcases h with h|⟨c,oc,vs,t,h1,h2,h3⟩
  .exact .inl (k _ _ h λz=>(G _ z _ h).1 _ rfl)
  .exact .inr ⟨c,oc,vs,t,k _ _ h1 λz=>(G _ z _ h1).1 _ rfl,k _ _ h2 λz=>(G _ z _ h2).2 _ rfl,h3⟩
 exact ⟨go h.w,go h.l,h.ne⟩
section
variable {P:M8}{w:Nl}{K:Frag}{mg:Str->Option Value}{base:Heap}{A:zh}
def nU(d:DM):List Tri:=wU d.rows d.rows.length
structure Gc(H:Hp)(p l:Addr)(d:DM)(i:Nat)(σ:L2.St)(H':Hp):Prop where
 ex:∃t1,σ=[some (V.ref p),some (.ref l),t1]
 same:zi H H'
 no:H l=none
 ls:∃as:List Addr,H' l=some (.lst (as.map V.ref))/\bE H' as (wU d.rows i)/\as.length<=32*i
theorem pe{k:Nat}:∀{j:Nat}{t:Tri},t∈rIn l k j->∃y n ys,t.1 = .str y::.int n::ys
 | 0,t,h=>by cases h
 | j+1,t,h=>by
  rcases NF.mp h with h|h
  .exact pe h
  .cases e:l.getD j none with
   | none=>rw [e] at h;cases h
   | some z =>
    rw [e] at h;cases F:bN z with
    | none=>rw [show rdT (some z)=bN z from rfl,F] at h;cases h
    | some row =>
     rw [show rdT (some z)=bN z from rfl,F] at h;have h:t=(row,k,j):=M0.mp h;rw [h];exact Hi F
theorem iF{rows:List (List Tx)}:∀{i:Nat}{t:Tri},t∈wU rows i->∃y n ys,t.1 = .str y::.int n::ys
 | 0,t,h=>by cases h
 | i+1,t,h=>by
  rcases NF.mp h with h|h
  .exact iF h
  .exact pe h
theorem Av(h:bE H as ts)(F:∀t∈ts,∃y n ys,t.1 = .str y::.int n::ys):Paired (rF H) as (ts.map zr):=by
 induction h with
 | nil=>exact .nil
 | @cons a t _ _ r _ O =>
  refine .cons ?_ (O λt h=>F t (M7 _ h));obtain ⟨y,n,ys,e⟩:=F t (Nm ..);obtain ⟨S,J,z⟩:=r;rw [e] at z;have G:zr t=n:=by unfold zr;rw [e];rfl
  rw [G];exact ⟨S,_,_,_,J,z⟩
theorem xm{zs:List (Int×Addr)}(h:bE H as ts)(p:zs.Perm ((ts.map zr).zip as))(hs:zs.Pairwise (λp q=>p.1<=q.1))(nd:(ts.map zr).Nodup):bE H (zs.map (·.2)) (ae ts):=by
 have hl:=ar h;have J:(ts.map zr).zip as=(as.zip ts).map λq=>(zr q.2,q.1):=by
  clear p nd
  induction h with
  | nil=>rfl
  | cons r _ F=>rw [NO,PC,PC,NO,F (Paired.length ‹_›)]
 obtain ⟨L,G,rfl⟩:=IU p J;have O:(as.zip ts).map (·.2)=ts:=List.map_snd_zip (by lia);have hm:∀q∈as.zip ts,hW H q.1 q.2:=by
  clear p G J O hs nd hl
  induction h with
  | nil=>intro q z;cases z
  | cons r _ F =>
   intro q z;rw [PC] at z;rcases MX.mp z with rfl|z
   .exact r
   .exact F q z
 have S:L.map (·.2)=ae ts:=Jk nd (by have:=G.map (·.2);rw [O] at this;exact this) (by
  have:=Ou.mp hs;exact Ou.mpr this)
 rw [<- S,NL];have:∀M:List (Addr×Tri),(∀q∈M,hW H q.1 q.2)->bE H (M.map ((·.2)∘λq=>(zr q.2,q.1))) (M.map (·.2)):=λM=>by
  induction M with
  | nil=>exact λ_=>.nil
  | cons q M F=>exact λh=>.cons (h q (Nm ..)) (F λr hr=>h r (M7 _ hr))
 exact this L λq z=>hm q (G.mem_iff.mp z)
def nS(A:zh):Sp:=λvs H Q _=>∃(p wl sl:Addr)(cells:List Addr)(m:Int)(d:DM),vs=[.ref p]/\zE A H p wl sl cells m d/\cL d/\((nU d).map zr).Nodup/\(nU d).length<64/\TB A H /\
 ∀l as H',zA H H'->TB A H'->H l=none->l≠sysModules->H' l=some (.lst (as.map V.ref))->bE H' as (ae (nU d))->Q (.ref l) H'
theorem mY:zw ["disk","found","stretch"] Wy (zj fJ):=fsc
theorem Hf(F:Fun K Wc Wc fJ f fd)(hc:fd.code = .ref c)(LB:fR mg base (.ref c) A.L0)(T:Txt w K mg A)(Z7:GM P w K mg base true 1 A.ub V6 Zn (d8 A λ_ d=>.int d.rows.length))(Zy:GF P w K mg base true 8 "rows_in" Xx (nR A)):zm P w K mg base CX0 true 9 f fd Wy (nS A):=by
 refine F.aJ hc mY (λvs H Q E h=>?_) (λAr outer s H vs Q E hr h=>?_)
 .obtain ⟨p,wl,sl,cells,m,d,rfl,_⟩:=h;rfl
 .obtain ⟨p,wl,sl,cells,m,d,rfl,D,tx,nd,Yk,tb,q⟩:=h;refine ⟨_,(W.h (ze (zz (i:=1) mY.nd rfl (M5 rfl) (aA zc))
   (ze (bh N9.never (λ_=>rfl) (ef rfl T.z4 (zb (m0D (bb (clE (za 0)) T.pw Z7 hr)) zc)) (zy (i:=2) mY.nd rfl (M5 rfl))
   (zg (aw (FY (za 1) (caD (zq Zy hr rfl (clP (zb (za 0) (zb (za 2) zc)))))))))
   (zg (zu (se LB hr rfl T.Q2 (za 1) rfl rfl (λ_ _ _ _ _=>rfl) rfl rfl rfl rfl)))))),?_⟩
  have ag:=tx.len;ac_rfl;refine ⟨by decide,λl H1 Z _=>?_⟩;have D1:=D.pL (.of Z.same);obtain ⟨dx,h1⟩:=D1.ob;erw [h1,il];refine ⟨p,wl,sl,cells,m,d,rfl,D1,?_⟩;ac_rfl;have er:((d.rows.length:Nat):Int).toNat=d.rows.length:=by lia
  rw [er];refine ⟨by lia,by lia,ao.rng (Gc H p l d) ⟨⟨_,rfl⟩,Z.same,Z.no,[],Z.at_,.nil,zv _⟩ ?_ ?_⟩
  .rintro i σ H2 hi ⟨⟨t1,rfl⟩,J,ln,as,hl,S,ha⟩;have ej:(0+(i:Int))=((i:Nat):Int):=by lia
   erw [hl,ej];refine ⟨p,wl,sl,cells,m,d,i,rfl,D.pL (.of J),tx,hi,λl2 bs H3 G n3 h3 t3=>?_⟩;have U:=G _ _ hl;have hb:bs.length<=32:=by
    have e1:=ar t3;have e2:∀(r:List Tx) k j,(rIn r k j).length<=j:=λr k j=>by
     induction j with
     | zero=>exact zv _
     | succ j ih=>show (rIn r k j++_).length<=_;rw [Nt];have:=mZ (rdT (r.getD j none)) k j;lia
    have:=e2 (d.rows.getD i []) i (d.rows.getD i []).length;have:=(tx.ok _ (fq (x:=[]) hi)).1;lia
   erw [U,h3];refine ⟨by rw [MV,MV];exact aN (by lia),⟨_,rfl⟩,λc o e=>?_,ln,as++bs,by rw [zx];simp,?_,by simp;lia⟩
   .rw [zd (zC e ln)];exact G _ _ (J _ _ e)
   .have up:∀{b xs},H3 b=some (.tup xs)->upd H3 l (.lst (map V.ref as++map V.ref bs)) b=some (.tup xs):=λ{b xs} e=>by rw [zd (λz=>by rw [z,U] at e;cases e)];exact e
    exact cY (Paired.wh S λx t ⟨r',g1,g2⟩=>⟨r',up (G _ _ g1),up (G _ _ g2)⟩) (Paired.wh t3 λx t ⟨r',g1,g2⟩=>⟨r',up g1,up g2⟩)
  .rintro σ H2 ⟨⟨t1,rfl⟩,J,ln,as,hl,S,ha⟩;ac_rfl;have Z6:=ar S;have O:=tb.same J;refine ⟨as,hl,O.w,by rw [Z6];exact Yk,(nU d).map zr,Av S λt h=>iF h,λD2 zs H3 L3 T3 f3 ai ab e3 pz sz=>?_⟩;have G:zA H2 H3:=zA.lam L3 O.w;have XT:TB A H3:=⟨T3,jI O.l λa o e h=>L3 a o (λz=>?_) e,O.ne⟩
   .refine q D2 (zs.map (·.2)) H3 ((zA.of J).trans G) XT (J.free f3) ab (by rw [e3,NL];rfl) ((xm S pz sz nd).pL G)
   .obtain ⟨ps,Yl⟩:=Ap O.w;rcases h with h|h
    .exact O.ne (z.symm.trans h)
    .rw [z,Yl] at e;cases e;exact h _ rfl
theorem cV(U:List Tri):(ae U).Perm U:=by
 unfold ae;split
 .rename_i h;exact h.choose_spec.1
 .exact .refl _
def eP(t:Tri):Bool:=match t.1 with | .str y::_=>!decide (y=("carry":Str))|_=>true
def dN(ts:List Tri)(hot:Bool):Nat->Option Nat
 | 0=>none
 | i+1=>match ts[i]? with|some t=>if eP t=hot then some t.2.1 else dN ts hot i|none=>dN ts hot i
def ov:Option Nat->V|none=>.non|some n=>.int n
noncomputable def ay(d:DM)(hot:Bool):Option Nat:=dN (ae (nU d)) hot (ae (nU d)).length
def iv(n:Nat):V:=.int n
structure Kv(H1:Hp)(p:Addr)(hot:Bool)(ts:List Tri)(i:Nat)(σ:L2.St)(H':Hp):Prop where
 ex:∃t1 t2 t3,σ=[some (V.ref p),some (.bl hot),some (ov (dN ts hot i)),t1,t2,t3]
 same:H'=H1
def xj(A:zh):Sp:=λvs H Q _=>∃(p wl sl:Addr)(cells:List Addr)(m:Int)(d:DM)(hot:Bool),vs=[.ref p,.bl hot]/\zE A H p wl sl cells m d/\cL d/\((nU d).map zr).Nodup/\(nU d).length<64/\TB A H /\
 ∀H',zA H H'->TB A H'->Q (ov (ay d hot)) H'
theorem hG:zw ["disk","is_hot","end","row","stretch","place"] ["disk","is_hot"] (zj rD):=fsc
theorem Ci(F:Fun K "end_of" "end_of" rD f fd)(T:Txt w K mg A)(Zc:GF P w K mg base true 9 Wc Wy (nS A)):zm P w K mg base CX0 true 10 f fd ["disk","is_hot"] (xj A):=by
 refine F.o hG λZ0 Ar outer s H vs Q E hr h=>?_;obtain ⟨p,wl,sl,cells,m,d,hot,rfl,D,tx,nd,Yk,tb,q⟩:=h;have U:_<cLine:=Ny (zT hr);refine ⟨_,(W.h (ze (zz (i:=2) hG.nd rfl (M5 rfl) aR)
   (ze (bh N9.never (λ_=>rfl) (liD (bU (clE (caD (zq Zc hr rfl (clP (zb (za 0) zc))))))) (cM (n:=3) (gsD (zJ (zy (i:=3) hG.nd rfl (M5 rfl)) (gsD (zJ (zy (i:=4) hG.nd rfl (M5 rfl)) (gsD (zJ (zy (i:=5) hG.nd rfl (M5 rfl)) bC)))))))
   (zg (zL (tD (zI (clO (oE (aX U))) (clE (cz (oE (gL U)) (zK zP (za 3) zl (λ_ _=>rfl)) (cQ rfl T.UQ) (zD _))) (clE (za 1)) (zD _)))
   (zg (zz (i:=2) hG.nd rfl (M5 rfl) (za 4)))
   zQ)))
   (zg (zu (za 2)))))),?_⟩
 ac_rfl;refine ⟨p,wl,sl,cells,m,d,rfl,D,tx,nd,Yk,tb,λl as H1 s1 XF ln _ hl J=>?_⟩;have Z:=ar J;ac_rfl;refine ⟨⟨_,SqL.of hl⟩,ao.lst (xs:=as.map V.ref) (Kv H1 p hot (ae (nU d))) ⟨⟨_,_,_,rfl⟩,rfl⟩ (λi σ H' _ I=>by rw [I.same];exact SqL.of hl) ?_ ?_⟩
 .rintro i x σ H' hx ⟨⟨t1,t2,t3,rfl⟩,rfl⟩;rw [Nh] at hx;obtain ⟨a,ha,rfl⟩:=Nu.mp hx;have hi:i<(ae (nU d)).length:=by rw [<- Z];exact (MY.mp ha).1
  have G:(ae (nU d))[i]?=some (ae (nU d))[i]:=l6 hi;generalize (ae (nU d))[i]=t at G;obtain ⟨r,e1,e2⟩:=bG J ha G;obtain ⟨y,n,ys,S⟩:=iF ((cV _).mem_iff.mp (Na G));rw [S] at e2;refine ⟨a,_,rfl,SqT.of e1,rfl,?_⟩;have ix:atI (V.str y::V.int n::ys) 0=some (V.str y):=dh (j:=0) (by simp);have O:eP t = !decide (y=("carry":Str)):=by unfold eP;rw [S]
  erw [e2,ix];have ep:dN (ae (nU d)) hot (i+1)=if eP t=hot then some t.2.1 else dN (ae (nU d)) hot i:=by
   show (match (ae (nU d))[i]? with|some t=>_|none=>_)=_;rw [G]
  refine zY (λh=>?_) (λh=>?_)
  .exact ⟨⟨_,_,_,by rw [ep,if_pos (by rw [O];exact of_decide_eq_true h)];rfl⟩,rfl⟩
  .exact ⟨⟨_,_,_,by rw [ep,if_neg (by rw [O];exact λz=>h (decide_eq_true z))]⟩,rfl⟩
 .rintro σ H' ⟨⟨t1,t2,t3,rfl⟩,rfl⟩;ac_rfl;have:=q _ s1 XF;unfold ay at this;rw [MV,Z];exact this
abbrev oF:Stmt:=top 61
abbrev qK:Stmt:=top 62
abbrev rE:Stmt:=top 63
abbrev oQ:Stmt:=top 64
def But(b:Addr)(H H':Hp):Prop:=∀a o,a≠b->H a=some o->H' a=some o
theorem But.of(s:zi H H'):But b H H':=λa o _ e=>s a o e
theorem But.trans(x:But b H H1)(y:But b H1 H2):But b H H2:=λa o n e=>y a o n (x a o n e)
theorem lN{α:Type}{xs:List α}{i:Int}(F:0<=i)(h1:i<xs.length):∃v,atI xs i=some v/\v∈xs:=by
 have hn:i.toNat<xs.length:=by lia
 have z:atI xs ((i.toNat:Nat):Int)=some xs[i.toNat]:=dh (l6 hn);rw [show ((i.toNat:Nat):Int)=i by lia] at z;exact ⟨_,z,NP hn⟩
def atD(ns:List Int)(k:Int):Int:=if k<ns.length then ns.getD k.toNat 0 else 0
def wH(K:Frag):Sp:=λvs H Q _=>∃(a:Addr)(ns:List Int)(k:Int),vs=[.ref a,.int k]/\SqL K H a (ns.map V.int)/\0<=k/\Q (.int (atD ns k)) H
theorem Kk:zw X0 X0 (zj oF):=fsc
theorem BU(F:Fun K "_law_cell" "_law_cell" oF f fd)(T:Txt w K mg A):zm P w K mg base CX0 true 1 f fd X0 (wH K):=by
 refine F.o Kk λS J outer s H vs Q E hr h=>?_;obtain ⟨a,ns,k,rfl,G,O,q⟩:=h;refine ⟨_,xB (Aa (tP fg (pv 1) (sr j8 rfl T.vx NA (dS (pv 0) d6)) (zD _))
  (mq (lY (xl ux (pv 0) (pv 1) (λ_ _=>rfl)))) yO) (mq (lY qA)),?_⟩
 ac_rfl;refine ⟨_,.inl G,?_⟩;rw [MV];refine zY (λh=>?_) (λh=>?_)
 .have h':k<(ns.length:Int):=of_decide_eq_true h;have hn:k.toNat<ns.length:=by lia
  have e:atD ns k=ns[k.toNat]:=by unfold atD;rw [if_pos h',MW,l6 hn];rfl
  refine ⟨a,ns.map V.int,k,.int (ns[k.toNat]),rfl,rfl,G,?_,by rw [<- e];exact q⟩;have z:atI (ns.map V.int) ((k.toNat:Nat):Int)=some (.int (ns[k.toNat])):=dh (by rw [Nh,l6 hn];rfl);have kz:((k.toNat:Nat):Int)=k:=by lia
  rw [kz] at z;exact z
 .have h' : ¬ k<(ns.length:Int):=λz=>h (decide_eq_true z);have e:atD ns k=0:=by unfold atD;rw [if_neg h']
  rw [<- e];exact q
theorem lg{a b:V}:atI [a,b] 0=some a:=rfl
theorem lP{a b:V}:atI [a,b] 1=some b:=rfl
theorem CT:ixN 2 0=some 0:=rfl
theorem LZ:ixN 2 1=some 1:=rfl
structure Pot(H:Hp)(a:Addr):Prop where
 ex:∃x y:Int,H a=some (.lst [.int x,.int y])/\0<=x/\0<=y/\y<2147483647
theorem Pot.same(h:Pot H a)(s:zi H H'):Pot H' a:=let ⟨x,y,e,r⟩:=h.ex;⟨⟨x,y,s _ _ e,r⟩⟩
theorem Pot.ne(h:Pot H a)(n:H l=none):l≠a:=λz=>by
 obtain ⟨x,y,e,_⟩:=h.ex;rw [z,e] at n;cases n
def sj(K:Frag):Sp:=λvs H Q _=>∃(a:Addr)(ns:List Int)(k:Int),vs=[.ref a,.int k]/\SqL K H a (ns.map V.int)/\0<=k/\∀l H',zi H H'->H l=none->Pot H' l->Q (.ref l) H'
theorem yW:zw ["_law_script","_law_k","_law_cell_here"] X0 (zj qK):=fsc
theorem B1(F:Fun K "_law_pot" "_law_pot" qK f fd)(T:Txt w K mg A)(G:GF P w K mg base true 1 "_law_cell" X0 (wH K)):zm P w K mg base CX0 true 2 f fd X0 (sj K):=by
 refine F.o yW λU S outer s H vs Q E hr h=>?_;obtain ⟨a,ns,k,rfl,J,O,q⟩:=h;refine ⟨_,(W.h (ze (zz (i:=2) yW.nd rfl (M5 rfl) (caD (zq G hr rfl (clP (zb (za 0) (zb (za 1) zc))))))
   (zg (zu (aA (zb (zO (lZ rfl) rfl T.UX boot_max (zb zl (zb (zB (oI0 gF) (za 2) (zB (oI jw) zl zl)) zc))) (zb (zB (oI fQ) (zB aF (zB (oI fQ) (zO IL rfl T.ah PyProof.Rows.boot_abs (zb (za 2) zc)) zl) (zB dC zl (zB aF (za 1) zl))) zl) zc))))))),?_⟩
 ac_rfl;refine ⟨a,ns,k,rfl,J,O,?_⟩;ac_rfl;refine ⟨⟨by decide,by decide,by decide⟩,by decide,.inl ⟨by decide,by decide⟩,by decide,by decide,λl H1 z _=>q l H1 z.same z.no ⟨⟨_,_,z.at_,?_,?_,?_⟩⟩⟩
 .split<;>lia
 .lia
 .lia
def dz:Sp:=λvs H Q _=>∃(a:Addr)(m:Int),vs=[.ref a,.int m]/\Pot H a/\0<m/\m<2 ^ 64/\∀(r:Int) H',But a H H'->Pot H' a->0<=r->r<m->Q (.int r) H'
theorem xY:zw ["_law_pot_here","_law_many","_law_digit"] Zv (zj rE):=fsc
theorem LY(F:Fun K Wf Wf rE f fd)(T:Txt w K mg A):zm P w K mg base CX0 true 1 f fd Zv dz:=by
 refine F.o xY λZ0 Ar outer s H vs Q E hr h=>?_;obtain ⟨a,m,rfl,⟨x,y,e,S,U,y1⟩,z,Z,q⟩:=h;refine ⟨_,(W.h (ze (zL (tD (zI (clO (oI0 gR)) (clE (zK zP (za 0) zl (λ_ _=>rfl))) (clE zl) (zD _)))
   (ze (cj (zO Be rfl T.U7 boot_divmod (zb (zK zP (za 0) zl (λ_ _=>rfl)) (zb (za 1) zc))) (cM (n:=2) (gsD (zJ (fB (za 0) zl iM) (gsD (zJ (zy (i:=2) xY.nd rfl (M5 rfl)) bC))))))
   (zg (zu (za 2))))
   zQ)
   (ze (cj (zB (oI fQ) (zB aF (zB dC (zK zP (za 0) zl (λ_ _=>rfl)) zl) zl) zl) (fB (za 0) zl iM))
   (zg (zu (zB (oI fQ) (zB (oI ot) (zB (oI fQ) (zB dC (zK zP (za 0) zl (λ_ _=>rfl)) (zK zP (za 0) zl (λ_ _=>rfl))) zl) zl) (za 1))))))),?_⟩
 erw [e,lg,lP];refine zY (λh=>?_) (λh=>?_)
 .refine ⟨z,Z,λp H2 O=>⟨p,_,rfl,SqT.of O.at_,rfl,?_⟩⟩;have e2:=O.same _ _ e;erw [e2,CT,lg];refine q _ _ (λc o J G=>by rw [zd J];exact O.same _ _ G) ⟨⟨_,_,zx,Int.ediv_nonneg S (by lia),U,y1⟩⟩ (Int.emod_nonneg _ (by lia)) (Int.emod_lt_of_pos _ z)
 .erw [LZ,zx,lP];refine ⟨.inr ⟨by decide,by decide⟩,by decide,.inl ⟨by lia,by lia⟩,by decide,⟨by decide,by decide⟩,z,q _ _ (λc o J G=>by rw [zd J];exact G) ⟨⟨_,_,zx,S,by lia,by lia⟩⟩ (Int.emod_nonneg _ (by lia)) (Int.emod_lt_of_pos _ z)⟩
def iD:Sp:=λvs H Q _=>∃(a:Addr),Pot H a/\((∃(l:Addr)(xs:List V),vs=[.ref a,.ref l]/\l≠a/\(H l=some (.lst xs)\/H l=some (.tup xs))/\0<xs.length/\xs.length<=1000/\∀v H',v∈xs->But a H H'->Pot H' a->Q v H') \/
 ∃z:Str,vs=[.ref a,.str z]/\0<z.length/\z.length<=1000/\∀c H',c∈sg z->But a H H'->Pot H' a->Q (.str (c1 c)) H')
theorem IQ:zw Yi Yi (zj oQ):=fsc
theorem Gm(F:Fun K V5 V5 oQ f fd)(T:Txt w K mg A)(Z9:GF P w K mg base true 1 Wf Zv dz):zm P w K mg base CX0 true 2 f fd Yi iD:=by
 refine F.ok IQ (λvs H Q E h=>?_) (λZ0 Ar outer s H vs Q E hr h=>?_)
 .obtain ⟨a,_,⟨l,xs,rfl,_⟩|⟨z,rfl,_⟩⟩:=h<;>rfl
 .refine ⟨_,(W.h (zg (zu (zK zP (za 1) (caD (zq Z9 hr rfl (clP (zb (za 0) (zb (zO bf rfl T.vx NA (zb (za 1) zc)) zc))))) (λ_ _=>rfl))))),?_⟩;obtain ⟨a,S,⟨l,xs,rfl,ne,hl,x0,x1,q⟩|⟨z,rfl,z0,z1,q⟩⟩:=h
  .ac_rfl;refine ⟨xs,hl,a,_,rfl,S,by lia,Qt (show (xs.length:Int)<=1000 by lia) (by decide),λr H' bt O G J=>?_⟩;obtain ⟨v,Z,hv⟩:=lN (xs:=xs) G J;rw [gG];exact ⟨xs,hl.imp (bt _ _ ne) (bt _ _ ne),v,Z,q v H' hv bt O⟩
  .ac_rfl;refine ⟨aN (by lia),a,_,rfl,S,by lia,Qt (show (z.length:Int)<=1000 by lia) (by decide),λr H' bt O G J=>?_⟩;obtain ⟨c,U,hc⟩:=lN (xs:=sg z) G (by rw [af];exact J);rw [wo];exact ⟨aN (by lia),c,U,q c H' hc bt O⟩
end
abbrev OR:=Option (List V)
def de(H:Hp)(v:V)(o:OR):Prop:=match o with|none=>v = .non|some xs=>∃r,v = .ref r/\H r=some (.tup xs)
structure aI(H:Hp)(sh:Addr)(shc:List Addr)(rs:List (List OR)):Prop where
 w:H sh=some (.lst (shc.map V.ref))
 len:shc.length=rs.length
 at_:∀i c,shc[i]?=some c->∃vs,H c=some (.lst vs)/\Paired (de H) vs (rs.getD i [])
 nd:(sh::shc).Nodup
theorem de.keep{o:OR}(h:de H v o)(k:∀r xs,H r=some (.tup xs)->H' r=some (.tup xs)):de H' v o:=by
 cases o with
 | none=>exact h
 | some xs=>obtain ⟨r,e,h⟩:=h;exact ⟨r,e,k _ _ h⟩
theorem aI.keep{sh:Addr}(h:aI H sh shc rs)(k1:∀r xs,H r=some (.tup xs)->H' r=some (.tup xs))(k2:∀b xs,b=sh\/b∈shc->H b=some (.lst xs)->H' b=some (.lst xs)):aI H' sh shc rs :=
 ⟨k2 _ _ (.inl rfl) h.w,h.len,λi c hc=>let ⟨vs,e,p⟩:=h.at_ i c hc;⟨vs,k2 _ _ (.inr (Na hc)) e,Paired.wh p λv o r=>r.keep k1⟩,h.nd⟩
theorem aI.pL{sh:Addr}(h:aI H sh shc rs)(s:zA H H'):aI H' sh shc rs:=h.keep (λ_ _ e=>s.tup e) λ_ _ _ e=>s.list e
theorem aI.same{sh:Addr}(h:aI H sh shc rs)(s:zi H H'):aI H' sh shc rs:=h.pL (.of s)
theorem aI.cell{sh:Addr}(h:aI H sh shc rs){k:Nat}(F:k<rs.length):∃c vs,shc[k]?=some c/\atI (shc.map V.ref) (k:Int)=some (.ref c)/\H c=some (.lst vs)/\Paired (de H) vs (rs.getD k [])/\vs.length=(rs.getD k []).length:=by
 have z:k<shc.length:=by rw [h.len];exact F
 obtain ⟨vs,e,p⟩:=h.at_ k _ (l6 z);exact ⟨_,vs,l6 z,dh (by rw [Nh,l6 z];rfl),e,p,ar p⟩
def rO(l:List OR)(k:Nat):Nat->List Tri
 | 0=>[]
 | j+1=>rO l k j++one (l.getD j none) k j
def wO(rs:List (List OR)):Nat->List Tri
 | 0=>[]
 | i+1=>wO rs i++rO (rs.getD i []) i (rs.getD i []).length
theorem qS(l:List Tx)(k:Nat):∀j,rIn l k j=rO (l.map rdT) k j
 | 0=>rfl
 | j+1=>by
  show rIn l k j++_=rO _ k j++_;rw [qS l k j];have:(l.map rdT).getD j none=rdT (l.getD j none):=by
   rw [MW,Nh,MW];cases l[j]? <;> rfl
  rw [this]
def rdR(rows:List (List Tx)):List (List OR):=rows.map λr=>r.map rdT
theorem bW(rows:List (List Tx))(i:Nat):(rdR rows).getD i []=(rows.getD i []).map rdT:=by
 unfold rdR;rw [MW,Nh,MW];cases rows[i]? <;> rfl
theorem AB(rows:List (List Tx)):∀i,wU rows i=wO (rdR rows) i
 | 0=>rfl
 | i+1=>by
  show wU rows i++_=wO _ i++_;rw [AB rows i,bW,MV,qS]
theorem k7(l:List OR)(k:Nat):∀j,(rO l k j).length<=j
 | 0=>zv _
 | j+1=>by show (rO l k j++_).length<=_;have:=k7 l k j;rw [Nt];have:=mZ (l.getD j none) k j;lia
section
variable {P:M8}{w:Nl}{K:Frag}{mg:Str->Option Value}{base:Heap}{A:zh}
structure LRc(H:Hp)(k:Nat)(l:List OR)(j:Nat)(τ:L2.St)(ys:List V)(H':Hp):Prop where
 ex:∃t1 t2,τ=[t1,t2,some (.int (k:Nat))]
 ys:∃as:List Addr,ys=as.map V.ref/\bE H' as (rO l k j)
 same:zi H H'
 le:j<=32
structure E8(H:Hp)(sh:Addr)(rs:List (List OR))(i:Nat)(σ:L2.St)(H':Hp):Prop where
 ex:∃fl t1 t2,σ=[some (V.ref sh),some (.ref fl),t1,t2]/\H fl=none/\∃as:List Addr,H' fl=some (.lst (as.map V.ref))/\bE H' as (wO rs i)
 same:zi H H'
 le:i<=16
def xb(rs:List (List OR)):Prop:=∀t∈wO rs rs.length,∃y n ys,t.1 = .str y::.int n::ys
def jq(A:zh):Sp:=λvs H Q _=>∃(sh:Addr)(shc:List Addr)(rs:List (List OR)),vs=[.ref sh]/\aI H sh shc rs/\rs.length<=16/\(∀i,(rs.getD i []).length<=32)/\xb rs/\((wO rs rs.length).map zr).Nodup/\(wO rs rs.length).length<64/\TB A H /\
 ∀l as H',zA H H'->TB A H'->H l=none->l≠sysModules->H' l=some (.lst (as.map V.ref))->bE H' as (ae (wO rs rs.length))->Q (.ref l) H'
theorem ie:zw Wz WC (zj fk):=fsc
theorem Mn:bw { kind:=.function,names:=[(yv ".0",.local),(yv "_law_place",.local),(yv "_law_row_here",.local),(yv "_law_stretch",.free)],isGenerator:=false,isCoroutine:=false,more:=[] } (zj fk).names Wz Wm [none,none,some 2]=true:=by decide +kernel
theorem vL:(Wm:List Str).Nodup:=by decide +kernel
theorem Gw(F:Fun K Wd Wd fk f fd)(hc:fd.code = .ref c)(LB:fR mg base (.ref c) A.Sq)(T:Txt w K mg A):zm P w K mg base CX0 true 1 f fd WC (jq A):=by
 refine F.aJ hc ie (λvs H Q E h=>?_) (λAr outer s H vs Q E hr h=>?_)
 .obtain ⟨sh,shc,rs,rfl,_⟩:=h;rfl
 .obtain ⟨sh,shc,rs,rfl,S,hl,ag,aj,nd,Yk,tb,q⟩:=h;have hu:_<cLine:=Ny (zT hr);refine ⟨_,(W.h (ze (zz (i:=1) ie.nd rfl (M5 rfl) (aA zc))
   (ze (bh N9.never (λ_=>rfl) (nA rfl T.Su (zb (za 0) zc)) (cM (n:=2) (gsD (zJ (zy (i:=2) ie.nd rfl (Ru rfl)) (gsD (zJ (zy (i:=3) ie.nd rfl (M5 rfl)) bC)))))
   (zg (zz (i:=1) ie.nd rfl (M5 rfl) (zB aF (za 1) (dE (λ_=>rfl) (aB.of Mn) (nA rfl T.Su (zb (za 3) zc)) (λ_ _ _ _ _=>(hV (n:=2) (gsD (zJ (zy (i:=0) vL rfl (M5 rfl)) (gsD (zJ (zy (i:=1) vL rfl (M5 rfl)) bC)))))) (λ_ _ _ _ _=>(ip (tD (zI (clO kH) (clE (za 1)) (clE aR) (zD _))))) (λ_ _ _ _ _=>(aH (zb (za 1) (zb (za 2) (zb (za 0) zc))))))))))
   (zg (zu (se LB hr rfl T.Q2 (za 1) rfl rfl (λ_ _ _ _ _=>rfl) rfl rfl rfl rfl)))))),?_⟩
  ac_rfl;refine ⟨by decide,λfl H1 n1 _=>⟨⟨_,SqL.of (n1.same _ _ S.w)⟩,ao.enum (xs:=shc.map V.ref) (E8 H sh rs) ⟨⟨fl,_,_,rfl,n1.no,[],n1.at_,.nil⟩,n1.same,by lia⟩ (λi σ H' _ I=>SqL.of (I.same _ _ S.w)) ?_ ?_⟩⟩
  .rintro i x p σ H2 hx ⟨⟨ak,t1,t2,rfl,f0,as,hf,O⟩,U,le⟩ hp;rw [Nh] at hx;obtain ⟨cc,ab,rfl⟩:=Nu.mp hx;have hi:i<rs.length:=by rw [<- S.len];exact (MY.mp ab).1
   refine ⟨p,_,rfl,SqT.of zx,rfl,?_⟩;have nw:New H2 p (.tup [.int i,.ref cc]) (upd H2 p (.tup [.int i,.ref cc])):=.mk' hp;generalize upd H2 p (.tup [.int i,.ref cc])=H3 at nw ⊢;have S3:=S.same (U.trans nw.same);obtain ⟨vs,hv,pv⟩:=S3.at_ i cc ab;have lv:=ar pv;have a0:=ag i;have Z:=nw.same _ _ hf;erw [Z];refine ⟨⟨_,SqL.of hv⟩,zX.enum (xs:=vs) (LRc H3 i (rs.getD i [])) (λj τ ys H' I=>?_) (λj τ ys H' I=>SqL.of (I.same _ _ hv)) ⟨⟨_,_,rfl⟩,⟨[],rfl,.nil⟩,zi.refl _,by lia⟩ ?_ ?_⟩
   .obtain ⟨bs,e,tl⟩:=I.ys;have:=ar tl;have:=k7 (rs.getD i []) i j;have:=I.le;rw [e,MV];exact aW (by lia)
   .intro N j x p2 τ ys H4 hx I av hN;obtain ⟨t1,t2,rfl⟩:=I.ex;obtain ⟨bs,e,tl⟩:=I.ys;have hj:j<(rs.getD i []).length:=by rw [<- lv];exact (MY.mp hx).1
    have ho:(rs.getD i [])[j]?=some (rs.getD i [])[j]:=l6 hj;have hr:=bG pv hx ho;have eg:(rs.getD i []).getD j none=(rs.getD i [])[j]:=by rw [MW,ho];rfl
    generalize (rs.getD i [])[j]=o at hr eg;refine ⟨p2,_,rfl,SqT.of zx,rfl,?_⟩;have G:New H4 p2 (.tup [.int j,x]) (upd H4 p2 (.tup [.int j,x])):=.mk' av;generalize upd H4 p2 (.tup [.int j,x])=H5 at G ⊢;have er:rO (rs.getD i []) i (j+1)=rO (rs.getD i []) i j++one o i j:=by
     show rO _ i j++_=_;rw [eg]
    cases o with
    | none =>
     cases (show x=V.non from hr);ac_rfl;exact hN _ _ _ ⟨⟨_,_,rfl⟩,⟨bs,e,by rw [er];exact (Oz (rO (rs.getD i []) i j)).symm ▸ tl.same G.same⟩,I.same.trans G.same,by lia⟩
    | some row =>
     obtain ⟨r,rfl,aT⟩:=hr;ac_rfl;refine ⟨by decide,λp6 H6 J=>hN _ _ _ ⟨⟨_,_,rfl⟩,⟨bs++[p6],by rw [e];simp,?_⟩,(I.same.trans G.same).trans J.same,by lia⟩⟩;rw [er];exact cY (tl.same (G.same.trans J.same)) (.cons ⟨r,J.at_,J.same _ _ (G.same _ _ (I.same _ _ aT))⟩ .nil)
   .intro τ ys H4 I D H5 n5 _;obtain ⟨bs,e,tl⟩:=I.ys;rw [lv] at tl;have l1:=ar tl;have l2:=k7 (rs.getD i []) i (rs.getD i []).length;have l3:=ar O;have s5:zi H3 H5:=I.same.trans n5.same;have l4:(wO rs i).length<=32*i:=by
     clear O hf Z l3;have:∀n,n<=16->(wO rs n).length<=32*n:=λn=>by
      induction n with
      | zero=>exact λ_=>zv _
      | succ n ih =>
       intro hn;show (wO rs n++_).length<=_;have:=ih (by lia);have:=k7 (rs.getD n []) n (rs.getD n []).length;have:=ag n;rw [Nt];lia
     exact this i le
    rw [iJ];refine ⟨_,_,s5 _ _ Z,n5.at_,aN (by rw [e];simp;lia),λp6 H6 J=>?_⟩;refine ⟨⟨p6,_,_,rfl,?_,as++bs,by rw [J.at_,e];simp,?_⟩,(U.trans nw.same).trans (s5.trans J.same),by lia⟩
    .exact ((U.trans nw.same).trans s5).free J.no
    .exact cY (O.same ((nw.same.trans s5).trans J.same)) (tl.same (n5.same.trans J.same))
  .rintro σ H2 ⟨⟨ak,t1,t2,rfl,f0,as,hf,O⟩,U,le⟩;rw [MV,S.len] at O;have Z6:=ar O;have Yh:=tb.same U;ac_rfl;refine ⟨as,hf,Yh.l,by rw [Z6];exact Yk,(wO rs rs.length).map zr,Av O aj,λD2 zs H3 L3 T3 f3 a3 ai e3 pz sz=>?_⟩;have s3:zA H2 H3:=zA.lam L3 Yh.l;have XT:TB A H3:=⟨jI Yh.w λa o e h=>L3 a o (λz=>?_) e,T3,Yh.ne⟩
   .refine q D2 (zs.map (·.2)) H3 ((zA.of U).trans s3) XT (U.free f3) ai (by rw [e3,NL];rfl) ((xm O pz sz nd).pL s3)
   .obtain ⟨ps,Yl⟩:=Ap Yh.l;rcases h with h|h
    .exact Yh.ne (h.symm.trans z)
    .rw [z,Yl] at e;cases e;exact h _ rfl
def lS(U:List Tri)(hot:Bool)(o:Option Nat):Prop:=match o with
 | none=>∀t∈U,eP t≠hot
 | some e=>∃t∈U,eP t=hot/\t.2.1=e/\∀t'∈U,eP t'=hot->zr t'<=zr t
theorem Fo(U:List Tri):∃ts:List Tri,ts.Perm U/\ts.Pairwise (λa b=>zr a<=zr b):=by
 induction U with
 | nil=>exact ⟨[],.refl _,.nil⟩
 | cons x U G =>
  obtain ⟨ts,p,h⟩:=G;have ins:∀l:List Tri,l.Pairwise (λa b=>zr a<=zr b)->∃m:List Tri,m.Perm (x::l)/\m.Pairwise (λa b=>zr a<=zr b):=λl=>by
   induction l with
   | nil=>exact λ_=>⟨[x],.refl _,by simp⟩
   | cons y l G =>
    intro h;obtain ⟨h1,h2⟩:=NS.mp h;by_cases hx:zr x<=zr y
    .refine ⟨x::y::l,.refl _,NS.mpr ⟨λz F=>?_,h⟩⟩;rcases MX.mp F with rfl|F
     .exact hx
     .have:=h1 z F;lia
    .obtain ⟨m,p,hm⟩:=G h2;refine ⟨y::m,(p.cons y).trans (.swap x y l),NS.mpr ⟨λz F=>?_,hm⟩⟩;rcases MX.mp (p.mem_iff.mp F) with rfl|F
     .lia
     .exact h1 z F
  obtain ⟨m,p2,hm⟩:=ins ts h;exact ⟨m,p2.trans (p.cons x),hm⟩
theorem MO(U:List Tri):(ae U).Pairwise (λa b=>zr a<=zr b):=by
 have ex:=Fo U;unfold ae;rw [dif_pos ex];exact ex.choose_spec.2
theorem vm(h:ts.Pairwise (λa b=>zr a<=zr b))(hot:Bool):∀i,i<=ts.length->lS (ts.take i) hot (dN ts hot i)
 | 0,_=>λt F=>by simp at F
 | i+1,hi=>by
  have U:i<ts.length:=by lia
  have e:ts[i]?=some ts[i]:=l6 U;have O:=vm h hot i (by lia);have W:ts.take (i+1)=ts.take i++[ts[i]]:=by rw [NW,e];rfl
  have ep:dN ts hot (i+1)=if eP ts[i]=hot then some ts[i].2.1 else dN ts hot i:=by
   show (match ts[i]? with|some t=>_|none=>_)=_;rw [e]
  rw [ep,W];by_cases J:eP ts[i]=hot
  .rw [if_pos J];refine ⟨ts[i],Nk _ (M0.mpr rfl),J,rfl,λt' z _=>?_⟩;rcases NF.mp z with z|z
   .obtain ⟨j,Z,rfl⟩:=NQ z;rw [Ow] at Z;rw [RG];exact OW.mp h j i (by lia) U (by lia)
   .rw [M0.mp z];exact Int.le_refl _
  .rw [if_neg J];cases S:dN ts hot i with
   | none =>
    rw [S] at O;intro t F;rcases NF.mp F with F|F
    .exact O t F
    .rw [M0.mp F];exact J
   | some n =>
    rw [S] at O;obtain ⟨t,h1,h2,h3,h4⟩:=O;refine ⟨t,N0 _ h1,h2,h3,λt' z G=>?_⟩;rcases NF.mp z with z|z
    .exact h4 t' z G
    .rw [M0.mp z] at G;exact absurd G J
theorem uE(d:DM)(hot:Bool):lS (nU d) hot (ay d hot):=by
 have h:=vm (MO (nU d)) hot (ae (nU d)).length (zv _);rw [Nz (zv _)] at h;unfold ay;cases e:dN (ae (nU d)) hot (ae (nU d)).length with
 | none=>rw [e] at h;exact λt z=>h t ((cV _).mem_iff.mpr z)
 | some n =>
  rw [e] at h;obtain ⟨t,h1,h2,h3,h4⟩:=h;exact ⟨t,(cV _).mem_iff.mp h1,h2,h3,λt' F=>h4 t' ((cV _).mem_iff.mpr F)⟩
theorem pE{U:List Tri}(nd:(U.map zr).Nodup){s t:Tri}(hs:s∈U)(z:t∈U)(h:zr s=zr t):s=t:=by
 obtain ⟨i,hi,rfl⟩:=NQ hs;obtain ⟨j,F,rfl⟩:=NQ z;have:i=j:=by
  have h1:(U.map zr)[i]?=(U.map zr)[j]?:=by rw [Nh,Nh,l6 hi,l6 F];simpa using h
  exact (Qy (by simpa using hi) nd).mp h1
 subst this;rfl
theorem Jv(nd:(U.map zr).Nodup){o o':Option Nat}(h:lS U hot o)(h':lS U hot o'):o=o':=by
 cases o with
 | none =>
  cases o' with
  | none=>rfl
  | some e=>obtain ⟨t,h1,h2,_⟩:=h';exact absurd h2 (h t h1)
 | some e =>
  obtain ⟨t,h1,h2,h3,h4⟩:=h;cases o' with
  | none=>exact absurd h2 (h' t h1)
  | some J =>
   obtain ⟨s,g1,G,z,F⟩:=h';have:=h4 s g1 G;have:=F t h1 h2;have es:=pE nd h1 g1 (by lia);rw [<- h3,<- z,es]
theorem iH{k:Nat}{t:Tri}:∀{j:Nat},t∈rO l k j↔∃i,i<j/\l.getD i none=some t.1/\t.2=(k,i)
 | 0=>by simp [rO]
 | j+1=>by
  show t∈rO l k j++one (l.getD j none) k j↔_;rw [NF,iH (j:=j)];constructor
  .rintro (⟨i,h1,h2,h3⟩|h)
   .exact ⟨i,by lia,h2,h3⟩
   .cases e:l.getD j none with
    | none=>rw [e] at h;cases h
    | some row =>
     rw [e] at h;have h:t=(row,k,j):=M0.mp h;exact ⟨j,by lia,by rw [h];exact e,by rw [h]⟩
  .rintro ⟨i,h1,h2,h3⟩;by_cases hi:i<j
   .exact .inl ⟨i,hi,h2,h3⟩
   .have:i=j:=by lia
    subst this;refine .inr ?_;rw [h2];refine M0.mpr ?_;rw [<- h3]
theorem cO{t:Tri}:∀{n:Nat},t∈wO rs n↔t.2.1<n/\t.2.2<(rs.getD t.2.1 []).length/\(rs.getD t.2.1 []).getD t.2.2 none=some t.1
 | 0=>by simp [wO]
 | n+1=>by
  show t∈wO rs n++rO (rs.getD n []) n (rs.getD n []).length↔_;rw [NF,cO (n:=n),iH];constructor
  .rintro (⟨h1,h2⟩|⟨i,h1,h2,h3⟩)
   .exact ⟨by lia,h2⟩
   .rw [h3];exact ⟨by simp,h1,h2⟩
  .rintro ⟨h1,h2,h3⟩;by_cases hn:t.2.1<n
   .exact .inl ⟨hn,h2,h3⟩
   .have:t.2.1=n:=by lia
    exact .inr ⟨t.2.2,by rw [<- this];exact h2,by rw [<- this];exact h3,by rw [<- this]⟩
theorem vB{k:Nat}:∀j,(rO l k j).Nodup
 | 0=>.nil
 | j+1=>by
  show (rO l k j++one (l.getD j none) k j).Nodup;rw [Pp];refine ⟨vB j,by cases l.getD j none<;>simp [one],λa ha b hb e=>?_⟩;subst e;obtain ⟨i,h1,_,h3⟩:=iH.mp ha;cases z:l.getD j none with
  | none=>rw [z] at hb;cases hb
  | some row =>
   rw [z] at hb;have hb:a=(row,k,j):=M0.mp hb;rw [hb] at h3;have:j=i:=congrArg Prod.snd h3;lia
theorem nB:∀n,(wO rs n).Nodup
 | 0=>.nil
 | n+1=>by
  show (wO rs n++rO (rs.getD n []) n (rs.getD n []).length).Nodup;rw [Pp];refine ⟨nB n,vB _,λa ha b hb e=>?_⟩;subst e;have h1:=(cO.mp ha).1;obtain ⟨i,_,_,h3⟩:=iH.mp hb;have:a.2.1=n:=by rw [h3]
  lia
theorem cF{α:Type}{l:List α}{k i:Nat}{x d:α}(z:k<l.length):(l.set k x).getD i d=if i=k then x else l.getD i d:=by
 rw [MW,MW];by_cases h:i=k
 .rw [if_pos h,h,Py z];rfl
 .rw [if_neg h,Qo (Ni h)]
theorem ES{α:Type}{l m:List α}{d:α}(h:b<l.length):(l++m).getD b d=l.getD b d:=by
 rw [MW,MW,OJ h]
theorem vO{α:Type}{l:List α}{x d:α}:(l++[x]).getD l.length d=x:=by
 rw [MW,OB (zv _)];simp
theorem Md{k:Nat}{o:OR}(z:k<rs.length){t:Tri}:t∈wO (rs.set k (rs.getD k []++[o])) (rs.set k (rs.getD k []++[o])).length↔t∈wO rs rs.length\/(o=some t.1/\t.2=(k,(rs.getD k []).length)):=by
 obtain ⟨row,a,b⟩:=t;rw [cO,cO,Ov,cF z];show a<rs.length/\b<length (if a=k then rs.getD k []++[o] else rs.getD a [])/\List.getD (if a=k then rs.getD k []++[o] else rs.getD a []) b none=some row↔_;by_cases ha:a=k
 .rw [if_pos ha];subst ha;rw [Nt,P9];by_cases hb:b<(rs.getD a []).length
  .have e:(rs.getD a []++[o]).getD b none=(rs.getD a []).getD b none:=ES hb;rw [e];constructor
   .rintro ⟨h1,_,h3⟩;exact .inl ⟨h1,hb,h3⟩
   .rintro (⟨h1,_,h3⟩|⟨_,h⟩)
    .exact ⟨h1,by lia,h3⟩
    .injection h with _ h;lia
  .constructor
   .rintro ⟨h1,h2,h3⟩;have F:b=(rs.getD a []).length:=by lia
    rw [F,vO] at h3;exact .inr ⟨h3,by rw [F]⟩
   .rintro (⟨_,h2,_⟩|⟨h1,h⟩)
    .exact absurd h2 hb
    .injection h with _ h
     refine ⟨z,by lia,?_⟩;rw [h,vO];exact h1
 .rw [if_neg ha];constructor
  .exact λh=>.inl h
  .rintro (h|⟨_,h⟩)
   .exact h
   .injection h with h _;exact absurd h ha
theorem Mf{k:Nat}(z:k<rs.length){t:Tri}:t∈wO (rs.set k []) (rs.set k []).length↔t∈wO rs rs.length/\t.2.1≠k:=by
 rw [cO,cO,Ov,cF z];by_cases ha:t.2.1=k
 .rw [if_pos ha];constructor
  .rintro ⟨_,h,_⟩;simp at h
  .rintro ⟨_,h⟩;exact absurd ha h
 .rw [if_neg ha];exact ⟨λh=>⟨h,ha⟩,λh=>h.1⟩
abbrev mT:Stmt:=aC (top 55) 10
theorem JJ:zR "written" (.ref x) (zH m wl sl d)=zH m x sl d:=by kernel_rfl
theorem E3:zR "at_sides" (.ref x) (zH m wl sl d)=zH m wl x d:=by kernel_rfl
structure FA(H:Hp)(rows:List (List Tx))(i:Nat)(τ:L2.St)(ys:List V)(H':Hp):Prop where
 τ:∃t,τ=[t]
 ex:∃cs:List Addr,ys=cs.map V.ref/\cs.length=i/\(∀j c,cs[j]?=some c->H' c=some (.lst ((rows.getD j []).map tv)))/\(∀c∈cs,H c=none)/\cs.Nodup
 same:zi H H'
 le:i<=16
theorem HG(h1:d.cnt=d'.cnt)(h2:d.left=d'.left)(h3:d.st=d'.st):zH m wl sl d=zH m wl sl d':=by unfold zH;rw [h1,h2,h3]
theorem yx:zw Wl Zn (zj lu):=fsc
theorem Kj:bw { kind:=.function,names:=[(yv ".0",.local),(yv "texts",.local),(yv "list",.globalImplicit)],isGenerator:=false,isCoroutine:=false,more:=[] } (zj lu).names Wl ["texts"] [none]=true:=by decide +kernel
theorem LI:(["texts"]:List Str).Nodup:=by decide +kernel
theorem FG(F:Fun K V4 "Disk.copied" lu f fd)(T:Txt w K mg A)(Z7:GM P w K mg base cm 1 A.ub V6 Zn (d8 A λ_ d=>.int d.rows.length))(YB:GC P w K mg base cm 3 "Disk" A.ub Ya (mz A)):zm P w K mg base CX0 cm 5 f fd Zn (p0 A):=by
 refine F.o yx λZ0 Ar outer s H vs Q E hr h=>?_;obtain ⟨p,wl,sl,cells,m,d,rfl,D,r3,a8,m0,m1,q⟩:=h;obtain ⟨dx,h1⟩:=D.ob;refine ⟨_,(W.h (ze (zz (i:=1) yx.nd rfl (M5 rfl) (jT YB hr rfl (zb (m0D (bb (clE (za 0)) T.pw Z7 hr)) (zb (fD (aq T.pw T.F6 (clE (za 0)))) zc))))
   (ze (sfD (bg T.pw T.tr (clE (za 1)) (clE (dE (by intro h;exact nomatch h) (aB.of Kj) (liD (C1 (clE (fD (aq T.pw T.tr (clE (za 0))))))) (λ_ _ _ _ _=>(zy (i:=0) LI rfl (M5 rfl))) (λ_ _ _ _ _=>du) (λ_ _ _ _ _=>(eU xG rfl T.U5 boot_list (zb (za 0) zc)))))))
   (ze (sfD (bg T.pw T.Bn (clE (za 1)) (clE (eU xG rfl T.U5 boot_list (zb (fD (aq T.pw T.Bn (clE (za 0)))) zc)))))
   (ze (sfD (bg T.pw T.zf (clE (za 1)) (clE (fD (aq T.pw T.zf (clE (za 0)))))))
   (zg (zu (za 1)))))))),?_⟩
 erw [h1,il];refine ⟨p,wl,sl,cells,m,d,rfl,D,?_⟩;erw [h1,mi];intro x Xj H2 n2;refine ⟨x,Xj,d.rows.length,m,rfl,n2.at_,by lia,by lia,m0,m1,λa6 U XD H3 D3 kp fr=>⟨rfl,?_⟩⟩;have s3:zi H H3:=λb o e=>kp b o (n2.same b o e) (zC e n2.no);have Dk:zE A H3 p wl sl cells m d:=D.keep (F:=[]) (zt.same s3) (λx _ z=>nomatch z);obtain ⟨G,g3⟩:=D3.ob;obtain ⟨aj,gk⟩:=Dk.ob;have px:p≠x:=zC h1 n2.no;erw [gk,gQ,cn];refine ⟨⟨_,SqL.of Dk.rows.w⟩,zX.lst (xs:=cells.map V.ref) (FA H3 d.rows) (λi τ ys H' I=>?_) (λi τ ys H' I=>SqL.of (I.same _ _ Dk.rows.w)) ⟨⟨_,rfl⟩,⟨[],rfl,rfl,by simp,by simp,nodup_nil⟩,zi.refl _,by decide⟩ ?_ ?_⟩
 .obtain ⟨cs,e,l,_⟩:=I.ex;rw [e,MV,l];exact nu (Nx I.le (by decide))
 .intro N i v τ ys H' hi I hN;obtain ⟨t,rfl⟩:=I.τ;obtain ⟨cs,e,l,hc,hf,Xm⟩:=I.ex;rw [Nh] at hi;obtain ⟨c,ak,rfl⟩:=Nu.mp hi;have a0:=I.same _ _ (Dk.rows.at_ i c ak);have a7:i<cells.length:=(MY.mp ak).1;erw [a0];intro c2 H4 n4;refine hN _ _ _ ⟨⟨_,rfl⟩,⟨cs++[c2],by rw [e,NI];rfl,by simp [l],λj b hb=>?_,λb hb=>?_,?_⟩,I.same.trans n4.same,by have:=Dk.rows.len;lia⟩
  .by_cases hj:j<cs.length
   .rw [OJ hj] at hb;exact n4.same _ _ (hc j b hb)
   .have ai:j<(cs++[c2]).length:=(MY.mp hb).1;have ag:j=cs.length:=by rw [Nt] at ai;simp at ai;lia
    rw [ag,OB (zv _)] at hb;simp at hb;subst hb;rw [ag,l];exact n4.at_
  .rcases NF.mp hb with hb|hb
   .exact hf b hb
   .rw [M0] at hb;subst hb;exact I.same.free n4.no
  .refine Pp.mpr ⟨Xm,by simp,λa ha b hb=>?_⟩;rw [M0] at hb;subst hb;obtain ⟨j,hj⟩:=PZ ha;exact zC (hc j a hj) n4.no
 .intro τ ys H4 I W H5 nW;obtain ⟨cs,e,l,hc,hf,Xm⟩:=I.ex;rw [MV] at l;have J:zi H3 H5:=I.same.trans nW.same;have g5:=J _ _ g3;have k5:=J _ _ gk;have w5:=nW.at_;rw [e] at w5;have a4:(upd H5 x (.ins A.ub G (zH m W U (DM.new d.rows.length)))) sl=some (.lst (d.J7.map tv)):=by
   rw [zd (zC D.J7 n2.no)];exact J _ _ Dk.J7
  have aT:(upd H5 x (.ins A.ub G (zH m W U (DM.new d.rows.length)))) p=some (.ins A.ub aj (zH m wl sl d)):=by rw [zd px];exact k5
  have e0:(d.rows.length:Int).toNat=d.rows.length:=by lia
  rw [e0] at g5;erw [g5,JJ,i9,aT,BK,a4];intro S H6 n6;have x6:H6 x=some (.ins A.ub G (zH m W U (DM.new d.rows.length))):=n6.same _ _ zx;have p6:=n6.same _ _ aT;have p7:(upd H6 x (.ins A.ub G (zH m W S (DM.new d.rows.length)))) p=some (.ins A.ub aj (zH m wl sl d)):=by rw [zd px];exact p6
  erw [x6,E3,i9,p7,rj,zx,mn,eQ];have xW:x≠W:=zC (I.same _ _ g3) nW.no;have xS:x≠S:=zC zx n6.no;have WS:W≠S:=zC (show (upd H5 x (.ins A.ub G (zH m W U (DM.new d.rows.length)))) W=some _ by rw [zd (Ni xW)];exact w5) n6.no;have Z:∀c∈cs,c≠x:=λc O=>Ni (zC g3 (hf c O));have ab:∀c∈cs,∃o,H5 c=some o:=λc O=>by
   obtain ⟨j,hj⟩:=PZ O;exact ⟨_,nW.same _ _ (hc j c hj)⟩
  have a5:∀c∈cs,c≠W:=λc O=>by
   obtain ⟨j,hj⟩:=PZ O;exact zC (hc j c hj) nW.no
  have a3:∀c∈cs,c≠S:=λc O=>by
   obtain ⟨o,ho⟩:=ab c O;exact zC (show (upd H5 x (.ins A.ub G (zH m W U (DM.new d.rows.length)))) c=some o by rw [zd (Z c O)];exact ho) n6.no
  have up:∀b o,b≠x->H5 b=some o->H6 b=some o:=λb o hb h=>n6.same _ _ (by rw [zd hb];exact h);have Sn:H S=none:=s3.free (J.free (by have z:=n6.no;rw [zd (Ni xS)] at z;exact z));refine q x W S cs _ ⟨⟨G,?_⟩,⟨?_,?_,λi c hi=>?_⟩,?_,?_⟩ (λb o hb=>?_) (λb hb=>?_)
  .exact zx.trans (congrArg (λl=>some (HO.ins A.ub G l)) (HG (d':=d.copy) rfl rfl rfl))
  .rw [zd (Ni xW)];exact up _ _ (Ni xW) w5
  .rw [l];exact Dk.rows.len
  .have O:=Na hi;rw [zd (Z c O)];exact up _ _ (Z c O) (nW.same _ _ (hc i c hi))
  .rw [zd (Ni xS)];exact n6.at_
  .simp only [Ob,MX,not_or];exact ⟨⟨xW,xS,λz=>Z x z rfl⟩,⟨WS,λz=>a5 W z rfl⟩,λz=>a3 S z rfl,Xm⟩
  .have av:b≠x:=zC hb n2.no;rw [zd av];exact up _ _ av (J _ _ (s3 _ _ hb))
  .simp only [MX] at hb;rcases hb with rfl|rfl|rfl|hb
   .exact n2.no
   .exact s3.free (I.same.free nW.no)
   .exact Sn
   .exact s3.free (hf b hb)
def DM.stop(d:DM)(x:Int):DM:={ d with left:=some x }
def vz(A:zh):Sp:=λvs H Q _=>∃(p wl sl:Addr)(cells:List Addr)(m:Int)(d:DM)(x:Int),vs=[.ref p,.int x]/\zE A H p wl sl cells m d/\∀H',zE A H' p wl sl cells m (d.stop x)->zt [p] H H'->Q .non H'
theorem Ff:zw WQ WQ (zj mT):=fsc
theorem G0(F:Fun K "stop" "Disk.stop" mT f fd)(T:Txt w K mg A):zm P w K mg base CX0 cm 1 f fd WQ (vz A):=by
 refine F.o Ff λG z outer s H vs Q E hr h=>?_;obtain ⟨p,wl,sl,cells,m,d,x,rfl,D,q⟩:=h;obtain ⟨dx,h1⟩:=D.ob;refine ⟨_,(W.h (zg (sfD (bg T.pw T.z3 (clE (za 0)) (clE (za 1)))))),?_⟩;erw [h1,qj];exact ⟨i9,q _ (D.obj (d':=d.stop x) rfl rfl) (zt.upd (by simp))⟩
abbrev lD:Stmt:=top 42
abbrev j9:Stmt:=top 43
def clo(z:Nat->Nat)(F G:Option Nat):Nat->List Nat
 | 0=>[]
 | i+1=>clo z F G i++if z i≠0/\F≠some i/\G≠some i then [i] else []
theorem jl(z:Nat->Nat)(F G:Option Nat):∀i,(clo z F G i).length<=i
 | 0=>zv _
 | i+1=>by show (clo z F G i++_).length<=_;have:=jl z F G i;rw [Nt];split<;>simp<;>lia
theorem gP{k:Nat}:∀{n:Nat},k∈clo z F G n↔k<n/\z k≠0/\F≠some k/\G≠some k
 | 0=>by simp [clo]
 | n+1=>by
  show k∈clo z F G n++_↔_;rw [NF,gP (n:=n)];constructor
  .rintro (⟨h1,h2⟩|h)
   .exact ⟨by lia,h2⟩
   .split at h
    .rw [M0] at h;subst h;exact ⟨by lia,by assumption⟩
    .cases h
  .rintro ⟨h1,h2⟩;by_cases J:k<n
   .exact .inl ⟨J,h2⟩
   .have:k=n:=by lia
    subst this;exact .inr (by rw [if_pos h2];exact M0.mpr rfl)
def Fr(H:Hp)(l:Addr):Prop:=∀o,(∀ps,o≠.tbl ps)->H l≠some o
theorem zA.fr(s:zA H H')(h:H' l=none):Fr H l:=λo no e=>by
 have:=s _ _ no e;rw [h] at this;cases this
theorem Fr.back(s:zA H H')(h:Fr H' l):Fr H l:=λo no e=>h o no (s _ _ no e)
theorem Fr.lst{H:Hp}{l a:Addr}{xs:List V}(h:Fr H l)(e:H a=some (.lst xs)):l≠a:=λz=>h (.lst xs) (λps q=>by cases q) (by rw [z];exact e)
def lnD(d:DM)(i:Nat):Nat:=(d.rows.getD i []).length
theorem Kx{k:Nat}:inV (.int k) [ov G,ov F]=(decide (G=some k)||decide (F=some k)):=by
 have h:∀o:Option Nat,eqV (ov o) (.int k)=decide (o=some k):=λo=>by
  cases o with
  | none=>rfl
  | some n =>
   show decide ((n:Int)=(k:Int))=_;by_cases h:n=k
   .rw [decide_eq_true (by lia),decide_eq_true (by rw [h])]
   .rw [decide_eq_false (by lia),decide_eq_false (λz=>h (by injection z))]
 unfold inV;simp only [QY,List.any_nil,Ql];rw [h G,h F]
theorem Lq:[ov F,ov z].all zV=true:=by cases F<;>cases z<;>rfl
structure CQ(H:Hp)(p tp:Addr)(ln:Nat->Nat)(e1 e0:Option Nat)(i:Nat)(τ:L2.St)(ys:List V)(H':Hp):Prop where
 ex:∃t,τ=[t,some (V.ref p),some (V.ref tp)]
 ys:ys=(clo ln e1 e0 i).map iv
 same:H'=H
 le:i<=16
theorem JN{N:L2.St->List V->Hp->Prop}(O:ys=(clo z F G i).map iv)(h:∀J,J=(clo z F G (i+1)).map iv->N τ J H)(b:Bool)(hb:b=(decide (z i≠0) && !(decide (F=some i)||decide (G=some i)))):
  if b=true then N τ (ys++[.int i]) H else N τ ys H:=by
 have S:clo z F G (i+1)=clo z F G i++if z i≠0/\F≠some i/\G≠some i then [i] else []:=rfl;by_cases hc:z i≠0/\F≠some i/\G≠some i
 .rw [hb,decide_eq_true hc.1,decide_eq_false hc.2.1,decide_eq_false hc.2.2];exact h _ (by rw [O,S,if_pos hc,NI];rfl)
 .have:b=false:=by
   rw [hb];by_cases h1:z i≠0
   .by_cases h2:F=some i
    .rw [decide_eq_true h2];simp
    .by_cases h3:G=some i
     .rw [decide_eq_true h3];simp
     .exact absurd ⟨h1,h2,h3⟩ hc
   .rw [decide_eq_false h1];rfl
  rw [this];exact h _ (by rw [O,S,if_neg hc,Oz])
def lB(A:zh):Sp:=λvs H Q _=>∃(p wl sl:Addr)(cells:List Addr)(m:Int)(d:DM),vs=[.ref p]/\zE A H p wl sl cells m d/\cL d/\((nU d).map zr).Nodup/\(nU d).length<64/\TB A H /\
 ∀l H',zA H H'->TB A H'->Fr H l->l≠sysModules->H' l=some (.lst ((clo (lnD d) (ay d true) (ay d false) d.rows.length).map iv))->Q (.ref l) H'
theorem sJ:zw ["disk","ends"] Wy (zj lD):=fsc
theorem Fu:bw { kind:=.function,names:=[(yv ".0",.local),(yv "stretch",.local),(yv "disk",.free),(yv "ends",.free)],isGenerator:=false,isCoroutine:=false,more:=[] } (zj lD).names ["disk","ends"] ["stretch","disk","ends"] [none,some 0,some 1]=true:=by decide +kernel
theorem FM:(["stretch","disk","ends"]:List Str).Nodup:=by decide +kernel
theorem BS(F:Fun K "closed" "closed" lD f fd)(T:Txt w K mg A)(YG:GF P w K mg base true 10 "end_of" ["disk","is_hot"] (xj A))(Z7:GM P w K mg base true 1 A.ub V6 Zn (d8 A λ_ d=>.int d.rows.length))(ZY:GM P w K mg base true 1 A.ub VV Yc (nY A)):zm P w K mg base CX0 true 11 f fd Wy (lB A):=by
 refine F.o sJ λZ0 Ar outer s H vs Q E hr h=>?_;obtain ⟨p,wl,sl,cells,m,d,rfl,D,tx,nd,Yk,tb,q⟩:=h;have hu:_<cLine:=Ny (zT hr);have hl:=tx.len;refine ⟨_,(W.h (ze (zz (i:=1) sJ.nd rfl (Ru rfl) (aH (zb (caD (zq YG hr rfl (clP (zb (za 0) (zb bz zc))))) (zb (caD (zq YG hr rfl (clP (zb (za 0) (zb bz zc))))) zc))))
   (zg (zu (dE (λ_=>rfl) (aB.of Fu) (ef rfl T.z4 (zb (m0D (bb (clE (za 0)) T.pw Z7 hr)) zc)) (λ_ _ _ _ _=>(zy (i:=0) FM rfl (M5 rfl))) (λ_ _ _ _ _=>(ip (cy (dM (tD (zI (clO (oI0 gR)) (clE (mD (cb (clE (za 1)) T.pw ZY hr (clP (zb (za 0) zc))))) (clE zl) (zD _))) (dQ (tD (zI (clO (CL hu)) (clE (za 0)) (clE (za 2)) rfl))))))) (λ_ _ _ _ _=>(za 0))))))),?_⟩
 ac_rfl;refine ⟨p,wl,sl,cells,m,d,true,rfl,D,tx,nd,Yk,tb,λH1 s1 XF=>?_⟩;ac_rfl;refine ⟨p,wl,sl,cells,m,d,false,rfl,D.pL s1,tx,nd,Yk,XF,λH2 s2 Yh=>?_⟩;ac_rfl;refine ⟨by decide,λtp H3 J=>?_⟩;have U:zA H H3:=(s1.trans s2).trans (.of J.same);have XT:=Yh.same J.same;have Z:=D.pL U;obtain ⟨dx,h1⟩:=Z.ob;erw [h1,il];refine ⟨p,wl,sl,cells,m,d,rfl,Z,?_⟩;ac_rfl;have er:((d.rows.length:Nat):Int).toNat=d.rows.length:=by lia
 rw [er];refine ⟨by lia,by lia,zX.aC (CQ H3 p tp (lnD d) (ay d true) (ay d false)) (λi τ ys H' I=>?_) ⟨⟨_,rfl⟩,rfl,rfl,by lia⟩ ?_ ?_⟩
 .rw [I.ys,MV];exact aW (by have:=jl (lnD d) (ay d true) (ay d false) i;have:=I.le;lia)
 .intro N i τ ys H' hi I hN;obtain ⟨t,rfl⟩:=I.ex;have e:=I.same;subst e;have ej:(0+(i:Int))=((i:Nat):Int):=by lia
  erw [h1,sN,ej];refine ⟨p,wl,sl,cells,m,d,i,rfl,Z,hi,?_⟩;ac_rfl;have Yd:inV (V.int i) [ov (ay d true),ov (ay d false)]=(decide (ay d true=some i)||decide (ay d false=some i)):=Kx;have z:=JN (τ:=[some (V.int i),some (V.ref p),some (V.ref tp)]) (N:=N) (H:=H') I.ys (λS e=>hN _ S _ ⟨⟨_,rfl⟩,e,rfl,by lia⟩) _ rfl;by_cases h0:(d.rows.getD i []).length=0
  .have O:lnD d i=0:=h0;rw [if_neg (by rw [h0];decide)];rw [O] at z;exact z
  .have O:lnD d i≠0:=h0;rw [if_pos (decide_eq_true (by lia))];refine ⟨_,.inr J.at_,rfl,Lq,?_⟩;rw [decide_eq_true O] at z;rw [Yd];cases hb:(decide (ay d true=some i)||decide (ay d false=some i)) with
   | true=>rw [hb] at z;ac_rfl;exact z
   | false=>rw [hb] at z;ac_rfl;exact z
 .intro τ ys H' I D2 H4 G ns;have e:=I.same;subst e;rw [I.ys] at G;exact q D2 H4 (U.trans (.of G.same)) (XT.same G.same) (U.fr G.no) ns G.at_
def yt(A:zh):Sp:=λvs H Q _=>∃(p wl sl:Addr)(cells:List Addr)(m:Int)(d:DM)(k:Nat),vs=[.ref p,.int k]/\zE A H p wl sl cells m d/\cL d/\k<d.rows.length /\
 ∀H',zi H H'->Q (oi (bj (λi=>((rIn (d.rows.getD k []) k (d.rows.getD k []).length).map zr).getD i 0) (rIn (d.rows.getD k []) k (d.rows.getD k []).length).length)) H'
structure BA(H:Hp)(ts:List Tri)(i:Nat)(τ:L2.St)(ys:List V)(H':Hp):Prop where
 ex:∃t1 t2 t3,τ=[t1,t2,t3]
 ys:ys=((ts.take i).map zr).map V.int
 same:H'=H
theorem FQ:zw Xx Xx (zj j9):=fsc
theorem BN:bw { kind:=.function,names:=[(yv ".0",.local),(yv "row",.local),(yv "at",.local),(yv "place",.local)],isGenerator:=false,isCoroutine:=false,more:=[] } (zj j9).names Xx ["row","at","place"] [none,none,none]=true:=by decide +kernel
theorem lW:(["row","at","place"]:List Str).Nodup:=by decide +kernel
theorem CO(F:Fun K VM VM j9 f fd)(T:Txt w K mg A)(Zy:GF P w K mg base true 8 "rows_in" Xx (nR A)):zm P w K mg base CX0 true 9 f fd Xx (yt A):=by
 refine F.o FQ λZ0 Ar outer s H vs Q E hr h=>?_;obtain ⟨p,wl,sl,cells,m,d,k,rfl,D,tx,hk,q⟩:=h;refine ⟨_,(W.h (zg (zu (EC rfl rfl T.UX (dE (λ_=>rfl) (aB.of BN) (liD (bU (clE (caD (zq Zy hr rfl (clP (zb (za 0) (zb (za 1) zc)))))))) (λ_ _ _ _ _=>(hV (n:=3) (gsD (zJ (zy (i:=0) lW rfl (M5 rfl)) (gsD (zJ (zy (i:=1) lW rfl (M5 rfl)) (gsD (zJ (zy (i:=2) lW rfl (M5 rfl)) bC)))))))) (λ_ _ _ _ _=>du) (λ_ _ _ _ _=>(zK zP (za 0) zl (λ_ _=>rfl)))))))),?_⟩;have S:=(tx.ok _ (fq (x:=[]) hk)).1;have z:∀j,(rIn (d.rows.getD k []) k j).length<=j:=λj=>by
  induction j with
  | zero=>exact zv _
  | succ j ih=>show (rIn _ k j++_).length<=_;rw [Nt];have:=mZ (rdT ((d.rows.getD k []).getD j none)) k j;lia
 have z:=z (d.rows.getD k []).length;have X5:∀t∈rIn (d.rows.getD k []) k (d.rows.getD k []).length,∃y n ys,t.1 = .str y::.int n::ys:=λt G=>pe G;generalize O:rIn (d.rows.getD k []) k (d.rows.getD k []).length=ts at z X5 q;ac_rfl;refine ⟨p,wl,sl,cells,m,d,k,rfl,D,tx,hk,λl as H1 s1 ln hl G=>?_⟩;rw [O] at G;have Z6:=ar G;ac_rfl;refine ⟨⟨_,SqL.of hl⟩,zX.lst (xs:=as.map V.ref) (BA H1 ts) (λi τ ys H' I=>?_) (λi τ ys H' I=>by rw [I.same];exact SqL.of hl) ⟨⟨_,_,_,rfl⟩,rfl,rfl⟩ ?_ ?_⟩
 .rw [I.ys,MV,MV];exact aW (by have:=List.length_take_le i ts;have:=OO i ts;lia)
 .intro N i x τ ys H' hx I hN;obtain ⟨t1,t2,t3,rfl⟩:=I.ex;have e:=I.same;subst e;rw [Nh] at hx;obtain ⟨a,ha,rfl⟩:=Nu.mp hx;have hi:i<ts.length:=by rw [<- Z6];exact (MY.mp ha).1
  have Z:ts[i]?=some ts[i]:=l6 hi;obtain ⟨r,e1,e2⟩:=bG G ha Z;obtain ⟨y,n,zs,U⟩:=X5 _ (NP hi);rw [U] at e2;refine ⟨a,_,rfl,SqT.of e1,rfl,?_⟩;have ix:atI (V.str y::V.int n::zs) 1=some (V.int n):=dh (j:=1) (by simp);erw [e2,ix];refine hN _ _ _ ⟨⟨_,_,_,rfl⟩,?_,rfl⟩;have ek:zr ts[i]=n:=by unfold zr;rw [U];rfl
  rw [NW,Z,I.ys,NI,NI];show _=_++[V.int (zr ts[i])];rw [ek]
 .intro τ ys H' I D2 H4 J;have e:=I.same;subst e;rw [I.ys,MV,Z6,Nz (zv _)] at J;rw [rJ];refine ⟨_,J.at_,?_⟩;rw [MV];exact q H4 (s1.trans J.same)
structure BM(rs:List (List OR)):Prop where
 len:rs.length<=16
 wide:∀i,(rs.getD i []).length<=32
 keys:xb rs
 nd:((wO rs rs.length).map zr).Nodup
 few:(wO rs rs.length).length<64
end
theorem cI(d:DM):nU d=wO (rdR d.rows) (rdR d.rows).length:=by
 unfold nU;rw [AB];show wO (rdR d.rows) d.rows.length=wO (rdR d.rows) (map _ d.rows).length;rw [MV]
theorem bS(d:DM):(rdR d.rows).length=d.rows.length:=MV ..
structure DOk(d:DM):Prop where
 tx:cL d
 nd:((nU d).map zr).Nodup
 few:(nU d).length<=30
 pos:∀t∈nU d,1<=zr t/\zr t<10 ^ 17
 row:∀t∈nU d,bI t.1
theorem DOk.sh(h:DOk d):BM (rdR d.rows):=by
 have e:=cI d;refine ⟨by rw [bS];exact h.tx.len,λi=>?_,λt z=>iF (by rw [<- e] at z;exact z),by rw [<- e];exact h.nd,by rw [<- e];have:=h.few;lia⟩;rw [bW,MV];by_cases hi:i<d.rows.length
 .exact (h.tx.ok _ (fq hi)).1
 .rw [MW,OS (by lia)];simp
structure DW(A:zh)(H:Hp)(p wl sl sh:Addr)(cells shc:List Addr)(m:Int)(d:DM):Prop where
 yz:zE A H p wl sl cells m d
 Sr:aI H sh shc (rdR d.rows)
 ap:∀x∈wl::sl::cells,x≠sh/\x∉shc
 tb:TB A H
 ok:DOk d
theorem TB.lists(h:TB A H)(k:zt F H H')(G:∀x∈F,(∃xs,H x=some (.lst xs))\/∃C dx fs,H x=some (.ins C dx fs)):TB A H':=h.keep k λx hx o e=>by
 rcases G x hx with ⟨xs,z⟩|⟨C,dx,fs,z⟩ <;> · rw [z] at e;cases e;exact ⟨λ_ q=>(by cases q),λ_ q=>(by cases q)⟩
section
variable {A:zh}{H H':Hp}{p wl sl sh:Addr}{cells shc:List Addr}{m:Int}{d:DM}
theorem DW.pL(h:DW A H p wl sl sh cells shc m d)(s:zA H H')(tb:TB A H'):DW A H' p wl sl sh cells shc m d:=⟨h.yz.pL s,h.Sr.pL s,h.ap,tb,h.ok⟩
theorem DW.same(h:DW A H p wl sl sh cells shc m d)(s:zi H H'):DW A H' p wl sl sh cells shc m d:=h.pL (.of s) (h.tb.same s)
theorem TB.put{A:zh}{l:Addr}{o:HO}(tb:TB A H)(e:H l=some (.lst xs)):TB A (upd H l o):=tb.lists (F:=[l]) (zt.upd (by simp)) λx hx=>by rw [M0] at hx;subst hx;exact .inl ⟨_,e⟩
end
abbrev qy:Stmt:=top 65
abbrev pP:Stmt:=top 67
structure LR(n:Int)(xs:List V):Prop where
 ok:bI xs
 hd:∃y ys,xs = .str y::.int n::ys
 len:xs.length<=7
section
variable {P:M8}{w:Nl}{K:Frag}{mg:Str->Option Value}{base:Heap}{A:zh}
def wG:Sp:=λvs H Q _=>∃(a:Addr)(n:Int)(hot:Bool),vs=[.ref a,.int n,.bl hot]/\Pot H a/\1<=n/\n<10 ^ 17/\∀r xs H',But a H H'->Pot H' a->LR n xs->H' r=some (.tup xs)->Q (.ref r) H'
theorem KC(h:v∈[V.str "w",.str "0",.str "x1",.str "12",.str "abcdefghij0123456789"]):∃z:Str,v = .str z/\dZ z=true:=by
 simp only [MX,M1,or_false] at h;rcases h with rfl|rfl|rfl|rfl|rfl<;>exact ⟨_,rfl,f!""⟩
theorem Lg(h:v∈[V.str "a",.str "b",.str V9,.str "zzzzzz"]):∃z:Str,v = .str z/\cJ z=true:=by
 simp only [MX,M1,or_false] at h;rcases h with rfl|rfl|rfl|rfl<;>exact ⟨_,rfl,f!""⟩
theorem eY:zw ["_law_pot_here","_law_number","_law_is_hot","_law_word","_law_name","_law_place","_law_group","_law_some"] WN (zj qy):=fsc
theorem Cd(F:Fun K "_law_row" "_law_row" qy f fd)(T:Txt w K mg A)(Z9:GF P w K mg base true 1 Wf Zv dz)(Z5:GF P w K mg base true 2 V5 Yi iD):zm P w K mg base CX0 true 3 f fd WN wG:=by
 refine F.o eY λZ0 Ar outer s H vs Q E hr h=>?_;obtain ⟨a,n,hot,rfl,hP,n1,n2,q⟩:=h;have hu:_<cLine:=Ny (zT hr);refine ⟨_,(W.h (ze (zz (i:=3) eY.nd rfl (M5 rfl) (caD (zq Z5 hr rfl (clP (zb (za 0) (zb (aA (zb zF (zb zF (zb zF (zb zF (zb zF zc)))))) zc))))))
   (ze (zL (dA (aO (za 2)))
   (zg (zu (aH (zb zF (zb (za 1) (zb (caD (zq Z9 hr rfl (clP (zb (za 0) (zb (za 1) zc))))) (zb (za 3) zc)))))))
   zQ)
   (ze (zz (i:=4) eY.nd rfl (M5 rfl) (caD (zq Z5 hr rfl (clP (zb (za 0) (zb (aA (zb zF (zb zF (zb zF (zb zF zc))))) zc))))))
   (ze (zz (i:=5) eY.nd rfl (M5 rfl) (caD (zq Z9 hr rfl (clP (zb (za 0) (zb zl zc))))))
   (ze (zz (i:=6) eY.nd rfl (M5 rfl) (zB (oI0 gF) (za 1) (caD (zq Z9 hr rfl (clP (zb (za 0) (zb (zB aF (zO (pS rfl) rfl T.U4 boot_min (zb (za 1) (zb zl zc))) zl) zc)))))))
   (ze (zz (i:=7) eY.nd rfl (M5 rfl) (aA (zb (aH (zb zF (zb (za 1) (zb (za 6) (zb (cz (oE (aX hu)) (caD (zq Z9 hr rfl (clP (zb (za 0) (zb zl zc))))) zl (zD _)) (zb (za 4) (zb (za 5) (zb (za 3) zc)))))))) zc)))
   (ze (zz (i:=7) eY.nd rfl (M5 rfl) (zB aF (za 7) (aA (zb (aH (zb zF (zb (za 1) (zb (za 1) (zb bz (zb (za 4) (zb zl (zb (za 3) zc)))))))) (zb (aH (zb zF (zb (za 1) (zb (za 4) (zb (za 5) zc))))) zc)))))
   (ze (zz (i:=7) eY.nd rfl (M5 rfl) (zB aF (za 7) (aA (zb (aH (zb zF (zb (za 1) (zb (za 4) zc)))) (zb (aH (zb zF (zb (za 1) (zb (za 4) zc)))) zc)))))
   (zg (zu (caD (zq Z5 hr rfl (clP (zb (za 0) (zb (za 7) zc)))))))))))))))),?_⟩
 have hn:bJ n:=⟨by lia,by lia⟩;ac_rfl;refine ⟨by decide,λl1 H1 Z _=>⟨a,hP.same Z.same,.inl ⟨l1,_,rfl,hP.ne Z.no,.inl Z.at_,by simp,by simp,λv H2 hv b2 XC=>?_⟩⟩⟩;obtain ⟨wd,rfl,ab⟩:=KC hv;have bA:=(But.of Z.same).trans b2;cases hot with
 | false =>
  ac_rfl;refine ⟨a,n,rfl,XC,by lia,Int.lt_of_lt_of_le n2 (by decide),λg H3 b3 Xi g0 g1=>?_⟩;ac_rfl;refine ⟨by decide,λp2 H4 U=>q _ _ H4 ((bA.trans b3).trans (But.of U.same)) (Xi.same U.same) ⟨.carry n g _ hn ⟨g0,by lia⟩ ab,⟨_,_,rfl⟩,by simp⟩ U.at_⟩
 | true =>
  ac_rfl;refine ⟨by decide,λl3 H3 O _=>⟨a,XC.same O.same,.inl ⟨l3,_,rfl,XC.ne O.no,.inl O.at_,by simp,by simp,λv H4 a3 b4 aT=>?_⟩⟩⟩;obtain ⟨nm,rfl,Xb⟩:=Lg a3;have bB:=(bA.trans (But.of O.same)).trans b4;ac_rfl;refine ⟨a,200,rfl,aT,by decide,by decide,λpl H5 b5 Xh a6 ba=>?_⟩;ac_rfl;refine ⟨a,_,rfl,Xh,?_,?_,λgd H6 b6 a0 a9 a4=>?_⟩
  .split<;>lia
  .have:(2:Int) ^ 64=18446744073709551616:=by decide
   split<;>lia
  have a5:gd<=n:=by split at a4<;>lia
  ac_rfl;refine ⟨a,2,rfl,a0,by decide,by decide,λeb H7 b7 av a7 a8=>?_⟩;ac_rfl;refine ⟨by decide,λp1 K1 Z=>⟨by decide,λq1 K2 m2 _=>⟨by decide,λp2 K3 O=>⟨by decide,λp3 K4 U=>⟨by decide,λq2 K5 m5 _=>⟨_,m5.same _ _ (U.same _ _ (O.same _ _ m2.at_)),_,m5.at_,aN (by simp),λq3 K6 m6=>⟨by decide,λp4 K7 m7=>⟨by decide,λp5 K8 m8=>⟨by decide,λq4 K9 m9 _=>⟨_,m9.same _ _ (m8.same _ _ (m7.same _ _ m6.at_)),_,m9.at_,aN (by simp),λq5 ak J=>?_⟩⟩⟩⟩⟩⟩⟩⟩⟩⟩;have aj:zi H7 K9:=((((((((Z.same.trans m2.same).trans O.same).trans U.same).trans m5.same).trans m6.same).trans m7.same).trans m8.same).trans m9.same);have ai:=av.same aj;have S:=ai.same J.same;refine ⟨a,S,.inl ⟨q5,_,rfl,ai.ne J.no,.inl J.at_,by simp,by simp,λv H8 ag b8 G=>?_⟩⟩;have ne:∀{b:Addr}{xs:List V},ak b=some (.tup xs)->b≠a:=λ{b xs} e z=>by
   obtain ⟨x,y,ea,_⟩:=S.ex;rw [z,ea] at e;cases e
  have bZ:But a H H8:=((((bB.trans b5).trans b6).trans b7).trans (But.of (aj.trans J.same))).trans b8;have Yu:bJ pl:=⟨by lia,by lia⟩;have t8:=λ{b:Addr}{xs:List V}(e:K8 b=some (.tup xs))=>J.same _ _ (m9.same _ _ e);have t5:=λ{b:Addr}{xs:List V}(e:K5 b=some (.tup xs))=>t8 (m8.same _ _ (m7.same _ _ (m6.same _ _ e)));have t3:=λ{b:Addr}{xs:List V}(e:K3 b=some (.tup xs))=>t5 (m5.same _ _ (U.same _ _ e));have e1:=t3 (O.same _ _ (m2.same _ _ Z.at_));have e2:=t3 O.at_;have e3:=t5 (m5.same _ _ U.at_);have e4:=t8 (m8.same _ _ m7.at_);have e5:=t8 m8.at_;simp only [cons_append,R6,MX,M1,or_false] at ag;rcases ag with rfl|rfl|rfl|rfl|rfl
  .exact q _ _ H8 bZ G ⟨.put n (n-gd) _ nm pl wd hn ⟨by lia,by lia⟩ Yu Xb ab,⟨_,_,rfl⟩,by simp⟩ (b8 _ _ (ne e1) e1)
  .exact q _ _ H8 bZ G ⟨.put n n true nm 0 wd hn hn ⟨by decide,by decide⟩ Xb ab,⟨_,_,rfl⟩,by simp⟩ (b8 _ _ (ne e2) e2)
  .exact q _ _ H8 bZ G ⟨.cut n nm pl hn Yu Xb,⟨_,_,rfl⟩,by simp⟩ (b8 _ _ (ne e3) e3)
  .exact q _ _ H8 bZ G ⟨.hold n nm hn Xb,⟨_,_,rfl⟩,by simp⟩ (b8 _ _ (ne e4) e4)
  .exact q _ _ H8 bZ G ⟨.free n nm hn Xb,⟨_,_,rfl⟩,by simp⟩ (b8 _ _ (ne e5) e5)
structure Ris(ns:List Int)(top:Int):Prop where
 up:ns.Pairwise (· < ·)
 Vn:∀n∈ns,1<=n/\n<=top
 last:ns.getLast?=some top
structure NmI(H:Hp)(a l:Addr)(Zd:Int)(i:Nat)(σ:L2.St)(H':Hp):Prop where
 ex:∃t,σ=[some (V.ref a),some (.int Zd),some (.ref l),t]
 but:But a H H'
 SK:Pot H' a
 no:H l=none
 ls:∃ns top,H' l=some (.lst (ns.map V.int))/\ns.length=i+1/\Ris ns top/\top<=10 ^ 16+3*i
 le:i<=20
def yu:Sp:=λvs H Q _=>∃(a:Addr)(z:Nat),vs=[.ref a,.int z]/\Pot H a/\1<=z/\z<=20/\∀l (ns:List Int) H',But a H H'->Pot H' a->H l=none->H' l=some (.lst (ns.map V.int))->ns.length=z->ns.Nodup->(∀n∈ns,1<=n/\n<10 ^ 17)->Q (.ref l) H'
theorem But.no(b:But a H H')(z:Pot H' a)(h:H' l=none):H l=none:=by
 cases e:H l with
 | none=>rfl
 | some o =>
  have:=b l o (z.ne h) e;rw [h] at this;cases this
theorem pX:zw ["_law_pot_here","_law_many","_law_found","_law_k"] Zv (zj pP):=fsc
theorem JG(F:Fun K VS VS pP f fd)(T:Txt w K mg A)(Z9:GF P w K mg base true 1 Wf Zv dz):zm P w K mg base CX0 true 2 f fd Zv yu:=by
 refine F.o pX λZ0 Ar outer s H vs Q E hr h=>?_;obtain ⟨a,Zd,rfl,hP,n1,n2,q⟩:=h;refine ⟨_,(W.h (ze (zz (i:=2) pX.nd rfl (M5 rfl) (aA (zb (zB aF zl (caD (zq Z9 hr rfl (clP (zb (za 0) (zb (zK zP (aA (zb zl (zb (zB (oI jw) zl zl) zc))) (caD (zq Z9 hr rfl (clP (zb (za 0) (zb zl zc))))) (λ_ _=>rfl)) zc)))))) zc)))
   (ze (bh N9.never (λ_=>rfl) (ef rfl T.z4 (zb (zB (oI0 gF) (za 1) zl) zc)) (zy (i:=3) pX.nd rfl (M5 rfl))
   (zg (aw (fN (za 2) (zB aF (zB aF (zK zP (za 2) (t9 vP zl) (λ_ _=>rfl)) zl) (zB dC (caD (zq Z9 hr rfl (clP (zb (za 0) (zb zl zc))))) (caD (zq Z9 hr rfl (clP (zb (za 0) (zb zl zc)))))))))))
   (zg (zu (za 2)))))),?_⟩
 ac_rfl;refine ⟨⟨by decide,by decide,by decide⟩,by decide,λlp H1 Z _=>?_⟩;ac_rfl;refine ⟨a,2,rfl,hP.same Z.same,by decide,by decide,λr H2 b2 XC r0 r1=>?_⟩;ac_rfl;have ai:lp≠a:=hP.ne Z.no;have e2:=b2 _ _ ai Z.at_;have hv:∃y:Int,atI [V.int 9,V.int (10 ^ 16)] r=some (.int y)/\1<=y/\y<=10 ^ 16:=by
  have:r=0\/r=1:=by lia
  rcases this with rfl|rfl
  .exact ⟨9,rfl,by decide,by decide⟩
  .exact ⟨10 ^ 16,rfl,by decide,by decide⟩
 obtain ⟨y,hy,y1,y2⟩:=hv;refine ⟨_,.inl e2,_,hy,a,y,rfl,XC,by lia,Qt y2 (by decide),λd H3 b3 Xi d0 d1=>?_⟩;have bA:=((But.of Z.same).trans b2).trans b3;simp only [fS];refine ⟨by decide,λl H4 U _=>⟨by lia,by lia,?_⟩⟩;have bB:=bA.trans (But.of U.same);have er:((Zd:Nat)-1:Int).toNat=Zd-1:=by lia
 rw [er];refine ao.rng (NmI H a l Zd) ⟨⟨_,rfl⟩,bB,Xi.same U.same,bA.no Xi U.no,⟨[1+d],1+d,U.at_,rfl,⟨Qw ..,λn hn=>by rw [M0] at hn;lia,rfl⟩,by lia⟩,by lia⟩ ?_ ?_
 .rintro i σ H5 hi ⟨⟨t,rfl⟩,b5,Xh,O,⟨ns,top,hl,Z6,R,ht⟩,le⟩;have la:l≠a:=hP.ne O;erw [hl];have ag:atI (ns.map V.int) (-1)=some (.int top):=by
   rcases List.eq_nil_or_concat ns with rfl|⟨zs,z,ez⟩
   .simp at Z6
   .rw [List.concat_eq_append] at ez;have G:=R.last;rw [ez,QZ] at G;cases G;rw [ez,NI];exact Gg _ _
  refine ⟨_,ag,?_⟩;simp only [fS];refine ⟨a,3,rfl,Xh,by decide,by decide,λJ H6 b6 ab a3 a0=>⟨a,2,rfl,ab,by decide,by decide,λS H7 b7 aj av aT=>?_⟩⟩;simp only [yS,fS];have ak:0<=J*S/\J*S<=2:=by
   have h3:J=0\/J=1\/J=2:=by lia
   have h4:S=0\/S=1:=by lia
   rcases h3 with rfl|rfl|rfl<;>rcases h4 with rfl|rfl<;>decide
  generalize J*S=g at ak;refine ⟨.inl ⟨by lia,by lia⟩,_,b7 _ _ la (b6 _ _ la hl),by rw [MV];exact aW (by lia),⟨_,rfl⟩,λc o nc ec=>?_,?_,O,⟨ns++[top+1+g],_,by rw [zx,NI];rfl,by simp [Z6],⟨?_,λn hn=>?_,QZ ..⟩,by lia⟩,by lia⟩
  .rw [zd (zC ec O)];exact b7 _ _ nc (b6 _ _ nc (b5 _ _ nc ec))
  .obtain ⟨x,y,ea,rr⟩:=aj.ex;exact ⟨⟨x,y,by rw [zd (Ni la)];exact ea,rr⟩⟩
  .rw [Qn];exact ⟨R.up,Qw ..,λx hx z G=>by rw [M0] at G;have:=R.Vn x hx;lia⟩
  .rcases NF.mp hn with hn|hn
   .have:=R.Vn n hn;lia
   .rw [M0] at hn;obtain ⟨z,G⟩:∃z,z∈ns:=by cases ns with|nil=>simp at Z6|cons z zs=>exact ⟨z,Nm ..⟩
    have:=R.Vn z G;lia
 .rintro σ H5 ⟨⟨t,rfl⟩,b5,Xh,O,⟨ns,top,hl,Z6,R,ht⟩,le⟩;ac_rfl;exact q l ns H5 b5 Xh O hl (by lia) (R.up.imp λh=>by lia) λn hn=>by have:=R.Vn n hn;lia
end
theorem uP(h:aV z y m=true)(hc:c∉sg y):c∉sg z:=λF=>by
 unfold aV at h;rw [NJ] at h;have:=NM.mp h.2 c F;exact hc (by simpa using this)
theorem uT(h:bJ i):59∉sg (toString i:Str):=λz=>by
 have:=(fU h.1 h.2).dig 59 z;lia
theorem bI.aE(h:bI xs):∀v∈xs,59∉sg (az v):=by
 have U:∀b:Bool,59∉sg (az (.bl b)):=λb=>by cases b<;>decide +kernel
 have J:∀{z:Str},cJ z=true->59∉sg (az (.str z)):=λS=>uP S (f!"");have O:∀{z:Str},dZ z=true->59∉sg (az (.str z)):=λS=>uP S (f!"");have F:∀{i:Int},bJ i->59∉sg (az (.int i)):=λhi=>uT hi;cases h with
 | put n g b nm pl Z h1 h2 h3 h4 W =>
  intro v G;simp only [MX,M1,or_false] at G;rcases G with rfl|rfl|rfl|rfl|rfl|rfl|rfl
  .exact (by decide +kernel:59∉sg (V9:Str))
  .exact F h1
  .exact F h2
  .exact U b
  .exact J h4
  .exact F h3
  .exact O W
 | cut n nm pl h1 h2 h3 =>
  intro v G;simp only [MX,M1,or_false] at G;rcases G with rfl|rfl|rfl|rfl
  .exact (by decide +kernel:59∉sg (V7:Str))
  .exact F h1
  .exact J h3
  .exact F h2
 | hold n nm h1 h2 =>
  intro v G;simp only [MX,M1,or_false] at G;rcases G with rfl|rfl|rfl
  .exact (by decide +kernel:59∉sg (Wa:Str))
  .exact F h1
  .exact J h2
 | free n nm h1 h2 =>
  intro v G;simp only [MX,M1,or_false] at G;rcases G with rfl|rfl|rfl
  .exact (by decide +kernel:59∉sg ("free":Str))
  .exact F h1
  .exact J h2
 | carry n g Z h1 h2 h3 =>
  intro v G;simp only [MX,M1,or_false] at G;rcases G with rfl|rfl|rfl|rfl
  .exact (by decide +kernel:59∉sg ("carry":Str))
  .exact F h1
  .exact F h2
  .exact O h3
theorem qh(b:Str):sg (c7 b)=(sg b++sg (toString (cg b):Str))++[59]:=by
 unfold c7;rw [dB,dB];rfl
theorem Fm(h:∀v∈xs,59∉sg (az v)):59∉zU xs:=λz=>by
 unfold zU at z;obtain ⟨l,hl,F⟩:=List.mem_flatten.mp z;obtain ⟨v,G,rfl⟩:=OU.mp hl;rcases NF.mp F with F|F
 .exact h v G F
 .simp at F
theorem LX(ok:bI xs)(h:j<(aP xs).length):bN (tx ((sg (aP xs)).take j))=none:=by
 have hs:=qh (tx (zU xs));have F:=fu (tx (zU xs));have no:59∉sg (tx (zU xs))++sg (toString (cg (tx (zU xs))):Str):=λz=>by
  rcases NF.mp z with z|z
  .rw [cx] at z;exact Fm ok.aE z
  .exact uT ⟨F.1,by lia⟩ z
 have hl:(aP xs).length=(sg (tx (zU xs))++sg (toString (cg (tx (zU xs))):Str)).length+1:=by
  show (c7 _).length=_;rw [<- af,hs,Nt];rfl
 have G:59∉(sg (aP xs)).take j:=λz=>by
  unfold aP at z;rw [hs,List.take_append_of_le_length (by lia)] at z;exact no (PY z)
 unfold bN eL;rw [if_neg]
 .rfl
 .intro e;apply G;have:=congrArg sg e;rw [cx,qh] at this;rw [this];exact Nk _ (M0.mpr rfl)
theorem EW(ok:bI xs)(hl:xs.length<=7):asc (aP xs)=true/\(aP xs).length<=1000/\bN (aP xs)=some xs/\2<=(aP xs).length:=by
 obtain ⟨_,_,_,G⟩:=ok.parts;obtain ⟨l1,z⟩:=qH G;have F:=fU (fu (tx (zU xs))).1 (by have:=(fu (tx (zU xs))).2;lia);have nl:=yg (fu (tx (zU xs))).1 (by have:=(fu (tx (zU xs))).2;lia);refine ⟨?_,?_,ok.read,?_⟩
 .unfold aP c7;rw [bO,dB,dB,cx,all_append,all_append,z];have:(sg (toString (cg (tx (zU xs))):Str)).all (λc=>decide (c<128))=true:=NM.mpr λc hc=>decide_eq_true (by have:=F.dig c hc;lia);rw [this];decide +kernel
 .unfold aP c7;rw [<- af,dB,dB,cx,Nt,Nt,af];have:(sg (";":Str)).length=1:=by decide +kernel
  rw [this];lia
 .show 2<=(c7 _).length;rw [<- af,qh,Nt,Nt,P9];have:=F.one;lia
theorem iV{α:Type}:∀{l m:List α},l.Nodup->(∀x∈l,x∈m)->l.length<=m.length
 | [],_,_,_=>NV _
 | x::l,m,nd,h=>by
  obtain ⟨O,J⟩:=Ob.mp nd;obtain ⟨G,m2,rfl⟩:=List.append_of_mem (h x (Nm ..));have:=iV (m:=G++m2) J λy F=>by
   rcases NF.mp (h y (M7 _ F)) with z|z
   .exact N0 _ z
   .rcases MX.mp z with z|z
    .subst z;exact absurd F O
    .exact Nk _ z
  simp only [N6,Nt] at this ⊢;lia
theorem iS(d:DM):(nU d).Nodup:=by rw [cI];exact nB _
theorem wx(inj:∀s t:Tri,s∈nU d->t∈nU d->zr s=zr t->s=t):((nU d).map zr).Nodup :=
 Ou.mpr (Pairwise.imp_of_mem (λ{a b} ha hb h e=>h (inj a b ha hb e)) (iS d))
structure TOk(m:Int)(d:DM)(ns:List Int):Prop where
 size:3<=d.rows.length/\d.rows.length<=16/\2<=m/\m<=32
 wide:∀i,((d.rows.getD i []).length:Int)<=m
 nd:ns.Nodup
 Vn:∀n∈ns,1<=n/\n<10 ^ 17
 apart:∀t∈nU d,zr t∉ns
 few:(nU d).length+ns.length<=20
theorem DOk.less(h:DOk d)(tx:cL d')(hs:∀t∈nU d',t∈nU d):DOk d' :=
 ⟨tx,wx λs t F G e=>pE h.nd (hs s F) (hs t G) e,Nx (iV (iS d') hs) h.few,λt z=>h.pos t (hs t z),λt z=>h.row t (hs t z)⟩
theorem TOk.less(h:TOk m d ns)(hl:d'.rows.length=d.rows.length)(z:∀i,((d'.rows.getD i []).length:Int)<=m)(hs:∀t∈nU d',t∈nU d):TOk m d' ns :=
 ⟨by rw [hl];exact h.size,z,h.nd,h.Vn,λt F=>h.apart t (hs t F),Nx (Nat.add_le_add_right (iV (iS d') hs) _) h.few⟩
theorem g9{rows:List (List Tx)}{k:Nat}{r:List Tx}:rdR (rows.set k r)=(rdR rows).set k (r.map rdT):=by
 unfold rdR;rw [map_set]
theorem cL.set(h:cL d){k:Nat}{r:List Tx}{st:Bool}(hr:r.length<=32/\∀t∈r,∀z,t=some z->asc z=true/\z.length<=1000):cL ⟨d.rows.set k r,sd,c,G,st⟩:=by
 refine ⟨λq F=>?_,by show (d.rows.set k r).length<=16;rw [Ov];exact h.len⟩;rcases Qh F with F|rfl
 .exact h.ok q F
 .exact hr
def DM.wrote(d:DM)(k:Nat)(t:Str)(c:Int):DM:={ d with rows:=d.rows.set k (d.rows.getD k []++[some t]),cnt:=c }
def DM.cleared(d:DM)(k:Nat)(c:Int):DM:={ d with rows:=d.rows.set k [],cnt:=c }
theorem El{d:DM}{k:Nat}{t:Str}(h1:d.left=none)(h2:d.st=false)(O:((d.rows.getD k []).length:Int)<m):d.write m k t=(.val (.int (d.rows.getD k []).length),d.wrote k t (d.cnt+t.length)):=by
 have F:dn d.left t.length=t.length:=by rw [h1];rfl
 have es:(d.spend t.length).st=false:=by show decide _=false;rw [F];exact decide_eq_false (RN _)
 unfold DM.write;rw [if_neg (by rw [h2];exact M4),if_neg (by lia),if_neg (by rw [es];exact λz=>M4 z.2),if_neg (by rw [es];exact M4),F];have G:jo t t.length=some t:=by
  show some (Txt.slice t none (some (t.length:Int)))=_;rw [jW (by rw [af];exact zv _),<- af,Nz (zv _),iy]
 rw [G];have J:d.spend t.length={ d with cnt:=d.cnt+t.length }:=by
  unfold DM.spend;rw [F,h1,h2,decide_eq_false (RN _)];rfl
 rw [J];rfl
theorem tO{d:DM}{k:Nat}(h1:d.left=none)(h2:d.st=false):d.empty k=(.val .non,d.cleared k (d.cnt+(d.rows.getD k []).length)):=by
 have z:dn d.left (d.rows.getD k []).length=(d.rows.getD k []).length:=by rw [h1];rfl
 have es:(d.spend (d.rows.getD k []).length).st=false:=by show decide _=false;rw [z];exact decide_eq_false (RN _)
 unfold DM.empty;rw [if_neg (by rw [h2];exact M4),if_neg (by rw [es];exact M4)];have F:d.spend (d.rows.getD k []).length={ d with cnt:=d.cnt+(d.rows.getD k []).length }:=by
  unfold DM.spend;rw [z,h1,h2,decide_eq_false (RN _)];rfl
 rw [F];rfl
section
variable {d:DM}{m:Int}{ns:List Int}{k:Nat}
theorem gZ(z:k<d.rows.length){t:Tri}:t∈nU (d.cleared k c)↔t∈nU d/\t.2.1≠k:=by
 rw [cI,cI];show t∈wO (rdR (d.rows.set k [])) (rdR (d.rows.set k [])).length↔_;rw [g9];exact Mf (by rw [bS];exact z)
theorem o8(h:DOk d)(F:k<d.rows.length):DOk (d.cleared k c):=h.less (h.tx.set ⟨by simp,by simp⟩) λt z=>((gZ F).mp z).1
theorem MJ(hm:2<=m)(z:∀i,((d.rows.getD i []).length:Int)<=m)(F:k<d.rows.length)(i:Nat):(((d.cleared k c).rows.getD i []).length:Int)<=m:=by
 show (((d.rows.set k []).getD i []).length:Int)<=m;rw [cF F];split
 .simp;lia
 .exact z i
theorem JW(h:TOk m d ns)(z:k<d.rows.length):TOk m (d.cleared k c) ns:=h.less (by show (d.rows.set k []).length=_;rw [Ov]) (MJ h.size.2.2.1 h.wide z) λt F=>((gZ z).mp F).1
theorem ny{t:Str}(z:k<d.rows.length):u∈nU (d.wrote k t c)↔u∈nU d\/(rdT (some t)=some u.1/\u.2=(k,(d.rows.getD k []).length)):=by
 rw [cI,cI];show u∈wO (rdR (d.rows.set k (d.rows.getD k []++[some t]))) (rdR (d.rows.set k (d.rows.getD k []++[some t]))).length↔_;rw [g9,NI,<- bW];have:=Md (rs:=rdR d.rows) (o:=rdT (some t)) (k:=k) (by rw [bS];exact z) (t:=u);rw [show ([some t]:List Tx).map rdT=[rdT (some t)] from rfl,this,bW,MV]
theorem CF{t:Str}(h:DOk d)(G:TOk m d ns)(S:k<d.rows.length)(hw:((d.rows.getD k []).length:Int)<m)(ha:asc t=true)(hl:t.length<=1000)(hn:ns[i]?=some n)(hr:∀xs,rdT (some t)=some xs->jv xs=n)(U:∀xs,rdT (some t)=some xs->bI xs):
  DOk (d.wrote k t c)/\TOk m (d.wrote k t c) (ns.eraseIdx i):=by
 have hsz:=G.size;have W:n∈ns:=Na hn;have hi:i<ns.length:=(MY.mp hn).1;have new:∀{u:Tri},u∈nU (d.wrote k t c)->u∈nU d\/(zr u=n/\rdT (some t)=some u.1/\u.2=(k,(d.rows.getD k []).length)):=λ{u} F=>by
  rcases (ny S).mp F with F|⟨h1,h2⟩
  .exact .inl F
  .exact .inr ⟨hr _ h1,h1,h2⟩
 have Z:(nU (d.wrote k t c)).length<=(nU d).length+1:=by
  cases e:rdT (some t) with
  | none =>
   refine PH (iV (iS _) λu F=>?_);rcases (ny S).mp F with F|⟨h1,_⟩
   .exact F
   .rw [e] at h1;cases h1
  | some xs =>
   have:=iV (m:=(xs,k,(d.rows.getD k []).length)::nU d) (iS (d.wrote k t c)) λu F=>by
    rcases (ny S).mp F with F|⟨h1,h2⟩
    .exact M7 _ F
    .rw [e] at h1;cases h1;obtain ⟨x,y⟩:=u;cases (show y=_ from h2);exact Nm ..
   simpa using this
 have ag:=Rw hi;have ab:=G.few;have J:∀x∈ns.eraseIdx i,x∈ns/\x≠n:=λx hx=>by
  refine ⟨(List.eraseIdx_sublist ..).subset hx,λz=>?_⟩;rw [List.mem_eraseIdx_iff_getElem?] at hx;obtain ⟨j,hj,e⟩:=hx;subst z;exact hj ((Qy hi G.nd).mp (hn.trans e.symm)).symm
 refine ⟨⟨h.tx.set ⟨?_,?_⟩,wx ?_,by lia,λu F=>?_,λu F=>?_⟩,⟨by show 3<=(d.rows.set k _).length/\(d.rows.set k _).length<=16/\_;rw [Ov];exact hsz,λj=>?_,G.nd.sublist (List.eraseIdx_sublist ..),λx hx=>G.Vn x (J x hx).1,λu F z=>?_,by lia⟩⟩
 .rw [Nt,P9];lia
 .intro q O z hz;rcases NF.mp O with O|O
  .exact (h.tx.ok _ (fq S)).2 q O z hz
  .rw [M0] at O;subst O;cases hz;exact ⟨ha,hl⟩
 .intro s u hs F e;rcases new hs with hs|⟨s1,s2,s3⟩
  .rcases new F with F|⟨u1,_⟩
   .exact pE h.nd hs F e
   .exact absurd (by rw [e,u1];exact W) (G.apart s hs)
  .rcases new F with F|⟨u1,u2,u3⟩
   .exact absurd (by rw [<- e,s1];exact W) (G.apart u F)
   .obtain ⟨a,b⟩:=s;obtain ⟨a',b'⟩:=u;have:a=a':=by rw [s2] at u2;exact NG.inj u2
    rw [this,show b=b' from s3.trans u3.symm]
 .rcases new F with F|⟨u1,_⟩
  .exact h.pos u F
  .rw [u1];exact G.Vn n W
 .rcases new F with F|⟨_,u2,_⟩
  .exact h.row u F
  .exact U _ u2
 .show (((d.rows.set k _).getD j []).length:Int)<=m;rw [cF S];split
  .rw [Nt,P9];lia
  .exact G.wide j
 .obtain ⟨z1,z2⟩:=J _ z;rcases new F with F|⟨u1,_⟩
  .exact G.apart u F z1
  .exact z2 u1
end
abbrev jC:Stmt:=top 66
section
variable {A:zh}{H H':Hp}{a nl p wl sl sh:Addr}{cells shc:List Addr}{m:Int}{d:DM}{ns:List Int}
theorem Pot.lst(h:Pot H a):∃xs,H a=some (.lst xs):=let ⟨x,y,e,_⟩:=h.ex;⟨_,e⟩
theorem lK{fs:List (Str×V)}(h:H b=some (.lst xs))(h':H c=some (.ins C dx fs)):b≠c:=λz=>by rw [z,h'] at h;cases h
theorem zE.lists(D:zE A H p wl sl cells m d):∀x∈p::wl::sl::cells,(∃xs,H x=some (.lst xs))\/∃C dx fs,H x=some (.ins C dx fs):=λx hx=>by
 obtain ⟨dx,z⟩:=D.ob;rcases MX.mp hx with rfl|hx
 .exact .inr ⟨_,_,_,z⟩
 .rcases MX.mp hx with rfl|hx
  .exact .inl ⟨_,D.rows.w⟩
  .rcases MX.mp hx with rfl|hx
   .exact .inl ⟨_,D.J7⟩
   .obtain ⟨i,hi,rfl⟩:=NQ hx;exact .inl ⟨_,D.rows.at_ i _ (l6 hi)⟩
theorem zE.out(D:zE A H p wl sl cells m d)(e:H c=some (.lst zs))(hn:∀x∈wl::sl::cells,x≠c):c∉p::wl::sl::cells:=λz=>by
 obtain ⟨dx,F⟩:=D.ob;rcases MX.mp z with z|z
 .exact lK e F z
 .exact hn c z rfl
theorem zE.tup(D:zE A H p wl sl cells m d)(b:zt (p::wl::sl::cells) H H'){r:Addr}{xs:List V}(e:H r=some (.tup xs)):H' r=some (.tup xs):=b _ _ e λz=>by
 rcases D.lists r z with ⟨ys,q⟩|⟨C,dx,fs,q⟩ <;> · rw [q] at e;cases e
theorem aI.Vw(h:aI H sh shc rs)(k:zt F H H')(G:∀x∈F,(∃xs,H x=some (.lst xs))\/∃C dx fs,H x=some (.ins C dx fs))(h1:sh∉F)(h2:∀c∈shc,c∉F):aI H' sh shc rs :=
 h.keep (λr xs e=>k _ _ e λz=>by rcases G r z with ⟨xs,q⟩|⟨C,dx,fs,q⟩ <;> · rw [q] at e;cases e) λb xs hb e=>k _ _ e (by
  rcases hb with rfl|hb
  .exact h1
  .exact h2 b hb)
theorem DW.put(h:DW A H p wl sl sh cells shc m d)(e:H b=some (.lst xs))(h1:∀x∈wl::sl::cells,x≠b)(h2:b≠sh)(h3:b∉shc)(k:zt [b] H H'):DW A H' p wl sl sh cells shc m d:=by
 have F:∀x∈[b],(∃xs,H x=some (.lst xs))\/∃C dx fs,H x=some (.ins C dx fs):=λx hx=>by rw [M0] at hx;subst hx;exact .inl ⟨_,e⟩
 obtain ⟨dx,G⟩:=h.yz.ob;refine ⟨h.yz.keep k λx hx z=>?_,h.Sr.Vw k F (by simpa using λz=>h2 z.symm) (λc hc z=>by rw [M0] at z;exact h3 (z ▸ hc)),h.ap,h.tb.lists k F,h.ok⟩;rw [M0] at z;rcases MX.mp hx with rfl|hx
 .exact lK e G z.symm
 .exact h1 x hx z
theorem DW.UY(h:DW A H p wl sl sh cells shc m d)(b:zt (p::wl::sl::cells) H H'):aI H' sh shc (rdR d.rows)/\TB A H':=by
 refine ⟨h.Sr.Vw b h.yz.lists (h.yz.out h.Sr.w λx hx=>(h.ap x hx).1) λc hc=>?_,h.tb.lists b h.yz.lists⟩;obtain ⟨i,hi,rfl⟩:=NQ hc;obtain ⟨vs,e,_⟩:=h.Sr.at_ i _ (l6 hi);exact h.yz.out e λx hx z=>(h.ap x hx).2 (z ▸ hc)
theorem aI.set(S:aI H sh shc rs){k:Nat}(hk:k<rs.length)(hc:shc[k]?=some c)(W:Paired (de H) F r'):aI (upd H c (.lst F)) sh shc (rs.set k r'):=by
 have hm:=Na hc;obtain ⟨U,Z⟩:=Ob.mp S.nd;obtain ⟨ab,G,_⟩:=S.at_ k c hc;have J:∀r xs,H r=some (.tup xs)->upd H c (.lst F) r=some (.tup xs):=λr xs e=>by rw [zd (λz=>by rw [z,G] at e;cases e)];exact e
 refine ⟨by rw [zd (λz:sh=c=>U (by rw [z];exact hm))];exact S.w,by rw [Ov];exact S.len,λi O hi=>?_,S.nd⟩;rw [cF hk];by_cases h:i=k
 .subst h;rw [hc] at hi;cases hi;rw [if_pos rfl];exact ⟨F,zx,Paired.wh W λv o r=>r.keep J⟩
 .rw [if_neg h];obtain ⟨vs,hv,pv⟩:=S.at_ i O hi;refine ⟨vs,?_,Paired.wh pv λv o r=>r.keep J⟩;rw [zd (λz:O=c=>h (sq Z hi (by rw [z];exact hc)))];exact hv
theorem DW.done{k:Nat}(h:DW A H p wl sl sh cells shc m d)(b:zt (p::wl::sl::cells) H H')(hk:k<d.rows.length)(O:zE A H' p wl sl cells m d')(hr:rdR d'.rows=(rdR d.rows).set k r')(hc:shc[k]?=some c)(Z:Paired (de H') G r')(ok:DOk d'):
  DW A (upd H' c (.lst G)) p wl sl sh cells shc m d':=by
 obtain ⟨S,W⟩:=h.UY b;have hm:=Na hc;obtain ⟨ab,F,_⟩:=S.at_ k c hc;obtain ⟨dx,J⟩:=O.ob;have U:zt [c] H' (upd H' c (.lst G)):=zt.upd (by simp);refine ⟨O.keep U λx hx z=>?_,by rw [hr];exact S.set (by rw [bS];exact hk) hc Z,h.ap,W.put F,ok⟩;rw [M0] at z;rcases MX.mp hx with rfl|hx
 .exact lK F J z.symm
 .exact (h.ap x hx).2 (z ▸ hm)
structure QW(A:zh)(H:Hp)(a nl p wl sl sh:Addr)(cells shc:List Addr)(m:Int)(d:DM)(ns:List Int):Prop where
 dw:DW A H p wl sl sh cells shc m d
 SK:Pot H a
 nums:H nl=some (.lst (ns.map V.int))
 ap:∀x∈wl::sl::cells,x≠a/\x≠nl
 S4:a≠nl/\a≠sh/\a∉shc/\nl≠sh/\nl∉shc
 live:d.left=none/\d.st=false
 sd:d.J7.length=2
theorem But.keeps(h:But b H H'):zt [b] H H':=λc o e n=>h c o (λz=>n (by simp [z])) e
theorem DW.SC(h:DW A H p wl sl sh cells shc m d)(z:Pot H a)(h1:∀x∈wl::sl::cells,x≠a)(h2:a≠sh)(h3:a∉shc)(b:But a H H'):DW A H' p wl sl sh cells shc m d:=by
 obtain ⟨xs,e⟩:=z.lst;exact h.put e h1 h2 h3 b.keeps
theorem QW.SC(h:QW A H a nl p wl sl sh cells shc m d ns)(b:But a H H')(z:Pot H' a):QW A H' a nl p wl sl sh cells shc m d ns :=
 ⟨h.dw.SC h.SK (λx hx=>(h.ap x hx).1) h.S4.2.1 h.S4.2.2.1 b,z,b _ _ (Ni h.S4.1) h.nums,h.ap,h.S4,h.live,h.sd⟩
theorem QW.same(h:QW A H a nl p wl sl sh cells shc m d ns)(s:zi H H'):QW A H' a nl p wl sl sh cells shc m d ns:=⟨h.dw.same s,h.SK.same s,s _ _ h.nums,h.ap,h.S4,h.live,h.sd⟩
theorem QW.popped(h:QW A H a nl p wl sl sh cells shc m d ns):QW A (upd H nl (.lst (ns'.map V.int))) a nl p wl sl sh cells shc m d ns':=by
 obtain ⟨x,y,e,r⟩:=h.SK.ex;exact ⟨h.dw.put h.nums (λx hx=>(h.ap x hx).2) h.S4.2.2.2.1 h.S4.2.2.2.2 (zt.upd (by simp)),⟨⟨x,y,by rw [zd h.S4.1];exact e,r⟩⟩,zx,h.ap,h.S4,h.live,h.sd⟩
theorem QW.done{k:Nat}(h:QW A H a nl p wl sl sh cells shc m d ns)(b:zt (p::wl::sl::cells) H H')(J:k<d.rows.length)(G:zE A H' p wl sl cells m d')(hr:rdR d'.rows=(rdR d.rows).set k r')(hc:shc[k]?=some c)(O:Paired (de H') F r')(ok:DOk d')(lv:d'.left=none/\d'.st=false)(sd:d'.J7.length=2):
  QW A (upd H' c (.lst F)) a nl p wl sl sh cells shc m d' ns:=by
 have hm:=Na hc;obtain ⟨x,y,e,r⟩:=h.SK.ex;refine ⟨h.dw.done b J G hr hc O ok,⟨⟨x,y,?_,r⟩⟩,?_,h.ap,h.S4,lv,sd⟩
 .rw [zd (λz:a=c=>h.S4.2.2.1 (z ▸ hm))];exact b _ _ e (h.dw.yz.out e λx hx=>(h.ap x hx).1)
 .rw [zd (λz:nl=c=>h.S4.2.2.2.2 (z ▸ hm))];exact b _ _ h.nums (h.dw.yz.out h.nums λx hx=>(h.ap x hx).2)
def FT(a nl p wl sl sh:Addr)(cells shc:List Addr):List Addr:=a::nl::p::wl::sl::sh::(cells++shc)
theorem TOk.small(h:TOk m d ns):small d:=λk=>by have:=h.wide k;have:=h.size;lia
end
section
variable {P:M8}{w:Nl}{K:Frag}{mg:Str->Option Value}{base:Heap}{A:zh}
theorem tE{α β:Type}{f:α->β}:∀{l:List α}{i:Nat},(l.map f).eraseIdx i=(l.eraseIdx i).map f
 | [],_=>rfl
 | _::_,0=>rfl
 | x::l,i+1=>by show f x::(l.map f).eraseIdx i=f x::(l.eraseIdx i).map f;rw [tE]
structure HtI(H:Hp)(n:Nat)(i:Nat)(τ:L2.St)(ys:List V)(H':Hp):Prop where
 le:i<=n
 ex:∃t1,τ=[t1]
 ys:∃bs:List Bool,ys=bs.map V.bl/\bs.length<=i
 same:H'=H
def Ag(A:zh):Sp:=λvs H Q _=>∃(a nl p wl sl sh:Addr)(cells shc:List Addr)(m:Int)(d:DM)(ns:List Int),vs=[.ref a,.ref p,.ref sh,.ref nl]/\QW A H a nl p wl sl sh cells shc m d ns/\TOk m d ns/\1<=ns.length /\
 ∀d' ns' H',QW A H' a nl p wl sl sh cells shc m d' ns'->TOk m d' ns'->ns.length<=ns'.length+1->zt (FT a nl p wl sl sh cells shc) H H'->Q .non H'
theorem hJ:zw XM Xy (zj jC):=fsc
theorem LD:bw { kind:=.function,names:=[(yv ".0",.local),(yv "_law_row_here",.local)],isGenerator:=false,isCoroutine:=false,more:=[] } (zj jC).names XM ["_law_row_here"] [none]=true:=by decide +kernel
theorem Ke:(["_law_row_here"]:List Str).Nodup:=by decide +kernel
theorem EB(F:Fun K "_law_turn" "_law_turn" jC f fd)(T:Txt w K mg A)(Z9:GF P w K mg base true 1 Wf Zv dz)(ZW:GMX P w K mg base true 2 A.ub "empty" Yc (kX A))(Z1:GM P w K mg base true 1 A.ub "places" Zn (d8 A λm _=>.int m))(YL:GF P w K mg base true 3 "_law_row" WN wG)(YK:GF P w K mg base true 3 "row_text" ["row"] r8)(Zz:GMX P w K mg base true 3 A.ub "write" Wp (mr A)):zm P w K mg base CX0 true 4 f fd Xy (Ag A):=by
 refine F.o hJ λZ0 Ar outer s H vs Q E hr h=>?_;obtain ⟨a,nl,p,wl,sl,sh,cells,shc,m,d,ns,rfl,Tw,ok,n1,q⟩:=h;have hu:_<cLine:=Ny (zT hr);refine ⟨_,(W.h (ze (zz (i:=4) hJ.nd rfl (M5 rfl) (caD (zq Z9 hr rfl (clP (zb (za 0) (zb (zO bf rfl T.vx NA (zb (za 2) zc)) zc))))))
   (ze (zz (i:=5) hJ.nd rfl (M5 rfl) (caD (zq Z9 hr rfl (clP (zb (za 0) (zb zl zc))))))
   (zg (zL (tD (zI (clO (oE (aX hu))) (clE (za 5)) (clE zl) (zD _)))
   (ze (aw (mXD (hU (clE (za 1)) T.pw jX ZW hr (clP (zb (za 4) zc)))))
   (zg (aw (rY (zK zP (za 2) (za 4) (λ_ _=>rfl))))))
   (zg (zL (tD (zI (clO (oI0 fg)) (clE (zO bf rfl T.vx NA (zb (zK zP (za 2) (za 4) (λ_ _=>rfl)) zc))) (clE (m0D (bb (clE (za 1)) T.pw Z1 hr))) (zD _)))
   (ze (iw (i0:=6) hJ.nd rfl (M5 rfl) (λ_=>rfl) (aB.of LD) (liD (bU (clE (zK zP (za 2) (za 4) (λ_ _=>rfl))))) (λ_ _ _ _ _=>(zy (i:=0) Ke rfl (M5 rfl))) (λ_ _ _ _ _=>(ip (tD (zI (clO kH) (clE (za 0)) (clE aR) (zD _))))) (λ_ _ _ _ _=>(cz (oE (gL hu)) (zK zP (za 0) zl (λ_ _=>rfl)) zF (zD _))))
   (ze (zz (i:=7) hJ.nd rfl (M5 rfl) (caD (zq YL hr rfl (clP (zb (za 0) (zb (ID (za 3) (caD (zq Z9 hr rfl (clP (zb (za 0) (zb (zO bf rfl T.vx NA (zb (za 3) zc)) zc)))))) (zb (zK zP (zB aF (za 6) (aA (zb (cz (oI0 gR) (caD (zq Z9 hr rfl (clP (zb (za 0) (zb zl zc))))) zl (zD _)) zc))) zl (λ_ _=>rfl)) zc)))))))
   (ze (zz (i:=8) hJ.nd rfl (M5 rfl) (caD (zq YK hr rfl (clP (zb (za 7) zc)))))
   (zg (zL (tD (zI (clO (oI0 fg)) (clE (za 5)) (clE zl) (zD _)))
   (ze (aw (mXD (hU (clE (za 1)) T.pw jX Zz hr (clP (zb (za 4) (zb (dY fC (za 8) eG (dW (zB aF zl (caD (zq Z9 hr rfl (clP (zb (za 0) (zb (zB (oI0 gF) (zO bf rfl T.vx NA (zb (za 8) zc)) zl) zc)))))))) zc))))))
   (zg (aw (fN (zK zP (za 2) (za 4) (λ_ _=>rfl)) aR))))
   (ze (aw (mXD (hU (clE (za 1)) T.pw jX Zz hr (clP (zb (za 4) (zb (za 8) zc))))))
   (zg (aw (fN (zK zP (za 2) (za 4) (λ_ _=>rfl)) (za 7))))))))))
   zQ))))))),?_⟩
 have hsz:=ok.size;have cv:=Tw.dw.Sr.w;erw [cv,MV,Tw.dw.Sr.len,bS];refine ⟨a,_,rfl,Tw.SK,by lia,by lia,λk' H1 b1 bq k0 k1=>?_⟩;obtain ⟨k,rfl⟩:=ON k0;have O:k<d.rows.length:=by lia
 have T1:=Tw.SC b1 bq;ac_rfl;refine ⟨a,10,rfl,bq,by decide,by decide,λdk H2 b2 XC w0 w1=>?_⟩;have G:=T1.SC b2 XC;have kA:zt (FT a nl p wl sl sh cells shc) H H2:=(b1.keeps.mono (by simp [FT])).trans (b2.keeps.mono (by simp [FT]));obtain ⟨Xj,b0⟩:=G.dw.yz.ob;have bP:=G.dw.Sr.w;obtain ⟨c,vs,hc,ha,XG,dd,bL⟩:=G.dw.Sr.cell (k:=k) (by rw [bS];exact O);have Yy:=Na hc;have bZ:vs.length=(d.rows.getD k []).length:=by rw [bL,bW,MV]
 erw [b0,my];refine zY (λbA=>?_) (λbA=>?_)
 .refine ⟨p,wl,sl,cells,m,d,k,rfl,G.dw.yz,O,ok.small,(λl e=>by rw [Tw.live.1] at e;cases e),λH3 D3 b3=>?_⟩;rw [tO Tw.live.1 Tw.live.2] at D3 ⊢;unfold Out;dsimp only;obtain ⟨S3,_⟩:=G.dw.UY b3;obtain ⟨c',dt,YA,cP,c3,dm,dK⟩:=S3.cell (k:=k) (by rw [bS];exact O);rw [hc] at YA;cases YA;have av:=S3.w;have kZ:zt (FT a nl p wl sl sh cells shc) H (upd H3 c (.lst [])):=(kA.trans (b3.mono (by simp [FT];intro x hx;simp [hx]))).trans (zt.upd (by simp [FT,Yy]));refine ⟨_,.inl av,_,cP,c,rfl,⟨_,c3⟩,q (d.cleared k _) ns _ (G.done b3 O D3 (r':=[]) ?_ hc .nil (o8 G.dw.ok O) G.live G.sd) (JW ok O) (by lia) kZ⟩;exact g9
 .erw [b0,lJ,bP,ha,XG];refine ⟨p,wl,sl,cells,m,d,rfl,G.dw.yz,?_⟩;ac_rfl;rw [bZ];refine zY (λU=>?_) (λU=>?_)
  rotate_left
  .exact q d ns H2 G ok (by lia) kA
  have U:((d.rows.getD k []).length:Int)<m:=of_decide_eq_true U;refine ⟨_,.inl bP,_,ha,?_⟩;rw [AE];have bp:=G.dw.ok;have aT:∀j xs,((rdR d.rows).getD k [])[j]?=some (some xs)->∃y n ys,xs=V.str y::V.int n::ys:=λj xs e=>bp.sh.keys (xs,k,j) (cO.mpr ⟨by rw [bS];exact O,(MY.mp e).1,by show ((rdR d.rows).getD k []).getD j none=_;rw [MW,e];rfl⟩);have dg:=bp.sh.wide k;refine ⟨⟨_,SqL.of XG⟩,zX.lst (xs:=vs) (HtI H2 vs.length) (λi τ ys H' I=>?_) (λi τ ys H' I=>by rw [I.same];exact SqL.of XG) ⟨NV _,⟨_,rfl⟩,⟨[],rfl,zv _⟩,rfl⟩ ?_ ?_⟩
  .obtain ⟨bs,e,l⟩:=I.ys;rw [e,MV];exact aW (by have:=I.le;lia)
  .intro N i x τ ys H' hx I hN;obtain ⟨t1,rfl⟩:=I.ex;obtain ⟨bs,e,l⟩:=I.ys;have es:=I.same;subst es;have hi:i<((rdR d.rows).getD k []).length:=by rw [<- bL];exact (MY.mp hx).1
   have a3:((rdR d.rows).getD k [])[i]?=some ((rdR d.rows).getD k [])[i]:=l6 hi;have hr:=bG dd hx a3;have Yb:=aT i;rw [a3] at Yb;generalize ((rdR d.rows).getD k [])[i]=o at hr Yb;cases o with
   | none =>
    cases (show x=V.non from hr);ac_rfl;exact hN _ _ _ ⟨by lia,⟨_,rfl⟩,⟨bs,e,by lia⟩,rfl⟩
   | some xs =>
    obtain ⟨rr,rfl,c4⟩:=hr;obtain ⟨y,n,zs,rfl⟩:=Yb xs rfl;have ix:atI (V.str y::V.int n::zs) 0=some (V.str y):=dh (j:=0) (by simp);erw [c4,ix];exact hN _ _ _ ⟨by lia,⟨_,rfl⟩,⟨bs++[_],by rw [e,NI];rfl,by simp;lia⟩,rfl⟩
  .intro τ ys H' I D3 H3 m3;obtain ⟨bs,ct,dp⟩:=I.ys;have es:=I.same;subst es;rw [ct] at m3;have T3:=G.same m3.same;have a9:=T3.nums;have di:=ok.few;refine ⟨⟨_,a9⟩,_,.inl a9,a,_,rfl,T3.SK,by rw [MV];lia,by rw [MV];lia,λri H4 b4 c2 r0 r1=>?_⟩;obtain ⟨i,rfl⟩:=ON r0;have hi:i<ns.length:=by rw [MV] at r1;lia
   have aj:ns[i]?=some ns[i]:=l6 hi;have ak:=ok.Vn _ (NP hi);generalize ns[i]=n at aj ak;have T4:=T3.SC b4 c2;refine ⟨_,i,rfl,T4.nums,_,by rw [Nh,aj];rfl,?_⟩;rw [tE];have T5:=T4.popped (ns':=ns.eraseIdx i);have k5:zt [nl] H4 (upd H4 nl (.lst ((ns.eraseIdx i).map V.int))):=zt.upd (by simp);generalize upd H4 nl (.lst ((ns.eraseIdx i).map V.int))=H5 at T5 k5 ⊢;refine ⟨a,3,rfl,T5.SK,by decide,by decide,λg H6 b6 c6 g0 g1=>?_⟩;have T6:=T5.SC b6 c6;simp only [ud];refine ⟨by decide,λpl H7 m7 _=>?_⟩;have T7:=T6.same m7.same;have Da:D3≠a:=G.SK.ne m3.no;have Dn:D3≠nl:=λz=>by have:=m3.no;rw [z,G.nums] at this;cases this
   have eD:H7 D3=some (.lst (bs.map V.bl)):=m7.same _ _ (b6 _ _ Da (k5 _ _ (b4 _ _ Da m3.at_) (by simpa using Dn)));have cc:bs.length<=32:=by lia
   rw [iJ];refine ⟨_,_,eD,m7.at_,aN (by simp;lia),λp8 H8 m8=>?_⟩;rw [gG];obtain ⟨hot,a5⟩:∃hot:Bool,atI (bs.map V.bl++[V.bl (decide (0<g))]) 0=some (.bl hot):=by
    cases bs with
    | nil=>exact ⟨_,rfl⟩
    | cons b bs=>exact ⟨b,dh (j:=0) (by simp)⟩
   have T8:=T7.same m8.same;refine ⟨_,.inl m8.at_,_,a5,a,n,hot,rfl,T8.SK,ak.1,ak.2,λr xs H9 b9 c0 lr bc=>?_⟩;have T9:=T8.SC b9 c0;obtain ⟨ra,rl,rr,dq⟩:=EW lr.ok lr.len;have k9:zt (FT a nl p wl sl sh cells shc) H H9:=(((((kA.trans (zt.same m3.same)).trans (b4.keeps.mono (by simp [FT]))).trans (k5.mono (by simp [FT]))).trans (b6.keeps.mono (by simp [FT]))).trans (zt.same (m7.same.trans m8.same))).trans (b9.keeps.mono (by simp [FT]));have a6:∀(t:Str)(v:V)(H11:Hp)(Q':VK)(E':XK),QW A H11 a nl p wl sl sh cells shc m d (ns.eraseIdx i)->zt (FT a nl p wl sl sh cells shc) H H11->asc t=true->t.length<=1000->(∀Z,rdT (some t)=some Z->jv Z=n)->(∀Z,rdT (some t)=some Z->bI Z)->(∀H12,zt (p::wl::sl::cells) H11 H12->de H12 v (rdT (some t))) ->
     (∀u H12 c vs,H12 sh=some (.lst (shc.map V.ref))->atI (shc.map V.ref) (k:Int)=some (.ref c)->H12 c=some (.lst vs)->vs.length<sizeLine->Q .non (upd H12 c (.lst (vs++[v])))->Q' u H12)->mr A [.ref p,.int k,.str t] H11 Q' E':=λt v H11 Q' E' TT kk c9 a8 X5 c5 cp cont=>by
    refine ⟨p,wl,sl,cells,m,d,k,t,rfl,TT.dw.yz,O,a8,ok.small,λH12 b5 J=>?_⟩;rw [El TT.live.1 TT.live.2 U] at b5 ⊢;obtain ⟨ba,_⟩:=TT.dw.UY J;obtain ⟨c',X7,YA,cD,cC,df,dy⟩:=ba.cell (k:=k) (by rw [bS];exact O);have a4:=Na YA;obtain ⟨od,b8⟩:=CF (c:=d.cnt+t.length) (i:=i) TT.dw.ok ok O U c9 a8 aj X5 c5;have bt:rdR (d.wrote k t (d.cnt+t.length)).rows=(rdR d.rows).set k ((rdR d.rows).getD k []++[rdT (some t)]):=by
     show rdR (d.rows.set k _)=_;rw [g9,NI,bW];rfl
    refine cont _ H12 c' X7 ba.w cD cC (aW (by lia)) (q _ (ns.eraseIdx i) _ (TT.done J O b5 bt YA (cY df (.cons (cp H12 J) .nil)) od TT.live TT.sd) b8 (by rw [Rw hi];lia) ?_);exact (kk.trans (J.mono (by simp [FT];intro x hx;simp [hx]))).trans (zt.upd (by simp [FT,a4]))
   refine ⟨r,xs,rfl,.inr bc,lr.ok.parts.1,lr.ok.parts.2.2.2,λH10 ai=>?_⟩;have S:=T9.same ai;have a7:=ai _ _ bc;have bB:=k9.trans (zt.same ai);obtain ⟨ag,ab⟩:=S.dw.yz.ob;have X5:jv xs=n:=by obtain ⟨y,ys,e⟩:=lr.hd;rw [e];rfl
   refine zY (λav=>?_) (λav=>?_)
   .refine ⟨ag,_,ab,wt,?_⟩;ac_rfl;refine ⟨aN (by lia),a,_,rfl,S.SK,by lia,by lia,λj' H11 bx a0 j0 j1=>?_⟩;obtain ⟨j,rfl⟩:=ON j0;have hj:1+j<(aP xs).length:=by lia
    have b7:=S.SC bx a0;have da:=bB.trans (bx.keeps.mono (by simp [FT]));simp only [fS,ue];have et:Txt.slice (aP xs) none (some (1+(j:Int)))=tx ((sg (aP xs)).take (1+j)):=by
     have e:(1+(j:Int))=((1+j:Nat):Int):=by lia
     rw [e,jW (by rw [af];lia)]
    rw [et];have WU:rdT (some (tx ((sg (aP xs)).take (1+j))))=none:=LX lr.ok hj;refine ⟨aN (by lia),a6 _ .non H11 _ _ b7 da ?_ ?_ (λZ e=>by rw [WU] at e;cases e) (λZ e=>by rw [WU] at e;cases e) (λH12 J=>by rw [WU];rfl) λu H12 c vs h1 h2 h3 h4 h5=>⟨_,.inl h1,_,h2,c,rfl,⟨_,h3⟩,_,h3,h4,h5⟩⟩
    .rw [bO,cx];rw [bO] at ra;exact NM.mpr λc hc=>NM.mp ra c (PY hc)
    .rw [ni,Ow,af];lia
   .refine ⟨ag,_,ab,wt,a6 _ (.ref r) H10 _ _ S bB ra rl (λZ e=>by rw [show rdT (some (aP xs))=some xs from rr] at e;cases e;exact X5) (λZ e=>by rw [show rdT (some (aP xs))=some xs from rr] at e;cases e;exact lr.ok) (λH12 J=>by rw [show rdT (some (aP xs))=some xs from rr];exact ⟨r,rfl,S.dw.yz.tup J a7⟩) λu H12 c vs h1 h2 h3 h4 h5=>⟨_,.inl h1,_,h2,c,rfl,⟨_,h3⟩,_,h3,h4,h5⟩⟩
abbrev jQ:Stmt:=top 68
def DM.SQ(d:DM)(k j:Nat):DM:={ d with rows:=d.rows.set k (Nw j none++(d.rows.getD k []).drop j),cnt:=d.cnt+j }
theorem Fx{d:DM}{k j:Nat}(h2:d.st=false)(O:j<(d.rows.getD k []).length):(d.stop j).empty k=(.stop,{ d.SQ k j with left:=some 0,st:=true }):=by
 have z:dn (d.stop j).left (((d.stop j).rows.getD k []).length:Nat)=j:=by
  show (if (j:Int)<((d.rows.getD k []).length:Int) then (j:Int) else _)=j;rw [if_pos (by lia)]
 have F:(d.stop j).spend (((d.stop j).rows.getD k []).length:Nat)={ d with cnt:=d.cnt+j,left:=some 0,st:=true }:=by
  unfold DM.spend;rw [z];have G:(d.stop j).left.map (· - (j:Int))=some 0:=by show some ((j:Int)-j)=some 0;rw [Int.sub_self]
  have J:decide ((j:Int)<(((d.stop j).rows.getD k []).length:Nat))=true:=decide_eq_true (by show (j:Int)<((d.rows.getD k []).length:Int);lia);rw [G,J];rfl
 unfold DM.empty;rw [if_neg (by show ¬ d.st=true;rw [h2];exact M4),if_pos (by rw [F]),z,F,OG];rfl
theorem uF{k j:Nat}(G:k<d.rows.length)(J:j<(d.rows.getD k []).length){t:Tri}(h:t∈nU (d.SQ k j)):t∈nU d:=by
 rw [cI] at h ⊢;rw [cO] at h ⊢;rw [bS] at h ⊢;obtain ⟨h1,h2,h3⟩:=h;have e:(rdR (d.SQ k j).rows).getD t.2.1 []=if t.2.1=k then Nw j none++((rdR d.rows).getD k []).drop j else (rdR d.rows).getD t.2.1 []:=by
  show (rdR (d.rows.set k _)).getD _ _=_;rw [g9,cF (by rw [bS];exact G)];split
  .rw [NI,Rv,List.map_drop,bW];rfl
  .rfl
 have z:t.2.1<d.rows.length:=by
  have:(d.SQ k j).rows.length=d.rows.length:=Ov ..;lia
 rw [e] at h2 h3;by_cases F:t.2.1=k
 .rw [if_pos F] at h2 h3;rw [Nt,N8,Qv] at h2;by_cases hb:t.2.2<j
  .rw [MW,OJ (by rw [N8];exact hb),Pj,if_pos hb] at h3;cases h3
  .rw [MW,OB (by rw [N8];lia),N8,Rx] at h3;have hl:((rdR d.rows).getD k []).length=(d.rows.getD k []).length:=by rw [bW,MV]
   refine ⟨z,by rw [F];lia,?_⟩;rw [F,MW];rw [show j+(t.2.2-j)=t.2.2 by lia] at h3;exact h3
 .rw [if_neg F] at h2 h3;exact ⟨z,h2,h3⟩
theorem rR{d:DM}{k j:Nat}(z:j<(d.rows.getD k []).length):(Nw j (none:Tx)++(d.rows.getD k []).drop j).length=(d.rows.getD k []).length:=by rw [Nt,N8,Qv];lia
theorem Ij{d:DM}{k j:Nat}{c:Int}{U:Option Int}{st:Bool}(h:DOk d)(J:k<d.rows.length)(O:j<(d.rows.getD k []).length):DOk { d.SQ k j with left:=U,st:=st }:=by
 refine h.less (h.tx.set ⟨?_,λq F z G=>?_⟩) λt S=>uF J O S
 .rw [rR O];exact (h.tx.ok _ (fq J)).1
 .rcases NF.mp F with F|F
  .rw [(List.mem_replicate.mp F).2] at G;cases G
  .exact (h.tx.ok _ (fq J)).2 q (List.mem_of_mem_drop F) z G
theorem BO{k j:Nat}{st:Bool}(h:TOk m d ns)(z:k<d.rows.length)(F:j<(d.rows.getD k []).length):TOk m { d.SQ k j with left:=J,st:=st } ns:=by
 refine h.less (Ov ..) (λi=>?_) λt G=>uF z F G;show (((d.rows.set k _).getD i []).length:Int)<=m;rw [cF z];split
 .rw [rR F];exact h.wide k
 .exact h.wide i
theorem aI.swap{sh:Addr}(S:aI H sh shc rs){k:Nat}(Z:k<rs.length)(e:H c'=some (.lst J))(h1:c'≠sh)(h2:c'∉shc)(hp:Paired (de H) J r'):aI (upd H sh (.lst ((shc.map V.ref).set k (.ref c')))) sh (shc.set k c') (rs.set k r'):=by
 obtain ⟨O,n2⟩:=Ob.mp S.nd;have U:∀r xs,H r=some (.tup xs)->upd H sh (.lst ((shc.map V.ref).set k (.ref c'))) r=some (.tup xs):=λr xs e=>by rw [zd (λz=>by rw [z,S.w] at e;cases e)];exact e
 have YI:k<shc.length:=by rw [S.len];exact Z
 have XX:∀x∈shc.set k c',x=c'\/x∈shc:=λx hx=>(Qh hx).symm;refine ⟨by rw [zx,map_set],by rw [Ov,Ov];exact S.len,λi W hi=>?_,Ob.mpr ⟨λz=>?_,?_⟩⟩
 .rw [cF Z];by_cases h:i=k
  .subst h;rw [Py YI] at hi;cases hi;rw [if_pos rfl];exact ⟨J,by rw [zd h1];exact e,Paired.wh hp λv o r=>r.keep U⟩
  .rw [if_neg h];rw [Qo (Ni h)] at hi;obtain ⟨vs,hv,pv⟩:=S.at_ i W hi;exact ⟨vs,by rw [zd (λz:W=sh=>O (by rw [<- z];exact Na hi))];exact hv,Paired.wh pv λv o r=>r.keep U⟩
 .rcases XX sh z with z|z
  .exact h1 z.symm
  .exact O z
 .refine OW.mpr λi j hi G Yg=>?_;rw [Ov] at hi G;rw [List.getElem_set,List.getElem_set];have F:=OW.mp n2 i j hi G Yg;split
  .split
   .lia
   .exact λz=>h2 (by rw [z];exact NP G)
  .split
   .exact λz=>h2 (by rw [<- z];exact NP hi)
   .exact F
theorem wA:∀{n:Nat},Paired (de H) (Nw n V.non) (Nw n none)
 | 0=>.nil
 | n+1=>by rw [Os,Os];exact .cons rfl wA
theorem AR{α β:Type}{R:α->β->Prop}:∀{l:List α}{m:List β}{j:Nat},Paired R l m->Paired R (l.drop j) (m.drop j)
 | _,_,0,h=>h
 | _,_,_+1,.nil=>.nil
 | _,_,j+1,.cons _ t=>AR (j:=j) t
theorem B4{xs:List V}{j:Nat}(h:j<=xs.length):aY xs (some (j:Int)) none=xs.drop j:=by
 unfold aY;rw [HT.sIx_nat,HT.sIx_none,Sf h,Nz (by rw [Qv];exact zv _)]
theorem Ja{x:V}:(Nw n [x]).flatten=Nw n x:=by
 induction n with
 | zero=>rfl
 | succ n z=>rw [Os,Qz,z];rfl
structure SmI(H:Hp)(rs:List (List OR))(i:Nat)(τ:L2.St)(ys:List V)(H':Hp):Prop where
 ex:∃t1 t2,τ=[t1,t2]
 ys:∃l:List Nat,ys=l.map iv/\l.length<=i/\∀k∈l,k<rs.length/\(rs.getD k []).length≠0
 same:zi H H'
 le:i<=16
def Ah(A:zh):Sp:=λvs H Q _=>∃(a nl p wl sl sh:Addr)(cells shc:List Addr)(m:Int)(d:DM)(ns:List Int),vs=[.ref a,.ref p,.ref sh]/\QW A H a nl p wl sl sh cells shc m d ns/\TOk m d ns /\
 ∀z J G F shc' d' H',QW A H' a nl z J G sh F shc' m d' ns->TOk m d' ns->zt (FT a nl p wl sl sh cells shc) H H'->(∀x∈FT a nl z J G sh F shc',x∈FT a nl p wl sl sh cells shc\/H x=none)->Q (.ref z) H'
theorem gY:zw Xg WO (zj jQ):=fsc
theorem C0:bw { kind:=.function,names:=[(yv ".0",.local),(yv "_law_k",.local),(yv "_law_rows_here",.local)],isGenerator:=false,isCoroutine:=false,more:=[] } (zj jQ).names Xg ["_law_k","_law_rows_here"] [none,none]=true:=by decide +kernel
theorem xD:(["_law_k","_law_rows_here"]:List Str).Nodup:=by decide +kernel
theorem Fj(F:Fun K "_law_torn" "_law_torn" jQ f fd)(T:Txt w K mg A)(Z9:GF P w K mg base true 1 Wf Zv dz)(Z5:GF P w K mg base true 2 V5 Yi iD)(YZ:GM P w K mg base true 1 A.ub "stop" WQ (vz A))(ZW:GMX P w K mg base true 2 A.ub "empty" Yc (kX A))(ZR:GM P w K mg base true 5 A.ub V4 Zn (p0 A)):zm P w K mg base CX0 true 6 f fd WO (Ah A):=by
 refine F.o gY λZ0 Ar outer s H vs Q E hr h=>?_;obtain ⟨a,nl,p,wl,sl,sh,cells,shc,m,d,ns,rfl,Tw,ok,q⟩:=h;have hu:_<cLine:=Ny (zT hr);refine ⟨_,(W.h (ze (iw (i0:=3) gY.nd rfl (M5 rfl) (λ_=>rfl) (aB.of C0) (nA rfl T.Su (zb (za 2) zc)) (λ_ _ _ _ _=>(hV (n:=2) (gsD (zJ (zy (i:=0) xD rfl (M5 rfl)) (gsD (zJ (zy (i:=1) xD rfl (M5 rfl)) bC)))))) (λ_ _ _ _ _=>(ip (tD (zI (clO (Ls hu)) (clE (za 1)) (clE (aA zc)) (zD _))))) (λ_ _ _ _ _=>(za 0)))
   (ze (zL (cy (kN (tD (zI (clO (FB hu)) (clE (za 3)) (clE (aA zc)) (zD _))) (jx (tD (zI (clO (oE (aX hu))) (clE (caD (zq Z9 hr rfl (clP (zb (za 0) (zb zl zc)))))) (clE zl) (zD _))))))
   (zg (zu (za 1)))
   zQ)
   (ze (zz (i:=4) gY.nd rfl (M5 rfl) (caD (zq Z5 hr rfl (clP (zb (za 0) (zb (za 3) zc))))))
   (ze (zz (i:=5) gY.nd rfl (M5 rfl) (caD (zq Z9 hr rfl (clP (zb (za 0) (zb (zO bf rfl T.vx NA (zb (zK zP (za 2) (za 4) (λ_ _=>rfl)) zc)) zc))))))
   (ze (aw (mD (cb (clE (za 1)) T.pw YZ hr (clP (zb (za 5) zc)))))
   (ze (zz (i:=6) gY.nd rfl (M5 rfl) bz)
   (ze (sX rfl rfl ⟨rfl,rfl⟩ T.SJ rfl T.SW (λGo Ex=>(zg (aw (mXD (hU (clE (za 1)) T.pw yV ZW hr (clP (zb (za 4) zc))))))) (λGo ea=>by
   have hr:=hr.mark (v:=some (.ref ea));exact (zg (zz (i:=6) gY.nd rfl (M5 rfl) bz))))
   (ze (zL (aO (za 6))
   (zg (cj (zB aF (zB dC (aA (zb aR zc)) (za 5)) (dY fC (zK zP (za 2) (za 4) (λ_ _=>rfl)) (dW (za 5)) eG)) (fB (za 2) (za 4) iM)))
   zQ)
   (zg (zu (m0D (bb (clE (za 1)) T.pw ZR hr))))))))))))),?_⟩
 have hsz:=ok.size;have S:=Tw.dw.Sr;ac_rfl;refine ⟨⟨_,SqL.of S.w⟩,zX.enum (xs:=shc.map V.ref) (SmI H (rdR d.rows)) (λi τ ys H' I=>?_) (λi τ ys H' I=>SqL.of (I.same _ _ S.w)) ⟨⟨_,_,rfl⟩,⟨[],rfl,zv _,by simp⟩,zi.refl _,by lia⟩ ?_ ?_⟩
 .obtain ⟨l,e,hl,_⟩:=I.ys;rw [e,MV];exact aW (by have:=I.le;lia)
 .intro N i x pt τ ys H' hx I hp hN;obtain ⟨t1,t2,rfl⟩:=I.ex;obtain ⟨l,e,hl,hm⟩:=I.ys;rw [Nh] at hx;obtain ⟨c,hc,rfl⟩:=Nu.mp hx;have hi:i<(rdR d.rows).length:=by rw [<- S.len];exact (MY.mp hc).1
  have dm:i<16:=by rw [bS] at hi;lia
  obtain ⟨vs,hv,pv⟩:=S.at_ i c hc;have lv:=ar pv;refine ⟨pt,_,rfl,SqT.of zx,rfl,?_⟩;have nw:New H' pt (.tup [.int i,.ref c]) (upd H' pt (.tup [.int i,.ref c])):=.mk' hp;generalize upd H' pt (.tup [.int i,.ref c])=H0 at nw ⊢;ac_rfl;refine ⟨NV _,λpl H5 n5 _=>⟨_,n5.same _ _ (nw.same _ _ (I.same _ _ hv)),_,n5.at_,.inr rfl,?_⟩⟩;have sm:=(I.same.trans nw.same).trans n5.same;rw [show ([]:List V).length=0 from rfl];by_cases h0:vs.length=0
  .rw [decide_eq_true h0];ac_rfl;exact hN _ _ _ ⟨⟨_,_,rfl⟩,⟨l,e,by lia,hm⟩,sm,by lia⟩
  .rw [decide_eq_false h0];ac_rfl;refine hN _ _ _ ⟨⟨_,_,rfl⟩,⟨l++[i],by rw [e,NI];rfl,by simp;lia,λk hk=>?_⟩,sm,by lia⟩;rcases NF.mp hk with hk|hk
   .exact hm k hk
   .rw [M0] at hk;subst hk;exact ⟨hi,by lia⟩
 .intro τ ys H' I D2 H2 m2;obtain ⟨l,e,hl,hm⟩:=I.ys;rw [e] at m2;have s2:zi H H2:=I.same.trans m2.same;have T2:=Tw.same s2;have stay:Q (.ref p) H2:=q p wl sl cells shc d H2 T2 ok (zt.same s2) λx hx=>.inl hx;intro _;refine ⟨NV _,λpl H3 m3 _=>?_⟩;have T3:=T2.same m3.same;have s3:=s2.trans m3.same;rw [sf];refine ⟨_,_,m3.same _ _ m2.at_,m3.at_,.inr rfl,?_⟩;ac_rfl;rw [MV];by_cases b0:l.length=0
  .rw [if_pos (decide_eq_true b0)];exact q p wl sl cells shc d H3 T3 ok (zt.same s3) λx hx=>.inl hx
  rw [if_neg (by rw [decide_eq_false b0];exact M4)];refine ⟨a,3,rfl,T3.SK,by decide,by decide,λr H4 b4 cD r0 r1=>?_⟩;have T4:=T3.SC b4 cD;have kp:∀{H H':Hp},But a H H'->zt (FT a nl p wl sl sh cells shc) H H':=λ{H H'} b=>b.keeps.mono (by simp [FT]);have k4:zt (FT a nl p wl sl sh cells shc) H H4:=(zt.same s3).trans (kp b4);simp only [tS,xQ];by_cases a9:r=0
  .rw [decide_eq_true a9];exact q p wl sl cells shc d H4 T4 ok k4 λx hx=>.inl hx
  rw [decide_eq_false a9];have Da:D2≠a:=(Tw.SK.same I.same).ne m2.no;have dk:l.length<=16:=by
   have:=hl;rw [MV,S.len,bS] at this;lia
  refine ⟨a,T4.SK,.inl ⟨D2,_,rfl,Da,.inl (b4 _ _ Da (m3.same _ _ m2.at_)),by rw [MV];lia,by rw [MV];lia,λv H5 hv b5 Xh=>?_⟩⟩;obtain ⟨k,XB,rfl⟩:=OU.mp hv;obtain ⟨YI,Zw⟩:=hm k XB;have hk:k<d.rows.length:=by rw [bS] at YI;exact YI
  have T5:=T4.SC b5 Xh;have k5:=k4.trans (kp b5);obtain ⟨c,vs,hc,ha,b3,dy,df⟩:=T5.dw.Sr.cell (k:=k) YI;have Yy:=Na hc;have dt:vs.length=(d.rows.getD k []).length:=by rw [df,bW,MV]
  have dp:=ok.wide k;unfold iv;rw [gG];refine ⟨_,.inl T5.dw.Sr.w,_,ha,?_⟩;rw [nH];refine ⟨_,.inl b3,a,_,rfl,T5.SK,by lia,by lia,λj' H6 b6 c5 j0 j1=>?_⟩;obtain ⟨j,rfl⟩:=ON j0;have hj:j<(d.rows.getD k []).length:=by lia
  have G:=T5.SC b6 c5;have k6:=k5.trans (kp b6);obtain ⟨cv,da⟩:=G.dw.yz.ob;refine ⟨cv,_,da,Gs,p,wl,sl,cells,m,d,j,rfl,G.dw.yz,λH7 D7 b7=>?_⟩;obtain ⟨b9,cC⟩:=D7.ob;refine ⟨b9,_,cC,my,p,wl,sl,cells,m,d.stop j,k,rfl,D7,hk,ok.small,(λl e=>by cases e;lia),λH8 D8 b8=>?_⟩;rw [Fx G.live.2 hj] at D8 ⊢;unfold Out;dsimp only;refine ⟨_,rfl,T.SJ,T.UW,λea oe he _=>?_⟩;have ct:zt (p::wl::sl::cells) H6 H8:=(b7.mono (by simp)).trans b8;have a5:zi H8 (upd H8 ea (.frz oe (.own 0))):=λx o e=>by rw [zd (zC e he)];exact e
  generalize upd H8 ea (.frz oe (.own 0))=H9 at a5 ⊢;have D9:=D8.pL (.of a5);have U:zt (p::wl::sl::cells) H6 H9:=ct.trans (zt.same a5);obtain ⟨S9,c6⟩:=G.dw.UY U;obtain ⟨c9,bc,dK,bA,bL,dg,c3⟩:=S9.cell (k:=k) YI;have a3:=S9.w;have di:bc.length=(d.rows.getD k []).length:=by rw [c3,bW,MV]
  erw [a3,bA,bL];refine ⟨by decide,λp1 H10 bt _=>⟨_,bt.at_,by lia,by lia,aN (by simp;lia),λp2 H11 ba=>?_⟩⟩;have a6:zi H9 H11:=bt.same.trans ba.same;refine ⟨_,.inl (a6 _ _ a3),_,bA,?_⟩;rw [ph];refine ⟨_,a6 _ _ bL,λp3 H12 aj=>?_⟩;rw [B4 (by lia)] at aj;rw [iJ];have bP:=ba.at_;rw [OG,Ja] at bP;refine ⟨_,_,aj.same _ _ bP,aj.at_,aN (by simp;lia),λp4 H13 O=>?_⟩;have Z:zi H9 H12:=a6.trans aj.same;have J:zi H9 H13:=Z.trans O.same;have ag:=S9.same J;have b1:=c6.same J;have bp:=D9.pL (.of J);have dV:k<shc.length:=by rw [S9.len];exact YI
  have ix:ixN (shc.map V.ref).length (k:Int)=some k:=by
   unfold ixN;rw [if_pos (by lia),if_pos (by rw [MV];lia)];simp
  refine ⟨_,ag.w,k,ix,?_⟩;have bq:p4≠sh:=λz=>by have:=O.no;rw [z,Z _ _ a3] at this;cases this
  have cp:p4∉shc:=λz=>by
   obtain ⟨i,hi,e⟩:=NQ z;obtain ⟨us,eu,_⟩:=S9.at_ i _ (l6 hi);have:=O.no;rw [<- e,Z _ _ eu] at this;cases this
  have a8:Paired (de H13) (Nw j V.non++bc.drop j) (Nw j none++((rdR d.rows).getD k []).drop j):=cY wA (Paired.wh (AR dg) λv o r=>r.keep λr xs e=>J _ _ e);have ai:=ag.swap YI O.at_ bq cp a8;have kS:zt [sh] H13 (upd H13 sh (.lst ((shc.map V.ref).set k (.ref p4)))):=zt.upd (by simp);have ak:TB A (upd H13 sh (.lst ((shc.map V.ref).set k (.ref p4)))):=b1.put ag.w;have a7:=bp.keep kS λx hx z=>by
   rw [M0] at z;obtain ⟨dq,bB⟩:=bp.ob;rcases MX.mp hx with rfl|hx
   .rw [z,ag.w] at bB;cases bB
   .exact (G.dw.ap x hx).1 z
  have c4:zt (FT a nl p wl sl sh cells shc) H H13:=(k6.trans (U.mono (by simp [FT];intro x hx;simp [hx]))).trans (zt.same J);have a4:zt (FT a nl p wl sl sh cells shc) H (upd H13 sh (.lst ((shc.map V.ref).set k (.ref p4)))):=c4.trans (kS.mono (by simp [FT]));have a0:Pot (upd H13 sh (.lst ((shc.map V.ref).set k (.ref p4)))) a:=by
   obtain ⟨x,y,e,rr⟩:=G.SK.ex;exact ⟨⟨x,y,by rw [zd G.S4.2.1];exact J _ _ (U _ _ e (G.dw.yz.out e λx hx=>(G.ap x hx).1)),rr⟩⟩
  have aT:(upd H13 sh (.lst ((shc.map V.ref).set k (.ref p4)))) nl=some (.lst (ns.map V.int)):=by
   rw [zd G.S4.2.2.2.1];exact J _ _ (U _ _ G.nums (G.dw.yz.out G.nums λx hx=>(G.ap x hx).2))
  have cc:p4∈FT a nl p wl sl sh cells shc\/H p4=none:=by
   by_cases z:p4∈FT a nl p wl sl sh cells shc
   .exact .inl z
   .refine .inr ?_;cases e:H p4 with
    | none=>rfl
    | some o =>
     have:=((k6.trans (U.mono (by simp [FT];intro x hx;simp [hx]))).trans (zt.same Z)) _ _ e z;rw [O.no] at this;cases this
  have c0:a≠p4:=λz=>by
   obtain ⟨xs,e⟩:=G.SK.lst;have:=Z _ _ (U _ _ e (G.dw.yz.out e λx hx=>(G.ap x hx).1));rw [z,O.no] at this;cases this
  have cP:nl≠p4:=λz=>by
   have:=Z _ _ (U _ _ G.nums (G.dw.yz.out G.nums λx hx=>(G.ap x hx).2));rw [z,O.no] at this;cases this
  generalize upd H13 sh (.lst ((shc.map V.ref).set k (.ref p4)))=dT at ai ak a7 a4 a0 aT ⊢;obtain ⟨bx,b2⟩:=a7.ob;have rl:(d.SQ k j).rows.length=d.rows.length:=Ov ..;refine ⟨bx,_,b2,vU,p,wl,sl,cells,m,_,rfl,a7,by show 3<=(d.SQ k j).rows.length;lia,by show (d.SQ k j).rows.length<=16;lia,hsz.2.2.1,hsz.2.2.2,λp' Xr XW ZF bZ dd ab av=>?_⟩;have XX:∀x∈shc.set k p4,x=p4\/x∈shc:=λx hx=>(Qh hx).symm;have fr:∀x∈p'::Xr::XW::ZF,x∈FT a nl p wl sl sh cells shc\/H x=none:=λx hx=>by
   by_cases z:x∈FT a nl p wl sl sh cells shc
   .exact .inl z
   .refine .inr ?_;cases e:H x with
    | none=>rfl
    | some o =>
     have:=a4 _ _ e z;rw [av x hx] at this;cases this
  have c2:rdR (d.SQ k j).rows=(rdR d.rows).set k (Nw j none++((rdR d.rows).getD k []).drop j):=by
   show rdR (d.rows.set k _)=_;rw [g9,NI,Rv,List.map_drop,bW];rfl
  refine q p' Xr XW ZF (shc.set k p4) { d.SQ k j with left:=none,st:=false } bZ ⟨⟨dd,?_,λx hx=>?_,ak.same ab,Ij (c:=0) Tw.dw.ok hk hj⟩,a0.same ab,ab _ _ aT,λx hx=>?_,⟨G.S4.1,G.S4.2.1,λz=>?_,G.S4.2.2.2.1,λz=>?_⟩,⟨rfl,rfl⟩,Tw.sd⟩ (BO ok hk hj) (a4.trans (zt.same ab)) λx hx=>?_
  .show aI bZ sh _ (rdR (d.SQ k j).rows);rw [c2];exact ai.same ab
  .have Xd:=av x (M7 _ hx);refine ⟨λz=>?_,λz=>?_⟩
   .rw [z,ai.w] at Xd;cases Xd
   .obtain ⟨i,hi,e⟩:=NQ z;obtain ⟨us,eu,_⟩:=ai.at_ i _ (l6 hi);rw [<- e,eu] at Xd;cases Xd
  .have Xd:=av x (M7 _ hx);refine ⟨a0.ne Xd,λz=>?_⟩;rw [z,aT] at Xd;cases Xd
  .rcases XX _ z with z|z
   .exact c0 z
   .exact G.S4.2.2.1 z
  .rcases XX _ z with z|z
   .exact cP z
   .exact G.S4.2.2.2.2 z
  .unfold FT at hx;rcases MX.mp hx with rfl|hx
   .exact .inl (by simp [FT])
   .rcases MX.mp hx with rfl|hx
    .exact .inl (by simp [FT])
    .rcases MX.mp hx with rfl|hx
     .exact fr _ (by simp)
     .rcases MX.mp hx with rfl|hx
      .exact fr _ (by simp)
      .rcases MX.mp hx with rfl|hx
       .exact fr _ (by simp)
       .rcases MX.mp hx with rfl|hx
        .exact .inl (by simp [FT])
        .rcases NF.mp hx with hx|hx
         .exact fr _ (by simp [hx])
         .rcases XX x hx with rfl|hx
          .exact cc
          .exact .inl (by simp [FT,hx])
abbrev lx:Stmt:=top 69
theorem nJ{α:Type}(n i:Nat):(Nw n ([]:List α)).getD i []=[]:=by
 rw [MW,Pj];split<;>rfl
theorem Az(n:Nat):nU (DM.new n)=[]:=by
 refine List.eq_nil_iff_forall_not_mem.mpr λt z=>?_;rw [cI,cO] at z;have h:=z.2.1;rw [bW,MV] at h;have e:(DM.new n).rows.getD t.2.1 []=[]:=nJ n _;rw [e] at h;simp at h
theorem Kt(h:n<=16):DOk (DM.new n):=by
 have e:=Az n;refine ⟨⟨λr hr=>?_,by show (Nw n _).length<=16;rw [N8];exact h⟩,by rw [e];exact nodup_nil,by rw [e];decide,(λt z=>by rw [e] at z;cases z),(λt z=>by rw [e] at z;cases z)⟩;rw [(List.mem_replicate.mp hr).2];exact ⟨by simp,by simp⟩
theorem IW(h1:3<=n)(h2:n<=16)(h3:2<=m)(h4:m<=32)(nd:ns.Nodup)(hi:∀x∈ns,1<=x/\x<10 ^ 17)(hl:ns.length<=20):TOk m (DM.new n) ns:=by
 have e:=Az n;refine ⟨by show 3<=(Nw n _).length/\(Nw n _).length<=16/\_;rw [N8];exact ⟨h1,h2,h3,h4⟩,λi=>?_,nd,hi,(λt z=>by rw [e] at z;cases z),by rw [e];simpa using hl⟩;show (((Nw n ([]:List Tx)).getD i []).length:Int)<=m;rw [nJ];simp;lia
structure Lp1(A:zh)(H0:Hp)(a nl p wl sl sh:Addr)(cells shc:List Addr)(m:Int)(lo:Nat)(i:Nat)(σ:L2.St)(H':Hp):Prop where
 ex:∃t,σ=[some (V.ref a),some (.ref p),some (.ref sh),some (.ref nl),t]
 st:∃d ns,QW A H' a nl p wl sl sh cells shc m d ns/\TOk m d ns/\lo<=ns.length+i
 keep:zt (FT a nl p wl sl sh cells shc) H0 H'
def Ax(A:zh):Sp:=λvs H Q _=>∃a,vs=[.ref a]/\Pot H a/\TB A H/\∀tp p wl sl sh cells shc m d H',H' tp=some (.tup [.ref p,.ref sh])->DW A H' p wl sl sh cells shc m d->Pot H' a->But a H H' ->
 (∀x∈p::wl::sl::sh::(cells++shc),x≠a/\H x=none)->d.left=none->d.st=false->d.J7.length=2->(3<=d.rows.length/\d.rows.length<=16/\2<=m/\m<=32)->(∀i,((d.rows.getD i []).length:Int)<=m)->Q (.ref tp) H'
theorem fZ:zw WL ["_law_pot_here"] (zj lx):=fsc
theorem Ee:bw { kind:=.function,names:=[(yv ".0",.local),(yv "_law_k",.local)],isGenerator:=false,isCoroutine:=false,more:=[] } (zj lx).names WL ["_law_k"] [none]=true:=by decide +kernel
theorem LF:(["_law_k"]:List Str).Nodup:=by decide +kernel
theorem Jq(F:Fun K "_law_disk" "_law_disk" lx f fd)(T:Txt w K mg A)(Z5:GF P w K mg base true 2 V5 Yi iD)(YB:GC P w K mg base true 3 "Disk" A.ub Ya (mz A))(Z7:GM P w K mg base true 1 A.ub V6 Zn (d8 A λ_ d=>.int d.rows.length))(Zu:GF P w K mg base true 2 VS Zv yu)(Z9:GF P w K mg base true 1 Wf Zv dz)(Zp:GF P w K mg base true 4 "_law_turn" Xy (Ag A))(YY:GF P w K mg base true 6 "_law_torn" WO (Ah A)):zm P w K mg base CX0 true 7 f fd ["_law_pot_here"] (Ax A):=by
 refine F.o fZ λZ0 Ar outer s H vs Q E hr h=>?_;obtain ⟨a,rfl,hP,tb,q⟩:=h;have hu:_<cLine:=Ny (zT hr);refine ⟨_,(W.h (ze (zz (i:=1) fZ.nd rfl (M5 rfl) (jT YB hr rfl (zb (caD (zq Z5 hr rfl (clP (zb (za 0) (zb (aA (zb zl (zb zl (zb zl (zb zl (zb zl zc)))))) zc))))) (zb (caD (zq Z5 hr rfl (clP (zb (za 0) (zb (aA (zb zl (zb zl (zb zl (zb zl (zb zl zc)))))) zc))))) zc))))
   (ze (iw (i0:=2) fZ.nd rfl (M5 rfl) (λ_=>rfl) (aB.of Ee) (ef rfl T.z4 (zb (m0D (bb (clE (za 1)) T.pw Z7 hr)) zc)) (λ_ _ _ _ _=>(zy (i:=0) LF rfl (M5 rfl))) (λ_ _ _ _ _=>du) (λ_ _ _ _ _=>(aA zc)))
   (ze (zz (i:=3) fZ.nd rfl (M5 rfl) (caD (zq Zu hr rfl (clP (zb (za 0) (zb zl zc))))))
   (ze (bh N9.never (λ_=>rfl) (ef rfl T.z4 (zb (caD (zq Z9 hr rfl (clP (zb (za 0) (zb zl zc))))) zc)) (zy (i:=4) fZ.nd rfl (M5 rfl))
   (zg (aw (caD (zq Zp hr rfl (clP (zb (za 0) (zb (za 1) (zb (za 2) (zb (za 3) zc))))))))))
   (ze (zz (i:=1) fZ.nd rfl (M5 rfl) (caD (zq YY hr rfl (clP (zb (za 0) (zb (za 1) (zb (za 2) zc)))))))
   (ze (bh N9.never (λ_=>rfl) (ef rfl T.z4 (zb (caD (zq Z9 hr rfl (clP (zb (za 0) (zb zl zc))))) zc)) (zy (i:=4) fZ.nd rfl (M5 rfl))
   (zg (aw (caD (zq Zp hr rfl (clP (zb (za 0) (zb (za 1) (zb (za 2) (zb (za 3) zc))))))))))
   (zg (zu (aH (zb (za 1) (zb (za 2) zc)))))))))))),?_⟩
 have lst:∀{H:Hp},Pot H a->∀x∈[a],(∃xs,H x=some (.lst xs))\/∃C dx fs,H x=some (.ins C dx fs):=λ{H} h x hx=>by
  rw [M0] at hx;subst hx;obtain ⟨xs,e⟩:=h.lst;exact .inl ⟨xs,e⟩
 ac_rfl;refine ⟨by decide,λl1 H1 m1 _=>⟨a,hP.same m1.same,.inl ⟨l1,_,rfl,hP.ne m1.no,.inl m1.at_,by simp,by simp,λv1 H2 aj b2 XC=>?_⟩⟩⟩;obtain ⟨n,rfl,bq,a5⟩:∃n:Nat,v1 = .int n/\3<=n/\n<=16:=by
  simp only [MX,M1,or_false] at aj;rcases aj with rfl|rfl|rfl|rfl|rfl
  .exact ⟨3,rfl,by decide,by decide⟩
  .exact ⟨3,rfl,by decide,by decide⟩
  .exact ⟨4,rfl,by decide,by decide⟩
  .exact ⟨5,rfl,by decide,by decide⟩
  .exact ⟨16,rfl,by decide,by decide⟩
 have bA:=(But.of m1.same).trans b2;have Yh:TB A H2:=(tb.same m1.same).lists b2.keeps (lst (hP.same m1.same));refine ⟨by decide,λl3 H3 m3 _=>⟨a,XC.same m3.same,.inl ⟨l3,_,rfl,XC.ne m3.no,.inl m3.at_,by simp,by simp,λv2 H4 XG b4 ab=>?_⟩⟩⟩;obtain ⟨m,rfl,bP,cP⟩:∃m:Int,v2 = .int m/\2<=m/\m<=32:=by
  simp only [MX,M1,or_false] at XG;rcases XG with rfl|rfl|rfl|rfl|rfl
  .exact ⟨2,rfl,by decide,by decide⟩
  .exact ⟨2,rfl,by decide,by decide⟩
  .exact ⟨3,rfl,by decide,by decide⟩
  .exact ⟨5,rfl,by decide,by decide⟩
  .exact ⟨32,rfl,by decide,by decide⟩
 have bB:=(bA.trans (But.of m3.same)).trans b4;have Xq:TB A H4:=(Yh.same m3.same).lists b4.keeps (lst (XC.same m3.same));refine λp cC H5 nI=>⟨p,cC,n,m,rfl,nI.at_,by lia,by lia,by lia,by lia,λwl sl cells H6 D6 k6 f6=>⟨rfl,?_⟩⟩;rw [OG] at D6;have P5:=ab.same nI.same;obtain ⟨xa,ya,ea,ra⟩:=P5.ex;have a0:a≠p:=λz=>by rw [z,nI.at_] at ea;cases ea
 have P6:Pot H6 a:=⟨⟨xa,ya,k6 _ _ ea a0,ra⟩⟩;have b7:zt [p] H5 H6:=λc o e n=>k6 c o e (λz=>n (by simp [z]));have cv:TB A H6:=(Xq.same nI.same).lists b7 (λx hx=>by rw [M0] at hx;subst hx;exact .inr ⟨_,_,_,nI.at_⟩);have b6:But a H H6:=λx o nx e=>k6 x o (nI.same _ _ (bB x o nx e)) (λz=>by have:=bB x o nx e;rw [z,nI.no] at this;cases this);have O:∀x∈p::wl::sl::cells,x≠a/\H x=none:=λx hx=>by
  rcases MX.mp hx with rfl|hx
  .exact ⟨Ni a0,bB.no ab nI.no⟩
  .have h5:=f6 x hx;have h4:H4 x=none:=nI.same.free h5;exact ⟨P5.ne h5,bB.no ab h4⟩
 obtain ⟨b3,cc⟩:=D6.ob;refine ⟨b3,_,cc,il,p,wl,sl,cells,m,_,rfl,D6,?_⟩;have er:(DM.new n).rows.length=n:=N8 ..;ac_rfl;rw [er,OG];refine ⟨by lia,by lia,zX.rng (xn H6) (λi τ ys H' I=>?_) ⟨⟨_,rfl⟩,⟨[],rfl,rfl,by simp,nodup_nil⟩,zi.refl _,by decide⟩ ?_ ?_⟩
 .obtain ⟨cs,e,l,_⟩:=I.ex;rw [e,MV,l];exact aW (by have:=I.le;lia)
 .intro N i τ ys H' hi I hN;obtain ⟨t,rfl⟩:=I.τ;obtain ⟨cs,e,l,hc,Xm⟩:=I.ex;ac_rfl;refine ⟨NV _,λc H7 n7 _=>hN _ _ _ ⟨⟨_,rfl⟩,⟨cs++[c],by rw [e];simp,by simp [l],λx hx=>?_,?_⟩,I.same.trans n7.same,by lia⟩⟩
  .rcases NF.mp hx with hx|hx
   .exact ⟨n7.same _ _ (hc x hx).1,(hc x hx).2⟩
   .rw [M0] at hx;subst hx;exact ⟨n7.at_,I.same.free n7.no⟩
  .rw [Pp];refine ⟨Xm,by simp,λx hx y hy z=>?_⟩;rw [M0] at hy;have:=(hc x hx).1;rw [z,hy,n7.no] at this;cases this
 .intro τ ys H7 I sh H8 n8;obtain ⟨shc,e,lc,hc,Xm⟩:=I.ex;rw [e] at n8;have S:zi H6 H8:=I.same.trans n8.same;have cD:sh∉shc:=λz=>by have:=n8.no;rw [(hc sh z).1] at this;cases this
  have a6:rdR (DM.new n).rows=Nw n []:=by
   show (Nw n ([]:List Tx)).map _=_;rw [Rv];rfl
  have rep:∀i c,shc[i]?=some c->H8 c=some (.lst []):=λi c h=>n8.same _ _ (hc c (Na h)).1;have S8:aI H8 sh shc (rdR (DM.new n).rows):=by
   rw [a6];exact ⟨n8.at_,by rw [N8];exact lc,λi c h=>⟨[],rep i c h,by rw [nJ];exact .nil⟩,Ob.mpr ⟨cD,Xm⟩⟩
  have fr:∀x o,H6 x=some o->x≠sh/\x∉shc:=λx o h=>by
   refine ⟨λz=>?_,λz=>?_⟩
   .have:=n8.no;rw [<- z,I.same _ _ h] at this;cases this
   .have:=(hc x z).2;rw [h] at this;cases this
  have a7:∀x∈wl::sl::cells,∃o,H6 x=some o:=λx hx=>by
   rcases D6.lists x (M7 _ hx) with ⟨xs,h⟩|⟨_,_,_,h⟩<;>exact ⟨_,h⟩
  have W8:DW A H8 p wl sl sh cells shc m (DM.new n):=⟨D6.pL (.of S),S8,λx hx=>by obtain ⟨o,ho⟩:=a7 x hx;exact fr x o ho,cv.same S,Kt a5⟩;have P8:=P6.same S;obtain ⟨x6,y6,a9,_⟩:=P6.ex;obtain ⟨ak,ba⟩:=fr a _ a9;have b8:But a H H8:=b6.trans (But.of S);refine ⟨a,10,rfl,P8,by decide,by decide,λnl ns H9 b9 av aT b5 Z6 nd Yd=>?_⟩;have bL:=b8.trans b9;have U:∀x o,H8 x=some o->x≠nl:=λx o h z=>by rw [z,aT] at h;cases h
  have Q9:QW A H9 a nl p wl sl sh cells shc m (DM.new n) ns:=by
   refine ⟨W8.SC P8 (λx hx=>(O x (M7 _ hx)).1) ak ba b9,av,b5,λx hx=>⟨(O x (M7 _ hx)).1,?_⟩,⟨U a _ (S _ _ a9),ak,ba,(U sh _ S8.w).symm,λz=>?_⟩,⟨rfl,rfl⟩,rfl⟩
   .obtain ⟨o,ho⟩:=a7 x hx;exact U x o (S _ _ ho)
   .obtain ⟨i,hi,ei⟩:=NQ z;exact U nl _ (rep i nl (by rw [<- ei];exact l6 hi)) rfl
  have T9:TOk m (DM.new n) ns:=IW bq a5 bP cP nd Yd (by lia);have ag:∀x∈FT a nl p wl sl sh cells shc,x=a\/H x=none:=λx hx=>by
   unfold FT at hx;rcases MX.mp hx with rfl|hx
   .exact .inl rfl
   .rcases MX.mp hx with rfl|hx
    .exact .inr (b8.no P8 aT)
    .rcases MX.mp hx with rfl|hx
     .exact .inr (O _ (by simp)).2
     .rcases MX.mp hx with rfl|hx
      .exact .inr (O _ (by simp)).2
      .rcases MX.mp hx with rfl|hx
       .exact .inr (O _ (by simp)).2
       .rcases MX.mp hx with rfl|hx
        .exact .inr (b6.no P6 (I.same.free n8.no))
        .rcases NF.mp hx with hx|hx
         .exact .inr (O _ (by simp [hx])).2
         .exact .inr (b6.no P6 (hc x hx).2)
  have G:∀{Hy Hc:Hp}{F:List Addr},But a H Hy->(∀x∈F,x=a\/H x=none)->zt F Hy Hc->But a H Hc:=λ{Hy Hc F} b fr k x o nx e=>k x o (b x o nx e) λz=>by
   rcases fr x z with z|z
   .exact nx z
   .rw [e] at z;cases z
  ac_rfl;refine ⟨a,7,rfl,av,by decide,by decide,λr1 H10 a3 ai c6 c3=>?_⟩;have b0:=Q9.SC a3 ai;have a8:=bL.trans a3;ac_rfl;refine ⟨by lia,by lia,ao.rng (Lp1 A H10 a nl p wl sl sh cells shc m 10) ⟨⟨_,rfl⟩,⟨_,ns,b0,T9,by lia⟩,zt.refl⟩ ?_ ?_⟩
  .rintro i σ Ha hi ⟨⟨t,rfl⟩,⟨d,ns',Qa,Ta,hl⟩,ka⟩;ac_rfl;exact ⟨a,nl,p,wl,sl,sh,cells,shc,m,d,ns',rfl,Qa,Ta,by lia,λd' Z Hb Qb Tb X6 kb=>⟨⟨_,rfl⟩,⟨d',Z,Qb,Tb,by lia⟩,ka.trans kb⟩⟩
  .rintro σ Ha ⟨⟨t,rfl⟩,⟨d,ns',Qa,Ta,hl⟩,ka⟩;have a4:=G a8 ag ka;ac_rfl;refine ⟨a,nl,p,wl,sl,sh,cells,shc,m,d,ns',rfl,Qa,Ta,λp' Xr XW ZF shc' d' Hb Qb Tb kb fb=>?_⟩;have bZ:=G a4 ag kb;have bp:∀x∈FT a nl p' Xr XW sh ZF shc',x=a\/H x=none:=λx hx=>by
    rcases fb x hx with h|h
    .exact ag x h
    .exact .inr (a4.no Qa.SK h)
   ac_rfl;refine ⟨a,5,rfl,Qb.SK,by decide,by decide,λr2 Hc bc ct c4 c5=>?_⟩;have Qc:=Qb.SC bc ct;have c0:=bZ.trans bc;ac_rfl;refine ⟨by lia,by lia,ao.rng (Lp1 A Hc a nl p' Xr XW sh ZF shc' m 4) ⟨⟨_,rfl⟩,⟨d',ns',Qc,Tb,by lia⟩,zt.refl⟩ ?_ ?_⟩
   .rintro i σ Hd hi ⟨⟨t,rfl⟩,⟨d2,Z,Qd,Td,X6⟩,kd⟩;ac_rfl;exact ⟨a,nl,p',Xr,XW,sh,ZF,shc',m,d2,Z,rfl,Qd,Td,by lia,λd3 b1 He J Te c9 ke=>⟨⟨_,rfl⟩,⟨d3,b1,J,Te,by lia⟩,kd.trans ke⟩⟩
   .rintro σ Hd ⟨⟨t,rfl⟩,⟨d2,Z,Qd,Td,X6⟩,kd⟩;have bt:=G c0 bp kd;ac_rfl;refine ⟨by decide,λtp He me=>?_⟩;have J:=Qd.same me.same;refine q tp p' Xr XW sh ZF shc' m d2 He me.at_ J.dw J.SK (bt.trans (But.of me.same)) (λx hx=>?_) J.live.1 J.live.2 J.sd Td.size Td.wide;have bx:x∈FT a nl p' Xr XW sh ZF shc':=by
     unfold FT;exact M7 _ (M7 _ hx)
    have xa:x≠a:=by
     rcases MX.mp hx with rfl|hx
     .obtain ⟨c2,cp⟩:=J.dw.yz.ob;obtain ⟨xs,e⟩:=J.SK.lst;exact Ni (lK e cp)
     .rcases MX.mp hx with rfl|hx
      .exact (J.ap _ (by simp)).1
      .rcases MX.mp hx with rfl|hx
       .exact (J.ap _ (by simp)).1
       .rcases MX.mp hx with rfl|hx
        .exact Ni J.S4.2.1
        .rcases NF.mp hx with hx|hx
         .exact (J.ap _ (by simp [hx])).1
         .exact λz=>J.S4.2.2.1 (z ▸ hx)
    exact ⟨xa,(bp x bx).resolve_left xa⟩
end
abbrev qp:Stmt:=aC (top 57) 0
abbrev ou:Stmt:=aC (top 57) 1
abbrev mf:Stmt:=aC (top 57) 2
abbrev qg:Stmt:=aC (top 57) 14
abbrev Tab:=List (Str×List Int)
def aL(H:Hp)(v:V)(l:List Int):Prop:=∃p,v = .ref p/\H p=some (.tup (l.map V.int))
def aM(b k:Addr):List (Str×V):=[("births",.ref b),("kept",.ref k)]
structure dc(H:Hp)(b:Addr)(t:Tab):Prop where
 ex:∃kvs,H b=some (.dK (sk kvs))/\Dct (aL H) kvs t
 nd:(names t).Nodup
structure dD(H:Hp)(b:Addr)(t:Tab):Prop where
 ex:∃kvs,Rd H b (.dK (sk kvs))/\Dct (aL H) kvs t
 nd:(names t).Nodup
theorem dc.r{t:Tab}(h:dc H b t):dD H b t:=let ⟨kvs,e,d⟩:=h.ex;⟨⟨kvs,.inl e,d⟩,h.nd⟩
structure cu(A:zh)(H:Hp)(q b k:Addr)(t:Tab):Prop where
 ob:∃dx,H q=some (.ins A.uc dx (aM b k))
 tj:dD H b t
 kept:Rd H k (.dK (sk []))
def cN(A:zh)(H:Hp)(b k:Addr)(v:V)(t:Tab):Prop:=∃q z k',v = .ref q/\cu A H q z k' t/\z≠b/\z≠k/\k'≠b/\k'≠k
structure zM(A:zh)(H:Hp)(p b k:Addr)(t:Tab)(ks:List (Str×Tab)):Prop where
 ob:∃dx,H p=some (.ins A.uc dx (aM b k))
 tj:dc H b t
 kept:∃kk,H k=some (.dK (sk kk))/\Dct (cN A H b k) kk ks
 Vj:(names ks).Nodup
 ne:b≠k
structure eB(A:zh)(H:Hp)(p b k:Addr)(t:Tab)(ks:List (Str×Tab)):Prop where
 ob:∃dx,H p=some (.ins A.uc dx (aM b k))
 tj:dD H b t
 kept:∃kk,Rd H k (.dK (sk kk))/\Dct (cN A H b k) kk ks
 Vj:(names ks).Nodup
theorem zM.r{p b k:Addr}{t:Tab}(h:zM A H p b k t ks):eB A H p b k t ks:=let ⟨kk,e,d⟩:=h.kept;⟨h.ob,h.tj.r,⟨kk,.inl e,d⟩,h.Vj⟩
structure FS(H H':Hp):Prop where
 oth:∀a o,(∀kvs,o≠.dK kvs)->(∀ob kvs,o≠.frz ob (.dK kvs))->H a=some o->H' a=some o
 dic:∀a kvs,Rd H a (.dK kvs)->Rd H' a (.dK kvs)
theorem FS.of(s:zi H H'):FS H H':=⟨λa o _ _ e=>s a o e,λa kvs r=>r.elim (λe=>.inl (s _ _ e)) (λ⟨o,e⟩=>.inr ⟨o,s _ _ e⟩)⟩
theorem Rd.same(h:Rd H a u)(s:zi H H'):Rd H' a u:=h.elim (λe=>.inl (s _ _ e)) (λ⟨o,e⟩=>.inr ⟨o,s _ _ e⟩)
theorem But.upd{b:Addr}{H:Hp}{o:HO}:But b H (upd H b o):=λa u n e=>by rw [zd n];exact e
theorem aL.but(h:aL H v l)(s:But b H H')(hb:∀xs,H b≠some (.tup xs)):aL H' v l:=by
 obtain ⟨p,e,F⟩:=h;exact ⟨p,e,s p _ (λz=>by subst z;exact hb _ F) F⟩
theorem aL.same(h:aL H v l)(s:zi H H'):aL H' v l:=let ⟨p,e,hp⟩:=h;⟨p,e,s p _ hp⟩
theorem dc.but{t:Tab}(h:dc H b t)(s:But x H H')(hx:∀xs,H x≠some (.tup xs))(n:b≠x):dc H' b t:=by
 obtain ⟨kvs,e,d⟩:=h.ex;exact ⟨⟨kvs,s _ _ n e,d.imp λv a r=>r.but s hx⟩,h.nd⟩
theorem dc.same{t:Tab}(h:dc H b t)(s:zi H H'):dc H' b t:=by
 obtain ⟨kvs,e,d⟩:=h.ex;exact ⟨⟨kvs,s _ _ e,d.imp λv a r=>r.same s⟩,h.nd⟩
theorem dD.but{t:Tab}(h:dD H b t)(s:But x H H')(hx:∀xs,H x≠some (.tup xs))(n:b≠x):dD H' b t:=by
 obtain ⟨kvs,e,d⟩:=h.ex;exact ⟨⟨kvs,e.elim (λe=>.inl (s _ _ n e)) (λ⟨o,e⟩=>.inr ⟨o,s _ _ n e⟩),d.imp λv a r=>r.but s hx⟩,h.nd⟩
theorem aL.fs(h:aL H v l)(s:FS H H'):aL H' v l:=let ⟨p,e,hp⟩:=h;⟨p,e,s.oth p _ (λ_=>nofun) (λ_ _=>nofun) hp⟩
theorem dD.fs{t:Tab}(h:dD H b t)(s:FS H H'):dD H' b t:=by
 obtain ⟨kvs,e,d⟩:=h.ex;exact ⟨⟨kvs,s.dic _ _ e,d.imp λv a r=>r.fs s⟩,h.nd⟩
theorem cu.but{q b k:Addr}{t:Tab}(h:cu A H q b k t)(s:But x H H')(hx:H x=some (.dK kvs))(G:b≠x)(F:k≠x):cu A H' q b k t:=by
 obtain ⟨dx,e⟩:=h.ob;exact ⟨⟨dx,s _ _ (λz=>by subst z;rw [e] at hx;cases hx) e⟩,h.tj.but s (λxs z=>by rw [z] at hx;cases hx) G,h.kept.elim (λe=>.inl (s _ _ F e)) (λ⟨o,e⟩=>.inr ⟨o,s _ _ F e⟩)⟩
theorem cu.fs{q b k:Addr}{t:Tab}(h:cu A H q b k t)(s:FS H H'):cu A H' q b k t:=let ⟨dx,e⟩:=h.ob;⟨⟨dx,s.oth _ _ (λ_=>nofun) (λ_ _=>nofun) e⟩,h.tj.fs s,s.dic _ _ h.kept⟩
theorem cu.same{q b k:Addr}{t:Tab}(h:cu A H q b k t)(s:zi H H'):cu A H' q b k t:=h.fs (.of s)
theorem cN.fs{b k:Addr}{t:Tab}(h:cN A H b k v t)(s:FS H H'):cN A H' b k v t:=let ⟨q,b',k',e,r,n⟩:=h;⟨q,b',k',e,r.fs s,n⟩
theorem eB.fs{p b k:Addr}{t:Tab}(h:eB A H p b k t ks)(s:FS H H'):eB A H' p b k t ks:=by
 obtain ⟨dx,e⟩:=h.ob;obtain ⟨z,F,d⟩:=h.kept;exact ⟨⟨dx,s.oth _ _ (λ_=>nofun) (λ_ _=>nofun) e⟩,h.tj.fs s,⟨z,s.dic _ _ F,d.imp λv a r=>r.fs s⟩,h.Vj⟩
theorem eB.same{p b k:Addr}{t:Tab}(h:eB A H p b k t ks)(s:zi H H'):eB A H' p b k t ks:=h.fs (.of s)
theorem zM.fs{p b k d:Addr}{t:Tab}(h:zM A H p b k t ks)(s:FS H H')(bt:But d H H')(F:b≠d)(J:k≠d):zM A H' p b k t ks:=by
 obtain ⟨dx,e⟩:=h.ob;obtain ⟨G,O,d⟩:=h.kept;obtain ⟨kvs,z,S⟩:=h.tj.ex;exact ⟨⟨dx,s.oth _ _ (λ_=>nofun) (λ_ _=>nofun) e⟩,⟨⟨kvs,bt _ _ F z,S.imp λv a r=>r.fs s⟩,h.tj.nd⟩,⟨G,bt _ _ J O,d.imp λv a r=>r.fs s⟩,h.Vj,h.ne⟩
theorem cN.same{b k:Addr}{t:Tab}(h:cN A H b k v t)(s:zi H H'):cN A H' b k v t:=let ⟨q,b',k',e,r,n⟩:=h;⟨q,b',k',e,r.same s,n⟩
theorem zM.same{p b k:Addr}{t:Tab}(h:zM A H p b k t ks)(s:zi H H'):zM A H' p b k t ks:=by
 obtain ⟨dx,e⟩:=h.ob;obtain ⟨z,F,d⟩:=h.kept;exact ⟨⟨dx,s _ _ e⟩,h.tj.same s,⟨z,s _ _ F,d.imp λv a r=>r.same s⟩,h.Vj,h.ne⟩
theorem zM.setB{p b k:Addr}{t t':Tab}(h:zM A H p b k t ks)(s:But b H H')(e:H' b=some (.dK (sk F)))(d':Dct (aL H') F t')(nd:(names t').Nodup):zM A H' p b k t' ks:=by
 obtain ⟨dx,S⟩:=h.ob;obtain ⟨U,e2,d⟩:=h.kept;obtain ⟨kvs,G,_⟩:=h.tj.ex;exact ⟨⟨dx,s _ _ (λz=>by subst z;rw [S] at G;cases G) S⟩,⟨⟨F,e,d'⟩,nd⟩,⟨U,s _ _ (Ni h.ne) e2,d.imp λv a ⟨q,b',k',W,r,J,Z,O,n4⟩=>⟨q,b',k',W,r.but s G J O,J,Z,O,n4⟩⟩,h.Vj,h.ne⟩
theorem zM.aA{p b k:Addr}{t:Tab}(h:zM A H p b k t ks)(s:But k H H')(e:H' k=some (.dK (sk F)))(d':Dct (cN A H' b k) F ks')(nd:(names ks').Nodup):zM A H' p b k t ks':=by
 obtain ⟨dx,J⟩:=h.ob;obtain ⟨O,G,d⟩:=h.kept;exact ⟨⟨dx,s _ _ (λz=>by subst z;rw [J] at G;cases G) J⟩,h.tj.but s (λxs z=>by rw [z] at G;cases G) h.ne,⟨F,e,d'⟩,nd,h.ne⟩
theorem cN.but{b k:Addr}{t:Tab}(h:cN A H b k v t)(s:But k H H')(hx:H k=some (.dK kvs)):cN A H' b k v t:=let ⟨q,b',k',ev,r,n1,n2,n3,n4⟩:=h;⟨q,b',k',ev,r.but s hx n2 n4,n1,n2,n3,n4⟩
section
variable {P:M8}{w:Nl}{K:Frag}{mg:Str->Option Value}{base:Heap}{A:zh}{b k:Addr}
theorem cX:(aM b k).lookup ("births":Str)=some (.ref b):=by kernel_rfl
theorem mS:(aM b k).lookup ("kept":Str)=some (.ref k):=by kernel_rfl
theorem vW:(aM b k).lookup ("names":Str)=none:=by kernel_rfl
theorem i3:(aM b k).lookup ("many":Str)=none:=by kernel_rfl
theorem Mx:(aM b k).lookup (V9:Str)=none:=by kernel_rfl
theorem Ka:(aM b k).lookup (V7:Str)=none:=by kernel_rfl
theorem Mz:(aM b k).lookup (Wa:Str)=none:=by kernel_rfl
theorem yJ:(aM b k).lookup ("bare":Str)=none:=by kernel_rfl
theorem EJ:(aM b k).lookup ("keep":Str)=none:=by kernel_rfl
theorem AA:(aM b k).lookup (VW:Str)=none:=by kernel_rfl
def mw(A:zh):Sp:=λvs H Q _=>∃(p dx:Addr),vs=[.ref p]/\H p=some (.ins A.uc dx [])/\∀b k H',But p H H'->H b=none->H k=none->H' b=some (.dK (sk []))->H' k=some (.dK (sk []))->b≠k->H' p=some (.ins A.uc dx (aM b k))->Q .non H'
theorem DE:zw Zn Zn (zj qp):=fsc
theorem Ft(F:Fun K We "Files.__init__" qp f fd)(T:Txt w K mg A):zm P w K mg base CX0 true 1 f fd Zn (mw A):=by
 refine F.o DE λZ0 Ar outer s H vs Q E hr h=>?_;obtain ⟨p,dx,rfl,S,q⟩:=h;refine ⟨_,(W.h (ze (sfD (bg T.qb T.qs (clE (za 0)) (clE pW)))
   (zg (sfD (bg T.qb T.y0 (clE (za 0)) (clE pW)))))),?_⟩
 ac_rfl;refine λb H1 G=>⟨dx,[],G.same _ _ S,by decide,λk H2 J=>⟨dx,_,J.same _ _ zx,by show 1<1000;decide,?_⟩⟩;have O:b≠p:=λz=>by have:=G.no;rw [z,S] at this;cases this
 have kp:k≠p:=λz=>by have:=J.no;rw [z,zx] at this;cases this
 have k1:H1 k=none:=by have:=J.no;rw [zd kp] at this;exact this
 have U:zR ("kept":Str) (V.ref k) (zR ("births":Str) (V.ref b) [])=aM b k:=by kernel_rfl
 have Z:H2 b=some (.dK []):=J.same _ _ (by rw [zd O];exact G.at_);rw [U];refine q b k _ (λa o n e=>?_) G.no (G.same.free k1) (by rw [zd O];exact Z) (by rw [zd kp];exact J.at_) (λz=>?_) zx
 .rw [zd n];exact J.same _ _ (by rw [zd n];exact G.same _ _ e)
 .have:=J.no;rw [<- z,zd O,G.at_] at this;cases this
def tW(A:zh):Sp:=λvs H Q _=>∃(p b k:Addr)(t:Tab)(ks:List (Str×Tab)),vs=[.ref p]/\eB A H p b k t ks/\t.length<64/\∀l H',New H l (.lst ((cZ (names t)).map V.str)) H'->Q (.ref l) H'
theorem GG:zw Zn Zn (zj ou):=fsc
theorem BF(F:Fun K "names" "Files.names" ou f fd)(T:Txt w K mg A):zm P w K mg base CX0 true 1 f fd Zn (tW A):=by
 refine F.o GG λS O outer s H vs Q E hr h=>?_;obtain ⟨p,b,k,t,ks,rfl,z,hl,q⟩:=h;refine ⟨_,(W.h (zg (zu (zO (IR rfl) rfl T.Q2 QV (zb (fD (aq T.qb T.qs (clE (za 0)))) zc))))),?_⟩;obtain ⟨dx,G⟩:=z.ob;obtain ⟨kvs,J,d⟩:=z.tj.ex;erw [G,cX];refine ⟨kvs,J,by rw [d.length];exact hl,?_⟩;rw [d.names];exact q
def lk(t:Tab)(n:Str):List Int:=(look t n).getD []
def lT(A:zh):Sp:=λvs H Q _=>∃(p b k:Addr)(t:Tab)(ks:List (Str×Tab))(n:Str),vs=[.ref p,.str n]/\eB A H p b k t ks/\∀H',zi H H'->Q (.int (lk t n).length) H'
theorem dc.get{t:Tab}(d:Dct (aL H) kvs t)(n:Str){p:Addr}(s:zi H H')(J:H' p=some (.tup [])):∃a,(look kvs n).getD (.ref p) = .ref a/\H' a=some (.tup ((lk t n).map V.int)):=by
 rcases d.look n with ⟨v,l,z,F,a,G,ha⟩|⟨z,F⟩
 .exact ⟨a,by rw [z,G];rfl,by unfold lk;rw [F];exact s _ _ ha⟩
 .exact ⟨p,by rw [z];rfl,by unfold lk;rw [F];exact J⟩
theorem CW:zw Xs Xs (zj mf):=fsc
theorem CG(F:Fun K "many" "Files.many" mf f fd)(T:Txt w K mg A):zm P w K mg base CX0 true 1 f fd Xs (lT A):=by
 refine F.o CW λZ U outer s H vs Q E hr h=>?_;obtain ⟨p,b,k,t,ks,n,rfl,J,q⟩:=h;refine ⟨_,(W.h (zg (zu (zO bf rfl T.vx NA (zb (yQ (zT hr) (fD (aq T.qb T.qs (clE (za 0)))) (za 1) (aH zc)) zc))))),?_⟩;obtain ⟨dx,O⟩:=J.ob;obtain ⟨kvs,G,d⟩:=J.tj.ex;erw [O,cX];refine ⟨⟨_,G⟩,NV _,λS H2 z=>⟨_,Rd.same G z.same,?_⟩⟩;obtain ⟨a,ea,ha⟩:=dc.get d n z.same z.at_;rw [gj,ea,nH];exact ⟨_,.inr ha,by rw [MV];exact q H2 z.same⟩
theorem Dct.UO{α:Type}{R:V->α->Prop}{t:List (Str×α)}(d:Dct R kvs t)(n:Str):(look kvs n).isSome=(look t n).isSome:=by
 rcases d.look n with ⟨v,l,z,F,_⟩|⟨z,F⟩<;>rw [z,F]<;>rfl
def vD(A:zh):Sp:=λvs H Q _=>∃(p b k:Addr)(t:Tab)(ks:List (Str×Tab))(n:Str),vs=[.ref p,.str n]/\eB A H p b k t ks/\(look t n).isSome=true/\Q .non H
theorem BZ:zw Xs Xs (zj qg):=fsc
theorem JL(F:Fun K VW "Files.refuse_if_none" qg f fd)(T:Txt w K mg A):zm P w K mg base CX0 true 1 f fd Xs (vD A):=by
 refine F.o BZ λS O outer s H vs Q E hr h=>?_;obtain ⟨p,b,k,t,ks,n,rfl,z,hn,q⟩:=h;refine ⟨_,(W.h (zg (zL (tD (zI (clO (GB (zT hr))) (clE (za 1)) (clE (fD (aq T.qb T.qs (clE (za 0))))) rfl))
   (zg h6)
   zQ))),?_⟩
 obtain ⟨dx,G⟩:=z.ob;obtain ⟨kvs,J,d⟩:=z.tj.ex;erw [G,cX];refine ⟨_,J,?_⟩;rw [gj,Dct.UO d n,hn];exact je q
abbrev mJ:Stmt:=aC (top 57) 4
abbrev nF:Stmt:=aC (top 57) 5
theorem xR{i a b:Int}(h1:a<=i)(h2:i<=b):gI (.int i) a b=true:=by
 show (decide (a<=i)&&decide (i<=b))=true;rw [decide_eq_true h1,decide_eq_true h2];rfl
theorem vg(G:0<=i)(h1:i<=xs.length):aY xs none (some i)=xs.take i.toNat:=by
 have z:HT.sIx xs.length 0 none=0:=rfl;have F:HT.sIx xs.length xs.length (some i)=i.toNat:=by
  unfold HT.sIx;simp only;split<;>lia
 unfold aY;rw [z,F];simp
theorem IA{i:Int}(G:0<=i)(h1:i<=xs.length+1):aY xs (some i) none=xs.drop i.toNat:=by
 have z:HT.sIx xs.length xs.length none=xs.length:=rfl;have F:HT.sIx xs.length 0 (some i)=min i.toNat xs.length:=by
  unfold HT.sIx;simp only;split<;>lia
 unfold aY;rw [z,F];by_cases h:i.toNat<=xs.length
 .rw [Sf h,Nz (by rw [Qv];lia)]
 .rw [Nat.min_eq_right (by lia),QF (zv _),QF (by lia)];simp
def xi(A:zh):Sp:=λvs H Q _=>∃(p b k:Addr)(t:Tab)(ks:List (Str×Tab))(n:Str)(i x:Int),vs=[.ref p,.str n,.int i,.int x]/\zM A H p b k t ks/\0<=i/\i<=(lk t n).length/\(lk t n).length<=1000/\t.length<=1000 /\
 ∀H',But b H H'->zM A H' p b k (bF t n ((lk t n).take i.toNat++[x]++(lk t n).drop (i.toNat+1))) ks->Q .non H'
theorem vo:zw ["self","file","place","birth","births"] WA (zj mJ):=fsc
theorem Dr(F:Fun K V9 "Files.put" mJ f fd)(T:Txt w K mg A)(ZZ:GM P w K mg base true 1 A.uc "many" Xs (lT A))(ZV:GF P w K mg base true 2 V0 Xk kM):zm P w K mg base CX0 true 4 f fd WA (xi A):=by
 refine F.o vo λZ0 Ar outer s H vs Q E hr h=>?_;obtain ⟨p,b,k,t,ks,n,i,x,rfl,S,i0,i1,l1,t1,q⟩:=h;refine ⟨_,(W.h (ze (zL (dA (aO (caD (zq ZV hr rfl (clP (zb (za 2) (zb zl (zb (mD (cb (clE (za 0)) T.qb ZZ hr (clP (zb (za 1) zc)))) zc))))))))
   (zg h6)
   zQ)
   (ze (zz (i:=4) vo.nd rfl (M5 rfl) (yQ (zT hr) (fD (aq T.qb T.qs (clE (za 0)))) (za 1) (aH zc)))
   (zg (cj (zB jS (zB jS (dY qY (za 4) eG (dW (za 2))) (aH (zb (za 3) zc))) (dY qY (za 4) (dW (zB jS (za 2) zl)) eG)) (fB (fD (aq T.qb T.qs (clE (za 0)))) (za 1) (kK (zT hr)))))))),?_⟩
 obtain ⟨dx,e1⟩:=S.ob;erw [e1,cX,i3];refine ⟨p,b,k,t,ks,n,rfl,S.r,λH1 s1=>?_⟩;have F1:=S.same s1;obtain ⟨aj,ag⟩:=F1.ob;obtain ⟨kvs,U,d⟩:=F1.tj.ex;ac_rfl;refine ⟨_,_,_,rfl,.int i,?_⟩;rw [xR i0 i1];erw [ag,cX];refine ⟨⟨_,.inl U⟩,NV _,λp1 H2 J=>⟨_,.inl (J.same _ _ U),?_⟩⟩;obtain ⟨a,ea,ha⟩:=dc.get d n J.same J.at_;rw [gj,ea];erw [ha];intro p2 H3 s3 e3;refine ⟨by decide,λp3 H4 O=>?_⟩;rw [vg i0 (by rw [MV];exact i1)] at e3;have big:∀n:Nat,n<=100000->n<=sizeLine:=λn h=>Nx h (by decide);refine .inr ⟨_,O.same _ _ e3,_,O.at_,big _ (by simp;lia),λp4 H5 s5 e5=>?_⟩;have Z:=s5 _ _ (O.same _ _ (s3 _ _ ha));refine .inr ⟨_,Z,λp6 H6 s6 e6=>?_⟩;rw [IA (by lia) (by rw [MV];lia)] at e6;refine .inr ⟨_,s6 _ _ e5,_,e6,big _ (by simp;lia),λp7 H7 s7 e7=>?_⟩;have G:zi H1 H7:=((((J.same.trans s3).trans O.same).trans s5).trans s6).trans s7;have F7:=F1.same G;obtain ⟨ai,ab⟩:=F7.ob;erw [ab,cX];refine ⟨_,G _ _ U,by rw [oH,d.length];exact Og t1 (by decide),?_⟩;rw [ql];have bt:∀xs,H7 b≠some (.tup xs):=λxs z=>by rw [G _ _ U] at z;cases z
 have et:(i+1).toNat=i.toNat+1:=by lia
 have d7:Dct (aL H7) kvs t:=d.imp λv a r=>r.same G;have r7:aL H7 (.ref p7) ((lk t n).take i.toNat++[x]++(lk t n).drop (i.toNat+1)):=⟨p7,rfl,by rw [e7,et];simp [List.map_take,List.map_drop]⟩;refine q _ (λc o nc e=>by rw [zd nc];exact G _ _ (s1 _ _ e)) (F7.setB But.upd zx ((d7.put n r7).imp λv a r=>r.but But.upd bt) (mL S.tj.nd))
def fK(t:Tab)(n:Str)(m:Int):Tab:=if m=0 then aQ t n else bF t n ((lk t n).take m.toNat)
def wN(A:zh):Sp:=λvs H Q _=>∃(p b k:Addr)(t:Tab)(ks:List (Str×Tab))(n:Str)(l:List Int)(m:Int),vs=[.ref p,.str n,.int m]/\zM A H p b k t ks/\look t n=some l/\0<=m/\m<=l.length/\t.length<=1000/\∀H',But b H H'->zM A H' p b k (fK t n m) ks->Q .non H'
theorem IV:zw WD WD (zj nF):=fsc
theorem EE(F:Fun K V7 "Files.cut" nF f fd)(T:Txt w K mg A)(ZS:GM P w K mg base true 1 A.uc VW Xs (vD A))(ZZ:GM P w K mg base true 1 A.uc "many" Xs (lT A))(ZV:GF P w K mg base true 2 V0 Xk kM):zm P w K mg base CX0 true 4 f fd WD (wN A):=by
 refine F.o IV λZ0 Ar outer s H vs Q E hr h=>?_;obtain ⟨p,b,k,t,ks,n,l,m,rfl,J,hn,m0,m1,t1,q⟩:=h;have hu:_<cLine:=Ny (zT hr);refine ⟨_,(W.h (ze (aw (mD (cb (clE (za 0)) T.qb ZS hr (clP (zb (za 1) zc)))))
   (ze (zL (dA (aO (caD (zq ZV hr rfl (clP (zb (za 2) (zb zl (zb (mD (cb (clE (za 0)) T.qb ZZ hr (clP (zb (za 1) zc)))) zc))))))))
   (zg h6)
   zQ)
   (zg (zL (tD (zI (clO (oE (aX hu))) (clE (za 2)) (clE zl) (zD _)))
   (zg (DU (fD (aq T.qb T.qs (clE (za 0)))) (za 1)))
   (zg (cj (dY qY (zK (kY (zT hr)) (fD (aq T.qb T.qs (clE (za 0)))) (za 1) (λ_ _=>rfl)) eG (dW (za 2))) (fB (fD (aq T.qb T.qs (clE (za 0)))) (za 1) (kK (zT hr)))))))))),?_⟩
 obtain ⟨dx,e1⟩:=J.ob;erw [e1,cX,AA,i3];refine ⟨p,b,k,t,ks,n,rfl,J.r,by rw [hn];rfl,?_⟩;erw [e1,cX,AA,i3];refine ⟨p,b,k,t,ks,n,rfl,J.r,λH1 s1=>?_⟩;have U:=J.same s1;obtain ⟨ai,ag⟩:=U.ob;obtain ⟨kvs,O,d⟩:=U.tj.ex;have el:lk t n=l:=by unfold lk;rw [hn];rfl
 ac_rfl;refine ⟨_,_,_,rfl,.int m,?_⟩;rw [xR m0 (by rw [el];lia)];erw [ag,cX];have bt:∀xs,H1 b≠some (.tup xs):=λxs z=>by rw [O] at z;cases z
 obtain ⟨v,l',S,G,a,ev,ha⟩:∃v l',look kvs n=some v/\look t n=some l'/\aL H1 v l':=by
  rcases d.look n with ⟨v,l',S,G,r⟩|⟨_,G⟩
  .exact ⟨v,l',S,G,r⟩
  .rw [hn] at G;cases G
 rw [hn] at G;cases G;subst ev;refine zY (λh=>?_) (λh=>?_)
 .have hm:m=0:=of_decide_eq_true h;refine ⟨_,O,by rw [gj,S];rfl,?_⟩;rw [Ek];have ec:fK t n m=aQ t n:=if_pos hm;refine q _ (λc o nc e=>by rw [zd nc];exact s1 _ _ e) ?_;rw [ec];exact U.setB But.upd zx ((d.drop n).imp λv a r=>r.but But.upd bt) (Jt J.tj.nd)
 .have hm : ¬ m=0:=λz=>h (decide_eq_true z);refine ⟨_,.inl O,.ref a,by rw [gj];exact S,?_⟩;erw [ha];intro p2 H2 s2 ep;rw [vg m0 (by rw [MV];exact m1)] at ep;have F2:=U.same s2;obtain ⟨Xj,ab⟩:=F2.ob;erw [ab,cX];refine ⟨_,s2 _ _ O,by rw [oH,d.length];exact Og t1 (by decide),?_⟩;rw [ql];have Z:∀xs,H2 b≠some (.tup xs):=λxs z=>by rw [s2 _ _ O] at z;cases z
  have G:Dct (aL H2) kvs t:=d.imp λv a r=>r.same s2;have r2:aL H2 (.ref p2) ((lk t n).take m.toNat):=⟨p2,rfl,by rw [ep,el,List.map_take]⟩;have ec:fK t n m=bF t n ((lk t n).take m.toNat):=if_neg hm;refine q _ (λc o nc e=>by rw [zd nc];exact s2 _ _ (s1 _ _ e)) ?_;rw [ec];exact F2.setB But.upd zx ((G.put n r2).imp λv a r=>r.but But.upd Z) (mL J.tj.nd)
abbrev oM:Stmt:=aC (top 57) 6
abbrev pJ:Stmt:=aC (top 57) 12
abbrev oU:Stmt:=aC (top 57) 13
structure Has(A:zh)(H:Hp)(p:Addr)(t:Tab):Prop where
 ob:∃b k dx,H p=some (.ins A.uc dx (aM b k))/\dD H b t
theorem zM.has{p:Addr}{t:Tab}(h:zM A H p b k t ks):Has A H p t:=let ⟨dx,e⟩:=h.ob;⟨b,k,dx,e,h.tj.r⟩
def mK(A:zh):Sp:=λvs H Q _=>∃(p:Addr)(t:Tab),vs=[.ref p]/\Has A H p t/\∀q z k' H',zi H H'->H z=none->H k'=none->H q=none->cu A H' q z k' t->Q (.ref q) H'
theorem wg:zw Wl Zn (zj pJ):=fsc
theorem LH(F:Fun K "bare" "Files.bare" pJ f fd)(T:Txt w K mg A)(YS:GC P w K mg base true 1 "Files" A.uc Zn (mw A)):zm P w K mg base CX0 true 3 f fd Zn (mK A):=by
 refine F.o wg λZ0 Ar outer s H vs Q E hr h=>?_;obtain ⟨p,t,rfl,⟨b,k,dx,e1,hB⟩,q⟩:=h;refine ⟨_,(W.h (ze (zz (i:=1) wg.nd rfl (M5 rfl) (vK YS hr rfl))
   (ze (sfD (bg T.qb T.qs (clE (za 1)) (clE (eU wB rfl T.U8 boot_dict (zb (fD (aq T.qb T.qs (clE (za 0)))) zc)))))
   (zg (zu (za 1)))))),?_⟩
 obtain ⟨kvs,e2,d⟩:=hB.ex;erw [e1,cX];refine λx S H2 O=>⟨x,S,rfl,O.at_,λb1 k1 H3 s3 nb nk eb Z aj ex=>⟨rfl,?_⟩⟩;have px:∀c o,H c=some o->c≠x:=λc o e z=>by have:=O.no;rw [<- z,e] at this;cases this
 have U:∀c o,H c=some o->H3 c=some o:=λc o e=>s3 c o (px c o e) (O.same c o e);have ai:=U _ _ e1;erw [ai,cX];refine ⟨_,Rd.same e2 U,λJ H4 G=>⟨S,_,G.same _ _ ex,by show 2<1000;decide,?_⟩⟩;have eF:zR ("births":Str) (V.ref J) (aM b1 k1)=aM J k1:=by kernel_rfl
 rw [eF];have ab:J≠x:=λz=>by have:=G.no;rw [z,ex] at this;cases this
 have ag:k1≠x:=λz=>by rw [z,ex] at Z;cases Z
 have sF:zi H (upd H4 x (.ins A.uc S (aM J k1))):=λc o e=>by rw [zd (px c o e)];exact G.same _ _ (U c o e)
 have fr:∀c,H3 c=none->H c=none:=λc e=>by
  cases h:H c with
  | none=>rfl
  | some o=>rw [U c o h] at e;cases e
 have k0:H k1=none:=O.same.free nk;refine q x J k1 _ sF (fr J G.no) k0 O.no ⟨⟨S,zx⟩,⟨⟨kvs,.inl (by rw [zd ab];exact G.at_),d.imp λv a r=>r.same sF⟩,hB.nd⟩,.inl (by rw [zd ag];exact G.same _ _ Z)⟩
def tB(A:zh):Sp:=λvs H Q _=>∃(p b k:Addr)(t:Tab)(ks:List (Str×Tab))(n:Str)(q:Addr)(u:Tab),vs=[.ref p,.str n,.ref q]/\zM A H p b k t ks/\Has A H q u/\ks.length<=1000/\∀H',But k H H'->zM A H' p b k t (bF ks n u)->Q .non H'
theorem Fk:zw WE WE (zj oU):=fsc
theorem MA(F:Fun K "keep" "Files.keep" oU f fd)(T:Txt w K mg A)(ZO:GM P w K mg base true 3 A.uc "bare" Zn (mK A)):zm P w K mg base CX0 true 4 f fd WE (tB A):=by
 refine F.o Fk λZ0 Ar outer s H vs Q E hr h=>?_;obtain ⟨p,b,k,t,ks,n,qa,u,rfl,G,hQ,kl,q⟩:=h;refine ⟨_,(W.h (zg (cj (m0D (bb (clE (za 2)) T.qb ZO hr)) (fB (fD (aq T.qb T.y0 (clE (za 0)))) (za 1) (kK (zT hr)))))),?_⟩;obtain ⟨dx,e1⟩:=G.ob;obtain ⟨bq,kq,aj,J,_⟩:=hQ.ob;erw [J,yJ];refine ⟨qa,u,rfl,hQ,λx b' k' H1 s1 nb nk nx hB=>?_⟩;have O:=G.same s1;obtain ⟨ag,S⟩:=O.ob;obtain ⟨kk,e2,d⟩:=O.kept;obtain ⟨ai,Z,_⟩:=G.tj.ex;obtain ⟨ab,U,_⟩:=G.kept;erw [S,mS];refine ⟨_,e2,by rw [oH,d.length];exact Og kl (by decide),?_⟩;rw [ql];have ne:∀c o,H c=some o->∀e,H e=none->e≠c:=λc o h e he z=>by rw [z,h] at he;cases he
 have r:cN A H1 b k (.ref x) u:=⟨x,b',k',rfl,hB,ne _ _ Z _ nb,ne _ _ U _ nb,ne _ _ Z _ nk,ne _ _ U _ nk⟩;exact q _ (λc o nc e=>by rw [zd nc];exact s1 _ _ e) (O.aA But.upd zx ((d.put n r).imp λv a r=>r.but But.upd e2) (mL G.Vj))
def xT(A:zh):Sp:=λvs H Q _=>∃(p b k:Addr)(t:Tab)(ks:List (Str×Tab))(n:Str),vs=[.ref p,.str n]/\zM A H p b k t ks/\look ks n=none/\ks.length<=1000/\∀H',But k H H'->zM A H' p b k t (bF ks n t)->Q .non H'
theorem CN:zw Wh Wh (zj oM):=fsc
theorem Jg(F:Fun K Wa "Files.hold" oM f fd)(T:Txt w K mg A)(G:GM P w K mg base true 4 A.uc "keep" WE (tB A)):zm P w K mg base CX0 true 5 f fd Wh (xT A):=by
 refine F.o CN λZ0 Z outer s H vs Q E hr h=>?_;obtain ⟨p,b,k,t,ks,n,rfl,z,hn,J,q⟩:=h;refine ⟨_,(W.h (ze (zL (tD (zI (clO (HF (zT hr))) (clE (za 1)) (clE (fD (aq T.qb T.y0 (clE (za 0))))) rfl))
   (zg h6)
   zQ)
   (zg (aw (mD (cb (clE (za 0)) T.qb G hr (clP (zb (za 1) (zb (za 0) zc))))))))),?_⟩
 obtain ⟨dx,O⟩:=z.ob;obtain ⟨U,S,d⟩:=z.kept;erw [O,mS,EJ];refine ⟨_,.inl S,?_⟩;rw [gj,Dct.UO d n,hn];exact je ⟨p,b,k,t,ks,n,p,t,rfl,z,z.has,J,q⟩
end
abbrev oO:Stmt:=aC (top 57) 11
abbrev kD:Stmt:=aC (top 59) 0
abbrev jZ:Stmt:=aC (top 59) 2
abbrev qu:Stmt:=aC (top 59) 1
abbrev oG:Stmt:=aC (top 59) 4
def bM{α:Type}(l:List (Int×α))(n:Int)(a:α):List (Int×α):=if n∈l.map (·.1) then l.map (λp=>if p.1=n then (p.1,a) else p) else l++[(n,a)]
theorem Al:((ik kvs).any λF=>decide (F.1=(.inl n:Key)))=true↔n∈kvs.map (·.1):=by
 unfold ik;rw [List.any_map,List.any_eq_true];constructor
 .rintro ⟨p,z,h⟩;have h:(Sum.inl p.1:Key) = .inl n:=of_decide_eq_true h;cases h;exact OU.mpr ⟨p,z,rfl⟩
 .intro h;obtain ⟨p,z,rfl⟩:=OU.mp h;exact ⟨p,z,by simp⟩
theorem v9:aJ (ik kvs) (.inl n) v=ik (bM kvs n v):=by
 unfold aJ bM;by_cases h:n∈kvs.map (·.1)
 .rw [if_pos (Al.mpr h),if_pos h];unfold ik;rw [NL,NL];refine OI λp _=>?_;show (if (Sum.inl p.1:Key) = .inl n then _ else _)=_;by_cases e:p.1=n
  .rw [if_pos (by rw [e])];show _=(Sum.inl (if p.1=n then (p.1,v) else p).1,(if p.1=n then (p.1,v) else p).2);rw [if_pos e]
  .rw [if_neg (λz=>e (by cases z;rfl))];show _=(Sum.inl (if p.1=n then (p.1,v) else p).1,(if p.1=n then (p.1,v) else p).2);rw [if_neg e]
 .rw [if_neg (λz=>h (Al.mp z)),if_neg h];unfold ik;rw [NI];rfl
theorem mx:∀{kvs:List (Int×V)},(kvs.map (·.1)).Nodup->(n,v)∈kvs->zZ (ik kvs) (.inl n)=some v
 | [],_,h=>by cases h
 | p::kvs,nd,h=>by
  have F:=Ob.mp nd;show zZ ((Sum.inl p.1,p.2)::ik kvs) (.inl n)=_;rcases MX.mp h with e|h
  .rw [<- e];exact iN rfl
  .have ne : ¬ (Sum.inl p.1:Key) = .inl n:=λz=>by
    cases z;exact F.1 (OU.mpr ⟨_,h,rfl⟩)
   rw [iI ne];exact mx F.2 h
theorem lV:(ik kvs).length=kvs.length:=by simp [ik]
abbrev T3:=Int×Int×Int
def cU(H:Hp)(p:Int×V)(t:T3):Prop:=p.1=t.1/\∃a,p.2 = .ref a/\H a=some (.tup [.int t.2.1,.int t.2.2])
def eZ(H:Hp)(a:Addr)(t:T3):Prop:=H a=some (.tup [.int t.1,.int t.2.1,.int t.2.2])
structure nM(ts:List T3):Prop where
 nd:(ts.map (·.1)).Nodup
 few:ts.length<40
 num:∀t∈ts,0<=t.1/\t.1<10 ^ 18
def cW(f d:Addr)(n m:Int):List (Str×V):=[("own_files",.ref f),("spot_of",.ref d),("next_row",.int n),("next_mark",.int m)]
structure aS(A:zh)(H:Hp)(x:Addr)(ts:List T3)(n:Int):Prop where
 ex:∃dx f d m kvs,H x=some (.ins A.State dx (cW f d n m))/\H d=some (.dK (ik kvs))/\Paired (cU H) kvs ts
 ok:nM ts
def Fw(A:zh)(H:Hp)(p:Addr):Prop:=∃b k dx t kvs,H p=some (.ins A.uc dx (aM b k))/\dD H b t/\H k=some (.dK kvs)
def Own(A:zh)(H:Hp)(x:Addr):Prop:=∃dx f d n m,H x=some (.ins A.State dx (cW f d n m))/\Fw A H f
theorem Fw.but{p x:Addr}(h:Fw A H p)(s:But x H H')(hx:H x=some u)(h1:∀kvs,u≠.dK kvs)(h2:∀o kvs,u≠.frz o (.dK kvs))(h3:∀xs,u≠.tup xs)(n:p≠x):Fw A H' p:=by
 obtain ⟨b,k,G,t,kvs,e,J,O⟩:=h;have ne:∀{o:HO},H x=some o->u=o:=λe=>NG.inj (hx.symm.trans e);refine ⟨b,k,G,t,kvs,s _ _ n e,J.but s (λxs z=>h3 _ (ne z)) (λz=>?_),s _ _ (λz=>h1 _ (ne (z ▸ O))) O⟩;obtain ⟨S,F,_⟩:=J.ex;rw [z] at F;rcases F with F|⟨o,F⟩
 .exact h1 _ (ne F)
 .exact h2 _ _ (ne F)
theorem zM.fw{p b k:Addr}{t:Tab}(h:zM A H p b k t ks):Fw A H p:=by
 obtain ⟨dx,e⟩:=h.ob;obtain ⟨F,z,_⟩:=h.kept;exact ⟨b,k,dx,t,_,e,h.tj.r,z⟩
theorem cU.keep{p:Int×V}{t:T3}(h:cU H p t)(k:∀r xs,H r=some (.tup xs)->H' r=some (.tup xs)):cU H' p t:=let ⟨e,a,e2,e3⟩:=h;⟨e,a,e2,k _ _ e3⟩
theorem aS.pL(h:aS A H x ts n)(s:zA H H'):aS A H' x ts n:=by
 obtain ⟨dx,f,d,m,kvs,F,G,z⟩:=h.ex;exact ⟨⟨dx,f,d,m,kvs,s _ _ (λ_=>nofun) F,s _ _ (λ_=>nofun) G,Paired.wh z λp t r=>r.keep λr xs e=>s.tup e⟩,h.ok⟩
theorem lj(h:Paired (cU H) kvs ts):kvs.map (·.1)=ts.map (·.1):=by
 induction h with
 | nil=>rfl
 | cons r _ z=>rw [NO,NO,z,r.1]
section
variable {P:M8}{w:Nl}{K:Frag}{mg:Str->Option Value}{base:Heap}{A:zh}{b k f d:Addr}{n m:Int}
theorem tG:(aM b k).lookup (V4:Str)=none:=by kernel_rfl
theorem wM:(cW f d n m).lookup ("spot_of":Str)=some (.ref d):=by kernel_rfl
theorem FV:(cW f d n m).lookup ("own_files":Str)=some (.ref f):=by kernel_rfl
theorem Ji:(cW f d n m).lookup ("next_row":Str)=some (.int n):=by kernel_rfl
theorem Bp:(cW f d n m).lookup ("files":Str)=none:=by kernel_rfl
theorem nv:(cW f d n m).lookup (VZ:Str)=none:=by kernel_rfl
theorem Eg:(cW f d n m).lookup ("spots":Str)=none:=by kernel_rfl
def mh(A:zh):Sp:=λvs H Q _=>∃p,vs=[.ref p]/\Fw A H p/\∀q H',zi H H'->H q=none->Fw A H' q->Q (.ref q) H'
theorem Ai:zw Wl Zn (zj oO):=fsc
theorem DZ{f:Addr}(F:Fun K V4 "Files.copied" oO f fd)(T:Txt w K mg A)(ZO:GM P w K mg base true 3 A.uc "bare" Zn (mK A)):zm P w K mg base CX0 true 4 f fd Zn (mh A):=by
 refine F.o Ai λZ0 Ar outer s H vs Q E hr h=>?_;obtain ⟨p,rfl,⟨b,k,dx,t,kvs,e1,U,e2⟩,q⟩:=h;refine ⟨_,(W.h (ze (zz (i:=1) Ai.nd rfl (M5 rfl) (m0D (bb (clE (za 0)) T.qb ZO hr)))
   (ze (sfD (bg T.qb T.y0 (clE (za 1)) (clE (eU wB rfl T.U8 boot_dict (zb (fD (aq T.qb T.y0 (clE (za 0)))) zc)))))
   (zg (zu (za 1)))))),?_⟩
 erw [e1,yJ];refine ⟨p,t,rfl,⟨b,k,dx,e1,U⟩,λx S k' H1 s1 nb nk nx Z=>?_⟩;obtain ⟨O,G⟩:=Z.ob;have ab:=s1 _ _ e1;erw [ab,mS];refine ⟨_,.inl (s1 _ _ e2),λkd H2 J=>⟨O,_,J.same _ _ G,by show 2<1000;decide,?_⟩⟩;have eF:zR ("kept":Str) (V.ref kd) (aM S k')=aM S kd:=by kernel_rfl
 rw [eF];have kx:kd≠x:=λz=>by have:=J.no;rw [z,G] at this;cases this
 have bx:S≠x:=λz=>by obtain ⟨kv,er,_⟩:=Z.tj.ex;rw [z] at er;rcases er with e|⟨o,e⟩ <;> · rw [G] at e;cases e
 refine q x _ (λa o e=>by rw [zd (zC e nx)];exact J.same _ _ (s1 _ _ e)) nx ⟨S,kd,O,t,kvs,zx,?_,by rw [zd kx];exact J.at_⟩;exact (Z.same J.same).tj.but But.upd (λxs z=>by rw [J.same _ _ G] at z;cases z) bx
structure DcI(H:Hp)(ts:List T3)(i:Nat)(τ:L2.St)(ys:List (Key×V))(H':Hp):Prop where
 ex:∃t1 t2 t3,τ=[t1,t2,t3]
 ys:∃kvs,ys=ik kvs/\Paired (cU H') kvs (ts.take i)
 same:zi H H'
def nV(A:zh):Sp:=λvs H Q _=>∃(x p sl dx:Addr)(n m:Int)(as:List Addr)(ts:List T3),vs=[.ref x,.ref p,.ref sl,.int n,.int m]/\H x=some (.ins A.State dx [])/\Fw A H p/\H sl=some (.lst (as.map V.ref))/\Paired (eZ H) as ts/\nM ts /\
 ∀H',But x H H'->aS A H' x ts n->Own A H' x->Q .non H'
theorem JI:zw YO YO (zj kD):=fsc
theorem AW:bw { kind:=.function,names:=[(yv ".0",.local),(yv "birth",.local),(yv "stretch",.local),(yv "place",.local)],isGenerator:=false,isCoroutine:=false,more:=[] } (zj kD).names YO ["birth","stretch","place"] [none,none,none]=true:=by decide +kernel
theorem nC:(["birth","stretch","place"]:List Str).Nodup:=by decide +kernel
theorem BX{f:Addr}(F:Fun K We "State.__init__" kD f fd)(T:Txt w K mg A)(ZU:GM P w K mg base true 4 A.uc V4 Zn (mh A)):zm P w K mg base CX0 true 5 f fd YO (nV A):=by
 refine F.o JI λZ0 Ar outer s H vs Q E hr h=>?_;obtain ⟨x,p,sl,dx,n,m,as,ts,rfl,hx,hF,hs,hp,ok,q⟩:=h;refine ⟨_,(W.h (ze (sfD (bg T.vr T.Qe (clE (za 0)) (clE (m0D (bb (clE (za 1)) T.qb ZU hr)))))
   (ze (sfD (bg T.vr T.z9 (clE (za 0)) (clE (MP (λ_=>rfl) (aB.of AW) (liD (bU (clE (za 2)))) (λ_ _ _ _ _=>(hV (n:=3) (gsD (zJ (zy (i:=0) nC rfl (M5 rfl)) (gsD (zJ (zy (i:=1) nC rfl (M5 rfl)) (gsD (zJ (zy (i:=2) nC rfl (M5 rfl)) bC)))))))) (λ_ _ _ _ _=>du) (λ_ _ _ _ _=>(za 0)) (λ_ _ _ _ _=>(aH (zb (za 1) (zb (za 2) zc))))))))
   (ze (sfD (bg T.vr T.Ss (clE (za 0)) (clE (za 3))))
   (zg (sfD (bg T.vr T.SI (clE (za 0)) (clE (za 4))))))))),?_⟩
 obtain ⟨b,k,aj,t,ai,e1,_⟩:=id hF;erw [e1,tG];refine ⟨p,rfl,hF,λO H1 s1 nq F1=>⟨dx,[],s1 _ _ hx,by decide,?_⟩⟩;have ab:∀{o:HO}{r:Addr}{xs:List V},H1 r=some (.tup xs)->upd H1 x o r=some (.tup xs):=λ{o r xs} e=>by rw [zd (λz=>by rw [z,s1 _ _ hx] at e;cases e)];exact e
 have sx:sl≠x:=λz=>by rw [z,hx] at hs;cases hs
 have Yv:∀o,upd H1 x o sl=some (.lst (as.map V.ref)):=λo=>by rw [zd sx];exact s1 _ _ hs
 have Z6:=ar hp;refine ⟨⟨_,SqL.of (Yv _)⟩,jV.lst (xs:=as.map V.ref) (DcI (upd H1 x _) ts) (λi τ ys H' I=>?_) (λi τ ys H' I=>SqL.of (I.same _ _ (Yv _))) ⟨⟨_,_,_,rfl⟩,⟨[],rfl,.nil⟩,zi.refl _⟩ ?_ ?_⟩
 .obtain ⟨kvs,e,G⟩:=I.ys;have:=ar G;have h2:=OO i ts;have:=ok.few;rw [e,lV];exact aW (by lia)
 .intro N i v τ ys H' hv I hN;obtain ⟨t1,t2,t3,rfl⟩:=I.ex;obtain ⟨kvs,e,G⟩:=I.ys;rw [Nh] at hv;obtain ⟨a,ha,rfl⟩:=Nu.mp hv;have hi:i<ts.length:=by rw [<- Z6];exact (MY.mp ha).1
  have YC:ts[i]?=some ts[i]:=l6 hi;have ht:=I.same _ _ (ab (o:=_) (s1 _ _ (bG hp ha YC)));refine ⟨a,_,rfl,SqT.of ht,rfl,?_⟩;ac_rfl;refine ⟨by decide,λa2 H2 U=>hN _ _ _ ⟨⟨_,_,_,rfl⟩,⟨kvs++[(ts[i].1,.ref a2)],?_,?_⟩,I.same.trans U.same⟩⟩
  .have ag:ts[i].1∉kvs.map (·.1):=by
    rw [lj G];intro z;obtain ⟨u,hu,eu⟩:=OU.mp z;obtain ⟨j,hj,ej⟩:=NQ hu;have ak:j<i:=by rw [Ow] at hj;lia
    rw [RG] at ej;have Z:j<(ts.map (·.1)).length:=by rw [MV];lia
    have:=(Qy Z ok.nd).mp (show (ts.map (·.1))[j]?=(ts.map (·.1))[i]? by rw [Nh,Nh,YC,l6 (show j<ts.length by lia),ej];show some u.1=some ts[i].1;rw [eu]);lia
   rw [e,v9];unfold bM;rw [if_neg ag]
  .rw [NW,YC];exact cY (Paired.wh G λp t r=>r.keep λr xs e=>U.same _ _ e) (.cons ⟨rfl,a2,rfl,U.at_⟩ .nil)
 .intro τ ys H3 I D H4 J;obtain ⟨kvs,e,G⟩:=I.ys;rw [MV,Z6,Nz (zv _)] at G;rw [e] at J;have x4:=J.same _ _ (I.same _ _ zx);refine ⟨dx,_,x4,by show 1<1000;decide,dx,_,zx,(Og (RV (show _=2 by kernel_rfl)) (by decide)),dx,_,zx,(Og (RV (show _=3 by kernel_rfl)) (by decide)),?_⟩;rw [eQ,eQ];have eF:zR ("next_mark":Str) (V.int m) (zR "next_row" (V.int n) (zR "spot_of" (V.ref D) (zR "own_files" (V.ref O) [])))=cW O D n m:=by kernel_rfl
  rw [eF];have Dx:D≠x:=λz=>by have:=J.no;rw [z,I.same _ _ zx] at this;cases this
  have bt:But x H1 (upd H4 x (.ins A.State dx (cW O D n m))):=λa o S ea=>by
   rw [zd S];exact J.same _ _ (I.same _ _ (by rw [zd S];exact ea))
  refine q _ (λa o S ea=>bt _ _ S (s1 _ _ ea)) ⟨⟨dx,O,D,m,kvs,zx,by rw [zd Dx];exact J.at_,Paired.wh G λp t r=>r.keep λr xs e=>?_⟩,ok⟩ ⟨dx,O,D,n,m,zx,F1.but bt (s1 _ _ hx) (λ_=>nofun) (λ_ _=>nofun) (λ_=>nofun) (λz=>by rw [z,hx] at nq;cases nq)⟩
  .rw [zd (λz=>by rw [z,I.same _ _ zx] at e;cases e)];exact J.same _ _ e
def wz(A:zh):Sp:=λvs H Q _=>∃x,vs=[.ref x]/\Own A H x/\∀q H',zi H H'->Fw A H' q->Q (.ref q) H'
theorem Bb:zw Zn Zn (zj qu):=fsc
theorem Eh{f:Addr}(F:Fun K "files" "State.files" qu f fd)(T:Txt w K mg A)(J:GM P w K mg base true 4 A.uc V4 Zn (mh A)):zm P w K mg base CX0 true 5 f fd Zn (wz A):=by
 refine F.o Bb λZ0 Ar outer s H vs Q E hr h=>?_;obtain ⟨x,rfl,⟨dx,S,d,n,m,U,G⟩,q⟩:=h;refine ⟨_,(W.h (zg (zu (m0D (bb (clE (fD (aq T.vr T.Qe (clE (za 0))))) T.qb J hr))))),?_⟩;obtain ⟨b,k,ab,t,z,Z,_⟩:=id G;erw [U,Z,FV,tG];exact ⟨S,rfl,G,λO H' s' _=>q O H' s'⟩
def oq(A:zh):Sp:=λvs H Q _=>∃x ts n,vs=[.ref x]/\aS A H x ts n/\Q (.int n) H
theorem EH:zw Zn Zn (zj oG):=fsc
theorem KG{f:Addr}(F:Fun K VZ "State.next_number" oG f fd)(T:Txt w K mg A):zm P w K mg base CX0 cm 1 f fd Zn (oq A):=by
 refine F.o EH λS O outer s H vs Q E hr h=>?_;obtain ⟨x,ts,n,rfl,G,q⟩:=h;refine ⟨_,(W.h (zg (zu (fD (aq T.vr T.Ss (clE (za 0))))))),?_⟩;obtain ⟨dx,J,d,m,kvs,z,_⟩:=G.ex;erw [z,Ji];exact q
end
abbrev i8:Stmt:=top 41
def gu(ts:List T3)(n:Int):T3:=(ts.find? λt=>decide (t.1=n)).getD (0,0,0)
theorem uM(nd:(ts.map (·.1)).Nodup){t:T3}(h:t∈ts):gu ts t.1=t:=by
 unfold gu
 induction ts with
 | nil=>cases h
 | cons u ts F =>
  obtain ⟨J,G⟩:=Ob.mp nd;rw [Qr];rcases MX.mp h with rfl|h
  .rw [decide_eq_true rfl];rfl
  .have ne : ¬ u.1=t.1:=λz=>J (by show u.1∈_;rw [z];exact OU.mpr ⟨t,h,rfl⟩);rw [decide_eq_false ne];exact F G h
theorem Cj{ts:List T3}(nd:(ts.map (·.1)).Nodup):(ts.map (·.1)).map (gu ts)=ts:=by
 rw [NL];have:∀us:List T3,(∀u∈us,u∈ts)->us.map (gu ts∘(·.1))=us:=λus h=>by
  induction us with
  | nil=>rfl
  | cons u us z=>rw [NO,z λv F=>h v (M7 _ F)];show gu ts u.1::us=_;rw [uM nd (h u (Nm ..))]
 exact this ts λ_ h=>h
def pk(ts:List T3)(k:Int):List (Int×Int):=(ts.filter λt=>decide (t.2.1=k)).map λt=>(t.2.2,t.1)
def jm(ts:List T3)(k:Int)(ns:List Int):Prop:=∃ps:List (Int×Int),ps.Perm (pk ts k)/\ps.Pairwise (λa b=>ltP b a=false)/\ns=ps.map (·.2)
theorem Dy{k:Int}(p:z.Perm ts)(h:jm z k ns):jm ts k ns:=by
 obtain ⟨ps,F,s1,e⟩:=h;exact ⟨ps,F.trans ((p.filter _).map _),s1,e⟩
theorem vI(ts:List T3)(k:Int):(pk ts k).length<=ts.length:=by unfold pk;rw [MV];exact QH ..
theorem Fp(ts:List T3)(k:Int)(t:T3):pk (ts++[t]) k=if t.2.1=k then pk ts k++[(t.2.2,t.1)] else pk ts k:=by
 unfold pk;rw [List.filter_append];by_cases h:t.2.1=k
 .rw [if_pos h,show [t].filter (λt=>decide (t.2.1=k))=[t] by simp [h],NI];rfl
 .rw [if_neg h,show [t].filter (λt=>decide (t.2.1=k))=[] by simp [h],Oz]
section
variable {P:M8}{w:Nl}{K:Frag}{mg:Str->Option Value}{base:Heap}{A:zh}
def vV(A:zh):Sp:=λvs H Q _=>∃(x:Addr)(ts:List T3)(n:Int),vs=[.ref x]/\aS A H x ts n/\∀l as z H',zi H H'->H l=none->H' l=some (.lst (as.map V.ref))->Paired (eZ H') as z->z.Perm ts->Q (.ref l) H'
structure SpI(H:Hp)(x:Addr)(ts:List T3)(ns:List Int)(i:Nat)(τ:L2.St)(ys:List V)(H':Hp):Prop where
 ex:∃t1,τ=[t1,some (.ref x)]
 ys:∃as:List Addr,ys=as.map V.ref/\Paired (eZ H') as ((ns.take i).map (gu ts))
 same:zi H H'
theorem Ie:zw Zn Zn (zj jZ):=fsc
theorem ME:bw { kind:=.function,names:=[(yv ".0",.local),(yv "birth",.local),(yv "self",.free)],isGenerator:=false,isCoroutine:=false,more:=[] } (zj jZ).names Zn ["birth","self"] [none,some 0]=true:=by decide +kernel
theorem FR:(["birth","self"]:List Str).Nodup:=by decide +kernel
theorem Bi(F:Fun K "spots" "State.spots" jZ f fd)(T:Txt w K mg A):zm P w K mg base CX0 true 1 f fd Zn (vV A):=by
 refine F.o Ie λZ0 Ar outer s H vs Q E hr h=>?_;obtain ⟨x,ts,n,rfl,hS,q⟩:=h;refine ⟨_,(W.h (zg (zu (dE (λ_=>rfl) (aB.of ME) (liD (bU (clE (zO (tZ rfl) rfl T.Q2 QV (zb (fD (aq T.vr T.z9 (clE (za 0)))) zc))))) (λ_ _ _ _ _=>(zy (i:=0) FR rfl (M5 rfl))) (λ_ _ _ _ _=>du) (λ_ _ _ _ _=>(zB jS (aH (zb (za 0) zc)) (zK (kY (zT hr)) (fD (aq T.vr T.z9 (clE (za 1)))) (za 0) (λ_ _=>rfl)))))))),?_⟩;obtain ⟨dx,f',d,m,kvs,e1,e2,e3⟩:=hS.ex;have ok:=hS.ok;have lk:=ar e3;have ky:=lj e3;erw [e1,wM];refine ⟨kvs,.inl e2,by rw [lk];have:=ok.few;lia,λp ns H1 G pm _=>?_⟩;rw [ky] at pm;have aj:ns.length=ts.length:=by rw [pm.length_eq,MV]
 refine ⟨⟨_,SqL.of G.at_⟩,zX.lst (xs:=ns.map V.int) (SpI H1 x ts ns) (λi τ ys H' I=>?_) (λi τ ys H' I=>SqL.of (I.same _ _ G.at_)) ⟨⟨_,rfl⟩,⟨[],rfl,.nil⟩,zi.refl _⟩ ?_ ?_⟩
 .obtain ⟨as,e,J⟩:=I.ys;have:=ar J;rw [MV] at this;have h2:=OO i ns;have:=ok.few;rw [e,MV];exact aW (by lia)
 .intro N i v τ ys H' hv I hN;obtain ⟨t1,rfl⟩:=I.ex;obtain ⟨as,e,J⟩:=I.ys;rw [Nh] at hv;obtain ⟨nb,U,rfl⟩:=Nu.mp hv;have ai:=I.same _ _ (G.same _ _ e1);have ab:=I.same _ _ (G.same _ _ e2);obtain ⟨t,ht,et⟩:=OU.mp (pm.mem_iff.mp (Na U));obtain ⟨j,hj,ej⟩:=NQ ht;have O:j<kvs.length:=by rw [lk];exact hj
  obtain ⟨s1,a,s2,s3⟩:=bG e3 (l6 O) (l6 hj);rw [ej] at s1 s3;have XG:zZ (ik kvs) (.inl nb)=some (.ref a):=by
   refine mx (by rw [ky];exact ok.nd) ?_;rw [<- et,<- s1,<- s2];exact NP O
  ac_rfl;refine ⟨by decide,λp1 H2 z=>?_⟩;have Z:=z.same _ _ ai;erw [Z,wM];refine ⟨_,.inl (z.same _ _ ab),_,XG,?_⟩;ac_rfl;refine .inr ⟨_,z.at_,_,z.same _ _ (I.same _ _ (G.same _ _ s3)),by show 3<=sizeLine;decide,λp2 H3 S ag=>hN _ _ _ ⟨⟨_,rfl⟩,⟨as++[p2],by rw [e,NI];rfl,?_⟩,I.same.trans (z.same.trans S)⟩⟩;rw [NW,U,NI];refine cY (Paired.wh J λa t r=>S _ _ (z.same _ _ r)) (.cons ?_ .nil);show H3 p2=_;rw [ag,<- et,uM ok.nd ht];rfl
 .intro τ ys H' I D H2 z;obtain ⟨as,e,J⟩:=I.ys;rw [MV,Nz (zv _)] at J;rw [e] at z;refine q D as _ H2 ((G.same.trans I.same).trans z.same) ((G.same.trans I.same).free z.no) z.at_ (Paired.wh J λa t r=>z.same _ _ r) ?_;have:=pm.map (gu ts);rw [Cj ok.nd] at this;exact this
structure FdI(H:Hp)(k:Int)(ts:List T3)(i:Nat)(τ:L2.St)(ys:List V)(H':Hp):Prop where
 ex:∃t1 t2 t3,τ=[t1,t2,t3,some (.int k)]
 ys:∃as:List Addr,ys=as.map V.ref/\Paired (fW H') as (pk (ts.take i) k)
 same:zi H H'
structure BtI(H:Hp)(ps:List (Int×Int))(i:Nat)(τ:L2.St)(ys:List V)(H':Hp):Prop where
 ex:∃t1 t2,τ=[t1,t2]
 ys:ys=((ps.take i).map (·.2)).map V.int
 same:H'=H
def ir(A:zh):Sp:=λvs H Q _=>∃(x:Addr)(ts:List T3)(k n:Int),vs=[.ref x,.int k]/\aS A H x ts n/\∀l ns H',zi H H'->H l=none->l≠sysModules->H' l=some (.lst (ns.map V.int))->jm ts k ns->Q (.ref l) H'
theorem yM:zw Wv WM (zj i8):=fsc
theorem DN:bw { kind:=.function,names:=[(yv ".0",.local),(yv "birth",.local),(yv "at",.local),(yv "place",.local),(yv "stretch",.free)],isGenerator:=false,isCoroutine:=false,more:=[] } (zj i8).names Wv ["birth","at","place","stretch"] [none,none,none,some 1]=true:=by decide +kernel
theorem pN:(["birth","at","place","stretch"]:List Str).Nodup:=by decide +kernel
theorem MH:bw { kind:=.function,names:=[(yv ".0",.local),(yv "place",.local),(yv "birth",.local)],isGenerator:=false,isCoroutine:=false,more:=[] } (zj i8).names Wv ["place","birth"] [none,none]=true:=by decide +kernel
theorem yI:(["place","birth"]:List Str).Nodup:=by decide +kernel
theorem GS(F:Fun K V3 V3 i8 f fd)(T:Txt w K mg A)(Zm:GM P w K mg base true 1 A.State "spots" Zn (vV A)):zm P w K mg base CX0 true 2 f fd WM (ir A):=by
 refine F.o yM λZ0 Ar outer s H vs Q E hr h=>?_;obtain ⟨x,ts,k,n,rfl,hS,q⟩:=h;have hu:_<cLine:=Ny (zT hr);refine ⟨_,(W.h (ze (iw (i0:=2) yM.nd rfl (M5 rfl) (λ_=>rfl) (aB.of DN) (liD (bU (clE (m0D (bb (clE (za 0)) T.vr Zm hr))))) (λ_ _ _ _ _=>(hV (n:=3) (gsD (zJ (zy (i:=0) pN rfl (M5 rfl)) (gsD (zJ (zy (i:=1) pN rfl (M5 rfl)) (gsD (zJ (zy (i:=2) pN rfl (M5 rfl)) bC)))))))) (λ_ _ _ _ _=>(ip (tD (zI (clO (oE (aX hu))) (clE (za 1)) (clE (za 3)) (zD _))))) (λ_ _ _ _ _=>(aH (zb (za 2) (zb (za 0) zc)))))
   (zg (zu (dE (λ_=>rfl) (aB.of MH) (liD (bU (clE (zO By rfl T.Q2 QV (zb (za 2) zc))))) (λ_ _ _ _ _=>(hV (n:=2) (gsD (zJ (zy (i:=0) yI rfl (M5 rfl)) (gsD (zJ (zy (i:=1) yI rfl (M5 rfl)) bC)))))) (λ_ _ _ _ _=>du) (λ_ _ _ _ _=>(za 1))))))),?_⟩
 obtain ⟨dx,f',d,m,kvs,e1,e2,e3⟩:=hS.ex;have ok:=hS.ok;erw [e1,Eg];refine ⟨x,ts,n,rfl,hS,λl as z H1 s1 l0 hl hp pm=>?_⟩;have Z6:=ar hp;have aj:z.length<40:=by rw [pm.length_eq];exact ok.few
 ac_rfl;refine ⟨⟨_,SqL.of hl⟩,zX.lst (xs:=as.map V.ref) (FdI H1 k z) (λi τ ys H' I=>?_) (λi τ ys H' I=>SqL.of (I.same _ _ hl)) ⟨⟨_,_,_,rfl⟩,⟨[],rfl,.nil⟩,zi.refl _⟩ ?_ ?_⟩
 .obtain ⟨bs,e,J⟩:=I.ys;have:=ar J;have h2:=OO i z;have:=vI (z.take i) k;rw [e,MV];exact aW (by lia)
 .intro N i v τ ys H' hv I hN;obtain ⟨t1,t2,t3,rfl⟩:=I.ex;obtain ⟨bs,e,J⟩:=I.ys;rw [Nh] at hv;obtain ⟨a,ha,rfl⟩:=Nu.mp hv;have hi:i<z.length:=by rw [<- Z6];exact (MY.mp ha).1
  have Z:z[i]?=some z[i]:=l6 hi;have ht:=I.same _ _ (bG hp ha Z);have sn:=Fp (z.take i) k z[i];have tk:z.take (i+1)=z.take i++[z[i]]:=by rw [NW,Z];rfl
  refine ⟨a,_,rfl,SqT.of ht,rfl,?_⟩;generalize z[i]=t at ht sn tk;ac_rfl;by_cases hk:t.2.1=k
  .rw [decide_eq_true hk];ac_rfl;refine ⟨by decide,λp2 H2 n2=>hN _ _ _ ⟨⟨_,_,_,rfl⟩,⟨bs++[p2],by rw [e,NI];rfl,?_⟩,I.same.trans n2.same⟩⟩;rw [tk,sn,if_pos hk];exact cY (Paired.wh J λa t r=>n2.same _ _ r) (.cons n2.at_ .nil)
  .rw [decide_eq_false hk];ac_rfl;refine hN _ _ _ ⟨⟨_,_,_,rfl⟩,⟨bs,e,?_⟩,I.same⟩;rw [tk,sn,if_neg hk];exact J
 .intro τ ys H2 I D H3 U;obtain ⟨bs,e,J⟩:=I.ys;rw [MV,Z6,Nz (zv _)] at J;rw [e] at U;have lb:=ar J;have sI:=I.same;have:=vI z k;ac_rfl;refine ⟨bs,U.at_,_,Paired.wh J λa t r=>U.same _ _ r,by lia,λD2 ab G H4 S _ p4 O ag=>?_⟩;ac_rfl;have l4:=ar p4;have l5:=O.length_eq;refine ⟨⟨_,SqL.of S.at_⟩,zX.aF (xs:=ab.map V.ref) (BtI H4 G) (λi τ ys H' I=>?_) (λi τ ys H' I=>by rw [I.same];exact SqL.of S.at_) ⟨⟨_,_,rfl⟩,rfl,rfl⟩ ?_ ?_⟩
  .have h2:=OO i G;rw [I.ys,MV,MV];exact aW (by lia)
  .intro N i v τ ys H' hv I hN;obtain ⟨t1,t2,rfl⟩:=I.ex;rw [Nh] at hv;obtain ⟨a,ha,rfl⟩:=Nu.mp hv;have hi:i<G.length:=by rw [<- l4];exact (MY.mp ha).1
   have Z:G[i]?=some G[i]:=l6 hi;have e:=I.same;subst e;have ht:=S.same _ _ (bG p4 ha Z);refine ⟨a,_,rfl,SqT.of ht,rfl,?_⟩;ac_rfl;refine hN _ _ _ ⟨⟨_,_,rfl⟩,?_,rfl⟩;rw [I.ys,NW,Z,NI,NI];rfl
  .intro τ ys H5 I D5 H6 n6 ai;have e:=I.same;subst e;have hy:=I.ys;rw [MV,l4,Nz (zv _)] at hy;rw [hy] at n6;exact q D5 _ H6 ((((s1.trans sI).trans U.same).trans S.same).trans n6.same) (((((s1.trans sI).trans U.same).trans S.same)).free n6.no) ai n6.at_ (Dy pm ⟨G,O,ag,rfl⟩)
abbrev oy:Stmt:=top 71
def aU(a:Addr)(H H':Hp):Prop:=∀b o,b≠a->(∀ps,o≠.tbl ps)->H b=some o->H' b=some o
theorem aU.of(s:zA H H'):aU a H H':=λb o _ n e=>s b o n e
theorem aU.but(s:But a H H'):aU a H H':=λb o n _ e=>s b o n e
theorem aU.trans(x:aU a H H1)(y:aU a H1 H2):aU a H H2:=λb o n m e=>y b o n m (x b o n m e)
theorem CK{α:Type}{l:List (Int×α)}{a:α}:(bM l n a).map (·.1)=if n∈l.map (·.1) then l.map (·.1) else l.map (·.1)++[n]:=by
 unfold bM;split
 .rw [NL];refine OI λp _=>?_;show (if p.1=n then (p.1,a) else p).1=p.1;split<;>rfl
 .rw [NI];rfl
theorem Cc{α:Type}{l:List (Int×α)}{a:α}(h:(l.map (·.1)).Nodup):((bM l n a).map (·.1)).Nodup:=by
 rw [CK];split
 .exact h
 .rename_i hn;rw [Pp];exact ⟨h,by simp,λx hx y z e=>by rw [M0] at z;exact hn (by rw [<- z,<- e];exact hx)⟩
theorem DV{α:Type}{l:List (Int×α)}{a:α}:(bM l n a).length<=l.length+1:=by
 unfold bM;split<;>simp
theorem sD{α:Type}{l:List (Int×α)}{a:α}{p:Int×α}(h:p∈bM l n a):p∈l\/p=(n,a):=by
 unfold bM at h;split at h
 .obtain ⟨q,z,e⟩:=OU.mp h;by_cases c:q.1=n
  .rw [if_pos c] at e;right;rw [<- e,c]
  .rw [if_neg c] at e;left;rw [<- e];exact z
 .rcases NF.mp h with h|h
  .exact .inl h
  .exact .inr (by simpa using h)
theorem DL(h:Paired (cU H) kvs us){st:Int×Int}(r:cU H (n,v) (n,st)):Paired (cU H) (bM kvs n v) (bM us n st):=by
 have z:=lj h;unfold bM;rw [z];split
 .rename_i J;clear z J
  induction h with
  | nil=>exact .nil
  | @cons p t l m F _ G =>
   rw [NO,NO];refine .cons ?_ G;rw [F.1];by_cases c:t.1=n
   .rw [if_pos c,if_pos c];exact ⟨rfl,r.2⟩
   .rw [if_neg c,if_neg c];exact F
 .exact cY h (.cons r .nil)
theorem Do{β:Type}{l:List (Int×β)}{a:β}(h1:(l.map (·.1)).Nodup)(h2:(l.map (·.2)).Nodup)(h:a∉l.map (·.2)):((bM l n a).map (·.2)).Nodup:=by
 have h1:=Ou.mp h1;have h2:=Ou.mp h2;have h:∀x∈l,a≠x.2:=λx hx z=>h (OU.mpr ⟨x,hx,z.symm⟩);unfold bM;split
 .rw [NL];refine Ou.mpr ((h1.and h2).imp_of_mem λ{x y} hx F z=>?_);show (if x.1=n then (x.1,a) else x).2≠(if y.1=n then (y.1,a) else y).2;by_cases ex:x.1=n<;>by_cases G:y.1=n
  .exact absurd (ex.trans G.symm) z.1
  .rw [if_pos ex,if_neg G];exact h y F
  .rw [if_neg ex,if_pos G];exact (h x hx).symm
  .rw [if_neg ex,if_neg G];exact z.2
 .rw [NI];refine Qn.mpr ⟨Ou.mpr h2,Qw ..,λx hx y F=>?_⟩;obtain ⟨u,J,rfl⟩:=OU.mp hx;rw [List.map_singleton,M0] at F;rw [F];exact (h u J).symm
def p2(s:Tri):Int×Int:=(s.2.1,s.2.2)
theorem Iy(d:DM):((nU d).map p2).Nodup:=by
 rw [cI];refine Ou.mpr ((nB (rs:=rdR d.rows) (rdR d.rows).length).imp_of_mem (R:=(·≠·)) λ{x y} hx F z e=>z ?_);have hx:=(cO.mp hx).2.2;have F:=(cO.mp F).2.2;have G:x.2.1=y.2.1:=by have:=congrArg Prod.fst e;exact Int.ofNat.inj this
 have J:x.2.2=y.2.2:=by have:=congrArg Prod.snd e;exact Int.ofNat.inj this
 rw [G,J,F] at hx;exact Prod.ext (NG.inj hx).symm (Prod.ext G J)
structure SpM(d:DM)(ts:List T3):Prop where
 nd:(ts.map (·.2)).Nodup
 at_:∀t∈ts,∃s∈nU d,t.2=p2 s
structure BiI(A:zh)(H2:Hp)(a sh dd:Addr)(ts:List Tri)(i:Nat)(σ:L2.St)(H':Hp):Prop where
 ex:∃t1 t2 t3,σ=[some (V.ref a),some (.ref sh),some (.ref dd),t1,t2,t3]
 dic:∃kvs us,H' dd=some (.dK (ik kvs))/\Paired (cU H') kvs us/\(us.map (·.1)).Nodup/\us.length<=i/\(∀t∈us,0<=t.1/\t.1<10 ^ 18)/\(us.map (·.2)).Nodup/\∀t∈us,∃s∈ts.take i,t.2=p2 s
 keep:∀b o,b≠a->b≠dd->H2 b=some o->H' b=some o
 SK:Pot H' a
def xJ(A:zh):Sp:=λvs H Q _=>∃(a p wl sl sh:Addr)(cells shc:List Addr)(m:Int)(d:DM),vs=[.ref a,.ref sh]/\DW A H p wl sl sh cells shc m d/\Pot H a /\
 ∀dd kvs ts H',aU a H H'->TB A H'->Pot H' a->H dd=none->H' dd=some (.dK (ik kvs))->Paired (cU H') kvs ts->nM ts->SpM d ts->Q (.ref dd) H'
theorem h9:zw ["_law_pot_here","_law_shelf","_law_found","_law_row_here","_law_stretch","_law_place"] Ys (zj oy):=fsc
theorem GL(F:Fun K VN VN oy f fd)(T:Txt w K mg A)(Z9:GF P w K mg base true 1 Wf Zv dz)(ZJ:GF P w K mg base true 1 Wd WC (jq A)):zm P w K mg base CX0 true 2 f fd Ys (xJ A):=by
 refine F.o h9 λZ0 Ar outer s H vs Q E hr h=>?_;obtain ⟨a,p,wl,sl,sh,cells,shc,m,d,rfl,Ww,hP,q⟩:=h;have hu:_<cLine:=Ny (zT hr);refine ⟨_,(W.h (ze (zz (i:=2) h9.nd rfl (M5 rfl) pW)
   (ze (bh N9.never (λ_=>rfl) (liD (bU (clE (caD (zq ZJ hr rfl (clP (zb (za 1) zc))))))) (cM (n:=3) (gsD (zJ (zy (i:=3) h9.nd rfl (M5 rfl)) (gsD (zJ (zy (i:=4) h9.nd rfl (M5 rfl)) (gsD (zJ (zy (i:=5) h9.nd rfl (M5 rfl)) bC)))))))
   (zg (zL (cy (dM (tD (zI (clO (pb hu)) (clE (zK zP (za 3) zl (λ_ _=>rfl))) (clE (aH (zb zF (zb zF zc)))) rfl)) (dQ (tD (zI (clO (oI0 gR)) (clE (caD (zq Z9 hr rfl (clP (zb (za 0) (zb zl zc)))))) (clE zl) (zD _))))))
   (zg (cj (aH (zb (za 4) (zb (za 5) zc))) (fB (za 2) (zK zP (za 3) (zB aF zl (eU xx rfl T.U6 boot_int (zb (cz (oE (aX hu)) (zK zP (za 3) zl (λ_ _=>rfl)) zF (zD _)) zc))) (λ_ _=>rfl)) (kK (zT hr)))))
   zQ)))
   (zg (zu (za 2)))))),?_⟩
 have ok:=Ww.ok;have WR:=ok.sh;ac_rfl;refine λdd H1 J=>?_;have W1:=Ww.same J.same;refine ⟨sh,shc,_,rfl,W1.Sr,WR.len,WR.wide,WR.keys,WR.nd,WR.few,W1.tb,λl2 a0 H2 s2 Yh f2 a7 e2 Xa=>?_⟩;rw [<- cI] at Xa;have Z6:=ar Xa;have a5:(ae (nU d)).length<=30:=by rw [(cV _).length_eq];exact ok.few
 have XH:∀t∈ae (nU d),bI t.1:=λt O=>ok.row t ((cV _).mem_iff.mp O);have aT:((ae (nU d)).map p2).Nodup:=((cV _).map _).nodup_iff.mpr (Iy d);have XX:∀s∈ae (nU d),s∈nU d:=λs hs=>(cV _).mem_iff.mp hs;generalize ae (nU d)=ts at Z6 a5 XH Xa aT XX;have P2:Pot H2 a:=by obtain ⟨x,y,e,r⟩:=(hP.same J.same).ex;exact ⟨⟨x,y,s2.list e,r⟩⟩
 have XR:H2 dd=some (.dK (ik [])):=s2 _ _ (λ_=>nofun) J.at_;have da:dd≠a:=hP.ne J.no;have la:l2≠a:=(hP.same J.same).ne f2;have ld:l2≠dd:=λz=>by rw [z,J.at_] at f2;cases f2
 ac_rfl;refine ⟨⟨_,SqL.of e2⟩,ao.lst (xs:=a0.map V.ref) (BiI A H2 a sh dd ts) ⟨⟨_,_,_,rfl⟩,⟨[],[],XR,.nil,by simp,by simp,by simp,by simp,by simp⟩,λ_ _ _ _ e=>e,P2⟩ (λi σ H' _ I=>SqL.of (I.keep _ _ la ld e2)) ?_ ?_⟩
 .rintro i x σ H3 hx ⟨⟨t1,t2,U,rfl⟩,⟨kvs,us,hd,pr,nd,ul,un,np,ua⟩,kp,Xi⟩;rw [Nh] at hx;obtain ⟨b,hb,rfl⟩:=Nu.mp hx;have hi:i<ts.length:=by rw [<- Z6];exact (MY.mp hb).1
  have YC:ts[i]?=some ts[i]:=l6 hi;have ab:∀{r:Addr}{xs:List V},H2 r=some (.tup xs)->H3 r=some (.tup xs):=λ{r xs} e=>kp _ _ (λz=>by obtain ⟨x,y,ea,_⟩:=P2.ex;rw [z,ea] at e;cases e) (λz=>by rw [z,XR] at e;cases e) e;obtain ⟨r,g1,S⟩:=bG Xa hb YC;have g1:=ab g1;have S:=ab S;have ro:=XH _ (NP hi);refine ⟨b,_,rfl,SqT.of g1,rfl,?_⟩;have tk:∀s∈ts.take i,s∈ts.take (i+1):=λs hs=>by rw [NW];exact N0 _ hs
  have Yd:∃s∈ts.take (i+1),(((ts[i].2.1:Nat):Int),((ts[i].2.2:Nat):Int))=p2 s:=⟨ts[i],by rw [NW,YC];exact Nk _ (M0.mpr rfl),rfl⟩;have ai:(((ts[i].2.1:Nat):Int),((ts[i].2.2:Nat):Int))∉us.map (·.2):=λz=>by
   obtain ⟨u,hu,eu⟩:=OU.mp z;obtain ⟨s,hs,es⟩:=ua u hu;obtain ⟨j,hj,ej⟩:=NQ hs;have a8:j<i:=by rw [Ow] at hj;lia
   rw [RG] at ej;have a4:j<(ts.map p2).length:=by rw [MV];lia
   have e2:p2 s=p2 ts[i]:=es.symm.trans eu;have:=(Qy a4 aT).mp (show (ts.map p2)[j]?=(ts.map p2)[i]? by rw [Nh,Nh,YC,l6 (show j<ts.length by lia),ej];show some (p2 s)=some (p2 ts[i]);rw [e2]);lia
  have ag:∀H4,(∀b o,b≠a->b≠dd->H3 b=some o->H4 b=some o)->Pot H4 a->H4 dd=H3 dd->∀t1 t2 U,BiI A H2 a sh dd ts (i+1) [some (V.ref a),some (.ref sh),some (.ref dd),t1,t2,U] H4:=λH4 k4 p4 e4 t1 t2 U=>by
   refine ⟨⟨_,_,_,rfl⟩,⟨kvs,us,by rw [e4];exact hd,Paired.wh pr λp t r=>r.keep λr xs e=>k4 _ _ (λz=>by obtain ⟨x,y,ea,_⟩:=Xi.ex;rw [z,ea] at e;cases e) (λz=>by rw [z,hd] at e;cases e) e,nd,by lia,un,np,λt O=>let ⟨s,hs,e⟩:=ua t O;⟨s,tk s hs,e⟩⟩,λb o J n2 e=>k4 _ _ J n2 (kp _ _ J n2 e),p4⟩
  generalize ts[i].1=row at S ro;generalize ts[i].2.1=kk at g1 Yd ai;generalize ts[i].2.2=jj at g1 Yd ai;have av:∀(nb:Int)(Z:Addr)(H6:Hp),0<=nb->nb<10 ^ 18->(∀b o,b≠a->H3 b=some o->H6 b=some o)->Pot H6 a->H6 Z=some (.tup [.int kk,.int jj])->∀t1 t2 U,i4 (.ref dd) (.int nb) (.ref Z) H6 λH7=>BiI A H2 a sh dd ts (i+1) [some (V.ref a),some (.ref sh),some (.ref dd),t1,t2,U] H7:=λnb Z H6 b0 b1 k6 a3 e6 t1 t2 U=>by
   have aj:=k6 _ _ da hd;have lk:=ar pr;have a9:Z≠dd:=λz=>by rw [z,aj] at e6;cases e6
   rw [wQ];refine .inr ⟨_,aj,by rw [lV];exact aW (by lia),?_⟩;rw [v9];have up:∀{r:Addr}{xs:List V}{o:HO},H6 r=some (.tup xs)->upd H6 dd o r=some (.tup xs):=λ{r xs o} e=>by rw [zd (λz=>by rw [z,aj] at e;cases e)];exact e
   have a6:Paired (cU H6) kvs us:=Paired.wh pr λp t r=>r.keep λr xs e=>k6 _ _ (λz=>by obtain ⟨x,y,ea,_⟩:=Xi.ex;rw [z,ea] at e;cases e) e;refine ⟨⟨_,_,_,rfl⟩,⟨bM kvs nb (.ref Z),bM us nb ((kk:Int),(jj:Int)),zx,Paired.wh (DL a6 (st:=((kk:Int),(jj:Int))) ⟨rfl,Z,rfl,e6⟩) λp t r=>r.keep λr xs e=>up e,Cc nd,?_,λt O=>?_,Do nd np ai,λt O=>?_⟩,λb o J n2 e=>by rw [zd n2];exact k6 _ _ J (kp _ _ J n2 e),?_⟩
   .have:=DV (l:=us) (n:=nb) (a:=((kk:Int),(jj:Int)));lia
   .rcases sD O with O|rfl
    .exact un t O
    .exact ⟨b0,b1⟩
   .rcases sD O with O|rfl
    .obtain ⟨s,hs,e⟩:=ua t O;exact ⟨s,tk s hs,e⟩
    .exact Yd
   .obtain ⟨x,y,e,rr⟩:=a3.ex;exact ⟨⟨x,y,by rw [zd (Ni da)];exact e,rr⟩⟩
  have skip:∀{H4:Hp}{o:HO}{p1:Addr},New H3 p1 o H4->∀t1 t2 U,BiI A H2 a sh dd ts (i+1) [some (V.ref a),some (.ref sh),some (.ref dd),t1,t2,U] H4:=λ{H4 o p1} G t1 t2 U=>ag H4 (λb o _ _ e=>G.same _ _ e) (Xi.same G.same) ((G.same _ _ hd).trans hd.symm) t1 t2 U;have ak:∀{xs:List V},H3 r=some (.tup xs)->r≠a:=λ{xs} e z=>by obtain ⟨x,y,ea,_⟩:=Xi.ex;rw [z,ea] at e;cases e
  cases ro with
  | put n g b nm pl wd h1 h2 h3 h4 h5 =>
   have i0:atI [V.str V9,.int n,.int g,.bl b,.str nm,.int pl,.str wd] 0=some (V.str V9):=rfl;have i1:atI [V.str V9,.int n,.int g,.bl b,.str nm,.int pl,.str wd] (1+0)=some (V.int n):=rfl;have ne:decide ((V9:Str)="carry")=false:=by decide +kernel
   erw [S,i0];refine ⟨by decide,λp1 H4 G=>⟨_,.inr G.at_,rfl,rfl,?_⟩⟩;rw [if_pos (f!"")];refine ⟨a,3,rfl,Xi.same G.same,by decide,by decide,λr' H5 b5 Xh r0 r1=>?_⟩;ac_rfl;refine zY (λh=>⟨by decide,λZ H6 n6=>?_⟩) (λh=>ag H5 (λb o J _ e=>b5 _ _ J (G.same _ _ e)) Xh ((b5 _ _ da (G.same _ _ hd)).trans hd.symm) _ _ _);have g6:=n6.same _ _ (b5 _ _ (ak S) (G.same _ _ S));refine ⟨_,.inr g6,_,i0,?_⟩;simp only [nX,ne,ma,fS,gG];refine ⟨_,.inr g6,_,i1,av n Z H6 h1.1 h1.2 (λb o J e=>n6.same _ _ (b5 _ _ J (G.same _ _ e))) (Xh.same n6.same) n6.at_ _ _ _⟩
  | carry n g wd h1 h2 h3 =>
   have i0:atI [V.str "carry",.int n,.int g,.str wd] 0=some (V.str "carry"):=rfl;have i1:atI [V.str "carry",.int n,.int g,.str wd] (1+1)=some (V.int g):=rfl;have ne:decide (("carry":Str)="carry")=true:=by decide +kernel
   erw [S,i0];refine ⟨by decide,λp1 H4 G=>⟨_,.inr G.at_,rfl,rfl,?_⟩⟩;rw [if_pos (f!"")];refine ⟨a,3,rfl,Xi.same G.same,by decide,by decide,λr' H5 b5 Xh r0 r1=>?_⟩;ac_rfl;refine zY (λh=>⟨by decide,λZ H6 n6=>?_⟩) (λh=>ag H5 (λb o J _ e=>b5 _ _ J (G.same _ _ e)) Xh ((b5 _ _ da (G.same _ _ hd)).trans hd.symm) _ _ _);have g6:=n6.same _ _ (b5 _ _ (ak S) (G.same _ _ S));refine ⟨_,.inr g6,_,i0,?_⟩;simp only [nX,ne,ma,fS,gG];refine ⟨_,.inr g6,_,i1,av g Z H6 h2.1 h2.2 (λb o J e=>n6.same _ _ (b5 _ _ J (G.same _ _ e))) (Xh.same n6.same) n6.at_ _ _ _⟩
  | cut n nm pl h1 h2 h3 =>
   have i0:atI [V.str V7,.int n,.str nm,.int pl] 0=some (V.str V7):=rfl;erw [S,i0];refine ⟨by decide,λp1 H4 G=>⟨_,.inr G.at_,rfl,rfl,?_⟩⟩;rw [if_neg (f!"")];exact skip G _ _ _
  | hold n nm h1 h2 =>
   have i0:atI [V.str Wa,.int n,.str nm] 0=some (V.str Wa):=rfl;erw [S,i0];refine ⟨by decide,λp1 H4 G=>⟨_,.inr G.at_,rfl,rfl,?_⟩⟩;rw [if_neg (f!"")];exact skip G _ _ _
  | free n nm h1 h2 =>
   have i0:atI [V.str "free",.int n,.str nm] 0=some (V.str "free"):=rfl;erw [S,i0];refine ⟨by decide,λp1 H4 G=>⟨_,.inr G.at_,rfl,rfl,?_⟩⟩;rw [if_neg (f!"")];exact skip G _ _ _
 .rintro σ H3 ⟨⟨t1,t2,U,rfl⟩,⟨kvs,us,hd,pr,nd,ul,un,np,ua⟩,kp,Xi⟩;ac_rfl;rw [MV] at ul;have XT:TB A H3:=Yh.keep (F:=[a,dd]) (λb o e n=>kp b o (λz=>n (by simp [z])) (λz=>n (by simp [z])) e) λx hx o e=>by
   rcases MX.mp hx with rfl|hx
   .obtain ⟨x',y',ea,_⟩:=P2.ex;rw [ea] at e;cases e;exact ⟨λ_=>nofun,λ_=>nofun⟩
   .rw [M0] at hx;subst hx;rw [XR] at e;cases e;exact ⟨λ_=>nofun,λ_=>nofun⟩
  refine q dd kvs us H3 (λb o nb no e=>?_) XT Xi J.no hd pr ⟨nd,by lia,un⟩ ⟨np,λt O=>let ⟨s,hs,e⟩:=ua t O;⟨s,XX s (PY hs),e⟩⟩;exact kp b o nb (λz=>by rw [z,J.no] at e;cases e) (s2 _ _ no (J.same _ _ e))
end
abbrev rg:Stmt:=top 72
theorem Jz(a b:Str):leS a b\/leS b a:=by
 unfold leS;rw [ltCps_eq,ltCps_eq];by_cases h:O6.blt b.cps.toList a.cps.toList=true
 .exact .inr (KeyOrd.klt_asymm (O:=O6.toKeyOrd) h)
 .exact .inl (by simpa using h)
theorem My(h1:leS a b)(h2:leS b c):leS a c:=by
 unfold leS at *
 rw [ltCps_eq] at *
 exact KeyOrd.kle_trans (O:=O6.toKeyOrd) h1 h2
theorem ur(x:Str):∀l:List Str,l.Pairwise leS->∃m:List Str,m.Perm (x::l)/\m.Pairwise leS
 | [],_=>⟨[x],O2.refl _,by simp⟩
 | y::l,h=>by
  rcases Jz x y with hx|hx
  .refine ⟨x::y::l,O2.refl _,NS.mpr ⟨λz F=>?_,h⟩⟩;rcases MX.mp F with rfl|F
   .exact hx
   .exact My hx ((NS.mp h).1 z F)
  .obtain ⟨m,p,hm⟩:=ur x l (NS.mp h).2;refine ⟨y::m,(O2.cons y p).trans (O2.swap x y l),NS.mpr ⟨λz F=>?_,hm⟩⟩;rcases MX.mp (p.mem_iff.mp F) with rfl|F
   .exact hx
   .exact (NS.mp h).1 z F
theorem AL:∀ks:List Str,∃z:List Str,z.Perm ks/\z.Pairwise leS
 | []=>⟨[],O2.refl _,.nil⟩
 | x::ks=>by
  obtain ⟨z,p,h⟩:=AL ks;obtain ⟨m,p2,h2⟩:=ur x z h;exact ⟨m,p2.trans (O2.cons x p),h2⟩
theorem DJ(ks:List Str):(cZ ks).Perm ks/\(cZ ks).Pairwise leS:=by
 obtain ⟨z,p,h⟩:=AL ks;have e:=Ac p (sortedS_of_pairwise z h);rw [<- e];exact ⟨p,h⟩
theorem wR{α:Type}{t:List (Str×α)}{a:α}:(bF t n a).length<=t.length+1:=by
 unfold bF;split<;>simp
section
variable {A:zh}{H H':Hp}{a p b k:Addr}{xs:List V}{t:Tab}{ks:List (Str×Tab)}
theorem Rd.lst{kvs:List (Key×V)}{c:Addr}(h:Rd H c (.dK kvs))(s:But a H H')(ha:H a=some (.lst xs)):Rd H' c (.dK kvs):=by
 have n:c≠a:=λz=>by
  rcases h with h|⟨o,h⟩ <;> · rw [z,ha] at h;cases h
 exact h.elim (λe=>.inl (s _ _ n e)) λ⟨o,e⟩=>.inr ⟨o,s _ _ n e⟩
theorem aL.lst{v:V}{l:List Int}(h:aL H v l)(s:But a H H')(ha:H a=some (.lst xs)):aL H' v l:=h.but s λys z=>by rw [ha] at z;cases z
theorem cu.lst{q F k':Addr}{t:Tab}(h:cu A H q F k' t)(s:But a H H')(ha:H a=some (.lst xs)):cu A H' q F k' t:=by
 obtain ⟨dx,e⟩:=h.ob;obtain ⟨kvs,G,d⟩:=h.tj.ex;exact ⟨⟨dx,s _ _ (λz=>by rw [z,ha] at e;cases e) e⟩,⟨⟨kvs,Rd.lst G s ha,d.imp λv l r=>r.lst s ha⟩,h.tj.nd⟩,Rd.lst h.kept s ha⟩
theorem zM.lst(h:zM A H p b k t ks)(s:But a H H')(ha:H a=some (.lst xs)):zM A H' p b k t ks:=by
 obtain ⟨dx,e⟩:=h.ob;obtain ⟨O,G,d⟩:=h.kept;obtain ⟨kvs,F,W⟩:=h.tj.ex;have ne:∀{c:Addr}{ys:List (Key×V)},H c=some (.dK ys)->c≠a:=λ{c ys} e z=>by rw [z,ha] at e;cases e
 exact ⟨⟨dx,s _ _ (λz=>by rw [z,ha] at e;cases e) e⟩,⟨⟨kvs,s _ _ (ne F) F,W.imp λv l r=>r.lst s ha⟩,h.tj.nd⟩,⟨O,s _ _ (ne G) G,d.imp λv u ⟨q,U,k',S,r,J⟩=>⟨q,U,k',S,r.lst s ha,J⟩⟩,h.Vj,h.ne⟩
theorem zM.SK(h:zM A H p b k t ks)(s:But a H H')(z:Pot H a):zM A H' p b k t ks:=let ⟨_,_,e,_⟩:=z.ex;h.lst s e
theorem zM.bd(h:zM A H p b k t ks):∃kvs,H b=some (.dK kvs):=let ⟨_,e,_⟩:=h.tj.ex;⟨_,e⟩
theorem zM.kd(h:zM A H p b k t ks):∃kvs,H k=some (.dK kvs):=let ⟨_,e,_⟩:=h.kept;⟨_,e⟩
theorem Pot.dic(F:Pot H a)(s:But c H H')(e:H c=some (.dK kvs)):Pot H' a:=by
 obtain ⟨x,y,ea,r⟩:=F.ex;exact ⟨⟨x,y,s _ _ (λz=>by rw [z,e] at ea;cases ea) ea,r⟩⟩
theorem Fy:lk (bF t n l) m=if m=n then l else lk t m:=by
 unfold lk;rw [yR];split<;>rfl
theorem Cp(h:m≠n):look (fK t n i) m=look t m:=by
 unfold fK;split
 .rw [Mr,if_neg h]
 .rw [yR,if_neg h]
theorem Hg:(fK t n i).length<=t.length+1:=by
 unfold fK;split
 .exact PH (QH ..)
 .exact wR
end
theorem Bl(h:v∈[V.str "a",.str "b",.str "zzzzzz"]):∃z:Str,v = .str z:=by
 simp only [MX,M1,or_false] at h;rcases h with rfl|rfl|rfl<;>exact ⟨_,rfl⟩
section
variable {P:M8}{w:Nl}{K:Frag}{mg:Str->Option Value}{base:Heap}{A:zh}
structure FiI(A:zh)(H0:Hp)(a dd p b k:Addr)(i:Nat)(σ:L2.St)(H':Hp):Prop where
 ex:∃t1 t2,σ=[some (V.ref a),some (.ref dd),some (.ref p),t1,t2]
 fi:∃t,zM A H' p b k t []/\t.length<=i/\∀n,(lk t n).length<=i
 keep:∀c o,c≠a->c≠b->H0 c=some o->H' c=some o
 SK:Pot H' a
structure CuI(A:zh)(H0:Hp)(a dd p b k:Addr)(t0:Tab)(ks:List (Str×Tab))(ss:List Str)(i:Nat)(σ:L2.St)(H':Hp):Prop where
 ex:∃t1 t2,σ=[some (V.ref a),some (.ref dd),some (.ref p),t1,t2]
 fi:∃t,zM A H' p b k t ks/\t.length<=64+i/\∀j n,i<=j->ss[j]?=some n->look t n=look t0 n
 keep:∀c o,c≠a->c≠b->H0 c=some o->H' c=some o
 SK:Pot H' a
def vy(A:zh):Sp:=λvs H Q _=>∃(a dd:Addr)(kvs:List (Int×V)),vs=[.ref a,.ref dd]/\Pot H a/\H dd=some (.dK (ik kvs))/\kvs.length<40/\∀p b k t ks H',But a H H'->Pot H' a->zM A H' p b k t ks->Q (.ref p) H'
theorem i7:zw ["_law_pot_here","_law_births_here","_law_files_here","_law_birth","_law_name"] WH (zj rg):=fsc
theorem Mq(F:Fun K "_law_files" "_law_files" rg f fd)(T:Txt w K mg A)(YS:GC P w K mg base true 1 "Files" A.uc Zn (mw A))(Z5:GF P w K mg base true 2 V5 Yi iD)(Z9:GF P w K mg base true 1 Wf Zv dz)(ZZ:GM P w K mg base true 1 A.uc "many" Xs (lT A))(YX:GM P w K mg base true 4 A.uc V9 WA (xi A))(Za:GM P w K mg base true 5 A.uc Wa Wh (xT A))(Zl:GM P w K mg base true 1 A.uc "names" Zn (tW A))(YW:GM P w K mg base true 4 A.uc V7 WD (wN A)):zm P w K mg base CX0 true 6 f fd WH (vy A):=by
 refine F.o i7 λZ0 Ar outer s H vs Q E hr h=>?_;obtain ⟨a,dd,kvs,rfl,hP,hd,hl,q⟩:=h;have hu:_<cLine:=Ny (zT hr);refine ⟨_,(W.h (ze (zz (i:=2) i7.nd rfl (M5 rfl) (vK YS hr rfl))
   (ze (bh N9.never (λ_=>rfl) (liD (bU (clE (zO (tZ rfl) rfl T.Q2 QV (zb (za 1) zc))))) (zy (i:=3) i7.nd rfl (M5 rfl))
   (ze (zz (i:=4) i7.nd rfl (M5 rfl) (caD (zq Z5 hr rfl (clP (zb (za 0) (zb (aA (zb zF (zb zF (zb zF zc)))) zc))))))
   (zg (aw (mD (cb (clE (za 2)) T.qb YX hr (clP (zb (za 4) (zb (mD (cb (clE (za 2)) T.qb ZZ hr (clP (zb (za 4) zc)))) (zb (za 3) zc))))))))))
   (ze (zL (tD (zI (clO (oE (aX hu))) (clE (caD (zq Z9 hr rfl (clP (zb (za 0) (zb zl zc)))))) (clE zl) (zD _)))
   (ze (aw (mD (cb (clE (za 2)) T.qb Za hr (clP (zb zF zc)))))
   (zg (bh N9.never (λ_=>rfl) (liD (bU (clE (m0D (bb (clE (za 2)) T.qb Zl hr))))) (zy (i:=4) i7.nd rfl (M5 rfl))
   (zg (aw (mD (cb (clE (za 2)) T.qb YW hr (clP (zb (za 4) (zb (caD (zq Z9 hr rfl (clP (zb (za 0) (zb (zB aF (mD (cb (clE (za 2)) T.qb ZZ hr (clP (zb (za 4) zc)))) zl) zc))))) zc))))))))))
   zQ)
   (zg (zu (za 2))))))),?_⟩
 ac_rfl;refine λp av H1 nI=>⟨p,av,rfl,nI.at_,λb k H2 s2 nb nk eb ek bt ex=>⟨rfl,?_⟩⟩;have bp:∀{c:Addr}{o:HO},H c=some o->c≠p:=λ{c o} e z=>by have:=nI.no;rw [<- z,e] at this;cases this
 have G:∀c o,H c=some o->H2 c=some o:=λc o e=>s2 _ _ (bp e) (nI.same _ _ e);have F2:zM A H2 p b k [] []:=⟨⟨av,ex⟩,⟨⟨[],eb,.nil⟩,by simp [names]⟩,⟨[],ek,.nil⟩,by simp [names],bt⟩;have b0:H b=none:=nI.same.free nb;have bc:H k=none:=nI.same.free nk;refine ⟨kvs,.inl (G _ _ hd),by lia,λl ns H3 n3 pm _=>?_⟩;have bA:ns.length<40:=by rw [pm.length_eq,MV];exact hl
 have F3:=F2.same n3.same;have P3:Pot H3 a:=by obtain ⟨x,y,e,r⟩:=hP.ex;exact ⟨⟨x,y,n3.same _ _ (G _ _ e),r⟩⟩
 have la:l≠a:=(show Pot H2 a by obtain ⟨x,y,e,r⟩:=hP.ex;exact ⟨⟨x,y,G _ _ e,r⟩⟩).ne n3.no;have lb:l≠b:=λz=>by have:=n3.no;rw [z,eb] at this;cases this
 ac_rfl;refine ⟨⟨_,SqL.of n3.at_⟩,ao.lst (xs:=ns.map V.int) (FiI A H3 a dd p b k) ⟨⟨_,_,rfl⟩,⟨[],F3,by simp,λn=>by simp [lk,look]⟩,λ_ _ _ _ e=>e,P3⟩ (λi σ H' _ I=>SqL.of (I.keep _ _ la lb n3.at_)) ?_ ?_⟩
 .rintro i x σ H4 hx ⟨⟨t1,t2,rfl⟩,⟨t,F4,tl,tn⟩,kp,P4⟩;rw [Nh] at hx;obtain ⟨bi,a4,rfl⟩:=Nu.mp hx;have hi:i<ns.length:=(MY.mp a4).1;ac_rfl;refine ⟨by decide,λl5 H5 n5 _=>⟨a,P4.same n5.same,.inl ⟨l5,_,rfl,P4.ne n5.no,.inl n5.at_,by simp,by simp,λv H6 hv b6 P6=>?_⟩⟩⟩;obtain ⟨z,rfl⟩:=Bl hv;have J:=(F4.same n5.same).SK b6 (P4.same n5.same);obtain ⟨a3,e6⟩:=J.ob;erw [e6,i3,Mx];refine ⟨p,b,k,t,[],z,rfl,J.r,λH7 s7=>?_⟩;have F7:=J.same s7;ac_rfl;refine ⟨p,b,k,t,[],z,_,bi,rfl,F7,by lia,by lia,by have:=tn z;lia,by lia,λH8 b8 Z=>?_⟩;obtain ⟨kb,e7⟩:=F7.bd;refine ⟨⟨_,_,rfl⟩,⟨_,Z,?_,λn=>?_⟩,λc o n1 n2 e=>b8 _ _ n2 (s7 _ _ (b6 _ _ n1 (n5.same _ _ (kp _ _ n1 n2 e)))),(P6.same s7).dic b8 e7⟩
  .have:=wR (t:=t) (n:=z) (a:=((lk t z).take (((lk t z).length:Nat):Int).toNat++[bi]++(lk t z).drop ((((lk t z).length:Nat):Int).toNat+1)));lia
  .rw [Fy];have:=tn n;have:=tn z;split
   .simp;lia
   .lia
 .rintro σ H4 ⟨⟨t1,t2,rfl⟩,⟨t,F4,tl,tn⟩,kp,P4⟩;rw [MV] at tl;ac_rfl;refine ⟨a,3,rfl,P4,by decide,by decide,λr H5 b5 P5 r0 r1=>?_⟩;have F5:=F4.SK b5 P4;have aj:But a H H5:=λc o n e=>b5 _ _ n (kp _ _ n (λz=>by rw [z,b0] at e;cases e) (n3.same _ _ (G _ _ e)));ac_rfl;refine zY (λh=>?_) (λh=>q p b k t [] H5 aj P5 F5);obtain ⟨bL,e5⟩:=F5.ob;erw [e5,Mz,vW];refine ⟨p,b,k,t,[],"h",rfl,F5,rfl,by simp,λH6 b6 J=>?_⟩;obtain ⟨kd,a0⟩:=F5.kd;have P6:=P5.dic b6 a0;obtain ⟨a3,e6⟩:=J.ob;erw [e6,vW];refine ⟨p,b,k,t,_,rfl,J.r,by lia,λl7 H7 S=>?_⟩;have F7:=J.same S.same;have P7:=P6.same S.same;have ba:l7≠a:=P6.ne S.no;have a5:l7≠b:=λz=>by obtain ⟨kb,a8⟩:=J.bd;have:=S.no;rw [z,a8] at this;cases this
  have sp:=DJ (names t);have ls:(cZ (names t)).length<=40:=by rw [sp.1.length_eq];simp [names];lia
  have ak:(cZ (names t)).Nodup:=sp.1.nodup_iff.mpr J.tj.nd;have O:∀n∈cZ (names t),∃u,look t n=some u:=λn hn=>by
   cases e:look t n with
   | none=>exact absurd (sp.1.mem_iff.mp hn) (gS.mp e)
   | some u=>exact ⟨u,rfl⟩
  generalize cZ (names t)=ss at S ls ak O;ac_rfl;refine ⟨⟨_,SqL.of S.at_⟩,ao.lst (xs:=ss.map V.str) (CuI A H7 a dd p b k t _ ss) ⟨⟨_,_,rfl⟩,⟨t,F7,by lia,λ_ _ _ _=>rfl⟩,λ_ _ _ _ e=>e,P7⟩ (λi σ H' _ I=>SqL.of (I.keep _ _ ba a5 S.at_)) ?_ ?_⟩
  .rintro i x σ H8 hx ⟨⟨t1,t2,rfl⟩,⟨u,Z,ul,uk⟩,U,P8⟩;rw [Nh] at hx;obtain ⟨n,hn,rfl⟩:=Nu.mp hx;have hi:i<ss.length:=(MY.mp hn).1;obtain ⟨l,el⟩:=O n (Na hn);have eu:look u n=some l:=by rw [uk i n (zv _) hn];exact el
   have a9:lk u n=l:=by unfold lk;rw [eu];rfl
   obtain ⟨bB,e8⟩:=Z.ob;erw [e8,Ka,i3];refine ⟨p,b,k,u,_,n,rfl,Z.r,λH9 s9=>?_⟩;have F9:=Z.same s9;have bx:l.length<=40:=by
    have e:lk t n=l:=by unfold lk;rw [el];rfl
    have h:=tn n;rw [e,MV] at h;lia
   rw [a9];ac_rfl;refine ⟨a,_,rfl,P8.same s9,by lia,Qt (show (l.length:Int)+1<=41 by lia) (by decide),λm H10 ag a7 m0 m1=>?_⟩;have aT:=F9.SK ag (P8.same s9);refine ⟨p,b,k,u,_,n,l,m,rfl,aT,eu,m0,by lia,by lia,λH11 ai a6=>?_⟩;obtain ⟨kb,bq⟩:=aT.bd;refine ⟨⟨_,_,rfl⟩,⟨_,a6,by have:=Hg (t:=u) (n:=n) (i:=m);lia,λj n' hj ab=>?_⟩,λc o n1 n2 e=>ai _ _ n2 (ag _ _ n1 (s9 _ _ (U _ _ n1 n2 e))),a7.dic ai bq⟩;have ne:n'≠n:=λz=>by
    rw [z] at ab;have:=(Qy hi ak).mp (hn.trans ab.symm);lia
   rw [Cp ne];exact uk j n' (by lia) ab
  .rintro σ H8 ⟨⟨t1,t2,rfl⟩,⟨u,Z,ul,uk⟩,U,P8⟩;ac_rfl;refine q p b k u _ H8 (λc o n e=>U _ _ n (λz=>by rw [z,b0] at e;cases e) (S.same _ _ (b6 _ _ (λz=>by rw [z,bc] at e;cases e) (aj _ _ n e)))) P8 Z
end
abbrev lG:Stmt:=top 73
abbrev jL:Stmt:=top 74
theorem mI(f:Nat->Int):∀n,0<n->∃i,i<n/\bj f n=some (f i)/\∀j,j<n->f j<=f i
 | 1,_=>⟨0,by decide,rfl,λj F=>by rw [show j=0 by lia];exact Int.le_refl _⟩
 | n+2,_=>by
  obtain ⟨i,hi,e,hm⟩:=mI f (n+1) (by lia);have G:bj f (n+2)=some (match bj f (n+1) with|none=>f (n+1)|some m=>if f (n+1)>m then f (n+1) else m):=rfl;rw [G,e];show ∃j,j<n+2/\some (if f (n+1)>f i then f (n+1) else f i)=some (f j)/\_;split
  .refine ⟨n+1,by lia,rfl,λj F=>?_⟩;by_cases z:j=n+1
   .rw [z];exact Int.le_refl _
   .have:=hm j (by lia);lia
  .refine ⟨i,by lia,rfl,λj F=>?_⟩;by_cases z:j=n+1
   .rw [z];lia
   .exact hm j (by lia)
section
variable {A:zh}{H H':Hp}{a p wl sl sh:Addr}{cells shc:List Addr}{m:Int}{d:DM}
structure Apt(a wl sl sh:Addr)(cells shc:List Addr):Prop where
 d:∀x∈wl::sl::cells,x≠a
 s:a≠sh
 c:a∉shc
theorem DW.UR(h:DW A H p wl sl sh cells shc m d)(O:Pot H a)(ap:Apt a wl sl sh cells shc)(s:aU a H H')(tb:TB A H')(S:Pot H' a):DW A H' p wl sl sh cells shc m d:=by
 obtain ⟨xs,e⟩:=O.lst;obtain ⟨ys,G⟩:=S.lst;have s':zA H (upd H' a (.lst xs)):=λb o n F=>by
  by_cases z:b=a
  .subst z;rw [e] at F;cases F;exact zx
  .rw [zd z];exact s b o z n F
 have W:=h.pL s' (tb.put G);refine W.put (b:=a) zx ap.d ap.s ap.c λb o F J=>?_;have z:b≠a:=λz=>J (by simp [z]);rw [zd z] at F;exact F
theorem aU.fr(s:aU a H H')(F:Pot H' a)(h:H' l=none):Fr H l:=λo no e=>by
 by_cases z:l=a
 .subst z;obtain ⟨x,y,ea,_⟩:=F.ex;rw [ea] at h;cases h
 .rw [s l o z no e] at h;cases h
end
section
variable {P:M8}{w:Nl}{K:Frag}{mg:Str->Option Value}{base:Heap}{A:zh}
structure NuI(H:Hp)(ts:List Tri)(i:Nat)(τ:L2.St)(ys:List V)(H':Hp):Prop where
 ex:∃t1,τ=[t1]
 ys:ys=((ts.take i).map zr).map V.int
 same:H'=H
def xo(A:zh):Sp:=λvs H Q _=>∃(a p wl sl sh:Addr)(cells shc:List Addr)(m:Int)(d:DM),vs=[.ref a,.ref sh]/\DW A H p wl sl sh cells shc m d/\Pot H a/\∀(z:Int) H',aU a H H'->TB A H'->Pot H' a->(∀t∈nU d,zr t<z)->0<z->z<10 ^ 18->Q (.int z) H'
theorem vZ:zw Ws Ys (zj lG):=fsc
theorem KN:bw { kind:=.function,names:=[(yv ".0",.local),(yv "_law_one",.local)],isGenerator:=false,isCoroutine:=false,more:=[] } (zj lG).names Ws ["_law_one"] [none]=true:=by decide +kernel
theorem GH:(["_law_one"]:List Str).Nodup:=by decide +kernel
theorem HW(F:Fun K "_law_next" "_law_next" lG f fd)(T:Txt w K mg A)(Z9:GF P w K mg base true 1 Wf Zv dz)(ZJ:GF P w K mg base true 1 Wd WC (jq A)):zm P w K mg base CX0 true 2 f fd Ys (xo A):=by
 refine F.o vZ λZ0 Ar outer s H vs Q E hr h=>?_;obtain ⟨a,p,wl,sl,sh,cells,shc,m,d,rfl,Ww,hP,q⟩:=h;have hu:_<cLine:=Ny (zT hr);refine ⟨_,(W.h (ze (zz (i:=2) vZ.nd rfl (M5 rfl) (zB aF (aA (zb zl zc)) (dE (λ_=>rfl) (aB.of KN) (liD (bU (clE (caD (zq ZJ hr rfl (clP (zb (za 1) zc))))))) (λ_ _ _ _ _=>(zy (i:=0) GH rfl (M5 rfl))) (λ_ _ _ _ _=>du) (λ_ _ _ _ _=>(zK zP (zK zP (za 0) zl (λ_ _=>rfl)) zl (λ_ _=>rfl))))))
   (zg (zu (zB aF (zB aF (zO (lZ rfl) rfl T.UX boot_max (zb (za 2) zc)) zl) (caD (zq Z9 hr rfl (clP (zb (za 0) (zb (zK zP (aA (zb zl (zb zl (zb (zB (oI jw) zl zl) zc)))) (caD (zq Z9 hr rfl (clP (zb (za 0) (zb zl zc))))) (λ_ _=>rfl)) zc)))))))))),?_⟩
 have ok:=Ww.ok;have WR:=ok.sh;ac_rfl;refine ⟨by decide,λl0 H1 n1 _=>?_⟩;have W1:=Ww.same n1.same;refine ⟨sh,shc,_,rfl,W1.Sr,WR.len,WR.wide,WR.keys,WR.nd,WR.few,W1.tb,λl2 ab H2 s2 Yh f2 av e2 Xa=>?_⟩;rw [<- cI] at Xa;ac_rfl;have Z6:=ar Xa;have aj:(ae (nU d)).length<=30:=by rw [(cV _).length_eq];exact ok.few
 have U:∀t∈ae (nU d),∃y n ys,t.1 = .str y::.int n::ys:=λt z=>iF ((cV _).mem_iff.mp z);have Yl:∀t∈ae (nU d),1<=zr t/\zr t<10 ^ 17:=λt z=>ok.pos t ((cV _).mem_iff.mp z);have Xb:∀t∈nU d,t∈ae (nU d):=λt z=>(cV _).mem_iff.mpr z;generalize ae (nU d)=ts at Z6 aj U Xa Yl Xb;refine ⟨⟨_,SqL.of e2⟩,zX.lst (xs:=ab.map V.ref) (NuI H2 ts) (λi τ ys H' I=>?_) (λi τ ys H' I=>by rw [I.same];exact SqL.of e2) ⟨⟨_,rfl⟩,rfl,rfl⟩ ?_ ?_⟩
 .rw [I.ys,MV,MV];exact aW (by have:=OO i ts;lia)
 .intro N i x τ ys H' hx I hN;obtain ⟨t1,rfl⟩:=I.ex;have e:=I.same;subst e;rw [Nh] at hx;obtain ⟨b,hb,rfl⟩:=Nu.mp hx;have hi:i<ts.length:=by rw [<- Z6];exact (MY.mp hb).1
  have YC:ts[i]?=some ts[i]:=l6 hi;obtain ⟨r,g1,g2⟩:=bG Xa hb YC;obtain ⟨y,n,zs,et⟩:=U _ (NP hi);rw [et] at g2;have i0:atI [V.ref r,V.int (ts[i]).2.1,V.int (ts[i]).2.2] 0=some (V.ref r):=rfl;have ix:atI (V.str y::V.int n::zs) 1=some (V.int n):=dh (j:=1) (by simp);erw [g1,g2,i0,ix];refine hN _ _ _ ⟨⟨_,rfl⟩,?_,rfl⟩;have ek:zr ts[i]=n:=by unfold zr;rw [et];rfl
  rw [NW,YC,I.ys,NI,NI];show _=_++[V.int (zr ts[i])];rw [ek]
 .intro τ ys H' I D3 H3 O;have e:=I.same;subst e;have G:=I.ys;rw [MV,Z6,Nz (zv _)] at G;rw [G] at O;rw [iJ];refine ⟨_,_,O.same _ _ (s2.list n1.at_),O.at_,aN (by simp;lia),λp4 H4 n4=>?_⟩;rw [yr];refine ⟨0::ts.map zr,by rw [n4.at_];rfl,by simp,?_⟩;obtain ⟨i,hi,eb,hM⟩:=mI (λi=>(0::ts.map zr).getD i 0) (0::ts.map zr).length (by simp);rw [eb];show gH (V.int ((0::ts.map zr).getD i 0)) (V.int 1) H4 _;have ai:(0::ts.map zr).getD i 0<10 ^ 17:=by
   cases i with
   | zero=>show (0:Int)<_;decide
   | succ i =>
    rw [List.getD_cons_succ];have hi:i<(ts.map zr).length:=by simpa using hi
    rw [MW,l6 hi];show (ts.map zr)[i]<_;rw [List.getElem_map];exact (Yl _ (NP _)).2
  have ak:0<=(0::ts.map zr).getD i 0:=hM 0 (by simp);have S:∀t∈nU d,zr t<=(0::ts.map zr).getD i 0:=λt z=>by
   obtain ⟨j,hj,ej⟩:=NQ (Xb t z);have:=hM (j+1) (by simpa using hj);rw [List.getD_cons_succ,MW,Nh,l6 hj,ej] at this;exact this
  clear hM eb;generalize (0::ts.map zr).getD i 0=M at ai ak S ⊢;have Z:zA H H4:=(zA.of n1.same).trans (s2.trans (.of (O.same.trans n4.same)));have Xq:=(Yh.same O.same).same n4.same;have P4:Pot H4 a:=by obtain ⟨x,y,e,r⟩:=hP.ex;exact ⟨⟨x,y,Z.list e,r⟩⟩
  ac_rfl;refine ⟨⟨by decide,by decide,by decide⟩,by decide,λp5 H5 n5 _=>?_⟩;have P5:=P4.same n5.same;refine ⟨a,3,rfl,P5,by decide,by decide,λr H6 b6 P6 r0 r1=>?_⟩;have ag:p5≠a:=P4.ne n5.no;have e6:=b6 _ _ ag n5.at_;obtain ⟨v,ev,hv⟩:=lN (xs:=[V.int 6,.int 60,.int (10 ^ Int.toNat 16)]) r0 (by simpa using r1);erw [e6];refine ⟨v,ev,?_⟩;obtain ⟨J,rfl,m0,m1⟩:∃J:Int,v = .int J/\0<J/\J<=10 ^ 16:=by
   simp only [MX,M1,or_false] at hv;rcases hv with rfl|rfl|rfl
   .exact ⟨6,rfl,by decide,by decide⟩
   .exact ⟨60,rfl,by decide,by decide⟩
   .exact ⟨_,rfl,by decide,by decide⟩
  refine ⟨a,J,rfl,P6,m0,by lia,λr' H7 b7 P7 z0 z1=>?_⟩;ac_rfl;have Xp:But a H4 H7:=((But.of n5.same).trans b6).trans b7;exact q _ H7 ((aU.of Z).trans (.but Xp)) (Xq.lists Xp.keeps λx hx=>by rw [M0] at hx;subst hx;obtain ⟨xs,e⟩:=P4.lst;exact .inl ⟨_,e⟩) P7 (λt z=>by have:=S t z;lia) (by lia) (by lia)
structure SsI(H:Hp)(dd:Addr)(fz:HO)(ts:List T3)(i:Nat)(τ:L2.St)(ys:List V)(H':Hp):Prop where
 ex:∃t1,τ=[t1,some (.ref dd)]
 ys:∃as:List Addr,ys=as.map V.ref/\Paired (eZ H') as (ts.take i)
 fz:H' dd=some fz
 same:zi H H'
theorem TB.SC(tb:TB A H)(z:Pot H a)(b:But a H H'):TB A H':=tb.lists b.keeps λx hx=>by rw [M0] at hx;subst hx;obtain ⟨xs,e⟩:=z.lst;exact .inl ⟨_,e⟩
theorem Pot.tup{H:Hp}{a r:Addr}{xs:List V}(F:Pot H a)(e:H r=some (.tup xs)):r≠a:=λz=>by obtain ⟨x,y,ea,_⟩:=F.ex;rw [z,ea] at e;cases e
theorem aU.tup{H H':Hp}{a r:Addr}{xs:List V}(s:aU a H H')(z:Pot H a)(e:H r=some (.tup xs)):H' r=some (.tup xs):=s _ _ (z.tup e) (λ_=>nofun) e
theorem zM.UR{a p b k:Addr}{t:Tab}(h:zM A H p b k t ks)(J:Pot H a)(s:aU a H H'):zM A H' p b k t ks:=by
 obtain ⟨x,y,ha,_⟩:=J.ex;have G:∀{v:V}{l:List Int},aL H v l->aL H' v l:=λ{v l} ⟨q,e,hq⟩=>⟨q,e,s.tup J hq⟩;have O:∀{q dx:Addr}{fs:List (Str×V)},H q=some (.ins A.uc dx fs)->H' q=some (.ins A.uc dx fs):=λ{q dx fs} e=>s _ _ (λz=>by rw [z,ha] at e;cases e) (λ_=>nofun) e;have F:∀{c:Addr}{ys:List (Key×V)},H c=some (.dK ys)->H' c=some (.dK ys):=λ{c ys} e=>s _ _ (λz=>by rw [z,ha] at e;cases e) (λ_=>nofun) e;have S:∀{c:Addr}{ys:List (Key×V)},Rd H c (.dK ys)->Rd H' c (.dK ys):=λ{c ys} e=>e.elim (λe=>.inl (F e)) λ⟨o,e⟩=>.inr ⟨o,s _ _ (λz=>by rw [z,ha] at e;cases e) (λ_=>nofun) e⟩;obtain ⟨dx,e⟩:=h.ob;obtain ⟨kk,e2,d⟩:=h.kept;obtain ⟨kvs,e3,d3⟩:=h.tj.ex;exact ⟨⟨dx,O e⟩,⟨⟨kvs,F e3,d3.imp λv l r=>G r⟩,h.tj.nd⟩,⟨kk,F e2,d.imp λv u ⟨q,b',k',Z,⟨⟨dq,eq⟩,⟨⟨kv,W,db⟩,nb⟩,U⟩,nn⟩=>⟨q,b',k',Z,⟨⟨dq,O eq⟩,⟨⟨kv,S W,db.imp λv l r=>G r⟩,nb⟩,S U⟩,nn⟩⟩,h.Vj,h.ne⟩
theorem Fw.pL{p:Addr}(h:Fw A H p)(s:zA H H'):Fw A H' p:=by
 obtain ⟨b,k,z,t,kvs,J,F,S⟩:=h;obtain ⟨O,U,dd⟩:=F.ex;exact ⟨b,k,z,t,kvs,s _ _ (λ_=>nofun) J,⟨⟨O,U.elim (λe=>.inl (s _ _ (λ_=>nofun) e)) λ⟨o,e⟩=>.inr ⟨o,s _ _ (λ_=>nofun) e⟩,dd.imp λv l ⟨p,ep,G⟩=>⟨p,ep,s.tup G⟩⟩,F.nd⟩,s _ _ (λ_=>nofun) S⟩
theorem Own.pL(h:Own A H x)(s:zA H H'):Own A H' x:=by
 obtain ⟨dx,f,d,n,m,e,z⟩:=h;exact ⟨dx,f,d,n,m,s _ _ (λ_=>nofun) e,z.pL s⟩
theorem aS.lst{H H':Hp}{x a:Addr}{ts:List T3}{n:Int}{zs:List V}(h:aS A H x ts n)(ea:H a=some (.lst zs))(s:But a H H'):aS A H' x ts n:=by
 obtain ⟨dx,f,d,m,kvs,G,J,F⟩:=h.ex;have ne:∀{c:Addr}{o:HO},H c=some o->(∀xs,o≠.lst xs)->H' c=some o:=λ{c o} e n=>s _ _ (λz=>by rw [z,ea] at e;cases e;exact n _ rfl) e;exact ⟨⟨dx,f,d,m,kvs,ne G λ_=>nofun,ne J λ_=>nofun,Paired.wh F λp t r=>r.keep λr xs e=>ne e λ_=>nofun⟩,h.ok⟩
theorem aS.SK(h:aS A H x ts n)(z:Pot H a)(s:But a H H'):aS A H' x ts n:=by
 obtain ⟨u,v,ea,_⟩:=z.ex;exact h.lst ea s
def vQ(A:zh):Sp:=λvs H Q _=>∃(a p wl sl sh:Addr)(cells shc:List Addr)(m:Int)(d:DM),vs=[.ref a,.ref sh]/\DW A H p wl sl sh cells shc m d/\Pot H a/\Apt a wl sl sh cells shc /\
 ∀tp x l as ts n H',H' tp=some (.tup [.ref x,.ref l])->aU a H H'->TB A H'->Pot H' a->aS A H' x ts n->Own A H' x->H' l=some (.lst (as.map V.ref))->Paired (eZ H') as ts->Fr H l->SpM d ts->(∀t∈nU d,zr t<n)->0<n->n<10 ^ 18->Q (.ref tp) H'
theorem nh:zw WB Ys (zj jL):=fsc
theorem CI:bw { kind:=.function,names:=[(yv ".0",.local),(yv "_law_birth",.local),(yv "_law_births_here",.free)],isGenerator:=false,isCoroutine:=false,more:=[] } (zj jL).names WB ["_law_birth","_law_births_here"] [none,some 2]=true:=by decide +kernel
theorem Bw:(["_law_birth","_law_births_here"]:List Str).Nodup:=by decide +kernel
theorem Lv(F:Fun K "_law_state" "_law_state" jL f fd)(T:Txt w K mg A)(Z9:GF P w K mg base true 1 Wf Zv dz)(Zk:GF P w K mg base true 2 VN Ys (xJ A))(Y9:GF P w K mg base true 6 "_law_files" WH (vy A))(YV:GF P w K mg base true 2 "_law_next" Ys (xo A))(YR:GC P w K mg base true 5 "State" A.State YO (nV A)):zm P w K mg base CX0 true 7 f fd Ys (vQ A):=by
 refine F.o nh λZ0 Ar outer s H vs Q E hr h=>?_;obtain ⟨a,p,wl,sl,sh,cells,shc,m,d,rfl,Ww,hP,ap,q⟩:=h;have hu:_<cLine:=Ny (zT hr);refine ⟨_,(W.h (ze (zz (i:=2) nh.nd rfl (Ru rfl) (caD (zq Zk hr rfl (clP (zb (za 0) (zb (za 1) zc))))))
   (ze (Cz (iw (i0:=3) nh.nd rfl (M5 rfl) (λ_=>rfl) (aB.of CI) (Iu (za 2)) (λ_ _ _ _ _=>(zy (i:=0) Bw rfl (M5 rfl))) (λ_ _ _ _ _=>du) (λ_ _ _ _ _=>(aH (zb (za 0) (zb (zK zP (zK (kY (zT hr)) (za 1) (za 0) (λ_ _=>rfl)) zl (λ_ _=>rfl)) (zb (zK zP (zK (kY (zT hr)) (za 1) (za 0) (λ_ _=>rfl)) zl (λ_ _=>rfl)) zc)))))))
   (zg (zu (aH (zb (jT YR hr rfl (zb (caD (zq Y9 hr rfl (clP (zb (za 0) (zb (za 2) zc))))) (zb (za 3) (zb (caD (zq YV hr rfl (clP (zb (za 0) (zb (za 1) zc))))) (zb (caD (zq Z9 hr rfl (clP (zb (za 0) (zb zl zc))))) zc))))) (zb (za 3) zc)))))))),?_⟩
 ac_rfl;refine ⟨a,p,wl,sl,sh,cells,shc,m,d,rfl,Ww,hP,λdd kvs ts H1 b1 XF P1 a9 hd pr ok sm=>?_⟩;have lk:=ar pr;have W1:=Ww.UR hP ap b1 XF P1;ac_rfl;refine ⟨dd,_,hd,λo=>?_⟩;have a0:upd H1 dd (.frz o (.dK (ik kvs))) dd=some (.frz o (.dK (ik kvs))):=zx;have ab:∀{r:Addr}{xs:List V},H1 r=some (.tup xs)->upd H1 dd (.frz o (.dK (ik kvs))) r=some (.tup xs):=λ{r xs} e=>by rw [zd (λz=>by rw [z,hd] at e;cases e)];exact e
 ac_rfl;refine ⟨o,ik kvs,by first|exact a0|rfl,zX.aO (SsI (upd H1 dd (.frz o (.dK (ik kvs)))) dd (.frz o (.dK (ik kvs))) ts) (λi τ ys H' I=>?_) (λi τ ys H' I=>I.fz) ⟨⟨_,rfl⟩,⟨[],rfl,.nil⟩,a0,zi.refl _⟩ ?_ ?_⟩
 .obtain ⟨as,e,G⟩:=I.ys;have:=ar G;have h2:=OO i ts;have:=ok.few;rw [e,MV];exact aW (by lia)
 .intro N i pv τ ys H' hp I hN;obtain ⟨t1,rfl⟩:=I.ex;obtain ⟨as,e,G⟩:=I.ys;unfold ik at hp;rw [Nh] at hp;obtain ⟨kv,Z,rfl⟩:=Nu.mp hp;have hi:i<ts.length:=by rw [<- lk];exact (MY.mp Z).1
  have YC:ts[i]?=some ts[i]:=l6 hi;obtain ⟨s1,a2,s2,s3⟩:=bG pr Z YC;have s3:=I.same _ _ (ab s3);have hv:zZ (ik kvs) (.inl ts[i].1)=some (.ref a2):=mx (by rw [lj pr];exact ok.nd) (by rw [<- s1,<- s2];exact Na Z);have ek:kV (Sum.inl kv.1:Key)=V.int ts[i].1:=by rw [<- s1];rfl
  show d9 0 (kV (Sum.inl kv.1:Key)) _ _ _;rw [ek];have ai:Rd H' dd (.dK (ik kvs)):=.inr ⟨o,I.fz⟩;ac_rfl;refine ⟨_,ai,_,hv,?_⟩;erw [s3,lg,lP];refine ⟨_,ai,_,hv,?_⟩;erw [s3,lg,lP];refine ⟨by decide,λp2 H2 n2=>hN _ _ _ ⟨⟨_,rfl⟩,⟨as++[p2],by rw [e,NI];rfl,?_⟩,n2.same _ _ I.fz,I.same.trans n2.same⟩⟩;rw [NW,YC];exact cY (Paired.wh G λa t r=>n2.same _ _ r) (.cons n2.at_ .nil)
 .intro τ ys H2 I D H3 n3;obtain ⟨as,e,G⟩:=I.ys;rw [lV,lk,Nz (zv _)] at G;rw [e] at n3;refine ⟨o,n3.same _ _ I.fz,?_⟩;have J:zi H1 (upd H3 dd (.dK (ik kvs))):=λc u eu=>by
   by_cases z:c=dd
   .subst z;rw [hd] at eu;cases eu;exact zx
   .rw [zd z];exact n3.same _ _ (I.same _ _ (by rw [zd z];exact eu))
  have Dd:D≠dd:=λz=>by have:=n3.no;rw [z,I.fz] at this;cases this
  have av:upd H3 dd (.dK (ik kvs)) D=some (.lst (as.map V.ref)):=by rw [zd Dd];exact n3.at_
  have ak:Paired (eZ (upd H3 dd (.dK (ik kvs)))) as ts:=Paired.wh G λa t r=>by
   have r:H2 a=_:=r;show upd H3 dd _ a=_;rw [zd (λz=>by rw [z,I.fz] at r;cases r)];exact n3.same _ _ r
  have D1:H1 D=none:=by
   cases eD:H1 D with
   | none=>rfl
   | some u =>
    have h3:=I.same D u (by rw [zd Dd];exact eD);rw [n3.no] at h3;cases h3
  have a8:Fr H D:=b1.fr P1 D1;have P4:=P1.same J;have W4:=W1.same J;have Xq:=XF.same J;have ag:=J _ _ hd;have Da:D≠a:=P1.ne D1;generalize upd H3 dd (.dK (ik kvs))=H4 at J av ak P4 W4 Xq ag;ac_rfl;refine ⟨a,dd,kvs,rfl,P4,ag,by rw [lk];exact ok.few,λpf b k t ks H5 b5 P5 F5=>?_⟩;have W5:=W4.SC P4 ap.d ap.s ap.c b5;refine ⟨a,p,wl,sl,sh,cells,shc,m,d,rfl,W5,P5,λz H6 b6 a7 P6 zk z0 z1=>⟨a,9,rfl,P6,by decide,by decide,λr H7 b7 P7 _ _=>?_⟩⟩;have Xp:aU a H4 H7:=((aU.but b5).trans b6).trans (.but b7);have F7:=(F5.UR P5 b6).UR P6 (.but b7);have a6:=a7.SC P6 b7;have aT:=Xp D (.lst (as.map V.ref)) Da (λ_=>nofun) av;have aj:Paired (eZ H7) as ts:=Paired.wh ak λc t r=>Xp.tup P4 r;intro x a5 H8 U;refine ⟨x,pf,D,a5,z,r,as,ts,rfl,U.at_,(F7.same U.same).fw,U.same _ _ aT,Paired.wh aj λc t r=>U.same _ _ r,ok,λH9 b9 S9 O9=>⟨rfl,by decide,λtp H10 O=>?_⟩⟩;have nx:∀{c:Addr}{o:HO},H7 c=some o->c≠x:=λ{c o} e z=>by have:=U.no;rw [<- z,e] at this;cases this
  have S:∀{c:Addr}{o:HO},H7 c=some o->H10 c=some o:=λ{c o} e=>O.same _ _ (b9 _ _ (nx e) (U.same _ _ e));have a3:TB A H9:=(a6.same U.same).lists b9.keeps λy hy=>by rw [M0] at hy;subst hy;exact .inr ⟨_,_,_,U.at_⟩
  have a4:Pot H10 a:=by obtain ⟨x',y',ea,rr⟩:=P7.ex;exact ⟨⟨x',y',S ea,rr⟩⟩
  refine q tp x D as ts z H10 O.at_ (λc o n no e=>S (Xp _ _ n no (J _ _ (b1 _ _ n no e)))) (a3.same O.same) a4 (S9.pL (.of O.same)) (O9.pL (.of O.same)) (S aT) (Paired.wh aj λc t r=>S r) a8 sm zk z0 z1
abbrev pa:Stmt:=top 47
abbrev o3:Stmt:=top 46
abbrev ow:Stmt:=top 45
def AN:Sp:=λvs H Q _=>∃a b:Nat,vs=[.int a,.int b]/\Q (.int (gcd a b)) H
structure GcI(H0:Hp)(g:Nat)(m:Nat)(σ:L2.St)(H':Hp):Prop where
 ex:∃x:Nat,σ=[some (V.int x),some (.int m)]/\gcd x m=g
 same:H'=H0
theorem uD:zw Wt Wt (zj pa):=fsc
theorem Lh(F:Fun K VY VY pa f fd)(T:Txt w K mg A):zm P w K mg base CX0 true 1 f fd Wt AN:=by
 refine F.o uD λO J outer s H vs Q E hr h=>?_;obtain ⟨a,b,rfl,q⟩:=h;have z:_<cLine:=Ny (zT hr);refine ⟨_,(W.h (ze (Et N9.never (tD (zI (clO (oE (gL z))) (clE (za 1)) (clE zl) (zD _)))
   (zg (Ba (i:=0) (j:=1) rfl uD.nd rfl rfl (by decide) rfl rfl (zb (za 1) (zb (zB (oI fQ) (za 0) (za 1)) zc)) rfl)))
   (zg (zu (za 0))))),?_⟩
 ac_rfl;unfold vT;refine ⟨GcI H (gcd a b),⟨b,⟨a,rfl,rfl⟩,rfl⟩,?_⟩;rintro m σ H' ⟨⟨x,rfl,hg⟩,rfl⟩;ac_rfl;by_cases hm:m=0
 .subst hm;rw [Nat.gcd_zero_right] at hg;subst hg;exact q
 .rw [decide_eq_false (show ¬ ((m:Nat):Int)=0 by lia)];refine ⟨GcI H' (gcd a b) (x % m),λG H' h=>⟨_,Nat.mod_lt _ (by lia),h⟩,?_⟩;exact ⟨by lia,⟨m,rfl,by rw [<- hg,Nat.gcd_comm m,<- Nat.gcd_rec,Nat.gcd_comm]⟩,rfl⟩
def bY(d:DM)(k:Nat):Option Int:=bj (λi=>((rIn (d.rows.getD k []) k (d.rows.getD k []).length).map zr).getD i 0) (rIn (d.rows.getD k []) k (d.rows.getD k []).length).length
def dR(n:Int)(o:Option Int):Int:=match o with|none=>n|some l=>n-l
def uN(A:zh):Sp:=λvs H Q _=>∃(p wl sl x:Addr)(cells:List Addr)(m:Int)(d:DM)(k:Nat)(ts:List T3)(n:Int),vs=[.ref p,.ref x,.int k]/\zE A H p wl sl cells m d/\cL d/\k<d.rows.length/\aS A H x ts n/\∀H',zi H H'->Q (.int (dR n (bY d k))) H'
theorem vf:zw ["disk","state","stretch","last"] Yr (zj o3):=fsc
theorem Dw(F:Fun K "age_of" "age_of" o3 f fd)(T:Txt w K mg A)(S:GF P w K mg base true 9 VM Xx (yt A))(J:GM P w K mg base true 1 A.State VZ Zn (oq A)):zm P w K mg base CX0 true 10 f fd Yr (uN A):=by
 refine F.o vf λZ0 Ar outer s H vs Q E hr h=>?_;obtain ⟨p,wl,sl,x,cells,m,d,k,ts,n,rfl,D,tx,Z,U,q⟩:=h;refine ⟨_,(W.h (ze (zz (i:=3) vf.nd rfl (M5 rfl) (caD (zq S hr rfl (clP (zb (za 0) (zb (za 2) zc))))))
   (zg (zu (kP (tD (zI (clO gN) (clE (za 3)) (clE aR) (zD _))) (m0D (bb (clE (za 1)) T.vr J hr)) (zB (oI0 gF) (m0D (bb (clE (za 1)) T.vr J hr)) (za 3))))))),?_⟩
 ac_rfl;refine ⟨p,wl,sl,cells,m,d,k,rfl,D,tx,Z,λH1 s1=>?_⟩;have G:=U.pL (.of s1);obtain ⟨dx,f1,dd,mm,kvs,O,_⟩:=id G.ex;have z:=q H1 s1;unfold bY at z;generalize bj (λi=>((rIn (d.rows.getD k []) k (d.rows.getD k []).length).map zr).getD i 0) (rIn (d.rows.getD k []) k (d.rows.getD k []).length).length=o at z ⊢;cases o with
 | none =>
  erw [oi,O,nv];exact ⟨x,ts,n,rfl,G,z⟩
 | some l =>
  erw [oi,O,nv];refine ⟨x,ts,n,rfl,G,?_⟩;ac_rfl;exact z
def al(ts:List T3)(k:Nat):Nat:=(pk ts k).length
theorem iX{k:Nat}(h:jm ts k ns):ns.length=al ts k:=by
 obtain ⟨ps,pm,_,rfl⟩:=h;rw [MV];exact pm.length_eq
def lq(A:zh):Sp:=λvs H Q _=>∃(p wl sl x:Addr)(cells:List Addr)(m:Int)(d:DM)(k:Nat)(ts:List T3)(n:Int),vs=[.ref p,.ref x,.int k]/\zE A H p wl sl cells m d/\cL d/\k<d.rows.length/\aS A H x ts n/\(al ts k:Int)<=m/\2<=m/\m<=32/\0<=dR n (bY d k) /\
 ∀tp (u l:Nat) H',zi H H'->(u:Int)=(m-al ts k)*dR n (bY d k)->(l:Int)=m+al ts k->H' tp=some (.tup [.int (u / gcd u l:Nat),.int (l / gcd u l:Nat)])->Q (.ref tp) H'
theorem iz:zw ["disk","state","stretch","many","upper","lower","divisor"] Yr (zj ow):=fsc
theorem CV(F:Fun K V8 V8 ow f fd)(T:Txt w K mg A)(Z2:GF P w K mg base true 2 V3 WM (ir A))(Z1:GM P w K mg base true 1 A.ub "places" Zn (d8 A λm _=>.int m))(Yn:GF P w K mg base true 10 "age_of" Yr (uN A))(ZC:GF P w K mg base true 1 VY Wt AN):zm P w K mg base CX0 true 11 f fd Yr (lq A):=by
 refine F.o iz λZ0 Ar outer s H vs Q E hr h=>?_;obtain ⟨p,wl,sl,x,cells,m,d,k,ts,n,rfl,D,tx,hk,Z,h1,h2,h3,h4,q⟩:=h;refine ⟨_,(W.h (ze (zz (i:=3) iz.nd rfl (M5 rfl) (zO bf rfl T.vx NA (zb (caD (zq Z2 hr rfl (clP (zb (za 1) (zb (za 2) zc))))) zc)))
   (ze (zz (i:=4) iz.nd rfl (M5 rfl) (zB dC (zB (oI0 gF) (m0D (bb (clE (za 0)) T.pw Z1 hr)) (za 3)) (caD (zq Yn hr rfl (clP (zb (za 0) (zb (za 1) (zb (za 2) zc))))))))
   (ze (zz (i:=5) iz.nd rfl (M5 rfl) (zB aF (m0D (bb (clE (za 0)) T.pw Z1 hr)) (za 3)))
   (ze (zz (i:=6) iz.nd rfl (M5 rfl) (caD (zq ZC hr rfl (clP (zb (za 4) (zb (za 5) zc))))))
   (zg (zu (aH (zb (zB (oI ot) (za 4) (za 6)) (zb (zB (oI ot) (za 5) (za 6)) zc)))))))))),?_⟩
 ac_rfl;refine ⟨x,ts,k,n,rfl,Z,λl ns H1 s1 l0 _ hl G=>?_⟩;have z:=D.pL (.of s1);obtain ⟨dx,g1⟩:=z.ob;erw [hl,g1,lJ];rw [MV,iX G];generalize eo:dR n (bY d k)=ag at h4 q;have u0:0<=(m-al ts k)*ag:=Int.mul_nonneg (by lia) h4;obtain ⟨u,U⟩:∃u:Nat,(u:Int)=(m-al ts k)*ag:=⟨((m-al ts k)*ag).toNat,Int.toNat_of_nonneg u0⟩;obtain ⟨v,O⟩:∃v:Nat,(v:Int)=m+al ts k:=⟨(m+al ts k).toNat,by lia⟩;have gp:0<gcd u v:=Qk _ (by lia);have gl:gcd u v<=v:=Nat.gcd_le_right _ (by lia);refine ⟨p,wl,sl,cells,m,d,rfl,z,p,wl,sl,x,cells,m,d,k,ts,n,rfl,z,tx,hk,Z.pL (.of s1),λH2 s2=>?_⟩;have J:=z.pL (.of s2);obtain ⟨Xj,g2⟩:=J.ob;rw [eo];erw [g2,lJ];refine ⟨.inl ⟨by lia,by lia⟩,p,wl,sl,cells,m,d,rfl,J,?_⟩;ac_rfl;rw [<- U,<- O];refine ⟨u,v,rfl,⟨⟨by lia,by lia⟩,⟨by lia,by lia⟩,by decide,λtp H3 S=>q tp u v H3 ((s1.trans s2).trans S.same) U O ?_⟩⟩;rw [S.at_];rfl
abbrev o7:Stmt:=top 49
abbrev ng:Stmt:=top 48
def Uw(d:DM)(ts:List T3)(n m:Int)(k:Nat):Int:=(m-al ts k)*dR n (bY d k)
def Lw(ts:List T3)(m:Int)(k:Nat):Int:=m+al ts k
def bet(d:DM)(ts:List T3)(n m:Int)(lst:Bool)(j i:Nat):Bool:=if lst=true then decide ((al ts j:Int)<al ts i) else decide (Uw d ts n m j*Lw ts m i>Uw d ts n m i*Lw ts m j)
def Wr(u l a b:Int):Prop:=∃g,0<g/\u=a*g/\l=b*g
theorem Wr.of{u l:Nat}(h:0<l):Wr u l (u / gcd u l:Nat) (l / gcd u l:Nat):=by
 refine ⟨(gcd u l:Nat),by have:=Qk u h;lia,?_,?_⟩
 .have:=Nat.div_mul_cancel (Nat.gcd_dvd_left u l);exact_mod_cast this.symm
 .have:=Nat.div_mul_cancel (Nat.gcd_dvd_right u l);exact_mod_cast this.symm
theorem oz(h:0<l):0<l / gcd u l/\l / gcd u l<=l:=⟨Nat.div_pos (Nat.gcd_le_right _ h) (Qk _ h),Sg ..⟩
theorem Wr.UP(h:Wr u l a b)(h':Wr G l' a' z):decide (a*z>a'*b)=decide (u*l'>G*l):=by
 obtain ⟨g,O,rfl,rfl⟩:=h;obtain ⟨g',F,rfl,rfl⟩:=h';have S:a*g*(z*g')=a*z*(g*g'):=by rw [RM,RM,Int.mul_left_comm g]
 have U:a'*g'*(b*g)=a'*b*(g*g'):=by rw [RM,RM,Int.mul_left_comm g',Int.mul_comm g' g]
 rw [S,U];have J:=Int.mul_pos O F;rw [decide_eq_decide];exact ⟨λh=>Re h J,λh=>Int.lt_of_mul_lt_mul_right h (Int.le_of_lt J)⟩
theorem GI{k:Nat}(G:k<d.rows.length)(h:bY d k=some m):∃t∈nU d,zr t=m:=by
 unfold bY at h;have F:∀t∈rIn (d.rows.getD k []) k (d.rows.getD k []).length,t∈nU d:=λt z=>by
  rw [cI];rw [qS] at z;obtain ⟨i,h1,h2,h3⟩:=iH.mp z;rw [cO,h3];refine ⟨by rw [bS];exact G,?_,?_⟩
  .show i<((rdR d.rows).getD k []).length;rw [bW,MV];exact h1
  .show ((rdR d.rows).getD k []).getD i none=_;rw [bW];exact h2
 generalize rIn (d.rows.getD k []) k (d.rows.getD k []).length=L at h F;by_cases J:L.length=0
 .rw [J] at h;cases h
 .obtain ⟨i,hi,e,_⟩:=mI (λi=>(L.map zr).getD i 0) L.length (by lia);rw [e] at h;have h:=NG.inj h;rw [MW,Nh,l6 hi] at h;exact ⟨L[i],F _ (NP hi),h⟩
theorem lR{k:Nat}(F:k<d.rows.length)(hn:∀t∈nU d,zr t<n)(n0:0<n):0<=dR n (bY d k):=by
 cases e:bY d k with
 | none=>show 0<=n;lia
 | some l =>
  obtain ⟨t,z,G⟩:=GI F e;have:=hn t z;show 0<=n-l;lia
structure Ask(A:zh)(H:Hp)(p x:Addr)(m:Int)(d:DM)(ts:List T3)(n:Int):Prop where
 yz:∃wl sl cells,zE A H p wl sl cells m d
 st:aS A H x ts n
 ok:DOk d
 al:∀k,(al ts k:Int)<=m
 m2:2<=m
 m32:m<=32
 hn:∀t∈nU d,zr t<n
 n0:0<n
theorem Ask.pL{p x:Addr}(h:Ask A H p x m d ts n)(s:zA H H'):Ask A H' p x m d ts n:=by
 obtain ⟨wl,sl,cells,D⟩:=h.yz;exact ⟨⟨wl,sl,cells,D.pL s⟩,h.st.pL s,h.ok,h.al,h.m2,h.m32,h.hn,h.n0⟩
def yU(A:zh):Sp:=λvs H Q _=>∃(p x:Addr)(m:Int)(d:DM)(ts:List T3)(n:Int)(kd:Str)(j i:Nat),vs=[.ref p,.ref x,.str kd,.int j,.int i]/\Ask A H p x m d ts n/\j<d.rows.length/\i<d.rows.length/\∀H',zi H H'->Q (.bl (bet d ts n m (decide (kd="least")) j i)) H'
theorem iL:zw ["disk","state","kind","stretch","other","upper","lower","other_upper","other_lower"] WK (zj o7):=fsc
theorem A4(F:Fun K "is_better" "is_better" o7 f fd)(T:Txt w K mg A)(Z2:GF P w K mg base true 2 V3 WM (ir A))(ZE:GF P w K mg base true 11 V8 Yr (lq A)):zm P w K mg base CX0 true 12 f fd WK (yU A):=by
 refine F.o iL λZ0 Ar outer s H vs Q E hr h=>?_;obtain ⟨p,x,m,d,ts,n,kd,j,i,rfl,a,hj,hi,q⟩:=h;have hu:_<cLine:=Ny (zT hr);refine ⟨_,(W.h (ze (zL (tD (zI (clO (oE (aX hu))) (clE (za 2)) (clE zF) (zD _)))
   (zg (zu (cz (oI0 fg) (zO bf rfl T.vx NA (zb (caD (zq Z2 hr rfl (clP (zb (za 1) (zb (za 3) zc))))) zc)) (zO bf rfl T.vx NA (zb (caD (zq Z2 hr rfl (clP (zb (za 1) (zb (za 4) zc))))) zc)) (zD _))))
   zQ)
   (ze (cj (caD (zq ZE hr rfl (clP (zb (za 0) (zb (za 1) (zb (za 3) zc)))))) (cM (n:=2) (gsD (zJ (zy (i:=5) iL.nd rfl (M5 rfl)) (gsD (zJ (zy (i:=6) iL.nd rfl (M5 rfl)) bC))))))
   (ze (cj (caD (zq ZE hr rfl (clP (zb (za 0) (zb (za 1) (zb (za 4) zc)))))) (cM (n:=2) (gsD (zJ (zy (i:=7) iL.nd rfl (M5 rfl)) (gsD (zJ (zy (i:=8) iL.nd rfl (M5 rfl)) bC))))))
   (zg (zu (cz (oI0 gR) (zB dC (za 5) (za 8)) (zB dC (za 7) (za 6)) (zD _)))))))),?_⟩
 obtain ⟨wl,sl,cells,D⟩:=a.yz;ac_rfl;by_cases hk:kd=("least":Str)
 .rw [decide_eq_true hk] at q ⊢;ac_rfl;refine ⟨x,ts,j,n,rfl,a.st,λl ns H1 s1 l0 _ hl h1=>?_⟩;erw [hl];refine ⟨x,ts,i,n,rfl,a.st.pL (.of s1),λl' ns' H2 s2 _ _ S h2=>?_⟩;erw [S];rw [MV,MV,iX h1,iX h2];exact q H2 (s1.trans s2)
 .rw [decide_eq_false hk] at q ⊢;ac_rfl;refine ⟨p,wl,sl,x,cells,m,d,j,ts,n,rfl,D,a.ok.tx,hj,a.st,a.al j,a.m2,a.m32,lR hj a.hn a.n0,λtp u l H1 s1 eu el J=>?_⟩;have m2:=a.m2;have m32:=a.m32;have aj:=a.al j;have ai:=a.al i;have w1:Wr (Uw d ts n m j) (Lw ts m j) (u / gcd u l:Nat) (l / gcd u l:Nat):=by rw [show Uw d ts n m j=u from eu.symm,show Lw ts m j=l from el.symm];exact Wr.of (by lia)
  have b1:l / gcd u l<=l:=Sg ..;refine ⟨tp,_,rfl,SqT.of J,rfl,?_⟩;ac_rfl;refine ⟨p,wl,sl,x,cells,m,d,i,ts,n,rfl,D.pL (.of s1),a.ok.tx,hi,a.st.pL (.of s1),a.al i,a.m2,a.m32,lR hi a.hn a.n0,λU G l' H2 s2 Z O z=>?_⟩;have w2:Wr (Uw d ts n m i) (Lw ts m i) (G / gcd G l':Nat) (l' / gcd G l':Nat):=by rw [show Uw d ts n m i=G from Z.symm,show Lw ts m i=l' from O.symm];exact Wr.of (by lia)
  have b2:l' / gcd G l'<=l':=Sg ..;refine ⟨U,_,rfl,SqT.of z,rfl,?_⟩;ac_rfl;refine ⟨.inr ⟨by lia,by lia⟩,.inr ⟨by lia,by lia⟩,?_⟩;have q2:=q H2 (s1.trans s2);have e:bet d ts n m false j i=decide (Uw d ts n m j*Lw ts m i>Uw d ts n m i*Lw ts m j):=rfl;rw [e,<- w1.UP w2] at q2;exact q2
def stp(bt:Nat->Nat->Bool)(f:Option Nat)(s:Nat):Option Nat:=match f with|none=>some s|some g=>if bt s g=true then some s else some g
def bst(bt:Nat->Nat->Bool)(l:List Nat):Option Nat:=l.foldl (stp bt) none
noncomputable def cl(d:DM):List Nat:=clo (lnD d) (ay d true) (ay d false) d.rows.length
theorem nG{k:Nat}(h:k∈cl d):k<d.rows.length:=(gP.mp h).1
theorem uA:∀{l:List Nat}{f:Option Nat}{k:Nat},l.foldl (stp bt) f=some k->k∈l\/f=some k
 | [],f,k,h=>.inr h
 | s::l,f,k,h=>by
  rcases uA (l:=l) h with h|h
  .exact .inl (M7 _ h)
  .cases f with
   | none=>cases h;exact .inl (Nm ..)
   | some g =>
    unfold stp at h;dsimp only at h;split at h
    .cases h;exact .inl (Nm ..)
    .exact .inr h
structure BsI(H:Hp)(p x:Addr)(kd:Str)(bt:Nat->Nat->Bool)(C:List Nat)(i:Nat)(σ:L2.St)(H':Hp):Prop where
 ex:∃t,σ=[some (V.ref p),some (.ref x),some (.str kd),some (ov (bst bt (C.take i))),t]
 same:zi H H'
def AQ(A:zh):Sp:=λvs H Q _=>∃(p x:Addr)(m:Int)(d:DM)(ts:List T3)(n:Int)(kd:Str),vs=[.ref p,.ref x,.str kd]/\Ask A H p x m d ts n/\TB A H/\∀H',zA H H'->TB A H'->Q (ov (bst (bet d ts n m (decide (kd="least"))) (cl d))) H'
theorem kC:zw ["disk","state","kind","found","stretch"] Wk (zj ng):=fsc
theorem Mw(F:Fun K "best" "best" ng f fd)(T:Txt w K mg A)(ZM:GF P w K mg base true 11 "closed" Wy (lB A))(YU:GF P w K mg base true 12 "is_better" WK (yU A)):zm P w K mg base CX0 true 13 f fd Wk (AQ A):=by
 refine F.o kC λZ0 Ar outer s H vs Q E hr h=>?_;obtain ⟨p,x,m,d,ts,n,kd,rfl,a,tb,q⟩:=h;refine ⟨_,(W.h (ze (zz (i:=3) kC.nd rfl (M5 rfl) aR)
   (ze (bh N9.never (λ_=>rfl) (liD (bU (clE (caD (zq ZM hr rfl (clP (zb (za 0) zc))))))) (zy (i:=4) kC.nd rfl (M5 rfl))
   (zg (zL (cy (kN (tD (zI (clO gN) (clE (za 3)) (clE aR) (zD _))) (jx (aO (caD (zq YU hr rfl (clP (zb (za 0) (zb (za 1) (zb (za 2) (zb (za 4) (zb (za 3) zc))))))))))))
   (zg (zz (i:=3) kC.nd rfl (M5 rfl) (za 4)))
   zQ)))
   (zg (zu (za 3)))))),?_⟩
 obtain ⟨wl,sl,cells,D⟩:=a.yz;have few:=a.ok.few;ac_rfl;refine ⟨p,wl,sl,cells,m,d,rfl,D,a.ok.tx,a.ok.nd,by lia,tb,λl H1 s1 Z f1 _ hl=>?_⟩;have J:∀k∈cl d,k<d.rows.length:=λk h=>nG h;change H1 l=some (.lst ((cl d).map iv)) at hl;generalize O:bet d ts n m (decide (kd=("least":Str)))=bt at q;generalize cl d=C at hl J q;ac_rfl;refine ⟨⟨_,SqL.of hl⟩,ao.lst (xs:=C.map iv) (BsI H1 p x kd bt C) ⟨⟨_,rfl⟩,zi.refl _⟩ (λi σ H' _ I=>SqL.of (I.same _ _ hl)) ?_ ?_⟩
 .rintro i v σ H2 S ⟨⟨t,rfl⟩,s2⟩;rw [Nh] at S;obtain ⟨k,U,rfl⟩:=Nu.mp S;have G:=Na U;have et:bst bt (C.take (i+1))=stp bt (bst bt (C.take i)) k:=by
   unfold bst;rw [NW,U,List.foldl_append];rfl
  have a2:=a.pL (s1.trans (.of s2));have hb:∀g,bst bt (C.take i)=some g->g<d.rows.length:=λg e=>by
   rcases uA e with h|h
   .exact J g (PY h)
   .cases h
  show d9 4 (.int k) _ _ _;have nx:∀(u:Option V) H3,zi H2 H3->∀o,o=stp bt (bst bt (C.take i)) k->BsI H1 p x kd bt C (i+1) [some (V.ref p),some (.ref x),some (.str kd),some (ov o),u] H3:=λu H3 z o e=>⟨⟨u,by rw [et,e]⟩,s2.trans z⟩;generalize bst bt (C.take i)=o at hb nx;cases o with
  | none =>
   erw [ov];exact nx _ H2 (zi.refl _) (some k) rfl
  | some g =>
   erw [ov];refine ⟨p,x,m,d,ts,n,kd,k,g,rfl,a2,J k G,hb g rfl,λH3 z=>?_⟩;rw [O];ac_rfl;exact zY (λh=>nx _ H3 z (some k) (by unfold stp;dsimp only;rw [if_pos h])) λh=>nx _ H3 z (some g) (by unfold stp;dsimp only;rw [if_neg h])
 .rintro σ H2 ⟨⟨t,rfl⟩,s2⟩;ac_rfl;rw [MV,Nz (zv _)];exact q H2 (s1.trans (.of s2)) (Z.same s2)
abbrev qG:Stmt:=top 75
abbrev rH:Stmt:=top 76
abbrev mW:Stmt:=top 77
structure Ord(bt:Nat->Nat->Bool):Prop where
 as:∀a b,bt a b=true->bt b a=false
 nt:∀a b c,bt a b=false->bt b c=false->bt a c=false
theorem C2(hm:2<=m)(lst:Bool):Ord (bet d ts n m lst):=by
 have G:∀k,0<Lw ts m k:=λk=>by unfold Lw;lia
 cases lst with
 | true =>
  refine ⟨λa b h=>?_,λa b c h1 h2=>?_⟩
  .have h:decide ((al ts a:Int)<al ts b)=true:=h;show decide ((al ts b:Int)<al ts a)=false;have:=of_decide_eq_true h;exact decide_eq_false (by lia)
  .have h1:decide ((al ts a:Int)<al ts b)=false:=h1;have h2:decide ((al ts b:Int)<al ts c)=false:=h2;show decide ((al ts a:Int)<al ts c)=false;have:=of_decide_eq_false h1;have:=of_decide_eq_false h2;exact decide_eq_false (by lia)
 | false =>
  refine ⟨λa b h=>?_,λa b c h1 h2=>?_⟩
  .have h:=of_decide_eq_true (show decide (Uw d ts n m a*Lw ts m b>Uw d ts n m b*Lw ts m a)=true from h);exact decide_eq_false (λz=>by lia)
  .have h1:=Int.not_lt.mp (of_decide_eq_false (show decide (Uw d ts n m a*Lw ts m b>Uw d ts n m b*Lw ts m a)=false from h1));have h2:=Int.not_lt.mp (of_decide_eq_false (show decide (Uw d ts n m b*Lw ts m c>Uw d ts n m c*Lw ts m b)=false from h2));have U:=G a;have O:=G b;have c0:=G c;refine decide_eq_false (Int.not_lt.mpr ?_);generalize Uw d ts n m a=J at h1 ⊢;generalize Uw d ts n m b=W at h1 h2;generalize Uw d ts n m c=S at h2 ⊢;generalize Lw ts m a=la at h1 U ⊢;generalize Lw ts m b=lb at h1 h2 O;generalize Lw ts m c=F at h2 c0 ⊢;have g1:=Pk h1 (Int.le_of_lt c0);have Z:=Pk h2 (Int.le_of_lt U);have e1:W*la*F=W*F*la:=Rz ..;have e2:J*lb*F=J*F*lb:=Rz ..;have e3:S*lb*la=S*la*lb:=Rz ..;rw [e1,e2] at g1;rw [e3] at Z;exact Int.le_of_mul_le_mul_right (Int.le_trans g1 Z) O
def Top(bt:Nat->Nat->Bool)(k:Nat)(l:List Nat):Prop:=∀r∈l,bt r k=false/\(r<k->bt k r=true)
theorem yP(o:Ord bt):∀{l:List Nat}{pre:List Nat}{f:Option Nat}{k:Nat},(pre++l).Pairwise (· < ·)->(∀g,f=some g->g∈pre/\Top bt g pre)->(f=none->pre=[])->l.foldl (stp bt) f=some k->k∈pre++l/\Top bt k (pre++l)
 | [],pre,f,k,_,h,_,e=>by rw [Oz];exact h k e
 | s::l,pre,f,k,O,h,W,e=>by
  have Z:pre++s::l=(pre++[s])++l:=by rw [PK];rfl
  rw [Z] at O ⊢;have lt:∀r∈pre,r<s:=λr hr=>(Qn.mp (Qn.mp O).1).2.2 r hr s (M0.mpr rfl);have J:∀{x:Nat},bt x x=false:=λ{x}=>by
   cases e:bt x x with
   | false=>rfl
   | true=>have:=o.as _ _ e;rw [e] at this;cases this
  refine yP o O (λg F=>?_) (λz=>?_) e
  .cases f with
   | none =>
    cases F;rw [W rfl];refine ⟨M0.mpr rfl,λr hr=>?_⟩;cases M0.mp hr;exact ⟨J,λz=>absurd z (ND _)⟩
   | some U =>
    obtain ⟨hf,S⟩:=h U rfl;unfold stp at F;dsimp only at F;split at F
    .rename_i hb;cases F;refine ⟨Nk _ (M0.mpr rfl),λr hr=>?_⟩;rcases NF.mp hr with hr|hr
     .have G:bt s r=true:=by
       cases e:bt s r with
       | true=>rfl
       | false=>have:=o.nt _ _ _ e (S r hr).1;rw [hb] at this;cases this
      exact ⟨o.as _ _ G,λ_=>G⟩
     .cases M0.mp hr;exact ⟨J,λz=>absurd z (ND _)⟩
    .rename_i hb;cases F;refine ⟨N0 _ hf,λr hr=>?_⟩;rcases NF.mp hr with hr|hr
     .exact S r hr
     .cases M0.mp hr;exact ⟨by simpa using hb,λz=>absurd (lt _ hf) (Nat.lt_asymm z)⟩
  .cases f with
   | none=>cases z
   | some U=>unfold stp at z;dsimp only at z;split at z<;>cases z
theorem MU(o:Ord bt)(z:l.Pairwise (· < ·)){k:Nat}(e:bst bt l=some k):k∈l/\Top bt k l:=yP (pre:=[]) o z (λg h=>by cases h) (λ_=>rfl) e
theorem DQ(e:bst bt l=none):l=[]:=by
 have:∀(l:List Nat)(f:Nat),l.foldl (stp bt) (some f)≠none:=λl=>by
  induction l with
  | nil=>exact λf h=>by cases h
  | cons s l z =>
   intro f;show l.foldl (stp bt) (if bt s f=true then some s else some f)≠none;split
   .exact z s
   .exact z f
 cases l with
 | nil=>rfl
 | cons s l=>exact absurd e (this l s)
theorem yk:∀{l:List Nat}{f:Option Nat},(∀a∈l,∀b,b∈l\/f=some b->bt a b=z a b)->l.foldl (stp bt) f=l.foldl (stp z) f
 | [],_,_=>rfl
 | s::l,f,h=>by
  have e:stp bt f s=stp z f s:=by
   cases f with
   | none=>rfl
   | some g=>unfold stp;dsimp only;rw [h s (Nm ..) g (.inr rfl)]
  rw [QM,QM,e];refine yk λa ha b hb=>h a (M7 _ ha) b ?_;rcases hb with hb|hb
  .exact .inl (M7 _ hb)
  .cases f with
   | none=>cases hb;exact .inl (Nm ..)
   | some g =>
    unfold stp at hb;dsimp only at hb;split at hb<;>cases hb
    .exact .inl (Nm ..)
    .exact .inr rfl
theorem o6:∀n,(clo z F G n).Pairwise (· < ·)
 | 0=>.nil
 | n+1=>by
  show (clo z F G n++_).Pairwise _;refine Qn.mpr ⟨o6 n,by split<;>simp,λa ha b hb=>?_⟩;have:=(gP.mp ha).1;split at hb
  .rw [M0] at hb;lia
  .cases hb
def Chn(bt:Nat->Nat->Bool)(ks:List Nat):Prop:=∀i a b,ks[i]?=some a->ks[i+1]?=some b->bt b a=false/\(b<a->bt a b=true)
theorem Chn.snoc{k:Nat}(h:Chn bt ks)(hl:∀a,ks.getLast?=some a->bt k a=false/\(k<a->bt a k=true)):Chn bt (ks++[k]):=λi a b ha hb=>by
 have z:=(MY.mp hb).1;rw [Nt] at z;have z:i+1<ks.length+1:=z;by_cases hi:i+1<ks.length
 .rw [OJ (by lia)] at ha hb;exact h i a b ha hb
 .have e:i+1=ks.length:=by lia
  rw [OJ (by lia)] at ha;rw [e,OB (zv _),Se] at hb;cases hb;refine hl a ?_;rw [List.getLast?_eq_getElem?,<- ha];congr 1;lia
--PROG
theorem vk:∀{l:List Nat}{i:Nat}(h:i<l.length),(l[i]::l.eraseIdx i).Perm l
 | _::_,0,_=>.refl _
 | a::l,i+1,h=>by
  have h':i<l.length:=by simpa using h
  show (l[i]::a::l.eraseIdx i).Perm (a::l);exact (O2.swap ..).trans ((vk h').cons a)
theorem DOk.rows(h:DOk d)(e:d'.rows=d.rows):DOk d':=by
 have en:nU d'=nU d:=by unfold nU;rw [e]
 exact ⟨⟨by rw [e];exact h.tx.ok,by rw [e];exact h.tx.len⟩,by rw [en];exact h.nd,by rw [en];exact h.few,by rw [en];exact h.pos,by rw [en];exact h.row⟩
theorem zA.keeps(s:zA G H)(k:zt F H H')(f:∀x∈F,Fr G x):zA G H':=λb o n e=>k b o (s b o n e) λz=>f b z o n e
theorem SqL.pL{K:Frag}(s:zA H H')(h:SqL K H a xs):SqL K H' a xs:=by
 rcases h with (h|⟨o,h⟩)|h
 .exact .inl (.inl (s.list h))
 .exact .inl (.inr ⟨o,s _ _ (λ_=>nofun) h⟩)
 .exact .inr h
theorem zA.UR(s:zA F H)(k:aU a H H')(f:Fr F a):zA F H':=λb o n e=>k b o (λz=>f o n (by rw [<- z];exact e)) n (s b o n e)
theorem G9{A:zh}{H:Hp}{x p dx dp f d wl sl:Addr}(h:H x=some (.ins A.State dx (cW f d n m)))(h':H p=some (.ins A.ub dp (zH G wl sl F))):x≠p:=λz=>by
 rw [z,h'] at h;have h:=NG.inj h;simp only [HO.ins.injEq,zH,cW,List.cons.injEq,Prod.mk.injEq] at h;exact absurd h.2.2.1.1 (f!"")
theorem aS.yz{A:zh}{x p wl sl:Addr}(h:aS A H x ts n)(D:zE A H p wl sl cells m G)(b:zt (p::wl::sl::cells) H H'):aS A H' x ts n:=by
 obtain ⟨dx,f,d,W,kvs,F,U,J⟩:=h.ex;obtain ⟨dp,ep⟩:=D.ob;have out:∀{c:Addr}{o:HO},H c=some o->(∀xs,o≠.lst xs)->(∀C dx fs,o≠.ins C dx fs)->H' c=some o:=λ{c o} e O S=>b _ _ e λz=>by
  rcases D.lists c z with ⟨xs,q⟩|⟨C,dx,fs,q⟩
  .rw [q] at e;cases e;exact O _ rfl
  .rw [q] at e;cases e;exact S _ _ _ rfl
 refine ⟨⟨dx,f,d,W,kvs,b _ _ F λz=>?_,out U (λ_=>nofun) (λ_ _ _=>nofun),Paired.wh J λp t r=>r.keep λr xs e=>out e (λ_=>nofun) (λ_ _ _=>nofun)⟩,h.ok⟩;rcases MX.mp z with z|z
 .exact G9 F ep z
 .have hx:=M7 p z;rcases MX.mp z with rfl|z
  .rw [D.rows.w] at F;cases F
  .rcases MX.mp z with rfl|z
   .rw [D.J7] at F;cases F
   .obtain ⟨i,hi,rfl⟩:=NQ z;rw [D.rows.at_ i _ (l6 hi)] at F;cases F
theorem sW{k:Nat}(U:F k=0)(h1:∀j,j≠k->F j=O j):∀n,clo F G J n=(clo O G J n).filter (·≠k)
 | 0=>rfl
 | n+1=>by
  show clo F G J n++_=(clo O G J n++_).filter _;rw [List.filter_append,sW U h1 n];congr 1;by_cases S:n=k
  .subst S;rw [if_neg (λz=>z.1 U)];split<;>simp
  .rw [h1 n S];split
   .simp [S]
   .rfl
theorem pO:∀n,(clo F G J n).Nodup
 | 0=>nodup_nil
 | n+1=>by
  show (clo F G J n++_).Nodup;rw [Pp];refine ⟨pO n,by split<;>simp,λa ha b hb z=>?_⟩;have:=(gP.mp ha).1;split at hb
  .rw [M0] at hb;lia
  .cases hb
theorem vb{k:Nat}:∀{l:List Nat}{i:Nat},l.Nodup->l[i]?=some k->l.eraseIdx i=l.filter (·≠k)
 | [],_,_,h=>by simp at h
 | x::l,0,nd,h=>by
  simp at h;subst h;obtain ⟨F,_⟩:=Ob.mp nd;show l=_;rw [OM (by simp)];exact (List.filter_eq_self.mpr λy G=>by simp;exact λz=>F (z ▸ G)).symm
 | x::l,i+1,nd,h=>by
  obtain ⟨F,J⟩:=Ob.mp nd;have h':l[i]?=some k:=by simpa using h
  show x::l.eraseIdx i=_;rw [vb J h',OL (by simp;exact λz=>F (z ▸ Na h'))]
theorem yn{k:Nat}(h:DOk d)(G:k<d.rows.length)(he:ay d hot≠some k):ay (d.cleared k c) hot=ay d hot:=by
 refine Jv (o8 (c:=c) h G).nd (uE _ hot) ?_;have F:=uE d hot;cases e:ay d hot with
 | none=>rw [e] at F;exact λt S=>F t ((gZ G).mp S).1
 | some n =>
  rw [e] at F he;obtain ⟨t,g1,U,J,O⟩:=F;exact ⟨t,(gZ G).mpr ⟨g1,λz=>he (by rw [<- J,z])⟩,U,J,λt' W=>O t' ((gZ G).mp W).1⟩
theorem LK{k i:Nat}(h:DOk d)(hi:(clo (lnD d) (ay d true) (ay d false) d.rows.length)[i]?=some k):clo (lnD (d.cleared k c)) (ay (d.cleared k c) true) (ay (d.cleared k c) false) (d.cleared k c).rows.length=(clo (lnD d) (ay d true) (ay d false) d.rows.length).eraseIdx i:=by
 obtain ⟨h1,h2,h3,h4⟩:=gP.mp (Na hi);have z:(d.cleared k c).rows.length=d.rows.length:=Ov ..;rw [yn h h1 h3,yn h h1 h4,z,vb (pO _) hi];refine sW ?_ (λj F=>?_) _
 .show ((d.rows.set k []).getD k []).length=0;rw [cF h1,if_pos rfl];rfl
 .show ((d.rows.set k []).getD j []).length=_;rw [cF h1,if_neg F];rfl
def pI:Sp:=λvs H Q _=>∃(t1 t2:Addr)(a b a' z:Int),vs=[.ref t1,.ref t2]/\H t1=some (.tup [.int a,.int b])/\H t2=some (.tup [.int a',.int z])/\0<b/\b<100/\0<z/\z<100/\Q (.bl (decide (a*z>a'*b))) H
theorem L7:zw WZ WZ (zj qG):=fsc
theorem AV(F:Fun K VQ VQ qG f fd)(T:Txt w K mg A):zm P w K mg base CX0 true 1 f fd WZ pI:=by
 refine F.o L7 λZ0 Ar outer s H vs Q E hr h=>?_;obtain ⟨t1,t2,a,b,a',z,rfl,h1,h2,U,Z,G,O,q⟩:=h;refine ⟨_,(W.h (zg (zu (cz (oI0 gR) (zB dC (zK zP (za 0) zl (λ_ _=>rfl)) (zK zP (za 1) zl (λ_ _=>rfl))) (zB dC (zK zP (za 1) zl (λ_ _=>rfl)) (zK zP (za 0) zl (λ_ _=>rfl))) (zD _))))),?_⟩;have i0:atI [V.int a,.int b] 0=some (.int a):=rfl;have i1:atI [V.int a,.int b] 1=some (.int b):=rfl;have J:atI [V.int a',.int z] 0=some (.int a'):=rfl;have S:atI [V.int a',.int z] 1=some (.int z):=rfl;erw [h1,h2,i0,i1,J,S];exact ⟨.inr ⟨by lia,by lia⟩,.inr ⟨by lia,by lia⟩,q⟩
def fG(d:DM)(ts:List T3)(n m:Int)(H:Hp)(e:Addr)(k:Nat):Prop:=∃(q:Addr)(a b:Int),H e=some (.tup [.int k,.ref q,.int (al ts k:Nat)])/\H q=some (.tup [.int a,.int b])/\Wr (Uw d ts n m k) (Lw ts m k) a b/\0<b/\b<100
theorem fG.keep{k:Nat}(h:fG d ts n m H e k)(kp:∀r xs,H r=some (.tup xs)->H' r=some (.tup xs)):fG d ts n m H' e k:=by
 obtain ⟨q,a,b,z,F,r⟩:=h;exact ⟨q,a,b,kp _ _ z,kp _ _ F,r⟩
theorem rf{k:Nat}(h:d'.rows.getD k []=d.rows.getD k []):bY d' k=bY d k:=by unfold bY;rw [h]
structure Em(A:zh)(H0 H':Hp)(p' x fl:Addr)(d:DM)(ts:List T3)(n m:Int)(bt:Nat->Nat->Bool)(i:Nat):Prop where
 ex:∃(wl sl:Addr)(cells es:List Addr)(di:DM)(ks:List Nat),zE A H' p' wl sl cells m di/\(∀y∈p'::wl::sl::cells,Fr H0 y/\y≠fl)/\DOk di/\(∀t∈nU di,t∈nU d)/\di.rows.length=d.rows.length/\small di/\di.left=none/\di.st=false/\ks.length=i/\(ks++cl di).Perm (cl d)/\(∀k∈cl di,di.rows.getD k []=d.rows.getD k [])/\Chn bt ks/\(∀a,ks.getLast?=some a->Top bt a (cl di))/\H' fl=some (.lst (es.map V.ref))/\Paired (fG d ts n m H') es ks
 st:aS A H' x ts n
 same:zA H0 H'
 tb:TB A H'
structure EmI(A:zh)(H0:Hp)(p x p' fl:Addr)(kd:Str)(d:DM)(ts:List T3)(n m:Int)(bt:Nat->Nat->Bool)(i:Nat)(σ:L2.St)(H':Hp):Prop where
 ex:∃t1 t2 t3,σ=[some (V.ref p),some (.ref x),some (.str kd),some (.ref p'),some (.ref fl),t1,t2,t3]
 em:Em A H0 H' p' x fl d ts n m bt i
def Aj(A:zh):Sp:=λvs H Q _=>∃(p x:Addr)(m:Int)(d:DM)(ts:List T3)(n:Int)(kd:Str),vs=[.ref p,.ref x,.str kd]/\Ask A H p x m d ts n/\small d/\3<=d.rows.length/\d.rows.length<=16/\TB A H /\
 ∀(fl:Addr)(es:List Addr)(ks:List Nat) H',zA H H'->TB A H'->Fr H fl->H' fl=some (.lst (es.map V.ref))->Paired (fG d ts n m H') es ks->ks.Perm (cl d)->Chn (bet d ts n m (decide (kd="least"))) ks->Q (.ref fl) H'
theorem hZ:zw ["_law_disk_here","_law_state_here","_law_kind","_law_other","_law_found","_law_turn_here","_law_stretch","_law_many"] WY (zj rH):=fsc
theorem C9(F:Fun K VT VT rH f fd)(T:Txt w K mg A)(ZR:GM P w K mg base true 5 A.ub V4 Zn (p0 A))(Z7:GM P w K mg base true 1 A.ub V6 Zn (d8 A λ_ d=>.int d.rows.length))(XA:GF P w K mg base true 13 "best" Wk (AQ A))(Z2:GF P w K mg base true 2 V3 WM (ir A))(ZE:GF P w K mg base true 11 V8 Yr (lq A))(ZW:GMX P w K mg base true 2 A.ub "empty" Yc (kX A)):zm P w K mg base CX0 true 14 f fd WY (Aj A):=by
 refine F.o hZ λZ0 Ar outer s H vs Q E hr h=>?_;obtain ⟨p,x,m,d,ts,n,kd,rfl,a,a9,h3,bx,tb,q⟩:=h;have hu:_<cLine:=Ny (zT hr);refine ⟨_,(W.h (ze (zz (i:=3) hZ.nd rfl (M5 rfl) (m0D (bb (clE (za 0)) T.pw ZR hr)))
   (ze (zz (i:=4) hZ.nd rfl (M5 rfl) (aA zc))
   (ze (bh N9.never (λ_=>rfl) (ef rfl T.z4 (zb (zB aF (m0D (bb (clE (za 0)) T.pw Z7 hr)) zl) zc)) (zy (i:=5) hZ.nd rfl (M5 rfl))
   (ze (zz (i:=6) hZ.nd rfl (M5 rfl) (caD (zq XA hr rfl (clP (zb (za 3) (zb (za 1) (zb (za 2) zc)))))))
   (ze (zL (tD (zI (clO gN) (clE (za 6)) (clE aR) (zD _)))
   (zg (zu (za 4)))
   zQ)
   (ze (zz (i:=7) hZ.nd rfl (M5 rfl) (zO bf rfl T.vx NA (zb (caD (zq Z2 hr rfl (clP (zb (za 1) (zb (za 6) zc))))) zc)))
   (ze (aw (fN (za 4) (aH (zb (za 6) (zb (caD (zq ZE hr rfl (clP (zb (za 3) (zb (za 1) (zb (za 6) zc)))))) (zb (za 7) zc))))))
   (zg (aw (mXD (hU (clE (za 3)) T.pw jX ZW hr (clP (zb (za 6) zc)))))))))))
   (zg (zu aR)))))),?_⟩
 obtain ⟨av,a4,XD,D0⟩:=a.yz;obtain ⟨bB,g0⟩:=D0.ob;erw [g0,vU];refine ⟨p,av,a4,XD,m,d,rfl,D0,h3,bx,a.m2,a.m32,λp' wl sl cells H1 D1 s1 f1=>?_⟩;ac_rfl;refine ⟨NV _,λfl H2 n2 _=>?_⟩;have s2:=s1.trans n2.same;have g2:=s2 _ _ g0;erw [g2,il];refine ⟨p,av,a4,XD,m,d,rfl,D0.pL (.of s2),?_⟩;ac_rfl;have er:((d.rows.length:Int)+1).toNat=d.rows.length+1:=by lia
 rw [er];have aT:H fl=none:=s1.free n2.no;have bq:∀y∈p'::wl::sl::cells,Fr H y/\y≠fl:=λy J=>by
  refine ⟨λo _ e=>(by rw [f1 y J] at e;cases e),λz=>?_⟩;have:=n2.no;rw [<- z] at this;rcases D1.lists y J with ⟨xs,e⟩|⟨C,dx,fs,e⟩ <;> · rw [e] at this;cases this
 generalize a0:bet d ts n m (decide (kd=("least":Str)))=bt at q;have ob:Ord bt:=a0 ▸ C2 a.m2 _;refine ⟨by lia,by lia,ao.rng (EmI A H p x p' fl kd d ts n m bt) ⟨⟨_,_,_,rfl⟩,⟨⟨wl,sl,cells,[],d.copy,[],D1.pL (.of n2.same),bq,a.ok.rows rfl,λt ht=>ht,rfl,a9,rfl,rfl,rfl,O2.refl _,λ_ _=>rfl,λi a b h=>by simp at h,λa h=>by simp at h,n2.at_,.nil⟩,a.st.pL (.of s2),.of s2,tb.same s2⟩⟩ ?_ ?_⟩
 .rintro i σ H3 hi ⟨⟨t1,t2,t3,rfl⟩,⟨⟨wl,sl,cells,es,di,ks,D,fr,ok,sub,len,sm,lf,U,kl,pm,same,ch,top,hf,pr⟩,S,WT,XT⟩⟩;have ai:Ask A H3 p' x m di ts n:=⟨⟨wl,sl,cells,D⟩,S,ok,a.al,a.m2,a.m32,λt ht=>a.hn t (sub t ht),a.n0⟩;ac_rfl;refine ⟨p',x,m,di,ts,n,kd,rfl,ai,XT,λH4 s4 Xq=>?_⟩;have eb:bst (bet di ts n m (decide (kd=("least":Str)))) (cl di)=bst bt (cl di):=yk λu hu v hv=>by
   have hv:v∈cl di:=hv.elim id λz=>by cases z
   rw [<- a0];unfold bet Uw;rw [rf (same u hu),rf (same v hv)]
  rw [eb];have ag:Paired (fG d ts n m H4) es ks:=Paired.wh pr λ_ _ r=>r.keep λ_ _ e=>s4.tup e;have a5:=s4.list hf;have a3:=WT.trans s4;cases e:bst bt (cl di) with
  | none =>
   have e0:=DQ e;rw [e0,Oz] at pm;erw [ov];exact q fl es ks H4 a3 Xq (λo _ z=>(by rw [aT] at z;cases z)) a5 ag pm ch
  | some k =>
   obtain ⟨hk,a8⟩:=MU ob (o6 _) e;have O:k<di.rows.length:=nG hk;erw [ov];refine ⟨x,ts,k,n,rfl,S.pL s4,λl ns H5 s5 l0 _ hl bp=>?_⟩;erw [hl];rw [MV,iX bp];have D5:=(D.pL s4).pL (.of s5);have S5:=(S.pL s4).pL (.of s5);have aj:=s5 _ _ a5;have bL:=ar ag;refine ⟨⟨_,aj⟩,p',wl,sl,x,cells,m,di,k,ts,n,rfl,D5,ok.tx,O,S5,a.al k,a.m2,a.m32,lR O ai.hn a.n0,λtw u l' H6 s6 eu el ba=>⟨by decide,λe7 H7 n7=>⟨_,n7.same _ _ (s6 _ _ aj),by rw [MV];exact aW (by lia),?_⟩⟩⟩;have G:=s6.trans n7.same;have ab:=G _ _ aj;have D8:=(D5.pL (.of G)).keep (zt.upd (F:=[fl]) (x:=fl) (o:=.lst (es.map V.ref++[V.ref e7])) (by simp)) (λy J z=>(fr y J).2 (M0.mp z));have S8:=(S5.pL (.of G)).lst ab (But.upd (o:=.lst (es.map V.ref++[V.ref e7])));obtain ⟨bc,g8⟩:=D8.ob;refine ⟨bc,_,g8,my,p',wl,sl,cells,m,di,k,rfl,D8,O,sm,(λl e=>by rw [lf] at e;cases e),λH9 D9 b9=>?_⟩;rw [tO lf U] at D9 ⊢;have m2:=a.m2;have m32:=a.m32;have ak:=a.al k;have bA:l'<=64:=by lia
   have vp:=oz (u:=u) (l:=l') (by lia);obtain ⟨j,hj⟩:=PZ hk;have ec:cl (di.cleared k (di.cnt+(di.rows.getD k []).length))=(cl di).eraseIdx j:=LK ok hj;have er:∀{r},r∈cl (di.cleared k (di.cnt+(di.rows.getD k []).length))->r∈cl di:=λ{r} h=>by rw [ec] at h;exact List.mem_of_mem_eraseIdx h
   have Z:∀r xs,H7 r=some (.tup xs)->H9 r=some (.tup xs):=λr xs e=>D8.tup b9 (by rw [zd (λz=>by rw [z,ab] at e;cases e)];exact e);have a6:TB A (upd H7 fl (.lst (es.map V.ref++[V.ref e7]))):=((Xq.same s5).same G).put ab;refine ⟨⟨_,_,_,rfl⟩,⟨⟨wl,sl,cells,es++[e7],_,ks++[k],D9,fr,o8 ok O,λt ht=>sub t ((gZ O).mp ht).1,(Ov ..).trans len,λi=>?_,lf,U,by rw [Nt,kl];rfl,?_,λr hr=>?_,ch.snoc λc hc=>top c hc k hk,λc hc r hr=>?_,?_,?_⟩,S8.yz D8 b9,?_,a6.lists b9 D8.lists⟩⟩
   .show ((di.rows.set k []).getD i []).length<=1000;rw [cF O];split
    .exact NV _
    .exact sm i
   .obtain ⟨a7,ej⟩:=MY.mp hj;rw [ec,PK];refine O2.trans (O2.append_left ks ?_) pm;rw [<- ej];exact vk a7
   .have Zw:r≠k:=λz=>(gP.mp hr).2.1 (by rw [z];show ((di.rows.set k []).getD k []).length=0;rw [cF O,if_pos rfl];rfl);show (di.rows.set k []).getD r []=_;rw [cF O,if_neg Zw];exact same r (er hr)
   .rw [QZ] at hc;cases hc;exact a8 r (er hr)
   .rw [b9 _ _ zx (λz=>(fr fl z).2 rfl),NI];rfl
   .refine cY (Paired.wh ag λ_ _ r=>r.keep λr xs e=>Z _ _ (G _ _ (s5 _ _ e))) (.cons ⟨tw,_,_,Z _ _ n7.at_,Z _ _ (n7.same _ _ ba),?_,by lia,by lia⟩ .nil);have e1:Uw d ts n m k=u:=by rw [eu];unfold Uw;rw [rf (same k hk)]
    rw [e1,show Lw ts m k=l' from el.symm];exact Wr.of (by lia)
   .refine (zA.keeps (F:=[fl]) (a3.trans (.of (s5.trans G))) (zt.upd (by simp)) (λy J o _ e=>by cases M0.mp J;rw [aT] at e;cases e)).keeps b9 λy J=>(fr y J).1
 .rintro σ H3 ⟨⟨t1,t2,t3,rfl⟩,⟨⟨wl,sl,cells,es,di,ks,D,fr,ok,sub,len,sm,lf,U,kl,pm,_⟩,_⟩⟩;have h1:=pm.length_eq;have h2:(cl d).length<=d.rows.length:=jl ..;rw [Nt] at h1;lia
abbrev jH:Stmt:=top 78
abbrev nO:Stmt:=top 79
theorem Ld(l:List V):aY l (some 1) none=l.drop 1:=by
 cases l with
 | nil=>rfl
 | cons x l=>exact v3
structure OrI(H:Hp)(fl:Addr)(kd:Str)(i:Nat)(σ:L2.St)(H':Hp):Prop where
 ex:∃t1 t2 t3 t4 t5 t6 t7 t8,σ=[some (V.ref fl),some (.str kd),t1,t2,t3,t4,t5,t6,t7,t8]
 same:zi H H'
def sU:Sp:=λvs H Q _=>∃(fl:Addr)(es:List Addr)(ks:List Nat)(kd:Str)(d:DM)(ts:List T3)(n m:Int),vs=[.ref fl,.str kd]/\H fl=some (.lst (es.map V.ref))/\Paired (fG d ts n m H) es ks/\ks.Nodup/\Chn (bet d ts n m (decide (kd="least"))) ks/\(kd="least"\/kd=V8)/\es.length<=20/\∀H',zi H H'->Q (.bl true) H'
theorem eM:zw ["_law_found","_law_kind","_law_one","_law_two","_law_stretch","_law_own","_law_many","_law_later","_law_other","_law_more_here"] Wq (zj mW):=fsc
theorem JO(F:Fun K VU VU mW f fd)(T:Txt w K mg A)(ZT:GF P w K mg base true 1 VQ WZ pI):zm P w K mg base CX0 true 2 f fd Wq sU:=by
 refine F.o eM λZ0 Ar outer s H vs Q E hr h=>?_;obtain ⟨fl,es,ks,kd,d,ts,n,m,rfl,hf,pr,nd,ch,av,aT,q⟩:=h;have hu:_<cLine:=Ny (zT hr);refine ⟨_,(W.h (ze (bh N9.never (λ_=>rfl) (Kq rfl T.Vt (zb (za 0) (zb (dY fC (za 0) (dW zl) eG) zc))) (cM (n:=2) (gsD (zJ (zy (i:=2) eM.nd rfl (M5 rfl)) (gsD (zJ (zy (i:=3) eM.nd rfl (M5 rfl)) bC)))))
   (ze (cj (za 2) (cM (n:=3) (gsD (zJ (zy (i:=4) eM.nd rfl (M5 rfl)) (gsD (zJ (zy (i:=5) eM.nd rfl (M5 rfl)) (gsD (zJ (zy (i:=6) eM.nd rfl (M5 rfl)) bC))))))))
   (ze (cj (za 3) (cM (n:=3) (gsD (zJ (zy (i:=7) eM.nd rfl (M5 rfl)) (gsD (zJ (zy (i:=8) eM.nd rfl (M5 rfl)) (gsD (zJ (zy (i:=9) eM.nd rfl (M5 rfl)) bC))))))))
   (ze (zL (cy (dM (tD (zI (clO (oE (aX hu))) (clE (za 1)) (clE zF) (zD _))) (dQ (aO (caD (zq ZT hr rfl (clP (zb (za 8) (zb (za 5) zc)))))))))
   (zg (zu bz))
   zQ)
   (ze (zL (cy (dM (tD (zI (clO (oE (aX hu))) (clE (za 1)) (clE zF) (zD _))) (dM (tD (zI (clO (oI0 fg)) (clE (za 7)) (clE (za 4)) (zD _))) (dQ (dA (aO (caD (zq ZT hr rfl (clP (zb (za 5) (zb (za 8) zc)))))))))))
   (zg (zu bz))
   zQ)
   (zg (zL (cy (dM (tD (zI (clO (oE (aX hu))) (clE (za 1)) (clE zF) (zD _))) (dQ (tD (zI (clO (Hu hu)) (clE (aH (zb (za 9) (zb (za 7) zc)))) (clE (aH (zb (za 6) (zb (za 4) zc)))) (zD _))))))
   (zg (zu bz))
   zQ)))))))
   (zg (zu bz)))),?_⟩
 ac_rfl;refine ⟨_,hf,λl2 H2 O=>?_⟩;rw [Ld] at O;have Z:=O.same _ _ hf;have Z6:=ar pr;refine ⟨⟨_,SqL.of Z⟩,⟨_,SqL.of O.at_⟩,ao.ax (xs:=es.map V.ref) (ys:=(es.map V.ref).drop 1) (by rw [Qv];lia) (OrI H2 fl kd) ⟨⟨_,_,_,_,_,_,_,_,rfl⟩,zi.refl _⟩ (λi σ H' _ I=>⟨SqL.of (I.same _ _ Z),SqL.of (I.same _ _ O.at_)⟩) ?_ ?_⟩
 .rintro i v1 v2 pp σ H3 ai XG ⟨⟨t1,t2,t3,t4,t5,t6,t7,t8,rfl⟩,s3⟩ hp;rw [Rx,Nat.add_comm] at XG;rw [Nh] at ai XG;obtain ⟨e1,ak,rfl⟩:=Nu.mp ai;obtain ⟨e2,ag,rfl⟩:=Nu.mp XG;have hi:i+1<ks.length:=by rw [<- Z6];exact (MY.mp ag).1
  have J:ks[i]?=some (ks[i]'(by lia)):=l6 _;have Yb:ks[i+1]?=some ks[i+1]:=l6 hi;have Zw:ks[i]'(by lia)≠ks[i+1]:=λz=>by
   have:=(Qy (by lia) nd).mp (show ks[i]?=ks[i+1]? by rw [J,Yb,z]);lia
  have hc:=ch i _ _ J Yb;obtain ⟨q1,a1,b1,g1,ab,w1,p1,r1⟩:=bG pr ak J;obtain ⟨q2,a2,b2,g2,aj,w2,p2,r2⟩:=bG pr ag Yb;generalize ks[i]'(by lia)=k1 at *
  generalize ks[i+1]=k2 at *
  have U:New H3 pp (.tup [.ref e1,.ref e2]) (upd H3 pp (.tup [.ref e1,.ref e2])):=.mk' hp;generalize upd H3 pp (.tup [.ref e1,.ref e2])=H4 at U ⊢;have S:zi H H4:=(O.same.trans s3).trans U.same;refine ⟨pp,_,rfl,SqT.of U.at_,rfl,?_⟩;ac_rfl;refine ⟨e1,_,rfl,SqT.of (S _ _ g1),rfl,?_⟩;ac_rfl;refine ⟨e2,_,rfl,SqT.of (S _ _ g2),rfl,?_⟩;have x1:decide (("least":Str)=V8)=false:=by decide +kernel
  have x2:decide ((V8:Str)=V8)=true:=by decide +kernel
  have x3:decide ((V8:Str)="least")=false:=by decide +kernel
  have x4:decide (("least":Str)="least")=true:=by decide +kernel
  rcases av with rfl|rfl
  .rw [x4] at hc;have c1:decide ((al ts k2:Int)<al ts k1)=false:=hc.1;have c1:=of_decide_eq_false c1;have c2:k2<k1->(al ts k1:Int)<al ts k2:=λz=>of_decide_eq_true (hc.2 z);erw [x1,x4];refine ⟨by decide,λu H5 n5=>⟨by decide,λv H6 n6=>⟨[(al ts k2:Int),k2],SqT.of (n6.same _ _ n5.at_),[(al ts k1:Int),k1],SqT.of n6.at_,?_⟩⟩⟩;have e:HT.lexLe [(al ts k2:Int),k2] [(al ts k1:Int),k1]=false:=by
    show (if (al ts k2:Int)=al ts k1 then (if (k2:Int)=k1 then true else decide ((k2:Int)<=k1)) else decide ((al ts k2:Int)<=al ts k1))=false;by_cases z:(al ts k2:Int)=al ts k1
    .rw [if_pos z];have : ¬ k2<k1:=λy=>by have:=c2 y;lia
     rw [if_neg (by lia),decide_eq_false (by lia)]
    .rw [if_neg z,decide_eq_false (by lia)]
   rw [e];ac_rfl;exact ⟨⟨_,_,_,_,_,_,_,_,rfl⟩,((s3.trans U.same).trans n5.same).trans n6.same⟩
  .rw [x3] at hc;have c1:decide (a2*b1>a1*b2)=false:=by rw [w2.UP w1];exact hc.1
   have c2:k2<k1->decide (a1*b2>a2*b1)=true:=λz=>by rw [w1.UP w2];exact hc.2 z
   erw [x2,x3];refine ⟨q2,q1,a2,b2,a1,b1,rfl,S _ _ aj,S _ _ ab,p2,r2,p1,r1,?_⟩;rw [c1];erw [x2,x3];have G:∀H5,zi H4 H5->OrI H2 fl V8 (i+1) [some (V.ref fl),some (V.str V8),some (V.ref e1),some (V.ref e2),some (V.int k1),some (V.ref q1),some (V.int (al ts k1:Nat)),some (V.int k2),some (V.ref q2),some (V.int (al ts k2:Nat))] H5:=λH5 s5=>⟨⟨_,_,_,_,_,_,_,_,rfl⟩,(s3.trans U.same).trans s5⟩;refine zY (λ_=>?_) λh=>G H4 (zi.refl _);refine zY (λh=>?_) λh=>G H4 (zi.refl _);refine ⟨q1,q2,a1,b1,a2,b2,rfl,S _ _ ab,S _ _ aj,p1,r1,p2,r2,?_⟩;rw [c2 (by have:=of_decide_eq_true h;lia)];erw [x2,x3];exact G H4 (zi.refl _)
 .rintro σ H3 ⟨⟨t1,t2,t3,t4,t5,t6,t7,t8,rfl⟩,s3⟩;ac_rfl;exact q H3 (O.same.trans s3)
abbrev oA:Stmt:=top 80
theorem iY(l:List Nat):(l.map iv).all zV=true:=NM.mpr λx hx=>by
 obtain ⟨n,_,rfl⟩:=OU.mp hx;rfl
theorem xh(l:List Nat):eqL (l.map iv) (l.map iv)=true:=y8 (iY l) λx hx b=>by
 obtain ⟨n,_,rfl⟩:=OU.mp hx;exact nofun
theorem qB:∀(n:Nat)(l:List Int),l.Nodup->(∀x∈l,0<=x/\x<n)->l.length<=n
 | 0,l,_,h=>by
  cases l with
  | nil=>exact zv _
  | cons x l=>have:=h x (Nm ..);lia
 | n+1,l,nd,h=>by
  by_cases hn:(n:Int)∈l
  .have:=qB n (l.erase n) (nd.erase _) λx hx=>by
    have h1:=(List.Nodup.mem_erase_iff nd).mp hx;have:=h x h1.2;have:=h1.1;lia
   rw [List.length_erase_of_mem hn] at this;lia
  .have:=qB n l nd λx hx=>by
    have:=h x hx;have:x≠n:=λz=>hn (z ▸ hx);lia
   lia
theorem Lj(J:SpM d ts)(wide:∀i,((d.rows.getD i []).length:Int)<=m)(k:Nat):(al ts k:Int)<=m:=by
 refine Int.le_trans (Int.ofNat_le.mpr ?_) (wide k);unfold al pk;rw [MV,<- MV (f:=λt:T3=>t.2.2)];refine qB _ _ (Ou.mpr (((Ou.mp J.nd).filter _).imp_of_mem λ{a b} ha hb z e=>z ?_)) λx hx=>?_
 .obtain ⟨t,G,rfl⟩:=OU.mp hx;obtain ⟨G,F⟩:=Ro.mp G;have F:=of_decide_eq_true F;obtain ⟨s,hs,es⟩:=J.at_ t G;rw [es] at F ⊢;rw [cI] at hs;have h1:=(cO.mp hs).2.1;have F:s.2.1=k:=by have:(s.2.1:Int)=k:=F;lia
  rw [F,bW,MV] at h1;exact ⟨by show (0:Int)<=(s.2.2:Nat);lia,by show ((s.2.2:Nat):Int)<_;lia⟩
 .have h1:=of_decide_eq_true (Ro.mp ha).2;have h2:=of_decide_eq_true (Ro.mp hb).2;exact Prod.ext (h1.trans h2.symm) e
theorem xq(l:List Nat):l.map iv=(l.map λn:Nat=>(n:Int)).map V.int:=by rw [NL];rfl
theorem Gu(d:DM):((cl d).map λn:Nat=>(n:Int)).Pairwise (·<=·):=Ou.mpr ((o6 _).imp λ{a b}(h:a<b)=>by lia)
theorem KL{o:Option Int}:dR z o=dR n o+(z-n):=by
 cases o with
 | none=>show z=n+(z-n);lia
 | some l=>show z-l=n-l+(z-n);lia
structure WkI(A:zh)(H:Hp)(p x l0:Addr)(i:Nat)(σ:L2.St)(H':Hp):Prop where
 ex:∃t1 t2,σ=[some (V.ref p),some (.ref x),some (.ref l0),t1,t2]
 same:zA H H'
 tb:TB A H'
structure FsI(H:Hp)(ks:List Nat)(i:Nat)(τ:L2.St)(ys:List V)(H':Hp):Prop where
 ex:∃t,τ=[t]
 ys:ys=(ks.take i).map iv
 same:H'=H
def xO(A:zh):Sp:=λvs H Q _=>∃(p x:Addr)(m:Int)(d:DM)(ts:List T3)(n:Int),vs=[.ref p,.ref x]/\Ask A H p x m d ts n/\small d/\3<=d.rows.length/\d.rows.length<=16/\TB A H/\∀H',zA H H'->TB A H'->Q (.bl true) H'
theorem kW:zw WI WG (zj jH):=fsc
theorem G5:bw { kind:=.function,names:=[(yv ".0",.local),(yv "_law_one",.local)],isGenerator:=false,isCoroutine:=false,more:=[] } (zj jH).names WI ["_law_one"] [none]=true:=by decide +kernel
theorem DR:(["_law_one"]:List Str).Nodup:=by decide +kernel
theorem Hr(F:Fun K VL VL jH f fd)(T:Txt w K mg A)(ZM:GF P w K mg base true 11 "closed" Wy (lB A))(Zt:GF P w K mg base true 14 VT WY (Aj A))(ZA:GF P w K mg base true 2 VU Wq sU):zm P w K mg base CX0 true 15 f fd WG (xO A):=by
 refine F.o kW λZ0 Ar outer s H vs Q E hr h=>?_;obtain ⟨p,x,m,d,ts,n,rfl,a,aj,h3,ag,tb,q⟩:=h;have hu:_<cLine:=Ny (zT hr);refine ⟨_,(W.h (ze (zz (i:=2) kW.nd rfl (M5 rfl) (caD (zq ZM hr rfl (clP (zb (za 0) zc)))))
   (ze (bh N9.never (λ_=>rfl) (liD (bU (clE (aA (zb zF (zb zF zc)))))) (zy (i:=3) kW.nd rfl (M5 rfl))
   (ze (zz (i:=4) kW.nd rfl (M5 rfl) (caD (zq Zt hr rfl (clP (zb (za 0) (zb (za 1) (zb (za 3) zc)))))))
   (ze (zL (cy (kN (tD (zI (clO gN) (clE (za 4)) (clE aR) (zD _))) (jx (tD (zI (clO (oE (gL hu))) (clE (zO LW rfl T.Q2 QV (zb (dE (λ_=>rfl) (aB.of G5) (liD (bU (clE (za 4)))) (λ_ _ _ _ _=>(zy (i:=0) DR rfl (M5 rfl))) (λ_ _ _ _ _=>du) (λ_ _ _ _ _=>(zK zP (za 0) zl (λ_ _=>rfl)))) zc))) (clE (za 2)) (zD _))))))
   (zg (zu bz))
   zQ)
   (zg (zL (dA (aO (caD (zq ZA hr rfl (clP (zb (za 4) (zb (za 3) zc)))))))
   (zg (zu bz))
   zQ)))))
   (zg (zu (cz (oE (aX hu)) (caD (zq ZM hr rfl (clP (zb (za 0) zc)))) (za 2) (zD _))))))),?_⟩
 obtain ⟨wl,sl,cells,D⟩:=a.yz;have few:=a.ok.few;have a4:(cl d).length<=16:=Nx (jl ..) ag;ac_rfl;refine ⟨p,wl,sl,cells,m,d,rfl,D,a.ok.tx,a.ok.nd,by lia,tb,λl0 H1 s1 XF f1 _ hl=>?_⟩;change H1 l0=some (.lst ((cl d).map iv)) at hl;ac_rfl;refine ⟨by decide,λlk H2 J _=>?_⟩;refine ⟨⟨_,SqL.of J.at_⟩,ao.lst (xs:=[.str V8,.str "least"]) (WkI A H2 p x l0) ⟨⟨_,_,rfl⟩,zA.refl,XF.same J.same⟩ (λi σ H' _ I=>SqL.of (I.same.list J.at_)) ?_ ?_⟩
 .rintro i v σ H3 hv ⟨⟨t1,t2,rfl⟩,S,XT⟩;obtain ⟨kd,rfl,ak⟩:∃kd:Str,v = .str kd/\(kd="least"\/kd=V8):=by
   have:=Na hv;simp only [MX,M1,or_false] at this;rcases this with h|h
   .exact ⟨_,h,.inr rfl⟩
   .exact ⟨_,h,.inl rfl⟩
  have WT:=(s1.trans (.of J.same)).trans S;have a3:=a.pL WT;ac_rfl;refine ⟨p,x,m,d,ts,n,kd,rfl,a3,aj,h3,ag,XT,λfl es ks H4 Z Xq a5 O pr pm ch=>?_⟩;have Z6:=ar pr;have XB:=pm.length_eq;have G:=Z.list (S.list (J.same _ _ hl));ac_rfl;refine ⟨⟨_,SqL.of O⟩,zX.lst (xs:=es.map V.ref) (FsI H4 ks) (λi τ ys H' I=>?_) (λi τ ys H' I=>by rw [I.same];exact SqL.of O) ⟨⟨_,rfl⟩,rfl,rfl⟩ ?_ ?_⟩
  .rw [I.ys,MV];exact aW (by have:=OO i ks;lia)
  .intro N i v τ ys H' hv I hN;obtain ⟨t,rfl⟩:=I.ex;have e:=I.same;subst e;rw [Nh] at hv;obtain ⟨e0,ab,rfl⟩:=Nu.mp hv;have hi:i<ks.length:=by rw [<- Z6];exact (MY.mp ab).1
   have ai:ks[i]?=some ks[i]:=l6 hi;obtain ⟨q0,a0,b0,g0,_⟩:=bG pr ab ai;have i0:atI [V.int ks[i],.ref q0,.int (al ts ks[i]:Nat)] 0=some (.int ks[i]):=rfl;erw [g0,i0];exact hN _ _ _ ⟨⟨_,rfl⟩,by rw [I.ys,NW,ai,NI];rfl,rfl⟩
  .intro τ ys H' I D2 H5 n5;have e:=I.same;subst e;have U:=I.ys;rw [MV,Z6,Nz (zv _)] at U;rw [U,xq] at n5;rw [xZ];refine ⟨_,n5.at_,by rw [MV];lia,λl6 ms H6 n6 av aT=>?_⟩;have em:ms=(cl d).map λn:Nat=>(n:Int):=(av.trans (pm.map _)).eq_of_pairwise (λa b _ _ h1 h2=>Int.le_antisymm h1 h2) aT (Gu d);subst em;rw [<- xq] at n6;have z:=n5.same.trans n6.same;rw [vd];refine ⟨_,_,n6.at_,z _ _ G,iY _,iY _,?_⟩;rw [xh];ac_rfl;refine ⟨fl,es,ks,kd,d,ts,n,m,rfl,z _ _ O,Paired.wh pr λ_ _ r=>r.keep λ_ _ e=>z _ _ e,pm.nodup_iff.mpr (pO _),ch,ak,by lia,λH7 s7=>?_⟩;ac_rfl;exact ⟨⟨_,_,rfl⟩,(S.trans Z).trans (.of (z.trans s7)),Xq.same (z.trans s7)⟩
 .rintro σ H3 ⟨⟨t1,t2,rfl⟩,S,XT⟩;have WT:=(s1.trans (.of J.same)).trans S;ac_rfl;refine ⟨p,wl,sl,cells,m,d,rfl,D.pL WT,a.ok.tx,a.ok.nd,by lia,XT,λl4 H4 Z Xq f4 _ G=>?_⟩;change H4 l4=some (.lst ((cl d).map iv)) at G;ac_rfl;refine ⟨_,G,_,Z.list (S.list (J.same _ _ hl)),iY _,iY _,?_⟩;rw [xh];exact q H4 (WT.trans Z) Xq
structure GrI(H:Hp)(p x y:Addr)(i:Nat)(σ:L2.St)(H':Hp):Prop where
 ex:∃t1 t2 t3 t4,σ=[some (V.ref p),some (.ref x),some (.ref y),t1,t2,t3,t4]
 same:zi H H'
def yo(A:zh):Sp:=λvs H Q _=>∃(p x y:Addr)(m:Int)(d:DM)(ts:List T3)(n z:Int),vs=[.ref p,.ref x,.ref y]/\Ask A H p x m d ts n/\aS A H y ts z/\n<z/\TB A H/\∀H',zA H H'->TB A H'->Q (.bl true) H'
theorem iG:zw ["_law_disk_here","_law_state_here","_law_later","_law_stretch","_law_own","_law_other","_law_many"] Xc (zj nO):=fsc
theorem Fc(F:Fun K "_law_grows" "_law_grows" nO f fd)(T:Txt w K mg A)(ZM:GF P w K mg base true 11 "closed" Wy (lB A))(ZE:GF P w K mg base true 11 V8 Yr (lq A))(ZT:GF P w K mg base true 1 VQ WZ pI)(Z2:GF P w K mg base true 2 V3 WM (ir A))(Z1:GM P w K mg base true 1 A.ub "places" Zn (d8 A λm _=>.int m)):zm P w K mg base CX0 true 12 f fd Xc (yo A):=by
 refine F.o iG λZ0 Ar outer s H vs Q E hr h=>?_;obtain ⟨p,x,y,m,d,ts,n,O,rfl,a,Y,lt,tb,q⟩:=h;refine ⟨_,(W.h (ze (bh N9.never (λ_=>rfl) (liD (bU (clE (caD (zq ZM hr rfl (clP (zb (za 0) zc))))))) (zy (i:=3) iG.nd rfl (M5 rfl))
   (ze (zz (i:=4) iG.nd rfl (M5 rfl) (caD (zq ZE hr rfl (clP (zb (za 0) (zb (za 1) (zb (za 3) zc)))))))
   (ze (zz (i:=5) iG.nd rfl (M5 rfl) (caD (zq ZE hr rfl (clP (zb (za 0) (zb (za 2) (zb (za 3) zc)))))))
   (ze (zL (aO (caD (zq ZT hr rfl (clP (zb (za 4) (zb (za 5) zc))))))
   (zg (zu bz))
   zQ)
   (ze (zz (i:=6) iG.nd rfl (M5 rfl) (zO bf rfl T.vx NA (zb (caD (zq Z2 hr rfl (clP (zb (za 1) (zb (za 3) zc))))) zc)))
   (zg (zL (cy (dM (tD (zI (clO (oI0 fg)) (clE (za 6)) (clE (m0D (bb (clE (za 0)) T.pw Z1 hr))) (zD _))) (dQ (dA (aO (caD (zq ZT hr rfl (clP (zb (za 5) (zb (za 4) zc))))))))))
   (zg (zu bz))
   zQ)))))))
   (zg (zu bz)))),?_⟩
 obtain ⟨wl,sl,cells,D⟩:=a.yz;have few:=a.ok.few;ac_rfl;refine ⟨p,wl,sl,cells,m,d,rfl,D,a.ok.tx,a.ok.nd,by lia,tb,λl0 H1 s1 XF f1 _ hl=>?_⟩;change H1 l0=some (.lst ((cl d).map iv)) at hl;ac_rfl;refine ⟨⟨_,SqL.of hl⟩,ao.lst (xs:=(cl d).map iv) (GrI H1 p x y) ⟨⟨_,_,_,_,rfl⟩,zi.refl _⟩ (λi σ H' _ I=>SqL.of (I.same _ _ hl)) ?_ ?_⟩
 .rintro i v σ H2 hv ⟨⟨t1,t2,t3,t4,rfl⟩,s2⟩;rw [Nh] at hv;obtain ⟨k,hk,rfl⟩:=Nu.mp hv;have XB:k<d.rows.length:=nG (Na hk);have J:=s1.trans (.of s2);have a2:=a.pL J;have m2:=a.m2;have m32:=a.m32;have ak:=a.al k;have D2:=D.pL J;have ag:=lR XB a.hn a.n0;have ab:dR O (bY d k)=dR n (bY d k)+(O-n):=KL;show d9 3 (.int k) _ _ _;ac_rfl;refine ⟨p,wl,sl,x,cells,m,d,k,ts,n,rfl,D2,a.ok.tx,XB,a2.st,ak,m2,m32,ag,λt1 u1 l1 H3 s3 a0 a4 U=>?_⟩;refine ⟨p,wl,sl,y,cells,m,d,k,ts,O,rfl,D2.pL (.of s3),a.ok.tx,XB,(Y.pL J).pL (.of s3),ak,m2,m32,by lia,λt2 u2 Z H4 s4 aj a5 Xa=>?_⟩;have w1:=Wr.of (u:=u1) (l:=l1) (by lia);have w2:=Wr.of (u:=u2) (l:=Z) (by lia);have p1:=oz (u:=u1) (l:=l1) (by lia);have p2:=oz (u:=u2) (l:=Z) (by lia);have S:(Z:Int)=l1:=by lia
  have uu:(u2:Int)=u1+(m-al ts k)*(O-n):=by rw [aj,ab,Int.mul_add,<- a0]
  have up:0<=(m-al ts k)*(O-n):=Int.mul_nonneg (by lia) (by lia);have c1:decide ((u1:Int)*Z>u2*l1)=false:=by
   rw [S];exact decide_eq_false (Int.not_lt.mpr (Pk (by lia) (by lia)))
  have c2:(al ts k:Int)<m->decide ((u2:Int)*l1>u1*Z)=true:=λz=>by
   rw [S];have:0<(m-al ts k)*(O-n):=Int.mul_pos (by lia) (by lia);exact decide_eq_true (Re (by lia) (by lia))
  rw [<- w1.UP w2] at c1;rw [<- w2.UP w1] at c2;ac_rfl;refine ⟨t1,t2,_,_,_,_,rfl,s4 _ _ U,Xa,by lia,by lia,by lia,by lia,?_⟩;rw [c1];ac_rfl;have G:=(s2.trans s3).trans s4;refine ⟨x,ts,k,n,rfl,a.st.pL (s1.trans (.of G)),λl ns H5 s5 _ _ av ai=>?_⟩;have aT:=s1.trans (.of (G.trans s5));have D5:=D.pL aT;obtain ⟨a3,g5⟩:=D5.ob;erw [av,g5,lJ];rw [MV,iX ai];refine ⟨p,wl,sl,cells,m,d,rfl,D5,?_⟩;ac_rfl;refine zY (λh=>?_) λh=>⟨⟨_,_,_,_,rfl⟩,G.trans s5⟩;refine ⟨t2,t1,_,_,_,_,rfl,s5 _ _ Xa,s5 _ _ (s4 _ _ U),by lia,by lia,by lia,by lia,?_⟩;rw [c2 (of_decide_eq_true h)];ac_rfl;exact ⟨⟨_,_,_,_,rfl⟩,G.trans s5⟩
 .rintro σ H2 ⟨⟨t1,t2,t3,t4,rfl⟩,s2⟩;ac_rfl;exact q H2 (s1.trans (.of s2)) (XF.same s2)
structure FJ(A:zh)(H0:Hp)(sc:V)(i:Nat)(σ:L2.St)(H':Hp):Prop where
 ex:∃t1 t2 t3 t4 t5 t6 t7,σ=[some sc,t1,t2,t3,t4,t5,t6,t7]
 same:zA H0 H'
 tb:TB A H'
def jD(t1 t2:Addr)(K:Frag):Sp:=λvs H Q _=>∃(a:Addr)(ns:List Int),vs=[.ref a]/\SqL K H a (ns.map V.int)/\ns.length<=63/\H t1=some (.tbl #[])/\H t2=some (.tbl #[])/\t1≠t2/\∀H',Q (.bl true) H'
theorem fA:zw ["_law_script","_law_k","_law_pot_here","_law_disk_here","_law_shelf","_law_state_here","_law_spots","_law_much"] Wg (zj oA):=fsc
theorem La(F:Fun K "law" "law" oA f fd)(T:Txt w K mg A)(YJ:GF P w K mg base true 2 "_law_pot" X0 (sj K))(YT:GF P w K mg base true 7 "_law_disk" ["_law_pot_here"] (Ax A))(Y8:GF P w K mg base true 7 "_law_state" Ys (vQ A))(Zi:GF P w K mg base true 15 VL WG (xO A))(Z9:GF P w K mg base true 1 Wf Zv dz)(Zh:GM P w K mg base true 5 A.State "files" Zn (wz A))(Z4:GM P w K mg base true 1 A.State VZ Zn (oq A))(YR:GC P w K mg base true 5 "State" A.State YO (nV A))(Y7:GF P w K mg base true 12 "_law_grows" Xc (yo A)):zm P w K mg base CX0 true 16 f fd Wg (jD A.L0 A.Sq K):=by
 refine F.o fA λZ0 Ar outer s H vs Q E hr h=>?_;obtain ⟨sc,ns,rfl,hS,hl,bt,a6,a5,q⟩:=h;refine ⟨_,(W.h (ze (bh N9.never (λ_=>rfl) (ef rfl T.z4 (zb (zO (lZ rfl) rfl T.UX boot_max (zb zl (zb (zO (pS rfl) rfl T.U4 boot_min (zb (zO j8 rfl T.vx NA (zb (za 0) zc)) (zb zl zc))) zc))) zc)) (zy (i:=1) fA.nd rfl (M5 rfl))
   (ze (zz (i:=2) fA.nd rfl (M5 rfl) (caD (zq YJ hr rfl (clP (zb (za 0) (zb (za 1) zc))))))
   (ze (cj (caD (zq YT hr rfl (clP (zb (za 2) zc)))) (cM (n:=2) (gsD (zJ (zy (i:=3) fA.nd rfl (M5 rfl)) (gsD (zJ (zy (i:=4) fA.nd rfl (M5 rfl)) bC))))))
   (ze (cj (caD (zq Y8 hr rfl (clP (zb (za 2) (zb (za 4) zc))))) (cM (n:=2) (gsD (zJ (zy (i:=5) fA.nd rfl (M5 rfl)) (gsD (zJ (zy (i:=6) fA.nd rfl (M5 rfl)) bC))))))
   (ze (zL (dA (aO (caD (zq Zi hr rfl (clP (zb (za 3) (zb (za 5) zc)))))))
   (zg (zu bz))
   zQ)
   (ze (zz (i:=7) fA.nd rfl (M5 rfl) (zB aF zl (caD (zq Z9 hr rfl (clP (zb (za 2) (zb (zK zP (aA (zb zl (zb (zB (oI jw) zl zl) zc))) (caD (zq Z9 hr rfl (clP (zb (za 2) (zb zl zc))))) (λ_ _=>rfl)) zc)))))))
   (zg (zL (dA (aO (caD (zq Y7 hr rfl (clP (zb (za 3) (zb (za 5) (zb (jT YR hr rfl (zb (m0D (bb (clE (za 5)) T.vr Zh hr)) (zb (za 6) (zb (zB aF (m0D (bb (clE (za 5)) T.vr Z4 hr)) (za 7)) (zb zl zc))))) zc))))))))
   (zg (zu bz))
   zQ))))))))
   (zg (zu bz)))),?_⟩
 have bc:TB A H:=⟨.inl bt,.inl a6,a5⟩;ac_rfl;refine ⟨_,.inl hS,?_⟩;rw [MV];have hN:∃N:Nat,(if (if 2<(ns.length:Int) then 2 else (ns.length:Int))>1 then if 2<(ns.length:Int) then 2 else (ns.length:Int) else 1)=(N:Int)/\N<=2:=by
  by_cases h1:2<(ns.length:Int)
  .rw [if_pos h1];exact ⟨2,rfl,by decide⟩
  .rw [if_neg h1];split
   .exact ⟨ns.length,rfl,by lia⟩
   .exact ⟨1,rfl,by decide⟩
 obtain ⟨N,eN,bB⟩:=hN;rw [eN,OG];refine ⟨by lia,by lia,ao.rng (FJ A H (.ref sc)) ⟨⟨_,_,_,_,_,_,_,rfl⟩,zA.refl,bc⟩ ?_ ?_⟩
 .rintro i σ H0 hi ⟨⟨t1,t2,t3,t4,t5,t6,t7,rfl⟩,s0,ag⟩;have ej:(0+(i:Int))=((i:Nat):Int):=by lia
  erw [ej];refine ⟨sc,ns,i,rfl,SqL.pL s0 hS,by lia,λa H1 s1 a0 a7=>?_⟩;have XF:=ag.same s1;ac_rfl;refine ⟨a,rfl,a7,XF,λtp p wl sl sh cells shc m d H2 a3 W2 XC b2 fr lf st sd size wide=>?_⟩;refine ⟨tp,_,rfl,SqT.of a3,rfl,?_⟩;have O:Fr H0 a:=λo no e=>by rw [a0] at e;cases e
  have s2:zA H0 H2:=(zA.of s1).keeps b2.keeps (λx hx=>by rw [M0] at hx;subst hx;exact O);have S:∀x∈p::wl::sl::cells,x∈p::wl::sl::sh::(cells++shc):=λx hx=>by
   simp only [MX,NF] at hx ⊢;rcases hx with h|h|h|h<;>simp [h]
  have ap:Apt a wl sl sh cells shc:=⟨λx hx=>(fr x (S x (M7 _ hx))).1,λz=>(fr sh (by simp)).1 z.symm,λz=>(fr a (by simp [z])).1 rfl⟩;ac_rfl;refine ⟨a,p,wl,sl,sh,cells,shc,m,d,rfl,W2,XC,ap,λtq x l as ts n H3 bp b3 XT P3 S3 O3 bx av aT sm hn n0 n1=>?_⟩;refine ⟨tq,_,rfl,SqT.of bp,rfl,?_⟩;have W3:=W2.UR XC ap b3 XT P3;have s3:=s2.UR b3 O;have ab:=Lj sm wide;have A3:Ask A H3 p x m d ts n:=⟨⟨wl,sl,cells,W3.yz⟩,S3,W3.ok,ab,size.2.2.1,size.2.2.2,hn,n0⟩;ac_rfl;refine ⟨p,x,m,d,ts,n,rfl,A3,λj=>by have:=wide j;lia,size.1,size.2.1,XT,λH4 G Xq=>?_⟩;have P4:Pot H4 a:=by obtain ⟨u,v,e,r⟩:=P3.ex;exact ⟨⟨u,v,G.list e,r⟩⟩
  ac_rfl;refine ⟨⟨by decide,by decide,by decide⟩,by decide,λp5 H5 n5 _=>?_⟩;have P5:=P4.same n5.same;refine ⟨a,2,rfl,P5,by decide,by decide,λr H6 b6 P6 r0 r1=>?_⟩;have ak:p5≠a:=P4.ne n5.no;have e6:=b6 _ _ ak n5.at_;obtain ⟨v,ev,hv⟩:=lN (xs:=[V.int 4,.int (10 ^ Int.toNat 16)]) r0 (by simpa using r1);erw [e6];refine ⟨v,ev,?_⟩;obtain ⟨S,rfl,m0,m1⟩:∃S:Int,v = .int S/\0<S/\S<=10 ^ 16:=by
   simp only [MX,M1,or_false] at hv;rcases hv with rfl|rfl
   .exact ⟨4,rfl,by decide,by decide⟩
   .exact ⟨_,rfl,by decide,by decide⟩
  refine ⟨a,S,rfl,P6,m0,by lia,λr' H7 b7 P7 z0 z1=>?_⟩;have U:But a H4 H7:=((But.of n5.same).trans b6).trans b7;have S7:=(S3.pL G).SK P4 U;have W7:=(W3.pL G Xq).SC P4 ap.d ap.s ap.c U;have O7:Own A H7 x:=by
   obtain ⟨dx,f',d',n',m',e,hF⟩:=O3.pL G;obtain ⟨u,v,ea,_⟩:=P4.ex;refine ⟨dx,f',d',n',m',U _ _ (λz=>by rw [z,ea] at e;cases e) e,hF.but U ea (λ_=>nofun) (λ_ _=>nofun) (λ_=>nofun) λz=>?_⟩;obtain ⟨_,_,_,_,_,e',_⟩:=hF;rw [z,ea] at e';cases e'
  have la:l≠a:=λz=>by obtain ⟨u,v,ea,_⟩:=XC.ex;exact aT.lst ea z
  have a9:=U _ _ la (G.list bx);have a8:Paired (eZ H7) as ts:=Paired.wh av λc t r=>U _ _ (P4.tup (G.tup r)) (G.tup r);obtain ⟨bA,f7,d7,m7,bL,g7,_⟩:=id S7.ex;erw [g7,Bp];refine ⟨x,rfl,O7,λqf H8 Z F8=>?_⟩;have g8:=Z _ _ g7;erw [g8,nv];refine ⟨x,ts,n,rfl,S7.pL (.of Z),?_⟩;ac_rfl;intro y dy H9 nI;refine ⟨y,qf,l,dy,n+(1+r'),2,as,ts,rfl,nI.at_,F8.pL (.of nI.same),nI.same _ _ (Z _ _ a9),Paired.wh a8 λc t r=>nI.same _ _ (Z _ _ r),S3.ok,λH10 a4 ba _=>⟨rfl,?_⟩⟩;have s7:zi H7 H10:=λc o e=>a4 _ _ (λz=>by have:=nI.no;rw [<- z,Z _ _ e] at this;cases this) (nI.same _ _ (Z _ _ e));have J:=W7.same s7;refine ⟨p,x,y,m,d,ts,n,n+(1+r'),rfl,⟨⟨wl,sl,cells,J.yz⟩,S7.pL (.of s7),J.ok,ab,size.2.2.1,size.2.2.2,hn,n0⟩,ba,by lia,J.tb,λH11 bq ai=>?_⟩;ac_rfl;have aj:aU a H3 H10:=λc o n no e=>s7 _ _ (U _ _ n (G _ _ no e));exact ⟨⟨_,_,_,_,_,_,_,rfl⟩,s0.trans ((s3.UR aj O).trans bq),ai⟩
 .rintro σ H1 ⟨⟨t1,t2,t3,t4,t5,t6,t7,rfl⟩,s1,XF⟩;ac_rfl;exact q H1
end
theorem all_mk{l:OpenLaw}{w:Nl}{K:Frag}{h:Heap}{mg:Str->Option Value}{fa:Addr}{a9 aj b3 a4 ak bB bA bZ bL J W u8 ba ai ut a7 ag v0 aT a6 a5 a8 a3 v4:Addr}{f3 c9 hj l0 ea e6 j1 e3 lz:Option Addr}{ho hu kv b6 c0 hY l7:Array (Option Value)}{ct mm kf eo n1 lb nW m3 gT kE:Value}{dq nc c3 n0 fy g6 c5 hF kk ej kq cp j3 n3 hz hr lp d2 m6 hp kz cP kc ht dV ky df f7 hc d0 f5 hh:Tok}{hv di jj hO fF gk:Nat}(X:K.In h)(G:h.Ns M6 mg)(hN:mg "law"=some (.ref fa))
  (c2:OV K M6 "CleanError"=some (some (.ref a9)))
  (kl:OV K M6 "NoRow"=some (some (.ref aj)))
  (l3:OV K M6 "NoDisk"=some (some (.ref b3)))
  (kp:OV K M6 "Full"=some (some (.ref a4)))
  (dk:OV K M6 "Stopped"=some (some (.ref ak)))
  (hk:OV K M6 "NoFile"=some (some (.ref bB)))
  (nP:OV K M6 "NoPlace"=some (some (.ref bA)))
  (nt:OV K M6 "HeldAlready"=some (some (.ref bZ)))
  (d5:OV K M6 "NotHeld"=some (some (.ref bL)))
  (bx:OV K M6 "Disk"=some (some (.ref J)))
  (bt:OV K M6 "Files"=some (some (.ref W)))
  (b0:OV K M6 "State"=some (some (.ref u8)))
  (fz:FnM K "is_whole" nj)
  (m4:FnM K V0 mF)
  (cc:FnM K V1 jh)
  (fm:FnM K VX oh)
  (ey:FnM K "is_name" oR)
  (l4:FnM K "is_word" pq)
  (mb:FnM K "sum_of" o9)
  (ft:FnM K "summed" om)
  (hL:FnM K "body_of" qP)
  (g5:FnM K "row_text" jP)
  (hq:FnM K VR qm)
  (e5:FnM K "read_row" kT)
  (ed:FnM K "row_of" jt)
  (hH:FnM K VP kB)
  (k4:FnM K "row_at" oj)
  (h3:FnM K "rows_in" l9)
  (el:OV K M6 Wc=some (some (.ref ba)))
  (fL:K.lookup ba=some ⟨ct,f3,.func (fnOf Wc Wc (gB fJ) (cT fJ) (zj fJ) .none mm kf eo c9 (.ref ai) n1),ho⟩)
  (ei:codeIn K (.ref ai) Wc=true)
  (n6:tabIn K Wc=some (ai,ut))
  (bp:Sk K ai ut=true)
  (ec:K.lookup ut=none)
  (bP:QL K (.ref ba)=true)
  (kZ:FnM K "end_of" rD)
  (k0:FnM K "closed" lD)
  (e8:FnM K VM j9)
  (nT:FnM K V3 i8)
  (gC:FnM K V8 ow)
  (hn:FnM K "age_of" o3)
  (eC:FnM K VY pa)
  (fb:FnM K "best" ng)
  (et:FnM K "is_better" o7)
  (hC:au K J We "Disk.__init__" kj)
  (g0:au K J V6 "Disk.stretches" qM)
  (e4:au K J "places" "Disk.places" qt)
  (m1:au K J VV "Disk.next_place" qO)
  (ez:au K J "told" "Disk.told" qw)
  (b9:au K J "write" "Disk.write" lM)
  (hP:au K J "empty" "Disk.empty" ly)
  (h5:au K J "stop" "Disk.stop" mT)
  (hI:au K J V4 "Disk.copied" lu)
  (v6:au K J Wb V2 ki)
  (en:au K J "spend" "Disk.spend" mj)
  (b8:au K J VO "Disk.first_signs" jU)
  (eb:au K W We "Files.__init__" qp)
  (ha:au K W "names" "Files.names" ou)
  (g4:au K W "many" "Files.many" mf)
  (m7:au K W V9 "Files.put" mJ)
  (eH:au K W V7 "Files.cut" nF)
  (k9:au K W Wa "Files.hold" oM)
  (hE:au K W V4 "Files.copied" oO)
  (d4:au K W "bare" "Files.bare" pJ)
  (b7:au K W "keep" "Files.keep" oU)
  (d1:au K W VW "Files.refuse_if_none" qg)
  (hb:au K u8 We "State.__init__" kD)
  (hs:au K u8 "files" "State.files" qu)
  (kA:au K u8 "spots" "State.spots" jZ)
  (j2:au K u8 VZ "State.next_number" oG)
  (eF:FnM K "_law_cell" oF)
  (cv:FnM K "_law_pot" qK)
  (dw:FnM K Wf rE)
  (kF:FnM K V5 oQ)
  (nf:FnM K "_law_row" qy)
  (hg:FnM K "_law_turn" jC)
  (e1:FnM K VS pP)
  (j5:FnM K "_law_torn" jQ)
  (d7:FnM K "_law_disk" lx)
  (eN:OV K M6 Wd=some (some (.ref a7)))
  (m5:K.lookup a7=some ⟨lb,hj,.func (fnOf Wd Wd (gB fk) (cT fk) (zj fk) .none nW m3 gT l0 (.ref ag) kE),hu⟩)
  (l2:codeIn K (.ref ag) Wd=true)
  (n5:tabIn K Wd=some (ag,v0))
  (b1:Sk K ag v0=true)
  (gr:K.lookup v0=none)
  (bc:QL K (.ref a7)=true)
  (js:FnM K VN oy)
  (dt:FnM K "_law_files" rg)
  (b5:FnM K "_law_next" lG)
  (m2:FnM K "_law_state" jL)
  (k5:FnM K VQ qG)
  (e7:FnM K VT rH)
  (hB:FnM K VU mW)
  (c4:FnM K VL jH)
  (ek:FnM K "_law_grows" nO)
  (dp:FnM K "law" oA)
  (nz:OV K M6 "abs"=some none)
  (hl:OV K M6 "all"=some none)
  (kx:OV K M6 "bool"=some none)
  (hA:OV K M6 "dict"=some none)
  (ee:OV K M6 "divmod"=some none)
  (mN:OV K M6 "enumerate"=some none)
  (ko:OV K M6 "int"=some none)
  (cC:OV K M6 "isinstance"=some none)
  (la:OV K M6 "len"=some none)
  (kb:OV K M6 "list"=some none)
  (mC:OV K M6 "max"=some none)
  (e0:OV K M6 "min"=some none)
  (ka:OV K M6 "ord"=some none)
  (nq:OV K M6 "range"=some none)
  (eg:OV K M6 "sorted"=some none)
  (hS:OV K M6 "str"=some none)
  (hD:OV K M6 "tuple"=some none)
  (n2:OV K M6 "zip"=some none)
  (nk:OV K M6 "FIGURES"=some (some (.str "0123456789" dq)))
  (d3:OV K M6 "LETTERS"=some (some (.str "abcdefghijklmnopqrstuvwxyz" nc)))
  (dT:OV K M6 "MOST_FIGURES"=some (some (.int 18 c3)))
  (hQ:OV K M6 "MOST_LETTERS"=some (some (.int 6 n0)))
  (dK:OV K M6 "MOST_SIGNS"=some (some (.int 20 fy)))
  (c6:OV K M6 "MODULUS"=some (some (.int 65521 g6)))
  (h4:OV K M6 "COLD_KIND"=some (some (.str "carry" c5)))
  (k1:OV K M6 "LEAST_STRETCHES"=some (some (.int 3 hF)))
  (l5:OV K M6 "MOST_STRETCHES"=some (some (.int 16 kk)))
  (eD:OV K M6 "LEAST_PLACES"=some (some (.int 2 ej)))
  (dm:OV K M6 "MOST_PLACES"=some (some (.int 32 kq)))
  (l1:OV K M6 "PARTS"=some (some (.ref aT)))
  (nd:K.lookup aT=some { cls:=.type "dict",dict:=none,data:=.dict #[{ hash:=PV w.params (yv "put"),key:=.str (yv "put") cp,val:=.ref a6 },{ hash:=PV w.params (yv "cut"),key:=.str (yv "cut") m6,val:=.ref a5 },{ hash:=PV w.params (yv "hold"),key:=.str (yv "hold") kc,val:=.ref a8 },{ hash:=PV w.params (yv "free"),key:=.str (yv "free") ky,val:=.ref a3 },{ hash:=PV w.params (yv "carry"),key:=.str (yv "carry") hc,val:=.ref v4 }] hv,slots:=#[] })
  (mu:(aT==sysModules)=false)
  (m9:K.lookup a6=some { cls:=.type "tuple",dict:=ea,data:=.seq #[.str (yv "number") j3,.str (yv "number") n3,.str (yv "end") hz,.str (yv "name") hr,.str (yv "number") lp,.str (yv "word") d2] di,slots:=kv })
  (kS:K.lookup a5=some { cls:=.type "tuple",dict:=e6,data:=.seq #[.str (yv "number") hp,.str (yv "name") kz,.str (yv "number") cP] jj,slots:=b6 })
  (g7:K.lookup a8=some { cls:=.type "tuple",dict:=j1,data:=.seq #[.str (yv "number") ht,.str (yv "name") dV] hO,slots:=c0 })
  (dy:K.lookup a3=some { cls:=.type "tuple",dict:=e3,data:=.seq #[.str (yv "number") df,.str (yv "name") f7] fF,slots:=hY })
  (mc:K.lookup v4=some { cls:=.type "tuple",dict:=lz,data:=.seq #[.str (yv "number") d0,.str (yv "number") f5,.str (yv "word") hh] gk,slots:=l7 })
  (e2:excIn K a9 [.type "ValueError",.type "Exception",.type "BaseException",.type "object"] "ValueError.__new__"=true)
  (ke:excIn K aj [.type "ValueError",.type "Exception",.type "BaseException",.type "object"] "ValueError.__new__"=true)
  (ih:excIn K a4 [.type "ValueError",.type "Exception",.type "BaseException",.type "object"] "ValueError.__new__"=true)
  (ew:excIn K ak [.type "ValueError",.type "Exception",.type "BaseException",.type "object"] "ValueError.__new__"=true)
  (m8:mroIn K aj (.ref aj)=some true)
  (hK:mroIn K ak (.ref ak)=some true)
  (hM:RR K J Rj=true)
  (k6:RW K J=true)
  (eh:plainOver K J=true)
  (kn:findIn K (.ref J) "__setattr__"=some (some (.builtin "object.__setattr__")))
  (gp:makesIn K J=true)
  (fx:QL K (.ref J)=true)
  (j0:findIn K (.ref J) "at_sides"=some none)
  (hx:findIn K (.ref J) "counted"=some none)
  (ff:findIn K (.ref J) "has_stopped"=some none)
  (nx:findIn K (.ref J) "left"=some none)
  (nD:findIn K (.ref J) "width"=some none)
  (me:findIn K (.ref J) "written"=some none)
  (gd:RR K W Rj=true)
  (hR:RW K W=true)
  (lr:plainOver K W=true)
  (gb:findIn K (.ref W) "__setattr__"=some (some (.builtin "object.__setattr__")))
  (k3:makesIn K W=true)
  (fi:QL K (.ref W)=true)
  (hy:findIn K (.ref W) "births"=some none)
  (dd:findIn K (.ref W) "kept"=some none)
  (b4:RR K u8 Rj=true)
  (dg:RW K u8=true)
  (er:plainOver K u8=true)
  (gg:findIn K (.ref u8) "__setattr__"=some (some (.builtin "object.__setattr__")))
  (k2:makesIn K u8=true)
  (da:QL K (.ref u8)=true)
  (f6:findIn K (.ref u8) "next_mark"=some none)
  (eu:findIn K (.ref u8) "next_row"=some none)
  (g8:findIn K (.ref u8) "own_files"=some none)
  (cD:findIn K (.ref u8) "spot_of"=some none) :
  ∃fd:M9,(∀(s:p8)(v:Value),BindsTo s fd ⟨[v],[]⟩ [("_law_script",v)])/\(∀T,T∈[ut,v0]->K.lookup T=none/\∃c,Sk K c T=true)/\∀base:Heap,K.In base->base.Ns M6 mg->gA mg base->zm l.prog w K mg base CX0 true 16 fa fd Wg (jD ut v0 K):=by
 obtain ⟨n4,av,bq,a0⟩:=dp;have e:=hN.symm.trans (O5 X G bq);cases e;have nI:∀(s:p8)(v:Value),BindsTo s av ⟨[v],[]⟩ [("_law_script",v)]:=by obtain ⟨_,_,_,_,_,_,_,_,_,rfl,_⟩:=a0.ex;exact λs v=>.of_eq rfl
 have T:Txt w K mg ⟨a9,aj,b3,a4,ak,bB,bA,bZ,bL,J,W,u8,ut,v0,aT,a6,a5,a8,a3,v4⟩:=⟨O5 X G l1,⟨⟨_,_,nd,(.cons (.cons (.cons (.cons (.cons .nil)))))⟩,by show ([V9,V7,Wa,"free","carry"]:List Str).Nodup;decide +kernel,mu⟩,λH=>.inr ⟨_,_,_,m9,rfl,rfl,by show 6<=sizeLine;decide,(.cons ⟨_,rfl⟩ (.cons ⟨_,rfl⟩ (.cons ⟨_,rfl⟩ (.cons ⟨_,rfl⟩ (.cons ⟨_,rfl⟩ (.cons ⟨_,rfl⟩ .nil))))))⟩,λH=>.inr ⟨_,_,_,kS,rfl,rfl,by show 3<=sizeLine;decide,(.cons ⟨_,rfl⟩ (.cons ⟨_,rfl⟩ (.cons ⟨_,rfl⟩ .nil)))⟩,λH=>.inr ⟨_,_,_,g7,rfl,rfl,by show 2<=sizeLine;decide,(.cons ⟨_,rfl⟩ (.cons ⟨_,rfl⟩ .nil))⟩,λH=>.inr ⟨_,_,_,dy,rfl,rfl,by show 2<=sizeLine;decide,(.cons ⟨_,rfl⟩ (.cons ⟨_,rfl⟩ .nil))⟩,λH=>.inr ⟨_,_,_,mc,rfl,rfl,by show 3<=sizeLine;decide,(.cons ⟨_,rfl⟩ (.cons ⟨_,rfl⟩ (.cons ⟨_,rfl⟩ .nil)))⟩,Of X G nz,Of X G hl,Of X G kx,Of X G hA,Of X G ee,Of X G mN,Of X G ko,Of X G cC,Of X G la,Of X G kb,Of X G mC,Of X G e0,Of X G ka,Of X G nq,Of X G eg,Of X G hS,Of X G hD,Of X G n2,⟨_,O5 X G nk,⟨_,rfl⟩⟩,⟨_,O5 X G d3,⟨_,rfl⟩⟩,⟨_,O5 X G dT,⟨_,rfl⟩⟩,⟨_,O5 X G hQ,⟨_,rfl⟩⟩,⟨_,O5 X G dK,⟨_,rfl⟩⟩,⟨_,O5 X G c6,⟨_,rfl⟩⟩,⟨_,O5 X G h4,⟨_,rfl⟩⟩,⟨_,O5 X G k1,⟨_,rfl⟩⟩,⟨_,O5 X G l5,⟨_,rfl⟩⟩,⟨_,O5 X G eD,⟨_,rfl⟩⟩,⟨_,O5 X G dm,⟨_,rfl⟩⟩,O5 X G c2,O5 X G kl,O5 X G l3,O5 X G kp,O5 X G dk,O5 X G hk,O5 X G nP,O5 X G nt,O5 X G d5,O5 X G bx,O5 X G bt,O5 X G b0,e2,ke,ih,ew,m8,hK,⟨hM,k6,eh,kn⟩,j0,hx,ff,nx,nD,me,⟨gd,hR,lr,gb⟩,hy,dd,⟨b4,dg,er,gg⟩,f6,eu,g8,cD⟩;have z:=wc (st:=fJ) fL ei bP;have Z:=z.binds (ps:=Wy) fun|_,_,_,_,_,_,[_],_=>rfl;have O:=wc (st:=fk) m5 l2 bc;have ab:=O.binds (ps:=WC) fun|_,_,_,_,_,_,[_],_=>rfl;refine ⟨av,nI,λT hT=>?_,λbase KB _ b2=>?_⟩
 .simp only [MX,M1,or_false] at hT;rcases hT with rfl|rfl
  .exact ⟨ec,_,bp⟩
  .exact ⟨gr,_,b1⟩
 have S:fR mg base (.ref ai) ut:=⟨⟨ai,rfl,codeHd_of_K KB bp⟩,b2⟩;have U:fR mg base (.ref ag) v0:=⟨⟨ag,rfl,codeHd_of_K KB b1⟩,b2⟩;have ZX:=gf l.prog base true X G cc (λ_ _ F=>CS F T) λ_ _ _ _ _ _=>u3 λ_ _ _=>rfl;have YF:=gf l.prog base true X G ey (λ_ _ F=>Hx F T ZX) λ_ _ _ _ _ _=>u1 λ_=>rfl;have YE:=gf l.prog base true X G l4 (λ_ _ F=>Ed F T ZX) λ_ _ _ _ _ _=>u1 λ_=>rfl;have ZD:=gf l.prog base true X G fm (λ_ _ F=>EN F T ZX) λ_ _ _ _ _ _=>u1 λ_=>rfl;have Yq:=gf l.prog base true X G mb (λ_ _ F=>J6 F T) λ_ _ _ _ _ _=>u1 λ_=>rfl;have Zg:=gf l.prog base true X G ft (λ_ _ F=>A1 F T Yq) λ_ _ _ _ _ _=>u1 λ_=>rfl;have YD:=gf l.prog base true X G hL (λ_ _ F=>Gh F T Zg) λ_ _ _ _ _ _=>u1 λ_=>rfl;have Y3:=gf l.prog base true X G hq (λ_ _ F=>Im F T) λ_ _ _ _ _ _=>u1 λ_=>rfl;have YK:=gf l.prog base true X G g5 (λ_ _ F=>IZ F T Zg Y3) λ_ _ _ _ _ _=>u1 λ_=>rfl;have Y2:=gx l.prog base true X G hH (λ_ _ F=>Ht F T ZD YF YE) λ_ _ _ _ _ _=>u2 λ_ _=>rfl;have Yp:=gx l.prog base true X G ed (λ_ _ F=>Kn F T Y2) λ_ _ _ _ _ _=>u1 λ_=>rfl;have YM:=gx l.prog base true X G e5 (λ_ _ F=>Ir F T YD Yp) λ_ _ _ _ _ _=>u1 λ_=>rfl;have Z7:=gm l.prog base true g0 (λ_ _ F=>G8 F T) λ_ _ _ _ _ _=>u1 λ_=>rfl;have Z1:=gm l.prog base true e4 (λ_ _ F=>Dl F T) λ_ _ _ _ _ _=>u1 λ_=>rfl;have ZY:=gm l.prog base true m1 (λ_ _ F=>Il F T) λ_ _ _ _ _ _=>u2 λ_ _=>rfl;have Y1:=gm l.prog base true ez (λ_ _ F=>Jh F T) λ_ _ _ _ _ _=>u3 λ_ _ _=>rfl;have Z8:=gmx l.prog base true v6 (λ_ _ F=>Cv F T) λ_ _ _ _ _ _=>u1 λ_=>rfl;have ZP:=gm l.prog base true en (λ_ _ F=>Ce F T) λ_ _ _ _ _ _=>u2 λ_ _=>rfl;have ZL:=gmx l.prog base true b8 (λ_ _ F=>ET F T ZP Z8) λ_ _ _ _ _ _=>u2 λ_ _=>rfl;have Zz:=gmx l.prog base true b9 (λ_ _ F=>Bd F T ZL Z8) λ_ _ _ _ _ _=>u3 λ_ _ _=>rfl;have YN:=gf l.prog base true X G fz (λ_ _ F=>BE F T) λ_ _ _ _ _ _=>u1 λ_=>rfl;have ZV:=gf l.prog base true X G m4 (λ_ _ F=>AX F T YN) λ_ _ _ _ _ _=>u3 λ_ _ _=>rfl;have YB:=gc l.prog base true X G bx gp fx hC (λ_ _ F=>Bz F T ZV) λ_ _ _ _ _ _=>u3 λ_ _ _=>rfl;have ZW:=gmx l.prog base true hP (λ_ _ F=>Bs F T ZP Z8) λ_ _ _ _ _ _=>u2 λ_ _=>rfl;have Yo:=gf l.prog base true X G k4 (λ_ _ F=>LG F T Y1 YM) λ_ _ _ _ _ _=>u3 λ_ _ _=>rfl;have Zy:=gf l.prog base true X G h3 (λ_ _ F=>Dv F T ZY Yo) λ_ _ _ _ _ _=>u2 λ_ _=>rfl;have Zc:GF l.prog w K mg base true 9 Wc Wy (nS _):=⟨_,_,Hf z rfl S T Z7 Zy,O5 X G el,bP,Z⟩;have YG:=gf l.prog base true X G kZ (λ_ _ F=>Ci F T Zc) λ_ _ _ _ _ _=>u2 λ_ _=>rfl;have Y0:=gf l.prog base true X G eF (λ_ _ F=>BU F T) λ_ _ _ _ _ _=>u2 λ_ _=>rfl;have YJ:=gf l.prog base true X G cv (λ_ _ F=>B1 F T Y0) λ_ _ _ _ _ _=>u2 λ_ _=>rfl;have Z9:=gf l.prog base true X G dw (λ_ _ F=>LY F T) λ_ _ _ _ _ _=>u2 λ_ _=>rfl;have Z5:=gf l.prog base true X G kF (λ_ _ F=>Gm F T Z9) λ_ _ _ _ _ _=>u2 λ_ _=>rfl;have ZJ:GF l.prog w K mg base true 1 Wd WC (jq _):=⟨_,_,Gw O rfl U T,O5 X G eN,bc,ab⟩;have ZR:=gm l.prog base true hI (λ_ _ F=>FG F T Z7 YB) λ_ _ _ _ _ _=>u1 λ_=>rfl;have YZ:=gm l.prog base true h5 (λ_ _ F=>G0 F T) λ_ _ _ _ _ _=>u2 λ_ _=>rfl;have ZM:=gf l.prog base true X G k0 (λ_ _ F=>BS F T YG Z7 ZY) λ_ _ _ _ _ _=>u1 λ_=>rfl;have Zj:=gf l.prog base true X G e8 (λ_ _ F=>CO F T Zy) λ_ _ _ _ _ _=>u2 λ_ _=>rfl;have YL:=gf l.prog base true X G nf (λ_ _ F=>Cd F T Z9 Z5) λ_ _ _ _ _ _=>u3 λ_ _ _=>rfl;have Zu:=gf l.prog base true X G e1 (λ_ _ F=>JG F T Z9) λ_ _ _ _ _ _=>u2 λ_ _=>rfl;have Zp:=gf l.prog base true X G hg (λ_ _ F=>EB F T Z9 ZW Z1 YL YK Zz) λ_ _ _ _ _ _=>u4 λ_ _ _ _=>rfl;have YY:=gf l.prog base true X G j5 (λ_ _ F=>Fj F T Z9 Z5 YZ ZW ZR) λ_ _ _ _ _ _=>u3 λ_ _ _=>rfl;have YT:=gf l.prog base true X G d7 (λ_ _ F=>Jq F T Z5 YB Z7 Zu Z9 Zp YY) λ_ _ _ _ _ _=>u1 λ_=>rfl;have YS:=gc l.prog base true X G bt k3 fi eb (λ_ _ F=>Ft F T) λ_ _ _ _ _ _=>u1 λ_=>rfl;have Zl:=gm l.prog base true ha (λ_ _ F=>BF F T) λ_ _ _ _ _ _=>u1 λ_=>rfl;have ZZ:=gm l.prog base true g4 (λ_ _ F=>CG F T) λ_ _ _ _ _ _=>u2 λ_ _=>rfl;have ZS:=gm l.prog base true d1 (λ_ _ F=>JL F T) λ_ _ _ _ _ _=>u2 λ_ _=>rfl;have YX:=gm l.prog base true m7 (λ_ _ F=>Dr F T ZZ ZV) λ_ _ _ _ _ _=>u4 λ_ _ _ _=>rfl;have YW:=gm l.prog base true eH (λ_ _ F=>EE F T ZS ZZ ZV) λ_ _ _ _ _ _=>u3 λ_ _ _=>rfl;have ZO:=gm l.prog base true d4 (λ_ _ F=>LH F T YS) λ_ _ _ _ _ _=>u1 λ_=>rfl;have Zb:=gm l.prog base true b7 (λ_ _ F=>MA F T ZO) λ_ _ _ _ _ _=>u3 λ_ _ _=>rfl;have Za:=gm l.prog base true k9 (λ_ _ F=>Jg F T Zb) λ_ _ _ _ _ _=>u2 λ_ _=>rfl;have ZU:=gm l.prog base true hE (λ_ _ F=>DZ F T ZO) λ_ _ _ _ _ _=>u1 λ_=>rfl;have YR:=gc l.prog base true X G b0 k2 da hb (λ_ _ F=>BX F T ZU) λ_ _ _ _ _ _=>u5 λ_ _ _ _ _=>rfl;have Zh:=gm l.prog base true hs (λ_ _ F=>Eh F T ZU) λ_ _ _ _ _ _=>u1 λ_=>rfl;have Z4:=gm l.prog base true j2 (λ_ _ F=>KG F T) λ_ _ _ _ _ _=>u1 λ_=>rfl;have Zm:=gm l.prog base true kA (λ_ _ F=>Bi F T) λ_ _ _ _ _ _=>u1 λ_=>rfl;have Z2:=gf l.prog base true X G nT (λ_ _ F=>GS F T Zm) λ_ _ _ _ _ _=>u2 λ_ _=>rfl;have Zk:=gf l.prog base true X G js (λ_ _ F=>GL F T Z9 ZJ) λ_ _ _ _ _ _=>u2 λ_ _=>rfl;have Y9:=gf l.prog base true X G dt (λ_ _ F=>Mq F T YS Z5 Z9 ZZ YX Za Zl YW) λ_ _ _ _ _ _=>u2 λ_ _=>rfl;have YV:=gf l.prog base true X G b5 (λ_ _ F=>HW F T Z9 ZJ) λ_ _ _ _ _ _=>u2 λ_ _=>rfl;have Y8:=gf l.prog base true X G m2 (λ_ _ F=>Lv F T Z9 Zk Y9 YV YR) λ_ _ _ _ _ _=>u2 λ_ _=>rfl;have ZC:=gf l.prog base true X G eC (λ_ _ F=>Lh F T) λ_ _ _ _ _ _=>u2 λ_ _=>rfl;have Yn:=gf l.prog base true X G hn (λ_ _ F=>Dw F T Zj Z4) λ_ _ _ _ _ _=>u3 λ_ _ _=>rfl;have ZE:=gf l.prog base true X G gC (λ_ _ F=>CV F T Z2 Z1 Yn ZC) λ_ _ _ _ _ _=>u3 λ_ _ _=>rfl;have YU:=gf l.prog base true X G et (λ_ _ F=>A4 F T Z2 ZE) λ_ _ _ _ _ _=>u5 λ_ _ _ _ _=>rfl;have XA:=gf l.prog base true X G fb (λ_ _ F=>Mw F T ZM YU) λ_ _ _ _ _ _=>u3 λ_ _ _=>rfl;have ZT:=gf l.prog base true X G k5 (λ_ _ F=>AV F T) λ_ _ _ _ _ _=>u2 λ_ _=>rfl;have Zt:=gf l.prog base true X G e7 (λ_ _ F=>C9 F T ZR Z7 XA Z2 ZE ZW) λ_ _ _ _ _ _=>u3 λ_ _ _=>rfl;have ZA:=gf l.prog base true X G hB (λ_ _ F=>JO F T ZT) λ_ _ _ _ _ _=>u2 λ_ _=>rfl;have Zi:=gf l.prog base true X G c4 (λ_ _ F=>Hr F T ZM Zt ZA) λ_ _ _ _ _ _=>u2 λ_ _=>rfl;have Y7:=gf l.prog base true X G ek (λ_ _ F=>Fc F T ZM ZE ZT Z2 Z1) λ_ _ _ _ _ _=>u3 λ_ _ _=>rfl;exact La a0 T YJ YT Y8 Zi Z9 Zh Z4 YR Y7
theorem walk{l:OpenLaw}{W:(Str->Option Value)->Heap->Prop}{K:Params->Frag}(ut v0:Addr){ts:List Addr}(hn:l.most=some 63)(O:d.params.defaults=[])(hY:∀(w:Nl)(h:Heap),U w h->(K w.params).In h/\∀T∈ts,h.get? T=some (tabObj #[]))(S:∀T,T∈ts->T∈[ut,v0])(G:∀T,T∈[ut,v0]->T∈ts)(hnd:([ut,v0]:List Addr).Nodup)(F:∀(w:Nl)(mg:Str->Option Value)(fa:Addr)(h:Heap),(K w.params).In h->h.Ns M6 mg->mg d.name=some (.ref fa) ->
   ∃fd:M9,(∀(s:p8)(u:Value),BindsTo s fd ⟨[u],[]⟩ [("_law_script",u)])/\(∀T,T∈[ut,v0]->(K w.params).lookup T=none/\∃c,Sk (K w.params) c T=true)/\∀base:Heap,(K w.params).In base->base.Ns M6 mg->gA mg base->zm l.prog w (K w.params) mg base CX0 true 16 fa fd Wg (jD ut v0 (K w.params))):
  WalkO q Ye W U l.row.toRowW d [] (λf vs=>PySem.call f vs) :=
 L2.walk_ofT (n:=63) (k:=16) (x:="_law_script") (CX:=λ_=>CX0) (sp:=λw=>jD ut v0 (K w.params)) (ts:=ts) hn (by decide) O ⟨λ_=>rfl,by decide,by decide,rfl⟩ hY (λw mg fa h a b c=>let ⟨fd,g1,g2,g3⟩:=F w mg fa h a b c;⟨fd,g1,λT J=>g2 T (S T J),g3⟩) (λ_ H a ns hl J Z=>⟨a,ns,rfl,Z,hl,J _ (G _ (by simp)),J _ (G _ (by simp)),(by intro z;rw [z] at hnd;exact absurd hnd (by simp)),λ_=>rfl⟩) λ_ _ _ _ _ z=>z
end K63
def PySem.W.Fast.TY:Nat:=0
def PySem.W.Fast.UK:Nat:=0
def PySem.W.Fast.Uv:Nat:=0
def PySem.W.Fast.Ut:Nat:=0
def PySem.W.Fast.Uu:Nat:=0
def PySem.W.Fast.TQ:Nat:=0
def PySem.W.Fast.UE:Nat:=0
def PySem.W.Fast.TX:Nat:=0
def PySem.W.Fast.Ug:Nat:=0
def PySem.W.Fast.TH:Nat:=0
def PySem.W.Fast.TM:Nat:=0
def PySem.W.Fast.TK:Nat:=0
def PySem.W.Fast.Tv:Nat:=0
def PySem.W.Fast.Tg:Nat:=0
def PySem.W.Fast.Ud:Nat:=0
def PySem.W.Fast.UH:Nat:=0
def PySem.W.Fast.UF:Nat:=0
def PySem.W.Fast.Tp:Nat:=0
def PySem.W.Fast.UI:Nat:=0
def PySem.W.Fast.Us:Nat:=0
def PySem.W.Fast.Tu:Nat:=0
def PySem.W.Fast.Uy:Nat:=0
def PySem.W.Fast.Uc:Nat:=0
def PySem.W.Fast.UB:Nat:=0
def PySem.W.Fast.TU:Nat:=0
def PySem.W.Fast.Uz:Nat:=0
def PySem.W.Fast.Uq:Nat:=0
def PySem.W.Fast.Up:Nat:=0
def PySem.W.Fast.Tt:Nat:=0
def PySem.W.Fast.Ti:Nat:=0
def PySem.W.Fast.Tq:Nat:=0
def PySem.W.Fast.Ue:Nat:=0
def PySem.W.Fast.Ub:Nat:=0
def PySem.W.Fast.Ua:Nat:=0
def PySem.W.Fast.Uh:Nat:=0
def PySem.W.Fast.TN:Nat:=0
def PySem.W.Fast.TZ:Nat:=0
def PySem.W.Fast.Tr:Nat:=0
def PySem.W.Fast.TF:Nat:=0
def PySem.W.Fast.UA:Nat:=0
def PySem.W.Fast.UL:Nat:=0
def PySem.W.Fast.UJ:Nat:=0
def PySem.W.Fast.Ux:Nat:=0
def PySem.W.Fast.Tz:Nat:=0
def PySem.W.Fast.Ur:Nat:=0
def PySem.W.Fast.Tj:Nat:=0
def PySem.W.Fast.Ts:Nat:=0
def PySem.W.Fast.Tn:Nat:=0
def PySem.W.Fast.TR:Nat:=0
def PySem.W.Fast.UC:Nat:=0
def PySem.W.Fast.To:Nat:=0
def PySem.W.Fast.UD:Nat:=0
def PySem.W.Fast.TV:Nat:=0
def PySem.W.Fast.TL:Nat:=0
def PySem.W.Fast.Ui:Nat:=0
def PySem.W.Fast.UG:Nat:=0
structure PySem.W.Fast:Prop where(tw12045039524333918533 tw642557301374040547 tw7303569448301595046 tw8604218727087398226 tw8221610441133434667 tw14215993154201258128 tw3660738186620830710 tw12197676230762509982 tw10565607187931619074 tw14858289279707062558 tw14412887265377252539 tw14599423779045842884 tw15450086904718470894 tw18304782406693574163 tw11009805805472766576 tw1998713082499722913 tw3129895009877028733 tw16443391259359353591 tw1940625784854103089 tw9287836895683401841 tw15555274508556406317 tw6730994228101253623 tw11021829259503166238 tw5632487862495507448 tw13721374562842838125 tw6558483010180485694 tw9661517468819483505 tw9746594577148606352 tw15561010381762683100 tw18254340978131241514 tw16394410083734460586 tw10887153726381543311 tw11133770052743373710 tw11911663497866946259 tw10158950595168129400 tw14267689112120964126 tw11982395225399978165 tw15920529173060989274 tw14932045771466592781 tw6145484226565051796 tw589851329056638624 tw1472380495404793876 tw7141182833537375762 tw15149316610586106330 tw9455202655389423809 tw17403895277776143953 tw15899490524374400746 tw16663871243914213309 tw5116047874194908224 tw13788311814108469219 tw16453120019458490892 tw3765948314355055056 tw12816569943072261173 tw14503274866528467909 tw10125976507717250776 tw2168343842778589564 tw7322235387528852643 tw13532108266868841358 tw14849628374200619007 tw3924568362404205737 tw11842408873462106992 tw686811868532681241 tw11691196471698635717 tw15964331031335074656 tw17012572556860866970 tw15192003383857420868 tw7900635742926092798 tw4377785182638960613 tw5792140012027157544 tw10317383188655848776 tw15644329914685124224 tw978232598390574521 tw18325203101381584143 tw13351522228338751982 tw6126169046927212457 tw5273375954861991475 tw5961096152077477494 tw4113129792747869757 tw11086556397925146062 tw932972614353245055 tw9312081582704316974 tw1691298029794026407 tw16989742727722133351 tw10472551248201299537 tw10306027917834926441 tw359415446392759852 tw14886318383540163425 tw13313217326434830036 tw8892929810272460733 tw13760015298534957226 tw4725543460755489673 tw1874012036731968658 tw5703750567168921956 tw6267601441237504128 tw11575278511629104740 tw9199012125481171806 tw3873602444696763734 tw3569770078199905328 tw15673019399802411511 tw9386908484955223098 tw16476773791138159677 tw18302946517932943730 tw13544896373063266881 tw9271328775954034497 tw430786713720861892 tw14724955856279577762 tw10147714963489882550 tw14398155857392339246 tw10238859589068778795 tw899658765387513278 tw5609744111203097010 tw3668576994879253605 tw3177937404281091009 tw553514807345399217 tw6901235806900673102 tw15779357997561889275 tw5365134056993749676 tw14158314912297311075 tw16223654151756698787 tw2724550569138107163 tw2666338538191371076 tw17195272373281807577 tw14612583531283935964 tw11994209266470001868 tw5509858809561857463 tw11345367162568251888 tw2449143762288696118 tw12625581630037052146 tw12216853909516803545 tw15232909081227421952 tw88923512906568018 tw12022447704481805830 tw674154857633928639 tw13218925857088165965 tw1820690243776353845 tw8867799037504922919 tw6757393808910934020 tw13352955159865763494 tw6023434209903121577 tw12625801113913399375 tw7869774459552127985 tw3116167260902505497 tw5082860408074717121 tw8389299920166671237 tw18090134200567451840 tw9040739222839774926 tw13716825617483167678 tw15459511197143489911 tw3243770777103214414 tw7340454162745995421 tw265498517573580972 tw3810547780344171084 tw8135543098992411352 tw18358175036144843203 tw17756465348179414747 tw13532234971901137908 tw12794603075443508061 tw12752291286911637183 tw2696297879683253306 tw4436011527139094330 tw1397714963982503322 tw12120178426492543662 tw16303314188074648612 tw10905575612009254421 tw3230008464452305509 tw17841382413847352623 tw15587625549194947449 tw9000154136169520713 tw17316960040441673635 tw16877205553266097021 tw9982527335109503491 tw14064448360153127166 tw1925044388873468480 tw15718492349229803022 tw1333236853881053408 tw3024845142065745843 tw15303777218694733648 tw10457725682310082484 tw713115226090161764 tw7814021268972301238 tw14309689030272254037 tw7974170982984384137 tw15197167708162650111 tw6129130240709761458 tw3503070477129513151 tw4650887803595414930 tw14260624219169200398 tw14498893982264213680 tw6576573816268573360 tw15888883726944534095 tw3926940708263780812 tw13885230433658125755 tw5875118504340245671 tw15953417630878789330 tw8054535742867504821 tw373977353480153573 tw1192821818323961138 tw9733885137429417105 tw15415938487929734651 tw1305498004389206222 tw11203537844411759284 tw5069070246441767244 tw1861730514881285338 tw4991929298642914780 tw12982828954748583327 tw15977446987200319018 tw4198338938011689689 tw6260503391003707090 tw1028749061469024416 tw1777602618717534015 tw13783990452358455475 tw2815843616578840256 tw4230068535658298173 tw2213772141769528401 tw5984305368690183101 tw7904739847941400922 tw6095889505361310975 tw12127652214584832526 tw3819322958092932852 tw8326730163783247668 tw5056983811053421767 tw14177144774970141124 tw4816276711748186421 tw3113163241175508886 tw3612800946301999964 tw11161017620698912695 tw2324869292438021987 tw2223025585564581511 tw14019759766775645801 tw1137583623902420096 tw6493160342547386493 tw17606217652469345986 tw13633228940024195731 tw6305441966056309041 tw5484391388559253584 tw5143849919694030647 tw18368658574975904977 tw4142387189013618751 tw373690017630479069 tw17861133454957749537 tw15564623814981042025 tw7528761455749190663 tw1232510886970853281 tw14669563011042382724 tw7213342990438513048 tw14699062488048697745 tw13347254559749417210 tw3199457395778099549 tw1991239977163258817 tw1654487641982984662 tw4009998230171005550 tw10600197268674534494 tw10038873152301827838 tw5127579295594391222 tw12664710246097053990 tw7387916827233691920 tw9188636224349511705 tw8156572474782324920 tw17638199771180112458 tw14453988615197216855 tw7052585165640038647 tw2249659371841377613 tw2217709526771505390 tw4098780783022103198 tw13304127771109073198 tw9386891256256301174 tw3720989303656328618 tw2519672071654458810 tw10833356984456388437 tw8825046100515675002 tw16698753741458105534 tw1961578102866339805 tw1831157776897799764 tw7931393275808402707 tw5703295101483933301 tw11502734404591690556 tw9937085264664147036 tw11369058678032188553 tw4119707989642310550 tw17606090195520043568 tw2903938133396411612 tw12243056494876965960 tw7109537488631150650 tw5702120948712304950 tw17830558646465726264 tw17045780214871908976 tw14725178122863265675 tw11031198719399833318 tw4832011868092635554 tw17240810251697581069 tw13352622475782240684 tw685320469611719381 tw10256070038782295271 tw2503383271825355277 tw12338232876013411531 tw8212234343912632360 tw1929152776065357700 tw7676695340799359406 tw13608917228304893582 tw7433899894365117992:True)
open PySem PySem.W PyProof.Rows
set_option maxRecDepth 100000 in
set_option maxHeartbeats 0 in
theorem PySem.Challenge.cw_cleanrows_k63_whole_emptied_best_first_holds : PySem.Challenge.rw_cleanrows_k63_whole_emptied_best_first.Holds := by
 w_on;o_law;k_head;(case hw=>w_witness2)
 k_fill
 refine K63.walk 246 658 (l:=PySem.Challenge.rw_cleanrows_k63_whole_emptied_best_first) rfl rfl (λw h Y=>⟨PySem.W.km_in_of Y,PySem.W.km_tabs_of Y⟩) (by decide) (by decide) (by decide) ?F
 case F =>
  intro w mg fa h KX G hmg
  refine' K63.all_mk KX G hmg ..
  all_goals try refine' ⟨_,_,?_,⟨⟨_,_,_,_,_,_,_,_,_,rfl,?_,?_⟩,?_⟩⟩
  all_goals try refine' ⟨_,_,?_,?_,⟨⟨_,_,_,_,_,_,_,_,_,rfl,?_,?_⟩,?_⟩⟩
  all_goals first|k_is|kit_is|k_exc|rfl|decide +kernel|skip
