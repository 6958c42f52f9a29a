import PyProof.Rows.All
import Wide.All
import OpenK.AllK
import Wide.FinOn
import Lean
import PyProof.EqAt
import PyProof.EqKinds
import PyProof.TupleCall
import KE.KUnpack
import PyProof.NeKinds
import PyProof.EnumFor
import PyProof.EnumStmt
import PyProof.EnumMake
import PyProof.Draws
import PyProof.StrWalks
import PyProof.Rows.FStr
import PyProof.Rows.CallKw2
import PyProof.StrBlockL
import KE.KIntText
import PyProof.ConsumeWalk
import PyProof.StrBlockG
import PyProof.CallStr
import PyProof.Rows.Range3
import PyProof.MeetsDict
import PyProof.DictList
import PyProof.StrLawsChain
import PyProof.StrLawsNeg
import KE.IntTextLaws
import KE.IntTextText
import PyProof.CallFns
import PyProof.CompUse
import PyProof.DictWalks
import KE.KDictSum
import PyProof.FString5
import KE.KLam
import KE.KSortKey
import KE.KNestM
import PyProof.Rows.RuleN_abs
import PyProof.WalkInts
import KE.KMinKey
import KE.KSortTup
import PyProof.DictCompW
import PyProof.SetRoads
import PyProof.SetNew
import KE.KEqDict
import PyProof.ListRange
import KE.KRevSl
import PySem.Challenge.RW_cleanrows_k62_best_told
open PySem renaming wpAny_bind->fv,Shared->we,wpAny_pure->Nv,FuncData->Nz,mainGlobals->NA,Program->NB,wpAny->NF,model->NL,Builtin->NN,Around->NP,World->NQ,starEach->NZ,Expr->N0,wpAny_field->N4,boot_len->N8,wpAny_holding->N9,compareOp->Of,NameKind->On,wpAny_callSpecial?_slot->Oo,eval->Os,wpAny_newObj_type->Ou,sizeLine_eq->Ox,wpAny_seqItems->OA,wpAny_call_entry->OB,rawInt->OE,wpAny_mono->OG,Spec->OH,mem_of_lookup->OL,wpAny_Call_Name_kw->ON,attributeBase->OT,PassesOwn->OW,wpAny_setField->OY,wpAny_truthy_bool->O2,wpAny_Call_method_late->O4,foldedSetIterable->O7,binaryOp->Pd,cellsFrom->Pg,wpAny_pyIter_list->Pk,assignEach->Po,backTo->Pp,wpAny_passesOwn->Py,codeAny_builtin->Pz,wpAny_letGo->PC,argBest->PH,wpAny_standAt->PN,wpAny_rule->PP,plainId_quiet->PQ,holding->PV,wpAny_tryCatch->PX,keywordEach->Qh,wpAny_setField_rec->Qi,tupleKind_room_in1->Qj,pyNext->Ql,call_meets->Qn,bootBuiltins->Qo,wpAny_updateSeq->Qr,letOwnedTupleGo->Qt,codeAny->Qx,strIterType->QA,callWith->QE,PyData->QG,standAt->QH,getMethod->QK,codeAny_mono->QL,IsPair->QN,wpAny_attempt->QO,wpAny_execs_nil->QR,builtinsNs->QY,sliceBounds->Q0,seqItems?->Q1,wpAny_pyIter_enum->Q5,intText?->Ra,wpAny_isInstance->Rh,typeIs_str->Rj,checkBuiltinCall->Rl,behindInMarks->Rq,wpAny_loadName_local->Rr,richCompare->Rt,codeAny_call_builtin->Rv,backToKw->Rw,IsRangeIter->RC,wpAny_loadPart'->RD,pushCells->RJ,wpAny_Constant_int->RN,isSubtype_stop->RS,field->RT,closureFor->RU,IsPart->RY,wpAny_pyIter_strU->R3,wpAny_newList->R7,assignInOrder->R9,tupleKind->Se,seqIndex?->Sf,noteFrame->Sh,DictEntry->Sr,wpAny_typeOf->Ss,wpAny_call->Su,getItem->SA,call_meetsIn->SE,Within->SG
open List renaming getElem?_eq_getElem->p8,length_map->KE,getD_eq_getElem?_getD->Nr,getElem?_eq_some_iff->Nt,mem_cons->Nw,mem_cons_of_mem->ND,mem_singleton->NG,not_mem_nil->NH,size_toArray->NI,getElem?_map->NJ,mem_of_getElem?->NM,mem_append_right->NU,take_of_length_le->NW,mem_cons_self->NX,length_append->NY,replicate->N5,map_append->Oa,take_add_one->Oe,mem_append->Og,map_map->Oi,getElem_mem->Oj,all_eq_true->Ol,map_cons->Om,getElem_of_mem->Ov,length_cons->Oy,pairwise_cons->OJ,length_replicate->OK,nodup_cons->OO,mem_append_left->OQ,length_take_le'->OS,replicate_succ->OZ,pairwise_map->O5,map_congr_left->O6,append_nil->O8,getElem?_append_right->Pa,length_take->Pb,length_set->Pe,getElem?_eq_none->Pf,length_eq_zero_iff->Pm,pairwise_iff_getElem->Pt,getElem?_append_left->Pu,drop_eq_getElem_cons->Pw,mem_map->PF,lookup->PL,length_nil->PU,contains_iff_mem->P0,getElem?_replicate->P9,filter_cons_of_pos->Qf,filter_cons_of_neg->Qg,getElem?_set_self->Qp,zip_cons_cons->Qv,lookup_cons->QC,filter_cons->QD,nodup_append->QI,length_singleton->QJ,mem_or_eq_of_mem_set->QM,mem_of_mem_take->QS,getElem?_set_ne->QU,find?_cons->QX,pairwise_singleton->Q3,Perm->Q4,flatten_cons->Q6,drop_eq_nil_of_le->Rc,length_filter_le->Rf,mem_filterMap->Rp,length_drop->Ru,any_cons->Rx,pairwise_append->Ry,getLast?_concat->Rz,getElem?_of_mem->RA,eq_nil_of_length_eq_zero->RB,range->RG,filterMap_cons->RH,getElem?_inj->RI,mem_filter->RR,map_replicate->RW,length_eraseIdx_of_lt->RX,append_assoc->R6,mem_range->Si,toArray->Sv,nil_append->Sx,forIn_cons->SB,foldl_cons->SC,foldl_append->SD,of_mem_zip->SI,drop_zero->SO
open PySem.Str renaming ofString->yv,length_append->Q7,empty->RM
open PySem.Heap renaming get?_push_of_some->zv,get?_push_size->NK,lt_size->NR,get?_update_other->NS,get?_update_self->OF,size_push->Pl,SameBut->Q8
open Nat renaming le_refl->Nq,lt_of_lt_of_le->NT,lt_of_succ_lt->N1,le_trans->N6,lt_irrefl->Od,ne_of_lt->Oh,zero_le->Ot,lt_of_le_of_lt->OI,le_of_lt->Pj,ne_of_gt->Qs,le_succ_of_le->Qy,lt_succ_of_lt->QP,lt_succ_self->Rn,le_of_eq->Sk,le_succ->Sy,min_eq_left->SH,toDigits->SJ,not_lt->SK
open PySem.W renaming Frag->Nu,mg_none_of->OM,kia_one->OU,findIn->O0,nsIn->Pr,mg_of->PD,keepIn->Rk,methodCall_KW->R8,mroIn->Sa,plainGet->Sg,hasDictIn->Sl,of_hideAll->Sw,instObj->Sz,callWith_K->SF,codeHdIn->SM
open Bool renaming false_ne_true->Nx,and_eq_true->Oc,false_eq_true->Pi,eq_false_iff->Qm,eq_iff_iff->Qu,or_false->QQ,false_and->RZ
open PySem.Value renaming ref->Ny,none->N7,bool->Pq,int->PB,str->RL
open Or renaming inl->NC,inr->Rm
open Ne renaming symm->NO
open Option renaming map_eq_some_iff->NV,some->Ob,bind_some->RK,isSome_iff_exists->R4,map_some->SL
open Array renaming getElem?_setIfInBounds_self_of_lt->Oq,getElem?_eq_some_iff->OP,length_toList->PR,getElem?_toList->QT,getElem?_setIfInBounds_ne->Re,getElem?_eq_getElem->R1
open PyProof.Rows renaming slot_tuple_getitem->Ow,callWith_type1->O1,seqObj->Pc,strKind->PK,envOfC->PY,subscriptTail_builtinR->Qk,IntsAre->Qq,AllBare->Qz,IsTup->Rg,boot_isinstance->RF,slot_tuple_getitem->RO,size_push'->RQ,assignInOrder_cons->RV,boot_sorted->R5,lt_int->SQ
open PySem.Txt renaming split->Oz,slice->OV,rfind->QV,join->SN
open PySem.Obj renaming isFreed_of_fields->OX,data_mapFields->PZ,mapSeq->Qw,cls_mapFields->Rb,mapFields->Sj
open Int renaming toNat_natCast->Ph,eq_ofNat_of_zero_le->Pn,lt_of_le_of_lt->QZ,mul_assoc->Sb,lt_irrefl->Sd
open Classical renaming byContradiction->Px
open PySem.PyData renaming keyHash->QF
open PySem.F renaming slot_dict_get->Ro,plainAttrs_list->RE,slot_str_split->RP,slot_dict_delitem->R0,plainAttrs_dict->Sm,attr_ValueError->So,args_dict_get_3->Sq
open PySem.W (methodObj hideAll hideAll_get lookIn handedIn plainGet_of isFn plainOver takerIn makesIn emptyDict callWith_K0 fnOf codeIn excIn clsIn kla_obj tabObj kla_fn codeHd_of_K tabIn)
open List (length map_nil foldl Pairwise cons_append range' all_append map map_set nodup_nil)
open PySem.Heap (UpToSlots ExtBut)
open Nat (gcd)
open Option (getD_none isSome_some isSome_map bind_eq_some_iff)
open PySem.Value (float type builtin)
open PyProof.Rows (KeyOrd)
open PySem.F (slot_tuple_add entry_tuple_add args_tuple_add_2 entry_str_split args_str_split_2 entry_dict_get)
local macro_rules | `(f!$_)=>`(by decide +kernel)
set_option Elab.async false
set_option linter.all false
set_option autoImplicit true
set_option maxRecDepth 100000
namespace L2
open PySem PySem.Spec PyProof.Rows
abbrev V0:PySem.Str:="_law_draw"
abbrev VZ:PySem.Str:="refuse_if_stopped"
abbrev VY:PySem.Str:="_law_rows"
abbrev VX:PySem.Str:="__init__"
abbrev VW:PySem.Str:="whole_rows"
abbrev VV:PySem.Str:="hold"
abbrev VU:PySem.Str:="put"
abbrev VT:PySem.Str:="cut"
abbrev VS:PySem.Str:="_law_drawn"
abbrev VR:PySem.Str:="stretches"
abbrev VQ:PySem.Str:="is_made_of"
abbrev VP:PySem.Str:="Disk.refuse_if_stopped"
abbrev VO:PySem.Str:="copied"
abbrev VN:PySem.Str:="_law_best_worth"
abbrev VM:PySem.Str:="_law_best_least"
abbrev VL:PySem.Str:="is_within"
abbrev VJ:PySem.Str:="first_signs"
abbrev VI:PySem.Str:="next_number"
abbrev VH:PySem.Str:="_law_closed"
abbrev VG:PySem.Str:="is_number_text"
abbrev VF:PySem.Str:="refuse_if_none"
abbrev VE:PySem.Str:="common_divisor"
abbrev VD:PySem.Str:="next_place"
abbrev VC:PySem.Str:="_law_numbers"
abbrev VB:PySem.Str:="read_part"
abbrev VA:PySem.Str:="living_in"
abbrev Vz:PySem.Str:="part_text"
abbrev Vy:PySem.Str:="_law_births"
abbrev Vx:PySem.Str:="last_number"
abbrev Vw:PySem.Str:="_law_halted"
abbrev Zu:List PySem.Str:=["_law_pot_here","_law_many"]
abbrev Zn:List PySem.Str:=["self"]
abbrev YJ:List PySem.Str:=["_law_pot_here","_law_shelf"]
abbrev Yo:List PySem.Str:=["self","files","spots","next_number","mark_number"]
abbrev Ym:List PySem.Str:=["_law_pot_here","_law_some"]
abbrev X5:List PySem.Str:=["_law_shelf","_law_places","_law_spots","_law_following","_law_stretch"]
abbrev X4:List PySem.Str:=["self","stretches","places"]
abbrev XQ:List PySem.Str:=["_law_script","_law_k"]
abbrev XG:List PySem.Str:=["_law_pot_here","_law_disk_here","_law_shelf","_law_numbers_here","_law_stretch","_law_way","_law_heats","_law_row_here","_law_text"]
abbrev Xx:List PySem.Str:=["_law_pot_here","_law_disk_here","_law_shelf","_law_numbers_here"]
abbrev Xw:List PySem.Str:=["self","stretch"]
abbrev Xv:List PySem.Str:=["disk","stretch"]
abbrev Xu:List PySem.Str:=["text","signs","most"]
abbrev Xk:List PySem.Str:=["text"]
abbrev Xh:List PySem.Str:=["disk","state","stretch"]
abbrev W6:List PySem.Str:=["_law_shelf"]
abbrev W3:List PySem.Str:=["self","file"]
abbrev WZ:List PySem.Str:=["_law_shelf","_law_places","_law_spots","_law_following"]
abbrev WJ:List PySem.Str:=["value","least","most"]
abbrev WI:List PySem.Str:=["_law_shelf","_law_stretch"]
abbrev WH:List PySem.Str:=["self","many"]
abbrev WG:List PySem.Str:=["_law_pot_here","_law_disk_here","_law_shelf","_law_some","_law_stretch","_law_many","_law_told"]
abbrev WE:List PySem.Str:=["_law_pot_here","_law_disk_here","_law_shelf"]
abbrev WD:List PySem.Str:=["_law_pot_here","_law_number","_law_is_hot"]
abbrev WC:List PySem.Str:=["_law_shelf","_law_places","_law_spots","_law_following","_law_stretch","_law_alive"]
abbrev WB:List PySem.Str:=["_law_pot_here","_law_disk_here","_law_shelf","_law_numbers_here","_law_turn_here"]
abbrev WA:List PySem.Str:=["disk","state","kind","stretch","other"]
abbrev Wz:List PySem.Str:=["_law_one","_law_stretch"]
abbrev Wy:List PySem.Str:=["disk","stretch","place"]
abbrev Wx:List PySem.Str:=["_law_one","_law_other"]
abbrev Wv:List PySem.Str:=["self","k","text"]
abbrev Wu:List PySem.Str:=["_law_pot_here","_law_births_here"]
abbrev Wt:List PySem.Str:=["self","name","files"]
abbrev Ws:List PySem.Str:=["self","file","many"]
abbrev Wq:List PySem.Str:=["_law_pot_here","_law_shelf","_law_births_here","_law_spots"]
abbrev Wp:List PySem.Str:=["self","file","place","birth"]
abbrev Wo:List PySem.Str:=["_law_shelf","_law_found","_law_stretch","_law_rows_here"]
abbrev Wn:List PySem.Str:=["_law_stretch","_law_spots"]
abbrev Wm:List PySem.Str:=["kind","word"]
abbrev Wl:List PySem.Str:=["_law_shelf","_law_is_hot"]
abbrev Wk:List PySem.Str:=["state","stretch"]
abbrev Wj:List PySem.Str:=["state","stretch","found"]
abbrev Wi:List PySem.Str:=["_law_shelf","_law_spots"]
abbrev Wh:List PySem.Str:=["self","stretch","place"]
abbrev Wg:List PySem.Str:=["number","other"]
abbrev Wf:List PySem.Str:=["_law_pot_here","_law_shelf","_law_numbers_here"]
abbrev We:List PySem.Str:=["self","stretch","text"]
abbrev Wd:List PySem.Str:=["number","number","end","name","number","word"]
abbrev Wc:List PySem.Str:=["number","name"]
abbrev Wb:List PySem.Str:=["_law_row_here"]
abbrev Wa:List PySem.Str:=["_law_place","_law_row_here","_law_stretch"]
abbrev V9:List PySem.Str:=["self","other"]
abbrev V8:List PySem.Str:=["disk"]
abbrev V7:List PySem.Str:=["disk","state","kind"]
abbrev V6:List PySem.Str:=["self","text"]
abbrev V5:List PySem.Str:=["self","stretch","texts","done","place"]
abbrev V4:List PySem.Str:=["self","stretch","text","texts","place"]
abbrev V3:List PySem.Str:=["self","name"]
abbrev V2:List PySem.Str:=["_law_shelf","_law_is_hot","_law_found"]
abbrev V1:List PySem.Str:=["_law_script"]
structure W(p:Prop):Prop where
 h:p
abbrev Key:=Sum Int Str
def eP:Key->Value->Bool
 | .inl k,v=>Value.isInt k v
 | .inr x,v=>Value.isStrOf x v
def LA(w:NQ):Key->Int
 | .inl k=>hashInt k
 | .inr x=>hashStr w x
theorem cZ:∀{k:Key}{v:Value},eP k v=true->(∃i t,k=Sum.inl i/\v=PB i t)\/(∃x t,k=Sum.inr x/\v=RL x t)
 | .inl i,v,h=>by
  obtain ⟨t,e⟩:=Value.isInt_shape (k:=i) (v:=v) h;exact .inl ⟨i,t,rfl,e⟩
 | .inr x,v,h=>by
  obtain ⟨t,e⟩:=Value.isStrOf_shape (x:=x) (v:=v) h;exact .inr ⟨x,t,rfl,e⟩
theorem FY(i:Int)(t:Tok):eP (.inl i) (.int i t)=true:=by simp [eP,Value.isInt]
theorem MI(x:Str)(t:Tok):eP (.inr x) (.str x t)=true:=by simp [eP,Value.isStrOf]
theorem HX(a b:Int):decide ((Sum.inl a:Key)=Sum.inl b)=(a==b):=by
 by_cases e:a=b
 .subst e;simp
 .have h : ¬ (Sum.inl a:Key)=Sum.inl b:=λq=>e (Sum.inl.inj q);rw [decide_eq_false h];exact (beq_eq_false_iff_ne.mpr e).symm
theorem Bl(a b:Str):decide ((Sum.inr a:Key)=Sum.inr b)=decide (a=b):=by
 by_cases e:a=b
 .subst e;simp
 .have h : ¬ (Sum.inr a:Key)=Sum.inr b:=λq=>e (Sum.inr.inj q);rw [decide_eq_false h,decide_eq_false e]
theorem Mb(a:Int)(b:Str):decide ((Sum.inl a:Key)=Sum.inr b)=false:=decide_eq_false (λq=>nomatch q)
theorem Dr(a:Str)(b:Int):decide ((Sum.inr a:Key)=Sum.inl b)=false:=decide_eq_false (λq=>nomatch q)
def aB(prog:NB)(w:NQ):PySem.KeyKind prog w Key where
 is:=eP
 hash:=LA w
 inj:=λv a b ha hb=>by
  rcases cZ ha with ⟨i,t,rfl,rfl⟩|⟨x,t,rfl,rfl⟩
  .rcases cZ hb with ⟨j,u,rfl,e⟩|⟨y,u,rfl,e⟩
   .injection e with e1 _;rw [e1]
   .exact nomatch e
  .rcases cZ hb with ⟨j,u,rfl,e⟩|⟨y,u,rfl,e⟩
   .exact nomatch e
   .injection e with e1 _;rw [e1]
 byValue:=λk v h=>by
  rcases cZ h with ⟨i,t,rfl,rfl⟩|⟨x,t,rfl,rfl⟩<;>rfl
 pyHash:=λz h=>by
  rcases cZ z with ⟨i,t,rfl,rfl⟩|⟨x,t,rfl,rfl⟩
  .exact wpAny_pyHash_int h
  .exact wpAny_pyHash_str h
 eqBool:=λF z h=>by
  rcases cZ F with ⟨i,t,rfl,rfl⟩|⟨x,t,rfl,rfl⟩
  .rcases cZ z with ⟨j,u,rfl,rfl⟩|⟨y,u,rfl,rfl⟩
   .rw [HX] at h;exact wpAny_eqBool_int h
   .rw [Mb] at h;exact SeqAt.EqAt.int_str i t y u _ _ _ _ h
  .rcases cZ z with ⟨j,u,rfl,rfl⟩|⟨y,u,rfl,rfl⟩
   .rw [Dr] at h;exact SeqAt.EqAt.str_int x t j u _ _ _ _ h
   .rw [Bl] at h;exact wpAny_eqBool_str h
 «strs»:=λk x t v h=>by
  rcases cZ h with ⟨i,u,rfl,e⟩|⟨y,u,rfl,e⟩
  .exact nomatch e
  .injection e with e1 _
   subst e1;cases v<;>rfl
theorem IV(prog:NB)(w:NQ)(i:Int)(t:Tok):(aB prog w).is (.inl i) (.int i t)=true:=FY i t
theorem kI(prog:NB)(w:NQ)(x:Str)(t:Tok):(aB prog w).is (.inr x) (.str x t)=true:=MI x t
inductive V where
 | non|bl (b:Bool)|int (i:Int)|str (x:Str)|byt (b:Array UInt8)|flt (b:UInt64)|ref (a:Addr)|ty (n:String)
 deriving DecidableEq
def zo:V->Value->Prop
 | .non,u=>u=N7
 | .bl b,u=>u=Pq b
 | .int i,u=>∃t,u=PB i t
 | .str x,u=>∃t,u=RL x t
 | .byt b,u=>∃t,u=Value.bytes b t
 | .flt b,u=>∃t,u=float b t
 | .ref a,u=>u=Ny a
 | .ty n,u=>u=type n
abbrev zp:List V->List Value->Prop:=Paired zo
theorem zp.length(r:zp xs us):xs.length=us.length:=Paired.length r
theorem zp.get:∀{xs:List V}{us:List Value}{i:Nat}{x:V},zp xs us->xs[i]?=some x->∃u,us[i]?=some u/\zo x u
 | _,_,_,_,.nil,e=>by simp at e
 | _,_,0,_,.cons r _,e=>by simp at e;subst e;exact ⟨_,rfl,r⟩
 | _,_,i+1,x,.cons _ t,e=>by
  obtain ⟨u,h1,h2⟩:=zp.get (i:=i) (x:=x) t (by simpa using e);exact ⟨u,by simpa using h1,h2⟩
theorem zp.set(r:zo x u):∀{xs:List V}{us:List Value}(i:Nat),zp xs us->zp (xs.set i x) (us.set i u)
 | _,_,_,.nil=>.nil
 | _,_,0,.cons _ t=>.cons r t
 | _,_,i+1,.cons q t=>.cons q (zp.set r i t)
theorem zp.append(h:zp xs us)(k:zp ys ws):zp (xs++ys) (us++ws):=by
 induction h with
 | nil=>exact k
 | cons r t z=>exact .cons r z
theorem zp.take:∀{xs:List V}{us:List Value}(n:Nat),zp xs us->zp (xs.take n) (us.take n)
 | _,_,0,_=>.nil
 | _,_,_+1,.nil=>.nil
 | _,_,n+1,.cons r t=>.cons r (zp.take n t)
theorem zp.drop:∀{xs:List V}{us:List Value}(n:Nat),zp xs us->zp (xs.drop n) (us.drop n)
 | _,_,0,r=>r
 | _,_,_+1,.nil=>.nil
 | _,_,n+1,.cons _ t=>zp.drop n t
def bH:Option V->Option Value->Prop
 | some v,some u=>zo v u
 | none,none=>True
 | _,_=>False
def KV{κ:Type}:List (κ×V)->List (κ×Value)->Prop:=Paired λ(p:κ×V)(q:κ×Value)=>p.1=q.1/\zo p.2 q.2
def kV:Key->V
 | .inl i=>.int i
 | .inr x=>.str x
inductive HO where
 | lst (xs:List V)
 | tup (xs:List V)
 | dK (kvs:List (Key×V))|dT (kvs:List (List Key×V))
 | set (S:Int->Bool) (n:Nat)
 | ins (C dx:Addr) (fs:List (Str×V))
 | own (x:Addr)
 | xd (fs:List (Str×V))
 | met (f x:Addr)
 | rng (lo hi:Int)
 | frz (o:Obj) (u:HO)
 | tbl (ps:Array Value)
 | ext (φ:Heap->Prop)
abbrev Hp:=Addr->Option HO
def upd(H:Hp)(a:Addr)(o:HO):Hp:=λb=>if b=a then some o else H b
theorem zx{o:HO}:upd H a o a=some o:=by unfold upd;rw [if_pos rfl]
theorem zd{o:HO}(h:b≠a):upd H a o b=H b:=by unfold upd;rw [if_neg h]
theorem eI{o u:HO}:upd (upd H a o) a u=upd H a u:=by
 funext b;unfold upd;split<;>rfl
theorem Kf{H:Hp}{o u:HO}(h:H a=some o)(h':H b=some u)(d:o≠u):a≠b:=by
 intro e;subst e;rw [h] at h';exact d (Ob.inj h')
theorem zE{H:Hp}{o:HO}(h:H a=some o)(h':H b=none):a≠b:=by
 intro e;subst e;rw [h] at h';cases h'
section
variable (P:NB) (w:NQ)
def ao(H:Hp)(h:Heap)(a:Addr):HO->Prop
 | .lst xs=>xs.length<=sizeLine/\∃(its:List Value)(n:Nat),zp xs its/\h.get? a=some { cls:=.type "list",data:=.seq its.toArray n }
 | .tup xs=>xs.length<=sizeLine/\∃its:List Value,zp xs its/\Rg h a its.toArray
 | .dK kvs=>kvs.length<=sizeLine/\(a==sysModules)=false/\∃vs,KV kvs vs/\h.DictOf (aB P w) a vs
 | .dT kvs=>kvs.length<=sizeLine/\(a==sysModules)=false/\∃xs:List (List Key×Addr×Value),
   Paired (λ(p:List Key×V)(q:List Key×Addr×Value)=>p.1=q.1/\H q.2.1=some (.tup (p.1.map kV))/\zo p.2 q.2.2) kvs xs /\
   ∃o es ep,h.get? a=some o/\o.ExactDict/\o.data = .dict es ep/\es.toList=xs.map (entryOfKey (Se (aB P w)))/\(xs.map (·.1)).Nodup
 | .set S n=>h.SetOf (intKind P w) a S n
 | .ins C dx fs=>H dx=some (.own a)/\fs.length<=1000/\dx≠a/\h.get? a=some (Sz C dx) /\
   ∃mA,h.Ns1 dx mA/\(∀f,bH (fs.lookup f) (mA f))/\SG mA (fs.map (·.1))
 | .own _=>∃o,h.get? a=some o
 | .xd fs=>∃mA,h.Ns1 a mA/\∀f,bH (fs.lookup f) (mA f)
 | .rng lo hi=>∃t u v,h.get? a=some { cls:=.type "range",data:=.fields #[.int lo t,.int hi u,.int 1 v] }
 | .frz o u=>h.get? a=some o/\ao H h a u
 | .tbl ps=>h.get? a=some { cls:=.none,data:=.fields ps }
 | .met f x=>h.get? a=some (methodObj (.ref f) (.ref x))
 | .ext z=>z h/\(∃o,h.get? a=some o)/\∀h1 h2:Heap,z h1->(∀o,h1.get? a=some o->h2.get? a=some o)->z h2
def HOk(H:Hp)(h:Heap):Prop:=∀a o,H a=some o->ao P w H h a o
end
section
variable {P:NB}{w:NQ}{H H':Hp}{h h':Heap}{a:Addr}{o:HO}
theorem ao.lt(x:ao P w H h a o):a<h.objs.size:=by
 cases o with
 | lst xs=>obtain ⟨_,_,_,_,e⟩:=x;exact NR e
 | tup xs=>obtain ⟨_,_,_,p⟩:=x;exact p.lt
 | dK kvs=>obtain ⟨_,_,_,_,o,_,_,e,_⟩:=x;exact NR e
 | dT kvs=>obtain ⟨_,_,_,_,o,_,_,e,_⟩:=x;exact NR e
 | set S n=>obtain ⟨o,_,_,_,e,_⟩:=x;exact NR e
 | ins C dx fs=>obtain ⟨_,_,_,e,_⟩:=x;exact NR e
 | own y=>obtain ⟨_,e⟩:=x;exact NR e
 | xd fs=>obtain ⟨_,⟨_,_,_,e,_⟩,_⟩:=x;exact NR e
 | rng lo hi=>obtain ⟨_,_,_,e⟩:=x;exact NR e
 | frz ob u=>obtain ⟨e,_⟩:=x;exact NR e
 | tbl ps=>exact NR (show h.get? a=some _ from x)
 | met f y=>exact NR (show h.get? a=some _ from x)
 | ext z=>obtain ⟨_,⟨_,e⟩,_⟩:=x;exact NR e
theorem Paired.yz{α β:Type}{F G:α->β->Prop}{z:List α}{l₂:List β}(h:Paired F z l₂)(f:∀a b,F a b->G a b):Paired G z l₂:=by
 induction h with
 | nil=>exact .nil
 | cons r t J=>exact .cons (f _ _ r) J
theorem ao.stay(x:ao P w H h a o)(k:∀b u,(b=a\/H b=some (.own a))->h.get? b=some u->h'.get? b=some u)
  (ho:∀b,H b=some (.own a)->H' b=some (.own a)) (J:∀b xs,H b=some (.tup xs)->H' b=some (.tup xs)):ao P w H' h' a o:=by
 induction o with
 | lst xs=>obtain ⟨z,its,n,r,e⟩:=x;exact ⟨z,its,n,r,k _ _ (.inl rfl) e⟩
 | tup xs=>obtain ⟨z,its,r,ob,e,c⟩:=x;exact ⟨z,its,r,ob,k _ _ (.inl rfl) e,c⟩
 | dK kvs=>obtain ⟨z,y,vs,r,ob,es,ep,e,c⟩:=x;exact ⟨z,y,vs,r,ob,es,ep,k _ _ (.inl rfl) e,c⟩
 | dT kvs =>
  obtain ⟨z,y,xs,r,ob,es,ep,e,c⟩:=x;exact ⟨z,y,xs,Paired.yz r λp q z=>⟨z.1,J _ _ z.2.1,z.2.2⟩,ob,es,ep,k _ _ (.inl rfl) e,c⟩
 | set S n=>obtain ⟨ob,es,ep,t,e,c⟩:=x;exact ⟨ob,es,ep,t,k _ _ (.inl rfl) e,c⟩
 | ins C dx fs =>
  obtain ⟨d,z,ne,e,mA,⟨F,es,ep,G,c⟩,r⟩:=x;exact ⟨ho _ d,z,ne,k _ _ (.inl rfl) e,mA,⟨F,es,ep,k _ _ (.inr d) G,c⟩,r⟩
 | own y=>obtain ⟨ob,e⟩:=x;exact ⟨ob,k _ _ (.inl rfl) e⟩
 | xd fs=>obtain ⟨mA,⟨F,es,ep,e,c⟩,r⟩:=x;exact ⟨mA,⟨F,es,ep,k _ _ (.inl rfl) e,c⟩,r⟩
 | rng lo hi=>obtain ⟨t,u,v,e⟩:=x;exact ⟨t,u,v,k _ _ (.inl rfl) e⟩
 | frz ob u O=>obtain ⟨e,q⟩:=x;exact ⟨k _ _ (.inl rfl) e,O q⟩
 | tbl ps =>
  have e:h.get? a=some { cls:=.none,data:=.fields ps }:=x;show h'.get? a=some { cls:=.none,data:=.fields ps };exact k a _ (.inl rfl) e
 | met f y =>
  have e:h.get? a=some (methodObj (.ref f) (.ref y)):=x;show h'.get? a=some (methodObj (.ref f) (.ref y));exact k a _ (.inl rfl) e
 | ext U=>obtain ⟨p,⟨o,e⟩,st⟩:=x;exact ⟨st _ _ p λo q=>k _ _ (.inl rfl) q,⟨o,k _ _ (.inl rfl) e⟩,st⟩
theorem HOk.lt(x:HOk P w H h)(e:H a=some o):a<h.objs.size:=(x a o e).lt
theorem HOk.fresh(x:HOk P w H h)(e:h.objs.size<=a):H a=none:=by
 cases q:H a with
 | none=>rfl
 | some u=>exact absurd (NT (x.lt q) e) (Od _)
theorem HOk.kept(x:HOk P w H h)(k:∀b u,h.get? b=some u->h'.get? b=some u):HOk P w H h':=λa o e =>
 (x a o e).stay (λb u _ q=>k b u q) (λ_ q=>q) λ_ _ q=>q
theorem HOk.laid(x:HOk P w H h)(k:∀b u,h.get? b=some u->h'.get? b=some u)(z:h.objs.size<=a)(new:ao P w (upd H a o) h' a o):HOk P w (upd H a o) h':=λb u e=>by
 have hn:=x.fresh z;by_cases hb:b=a
 .subst hb;rw [zx] at e;cases e;exact new
 .rw [zd hb] at e;exact (x b u e).stay (λc v _ q=>k c v q) (λc q=>by rw [zd (zE q hn)];exact q) λc xs q=>by rw [zd (zE q hn)];exact q
end
def Rd(H:Hp)(a:Addr)(u:HO):Prop:=H a=some u\/∃o,H a=some (.frz o u)
theorem Rd.ok(r:Rd H a u)(x:HOk P w H h):ao P w H h a u:=by
 rcases r with r|⟨o,r⟩
 .exact x a u r
 .obtain ⟨_,q⟩:=x a _ r;exact q
def Mut:Option HO->Prop
 | some (.lst _)=>True
 | some (.dK _)=>True
 | some (.dT _)=>True
 | some (.set _ _)=>True
 | some (.ins _ _ _)=>True
 | some (.ext _)=>True
 | _=>False
section
variable {P:NB}{w:NQ}{H:Hp}{h h':Heap}{x e:Addr}{o':HO}
theorem HOk.write(ok:HOk P w H h)(O:Mut (H x))(he:e=x\/H e=some (.own x))(k:∀b u,b≠e->h.get? b=some u->h'.get? b=some u)(S:∃u,h'.get? e=some u)
  (new:ao P w (upd H x o') h' x o'):HOk P w (upd H x o') h':=λb u q=>by
 have G:∀c y,H c=some (.own y)->c≠x:=λc y r z=>by subst z;rw [r] at O;exact O
 have J:∀c xs,H c=some (.tup xs)->c≠x:=λc xs r z=>by subst z;rw [r] at O;exact O
 by_cases hb:b=x
 .subst hb;rw [zx] at q;cases q;exact new
 .rw [zd hb] at q;by_cases F:b=e
  .have U:H b=some (.own x):=by
    rcases he with z|z
    .exact absurd (F.trans z) hb
    .rw [F];exact z
   rw [q] at U;cases U;obtain ⟨v,W⟩:=S;exact ⟨v,by rw [F];exact W⟩
  .refine (ok b u q).stay (λc v hc r=>k c v ?_ r) (λc r=>by rw [zd (G c b r)];exact r) λc xs r=>by rw [zd (J c xs r)];exact r
   rcases hc with rfl|hc
   .exact F
   .rintro rfl;rcases he with z|z
    .exact G c b hc z
    .rw [hc] at z;cases z;exact hb rfl
end
structure Un(fs ex:List Addr)(H H':Hp)(h h':Heap):Prop where
 keep:∀b o,h.get? b=some o->H b=none->b∉fs->b∉ex->h'.get? b=some o
 slot:∀b o,h.get? b=some o->H b=none->b∈fs->b∉ex->∃sl,h'.get? b=some { o with slots:=sl }
 free:∀b o,h.get? b=some o->H b=none->b∉ex->H' b=none
 there:∀b o,h.get? b=some o->b∉ex->∃o',h'.get? b=some o'
 tups:∀b xs,H b=some (.tup xs)->H' b=some (.tup xs)
 frzs:∀b o u,H b=some (.frz o u)->H' b=some (.frz o u)
 tbls:∀b ps,H b=some (.tbl ps)->∃more,H' b=some (.tbl (ps++more))
section
variable {fs fs' ex ex':List Addr}{H H1 H2:Hp}{h h1 h2 h':Heap}{a x e:Addr}{o:HO}
theorem Un.any(u:Un fs ex H H1 h h1)(q:h.get? b=some ob)(n:H b=none)(hx:b∉ex):∃sl,h1.get? b=some { ob with slots:=sl }:=by
 by_cases hb:b∈fs
 .exact u.slot b ob q n hb hx
 .exact ⟨ob.slots,u.keep b ob q n hb hx⟩
theorem Un.kept(k:∀b u,h.get? b=some u->h'.get? b=some u):Un fs ex H H h h' :=
 ⟨λb ob q _ _ _=>k b ob q,λb ob q _ _ _=>⟨ob.slots,k b ob q⟩,λ_ _ _ n _=>n,λb ob q _=>⟨ob,k b ob q⟩,λ_ _ q=>q,λ_ _ _ q=>q,λ_ ps q=>⟨#[],by rw [q];simp⟩⟩
theorem Un.refl:Un fs ex H H h h:=Un.kept λ_ _ q=>q
theorem Un.laid(k:∀b u,h.get? b=some u->h'.get? b=some u)(z:h.objs.size<=a)(hn:H a=none):Un fs ex H (upd H a o) h h' where
 keep:=λb u q _ _ _=>k b u q
 slot:=λb u q _ _ _=>⟨u.slots,k b u q⟩
 free:=λb u q n _=>by rw [zd (Oh (NT (NR q) z))];exact n
 there:=λb u q _=>⟨u,k b u q⟩
 tups:=λb xs q=>by rw [zd (zE q hn)];exact q
 frzs:=λb u xs q=>by rw [zd (zE q hn)];exact q
 tbls:=λb ps q=>⟨#[],by rw [zd (zE q hn),q];simp⟩
theorem Un.write(G:Mut (H x))(he:e=x\/H e=some (.own x))(k:∀b u,b≠e->h.get? b=some u->h'.get? b=some u)(J:∃u,h'.get? e=some u):Un fs ex H (upd H x o) h h':=by
 have hx:∀b,H b=none->b≠x:=λb n z=>by subst z;rw [n] at G;exact G
 have hb:∀b,H b=none->b≠e:=λb n z=>by
  subst z;rcases he with r|r
  .exact hx b n r
  .rw [n] at r;cases r
 have hm:∀b u,H b=some u->¬ Mut (some u)->b≠x:=λb u q nm z=>by subst z;rw [q] at G;exact nm G
 refine ⟨λb u q n _ _=>k b u (hb b n) q,λb u q n _ _=>⟨u.slots,k b u (hb b n) q⟩,λb u q n _=>by rw [zd (hx b n)];exact n,λb u q _=>?_,
  λb xs q=>by rw [zd (hm b _ q λz=>z)];exact q,λb u xs q=>by rw [zd (hm b _ q λz=>z)];exact q,λb ps q=>⟨#[],by rw [zd (hm b _ q λz=>z),q];simp⟩⟩
 by_cases F:b=e
 .subst F;exact J
 .exact ⟨u,k b u F q⟩
end
def trk(h:Heap)(H:Hp):List Addr:=(RG h.objs.size).filter λa=>(H a).isSome
def d6(h:Heap)(H:Hp):Heap:=hideAll h (trk h H)
theorem M8(h:Heap)(H:Hp):(d6 h H).objs.size=h.objs.size:=PySem.W.hideAll_size _ _
theorem J6{o:Obj}(e:h.get? b=some o)(n:H b=none):(d6 h H).get? b=some o :=
 hideAll_get _ e λhm=>by
  have q:(H b).isSome=true:=(RR.mp hm).2;rw [n] at q;simp at q
theorem CH{o:Obj}(e:(d6 h H).get? b=some o):h.get? b=some o/\H b=none:=by
 have F:h.get? b=some o:=Sw (trk h H) e;refine ⟨F,?_⟩;cases q:H b with
 | none=>rfl
 | some x =>
  have hm:b∈trk h H:=RR.mpr ⟨Si.mpr (NR F),by simp [q]⟩;have z:(d6 h H).get? b=none:=PySem.W.hideAll_none (trk h H) hm;rw [z] at e;cases e
def gJ(g h:Heap)(L:Addr):List (Addr×Obj):=(RG h.objs.size).filterMap λa=>if a=L\/(g.get? a).isSome=true then none else (h.get? a).map λo=>(a,o)
theorem DC{o:Obj}(h1:a≠L)(h2:g.get? a=none)(h3:h.get? a=some o):(a,o)∈gJ g h L :=
 Rp.mpr ⟨a,Si.mpr (NR h3),by simp [h1,h2,h3]⟩
theorem Kq{p:Addr×Obj}(F:p∈gJ g h L):p.1≠L/\g.get? p.1=none/\h.get? p.1=some p.2:=by
 obtain ⟨b,_,e⟩:=Rp.mp F;split at e
 .cases e
 .rename_i hn;cases q:h.get? b with
  | none=>rw [q] at e;simp at e
  | some u =>
   rw [q] at e;simp only [SL,Ob.injEq] at e;subst e;refine ⟨λz=>hn (.inl z),?_,q⟩;show g.get? b=none;cases r:g.get? b with
   | none=>rfl
   | some v=>exact (hn (.inr (by simp [r]))).elim
theorem DH:News g L h (gJ g h L):=λp z=>let ⟨a,b,c⟩:=Kq z;⟨c,a,b⟩
structure Mod(K:Nu)(mg:Str->Option Value)(base:Heap):Prop where
 aF:K.In base
 glob:base.Ns NA mg
 blt:∃mb,base.Ns QY mb/\∀x:Str,x≠"__name__"->mb x=Qo x
 nolimit:base.NoLimit
def i8(A:NP)(H:Hp):Prop:=A.handled=none\/∃(a:Addr)(o:Obj)(vs:Array Value),A.handled=some (.ref a)/\H a=some (.frz o (.own 0))/\o.data = .fields vs/\vs[2]?=some .none/\∃C,o.cls = .ref C
theorem i8.same(x:i8 A H)(k:∀b o u,H b=some (.frz o u)->H' b=some (.frz o u)):i8 A H':=by
 rcases x with x|⟨a,o,vs,h1,h2,h3⟩
 .exact .inl x
 .exact .inr ⟨a,o,vs,h1,k _ _ _ h2,h3⟩
structure Cx where
 prog:NB
 w:NQ
 K:Nu
 mg:Str->Option Value
 base:Heap
 A:NP
 N:List Str
 s₀:we
 H₀:Hp
 env:Env
 outer:List Env
 stack:List Env
 ex:List Addr
 fn:Str->Bool
 calm:Bool
 pn:List (Addr×Obj)
 xe:Value->we->Prop
def frs(l:List Env):List Addr:=l.filterMap (·.frame)
abbrev Cx.fs(X:Cx):List Addr:=frs X.outer
def Vis(sc:Scope)(x:Str):Prop:=sc.names.lookup x=some .local\/sc.names.lookup x=some .cell\/sc.names.lookup x=some .free
def Loc(sc:Scope)(x:Str):Prop:=sc.names.lookup x=some .local\/sc.names.lookup x=some .cell
def Ir(env:Env)(h:Heap)(m:Str->Option Value)(x:Str)(u:Value):Prop :=
 (env.kindOf x=some .local/\m x=some u)\/((env.kindOf x=some .cell\/env.kindOf x=some .free)/\∃c,env.cells.lookup x=some c/\h.IsCell c (some u))
structure Cx.Ok(X:Cx):Prop where
 mod:Mod X.K X.mg X.base
 kind:X.env.scope.kind = .function
 glob:X.env.globals=NA
 blt:X.env.builtins=QY
 above:X.s₀.heap.objs.size<=X.env.locals
 inj:∀x y c,X.env.cells.lookup x=some c->X.env.cells.lookup y=some c->x=y
 has:∀x,(X.env.kindOf x=some .cell\/X.env.kindOf x=some .free)->∃c,X.env.cells.lookup x=some c
 aS:∀x c,X.fn x=true->X.env.cells.lookup x=some c->X.s₀.heap.objs.size<=c
 hd:X.calm=true->X.A.handled=none
 frames:X.A.frames=some X.stack
 aW:X.stack=X.outer\/(X.stack=X.env::X.outer/\X.env.frame=some X.env.locals)
 bo:∀b∈X.ex,b≠X.env.locals/\∀x c,X.env.cells.lookup x=some c->c≠b
 bs:∀b o,X.base.get? b=some o->X.s₀.heap.get? b=some o/\X.H₀ b=none
 ah:X.base.objs.size<=X.s₀.heap.objs.size
 Vi:∀b o,X.base.get? b=some o->b∉X.ex
 Vm:∀b∈X.ex,b∉X.fs
 Tn:X.s₀.heap.FunFrames X.base X.outer
 ay:∀b∈X.fs,X.H₀ b=none
structure Inv(X:Cx)(Go:List (Addr×Obj))(σ:List (Option V))(H:Hp)(s:we):Prop where
 ok:X.Ok
 os:s.os=X.s₀.os
 bare:Qz s.gens
 base:Un X.fs X.ex X.H₀ H X.s₀.heap s.heap
 loc:∃m,s.heap.Ns X.env.locals m/\∀(i:Nat)(x:Str)(v:V),X.N[i]?=some x->σ[i]?=some (some v)->Vis X.env.scope x->∃u,zo v u/\Ir X.env s.heap m x u
 cell:∀x c,X.env.cells.lookup x=some c->∃v,s.heap.IsCell c v
 free:H X.env.locals=none
 Pv:∀x c,X.env.cells.lookup x=some c->H c=none
 pin:∀p∈X.pn++Go,s.heap.get? p.1=some p.2/\H p.1=none/\p.1≠X.env.locals/\p.1∉X.fs/\∀v,p.2.data≠.cell v
 hok:HOk X.prog X.w H s.heap
 len:σ.length=X.N.length
 hdk:i8 X.A H
section
variable {X:Cx}{Go:List (Addr×Obj)}{σ:List (Option V)}{H H':Hp}{s:we}{h':Heap}
theorem Cx.Ok.bz(ok:X.Ok){o:Obj}(e:X.base.get? b=some o):b∉X.fs:=λhb=>by
 have:=(ok.Tn.mem hb).1;rw [e] at this;cases this
theorem Inv.bs(I:Inv X Go σ H s):∀b o,X.base.get? b=some o->s.heap.get? b=some o/\H b=none:=λb o e =>
 ⟨I.base.keep b o (I.ok.bs b o e).1 (I.ok.bs b o e).2 (I.ok.bz e) (I.ok.Vi b o e),I.base.free b o (I.ok.bs b o e).1 (I.ok.bs b o e).2 (I.ok.Vi b o e)⟩
theorem Inv.bk(I:Inv X Go σ H s):∀b o,X.base.get? b=some o->s.heap.get? b=some o:=λb o e=>(I.bs b o e).1
theorem Inv.mod(I:Inv X Go σ H s):Mod X.K X.mg X.base:=I.ok.mod
theorem Inv.S2(I:Inv X Go σ H s):X.K.In s.heap:=I.ok.mod.aF.keeps I.bk
theorem Inv.fr(I:Inv X Go σ H s):∃m,Fr X.base X.env.locals s.heap m :=
 let ⟨m,hn,_⟩:=I.loc
 ⟨m,hn,I.bk,N6 I.ok.ah I.ok.above⟩
theorem Inv.lt(I:Inv X Go σ H s):X.env.locals<s.heap.objs.size:=let ⟨_,hn,_⟩:=I.loc;hn.lt
theorem Inv.sz(I:Inv X Go σ H s):X.s₀.heap.objs.size<=s.heap.objs.size:=N6 I.ok.above (Pj I.lt)
theorem Inv.a0(I:Inv X Go σ H s)(h:s.heap.objs.size<=a):a∉X.fs:=λhb=>by
 obtain ⟨_,o,ho,_⟩:=I.ok.Tn.mem hb;exact absurd (NT (NR ho) (N6 I.sz h)) (Od _)
theorem Inv.cne(I:Inv X Go σ H s):∀x c,X.env.cells.lookup x=some c->c≠X.env.locals:=λx c e z=>by
 obtain ⟨v,o,ho,hd⟩:=I.cell x c e;obtain ⟨m,⟨o',es,ep,G,F,_⟩,_⟩:=I.loc;rw [z,G] at ho;cases ho;rw [F] at hd;cases hd
theorem Inv.Tn(I:Inv X Go σ H s):s.heap.FunFrames X.base X.outer:=by
 have all:∀(l:List Env),(∀b∈frs l,b∈X.fs)->X.s₀.heap.FunFrames X.base l->s.heap.FunFrames X.base l:=by
  intro l
  induction l with
  | nil=>intro _ _;trivial
  | cons env r J =>
   intro hs hl;obtain ⟨G,⟨L,o,hf,hn,ho,hd⟩,hr⟩:=hl;have F:L∈X.fs:=hs L (by unfold frs;rw [RH,hf];exact NX);obtain ⟨sl,e⟩:=I.base.slot L o ho (I.ok.ay L F) F λz=>I.ok.Vm L z F;exact ⟨G,⟨L,_,hf,hn,e,hd⟩,J (λb hb=>hs b (by unfold frs;rw [RH,hf];exact ND _ hb)) hr⟩
 exact all X.outer (λ_ hb=>hb) I.ok.Tn
theorem Inv.stack(I:Inv X Go σ H s):s.heap.FunFrames X.base X.stack:=by
 rcases I.ok.aW with e|⟨e,hf⟩
 .rw [e];exact I.Tn
 .rw [e];obtain ⟨m,hn,_⟩:=I.loc;refine .cons (by rw [I.ok.kind];decide) hf hn ?_ I.Tn;exact Heap.get?_none_of_le (N6 I.ok.ah I.ok.above)
theorem Inv.Tu(I:Inv X Go σ H s):∀b∈frs X.stack,b∈X.env.locals::X.fs:=λb hb=>by
 rcases I.ok.aW with e|⟨e,hf⟩
 .rw [e] at hb;exact ND _ hb
 .rw [e] at hb;unfold frs at hb;rw [RH,hf] at hb;exact hb
theorem Inv.UJ(I:Inv X Go σ H s):∀b∈frs X.stack,H b=none:=λb hb=>by
 rcases Nw.mp (I.Tu b hb) with e|hb
 .rw [e];exact I.free
 .obtain ⟨_,o,ho,_⟩:=I.ok.Tn.mem hb;exact I.base.free b o ho (I.ok.ay b hb) λz=>I.ok.Vm b z hb
theorem Inv.step{ch:List Addr}(I:Inv X Go σ H s)(U:∀b∈ch,(b∈X.ex\/X.s₀.heap.objs.size<=b)/\b≠X.env.locals/\(∀x c,X.env.cells.lookup x=some c->c≠b)/\∀p∈X.pn++Go,p.1≠b)(keep:∀b o,b≠X.env.locals->b∉X.fs->b∉ch->s.heap.get? b=some o->H b=none->h'.get? b=some o)(slot:∀b o,b≠X.env.locals->b∈X.fs->b∉ch->s.heap.get? b=some o->H b=none->∃sl,h'.get? b=some { o with slots:=sl })(free:∀b o,b∉ch->s.heap.get? b=some o->H b=none->H' b=none)(there:∀b o,b∉ch->s.heap.get? b=some o->∃o',h'.get? b=some o')(tups:∀b xs,H b=some (.tup xs)->H' b=some (.tup xs))(frzs:∀b o u,H b=some (.frz o u)->H' b=some (.frz o u))(tbls:∀b ps,H b=some (.tbl ps)->∃more,H' b=some (.tbl (ps++more)))(ns:∀m,s.heap.Ns X.env.locals m->h'.Ns X.env.locals m)(hok:HOk X.prog X.w H' h')(hg:Qz g'):
  Inv X Go σ H' { s with heap:=h',gens:=g',drawn:=d',toks:=t' }:=by
 have S:∀b o,X.s₀.heap.get? b=some o->b≠X.env.locals:=λb o e=>Oh (NT (NR e) I.ok.above);have J:∀b o,X.s₀.heap.get? b=some o->b∉X.ex->b∉ch:=λb o e hx hb=>by
  rcases (U b hb).1 with z|z
  .exact hx z
  .exact absurd (NT (NR e) z) (Od _)
 have G:∀x c,X.env.cells.lookup x=some c->∀v,s.heap.IsCell c v->h'.IsCell c v:=λx c e v ⟨o,ho,hd⟩=>by
  have F:c∉ch:=λz=>(U c z).2.2.1 x c e rfl;by_cases hc:c∈X.fs
  .obtain ⟨sl,q⟩:=slot c o (I.cne x c e) hc F ho (I.Pv x c e);exact ⟨_,q,hd⟩
  .exact ⟨o,keep c o (I.cne x c e) hc F ho (I.Pv x c e),hd⟩
 refine ⟨I.ok,I.os,hg,⟨λb o e n hb hx=>?_,λb o e n hb hx=>?_,λb o e n hx=>?_,λb o e hx=>?_,λb xs e=>tups b xs (I.base.tups b xs e),λb o xs e=>frzs b o xs (I.base.frzs b o xs e),λb ps e=>?_⟩,?_,λx c e=>?_,?_,λx c e=>?_,λp hp=>?_,hok,I.len,I.hdk.same frzs⟩
 .exact keep b o (S b o e) hb (J b o e hx) (I.base.keep b o e n hb hx) (I.base.free b o e n hx)
 .obtain ⟨sl,O⟩:=I.base.slot b o e n hb hx;obtain ⟨XM,W⟩:=slot b _ (S b o e) hb (J b o e hx) O (I.base.free b o e n hx);exact ⟨XM,W⟩
 .obtain ⟨o',O⟩:=I.base.there b o e hx;exact free b o' (J b o e hx) O (I.base.free b o e n hx)
 .obtain ⟨o',O⟩:=I.base.there b o e hx;exact there b o' (J b o e hx) O
 .obtain ⟨m1,O⟩:=I.base.tbls b ps e;obtain ⟨m2,W⟩:=tbls b _ O;exact ⟨m1++m2,by rw [W,Array.append_assoc]⟩
 .obtain ⟨m,hn,hl⟩:=I.loc;refine ⟨m,ns m hn,λi x v O W e3=>?_⟩;obtain ⟨u,r,l⟩:=hl i x v O W e3;refine ⟨u,r,?_⟩;rcases l with l|⟨k,c,e,z⟩
  .exact .inl l
  .exact .inr ⟨k,c,e,G x c e _ z⟩
 .obtain ⟨v,z⟩:=I.cell x c e;exact ⟨v,G x c e v z⟩
 .obtain ⟨m,⟨o,_,_,ho,_⟩,_⟩:=I.loc;exact free _ o (λz=>(U _ z).2.1 rfl) ho I.free
 .obtain ⟨v,o,ho,hd⟩:=I.cell x c e;exact free c o (λz=>(U c z).2.2.1 x c e rfl) ho (I.Pv x c e)
 .obtain ⟨e,n,ne,Z,d⟩:=I.pin p hp;have F:p.1∉ch:=λz=>(U p.1 z).2.2.2 p hp rfl;exact ⟨keep p.1 p.2 ne Z F e n,free p.1 p.2 F e n,ne,Z,d⟩
theorem Inv.un(I:Inv X Go σ H s)(u:Un X.fs [] H H' s.heap h')(hok:HOk X.prog X.w H' h'):Inv X Go σ H' { s with heap:=h',toks:=t' }:=by
 obtain ⟨m,⟨o,es,ep,ho,r⟩,_⟩:=id I.loc;obtain ⟨sl,O⟩:=u.any ho I.free (by simp);exact I.step (g':=s.gens) (d':=s.drawn) (ch:=[]) (λ_ z=>nomatch z) (λb o _ hb _ e n=>u.keep b o e n hb (by simp)) (λb o _ hb _ e n=>u.slot b o e n hb (by simp)) (λb o _ e n=>u.free b o e n (by simp)) (λb o _ e=>u.there b o e (by simp)) u.tups u.frzs u.tbls (λS hm=>by
  obtain ⟨o',F,G,J,r'⟩:=hm;rw [ho] at J;cases J;exact ⟨_,F,G,O,r'⟩) hok I.bare
theorem Inv.call(I:Inv X Go σ H s)(u:Un (frs X.stack) ch H H' s.heap h')(hok:HOk X.prog X.w H' h')(hg:Qz g')(O:∀b∈ch,(b∈X.ex\/X.s₀.heap.objs.size<=b)/\b≠X.env.locals/\(∀x c,X.env.cells.lookup x=some c->c≠b)/\∀p∈X.pn++Go,p.1≠b):
  Inv X Go σ H' { s with heap:=h',gens:=g',drawn:=d',toks:=t' }:=by
 obtain ⟨m,⟨o,es,ep,ho,r⟩,_⟩:=id I.loc;obtain ⟨sl,J⟩:=u.any ho I.free λz=>(O _ z).2.1 rfl;exact I.step (ch:=ch) O (λb o J hb hc e n=>u.keep b o e n (λz=>(Nw.mp (I.Tu b z)).elim J hb) hc) (λb o _ _ hc e n=>u.any e n hc) (λb o hc e n=>u.free b o e n hc) (λb o hc e=>u.there b o e hc) u.tups u.frzs u.tbls (λU hm=>by
  obtain ⟨o',F,G,S,r'⟩:=hm;rw [ho] at S;cases S;exact ⟨_,F,G,J,r'⟩) hok hg
theorem Inv.turned(I:Inv X Go σ H s)(k:∀b o,b≠it->s.heap.get? b=some o->h'.get? b=some o)(hn:H it=none)(G:it≠X.env.locals)(h1:it∈X.ex\/X.s₀.heap.objs.size<=it)(h2:∀x c,X.env.cells.lookup x=some c->c≠it)(h3:∀p∈X.pn++Go,p.1≠it):Inv X Go σ H { s with heap:=h',toks:=t' }:=by
 have F:∀b u,H b=some u->b≠it:=λb u e z=>by rw [z,hn] at e;cases e
 refine I.step (g':=s.gens) (d':=s.drawn) (ch:=[it]) (λb hb=>?_) (λb o _ _ hc e _=>k b o (λz=>hc (by simp [z])) e) (λb o _ _ hc e _=>⟨o.slots,k b o (λz=>hc (by simp [z])) e⟩) (λ_ _ _ _ n=>n)
  (λb o hc e=>⟨o,k b o (λz=>hc (by simp [z])) e⟩) (λ_ _ e=>e) (λ_ _ _ e=>e) (λb ps e=>⟨#[],by rw [e];simp⟩) (λm hm=>?_) (λb u e=>?_) I.bare
 .have e:b=it:=by simpa using hb
  subst e;exact ⟨h1,G,h2,h3⟩
 .obtain ⟨o,es,ep,ho,r⟩:=hm;exact ⟨o,es,ep,k _ o (NO G) ho,r⟩
 .refine (I.hok b u e).stay (λc v hc q=>k c v ?_ q) (λ_ q=>q) λ_ _ q=>q;rcases hc with z|z
  .rw [z];exact F b u e
  .exact F c _ z
theorem Inv.tok(I:Inv X Go σ H s)(t:Nat):Inv X Go σ H { s with toks:=t }:=I.un (h':=s.heap) (t':=t) Un.refl I.hok
theorem Inv.kept(I:Inv X Go σ H s)(k:∀b u,s.heap.get? b=some u->h'.get? b=some u):Inv X Go σ H { s with heap:=h',toks:=t' }:=I.un (Un.kept k) (I.hok.kept k)
theorem Inv.laid{o:HO}(I:Inv X Go σ H s)(k:∀b u,s.heap.get? b=some u->h'.get? b=some u)(z:s.heap.objs.size<=a)(new:ao X.prog X.w (upd H a o) h' a o):
  Inv X Go σ (upd H a o) { s with heap:=h',toks:=t' }:=I.un (Un.laid k z (I.hok.fresh z)) (I.hok.laid k z new)
theorem Inv.write{o:HO}(I:Inv X Go σ H s)(F:Mut (H x))(he:e=x\/H e=some (.own x))(k:∀b u,b≠e->s.heap.get? b=some u->h'.get? b=some u)(z:∃u,h'.get? e=some u)(new:ao X.prog X.w (upd H x o) h' x o):Inv X Go σ (upd H x o) { s with heap:=h',toks:=t' }:=I.un (Un.write F he k z) (I.hok.write F he k z new)
theorem Inv.L0(I:Inv X Go σ H s)(h:∀p∈pins',s.heap.get? p.1=some p.2/\H p.1=none/\p.1≠X.env.locals/\p.1∉X.fs/\∀v,p.2.data≠.cell v):Inv X pins' σ H s :=
 ⟨I.ok,I.os,I.bare,I.base,I.loc,I.cell,I.free,I.Pv,λp F=>(Og.mp F).elim (λz=>I.pin p (OQ _ z)) (h p),I.hok,I.len,I.hdk⟩
theorem uX{N:List Str}(hN:N.Nodup){i j:Nat}(a:N[i]?=some x)(b:N[j]?=some x):i=j:=by
 obtain ⟨h1,z⟩:=Nt.mp a;obtain ⟨h2,F⟩:=Nt.mp b;exact (List.getElem_inj hN).mp (z.trans F.symm)
theorem Cf(I:Inv X Go σ H s)(hN:X.N.Nodup)(hi:X.N[i]?=some x)(hx:Loc X.env.scope x)(r:zo v u)(h:∀s',Inv X Go (σ.set i (some v)) H s'->(∃a,Q8 a s.heap s'.heap/\(a=X.env.locals\/X.env.cells.lookup x=some a))->Q () s')(hf:X.fn x=true\/X.env.scope.names.lookup x=some .local:=by first|exact .inl rfl|exact .inr rfl|assumption):NF M A (storeName X.env x u) Q E s:=by
 obtain ⟨m,hn,hl⟩:=id I.loc;have ai:(X.env.scope.kind == .class||(X.env.scope.kind == .module&&X.env.locals != X.env.globals))=false:=by rw [I.ok.kind];rfl
 have S:i<σ.length:=by rw [I.len];exact (Nt.mp hi).1
 have cne:=I.cne;have Xz:∀{a:Addr}{h':Heap},(∃o,s.heap.get? a=some o/\H a=none)->Q8 a s.heap h'->HOk X.prog X.w H h':=λ{a h'} ha hs b ob e=>by
  obtain ⟨_,_,G⟩:=ha;refine (I.hok b ob e).stay (λc w' hc q=>(hs.2 c ?_).trans q) (λ_ q=>q) λ_ _ q=>q;rintro rfl;rcases hc with rfl|hc
  .rw [G] at e;cases e
  .rw [G] at hc;cases hc
 rcases hx with O|O
 .refine wpAny_storeName_local O hn (λh' aj hs=>?_) ai;obtain ⟨oL,_,_,Xg,_⟩:=id hn;refine h _ ⟨I.ok,I.os,I.bare,⟨λb o e n hb hx=>?_,λb o e n hb hx=>?_,I.base.free,λb o e hx=>?_,I.base.tups,I.base.frzs,I.base.tbls⟩,⟨_,aj,λj y v' F J e3=>?_⟩,λy c e=>?_,I.free,I.Pv,λp hp=>?_,Xz ⟨oL,Xg,I.free⟩ hs,by simpa using I.len,I.hdk⟩ ⟨_,hs,.inl rfl⟩
  .exact (hs.2 b (Oh (NT (NR e) I.ok.above))).trans (I.base.keep b o e n hb hx)
  .obtain ⟨sl,F⟩:=I.base.slot b o e n hb hx;exact ⟨sl,(hs.2 b (Oh (NT (NR e) I.ok.above))).trans F⟩
  .obtain ⟨o',F⟩:=I.base.there b o e hx;exact ⟨o',(hs.2 b (Oh (NT (NR e) I.ok.above))).trans F⟩
  .by_cases W:j=i
   .subst W;rw [hi] at F;cases F;rw [Qp S] at J;cases J;exact ⟨u,r,.inl ⟨O,by simp⟩⟩
   .rw [QU (NO W)] at J;obtain ⟨u',r',q⟩:=hl j y v' F J e3;refine ⟨u',r',?_⟩;rcases q with ⟨k,e⟩|⟨k,c,e,z⟩
    .refine .inl ⟨k,?_⟩;have:y≠x:=λe=>W (uX hN F (e ▸ hi));simp [this,e]
    .exact .inr ⟨k,c,e,z.sameBut hs (cne y c e)⟩
  .obtain ⟨w',z⟩:=I.cell y c e;exact ⟨w',z.sameBut hs (cne y c e)⟩
  .obtain ⟨e,n,ne,nf,d⟩:=I.pin p hp;exact ⟨(hs.2 p.1 ne).trans e,n,ne,nf,d⟩
 .have U:X.fn x=true:=by
   rcases hf with z|z
   .exact z
   .rw [z] at O;cases O
  obtain ⟨c,hc⟩:=I.ok.has x (.inl O);obtain ⟨w',z⟩:=I.cell x c hc;refine wpAny_storeName_cell I.ok.kind O hc z (λh' Yy hs=>?_);obtain ⟨oc,ag,Z⟩:=id z;refine h { s with heap:=h' } ⟨I.ok,I.os,I.bare,⟨λb o e n hb hx=>?_,λb o e n hb hx=>?_,I.base.free,λb o e hx=>?_,I.base.tups,I.base.frzs,I.base.tbls⟩,⟨m,hn.sameBut hs (NO (cne x c hc)),λj y v' F J e3=>?_⟩,λy c' e=>?_,I.free,I.Pv,λp hp=>?_,Xz ⟨oc,ag,I.Pv x c hc⟩ hs,by simpa using I.len,I.hdk⟩ ⟨c,hs,.inr hc⟩
  .exact (hs.2 b (Oh (NT (NR e) (I.ok.aS x c U hc)))).trans (I.base.keep b o e n hb hx)
  .obtain ⟨sl,F⟩:=I.base.slot b o e n hb hx;exact ⟨sl,(hs.2 b (Oh (NT (NR e) (I.ok.aS x c U hc)))).trans F⟩
  .obtain ⟨o',F⟩:=I.base.there b o e hx;exact ⟨o',(hs.2 b (Oh (NT (NR e) (I.ok.aS x c U hc)))).trans F⟩
  .by_cases W:j=i
   .subst W;rw [hi] at F;cases F;rw [Qp S] at J;cases J;exact ⟨u,r,.inr ⟨.inl O,c,hc,Yy⟩⟩
   .rw [QU (NO W)] at J;obtain ⟨u',r',q⟩:=hl j y v' F J e3;refine ⟨u',r',?_⟩;rcases q with q|⟨k,c',e,z'⟩
    .exact .inl q
    .refine .inr ⟨k,c',e,z'.sameBut hs ?_⟩;rintro rfl;exact W (uX hN F (I.ok.inj _ _ _ e hc ▸ hi))
  .by_cases ab:c'=c
   .subst ab;exact ⟨_,Yy⟩
   .obtain ⟨w2,z2⟩:=I.cell y c' e;exact ⟨w2,z2.sameBut hs ab⟩
  .obtain ⟨e,n,ne,nf,d⟩:=I.pin p hp;refine ⟨(hs.2 p.1 ?_).trans e,n,ne,nf,d⟩;intro q;rw [q,ag] at e;have q':oc=p.2:=Ob.inj e;exact d w' (by rw [<- q'];exact Z)
theorem ir(I:Inv X Go σ H s)(hN:X.N.Nodup)(hi:X.N[i]?=some x)(hx:Loc X.env.scope x)(r:zo v u)(h:∀s',Inv X Go (σ.set i (some v)) H s'->Q () s')(hf:X.fn x=true\/X.env.scope.names.lookup x=some .local:=by first|exact .inl rfl|exact .inr rfl|assumption):NF M A (storeName X.env x u) Q E s :=
 Cf I hN hi hx r (λs' z _=>h s' z) hf
theorem Inv.ag(I:Inv X Go σ H s)(ho:s'.os=s.os)(u:Un (frs X.stack) ch H H' s.heap s'.heap)(hok:HOk X.prog X.w H' s'.heap)(hg:Qz s'.gens)(z:∀b∈ch,(b∈X.ex\/X.s₀.heap.objs.size<=b)/\b≠X.env.locals/\(∀x c,X.env.cells.lookup x=some c->c≠b)/\∀p∈X.pn++Go,p.1≠b):Inv X Go σ H' s':=by
 obtain ⟨h',g',d',t',o'⟩:=s';have e:o'=s.os:=ho;subst e;exact I.call (g':=g') (t':=t') (d':=d') u hok hg z
end
abbrev XK:=Value->Option Addr->Hp->Prop
abbrev St:=List (Option V)
abbrev VK:=V->Hp->Prop
abbrev TE:=St->Hp->VK->Prop
abbrev TT:=St->Hp->(Bool->Hp->Prop)->Prop
abbrev TA:=St->Hp->(List V->Hp->Prop)->Prop
structure aP where
 nx:St->Hp->Prop
 rt:VK
 bk:St->Hp->Prop:=λ_ _=>False
 ct:St->Hp->Prop:=λ_ _=>False
abbrev TS:=aP->St->Hp->Prop
def EP(X:Cx)(Go:List (Addr×Obj))(σ:St)(Q:VK)(u:Value)(s':we):Prop:=∃v H',Inv X Go σ H' s'/\zo v u/\Q v H'
def TP(X:Cx)(Go:List (Addr×Obj))(σ:St)(Q:Bool->Hp->Prop)(b:Bool)(s':we):Prop:=∃H',Inv X Go σ H' s'/\Q b H'
def AP(X:Cx)(Go:List (Addr×Obj))(σ:St)(Q:List V->Hp->Prop)(us:List Value)(s':we):Prop:=∃vs H',Inv X Go σ H' s'/\zp vs us/\Q vs H'
def SP(X:Cx)(Go:List (Addr×Obj))(D:aP)(f:Flow)(s':we):Prop :=
 match f with
 | .next=>∃z H',Inv X Go z H' s'/\D.nx z H'
 | .brk=>∃z H',Inv X Go z H' s'/\D.bk z H'
 | .cont=>∃z H',Inv X Go z H' s'/\D.ct z H'
 | .ret u=>∃v z H',Inv X Go z H' s'/\zo v u/\D.rt v H'
def PE(X:Cx)(e:N0)(t:TE):Prop :=
 ∀(Go:List (Addr×Obj))(s:we)(σ:St)(H:Hp)(Q:VK),Inv X Go σ H s->t σ H Q->NF (NL X.prog X.w) X.A (Os e X.env) (EP X Go σ Q) X.xe s
def PT(X:Cx)(e:N0)(t:TT):Prop :=
 ∀(Go:List (Addr×Obj))(s:we)(σ:St)(H:Hp)(Q:Bool->Hp->Prop),Inv X Go σ H s->t σ H Q->NF (NL X.prog X.w) X.A (isTrue e X.env (Os e X.env)) (TP X Go σ Q) X.xe s
def PW(X:Cx)(e:N0)(t:TT):Prop :=
 ∀(z:Sem Value)(Go:List (Addr×Obj))(s:we)(σ:St)(H:Hp)(Q:Bool->Hp->Prop),Inv X Go σ H s->t σ H Q->NF (NL X.prog X.w) X.A (isTrue e X.env z) (TP X Go σ Q) X.xe s
theorem PW.pt{t:TT}(h:PW X e t):PT X e t:=h _
def PA(X:Cx)(es:List N0)(t:TA):Prop :=
 ∀(pos:Pos)(Go:List (Addr×Obj))(s:we)(σ:St)(H:Hp)(Q:List V->Hp->Prop),Inv X Go σ H s->t σ H Q->NF (NL X.prog X.w) X.A (spliced (Pp pos (NZ es X.env))) (AP X Go σ Q) X.xe s
def PS(X:Cx)(st:Stmt)(t:TS):Prop :=
 ∀(Go:List (Addr×Obj))(s:we)(σ:St)(H:Hp)(D:aP),Inv X Go σ H s->t D σ H->NF (NL X.prog X.w) X.A (exec st X.env) (SP X Go D) X.xe s
def PSs(X:Cx)(st:List Stmt)(t:TS):Prop :=
 ∀(Go:List (Addr×Obj))(s:we)(σ:St)(H:Hp)(D:aP),Inv X Go σ H s->t D σ H->NF (NL X.prog X.w) X.A (execs st X.env) (SP X Go D) X.xe s
theorem x2e{a b c:Prop}(f:a->b->c)(h:a/\b):c:=f h.1 h.2
theorem x3e{α:Sort _}{A B:α->Prop}{D:Prop}(f:∀x,A x->B x->D)(h:∃x,A x/\B x):D:=h.elim λx z=>f x z.1 z.2
theorem x4e{α β:Sort _}{A B:α->β->Prop}{D:Prop}(f:∀x y,A x y->B x y->D)(h:∃x y,A x y/\B x y):D:=h.elim λx=>x3e (f x)
theorem x5e{α β:Sort _}{A B C:α->β->Prop}{D:Prop}(f:∀x y,A x y->B x y->C x y->D)(h:∃x y,A x y/\B x y/\C x y):D:=h.elim λx=>x3e λy a=>x2e (f x y a)
theorem thn{α:Type}{t:Sem α}{Q z:α->we->Prop}(h:NF M A t Q E s)(F:∀a s,Q a s->z a s):NF M A t z E s:=OG h F λ_ _ x=>x
section
variable {X:Cx}
def mx(i:Nat):TE:=λσ H Q=>∃v,σ[i]?=some (some v)/\Q v H
def tC(v:V):TE:=λ_ H Q=>Q v H
theorem Nm(hN:X.N[i]?=some x)(J:Vis X.env.scope x)(hd:(x==("__debug__":Str))=false:=by decide)(O:(x==("__classdict__":Str))=false:=by decide):PE X (.Name x pos) (mx i):=by
 intro Go s σ H Q I h;obtain ⟨v,e,h⟩:=h;obtain ⟨m,hn,hl⟩:=I.loc;obtain ⟨u,r,l⟩:=hl i x v hN e J;have F:EP X Go σ Q u s:=⟨v,H,I,r,h⟩;rcases l with ⟨z,hm⟩|⟨z,c,hc,G⟩
 .exact wpAny_Name (Rr I.ok.kind z hn hm F) hd
 .rcases z with z|z
  .exact wpAny_Name (wpAny_loadName_cell I.ok.kind z hc G F) hd
  .exact wpAny_Name (wpAny_loadName_free I.ok.kind z hc G F O) hd
theorem rD{i j pos}:PE X (.Constant (.int i) j pos) (tC (.int i)):=λ_ _ _ H _ I h=>RN ⟨.int i,H,I.tok _,⟨_,rfl⟩,h⟩
theorem bW{b j pos}:W (PE X (.Constant (.bool b) j pos) (tC (.bl b))):=⟨λ_ _ _ H _ I h=>Constant_bool ⟨.bl b,H,I,rfl,h⟩⟩
theorem aJ{j pos}:W (PE X (.Constant .none j pos) (tC .non)):=⟨λ_ _ _ H _ I h=>Constant_none ⟨.non,H,I,rfl,h⟩⟩
theorem zH{x j pos}:W (PE X (.Constant (.str x) j pos) (tC (.str x))):=⟨λ_ _ _ H _ I h=>Calls.Constant_str ⟨.str x,H,I.tok _,⟨_,rfl⟩,h⟩⟩
def Gl(X:Cx)(x:Str):Prop:=X.env.kindOf x=some .globalImplicit
theorem gv(I:Inv X Go σ H s)(hg:Gl X x)(hm:X.mg x=some u)(h:Q u s)(hd:(x==("__debug__":Str))=false:=by decide):NF (NL X.prog X.w) X.A (Os (.Name x pos) X.env) Q E s :=
 Calls.Name_function_global I.ok.kind hg (Calls.loadGlobal_global (by rw [I.ok.glob];exact I.mod.glob.keeps I.bk) hm h) hd
theorem dN(I:Inv X Go σ H s)(hg:Gl X x)(hm:X.mg x=none)(z:Qo x=some u)(h:Q u s)(hn:x≠"__name__":=by decide)(hd:(x==("__debug__":Str))=false:=by decide):NF (NL X.prog X.w) X.A (Os (.Name x pos) X.env) Q E s:=by
 obtain ⟨F,h1,h2⟩:=I.mod.blt;exact Calls.Name_function_global I.ok.kind hg (Calls.loadGlobal_builtin (by rw [I.ok.glob];exact I.mod.glob.keeps I.bk) hm (by rw [I.ok.blt];exact h1.keeps I.bk) ((h2 x hn).trans z) h) hd
theorem Mu(hg:Gl X x)(hm:X.mg x=some u)(r:zo v u)(hd:(x==("__debug__":Str))=false:=by decide):PE X (.Name x pos) (tC v) :=
 λ_ _ _ H _ I h=>gv I hg hm ⟨v,H,I,r,h⟩ hd
theorem lJ(hg:Gl X x)(hm:X.mg x=none)(z:Qo x=some u)(r:zo v u)(hn:x≠"__name__":=by decide)(hd:(x==("__debug__":Str))=false:=by decide):W (PE X (.Name x pos) (tC v)):=⟨λ_ _ _ H _ I h=>dN I hg hm z ⟨v,H,I,r,h⟩ hn hd⟩
variable {a b:N0}{ta tb:TE}{pos:Pos}
variable {tA tB':TT}{Zo:List N0}
def xi(t u:TT):TT:=λσ H Q=>t σ H λc H1=>if c=true then u σ H1 Q else Q false H1
def tOr(t u:TT):TT:=λσ H Q=>t σ H λc H1=>if c=true then Q true H1 else u σ H1 Q
def xX(t:TT):TT:=λσ H Q=>t σ H λc H1=>Q (!c) H1
theorem fG(ha:W (PT X a tA)):W (PW X (.BoolOp .And [a] pos) tA):=by
 refine ⟨?_⟩;have ha:=ha.h;intro z Go s σ H Q I h;refine isTrue_and (thn (ha Go s σ H Q I h) λc s1 e=>?_);cases c with
 | true=>exact isTrue_and_nil e
 | false=>exact e
theorem i4(ha:W (PT X a tA)):W (PW X (.BoolOp .Or [a] pos) tA):=by
 refine ⟨?_⟩;have ha:=ha.h;intro z Go s σ H Q I h;refine isTrue_or (thn (ha Go s σ H Q I h) λc s1 e=>?_);cases c with
 | false=>exact isTrue_or_nil e
 | true=>exact e
theorem fo(ha:W (PT X a tA))(hb:W (PW X (.BoolOp .And (b::Zo) pos) tB')):W (PW X (.BoolOp .And (a::b::Zo) pos) (xi tA tB')):=by
 refine ⟨?_⟩;have ha:=ha.h;have hb:=hb.h;intro G Go s σ H Q I h;refine isTrue_and (thn (ha Go s σ H _ I h) λc s1=>x3e λH1 z F=>?_);cases c with
 | true=>exact hb G Go s1 σ H1 Q z F
 | false=>exact ⟨H1,z,F⟩
theorem i6(ha:W (PT X a tA))(hb:W (PW X (.BoolOp .Or (b::Zo) pos) tB')):W (PW X (.BoolOp .Or (a::b::Zo) pos) (tOr tA tB')):=by
 refine ⟨?_⟩;have ha:=ha.h;have hb:=hb.h;intro G Go s σ H Q I h;refine isTrue_or (thn (ha Go s σ H _ I h) λc s1=>x3e λH1 z F=>?_);cases c with
 | true=>exact ⟨H1,z,F⟩
 | false=>exact hb G Go s1 σ H1 Q z F
theorem fJ(ha:W (PT X a tA)):W (PT X (.UnaryOp .Not a pos) (xX tA)):=by
 refine ⟨?_⟩;have ha:=ha.h;intro Go s σ H Q I h;exact isTrue_not (ha Go s σ H (λc H1=>Q (!c) H1) I h)
def mB(ta tb:TE):TE:=λσ H Q=>ta σ H λx H1=>∃c,x = .bl c/\if c=true then tb σ H1 Q else Q (.bl false) H1
def AM(ta tb:TE):TE:=λσ H Q=>ta σ H λx H1=>∃c,x = .bl c/\if c=true then Q (.bl true) H1 else tb σ H1 Q
def qF(ta:TE):TE:=λσ H Q=>ta σ H λx H1=>∃c,x = .bl c/\Q (.bl (!c)) H1
theorem jI{op}{t:TE}(h:W (PE X a t)):W (PE X (.BoolOp op [a] pos) t):=by refine ⟨?_⟩;have h:=h.h;exact λGo s σ H Q I z=>BoolOp_one (h Go s σ H Q I z)
theorem pU(ha:W (PE X a ta))(hb:W (PE X (.BoolOp .And (b::Zo) pos) tb)):W (PE X (.BoolOp .And (a::b::Zo) pos) (mB ta tb)):=by
 refine ⟨?_⟩;have ha:=ha.h;have hb:=hb.h;intro Go s σ H Q I h;refine BoolOp_and (thn (ha Go s σ H _ I h) λv s1=>x5e λx H1 F G z=>?_);obtain ⟨c,rfl,z⟩:=z;cases G;refine O2 ?_;cases c with
 | true=>exact hb Go s1 σ H1 Q F z
 | false=>exact ⟨.bl false,H1,F,rfl,z⟩
theorem Bh(ha:W (PE X a ta))(hb:W (PE X (.BoolOp .Or (b::Zo) pos) tb)):W (PE X (.BoolOp .Or (a::b::Zo) pos) (AM ta tb)):=by
 refine ⟨?_⟩;have ha:=ha.h;have hb:=hb.h;intro Go s σ H Q I h;refine BoolOp_or (thn (ha Go s σ H _ I h) λv s1=>x5e λx H1 F G z=>?_);obtain ⟨c,rfl,z⟩:=z;cases G;refine O2 ?_;cases c with
 | false=>exact hb Go s1 σ H1 Q F z
 | true=>exact ⟨.bl true,H1,F,rfl,z⟩
theorem Ko(ha:W (PE X a ta)):W (PE X (.UnaryOp .Not a pos) (qF ta)):=by
 refine ⟨?_⟩;have ha:=ha.h;intro Go s σ H Q I h;refine UnaryOp_ (thn (ha Go s σ H _ I h) λv s1=>x5e λx H1 F G z=>?_);obtain ⟨c,rfl,z⟩:=z;cases G;exact not_of (O2 ⟨.bl (!c),H1,F,rfl,z⟩)
def tIf(t:TT)(ta tb:TE):TE:=λσ H Q=>t σ H λc H1=>if c=true then ta σ H1 Q else tb σ H1 Q
theorem jT(hc:W (PT X c tA))(ha:W (PE X a ta))(hb:W (PE X b tb)):W (PE X (.IfExp c a b pos) (tIf tA ta tb)):=by
 refine ⟨?_⟩;have hc:=hc.h;have ha:=ha.h;have hb:=hb.h;intro Go s σ H Q I h;refine wpAny_IfExp (thn (hc Go s σ H _ I h) λd s1=>x3e λH1 z F=>?_);cases d with
 | true=>exact ha Go s1 σ H1 Q z F
 | false=>exact hb Go s1 σ H1 Q z F
end
def SqL(K:Nu)(H:Hp)(a:Addr)(xs:List V):Prop :=
 Rd H a (.lst xs) \/
  ∃(o:Obj)(its:Array Value)(n:Nat),K.lookup a=some o/\o.cls = .type "list"/\o.dict=none/\o.data = .seq its n/\its.size<=sizeLine/\zp xs its.toList
def SqT(K:Nu)(H:Hp)(a:Addr)(xs:List V):Prop :=
 Rd H a (.tup xs) \/
  ∃(o:Obj)(its:Array Value)(n:Nat),K.lookup a=some o/\o.cls = .type "tuple"/\o.data = .seq its n/\its.size<=sizeLine/\zp xs its.toList
def CQ:Value->Option V
 | .none=>some .non
 | .bool b=>some (.bl b)
 | .int i _=>some (.int i)
 | .str x _=>some (.str x)
 | .bytes b _=>some (.byt b)
 | .float b _=>some (.flt b)
 | .ref a=>some (.ref a)
 | .type n=>some (.ty n)
 | _=>none
theorem zo.abs(r:zo x u):CQ u=some x:=by
 cases x with
 | non=>cases r;rfl
 | bl _=>cases r;rfl
 | int _=>obtain ⟨t,rfl⟩:=r;rfl
 | str _=>obtain ⟨t,rfl⟩:=r;rfl
 | byt _=>obtain ⟨t,rfl⟩:=r;rfl
 | flt _=>obtain ⟨t,rfl⟩:=r;rfl
 | ref _=>cases r;rfl
 | ty _=>cases r;rfl
theorem zo.inj(r:zo x u)(q:zo y u):x=y:=Ob.inj (r.abs.symm.trans q.abs)
theorem zp.inj(h:zp xs us):∀{ys:List V},zp ys us->xs=ys:=by
 induction h with
 | nil=>intro ys k;cases k;rfl
 | cons r t z =>
  intro ys k;cases k with
  | cons r' t'=>rw [r.inj r',z t']
section
variable {X:Cx}{Go:List (Addr×Obj)}{σ:St}{H:Hp}{s:we}{a:Addr}{xs ys:List V}
theorem SqL.of{K:Nu}(h:H a=some (.lst xs)):SqL K H a xs:=.inl (.inl h)
theorem SqT.of{K:Nu}(h:H a=some (.tup xs)):SqT K H a xs:=.inl (.inl h)
theorem Inv.list(I:Inv X Go σ H s)(h:SqL X.K H a xs):∃its:List Value,zp xs its/\PlainL s.heap a its.toArray/\xs.length<=sizeLine:=by
 rcases h with h|⟨o,its,n,F,hc,hd,hs,G,r⟩
 .obtain ⟨z,its,n,r,e⟩:=h.ok I.hok;exact ⟨its,r,⟨_,n,e,rfl,rfl,rfl⟩,z⟩
 .refine ⟨its.toList,r,⟨o,n,I.S2 a o F,hc,hd,by simpa using hs⟩,?_⟩;have e:=r.length;simp only [PR] at e;lia
theorem Inv.tuple(I:Inv X Go σ H s)(h:SqT X.K H a xs):∃its:List Value,zp xs its/\Rg s.heap a its.toArray/\xs.length<=sizeLine:=by
 rcases h with h|⟨o,its,n,F,hc,hs,G,r⟩
 .obtain ⟨z,its,r,p⟩:=h.ok I.hok;exact ⟨its,r,p,z⟩
 .refine ⟨its.toList,r,⟨o,I.S2 a o F,hc,n,by simpa using hs⟩,?_⟩;have e:=r.length;simp only [PR] at e;lia
theorem Inv.Tj(I:Inv X Go σ H s)(h:SqL X.K H a xs)(h':SqL X.K H a ys):xs=ys:=by
 obtain ⟨its,r,⟨o,n,e,_,_,d⟩,_⟩:=I.list h;obtain ⟨its',r',⟨o',F,z,_,_,d'⟩,_⟩:=I.list h';rw [e] at z;cases z;rw [d] at d';injection d' with d1 _
 have:its=its':=by simpa using congrArg Array.toList d1
 subst this;exact r.inj r'
theorem Inv.TR(I:Inv X Go σ H s)(h:SqT X.K H a xs)(h':SqT X.K H a ys):xs=ys:=by
 obtain ⟨its,r,⟨o,e,_,n,d⟩,_⟩:=I.tuple h;obtain ⟨its',r',⟨o',z,_,F,d'⟩,_⟩:=I.tuple h';rw [e] at z;cases z;rw [d] at d';injection d' with d1 _
 have:its=its':=by simpa using congrArg Array.toList d1
 subst this;exact r.inj r'
end
abbrev Cx.Tc(X:Cx)(E:Value->we->Prop):Cx:={ X with xe:=E }
abbrev Cx.Vp(X:Cx):Cx:=X.Tc λ_ _=>False
theorem Cx.Ok.Tc{X:Cx}(ok:X.Ok)(E:Value->we->Prop):(X.Tc E).Ok :=
 ⟨ok.mod,ok.kind,ok.glob,ok.blt,ok.above,ok.inj,ok.has,ok.aS,ok.hd,ok.frames,ok.aW,ok.bo,ok.bs,ok.ah,ok.Vi,ok.Vm,ok.Tn,ok.ay⟩
theorem Cx.Ok.y0{X:Cx}(ok:(X.Tc E).Ok):X.Ok :=
 ⟨ok.mod,ok.kind,ok.glob,ok.blt,ok.above,ok.inj,ok.has,ok.aS,ok.hd,ok.frames,ok.aW,ok.bo,ok.bs,ok.ah,ok.Vi,ok.Vm,ok.Tn,ok.ay⟩
section
variable {X:Cx}{Go:List (Addr×Obj)}{σ:St}{H:Hp}{s:we}{E:Value->we->Prop}
theorem Inv.Tc(I:Inv X Go σ H s)(E:Value->we->Prop):Inv (X.Tc E) Go σ H s:=⟨I.ok.Tc E,I.os,I.bare,I.base,I.loc,I.cell,I.free,I.Pv,I.pin,I.hok,I.len,I.hdk⟩
theorem Inv.y0(I:Inv (X.Tc E) Go σ H s):Inv X Go σ H s:=⟨I.ok.y0,I.os,I.bare,I.base,I.loc,I.cell,I.free,I.Pv,I.pin,I.hok,I.len,I.hdk⟩
theorem SP.y0(h:SP (X.Tc E) Go D f s'):SP X Go D f s':=by
 cases f with
 | next=>obtain ⟨z,H',I,q⟩:=h;exact ⟨z,H',I.y0,q⟩
 | brk=>obtain ⟨z,H',I,q⟩:=h;exact ⟨z,H',I.y0,q⟩
 | cont=>obtain ⟨z,H',I,q⟩:=h;exact ⟨z,H',I.y0,q⟩
 | ret u=>obtain ⟨v,z,H',I,r,q⟩:=h;exact ⟨v,z,H',I.y0,r,q⟩
theorem PSs.Vp{st:List Stmt}{t:TS}(h:PSs X.Vp st t):PSs X st t:=λGo s σ H D I F =>
 OG (h Go s σ H D (I.Tc _) F) (λ_ _ q=>q.y0) λ_ _ z=>False.elim z
end
section
variable {X:Cx}{st:Stmt}{Zo:List Stmt}{t u:TS}{e:N0}{te:TE}{pos:Pos}
def qr:TS:=λD σ H=>D.nx σ H
def qz(t u:TS):TS:=λD σ H=>t { D with nx:=u D } σ H
theorem Ap:PSs X [] qr:=λ_ _ σ H _ I h=>QR ⟨σ,H,I,h⟩
theorem uF(h1:PS X st t)(h2:PSs X Zo u):PSs X (st::Zo) (qz t u):=by
 intro Go s σ H D I h;refine wpAny_execs_cons (thn (h1 Go s σ H { D with nx:=u D } I h) λf s1 q=>?_);cases f with
 | next =>
  obtain ⟨z,H',F,q⟩:=q;exact h2 Go s1 z H' D F q
 | ret v=>exact q
 | brk=>exact q
 | cont=>exact q
theorem qx(h1:PS X st t):PSs X [st] t:=by
 intro Go s σ H D I h;refine wpAny_execs_cons (thn (h1 Go s σ H D I h) λf s1 q=>?_);cases f with
 | next=>exact QR q
 | ret v=>exact q
 | brk=>exact q
 | cont=>exact q
theorem Inv.quiet(I:Inv X Go σ H s):interactive X.env=false:=by simp [interactive,I.ok.kind]
def yy(te:TE):TS:=λD σ H=>te σ H λ_ H1=>D.nx σ H1
theorem ax(he:W (PE X e te))(hs:swapsWith e none pos.line X.env=pure false:=by rfl):W (PS X (.Expr e pos) (yy te)):=by
 refine ⟨?_⟩;have he:=he.h;intro Go s σ H D I h;exact wpAny_Expr_any (thn (he Go s σ H _ I h) λv s1=>x5e λx H1 z G F=>⟨σ,H1,z,F⟩) I.quiet hs
def pq(te:TE):TS:=λD σ H=>te σ H D.rt
theorem pJ(he:PE X e te):PS X (.Return (some e) pos) (pq te):=by
 intro Go s σ H D I h;exact wpAny_Return_some (thn (he Go s σ H _ I h) λv s1=>x5e λx H1 z G F=>⟨x,σ,H1,z,G,F⟩)
def ox(c:TT)(t u:TS):TS:=λD σ H=>c σ H λb H1=>if b=true then t D σ H1 else u D σ H1
theorem AN(hc:PT X c tc)(ha:PSs X a t)(hb:PSs X b u):PS X (.If c a b pos) (ox tc t u):=by
 intro Go s σ H D I h;refine wpAny_If (thn (hc Go s σ H _ I h) λd s1=>x3e λH1 z F=>?_);cases d with
 | true=>exact ha Go s1 σ H1 D z F
 | false=>exact hb Go s1 σ H1 D z F
end
abbrev TG:=V->St->Hp->(St->Hp->Prop)->Prop
abbrev TGs:=List V->St->Hp->(St->Hp->Prop)->Prop
def PG(X:Cx)(z:N0)(t:TG):Prop :=
 ∀(Go:List (Addr×Obj))(s:we)(σ:St)(H:Hp)(v:V)(u:Value)(Q:St->Hp->Prop),Inv X Go σ H s->zo v u->t v σ H Q ->
  NF (NL X.prog X.w) X.A (assign z X.env u) (λ_ s'=>∃F H',Inv X Go F H' s'/\Q F H') X.xe s
def PGs(X:Cx)(ts:List N0)(t:TGs):Prop :=
 ∀(Go:List (Addr×Obj))(s:we)(σ:St)(H:Hp)(vs:List V)(us:List Value)(Q:St->Hp->Prop),Inv X Go σ H s->zp vs us->t vs σ H Q ->
  NF (NL X.prog X.w) X.A (R9 ((Po ts X.env).map (·.2)) us) (λ_ s'=>∃z H',Inv X Go z H' s'/\Q z H') X.xe s
abbrev rP:=V->V->V->Hp->(Hp->Prop)->Prop
def qI(X:Cx)(t:rP):Prop :=
 ∀(Go:List (Addr×Obj))(s:we)(σ:St)(H:Hp)(o i v:V)(ov iv u:Value)(Q:Hp->Prop),Inv X Go σ H s->zo o ov->zo i iv->zo v u->t o i v H Q ->
  NF (NL X.prog X.w) X.A (setItem ov iv u) (λ_ s'=>∃H',Inv X Go σ H' s'/\Q H') X.xe s
abbrev TIp:=V->V->Hp->VK->Prop
def PIp(X:Cx)(op:Operator)(t:TIp):Prop :=
 ∀(Go:List (Addr×Obj))(s:we)(σ:St)(H:Hp)(x y:V)(v u:Value)(Q:VK),Inv X Go σ H s->zo x v->zo y u->t x y H Q ->
  NF (NL X.prog X.w) X.A (inplaceOp op v u) (EP X Go σ Q) X.xe s
section
variable {X:Cx}{pos:Pos}
def dr(i:Nat):TG:=λv σ H Q=>Q (σ.set i (some v)) H
theorem yP(hN:X.N.Nodup)(hi:X.N[i]?=some x)(hx:Loc X.env.scope x)(hf:X.fn x=true\/X.env.scope.names.lookup x=some .local:=by first|exact .inl rfl|exact .inr rfl|assumption):PG X (.Name x pos) (dr i):=by
 intro Go s σ H v u Q I r h;exact wpAny_assign_Name (ir I hN hi hx r (λs' z=>⟨_,H,z,h⟩) hf)
def yI:TGs:=λvs σ H Q=>vs=[]/\Q σ H
def nr(t:TG)(u:TGs):TGs:=λvs σ H Q=>∃v r,vs=v::r/\t v σ H λz H'=>u r z H' Q
theorem bR:W (PGs X [] yI):=by
 refine ⟨?_⟩;intro Go s σ H vs us Q I r h;obtain ⟨e,h⟩:=h;subst e;cases r;exact assignInOrder_nil ⟨σ,H,I,h⟩
theorem zS{t:TG}(h1:W (PG X e t))(h2:W (PGs X es u))(hs:(Po (e::es) X.env).map (·.2)=assign e X.env::(Po es X.env).map (·.2):=by rfl):W (PGs X (e::es) (nr t u)):=by
 refine ⟨?_⟩;have h1:=h1.h;have h2:=h2.h;intro Go s σ H vs us Q I r h;obtain ⟨v,S,F,h⟩:=h;subst F;cases r with
 | cons r O =>
  rw [hs];refine RV (thn (h1 Go s σ H _ _ _ I r h) λ_ s1=>x4e λz H1 J G=>?_);exact h2 Go s1 z H1 _ _ Q J O G
def mQ(K:Nu)(n:Nat)(t:TGs):TG:=λv σ H Q=>∃a xs,v = .ref a/\SqT K H a xs/\xs.length=n/\t xs σ H Q
def yW(to ti:TE)(t:rP):TG:=λv σ H Q=>to σ H λo H1=>ti σ H1 λi H2=>t o i v H2 λH3=>Q σ H3
theorem eJ{o i:N0}{t:rP}(ho:W (PE X o to))(hi:W (PE X i ti))(hs:qI X t)(ha:∀v,assign (.Subscript o i pos) X.env v=(do
   let ov<-PV [v] (Os o X.env)
   let iv<-PV [v,ov] (Os i X.env)
   QH pos
   PV [v,ov,iv] (setItem ov iv v)
   release [v,ov,iv] []):=by intro _;rfl):W (PG X (.Subscript o i pos) (yW to ti t)):=by
 refine ⟨?_⟩;have ho:=ho.h;have hi:=hi.h;intro Go s σ H v u Q I r h;rw [ha];refine fv (N9 (thn (ho Go s σ H _ I h) λov s1=>x5e λx H1 U J S=>?_));refine fv (N9 (thn (hi Go s1 σ H1 _ U S) λiv s2=>x5e λy H2 O G F=>?_));refine fv (PN (fv (N9 (thn (hs Go s2 σ H2 x y v ov iv u _ O J G r F) λ_ s3=>x3e λH3 Z z=>?_))));exact wpAny_release ⟨σ,H3,Z,z⟩
def iH(te:TE)(g:TG):TS:=λD σ H=>te σ H λx H1=>g x σ H1 D.nx
theorem cJ(he:W (PE X e te))(hg:W (PG X tg g))(hs:swapsWithSole [tg] e pos.line X.env=pure false:=by rfl)(F:swappedStores [tg] e X.env=pure none:=by rfl)(h1:(Po [tg] X.env).map (·.2)=[assign tg X.env]:=by rfl):W (PS X (.Assign [tg] e pos) (iH te g)):=by
 refine ⟨?_⟩;have he:=he.h;have hg:=hg.h;intro Go s σ H D I h;refine wpAny_Assign_stores (thn (he Go s σ H _ I h) λv s1=>x5e λx H1 z J G=>?_) hs F;rw [h1];exact thn (hg Go s1 σ H1 x v _ z J G) λ_ s2 q=>q
theorem zy(hN:X.N.Nodup)(hi:X.N[i]?=some x)(hx:Loc X.env.scope x)(he:W (PE X e te))(hs:swapsWith e (some (.Name x Y3)) pos.line X.env=pure false:=by rfl)(hf:X.fn x=true\/X.env.scope.names.lookup x=some .local:=by first|exact .inl rfl|exact .inr rfl|assumption):W (PS X (.Assign [.Name x Y3] e pos) (iH te (dr i))):=by
 refine ⟨?_⟩;have he:=he.h;intro Go s σ H D I h;refine wpAny_Assign_Name (thn (he Go s σ H _ I h) λv s1=>x5e λy H1 z J F=>?_) hs;exact ir z hN hi hx J (λs2 G=>⟨_,H1,G,F⟩) hf
def rM(i j:Nat)(ta:TA):TS:=λD σ H=>ta σ H λvs H1=>∃v w,vs=[v,w]/\D.nx ((σ.set i (some v)).set j (some w)) H1
theorem EC{z J pt:Pos}{kt k2 pt2}(hc:X.calm=true)(hN:X.N.Nodup)(hi:X.N[i]?=some x)(hj:X.N[j]?=some y)(X8:i≠j)(hx:X.env.scope.names.lookup x=some .local)(S:X.env.scope.names.lookup y=some .local)(ha:PA X [a,b] ta)(hw:swappedStores [.Tuple [.Name x z,.Name y J] kt pt] (.Tuple [a,b] k2 pt2) X.env=pure (some [x,y]))(hs:swapsWithSole [.Tuple [.Name x z,.Name y J] kt pt] (.Tuple [a,b] k2 pt2) pos.line X.env=pure false:=by rfl):
  PS X (.Assign [.Tuple [.Name x z,.Name y J] kt pt] (.Tuple [a,b] k2 pt2) pos) (rM i j ta):=by
 intro Go s σ H D I h;rw [exec_Assign_arm];refine fv (PN ?_);rw [hs];refine fv (Nv ?_);rw [if_neg (by decide)];refine fv (Tuple_ (thn (ha _ Go s σ H _ I h) λus s1=>x5e λvs H1 Z r1 G=>?_));obtain ⟨v,w,e1,G⟩:=G;subst e1;obtain ⟨u1,u2,rfl,U,XJ⟩:∃u1 u2,us=[u1,u2]/\zo v u1/\zo w u2:=by
  cases r1 with
  | cons p q =>
   cases q with
   | cons p' q' =>
    cases q';exact ⟨_,_,rfl,p,p'⟩
 refine Ou ?_ (by show 2<=sizeLine;decide);have I2:Inv X Go σ H1 { s1 with heap:=s1.heap.push { cls:=.type "tuple",data:=.seq [u1,u2].toArray } }:=Z.kept (t':=s1.toks) λb o e=>zv _ e;rw [hw];refine fv (Nv ?_);show NF (NL X.prog X.w) X.A (do rule "assign.swapped-stores";let items<-unpackItems (.ref s1.heap.objs.size) 2 none;R9 [λv=>bindName X.env y v,λv=>bindName X.env x v] items.reverse;pure Flow.next) _ _ _;refine fv (PP (fv (unpackItems_tuple (items:=#[u1,u2]) (I.ok.hd hc) (Rg.new s1.heap _) λh' F=>?_)));have I3:=I2.kept (h':=h') (t':=s1.toks) λb o e=>F b o (Oh (NR e)) e;show NF _ _ (R9 [λv=>bindName X.env y v,λv=>bindName X.env x v] [u2,u1]>>=λ_=>pure Flow.next) _ _ _;refine fv (RV (wpAny_bindName (ir I3 hN hj (.inl S) XJ (λs2 W=>?_) (.inr S))));refine RV (wpAny_bindName (ir W hN hi (.inl hx) U (λs3 O=>assignInOrder_nil (Nv ?_)) (.inr hx)));rw [List.set_comm _ _ (NO X8)] at O;exact ⟨_,H1,O,G⟩
def vP(i:Nat)(te:TE)(ti:TIp):TS:=λD σ H=>∃x,σ[i]?=some (some x)/\te σ H λy H1=>ti x y H1 λz H2=>D.nx (σ.set i (some z)) H2
theorem BG(hN:X.N.Nodup)(hi:X.N[i]?=some x)(hx:Loc X.env.scope x)(he:W (PE X e te))(ho:PIp X op ti)(hf:X.fn x=true\/X.env.scope.names.lookup x=some .local:=by first|exact .inl rfl|exact .inr rfl|assumption):W (PS X (.AugAssign (.Name x Y3) op e pos) (vP i te ti)):=by
 refine ⟨?_⟩;have he:=he.h;intro Go s σ H D I h;obtain ⟨v,U,h⟩:=h;obtain ⟨m,hn,hl⟩:=I.loc;have J:Vis X.env.scope x:=by rcases hx with k|k;exact .inl k;exact .inr (.inl k)
 obtain ⟨u,r,l⟩:=hl i x v hi U J;refine wpAny_AugAssign_Name ?_;have go:NF (NL X.prog X.w) X.A (Os e X.env) (λw G=>NF (NL X.prog X.w) X.A (inplaceOp op u w) (λr s₃=>NF (NL X.prog X.w) X.A (storeName X.env x r) (λ_=>SP X Go D .next) X.xe s₃) X.xe G) X.xe s:=by
  refine thn (he Go s σ H _ I h) λw s1=>x5e λy H1 I1 Z q1=>?_;refine thn (ho Go s1 σ H1 v y u w _ I1 r Z q1) λz s2=>x5e λzv H2 I2 S O=>?_;exact ir I2 hN hi hx S (λs3 I3=>⟨_,H2,I3,O⟩) hf
 rcases l with ⟨F,hm⟩|⟨F,c,hc,Xy⟩
 .exact Rr I.ok.kind F hn hm go
 .rcases F with F|F
  .exact wpAny_loadName_cell I.ok.kind F hc Xy go
  .rcases hx with k|k
   .have:X.env.scope.names.lookup x=some .free:=F;rw [k] at this;cases this
   .have:X.env.scope.names.lookup x=some .free:=F;rw [k] at this;cases this
def ipI(f:Int->Int->Int):TIp:=λx y H Q=>∃i j,x = .int i/\y = .int j/\Q (.int (f i j)) H
theorem Lp:PIp X .Add (ipI λi j=>i+j):=by
 intro Go s σ H x y v u Q I J G h;obtain ⟨i,j,z,F,q⟩:=h;subst z;subst F;obtain ⟨t,rfl⟩:=J;obtain ⟨t',rfl⟩:=G;exact iadd_int ⟨.int _,H,I.tok _,⟨_,rfl⟩,q⟩
def vk(c:TT)(tb:TS):TS:=λD σ H=>∃W:Nat->St->Hp->Prop,(∃m,W m σ H)/\∀m σ H,W m σ H ->
 c σ H λb H1=>if b=true then ∃N:St->Hp->Prop,(∀z H',N z H'->∃F,F<m/\W F z H')/\tb { D with nx:=N,ct:=N,bk:=D.nx } σ H1 else D.nx σ H1
theorem Gw(hp:OW (NL X.prog X.w) X.A X.env X.xe)(hc:W (PT X c tc))(hb:W (PSs X Zv tb)):W (PS X (.While c Zv [] pos) (vk tc tb)):=by
 refine ⟨?_⟩;have hc:=hc.h;have hb:=hb.h;intro Go s σ H D I h;obtain ⟨W,⟨m0,w0⟩,G⟩:=h;refine wpAny_While (codeAny_whileLoop (λn s'=>∃J H',Inv X Go J H' s'/\W n J H') ?_ m0 ⟨σ,H,I,w0⟩);rintro n s1 ⟨F,H1,I1,w1⟩;refine Py hp (thn (hc Go s1 F H1 _ I1 (G n F H1 w1)) λb s2=>x3e λH2 I2 S=>?_);cases b with
 | true =>
  obtain ⟨N,hN,S⟩:=S;rw [if_pos rfl];refine Py hp (thn (hb Go s2 F H2 _ I2 S) λf s3 O=>?_);cases f with
  | next =>
   obtain ⟨z,H3,I3,n3⟩:=O;obtain ⟨Z,hm,U⟩:=hN z H3 n3;exact ⟨Z,hm,z,H3,I3,U⟩
  | cont =>
   obtain ⟨z,H3,I3,n3⟩:=O;obtain ⟨Z,hm,U⟩:=hN z H3 n3;exact ⟨Z,hm,z,H3,I3,U⟩
  | brk=>exact O
  | ret v=>exact O
 | false =>
  rw [if_neg Nx];exact QR ⟨F,H2,I2,S⟩
end
structure It where
 go:Nat->Hp->Prop
 ai:Nat->Hp->V->Hp->Prop
 stop:Nat->Hp->Prop
def dY(X:Cx)(Go:List (Addr×Obj))(H:Hp)(b:Addr):Prop :=
 H b=none/\b≠X.env.locals/\b∉X.fs/\(b∈X.ex\/X.s₀.heap.objs.size<=b)/\(∀x c,X.env.cells.lookup x=some c->c≠b)/\∀p∈X.pn++Go,p.1≠b
theorem Inv.Tz(I:Inv X Go σ H s)(hb:s.heap.objs.size<=b)(hn:H' b=none):dY X Go H' b:=by
 refine ⟨hn,Qs (NT I.lt hb),I.a0 hb,.inr (N6 I.sz hb),λx c e z=>?_,λp F z=>?_⟩
 .obtain ⟨v,q⟩:=I.cell x c e;exact absurd (NT q.lt (by rw [z];exact hb)) (Od _)
 .exact absurd (NT (NR (I.pin p F).1) (by rw [z];exact hb)) (Od _)
structure dy(c:Bool)(P:NB)(w:NQ)(K:Nu)(tg:N0)(J:It)(fp:List Addr)(it:Addr)(tn:Nat->Heap->Prop):Prop where
 mem:it∈fp
 obj:∀i h,tn i h->∀b∈fp,∃o,h.get? b=some o/\∀v,o.data≠.cell v
 keep:∀i h h',tn i h->(∀b∈fp,∀o,h.get? b=some o->h'.get? b=some o)->tn i h'
 item:∀(X:Cx),X.prog=P->X.w=w->X.K=K->(c=true->X.calm=true)->∀(i:Nat)(Go:List (Addr×Obj))(s:we)(σ:St)(H:Hp)(E:Value->we->Prop),Inv X Go σ H s->(∀b∈fp,dY X Go H b)->tn i s.heap->J.go i H ->
  NF (NL P w) X.A (Ql (.ref it)) (λr s1=>∃u,r=some u /\
   NF (NL P w) X.A (Qt tg (.ref it) u) (λ_ s2=>∃x H',Inv X Go σ H' s2/\zo x u/\J.ai i H x H'/\tn (i+1) s2.heap/\∀b∈fp,H' b=none) E s1) E s
 done:∀(X:Cx),X.prog=P->X.w=w->X.K=K->(c=true->X.calm=true)->∀(i:Nat)(Go:List (Addr×Obj))(s:we)(σ:St)(H:Hp)(E:Value->we->Prop),Inv X Go σ H s->(∀b∈fp,dY X Go H b)->tn i s.heap->J.stop i H ->
  NF (NL P w) X.A (Ql (.ref it)) (λr s1=>r=none/\Inv X Go σ H s1) E s
 self:∀(A:NP)(i:Nat)(s:we)(Q:Value->we->Prop)(E:Value->we->Prop),tn i s.heap->Q (.ref it) s->NF (NL P w) A (pyIter (.ref it)) Q E s
abbrev TI:=St->Hp->(It->Hp->Prop)->Prop
def PIE(c:Bool)(X:Cx)(Go:List (Addr×Obj))(σ:St)(tg:N0)(R:It->Hp->Prop)(z:Value)(s2:we):Prop :=
 ∃(it:Addr)(fp:List Addr)(F:Nat->Heap->Prop)(J:It)(H':Hp),z = .ref it/\Inv X Go σ H' s2/\dy c X.prog X.w X.K tg J fp it F/\F 0 s2.heap/\(∀b∈fp,dY X Go H' b)/\R J H'
def PIc(c:Bool)(X:Cx)(tg iter:N0)(wi:TI):Prop :=
 ∀(Go:List (Addr×Obj))(s:we)(σ:St)(H:Hp)(R:It->Hp->Prop),Inv X Go σ H s->wi σ H R ->
  NF (NL X.prog X.w) X.A (Os iter X.env) (λv s1=>NF (NL X.prog X.w) X.A (pyIter v) (PIE c X Go σ tg R) X.xe s1) X.xe s
abbrev PI:=PIc true
theorem gA{o:Obj}(ho:s.heap.get? it=some o)(hc:o.cls = .type n)(hd:o.data = .fields vs)(hn:["enumerate","zip","dict_itemiterator","dict_reverseitemiterator","odict_iterator","itertools.zip_longest","itertools.pairwise"].contains n=false)(z:Q () s):NF M A (Qt tg (.ref it) u) Q E s:=by
 unfold Qt;cases tg<;>first
  | exact Nv z
  | (cases u<;>first
    | exact Nv z
    | (refine fv (wpAny_load ho ?_)
       rw [hc, hd];show NF M A (if (["enumerate", "zip", "dict_itemiterator", "dict_reverseitemiterator", "odict_iterator", "itertools.zip_longest", "itertools.pairwise"].contains n && vs[0]? == some (OE _)) = true then _ else _) Q E s;rw [if_neg (by intro h; rw [hn, RZ] at h; cases h)];exact Nv z))
def Itl(K:Nu)(a:Addr):It :=
 ⟨λi H=>∃xs x,SqL K H a xs/\xs[i]?=some x,λi H x H'=>H'=H/\∀xs,SqL K H a xs->xs[i]?=some x,λi H=>∃xs,SqL K H a xs/\xs.length<=i⟩
def Itt(K:Nu)(a:Addr):It :=
 ⟨λi H=>∃xs x,SqT K H a xs/\xs[i]?=some x,λi H x H'=>H'=H/\∀xs,SqT K H a xs->xs[i]?=some x,λi H=>∃xs,SqT K H a xs/\xs.length<=i⟩
def Itr(lo:Int)(n:Nat):It:=⟨λi _=>i<n,λi H x H'=>H'=H/\x = .int (lo+i),λi _=>n<=i⟩
theorem jW{P:NB}{w:NQ}{K:Nu}{tg:N0}(a it:Addr):dy true P w K tg (Itl K a) [it] it (λi h=>h.IsListIter it a i) where
 mem:=by simp
 obj:=λi h st b hb=>by
  have e:b=it:=by simpa using hb
  subst e;obtain ⟨o,e,c,d⟩:=st;exact ⟨o,e,λv z=>by rw [d] at z;cases z⟩
 keep:=λi h h' st k=>st.at λo e=>k it (by simp) o e
 item:=by
  intro X G hw S hc i Go s σ H E I hf st hg;subst G hw S;obtain ⟨xs,x,F,hx⟩:=hg;obtain ⟨its,J,p,hz⟩:=I.list F;obtain ⟨u,hu,ru⟩:=J.get hx;obtain ⟨O,U,f2,f3,W,Z⟩:=hf it (by simp);refine wpAny_pyNext_list_item st p.isList (x:=u) (by simpa using hu) λh' YM sb=>?_;have I1:Inv X Go σ H { s with heap:=h' }:=I.turned (t':=s.toks) (λb o hb e=>(sb.2 b hb).trans e) O U f3 W Z;obtain ⟨o,e,c,d⟩:=id YM;exact ⟨u,rfl,gA (s:={ s with heap:=h' }) e c d (by decide) ⟨x,H,I1,ru,⟨rfl,λys hy=>by rw [I.Tj hy F];exact hx⟩,YM,λb hb=>(hf b hb).1⟩⟩
 done:=by
  intro X G hw S hc i Go s σ H E I hf st hg;subst G hw S;obtain ⟨xs,F,hx⟩:=hg;obtain ⟨its,J,p,hz⟩:=I.list F;obtain ⟨O,U,f2,f3,W,Z⟩:=hf it (by simp);have hl:=J.length;exact wpAny_pyNext_list_end (I.ok.hd (hc rfl)) st p.isList (by simp;lia) λh' eb=>⟨rfl,I.turned (t':=s.toks) (λb o hb e=>eb b o hb e) O U f3 W Z⟩
 self:=λ_ _ _ _ _ st h=>wpAny_pyIter_listiter st h
theorem HV{P:NB}{w:NQ}{K:Nu}{tg:N0}(a it:Addr):dy true P w K tg (Itt K a) [it] it (λi h=>h.IsTupleIter it a i) where
 mem:=by simp
 obj:=λi h st b hb=>by
  have e:b=it:=by simpa using hb
  subst e;obtain ⟨o,e,c,d⟩:=st;exact ⟨o,e,λv z=>by rw [d] at z;cases z⟩
 keep:=λi h h' st k=>st.at λo e=>k it (by simp) o e
 item:=by
  intro X G hw S hc i Go s σ H E I hf st hg;subst G hw S;obtain ⟨xs,x,F,hx⟩:=hg;obtain ⟨its,J,p,hz⟩:=I.tuple F;obtain ⟨u,hu,ru⟩:=J.get hx;obtain ⟨O,U,f2,f3,W,Z⟩:=hf it (by simp);refine wpAny_pyNext_tuple_item st (show s.heap.IsTuple a its.toArray from p) (x:=u) (by simpa using hu) λh' YM sb=>?_;have I1:Inv X Go σ H { s with heap:=h' }:=I.turned (t':=s.toks) (λb o hb e=>(sb.2 b hb).trans e) O U f3 W Z;obtain ⟨o,e,c,d⟩:=id YM;exact ⟨u,rfl,gA (s:={ s with heap:=h' }) e c d (by decide) ⟨x,H,I1,ru,⟨rfl,λys hy=>by rw [I.TR hy F];exact hx⟩,YM,λb hb=>(hf b hb).1⟩⟩
 done:=by
  intro X G hw S hc i Go s σ H E I hf st hg;subst G hw S;obtain ⟨xs,F,hx⟩:=hg;obtain ⟨its,J,p,hz⟩:=I.tuple F;obtain ⟨O,U,f2,f3,W,Z⟩:=hf it (by simp);have hl:=J.length;exact wpAny_pyNext_tuple_end (I.ok.hd (hc rfl)) st (show s.heap.IsTuple a its.toArray from p) (by simp;lia) λh' eb=>⟨rfl,I.turned (t':=s.toks) (λb o hb e=>eb b o hb e) O U f3 W Z⟩
 self:=λ_ _ _ _ _ st h=>wpAny_pyIter_tupleiter st h
theorem oz{P:NB}{w:NQ}{K:Nu}{tg:N0}(it:Addr)(lo:Int)(n:Nat):dy true P w K tg (Itr lo n) [it] it (λi h=>RC h it (lo+(i:Nat)*1) ((n:Int)-(i:Nat)) 1) where
 mem:=by simp
 obj:=λi h st b hb=>by
  have e:b=it:=by simpa using hb
  subst e;exact ⟨_,st,λv z=>by
   have z':Data.fields _=Data.cell v:=z;cases z'⟩
 keep:=λi h h' st k=>k it (by simp) _ st
 item:=by
  intro X O G F hc i Go s σ H E I hf st hg;subst O G F;obtain ⟨Z,S,f2,J,U,f5⟩:=hf it (by simp);have W:=Walks.range (prog:=X.prog) (w:=X.w) (I.ok.hd (hc rfl)) it lo 1 n;refine W.item i s _ _ hg st λv h' tk hv YM kk=>?_;obtain ⟨t,rfl⟩:=hv;have I1:Inv X Go σ H { s with heap:=h',toks:=tk }:=I.turned (λb o hb e=>kk b o (by simpa using hb) e) Z S J U f5;refine ⟨_,rfl,gA (s:={ s with heap:=h',toks:=tk }) (n:="range_iterator") YM rfl rfl (by decide) ⟨.int (lo+i),H,I1,⟨t,?_⟩,⟨rfl,rfl⟩,YM,λb hb=>(hf b hb).1⟩⟩;rw [Int.mul_one]
 done:=by
  intro X O G F hc i Go s σ H E I hf st hg;subst O G F;obtain ⟨Z,S,f2,J,U,f5⟩:=hf it (by simp);exact wpAny_pyNext_range_end (I.ok.hd (hc rfl)) st (by have:n<=i:=hg;lia) λh' eb=>⟨rfl,I.turned (t':=s.toks) (λb o hb e=>eb b o hb e) Z S J U f5⟩
 self:=λ_ _ _ _ _ st h=>wpAny_pyIter_rangeiter st h
section
variable {X:Cx}{tg:N0}
def gD(K:Nu)(tl:TE):TI:=λσ H R=>tl σ H λx H1=>∃a,x = .ref a/\(∃xs,SqL K H1 a xs)/\R (Itl K a) H1
theorem yN(hl:PE X l tl):PI X tg l (gD X.K tl):=by
 intro Go s σ H R I h;refine thn (hl Go s σ H _ I h) λv s1=>x5e λx H1 z J F=>?_;obtain ⟨a,e,⟨xs,G⟩,q⟩:=F;subst e;cases J;obtain ⟨its,O,p,S⟩:=z.list G;refine Pk p.isList ?_;refine ⟨s1.heap.objs.size,[s1.heap.objs.size],_,_,H1,rfl,z.kept (t':=s1.toks) λb o e=>zv _ e,jW a _,⟨_,NK _ rfl,rfl,rfl⟩,λb hb=>?_,q⟩;have e:b=s1.heap.objs.size:=by simpa using hb
 subst e;exact z.Tz (Nq _) (z.hok.fresh (Nq _))
theorem Gd{lo hi:Int}{t u v:Tok}(I:Inv X Go σ H s)(h1 : -(2 ^ 62)<=lo)(h2:lo<2 ^ 62)(h3 : -(2 ^ 62)<=hi)(h4:hi<2 ^ 62)(q:R (Itr lo (hi-lo).toNat) H):NF (NL X.prog X.w) X.A (pyIter (.ref s.heap.objs.size)) (PIE true X Go σ tg R) E { s with heap:=s.heap.push { cls:=.type "range",data:=.fields #[.int lo t,.int hi u,.int 1 v] },toks:=tk }:=by
 refine wpAny_pyIter_range (IsRange.new ..) (small_one h1 h2 h3 h4) ?_;have z:Inv X Go σ H { s with heap:=s.heap.push { cls:=.type "range",data:=.fields #[.int lo t,.int hi u,.int 1 v] },toks:=tk }:=I.kept λb o e=>zv _ e;refine ⟨(s.heap.push { cls:=.type "range",data:=.fields #[.int lo t,.int hi u,.int 1 v] }).objs.size,[(s.heap.push { cls:=.type "range",data:=.fields #[.int lo t,.int hi u,.int 1 v] }).objs.size],_,_,H,rfl,
  z.kept (t':=tk) λb o e=>zv _ e,oz _ lo (hi-lo).toNat,?_,λb hb=>?_,q⟩
 .have F:lo+((0:Nat):Int)*1=lo:=by simp
  have G:(((hi-lo).toNat:Nat):Int)-((0:Nat):Int)=NN.Range.rangeSize lo hi 1:=by rw [rangeSize_one];split<;>lia
  show RC _ _ (lo+((0:Nat):Int)*1) ((((hi-lo).toNat:Nat):Int)-((0:Nat):Int)) 1;rw [F,G];exact NK _ rfl
 .have e:b=(s.heap.push { cls:=.type "range",data:=.fields #[.int lo t,.int hi u,.int 1 v] }).objs.size:=by simpa using hb
  subst e;exact z.Tz (Nq _) (z.hok.fresh (Nq _))
def jg(ta:TA):TI:=λσ H R=>ta σ H λvs H1=>∃j:Int,vs=[.int j]/\-(2 ^ 62)<=j/\j<2 ^ 62/\R (Itr 0 j.toNat) H1
theorem KF{p pos:Pos}(hg:Gl X "range")(hm:X.mg "range"=none)(ha:PA X [a] ta)(hs:NZ [a] X.env=[(false,Os a X.env)]:=by rfl):PI X tg (.Call (.Name "range" p) [a] [] pos) (jg ta):=by
 intro Go s σ H R I h;refine Call_ (dN I hg hm boot_range (O1 (thn (ha pos Go s σ H _ I h) λus s1=>x5e λvs H1 J G z=>?_) hs rfl));obtain ⟨j,e,z,F,q⟩:=z;subst e;cases G with
 | cons r O =>
  cases O;obtain ⟨t,rfl⟩:=r;exact call_range_1 (Gd J (by lia) (by lia) z F (by simpa using q))
def rR(wi:TI)(g:TG)(tb:TS):TS:=λD σ H=>wi σ H λJ H1=>∃W:Nat->Nat->St->Hp->Prop,(∃m,W 0 m σ H1)/\∀i m σ H,W i m σ H ->
 (J.stop i H/\D.nx σ H)\/(J.go i H/\∃N:St->Hp->Prop,(∀z H',N z H'->∃G,G<m/\W (i+1) G z H')/\∀x H',J.ai i H x H'->g x σ H' λF H2=>tb { D with nx:=N,ct:=N,bk:=D.nx } F H2)
def iL(fp:List Addr)(h:Heap):List (Addr×Obj):=fp.filterMap λb=>(h.get? b).map λo=>(b,o)
theorem kW{o:Obj}(hb:b∈fp)(e:h.get? b=some o):(b,o)∈iL fp h:=Rp.mpr ⟨b,hb,by rw [e];rfl⟩
theorem M1{p:Addr×Obj}(z:p∈iL fp h):p.1∈fp/\h.get? p.1=some p.2:=by
 obtain ⟨b,hb,e⟩:=Rp.mp z;cases q:h.get? b with
 | none=>rw [q] at e;cases e
 | some o =>
  rw [q] at e;have F:(b,o)=p:=Ob.inj e;subst F;exact ⟨hb,q⟩
theorem Inv.pinned(I:Inv X Go σ H s)(hf:∀b∈fp,dY X Go H b)(ho:∀b∈fp,∃o,s.heap.get? b=some o/\∀v,o.data≠.cell v):Inv X (Go++iL fp s.heap) σ H s :=
 I.L0 λp O=>(Og.mp O).elim (λz=>I.pin p (NU _ z)) λz=>by
  obtain ⟨hb,e⟩:=M1 z;obtain ⟨S,J,G,_⟩:=hf p.1 hb;obtain ⟨o,F,d⟩:=ho p.1 hb;rw [e] at F;cases F;exact ⟨e,S,J,G,d⟩
theorem Inv.SU(I:Inv X (Go++pl) σ H s):Inv X Go σ H s:=I.L0 λp z=>I.pin p (NU _ (OQ _ z))
theorem bN(hp:OW (NL X.prog X.w) X.A X.env X.xe)(hc:c=true->X.calm=true)(hi:W (PIc c X tg iter wi))(hg:W (PG X tg g))(hb:W (PSs X Zv tb))(hs:∀x,O7 iter X.env x=pure x:=by intro _;rfl):W (PS X (.For tg iter Zv [] pos) (rR wi g tb)):=by
 refine ⟨?_⟩;have hi:=hi.h;have hg:=hg.h;have hb:=hb.h;intro Go s σ H D I h;refine wpAny_For (thn (hi Go s σ H _ I h) λv s1 h1=>thn h1 λa0 s2 h2=>?_) hs;obtain ⟨it,fp,tn,J,H2,e,I2,T,aj,f2,W,⟨m0,w0⟩,ab⟩:=h2;subst e;have O:∀{H':Hp},(∀b∈fp,H' b=none)->∀b∈fp,dY X Go H' b:=λhn b hb=>⟨hn b hb,(f2 b hb).2⟩;refine codeAny_forLoop_any (λn s'=>∃i F H',Inv X Go F H' s'/\tn i s'.heap/\(∀b∈fp,H' b=none)/\W i n F H') ?_ m0 ⟨0,σ,H2,I2,aj,λb hb=>(f2 b hb).1,w0⟩;rintro n s3 ⟨i,S,H3,I3,ai,ag,w3⟩;rcases ab i n S H3 w3 with ⟨stop,qn⟩|⟨go,N,hN,step⟩
 .refine Py hp (thn (T.done X rfl rfl rfl hc i Go s3 S H3 X.xe I3 (O ag) ai stop) λr s4=>x2e λhr I4=>?_);subst hr;exact QR ⟨S,H3,I4,qn⟩
 .refine Py hp (thn (T.item X rfl rfl rfl hc i Go s3 S H3 X.xe I3 (O ag) ai go) λr s4=>x3e λu hr h4=>?_);subst hr;refine Py hp (thn h4 λ_ s5=>x5e λx H5 I5 r5 Ys=>?_);obtain ⟨y5,Z,av⟩:=Ys;have aT:=I5.pinned (O av) (T.obj _ _ Z);refine Py hp (thn (hg _ s5 S H5 x u _ aT r5 (step x H5 y5)) λ_ s6=>x4e λak H6 I6 q6=>?_);refine Py hp (thn (hb _ s6 ak H6 _ I6 q6) λf s7 U=>?_);have again:∀{z:St}{H7:Hp},Inv X (Go++iL fp s5.heap) z H7 s7->N z H7->∃m,m<n/\∃i F H',Inv X Go F H' s7/\tn i s7.heap/\(∀b∈fp,H' b=none)/\W i m F H':=λ{z H7} G n7=>by
   obtain ⟨m',hm,w7⟩:=hN z H7 n7;refine ⟨m',hm,i+1,z,H7,G.SU,T.keep _ _ _ Z λb hb o e=>(G.pin (b,o) (NU _ (NU _ (kW hb e)))).1,λb hb=>?_,w7⟩;obtain ⟨o,e,d⟩:=T.obj _ _ Z b hb;exact (G.pin (b,o) (NU _ (NU _ (kW hb e)))).2.1
  cases f with
  | next=>obtain ⟨z,H7,G,n7⟩:=U;exact again G n7
  | cont=>obtain ⟨z,H7,G,n7⟩:=U;exact again G n7
  | brk=>obtain ⟨z,H7,G,U⟩:=U;exact ⟨z,H7,G.SU,U⟩
  | ret v=>obtain ⟨x7,z,H7,G,r7,U⟩:=U;exact ⟨x7,z,H7,G.SU,r7,U⟩
end
theorem Gk{K:Nu}{g:TG}{tb:TS}{D:aP}(z:Nat->St->Hp->Prop)(U:z 0 σ H)(hl:∀i σ H,i<=xs.length->z i σ H->SqL K H a xs)(hs:∀i x σ H,xs[i]?=some x->z i σ H->g x σ H λG H2=>tb { D with nx:=z (i+1),ct:=z (i+1),bk:=D.nx } G H2)(hd:∀σ H,z xs.length σ H->D.nx σ H):
  ∃W:Nat->Nat->St->Hp->Prop,(∃m,W 0 m σ H)/\∀i m σ H,W i m σ H ->
   ((Itl K a).stop i H/\D.nx σ H)\/((Itl K a).go i H/\∃N:St->Hp->Prop,(∀F H',N F H'->∃J,J<m/\W (i+1) J F H')/\∀x H',(Itl K a).ai i H x H'->g x σ H' λG H2=>tb { D with nx:=N,ct:=N,bk:=D.nx } G H2):=by
 refine ⟨λi m σ H=>m=xs.length-i/\i<=xs.length/\z i σ H,⟨xs.length,by simp,Ot _,U⟩,?_⟩;rintro i m σ H ⟨rfl,hi,p⟩;have q:=hl i σ H hi p;by_cases O:i<xs.length
 .refine .inr ⟨⟨xs,xs[i],q,by simp [O]⟩,z (i+1),λF H' S=>⟨xs.length-(i+1),by lia,rfl,O,S⟩,λx H' y=>?_⟩;obtain ⟨e,y⟩:=y;subst e;exact hs i x σ _ (y xs q) p
 .have e:i=xs.length:=by lia
  subst e;exact .inl ⟨⟨xs,q,Nq _⟩,hd σ H p⟩
theorem C4{lo:Int}{g:TG}{tb:TS}{D:aP}(z:Nat->St->Hp->Prop)(U:z 0 σ H)(hs:∀i σ H,i<n->z i σ H->g (.int (lo+i)) σ H λG H2=>tb { D with nx:=z (i+1),ct:=z (i+1),bk:=D.nx } G H2)(hd:∀σ H,z n σ H->D.nx σ H):
  ∃W:Nat->Nat->St->Hp->Prop,(∃m,W 0 m σ H)/\∀i m σ H,W i m σ H ->
   ((Itr lo n).stop i H/\D.nx σ H)\/((Itr lo n).go i H/\∃N:St->Hp->Prop,(∀F H',N F H'->∃O,O<m/\W (i+1) O F H')/\∀x H',(Itr lo n).ai i H x H'->g x σ H' λG H2=>tb { D with nx:=N,ct:=N,bk:=D.nx } G H2):=by
 refine ⟨λi m σ H=>m=n-i/\i<=n/\z i σ H,⟨n,by simp,Ot _,U⟩,?_⟩;rintro i m σ H ⟨rfl,hi,p⟩;by_cases J:i<n
 .refine .inr ⟨J,z (i+1),λF H' S=>⟨n-(i+1),by lia,rfl,J,S⟩,λx H' y=>?_⟩;obtain ⟨e,y⟩:=y;subst e y;exact hs i σ _ J p
 .have e:i=n:=by lia
  subst e;exact .inl ⟨Nq _,hd σ H p⟩
abbrev R2:=V->V->Hp->VK->Prop
def OpR(X:Cx)(f:Value->Value->Sem Value)(r:R2):Prop :=
 ∀(Go:List (Addr×Obj))(s:we)(σ:St)(H:Hp)(x y:V)(v u:Value)(Q:VK),Inv X Go σ H s->zo x v->zo y u->r x y H Q ->
  NF (NL X.prog X.w) X.A (f v u) (EP X Go σ Q) X.xe s
def UnR(X:Cx)(f:Value->Sem Value)(r:V->Hp->VK->Prop):Prop :=
 ∀(Go:List (Addr×Obj))(s:we)(σ:St)(H:Hp)(x:V)(v:Value)(Q:VK),Inv X Go σ H s->zo x v->r x H Q ->
  NF (NL X.prog X.w) X.A (f v) (EP X Go σ Q) X.xe s
def zM(X:Cx)(f:Value)(r:List V->Hp->VK->Prop):Prop :=
 ∀(Go:List (Addr×Obj))(s:we)(σ:St)(H:Hp)(xs:List V)(us:List Value)(Q:VK),Inv X Go σ H s->zp xs us->r xs H Q ->
  NF (NL X.prog X.w) X.A (call f us) (EP X Go σ Q) X.xe s
def Bu(X:Cx)(r:V->Hp->(Bool->Hp->Prop)->Prop):Prop :=
 ∀(Go:List (Addr×Obj))(s:we)(σ:St)(H:Hp)(x:V)(v:Value)(Q:Bool->Hp->Prop),Inv X Go σ H s->zo x v->r x H Q ->
  NF (NL X.prog X.w) X.A (truthy v) (TP X Go σ Q) X.xe s
def tOp(r:R2)(ta tb:TE):TE:=λσ H Q=>ta σ H λx H1=>tb σ H1 λy H2=>r x y H2 Q
def tUn(r:V->Hp->VK->Prop)(ta:TE):TE:=λσ H Q=>ta σ H λx H1=>r x H1 Q
def rI(C:Int->Int->Prop)(g:Int->Int->V):R2:=λx y H Q=>∃i j,x = .int i/\y = .int j/\C i j/\Q (g i j) H
def rI0(g:Int->Int->V):R2:=λx y H Q=>∃i j,x = .int i/\y = .int j/\Q (g i j) H
def rU(g:Int->V):V->Hp->VK->Prop:=λx H Q=>∃i,x = .int i/\Q (g i) H
section
variable {X:Cx}{a b c:N0}{ta tb tc:TE}{pos:Pos}
theorem qD(ha:PE X a ta)(hb:PE X b tb){R:V->V->Hp->Prop}(I:Inv X Go σ H s)(h:ta σ H λx H1=>tb σ H1 λy H2=>R x y H2){f:Value->Value->Sem Value}(hf:∀v u s2 x y H2,Inv X Go σ H2 s2->zo x v->zo y u->R x y H2->NF (NL X.prog X.w) X.A (f v u) Q X.xe s2):
  NF (NL X.prog X.w) X.A (Os a X.env) (λv s₁=>NF (NL X.prog X.w) X.A (Os b X.env) (λu z=>NF (NL X.prog X.w) X.A (f v u) Q X.xe z) X.xe s₁) X.xe s:=by
 refine thn (ha Go s σ H _ I h) λv s1=>x5e λx H1 U S J=>?_;refine thn (hb Go s1 σ H1 _ U J) λu s2=>x5e λy H2 O G F=>?_;exact hf v u s2 x y H2 O S G F
theorem zB{r:R2}(ho:OpR X (Pd op) r)(ha:W (PE X a ta))(hb:W (PE X b tb)):W (PE X (.BinOp a op b pos) (tOp r ta tb)):=by
 refine ⟨?_⟩;have ha:=ha.h;have hb:=hb.h;intro Go s σ H Q I h;exact wpAny_BinOp (qD ha hb I h λv u s2 x y H2 G F z q=>ho Go s2 σ H2 x y v u Q G F z q)
theorem jK{r:V->Hp->VK->Prop}(ho:UnR X (unaryOp op) r)(ha:W (PE X a ta)):W (PE X (.UnaryOp op a pos) (tUn r ta)):=by
 refine ⟨?_⟩;have ha:=ha.h;intro Go s σ H Q I h;exact UnaryOp_ (thn (ha Go s σ H _ I h) λv s1=>x5e λx H1 z G F=>ho Go s1 σ H1 x v Q z G F)
theorem opI{g:Int->Int->Int}(rule:∀(i j:Int)(t u:Tok)(s:we)(Q:Value->we->Prop)(E:Value->we->Prop),C i j->Q (.int (g i j) s.toks) { s with toks:=s.toks+1 }->NF (NL X.prog X.w) X.A (f (.int i t) (.int j u)) Q E s):
  OpR X f (rI C λi j=>.int (g i j)):=by
 intro Go s σ H x y v u Q I F z h;obtain ⟨i,j,rfl,rfl,hc,q⟩:=h;obtain ⟨t,rfl⟩:=F;obtain ⟨t',rfl⟩:=z;exact rule i j t t' s _ _ hc ⟨.int (g i j),H,I.tok _,⟨_,rfl⟩,q⟩
theorem tV{g:Int->Int->Int}(rule:∀(i j:Int)(t u:Tok)(s:we)(Q:Value->we->Prop)(E:Value->we->Prop),Q (.int (g i j) s.toks) { s with toks:=s.toks+1 }->NF (NL X.prog X.w) X.A (f (.int i t) (.int j u)) Q E s):
  OpR X f (rI0 λi j=>.int (g i j)):=by
 intro Go s σ H x y v u Q I F z h;obtain ⟨i,j,rfl,rfl,q⟩:=h;obtain ⟨t,rfl⟩:=F;obtain ⟨t',rfl⟩:=z;exact rule i j t t' s _ _ ⟨.int (g i j),H,I.tok _,⟨_,rfl⟩,q⟩
theorem pY{g:Int->Int->Bool}(rule:∀(i j:Int)(t u:Tok)(s:we)(Q:Value->we->Prop)(E:Value->we->Prop),Q (.bool (g i j)) s->NF (NL X.prog X.w) X.A (f (.int i t) (.int j u)) Q E s):
  OpR X f (rI0 λi j=>.bl (g i j)):=by
 intro Go s σ H x y v u Q I F z h;obtain ⟨i,j,rfl,rfl,q⟩:=h;obtain ⟨t,rfl⟩:=F;obtain ⟨t',rfl⟩:=z;exact rule i j t t' s _ _ ⟨.bl (g i j),H,I,rfl,q⟩
def LL(i j:Int):Prop:=0<j/\j<1073741824
def MB(i j:Int):Prop:=0<=j/\j<=1000000/\i.natAbs<2 ^ 64
def h7(i j:Int):Prop:=(-(2 ^ 64)<i/\i<2 ^ 64)\/(-(2 ^ 64)<j/\j<2 ^ 64)
theorem h7.ok(h:h7 i j):IntMulOk i j:=by
 rcases h with ⟨h1,h2⟩|⟨h1,h2⟩
 .exact .of_left (intBits_le_64 h1 h2)
 .exact .of_right (intBits_le_64 h1 h2)
theorem EO:OpR X (Pd .Add) (rI0 λi j=>.int (i+j)):=tV λ_ _ _ _ _ _ _ q=>add_int q
theorem fI:OpR X (Pd .Sub) (rI0 λi j=>.int (i-j)):=tV λ_ _ _ _ _ _ _ q=>sub_int q
theorem IW:OpR X (Pd .Mult) (rI h7 λi j=>.int (i*j)):=opI λ_ _ _ _ _ _ _ hc q=>mul_int q hc.ok
theorem qh:OpR X (Pd .FloorDiv) (rI LL λi j=>.int (i / j)):=opI λi j _ _ _ _ _ hc q=>by
 have h1:(0:Int)<j:=hc.1;have h2:j<1073741824:=hc.2;exact floordiv_int (by lia) (by rw [Int.fdiv_eq_ediv_of_nonneg i (by lia)];exact q) (.inl (PyProof.noPylong_small (by lia)))
theorem gL:OpR X (Pd .Mod) (rI (λ_ j=>0<j) λi j=>.int (i % j)):=opI λi j _ _ _ _ _ hc q=>by
 have h1:(0:Int)<j:=hc;exact mod_int' (by lia) (by rw [Int.fmod_eq_emod_of_nonneg i (by lia)];exact q)
theorem pC:OpR X (Pd .Pow) (rI MB λi j=>.int (i ^ j.toNat)):=opI λ_ _ _ _ _ _ _ hc q=>pow_int_small hc.1 hc.2.1 hc.2.2 q
theorem unI{g:Int->Int}(rule:∀(i:Int)(t:Tok)(s:we)(Q:Value->we->Prop)(E:Value->we->Prop),Q (.int (g i) s.toks) { s with toks:=s.toks+1 }->NF (NL X.prog X.w) X.A (f (.int i t)) Q E s):
  UnR X f (rU λi=>.int (g i)):=by
 intro Go s σ H x v Q I z h;obtain ⟨i,rfl,q⟩:=h;obtain ⟨t,rfl⟩:=z;exact rule i t s _ _ ⟨.int (g i),H,I.tok _,⟨_,rfl⟩,q⟩
theorem lB:UnR X (unaryOp .USub) (rU λi=>.int (-i)):=unI λ_ _ _ _ _ q=>neg_int q
def fS:V->V->Bool
 | .non,.non=>true | .non,.int _=>true | .int _,.non=>true | .non,.bl _=>true | .bl _,.non=>true | .non,.str _=>true | .str _,.non=>true
 | .int _,.int _=>true | .bl _,.bl _=>true | .str _,.str _=>true | .byt _,.byt _=>true
 | .int _,.str _=>true | .str _,.int _=>true | .bl _,.str _=>true | .str _,.bl _=>true
 | _,_=>false
def rEq:R2:=λx y H Q=>fS x y=true/\Q (.bl (decide (x=y))) H
def rNe:R2:=λx y H Q=>fS x y=true/\Q (.bl (!decide (x=y))) H
theorem rT:decide (V.int i=V.int j)=(i==j):=by
 rw [Qu];simp
theorem xf:decide (V.bl i=V.bl j)=(i==j):=by
 rw [Qu];simp
theorem yt:decide (V.str i=V.str j)=(i==j):=by
 rw [Qu];simp
theorem AB:decide (V.byt i=V.byt j)=(i.toList==j.toList):=by
 rw [Qu];cases i;cases j;simp
theorem af{k k':Bool}(I:Inv X Go σ H s)(q:Q (.bl k) H)(e:k=k'):EP X Go σ Q (.bool k') s:=by
 subst e;exact ⟨.bl k,H,I,rfl,q⟩
theorem HW:OpR X (Of .Eq) rEq:=by
 intro Go s σ H x y v u Q I F z h;obtain ⟨hs,q⟩:=h;cases x with
 | non =>
  cases F;cases y with
  | non=>cases z;exact PySem.EqNone.eq_none_none (af I q (by simp))
  | bl j=>cases z;exact PySem.EqNone.eq_none_bool (af I q (by simp))
  | int j=>obtain ⟨t',rfl⟩:=z;exact PySem.EqNone.eq_none_int (af I q (by simp))
  | str j=>obtain ⟨t',rfl⟩:=z;exact PySem.EqNone.eq_none_str (af I q (by simp))
  | _=>exact absurd (show false=true from hs) Nx
 | bl i =>
  cases F;cases y with
  | non=>cases z;exact PySem.EqNone.eq_bool_none (af I q (by simp))
  | bl j=>cases z;exact eq_bool (af I q xf)
  | str j=>obtain ⟨t',rfl⟩:=z;exact PySem.EqMixed.eq_bool_str (af I q (by simp))
  | _=>exact absurd (show false=true from hs) Nx
 | int i =>
  obtain ⟨t,rfl⟩:=F;cases y with
  | non=>cases z;exact PySem.EqNone.eq_int_none (af I q (by simp))
  | int j=>obtain ⟨t',rfl⟩:=z;exact eq_int (af I q rT)
  | str j=>obtain ⟨t',rfl⟩:=z;exact PySem.EqMixed.eq_int_str (af I q (by simp))
  | _=>exact absurd (show false=true from hs) Nx
 | str i =>
  obtain ⟨t,rfl⟩:=F;cases y with
  | non=>cases z;exact PySem.EqNone.eq_str_none (af I q (by simp))
  | bl j=>cases z;exact PySem.EqMixed.eq_str_bool (af I q (by simp))
  | int j=>obtain ⟨t',rfl⟩:=z;exact PySem.EqMixed.eq_str_int (af I q (by simp))
  | str j=>obtain ⟨t',rfl⟩:=z;exact eq_str (af I q yt)
  | _=>exact absurd (show false=true from hs) Nx
 | byt i =>
  obtain ⟨t,rfl⟩:=F;cases y with
  | byt j=>obtain ⟨t',rfl⟩:=z;exact PySem.W.eq_bytes (af I q AB)
  | _=>exact absurd (show false=true from hs) Nx
 | _=>cases y<;>exact absurd (show false=true from hs) Nx
theorem Ll:OpR X (Of .NotEq) rNe:=by
 intro Go s σ H x y v u Q I F z h;obtain ⟨hs,q⟩:=h;cases x with
 | non =>
  cases F;cases y with
  | non=>cases z;exact PySem.EqNone.ne_none_none (af I q (by simp))
  | bl j=>cases z;exact PySem.EqNone.ne_none_bool (af I q (by simp))
  | int j=>obtain ⟨t',rfl⟩:=z;exact PySem.EqNone.ne_none_int (af I q (by simp))
  | str j=>obtain ⟨t',rfl⟩:=z;exact PySem.EqNone.ne_none_str (af I q (by simp))
  | _=>exact absurd (show false=true from hs) Nx
 | bl i =>
  cases F;cases y with
  | non=>cases z;exact PySem.EqNone.ne_bool_none (af I q (by simp))
  | bl j=>cases z;exact ne_bool (af I q (congrArg not xf))
  | str j=>obtain ⟨t',rfl⟩:=z;exact PySem.EqMixed.ne_bool_str (af I q (by simp))
  | _=>exact absurd (show false=true from hs) Nx
 | int i =>
  obtain ⟨t,rfl⟩:=F;cases y with
  | non=>cases z;exact PySem.EqNone.ne_int_none (af I q (by simp))
  | int j=>obtain ⟨t',rfl⟩:=z;exact ne_int (af I q (congrArg not rT))
  | str j=>obtain ⟨t',rfl⟩:=z;exact PySem.EqMixed.ne_int_str (af I q (by simp))
  | _=>exact absurd (show false=true from hs) Nx
 | str i =>
  obtain ⟨t,rfl⟩:=F;cases y with
  | non=>cases z;exact PySem.EqNone.ne_str_none (af I q (by simp))
  | bl j=>cases z;exact PySem.EqMixed.ne_str_bool (af I q (by simp))
  | int j=>obtain ⟨t',rfl⟩:=z;exact PySem.EqMixed.ne_str_int (af I q (by simp))
  | str j=>obtain ⟨t',rfl⟩:=z;exact ne_str (af I q (congrArg not yt))
  | _=>exact absurd (show false=true from hs) Nx
 | byt i =>
  obtain ⟨t,rfl⟩:=F;cases y with
  | byt j=>obtain ⟨t',rfl⟩:=z;exact PySem.W.ne_bytes (af I q (congrArg not AB))
  | _=>exact absurd (show false=true from hs) Nx
 | _=>cases y<;>exact absurd (show false=true from hs) Nx
theorem gZ:OpR X (Of .Lt) (rI0 λi j=>.bl (decide (i<j))):=pY λ_ _ _ _ _ _ _ q=>lt_int q
theorem ly:OpR X (Of .LtE) (rI0 λi j=>.bl (decide (i<=j))):=pY λ_ _ _ _ _ _ _ q=>le_int q
theorem h9:OpR X (Of .Gt) (rI0 λi j=>.bl (decide (j<i))):=pY λ_ _ _ _ _ _ _ q=>gt_int q
theorem LX:OpR X (Of .In) (λx y H Q=>∃i j,x = .str i/\y = .str j/\Q (.bl (!(NN.Str.occurrences j i 0 j.length 1).isEmpty)) H):=by
 intro Go s σ H x y v u Q I F z h;obtain ⟨i,j,rfl,rfl,q⟩:=h;obtain ⟨t,rfl⟩:=F;obtain ⟨t',rfl⟩:=z;exact in_str (af I q rfl)
theorem Gc:OpR X (Of .Is) (λx y H Q=>y = .non/\Q (.bl (decide (x = .non))) H):=by
 intro Go s σ H x y v u Q I z F h;obtain ⟨rfl,q⟩:=h;cases F;refine is_none_gen (af I q ?_);cases x<;>first
  | (cases z;rfl)
  | (obtain ⟨t,rfl⟩:=z;rfl)
theorem Gf:OpR X (Of .IsNot) (λx y H Q=>y = .non/\Q (.bl (!decide (x = .non))) H):=by
 intro Go s σ H x y v u Q I z F h;obtain ⟨rfl,q⟩:=h;cases F;refine isnot_none_gen (af I q ?_);cases x<;>first
  | (cases z;rfl)
  | (obtain ⟨t,rfl⟩:=z;rfl)
theorem OpR.or{r r':R2}(h:OpR X f r)(h':OpR X f r'):OpR X f (λx y H Q=>r x y H Q\/r' x y H Q):=by
 intro Go s σ H x y v u Q I F z q;rcases q with q|q
 .exact h Go s σ H x y v u Q I F z q
 .exact h' Go s σ H x y v u Q I F z q
theorem zC(b:N0)(h:op≠.In:=by decide)(h2:op≠.NotIn:=by decide):Rq op b=false:=by
 have z:(op==CmpOp.In)=false:=by cases op<;>first|rfl|exact absurd rfl h
 have F:(op==CmpOp.NotIn)=false:=by cases op<;>first|rfl|exact absurd rfl h2
 cases b<;>simp [Rq,z,F]
theorem cy{r:R2}(ho:OpR X (Of op) r)(ha:W (PE X a ta))(hb:W (PE X b tb))(hm:Rq op b=false):W (PE X (.Compare a [op] [b] pos) (tOp r ta tb)):=by
 refine ⟨?_⟩;have ha:=ha.h;have hb:=hb.h;intro Go s σ H Q I h;exact wpAny_Compare1 (qD ha hb I h λv u s2 x y H2 G F z q=>ho Go s2 σ H2 x y v u Q G F z q) hm
def lC(t:TE):TT:=λσ H Q=>t σ H λx H'=>∃k,x = .bl k/\Q k H'
theorem sQ{r:R2}(ho:OpR X (Of op) r)(ha:PE X a ta)(hb:PE X b tb)(hm:Rq op b=false):PT X (.Compare a [op] [b] pos) (lC (tOp r ta tb)):=by
 intro Go s σ H Q I h;refine wpAny_isTrue_Compare1 (thn (ha Go s σ H _ I h) λv s1=>x5e λx H1 I1 Z U=>thn (hb Go s1 σ H1 _ I1 U) λu s2=>x5e λy H2 W S J =>
  thn (ho Go s2 σ H2 x y v u _ W Z S J) λc s3=>x5e λz H3 I3 G O=>?_) hm
 obtain ⟨k,e,F⟩:=O;subst e;cases G;exact O2 ⟨H3,I3,F⟩
def tF(r r':R2)(ta tb tc:TE):TE:=λσ H Q=>ta σ H λx H1=>tb σ H1 λy H2=>r x y H2 λz H3=>∃k,z = .bl k /\
 (if k=true then tc σ H3 λw' H4=>r' y w' H4 Q else Q (.bl false) H3)
theorem ye{r r':R2}(ho:OpR X (Of op) r)(Yt:OpR X (Of F) r')(ha:W (PE X a ta))(hb:W (PE X b tb))(hc:W (PE X c tc))(hm:lastMarks [op,F] [b,c]=false:=by with_unfolding_all rfl):W (PE X (.Compare a [op,F] [b,c] pos) (tF r r' ta tb tc)):=by
 refine ⟨?_⟩;have ha:=ha.h;have hb:=hb.h;have hc:=hc.h;intro Go s σ H Q I h;refine Compare_chain (thn (ha Go s σ H _ I h) λv s1=>x5e λx H1 I1 r1 q1=>chain_link (thn (hb Go s1 σ H1 _ I1 q1) λu s2=>x5e λy H2 I2 O Z =>
  thn (ho Go s2 σ H2 x y v u _ I2 r1 O Z) λd s3=>x5e λz H3 S U G=>?_)) hm
 obtain ⟨k,e,J⟩:=G;subst e;cases U;refine O2 ?_;cases k with
 | false=>exact ite_ff ⟨.bl false,H3,S,rfl,J⟩
 | true=>exact ite_tt (chain_last (thn (hc Go s3 σ H3 _ S J) λw' s4=>x5e λz' H4 I4 r4 q4=>Yt Go s4 σ H4 y z' u w' Q I4 O r4 q4))
def gq(K:Nu)(x:V)(H:Hp)(k:Bool):Prop :=
 match x with
 | .non=>k=false
 | .bl b=>k=b
 | .int i=>k=(i != 0)
 | .str y=>y.length<=sizeLine/\k=((y.length:Int) != 0)
 | .byt y=>y.size<=sizeLine/\k=((y.size:Int) != 0)
 | .ref p=>(∃xs,SqL K H p xs/\k = !xs.isEmpty)\/(∃xs,SqT K H p xs/\k = !xs.isEmpty)\/∃kvs,H p=some (.dK kvs)/\k = !kvs.isEmpty
 | _=>False
theorem BO{κ:Type}{kvs:List (κ×V)}{vs:List (κ×Value)}(r:KV kvs vs):(!vs.isEmpty) = !kvs.isEmpty:=by
 cases r<;>rfl
theorem xl(r:zp xs its):(!its.toArray.isEmpty) = !xs.isEmpty:=by
 cases r<;>simp
theorem gI:(sizeLine:Nat)<2 ^ 63:=by rw [Ox];decide
theorem Eg:Bu X (λx H Q=>∃k,gq X.K x H k/\Q k H):=by
 intro Go s σ H x v Q I F h;obtain ⟨k,e,q⟩:=h;have hl:=gI;have hs:sizeLine=16777216:=Ox;cases x with
 | non =>
  cases F;have z:k=false:=e;subst z;exact truthy_none ⟨H,I,q⟩
 | bl b =>
  cases F;have z:k=b:=e;subst z;exact O2 ⟨H,I,q⟩
 | int i =>
  obtain ⟨t,rfl⟩:=F;have z:k=(i != 0):=e;subst z;exact PySem.P.truthy_int ⟨H,I,q⟩
 | str y =>
  obtain ⟨t,rfl⟩:=F;obtain ⟨S,z⟩:y.length<=sizeLine/\k=((y.length:Int) != 0):=e;subst z;exact PySem.P.truthy_str (by lia) ⟨H,I.tok _,q⟩
 | byt y =>
  obtain ⟨t,rfl⟩:=F;obtain ⟨S,z⟩:y.size<=sizeLine/\k=((y.size:Int) != 0):=e;subst z;exact PySem.W.truthy_bytes (by lia) ⟨H,I.tok _,q⟩
 | ref p =>
  cases F;have z:(∃xs,SqL X.K H p xs/\k = !xs.isEmpty)\/(∃xs,SqT X.K H p xs/\k = !xs.isEmpty)\/∃kvs,H p=some (.dK kvs)/\k = !kvs.isEmpty:=e;rcases z with ⟨xs,hx,z⟩|⟨xs,hx,z⟩|⟨kvs,hx,z⟩
  .subst z;obtain ⟨its,r,pl,J⟩:=I.list hx;have G:=r.length;exact wpAny_truthy_list pl.isList (by simp only [NI];lia) ⟨H,I.tok _,by rw [xl r];exact q⟩
  .subst z;obtain ⟨its,r,pl,J⟩:=I.tuple hx;have G:=r.length;exact truthy_tuple pl (by simp only [NI];lia) ⟨H,I.tok _,by rw [xl r];exact q⟩
  .subst z;obtain ⟨J,O,vs,r,m⟩:kvs.length<=sizeLine/\(p==sysModules)=false/\∃vs,KV kvs vs/\s.heap.DictOf (aB X.prog X.w) p vs:=I.hok p _ hx;have G:kvs.length=vs.length:=Paired.length r;exact wpAny_truthy_dict O m (by lia) ⟨H,I.tok _,by rw [BO r];exact q⟩
 | _=>exact (show False from e).elim
theorem JH(ha:PE X a ta)(he:∀z,isTrue a X.env z=(do let v<-z;QH a.pos;PV [v] (truthy v))) :
  PT X a (λσ H Q=>ta σ H λx H'=>∃k,gq X.K x H' k/\Q k H'):=by
 intro Go s σ H Q I h;exact isTrue_plain (thn (ha Go s σ H _ I h) λv s1=>x5e λx H1 G J F=>Eg Go s1 σ H1 x v Q G J F) (he _)
theorem Kk:OpR X (Pd .Add) (λx y H Q=>∃i j,x = .str i/\y = .str j/\i.length+j.length<=sizeLine/\Q (.str (i++j)) H):=by
 intro Go s σ H x y v u Q I G z h;obtain ⟨i,j,rfl,rfl,F,q⟩:=h;obtain ⟨t,rfl⟩:=G;obtain ⟨t',rfl⟩:=z;exact add_str (λt' tk=>⟨.str (i++j),H,I.tok _,⟨_,rfl⟩,q⟩) F
theorem cg(r:zp [x] us):∃u,us=[u]/\zo x u:=by
 cases r with
 | cons F z=>cases z;exact ⟨_,rfl,F⟩
theorem mZ(r:zp [x,y] us):∃u w',us=[u,w']/\zo x u/\zo y w':=by
 cases r with
 | cons z F =>
  cases F with
  | cons G J=>cases J;exact ⟨_,_,rfl,z,G⟩
theorem Mt(hc:X.calm=true):zM X (.builtin "max") (λxs H Q=>∃i j,xs=[.int i,.int j]/\Q (.int (if j>i then j else i)) H):=by
 intro Go s σ H xs us Q I r h;obtain ⟨i,j,rfl,q⟩:=h;obtain ⟨u,w',rfl,⟨t,rfl⟩,⟨t',rfl⟩⟩:=mZ r;refine max_two_ints (I.ok.hd hc) λh' tk k=>⟨_,H,I.kept k,?_,q⟩;by_cases z:j>i
 .rw [if_pos z,if_pos z];exact ⟨_,rfl⟩
 .rw [if_neg z,if_neg z];exact ⟨_,rfl⟩
theorem BN(hc:X.calm=true):zM X (.builtin "min") (λxs H Q=>∃i j,xs=[.int i,.int j]/\Q (.int (if j<i then j else i)) H):=by
 intro Go s σ H xs us Q I r h;obtain ⟨i,j,rfl,q⟩:=h;obtain ⟨u,w',rfl,⟨t,rfl⟩,⟨t',rfl⟩⟩:=mZ r;refine min_two_ints (I.ok.hd hc) λh' tk k=>⟨_,H,I.kept k,?_,q⟩;by_cases z:j<i
 .rw [if_pos z,if_pos z];exact ⟨_,rfl⟩
 .rw [if_neg z,if_neg z];exact ⟨_,rfl⟩
theorem MT:zM X (.type "int") (λxs H Q=>(∃i,xs=[.int i]/\Q (.int i) H)\/∃k,xs=[.bl k]/\Q (.int (if k then 1 else 0)) H):=by
 intro Go s σ H xs us Q I r h;rcases h with ⟨i,rfl,q⟩|⟨k,rfl,q⟩
 .obtain ⟨u,rfl,t,rfl⟩:=cg r;exact call_int_int ⟨.int i,H,I,⟨_,rfl⟩,q⟩
 .obtain ⟨u,rfl,z⟩:=cg r;cases z;exact call_int_bool ⟨.int (if k then 1 else 0),H,I.tok _,⟨_,rfl⟩,q⟩
theorem EM:zM X (.type "str") (λxs H Q=>∃i,xs=[.int i]/\i.natAbs.log2<1920/\Q (.str (toString i)) H):=by
 intro Go s σ H xs us Q I r h;obtain ⟨i,rfl,z,q⟩:=h;obtain ⟨u,rfl,t,rfl⟩:=cg r;exact PySem.P.str_of_int z ⟨.str _,H,I.tok _,⟨_,rfl⟩,q⟩
theorem HK:zM X (.builtin "ord") (λxs H Q=>∃x,xs=[.str x]/\x.length=1/\Q (.int (x.cps.getD 0 0:Nat)) H):=by
 intro Go s σ H xs us Q I r h;obtain ⟨x,rfl,z,q⟩:=h;obtain ⟨u,rfl,t,rfl⟩:=cg r;exact ord_of_one z ⟨.int _,H,I.tok _,⟨_,rfl⟩,q⟩
end
structure fR(h:Heap)(x dx C:Addr)(mA:Str->Option Value):Prop where
 obj:h.get? x=some (Sz C dx)
 ns:h.Ns1 dx mA
 ne:dx≠x
theorem CC{h:Heap}(n:h.Ns1 dx mA):∃F,h.get? dx=some F/\∀name,lookIn name F=some (mA name):=by
 obtain ⟨o,es,ep,ho,hd,G,_,hm⟩:=n;refine ⟨o,ho,λname=>?_⟩;have e:=hm name;unfold nsFind findBy at e;rw [<- Array.find?_toList] at e;unfold lookIn;rw [hd];dsimp only;split
 .rename_i y q;rw [q] at e;exact congrArg some e
 .rename_i q;rw [q] at e;have a:es.toList.any (·.refKey)=false:=by
   rw [List.any_eq_false];intro y O;obtain ⟨z,t,J⟩:=G y (Array.mem_toList_iff.mp O);simp [Sr.refKey,J]
  have a' : ¬ es.toList.any (·.refKey)=true:=by rw [a];exact Nx
  rw [if_neg a'];exact congrArg some e
theorem fR.look(I:fR h x dx C mA):∃z,PySem.W.InstAt h x (Sz C dx) C (some z)/\∀name,lookIn name z=some (mA name) :=
 let ⟨z,ho,hl⟩:=CC I.ns
 ⟨z,⟨I.obj,rfl,rfl,ho⟩,hl⟩
section
variable {prog:NB}{w:NQ}{A:NP}{E:Value->we->Prop}{s:we}{K:Nu}{x dx C f:Addr}{mA:Str->Option Value}{name:Str}{v:Value}
theorem Fu(X:K.In s.heap)(I:fR s.heap x dx C mA)(hg:Sg K C name=true)(O:Sl K C=true)(ha:O0 K (.ref C) name=some none)(G:mA name=some v)(F:handedIn v=true)(h:Q v { s with toks:=s.toks+1 }):
  NF (NL prog w) A (getAttr (.ref x) name z) Q E s:=by
 obtain ⟨S,J,hl⟩:=I.look;exact PySem.W.get_value X J (plainGet_of hg).1 (PySem.W.findObj_own O ha rfl (by rw [hl,G])) F h
theorem DO(X:K.In s.heap)(I:fR s.heap x dx C mA)(hg:Sg K C name=true)(hf:O0 K (.ref C) name=some (some (.ref f)))(z:isFn K (.ref f)=true)(F:mA name=none)(h:Q (.ref f,[.ref x]) s):
  NF (NL prog w) A (QK (.ref x) name pl) Q E s:=by
 obtain ⟨G,J,hl⟩:=I.look;exact PySem.W.method_fn X J (plainGet_of hg).1 (plainGet_of hg).2 hf (beq_iff_eq.mp z) (by show (lookIn name G).map (·.isSome)=some false;rw [hl,F];rfl) h
theorem MO(X:K.In s.heap)(I:fR s.heap x dx C mA)(hs:O0 K (.ref C) "__setattr__"=some (some (.builtin "object.__setattr__")))(hp:plainOver K C=true)(ht:takerIn K C name=some none)(hh:Sl K C=true)(Z:SG mA ns)(hsz:ns.length<=sizeLine)(h:∀h',fR h' x dx C (λy=>if y=name then some v else mA y)->Q8 dx s.heap h'->Q () { s with heap:=h',toks:=s.toks+2 }):
  NF (NL prog w) A (setAttr (.ref x) name v) Q E s:=by
 obtain ⟨od,J,hl⟩:=I.look;refine PySem.W.set_plain X J hs (PySem.W.osa_open (s:={ s with toks:=s.toks+1 }) (r:=none) X J hp ht λb=>?_);obtain ⟨cd,hc,O⟩:=PySem.W.any_some hh;have hx:s.heap.get? x=some ⟨.ref C,some dx,.plain,#[]⟩:=I.obj;refine fv (Nv (fv (fv (wpAny_loadPart hx (fv (PySem.W.Looks.here (s:={ s with toks:=s.toks+1 }) (PySem.W.looks_clsIn X hc) ?_))))));rw [O];refine Nv (a:=some dx) (fv (Nv (fv ?_)));refine wpAny_nsSet1 (s:={ s with toks:=s.toks+1 }) I.ns λh' z U=>?_;obtain ⟨oD,ab,ag,F,G,S⟩:=z.count (SG.cons name v Z);refine fv (wpAny_lookBehind F (by rw [G];exact pastItsLine_dict (N6 S (by rw [Oy];lia))) ?_);exact Nv (h _ ⟨(U.2 _ (NO I.ne)).trans I.obj,z,I.ne⟩ U)
theorem Jd(X:K.In s.heap)(hm:makesIn K C=true)(hi:O0 K (.ref C) VX=some (some (.ref f)))(hf:PySem.W.typeIn K (.ref f)=some (.type "function"))(h:Qx (NL prog w) (A.under (.builtin "type.__call__" ⟨.ref C::vs,kw⟩)) (.call (.ref f) ⟨.ref (s.heap.objs.size+1)::vs,kw⟩) (PySem.W.InitBack (s.heap.objs.size+1) R)
   { s with heap:=(s.heap.push emptyDict).push (Sz C s.heap.objs.size) }):
  Qx (NL prog w) A (.call (.ref C) ⟨vs,kw⟩) R s:=by
 obtain ⟨z,g,d,t,os⟩:=s;exact PySem.W.make_core (PySem.W.makes_of X hm) (PySem.W.looks_findIn X hi) (λself=>PySem.W.bind_fn X self hf) (.inl rfl) h
end
def zR(f:Str)(v:V):List (Str×V)->List (Str×V)
 | []=>[(f,v)]
 | (g,x)::r=>if g=f then (g,v)::r else (g,x)::zR f v r
theorem AY(f g:Str)(v:V):∀fs:List (Str×V),(zR f v fs).lookup g=if g=f then some v else fs.lookup g
 | []=>by
  show PL g [(f,v)]=_;by_cases h:g=f
  .have hb:(g==f)=true:=beq_iff_eq.mpr h;simp only [PL,hb,if_pos h]
  .have hb:(g==f)=false:=beq_eq_false_iff_ne.mpr h;simp only [PL,hb,if_neg h]
 | (k,x)::r=>by
  have F:=AY f g v r;rw [show zR f v ((k,x)::r)=(if k=f then (k,v)::r else (k,x)::zR f v r) from rfl];by_cases z:k=f
  .rw [if_pos z];by_cases h:g=k
   .have hb:(g==k)=true:=beq_iff_eq.mpr h;simp only [PL,hb,if_pos (h.trans z)]
   .have hb:(g==k)=false:=beq_eq_false_iff_ne.mpr h;simp only [PL,hb,if_neg (λe:g=f=>h (e.trans z.symm))]
  .rw [if_neg z];by_cases h:g=k
   .have hb:(g==k)=true:=beq_iff_eq.mpr h;simp only [PL,hb,if_neg (λe:g=f=>z (h.symm.trans e))]
   .have hb:(g==k)=false:=beq_eq_false_iff_ne.mpr h;simp only [PL,hb];exact F
theorem pE(f:Str)(v:V):∀fs:List (Str×V),f∈(zR f v fs).map (·.1)/\∀g,g∈fs.map (·.1)->g∈(zR f v fs).map (·.1)
 | []=>⟨by simp [zR],λg h=>by simp at h⟩
 | (k,x)::r=>by
  obtain ⟨i1,i2⟩:=pE f v r;rw [show zR f v ((k,x)::r)=(if k=f then (k,v)::r else (k,x)::zR f v r) from rfl];by_cases z:k=f
  .rw [if_pos z];subst z;exact ⟨by simp,λg h=>by simpa using h⟩
  .rw [if_neg z];refine ⟨?_,λg h=>?_⟩
   .rw [Om];exact ND _ i1
   .rw [Om] at h ⊢;rcases Nw.mp h with e|e
    .exact Nw.mpr (.inl e)
    .exact ND _ (i2 g e)
theorem Ac(f:Str)(v:V):∀fs:List (Str×V),(zR f v fs).length<=fs.length+1
 | []=>by simp [zR]
 | (k,x)::r=>by
  have F:=Ac f v r;rw [show zR f v ((k,x)::r)=(if k=f then (k,v)::r else (k,x)::zR f v r) from rfl];by_cases z:k=f
  .rw [if_pos z,Oy,Oy];lia
  .rw [if_neg z,Oy,Oy];lia
theorem bH.some_of{o:Option Value}(r:bH (some v) o):∃u,o=some u/\zo v u:=by
 cases o with
 | none=>exact (show False from r).elim
 | some u=>exact ⟨u,rfl,r⟩
theorem bH.none_of{o:Option Value}(r:bH none o):o=none:=by
 cases o with
 | none=>rfl
 | some u=>exact (show False from r).elim
theorem LJ(r:zo v u):handedIn u=true:=by
 cases v with
 | non=>cases (show u=N7 from r);rfl
 | bl b=>cases (show u=Pq b from r);rfl
 | int i=>obtain ⟨t,e⟩:=(show ∃t,u=PB i t from r);cases e;rfl
 | str x=>obtain ⟨t,e⟩:=(show ∃t,u=RL x t from r);cases e;rfl
 | byt b=>obtain ⟨t,e⟩:=(show ∃t,u=Value.bytes b t from r);cases e;rfl
 | flt b=>obtain ⟨t,e⟩:=(show ∃t,u=float b t from r);cases e;rfl
 | ref a=>cases (show u=Ny a from r);rfl
 | ty n=>cases (show u=type n from r);rfl
section
variable {P:NB}{w:NQ}{H H':Hp}{h h':Heap}{a C dx:Addr}{fs fs':List (Str×V)}
theorem kU(hok:HOk P w H h)(e:H a=some (.ins C dx fs)):∃mA,fR h a dx C mA/\(∀f,bH (fs.lookup f) (mA f))/\SG mA (fs.map (·.1))/\fs.length<=1000/\H dx=some (.own a):=by
 obtain ⟨d,z,ne,ob,mA,n,r,q⟩:=(show ao P w H h a (.ins C dx fs) from hok a _ e);exact ⟨mA,⟨ob,n,ne⟩,r,q,z,d⟩
end
structure Cls(K:Nu)(C:Addr):Prop where
 pg:Sg K C RM=true
 hd:Sl K C=true
 po:plainOver K C=true
 sa:O0 K (.ref C) "__setattr__"=some (some (.builtin "object.__setattr__"))
theorem Cls.get{K:Nu}(c:Cls K C)(f:Str):Sg K C f=true:=c.pg
def br(K:Nu)(C:Addr)(f:Str):Prop:=O0 K (.ref C) f=some none
theorem br.aZ{K:Nu}(n:br K C f):takerIn K C f=some none:=by
 unfold takerIn;rw [show O0 K (.ref C) f=some none from n];rfl
structure gE(K:Nu)(C:Addr)(m:Str)(f:Addr):Prop where
 at_:O0 K (.ref C) m=some (some (.ref f))
 fn:isFn K (.ref f)=true
 kp:Rk K (.ref f)=true
section
variable {X:Cx}{Go:List (Addr×Obj)}{σ:St}{H:Hp}{s:we}{a C dx:Addr}{fs:List (Str×V)}{f:Str}{v:V}{A:NP}{E:Value->we->Prop}
theorem uC(I:Inv X Go σ H s)(e:H a=some (.ins C dx fs))(c:Cls X.K C)(n:br X.K C f)(l:fs.lookup f=some v)(h:∀u s',Inv X Go σ H s'->zo v u->Q u s'):NF (NL X.prog X.w) A (getAttr (.ref a) f b) Q E s:=by
 obtain ⟨mA,O,r,_,_,_⟩:=kU I.hok e;obtain ⟨u,F,z⟩:=bH.some_of (v:=v) (o:=mA f) (by rw [<- l];exact r f);exact Fu I.S2 O (c.get f) c.hd n F (LJ z) (h u _ (I.tok _) z)
theorem kB(I:Inv X Go σ H s)(e:H a=some (.ins C dx fs))(c:Cls X.K C)(k:gE X.K C m g)(l:fs.lookup m=none)(h:Q (.ref g,[.ref a]) s):NF (NL X.prog X.w) A (QK (.ref a) m pl) Q E s:=by
 obtain ⟨mA,O,r,_,_,_⟩:=kU I.hok e;have hn:mA m=none:=bH.none_of (by rw [<- l];exact r m);exact DO I.S2 O (c.get m) k.at_ k.fn hn h
theorem sZ(I:Inv X Go σ H s)(e:H a=some (.ins C dx fs))(c:Cls X.K C)(n:br X.K C f)(hl:fs.length<1000)(G:zo y u)(h:∀s',Inv X Go σ (upd H a (.ins C dx (zR f y fs))) s'->Q () s'):NF (NL X.prog X.w) A (setAttr (.ref a) f u) Q E s:=by
 obtain ⟨mA,O,r,wi,_,ho⟩:=kU I.hok e;have J:(fs.map (·.1)).length<=sizeLine:=by rw [KE,Ox];lia
 refine MO I.S2 O c.sa c.po n.aZ c.hd wi J λh' F S=>h _ ?_;have hd:∃o,h'.get? dx=some o:=let ⟨o,_,_,e',_⟩:=F.ns;⟨o,e'⟩;refine I.write (x:=a) (e:=dx) (by rw [e];exact True.intro) (.inr ho) (λb q hb z=>(S.2 b hb).trans z) hd ?_;refine ⟨by rw [zd O.ne];exact ho,?_,O.ne,F.obj,_,F.ns,λg=>?_,λg hg=>?_⟩
 .have:=Ac f y fs;lia
 .show bH ((zR f y fs).lookup g) (if g=f then some u else mA g);rw [AY];by_cases q:g=f
  .rw [if_pos q,if_pos q];exact G
  .rw [if_neg q,if_neg q];exact r g
 .by_cases q:g=f
  .rw [q];exact (pE f y fs).1
  .refine (pE f y fs).2 g (wi g λz=>hg ?_);show (if g=f then some u else mA g)=none;rw [if_neg q];exact z
theorem Inv.made(I:Inv X Go σ H s):Inv X Go σ (upd (upd H s.heap.objs.size (.own (s.heap.objs.size+1))) (s.heap.objs.size+1) (.ins C s.heap.objs.size []))
  { s with heap:=(s.heap.push emptyDict).push (Sz C s.heap.objs.size) }:=by
 have z:(s.heap.push emptyDict).get? s.heap.objs.size=some emptyDict:=NK s.heap rfl;have G:((s.heap.push emptyDict).push (Sz C s.heap.objs.size)).get? (s.heap.objs.size+1)=some (Sz C s.heap.objs.size):=by
  have:=NK (s.heap.push emptyDict) (o:=Sz C s.heap.objs.size) rfl;rwa [Pl] at this
 have F:(s.heap.push emptyDict).Ns s.heap.objs.size (λ_=>none):=⟨emptyDict,#[],_,z,rfl,(λe he=>absurd he (by simp)),λ_=>rfl⟩;have O:=I.laid (a:=s.heap.objs.size) (o:=.own (s.heap.objs.size+1)) (h':=s.heap.push emptyDict) (t':=s.toks) (λb u q=>zv _ q) (Nq _) ⟨_,z⟩;refine O.laid (a:=s.heap.objs.size+1) (o:=.ins C s.heap.objs.size []) (t':=s.toks) (λb u q=>zv _ q) (Sk (Pl _ _)) ?_;have ne:s.heap.objs.size≠s.heap.objs.size+1:=Oh (Rn _);refine ⟨by rw [zd ne,zx],Ot _,ne,G,λ_=>none,(Heap.Ns1.of_empty F).at λo q=>zv _ q,λ_=>True.intro,λy J=>absurd rfl J⟩
theorem LY{f:Str}{s:we}(hb:OT e f env (Os e env)=Os e env)(h:NF (NL prog w) A (Os e env) (λo s₁=>NF (NL prog w) A (getAttr o f true) Q E s₁) E s):NF (NL prog w) A (Os (.Attribute e f pos) env) Q E s :=
 Attribute_any_ h (by rw [arm_eval_Attribute,hb])
end
def oB(X:Cx)(op:Operator)(z:V->V->Hp->VK->Prop):Prop :=
 ∀(Go:List (Addr×Obj))(s:we)(σ:St)(H:Hp)(x y:V)(u v:Value)(Q:VK),Inv X Go σ H s->zo x u->zo y v->z x y H Q->NF (NL X.prog X.w) X.A (inplaceOp op u v) (EP X Go σ Q) X.xe s
section
variable {X:Cx}{o e ZL:N0}{f:Str}{pos Y3 Xb:Pos}{ta tv:TE}
def mS:V->V->Hp->VK->Prop:=λx y H Q=>∃i j,x = .int i/\y = .int j/\Q (.int (i+j)) H
def pW:V->V->Hp->VK->Prop:=λx y H Q=>∃i j,x = .int i/\y = .int j/\Q (.int (i-j)) H
theorem Lv:oB X .Add mS:=by
 rintro Go s σ H x y u v Q I F z ⟨i,j,rfl,rfl,q⟩;obtain ⟨t,rfl⟩:=(show ∃t,u=PB i t from F);obtain ⟨t',rfl⟩:=(show ∃t',v=PB j t' from z);exact PyProof.Rows.iadd_int ⟨.int (i+j),H,I.tok _,⟨_,rfl⟩,q⟩
theorem Em:oB X .Sub pW:=by
 rintro Go s σ H x y u v Q I F z ⟨i,j,rfl,rfl,q⟩;obtain ⟨t,rfl⟩:=(show ∃t,u=PB i t from F);obtain ⟨t',rfl⟩:=(show ∃t',v=PB j t' from z);exact PyProof.Rows.isub_int ⟨.int (i-j),H,I.tok _,⟨_,rfl⟩,q⟩
end
section
variable {X:Cx}{Go:List (Addr×Obj)}{σ:St}{H:Hp}{s:we}{A:NP}{E:Value->we->Prop}{Q:Value->we->Prop}{c:Value}{b:Bool}
inductive cO(K:Nu)(H:Hp):V->Value->Prop where
 | non:cO K H .non (.type "NoneType")
 | bl (x:Bool):cO K H (.bl x) (.type "bool")
 | int (i:Int):cO K H (.int i) (.type "int")
 | str (x:Str):cO K H (.str x) (.type "str")
 | flt (x:UInt64):cO K H (.flt x) (.type "float")
 | lst {a:Addr}{xs:List V} (e:H a=some (.lst xs)):cO K H (.ref a) (.type "list")
 | frz {a:Addr}{o:Obj}{xs:List V} (e:H a=some (.frz o (.lst xs))):cO K H (.ref a) (.type "list")
 | tup {a:Addr}{xs:List V} (e:H a=some (.tup xs)):cO K H (.ref a) (.type "tuple")
 | dK {a:Addr}{kvs:List (Key×V)} (e:H a=some (.dK kvs)):cO K H (.ref a) (.type "dict")
 | dT {a:Addr}{kvs:List (List Key×V)} (e:H a=some (.dT kvs)):cO K H (.ref a) (.type "dict")
 | ins {a C dx:Addr}{fs:List (Str×V)} (e:H a=some (.ins C dx fs)) (cl:Cls K C) (ha:O0 K (.ref C) "__class__"=some (some (.builtin "object.__class__")))
   (hn:PySem.W.specialIn K (.builtin "object.__class__") "__get__"=some (some (.builtin "getset_descriptor.__get__"))) (htk:PySem.W.takesIn K (.builtin "object.__class__")=some true)
   (hm:Sa K C (.type "object")=some true):cO K H (.ref a) (.ref C)
theorem Ht{u t:Value}(I:Inv X Go σ H s)(F:zo x u)(ty:cO X.K H x t)(e:PySem.W.kitOne X.K t c=some b)(h:∀tk,Q (.bool b) { s with toks:=tk }):
  NF (NL X.prog X.w) A (call (.builtin "isinstance") [u,c]) Q E s:=by
 cases ty with
 | non=>cases (show u=N7 from F);exact OU PySem.W.kitx_none I.S2 True.intro e (λz=>nomatch z) h
 | bl y=>cases (show u=Pq y from F);exact OU PySem.W.kitx_bool I.S2 True.intro e (λz=>nomatch z) h
 | int i=>obtain ⟨t,q⟩:=(show ∃t,u=PB i t from F);cases q;exact OU PySem.W.kitx_int I.S2 True.intro e (λz=>nomatch z) h
 | str y=>obtain ⟨t,q⟩:=(show ∃t,u=RL y t from F);cases q;exact OU PySem.W.kitx_str I.S2 True.intro e (λz=>nomatch z) h
 | flt y=>obtain ⟨t,q⟩:=(show ∃t,u=float y t from F);cases q;exact OU PySem.W.kitx_float I.S2 True.intro e (λz=>nomatch z) h
 | @lst a xs ea =>
  cases (show u=Ny a from F);obtain ⟨_,_,n,_,h1⟩:=(show ao X.prog X.w H s.heap a (.lst xs) from I.hok a _ ea);exact OU PySem.W.kitx_list I.S2 ⟨_,h1,rfl⟩ e (λz=>nomatch z) h
 | @frz a ob xs ea =>
  cases (show u=Ny a from F);obtain ⟨_,_,_,n,_,h1⟩:=(show ao X.prog X.w H s.heap a (.frz ob (.lst xs)) from I.hok a _ ea);exact OU PySem.W.kitx_list I.S2 ⟨_,h1,rfl⟩ e (λz=>nomatch z) h
 | @tup a xs ea =>
  cases (show u=Ny a from F);obtain ⟨_,_,_,p⟩:=(show ao X.prog X.w H s.heap a (.tup xs) from I.hok a _ ea);obtain ⟨o,h1,h2,_⟩:=p;exact OU PySem.W.kitx_tuple I.S2 ⟨o,h1,h2⟩ e (λz=>nomatch z) h
 | @dK a kvs ea =>
  cases (show u=Ny a from F);obtain ⟨_,_,vs,_,p⟩:=(show ao X.prog X.w H s.heap a (.dK kvs) from I.hok a _ ea);obtain ⟨o,es,ep,h1,h2,_⟩:=p;exact OU PySem.W.kitx_dict I.S2 ⟨o,h1,h2.1⟩ e (λz=>nomatch z) h
 | @dT a kvs ea =>
  cases (show u=Ny a from F);obtain ⟨_,_,xs,_,o,es,ep,h1,h2,_⟩:=(show ao X.prog X.w H s.heap a (.dT kvs) from I.hok a _ ea);exact OU PySem.W.kitx_dict I.S2 ⟨o,h1,h2.1⟩ e (λz=>nomatch z) h
 | @ins a C dx fs ea cl ha hn G hm =>
  cases (show u=Ny a from F);obtain ⟨mA,O,_⟩:=kU I.hok ea;obtain ⟨S,J,_⟩:=O.look;exact OU (PySem.W.kitx_own (cl.get _) cl.hd ha hn G hm) I.S2 J e (λz=>nomatch z) h
end
structure zK(c:Bool)(k:Nat)(A:NP):Prop where
 hd:c=true->A.handled=none
 dp:A.depth+3*k+5<recursionLimit
 un:A.units+16*k+200<cLine
 gd:A.guards=some []
theorem zK.mono{j k:Nat}(r:zK c k A)(h:j<=k):zK c j A:=⟨r.hd,by have:=r.dp;lia,by have:=r.un;lia,r.gd⟩
theorem zK.deeper{k:Nat}(r:zK c (k+1) A)(env:Env):zK c k (A.deeper env) :=
 ⟨r.hd,by have:=r.dp;show A.depth+1+3*k+5<_;lia,by have:=r.un;show A.units+3+16*k+200<_;lia,by first|exact r.gd|simpa [NP.deeper,NP.under,Code.isGuard] using r.gd⟩
theorem Io{A:NP}:(A.under (.builtin "type.__call__" ⟨.ref C::us,kw⟩)).depth=A.depth+1:=by
 first|rfl|simp [NP.under,Code.weight,Code.isCreation,Code.isGuard,Code.isCaller,Code.frames,Code.isFrame,guardIds]
theorem KR{A:NP}:(A.under (.builtin "type.__call__" ⟨.ref C::us,kw⟩)).units=A.units+1:=by
 first|rfl|simp [NP.under,Code.cUnits,Code.frames,Code.isFrame]
theorem zK.make{k:Nat}(r:zK c (k+1) A)(C:Addr)(us:List Value)(kw:List (Str×Value)):zK c k (A.under (.builtin "type.__call__" ⟨.ref C::us,kw⟩)) :=
 ⟨r.hd,by have:=r.dp;rw [Io];lia,by have:=r.un;rw [KR];lia,by first|exact r.gd|simpa [NP.under,Code.isGuard,guardIds] using r.gd⟩
theorem zK.depth{k:Nat}(r:zK c k A):A.depth<recursionLimit:=by have:=r.dp;lia
theorem zK.units{k:Nat}(r:zK c k A):A.units+64<cLine:=by have:=r.un;lia
def cb:TA:=λ_ H Q=>Q [] H
def lH(ta:TE)(z:TA):TA:=λσ H Q=>ta σ H λx H1=>z σ H1 λxs H2=>Q (x::xs) H2
section
variable {X:Cx}{e:N0}{es:List N0}{te:TE}{t:TA}{pos:Pos}
theorem dQ:PA X [] cb:=λ_ _ _ _ H Q I h=>Calls.spliced_nil ⟨[],H,I,.nil,h⟩
theorem dX(ha:PE X e te)(hr:PA X es t)(hs:NZ (e::es) X.env=(false,Os e X.env)::NZ es X.env:=by rfl):PA X (e::es) (lH te t):=by
 intro pos Go s σ H Q I h;rw [hs];show NF _ _ (spliced ((false,Os e X.env)::Pp pos (NZ es X.env))) _ _ s;refine Calls.spliced_cons (thn (ha Go s σ H _ I h) λu s1=>x5e λx H1 S O G=>?_);exact thn (hr pos Go s1 σ H1 _ S G) λus s2=>x5e λxs H2 J F z=>⟨x::xs,H2,J,.cons O F,z⟩
def KW(t:TA):TE:=λσ H Q=>t σ H λxs H1=>xs.length<=sizeLine/\∀p,H1 p=none->Q (.ref p) (upd H1 p (.tup xs))
theorem Hx{x1}(h:PA X es t):PE X (.Tuple es x1 pos) (KW t):=by
 intro Go s σ H Q I G;refine wpAny_Tuple_spliced (thn (h pos Go s σ H _ I G) λus s1=>x5e λxs H1 F r=>x2e λz q=>⟨by rw [<- r.length];exact z,?_⟩);have hf:H1 s1.heap.objs.size=none:=F.hok.fresh (Nq _);refine ⟨.ref s1.heap.objs.size,upd H1 s1.heap.objs.size (.tup xs),F.laid (t':=s1.toks) (λb u e=>zv _ e) (Nq _) ?_,rfl,q _ hf⟩;exact ⟨z,us,r,⟨_,NK _ rfl,rfl,_,rfl⟩⟩
end
abbrev Sp:=List V->Hp->VK->XK->Prop
abbrev CXT:=List Env->Hp->we->XK->Value->we->Prop
structure gK(P:NB)(w:NQ)(K:Nu)(mg:Str->Option Value)(base:Heap)(A:NP)(outer:List Env)(s:we)(H:Hp):Prop where
 frames:A.frames=some outer
 hdk:i8 A H
 mod:Mod K mg base
 bs:∀b o,base.get? b=some o->s.heap.get? b=some o/\H b=none
 ah:base.objs.size<=s.heap.objs.size
 Tn:s.heap.FunFrames base outer
 ay:∀b∈frs outer,H b=none
 hok:HOk P w H s.heap
 bare:Qz s.gens
def CE(outer:List Env)(P:NB)(w:NQ)(H:Hp)(s:we)(Q:VK)(u:Value)(s':we):Prop :=
 ∃v H',s'.os=s.os/\Qz s'.gens/\Un (frs outer) [] H H' s.heap s'.heap/\HOk P w H' s'.heap/\zo v u/\Q v H'
def CR(CX:CXT)(outer:List Env)(P:NB)(w:NQ)(H:Hp)(s:we)(Q:VK)(E:XK)(r:Result)(s':we):Prop :=
 match r with
 | .ok (.ret u)=>CE outer P w H s Q u s'
 | .ok _=>False
 | .error e=>CX outer H s E e s'
structure zm(P:NB)(w:NQ)(K:Nu)(mg:Str->Option Value)(base:Heap)(CX:CXT)(c:Bool)(k:Nat)(f:Addr)(fd:Nz)(ps:List Str)(sp:Sp):Prop where
 len:∀vs H Q E,sp vs H Q E->vs.length=ps.length
 run:∀(A:NP)(outer:List Env)(s:we)(H:Hp)(args:Args)(us:List Value)(vs:List V)(Q:VK)(E:XK),zK c k A->gK P w K mg base A outer s H->BindsTo s fd args (ps.zip us)->zp vs us->sp vs H Q E ->
  Qx (NL P w) A (.call (.ref f) args) (CR CX outer P w H s Q E) s
theorem gK.make{K:Nu}(e:gK P w K mg base A outer s H)(C:Addr)(us:List Value)(kw:List (Str×Value)):
  gK P w K mg base (A.under (.builtin "type.__call__" ⟨.ref C::us,kw⟩)) outer s H:=⟨by first|exact e.frames|(simpa [NP.under,Code.envs,Code.isFrame,pushEnvs] using e.frames),e.hdk,e.mod,e.bs,e.ah,e.Tn,e.ay,e.hok,e.bare⟩
section
variable {X:Cx}{Go:List (Addr×Obj)}{σ:St}{H:Hp}{s s':we}
theorem Inv.aQ(I:Inv X Go σ H s):gK X.prog X.w X.K X.mg X.base X.A X.stack s H :=
 ⟨I.ok.frames,I.hdk,I.ok.mod,I.bs,N6 I.ok.ah I.sz,I.stack,I.UJ,I.hok,I.bare⟩
theorem Inv.after(I:Inv X Go σ H s)(h:CE X.stack X.prog X.w H s Q u s'):EP X Go σ Q u s':=by
 obtain ⟨v,H',os,bare,un,hok,r,q⟩:=h;obtain ⟨G,g,d,t,F⟩:=s';obtain rfl:F=s.os:=os;exact ⟨v,H',I.call (h':=G) (g':=g) (d':=d) (t':=t) (ch:=[]) un hok bare (λb z=>absurd z (by simp)),r,q⟩
end
def jV(sp:Sp)(Zq:List V)(E:XK)(t:TA):TE:=λσ H Q=>t σ H λvs H1=>sp (vs++Zq) H1 Q E
def fh(C:Addr)(m:Str)(sp:Sp)(Zq:List V)(E:XK)(ta:TE)(t:TA):TE:=λσ H Q=>ta σ H λx H1=>∃a dx fs,x = .ref a/\H1 a=some (.ins C dx fs)/\fs.lookup m=none /\
 t σ H1 λvs H2=>sp (x::(vs++Zq)) H2 Q E
def wz(C:Addr)(sp:Sp)(Zq:List V)(E:XK)(t:TA):TE:=λσ H Q=>t σ H λvs H1=>∀x dx,H1 x=none->H1 dx=none->dx≠x ->
 sp (.ref x::(vs++Zq)) (upd (upd H1 dx (.own x)) x (.ins C dx [])) (λv H2=>v = .non/\Q (.ref x) H2) E
def bw(K:Nu)(fd:Nz)(ps:List Str)(ds:List Value):Prop :=
 ∀(s:we)(us:List Value),K.In s.heap->(us++ds).length=ps.length->BindsTo s fd ⟨us,[]⟩ (ps.zip (us++ds))
theorem bw.all{K:Nu}(h:∀us:List Value,us.length=ps.length->bindArgs fd ⟨us,[]⟩=pure (ps.zip us)):bw K fd ps []:=λs us _ hl=>by
 rw [O8] at hl ⊢;exact .of_eq (h us hl)
def fc(CX:CXT)(X:Cx)(E:XK):Prop:=∀(Go:List (Addr×Obj))(σ:St)(H:Hp)(s:we)(e:Value)(s':we),Inv X Go σ H s->CX X.stack H s E e s'->X.xe e s'
section
variable {X:Cx}{CX:CXT}{cm:Bool}{k:Nat}{f C:Addr}{fd:Nz}{ps:List Str}{sp:Sp}{Zq:List V}{ds:List Value}{E:XK}{x m:Str}{p pos Z3:Pos}{e o:N0}{es:List N0}{ta:TE}{t:TA}
theorem mw(F:zm X.prog X.w X.K X.mg X.base CX cm k f fd ps sp)(hr:zK cm k X.A)(hb:bw X.K fd ps ds)(hd:zp Zq ds)(hx:fc CX X E)(I:Inv X Go σ H s)(r:zp vs us)(h:sp (vs++Zq) H Q E):NF (NL X.prog X.w) X.A (call (.ref f) us) (EP X Go σ Q) X.xe s:=by
 have G:zp (vs++Zq) (us++ds):=r.append hd;have hl:(us++ds).length=ps.length:=by rw [<- G.length];exact F.len _ _ _ _ h
 refine Su (QL (F.run X.A X.stack s H ⟨us,[]⟩ (us++ds) (vs++Zq) Q E hr I.aQ (hb s us I.S2 hl) G h) λr s' z=>?_);cases r with
 | error e=>exact hx Go σ H s e s' I z
 | ok fl =>
  cases fl with
  | ret u=>exact I.after z
  | next=>exact False.elim z
  | brk=>exact False.elim z
  | cont=>exact False.elim z
theorem Nl(F:zm X.prog X.w X.K X.mg X.base CX cm k f fd ps sp)(hr:zK cm k X.A)(hg:Gl X x)(hm:X.mg x=some (.ref f))(G:Rk X.K (.ref f)=true)(hb:bw X.K fd ps ds)(hd:zp Zq ds)(hx:fc CX X E)
  (ha:PA X (e::es) t) (O:(x==("__debug__":Str))=false:=by decide) (he:NZ (e::es) X.env=(false,Os e X.env)::NZ es X.env:=by rfl) (J:(Pp pos (NZ es X.env)).any (·.1)=false:=by rfl) :
  PE X (.Call (.Name x p) (e::es) [] pos) (jV sp Zq E t):=by
 intro Go s σ H Q I h;refine ON (gv I hg hm ?_ O);refine SF (h₀:=X.base) I.ok.mod.aF G (thn (ha pos Go s σ H _ I h) λus s1=>x5e λvs H1 z r q=>⟨z.S2,?_⟩) he J;exact mw F hr hb hd hx z r q
theorem Ee(he:PE X o ta)(c:Cls X.K C)(hm:gE X.K C m f)(F:zm X.prog X.w X.K X.mg X.base CX cm k f fd ps sp)(hr:zK cm k X.A)(hb:bw X.K fd ps ds)(hd:zp Zq ds)(hx:fc CX X E)(ha:PA X (e::es) t)(hst:NZ (e::es) X.env=(false,Os e X.env)::NZ es X.env:=by rfl)(U:(Pp pos (NZ es X.env)).any (·.1)=false:=by rfl)(W:Os (.Call (.Attribute o m Z3) (e::es) [] pos) X.env=(do
   let ov<-Os o X.env
   QH Z3.atName
   let (f,first)<-PV [ov] (QK ov m pl)
   QE pos f first (Pp pos (NZ (e::es) X.env)) (Rw pos (Qh [] X.env))):=by rfl):
  PE X (.Call (.Attribute o m Z3) (e::es) [] pos) (fh C m sp Zq E ta t):=by
 intro Go s σ H Q I h;refine R8 (pl:=pl) (thn (he Go s σ H _ I h) λu s1=>x5e λx H1 J O z=>?_) W;obtain ⟨a,dx,fs,ex,ea,l,q⟩:=z;subst ex;obtain rfl:u=Ny a:=O;refine kB J ea c hm l ?_;refine SF (first:=[.ref a]) (h₀:=X.base) I.ok.mod.aF hm.kp (thn (ha pos Go s1 σ H1 _ J q) λus s2=>x5e λvs H2 G r S=>⟨G.S2,?_⟩) hst U;exact mw (us:=.ref a::us) (vs:=.ref a::vs) F hr hb hd hx G (.cons rfl r) S
theorem DT(he:PE X o ta)(c:Cls X.K C)(hm:gE X.K C m f)(F:zm X.prog X.w X.K X.mg X.base CX cm k f fd ps sp)(hr:zK cm k X.A)(hb:bw X.K fd ps ds)(hd:zp Zq ds)(hx:fc CX X E)(J:Os (.Call (.Attribute o m Z3) [] [] pos) X.env=(do
   let ov<-Os o X.env
   QH Z3.atName
   let (f,first)<-PV [ov] (QK ov m pl)
   QE pos f first (Pp pos (NZ [] X.env)) (Rw pos (Qh [] X.env))):=by rfl):
  PE X (.Call (.Attribute o m Z3) [] [] pos) (fh C m sp Zq E ta cb):=by
 intro Go s σ H Q I h;refine R8 (pl:=pl) (thn (he Go s σ H _ I h) λu s1=>x5e λx H1 G O z=>?_) J;obtain ⟨a,dx,fs,ex,ea,l,q⟩:=z;subst ex;obtain rfl:u=Ny a:=O;refine kB G ea c hm l ?_;exact callWith_K0 (first:=[.ref a]) G.S2 hm.kp (mw (us:=[.ref a]) (vs:=[.ref a]) F hr hb hd hx G (.cons rfl .nil) q)
structure Mk(K:Nu)(C f:Addr):Prop where
 makes:makesIn K C=true
 init:O0 K (.ref C) VX=some (some (.ref f))
 fn:isFn K (.ref f)=true
 kp:Rk K (.ref C)=true
theorem va(M:Mk X.K C f)(F:zm X.prog X.w X.K X.mg X.base CX cm k f fd ps sp)(hr:zK cm (k+1) X.A)(hb:bw X.K fd ps ds)(hd:zp Zq ds)(hx:fc CX X E)(I:Inv X Go σ H s)(r:zp vs us)(h:∀x dx,H x=none->H dx=none->dx≠x->sp (.ref x::(vs++Zq)) (upd (upd H dx (.own x)) x (.ins C dx [])) (λv H2=>v = .non/\Q (.ref x) H2) E):
  NF (NL X.prog X.w) X.A (call (.ref C) us) (EP X Go σ Q) X.xe s:=by
 have O:=h (s.heap.objs.size+1) s.heap.objs.size (I.hok.fresh (Sy _)) (I.hok.fresh (Nq _)) (Oh (Rn _));have G:=Inv.made (C:=C) I;have J:zp (V.ref (s.heap.objs.size+1)::(vs++Zq)) (Ny (s.heap.objs.size+1)::(us++ds)):=.cons rfl (r.append hd);have hl:(Ny (s.heap.objs.size+1)::us++ds).length=ps.length:=by
  have e:=J.length;rw [F.len _ _ _ _ O] at e;exact e.symm
 refine Su (Jd (f:=f) I.S2 M.makes M.init (beq_iff_eq.mp M.fn) (QL (F.run _ X.stack _ _ ⟨Ny (s.heap.objs.size+1)::us,[]⟩ (Ny (s.heap.objs.size+1)::(us++ds)) _ _ E (hr.make C us [])
  (G.aQ.make C us []) (hb _ (Ny (s.heap.objs.size+1)::us) G.S2 hl) J O) λr s' z=>?_))
 cases r with
 | error e=>exact hx Go σ _ _ e s' G z
 | ok fl =>
  cases fl with
  | ret u =>
   obtain ⟨v,H',W,U,Z,S⟩:=G.after z;subst Z;exact ⟨U,⟨V.ref (s.heap.objs.size+1),H',W,rfl,S⟩⟩
  | next=>exact False.elim z
  | brk=>exact False.elim z
  | cont=>exact False.elim z
theorem HL(M:Mk X.K C f)(F:zm X.prog X.w X.K X.mg X.base CX cm k f fd ps sp)(hr:zK cm (k+1) X.A)(hg:Gl X x)(hm:X.mg x=some (.ref C))(hb:bw X.K fd ps ds)(hd:zp Zq ds)(hx:fc CX X E)
  (ha:PA X (e::es) t) (J:(x==("__debug__":Str))=false:=by decide) (he:NZ (e::es) X.env=(false,Os e X.env)::NZ es X.env:=by rfl) (G:(Pp pos (NZ es X.env)).any (·.1)=false:=by rfl) :
  PE X (.Call (.Name x p) (e::es) [] pos) (wz C sp Zq E t):=by
 intro Go s σ H Q I h;refine ON (gv I hg hm ?_ J);refine SF (h₀:=X.base) I.ok.mod.aF M.kp (thn (ha pos Go s σ H _ I h) λus s1=>x5e λvs H1 z r q=>⟨z.S2,?_⟩) he G;exact va M F hr hb hd hx z r q
theorem Eb(M:Mk X.K C f)(F:zm X.prog X.w X.K X.mg X.base CX cm k f fd ps sp)(hr:zK cm (k+1) X.A)(hg:Gl X x)(hm:X.mg x=some (.ref C))(hb:bw X.K fd ps ds)(hd:zp Zq ds)(hx:fc CX X E)
  (z:(x==("__debug__":Str))=false:=by decide):PE X (.Call (.Name x p) [] [] pos) (wz C sp Zq E cb):=by
 intro Go s σ H Q I h;refine ON (gv I hg hm ?_ z);exact callWith_K0 I.S2 M.kp (va (us:=[]) M F hr hb hd hx I .nil h)
end
structure zt(N P:List Str)(sc:Scope):Prop where
 kind:sc.kind = .function
 co:sc.isCoroutine=false
 gen:sc.isGenerator=false
 nd:N.Nodup
 pre:N.take P.length=P
 par:∀x∈P,sc.names.lookup x=some .local\/sc.names.lookup x=some .cell
 aK:∀y∈sc.names,y.2≠.free
theorem uI{kindOf:Str->Option On}:∀{binds:List (Str×Value)}{m:Str->Option Value},(∀v,(x,v)∉binds)->bindL kindOf binds m x=m x
 | [],_,_=>rfl
 | (n,v)::r,m,h=>by
  unfold bindL;rw [uI λw z=>h w (ND _ z)];split
  .have:x≠n:=by rintro rfl;exact h v NX
   simp [this]
  .rfl
theorem sG{kindOf:Str->Option On}:∀{binds:List (Str×Value)}{m:Str->Option Value},(∀v,(x,v)∉binds)->bindC kindOf binds m x=m x
 | [],_,_=>rfl
 | (n,v)::r,m,h=>by
  unfold bindC;rw [sG λw z=>h w (ND _ z)];split
  .rfl
  .have:x≠n:=by rintro rfl;exact h v NX
   simp [this]
theorem uD{kindOf:Str->Option On}:∀{P:List Str}{vs:List Value}{i:Nat}{m:Str->Option Value},P.Nodup->P[i]?=some x->vs[i]?=some v->kindOf x=some .local ->
  bindL kindOf (P.zip vs) m x=some v
 | [],_,_,_,_,h,_,_=>by simp at h
 | _::_,[],_,_,_,_,h,_=>by simp at h
 | p::P,w::vs,0,m,nd,h1,h2,z=>by
  simp at h1 h2;subst h1;subst h2;show bindL kindOf ((p,w)::P.zip vs) m p=_;unfold bindL;rw [uI λv F=>(OO.mp nd).1 (SI F).1,if_pos z];simp
 | p::P,w::vs,i+1,m,nd,h1,h2,z=>by
  show bindL kindOf ((p,w)::P.zip vs) m x=_;unfold bindL;exact uD (i:=i) (OO.mp nd).2 (by simpa using h1) (by simpa using h2) z
theorem xh{kindOf:Str->Option On}:∀{P:List Str}{vs:List Value}{i:Nat}{m:Str->Option Value},P.Nodup->P[i]?=some x->vs[i]?=some v->kindOf x≠some .local ->
  bindC kindOf (P.zip vs) m x=some v
 | [],_,_,_,_,h,_,_=>by simp at h
 | _::_,[],_,_,_,_,h,_=>by simp at h
 | p::P,w::vs,0,m,nd,h1,h2,z=>by
  simp at h1 h2;subst h1;subst h2;show bindC kindOf ((p,w)::P.zip vs) m p=_;unfold bindC;rw [sG λv F=>(OO.mp nd).1 (SI F).1,if_neg z];simp
 | p::P,w::vs,i+1,m,nd,h1,h2,z=>by
  show bindC kindOf ((p,w)::P.zip vs) m x=_;unfold bindC;exact xh (i:=i) (OO.mp nd).2 (by simpa using h1) (by simpa using h2) z
def start(N:List Str)(vs:List V):St:=vs.map some++N5 (N.length-vs.length) none
def cn(CX:CXT)(cm:Bool)(P:NB)(w:NQ)(K:Nu)(mg:Str->Option Value)(base:Heap)(N:List Str)(qual:Str)(scope:Scope)(f:Addr)(cd:Value)(A:NP)(outer:List Env)(s:we)(H:Hp)(E:XK):Cx where
 prog:=P
 w:=w
 K:=K
 mg:=mg
 base:=base
 A:=A.deeper (PY qual scope s.heap.objs.size f cd)
 N:=N
 s₀:=s
 H₀:=H
 env:=PY qual scope s.heap.objs.size f cd
 outer:=outer
 stack:=PY qual scope s.heap.objs.size f cd::outer
 ex:=[]
 calm:=cm
 fn:=λ_=>true
 pn:=[]
 xe:=λe s'=>NF (NL P w) (A.deeper (PY qual scope s.heap.objs.size f cd)) (leaving (PY qual scope s.heap.objs.size f cd) e) (λ_ z=>CX outer H s E e z) (λF z=>CX outer H s E F z) s'
theorem wL{sc:Scope}(h:sc.names.lookup x=some .cell):∃c,(Pg n sc.names []).lookup x=some c:=by
 have q:=PySem.W.cellsFrom_some sc.names n [] (.inl h);exact R4.mp q
theorem Nh{K:Nu}(S:zt N ps scope)(hd:cm=true->A.handled=none)(F:gK P w K mg base A outer s H)(hl:vs.length=ps.length)(r:zp vs us)(x:InCallC s s.heap.objs.size (bindL (PY qual scope s.heap.objs.size f cd).kindOf (ps.zip us) λ_=>none) (Pg (s.heap.objs.size+1) scope.names []) (bindC (PY qual scope s.heap.objs.size f cd).kindOf (ps.zip us) λ_=>none) s1):
  Inv (cn CX cm P w K mg base N qual scope f cd A outer s H E) [] (start N vs) H s1:=by
 have Yr:ps.length<=N.length:=by have:=congrArg length S.pre;rw [Pb] at this;lia
 obtain ⟨h1,tk,rfl,W⟩:=x.done;have G:∀b:Addr,b∉(cn CX cm P w K mg base N qual scope f cd A outer s H E).ex:=λb z=>absurd (show b∈([]:List Addr) from z) (by simp);refine ⟨⟨F.mod,S.kind,rfl,rfl,Nq _,λy z c h1 h2=>?_,λy J=>?_,λy c _ h=>?_,hd,NP.frames_deeper F.frames,.inr ⟨rfl,rfl⟩,λb z=>absurd z (G b),F.bs,F.ah,λb _ _=>G b,λb z=>absurd z (G b),F.Tn,F.ay⟩,
  rfl,F.bare,Un.kept W,⟨_,x.toInCall.ns,λi y v h1 h2 h3=>?_⟩,λy c h=>⟨_,x.cell y c h⟩,F.hok.fresh (Nq _),λy c h=>?_,λp O=>absurd (show p∈([]:List (Addr×Obj)) from O) (by simp),F.hok.kept W,?_,F.hdk⟩
 .exact name_of_addr x.apart (OL h1) (OL h2)
 .have J:scope.names.lookup y=some .cell\/scope.names.lookup y=some .free:=J;rcases J with J|J
  .exact wL J
  .exact absurd rfl (S.aK _ (OL J))
 .exact Pj (x.above y c (OL h))
 .have hi:i<vs.length:=by
   unfold start at h2;by_cases hi:i<vs.length
   .exact hi
   .rw [Pa (by simpa using hi)] at h2;rw [P9] at h2;split at h2<;>cases h2
  have ha:vs[i]?=some v:=by
   unfold start at h2;rw [Pu (by simpa using hi),NJ] at h2;cases e:vs[i]? with
   | none=>rw [e] at h2;cases h2
   | some a=>rw [e] at h2;cases h2;rfl
  obtain ⟨u,Z,rv⟩:=r.get ha;have O:ps[i]?=some y:=by
   rw [<- S.pre,List.getElem?_take_of_lt (by lia)];exact h1
  have U:ps.Nodup:=by rw [<- S.pre];exact S.nd.sublist (List.take_sublist _ _)
  refine ⟨u,rv,?_⟩;rcases S.par y (NM O) with k|k
  .exact .inl ⟨k,uD U O Z k⟩
  .obtain ⟨c,e⟩:=wL (n:=s.heap.objs.size+1) k;refine .inr ⟨.inl k,c,e,?_⟩;have q:=x.cell y c e;rw [xh U O Z (by show scope.names.lookup y≠_;rw [k];decide)] at q;exact q
 .exact F.hok.fresh (Pj (x.above y c (OL h)))
 .unfold start;show _=N.length;rw [NY,KE,OK];lia
theorem nV{K:Nu}{k:Nat}{dV kV Ye pm F ct oc:Value}(lk:K.lookup f=some ⟨oc,od,.func (fnOf name qual ZR Zv scope dV kV Ye pm an F ct),U⟩)(Yb:codeIn K F qual=true)(S:zt N ps scope)(len:∀vs H Q E,sp vs H Q E->vs.length=ps.length)(Yq:∀(A:NP)(outer:List Env)(s:we)(H:Hp)(vs:List V)(Q:VK)(E:XK),zK cm k (A.deeper (PY qual scope s.heap.objs.size f F))->sp vs H Q E ->
   ∃t,PSs (cn CX cm P w K mg base N qual scope f F A outer s H E) Zv t/\t { nx:=λ_ H'=>Q .non H',rt:=Q } (start N vs) H):
  zm P w K mg base CX cm (k+1) f (fnOf name qual ZR Zv scope dV kV Ye pm an F ct) ps sp:=by
 refine ⟨len,λA outer s H args us vs Q E hr G hb r Xf=>?_⟩;have hl:=len _ _ _ _ Xf;have KX:K.In s.heap:=G.mod.aF.keeps λb o e=>(G.bs b o e).1;have ab:s.heap.NoLimit:=G.mod.nolimit.keeps λb o e=>(G.bs b o e).1;have X7:∀y∈ps.zip us,scope.names.lookup y.1=some .local\/(scope.names.lookup y.1=some .cell/\((Pg (s.heap.objs.size+1) scope.names []).lookup y.1).isSome=true):=λ⟨n,v⟩ hy=>by
  rcases S.par n (SI hy).1 with q|q
  .exact .inl q
  .exact .inr ⟨q,PySem.W.cellsFrom_some _ _ _ (.inl q)⟩
 refine codeAny_call_function hr.depth (KX _ _ lk) rfl S.co S.gen rfl (PySem.W.codeRec_of KX Yb) (hb _ _ _ _ ?_);refine wpAny_newFunctionEnv_cells S.kind X7 λenv he s1 x=>?_;subst he;refine ⟨ab.keeps x.toInCall.keep,codeAny_func ?_⟩;obtain ⟨t,ht,hq⟩:=Yq A outer s H vs Q E (hr.deeper _) Xf;have I:Inv (cn CX cm P w K mg base N qual scope f F A outer s H E) [] (start N vs) H s1:=Nh S hr.hd G hl r x;refine OG (ht [] s1 (start N vs) H _ I hq) (λfl s' hs=>?_) λe s' hs=>hs;have O:∀{z:St}{H':Hp}{v:V}{u:Value},Inv (cn CX cm P w K mg base N qual scope f F A outer s H E) [] z H' s'->zo v u->Q v H'->CE outer P w H s Q u s' :=
  λ{z H' v u} J Z q=>⟨v,H',J.os,J.bare,J.base,J.hok,Z,q⟩
 cases fl with
 | ret u =>
  obtain ⟨v,z,H',J,Z,q⟩:=hs;exact O J Z q
 | next =>
  obtain ⟨z,H',J,q⟩:=hs;exact O (v:=V.non) (u:=N7) J rfl q
 | brk =>
  obtain ⟨_,_,_,q⟩:=hs;exact False.elim q
 | cont =>
  obtain ⟨_,_,_,q⟩:=hs;exact False.elim q
section
variable {X:Cx}{x:Str}{p pos:Pos}{e:N0}{es:List N0}{t:TA}{id T:String}{r:List V->Hp->VK->Prop}
def tCB(r:List V->Hp->VK->Prop)(t:TA):TE:=λσ H Q=>t σ H λvs H1=>r vs H1 Q
theorem vY(hc:zM X (.builtin id) r)(hg:Gl X x)(hm:X.mg x=none)(G:Qo x=some (.builtin id))(ha:PA X (e::es) t)(hn:x≠"__name__":=by decide)(F:(x==("__debug__":Str))=false:=by decide)
  (he:NZ (e::es) X.env=(false,Os e X.env)::NZ es X.env:=by rfl) (z:(Pp pos (NZ es X.env)).any (·.1)=false:=by rfl):PE X (.Call (.Name x p) (e::es) [] pos) (tCB r t):=by
 intro Go s σ H Q I h;refine ON (dN I hg hm G ?_ hn F);exact PyProof.Rows.callWith_builtin1 (thn (ha pos Go s σ H _ I h) λus s1=>x5e λvs H1 S O J=>hc Go s1 σ H1 vs us Q S O J) he z
theorem GW(hc:zM X (.type T) r)(hg:Gl X x)(hm:X.mg x=none)(G:Qo x=some (.type T))(ha:PA X (e::es) t)(hn:x≠"__name__":=by decide)(F:(x==("__debug__":Str))=false:=by decide)
  (he:NZ (e::es) X.env=(false,Os e X.env)::NZ es X.env:=by rfl) (z:(Pp pos (NZ es X.env)).any (·.1)=false:=by rfl):PE X (.Call (.Name x p) (e::es) [] pos) (tCB r t):=by
 intro Go s σ H Q I h;refine ON (dN I hg hm G ?_ hn F);exact O1 (thn (ha pos Go s σ H _ I h) λus s1=>x5e λvs H1 S O J=>hc Go s1 σ H1 vs us Q S O J) he z
end
end L2
namespace HT
open PySem PyProof.Rows
def lexLt:List Int->List Int->Bool
 | [],[]=>false
 | [],_::_=>true
 | _::_,[]=>false
 | x::xs,y::ys=>if x=y then lexLt xs ys else decide (x<y)
theorem JB(x y:Int)(xs ys:List Int):lexLt (x::xs) (y::ys)=if x=y then lexLt xs ys else decide (x<y):=rfl
theorem LP:lexLt [] []=false:=rfl
theorem Kv(y:Int)(ys:List Int):lexLt [] (y::ys)=true:=rfl
theorem Ky(x:Int)(xs:List Int):lexLt (x::xs) []=false:=rfl
theorem Dz(A:NP)(s:we)(a:Int)(t:Tok)(c:Int)(u:Tok):∃e,SeqAt.EqAt A s (.int a t) (.int c u) e/\(e=true↔a=c) :=
 ⟨(a==c),SeqAt.EqAt.int_int a t c u,by simp⟩
theorem JM(A:NP)(s:we)(a:Int)(t:Tok)(c:Int)(u:Tok)(prog:NB)(w:NQ)(E:Value->we->Prop)(Q:Value->we->Prop)(h:Q (.bool (decide (a<c))) s) :
  NF (NL prog w) A (Rt .Lt (.int a t) (.int c u)) Q E s :=
 (SQ h:NF (NL prog w) A (Of .Lt (.int a t) (.int c u)) Q E s)
section
open PySem.SeqAt
open PySem.AutoSeq1 (wpAny_loadPart')
open PySem.MeetsSeq PySem.MeetsSeq2 PySem.MeetsSeq3
theorem GV(l b:Addr)(items U:Array Value)(n n2:Nat)(dd XI:Option Addr)(sl ag:Array (Option Value))(ns ms:List Int)(hi:Qq items.toList ns)(hj:Qq U.toList ms) :
  Meets (NN.«tuple.__lt__» ⟨[.ref l,.ref b],[]⟩)
   (λ_ R s=>s.heap.get? l=some { cls:=.type "tuple",dict:=dd,data:=.seq items n,slots:=sl }/\s.heap.get? b=some { cls:=.type "tuple",dict:=XI,data:=.seq U n2,slots:=ag } /\
    R (.ok (.ret (.bool (lexLt ns ms)))) s) :=
 .of_wp λprog w A R s h=>by
  obtain ⟨hp,g,d,tk,os⟩:=s;obtain ⟨hl,hb,h⟩:=h;have f2:=AutoSeq1.sub_tuple_tuple;have z1:items.size=ns.length:=by rw [<- hi.length];simp
  have z2:U.size=ms.length:=by rw [<- hj.length];simp
  wp_walk using RD hl,RD hb,wpAny_forIn_list _ (λZo b s'=>b.1=none/\s'=⟨hp,g,d,tk,os⟩/\∃(vs ws:List Value)(ns' z:List Int),Zo=vs.zip ws /\
   Qq vs ns'/\Qq ws z/\ns'.length+U.size=z.length+items.size/\R (.ok (.ret (.bool (lexLt ns' z)))) ⟨hp,g,d,tk,os⟩) _
  case turn =>
   rintro ⟨y,x⟩ Zo b s' ⟨Xa,rfl,vs,ws,ns',z,G,S,F,Z,J⟩;cases S with
   | nil=>rw [List.zip_nil_left] at G;cases G
   | cons a t ab =>
    cases F with
    | nil=>rw [List.zip_nil_right] at G;cases G
    | cons c u W =>
     rw [Qv] at G;injection G with hyx hrest
     injection hyx with hy hx
     subst hy hx;rw [JB] at J;simp only [Oy] at Z;obtain ⟨e,he,O⟩:=Dz A.in1 ⟨hp,g,d,tk,os⟩ a t c u;refine fv (he prog w _ _ ?_);cases e with
     | true =>
      rw [if_pos (O.mp rfl)] at J
      wp_walk
      exact ⟨rfl,rfl,_,_,_,_,hrest,ab,W,by lia,J⟩
     | false =>
      rw [if_neg (λq=>absurd (O.mpr q) Nx)] at J;have ai:=JM A.in1 ⟨hp,g,d,tk,os⟩ a t c u prog w
      wp_walk using ai
      exact ⟨_,rfl,by simpa using J⟩
  case fin =>
   rintro ⟨b1,b2⟩ s' ⟨Xa,rfl,vs,ws,ns',z,G,S,F,Z,J⟩;simp only at Xa;subst Xa;have hv:lexLt ns' z=decide (items.size<U.size):=by
    cases S with
    | nil =>
     cases F with
     | nil =>
      simp only [PU] at Z;rw [LP];exact (decide_eq_false (by lia)).symm
     | cons c u hw =>
      simp only [PU,Oy] at Z;rw [Kv];exact (decide_eq_true (by lia)).symm
    | cons a t hv =>
     cases F with
     | nil =>
      simp only [PU,Oy] at Z;rw [Ky];exact (decide_eq_false (by lia)).symm
     | cons c u hw =>
      rw [Qv] at G;cases G
   rw [hv] at J
   wp_walk
   exact ⟨_,rfl,by simpa [NN.Tuple.tupleCompareSizes] using J⟩
  case h =>
   exact ⟨rfl,rfl,items.toList,U.toList,ns,ms,rfl,hi,hj,by lia,h⟩
end
section
variable {prog:NB}{w:NQ}{A:NP}{E:Value->we->Prop}{s:we}
theorem lt_tupInts(hl:Rg s.heap l items)(hb:Rg s.heap b U)(hi:Qq items.toList ns)(hj:Qq U.toList O)(hu:A.units<cLine)(h:Q (.bool (lexLt ns O)) s):NF (NL prog w) A (Of .Lt (.ref l) (.ref b)) Q E s:=by
 obtain ⟨⟨cls,dd,data,sl⟩,ho,hc,n,hd⟩:=id hl;obtain ⟨⟨W,Z,data2,S⟩,z,G,n2,J⟩:=id hb;simp only at hc hd G J;subst hc hd G J;exact richCompare_meets_room (op:=.Lt) ⟨_,ho,rfl⟩ ⟨_,z,rfl⟩ PySem.F.slot_tuple_lt PySem.F.entry_tuple_lt (PySem.F.args_tuple_lt_2 _ _) (GV l b items U n n2 dd Z sl S ns O hi hj)
  ⟨ho,z,show Pq (lexLt ns O)≠Value.notImplemented/\Q (.bool (lexLt ns O)) s from ⟨(λx=>nomatch x),h⟩⟩ hu
theorem cat_tup{t b:Addr}(ht:Rg s.heap t vs.toArray)(hb:Rg s.heap b ws.toArray)(W:vs≠[])(h1:ws=[]->Q (.ref t) s)(h2:ws≠[]->Q (.ref s.heap.objs.size) { s with heap:=s.heap.push { cls:=.type "tuple",data:=.seq (vs++ws).toArray } })(hsz:vs.length+ws.length<=sizeLine):NF (NL prog w) A (Pd .Add (.ref t) (.ref b)) Q E s:=by
 obtain ⟨⟨cls,dd,data,sl⟩,ho,hc,n,hd⟩:=id ht;obtain ⟨⟨Z,S,data2,F⟩,z,G,U,J⟩:=id hb;simp only at hc hd G J;subst hc hd G J;have e:vs.toArray++ws.toArray=(vs++ws).toArray:=by simp
 by_cases O:ws=[]
 .exact concat_meets ⟨_,ho,rfl⟩ ⟨_,z,rfl⟩ noFill_tuple_add seq_tuple_add slot_tuple_add entry_tuple_add (args_tuple_add_2 _ _)
   (tuple_addW1 t b vs.toArray ws.toArray n U dd S sl F (by simpa using W) (by simp [O])) ⟨ho,z,h1 O⟩
 .refine concat_meets ⟨_,ho,rfl⟩ ⟨_,z,rfl⟩ noFill_tuple_add seq_tuple_add slot_tuple_add entry_tuple_add (args_tuple_add_2 _ _)
   (tuple_addW2 t b vs.toArray ws.toArray n U dd S sl F (by simpa using W) (by simpa using O) (by rw [NI,NI];exact hsz)) ⟨ho,z,?_⟩
  rw [e];exact h2 O
def sIx(n d:Nat):Option Int->Nat
 | none=>d
 | some v=>if v<0 then (v+(n:Int)).toNat else min v.toNat n
theorem sIx_none(n d:Nat):sIx n d none=d:=rfl
theorem sIx_nat(n d k:Nat):sIx n d (some (k:Int))=min k n:=by
 show (if (k:Int)<0 then ((k:Int)+(n:Int)).toNat else min (k:Int).toNat n)=min k n;rw [if_neg (by lia),Ph]
theorem DL(n d:Nat)(hd:d<=n)(o:Option Int):sIx n d o<=n:=by
 cases o with
 | none=>exact hd
 | some v =>
  show (if v<0 then (v+(n:Int)).toNat else min v.toNat n)<=n;by_cases z:v<0
  .rw [if_pos z];lia
  .rw [if_neg z];exact Nat.min_le_right _ _
theorem xZ(v:Int)(n d:Nat):(if v<0 then max (v+(n:Int)) 0 else min v (n:Int))=((sIx n d (some v):Nat):Int):=by
 show (if v<0 then max (v+(n:Int)) 0 else min v (n:Int))=(((if v<0 then (v+(n:Int)).toNat else min v.toNat n):Nat):Int);by_cases z:v<0
 .simp only [if_pos z];lia
 .simp only [if_neg z];lia
theorem HP(lo hi:Option Int)(n:Nat):NN.Slice.sliceAdjust lo hi 1 (n:Int)=(((sIx n 0 lo:Nat):Int),((sIx n n hi:Nat):Int)):=by
 have h1 : ¬ ((1:Int)<0):=by lia
 unfold NN.Slice.sliceAdjust;simp only [h1,if_false];refine Prod.ext ?_ ?_
 .cases lo with
  | none=>rfl
  | some v=>exact xZ v n 0
 .cases hi with
  | none=>rfl
  | some v=>exact xZ v n n
theorem G4(i j:Nat):NN.Slice.slicePlaces (i:Int) (j:Int) 1=j-i:=by
 unfold NN.Slice.slicePlaces;have h1:(1:Int)>0:=by lia
 simp only [h1,if_true,Int.ediv_one];split<;>lia
theorem yw{o:Option Int}(p:RY v o)(h:Q o s):NF (NL prog w) A (NN.Slice.slicePartIndex v) Q E s:=by
 cases p with
 | none=>exact slicePart_none h
 | int i t=>exact slicePart_int h
theorem yl{sl:Addr}{G J:Value}{lo hi:Option Int}{n:Nat}{Q:Int×Int×Nat->we->Prop}(hs:s.heap.IsSliceOf sl G J .none)(pl:RY G lo)(O:RY J hi)
  (h:Q (((sIx n 0 lo:Nat):Int),1,sIx n n hi-sIx n 0 lo) s):NF (NL prog w) A (NN.Slice.sliceApplied (.ref sl) (pure (n:Int))) Q E s:=by
 obtain ⟨os,z,S,F⟩:=id hs;unfold NN.Slice.sliceApplied NN.Slice.sliceFields;refine fv (fv (N4 z F (x:=G) rfl (fv (N4 z F (x:=J) rfl (fv (N4 z F (x:=.none) rfl (Nv ?_)))))));refine fv (slicePart_none ?_);show NF _ _ (if ((1:Int)==0)=true then _ else _) _ _ s;rw [if_neg (by decide)];refine fv (yw pl (fv (yw O (fv (Nv ?_)))));show NF _ _ (match NN.Slice.sliceAdjust lo hi 1 (n:Int) with|(lo,hi)=>pure (lo,(1:Int),NN.Slice.slicePlaces lo hi 1)) _ _ s;rw [HP lo hi n];show NF _ _ (pure (((sIx n 0 lo:Nat):Int),(1:Int),NN.Slice.slicePlaces ((sIx n 0 lo:Nat):Int) ((sIx n n hi:Nat):Int) 1)) _ _ s;rw [G4];exact Nv h
theorem E4(xs:Array Value)(i k:Nat):((RG k).filterMap λ(m:Nat)=>xs[((i:Int)+(m:Int)*1).toNat]?).toArray=((xs.toList.drop i).take k).toArray:=by
 have e:(λ(m:Nat)=>xs[((i:Int)+(m:Int)*1).toNat]?)=λm=>xs[i+m]?:=by
  funext m;have:((i:Int)+(m:Int)*1).toNat=i+m:=by lia
  rw [this]
 rw [e];have:=pick_run xs i k;rw [List.filterMap_map] at this;have z:((λx=>xs[x]?)∘λx=>i+x)=λm=>xs[i+m]?:=rfl;rw [z] at this;rw [this]
theorem getItem_tuple_cut{t sl:Addr}{W:Value}{lo hi:Option Int}(z:Rg s.heap t items)(hs:s.heap.IsSliceOf sl U W .none)(pl:RY U lo)(Z:RY W hi)(hw : ¬ (sIx items.size 0 lo=0/\sIx items.size items.size hi=items.size))(h:Q (.ref s.heap.objs.size) { s with heap:=s.heap.push { cls:=.type "tuple",data:=.seq ((items.toList.drop (sIx items.size 0 lo)).take (sIx items.size items.size hi-sIx items.size 0 lo)).toArray } })(hsz:items.size<=sizeLine):NF (NL prog w) A (SA (.ref t) (.ref sl)) Q E s:=by
 have F:sizeOk (.seq ((items.toList.drop (sIx items.size 0 lo)).take (sIx items.size items.size hi-sIx items.size 0 lo)).toArray):=by
  show ((items.toList.drop (sIx items.size 0 lo)).take (sIx items.size items.size hi-sIx items.size 0 lo)).toArray.size<=sizeLine;rw [NI,Pb,Ru,PR];lia
 have hj:sIx items.size items.size hi<=items.size:=DL _ _ (Nq _) hi;obtain ⟨os,J,O,ab⟩:=id hs;have G:s.TypeIs (.ref sl) "slice":=⟨os,J,O⟩;unfold SA
 try with_reducible refine N9 ?_
 first|refine fv (Nv ?_)|skip
 refine fv (wpAny_sequenceKey z.typeIs (by decide) ?_);refine fv (Oo (name:=yv "__getitem__") z.typeIs Ow
  (OB Ow z.typeIs entry_tuple_getitem ?_ (args_tuple_getitem _ _)))
 show NF _ _ (NN.Tuple.tupleItemsOf (.ref t)>>=_) _ _ s;refine fv (tupleItemsOf_ z ?_);refine fv (Ss G ?_);rw [if_pos (by decide)];refine fv (yl hs pl Z ?_);have S : ¬ ((((sIx items.size 0 lo:Nat):Int)==0&&(1:Int)==1&&(sIx items.size items.size hi-sIx items.size 0 lo)==items.size)=true):=by
  intro q;rw [Oc,Oc] at q;have q1:((sIx items.size 0 lo:Nat):Int)=0:=eq_of_beq q.1.1;have q2:sIx items.size items.size hi-sIx items.size 0 lo=items.size:=eq_of_beq q.2;exact hw ⟨by lia,by lia⟩
 show NF _ _ (if (((sIx items.size 0 lo:Nat):Int)==0&&(1:Int)==1&&(sIx items.size items.size hi-sIx items.size 0 lo)==items.size)=true then _ else _) _ _ s;rw [if_neg S,E4]
 first
  | exact fv (m:=NN.Tuple.tupleExact _) (Ou (Nv ⟨_,rfl,Nv h⟩) F)
  | exact fv (m:=NN.Tuple.tupleExact _) (Ou (fv (Nv (Nv ⟨_,rfl,Nv h⟩))) F)
  | exact fv (fv (m:=NN.Tuple.tupleExact _) (Ou (Nv (Nv ⟨_,rfl,Nv h⟩)) F))
  | exact fv (fv (m:=NN.Tuple.tupleExact _) (Ou (Nv ⟨_,rfl,Nv h⟩) F))
end
end HT
namespace L2
open PySem PySem.Spec PyProof.Rows
abbrev TO:=St->Hp->(Option Int->Hp->Prop)->Prop
def PO(X:Cx)(e:Option N0)(t:TO):Prop :=
 ∀(Go:List (Addr×Obj))(s:we)(σ:St)(H:Hp)(Q:Option Int->Hp->Prop),Inv X Go σ H s->t σ H Q ->
  NF (NL X.prog X.w) X.A (evalPart e X.env) (λu s'=>∃o H',Inv X Go σ H' s'/\RY u o/\Q o H') X.xe s
def vp:TO:=λ_ H Q=>Q none H
def wj(t:TE):TO:=λσ H Q=>t σ H λx H1=>∃i,x = .int i/\Q (some i) H1
theorem KL:∀{us:List Value},zp (ns.map V.int) us->Qq us ns:=by
 induction ns with
 | nil=>intro us r;rw [map_nil] at r;cases r;exact .nil
 | cons n ns F =>
  intro us r;rw [Om] at r;cases r with
  | cons G z =>
   obtain ⟨t,e⟩:=G;subst e;exact .cons n t (F z)
section
variable {X:Cx}{e:N0}{te:TE}{lo hi:Option N0}{tl th:TO}{pos p2:Pos}
theorem eL:W (PO X none vp):=by
 refine ⟨?_⟩;intro Go s σ H Q I h;rw [evalPart_none];exact Nv ⟨none,H,I,.none,h⟩
theorem eR(h:W (PE X e te)):W (PO X (some e) (wj te)):=by
 refine ⟨?_⟩;have h:=h.h;intro Go s σ H Q I F;rw [evalPart_some];refine thn (h Go s σ H _ I F) λu s1=>x5e λx H1 z J G=>?_;obtain ⟨i,rfl,q⟩:=G;obtain ⟨t,rfl⟩:=J;exact ⟨some i,H1,z,.int i t,q⟩
def SlR(X:Cx)(r:V->Option Int->Option Int->Hp->VK->Prop):Prop :=
 ∀(Go:List (Addr×Obj))(s:we)(σ:St)(H:Hp)(x:V)(v F z:Value)(lo hi:Option Int)(sl:Addr)(Q:VK),Inv X Go σ H s->zo x v->s.heap.IsSliceOf sl F z .none->RY F lo->RY z hi->r x lo hi H Q ->
  ∃T id,typeLookup (.type T) "__getitem__"=pure (some (.builtin id))/\s.TypeIs v T/\NF (NL X.prog X.w) X.A (SA v (.ref sl)) (EP X Go σ Q) X.xe s
theorem SlR.or{r r':V->Option Int->Option Int->Hp->VK->Prop}(h:SlR X r)(h':SlR X r'):SlR X (λx lo hi H Q=>r x lo hi H Q\/r' x lo hi H Q):=by
 intro Go s σ H x v J z lo hi sl Q I G hs pl F q;rcases q with q|q
 .exact h Go s σ H x v J z lo hi sl Q I G hs pl F q
 .exact h' Go s σ H x v J z lo hi sl Q I G hs pl F q
def tSl(r:V->Option Int->Option Int->Hp->VK->Prop)(te:TE)(tl th:TO):TE:=λσ H Q=>te σ H λx H1=>tl σ H1 λl H2=>th σ H2 λu H3=>r x l u H3 Q
theorem eW{r:V->Option Int->Option Int->Hp->VK->Prop}(hr:SlR X r)(he:W (PE X e te))(hl:W (PO X lo tl))(J:W (PO X hi th)):W (PE X (.Subscript e (.Slice lo hi none p2) pos) (tSl r te tl th)):=by
 refine ⟨?_⟩;have he:=he.h;have hl:=hl.h;have J:=J.h;intro Go s σ H Q I h;refine Subscript_ (thn (he Go s σ H _ I h) λv s1=>x5e λx H1 I1 Z q1=>?_);refine wpAny_Slice (thn (hl Go s1 σ H1 _ I1 q1) λF s2=>x5e λl H2 I2 pl U=>thn (J Go s2 σ H2 _ I2 U) λG z=>x5e λu H3 I3 S O=>?_);rw [evalPart_none];refine Nv ?_;have I4:Inv X Go σ H3 { z with heap:=z.heap.push { cls:=.type "slice",data:=.fields #[F,G,.none] } }:=I3.kept (t':=z.toks) λb ob q=>zv _ q;obtain ⟨T,id,hT,ht,hg⟩:=hr Go { z with heap:=z.heap.push { cls:=.type "slice",data:=.fields #[F,G,.none] } } σ H3 x v F G l u z.heap.objs.size Q I4 Z (Heap.IsSliceOf.new ..) pl S O;show NF (NL X.prog X.w) X.A (subscriptTail e (.Slice lo hi none p2) v (.ref z.heap.objs.size)) (EP X Go σ Q) X.xe { z with heap:=z.heap.push { cls:=.type "slice",data:=.fields #[F,G,.none] } };exact tail_any (ops:=[.ref z.heap.objs.size,v]) ht hT hg (by with_unfolding_all rfl)
def aX(xs:List V)(lo hi:Option Int):List V:=(xs.drop (HT.sIx xs.length 0 lo)).take (HT.sIx xs.length xs.length hi-HT.sIx xs.length 0 lo)
theorem yf(xs:List V)(lo hi:Option Int):(aX xs lo hi).length<=xs.length:=by
 unfold aX;rw [Pb,Ru];lia
def Ek(K:Nu):V->Option Int->Option Int->Hp->VK->Prop:=λx lo hi H Q=>∃a xs,x = .ref a/\SqT K H a xs /\
 ¬ (HT.sIx xs.length 0 lo=0/\HT.sIx xs.length xs.length hi=xs.length)/\∀p,H p=none->Q (.ref p) (upd H p (.tup (aX xs lo hi)))
theorem Jz:SlR X (Ek X.K):=by
 intro Go s σ H x v U W lo hi sl Q I S hs pl J h;obtain ⟨a,xs,rfl,hx,O,q⟩:=h;cases S;obtain ⟨its,r,F,G⟩:=I.tuple hx;have z:its.toArray.size=xs.length:=by rw [NI];exact r.length.symm
 refine ⟨"tuple",_,Ow.lookup,F.typeIs,?_⟩;refine HT.getItem_tuple_cut F hs pl J (by rw [z];exact O) ?_ (by rw [z];exact G);rw [z];refine ⟨.ref s.heap.objs.size,_,I.laid (t':=s.toks) (o:=.tup (aX xs lo hi)) (λb ob q=>zv _ q) (Nq _) ?_,rfl,q _ (I.hok.fresh (Nq _))⟩;exact ⟨N6 (yf xs lo hi) G,_,(r.drop (HT.sIx xs.length 0 lo)).take (HT.sIx xs.length xs.length hi-HT.sIx xs.length 0 lo),Rg.new _ _⟩
def BH(K:Nu):R2:=λx y H Q=>∃a b xs ys,x = .ref a/\y = .ref b/\SqT K H a xs/\SqT K H b ys/\xs≠[]/\xs.length+ys.length<=sizeLine /\
 (ys=[]->Q (.ref a) H)/\(ys≠[]->∀p,H p=none->Q (.ref p) (upd H p (.tup (xs++ys))))
theorem zp.Tt(r:zp xs us):us=[]↔xs=[]:=by
 cases r with
 | nil=>simp
 | cons _ _=>simp
theorem G8:OpR X (Pd .Add) (BH X.K):=by
 intro Go s σ H x y v u Q I O U h;obtain ⟨a,b,xs,ys,rfl,rfl,ha,hb,hx,J,W,S⟩:=h;cases O;cases U;obtain ⟨its,G,Z,_⟩:=I.tuple ha;obtain ⟨Ya,F,p2,_⟩:=I.tuple hb;refine HT.cat_tup Z p2 (λz=>hx (G.Tt.mp z)) (λz=>⟨.ref a,H,I,rfl,W (F.Tt.mp z)⟩) (λz=>?_) (by rw [<- G.length,<- F.length];exact J);refine ⟨.ref s.heap.objs.size,_,I.laid (t':=s.toks) (o:=.tup (xs++ys)) (λb ob q=>zv _ q) (Nq _) ?_,rfl,S (λw=>z (F.Tt.mpr w)) _ (I.hok.fresh (Nq _))⟩;exact ⟨by rw [NY];exact J,_,G.append F,Rg.new _ _⟩
end
def ixN(n:Nat)(i:Int):Option Nat:=if 0<=i then (if i<n then some i.toNat else none) else if -(n:Int)<=i then some (i+n).toNat else none
def atI{α:Type}(xs:List α)(i:Int):Option α:=(ixN xs.length i).bind λj=>xs[j]?
theorem y9(h:ixN n i=some j):Sf i n=some j/\j<n/\-(n:Int)<=i/\i<n:=by
 unfold ixN at h;by_cases z:0<=i
 .rw [if_pos z] at h;by_cases h1:i<n
  .rw [if_pos h1] at h;have e:i.toNat=j:=Ob.inj h;exact ⟨by rw [seqIndex_of z h1,e],by lia,by lia,h1⟩
  .rw [if_neg h1] at h;cases h
 .rw [if_neg z] at h;by_cases h1 : -(n:Int)<=i
  .rw [if_pos h1] at h;have e:(i+n).toNat=j:=Ob.inj h;exact ⟨by rw [seqIndex_neg (by lia) h1,e],by lia,h1,by lia⟩
  .rw [if_neg h1] at h;cases h
theorem oX{α:Type}{xs:List α}{v:α}(h:atI xs i=some v):∃j,Sf i xs.length=some j/\xs[j]?=some v/\j<xs.length/\-(xs.length:Int)<=i/\i<xs.length:=by
 unfold atI at h;cases e:ixN xs.length i with
 | none=>rw [e] at h;cases h
 | some j =>
  rw [e] at h;obtain ⟨h1,h2,h3,h4⟩:=y9 e;exact ⟨j,h1,h,h2,h3,h4⟩
theorem cu{α:Type}{xs:List α}{j:Nat}{v:α}(h:xs[j]?=some v):atI xs (j:Int)=some v:=by
 have z:j<xs.length:=(Nt.mp h).1;have e:ixN xs.length (j:Int)=some j:=by
  unfold ixN;rw [if_pos (by lia),if_pos (by lia)];simp
 unfold atI;rw [e];exact h
theorem sr{α:Type}(xs:List α)(v:α):atI (xs++[v]) (-1)=some v:=by
 have hl:(xs++[v]).length=xs.length+1:=by simp
 have e:ixN (xs++[v]).length (-1)=some xs.length:=by
  unfold ixN;rw [hl,if_neg (by decide),if_pos (by lia)];congr 1;lia
 unfold atI;rw [e];show (xs++[v])[xs.length]?=some v;simp
def x3(b:N0):Prop:=∀o i,subscripted b false o i=operate [o,i] (SA o i)
def IxR(X:Cx)(r:R2):Prop :=
 ∀(ZL z:N0)(Go:List (Addr×Obj))(s:we)(σ:St)(H:Hp)(x y:V)(v u:Value)(Q:VK),Inv X Go σ H s->zo x v->zo y u->r x y H Q ->
  subscripted z false v u=operate [v,u] (SA v u)->NF (NL X.prog X.w) X.A (subscriptTail ZL z v u) (EP X Go σ Q) X.xe s
def MtR(X:Cx)(id:String)(r:V->List V->Hp->VK->Prop):Prop :=
 ∀(Go:List (Addr×Obj))(s:we)(σ:St)(H:Hp)(x:V)(xs:List V)(v:Value)(us:List Value)(Q:VK),Inv X Go σ H s->zo x v->zp xs us->r x xs H Q ->
  NF (NL X.prog X.w) X.A (call (.builtin id) (v::us)) (EP X Go σ Q) X.xe s
section
variable {X:Cx}{a b:N0}{ta tb:TE}{pos:Pos}
theorem IxR.or{r r':R2}(h:IxR X r)(h':IxR X r'):IxR X (λx y H Q=>r x y H Q\/r' x y H Q):=by
 intro ZL G Go s σ H x y v u Q I F z q hs;rcases q with q|q
 .exact h ZL G Go s σ H x y v u Q I F z q hs
 .exact h' ZL G Go s σ H x y v u Q I F z q hs
theorem wm{r:R2}(hr:IxR X r)(ha:PE X a ta)(hb:PE X b tb)(hs:x3 b):PE X (.Subscript a b pos) (tOp r ta tb):=by
 intro Go s σ H Q I h;exact Subscript_ (qD ha hb I h λv u s2 x y H2 G F z q=>hr a b Go s2 σ H2 x y v u Q G F z q (hs _ _))
def v8(K:Nu):R2:=λx y H Q=>∃p xs i v,x = .ref p/\y = .int i/\SqL K H p xs/\atI xs i=some v/\Q v H
def Bb(K:Nu):R2:=λx y H Q=>∃p xs i v,x = .ref p/\y = .int i/\SqT K H p xs/\atI xs i=some v/\Q v H
def yJ:R2:=λx y H Q=>∃z i c,x = .str z/\y = .int i/\z.length<=sizeLine/\atI z.cps.toList i=some c/\Q (.str ⟨#[c]⟩) H
theorem xH:IxR X (v8 X.K):=by
 intro ZL Y7 Go s σ H x y v u Q I S U h hs;obtain ⟨p,xs,i,z,rfl,rfl,Z,he,q⟩:=h;cases S;obtain ⟨t,rfl⟩:=U;obtain ⟨its,r,pl,hz⟩:=I.list Z;obtain ⟨j,h1,h2,h3,h4,h5⟩:=oX he;obtain ⟨w,J,W⟩:=r.get h2;have hl:=r.length;have hn:=gI;have F:EP X Go σ Q w s:=⟨z,H,I,W,q⟩;by_cases O:0<=i
 .have G:i.toNat=j:=by
   rw [seqIndex_of O h5] at h1;exact Ob.inj h1
  exact item_listR pl.isList O (by lia) (by rw [G];simpa using J) F hs
 .have G:(i+(its.toArray.size:Int)).toNat=j:=by
   rw [seqIndex_neg (by lia) h4] at h1;rw [NI,<- hl];exact Ob.inj h1
  exact Qk (x:=w) pl.isList.typeIs slot_list_getitem.lookup
   (wpAny_getItem_list_neg (Q:=λr s'=>r=w/\EP X Go σ Q r s') pl.isList (by lia) (by rw [NI]<;>lia) (by lia) (by rw [G];simpa using J) ⟨rfl,F⟩) hs
theorem Bg:IxR X (Bb X.K):=by
 intro ZL Y7 Go s σ H x y v u Q I G O h hs;obtain ⟨p,xs,i,z,rfl,rfl,U,he,q⟩:=h;cases G;obtain ⟨t,rfl⟩:=O;obtain ⟨its,r,pl,Z⟩:=I.tuple U;obtain ⟨j,h1,h2,h3,h4,W⟩:=oX he;obtain ⟨w,J,S⟩:=r.get h2;have hl:=r.length;have hn:=gI;have F:EP X Go σ Q w s:=⟨z,H,I,S,q⟩;exact Qk (x:=w) pl.typeIs RO.lookup
  (getItem_tuple (j:=j) (Q:=λr s'=>r=w/\EP X Go σ Q r s') pl (by lia) (by lia) (by rw [NI,<- hl];exact h1) (by simpa using J) ⟨rfl,F⟩) hs
theorem FR:IxR X yJ:=by
 intro ZL W Go s σ H x y v u Q I F O h hs;obtain ⟨z,i,c,rfl,rfl,U,he,q⟩:=h;obtain ⟨t,rfl⟩:=F;obtain ⟨t',rfl⟩:=O;obtain ⟨j,h1,h2,h3,h4,S⟩:=oX he;have hl:z.cps.toList.length=z.length:=by simp [Str.length]
 rw [hl] at h1 h4 S;have hn:=gI;exact tail_any (Rj s z t) slot_str_getitem.lookup (getItem_str (c:=c) (by
  have G:decide (i < -(2 ^ 63:Int))=false:=decide_eq_false (by lia);have J:decide (i ≥ 2 ^ 63)=false:=decide_eq_false (by lia);rw [G,J,QQ]) (by rw [h1];simpa using h2) ⟨.str ⟨#[c]⟩,H,I.tok _,⟨_,rfl⟩,q⟩) hs
def rIx(K:Nu):R2:=λx y H Q=>v8 K x y H Q\/Bb K x y H Q\/yJ x y H Q
theorem Do:IxR X (rIx X.K):=xH.or (Bg.or FR)
theorem EK(its:List Value)(n j:Nat)(u:Value):Qw (·.setIfInBounds j u) { cls:=.type "list",data:=.seq its.toArray n }={ cls:=.type "list",data:=.seq (its.set j u).toArray n }:=by
 simp [Qw]
theorem Inv.lst{Go:List (Addr×Obj)}{σ:St}{H:Hp}{s:we}{p:Addr}{xs:List V}(I:Inv X Go σ H s)(h:H p=some (.lst xs)) :
  ∃(its:List Value)(n:Nat),zp xs its/\s.heap.get? p=some { cls:=.type "list",data:=.seq its.toArray n }/\xs.length<=sizeLine:=by
 obtain ⟨z,its,n,r,e⟩:=I.hok p _ h;exact ⟨its,n,r,e,z⟩
theorem Inv.aO{p:Addr}{its its':List Value}(I:Inv X Go σ H s)(h:H p=some (.lst xs))(ho:s.heap.get? p=some { cls:=.type "list",data:=.seq its.toArray n })(hf:f { cls:=.type "list",data:=.seq its.toArray n }={ cls:=.type "list",data:=.seq its'.toArray z })(r:zp ys its')(F:ys.length<=sizeLine)(t:Nat):
  Inv X Go σ (upd H p (.lst ys)) { s with heap:=s.heap.update p f,toks:=t }:=by
 have e:(s.heap.update p f).get? p=some { cls:=.type "list",data:=.seq its'.toArray z }:=by
  rw [OF f ho (by rw [hf]<;>rfl),hf]
 refine I.write (x:=p) (e:=p) (by rw [h];trivial) (.inl rfl) (λb u hb q=>(NS _ _ (NO hb)).trans q) ⟨_,e⟩ ?_;exact ⟨F,its',z,r,e⟩
def mv:V->V->V->Hp->(Hp->Prop)->Prop:=λo i v H Q=>∃p xs k j,o = .ref p/\i = .int k/\H p=some (.lst xs)/\ixN xs.length k=some j/\Q (upd H p (.lst (xs.set j v)))
theorem hG:qI X mv:=by
 intro Go s σ H o i v ov iv u Q I Z O S h;obtain ⟨p,xs,k,j,rfl,rfl,F,hj,q⟩:=h;cases Z;obtain ⟨t,rfl⟩:=O;obtain ⟨its,n,r,ho,U⟩:=I.lst F;obtain ⟨h1,h2,h3,h4⟩:=y9 hj;have hl:=r.length;have hn:=gI;have G:Inv X Go σ (upd H p (.lst (xs.set j v))) { s with heap:=s.heap.update p (Qw (·.setIfInBounds j u)) } :=
  I.aO F ho (EK its n j u) (r.set S j) (by rw [Pe];exact U) s.toks
 by_cases J:0<=k
 .have z:k.toNat=j:=by
   rw [seqIndex_of J h4] at h1;exact Ob.inj h1
  exact PySem.W.ki_setAt ho J (by lia) (by rw [NI,<- hl];exact h4) (by rw [z];exact ⟨_,G,q⟩)
 .have z:(k+(its.toArray.size:Int)).toNat=j:=by
   rw [seqIndex_neg (by lia) h3] at h1;rw [NI,<- hl];exact Ob.inj h1
  exact PySem.W.ki_setBack ho (by lia) (by rw [NI,<- hl];exact h3) (by lia) (by rw [z];exact ⟨_,G,q⟩)
theorem B8(lo hi:Option Int)(n:Nat):(Q0 lo hi none n).1=((HT.sIx n 0 lo:Nat):Int)/\(Q0 lo hi none n).2.1=((HT.sIx n n hi:Nat):Int)/\(Q0 lo hi none n).2.2=1:=by
 refine ⟨?_,?_,rfl⟩
 .cases lo with
  | none=>simp [Q0,HT.sIx]
  | some i =>
   simp only [Q0,HT.sIx,getD_none,show (1:Int)>0 by decide,if_true];by_cases h:i<0
   .simp only [h,if_true]<;>lia
   .simp only [h,if_false]<;>lia
 .cases hi with
  | none=>simp [Q0,HT.sIx]
  | some i =>
   simp only [Q0,HT.sIx,getD_none,show (1:Int)>0 by decide,if_true];by_cases h:i<0
   .simp only [h,if_true]<;>lia
   .simp only [h,if_false]<;>lia
theorem J2(its:List Value)(lo hi:Option Int):slicePick its.toArray lo hi none=((its.drop (HT.sIx its.length 0 lo)).take (HT.sIx its.length its.length hi-HT.sIx its.length 0 lo)).toArray:=by
 obtain ⟨h1,h2,h3⟩:=B8 lo hi its.toArray.size;unfold slicePick;rw [h1,h2,h3];simp only [sliceRange_one,pick_run,NI]<;>rfl
def MD(K:Nu):V->Option Int->Option Int->Hp->VK->Prop:=λx lo hi H Q=>∃a xs,x = .ref a/\SqL K H a xs/\∀p,H p=none->Q (.ref p) (upd H p (.lst (aX xs lo hi)))
theorem HZ:SlR X (MD X.K):=by
 intro Go s σ H x v S U lo hi sl Q I G hs pl F h;obtain ⟨a,xs,rfl,hx,q⟩:=h;cases G;obtain ⟨its,r,z,O⟩:=I.list hx;have J:=r.length;refine ⟨"list",_,slot_list_getitem.lookup,z.isList.typeIs,?_⟩;refine wpAny_getItem_list_slice z.isList hs pl F .none (by simp) ?_ (by rw [NI]<;>lia);rw [J2,<- J];refine ⟨.ref s.heap.objs.size,_,I.laid (t':=s.toks) (o:=.lst (aX xs lo hi)) (λb ob q=>zv _ q) (Nq _) ?_,rfl,q _ (I.hok.fresh (Nq _))⟩;exact ⟨N6 (yf xs lo hi) O,_,0,(r.drop (HT.sIx xs.length 0 lo)).take (HT.sIx xs.length xs.length hi-HT.sIx xs.length 0 lo),NK _ rfl⟩
def ah:V->Bool
 | .non=>true
 | .bl _=>true
 | .int _=>true
 | .str _=>true
 | _=>false
def eqV:V->V->Bool
 | .non,.non=>true
 | .bl a,.bl b=>a==b
 | .bl a,.int b=>(if a then 1 else 0)==b
 | .int a,.bl b=>a==(if b then 1 else 0)
 | .int a,.int b=>a==b
 | .str a,.str b=>a==b
 | _,_=>false
theorem pS(F:zo y u)(z:zo x v)(J:ah y=true)(G:ah x=true):SeqAt.EqAt A s u v (eqV y x):=by
 cases y with
 | non =>
  cases F;cases x with
  | non=>cases z;exact SeqAt.EqAt.same _
  | bl b=>cases z;exact SeqAt.EqAt.none_bool b
  | int b=>obtain ⟨t,rfl⟩:=z;exact SeqAt.EqAt.none_int b t
  | str b=>obtain ⟨t,rfl⟩:=z;exact SeqAt.EqAt.none_str b t
  | _=>exact absurd (show false=true from G) Nx
 | bl a =>
  cases F;cases x with
  | non=>cases z;exact SeqAt.EqAt.bool_none a
  | bl b=>cases z;exact SeqAt.EqAt.bool_bool a b
  | int b=>obtain ⟨t,rfl⟩:=z;exact SeqAt.EqAt.bool_int a b t
  | str b=>obtain ⟨t,rfl⟩:=z;exact SeqAt.EqAt.bool_str a b t
  | _=>exact absurd (show false=true from G) Nx
 | int a =>
  obtain ⟨t',rfl⟩:=F;cases x with
  | non=>cases z;exact SeqAt.EqAt.int_none a t'
  | bl b=>cases z;exact SeqAt.EqAt.int_bool a t' b
  | int b=>obtain ⟨t,rfl⟩:=z;exact SeqAt.EqAt.int_int a t' b t
  | str b=>obtain ⟨t,rfl⟩:=z;exact SeqAt.EqAt.int_str a t' b t
  | _=>exact absurd (show false=true from G) Nx
 | str a =>
  obtain ⟨t',rfl⟩:=F;cases x with
  | non=>cases z;exact SeqAt.EqAt.str_none a t'
  | bl b=>cases z;exact SeqAt.EqAt.str_bool a t' b
  | int b=>obtain ⟨t,rfl⟩:=z;exact SeqAt.EqAt.str_int a t' b t
  | str b=>obtain ⟨t,rfl⟩:=z;exact SeqAt.EqAt.str_str a t' b t
  | _=>exact absurd (show false=true from G) Nx
 | _=>exact absurd (show false=true from J) Nx
def eqU(x:V)(u:Value):Bool:=match u with
 | .none=>eqV .non x
 | .bool b=>eqV (.bl b) x
 | .int i _=>eqV (.int i) x
 | .str z _=>eqV (.str z) x
 | _=>false
theorem uY(r:zo y u)(f:ah y=true):eqU x u=eqV y x:=by
 cases y with
 | non=>cases r;rfl
 | bl b=>cases r;rfl
 | int i=>obtain ⟨t,rfl⟩:=r;rfl
 | str z=>obtain ⟨t,rfl⟩:=r;rfl
 | _=>exact absurd (show false=true from f) Nx
theorem kj(h:zp xs us)(f:xs.all ah=true):us.any (eqU x)=xs.any λy=>eqV y x:=by
 induction h with
 | nil=>rfl
 | cons r t z =>
  rw [List.all_cons,Oc] at f;rw [Rx,Rx,uY r f.1,z f.2]
theorem iV(F:zo x v)(G:ah x=true):∀{xs:List V}{us:List Value},zp xs us->xs.all ah=true->∀u∈us,SeqAt.EqAt A s u v (eqU x u)
 | _,_,.nil,_=>λu z=>by cases z
 | y::xs,u::us,.cons r t,f=>λJ z=>by
  rw [List.all_cons,Oc] at f;rcases Nw.mp z with rfl|z
  .rw [uY r f.1];exact pS r F f.1 G
  .exact iV F G t f.2 J z
def inV(x:V)(xs:List V):Bool:=xs.any λy=>eqV y x
def rIn(K:Nu)(neg:Bool):R2:=λx y H Q=>∃p xs,y = .ref p/\(SqL K H p xs\/SqT K H p xs)/\ah x=true/\xs.all ah=true/\Q (.bl (if neg then !inV x xs else inV x xs)) H
theorem Ci:OpR X (Of .In) (rIn X.K false):=by
 intro Go s σ H x y v u Q I G O h;obtain ⟨p,xs,rfl,z,J,fs,q⟩:=h;cases O;rcases z with z|z
 .obtain ⟨its,r,pl,S⟩:=I.list z;refine SeqAt.in_listAt (eqU x) pl.isList (λw F=>iV G J r fs w (by simpa using F)) ⟨.bl _,H,I,rfl,?_⟩;rw [show its.toArray.any (eqU x)=its.any (eqU x) by simp,kj r fs];exact q
 .obtain ⟨its,r,pl,S⟩:=I.tuple z;refine SeqAt.in_tupleAt (eqU x) pl (λw F=>iV G J r fs w (by simpa using F)) ⟨.bl _,H,I,rfl,?_⟩;rw [show its.toArray.any (eqU x)=its.any (eqU x) by simp,kj r fs];exact q
theorem HM:OpR X (Of .NotIn) (rIn X.K true):=by
 intro Go s σ H x y v u Q I G O h;obtain ⟨p,xs,rfl,z,J,fs,q⟩:=h;cases O;rcases z with z|z
 .obtain ⟨its,r,pl,S⟩:=I.list z;refine SeqAt.notIn_listAt (eqU x) pl.isList (λw F=>iV G J r fs w (by simpa using F)) ⟨.bl _,H,I,rfl,?_⟩;rw [show its.toArray.any (eqU x)=its.any (eqU x) by simp,kj r fs];exact q
 .obtain ⟨its,r,pl,S⟩:=I.tuple z;refine SeqAt.notIn_tupleAt (eqU x) pl (λw F=>iV G J r fs w (by simpa using F)) ⟨.bl _,H,I,rfl,?_⟩;rw [show its.toArray.any (eqU x)=its.any (eqU x) by simp,kj r fs];exact q
theorem kG:zM X (.builtin "len") (λxs H Q=>∃p ys,xs=[.ref p]/\(SqL X.K H p ys\/SqT X.K H p ys)/\Q (.int ys.length) H):=by
 intro Go s σ H xs us Q I r h;obtain ⟨p,ys,rfl,z,q⟩:=h;obtain ⟨u,rfl,J⟩:=cg r;cases J;have hn:=gI;rcases z with z|z
 .obtain ⟨its,r',pl,G⟩:=I.list z;have F:=r'.length;exact Calls.call_len_list pl.isList (by simp only [NI]<;>lia) ⟨.int ys.length,H,I.tok _,⟨s.toks+1,by rw [NI,F]⟩,q⟩
 .obtain ⟨its,r',pl,G⟩:=I.tuple z;have F:=r'.length;exact len_tuple pl (by simp only [NI]<;>lia) ⟨.int ys.length,H,I.tok _,⟨s.toks+1,by rw [NI,F]⟩,q⟩
theorem Nj:zM X (.builtin "len") (λxs H Q=>∃z,xs=[.str z]/\z.length<=sizeLine/\Q (.int z.length) H):=by
 intro Go s σ H xs us Q I r h;obtain ⟨z,rfl,F,q⟩:=h;obtain ⟨u,rfl,t,rfl⟩:=cg r;have hn:=gI;exact len_str (by lia) ⟨.int z.length,H,I.tok _,⟨_,rfl⟩,q⟩
theorem zM.or{r r':List V->Hp->VK->Prop}(h:zM X f r)(h':zM X f r'):zM X f (λxs H Q=>r xs H Q\/r' xs H Q):=by
 intro Go s σ H xs us Q I rs q;rcases q with q|q
 .exact h Go s σ H xs us Q I rs q
 .exact h' Go s σ H xs us Q I rs q
theorem Mp:zM X (.type "list") (λxs H Q=>∃p ys,xs=[.ref p]/\(SqL X.K H p ys\/SqT X.K H p ys)/\∀l,H l=none->Q (.ref l) (upd H l (.lst ys))):=by
 intro Go s σ H xs us Q I r h;obtain ⟨p,ys,rfl,z,q⟩:=h;obtain ⟨u,rfl,J⟩:=cg r;cases J;have G:∀(its:List Value),zp ys its->ys.length<=sizeLine->∀(h':Heap)(c':Nat),(∀b o',s.heap.get? b=some o'->h'.get? b=some o') ->
   h'.get? s.heap.objs.size=some { cls:=.type "list",dict:=none,data:=.seq its.toArray c',slots:=#[] }->EP X Go σ Q (.ref s.heap.objs.size) { s with heap:=h' }:=λits r' F h' c' kp e =>
  ⟨.ref s.heap.objs.size,_,I.laid (t':=s.toks) kp (Nq _) (show ao X.prog X.w _ h' _ (.lst ys) from ⟨F,its,c',r',e⟩),rfl,q _ (I.hok.fresh (Nq _))⟩
 rcases z with z|z
 .obtain ⟨its,r',pl,F⟩:=I.list z;have O:=r'.length;obtain ⟨o,ho,hc,n,hd⟩:=pl.isList;exact call_list_seq p (.inl rfl) ho hc hd (λh' c' kp e=>G its r' F h' c' kp e) (by simp only [NI]<;>lia)
 .obtain ⟨its,r',pl,F⟩:=I.tuple z;have O:=r'.length;obtain ⟨o,ho,hc,n,hd⟩:=pl;exact call_list_seq p (.inr rfl) ho hc hd (λh' c' kp e=>G its r' F h' c' kp e) (by simp only [NI]<;>lia)
theorem Mx:zM X (.type "tuple") (λxs H Q=>∃p ys,xs=[.ref p]/\((SqL X.K H p ys/\∀l,H l=none->Q (.ref l) (upd H l (.tup ys)))\/(SqT X.K H p ys/\Q (.ref p) H))):=by
 intro Go s σ H xs us Q I r h;obtain ⟨p,ys,rfl,h⟩:=h;obtain ⟨u,rfl,J⟩:=cg r;cases J;rcases h with ⟨z,q⟩|⟨z,q⟩
 .obtain ⟨its,r',pl,G⟩:=I.list z;have S:=r'.length;refine call_tuple_list pl.isList (λh' kp=>?_) (by simp only [NI]<;>lia);have F:Inv X Go σ H { s with heap:=h' }:=I.kept (t':=s.toks) kp;have O:Inv X Go σ (upd H h'.objs.size (.tup ys)) { s with heap:=h'.push { cls:=.type "tuple",data:=.seq its.toArray } } :=
   F.laid (t':=s.toks) (λb o e=>zv _ e) (Nq _) (show ao X.prog X.w _ _ _ (.tup ys) from ⟨G,its,r',Rg.new _ _⟩)
  exact ⟨.ref h'.objs.size,_,O,rfl,q _ (F.hok.fresh (Nq _))⟩
 .obtain ⟨its,r',pl,G⟩:=I.tuple z;exact call_tuple_same pl ⟨.ref p,H,I,rfl,q⟩
def tyV(K:Nu)(T:String)(x:V)(H:Hp):Prop:=match x with
 | .str _=>T="str"
 | .int _=>T="int"
 | .ref p=>(T="list"/\∃xs,SqL K H p xs)\/(T="tuple"/\∃o,K.lookup p=some o/\o.cls = .type "tuple"/\o.dict=none) \/
   (T="dict"/\((∃kvs,H p=some (.dK kvs))\/∃kvs,H p=some (.dT kvs)))\/(T="set"/\∃S n,H p=some (.set S n))
 | _=>False
theorem gX(I:Inv X Go σ H s)(r:zo x v)(ty:tyV X.K T x H):
  s.TypeIs v T/\∀a,v = .ref a->∃ob,s.heap.get? a=some ob/\ob.dict=none:=by
 cases x with
 | str z =>
  obtain ⟨t,rfl⟩:=r;cases (show T="str" from ty);exact ⟨Rj s z t,λ_ e=>nomatch e⟩
 | int i =>
  obtain ⟨t,rfl⟩:=r;cases (show T="int" from ty);exact ⟨typeIs_int s i t,λ_ e=>nomatch e⟩
 | ref p =>
  cases r;rcases ty with ⟨rfl,xs,J⟩|⟨rfl,o,F,hc,hd⟩|⟨rfl,F⟩|⟨rfl,S,n,F⟩
  .obtain ⟨its,_,pl,_⟩:=I.list J;refine ⟨pl.isList.typeIs,λa e=>?_⟩;cases e;obtain ⟨o,n,e,c,hd,_⟩:=pl;exact ⟨o,e,hd⟩
  .refine ⟨⟨o,I.S2 p o F,hc⟩,λa e=>?_⟩;cases e;exact ⟨o,I.S2 _ o F,hd⟩
  .have z:∃o,s.heap.get? p=some o/\o.ExactDict:=by
    rcases F with ⟨kvs,F⟩|⟨kvs,F⟩
    .obtain ⟨_,_,_,_,o,_,_,e,ex,_⟩:=I.hok p _ F;exact ⟨o,e,ex⟩
    .obtain ⟨_,_,_,_,o,_,_,e,ex,_⟩:=I.hok p _ F;exact ⟨o,e,ex⟩
   obtain ⟨o,e,ex⟩:=z;refine ⟨⟨o,e,ex.1⟩,λa G=>?_⟩;cases G;exact ⟨o,e,ex.2.1⟩
  .obtain ⟨o,_,_,_,e,ex,_⟩:=I.hok p _ F;refine ⟨⟨o,e,ex.1⟩,λa G=>?_⟩;cases G;exact ⟨o,e,ex.2.1⟩
 | _=>exact False.elim ty
variable {o e:N0}{es:List N0}{to:TE}{t:TA}{name:Str}{Z3 cpos:Pos}{T id:String}{r:V->List V->Hp->VK->Prop}
end
def MtM(X:Cx)(id:String)(r:V->List V->Hp->VK->Prop):Prop :=
 ∀(Go:List (Addr×Obj))(s:we)(σ:St)(H:Hp)(x:V)(xs:List V)(v:Value)(us:List Value)(Q:VK),Inv X Go σ H s->zo x v->zp xs us->r x xs H Q ->
  NF (NL X.prog X.w) X.A (call (.builtin id) (v::us)) (EP X Go σ Q) X.xe s
theorem HS{α β:Type}{F:α->β->Prop}{x:α}{xs:List α}{us:List β}(h:Paired F (x::xs) us):∃u ws,us=u::ws/\F x u/\Paired F xs ws:=by
 cases h with
 | cons r t=>exact ⟨_,_,rfl,r,t⟩
theorem x8{α β:Type}{F:α->β->Prop}{us:List β}(h:Paired F [] us):us=[]:=by cases h;rfl
theorem zp.one(h:zp [x] us):∃u,us=[u]/\zo x u:=by
 obtain ⟨u,ws,rfl,r,t⟩:=HS h;cases x8 t;exact ⟨_,rfl,r⟩
def cx(k:V->Prop):List V->Prop
 | [y]=>k y
 | _=>False
theorem cx.ex{k:V->Prop}(h:cx k vs):∃y,vs=[y]/\k y:=by
 cases vs with
 | nil=>exact h.elim
 | cons y t =>
  cases t with
  | nil=>exact ⟨y,rfl,h⟩
  | cons _ _=>exact h.elim
theorem zp.zero(h:zp [] us):us=[]:=x8 h
theorem zp.eraseIdx:∀{xs:List V}{us:List Value}(i:Nat),zp xs us->zp (xs.eraseIdx i) (us.eraseIdx i)
 | _,_,_,.nil=>.nil
 | _,_,0,.cons _ t=>t
 | _,_,i+1,.cons r t=>.cons r (zp.eraseIdx i t)
theorem zp.rep(h:zp xs us):∀k:Nat,zp (N5 k xs).flatten (N5 k us).flatten
 | 0=>.nil
 | k+1=>by
  rw [OZ,OZ,Q6,Q6];exact zp.append h (zp.rep h k)
theorem AK{α:Type}:∀(l:List α)(i:Nat),(l.eraseIdx i).length<=l.length
 | [],_=>Nq _
 | _::_,0=>Sy _
 | _::r,i+1=>Nat.succ_le_succ (AK r i)
theorem uj(its:List Value):∀(k:Nat)(ZJ:List Value),
  foldl (λG z=>G++z) ZJ.toArray (N5 k its.toArray)=(ZJ++(N5 k its).flatten).toArray
 | 0,ZJ=>by simp
 | k+1,ZJ=>by
  have e:ZJ.toArray++its.toArray=(ZJ++its).toArray:=by simp
  have F:(ZJ++its)++(N5 k its).flatten=ZJ++(N5 (k+1) its).flatten:=by
   rw [OZ,Q6,R6]
  rw [<- F,<- uj its k (ZJ++its),<- e,OZ,SC]
section
variable {X:Cx}{Go:List (Addr×Obj)}{σ:St}{H:Hp}{s:we}{l b:Addr}{xs ys zs:List V}
theorem Inv.aw{its its':List Value}(I:Inv X Go σ H s)(F:H l=some (.lst xs))(e:s.heap.get? l=some { cls:=.type "list",data:=.seq its.toArray n })(hf:f its.toArray=its'.toArray)(z:zp ys its')(G:ys.length<=sizeLine):
  Inv X Go σ (upd H l (.lst ys)) { s with heap:=s.heap.update l (Qw f),toks:=t' }:=by
 have q:=PySem.IsL.update e f;rw [hf] at q;refine I.write (x:=l) (e:=l) (by rw [F];exact trivial) (.inl rfl) (λO u hb J=>(NS s.heap (Qw f) (NO hb)).trans J) ⟨_,q⟩ ?_;exact ⟨G,its',_,z,q⟩
theorem Inv.a9(I:Inv X Go σ H s)(F:zp ys its)(z:ys.length<=sizeLine):
  Inv X Go σ (upd H s.heap.objs.size (.lst ys)) { s with heap:=s.heap.push { cls:=.type "list",data:=.seq its.toArray },toks:=t' } :=
 I.laid (λ_ _ q=>zv _ q) (Nq _) ⟨z,its,0,F,NK _ rfl⟩
theorem Inv.fresh(I:Inv X Go σ H s):H s.heap.objs.size=none:=I.hok.fresh (Nq _)
theorem Inv.UL(I:Inv X Go σ H s)(F:H l=some (.lst xs)):xs.length<=sizeLine/\∃(its:List Value)(n:Nat),zp xs its/\xs.length=its.length/\s.heap.get? l=some { cls:=.type "list",data:=.seq its.toArray n }:=by
 obtain ⟨z,its,n,r,e⟩:=I.hok l _ F;exact ⟨z,its,n,r,r.length,e⟩
theorem sv(h:n<=sizeLine):NN.List.listTooLong n=false:=by
 unfold NN.List.listTooLong;exact decide_eq_false (by lia)
end
section
variable {X:Cx}
def Gh:V->List V->Hp->VK->Prop:=λx vs H Q=>∃l xs y,x = .ref l/\vs=[y]/\H l=some (.lst xs)/\xs.length<sizeLine/\Q .non (upd H l (.lst (xs++[y])))
theorem DG:MtM X "list.append" Gh:=by
 intro Go s σ H x vs v us Q I J O h;obtain ⟨l,xs,y,rfl,rfl,G,U,q⟩:=h;cases J;obtain ⟨u,rfl,S⟩:=O.one;obtain ⟨z,its,n,r,hl,e⟩:=I.UL G;refine Qn F.slot_list_append ⟨_,e,rfl⟩ F.entry_list_append (F.args_list_append_2 _ _) (PySem.list_append l its.toArray n u (by rw [NI];lia)) ⟨e,?_⟩;refine ⟨.non,_,I.aw (its':=its++[u]) G e (by simp) (r.append (.cons S .nil)) ?_,rfl,q⟩;rw [NY,QJ];lia
def Mw:V->List V->Hp->VK->Prop:=λx vs H Q=>∃l b xs zs,x = .ref l/\vs=[.ref b]/\H l=some (.lst xs)/\H b=some (.lst zs)/\xs.length+zs.length<=sizeLine/\Q .non (upd H l (.lst (xs++zs)))
theorem DZ:MtM X "list.extend" Mw:=by
 intro Go s σ H x vs v us Q I O rv h;obtain ⟨l,b,xs,zs,rfl,rfl,J,hB,hz,q⟩:=h;cases O;obtain ⟨u,rfl,ru⟩:=rv.one;cases ru;obtain ⟨z,its,n,r,hl,e⟩:=I.UL J;obtain ⟨z2,G,U,S,Yp,Z⟩:=I.UL hB;have hsz:its.toArray.size+G.toArray.size<=sizeLine:=by rw [NI,NI];lia
 have W : ¬ (!its.toArray.isEmpty&&NN.List.listTooLong (its.toArray.size+G.toArray.size))=true:=by
  rw [sv hsz,Bool.and_false];exact Nx
 refine Qn F.slot_list_extend ⟨_,e,rfl⟩ F.entry_list_extend (F.args_list_extend_2 _ _)
  (AutoSeq1.list_extend_list_list_0 l its.toArray n b G.toArray U W (by rw [NI];lia) (by lia)) ⟨e,Z,?_⟩
 refine ⟨.non,_,I.aw (its':=its++G) J e (by simp) (r.append S) ?_,rfl,q⟩;rw [NY];lia
def ER:V->List V->Hp->VK->Prop:=λx vs H Q=>∃l xs i k y,x = .ref l/\vs=[.int i]/\H l=some (.lst xs)/\-(2 ^ 63)<=i/\i<2 ^ 63/\Sf i xs.length=some k/\xs[k]?=some y/\Q y (upd H l (.lst (xs.eraseIdx k)))
theorem IK:MtM X "list.pop" ER:=by
 intro Go s σ H x vs v us Q I O S h;obtain ⟨l,xs,i,k,y,rfl,rfl,G,h1,h2,W,Z,q⟩:=h;cases O;obtain ⟨u,rfl,ru⟩:=S.one;obtain ⟨t,rfl⟩:=ru;obtain ⟨z,its,n,r,hl,e⟩:=I.UL G;obtain ⟨w,J,U⟩:=r.get Z;refine Qn F.slot_list_pop ⟨_,e,rfl⟩ F.entry_list_pop (F.args_list_pop_2 _ _)
  (MeetsSeq.list_pop_at l its.toArray n i t k w (fitsIndex_both h1 h2) (by rw [NI,<- hl];exact W) (by rw [<- QT];exact J) (by rw [NI];lia)) ⟨e,?_⟩
 refine ⟨y,_,I.aw (its':=its.eraseIdx k) G e ?_ (r.eraseIdx k) ?_,U,q⟩
 .show its.toArray.eraseIdxIfInBounds k=(its.eraseIdx k).toArray;rw [List.eraseIdxIfInBounds_toArray]
 .have:=AK xs k;lia
def JJ:V->List V->Hp->VK->Prop:=λx vs H Q=>∃l xs,x = .ref l/\vs=[]/\H l=some (.lst xs)/\Q .non (upd H l (.lst []))
theorem LH:MtM X "list.clear" JJ:=by
 intro Go s σ H x vs v us Q I O S h;obtain ⟨l,xs,rfl,rfl,J,q⟩:=h;cases O;have G:=S.zero;subst G;obtain ⟨z,its,n,r,hl,e⟩:=I.UL J;refine Qn F.slot_list_clear ⟨_,e,rfl⟩ F.entry_list_clear (F.args_list_clear_1 _) (AutoSeq1.list_clear_list_0 l its.toArray n (by rw [NI];lia)) ⟨e,?_⟩;exact ⟨.non,_,I.aw (its':=[]) (ys:=[]) J e rfl .nil (Ot _),rfl,q⟩
def Np:R2:=λx y H Q=>∃l b xs zs,x = .ref l/\y = .ref b/\H l=some (.lst xs)/\H b=some (.lst zs)/\xs.length+zs.length<=sizeLine/\∀p,H p=none->Q (.ref p) (upd H p (.lst (xs++zs)))
theorem B2:OpR X (Pd .Add) Np:=by
 intro Go s σ H x y v u Q I G S h;obtain ⟨l,b,xs,zs,rfl,rfl,W,U,hz,q⟩:=h;cases G;cases S;obtain ⟨z,its,n,r,hl,e⟩:=I.UL W;obtain ⟨z2,F,n2,J,Z,O⟩:=I.UL U;refine PySem.P.add_list e O ?_ (by rw [NI,NI];lia);have ea:its.toArray++F.toArray=(its++F).toArray:=by simp
 rw [ea];exact ⟨.ref _,_,I.a9 (t':=s.toks) (r.append J) (by rw [NY];lia),rfl,q _ I.fresh⟩
def Bi:R2:=λx y H Q=>∃l k xs,x = .ref l/\y = .int k/\H l=some (.lst xs)/\-(2 ^ 63)<=k/\k<2 ^ 63/\xs.length*k.toNat<=sizeLine /\
 ∀p,H p=none->Q (.ref p) (upd H p (.lst (N5 k.toNat xs).flatten))
theorem Cy{α:Type}(xs:List α)(k:Nat):(N5 k xs).flatten.length=k*xs.length:=by
 induction k with
 | zero=>simp
 | succ k z=>rw [OZ,Q6,NY,z,Nat.succ_mul,Nat.add_comm]
theorem Ml:OpR X (Pd .Mult) Bi:=by
 intro Go s σ H x y v u Q I rx ry h;obtain ⟨l,k,xs,rfl,rfl,hH,h1,h2,Z,q⟩:=h;cases rx;obtain ⟨t,rfl⟩:=ry;obtain ⟨z,its,n,r,hl,e⟩:=I.UL hH;have Z7:its.toArray.size*k.toNat<=sizeLine:=by rw [NI,<- hl];exact Z
 have J : ¬ its.toArray.size*k.toNat>(2 ^ 63-1) / 8:=by
  have:(sizeLine:Nat)<=(2 ^ 63-1) / 8:=by decide
  lia
 have O : ¬ (!Builtin.List.listFitsIndex k)=true:=by
  rw [fitsIndex_both h1 h2];exact Nx
 have W7 : ¬ NN.List.listTooLong (its.toArray.size*k.toNat)=true:=by
  rw [sv Z7];exact Nx
 have G:foldl (λW S=>W++S) #[] (N5 (if its.toArray.isEmpty=true then 0 else k.toNat) its.toArray)=(N5 k.toNat its).flatten.toArray:=by
  have f0:∀m:Nat,foldl (λW S=>W++S) #[] (N5 m its.toArray)=(N5 m its).flatten.toArray:=λm=>by
   have:=uj its m [];rw [Sx] at this;exact this
  rw [f0];cases its with
  | nil=>simp
  | cons a r'=>rw [if_neg (by simp)]
 refine wpAny_binaryOp_repeat_ref (T:="list") (U:="int") (by decide) ⟨_,e,rfl⟩ (λs'=>typeIs_int s' k t) noFill_list_mul F.fills_int_mul F.slot_int_rmul repeat_list F.slot_int_index.lookup
  (Qn F.slot_int_rmul (typeIs_int s k t) F.entry_int_rmul (F.args_int_rmul_2 _ _) (int___rmul___int_list k t l its.toArray n)
   ⟨e,rfl,⟨_,e,rfl⟩,Qn F.slot_list_mul ⟨_,e,rfl⟩ F.entry_list_mul (F.args_list_mul_2 _ _) (AutoListH.list___mul___list_int_3 l its.toArray n k t O J W7) ⟨e,?_⟩⟩)
 rw [G];exact ⟨.ref _,_,I.a9 (t':=s.toks) (r.rep k.toNat) (by rw [Cy,Nat.mul_comm];exact Z),rfl,q _ I.fresh⟩
end
end L2
namespace Att
open PySem PySem.W PySem.Calls PyProof.Rows
theorem IG:∀(ns:List Int)(vs:List Value),WellAll P h vs (ns.map WData.int)->Qq vs ns:=by
 intro ns
 induction ns with
 | nil =>
  intro vs w;rw [map_nil] at w;cases w;exact .nil
 | cons n ns z =>
  intro vs w;rw [Om] at w;cases w with
  | cons a b =>
   cases a;exact .cons _ _ (z _ b)
theorem Nc{l:OpenLaw}(hn:l.most=some n)(F:l.row.toRowW.claim.pre args=true)(O:WellAll P h z args):
  ∃a vs ns,z=[Ny a]/\args=[WData.list (ns.map WData.int)]/\h.get? a=some { cls:=.type "list",data:=.seq vs.toArray }/\Qq vs ns/\ns.length<=n:=by
 have S:WShape.hasAll [] args [.list .int]=true:=(pre_splitW F).1;have hc:l.pre.holds [] { args:=args }=true:=(pre_splitW F).2;obtain ⟨d,r,rfl,h1,h2⟩:=hasAllW_cons S;obtain rfl:=hasAllW_nil h2;obtain ⟨xs,rfl,h3⟩:=hasW_list h1;obtain ⟨ns,rfl⟩:=items_int h3;have W:ns.length<=n:=by
  unfold OpenLaw.pre at hc;have h4:(WTm.not (.lt (.lit (.int (n:Int))) (.len (.arg 0)))).holds [] { args:=[.list (ns.map .int)] }=true:=by
   have h4:=(holds_andW hc).1;rw [hn] at h4;exact h4
  have J:=condW_of h4 (w_not (w_lt w_lit (w_len_list (w_arg rfl))));rw [KE] at J;refine Nat.le_of_not_lt λq=>?_;have q':(n:Int)<((ns.length:Nat):Int):=by lia
  first
   | (rw [decide_eq_true q'] at J;exact absurd J (by decide))
   | (simp at J;lia)
 cases O with
 | cons U Z =>
  cases Z;cases U with
  | list ho G=>exact ⟨_,_,ns,rfl,rfl,ho,IG ns _ G,W⟩
theorem IC(l:OpenLaw)(args:List WData):l.row.toRowW.claim.post args (.bool true) args=true :=
 postW_of (r:=l.row.toRowW) (X:=(true==true))
  (show WShape.has [] (.bool true) .bool=true by first|rfl|decide|simp [WShape.has,WShape.arms,WShape.armsAll])
  (show (WTm.eq .res (.lit (.bool true))).value [] { args:=args,res:=some (.bool true),after:=args }=some (.bool (true==true)) from w_eq_bool (w_res rfl) w_lit) rfl
theorem attach_call{l:OpenLaw}(hn:l.most=some n)(O:d.params.defaults=[])(call:∀(w:NQ)(s₀ s₁:we)(mg J:Str->Option Value)(fa:Addr)(o:Obj)(pm cd U:Value)(a:Addr)(vs:List Value)(ns:List Int),
   Ground q X6 [] XP w s₀ mg J s₁.heap->YP w s₁.heap ->
   s₁.heap.get? fa=some o->o.data = .func (docDef d.name d.params d.body d.scope pm cd U)->s₁.heap.CodeRec cd d.name->mg d.name=some (.ref fa) ->
   s₁.heap.get? a=some { cls:=.type "list",data:=.seq vs.toArray }->Qq vs ns->ns.length<=n->s₁.gens = #[] ->
   Qx (NL l.prog w) callerA (.call (.ref fa) ⟨[.ref a],[]⟩) (λr s'=>r = .ok (.ret (.bool true))/\OldK s₁.heap s'.heap/\s'.os=s₁.os/\Qz s'.gens) s₁):
  WalkO q X6 XP YP l.row.toRowW d [] (λf vs=>PySem.call f vs):=by
 intro w s₀ s₁ mg J G Y fa o pm cd U dV kV ho hd Yb hD W hg args Z as z ab ai S ag;obtain rfl:dV = .none:=Dflts.none hD O;obtain rfl:kV = .none:=Dflts.noKw hD;obtain ⟨a,vs,ns,rfl,rfl,F,W0,Z7⟩:=Nc hn z S;refine enter_call (QL (call w s₀ s₁ mg J fa o pm cd U a vs ns G Y ho (fd_plain hd) Yb W F W0 Z7 hg) λr s' hq=>?_);obtain ⟨rfl,h2,h3,h4⟩:=hq;exact ⟨.inl ⟨.bool true,.bool true,[],rfl,λ_=>rfl,.bool true,IC l _,λ_=>⟨Pairwise.nil,λ_ hm=>(nomatch hm)⟩⟩,h2,h3,h4⟩
end Att
namespace L2
open PySem PySem.Spec PyProof.Rows
theorem wB(h:Qq vs ns):zp (ns.map V.int) vs:=by
 induction h with
 | nil=>exact .nil
 | cons n t h z=>exact .cons ⟨t,rfl⟩ z
def aC(s:Stmt)(j:Nat):Stmt:=match s with
 | .ClassDef _ _ _ z _ _ _ _ _ _ _=>z.getD j (.Pass ⟨0,0,0,0⟩)
 | _=>.Pass ⟨0,0,0,0⟩
def gj(s:Stmt):Arguments:=match s with
 | .FunctionDef _ a _ _ _ _ _ _ _ _=>a
 | _=>{ posonlyargs:=[],args:=[],vararg:=none,kwonlyargs:=[],kw_defaults:=[],kwarg:=none,defaults:=[] }
def c0(s:Stmt):List Stmt:=match s with
 | .FunctionDef _ _ b _ _ _ _ _ _ _=>b
 | _=>[]
def zi(s:Stmt):Scope:=match s with
 | .FunctionDef _ _ _ _ _ _ sc _ _ _=>sc
 | _=>{ kind:=.function,names:=[],isGenerator:=false,isCoroutine:=false }
abbrev CX0:CXT:=λ_ _ _ _ _ _=>False
abbrev E0:XK:=λ_ _ _=>False
theorem i9:fc CX0 X E0:=λ_ _ _ _ _ _ _ h=>h.elim
structure Fun(K:Nu)(x qual:Str)(st:Stmt)(f:Addr)(fd:Nz):Prop where
 ex:∃(oc:Value)(od:Option Addr)(kV Ye pm:Value)(an:Option Addr)(Z2 ct:Value)(osl:Array (Option Value)),
  fd=fnOf x qual (gj st) (c0 st) (zi st) .none kV Ye pm an Z2 ct/\K.lookup f=some ⟨oc,od,.func fd,osl⟩/\codeIn K Z2 qual=true
 kp:Rk K (.ref f)=true
section
variable {P:NB}{w:NQ}{K:Nu}{mg:Str->Option Value}{base:Heap}
theorem Fun.ok{st:Stmt}{k:Nat}(F:Fun K x qual st f fd)(S:zt N ps (zi st))(len:∀vs H Q E,sp vs H Q E->vs.length=ps.length)(O:∀(z:Value)(A:NP)(outer:List Env)(s:we)(H:Hp)(vs:List V)(Q:VK)(E:XK),zK cm k (A.deeper (PY qual (zi st) s.heap.objs.size f z))->sp vs H Q E ->
   ∃t,PSs (cn CX0 cm P w K mg base N qual (zi st) f z A outer s H E).Vp (c0 st) t/\t { nx:=λ_ H'=>Q .non H',rt:=Q } (start N vs) H):zm P w K mg base CX0 cm (k+1) f fd ps sp:=by
 obtain ⟨oc,od,kV,W,pm,Z,z,ct,G,rfl,lk,J⟩:=F.ex;refine nV lk J S len λA outer s H vs Q E hr U=>?_;obtain ⟨t,h,q⟩:=O z A outer s H vs Q E hr U;exact ⟨t,h.Vp,q⟩
theorem Fun.binds{st:Stmt}(F:Fun K x qual st f fd)(h:∀(kV z pm:Value)(G:Option Addr)(J ct:Value)(us:List Value),us.length=ps.length->bindArgs (fnOf x qual (gj st) (c0 st) (zi st) .none kV z pm G J ct) ⟨us,[]⟩=pure (ps.zip us)):bw K fd ps []:=by
 obtain ⟨oc,S,kV,z,pm,G,J,ct,O,rfl,lk,U⟩:=F.ex;exact .all (h kV z pm G J ct)
theorem yG{st:Stmt}{kV G pm F ct:Value}(l:K.lookup f=some ⟨oc,O,.func (fnOf x qual (gj st) (c0 st) (zi st) .none kV G pm J F ct),z⟩)(c:codeIn K F qual=true)(k:Rk K (.ref f)=true):Fun K x qual st f (fnOf x qual (gj st) (c0 st) (zi st) .none kV G pm J F ct):=⟨⟨oc,O,kV,G,pm,J,F,ct,z,rfl,l,c⟩,k⟩
end
theorem zO{k:Nat}(hr:zK c k A):A.units+1<cLine:=OI (Nat.add_le_add_left (by decide:1<=64) _) hr.units
theorem oO(h:n<=1000):n<sizeLine:=OI h (by decide)
section
variable {X:Cx}
theorem pv(i:Nat)(hN:X.N[i]?=some x:=by rfl)(F:Vis X.env.scope x:=by first|exact NC rfl|exact Rm (NC rfl)|exact Rm (Rm rfl))(hd:(x==("__debug__":Str))=false:=by decide)(z:(x==("__classdict__":Str))=false:=by decide):PE X (.Name x pos) (mx i):=Nm hN F hd z
end
theorem iw{A B:Prop}(h:B):if false=true then A else B:=by
 rw [if_neg Nx];exact h
theorem lO{A B:Prop}(h:A):if true=true then A else B:=by
 rw [if_pos rfl];exact h
theorem aq{c A B:Prop} [Decidable c] (h1:c->A) (h2 : ¬ c->B):if c then A else B:=by
 by_cases h:c
 .rw [if_pos h];exact h1 h
 .rw [if_neg h];exact h2 h
def zj(H H':Hp):Prop:=∀b o,H b=some o->H' b=some o
theorem zj.refl(H:Hp):zj H H:=λ_ _ h=>h
theorem zj.trans(a:zj H H1)(b:zj H1 H2):zj H H2:=λc o h=>b c o (a c o h)
theorem zj.free(e:zj H H')(h:H' l=Option.none):H l=Option.none:=by
 cases q:H l with
 | none=>rfl
 | some o =>
  rw [e l o q] at h;cases h
end L2
set_option maxHeartbeats 4000000
namespace L2
open PySem PySem.Spec PyProof.Rows
def cw(cells:List (Str×Addr)):List (Str×On)->List (Str×Addr)->List (Str×Addr)
 | [],cs=>cs
 | (n,k)::r,cs=>cw cells r (if k == .free then (match cells.lookup n with|some c=>(n,c)::cs|none=>cs) else cs)
theorem KO(h:∀y∈scope.names,y.2 = .free->∃c,env.cells.lookup y.1=some c):RU scope env=pure (cw env.cells scope.names []):=by
 simp only [RU];have all:∀(l:List (Str×On))(cs:List (Str×Addr)),(∀y∈l,y.2 = .free->∃c,env.cells.lookup y.1=some c) ->
   (forIn l cs λ(x:Str×On)(r:List (Str×Addr))=>match x with|(name,kind)=>if (kind==On.free)=true then do let a<-cellOf env name;pure (ForInStep.yield ((name,a)::r)) else pure (ForInStep.yield r):Sem (List (Str×Addr)))=pure (cw env.cells l cs):=by
  intro l
  induction l with
  | nil=>intro cs _;rfl
  | cons y r O =>
   intro cs F;obtain ⟨n,k⟩:=y;rw [SB];by_cases J:k = .free
   .subst J;obtain ⟨c,hc⟩:=F (n,.free) NX rfl;have S:env.cells.lookup n=some c:=hc;simp only [cellOf,S,cw,beq_self_eq_true,if_true];exact O _ λz G=>F z (ND _ G)
   .have hb:(k==On.free)=false:=by simpa using J
    simp only [cw,hb,Pi,if_false];exact O _ λz G=>F z (ND _ G)
 have e:=all scope.names [] h;show (do let cs<-forIn scope.names [] _;pure cs)=_
 first
  | (rw [bind_pure];exact e)
  | exact e
  | (simpa using e)
theorem rW:∀{l:List (Str×On)}{cs:List (Str×Addr)}{x:Str}{c:Addr},(cw cells l cs).lookup x=some c->cs.lookup x=some c\/(cells.lookup x=some c/\(x,On.free)∈l)
 | [],_,_,_,h=>.inl h
 | (n,k)::r,cs,x,c,h=>by
  unfold cw at h;rcases rW h with h|⟨h1,h2⟩
  .by_cases z:k = .free
   .subst z;simp only [beq_self_eq_true,if_true] at h;cases e:cells.lookup n with
    | none=>rw [e] at h;exact .inl h
    | some c' =>
     rw [e] at h;simp only [QC] at h;by_cases hx:x=n
     .subst hx;simp only [beq_self_eq_true] at h;cases h;exact .inr ⟨e,NX⟩
     .have hb:(x==n)=false:=by simpa using hx
      rw [hb] at h;exact .inl h
   .have hb:(k==On.free)=false:=by simpa using z
    rw [hb] at h;exact .inl h
  .exact .inr ⟨h1,ND _ h2⟩
theorem sT:∀{l:List (Str×On)}{cs:List (Str×Addr)}{x:Str},(cs.lookup x).isSome=true->((cw cells l cs).lookup x).isSome=true
 | [],_,_,h=>h
 | (n,k)::r,cs,x,h=>by
  unfold cw;refine sT ?_;split
  .split
   .simp only [QC];split
    .rfl
    .exact h
   .exact h
  .exact h
theorem v5:∀{l:List (Str×On)}{cs:List (Str×Addr)}{x:Str}{c:Addr},(x,On.free)∈l->cells.lookup x=some c->((cw cells l cs).lookup x).isSome=true
 | (n,k)::r,cs,x,c,hm,hc=>by
  unfold cw;rcases Nw.mp hm with e|hm
  .cases e;refine sT ?_;simp only [beq_self_eq_true,if_true,hc,QC];rfl
  .exact v5 hm hc
theorem lE:∀(names:List (Str×On))(n:Nat)(ZJ:List (Str×Addr)),Pg n names ZJ=Pg n names []++ZJ
 | [],_,_=>rfl
 | (x,k)::r,n,ZJ=>by
  unfold Pg;split
  .rw [lE r (n+1) ((x,n)::ZJ),lE r (n+1) [(x,n)],R6];rfl
  .exact lE r n ZJ
theorem l9:∀{names:List (Str×On)}{n:Nat}{ZJ:List (Str×Addr)},(x,c)∈Pg n names ZJ->(x,c)∈ZJ\/(x,On.cell)∈names
 | [],_,_,h=>.inl h
 | (y,k)::r,n,ZJ,h=>by
  unfold Pg at h;split at h
  .next hk =>
   rcases l9 h with h|h
   .rcases Nw.mp h with e|h
    .cases e;rw [eq_of_beq hk];exact .inr NX
    .exact .inl h
   .exact .inr (ND _ h)
  .rcases l9 h with h|h
   .exact .inl h
   .exact .inr (ND _ h)
theorem lF:∀{names:List (Str×On)}{n:Nat}{ZJ:List (Str×Addr)},(ZJ.lookup x).isSome=true->((Pg n names ZJ).lookup x).isSome=true
 | [],_,_,h=>h
 | (y,k)::r,n,ZJ,h=>by
  unfold Pg;split
  .refine lF ?_;rw [QC];cases x==y with
   | true=>rfl
   | false=>exact h
  .exact lF h
theorem qS:∀{names:List (Str×On)}{n:Nat}{ZJ:List (Str×Addr)},(x,On.cell)∈names->((Pg n names ZJ).lookup x).isSome=true
 | (y,k)::r,n,ZJ,h=>by
  unfold Pg;rcases Nw.mp h with e|h
  .cases e;rw [if_pos (by decide)];exact lF (by rw [QC,beq_self_eq_true];rfl)
  .split
   .exact qS h
   .exact qS h
def fE(cells:List (Str×Addr))(sc:Scope)(C:Addr):List (Str×Addr):=Pg (C+1) sc.names (cw cells sc.names [])
structure lU(cells:List (Str×Addr))(sc:Scope)(C:Addr)(h:Heap):Prop where
 ao:∀x c,(fE cells sc C).lookup x=some c->(C<c/\h.IsCell c none/\(x,On.cell)∈sc.names)\/(cells.lookup x=some c/\(x,On.free)∈sc.names)
 inj:∀x y c,(fE cells sc C).lookup x=some c->(fE cells sc C).lookup y=some c->C<c->x=y\/(cells.lookup x=some c\/cells.lookup y=some c)
theorem wq:∀{a b:List (Str×Addr)},(a++b).lookup x=(a.lookup x).or (b.lookup x)
 | [],b=>rfl
 | (y,c)::r,b=>by
  rw [cons_append,QC,QC];cases x==y with
  | true=>rfl
  | false=>exact wq
theorem lU.mk'(z:h.objs.size=C+1):lU cells sc C (RJ h sc.names):=by
 have ok:=cellsFrom_ok sc.names h (C+1) [] ⟨λ_ _ hm=>(nomatch hm),Pairwise.nil⟩ (Sk z.symm);rw [z] at ok;have sp:∀x c,(fE cells sc C).lookup x=some c->(x,c)∈Pg (C+1) sc.names []\/(cells.lookup x=some c/\(x,On.free)∈sc.names):=λx c h=>by
  unfold fE at h;rw [lE,wq] at h;cases e:(Pg (C+1) sc.names []).lookup x with
  | some d=>rw [e] at h;cases h;exact .inl (OL e)
  | none =>
   rw [e] at h;rcases rW (show (cw cells sc.names []).lookup x=some c from h) with h|h
   .cases h
   .exact .inr h
 refine ⟨λx c h=>?_,λx y c h1 h2 _=>?_⟩
 .rcases sp x c h with h|h
  .refine .inl ⟨(ok.empty x c h).2,(ok.empty x c h).1,?_⟩;rcases l9 h with h|h
   .cases h
   .exact h
  .exact .inr h
 .rcases sp x c h1 with a|a
  .rcases sp y c h2 with b|b
   .exact .inl (PySem.name_of_addr ok.apart a b)
   .exact .inr (.inr b.1)
  .exact .inr (.inl a.1)
theorem B0{code:Value}(O:Q (newEnv scope s.heap.objs.size J (Pg (s.heap.objs.size+1) scope.names G) qual z code (some outer) QY) { s with heap:=RJ (s.heap.push { cls:=.type "dict",data:=.dict #[] }) scope.names }):
  NF M A (newFunctionEnv scope J G [] qual z code (some outer)) Q E s:=by
 simp only [newFunctionEnv,isSome_some,if_true];refine fv (wpAny_alloc ?_);refine fv (wpAny_layCells _ (λname kind cells=>by cases F:kind==On.cell<;>simp [F]) _ _ _ _ ?_);rw [show ({ s with heap:=s.heap.push { cls:=.type "dict",data:=.dict #[] } }:we).heap.objs.size=s.heap.objs.size+1 from Pl ..];exact fv (Nv (Nv O))
def aG(sc:Scope)(names:List (Str×On))(N N':List Str)(ix:List (Option Nat)):Bool :=
 sc.kind == .function&&sc.names.all (λy=>(y.2 != .cell||sc.names.lookup y.1==some .cell)&&(y.2 != .local||sc.names.lookup y.1==some .local)&&(y.2 != .free||(names.lookup y.1==some .cell&&sc.names.lookup y.1==some .free)) ) &&
 ix.length==N'.length&&(RG ix.length).all (λi=>match ix.getD i none with
  | none=>true
  | some j=>(match N'[i]?,N[j]? with|some x,some y=>x==y&&sc.names.lookup x==some .free|_,_=>false))
def cz(ix:List (Option Nat))(σ:St):St:=ix.map λo=>o.bind λj=>(σ[j]?).join
structure zU(X:Cx)(sc:Scope)(N':List Str)(ix:List (Option Nat)):Prop where
 kind:sc.kind = .function
 cell:∀y∈sc.names,y.2 = .cell->sc.names.lookup y.1=some .cell
 names:∀y∈sc.names,y.2 = .local->sc.names.lookup y.1=some .local
 free:∀y∈sc.names,y.2 = .free->X.env.kindOf y.1=some .cell/\sc.names.lookup y.1=some .free
 len:ix.length=N'.length
 at_:∀(i j:Nat),ix[i]?=some (some j)->∃x,N'[i]?=some x/\X.N[j]?=some x/\sc.names.lookup x=some .free
theorem zU.of(h:aG sc X.env.scope.names X.N N' ix=true):zU X sc N' ix:=by
 unfold aG at h;simp only [Oc,Ol] at h;obtain ⟨⟨⟨h1,h2⟩,h3⟩,h4⟩:=h;refine ⟨by simpa using h1,λy F z=>?_,λy F z=>?_,λy F z=>?_,by simpa using h3,λi j e=>?_⟩
 .have q:=(h2 y F).1.1;rw [z] at q;simpa using q
 .have q:=(h2 y F).1.2;rw [z] at q;simpa using q
 .have q:=(h2 y F).2;rw [z] at q;simp only [bne_self_eq_false,Bool.false_or,Oc,beq_iff_eq] at q;exact q
 .have hi:i<ix.length:=(Nt.mp e).1;have:=h4 i (Si.mpr hi);have O:ix.getD i none=some j:=by rw [Nr,e];rfl
  rw [O] at this;dsimp only at this;cases G:N'[i]? with
  | none=>rw [G] at this;simp at this
  | some x =>
   cases J:X.N[j]? with
   | none=>rw [G,J] at this;simp at this
   | some y =>
    rw [G,J] at this;simp only [Oc,beq_iff_eq] at this;exact ⟨x,rfl,by rw [this.1],this.2⟩
def zP(X:Cx)(sc:Scope)(N':List Str)(Go:List (Addr×Obj))(C:Addr)(fp:List Addr)(s:we)(H:Hp):Cx :=
 { X with N:=N',s₀:=s,H₀:=H,env:=compEnvC sc (fE X.env.cells sc C) C X.env,outer:=X.stack,stack:=X.stack,ex:=fp,fn:=λx=>sc.names.lookup x==some .cell,pn:=X.pn++Go,xe:=λ_ _=>False }
theorem HOk.add{o:HO}(x:HOk P w H h)(hn:H D=none)(new:ao P w (upd H D o) h D o):HOk P w (upd H D o) h:=λb u e=>by
 by_cases hb:b=D
 .subst hb;rw [zx] at e;cases e;exact new
 .rw [zd hb] at e;exact (x b u e).stay (λ_ _ _ q=>q) (λc q=>by rw [zd (zE q hn)];exact q) λc xs q=>by rw [zd (zE q hn)];exact q
theorem HOk.but(x:HOk P w H h)(hn:H C=none)(k:∀b u,b≠C->h.get? b=some u->h'.get? b=some u):HOk P w H h':=λb u e =>
 (x b u e).stay (λc v hc q=>k c v (by
  rcases hc with z|z
  .rw [z];exact zE e hn
  .exact zE z hn) q) (λ_ q=>q) λ_ _ q=>q
theorem FB(F:env.scope.kind = .function)(hf:∀y∈sc.names,y.2 = .free->env.kindOf y.1=some .cell):
  ∀x,(relabel sc env).names.lookup x=(sc.names.lookup x).map λk=>if k == .free then .cell else k:=by
 intro x;have em:(relabel sc env).names=sc.names.map λy=>(y.1,if y.2 == .free then On.cell else y.2):=by
  show sc.names.map _=_;refine O6 λy J=>?_;obtain ⟨n,k⟩:=y;by_cases z:k = .free
  .subst z;have e:env.kindOf n=some .cell:=hf (n,.free) J rfl;simp [F,e]
  .have hb:(k==On.free)=false:=by simpa using z
   simp [hb]
 rw [em];generalize sc.names=l
 induction l with
 | nil=>rfl
 | cons y r G =>
  obtain ⟨n,k⟩:=y;simp only [Om,QC];cases x==n with
  | true=>rfl
  | false=>exact G
theorem zU.of2(J:X.env.scope.kind = .function)(L:zU X sc N' ix)(h:aG z (sc.names.map λy=>(y.1,if y.2 == .free then On.cell else y.2)) N' F ix'=true):zU (zP X sc N' Go C fp s H) z F ix':=by
 refine zU.of ?_;have e:(relabel sc X.env).names=sc.names.map λy=>(y.1,if y.2 == .free then On.cell else y.2):=by
  show sc.names.map _=_;refine O6 λy O=>?_;obtain ⟨n,k⟩:=y;by_cases G:k = .free
  .subst G;have e:X.env.kindOf n=some .cell:=(L.free (n,.free) O rfl).1;simp [J,e]
  .have hb:(k==On.free)=false:=by simpa using G
   simp [hb]
 show aG z (relabel sc X.env).names N' F ix'=true;rw [e];exact h
section
variable {X:Cx}{sc:Scope}{N':List Str}{ix:List (Option Nat)}
theorem Bv{i:Nat}(h:(cz ix σ)[i]?=some (some v)):∃j,ix[i]?=some (some j)/\σ[j]?=some (some v):=by
 unfold cz at h;rw [NJ] at h;cases e:ix[i]? with
 | none=>rw [e] at h;cases h
 | some o =>
  rw [e] at h;have h':(o.bind λj=>(σ[j]?).join)=some v:=Ob.inj h;cases o with
  | none=>cases h'
  | some j =>
   have F:(σ[j]?).join=some v:=h';cases G:σ[j]? with
   | none=>rw [G] at F;cases F
   | some z =>
    rw [G] at F;have:z=some v:=F;exact ⟨j,rfl,by rw [G,this]⟩
theorem LM(I:Inv X Go σ H s)(L:zU X sc N' ix)(f:∀b∈fp,dY X Go H b)(fl:∀b∈fp,b<s.heap.objs.size)(O:s.heap.objs.size<=C)(ab:h₁.Ns C m)(U:∀b o,s.heap.get? b=some o->h₁.get? b=some o)(own:lU X.env.cells sc C h₁):
  Inv (zP X sc N' Go C fp s H) [] (cz ix σ) H { s with heap:=h₁,toks:=tk }:=by
 have lt:∀{x c},X.env.cells.lookup x=some c->¬ C<c:=λ{x c} h=>by
  obtain ⟨_,q⟩:=I.cell x c h;have:=q.lt;lia
 have rl:=FB (sc:=sc) (env:=X.env) I.ok.kind λy hy G=>(L.free y hy G).1;have J:∀x,sc.names.lookup x=some .free->∃c,(fE X.env.cells sc C).lookup x=some c/\X.env.cells.lookup x=some c:=λx hx=>by
  have hm:(x,On.free)∈sc.names:=OL hx;obtain ⟨c,hc⟩:=I.ok.has x (.inl (L.free _ hm rfl).1);obtain ⟨c',W⟩:=R4.mp (lF (names:=sc.names) (n:=C+1) (v5 (cs:=[]) hm hc));rcases own.ao x c' W with a|a
  .have:=L.cell _ a.2.2 rfl;rw [hx] at this;cases this
  .exact ⟨c',W,a.1⟩
 refine ⟨⟨I.ok.mod,L.kind,I.ok.glob,I.ok.blt,O,λx y c h1 h2=>?_,λx hx=>?_,λx c h h'=>?_,I.ok.hd,I.ok.frames,.inl rfl,λb hb=>⟨Oh (NT (fl b hb) O),λx c h=>?_⟩,
   I.bs,N6 I.ok.ah I.sz,λb o e hb=>?_,λb hb z=>?_,I.stack,I.UJ⟩,rfl,I.bare,Un.kept U,⟨m,ab,λi x v e1 e2 e3=>?_⟩,λx c h=>?_,I.hok.fresh O,λx c h=>?_,λp hp=>?_,I.hok.kept U,?_,I.hdk⟩
 .rcases own.ao x c h1 with a|a<;>rcases own.ao y c h2 with b|b
  .rcases own.inj x y c h1 h2 a.1 with e|e|e
   .exact e
   .exact absurd a.1 (lt e)
   .exact absurd a.1 (lt e)
  .exact absurd a.1 (lt b.1)
  .exact absurd b.1 (lt a.1)
  .exact I.ok.inj x y c a.1 b.1
 .have F:(relabel sc X.env).names.lookup x=some .cell\/(relabel sc X.env).names.lookup x=some .free:=hx;rw [rl x] at F;cases e:sc.names.lookup x with
  | none=>rw [e] at F;simp at F
  | some k =>
   have G:k = .free\/k = .cell:=by
    cases k with
    | free=>exact .inl rfl
    | cell=>exact .inr rfl
    | _=>rw [e] at F;revert F;decide
   rcases G with G|G
   .subst G;obtain ⟨c,h1,_⟩:=J x e;exact ⟨c,h1⟩
   .subst G;exact R4.mp (qS (OL e))
 .rcases own.ao x c h' with a|a
  .exact N6 O (Pj a.1)
  .have:=(L.free _ a.2 rfl).2;have h:(sc.names.lookup x==some .cell)=true:=h;rw [this] at h;exact absurd h (by decide)
 .rcases own.ao x c h with a|a
  .have:=fl b hb;have:=a.1;exact λz=>by subst z;lia
  .exact (f b hb).2.2.2.2.1 x c a.1
 .rcases (f b hb).2.2.2.1 with z|z
  .exact I.ok.Vi b o e z
  .exact absurd (NT (NR (I.ok.bs b o e).1) z) (Od _)
 .rcases Nw.mp (I.Tu b z) with e|e
  .exact (f b hb).2.1 e
  .exact (f b hb).2.2.1 e
 .obtain ⟨j,hj,hv⟩:=Bv e2;obtain ⟨y,n1,n2,n3⟩:=L.at_ i j hj;have Z:x=y:=Ob.inj ((show N'[i]?=some x from e1).symm.trans n1);subst Z;obtain ⟨c,c1,c2⟩:=J x n3;have kf:=(L.free _ (OL n3) rfl).1;obtain ⟨m0,ai,hl⟩:=I.loc;obtain ⟨u,r,l⟩:=hl j x v n2 hv (.inr (.inl kf));refine ⟨u,r,.inr ⟨.inl ?_,c,c1,?_⟩⟩
  .show (relabel sc X.env).names.lookup x=some .cell;rw [rl x,n3];rfl
  .rcases l with ⟨G,_⟩|⟨_,c',W,z⟩
   .have S:X.env.kindOf x=some .cell:=kf;rw [G] at S;cases S
   .rw [c2] at W;cases W;obtain ⟨oc,ho,hd⟩:=z;exact ⟨oc,U _ _ ho,hd⟩
 .rcases own.ao x c h with a|a
  .exact ⟨_,a.2.1⟩
  .obtain ⟨v,oc,ho,hd⟩:=I.cell x c a.1;exact ⟨v,oc,U _ _ ho,hd⟩
 .rcases own.ao x c h with a|a
  .exact I.hok.fresh (N6 O (Pj a.1))
  .exact I.Pv x c a.1
 .have ag:p∈X.pn++Go:=by
   have:p∈(X.pn++Go)++[]:=hp;simpa using this
  obtain ⟨a,b,c,d,e⟩:=I.pin p ag;exact ⟨U _ _ a,b,Oh (NT (NR a) O),λz=>(Nw.mp (I.Tu p.1 z)).elim c d,e⟩
 .show (cz ix σ).length=N'.length;unfold cz;rw [KE,L.len]
end
def PTs(X:Cx)(z:List N0)(t:TT):Prop :=
 ∀(Go:List (Addr×Obj))(s:we)(σ:St)(H:Hp)(Q:Bool->Hp->Prop),Inv X Go σ H s->t σ H Q ->
  NF (NL X.prog X.w) X.A (forIn z true λc r=>if r=true then do let ok<-isTrue c X.env (Os c X.env);pure (ForInStep.yield ok) else pure (ForInStep.yield r)) (TP X Go σ Q) X.xe s
def oy:TT:=λ_ H Q=>Q true H
theorem di:W (PTs X [] oy):=⟨λ_ _ _ H _ I h=>wpAny_tests_nil ⟨H,I,h⟩⟩
theorem dU{t:TT}(h:W (PT X c t)):W (PTs X [c] t):=by refine ⟨?_⟩;have h:=h.h;exact λGo s σ H Q I q=>wpAny_tests_one (h Go s σ H Q I q)
theorem Lc{e tg iter : N0}{Zf : List N0}(hct : (∀ B : NP, B.under (.compLoop e 0 it ZJ env) = B) ∧ (NL prog w).den (.compLoop e 0 it ZJ env) = Sem.onRaise (do
      QH iter.pos
      match ← Ql it with
      | none => pure (.done .next)
      | some v =>
        Qt tg it v
        assign tg env v
        let mut ok := true
        for c in Zf do
          if ok then ok ← isTrue c env (Os c env)
        if ok then
          em
        again (.compLoop e 0 it ZJ env)) (fun x => do Sh x env; theTreesLotGoes x))(I:Nat->we->Prop)(W:∀n s,I n s->NF (NL prog w) A (Ql it) (λr s₁=>match r with
   | none=>R (.ok .next) s₁
   | some v=>NF (NL prog w) A (Qt tg it v) (λ_ F=>NF (NL prog w) A (assign tg env v) (λ_ J =>
     NF (NL prog w) A (forIn Zf true λc r=>if r=true then do let ok<-isTrue c env (Os c env);pure (ForInStep.yield ok) else pure (ForInStep.yield r)) (λok s₃ =>
      if ok=true then NF (NL prog w) A em (λ_ O=>∃m,m<n/\I m O) (λ_ _=>False) s₃
      else ∃m,m<n/\I m s₃) (λ_ _=>False) J) (λ_ _=>False) F) (λ_ _=>False) s₁) (λ_ _=>False) s)(n:Nat)(h:I n s):Qx (NL prog w) A (.compLoop e 0 it ZJ env) R s:=by
 refine codeAny_loop rfl I (λn s hI=>?_) n h;rw [hct.1,hct.2];refine wpAny_noted (OG (E:=λ_ _=>False) ?_ (λ_ _ q=>q) λ_ _ z=>z.elim);refine fv (PN (fv (OG (W n s hI) (λr s₁ h₁=>?_) λ_ _ h'=>h')));cases r with
 | none=>exact Nv h₁
 | some v =>
  refine fv (OG h₁ (λ_ F S=>?_) λ_ _ h'=>h');refine fv (OG S (λ_ J Z=>fv (OG Z (λok s₃ G=>?_) λ_ _ h'=>h')) λ_ _ h'=>h');cases ok with
  | false=>exact Nv ⟨rfl,G⟩
  | true=>exact fv (OG G (λ_ O U=>Nv ⟨rfl,U⟩) λ_ _ h'=>h')
def tLC(ix:List (Option Nat))(wi:TI)(g:TG)(tt:TT)(te:TE):TE:=λσ H Q=>wi σ H λJ H1=>∃W:Nat->Nat->St->List V->Hp->Prop,(∃m,W 0 m (cz ix σ) [] H1)/\∀i m τ ys H2,W i m τ ys H2->ys.length<sizeLine /\
 ((J.stop i H2 ∧ ∀ D, H2 D = none → D ≠ sysModules → Q (.ref D) (upd H2 D (.lst ys))) ∨
  (J.go i H2 ∧ ∀ x H3, J.ai i H2 x H3 → g x τ H3 fun z H4 => tt z H4 fun ok H5 => if ok = true then te z H5 fun y H6 => ∃ F, F < m ∧ W (i + 1) F z (ys ++ [y]) H6 else ∃ F, F < m ∧ W (i + 1) F z ys H5))
theorem yS{α:Type}{Q:VK}{em:Addr->Env->Sem Unit}(len:α->Nat)(ho:α->HO)(a0:α)(At:α->Obj->Prop)(tm:(α->Hp->Prop)->α->St->Hp->Prop)(ct:clausesOf e=[⟨tg,iter,Zf,0⟩])(hsz:sizeOk dt)(df:∀it D env,(∀B:NP,B.under (.compLoop e 0 it (.ref D) env)=B)/\(NL X.prog X.w).den (.compLoop e 0 it (.ref D) env)=Sem.onRaise (do
   QH iter.pos
   match<-Ql it with
   | none=>pure (.done .next)
   | some v =>
    Qt tg it v
    assign tg env v
    let mut ok:=true
    for c in Zf do
     if ok then ok<-isTrue c env (Os c env)
    if ok then
     em D env
    again (.compLoop e 0 it (.ref D) env)) (λx=>do Sh x env;theTreesLotGoes x))(hst:∀{A:NP}{R:Result->we->Prop}{s:we}{it ZJ:Value}{env:Env},Qx (NL X.prog X.w) A (.compLoop e 0 it ZJ env) R s->NF (NL X.prog X.w) A (pyIter it) (λdd s'=>Qx (NL X.prog X.w) A (.compLoop e 0 dd ZJ env) R s') (notedBy (NL X.prog X.w) A env λx s'=>R (.error x) s') s->Qx (NL X.prog X.w) A (.compStart e 0 it ZJ env) R s)(h0:At a0 { cls:=.type T,dict:=none,data:=dt })(YL:({ cls:=.type T,dict:=none,data:=dt }:Obj).isFreed=false)(a7:∀{ys o},At ys o->∀v,o.data≠.cell v)(bq:∀{ys o H' h D},At ys o->len ys<sizeLine->D≠sysModules->h.get? D=some o->ao X.prog X.w H' h D (ho ys))(c2:∀Go C fp s H pins' s8 τ H8 ys ob D (K:α->Hp->Prop),Inv (zP X sc N' Go C fp s H) pins' τ H8 s8->tm K ys τ H8->At ys ob->len ys<sizeLine->(D,ob)∈pins' ->
   NF (NL X.prog X.w) X.A (em D (zP X sc N' Go C fp s H).env) (λ_ s'=>∃s9 bp H9 ak h' tk,s'={ s9 with heap:=h',toks:=tk }/\K bp H9/\Inv (zP X sc N' Go C fp s H) pins' τ H9 s9/\At bp ak/\h'.get? D=some ak/\Q8 D s9.heap h') (λ_ _=>False) s8)(hc:c=true->X.calm=true)(L:zU X sc N' ix)(hi:PIc c X tg iter wi)(hg:∀Go C fp s H,PG (zP X sc N' Go C fp s H) tg g)(ht:∀Go C fp s H,PTs (zP X sc N' Go C fp s H) Zf tt)(hs:∀x,O7 iter X.env x=pure x)(I:Inv X Go σ H s)(h:wi σ H λJ H1=>∃W:Nat->Nat->St->α->Hp->Prop,(∃m,W 0 m (cz ix σ) a0 H1)/\∀i m τ ys H2,W i m τ ys H2->len ys<sizeLine /\
   ((J.stop i H2 ∧ ∀ D, H2 D = none → D ≠ sysModules → Q (.ref D) (upd H2 D (ho ys))) ∨
    (J.go i H2 ∧ ∀ x H3, J.ai i H2 x H3 → g x τ H3 fun ai H4 => tt ai H4 fun ok H5 => if ok = true then tm (fun zs H6 => ∃ m', m' < m ∧ W (i + 1) m' ai zs H6) ys ai H5 else ∃ m', m' < m ∧ W (i + 1) m' ai ys H5)))(kk:∀(C D:Addr)(oC:Obj)(H':Hp)(s5:we)(m5:Str->Option Value),Inv X (Go++[(C,oC)]) σ H' s5->(∀{F:Heap},F.get? C=some oC->F.Ns C m5)->(∀{bc:St}{a4:Hp}{s':we}{h':Heap},Inv X Go bc a4 s'->a4 C=none->Q8 C s'.heap h'->Inv X Go bc a4 { s' with heap:=h' })->Q (.ref D) H'->compPost (NL X.prog X.w) X.A X.xe use R (.ref D) C (.ok .next) s5):
  NF (NL X.prog X.w) X.A (comprehension e sc X.env (firstIterPos [⟨tg,iter,Zf,0⟩] pos) (newObj (.type T) dt none) (firstAsync [⟨tg,iter,Zf,0⟩]) (firstIter [⟨tg,iter,Zf,0⟩] X.env) use) R X.xe s:=by
 have a5:RU sc X.env=pure (cw X.env.cells sc.names []):=KO λy hy hk=>I.ok.has y.1 (.inl (L.free y hy hk).1);refine wpAny_comprehension_free (use:=use) ct hs a5 L.kind L.names (thn (hi Go s σ H _ I h) λv s1 h1=>thn h1 λdq s2 h2=>?_);obtain ⟨it,fp,tn,J,H2,e,S,T',bx,f2,W,⟨m0,w0⟩,ba⟩:=h2;subst e;refine Ou (B0 ?_) hsz;dsimp only;generalize a6:s2.heap.push { cls:=.type T,dict:=none,data:=dt }=G2;have hC:G2.objs.size=s2.heap.objs.size+1:=by rw [<- a6,Pl]
 have bB:s2.heap.objs.size≠G2.objs.size:=by rw [hC];exact Oh (Rn _)
 have XH:s2.heap.objs.size<=G2.objs.size:=by rw [hC];exact Sy _
 have below:∀b,b<s2.heap.objs.size->b≠G2.objs.size/\b≠s2.heap.objs.size:=λb hb=>⟨by rw [hC];exact Oh (QP hb),Oh hb⟩;have Y2:∀b o,s2.heap.get? b=some o->(RJ (G2.push { cls:=.type "dict",data:=.dict #[] }) sc.names).get? b=some o:=λb o e=>pushCells_keeps _ _ _ _ (zv _ (a6 ▸ zv _ e));have O:(RJ (G2.push { cls:=.type "dict",data:=.dict #[] }) sc.names).Ns G2.objs.size λ_=>none:=(Heap.Ns.new G2 (.type "dict")).keeps (pushCells_keeps _ _);have own:lU X.env.cells sc G2.objs.size (RJ (G2.push { cls:=.type "dict",data:=.dict #[] }) sc.names):=.mk' (Pl ..);have XU:(RJ (G2.push { cls:=.type "dict",data:=.dict #[] }) sc.names).get? s2.heap.objs.size=some { cls:=.type T,dict:=none,data:=dt }:=pushCells_keeps _ _ _ _ (zv _ (a6 ▸ NK _ YL));generalize RJ (G2.push { cls:=.type "dict",data:=.dict #[] }) sc.names=h₁ at Y2 O own XU ⊢;have fl:∀b∈fp,b<s2.heap.objs.size:=λb hb=>by
  obtain ⟨o,e,_⟩:=T'.obj 0 _ bx b hb;exact NR e
 have ag:s2.heap.objs.size∉fp:=λz=>Od _ (fl _ z);generalize Z:s2.heap.objs.size=D at *
 generalize dp:G2.objs.size=C at *
 have bZ:tn 0 h₁:=T'.keep _ _ _ bx λb _ o e=>Y2 b o e;have I3:Inv (zP X sc N' Go C fp s2 H2) [] (cz ix σ) H2 { s2 with heap:=h₁ }:=LM (tk:=s2.toks) S L f2 (λb hb=>by rw [Z];exact fl b hb) (by rw [Z];exact XH) O Y2 own;have D0:H2 D=none:=S.hok.fresh (Sk Z);have fD:∀{H':Hp},H' D=none->dY (zP X sc N' Go C fp s2 H2) [] H' D:=λ{H'} hn=>by
  refine ⟨hn,bB,λz=>?_,.inr (Sk Z),λx c hx z=>?_,λp F z=>?_⟩
  .obtain ⟨_,o,ho,_⟩:=S.stack.mem (show D∈frs X.stack from z);exact absurd (NR ho) (by rw [Z];exact Od _)
  .rcases own.ao x c hx with a|a
   .have:=a.1;rw [z] at this;exact absurd this (SK.mpr XH)
   .obtain ⟨v,q⟩:=S.cell x c a.1;have:=q.lt;rw [z,Z] at this;exact Od _ this
  .have c9:p∈X.pn++Go:=by
    have:p∈(X.pn++Go)++[]:=F;simpa using this
   have:=NR (S.pin p c9).1;rw [z,Z] at this;exact Od _ this
 have fF:∀{H':Hp},(∀b∈fp,H' b=none)->∀b∈fp,dY (zP X sc N' Go C fp s2 H2) [] H' b:=λ{H'} hn b hb=>by
  obtain ⟨_,g1,g2,g3,g4,g5⟩:=f2 b hb;refine ⟨hn b hb,(below b (fl b hb)).1,λz=>?_,.inl hb,λx c hx=>?_,λp F=>g5 p ?_⟩
  .rcases Nw.mp (S.Tu b z) with e|e
   .exact g1 e
   .exact g2 e
  .rcases own.ao x c hx with a|a
   .have:=a.1;have:=fl b hb;exact λz=>by subst z;lia
   .exact g4 x c a.1
  .have:p∈(X.pn++Go)++[]:=F;simpa using this
 have aT:∀s₃:we,s₃={ s2 with heap:=h₁ } ->
   Qx (NL X.prog X.w) X.A (.compLoop e 0 (.ref it) (.ref D) (compEnvC sc (fE X.env.cells sc C) C X.env))
    (compPost (NL X.prog X.w) X.A X.xe use R (.ref D) C) s₃:=by
  rintro s₃ rfl;refine Lc (df _ _ _) (λn s'=>∃i τ ys H',Inv (zP X sc N' Go C fp s2 H2) [] τ H' s'/\tn i s'.heap/\(∀b∈fp,H' b=none)/\H' D=none/\(∃ob,At ys ob/\s'.heap.get? D=some ob)/\W i n τ ys H')
   ?_ m0 ⟨0,_,a0,H2,I3,bZ,λb hb=>(f2 b hb).1,D0,⟨_,h0,XU⟩,w0⟩
  rintro n s4 ⟨i,τ,ys,H4,I4,bt,b6,G,⟨ob,av,dg⟩,w4⟩;obtain ⟨Z7,step⟩:=ba i n τ ys H4 w4;rcases step with ⟨stop,cC⟩|⟨go,step⟩
  .refine thn (T'.done (zP X sc N' Go C fp s2 H2) rfl rfl rfl hc i [(D,ob)] s4 τ H4 (λ_ _=>False) (I4.L0 λp F=>?_) (λb hb=>?_) bt stop) λr s5=>x2e λhr I5=>?_
   .have e:p=(D,ob):=by simpa using F
    subst e;obtain ⟨g0,g1,g2,_⟩:=fD G;exact ⟨dg,g0,g1,g2,a7 av⟩
   .obtain ⟨g0,g1,g2,g3,g4,g5⟩:=fF b6 b hb;refine ⟨g0,g1,g2,g3,g4,λp F=>?_⟩;rcases Og.mp F with z|z
    .exact g5 p (OQ _ z)
    .have e:p=(D,ob):=by simpa using z
     subst e;exact λq=>ag (by have q':D=b:=q;rw [q'];exact hb)
   .subst hr;have c4:=(I5.pin (D,_) (NU _ (NG.mpr rfl))).1;obtain ⟨m5,c6,_⟩:=id I5.loc;have ZQ:∀b o,s2.heap.get? b=some o->b≠C/\b≠D:=λb o e=>by
     have:=NR e;rw [Z] at this;exact below b this
    have bA:D≠sysModules:=by have h:NA<s2.heap.objs.size:=(S.mod.glob.keeps S.bk).lt;rw [Z] at h;exact Qs (Nat.lt_trans (by decide) h)
    have U:=I5.base;have IX:Inv X Go σ (upd H4 D (ho ys)) s5:=by
     refine S.ag (s':=s5) (ch:=fp) I5.os ⟨λb o e n hb hx=>U.keep b o e n hb hx,λb o e n hb hx=>U.slot b o e n hb hx,λb o e n hx=>?_,λb o e hx=>U.there b o e hx,λb xs e=>?_,λb o u e=>?_,λb ps e=>?_⟩ ?_ I5.bare (λb hb=>?_)
     .rw [zd (ZQ b o e).2];exact U.free b o e n hx
     .have q:=U.tups b xs e;rw [zd (zE q G)];exact q
     .have q:=U.frzs b o u e;rw [zd (zE q G)];exact q
     .obtain ⟨more,q⟩:=U.tbls b ps e;exact ⟨more,by rw [zd (zE q G)];exact q⟩
     .exact I5.hok.add G (bq av Z7 bA c4)
     .obtain ⟨_,g1,g2,g3,g4,g5⟩:=f2 b hb;exact ⟨g3,g1,g4,g5⟩
    obtain ⟨oC,c3,cv,gC,rC⟩:=id c6;have a8:∀v,oC.data≠.cell v:=λv z=>by rw [rC.1] at z;cases z
    have bP:C≠D:=NO bB;have HC:upd H4 D (ho ys) C=none:=by rw [zd bP];exact I5.free
    have a3:C≠X.env.locals:=λz=>by
     have:=S.lt;rw [<- z,Z] at this;exact absurd (NT this XH) (Od _)
    have c5:C∉X.fs:=S.a0 (by rw [Z];exact XH);have b8:=IX.L0 (pins':=Go++[(C,oC)]) λp F=>by
     rcases Og.mp F with z|z
     .exact IX.pin p (NU _ z)
     .rw [NG.mp z];exact ⟨gC,HC,a3,c5,a8⟩
    refine kk C D oC _ s5 m5 b8 (λe=>⟨oC,c3,cv,e,rC⟩) (λ{dk H6 s6 h'} I7 da b9=>I7.turned (t':=s6.toks) (it:=C) (λb o hb e=>(b9.2 b hb).trans e) da a3 (.inr (N6 S.sz (by rw [Z];exact XH))) (λx c hx z=>?_) (λp F z=>?_)) (cC D G bA)
    .obtain ⟨v,q⟩:=S.cell x c hx;have:=q.lt;rw [z,Z] at this;exact absurd (NT this XH) (Od _)
    .have:=NR (S.pin p F).1;rw [z,Z] at this;exact absurd (NT this XH) (Od _)
  .refine thn (T'.item (zP X sc N' Go C fp s2 H2) rfl rfl rfl hc i [(D,ob)] s4 τ H4 (λ_ _=>False) (I4.L0 λp F=>?_) (λb hb=>?_) bt go) λr s5=>x3e λu hr h5=>?_
   .have e:p=(D,ob):=by simpa using F
    subst e;obtain ⟨g0,g1,g2,_⟩:=fD G;exact ⟨dg,g0,g1,g2,a7 av⟩
   .obtain ⟨g0,g1,g2,g3,g4,g5⟩:=fF b6 b hb;refine ⟨g0,g1,g2,g3,g4,λp F=>?_⟩;rcases Og.mp F with z|z
    .exact g5 p (OQ _ z)
    .have e:p=(D,ob):=by simpa using z
     subst e;exact λq=>ag (by have q':D=b:=q;rw [q'];exact hb)
   .subst hr;refine thn h5 λ_ s6=>x5e λx H6 I6 r6 Ys=>?_;obtain ⟨y6,a9,cD⟩:=Ys;obtain ⟨aj,cp,_⟩:=I6.pin (D,_) (NU _ (NG.mpr rfl));have b0:H6 D=none:=cp;have bL:∀b∈D::fp,dY (zP X sc N' Go C fp s2 H2) [] H6 b:=λb hb=>by
     rcases Nw.mp hb with z|z
     .subst z;exact fD b0
     .exact fF cD b z
    have b5:∀b∈D::fp,∃o,s6.heap.get? b=some o/\∀v,o.data≠.cell v:=λb hb=>by
     rcases Nw.mp hb with z|z
     .subst z;exact ⟨_,aj,a7 av⟩
     .exact T'.obj _ _ a9 b z
    have cc:=(I6.SU (Go:=[])).pinned bL b5;refine thn (hg Go C fp s2 H2 _ s6 τ H6 x u _ cc r6 (step x H6 y6)) λ_ s7=>x4e λab H7 I7 q7=>?_;refine thn (ht Go C fp s2 H2 _ s7 ab H7 _ I7 q7) λok s8=>x3e λH8 I8 q8=>?_;have back:∀{s9:we}{H9:Hp},Inv (zP X sc N' Go C fp s2 H2) ([]++iL (D::fp) s6.heap) ab H9 s9->s9.heap.get? D=some ob/\H9 D=none/\tn (i+1) s9.heap/\∀b∈fp,H9 b=none:=λ{s9 H9} I9=>by
     have pin:∀b o,b∈D::fp->s6.heap.get? b=some o->s9.heap.get? b=some o/\H9 b=none:=λb o hb e=>by
      have q:=I9.pin (b,o) (NU _ (NU _ (kW hb e)));exact ⟨q.1,q.2.1⟩
     refine ⟨(pin D _ NX aj).1,(pin D _ NX aj).2,T'.keep _ _ _ a9 λb hb o e=>(pin b o (ND _ hb) e).1,λb hb=>?_⟩;obtain ⟨o,e,_⟩:=T'.obj _ _ a9 b hb;exact (pin b o (ND _ hb) e).2
    cases ok with
    | false =>
     obtain ⟨b1,b2,b3,b4⟩:=back I8;simp only [Pi,if_false] at q8 ⊢;obtain ⟨m',hm,w'⟩:=q8;exact ⟨m',hm,i+1,ab,ys,H8,I8.SU,b3,b4,b2,⟨ob,av,b1⟩,w'⟩
    | true =>
     simp only [if_true] at q8 ⊢;refine thn (c2 Go C fp s2 H2 _ s8 ab H8 ys ob D _ I8 q8 av Z7 (NU _ (kW NX aj))) λ_ s'=>?_;rintro ⟨s9,zs,H9,ak,dm,tk,rfl,⟨m',hm,w'⟩,I9,cP,b7,sb⟩;obtain ⟨b1,b2,b3,b4⟩:=back I9;obtain ⟨_,g1,_,g3,g4,g5⟩:=fD b2;exact ⟨m',hm,i+1,ab,zs,H9,(I9.SU (Go:=[])).turned (t':=tk) (λb o hb e=>(sb.2 b hb).trans e) b2 g1 g3 g4 g5,T'.keep _ _ _ b3 λb hb o e=>(sb.2 b λq=>ag (by rw [<- q];exact hb)).trans e,b4,b2,⟨ak,cP,b7⟩,w'⟩
 exact hst (aT _ rfl) (T'.self _ 0 _ _ _ bZ (aT _ rfl))
theorem xo(hc:c=true->X.calm=true)(L:zU X sc N' ix)(hi:PIc c X tg iter wi)(hg:∀Go C fp s H,PG (zP X sc N' Go C fp s H) tg g)(ht:∀Go C fp s H,PTs (zP X sc N' Go C fp s H) G tt)(he:∀Go C fp s H,PE (zP X sc N' Go C fp s H) XT te)(hs:∀x,O7 iter X.env x=pure x)(I:Inv X Go σ H s)(h:tLC ix wi g tt te σ H Q)(kk:∀(C D:Addr)(W:Obj)(H':Hp)(s5:we)(m5:Str->Option Value),Inv X (Go++[(C,W)]) σ H' s5->(∀{Z:Heap},Z.get? C=some W->Z.Ns C m5)->(∀{J:St}{F:Hp}{s':we}{h':Heap},Inv X Go J F s'->F C=none->Q8 C s'.heap h'->Inv X Go J F { s' with heap:=h' })->Q (.ref D) H'->compPost (NL X.prog X.w) X.A X.xe use R (.ref D) C (.ok .next) s5):
  NF (NL X.prog X.w) X.A (comprehension (.ListComp XT [⟨tg,iter,G,0⟩] sc pos) sc X.env (firstIterPos [⟨tg,iter,G,0⟩] pos) (newList []) (firstAsync [⟨tg,iter,G,0⟩]) (firstIter [⟨tg,iter,G,0⟩] X.env) use) R X.xe s:=by
 refine yS (e:=.ListComp XT [⟨tg,iter,G,0⟩] sc pos) (em:=λD env=>do let _<-call (.builtin "list.append") [.ref D,<- Os XT env]) (T:="list") (dt:=.seq ([]:List Value).toArray) length HO.lst [] (λys o=>∃its k,zp ys its/\o={ cls:=.type "list",data:=.seq its.toArray k }) (λK ys τ H=>te τ H λy H'=>K (ys++[y]) H') rfl (by size_fits) (λ_ _ _=>⟨λ_=>rfl,rfl⟩) codeAny_compStart_list ⟨[],0,.nil,rfl⟩ rfl ?_ ?_ ?_ hc L hi hg ht hs I h kk
 .rintro ys o ⟨its,k,_,rfl⟩ v z;cases z
 .rintro ys o H' h D ⟨its,k,S,rfl⟩ hl _ e;exact ⟨Pj hl,its,k,S,e⟩
 .rintro Go C fp s H pins' s8 τ H8 ys ob D K I8 q8 ⟨its,k,S,rfl⟩ hl hD;refine fv (thn (he Go C fp s H _ s8 τ H8 _ I8 q8) λy s9=>x5e λyv H9 I9 r9 w'=>?_);have el:its.toArray.size<=sizeLine:=by
   have:=S.length;simp only [NI];lia
  refine fv (append_at (hsz:=el) (I9.pin _ (NU _ hD)).1 λU sb O=>Nv ⟨s9,_,H9,_,U,s9.toks,rfl,w',I9,⟨its++[y],k+1,S.append (.cons r9 .nil),rfl⟩,?_,sb⟩);rw [O];simp
theorem cA(hc:c=true->X.calm=true)(L:zU X sc N' ix)(hi:W (PIc c X tg iter wi))(hg:∀Go C fp s H,W (PG (zP X sc N' Go C fp s H) tg g))(Z:∀Go C fp s H,W (PTs (zP X sc N' Go C fp s H) Zf tt))(he:∀Go C fp s H,W (PE (zP X sc N' Go C fp s H) XT te))(hs:∀x,O7 iter X.env x=pure x:=by intro _;rfl):W (PE X (.ListComp XT [⟨tg,iter,Zf,0⟩] sc pos) (tLC ix wi g tt te)):=by
 refine ⟨?_⟩;have hi:=hi.h;have hg:=λF J O z G=>(hg F J O z G).h;have Z:=λF J O z G=>(Z F J O z G).h;have he:=λF J O z G=>(he F J O z G).h;intro Go s σ H Q I h;rw [eval_ListComp];refine xo (use:=none) hc L hi hg Z he hs I h λC D oC H' s5 m5 IX ns tu q=>?_;obtain ⟨p6,U,_⟩:=IX.pin (C,oC) (NU _ (NU _ (NG.mpr rfl)));exact ⟨m5,ns p6,λh' S=>⟨.ref D,H',tu (IX.L0 λp hp=>IX.pin p (NU _ (OQ _ hp))) U S,rfl,q⟩⟩
structure bu(B:Heap)(l:List Env)(e:Addr)(cls fl:Value)(h:Heap):Prop where
 stays:B.StaysIn h
 new:B.get? e=none
 frames:h.FunFrames B l
 obj:∃oe vs,h.get? e=some oe/\oe.cls=cls/\oe.dict=none/\oe.data = .fields vs/\2<vs.size/\vs[2]?=some .none /\
  (vs[1]?=some .none\/∃T oT ts,vs[1]?=some (.ref T)/\B.get? T=none/\T≠e/\h.get? T=some oT/\oT.data = .fields ts/\ts[3]?=some fl)
section
variable {M:Model}{A:NP}{E:Value->we->Prop}{s:we}{B:Heap}{env:Env}{outer l:List Env}{L e:Addr}{cls fl:Value}
theorem y8(o:Obj)(f:Array Value->Array Value):(o.mapFields f).dict=o.dict:=by
 obtain ⟨c,d,dt,sl⟩:=o;cases dt<;>rfl
theorem A3(Z:A.frames=some (env::outer))(hf:env.frame=some L)(st:B.StaysIn s.heap)(hn:B.get? e=none)(hl:s.heap.FunFrames B (env::outer))(he:s.heap.get? e=some oe)(hc:oe.cls=cls)(X3:oe.dict=none)(hd:oe.data = .fields vs)(hz:2<vs.size)(h2:vs[2]?=some .none)(k:∀h',bu B (env::outer) e cls (OE L) h'->s.heap.UpToSlots h'->Q () { s with heap:=h' }):
  NF M A (do let a<-frameOf env;let pl<-entryPlaceOf L G;let b<-EntryCells.newEntry head a .none (OE L) .none pl;setField (.ref e) 1 b) Q E s:=by
 have J:e∉(env::outer).filterMap (·.frame):=λz=>by
  obtain ⟨_,o,ho,F⟩:=hl.mem z;rw [he] at ho;cases ho;exact F vs hd
 refine fv (wpAny_frameOf_fun Z hl hf λg only=>?_);obtain ⟨_,same,slots⟩:=only;refine fv (wpAny_entryPlaceOf λpl Yr=>?_);have key:∀(tb:Obj)(ts:Array Value),tb.data = .fields ts->ts[3]?=some (OE L)->NF M A (setField (.ref e) 1 (.ref g.objs.size)) Q E { s with heap:=g.push tb }:=by
  intro tb ts td t3;have S:g.get? e=some oe:=(same e J).trans he;have U:(g.push tb).get? e=some oe:=zv _ S;have hT:(g.push tb).get? g.objs.size=some tb:=NK _ (by rw [OX td]);have O:g.objs.size≠e:=Qs (NR S);have fresh:B.get? g.objs.size=none:=by
   cases q:B.get? g.objs.size with
   | none=>rfl
   | some o =>
    obtain ⟨sl,z⟩:=slots _ o (st _ o q);exact absurd (NR z) (Od _)
  have up:∀b o,b≠e->g.get? b=some o->((g.push tb).update e (Sj (·.setIfInBounds 1 (.ref g.objs.size)))).get? b=some o:=λb o hb q =>
   (NS _ _ (NO hb)).trans (zv _ q)
  have W:∀b o,s.heap.get? b=some o->(∀ws,o.data≠.fields ws)->b≠e:=λb o q F z=>by
   rw [z,he] at q;cases q;exact F vs hd
  have dd:=PZ hd (·.setIfInBounds 1 (Ny g.objs.size));refine OY U hd (by lia) (k _ ⟨λb o q=>?_,hn,?_,?_⟩ λb o q F=>?_)
  .refine up b o (λz=>by rw [z,hn] at q;cases q) ((same b λz=>?_).trans (st b o q));rw [(hl.mem z).1] at q;cases q
  .refine hl.of_keeps λb o q F=>?_;obtain ⟨sl,z⟩:=slots b o q;exact ⟨_,up b _ (W b o q F) z,rfl⟩
  .refine ⟨_,_,OF _ U (OX dd),(Rb _ _).trans hc,(y8 _ _).trans X3,dd,by simpa using hz,by rw [Re (by decide)];exact h2,.inr ⟨g.objs.size,tb,ts,?_,fresh,O,?_,td,t3⟩⟩
   .rw [Oq (by lia)]
   .rw [NS _ _ (NO O)];exact hT
  .obtain ⟨sl,z⟩:=slots b o q;exact ⟨sl,up b _ (W b o q F) z⟩
 unfold EntryCells.newEntry newFields;refine fv (Ou ?_ (Yr.sizeOk5 _ _ _ _ _));exact key _ _ rfl (by simp)
theorem Aj(YL:A.frames=some (env::outer))(hf:env.frame=some L)(x:bu B (env::outer) e cls fl s.heap)(k:∀h',bu B (env::outer) e cls (OE L) h'->s.heap.UpToSlots h'->Q () { s with heap:=h' }):NF M A (Sh (.ref e) env) Q E s:=by
 obtain ⟨st,hn,hl,oe,vs,he,hc,U,hd,O,h2,h1⟩:=x;unfold Sh;simp only [hf];rcases h1 with h1|⟨T,oT,ts,h1,W,Te,J,dT,S⟩
 .refine fv (N4 he hd h1 ?_);rw [if_neg (show ¬ ((N7 != N7)=true) by decide)];exact A3 YL hf st hn hl he hc U hd O h2 k
 .refine fv (N4 he hd h1 ?_);rw [if_pos (show (Ny T != N7)=true by simp)];refine fv (N4 J dT S ?_);by_cases G:fl=OE L
  .subst G;rw [if_pos (show (OE L==OE L)=true by simp)];exact Nv (k s.heap ⟨st,hn,hl,oe,vs,he,hc,U,hd,O,h2,.inr ⟨T,oT,ts,h1,W,Te,J,dT,S⟩⟩ (UpToSlots.refl _))
  .rw [if_neg (show ¬ ((fl==OE L)=true) by simpa using G)];refine fv (OY J dT (OP.mp S).1 ?_);have oth:∀b,b≠T->(s.heap.update T (Sj (·.setIfInBounds 3 N7))).get? b=s.heap.get? b:=λb hb=>NS _ _ (NO hb);have Z:∀b o,s.heap.get? b=some o->(∀ws,o.data≠.fields ws)->b≠T:=λb o q F z=>by
    rw [z,J] at q;cases q;exact F ts dT
   refine A3 (B:=B) (cls:=cls) YL hf (λb o q=>?_) hn (hl.of_keeps λb o q F=>⟨o,(oth b (Z b o q F)).trans q,rfl⟩) ((oth e (NO Te)).trans he) hc U hd O h2 λh' y up=>k h' y λb o q F=>up b o ((oth b (Z b o q F)).trans q) F;exact (oth b λz=>by rw [z,W] at q;cases q).trans (st b o q)
theorem qv(x:bu B l e cls fl s.heap)(k:∀h',bu B l e cls .none h'->s.heap.UpToSlots h'->Q () { s with heap:=h' }):NF M A (setFlight (.ref e) none) Q E s:=by
 obtain ⟨st,hn,hl,oe,vs,he,hc,Z,hd,W,h2,h1⟩:=x;unfold setFlight;rcases h1 with h1|⟨T,oT,ts,h1,O,U,J,dT,t3⟩
 .refine fv (N4 he hd h1 ?_);rw [if_neg (show ¬ ((N7 != N7)=true) by decide)];exact Nv (k s.heap ⟨st,hn,hl,oe,vs,he,hc,Z,hd,W,h2,.inl h1⟩ (UpToSlots.refl _))
 .refine fv (N4 he hd h1 ?_);rw [if_pos (show (Ny T != N7)=true by simp)];have G:3<ts.size:=(OP.mp t3).1;have dd:=PZ dT (·.setIfInBounds 3 N7);have oth:∀b,b≠T->(s.heap.update T (Sj (·.setIfInBounds 3 N7))).get? b=s.heap.get? b:=λb hb=>NS _ _ (NO hb);have S:∀b o,s.heap.get? b=some o->(∀ws,o.data≠.fields ws)->b≠T:=λb o q F z=>by
   rw [z,J] at q;cases q;exact F ts dT
  refine OY J dT G (k _ ⟨λb o q=>(oth b λz=>by rw [z,O] at q;cases q).trans (st b o q),hn,hl.of_keeps λb o q F=>⟨o,(oth b (S b o q F)).trans q,rfl⟩,oe,vs,(oth e (NO U)).trans he,hc,Z,hd,W,h2,
   .inr ⟨T,_,_,h1,O,U,OF _ J (OX dd),dd,?_⟩⟩ λb o q F=>⟨o.slots,(oth b (S b o q F)).trans q⟩)
  rw [Oq G]
theorem DY(F:A.frames=some (env::outer))(hf:env.frame=some L)(x:bu B (env::outer) e cls fl s.heap)(k:∀h',bu B outer e cls .none h'->s.heap.UpToSlots h'->Q () { s with heap:=h' }):NF M A (leaving env (.ref e)) Q E s:=by
 unfold leaving;refine fv (Aj F hf x λh1 y u1=>qv (s:={ s with heap:=h1 }) y λh2 z u2=>?_);obtain ⟨a,b,⟨_,_,c⟩,d⟩:=z;exact k h2 ⟨a,b,c,d⟩ (u1.trans u2)
end
def CXW(P:NB)(w:NQ):CXT:=λouter H s E e s'=>∃(ea C:Addr)(B:Heap)(H':Hp)(z:we),e = .ref ea/\bu B outer ea (.ref C) .none s'.heap/\Un (frs outer) [] H H' s.heap z.heap/\HOk P w H' z.heap /\
 z.os=s.os/\Qz z.gens/\s'.os=s.os/\Qz s'.gens/\(∀b o,z.heap.get? b=some o->b∉frs outer->B.get? b=some o)/\z.heap.UpToSlots s'.heap/\E (.ref C) none H'
def bQ(X:Cx)(Ex:Addr->St->Hp->Prop):Prop:=∀(Go:List (Addr×Obj))(σ:St)(H:Hp)(z:we)(ea C:Addr)(B:Heap)(fl:Value)(s':we),Inv X Go σ H z->bu B X.stack ea (.ref C) fl s'.heap->s'.os=z.os->Qz s'.gens ->
 (∀b o,z.heap.get? b=some o->b∉frs X.stack->B.get? b=some o)->z.heap.UpToSlots s'.heap->Ex C σ H->X.xe (.ref ea) s'
theorem oq:bQ X (λ_ _ _=>False):=λ_ _ _ _ _ _ _ _ _ _ _ _ _ _ _ h=>h.elim
theorem fB{K:Nu}:
  bQ (cn (CXW P w) cm P w K mg base N qual scope f cd A outer s H E) (λC _ H'=>E (.ref C) none H'):=by
 intro Go σ H' G ea C B fl s' I x os bare hB up q;have S:A.frames=some outer:=by
  have:=I.ok.frames;cases h:A.frames with
  | none =>
   have z:(A.deeper (PY qual scope s.heap.objs.size f cd)).frames=none:=by
    first|(show (A.frames.map _)=none;rw [h];rfl)|simp [NP.deeper,NP.under,h]
   rw [show (cn (CXW P w) cm P w K mg base N qual scope f cd A outer s H E).A=A.deeper (PY qual scope s.heap.objs.size f cd) from rfl,z] at this;cases this
  | some l =>
   have z:=NP.frames_deeper (env:=PY qual scope s.heap.objs.size f cd) h;rw [show (cn (CXW P w) cm P w K mg base N qual scope f cd A outer s H E).A=A.deeper (PY qual scope s.heap.objs.size f cd) from rfl,z] at this;have:=Ob.inj this;exact congrArg some (List.cons.inj this).2
 show NF (NL P w) (A.deeper (PY qual scope s.heap.objs.size f cd)) (leaving (PY qual scope s.heap.objs.size f cd) (.ref ea)) _ _ s';refine DY (L:=s.heap.objs.size) (NP.frames_deeper S) rfl x λh' y u=>?_;have F:∀b o,b≠s.heap.objs.size->G.heap.get? b=some o->(hideAll G.heap [s.heap.objs.size]).get? b=some o:=λb o hb e=>hideAll_get _ e (by simpa using hb);have U:=I.base;have lt:∀b o,s.heap.get? b=some o->b≠s.heap.objs.size:=λb o e=>Oh (NR e);have nl:∀b:Addr,b∉(cn (CXW P w) cm P w K mg base N qual scope f cd A outer s H E).ex:=λb z=>absurd (show b∈([]:List Addr) from z) (by simp);refine ⟨ea,C,B,H',{ G with heap:=hideAll G.heap [s.heap.objs.size] },rfl,y,⟨λb o e n hb _=>F b o (lt b o e) (U.keep b o e n hb (nl b)),λb o e n hb _=>?_,λb o e n _=>U.free b o e n (nl b),λb o e _=>?_,U.tups,U.frzs,U.tbls⟩,
  I.hok.but (C:=s.heap.objs.size) I.free F,I.os,I.bare,os.trans I.os,bare,λb o e hb=>?_,λb o e J=>?_,q⟩
 .obtain ⟨sl,z⟩:=U.slot b o e n hb (nl b);exact ⟨sl,F b _ (lt b o e) z⟩
 .obtain ⟨o',z⟩:=U.there b o e (nl b);exact ⟨o',F b _ (lt b o e) z⟩
 .have Z:=Sw _ e;refine hB b o Z λz=>?_;have z':b∈s.heap.objs.size::frs outer:=z;rcases Nw.mp z' with r|r
  .rw [r] at e;have O:(hideAll G.heap [s.heap.objs.size]).get? s.heap.objs.size=none:=PySem.W.hideAll_none _ (by simp);exact absurd (O.symm.trans e) (by simp)
  .exact hb r
 .exact (up.trans u) b o (Sw _ e) J
def XE(Ex:Addr->St->Hp->Prop)(σ:St):XK:=λc _ H'=>∃C,c = .ref C/\Ex C σ H'
def lG(sp:Sp)(Zq:List V)(Ex:Addr->St->Hp->Prop)(t:TA):TE:=λσ H Q=>t σ H λvs H1=>sp (vs++Zq) H1 Q (XE Ex σ)
def fH(C:Addr)(m:Str)(sp:Sp)(Zq:List V)(Ex:Addr->St->Hp->Prop)(ta:TE)(t:TA):TE:=λσ H Q=>ta σ H λx H1=>∃a dx fs,x = .ref a/\H1 a=some (.ins C dx fs)/\fs.lookup m=none /\
 t σ H1 λvs H2=>sp (x::(vs++Zq)) H2 Q (XE Ex σ)
section
variable {X:Cx}{cm:Bool}{k:Nat}{f C:Addr}{fd:Nz}{ps:List Str}{sp:Sp}{Zq:List V}{ds:List Value}{Ex:Addr->St->Hp->Prop}{x m:Str}{p pos Z3:Pos}{e o:N0}{es:List N0}{ta:TE}{t:TA}
theorem bQ.of(T:bQ X Ex)(I:Inv X Go σ H s)(h:CXW X.prog X.w X.stack H s (XE Ex σ) v s'):X.xe v s':=by
 obtain ⟨ea,C,B,H',S,rfl,y,un,hok,os,bare,G,F,J,up,U,O,q⟩:=h;cases O;exact T Go σ H' S ea C B .none s' (I.ag os un hok bare λb z=>absurd z (by simp)) y (G.trans os.symm) F J up q
theorem p9(T:bQ X Ex)(F:zm X.prog X.w X.K X.mg X.base (CXW X.prog X.w) cm k f fd ps sp)(hr:zK cm k X.A)(hb:bw X.K fd ps ds)(hd:zp Zq ds)(I:Inv X Go σ H s)(r:zp vs us)(h:sp (vs++Zq) H Q (XE Ex σ)):NF (NL X.prog X.w) X.A (call (.ref f) us) (EP X Go σ Q) X.xe s:=by
 have G:zp (vs++Zq) (us++ds):=r.append hd;have hl:(us++ds).length=ps.length:=by rw [<- G.length];exact F.len _ _ _ _ h
 refine Su (QL (F.run X.A X.stack s H ⟨us,[]⟩ (us++ds) (vs++Zq) Q (XE Ex σ) hr I.aQ (hb s us I.S2 hl) G h) λr s' z=>?_);cases r with
 | error v=>exact T.of I z
 | ok fl =>
  cases fl with
  | ret u=>exact I.after z
  | next=>exact False.elim z
  | brk=>exact False.elim z
  | cont=>exact False.elim z
theorem GA(T:bQ X Ex)(F:zm X.prog X.w X.K X.mg X.base (CXW X.prog X.w) cm k f fd ps sp)(hr:zK cm k X.A)(hg:Gl X x)(hm:X.mg x=some (.ref f))(G:Rk X.K (.ref f)=true)(hb:bw X.K fd ps ds)(hd:zp Zq ds)
  (ha:PA X (e::es) t) (O:(x==("__debug__":Str))=false:=by decide) (he:NZ (e::es) X.env=(false,Os e X.env)::NZ es X.env:=by rfl) (J:(Pp pos (NZ es X.env)).any (·.1)=false:=by rfl) :
  PE X (.Call (.Name x p) (e::es) [] pos) (lG sp Zq Ex t):=by
 intro Go s σ H Q I h;refine ON (gv I hg hm ?_ O);refine SF (h₀:=X.base) I.ok.mod.aF G (thn (ha pos Go s σ H _ I h) λus s1=>x5e λvs H1 z r q=>⟨z.S2,?_⟩) he J;exact p9 T F hr hb hd z r q
theorem E1(he:PE X o ta)(c:Cls X.K C)(hm:gE X.K C m f)(T:bQ X Ex)(F:zm X.prog X.w X.K X.mg X.base (CXW X.prog X.w) cm k f fd ps sp)(hr:zK cm k X.A)(hb:bw X.K fd ps ds)(hd:zp Zq ds)(ha:PA X (e::es) t)(hst:NZ (e::es) X.env=(false,Os e X.env)::NZ es X.env:=by rfl)(S:(Pp pos (NZ es X.env)).any (·.1)=false:=by rfl)(U:Os (.Call (.Attribute o m Z3) (e::es) [] pos) X.env=(do
   let ov<-Os o X.env
   QH Z3.atName
   let (f,first)<-PV [ov] (QK ov m pl)
   QE pos f first (Pp pos (NZ (e::es) X.env)) (Rw pos (Qh [] X.env))):=by rfl):
  PE X (.Call (.Attribute o m Z3) (e::es) [] pos) (fH C m sp Zq Ex ta t):=by
 intro Go s σ H Q I h;refine R8 (pl:=pl) (thn (he Go s σ H _ I h) λu s1=>x5e λx H1 G J W=>?_) U;obtain ⟨a,dx,fs,ex,ea,l,q⟩:=W;subst ex;obtain rfl:u=Ny a:=J;refine kB G ea c hm l ?_;refine SF (first:=[.ref a]) (h₀:=X.base) I.ok.mod.aF hm.kp (thn (ha pos Go s1 σ H1 _ G q) λus s2=>x5e λvs H2 z r O=>⟨z.S2,?_⟩) hst S;exact p9 (us:=.ref a::us) (vs:=.ref a::vs) T F hr hb hd z (.cons rfl r) O
theorem EB(he:PE X o ta)(c:Cls X.K C)(hm:gE X.K C m f)(T:bQ X Ex)(F:zm X.prog X.w X.K X.mg X.base (CXW X.prog X.w) cm k f fd ps sp)(hr:zK cm k X.A)(hb:bw X.K fd ps ds)(hd:zp Zq ds)(G:Os (.Call (.Attribute o m Z3) [] [] pos) X.env=(do
   let ov<-Os o X.env
   QH Z3.atName
   let (f,first)<-PV [ov] (QK ov m pl)
   QE pos f first (Pp pos (NZ [] X.env)) (Rw pos (Qh [] X.env))):=by rfl):
  PE X (.Call (.Attribute o m Z3) [] [] pos) (fH C m sp Zq Ex ta cb):=by
 intro Go s σ H Q I h;refine R8 (pl:=pl) (thn (he Go s σ H _ I h) λu s1=>x5e λx H1 z J O=>?_) G;obtain ⟨a,dx,fs,ex,ea,l,q⟩:=O;subst ex;obtain rfl:u=Ny a:=J;refine kB z ea c hm l ?_;exact callWith_K0 (first:=[.ref a]) z.S2 hm.kp (p9 (us:=[.ref a]) (vs:=[.ref a]) T F hr hb hd z (.cons rfl .nil) q)
end
theorem PS.Vp{st:Stmt}{t:TS}(h:PS X.Vp st t):PS X st t:=λGo s σ H D I F =>
 OG (h Go s σ H D (I.Tc _) F) (λ_ _ q=>q.y0) λ_ _ z=>False.elim z
theorem Fun.bC{K:Nu}{st:Stmt}{k:Nat}(F:Fun K x qual st f fd)(S:zt N ps (zi st))(len:∀vs H Q E,sp vs H Q E->vs.length=ps.length)(O:∀(z:Value)(A:NP)(outer:List Env)(s:we)(H:Hp)(vs:List V)(Q:VK)(E:XK),zK cm k (A.deeper (PY qual (zi st) s.heap.objs.size f z))->sp vs H Q E ->
   ∃t,PSs (cn (CXW P w) cm P w K mg base N qual (zi st) f z A outer s H E) (c0 st) t/\t { nx:=λ_ H'=>Q .non H',rt:=Q } (start N vs) H):zm P w K mg base (CXW P w) cm (k+1) f fd ps sp:=by
 obtain ⟨oc,od,kV,W,pm,Z,z,ct,G,rfl,lk,J⟩:=F.ex;exact nV lk J S len λA outer s H vs Q E hr U=>O z A outer s H vs Q E hr U
def bmV:List Value:=[.type "ValueError",.type "Exception",.type "BaseException",.type "object"]
def bY(K:Nu)(C:Addr):Prop:=excIn K C bmV "ValueError.__new__"=true
structure ql(h:Heap)(C:Addr)(mro:List Value):Prop where
 ex:∃bm N nm q bs hdct sn sub ab col dd k0 k1 k2 k3 k5 mN,mro = .ref C::bm/\h.get? C=some (excClassObj nm q C N bs bm hdct sn sub ab col dd k0 k1 k2 k3 k5 "ValueError.__new__")/\h.Ns N mN/\mN VX=none/\OwnTail h bmV bm
theorem bY.obj{K:Nu}(x:bY K C)(X:K.In h):∃cd,clsIn K C=some cd/\ql h C cd.mro:=by
 unfold bY excIn at x;split at x
 .rename_i dd cd sl look;have hc:clsIn K C=some cd:=by
   unfold clsIn;rw [look]
  refine ⟨cd,hc,?_⟩;split at x
  .rename_i C' bm k0 k1 k2 k3 n k5 em es;simp only [Oc,beq_iff_eq,Bool.not_eq_true'] at x;obtain ⟨⟨⟨⟨⟨c1,c2⟩,J⟩,c4⟩,z⟩,G⟩:=x;subst c1 c2;obtain ⟨a1,U,a3,Z,a5,O,a7,a8,S,F,ab⟩:=cd;dsimp only at em J z G ⊢;subst em J;obtain ⟨sl⟩:=sl;dsimp only at es;subst es;exact ⟨bm,Z,a1,a5,U,O,a7,a8,S,F,dd,k0,k1,k2,k3,k5,_,rfl,X _ _ look,.of_isNs (PySem.W.isNs_of_in X z),PySem.W.nsMap_none_of_in X z G,PySem.W.tail_of_in X c4⟩
  .cases x
 .cases x
def pj(C:Addr)(Ex:Addr->St->Hp->Prop)(t:TA):TS:=λ_ σ H=>t σ H λvs H1=>vs.length<=sizeLine/\Ex C σ H1
theorem C0{t:TA}(hc:X.calm=true)(T:bQ X Ex)(O:bY X.K C)(hg:Gl X x)(hm:X.mg x=some (.ref C))(ha:PA X (e::es) t)(Y5:(x==("__debug__":Str))=false:=by decide)(hst:NZ (e::es) X.env=(false,Os e X.env)::NZ es X.env:=by rfl)(Yr:(Pp cpos (NZ es X.env)).any (·.1)=false:=by rfl):
  PS X (.Raise (some (.Call (.Name x np) (e::es) [] cpos)) none pos) (pj C Ex t):=by
 intro Go s σ H D I h;obtain ⟨cd,_,⟨bm,N,nm,q,bs,hdct,sn,sub,ab,col,dd,k0,k1,k2,k3,k5,mN,em,hC,hN,S,Z⟩⟩:=O.obj I.ok.mod.aF;refine wpAny_Raise_call_subT (C:=C) (nm:=nm) (q:=q) (N:=N) (bs:=bs) (bm:=bm) (hdct:=hdct) (sn:=sn) (sub:=sub) (ab:=ab) (col:=col) (dd:=dd) (k0:=k0) (k1:=k1) (k2:=k2) (k3:=k3) (k5:=k5) (mN:=mN) PySem.F.excBase_ValueError (Z.hasType (by decide)) (I.ok.hd hc)
  (by rw [hst];show (false||(Pp cpos (NZ es X.env)).any (·.1))=false;rw [Yr];rfl) S (gv I hg hm ⟨rfl,?_⟩ Y5)
 have U:=ha cpos Go s σ H _ I h;rw [hst] at U ⊢;refine Calls.evalArgs_plain (thn U λus s2=>x5e λvs H2 J r2=>x2e λhz q2=>⟨rfl,by rw [<- r2.length];exact hz,J.bk _ _ hC,hN.keeps J.bk,Z.keeps J.bk,λh' ea G=>?_⟩);obtain ⟨tt,he,ag,_⟩:=G.there;have Yn:∀env∈X.stack,∀a,env.frame=some a->a∈frs X.stack:=λenv hm a ha=>Rp.mpr ⟨env,hm,ha⟩;refine T Go σ H2 s2 ea C (hideAll s2.heap (frs X.stack)) .none { s2 with heap:=h' } J ⟨λb o e=>G.keeps b o (Sw _ e),?_,?_,?_⟩ rfl J.bare (λb o e hb=>hideAll_get _ e hb) (λb o e _=>⟨o.slots,G.keeps b o e⟩) q2
 .cases z:(hideAll s2.heap (frs X.stack)).get? ea with
  | none=>rfl
  | some o =>
   have:=Sw _ z;rw [G.new] at this;cases this
 .exact (PySem.W.funFrames_hide J.stack Yn).of_keeps λb o e _=>⟨o,G.keeps b o e,rfl⟩
 .exact ⟨_,_,he,rfl,rfl,rfl,by simp,rfl,.inl rfl⟩
section
variable {M:Model}{A:NP}{E:Value->we->Prop}
theorem MH{t:Nat}{os:OsState}{S mD:List Value}(OC:ql h C S)(OD:ql h D mD)(he:h.get? e=some oe)(z:oe.cls = .ref C)(Xn:S.contains (.ref D)=true)(hq:Q true ⟨h,g,d,t,os⟩):NF M A (excMatches (.ref e) (.ref D)) Q E ⟨h,g,d,t,os⟩:=by
 obtain ⟨bm,N,nm,q,bs,hdct,sn,sub,ab,col,dd,k0,k1,k2,k3,k5,mN,rfl,Z,_,_,TC⟩:=OC;obtain ⟨G,N',ai,q',ag,F,aj,J,W,O,ak,j0,j1,j2,j3,j5,av,rfl,U,_,_,TD⟩:=OD;have b1:(Ny D::G).contains (.type "BaseException")=true:=by
  rw [List.contains_cons,TD.hasType (X:="BaseException") (b:=true) (by decide),Bool.or_true]
 have b2:=tc_notTuple;unfold excMatches
 repeat (first|(with_reducible refine wpAny_loadPart_at he ?_;rw [z])|with_reducible refine wpAny_loadPart_at U ?_|(with_reducible refine wpAny_isSubtype_exc U ?_;rw [b1])|(with_reducible refine wpAny_isSubtype_exc Z ?_;rw [Xn])|wp_step)
 exact hq
end
theorem ao.ex{o:HO}(x:ao P w H h a o):∃ob,h.get? a=some ob:=by
 cases o with
 | lst xs=>obtain ⟨_,_,_,_,e⟩:=x;exact ⟨_,e⟩
 | tup xs=>obtain ⟨_,_,_,o,e,_⟩:=x;exact ⟨_,e⟩
 | dK kvs=>obtain ⟨_,_,_,_,o,_,_,e,_⟩:=x;exact ⟨_,e⟩
 | dT kvs=>obtain ⟨_,_,_,_,o,_,_,e,_⟩:=x;exact ⟨_,e⟩
 | set S n=>obtain ⟨o,_,_,_,e,_⟩:=x;exact ⟨_,e⟩
 | ins C dx fs=>obtain ⟨_,_,_,e,_⟩:=x;exact ⟨_,e⟩
 | own y=>exact x
 | xd fs=>obtain ⟨_,⟨_,_,_,e,_⟩,_⟩:=x;exact ⟨_,e⟩
 | rng lo hi=>obtain ⟨_,_,_,e⟩:=x;exact ⟨_,e⟩
 | frz ob u=>exact ⟨_,x.1⟩
 | tbl ps=>exact ⟨_,x⟩
 | met f y=>exact ⟨_,x⟩
 | ext z=>exact x.2.1
abbrev cxP(X:Cx)(Go:List (Addr×Obj)):Cx:={ X with pn:=X.pn++Go }
theorem Cx.Ok.p(ok:X.Ok)(Go:List (Addr×Obj)):(cxP X Go).Ok :=
 ⟨ok.mod,ok.kind,ok.glob,ok.blt,ok.above,ok.inj,ok.has,ok.aS,ok.hd,ok.frames,ok.aW,ok.bo,ok.bs,ok.ah,ok.Vi,ok.Vm,ok.Tn,ok.ay⟩
theorem Inv.p(I:Inv X Go σ H s):Inv (cxP X Go) [] σ H s :=
 ⟨I.ok.p Go,I.os,I.bare,I.base,I.loc,I.cell,I.free,I.Pv,λp z=>I.pin p (by have h:p∈(X.pn++Go)++[]:=z;simpa using h),I.hok,I.len,I.hdk⟩
theorem Inv.bh(ok:X.Ok)(I:Inv (cxP X Go) [] σ H s):Inv X Go σ H s :=
 ⟨ok,I.os,I.bare,I.base,I.loc,I.cell,I.free,I.Pv,λp z=>I.pin p (by show p∈(X.pn++Go)++[];simpa using z),I.hok,I.len,I.hdk⟩
abbrev qE(X:Cx)(Go:List (Addr×Obj))(Ex:Addr->St->Hp->Prop):Cx:=(cxP X Go).Tc λe s'=>∃(ea C:Addr)(B:Heap)(H':Hp)(fl:Value)(σ:St)(z:we),e = .ref ea/\Inv (cxP X Go) [] σ H' z/\bu B X.stack ea (.ref C) fl s'.heap /\
 s'.os=z.os/\Qz s'.gens/\(∀b o,z.heap.get? b=some o->b∉frs X.stack->B.get? b=some o)/\z.heap.UpToSlots s'.heap/\Ex C σ H'
theorem nu:bQ (qE X Go Ex) Ex:=λps σ H z ea C B fl s' I y os bare G up q =>
 ⟨ea,C,B,H,fl,σ,z,rfl,(I.y0.L0 λp F=>(nomatch F)),y,os,bare,G,up,q⟩
abbrev i7(X:Cx)(Go:List (Addr×Obj))(ea:Addr):Cx:={ X with pn:=X.pn++Go,A:=X.A.mark (some (.ref ea)),calm:=false,xe:=λ_ _=>False }
def iJ(C:Addr)(o:Obj):Prop:=o.cls = .ref C/\o.dict=none/\∃vs,o.data = .fields vs
theorem Ay(ag:X.ex=[])(I:Inv (cxP X Go) [] σ H J)(y:bu B X.stack ea (.ref C) fl s'.heap)(os:s'.os=J.os)(bare:Qz s'.gens)(hB:∀b o,J.heap.get? b=some o->b∉frs X.stack->B.get? b=some o)(up:J.heap.UpToSlots s'.heap):
  H ea=none/\∃oe,iJ C oe/\s'.heap.get? ea=some oe/\Inv (i7 X Go ea) [] σ (upd H ea (.frz oe (.own 0))) s':=by
 obtain ⟨st,hn,hl,oe,vs,he,hc,X3,hd,hz,h2,h1⟩:=y;have Z:ea∉frs X.stack:=λz=>by
  obtain ⟨_,o,ho,U⟩:=hl.mem z;rw [he] at ho;cases ho;exact U vs hd
 have new:J.heap.get? ea=none:=by
  cases q:J.heap.get? ea with
  | none=>rfl
  | some o =>
   have:=hB _ o q Z;rw [hn] at this;cases this
 have S:H ea=none:=by
  cases q:H ea with
  | none=>rfl
  | some u =>
   obtain ⟨ob,z⟩:=(I.hok ea u q).ex;rw [new] at z;cases z
 have keep:∀b o,J.heap.get? b=some o->b∉frs X.stack->s'.heap.get? b=some o:=λb o e hb=>st b o (hB b o e hb);have slot:∀b o,J.heap.get? b=some o->b∈frs X.stack->∃sl,s'.heap.get? b=some { o with slots:=sl }:=λb o e hb=>by
  obtain ⟨_,o',O,U⟩:=I.stack.mem (show b∈(cxP X Go).stack.filterMap (·.frame) from hb);rw [e] at O;cases O;exact up b o e U
 have F:Inv (cxP X Go) [] σ H s':=I.ag (ch:=[]) os ⟨λb o e _ hb _=>keep b o e hb,λb o e _ hb _=>slot b o e hb,λ_ _ _ n _=>n,λb o e _=>?_,λ_ _ e=>e,λ_ _ _ e=>e,λb ps e=>⟨#[],by rw [e];simp⟩⟩
  (λb u e=>(I.hok b u e).stay (λc v hc q=>keep c v q λz=>?_) (λ_ q=>q) λ_ _ q=>q) bare λb z=>absurd z (by simp)
 .have ab:ea≠X.env.locals:=λz=>by
   obtain ⟨m,⟨o,es,ep,ho,G,_⟩,_⟩:=F.loc;have O:s'.heap.get? ea=some o:=by rw [z];exact ho
   rw [he] at O;cases O;rw [hd] at G;cases G
  refine ⟨S,oe,⟨hc,X3,vs,hd⟩,he,⟨⟨F.ok.mod,F.ok.kind,F.ok.glob,F.ok.blt,F.ok.above,F.ok.inj,F.ok.has,F.ok.aS,λz=>(nomatch z),F.ok.frames,F.ok.aW,F.ok.bo,F.ok.bs,F.ok.ah,F.ok.Vi,F.ok.Vm,F.ok.Tn,F.ok.ay⟩,F.os,F.bare,
   ⟨F.base.keep,F.base.slot,λb o e n hx=>?_,F.base.there,λb xs e=>?_,λb o u e=>?_,λb ps e=>?_⟩,F.loc,F.cell,?_,λx c e=>?_,λp hp=>?_,F.hok.add S ⟨he,oe,he⟩,F.len,.inr ⟨ea,oe,vs,rfl,zx,hd,h2,C,hc⟩⟩⟩
  .obtain ⟨o',z⟩:=I.base.there b o e hx;rw [zd (λw=>by rw [w,new] at z;cases z)];exact F.base.free b o e n hx
  .have z:=F.base.tups b xs e;rw [zd (zE z S)];exact z
  .have z:=F.base.frzs b o u e;rw [zd (zE z S)];exact z
  .obtain ⟨more,z⟩:=F.base.tbls b ps e;exact ⟨more,by rw [zd (zE z S)];exact z⟩
  .rw [zd (NO ab)];exact F.free
  .have nc:c≠ea:=λw=>by
    obtain ⟨v,o,ho,G⟩:=F.cell x c e;rw [w,he] at ho;cases ho;rw [hd] at G;cases G
   rw [zd nc];exact F.Pv x c e
  .obtain ⟨a,b,c,d,f⟩:=F.pin p hp;refine ⟨a,?_,c,d,f⟩;rw [zd λw=>?_]
   .exact b
   .have:=(I.pin p hp).1;rw [w,new] at this;cases this
 .by_cases hb:b∈frs X.stack
  .obtain ⟨sl,z⟩:=slot b o e hb;exact ⟨_,z⟩
  .exact ⟨o,keep b o e hb⟩
 .have W:H c=none:=I.UJ c z;rcases hc with w|w
  .rw [w] at W;rw [W] at e;cases e
  .rw [W] at w;cases w
theorem Inv.Ts(ok:X.Ok)(F:X.A.handled=none)(I:Inv (i7 X Go ea) [] σ H s):Inv X Go σ H s :=
 ⟨ok,I.os,I.bare,I.base,I.loc,I.cell,I.free,I.Pv,λp z=>I.pin p (by show p∈(X.pn++Go)++[];simpa using z),I.hok,I.len,.inl F⟩
end L2
namespace L2
open PySem PySem.Spec PyProof.Rows PySem.W
section
variable {prog:NB}{w:NQ}{A:NP}{E:Value->we->Prop}{K:Frag}{h:Heap}{g:Array GenState}{d:Drawn}{t:Nat}{os:OsState}{e C:Addr}{oe:Obj}
theorem Ic(X:K.In h)(I:InstAt h e oe C none)(z:findIn K (.ref C) "__class__"=some (some (.builtin "object.__class__")))(hm:mroIn K C (.type "object")=some true)(J:Q (.done (.ret (.ref C))) ⟨h,g,d,t,os⟩):NF (NL prog w) A (NN.«object.__getattribute__» ⟨[.ref e,.str "__class__" tk],[]⟩) Q E ⟨h,g,d,t,os⟩:=by
 have O:=I.type (M:=NL prog w);have G:=looks_findIn (M:=NL prog w) X z;have U:=F.typeOf_object_class;have W:=F.slot_gs_get.lookup;have S:=F.slot_gs_set.lookup
 repeat (any_goals (first|assumption|with_reducible refine O.at ?_|with_reducible refine G.at ?_|wp_step))
 exact class_get (s:=⟨h,g,d,t,os⟩) X I hm (Nv J)
theorem Ce(X:K.In h)(I:InstAt h e oe C none)(hb:mroIn K C (.type "BaseException")=some true)(G:Q () ⟨h,g,d,t,os⟩):
  NF (NL prog w) A (Rl "BaseException.__getattribute__" ⟨[.ref e,z],[]⟩) Q E ⟨h,g,d,t,os⟩:=by
 have S:=I.type (M:=NL prog w);have O:=looks_mroIn (M:=NL prog w) X hb;have c1:builtinKind "BaseException.__getattribute__"=some .slot:=by decide +kernel
 have J:splitId "BaseException.__getattribute__"=some ("BaseException","__getattribute__"):=by decide +kernel
 have U:=F.args_bexc_ga (.ref e) z;simp only [Rl,c1,J];refine fv ?_;unfold isInstance
 repeat (first|with_reducible refine S.at ?_|with_reducible refine O.at ?_|wp_step)
 exact G
theorem EA(X:K.In h)(I:InstAt h e oe C none)(J:findIn K (.ref C) "__getattribute__"=some (some (.builtin "BaseException.__getattribute__")))(O:findIn K (.ref C) "__getattr__"=some none)(G:findIn K (.ref C) "__class__"=some (some (.builtin "object.__class__")))(hm:mroIn K C (.type "object")=some true)(hb:mroIn K C (.type "BaseException")=some true)(hq:Q (some (.ref C)) ⟨h,g,d,t+1,os⟩):
  NF (NL prog w) A (getAttr? (.ref e) "__class__") Q E ⟨h,g,d,t,os⟩:=by
 have U:=I.type (M:=NL prog w);have S:=looks_findIn (M:=NL prog w) X J;have L2:=looks_findIn (M:=NL prog w) X O;have f4:=So.ga.bind (.ref e);have z:(builtin "BaseException.__getattribute__" == builtin "object.__getattribute__")=false:=by decide +kernel
 have Z:(onTheHeap (Ny C)&&builtin "BaseException.__getattribute__" == builtin "object.__getattribute__")=false:=by rw [z];rfl
 have W:(false&&onTheHeap (builtin "BaseException.__getattribute__"))=false:=rfl;unfold getAttr? getAttrBy?;refine fv (wpAny_mkText (fv (QO ?_)))
 repeat (any_goals (first|assumption|with_reducible refine U.at ?_|with_reducible refine S.at ?_|with_reducible refine L2.at ?_|wp_step))
 refine Rv So.ga.plain F.entry_bexc_ga (Ce X I hb (Ic X I G hm ?_))
 repeat (any_goals (first|assumption|wp_step))
structure vg(K:Frag)(C:Addr):Prop where
 err:bY K C
 ga:findIn K (.ref C) "__getattribute__"=some (some (.builtin "BaseException.__getattribute__"))
 gr:findIn K (.ref C) "__getattr__"=some none
 cl:findIn K (.ref C) "__class__"=some (some (.builtin "object.__class__"))
 ob:mroIn K C (.type "object")=some true
 ba:mroIn K C (.type "BaseException")=some true
theorem Di(O:vg K C):KitX K (.ref e) (.ref C) (λh=>InstAt h e oe C none) where
 ty:=λ_ _ _ I=>I.type
 it:=λM h X I=>by
  obtain ⟨cd,_,⟨bm,N,nm,q,bs,hdct,sn,sub,ab,col,dd,k0,k1,k2,k3,k5,mN,_,F,_⟩⟩:=O.err.obj X;intro W Z E' s' k S;unfold isType loadHead;exact fv (wpAny_loadPart (k _ _ F) (Nv S))
 ne:=λh tp dd its n sl X G=>by
  obtain ⟨cd,_,⟨bm,N,nm,q,bs,hdct,sn,sub,ab,col,d1,k0,k1,k2,k3,k5,mN,_,F,_⟩⟩:=O.err.obj X;refine Qm.mpr λz=>?_;have U:C=tp:=Ny.inj (beq_iff_eq.mp z);subst U;have J:=congrArg Obj.data (Ob.inj (F.symm.trans G));cases J
 ca:=λ{prog w A E Q s} X I k=>by
  obtain ⟨h,g,d,t,os⟩:=s;exact EA X I O.ga O.gr O.cl O.ob O.ba k
end
def ET:V->Option Value
 | .ref a=>some (.ref a)
 | .ty n=>some (.type n)
 | _=>none
inductive TyX(K:Frag)(H:Hp):V->Value->Prop where
 | of {x:V}{t:Value} (h:cO K H x t):TyX K H x t
 | exc {a C:Addr}{o:Obj} (e:H a=some (.frz o (.own 0))) (ho:iJ C o) (O:vg K C):TyX K H (.ref a) (.ref C)
def lQ(K:Frag):List V->Hp->VK->Prop:=λxs H Q=>∃x c t u b,xs=[x,c]/\ET c=some u/\TyX K H x t/\kitOne K t u=some b/\Q (.bl b) H
theorem jx:zM X (.builtin "isinstance") (lQ X.K):=by
 intro Go s σ H xs us Q I r h;obtain ⟨x,c,t,u,b,rfl,hc,ty,S,q⟩:=h;cases r with
 | cons U F =>
  cases F with
  | cons G F =>
   cases F;rename_i Z v2;have W:v2=u:=by
    cases c with
    | ref a=>cases hc;exact G
    | ty n=>cases hc;exact G
    | _=>cases hc
   subst W;cases ty with
   | of ty=>exact Ht I U ty S λtk=>⟨.bl b,H,I.tok tk,rfl,q⟩
   | exc e ho O =>
    rename_i a C o;obtain rfl:Z=Ny a:=U;obtain ⟨z,_⟩:=I.hok a _ e;obtain ⟨c1,c2,vs,c3⟩:=ho;have J:InstAt s.heap a o C none:=⟨z,c1,by unfold notCls;rw [c3],by rw [c2];trivial⟩;exact kia_one (Di O) I.S2 J S (λw=>nomatch w) λtk=>⟨.bl b,H,I.tok tk,rfl,q⟩
end L2
namespace L2
open PySem PySem.Spec PyProof.Rows
def Hnd(A:NP)(h:Heap):Prop:=A.handled=none\/∃(a:Addr)(o:Obj)(vs:Array Value),A.handled=some (.ref a)/\h.get? a=some o/\o.data = .fields vs/\vs[2]?=some .none/\∃C,o.cls = .ref C
theorem Inv.hnd(I:Inv X Go σ H s):Hnd X.A s.heap:=by
 rcases I.hdk with h|⟨a,o,vs,h1,h2,h3⟩
 .exact .inl h
 .exact .inr ⟨a,o,vs,h1,(I.hok a _ h2).1,h3⟩
theorem Hnd.keeps(x:Hnd A h)(k:∀b o,(∃C,o.cls = .ref C)->h.get? b=some o->h'.get? b=some o):Hnd A h':=by
 rcases x with x|⟨a,o,vs,h1,h2,h3,h4,z⟩
 .exact .inl x
 .exact .inr ⟨a,o,vs,h1,k a o z h2,h3,h4,z⟩
theorem JA:entryFor table "proto.unchain"=some NN.«proto.unchain»:=entryFor_of_tree (by kernel_rfl)
section
variable {prog:NB}{w:NQ}{A:NP}{E:Value->we->Prop}{s:we}
theorem BU{α:Type}{Q:α->we->Prop}(F:Hnd A s.heap)(he:s.heap.get? e=some oe)(hd:oe.data = .fields ws)(G:2<ws.size)(hc:∀C,oe.cls≠.ref C)(k:∀h',Q8 e s.heap h'->(∃o,h'.get? e=some o/\o.cls=oe.cls)->E (.ref e) { s with heap:=h' }):NF (NL prog w) A (raiseNew (.ref e):Sem α) Q E s:=by
 unfold raiseNew;refine fv (wpAny_handled ?_);rcases F with F|⟨a,o,vs,h1,h2,h3,h4,C,J⟩
 .rw [F];exact fv (Nv (wpAny_throw (k s.heap (Q8.refl _ _) ⟨oe,he,rfl⟩)))
 .rw [h1];have ne:a≠e:=λz=>by rw [z,he] at h2;cases h2;exact hc C J
  dsimp only;rw [if_pos (show (Ny a != Ny e)=true by simpa using ne)];refine fv (N9 (wpAny_runValue (Pz JA ?_)));refine fv (m:=RT (.ref a) 2) (N4 h2 h3 h4 ?_);rw [if_pos (show (N7==N7)=true by rfl)];refine Nv (fv ?_);show NF _ _ (setField (.ref e) 2 (.ref a)) _ _ _;have dd:=PZ hd (·.setIfInBounds 2 (Ny a));exact OY he hd G (wpAny_throw (k _ (Q8.update ..) ⟨_,OF _ he (OX dd),Rb _ _⟩))
theorem kH{α:Type}{Q:α->we->Prop}(O:Hnd A s.heap)(k:∀h' e,(∀b o,s.heap.get? b=some o->h'.get? b=some o)->(∃o,h'.get? e=some o/\o.cls = .type "StopIteration")->E (.ref e) { s with heap:=h' }) :
  NF (NL prog w) A (newExc (.type "StopIteration") []>>=λe=>(raiseNew e:Sem α)) Q E s:=by
 refine fv ?_;simp only [newExc,newTuple];refine fv (Ou (fv (m:=firstArgMember _ _) (wpAny_of_eq (a:=N7) (by first|rfl|(simp only [firstArgMember];rfl)) (Ou ?_ (by size_fits)))) (by size_fits));have F:∀(G J:Obj) b o,s.heap.get? b=some o->((s.heap.push G).push J).get? b=some o:=λG J b o q=>zv _ (zv _ q);refine BU (O.keeps λb o _ q=>F _ _ b o q) (NK _ rfl) rfl (by simp;lia) (λC z=>by cases z) λh' S=>x3e λo g c=>k h' _ (λb o q=>?_) ⟨o,g,c⟩;refine (S.2 b (λz=>?_)).trans (F _ _ b o q);have:=NR q;rw [z,Pl] at this;exact absurd (N1 this) (Od _)
theorem GY{it t:Addr}(U:Hnd A s.heap)(J:s.heap.IsTupleIter it t i)(W:s.heap.IsTuple t items)(hx:items[i]?=none)(k:∀h',ExtBut it s.heap h'->Q none { s with heap:=h' }):NF (NL prog w) A (Ql (.ref it)) Q E s:=by
 obtain ⟨o,ho,hc,hd⟩:=id J;obtain ⟨ol,O,_,nl,G⟩:=W;unfold Ql;refine fv (QO (Oo (name:=yv "__next__") J.typeIs F.slot_tuple_iterator_next (OB F.slot_tuple_iterator_next J.typeIs F.entry_tuple_iterator_next ?_ (F.args_tuple_iterator_next_1 _))));refine fv (m:=RT (.ref it) 0) (N4 ho hd (x:=.ref t) rfl ?_);rw [if_neg (show ¬ ((Ny t==N7)=true) by simp)];refine fv (m:=RT (.ref it) 1) (N4 ho hd (x:=.int i 0) rfl (fv (m:=Q1 (.ref t)) (OA O G ?_)));simp only [Ph,hx];refine fv (PP (fv (OY ho hd (by simp) ?_)));refine kH (U.keeps λb q Z e=>(NS _ _ λz=>?_).trans e) λh' e up=>x3e λo' g' c' =>
  fv (Rh (T:="StopIteration") (b:=true) ⟨o',g',c'⟩ RS (Nv (k h' λb q hb z=>up b q ((NS _ _ (NO hb)).trans z))))
 obtain ⟨C,S⟩:=Z;rw [<- z,ho] at e;cases e;rw [hc] at S;cases S
theorem Kz{x1}{t:Addr}(Z:Hnd A s.heap)(G:Rg s.heap t items)(hn:(Po J env).length=items.size)(F:(Po J env).findIdx? (·.1)=none)(h:∀h',ExtBut s.heap.objs.size s.heap h'->NF (NL prog w) A (R9 ((Po J env).map (·.2)) items.toList) Q E { s with heap:=h' }):NF (NL prog w) A (assign (.Tuple J x1 pos) env (.ref t)) Q E s:=by
 have lt:t≠s.heap.objs.size:=by obtain ⟨o,ho,_⟩:=G;exact Oh (NR ho)
 have all:List.take items.size (List.drop 0 items.toList)=items.toList:=by rw [SO];exact NW (by simp)
 have W:NF (NL prog w) A (unpackItems (.ref t) items.size none) (λvs s'=>∃h',vs=items.toList/\s'={ s with heap:=h' }/\ExtBut s.heap.objs.size s.heap h') E s:=by
  unfold unpackItems;refine fv ?_;unfold notIterableAtAll;refine fv (wpAny_specialOf G.typeIs slot_tuple_iter.lookup (Nv ?_));simp only [Pi,if_false];refine fv (N9 (iter_tuple G (fv (N9 (draw_tuple lt items.size 0 _ _ ⟨_,NK _ rfl,rfl,rfl⟩ (G.push _) (by lia) λh1 S s1=>?_)))));rw [all,if_neg (by simp)];have t1:Rg h1 t items:=(G.push _).extBut s1.extBut lt;have up1:∀b o,b≠s.heap.objs.size->s.heap.get? b=some o->h1.get? b=some o:=λb o hb e=>s1.extBut b o hb (zv _ e);refine fv (N9 (GY (s:={ s with heap:=h1 }) (Z.keeps λb o _ e=>up1 b o (Oh (NR e)) e) S t1 (by simp) λh2 O=>?_));simp only [Option.isSome_none,Pi,if_false];exact Nv ⟨h2,rfl,rfl,λb o hb e=>O b o hb (up1 b o hb e)⟩
 rw [assign_Tuple];refine fv (PN ?_);unfold unpack;rw [F,hn];refine fv (N9 (OG W (λvs s'=>x3e λh' U=>x2e λO x=>?_) λ_ _ z=>z));subst U O;exact h h' x
end
theorem vK{k:Nat}{t:TGs}(h:PGs X es t)(hl:(Po es X.env).length=n:=by rfl)(hst:(Po es X.env).findIdx? (·.1)=none:=by rfl):PG X (.Tuple es k pos) (mQ X.K n t):=by
 intro Go s σ H v u Q I r q;obtain ⟨a,xs,rfl,hx,hn,q⟩:=q;obtain rfl:u=Ny a:=r;obtain ⟨its,z,F,J⟩:=I.tuple hx;refine Kz I.hnd F (by rw [hl,<- hn,z.length];simp) hst λh' ex=>?_;have G:Inv X Go σ H { s with heap:=h' }:=I.kept (t':=s.toks) λb o e=>ex b o (Oh (NR e)) e;have:=h Go { s with heap:=h' } σ H xs its Q G z q;simpa using this
def eqL(xs ys:List V):Bool:=xs.length==ys.length&&(RG xs.length).all λi=>eqV (xs.getD i .non) (ys.getD i .non)
theorem KM:∀{xs:List V},xs.all ah=true->(∀x∈xs,∀b,x≠.byt b)->eqL xs xs=true:=by
 intro xs h _;unfold eqL;rw [beq_self_eq_true,Bool.true_and,Ol];intro i hi;have z:=Si.mp hi;have hm:xs[i]∈xs:=Oj z;have:=Ol.mp h _ hm;rw [Nr,p8 z,Option.getD_some];cases e:xs[i] with
 | non=>rfl
 | bl b=>simp [eqV]
 | int j=>simp [eqV]
 | str x=>simp [eqV]
 | _=>rw [e] at this;cases this
section
variable {X:Cx}
def wK(K:Nu)(neg:Bool):R2:=λx y H Q=>∃a b xs ys,x = .ref a/\y = .ref b/\SqL K H a xs/\SqL K H b ys/\xs.all ah=true/\ys.all ah=true/\Q (.bl (if neg then !eqL xs ys else eqL xs ys)) H
theorem yg(I:Inv X Go σ H s)(ha:SqL X.K H a xs)(hb:SqL X.K H b ys)(fx:xs.all ah=true)(fy:ys.all ah=true):
  ∃is F:List Value,s.heap.IsList a is.toArray/\s.heap.IsList b F.toArray/\xs.length=is.length/\ys.length=F.length/\∀(A:NP)(j:Nat)(h1:j<is.toArray.size)(h2:j<F.toArray.size),SeqAt.EqAt A s is.toArray[j] F.toArray[j] (eqV (xs.getD j .non) (ys.getD j .non)):=by
 obtain ⟨is,J,p1,_⟩:=I.list ha;obtain ⟨F,G,p2,_⟩:=I.list hb;refine ⟨is,F,p1.isList,p2.isList,J.length,G.length,λA j h1 h2=>?_⟩;have l1:=J.length;have l2:=G.length;simp only [NI] at h1 h2;have O:xs[j]?=some (xs.getD j .non):=by rw [Nr,p8 (by lia)];rfl
 have S:ys[j]?=some (ys.getD j .non):=by rw [Nr,p8 (by lia)];rfl
 obtain ⟨u,g1,q1⟩:=J.get O;obtain ⟨v,U,W⟩:=G.get S;rw [p8 h1] at g1;rw [p8 h2] at U;have f1:=Ol.mp fx _ (NM O);have f2:=Ol.mp fy _ (NM S);have z:=pS (A:=A) (s:=s) q1 W f1 f2;have Z:is.toArray[j]=u:=by simpa using Ob.inj g1
 have w2:F.toArray[j]=v:=by simpa using Ob.inj U
 rw [Z,w2];exact z
theorem Ae(O:X.A.units<cLine):OpR X (Of .Eq) (wK X.K false):=by
 intro Go s σ H x y v u Q I U ry h;obtain ⟨a,b,xs,ys,rfl,rfl,ha,hb,fx,Z,q⟩:=h;cases U;cases ry;obtain ⟨is,W,G,p2,S,F,eq⟩:=yg I ha hb fx Z;by_cases z:is.toArray.size=W.toArray.size
 .refine SeqAt.eq_listAt G p2 z O (λj h1 h2=>eq _ j h1 h2) ⟨.bl _,H,I,rfl,?_⟩;have e:eqL xs ys=(RG is.toArray.size).all λj=>eqV (xs.getD j .non) (ys.getD j .non):=by
   unfold eqL;simp only [NI] at z ⊢;rw [S,F,z];simp
  rw [<- e];exact q
 .refine SeqAt.eq_list_lengthsAt G p2 (by simpa using z) O ⟨.bl false,H,I,rfl,?_⟩;have e:eqL xs ys=false:=by
   unfold eqL;have:(xs.length==ys.length)=false:=by simp only [NI] at z;rw [S,F];simpa using z
   rw [this,RZ]
  have J:Q (.bl (eqL xs ys)) H:=q;rw [e] at J;exact J
theorem se(O:X.A.units<cLine):OpR X (Of .NotEq) (wK X.K true):=by
 intro Go s σ H x y v u Q I U ry h;obtain ⟨a,b,xs,ys,rfl,rfl,ha,hb,fx,Z,q⟩:=h;cases U;cases ry;obtain ⟨is,W,J,p2,S,G,eq⟩:=yg I ha hb fx Z;have F:Q (.bl (!eqL xs ys)) H:=q;by_cases z:is.toArray.size=W.toArray.size
 .refine SeqAt.RcNeAt.lists J p2 z O (λj h1 h2=>eq _ j h1 h2) _ _ _ _ ⟨.bl _,H,I,rfl,?_⟩;have e:eqL xs ys=(RG is.toArray.size).all λj=>eqV (xs.getD j .non) (ys.getD j .non):=by
   unfold eqL;simp only [NI] at z ⊢;rw [S,G,z];simp
  rw [<- e];exact F
 .refine SeqAt.RcNeAt.lists_lengths J p2 (by simpa using z) O _ _ _ _ ⟨.bl true,H,I,rfl,?_⟩;have e:eqL xs ys=false:=by
   unfold eqL;have:(xs.length==ys.length)=false:=by simp only [NI] at z;rw [S,G];simpa using z
   rw [this,RZ]
  rw [e] at F;exact F
mutual
inductive cY(H:Hp):V->QG->Prop
 | non:cY H .non .none
 | bl (b:Bool):cY H (.bl b) (.bool b)
 | int (i:Int):cY H (.int i) (.int i)
 | str (x:Str):cY H (.str x) (.str x)
 | lst {a:Addr}{xs:List V}{ds:List QG}:a≠sysModules->H a=some (.lst xs)->DatVs H xs ds->cY H (.ref a) (.list ds)
 | tup {a:Addr}{xs:List V}{ds:List QG}:H a=some (.tup xs)->DatVs H xs ds->cY H (.ref a) (.tuple ds)
 | dic {a:Addr}:H a=some (.dK [])->cY H (.ref a) (.dict [])
inductive DatVs(H:Hp):List V->List QG->Prop
 | nil:DatVs H [] []
 | cons {x:V}{xs:List V}{d:QG}{ds:List QG}:cY H x d->DatVs H xs ds->DatVs H (x::xs) (d::ds)
end
mutual
theorem cY.reads(I:Inv X Go σ H s):∀{x:V}{d:QG}{u:Value},cY H x d->zo x u->∃as,Reads s.heap u d as/\sysModules∉as
 | _,_,u,.non,r=>⟨[],by cases (show u=N7 from r);exact .none,by simp⟩
 | _,_,u,.bl b,r=>⟨[],by cases (show u=Pq b from r);exact .bool b,by simp⟩
 | _,_,u,.int i,r=>⟨[],by obtain ⟨t,rfl⟩:=r;exact .int i t,by simp⟩
 | _,_,u,.str x,r=>⟨[],by obtain ⟨t,rfl⟩:=r;exact .str x t,by simp⟩
 | _,_,u,.lst (a:=a) W h ds,r=>by
  obtain rfl:u=Ny a:=r;obtain ⟨z,its,n,F,e⟩:=I.hok a _ h;obtain ⟨as,q,hn⟩:=DatVs.reads I ds F;refine ⟨a::as,.list e rfl rfl q,λw=>?_⟩;rcases Nw.mp w with w|w
  .exact W w.symm
  .exact hn w
 | _,_,u,.tup (a:=a) h ds,r=>by
  obtain rfl:u=Ny a:=r;obtain ⟨z,its,F,o,e,hc,n,hd⟩:=I.hok a _ h;obtain ⟨as,q,hn⟩:=DatVs.reads I ds F;exact ⟨as,.tuple e hc hd q,hn⟩
 | _,_,u,.dic (a:=a) h,r=>by
  obtain rfl:u=Ny a:=r;obtain ⟨z,hs,vs,J,o,es,ep,e,S,U,O⟩:=I.hok a _ h;cases J;have G:es.toList=[]:=by
   have w:=O.2.1;generalize es.toList=l at w;cases w;rfl
  refine ⟨[a]++[],.dict (kvs:=[]) (as:=[]) (bs:=[]) e S.1 U (by rw [G];exact .nil) (by rw [G];exact .nil),λw=>?_⟩;have w':sysModules=a:=by simpa using w
  rw [w'] at hs;simp at hs
theorem DatVs.reads(I:Inv X Go σ H s):∀{xs:List V}{ds:List QG}{us:List Value},DatVs H xs ds->zp xs us->∃as,ReadsAll s.heap us ds as/\sysModules∉as
 | _,_,_,.nil,.nil=>⟨[],.nil,by simp⟩
 | _,_,_,.cons d ds,.cons r rs=>by
  obtain ⟨as,q,hn⟩:=cY.reads I d r;obtain ⟨bs,z,hm⟩:=DatVs.reads I ds rs;exact ⟨as++bs,.cons q z,λw=>(Og.mp w).elim hn hm⟩
end
def Az(A:NP):List V->Hp->VK->Prop:=λxs H Q=>∃a d,xs=[.ref a]/\cY H (.ref a) d/\d.showable=true/\A.units+(d.depth+1)<cLine/\d.shown.length<=sizeLine/\Q (.str d.shown) H
theorem HG(hg:X.A.guards=some []):zM X (.builtin "repr") (Az X.A):=by
 intro Go s σ H xs us Q I r h;obtain ⟨a,d,rfl,F,hs,O,J,q⟩:=h;cases r with
 | cons z S =>
  cases S;obtain ⟨as,G,hn⟩:=F.reads I z;rename_i u;obtain rfl:u=Ny a:=z;exact repr_of_reads' G hs (λ_=>hn) hg O (λ_ _ e=>e) (λh' u tk k=>⟨.str d.shown,H,I.kept k,⟨_,rfl⟩,q⟩) J
theorem Inv.big(I:Inv X Go σ H s):sysModules<s.heap.objs.size:=by
 have h:NA<s.heap.objs.size:=(I.mod.glob.keeps I.bk).lt;exact Nat.lt_trans (by decide) h
def BS:TE:=λ_ H Q=>∀p,H p=none->Q (.ref p) (upd H p (.dK []))
theorem Bs:PE X (.Dict [] [] pos) BS:=λGo s σ H Q I h =>
 wpAny_Dict_empty ⟨.ref s.heap.objs.size,_,I.laid (a:=s.heap.objs.size) (o:=.dK []) (t':=s.toks) (λ_ _ q=>zv _ q) (Nq _) ⟨Ot _,beq_eq_false_iff_ne.mpr (NO (Oh I.big)),[],.nil,Heap.DictOf.new s.heap⟩,rfl,h _ (I.hok.fresh (Nq _))⟩
end
theorem zK.mark{k:Nat}(r:zK c k A):zK false k (A.mark v):=⟨λh=>(nomatch h),r.dp,r.un,r.gd⟩
def aw:N0->Bool
 | .Starred _ _=>false
 | _=>true
theorem dG(h:aw e=true):NZ (e::es) env=(false,Os e env)::NZ es env:=by
 cases e<;>first|rfl|(exact absurd (show false=true from h) Nx)
def dB(es:List N0):Bool:=es.all aw
theorem vJ:∀{es:List N0}(h:dB es=true),(NZ es env).any (·.1)=false
 | [],_=>rfl
 | e::es,h=>by
  unfold dB at h;rw [List.all_cons,Oc] at h;rw [dG h.1,Rx,vJ h.2];rfl
theorem fg(h:dB es=true):(Pp pos (NZ es env)).any (·.1)=false:=by
 have q:=vJ (env:=env) h;unfold Pp;rw [List.any_map];exact q
theorem cT(h:aw e=true):NZ [e] env=[(false,Os e env)]:=(dG h).trans rfl
section
variable {X:Cx}
theorem zb{t:TA}(ha:W (PE X e te))(hr:W (PA X es t))(z:aw e=true:=by rfl):W (PA X (e::es) (lH te t)):=by refine ⟨?_⟩;have ha:=ha.h;have hr:=hr.h;exact dX ha hr (dG z)
theorem zL{id:String}{r:List V->Hp->VK->Prop}{t:TA}{p pos:Pos}(hc:zM X (.builtin id) r)(hg:Gl X x)(hm:X.mg x=none)(G:Qo x=some (.builtin id))(ha:W (PA X (e::es) t))(F:aw e=true:=by rfl)(z:dB es=true:=by rfl)(hn:x≠"__name__":=by decide)(J:(x==("__debug__":Str))=false:=by decide):W (PE X (.Call (.Name x p) (e::es) [] pos) (tCB r t)):=by refine ⟨?_⟩;have ha:=ha.h;exact vY hc hg hm G ha hn J (dG F) (fg z)
theorem fe{r:List V->Hp->VK->Prop}{t:TA}{p pos:Pos}(hc:zM X (.type T) r)(hg:Gl X x)(hm:X.mg x=none)(G:Qo x=some (.type T))(ha:W (PA X (e::es) t))(F:aw e=true:=by rfl)(z:dB es=true:=by rfl)(hn:x≠"__name__":=by decide)(J:(x==("__debug__":Str))=false:=by decide):W (PE X (.Call (.Name x p) (e::es) [] pos) (tCB r t)):=by refine ⟨?_⟩;have ha:=ha.h;exact GW hc hg hm G ha hn J (dG F) (fg z)
theorem dP{p pos:Pos}(hg:Gl X "range")(hm:X.mg "range"=none)(ha:W (PA X [a] ta))(z:aw a=true:=by rfl):W (PIc true X tg (.Call (.Name "range" p) [a] [] pos) (jg ta)):=by refine ⟨?_⟩;have ha:=ha.h;exact KF hg hm ha (cT z)
theorem iK{t:TA}(hc:X.calm=true)(T:bQ X Ex)(O:bY X.K C)(hg:Gl X x)(hm:X.mg x=some (.ref C))(ha:W (PA X (e::es) t))(G:aw e=true:=by rfl)(F:dB es=true:=by rfl)(J:(x==("__debug__":Str))=false:=by decide):W (PS X (.Raise (some (.Call (.Name x z) (e::es) [] cpos)) none pos) (pj C Ex t)):=by refine ⟨?_⟩;have ha:=ha.h;exact C0 hc T O hg hm ha J (dG G) (fg F)
structure New(H:Hp)(p:Addr)(o:HO)(H':Hp):Prop where
 no:H p=none
 at_:H' p=some o
 same:zj H H'
theorem New.mk'{p:Addr}{o:HO}(h:H p=none):New H p o (upd H p o):=⟨h,zx,λb u e=>by rw [zd (zE e h)];exact e⟩
def ue(t:TA):TE:=λσ H Q=>t σ H λxs H1=>xs.length<=sizeLine/\∀p H2,New H1 p (.lst xs) H2->p≠sysModules->Q (.ref p) H2
theorem ay{t:TA}(h:W (PA X es t)):W (PE X (.List es pos) (ue t)):=by
 refine ⟨?_⟩;have h:=h.h;intro Go s σ H Q I G;refine wpAny_List_spliced (thn (h pos Go s σ H _ I G) λus s1=>x5e λxs H1 F r=>x2e λz q=>⟨by rw [<- r.length];exact z,?_⟩);have hf:H1 s1.heap.objs.size=none:=F.hok.fresh (Nq _);refine ⟨.ref s1.heap.objs.size,upd H1 s1.heap.objs.size (.lst xs),F.laid (t':=s1.toks) (λb u e=>zv _ e) (Nq _) ?_,rfl,q _ _ (.mk' hf) (Qs F.big)⟩;exact ⟨z,us,0,r,NK _ rfl⟩
def ym(t:TA):TE:=λσ H Q=>t σ H λxs H1=>xs.length<=sizeLine/\∀p H2,New H1 p (.tup xs) H2->Q (.ref p) H2
theorem si{t:TA}(F:∀xs H,R xs H->z xs H)(h:PA X es t)(pos:Pos)(Go:List (Addr×Obj))(s:we)(σ:St)(H:Hp)(I:Inv X Go σ H s)(q:t σ H R):
  NF (NL X.prog X.w) X.A (spliced (Pp pos (NZ es X.env))) (AP X Go σ z) X.xe s :=
 thn (h pos Go s σ H R I q) λ_ _=>x5e λvs H' a b c=>⟨vs,H',a,b,F _ _ c⟩
theorem aO{t:TA}{x1}(h:W (PA X es t)):W (PE X (.Tuple es x1 pos) (ym t)):=by
 refine ⟨?_⟩;have h:=h.h;have h':PA X es (λσ H Q=>∃R:List V->Hp->Prop,t σ H R/\∀xs H,R xs H->Q xs H):=λpos Go s σ H Q I=>x3e λR q F=>si F h pos Go s σ H I q;intro Go s σ H Q I G;exact Hx h' Go s σ H Q I ⟨_,G,λxs H1=>x2e λz q=>⟨z,λp J=>q p _ (.mk' J)⟩⟩
def yx:TE:=λ_ H Q=>∀p H2,New H p (.dK []) H2->Q (.ref p) H2
theorem pR:W (PE X (.Dict [] [] pos) yx):=⟨λGo s σ H Q I h=>Bs Go s σ H Q I λp z=>h p _ (.mk' z)⟩
end
def uR(v:V)(q:Addr->Prop):Prop:=∃a,v = .ref a/\q a
def sW(to te:TE):TE:=λσ H Q=>to σ H λx H1=>uR x λl=>(∃xs,H1 l=some (.lst xs))/\te σ H1 λy H2=>∃xs,H2 l=some (.lst xs)/\xs.length<sizeLine/\Q .non (upd H2 l (.lst (xs++[y])))
section
variable {X:Cx}
theorem OpR.weak{r r':R2}(h:OpR X f r)(F:∀x y H Q,r' x y H Q->r x y H Q):OpR X f r' :=
 λGo s σ H x y v u Q I G z q=>h Go s σ H x y v u Q I G z (F x y H Q q)
theorem zM.weak{r r':List V->Hp->VK->Prop}(h:zM X f r)(z:∀xs H Q,r' xs H Q->r xs H Q):zM X f r' :=
 λGo s σ H xs us Q I rs q=>h Go s σ H xs us Q I rs (z xs H Q q)
theorem IxR.weak{r r':R2}(h:IxR X r)(G:∀x y H Q,r' x y H Q->r x y H Q):IxR X r' :=
 λZL J Go s σ H x y v u Q I F z q hs=>h ZL J Go s σ H x y v u Q I F z (G x y H Q q) hs
def dR:R2:=λx y H Q=>(∃i j,x = .int i/\y = .int j/\Q (.int (i+j)) H)\/(∃i j,x = .str i/\y = .str j/\i.length+j.length<=sizeLine/\Q (.str (i++j)) H) \/
 (∃l b xs zs,x = .ref l/\y = .ref b/\H l=some (.lst xs)/\H b=some (.lst zs)/\xs.length+zs.length<=sizeLine/\∀p H2,New H p (.lst (xs++zs)) H2->Q (.ref p) H2)
theorem Av:OpR X (Pd .Add) dR:=EO.or (Kk.or (B2.weak λx y H Q h=>by
 obtain ⟨l,b,xs,zs,z,F,h1,h2,h3,h4⟩:=h;exact ⟨l,b,xs,zs,z,F,h1,h2,h3,λp G=>h4 p _ (.mk' G)⟩))
def eZ:R2:=λx y H Q=>(∃i j,x = .int i/\y = .int j/\h7 i j/\Q (.int (i*j)) H) \/
 (∃l k xs,x = .ref l/\y = .int k/\H l=some (.lst xs)/\-(2 ^ 63)<=k/\k<2 ^ 63/\xs.length*k.toNat<=sizeLine/\∀p H2,New H p (.lst (N5 k.toNat xs).flatten) H2->Q (.ref p) H2)
theorem BC:OpR X (Pd .Mult) eZ:=IW.or (Ml.weak λx y H Q h=>by
 obtain ⟨l,k,xs,z,F,h1,h2,h3,J,h4⟩:=h;exact ⟨l,k,xs,z,F,h1,h2,h3,J,λp G=>h4 p _ (.mk' G)⟩)
def uIx:R2:=λx y H Q=>(∃p xs i v,x = .ref p/\y = .int i/\H p=some (.lst xs)/\atI xs i=some v/\Q v H) \/
 (∃p xs i v,x = .ref p/\y = .int i/\H p=some (.tup xs)/\atI xs i=some v/\Q v H)\/(∃z i c,x = .str z/\y = .int i/\z.length<=sizeLine/\atI z.cps.toList i=some c/\Q (.str ⟨#[c]⟩) H)
theorem BV:IxR X uIx:=Do.weak λx y H Q h=>by
 rcases h with ⟨p,xs,i,v,z,F,h,r⟩|⟨p,xs,i,v,z,F,h,r⟩|h
 .exact .inl ⟨p,xs,i,v,z,F,SqL.of h,r⟩
 .exact .inr (.inl ⟨p,xs,i,v,z,F,SqT.of h,r⟩)
 .exact .inr (.inr h)
def lh:List V->Hp->VK->Prop:=λxs H Q=>(∃p ys,xs=[.ref p]/\H p=some (.lst ys)/\Q (.int ys.length) H)\/(∃p ys,xs=[.ref p]/\H p=some (.tup ys)/\Q (.int ys.length) H) \/
 (∃z,xs=[.str z]/\z.length<=sizeLine/\Q (.int z.length) H)
theorem Mh:zM X (.builtin "len") lh:=(kG.or Nj).weak λxs H Q h=>by
 rcases h with ⟨p,ys,e,h,q⟩|⟨p,ys,e,h,q⟩|h
 .exact .inl ⟨p,ys,e,.inl (SqL.of h),q⟩
 .exact .inl ⟨p,ys,e,.inr (SqT.of h),q⟩
 .exact .inr h
def uEq(neg:Bool):R2:=λx y H Q=>(fS x y=true/\Q (.bl (if neg then !decide (x=y) else decide (x=y))) H) \/
 (∃a b xs ys,x = .ref a/\y = .ref b/\H a=some (.lst xs)/\H b=some (.lst ys)/\xs.all ah=true/\ys.all ah=true/\Q (.bl (if neg then !eqL xs ys else eqL xs ys)) H)
theorem aV(G:X.A.units<cLine):OpR X (Of .Eq) (uEq false):=(HW.or (Ae G)).weak λx y H Q h=>by
 rcases h with h|⟨a,b,xs,ys,z,F,h1,h2,r⟩
 .exact .inl ⟨h.1,by simpa using h.2⟩
 .exact .inr ⟨a,b,xs,ys,z,F,SqL.of h1,SqL.of h2,r⟩
theorem eS(G:X.A.units<cLine):OpR X (Of .NotEq) (uEq true):=(Ll.or (se G)).weak λx y H Q h=>by
 rcases h with h|⟨a,b,xs,ys,z,F,h1,h2,r⟩
 .exact .inl ⟨h.1,by simpa using h.2⟩
 .exact .inr ⟨a,b,xs,ys,z,F,SqL.of h1,SqL.of h2,r⟩
def Ab(K:Nu)(ta:TE):TT:=λσ H Q=>ta σ H λx H'=>∃k,gq K x H' k/\Q k H'
theorem bG(ha:W (PE X a ta))(he:∀z,isTrue a X.env z=(do let v<-z;QH a.pos;PV [v] (truthy v)):=by intro _;rfl):W (PT X a (Ab X.K ta)):=by refine ⟨?_⟩;have ha:=ha.h;exact JH ha he
def jJ(C:Addr)(ta:TE)(f:Str):TE:=λσ H Q=>ta σ H λx H1=>∃a dx fs v,x = .ref a/\H1 a=some (.ins C dx fs)/\fs.lookup f=some v/\Q v H1
theorem aa(c:Cls X.K C)(n:br X.K C f)(he:W (PE X e ta))(hb:OT e f X.env (Os e X.env)=Os e X.env:=by rfl):W (PE X (.Attribute e f pos) (jJ C ta f)):=by
 refine ⟨?_⟩;have he:=he.h;intro Go s σ H Q I h;refine LY hb (thn (he Go s σ H _ I h) λu s1=>x5e λx H1 J z F=>?_);obtain ⟨a,dx,fs,v,ex,ea,l,q⟩:=F;subst ex;obtain rfl:u=Ny a:=z;exact uC J ea c n l λS s2 G O=>⟨v,H1,G,O,q⟩
def jq(C:Addr)(ta tv:TE)(f:Str):TS:=λD σ H=>tv σ H λy H1=>ta σ H1 λx H2=>∃a dx fs,x = .ref a/\H2 a=some (.ins C dx fs)/\fs.length<1000/\D.nx σ (upd H2 a (.ins C dx (zR f y fs)))
theorem bz{o ZL:N0}{ta tv:TE}(c:Cls X.K C)(n:br X.K C f)(ha:W (PE X o ta))(z:W (PE X ZL tv))(hs:swapsWith ZL (some (.Attribute o f Y3)) pos.line X.env=pure false:=by rfl):W (PS X (.Assign [.Attribute o f Y3] ZL pos) (jq C ta tv f)):=by
 refine ⟨?_⟩;have ha:=ha.h;have z:=z.h;intro Go s σ H D I h;refine plainObj_wpAny_Assign_Attribute (thn (z Go s σ H _ I h) λu s1=>x5e λy H1 U O q=>thn (ha Go s1 σ H1 _ U q) λov s2=>x5e λx H2 S F J=>?_) hs;obtain ⟨a,dx,fs,ex,ea,l,G⟩:=J;subst ex;obtain rfl:ov=Ny a:=F;exact sZ S ea c n l O λs3 Z=>⟨σ,_,Z,G⟩
structure GF(P:NB)(w:NQ)(K:Nu)(mg:Str->Option Value)(base:Heap)(cm:Bool)(k:Nat)(x:Str)(ps:List Str)(sp:Sp):Prop where
 ex:∃(f:Addr)(fd:Nz),zm P w K mg base CX0 cm k f fd ps sp/\mg x=some (.ref f)/\Rk K (.ref f)=true/\bw K fd ps []
structure GX(P:NB)(w:NQ)(K:Nu)(mg:Str->Option Value)(base:Heap)(cm:Bool)(k:Nat)(x:Str)(ps:List Str)(sp:Sp):Prop where
 ex:∃(f:Addr)(fd:Nz),zm P w K mg base (CXW P w) cm k f fd ps sp/\mg x=some (.ref f)/\Rk K (.ref f)=true/\bw K fd ps []
structure GM(P:NB)(w:NQ)(K:Nu)(mg:Str->Option Value)(base:Heap)(cm:Bool)(k:Nat)(C:Addr)(m:Str)(ps:List Str)(sp:Sp):Prop where
 ex:∃(f:Addr)(fd:Nz),zm P w K mg base CX0 cm k f fd ps sp/\gE K C m f/\bw K fd ps []
structure GMX(P:NB)(w:NQ)(K:Nu)(mg:Str->Option Value)(base:Heap)(cm:Bool)(k:Nat)(C:Addr)(m:Str)(ps:List Str)(sp:Sp):Prop where
 ex:∃(f:Addr)(fd:Nz),zm P w K mg base (CXW P w) cm k f fd ps sp/\gE K C m f/\bw K fd ps []
structure GC(P:NB)(w:NQ)(K:Nu)(mg:Str->Option Value)(base:Heap)(cm:Bool)(k:Nat)(x:Str)(C:Addr)(ps:List Str)(sp:Sp):Prop where
 ex:∃(f:Addr)(fd:Nz),zm P w K mg base CX0 cm k f fd ps sp/\mg x=some (.ref C)/\Mk K C f/\bw K fd ps []
variable {cm:Bool}{k j:Nat}{x m:Str}{C:Addr}{ps:List Str}{sp:Sp}{e o:N0}{es:List N0}{t:TA}{ta:TE}{p pos Z3:Pos}{Ex:Addr->St->Hp->Prop}
theorem zq(G:GF X.prog X.w X.K X.mg X.base cm j x ps sp)(hr:zK cm k X.A)(hg:Gl X x)(ha:W (PA X (e::es) t))(U:j<=k:=by decide)(z:(x==("__debug__":Str))=false:=by decide)(S:aw e=true:=by rfl)(J:dB es=true:=by rfl):W (PE X (.Call (.Name x p) (e::es) [] pos) (jV sp [] E0 t)):=by
 refine ⟨?_⟩;have ha:=ha.h;obtain ⟨f,fd,F,hm,O,hb⟩:=G.ex;exact Nl F (hr.mono U) hg hm O hb .nil i9 ha z (dG S) (fg J)
theorem pI(T:bQ X Ex)(G:GX X.prog X.w X.K X.mg X.base cm j x ps sp)(hr:zK cm k X.A)(hg:Gl X x)(ha:W (PA X (e::es) t))(U:j<=k:=by decide)(z:(x==("__debug__":Str))=false:=by decide)(S:aw e=true:=by rfl)(J:dB es=true:=by rfl):W (PE X (.Call (.Name x p) (e::es) [] pos) (lG sp [] Ex t)):=by
 refine ⟨?_⟩;have ha:=ha.h;obtain ⟨f,fd,F,hm,O,hb⟩:=G.ex;exact GA T F (hr.mono U) hg hm O hb .nil ha z (dG S) (fg J)
theorem bS(he:W (PE X o ta))(c:Cls X.K C)(G:GM X.prog X.w X.K X.mg X.base cm j C m ps sp)(hr:zK cm k X.A)(ha:W (PA X (e::es) t))(J:j<=k:=by decide)(O:aw e=true:=by rfl)(S:dB es=true:=by rfl)(z:Os (.Call (.Attribute o m Z3) (e::es) [] pos) X.env=(do
   let ov<-Os o X.env
   QH Z3.atName
   let (f,first)<-PV [ov] (QK ov m pl)
   QE pos f first (Pp pos (NZ (e::es) X.env)) (Rw pos (Qh [] X.env))):=by rfl):W (PE X (.Call (.Attribute o m Z3) (e::es) [] pos) (fh C m sp [] E0 ta t)):=by
 refine ⟨?_⟩;have he:=he.h;have ha:=ha.h;obtain ⟨f,fd,F,hm,hb⟩:=G.ex;exact Ee he c hm F (hr.mono J) hb .nil i9 ha (dG O) (fg S) z
theorem bh(he:W (PE X o ta))(c:Cls X.K C)(G:GM X.prog X.w X.K X.mg X.base cm j C m ps sp)(hr:zK cm k X.A)(J:j<=k:=by decide)(z:Os (.Call (.Attribute o m Z3) [] [] pos) X.env=(do
   let ov<-Os o X.env
   QH Z3.atName
   let (f,first)<-PV [ov] (QK ov m pl)
   QE pos f first (Pp pos (NZ [] X.env)) (Rw pos (Qh [] X.env))):=by rfl):W (PE X (.Call (.Attribute o m Z3) [] [] pos) (fh C m sp [] E0 ta cb)):=by
 refine ⟨?_⟩;have he:=he.h;obtain ⟨f,fd,F,hm,hb⟩:=G.ex;exact DT he c hm F (hr.mono J) hb .nil i9 z
theorem gO(he:W (PE X o ta))(c:Cls X.K C)(T:bQ X Ex)(G:GMX X.prog X.w X.K X.mg X.base cm j C m ps sp)(hr:zK cm k X.A)(ha:W (PA X (e::es) t))(J:j<=k:=by decide)(O:aw e=true:=by rfl)(S:dB es=true:=by rfl)(z:Os (.Call (.Attribute o m Z3) (e::es) [] pos) X.env=(do
   let ov<-Os o X.env
   QH Z3.atName
   let (f,first)<-PV [ov] (QK ov m pl)
   QE pos f first (Pp pos (NZ (e::es) X.env)) (Rw pos (Qh [] X.env))):=by rfl):W (PE X (.Call (.Attribute o m Z3) (e::es) [] pos) (fH C m sp [] Ex ta t)):=by
 refine ⟨?_⟩;have he:=he.h;have ha:=ha.h;obtain ⟨f,fd,F,hm,hb⟩:=G.ex;exact E1 he c hm T F (hr.mono J) hb .nil ha (dG O) (fg S) z
theorem fT(he:W (PE X o ta))(c:Cls X.K C)(T:bQ X Ex)(G:GMX X.prog X.w X.K X.mg X.base cm j C m ps sp)(hr:zK cm k X.A)(J:j<=k:=by decide)(z:Os (.Call (.Attribute o m Z3) [] [] pos) X.env=(do
   let ov<-Os o X.env
   QH Z3.atName
   let (f,first)<-PV [ov] (QK ov m pl)
   QE pos f first (Pp pos (NZ [] X.env)) (Rw pos (Qh [] X.env))):=by rfl):W (PE X (.Call (.Attribute o m Z3) [] [] pos) (fH C m sp [] Ex ta cb)):=by
 refine ⟨?_⟩;have he:=he.h;obtain ⟨f,fd,F,hm,hb⟩:=G.ex;exact EB he c hm T F (hr.mono J) hb .nil z
structure oJ(H:Hp)(C x dx:Addr)(H':Hp):Prop where
 no:H x=none
 nod:H dx=none
 ne:dx≠x
 at_:H' x=some (.ins C dx [])
 own:H' dx=some (.own x)
 same:zj H H'
theorem oJ.mk'{C x dx:Addr}(h:H x=none)(hd:H dx=none)(ne:dx≠x):oJ H C x dx (upd (upd H dx (.own x)) x (.ins C dx [])) :=
 ⟨h,hd,ne,zx,by rw [zd ne,zx],λb u e=>by rw [zd (zE e h),zd (zE e hd)];exact e⟩
def jX(C:Addr)(sp:Sp)(t:TA):TE:=λσ H Q=>t σ H λvs H1=>∀x dx H2,oJ H1 C x dx H2->sp (.ref x::vs) H2 (λv H3=>v = .non/\Q (.ref x) H3) E0
theorem PA.any{es:List N0}{t:TA}(h:PA X es t):PA X es (λσ H Q=>∃R:List V->Hp->Prop,t σ H R/\∀xs H,R xs H->Q xs H):=λpos Go s σ H Q I=>x3e λR q z=>si z h pos Go s σ H I q
theorem qP(G:GC X.prog X.w X.K X.mg X.base cm j x C ps sp)(hr:zK cm k X.A)(hg:Gl X x)(ha:W (PA X (e::es) t))(z:j+1<=k:=by decide)(S:(x==("__debug__":Str))=false:=by decide)(O:aw e=true:=by rfl)(J:dB es=true:=by rfl):W (PE X (.Call (.Name x p) (e::es) [] pos) (jX C sp t)):=by
 refine ⟨?_⟩;have ha:=ha.h;obtain ⟨f,fd,F,hm,M,hb⟩:=G.ex;intro Go s σ H Q I h;exact HL M F (hr.mono z) hg hm hb .nil i9 ha.any S (dG O) (fg J) Go s σ H Q I ⟨_,h,λvs H1 q x dx hx hd ne=>by rw [O8];exact q x dx _ (.mk' hx hd ne)⟩
theorem wQ{pos:Pos}(hg:Gl X x)(hm:∃u,X.mg x=some u/\zo v u)(hd:(x==("__debug__":Str))=false:=by decide):PE X (.Name x pos) (tC v):=by
 obtain ⟨u,hm,r⟩:=hm;exact Mu hg hm r hd
theorem hU{o e:N0}{Z3 cpos:Pos}(ho:W (PE X o to))(he:W (PE X e te))(ZI:OT o "append" X.env (Os o X.env)=Os o X.env:=by rfl)(ZH:(Z3.endLine==cpos.line)=true:=by rfl)(hp:aw e=true:=by rfl):W (PE X (.Call (.Attribute o "append" Z3) [e] [] cpos) (sW to te)):=by
 refine ⟨?_⟩;have ho:=ho.h;have he:=he.h;intro Go s σ H Q I h;have hs:NZ [e] X.env=[(false,Os e X.env)]:=cT hp;refine O4 ZI (by rw [hs];rfl) ZH rfl (thn (ho Go s σ H _ I h) λv s1=>x5e λx H1 Z U O=>?_);obtain ⟨l,ex,⟨xs,hx⟩,q1⟩:=O;subst ex;obtain ⟨h1,h2⟩:=gX (T:="list") Z U (.inl ⟨rfl,xs,SqL.of hx⟩);refine ⟨"list","list.append",RE,PySem.F.slot_list_append,PySem.F.type_list_append,h1,h2,?_⟩;rw [hs];refine Calls.callWith_builtin rfl (Calls.evalArgs_plain ?_);have S:=dX he dQ (hs:=hs) cpos Go s1 σ H1 (λys H2=>cx (λy=>∃xs,H2 l=some (.lst xs)/\xs.length<sizeLine/\Q .non (upd H2 l (.lst (xs++[y])))) ys) Z q1;rw [hs] at S;refine thn S λus s2=>x5e λvs H2 I2 r2 z=>?_;obtain ⟨y,rfl,J,G,Yp,z⟩:=cx.ex z;exact DG Go s2 σ H2 (.ref l) [y] v us Q I2 U r2 ⟨l,J,y,rfl,rfl,G,Yp,z⟩
end
section
variable {X:Cx}
def eB:List V->Hp->VK->Prop:=λxs H Q=>(∃i,xs=[.int i]/\Q (.int i) H)\/∃k,xs=[.bl k]/\Q (.int (if k then 1 else 0)) H
theorem Gj:zM X (.type "int") eB:=MT
def fQ:List V->Hp->VK->Prop:=λxs H Q=>∃i,xs=[.int i]/\i.natAbs.log2<1920/\Q (.str (toString i)) H
theorem Gz:zM X (.type "str") fQ:=EM
theorem Kt:eB [.int i] H Q=Q (.int i) H:=by simp [eB]
theorem Cr{k:Bool}:eB [.bl k] H Q=Q (.int (if k then 1 else 0)) H:=by simp [eB]
theorem Md:fQ [.int i] H Q=(i.natAbs.log2<1920/\Q (.str (toString i)) H):=by simp [fQ]
def nF:List V->Hp->VK->Prop:=λxs H Q=>∃i j,xs=[.int i,.int j]/\Q (.int (if j>i then j else i)) H
def yF:List V->Hp->VK->Prop:=λxs H Q=>∃i j,xs=[.int i,.int j]/\Q (.int (if j<i then j else i)) H
theorem BI(hc:X.calm=true):zM X (.builtin "max") nF:=Mt hc
theorem rK(hc:X.calm=true):zM X (.builtin "min") yF:=BN hc
theorem mr:nF [.int i,.int j] H Q=Q (.int (if j>i then j else i)) H:=by
 apply propext;constructor
 .rintro ⟨a,b,e,q⟩;cases e;exact q
 .exact λq=>⟨i,j,rfl,q⟩
theorem KA:yF [.int i,.int j] H Q=Q (.int (if j<i then j else i)) H:=by
 apply propext;constructor
 .rintro ⟨a,b,e,q⟩;cases e;exact q
 .exact λq=>⟨i,j,rfl,q⟩
end
section
variable {Y:Cx}{sc:Scope}{N':List Str}{Go:List (Addr×Obj)}{D:Addr}{fp:List Addr}{s:we}{H:Hp}
theorem gB{k:Nat}{t:TGs}(h:W (PGs (zP Y sc N' Go D fp s H) es t))(hl:(Po es (zP Y sc N' Go D fp s H).env).length=n:=by rfl)(hst:(Po es (zP Y sc N' Go D fp s H).env).findIdx? (·.1)=none:=by rfl):W (PG (zP Y sc N' Go D fp s H) (.Tuple es k pos) (mQ Y.K n t)):=by refine ⟨?_⟩;have h:=h.h;exact vK h hl hst
end
theorem Lk{t:TG}{r:List V}:nr t u (v::r) σ H Q=t v σ H λz H'=>u r z H' Q:=by
 apply propext;constructor
 .rintro ⟨v,r,e,h⟩;cases e;exact h
 .exact λh=>⟨v,r,rfl,h⟩
theorem Fb:yI [] σ H Q=Q σ H:=by
 apply propext;constructor
 .exact λh=>h.2
 .exact λh=>⟨rfl,h⟩
section
variable {H:Hp}{Q:VK}{i j:Int}{x y:Str}{a b:Addr}{K:Nu}{g:Int->Int->V}{C:Int->Int->Prop}{k c:Bool}{QB:Bool->Hp->Prop}
theorem yR:dR (.int i) (.int j) H Q=Q (.int (i+j)) H:=by simp [dR]
theorem As:dR (.str x) (.str y) H Q=(x.length+y.length<=sizeLine/\Q (.str (x++y)) H):=by simp [dR]
theorem nK:dR (.ref a) (.ref b) H Q = ∃xs zs,H a=some (.lst xs)/\H b=some (.lst zs)/\xs.length+zs.length<=sizeLine/\∀p H2,New H p (.lst (xs++zs)) H2->Q (.ref p) H2:=by simp [dR]
theorem sP:eZ (.int i) (.int j) H Q=(h7 i j/\Q (.int (i*j)) H):=by simp [eZ]
theorem Ld:eZ (.ref a) (.int i) H Q = ∃xs,H a=some (.lst xs)/\-(2 ^ 63)<=i/\i<2 ^ 63/\xs.length*i.toNat<=sizeLine/\∀p H2,New H p (.lst (N5 i.toNat xs).flatten) H2->Q (.ref p) H2:=by simp [eZ]
theorem AA:uIx (.ref a) (.int i) H Q = ∃xs,(H a=some (.lst xs)\/H a=some (.tup xs))/\∃v,atI xs i=some v/\Q v H:=by
 apply propext;constructor
 .rintro (⟨p,xs,i,v,F,G,h,r⟩|⟨p,xs,i,v,F,G,h,r⟩|⟨z,i,c,e,_⟩)
  .cases F;cases G;exact ⟨xs,.inl h,v,r⟩
  .cases F;cases G;exact ⟨xs,.inr h,v,r⟩
  .cases e
 .rintro ⟨xs,h|h,v,r⟩
  .exact .inl ⟨_,xs,_,v,rfl,rfl,h,r⟩
  .exact .inr (.inl ⟨_,xs,_,v,rfl,rfl,h,r⟩)
theorem AI:uIx (.str x) (.int i) H Q=(x.length<=sizeLine/\∃c,atI x.cps.toList i=some c/\Q (.str ⟨#[c]⟩) H):=by simp [uIx]
theorem vQ:lh [.ref a] H Q = ∃ys,(H a=some (.lst ys)\/H a=some (.tup ys))/\Q (.int ys.length) H:=by
 apply propext;constructor
 .rintro (⟨p,xs,F,h,r⟩|⟨p,xs,F,h,r⟩|⟨z,e,_⟩)
  .cases F;exact ⟨xs,.inl h,r⟩
  .cases F;exact ⟨xs,.inr h,r⟩
  .cases e
 .rintro ⟨xs,h|h,r⟩
  .exact .inl ⟨_,xs,rfl,h,r⟩
  .exact .inr (.inl ⟨_,xs,rfl,h,r⟩)
theorem vG:lh [.str x] H Q=(x.length<=sizeLine/\Q (.int x.length) H):=by simp [lh]
theorem E6:rI C g (.int i) (.int j) H Q=(C i j/\Q (g i j) H):=by simp [rI]
theorem vR:rI0 g (.int i) (.int j) H Q=Q (g i j) H:=by simp [rI0]
theorem Bw{g:Int->V}:rU g (.int i) H Q=Q (g i) H:=by simp [rU]
theorem vV:uEq c (.int i) (.int j) H Q=Q (.bl (if c then !decide (i=j) else decide (i=j))) H:=by simp [uEq,fS]
theorem wA:uEq c (.str x) (.str y) H Q=Q (.bl (if c then !decide (x=y) else decide (x=y))) H:=by simp [uEq,fS]
theorem w6:uEq c (.bl k) (.bl k') H Q=Q (.bl (if c then !decide (k=k') else decide (k=k'))) H:=by simp [uEq,fS]
theorem vI:uEq c (.ref a) (.ref b) H Q = ∃xs ys,H a=some (.lst xs)/\H b=some (.lst ys)/\xs.all ah=true/\ys.all ah=true/\Q (.bl (if c then !eqL xs ys else eqL xs ys)) H:=by simp [uEq,fS]
def fV(K:Nu)(v:V)(H:Hp)(Q:Bool->Hp->Prop):Prop:=∃k,gq K v H k/\Q k H
theorem CK:fV K (.bl k) H QB=QB k H:=by simp [fV,gq]
theorem JX:fV K .non H QB=QB false H:=by simp [fV,gq]
theorem Df:fV K (.int i) H QB=QB (i != 0) H:=by simp [fV,gq]
theorem B6:Ab K ta σ H QB=ta σ H λx H'=>fV K x H' QB:=rfl
def uB(v:V)(q:Bool->Prop):Prop:=∃c,v = .bl c/\q c
theorem Mn:uB (.bl k) q=q k:=by simp [uB]
theorem FI{t:TE}:lC t σ H QB=t σ H λx H1=>uB x λc=>QB c H1:=rfl
theorem Ku{t u:TE}:mB t u σ H Q=t σ H λx H1=>uB x λc=>if c=true then u σ H1 Q else Q (.bl false) H1:=rfl
theorem Dq{t u:TE}:AM t u σ H Q=t σ H λx H1=>uB x λc=>if c=true then Q (.bl true) H1 else u σ H1 Q:=rfl
theorem BJ{t:TE}:qF t σ H Q=t σ H λx H1=>uB x λc=>Q (.bl (!c)) H1:=rfl
theorem HD{r r':R2}:tF r r' ta tb tc σ H Q=ta σ H λx H1=>tb σ H1 λy H2=>r x y H2 λz H3=>uB z λk=>if k=true then tc σ H3 λw' H4=>r' y w' H4 Q else Q (.bl false) H3:=rfl
theorem mh:uR (.ref a) q=q a:=by simp [uR]
theorem JZ{C:Addr}:jJ C ta f σ H Q=ta σ H λx H1=>uR x λa=>∃dx fs v,H1 a=some (.ins C dx fs)/\fs.lookup f=some v/\Q v H1:=by
 unfold jJ uR;congr;funext x H1;apply propext;constructor
 .rintro ⟨a,dx,fs,v,h1,h2,h3,h4⟩;exact ⟨a,h1,dx,fs,v,h2,h3,h4⟩
 .rintro ⟨a,h1,dx,fs,v,h2,h3,h4⟩;exact ⟨a,dx,fs,v,h1,h2,h3,h4⟩
theorem FH{C:Addr}{ta tv:TE}:jq C ta tv f D σ H=tv σ H λy H1=>ta σ H1 λx H2=>uR x λa=>∃dx fs,H2 a=some (.ins C dx fs)/\fs.length<1000/\D.nx σ (upd H2 a (.ins C dx (zR f y fs))):=by
 unfold jq uR;congr;funext x H1;congr;funext x2 H2;apply propext;constructor
 .rintro ⟨a,dx,fs,h1,h2,h3,h4⟩;exact ⟨a,h1,dx,fs,h2,h3,h4⟩
 .rintro ⟨a,h1,dx,fs,h2,h3,h4⟩;exact ⟨a,dx,fs,h1,h2,h3,h4⟩
theorem IU{C:Addr}{t:TA}:fh C m sp Zq E ta t σ H Q=ta σ H λx H1=>uR x λa=>∃dx fs,H1 a=some (.ins C dx fs)/\fs.lookup m=none/\t σ H1 λvs H2=>sp (.ref a::(vs++Zq)) H2 Q E:=by
 unfold fh uR;congr;funext x H1;apply propext;constructor
 .rintro ⟨a,dx,fs,rfl,h2,h3,h4⟩;exact ⟨a,rfl,dx,fs,h2,h3,h4⟩
 .rintro ⟨a,rfl,dx,fs,h2,h3,h4⟩;exact ⟨a,dx,fs,rfl,h2,h3,h4⟩
theorem MU{C:Addr}{t:TA}:fH C m sp Zq Ex ta t σ H Q=ta σ H λx H1=>uR x λa=>∃dx fs,H1 a=some (.ins C dx fs)/\fs.lookup m=none/\t σ H1 λvs H2=>sp (.ref a::(vs++Zq)) H2 Q (XE Ex σ):=by
 unfold fH uR;congr;funext x H1;apply propext;constructor
 .rintro ⟨a,dx,fs,rfl,h2,h3,h4⟩;exact ⟨a,rfl,dx,fs,h2,h3,h4⟩
 .rintro ⟨a,rfl,dx,fs,h2,h3,h4⟩;exact ⟨a,dx,fs,rfl,h2,h3,h4⟩
end
section
variable {K:Nu}{g:TG}{tb:TS}{D:aP}{σ:St}{H:Hp}{ta:TA}{tl:TE}{wi:TI}{R:It->Hp->Prop}{j:Int}{tt:TT}{te:TE}{ix:List (Option Nat)}{Q:VK}
def aA(J:It)(g:TG)(tb:TS)(D:aP)(σ:St)(H:Hp):Prop:=∃W:Nat->Nat->St->Hp->Prop,(∃m,W 0 m σ H)/\∀i m σ H,W i m σ H ->
 (J.stop i H/\D.nx σ H)\/(J.go i H/\∃N:St->Hp->Prop,(∀z H',N z H'->∃G,G<m/\W (i+1) G z H')/\∀x H',J.ai i H x H'->g x σ H' λF H2=>tb { D with nx:=N,ct:=N,bk:=D.nx } F H2)
theorem Hs:rR wi g tb D σ H=wi σ H λJ H1=>aA J g tb D σ H1:=rfl
def uI1(vs:List V)(q:Int->Prop):Prop:=∃j,vs=[.int j]/\q j
theorem Co:uI1 [.int j] q=q j:=by simp [uI1]
theorem CJ:jg ta σ H R=ta σ H λvs H1=>uI1 vs λj=>-(2 ^ 62)<=j/\j<2 ^ 62/\R (Itr 0 j.toNat) H1:=rfl
theorem Hj:gD K tl σ H R=tl σ H λx H1=>uR x λa=>(∃xs,SqL K H1 a xs)/\R (Itl K a) H1:=rfl
def uR2(vs:List V)(q:Addr->Addr->Prop):Prop:=∃a b,vs=[.ref a,.ref b]/\q a b
theorem MV:uR2 [.ref a,.ref b] q=q a b:=by
 apply propext;constructor
 .rintro ⟨c,d,e,h⟩;cases e;exact h
 .exact λh=>⟨a,b,rfl,h⟩
def zT(J:It)(g:TG)(tt:TT)(te:TE)(τ:St)(H:Hp)(Q:VK):Prop:=∃W:Nat->Nat->St->List V->Hp->Prop,(∃m,W 0 m τ [] H)/\∀i m τ ys H2,W i m τ ys H2->ys.length<sizeLine /\
 ((J.stop i H2 ∧ ∀ D, H2 D = none → D ≠ sysModules → Q (.ref D) (upd H2 D (.lst ys))) ∨
  (J.go i H2 ∧ ∀ x H3, J.ai i H2 x H3 → g x τ H3 fun z H4 => tt z H4 fun ok H5 => if ok = true then te z H5 fun y H6 => ∃ F, F < m ∧ W (i + 1) F z (ys ++ [y]) H6 else ∃ F, F < m ∧ W (i + 1) F z ys H5))
theorem M6:tLC ix wi g tt te σ H Q=wi σ H λJ H1=>zT J g tt te (cz ix σ) H1 Q:=rfl
theorem aA.rng{lo:Int}(z:Nat->St->Hp->Prop)(G:z 0 σ H)(hs:∀i σ H,i<n->z i σ H->g (.int (lo+i)) σ H λF H2=>tb { D with nx:=z (i+1),ct:=z (i+1),bk:=D.nx } F H2)(hd:∀σ H,z n σ H->D.nx σ H):aA (Itr lo n) g tb D σ H:=C4 z G hs hd
theorem aA.lst{a:Addr}{xs:List V}(z:Nat->St->Hp->Prop)(G:z 0 σ H)(hl:∀i σ H,i<=xs.length->z i σ H->SqL K H a xs)
  (hs:∀i x σ H,xs[i]?=some x->z i σ H->g x σ H λF H2=>tb { D with nx:=z (i+1),ct:=z (i+1),bk:=D.nx } F H2) (hd:∀σ H,z xs.length σ H->D.nx σ H):aA (Itl K a) g tb D σ H:=Gk z G hl hs hd
def dD(N:St->List V->Hp->Prop)(ys:List V)(z:St)(te:TE)(ok:Bool)(H5:Hp):Prop:=if ok=true then te z H5 λy H6=>N z (ys++[y]) H6 else N z ys H5
theorem Lq:dD N ys τ te true H=te τ H λy H6=>N τ (ys++[y]) H6:=rfl
theorem Hm:dD N ys τ te false H=N τ ys H:=rfl
theorem zT.rng{lo:Int}(F:Nat->St->List V->Hp->Prop)(S:∀i τ ys H,F i τ ys H->ys.length<sizeLine)(U:F 0 τ [] H)(hs:∀(N:St->List V->Hp->Prop) i τ ys H,i<n->F i τ ys H->(∀τ ys H,F (i+1) τ ys H->N τ ys H)->g (.int (lo+i)) τ H λz H4=>tt z H4 λok H5=>dD N ys z te ok H5)(hd:∀τ ys H,F n τ ys H->∀D H',New H D (.lst ys) H'->Q (.ref D) H'):zT (Itr lo n) g tt te τ H Q:=by
 refine ⟨λi m τ ys H=>m=n-i/\i<=n/\F i τ ys H,⟨n,by simp,Ot _,U⟩,?_⟩;rintro i m τ ys H2 ⟨rfl,hi,p⟩;refine ⟨S i τ ys H2 p,?_⟩;by_cases G:i<n
 .refine .inr ⟨G,λx H' y=>?_⟩;obtain ⟨e,y⟩:=y;subst e y;exact hs (λz ys H=>∃J,J<n-i/\J=n-(i+1)/\i+1<=n/\F (i+1) z ys H) i τ ys _ G p λz zs H q=>⟨n-(i+1),by lia,rfl,G,q⟩
 .have e:i=n:=by lia
  subst e;exact .inl ⟨Nq _,λD O _=>hd τ ys H2 p D _ (.mk' O)⟩
end
section
variable {X:Cx}
def ll:V->Option Int->Option Int->Hp->VK->Prop:=λx lo hi H Q=>∃z,x = .str z/\z.length<=sizeLine/\Q (.str (Txt.slice z lo hi)) H
theorem CV{h:Heap}{lo hi:Option Int}(hs:h.IsSliceOf sl G z .none)(pl:RY G lo)(F:RY z hi):∃l u:Option (Int×Tok),h.IsSlice sl l u none/\l.map (·.1)=lo/\u.map (·.1)=hi:=by
 obtain ⟨o,h1,h2,h3⟩:=hs;cases pl with
 | none =>
  cases F with
  | none=>exact ⟨none,none,⟨o,h1,h2,h3⟩,rfl,rfl⟩
  | int j t=>exact ⟨none,some (j,t),⟨o,h1,h2,h3⟩,rfl,rfl⟩
 | int i t' =>
  cases F with
  | none=>exact ⟨some (i,t'),none,⟨o,h1,h2,h3⟩,rfl,rfl⟩
  | int j t=>exact ⟨some (i,t'),some (j,t),⟨o,h1,h2,h3⟩,rfl,rfl⟩
theorem EX:SlR X ll:=by
 intro Go s σ H x v Z vu lo hi sl Q I J hs pl G h;obtain ⟨z,rfl,W,q⟩:=h;obtain ⟨t,rfl⟩:=J;obtain ⟨l,u,O,S,U⟩:=CV hs pl G;subst S U;exact ⟨"str",_,F.slot_str_getitem.lookup,Rj _ _ _,wpAny_getItem_str_slice (l:=l) (u:=u) (st:=none) O rfl
  (post_val_or_str ⟨N6 (Txt.slice_le z _ _) W,λt' k=>⟨.str _,H,I.tok k,⟨_,rfl⟩,q⟩⟩)⟩
def uSl:V->Option Int->Option Int->Hp->VK->Prop:=λx lo hi H Q=>(∃a xs,x = .ref a/\H a=some (.lst xs)/\∀p H2,New H p (.lst (aX xs lo hi)) H2->Q (.ref p) H2)\/ll x lo hi H Q
theorem SlR.weak{r r':V->Option Int->Option Int->Hp->VK->Prop}(h:SlR X r)(F:∀x l u H Q,r' x l u H Q->r x l u H Q):SlR X r' :=
 λGo s σ H x v J O lo hi sl Q I G hs pl z q=>h Go s σ H x v J O lo hi sl Q I G hs pl z (F _ _ _ _ _ q)
theorem fZ:SlR X uSl:=((HZ (X:=X)).or EX).weak λx l u H Q h=>by
 rcases h with ⟨a,xs,e,h,q⟩|h
 .exact .inl ⟨a,xs,e,SqL.of h,λp z=>q p _ (.mk' z)⟩
 .exact .inr h
def ma(v:V)(q:Int->Prop):Prop:=∃i,v = .int i/\q i
theorem yA:ma (.int i) q=q i:=by simp [ma]
theorem Be{t:TE}:wj t σ H Q=t σ H λx H1=>ma x λi=>Q (some i) H1:=rfl
theorem wX{lo hi:Option Int}:uSl (.str z) lo hi H Q=(z.length<=sizeLine/\Q (.str (Txt.slice z lo hi)) H):=by simp [uSl,ll]
theorem qp{lo hi:Option Int}:uSl (.ref a) lo hi H Q = ∃xs,H a=some (.lst xs)/\∀p H2,New H p (.lst (aX xs lo hi)) H2->Q (.ref p) H2:=by simp [uSl,ll]
theorem BB:∀{us:List Value},zp (ys.map V.str) us->StrsAre us ys:=by
 induction ys with
 | nil=>intro us r;rw [map_nil] at r;cases r;exact .nil
 | cons n ns F =>
  intro us r;rw [Om] at r;cases r with
  | cons G z =>
   obtain ⟨t,e⟩:=G;subst e;exact .cons n t (F z)
def jh:V->List V->Hp->VK->Prop:=λx vs H Q=>∃z p ys,x = .str z/\vs=[.ref p]/\H p=some (.lst (ys.map V.str))/\(ys.map (·.length)).sum+ys.length*z.length<=16777216/\Q (.str (Txt.join z ys)) H
theorem JL:MtR X "str.join" jh:=by
 intro Go s σ H x xs v us Q I F rs h;obtain ⟨z,p,ys,rfl,rfl,J,S,q⟩:=h;obtain ⟨t,rfl⟩:=F;cases rs with
 | cons O U =>
  cases U;cases (show _=Ny p from O);obtain ⟨its,r,G,_⟩:=I.list (SqL.of (K:=X.K) J);exact join_list G.isList (by simpa using BB r) S λt' k=>⟨.str _,H,I.tok k,⟨_,rfl⟩,q⟩
def iW(z:Str)(n:Nat):Str:=⟨((N5 n z.cps.toList).flatten).toArray⟩
theorem yh{α:Type}(l:List α):∀(n:Nat)(ZJ:List α),foldl (λF z:Array α=>F++z) ZJ.toArray (N5 n l.toArray)=(ZJ++(N5 n l).flatten).toArray
 | 0,ZJ=>by simp
 | n+1,ZJ=>by
  rw [OZ,SC,List.append_toArray,yh l n (ZJ++l)];simp [OZ]
theorem Fv(z:Str)(n:Nat):(⟨(N5 n z.cps).foldl (·++·) #[]⟩:Str)=iW z n:=by
 have h:=yh z.cps.toList n [];unfold iW;congr 1
theorem wt{α:Type}(l:List α):∀n:Nat,((N5 n l).flatten).length=l.length*n
 | 0=>by simp
 | n+1=>by rw [OZ,Q6,NY,wt l n,Nat.mul_succ];lia
theorem IY(z:Str)(n:Nat):(iW z n).length=z.length*n:=by
 show (((N5 n z.cps.toList).flatten).toArray).size=_;rw [NI,wt];rfl
def iz:R2:=λx y H Q=>∃z n,x = .str z/\y = .int n/\1<n/\n<2 ^ 31/\z.length≠0/\z.length*n.toNat<=sizeLine/\Q (.str (iW z n.toNat)) H
theorem Hi:OpR X (Pd .Mult) iz:=by
 intro Go s σ H x y v u Q I G F h;obtain ⟨z,n,rfl,rfl,h1,h2,h3,h4,q⟩:=h;obtain ⟨t,rfl⟩:=G;obtain ⟨t',rfl⟩:=F;have hs:sizeLine=16777216:=Ox;have hc:(n==1||z.length==0)=false:=by
  rw [Bool.or_eq_false_iff];exact ⟨beq_eq_false_iff_ne.mpr (by lia),beq_eq_false_iff_ne.mpr h3⟩
 have O:z.length<=16777216:=by
  have:z.length*1<=z.length*n.toNat:=Nat.mul_le_mul_left _ (by lia);lia
 refine PySem.P.mul_str ?_ ?_ ?_ ?_
 .rw [decide_eq_false (show ¬ n < -(2 ^ 63:Int) by lia),decide_eq_false (show ¬ n ≥ 2 ^ 63 by lia)];rfl
 .intro _ _ J;have:(16777216:Int)<=(2 ^ 63-1) / n:=Int.le_ediv_of_mul_le (by lia) (by lia);lia
 .intro _ _;exact decide_eq_false (by lia)
 .rw [if_neg (show ¬ n<1 by lia),if_neg (by rw [hc];exact Nx),Fv];exact ⟨by rw [IY];lia,⟨.str _,H,I.tok _,⟨_,rfl⟩,q⟩⟩
theorem xq{p:Addr}{k:Int}:mv (.ref p) (.int k) v H Q = ∃xs j,H p=some (.lst xs)/\ixN xs.length k=some j/\Q (upd H p (.lst (xs.set j v))):=by
 apply propext;constructor
 .rintro ⟨G,xs,k',j,z,F,h⟩;cases z;cases F;exact ⟨xs,j,h⟩
 .rintro ⟨xs,j,h⟩;exact ⟨p,xs,k,j,rfl,rfl,h⟩
def uh:List V->Hp->VK->Prop:=λxs H Q=>∃p ys,xs=[.ref p]/\(H p=some (.lst ys)\/H p=some (.tup ys))/\∀l H2,New H l (.lst ys) H2->Q (.ref l) H2
theorem tP:zM X (.type "list") uh:=Mp.weak λxs H Q h=>by
 obtain ⟨p,ys,e,h1,q⟩:=h;exact ⟨p,ys,e,h1.elim (λh=>.inl (SqL.of h)) (λh=>.inr (SqT.of h)),λl hl=>q l _ (.mk' hl)⟩
theorem Jx:uh [.ref a] H Q = ∃ys,(H a=some (.lst ys)\/H a=some (.tup ys))/\∀l H2,New H l (.lst ys) H2->Q (.ref l) H2:=by
 apply propext;constructor
 .rintro ⟨p,ys,e,h⟩;cases e;exact ⟨ys,h⟩
 .rintro ⟨ys,h⟩;exact ⟨a,ys,rfl,h⟩
def vB(to:TE):TE:=λσ H Q=>to σ H λx H1=>uR x λl=>∃xs,H1 l=some (.lst xs)/\Q .non (upd H1 l (.lst []))
theorem tI{o:N0}(ho:W (PE X o to))(O:OT o "clear" X.env (Os o X.env)=Os o X.env:=by rfl)(U:(Z3.endLine==cpos.line)=true:=by rfl):W (PE X (.Call (.Attribute o "clear" Z3) [] [] cpos) (vB to)):=by
 refine ⟨?_⟩;have ho:=ho.h;intro Go s σ H Q I h;refine wpAny_Call_method0_late O U (thn (ho Go s σ H _ I h) λv s1=>x5e λx H1 G z S=>?_);obtain ⟨l,ex,xs,hx,J⟩:=S;subst ex;obtain ⟨h1,h2⟩:=gX (T:="list") G z (.inl ⟨rfl,xs,SqL.of hx⟩);exact ⟨"list","list.clear",RE,PySem.F.slot_list_clear,PySem.F.type_list_clear,h1,h2,Calls.callWith_builtin rfl (PySem.evalArgs_none (LH Go s1 σ H1 (.ref l) [] v [] Q G z .nil ⟨l,xs,rfl,rfl,hx,J⟩))⟩
theorem wy{p:Addr}:jh (.str z) [.ref p] H Q = ∃ys:List Str,H p=some (.lst (ys.map V.str))/\(ys.map (·.length)).sum+ys.length*z.length<=16777216/\Q (.str (Txt.join z ys)) H:=by
 apply propext;constructor
 .rintro ⟨O,J,ys,F,G,h⟩;cases F;cases G;exact ⟨ys,h⟩
 .rintro ⟨ys,h⟩;exact ⟨z,p,ys,rfl,rfl,h⟩
end
def Ite(K:Nu)(a:Addr):It :=
 ⟨λi H=>∃xs x,SqL K H a xs/\xs[i]?=some x,λi H v H'=>∃T x,H T=none/\v = .ref T/\H'=upd H T (.tup [.int i,x])/\∀xs,SqL K H a xs->xs[i]?=some x,λi H=>∃xs,SqL K H a xs/\xs.length<=i⟩
structure D4(e it l:Addr)(i:Nat)(h:Heap):Prop where
 z:∃Y2,IsEnum h e it i Y2
 a:h.IsListIter it l i
theorem Fk{P:NB}{w:NQ}{K:Nu}{YK:List N0}{kk:Nat}{tp:Pos}{l e it:Addr}(YO:e≠it) :
  dy true P w K (.Tuple YK kk tp) (Ite K l) [e,it] e (D4 e it l) where
 mem:=by simp
 obj:=λi h st b hb=>by
  obtain ⟨⟨U,G⟩,⟨o4,F,_,d4⟩⟩:=st;simp only [Nw,NH,or_false] at hb;rcases hb with rfl|rfl
  .exact ⟨_,G,λv q=>nomatch q⟩
  .exact ⟨_,F,λv q=>by rw [d4] at q;cases q⟩
 keep:=λi h h' st k=>by
  obtain ⟨⟨U,G⟩,F⟩:=st;exact ⟨⟨U,k _ (by simp) _ G⟩,F.at λo e=>k _ (by simp) o e⟩
 item:=by
  intro X hP hw hK hc i Go s σ H E I hf st hg;subst hP hw hK;obtain ⟨xs,x,J,hx⟩:=hg;obtain ⟨ag,WY,p1,Z⟩:=I.list J;obtain ⟨u1,aj,ab⟩:=WY.get hx;obtain ⟨⟨U,G⟩,F⟩:=st;refine wpAny_pyNext_enum_item G F p1.isList (x:=u1) (by simpa using aj) YO λh' b1 b2 b3 b4 b5=>?_;refine ⟨_,rfl,wpAny_letOwnedTupleGo_enum (s:={ s with heap:=h',toks:=s.toks+1 }) b1 λh2 c1 c2=>?_⟩;have WX:e<s.heap.objs.size:=NR G;have nz:s.heap.objs.size≠e:=Qs WX;have all:∀c o,c≠e->c≠it->s.heap.get? c=some o->h2.get? c=some o:=λc o n1 n2 q=>c2.extBut c o n1 (b5 c o n1 n2 q);have tT:h2.get? s.heap.objs.size=some { cls:=.type "tuple",data:=.seq #[.int i s.toks,u1] }:=c2.extBut _ _ nz b3;have W:H s.heap.objs.size=none:=I.hok.fresh (Nq _);have WW:HOk X.prog X.w H h2:=λb u S=>by
   refine (I.hok b u S).stay (λc v hc q=>?_) (λ_ q=>q) λ_ _ q=>q;have O:∀d∈[e,it],c≠d:=λd hd w=>by
    have fd:=(hf d hd).1;rcases hc with k|k
    .rw [k] at w;rw [w,fd] at S;cases S
    .rw [w,fd] at k;cases k
   exact all c v (O e (by simp)) (O it (by simp)) q
  have ai:∀b o,s.heap.get? b=some o->b≠s.heap.objs.size:=λb o e=>Oh (NR e);have I2:Inv X Go σ (upd H s.heap.objs.size (.tup [.int i,x])) { s with heap:=h2,toks:=s.toks+1 }:=by
   refine I.step (g':=s.gens) (d':=s.drawn) (t':=s.toks+1) (ch:=[e,it]) (λb hb=>?_) (λb o _ _ hb q _=>?_) (λb o _ _ hb q _=>?_) (λb o _ q n=>?_) (λb o hb q=>?_) (λb ps q=>?_) (λb o u q=>?_) (λb ps q=>?_) (λm hm=>?_) (WW.add W ?_) I.bare
   .obtain ⟨f0,f1,f2,f3,f4,f5⟩:=hf b hb;exact ⟨f3,f1,f4,f5⟩
   .simp only [Nw,NH,or_false,not_or] at hb;exact all b o hb.1 hb.2 q
   .simp only [Nw,NH,or_false,not_or] at hb;exact ⟨o.slots,all b o hb.1 hb.2 q⟩
   .rw [zd (ai b o q)];exact n
   .simp only [Nw,NH,or_false,not_or] at hb;exact ⟨o,all b o hb.1 hb.2 q⟩
   .rw [zd (zE q W)];exact q
   .rw [zd (zE q W)];exact q
   .exact ⟨#[],by rw [zd (zE q W),q];simp⟩
   .obtain ⟨o,es,ep,ho,r⟩:=hm;exact ⟨o,es,ep,all _ o (NO (hf e (by simp)).2.1) (NO (hf it (by simp)).2.1) ho,r⟩
   .exact ⟨by show 2<=sizeLine;decide,[.int i s.toks,u1],.cons ⟨_,rfl⟩ (.cons ab .nil),⟨_,tT,rfl,_,rfl⟩⟩
  refine ⟨.ref s.heap.objs.size,_,I2,rfl,⟨_,x,W,rfl,rfl,λzs hz=>by rw [I.Tj hz J];exact hx⟩,?_,λb hb=>?_⟩
  .exact ⟨⟨_,c1⟩,b2.extBut c2.extBut (NO YO)⟩
  .have ne:b≠s.heap.objs.size:=λq=>by
    have:b<s.heap.objs.size:=by
     simp only [Nw,NH,or_false] at hb;obtain ⟨o4,F,_⟩:=F;rcases hb with rfl|rfl
     .exact WX
     .exact NR F
    exact absurd (q ▸ this) (Od _)
   rw [zd ne];exact (hf b hb).1
 done:=by
  intro X hP hw hK hc i Go s σ H E I hf st hg;subst hP hw hK;obtain ⟨xs,J,hx⟩:=hg;obtain ⟨ag,WY,p1,Z⟩:=I.list J;have hl:=WY.length;obtain ⟨⟨U,G⟩,F⟩:=st;refine wpAny_pyNext_enum_end (I.ok.hd (hc rfl)) G F p1.isList (by simp;lia) λh' up=>⟨rfl,?_⟩;refine I.step (g':=s.gens) (d':=s.drawn) (t':=s.toks) (ch:=[it]) (λb hb=>?_) (λb o _ _ hb q _=>?_) (λb o _ _ hb q _=>?_) (λ_ _ _ _ n=>n) (λb o hb q=>?_) (λ_ _ q=>q) (λ_ _ _ q=>q) (λb ps q=>⟨#[],by rw [q];simp⟩) (λm hm=>?_) (λb u S=>?_) I.bare
  .have Xa:b∈[e,it]:=by simp only [Nw,NH,or_false] at hb ⊢;exact .inr hb
   obtain ⟨f0,f1,f2,f3,f4,f5⟩:=hf b Xa;exact ⟨f3,f1,f4,f5⟩
  .simp only [Nw,NH,or_false] at hb;exact up b o hb q
  .simp only [Nw,NH,or_false] at hb;exact ⟨o.slots,up b o hb q⟩
  .simp only [Nw,NH,or_false] at hb;exact ⟨o,up b o hb q⟩
  .obtain ⟨o,es,ep,ho,r⟩:=hm;exact ⟨o,es,ep,up _ o (NO (hf it (by simp)).2.1) ho,r⟩
  .refine (I.hok b u S).stay (λc v hc q=>?_) (λ_ q=>q) λ_ _ q=>q;have O:c≠it:=λw=>by
    have fd:=(hf it (by simp)).1;rcases hc with k|k
    .rw [k] at w;rw [w,fd] at S;cases S
    .rw [w,fd] at k;cases k
   exact up c v O q
 self:=λ_ _ _ _ _ st h=>by
  obtain ⟨U,G⟩:=st.z;exact Q5 G h
section
variable {X:Cx}
def wu(K:Nu)(ta:TA):TI:=λσ H R=>ta σ H λvs H1=>∃a,vs=[.ref a]/\(∃xs,SqL K H1 a xs)/\R (Ite K a) H1
theorem kN{tp p pos:Pos}(hg:Gl X "enumerate")(hm:X.mg "enumerate"=none)(ha:W (PA X [a] ta))(S:aw a=true:=by rfl):W (PIc true X (.Tuple U O tp) (.Call (.Name "enumerate" p) [a] [] pos) (wu X.K ta)):=by
 refine ⟨?_⟩;have ha:=ha.h;intro Go s σ H R I h;have hs:NZ [a] X.env=[(false,Os a X.env)]:=cT S;refine Call_ (dN I hg hm boot_enumerate (O1 (thn (ha pos Go s σ H _ I h) λus s1=>x5e λvs H1 z G Z=>?_) hs rfl));obtain ⟨l1,e,⟨xs,h1⟩,q⟩:=Z;subst e;cases G with
 | cons r rr =>
  cases rr;cases (show _=Ny l1 from r);obtain ⟨J,WY,p1,_⟩:=z.list h1;refine call_enumerate_list p1.isList λh' F a4 a6 a7=>Q5 (s:={ s1 with heap:=h' }) F ?_;refine ⟨_,_,_,_,H1,rfl,z.kept (t':=s1.toks) a7,Fk (Nat.succ_ne_self _),⟨⟨_,F⟩,a4⟩,λb hb=>?_,q⟩;have le:s1.heap.objs.size<=b:=by
   simp only [Nw,NH,or_false] at hb;rcases hb with rfl|rfl<;>lia
  exact z.Tz le (z.hok.fresh le)
end
section
variable {K:Nu}{g:TG}{tb:TS}{D:aP}{σ:St}{H:Hp}{ta:TA}{R:It->Hp->Prop}
def uR1(vs:List V)(q:Addr->Prop):Prop:=∃a,vs=[.ref a]/\q a
theorem e9:uR1 [.ref a] q=q a:=by
 apply propext;constructor
 .rintro ⟨c,e,h⟩;cases e;exact h
 .exact λh=>⟨a,rfl,h⟩
theorem Mi:wu K ta σ H R=ta σ H λvs H1=>uR1 vs λa=>(∃xs,SqL K H1 a xs)/\R (Ite K a) H1:=rfl
theorem aA.enum(F:Nat->St->Hp->Prop)(Z:F 0 σ H)(hl:∀i σ H,i<=xs.length->F i σ H->SqL K H a xs)(hs:∀i x p σ H,xs[i]?=some x->F i σ H->H p=none->g (.ref p) σ (upd H p (.tup [.int i,x])) λG H2=>tb { D with nx:=F (i+1),ct:=F (i+1),bk:=D.nx } G H2)(hd:∀σ H,F xs.length σ H->D.nx σ H):aA (Ite K a) g tb D σ H:=by
 refine ⟨λi m σ H=>m=xs.length-i/\i<=xs.length/\F i σ H,⟨xs.length,by simp,Ot _,Z⟩,?_⟩;rintro i m σ H ⟨rfl,hi,p⟩;have q:=hl i σ H hi p;by_cases J:i<xs.length
 .refine .inr ⟨⟨xs,xs[i],q,by simp [J]⟩,F (i+1),λU H' O=>⟨xs.length-(i+1),by lia,rfl,J,O⟩,λx H' y=>?_⟩;obtain ⟨T,z,S,rfl,rfl,W⟩:=y;exact hs i z T σ _ (W xs q) p S
 .have e:i=xs.length:=by lia
  subst e;exact .inl ⟨⟨xs,q,Nq _⟩,hd σ H p⟩
end
section
variable {X:Cx}
def tB(C:Addr)(ta tv:TE)(G:V->V->Hp->VK->Prop)(f:Str):TS:=λD σ H=>ta σ H λx H1=>uR x λa=>∃dx fs v,H1 a=some (.ins C dx fs)/\fs.lookup f=some v /\
 tv σ H1 λy H2=>G v y H2 λz H3=>∃F fs',H3 a=some (.ins C F fs')/\fs'.length<1000/\D.nx σ (upd H3 a (.ins C F (zR f z fs')))
theorem wD{o ZL:N0}{ta tv:TE}(c:Cls X.K C)(n:br X.K C f)(ha:W (PE X o ta))(G:W (PE X ZL tv))(F:oB X op O):W (PS X (.AugAssign (.Attribute o f Xb) op ZL pos) (tB C ta tv O f)):=by
 refine ⟨?_⟩;have ha:=ha.h;have G:=G.h;intro Go s σ H D I h;refine wpAny_AugAssign_AttributeAny (thn (ha Go s σ H _ I h) λov s1=>x5e λx H1 Z rx Ys=>?_);obtain ⟨a,ex,dx,fs,v,ea,l,q⟩:=Ys;subst ex;obtain rfl:ov=Ny a:=rx;refine uC Z ea c n l λu s2 I2 ru=>thn (G Go s2 σ H1 _ I2 q) λS s3=>x5e λy H2 I3 ry q3=>thn (F Go s3 σ H2 v y u S _ I3 ru ry q3) λw4 s4=>x5e λz H3 U rz Xo=>?_;obtain ⟨ab,fs',J,l',q4⟩:=Xo;exact sZ U J c n l' rz λs5 I5=>⟨σ,_,I5,q4⟩
theorem Fd:mS (.int i) (.int j) H Q=Q (.int (i+j)) H:=by simp [mS]
theorem JR:pW (.int i) (.int j) H Q=Q (.int (i-j)) H:=by simp [pW]
def dZ(neg:Bool):R2:=λx y H Q=>y = .non/\Q (.bl (if neg then !decide (x = .non) else decide (x = .non))) H
theorem iD:OpR X (Of .Is) (dZ false):=Gc.weak λx y H Q h=>⟨h.1,by simpa using h.2⟩
theorem iR:OpR X (Of .IsNot) (dZ true):=Gf.weak λx y H Q h=>⟨h.1,by simpa using h.2⟩
theorem BD:dZ c .non .non H Q=Q (.bl (if c then false else true)) H:=by simp [dZ]
theorem GS:dZ c (.int i) .non H Q=Q (.bl (if c then true else false)) H:=by simp [dZ]
def fN:R2:=λx y H Q=>eZ x y H Q\/iz x y H Q
theorem cV:OpR X (Pd .Mult) fN:=BC.or Hi
theorem tQ:fN (.int i) (.int j) H Q=(h7 i j/\Q (.int (i*j)) H):=by simp [fN,sP,iz]
theorem II:fN (.ref a) (.int i) H Q=eZ (.ref a) (.int i) H Q:=by simp [fN,iz]
theorem Kd:fN (.str z) (.int i) H Q=(1<i/\i<2 ^ 31/\z.length≠0/\z.length*i.toNat<=sizeLine/\Q (.str (iW z i.toNat)) H):=by
 simp [fN,eZ,iz]
def uS(v:V)(q:Str->Prop):Prop:=∃z,v = .str z/\q z
theorem qe:uS (.str z) q=q z:=by simp [uS]
def tZ(to te:TE):TE:=λσ H Q=>to σ H λx H1=>uS x λz=>te σ H1 λy H2=>jh (.str z) [y] H2 Q
theorem Mc{o e:N0}(ho:W (PE X o to))(he:W (PE X e te))(ZI:OT o "join" X.env (Os o X.env)=Os o X.env:=by rfl)(ZH:(Z3.endLine==cpos.line)=true:=by rfl)(hp:aw e=true:=by rfl):W (PE X (.Call (.Attribute o "join" Z3) [e] [] cpos) (tZ to te)):=by
 refine ⟨?_⟩;have ho:=ho.h;have he:=he.h;intro Go s σ H Q I h;have hs:NZ [e] X.env=[(false,Os e X.env)]:=cT hp;refine O4 ZI (by rw [hs];rfl) ZH rfl (thn (ho Go s σ H _ I h) λv s1=>x5e λx H1 U S J=>?_);obtain ⟨z,ex,q1⟩:=J;subst ex;obtain ⟨h1,h2⟩:=gX (T:="str") U S rfl;refine ⟨"str","str.join",PySem.F.plainAttrs_str,PySem.F.slot_str_join,PySem.F.type_str_join,h1,h2,?_⟩;rw [hs];refine Calls.callWith_builtin rfl (Calls.evalArgs_plain ?_);have O:=dX he dQ (hs:=hs) cpos Go s1 σ H1 (λys H2=>cx (λy=>jh (.str z) [y] H2 Q) ys) U q1;rw [hs] at O;refine thn O λus s2=>x5e λvs H2 I2 Z G=>?_;obtain ⟨y,rfl,G⟩:=cx.ex G;exact JL Go s2 σ H2 (.str z) [y] v us Q I2 S Z G
end
section
variable {K:Nu}{g:TG}{tb:TS}{D:aP}{σ:St}{H:Hp}{ta:TA}{tl:TE}{wi:TI}{R:It->Hp->Prop}{j:Int}{tt:TT}{te:TE}{ix:List (Option Nat)}{Q:VK}
theorem zT.lst{a:Addr}{xs:List V}{τ:St}(F:Nat->St->List V->Hp->Prop)(S:∀i τ ys H,F i τ ys H->ys.length<sizeLine)(ha:∀i τ ys H,F i τ ys H->SqL K H a xs)(U:F 0 τ [] H)
  (hs:∀(N:St->List V->Hp->Prop) i x τ ys H,xs[i]?=some x->F i τ ys H->(∀τ ys H,F (i+1) τ ys H->N τ ys H)->g x τ H λz H4=>tt z H4 λok H5=>dD N ys z te ok H5) (hd:∀τ ys H,F xs.length τ ys H->∀D H',New H D (.lst ys) H'->Q (.ref D) H'):zT (Itl K a) g tt te τ H Q:=by
 refine ⟨λi m τ ys H=>m=xs.length-i/\i<=xs.length/\F i τ ys H,⟨xs.length,by simp,Ot _,U⟩,?_⟩;rintro i m τ ys H2 ⟨rfl,hi,p⟩;refine ⟨S i τ ys H2 p,?_⟩;have q:=ha i τ ys H2 p;by_cases J:i<xs.length
 .refine .inr ⟨⟨xs,xs[i],q,by simp [J]⟩,λx H' y=>?_⟩;obtain ⟨e,y⟩:=y;subst e;exact hs (λz ys H=>∃G,G<xs.length-i/\G=xs.length-(i+1)/\i+1<=xs.length/\F (i+1) z ys H) i x τ ys _ (y xs q) p λz zs H q=>⟨xs.length-(i+1),by lia,rfl,J,q⟩
 .have e:i=xs.length:=by lia
  subst e;exact .inl ⟨⟨xs,q,Nq _⟩,λD O _=>hd τ ys H2 p D _ (.mk' O)⟩
def vt(t:TS):TS:=λD σ H=>∃F:St->Hp->Prop,t { D with nx:=F } σ H/\∀z H',F z H'->D.nx z H'
theorem nZ{st:Stmt}{t:TS}(h:W (PS X st t)):W (PS X st (vt t)):=by
 refine ⟨?_⟩;have h:=h.h;exact λGo s σ H D I G=>by
  obtain ⟨J,h1,h2⟩:=G;refine thn (h Go s σ H _ I h1) λf s1 q=>?_;cases f with
  | next=>obtain ⟨z,H',F,q⟩:=q;exact ⟨z,H',F,h2 _ _ q⟩
  | ret v=>exact q
  | brk=>exact q
  | cont=>exact q
theorem qZ{t:TS}{D:aP}{σ:St}{H:Hp}:vt t D σ H = ∃F:St->Hp->Prop,t { D with nx:=F } σ H/\∀z H',F z H'->D.nx z H':=rfl
end
section
variable {X:Cx}
theorem zV  : W (PSs X [] qr):=⟨Ap ⟩
theorem ze{st:Stmt}{Zo:List Stmt}{t:TS}(h1:W (PS X st t))(h2:W (PSs X Zo u)):W (PSs X (st::Zo) (qz t u)):=⟨uF (h1:=h1.h) (h2:=h2.h)⟩
theorem zg{st:Stmt}{t:TS}(h1:W (PS X st t)):W (PSs X [st] t):=⟨qx (h1:=h1.h)⟩
theorem zw(he:W (PE X e te)):W (PS X (.Return (some e) pos) (pq te)):=⟨pJ (he:=he.h)⟩
theorem zQ{t:TS}(hc:W (PT X c tc))(ha:W (PSs X a t))(hb:W (PSs X b u)):W (PS X (.If c a b pos) (ox tc t u)):=⟨AN (hc:=hc.h) (ha:=ha.h) (hb:=hb.h)⟩
theorem bK(hl:W (PE X l tl)):W (PI X tg l (gD X.K tl)):=⟨yN (hl:=hl.h)⟩
theorem zc  : W (PA X [] cb):=⟨dQ ⟩
theorem zG{r:R2}(ho:OpR X (Of op) r)(ha:W (PE X a ta))(hb:W (PE X b tb))(hm:Rq op b=false):W (PT X (.Compare a [op] [b] pos) (lC (tOp r ta tb))):=⟨sQ (ho:=ho) (ha:=ha.h) (hb:=hb.h) (hm:=hm)⟩
theorem cI(hg:Gl X x)(hm:∃u,X.mg x=some u/\zo v u)(hd:(x==("__debug__":Str))=false:=by decide):W (PE X (.Name x pos) (tC v)):=⟨wQ (hg:=hg) (hm:=hm) (hd:=hd)⟩
theorem zl{i j pos}:W (PE X (.Constant (.int i) j pos) (tC (.int i))):=⟨rD ⟩
theorem zF{r:R2}(hr:IxR X r)(ha:W (PE X a ta))(hb:W (PE X b tb))(hs:x3 b):W (PE X (.Subscript a b pos) (tOp r ta tb)):=⟨wm (hr:=hr) (ha:=ha.h) (hb:=hb.h) (hs:=hs)⟩
theorem zz(hN:X.N.Nodup)(hi:X.N[i]?=some x)(hx:Loc X.env.scope x)(hf:X.fn x=true\/X.env.scope.names.lookup x=some .local:=by first|exact .inl rfl|exact .inr rfl|assumption):W (PG X (.Name x pos) (dr i)):=⟨yP (hN:=hN) (hi:=hi) (hx:=hx) (hf:=hf)⟩
theorem dW{X:Cx}{k:Nat}{t:TGs}(h:W (PGs X es t))(hl:(Po es X.env).length=n:=by rfl)(hst:(Po es X.env).findIdx? (·.1)=none:=by rfl):W (PG X (.Tuple es k pos) (mQ X.K n t)):=⟨vK (h:=h.h) (hl:=hl) (hst:=hst)⟩
theorem cH{t:TT}(h:W (PW X e t)):W (PT X e t):=⟨PW.pt h.h⟩
theorem Lm{st:Stmt}{t:TS}(h:W (PS X.Vp st t)):W (PS X st t):=⟨PS.Vp h.h⟩
end
def asc(z:Str):Bool:=z.cps.all (· < 128)
def Its(z:Str):It:=⟨λi _=>i<z.cps.size,λi H x H'=>H'=H/\∃c,z.cps[i]?=some c/\x = .str ⟨#[c]⟩,λi _=>z.cps.size<=i⟩
theorem HJ{P:NB}{w:NQ}{K:Nu}{tg:N0}(z:Str)(it:Addr):dy true P w K tg (Its z) [it] it (λi h=>∃t,h.IsStrIter it "str_ascii_iterator" z t i) where
 mem:=by simp
 obj:=λi h st b hb=>by
  have e:b=it:=by simpa using hb
  subst e;obtain ⟨t,o,e,c,d⟩:=st;exact ⟨o,e,λv z=>by rw [d] at z;cases z⟩
 keep:=λi h h' st k=>by
  obtain ⟨t,o,e,r⟩:=st;exact ⟨t,o,k it (by simp) o e,r⟩
 item:=by
  intro X O G F hc i Go s σ H E I hf st hg;subst O G F;obtain ⟨t,st⟩:=st;obtain ⟨W,S,f2,J,U,Z⟩:=hf it (by simp);have hi:i<z.cps.size:=hg;refine wpAny_pyNext_ascii_item st (c:=z.cps[i]) (by simp [hi]) λh' YM sb=>?_;have I1:Inv X Go σ H { s with heap:=h',toks:=s.toks+1 }:=I.turned (λb o hb e=>(sb.2 b hb).trans e) W S J U Z;obtain ⟨o,e,c,d⟩:=id YM;exact ⟨_,rfl,gA (s:={ s with heap:=h',toks:=s.toks+1 }) e c d (by decide) ⟨.str ⟨#[z.cps[i]]⟩,H,I1,⟨_,rfl⟩,⟨rfl,_,by simp [hi],rfl⟩,⟨t,YM⟩,λb hb=>(hf b hb).1⟩⟩
 done:=by
  intro X O G F hc i Go s σ H E I hf st hg;subst O G F;obtain ⟨t,st⟩:=st;obtain ⟨W,S,f2,J,U,Z⟩:=hf it (by simp);have hi:z.cps.size<=i:=hg;exact wpAny_pyNext_ascii_end (I.ok.hd (hc rfl)) st (by simp [hi]) λh' eb=>⟨rfl,I.turned (t':=s.toks) (λb o hb e=>eb b o hb e) W S J U Z⟩
 self:=λ_ _ _ _ _ st h=>by
  obtain ⟨t,st⟩:=st;exact wpAny_pyIter_striter_ascii st h
section
variable {X:Cx}{tg:N0}
def u7(tl:TE):TI:=λσ H R=>tl σ H λx H1=>uS x λz=>asc z=true/\R (Its z) H1
theorem MJ:u7 tl σ H R=tl σ H λx H1=>uS x λz=>asc z=true/\R (Its z) H1:=rfl
theorem G0(hl:W (PE X l tl)):W (PIc true X tg l (u7 tl)):=by
 refine ⟨?_⟩;have hl:=hl.h;intro Go s σ H R I h;refine thn (hl Go s σ H _ I h) λv s1=>x5e λx H1 F J G=>?_;obtain ⟨z,e,ha,q⟩:=G;subst e;obtain ⟨t,rfl⟩:=J;refine wpAny_pyIter_ascii ha ?_;refine ⟨s1.heap.objs.size,[s1.heap.objs.size],_,_,H1,rfl,F.kept (t':=s1.toks) λb o e=>zv _ e,HJ z _,⟨t,_,NK _ rfl,rfl,rfl⟩,λb hb=>?_,q⟩;have e:b=s1.heap.objs.size:=by simpa using hb
 subst e;exact F.Tz (Nq _) (F.hok.fresh (Nq _))
end
theorem Draws.later{prog:NB}{w:NQ}{A:NP}{it:Addr}{fp:List Addr}{n k:Nat}{P:Nat->Value->Prop}{St:Nat->Heap->Prop}(D:Draws prog w A it fp n P St) :
  Draws prog w A it fp (n+k) (λi v=>P (i-k) v) (λi h=>k<=i/\St (i-k) h) where
 live:=λ_ _ st=>D.live _ _ st.2
 frame:=λ_ _ _ st J=>⟨st.1,D.frame _ _ _ st.2 J⟩
 item:=λi s Q E hi st G=>D.item (i-k) s Q E (by have:=st.1;lia) st.2 λx h' tk p z O=>G x h' tk p ⟨by have:=st.1;lia,by
  have e:i+1-k=i-k+1:=by have:=st.1;lia
  rw [e];exact z⟩ O
 done:=λs Q E st F=>D.done s Q E (by
  have e:n+k-k=n:=by lia
  have:=st.2;rwa [e] at this) F
def iq(z:Str)(k:Nat):It :=
 ⟨λi _=>i<z.cps.size,λi H v H'=>∃T c,H T=none/\v = .ref T/\z.cps[i]?=some c/\H'=upd H T (.tup [.int ((i:Nat)+k:Nat),.str ⟨#[c]⟩]),λi _=>i=z.cps.size⟩
structure MA(e it:Addr)(z:Str)(k i:Nat)(h:Heap):Prop where
 en:∃Y2,IsEnum h e it ((i+k:Nat):Int) Y2
 a:∃t,h.IsStrIter it "str_ascii_iterator" z t i
theorem Na{P:NB}{w:NQ}{K:Nu}{YK:List N0}{kk:Nat}{tp:Pos}{z:Str}{k:Nat}{e it:Addr}(YO:e≠it) :
  dy true P w K (.Tuple YK kk tp) (iq z k) [e,it] e (MA e it z k) where
 mem:=by simp
 obj:=λi h st b hb=>by
  obtain ⟨⟨Z,G⟩,⟨t,o4,F,_,d4⟩⟩:=st;simp only [Nw,NH,or_false] at hb;rcases hb with rfl|rfl
  .exact ⟨_,G,λv q=>nomatch q⟩
  .exact ⟨_,F,λv q=>by rw [d4] at q;cases q⟩
 keep:=λi h h' st k=>by
  obtain ⟨⟨Z,G⟩,⟨t,o,F,r⟩⟩:=st;exact ⟨⟨Z,k _ (by simp) _ G⟩,t,o,k _ (by simp) o F,r⟩
 item:=by
  intro X hP hw hK hc i Go s σ H E I hf st hg;subst hP hw hK;obtain ⟨⟨Z,G⟩,⟨t,F⟩⟩:=st;have hi:i<z.cps.size:=hg;have S:=I.ok.hd (hc rfl);have D:=Draws.later (k:=k) (Draws.strAscii (prog:=X.prog) (w:=X.w) (A:=X.A.in1) S it z t);refine wpAny_pyNext_enum_itemD D G (i:=i+k) ⟨by lia,by rw [Nat.add_sub_cancel];exact F⟩ (by lia) YO (by simpa using YO) λx h' tk px b1 U b3 b4 b5=>?_;obtain ⟨c,u,W,rfl⟩:=px;rw [Nat.add_sub_cancel] at W;refine ⟨_,rfl,wpAny_letOwnedTupleGo_enum (s:={ s with heap:=h',toks:=tk+1 }) b1 λh2 c1 c2=>?_⟩;have WX:e<s.heap.objs.size:=NR G;have nz:s.heap.objs.size≠e:=Qs WX;have all:∀c o,c≠e->c≠it->s.heap.get? c=some o->h2.get? c=some o:=λc o n1 n2 q=>c2.extBut c o n1 (b5 c o n1 n2 q);have tT:h2.get? s.heap.objs.size=some { cls:=.type "tuple",data:=.seq #[.int ((i+k:Nat):Int) tk,.str ⟨#[c]⟩ u] }:=c2.extBut _ _ nz b3;have YL:H s.heap.objs.size=none:=I.hok.fresh (Nq _);have WW:HOk X.prog X.w H h2:=λb u O=>by
   refine (I.hok b u O).stay (λc v hc q=>?_) (λ_ q=>q) λ_ _ q=>q;have J:∀d∈[e,it],c≠d:=λd hd w=>by
    have fd:=(hf d hd).1;rcases hc with k|k
    .rw [k] at w;rw [w,fd] at O;cases O
    .rw [w,fd] at k;cases k
   exact all c v (J e (by simp)) (J it (by simp)) q
  have ab:∀b o,s.heap.get? b=some o->b≠s.heap.objs.size:=λb o e=>Oh (NR e);have I2:Inv X Go σ (upd H s.heap.objs.size (.tup [.int ((i+k:Nat):Int),.str ⟨#[c]⟩])) { s with heap:=h2,toks:=tk+1 }:=by
   refine I.step (g':=s.gens) (d':=s.drawn) (t':=tk+1) (ch:=[e,it]) (λb hb=>?_) (λb o _ _ hb q _=>?_) (λb o _ _ hb q _=>?_) (λb o _ q n=>?_) (λb o hb q=>?_) (λb ps q=>?_) (λb o u q=>?_) (λb ps q=>?_) (λm hm=>?_) (WW.add YL ?_) I.bare
   .obtain ⟨f0,f1,f2,f3,f4,f5⟩:=hf b hb;exact ⟨f3,f1,f4,f5⟩
   .simp only [Nw,NH,or_false,not_or] at hb;exact all b o hb.1 hb.2 q
   .simp only [Nw,NH,or_false,not_or] at hb;exact ⟨o.slots,all b o hb.1 hb.2 q⟩
   .rw [zd (ab b o q)];exact n
   .simp only [Nw,NH,or_false,not_or] at hb;exact ⟨o,all b o hb.1 hb.2 q⟩
   .rw [zd (zE q YL)];exact q
   .rw [zd (zE q YL)];exact q
   .exact ⟨#[],by rw [zd (zE q YL),q];simp⟩
   .obtain ⟨o,es,ep,ho,r⟩:=hm;exact ⟨o,es,ep,all _ o (NO (hf e (by simp)).2.1) (NO (hf it (by simp)).2.1) ho,r⟩
   .exact ⟨by show 2<=sizeLine;decide,[.int ((i+k:Nat):Int) tk,.str ⟨#[c]⟩ u],.cons ⟨_,rfl⟩ (.cons ⟨_,rfl⟩ .nil),⟨_,tT,rfl,_,rfl⟩⟩
  refine ⟨.ref s.heap.objs.size,_,I2,rfl,⟨_,c,YL,rfl,W,rfl⟩,?_,λb hb=>?_⟩
  .obtain ⟨_,U⟩:=U;have e1:i+k+1-k=i+1:=by lia
   rw [e1] at U;obtain ⟨o,U,r⟩:=U;have e3:((i+1+k:Nat):Int)=((i+k:Nat):Int)+1:=by lia
   refine ⟨?_,t,o,c2.extBut _ _ (NO YO) U,r⟩;rw [e3];exact ⟨_,c1⟩
  .have ne:b≠s.heap.objs.size:=λq=>by
    have:b<s.heap.objs.size:=by
     simp only [Nw,NH,or_false] at hb;obtain ⟨o4,F,_⟩:=F;rcases hb with rfl|rfl
     .exact WX
     .exact NR F
    exact absurd (q ▸ this) (Od _)
   rw [zd ne];exact (hf b hb).1
 done:=by
  intro X hP hw hK hc i Go s σ H E I hf st hg;subst hP hw hK;obtain ⟨⟨Z,G⟩,⟨t,F⟩⟩:=st;have hi:i=z.cps.size:=hg;have S:=I.ok.hd (hc rfl);have D:=Draws.strAscii (prog:=X.prog) (w:=X.w) (A:=X.A.in1) S it z t;rw [hi] at F;refine wpAny_pyNext_enum_endD D G F λh' up=>⟨rfl,?_⟩;refine I.step (g':=s.gens) (d':=s.drawn) (t':=s.toks) (ch:=[it]) (λb hb=>?_) (λb o _ _ hb q _=>?_) (λb o _ _ hb q _=>?_) (λ_ _ _ _ n=>n) (λb o hb q=>?_) (λ_ _ q=>q) (λ_ _ _ q=>q) (λb ps q=>⟨#[],by rw [q];simp⟩) (λm hm=>?_) (λb u O=>?_) I.bare
  .have Xa:b∈[e,it]:=by simp only [Nw,NH,or_false] at hb ⊢;exact .inr hb
   obtain ⟨f0,f1,f2,f3,f4,f5⟩:=hf b Xa;exact ⟨f3,f1,f4,f5⟩
  .simp only [Nw,NH,or_false] at hb;exact up b o hb q
  .simp only [Nw,NH,or_false] at hb;exact ⟨o.slots,up b o hb q⟩
  .simp only [Nw,NH,or_false] at hb;exact ⟨o,up b o hb q⟩
  .obtain ⟨o,es,ep,ho,r⟩:=hm;exact ⟨o,es,ep,up _ o (NO (hf it (by simp)).2.1) ho,r⟩
  .refine (I.hok b u O).stay (λc v hc q=>?_) (λ_ q=>q) λ_ _ q=>q;have J:c≠it:=λw=>by
    have fd:=(hf it (by simp)).1;rcases hc with k|k
    .rw [k] at w;rw [w,fd] at O;cases O
    .rw [w,fd] at k;cases k
   exact up c v J q
 self:=λ_ _ _ _ _ st h=>by
  obtain ⟨Z,G⟩:=st.en;exact Q5 G h
section
variable {prog:NB}{w:NQ}{A:NP}{E:Value->we->Prop}{s:we}
theorem Lu(a b:Value):checkTypeCall "enumerate" ⟨[a],[(yv "start",b)]⟩=pure ():=by kernel_rfl
theorem Ki(a b:Value):Rl "enumerate.__new__" ⟨[.type "enumerate",a],[(yv "start",b)]⟩=pure ():=by kernel_rfl
theorem JE(o a b:Value):argsOk "object.__init__" ⟨[o,a],[(yv "start",b)]⟩:=by
 unfold argsOk;kernel_rfl
theorem C5 (x : Str) (t u : Tok) : Meets (NN.«enumerate.__new__» ⟨[.type "enumerate", .str x t], [(yv "start", .int 1 u)]⟩) (fun _ R s =>
      R (.ok (.ret (.ref (s.heap.push { cls := .type (QA x), data := .fields #[.str x t, .int 0 0] }).objs.size)))
        { s with heap := (s.heap.push { cls := .type (QA x), data := .fields #[.str x t, .int 0 0] }).push { cls := .type "enumerate", data := .fields #[.none, .bool false, .ref s.heap.objs.size, OE 1, .none, .none] } }) :=
 .of_wp λprog w A R s h=>by
  obtain ⟨z,g,d,tk,os⟩:=s;have F:=sub_enumerate
  wp_walk
  refine wpAny_stack_any λst=>Nv ?_;split
  .rename_i c _ _ _ _ _;cases (c==type "enumerate")
   .wp_walk using R3
    exact ⟨_,rfl,h⟩
   .wp_walk using R3
    exact ⟨_,rfl,h⟩
  .wp_walk using R3
   exact ⟨_,rfl,h⟩
theorem Gm(hl:typeLookup (.type T) VX=pure (some (.builtin "object.__init__")))(hm:Bind.madeBy (.type T)=pure (some z))(G:(some z != some "object.__new__")=true):Meets (NN.«object.__init__» ⟨[self,a],kws⟩) (λ_ R s=>s.TypeIs self T/\R (.ok (.ret .none)) s):=by
 refine Meets.of_wp λprog w A R s=>x2e λJ F=>?_
 repeat (any_goals (first|assumption|wp_step))
 exact ⟨_,rfl,F⟩
theorem FQ(z:TypeCalled T O "object.__init__")(YO:(some O != some "object.__new__")=true)(ai:checkTypeCall T ⟨[a],kws⟩=pure ())(Xm:Rl O ⟨[.type T,a],kws⟩=pure ())(hok:∀obj,argsOk "object.__init__" ⟨[obj,a],kws⟩)(G:entryFor table O=some Z)(g:Meets (Z ⟨[.type T,a],kws⟩) S)(h:S A.in1 (wants (λobj s₁=>s₁.TypeIs obj T/\Q obj s₁) E) s):NF (NL prog w) A (call (.type T) [a] kws) Q E s:=by
 obtain ⟨c,tl,ab⟩:=z.mro;have U:=z.made;have Xn:=z.sub;refine Su (A:=A) (codeAny_of_tree (A:=A) ?_);show NF (NL prog w) _ (callAny (.type T) _) _ _ _;refine Nv ⟨Code.quiet_builtin _ (f!""),Pz (A:=A) F.entry_type_call ?_⟩;rw [NP.under_plain (weight_type_call_type T [a] kws) (units_type_call_type T [a] kws)];have k1:=z.notType;have k2:=z.canCreate
 repeat (any_goals (first|assumption|wp_step))
 refine QL (Rv z.plain G (wpAny_of_eq Xm (g prog w A.in1 _ s h))) λr s1 hr=>?_;cases r with
 | error e=>exact hr
 | ok fl =>
  cases fl with
  | ret obj =>
   have ag:=z.init.lookup;have aj:=z.init.bind obj;have hT:=hr.1
   repeat (any_goals (first|assumption|wp_step))
   refine QL (Rv z.init.plain F.entry_object_init (z.init.check _ _ _ _ _ _ _ _ hr.1 (hok obj) (Gm z.init.lookup z.made YO prog w A.in1 (wants (λr s2=>r = .none/\Q obj s2) E) s1 ⟨hr.1,rfl,hr.2⟩))) λr2 s2 J=>?_;cases r2 with
   | error e=>exact J
   | ok W =>
    cases W with
    | ret r =>
     obtain ⟨rfl,hq⟩:=J
     repeat (any_goals (first|assumption|wp_step))
    | _=>exact J.elim
  | _=>exact hr.elim
theorem CG{t u:Tok}(h:∀h',IsEnum h' (s.heap.objs.size+1) s.heap.objs.size 1 .none->h'.IsStrIter s.heap.objs.size (QA x) x t 0->h'.objs.size=s.heap.objs.size+2->(∀b o,s.heap.get? b=some o->h'.get? b=some o)->Q (.ref (s.heap.objs.size+1)) { s with heap:=h' }):
  NF (NL prog w) A (call (.type "enumerate") [.str x t] [(yv "start",.int 1 u)]) Q E s:=by
 refine FQ F.called_enumerate (by decide) (Lu _ _) (Ki _ _) (λobj=>JE obj _ _) F.entry_enumerate_new (C5 x t u) ?_;have z:(s.heap.push { cls:=.type (QA x),data:=.fields #[.str x t,.int 0 0] }).objs.size=s.heap.objs.size+1:=Pl ..;show _/\_;rw [z];have he:IsEnum ((s.heap.push { cls:=.type (QA x),data:=.fields #[.str x t,.int 0 0] }).push { cls:=.type "enumerate",data:=.fields #[.none,.bool false,.ref s.heap.objs.size,OE 1,.none,.none] }) (s.heap.objs.size+1) s.heap.objs.size 1 .none:=by
  have q:=NK (s.heap.push { cls:=.type (QA x),data:=.fields #[.str x t,.int 0 0] }) (o:={ cls:=.type "enumerate",data:=.fields #[.none,.bool false,.ref s.heap.objs.size,OE 1,.none,.none] }) rfl;rw [z] at q;exact q
 exact ⟨⟨_,he,rfl⟩,h _ he ⟨_,zv _ (NK _ rfl),rfl,rfl⟩ (by rw [Pl,z]) λb o y=>zv _ (zv _ y)⟩
theorem JK(G:args.any (·.1)=false)(z:F.any (·.1.isNone)=false)(h:NF M A (evalArgs (.type T) true args F) (λa s1=>NF M A (call (.type T) a.pos a.kw) Q E s1) E s):NF M A (QE pos (.type T) [] args F) Q E s:=by
 unfold QE;refine fv (N9 (OG h (λa s1 h1=>fv (PN ?_)) λ_ _ x=>x));simp only [G,z,QQ];exact fv (Nv (fv (OG h1 (λr s2 hr=>fv (N9 (wpAny_point (Nv hr)))) λ_ _ x=>x)))
end
section
variable {X:Cx}
def vL(k:Nat)(ta:TE):TI:=λσ H R=>ta σ H λx H1=>uS x λz=>asc z=true/\R (iq z k) H1
theorem Gb{k:Nat}:vL k ta σ H R=ta σ H λx H1=>uS x λz=>asc z=true/\R (iq z k) H1:=rfl
theorem CI(h:asc z=true):QA z="str_ascii_iterator":=by
 unfold QA;rw [show z.cps.all (· < 128)=true from h];rfl
theorem Fz{tp p pos kp cp:Pos}(hg:Gl X "enumerate")(hm:X.mg "enumerate"=none)(ha:W (PE X a ta))(hp:aw a=true:=by rfl):W (PIc true X (.Tuple YK kk tp) (.Call (.Name "enumerate" p) [a] [⟨some (yv "start"),.Constant (.int 1) j cp,kp⟩] pos) (vL 1 ta)):=by
 refine ⟨?_⟩;have ha:=ha.h;intro Go s σ H R I h;have hs:NZ [a] X.env=[(false,Os a X.env)]:=cT hp;have U:=dX ha dQ (hs:=hs) pos Go s σ H (λys H2=>cx (λy=>uS y λz=>asc z=true/\R (iq z 1) H2) ys) I h;refine ON (dN I hg hm boot_enumerate (JK (by rw [hs];rfl) rfl ?_));rw [hs] at U ⊢;refine evalArgs_kwB rfl (thn U λus s1=>x5e λvs H1 Z r1 q1=>kws_cons (thn (rD Go s1 σ H1 (λv H=>v = .int 1/\H=H1) Z ⟨rfl,rfl⟩) λw2 s2=>x5e λy2 H2 J r2 Ys=>kws_nil ?_));obtain ⟨G,F⟩:=Ys;subst G F;obtain ⟨t2,rfl⟩:=r2;obtain ⟨y,rfl,z,ey,hz,q⟩:=cx.ex q1;subst ey;cases r1 with
 | cons r rr =>
  cases rr;obtain ⟨t,rfl⟩:=r;refine CG (s:=s2) λh' S O a6 a7=>Q5 (s:={ s2 with heap:=h' }) S ?_;rw [CI hz] at O;refine ⟨_,_,_,_,H2,rfl,J.kept (t':=s2.toks) a7,Na (Nat.succ_ne_self _),⟨⟨_,S⟩,t,O⟩,λb hb=>?_,q⟩;have le:s2.heap.objs.size<=b:=by
   simp only [Nw,NH,or_false] at hb;rcases hb with rfl|rfl
   .exact Sy _
   .exact Nq _
  exact J.Tz le (J.hok.fresh le)
end
section
variable {K:Nu}{g:TG}{tb:TS}{D:aP}{σ:St}{H:Hp}{tt:TT}{te:TE}{Q:VK}
theorem aA.bc{k:Nat}(F:Nat->St->Hp->Prop)(W:F 0 σ H)(hs:∀i c p σ H,z.cps[i]?=some c->F i σ H->H p=none->g (.ref p) σ (upd H p (.tup [.int ((i+k:Nat):Int),.str ⟨#[c]⟩])) λG H2=>tb { D with nx:=F (i+1),ct:=F (i+1),bk:=D.nx } G H2)(hd:∀σ H,F z.cps.size σ H->D.nx σ H):aA (iq z k) g tb D σ H:=by
 refine ⟨λi m σ H=>m=z.cps.size-i/\i<=z.cps.size/\F i σ H,⟨z.cps.size,by simp,Ot _,W⟩,?_⟩;rintro i m σ H ⟨rfl,hi,p⟩;by_cases J:i<z.cps.size
 .refine .inr ⟨J,F (i+1),λU H' O=>⟨z.cps.size-(i+1),by lia,rfl,J,O⟩,λx H' y=>?_⟩;obtain ⟨T,c,S,rfl,hc,rfl⟩:=y;exact hs i c T σ _ hc p S
 .have e:i=z.cps.size:=by lia
  subst e;exact .inl ⟨rfl,hd σ H p⟩
theorem zT.str(G:Nat->St->List V->Hp->Prop)(U:∀i τ ys H,G i τ ys H->ys.length<sizeLine)(W:G 0 τ [] H)(hs:∀(N:St->List V->Hp->Prop) i c τ ys H,z.cps[i]?=some c->G i τ ys H->(∀τ ys H,G (i+1) τ ys H->N τ ys H)->g (.str ⟨#[c]⟩) τ H λF H4=>tt F H4 λok H5=>dD N ys F te ok H5)(hd:∀τ ys H,G z.cps.size τ ys H->∀D H',New H D (.lst ys) H'->Q (.ref D) H'):zT (Its z) g tt te τ H Q:=by
 refine ⟨λi m τ ys H=>m=z.cps.size-i/\i<=z.cps.size/\G i τ ys H,⟨z.cps.size,by simp,Ot _,W⟩,?_⟩;rintro i m τ ys H2 ⟨rfl,hi,p⟩;refine ⟨U i τ ys H2 p,?_⟩;by_cases O:i<z.cps.size
 .refine .inr ⟨O,λx H' y=>?_⟩;obtain ⟨e,c,hc,rfl⟩:=y;subst e;exact hs (λF ys H=>∃J,J<z.cps.size-i/\J=z.cps.size-(i+1)/\i+1<=z.cps.size/\G (i+1) F ys H) i c τ ys _ hc p λF zs H q=>⟨z.cps.size-(i+1),by lia,rfl,O,q⟩
 .have e:i=z.cps.size:=by lia
  subst e;exact .inl ⟨Nq _,λD S _=>hd τ ys H2 p D _ (.mk' S)⟩
end
section
variable {X:Cx}
def wZ:List V->Hp->VK->Prop:=λxs H Q=>uR1 xs λp=>∃bs:List Bool,H p=some (.lst (bs.map V.bl))/\Q (.bl (bs.all id)) H
theorem Cs{bs:List Bool}:∀{us:List Value},zp (bs.map V.bl) us->us=bs.map Pq:=by
 induction bs with
 | nil=>intro us r;rw [map_nil] at r;cases r;rfl
 | cons b bs F =>
  intro us r;rw [Om] at r;cases r with
  | cons G z=>rw [show _=Pq b from G,F z];rfl
theorem JQ(hc:X.calm=true):zM X (.builtin "all") wZ:=by
 intro Go s σ H xs us Q I r h;obtain ⟨p,rfl,bs,U,q⟩:=h;cases r with
 | cons W Z =>
  cases Z;cases (show _=Ny p from W);obtain ⟨its,S,pl,_⟩:=I.list (SqL.of (K:=X.K) U);have e:=Cs S;subst e;have G:p≠s.heap.objs.size:=by obtain ⟨o,e,_⟩:=pl.isList;exact Oh (NR e)
  refine call_all_walk (Pk pl.isList ?_);have hl:∀k:Nat,k=bs.length->(RG k).all (λi=>bs.getD i true)=bs.all id:=by
   intro k e;subst e;rw [Qu,Ol,Ol];constructor
   .intro h x hx;obtain ⟨i,hi,rfl⟩:=Ov hx;have:=h i (Si.mpr hi);rw [Nr,p8 hi] at this;exact this
   .intro h i hi;have hi:=Si.mp hi;rw [Nr,p8 hi];exact h _ (Oj hi)
  refine ⟨s.heap.objs.size,_,_,_,_,_,λi=>bs.getD i true,rfl,Walks.list (prog:=X.prog) (w:=X.w) (A:=X.A.in1) (show X.A.in1.handled=none from I.ok.hd hc) s.heap.objs.size p G (bs.map Pq).toArray,⟨⟨_,NK _ rfl,rfl,rfl⟩,pl.isList.push _⟩,?_,λh' tk kp=>?_⟩
  .intro i v s2 J E2 z F;have z:(bs.map Pq)[i]?=some v:=by simpa using z
   rw [NJ] at z;cases e:bs[i]? with
   | none=>rw [e] at z;cases z
   | some b =>
    rw [e] at z;cases z;have O:bs.getD i true=b:=by rw [Nr,e];rfl
    have F:J (bs.getD i true) s2:=F;rw [O] at F;exact Nv F
  .refine ⟨.bl _,H,I.kept (t':=tk) λb o e=>kp b o ?_ (zv _ e),rfl,?_⟩
   .simpa using Oh (NR e)
   .rw [hl _ (by simp)];exact q
theorem LU{p:Addr}:wZ [.ref p] H Q = ∃bs:List Bool,H p=some (.lst (bs.map V.bl))/\Q (.bl (bs.all id)) H:=e9
def uIn:R2:=λx y H Q=>(∃i j,x = .str i/\y = .str j/\Q (.bl (!(NN.Str.occurrences j i 0 j.length 1).isEmpty)) H)\/∃p xs,y = .ref p/\(H p=some (.lst xs)\/H p=some (.tup xs))/\ah x=true/\xs.all ah=true/\Q (.bl (inV x xs)) H
theorem mE(G:X.A.units<cLine):OpR X (Of .In) uIn:=(LX.or Ci).weak λx y H Q h=>by
 rcases h with h|⟨p,xs,e,h,z,F,q⟩
 .exact .inl h
 .exact .inr ⟨p,xs,e,h.elim (λh=>.inl (SqL.of h)) (λh=>.inr (SqT.of h)),z,F,by simpa using q⟩
theorem L8:uIn (.str x) (.str y) H Q=Q (.bl (!(NN.Str.occurrences y x 0 y.length 1).isEmpty)) H:=by simp [uIn]
theorem Bk{p:Addr}:uIn x (.ref p) H Q = ∃xs,(H p=some (.lst xs)\/H p=some (.tup xs))/\ah x=true/\xs.all ah=true/\Q (.bl (inV x xs)) H:=by simp [uIn]
def uM1(to te:TE)(r:Str->V->Hp->VK->Prop):TE:=λσ H Q=>to σ H λx H1=>uS x λz=>te σ H1 λy H2=>r z y H2 Q
theorem Jv{r:Str->V->Hp->VK->Prop}:uM1 to te r σ H Q=to σ H λx H1=>uS x λz=>te σ H1 λy H2=>r z y H2 Q:=rfl
theorem yQ{o e:N0}{id:String}{r:Str->V->Hp->VK->Prop}(J:Slot "str" m id)(W:typeOf (.builtin id)=pure (.type "method_descriptor"))(hr:∀(Go:List (Addr×Obj))(s:we)(σ:St)(H:Hp)(z:Str)(y:V)(t:Tok)(v:Value)(Q:VK),Inv X Go σ H s->zo y v->r z y H Q->NF (NL X.prog X.w) X.A (call (.builtin id) [.str z t,v]) (λu s1=>∃x H',Inv X Go σ H' s1/\zo x u/\Q x H') X.xe s)(ho:PE X o to)(he:PE X e te)(ZI:OT o m X.env (Os o X.env)=Os o X.env:=by rfl)(ZH:(Z3.endLine==cpos.line)=true:=by rfl)(hp:aw e=true:=by rfl):
  PE X (.Call (.Attribute o m Z3) [e] [] cpos) (uM1 to te r):=by
 intro Go s σ H Q I h;have hs:NZ [e] X.env=[(false,Os e X.env)]:=cT hp;refine O4 ZI (by rw [hs];rfl) ZH rfl (thn (ho Go s σ H _ I h) λv s1=>x5e λx H1 U S Ys=>?_);obtain ⟨z,ex,q1⟩:=Ys;subst ex;obtain ⟨h1,h2⟩:=gX (T:="str") U S rfl;refine ⟨"str",id,PySem.F.plainAttrs_str,J,W,h1,h2,?_⟩;rw [hs];refine Calls.callWith_builtin rfl (Calls.evalArgs_plain ?_);have O:=dX he dQ (hs:=hs) cpos Go s1 σ H1 (λys H2=>cx (λy=>r z y H2 Q) ys) U q1;rw [hs] at O;refine thn O λus s2=>x5e λvs H2 I2 Z G=>?_;obtain ⟨t,rfl⟩:=S;obtain ⟨y,rfl,G⟩:=cx.ex G;obtain ⟨_,rfl,ry⟩:=zp.one Z;exact hr Go s2 σ H2 z y t _ Q I2 ry G
def wW:Str->V->Hp->VK->Prop:=λz y H Q=>uS y λq=>Q (.int (QV z q)) H
theorem Cm{o e:N0}(ho:W (PE X o to))(he:W (PE X e te))(S:OT o "rfind" X.env (Os o X.env)=Os o X.env:=by rfl)(O:(Z3.endLine==cpos.line)=true:=by rfl)(J:aw e=true:=by rfl):W (PE X (.Call (.Attribute o "rfind" Z3) [e] [] cpos) (uM1 to te wW)):=by
 refine ⟨?_⟩;have ho:=ho.h;have he:=he.h;exact
  yQ PySem.F.slot_str_rfind PySem.F.type_str_rfind (λGo s σ H z y t v Q I G q=>by
   obtain ⟨w,rfl,q⟩:=q;obtain ⟨u,rfl⟩:=G;exact Qn PySem.F.slot_str_rfind (Rj _ _ _) PySem.F.entry_str_rfind (PySem.F.args_str_rfind_2 _ _) (gives_str_rfind z w t u).meets ⟨.int _,H,I.tok _,⟨_,rfl⟩,q⟩) ho he S O J
theorem Lh:wW z (.str q) H Q=Q (.int (QV z q)) H:=qe
theorem vZ:∀(k:Nat)(ys:List Str),zp (ys.map V.str) (strsFrom k ys)
 | _,[]=>.nil
 | k,y::ys=>.cons ⟨k,rfl⟩ (vZ (k+1) ys)
def xu:Str->V->Hp->VK->Prop:=λz y H Q=>uS y λq=>(q.length==0)=false/\z.length<sizeLine/\(Oz z q).length<=sizeLine/\∀p H2,New H p (.lst ((Oz z q).map V.str)) H2->Q (.ref p) H2
theorem E5{o e:N0}(ho:W (PE X o to))(he:W (PE X e te))(Z:OT o "split" X.env (Os o X.env)=Os o X.env:=by rfl)(ZH:(Z3.endLine==cpos.line)=true:=by rfl)(U:aw e=true:=by rfl):W (PE X (.Call (.Attribute o "split" Z3) [e] [] cpos) (uM1 to te xu)):=by
 refine ⟨?_⟩;have ho:=ho.h;have he:=he.h;exact
  yQ RP PySem.F.type_str_split (λGo s σ H z y t v Q I S q=>by
   obtain ⟨w,rfl,J,hz,hn,q⟩:=q;obtain ⟨u,rfl⟩:=S;have G:∀(ys:List Str)(us:List Value)(k:Nat),ys=Oz z w->zp (ys.map V.str) us->∃x H',Inv X Go σ H' { s with heap:=s.heap.push { cls:=.type "list",data:=.seq us.toArray },toks:=k }/\zo x (.ref s.heap.objs.size)/\Q x H':=λys us k e O=>by
    subst e;have hl:=O.length;rw [KE] at hl;exact ⟨.ref s.heap.objs.size,_,I.laid (t':=k) (o:=.lst _) (λb ob q=>zv _ q) (Nq _) ⟨by rw [KE];exact hn,us,0,O,NK _ rfl⟩,rfl,q _ _ (.mk' (I.hok.fresh (Nq _)))⟩
   cases h1:(decide (z.length<w.length)||decide (NN.Str.strKind z<NN.Str.strKind w))
   .cases hf:(NN.Str.occurrences z w 0 z.length (z.length+1)).isEmpty
    .have es:Oz z w=NN.Str.partsBetween z (NN.Str.occurrences z w 0 z.length (z.length+1)) w.length:=(if_neg (ne_true_of_eq_false h1)).trans (if_neg (ne_true_of_eq_false hf));rw [es] at hn;exact Qn RP (Rj _ _ _) entry_str_split (args_str_split_2 _ _) (meets_str_split_sep z w t u h1 J hf (Pj hz) hn) (G _ _ _ es.symm (vZ _ _))
    .exact Qn RP (Rj _ _ _) entry_str_split (args_str_split_2 _ _) (meets_str_split_not_found z w t u h1 J hf) (G [z] [.str z t] s.toks ((if_neg (ne_true_of_eq_false h1)).trans (if_pos hf)).symm (.cons ⟨t,rfl⟩ .nil))
   .exact Qn RP (Rj _ _ _) entry_str_split (args_str_split_2 _ _) (meets_str_split_cannot_occur z w t u h1) (G [z] [.str z t] s.toks (if_pos h1).symm (.cons ⟨t,rfl⟩ .nil))) ho he Z ZH U
theorem BY:xu z (.str q) H Q=((q.length==0)=false/\z.length<sizeLine/\(Oz z q).length<=sizeLine/\∀p H2,New H p (.lst ((Oz z q).map V.str)) H2->Q (.ref p) H2):=qe
def tS(te:TE):TE:=λσ H Q=>te σ H λx H1=>(∃z,x = .str z/\z.length<=sizeLine/\Q (.str z) H1)\/∃i,x = .int i/\i.natAbs.log2<1920/\Q (.str (toString i)) H1
def iC:V->Hp->VK->Prop:=λx H1 Q=>(∃z,x = .str z/\z.length<=sizeLine/\Q (.str z) H1)\/∃i,x = .int i/\i.natAbs.log2<1920/\Q (.str (toString i)) H1
theorem Nf:tS te σ H Q=te σ H λx H1=>iC x H1 Q:=rfl
theorem I0:iC (.str z) H Q=(z.length<=sizeLine/\Q (.str z) H):=by simp [iC]
theorem FO:iC (.int i) H Q=(i.natAbs.log2<1920/\Q (.str (toString i)) H):=by simp [iC]
theorem uz(he:W (PE X e te)):W (PE X (.FormattedValue e (-1) none pos) (tS te)):=by
 refine ⟨?_⟩;have he:=he.h;intro Go s σ H Q I h;refine FormattedValue_plain (thn (he Go s σ H _ I h) λv s1=>x5e λx H1 F G O=>?_);rcases O with ⟨z,rfl,J,q⟩|⟨i,rfl,hi,q⟩
 .obtain ⟨t,rfl⟩:=G;exact formatField_str (λt' tk=>⟨.str z,H1,F.tok _,⟨_,rfl⟩,q⟩) J
 .obtain ⟨t,rfl⟩:=G;exact formatField_int_small hi ⟨.str _,H1,F.tok _,⟨_,rfl⟩,q⟩
abbrev TJ:=Str->TE
def PJ(X:Cx)(es:List N0)(z:TJ):Prop:=∀(out:Str)(Go:List (Addr×Obj))(s:we)(σ:St)(H:Hp)(Q:VK),Inv X Go σ H s->z out σ H Q ->
 NF (NL X.prog X.w) X.A (joinParts out (evalEach es X.env)) (λu s1=>∃x H',Inv X Go σ H' s1/\zo x u/\Q x H') X.xe s
def sR:TJ:=λout _ H Q=>out.length<=sizeLine/\Q (.str out) H
def wC(te:TE)(z:TJ):TJ:=λout σ H Q=>te σ H λx H1=>uS x λy=>(out++y).length<=sizeLine/\z (out++y) σ H1 Q
theorem GG:W (PJ X [] sR):=⟨λout Go s σ H Q I h=>joinParts_nil ⟨.str out,H,I.tok _,⟨_,rfl⟩,h.2⟩ h.1⟩
theorem rL(he:W (PE X e te))(z:W (PJ X es F)):W (PJ X (e::es) (wC te F)):=by
 refine ⟨?_⟩;have he:=he.h;have z:=z.h;exact λout Go s σ H Q I h=>by
  refine joinParts_cons (thn (he Go s σ H _ I h) λv s1=>x5e λx H1 S O G=>?_);obtain ⟨y,rfl,J,q⟩:=G;obtain ⟨t,rfl⟩:=O;exact ⟨J,z _ Go s1 σ H1 Q S q⟩
def xF(z:TJ):TE:=z RM
theorem CO:xF z=z RM:=rfl
theorem Fl(h:W (PJ X (e::z::es) F)):W (PE X (.JoinedStr (e::z::es) pos) (xF F)):=by refine ⟨?_⟩;have h:=h.h;exact λGo s σ H Q I q=>JoinedStr_many (h RM Go s σ H Q I q)
def fW:List V->Hp->VK->Prop:=λxs H Q=>eB xs H Q\/∃z n,xs=[.str z]/\z.length<=640/\Ra z=some n/\Q (.int n) H
theorem AF:zM X (.type "int") fW:=by
 intro Go s σ H xs us Q I r h;rcases h with h|⟨z,n,rfl,hl,hn,q⟩
 .exact Gj Go s σ H xs us Q I r h
 .cases r with
  | cons G F =>
   cases F;obtain ⟨t,rfl⟩:=G;exact PySem.W.KIN.call_text hn hl ⟨.int n,H,I.tok _,⟨_,rfl⟩,q⟩
theorem Nb:fW [.int i] H Q=Q (.int i) H:=by simp [fW,eB]
theorem nE{k:Bool}:fW [.bl k] H Q=Q (.int (if k then 1 else 0)) H:=by simp [fW,eB]
theorem Ks:fW [.str z] H Q = ∃n,z.length<=640/\Ra z=some n/\Q (.int n) H:=by simp [fW,eB]
def gi:List V->Hp->VK->Prop:=λxs H Q=>fQ xs H Q\/∃z,xs=[.str z]/\Q (.str z) H
theorem MZ:zM X (.type "str") gi:=by
 intro Go s σ H xs us Q I r h;rcases h with h|⟨z,rfl,q⟩
 .exact Gz Go s σ H xs us Q I r h
 .cases r with
  | cons G F =>
   cases F;obtain ⟨t,rfl⟩:=G;exact PySem.P.str_of_str ⟨.str z,H,I,⟨_,rfl⟩,q⟩
theorem Aw:gi [.int i] H Q=(i.natAbs.log2<1920/\Q (.str (toString i)) H):=by simp [gi,fQ]
theorem xc:gi [.str z] H Q=Q (.str z) H:=by simp [gi,fQ]
def rY:List V->Hp->VK->Prop:=λxs H Q=>uR1 xs λp=>∃ys,H p=some (.lst ys)/\∀l H2,New H l (.tup ys) H2->Q (.ref l) H2
theorem Dg:zM X (.type "tuple") rY:=Mx.weak λxs H Q h=>by
 obtain ⟨p,e,ys,h1,q⟩:=h;exact ⟨p,ys,e,.inl ⟨SqL.of h1,λl hl=>q l _ (.mk' hl)⟩⟩
theorem L9{p:Addr}:rY [.ref p] H Q = ∃ys,H p=some (.lst ys)/\∀l H2,New H l (.tup ys) H2->Q (.ref l) H2:=e9
def nh:List V->Hp->VK->Prop:=λxs H Q=>∃x,xs=[.str x]/\x.length=1/\Q (.int (x.cps.getD 0 0:Nat)) H
theorem Eu:zM X (.builtin "ord") nh:=HK
theorem Kc:nh [.str x] H Q=(x.length=1/\Q (.int (x.cps.getD 0 0:Nat)) H):=by simp [nh]
inductive ja(w:NQ):List Sr->List (Str×Addr)->Prop
 | nil:ja w [] []
 | cons {k:Str}{t:Tok}{r:Addr}{es:List Sr}{kvs:List (Str×Addr)}:ja w es kvs->ja w ({ hash:=QF w.params k,key:=.str k t,val:=.ref r }::es) ((k,r)::kvs)
structure ju(w:NQ)(K:Nu)(a:Addr)(kvs:List (Str×Addr)):Prop where
 ex:∃es n,K.lookup a=some { cls:=.type "dict",dict:=none,data:=.dict es n,slots:=#[] }/\ja w es.toList kvs
 nd:(kvs.map (·.1)).Nodup
 ns:(a==sysModules)=false
def eK(kvs:List (Str×Addr))(z:Str):V:=match kvs.find? (λp=>p.1=z) with|some p=>.ref p.2|none=>.non
theorem sf:∀{es:List Sr}{kvs:List (Str×Addr)},ja w es kvs->PySem.Pairs (aB P w) es (kvs.map λp=>(Sum.inr p.1,Ny p.2))/\∀e∈es,∃k,(aB P w).is k e.key=true/\e.hash=(aB P w).hash k
 | _,_,.nil=>⟨.nil,λe he=>by cases he⟩
 | _,_,.cons (k:=k) (t:=t) h=>by
  obtain ⟨h1,h2⟩:=sf (P:=P) h;refine ⟨.cons (kI P w k t) rfl h1,λe he=>?_⟩;rcases Nw.mp he with rfl|he
  .exact ⟨Sum.inr k,kI P w k t,rfl⟩
  .exact h2 e he
theorem ju.dictOf{K:Nu}{h:Heap}(D:ju w K a kvs)(F:∀o,K.lookup a=some o->h.get? a=some o):h.DictOf (aB P w) a (kvs.map λp=>(Sum.inr p.1,Ny p.2)):=by
 obtain ⟨es,n,h1,h2⟩:=D.ex;obtain ⟨G,p2⟩:=sf (P:=P) h2;refine ⟨_,es,n,F _ h1,⟨rfl,rfl,rfl⟩,rfl,λe he=>p2 e (by simpa using he),G,?_⟩;rw [Oi];have e:((λp:Key×Value=>p.1)∘λp:Str×Addr=>((Sum.inr p.1:Key),Ny p.2))=(λz:Str=>(Sum.inr z:Key))∘(λp:Str×Addr=>p.1):=rfl;rw [e,<- Oi];exact Pairwise.map _ (λx y q z=>q (Sum.inr.inj z)) D.nd
def uq(kvs:List (Str×Addr))(te:TE):TE:=λσ H Q=>te σ H λy H1=>uS y λz=>Q (eK kvs z) H1
theorem Kg:uq kvs te σ H Q=te σ H λy H1=>uS y λz=>Q (eK kvs z) H1:=rfl
theorem Ia:zo (eK kvs z) ((PySem.valueAt (kvs.map λp=>((Sum.inr p.1:Key),Ny p.2)) (Sum.inr z)).getD .none):=by
 unfold eK PySem.valueAt;rw [List.find?_map];have e:((λF:Key×Value=>decide (F.1=Sum.inr z))∘λp:Str×Addr=>((Sum.inr p.1:Key),Ny p.2))=λp:Str×Addr=>decide (p.1=z):=by
  funext p;simp
 rw [e];cases kvs.find? (λp=>decide (p.1=z)) with
 | none=>rfl
 | some p=>rfl
theorem G9(hg:Gl X x)(hm:X.mg x=some (.ref a))(D:ju X.w X.K a kvs)(he:W (PE X e te))(ZI:OT (.Name x G) "get" X.env (Os (.Name x G) X.env)=Os (.Name x G) X.env:=by rfl)(ZH:(Z3.endLine==cpos.line)=true:=by rfl)(hp:aw e=true:=by rfl)(hd:(x==("__debug__":Str))=false:=by decide):W (PE X (.Call (.Attribute (.Name x G) "get" Z3) [e] [] cpos) (uq kvs te)):=by
 refine ⟨?_⟩;have he:=he.h;intro Go s σ H Q I h;have hs:NZ [e] X.env=[(false,Os e X.env)]:=cT hp;refine O4 ZI (by rw [hs];rfl) ZH rfl (thn (wQ (v:=.ref a) hg ⟨_,hm,rfl⟩ hd Go s σ H (λv H1=>v = .ref a/\H1=H) I ⟨rfl,rfl⟩) λv s1=>x5e λx1 H1 Z r1 Ys=>?_);obtain ⟨ex,eH⟩:=Ys;subst ex eH;cases r1;have dd:=D.dictOf (P:=X.prog) (h:=s1.heap) λo ho=>Z.S2 a o ho;refine ⟨"dict","dict.get",Sm,Ro,PySem.F.type_dict_get,dd.typeIs,λb q=>?_,?_⟩
 .cases q;obtain ⟨ob,_,_,h1,h2,_⟩:=dd;exact ⟨ob,h1,h2.2.1⟩
 rw [hs];refine Calls.callWith_builtin rfl (Calls.evalArgs_plain ?_);have S:=dX he dQ (hs:=hs) cpos Go s1 σ H1 (λys H2=>cx (λy=>uS y λz=>Q (eK kvs z) H2) ys) Z h;rw [hs] at S;refine thn S λus s2=>x5e λvs H2 U r2 J=>?_;obtain ⟨y,rfl,J⟩:=cx.ex J;obtain ⟨_,rfl,ry⟩:=zp.one r2;obtain ⟨z,ey,q⟩:=J;subst ey;obtain ⟨t,rfl⟩:=ry;have O:=D.dictOf (P:=X.prog) (h:=s2.heap) λo ho=>U.S2 a o ho;refine SE Ro O.typeIs entry_dict_get (PySem.F.args_dict_get_2 _ _) (meets_dict_get (aB X.prog X.w) a (kI X.prog X.w z t) D.ns) ⟨_,O.mapOf,?_⟩;exact ⟨eK kvs z,H2,U.tok _,Ia,q⟩
end
section
variable {prog:NB}{w:NQ}{A:NP}{E:Value->we->Prop}{s:we}
theorem yT{h h':Heap}(x:h.IsTuple l xs)(k:∀o,h.get? l=some o->h'.get? l=some o):h'.IsTuple l xs:=by
 obtain ⟨o,e,r⟩:=x;exact ⟨o,k o e,r⟩
theorem CU{it t:Addr}(G:s.heap.IsTupleIter it t i)(O:s.heap.IsTuple t items)(hx:items[i]?=some x)(k:∀h',h'.IsTupleIter it t (i+1)->Q8 it s.heap h'->Q x { s with heap:=h' }):NF (NL prog w) A (NN.SmallTypes.nextOf (.ref it)) Q E s:=by
 obtain ⟨o,ho,hc,hd⟩:=id G;obtain ⟨S,J,_,nl,z⟩:=O;unfold NN.SmallTypes.nextOf;refine fv (Oo (name:=yv "__next__") G.typeIs F.slot_tuple_iterator_next (OB F.slot_tuple_iterator_next G.typeIs F.entry_tuple_iterator_next ?_ (F.args_tuple_iterator_next_1 _)));refine fv (m:=RT (.ref it) 0) (N4 ho hd (x:=.ref t) rfl ?_);rw [if_neg (show ¬ ((Ny t==N7)=true) by simp)];refine fv (m:=RT (.ref it) 1) (N4 ho hd (x:=.int i 0) rfl (fv (m:=Q1 (.ref t)) (OA J z ?_)));simp only [Ph,hx];refine fv (m:=setField _ _ _) (OY ho hd (by simp) (Nv ⟨x,rfl,Nv (k _ ?_ (Q8.update ..))⟩));refine ⟨_,OF _ ho (OX (PZ hd _)),(Rb ..).trans hc,?_⟩;rw [PZ hd];simp [OE]
theorem CA{it t:Addr}(U:Hnd A s.heap)(J:s.heap.IsTupleIter it t i)(W:s.heap.IsTuple t items)(hx:items[i]?=none)(k:∀h' e,ExtBut it s.heap h'->(∃o,h'.get? e=some o/\o.cls = .type "StopIteration")->E (.ref e) { s with heap:=h' }):NF (NL prog w) A (NN.SmallTypes.nextOf (.ref it)) Q E s:=by
 obtain ⟨o,ho,hc,hd⟩:=id J;obtain ⟨ol,O,_,nl,G⟩:=W;unfold NN.SmallTypes.nextOf;refine fv (Oo (name:=yv "__next__") J.typeIs F.slot_tuple_iterator_next (OB F.slot_tuple_iterator_next J.typeIs F.entry_tuple_iterator_next ?_ (F.args_tuple_iterator_next_1 _)));refine fv (m:=RT (.ref it) 0) (N4 ho hd (x:=.ref t) rfl ?_);rw [if_neg (show ¬ ((Ny t==N7)=true) by simp)];refine fv (m:=RT (.ref it) 1) (N4 ho hd (x:=.int i 0) rfl (fv (m:=Q1 (.ref t)) (OA O G ?_)));simp only [Ph,hx];refine fv (PP (fv (OY ho hd (by simp) ?_)));refine kH (U.keeps λb q Z e=>(NS _ _ λz=>?_).trans e) λh' e up st=>k h' e (λb q hb z=>up b q ((NS _ _ (NO hb)).trans z)) st;obtain ⟨C,S⟩:=Z;rw [<- z,ho] at e;cases e;rw [hc] at S;cases S
theorem Ka{z TI TO i1 i2 S J:Addr}(D:ZipApart z TI TO i1 i2 S J)(O:IsZip s.heap z TI TO .none)(ab:QN s.heap TI (.ref i1) (.ref i2))(ag:QN s.heap TO a b)(h1:s.heap.IsTupleIter i1 S k1)(h2:s.heap.IsListIter i2 J k2)(ai:s.heap.IsTuple S xs)(Yp:s.heap.IsList J ys)(hx:xs[k1]?=some x)(hy:ys[k2]?=some y)(k:∀h',IsZip h' z TI TO (OE s.heap.objs.size)->QN h' TO x y->h'.IsTupleIter i1 S (k1+1)->h'.IsListIter i2 J (k2+1)->QN h' s.heap.objs.size x y->h'.objs.size=s.heap.objs.size+1 ->
   (∀c o,c≠z->c≠TO->c≠i1->c≠i2->s.heap.get? c=some o->h'.get? c=some o)->Q (some (.ref s.heap.objs.size)) { s with heap:=h' }):NF (NL prog w) A (Ql (.ref z)) Q E s:=by
 have hT:s.TypeIs (.ref z) "zip":=⟨_,O,rfl⟩;have XS:∀(Q':Value->we->Prop)(E':Value->we->Prop),(∀h',IsZip h' z TI TO (OE s.heap.objs.size)->QN h' TO x y->h'.IsTupleIter i1 S (k1+1)->h'.IsListIter i2 J (k2+1)->QN h' s.heap.objs.size x y->h'.objs.size=s.heap.objs.size+1 ->
   (∀c o,c≠z->c≠TO->c≠i1->c≠i2->s.heap.get? c=some o->h'.get? c=some o)->Q' (.ref s.heap.objs.size) { s with heap:=h' }) ->
   NF (NL prog w) A.in1 (NN.«zip.__next__» ⟨[.ref z],[]⟩) (λaj s'=>∃v,aj = .done (.ret v)/\Q' v s') E' s:=by
  intro Q' E' kk;refine fv (m:=RT (.ref z) 2) (N4 O rfl (x:=.bool false) rfl (fv (m:=RT (.ref z) 3) (N4 O rfl (x:=.ref TI) rfl (fv (OA ab rfl (fv (m:=NN.SmallTypes.ownedTupleIsFree (.ref z)) ?_))))));unfold NN.SmallTypes.ownedTupleIsFree;refine fv (N4 O rfl (x:=.none) rfl (Nv ?_));simp only [if_true];refine fv (PP (fv (N4 O rfl (x:=.ref TO) rfl (fv (Qi O (by simp) λg1 z1 s1=>?_)))))
  replace z1:IsZip g1 z TI TO .ellipsis:=z1
  refine fv ?_;simp only [List.zipIdx_cons,List.zipIdx_nil,SB,List.forIn_nil];refine fv (fv (wpAny_onRaise (fv (m:=NN.SmallTypes.nextOf (.ref i1)) ?_)));refine CU (s:={ s with heap:=g1 }) (h1.at λo e=>s1.extBut _ o D.i1z e) (yT ai λo e=>s1.extBut _ o D.l1z e) hx λg2 a2 s2=>Nv ?_;have t2:QN g2 TO a b:=s2.extBut _ _ D.TOi1 (s1.extBut _ _ D.TOz ag);refine fv (OA t2 rfl (fv (wpAny_updateSeq_pair t2 λg3 t3 U=>?_)))
  replace t3:QN g3 TO x b:=t3
  refine fv (PC (Nv (fv (fv (wpAny_onRaise (fv (m:=NN.SmallTypes.nextOf (.ref i2)) ?_))))));refine wpAny_nextOf_list_item (((h2.extBut s1.extBut D.i2z).extBut s2.extBut D.i12.symm).extBut U.extBut D.TOi2.symm) (((Yp.extBut s1.extBut D.l2z).extBut s2.extBut D.l2i1).extBut U.extBut D.l2TO) hy λg4 b4 s4=>Nv ?_;have t4:QN g4 TO x b:=s4.extBut _ _ D.TOi2 t3;refine fv (OA t4 rfl (fv (wpAny_updateSeq_pair t4 λG t5 s5=>?_)))
  replace t5:QN G TO x y:=t5
  refine fv (PC (Nv (Nv (fv (OA t5 rfl (fv (wpAny_newTuple ?_)))))));have sz:G.objs.size=s.heap.objs.size:=by rw [s5.1,s4.1,U.1,s2.1,s1.1]
  have z5:IsZip G z TI TO .ellipsis:=s5.extBut _ _ D.TOz.symm (s4.extBut _ _ D.i2z.symm (U.extBut _ _ D.TOz.symm (s2.extBut _ _ D.i1z.symm z1)));have Y2:∀c o,c≠z->c≠TO->c≠i1->c≠i2->s.heap.get? c=some o->G.get? c=some o:=λc o c1 c2 c3 c4 e=>s5.extBut _ _ c2 (s4.extBut _ _ c4 (U.extBut _ _ c2 (s2.extBut _ _ c3 (s1.extBut _ _ c1 e))));have a5:G.IsTupleIter i1 S (k1+1):=a2.at λo e=>s5.extBut _ _ D.TOi1.symm (s4.extBut _ _ D.i12 (U.extBut _ _ D.TOi1.symm e));have b5:G.IsListIter i2 J (k2+1):=b4.extBut s5.extBut D.TOi2.symm;have WX:z<G.objs.size:=NR z5;refine fv (m:=NN.SmallTypes.ownedTupleHandOut (.ref z) (.ref G.objs.size)) ?_;unfold NN.SmallTypes.ownedTupleHandOut;have z6:IsZip (G.push { cls:=.type "tuple",data:=.seq #[x,y] }) z TI TO .ellipsis:=zv _ z5;refine fv (Qi z6 (by simp) λg7 z7 s7=>?_)
  replace z7:IsZip g7 z TI TO (OE G.objs.size):=z7
  refine Qi z7 (by simp) λZ z8 s8=>?_
  replace z8:IsZip Z z TI TO (OE G.objs.size):=z8
  have up:∀c o,c≠z->G.get? c=some o->Z.get? c=some o:=λc o c1 e=>s8.extBut _ _ c1 (s7.extBut _ _ c1 (zv _ e));have t8:QN Z G.objs.size x y:=s8.extBut _ _ (Qs WX) (s7.extBut _ _ (Qs WX) (NK _ rfl));have W:Z.objs.size=G.objs.size+1:=by rw [s8.1,s7.1,Pl]
  rw [sz] at z8 t8 W;refine Nv ⟨_,rfl,?_⟩;show Q' (.ref G.objs.size) _;rw [sz];exact kk Z z8 (up _ _ D.TOz t5) (a5.at λo e=>up _ o D.i1z e) (b5.at λo e=>up _ o D.i2z e) t8 W λc o c1 c2 c3 c4 e=>up c o c1 (Y2 c o c1 c2 c3 c4 e)
 unfold Ql;exact fv (QO (Oo (name:=yv "__next__") hT F.slot_zip_next (OB F.slot_zip_next hT F.entry_zip_next (XS _ _ λh' q1 q2 q3 q4 q5 q6 q7=>Nv (k h' q1 q2 q3 q4 q5 q6 q7)) (F.args_zip_next_1 _))))
theorem Ni{z TI TO i1 i2 O l2:Addr}(hh:Hnd A s.heap)(D:ZipApart z TI TO i1 i2 O l2)(G:IsZip s.heap z TI TO .none)(J:QN s.heap TI (.ref i1) (.ref i2))(ab:QN s.heap TO a b)(h1:s.heap.IsTupleIter i1 O k1)(W:s.heap.IsTuple O xs)(hx:xs[k1]?=none)(k:∀h',(∀c o,c≠z->c≠i1->s.heap.get? c=some o->h'.get? c=some o)->Q none { s with heap:=h' }):NF (NL prog w) A (Ql (.ref z)) Q E s:=by
 have hT:s.TypeIs (.ref z) "zip":=⟨_,G,rfl⟩;have XS:∀(Z:Fin->we->Prop)(E':Value->we->Prop),(∀h' e,(∀c o,c≠z->c≠i1->s.heap.get? c=some o->h'.get? c=some o)->(∃o,h'.get? e=some o/\o.cls = .type "StopIteration")->E' (.ref e) { s with heap:=h' }) ->
   NF (NL prog w) A.in1 (NN.«zip.__next__» ⟨[.ref z],[]⟩) Z E' s:=by
  intro Z E' kE;refine fv (m:=RT (.ref z) 2) (N4 G rfl (x:=.bool false) rfl (fv (m:=RT (.ref z) 3) (N4 G rfl (x:=.ref TI) rfl (fv (OA J rfl (fv (m:=NN.SmallTypes.ownedTupleIsFree (.ref z)) ?_))))));unfold NN.SmallTypes.ownedTupleIsFree;refine fv (N4 G rfl (x:=.none) rfl (Nv ?_));simp only [if_true];refine fv (PP (fv (N4 G rfl (x:=.ref TO) rfl (fv (Qi G (by simp) λg1 z1 s1=>?_)))));refine fv ?_;simp only [List.zipIdx_cons,List.zipIdx_nil,SB,List.forIn_nil];refine fv (fv (wpAny_onRaise (fv (m:=NN.SmallTypes.nextOf (.ref i1)) ?_)));have U:Hnd A.in1 g1:=Hnd.keeps (h:=s.heap) hh λc o ⟨C,hC⟩ e=>s1.extBut c o (λq=>by rw [q,G] at e;cases e;cases hC) e;refine CA (s:={ s with heap:=g1 }) U (h1.at λo e=>s1.extBut _ o D.i1z e) (yT W λo e=>s1.extBut _ o D.l1z e) hx λg2 e s2 st=>?_;obtain ⟨oe,S,ce⟩:=st;have z2:IsZip g2 z TI TO .ellipsis:=s2 _ _ D.i1z.symm z1;have ez:e≠z:=λq=>by rw [q,z2] at S;cases S;simp at ce
  exact Qi z2 (by simp) λg3 _ s3=>kE g3 e (λc o c1 c2 q=>s3.extBut _ _ c1 (s2 _ _ c2 (s1.extBut _ _ c1 q))) ⟨oe,s3.extBut _ _ ez S,ce⟩
 unfold Ql;refine fv (QO (Oo (name:=yv "__next__") hT F.slot_zip_next (OB F.slot_zip_next hT F.entry_zip_next (XS _ _ λh' e up st=>?_) (F.args_zip_next_1 _))));obtain ⟨o,g,c⟩:=st;exact fv (Rh (T:="StopIteration") (b:=true) ⟨o,g,c⟩ RS (Nv (k h' up)))
end
abbrev zT1(h:Heap)(z:Addr):Heap:=h.push { cls:=.type "tuple_iterator",data:=.fields #[.ref z,.int 0 0] }
abbrev zT2(h:Heap)(z F:Addr):Heap:=(zT1 h z).push { cls:=.type "list_iterator",data:=.fields #[.ref F,.int 0 0] }
abbrev zT3(h:Heap)(z F:Addr):Heap:=(zT2 h z F).push { cls:=.type "tuple",data:=.seq #[.ref h.objs.size,.ref (zT1 h z).objs.size] }
abbrev zT4(h:Heap)(z F:Addr):Heap:=(zT3 h z F).push { cls:=.type "tuple",data:=.seq #[.none,.none] }
abbrev zT5(h:Heap)(z F:Addr):Heap:=(zT4 h z F).push { cls:=.type "zip",data:=.fields #[.none,.bool false,.bool false,.ref (zT2 h z F).objs.size,.ref (zT3 h z F).objs.size] }
theorem Lx(z F:Addr)(xs ys:Array Value):Meets (NN.«zip.__new__» ⟨[.type "zip",.ref z,.ref F],[]⟩) (λ_ R s=>s.heap.IsTuple z xs/\s.heap.IsList F ys/\R (.ok (.ret (.ref (zT4 s.heap z F).objs.size))) { s with heap:=zT5 s.heap z F }) :=
 .of_wp λprog w A R s h=>by
  obtain ⟨S,g,d,tk,os⟩:=s;obtain ⟨G,U,h⟩:=h;have W:=sub_zip;have J:Heap.IsTuple (we.heap ⟨S,g,d,tk,os⟩) z xs:=G;have O:Heap.IsList (we.heap ⟨S.push { cls:=.type "tuple_iterator",data:=.fields #[.ref z,.int 0 0] },g,d,tk,os⟩) F ys:=Heap.IsList.push U _
  wp_walk using wpAny_pyIter_tuple J,Pk O
  exact ⟨_,rfl,h⟩
section
variable {prog:NB}{w:NQ}{A:NP}{E:Value->we->Prop}{s:we}
theorem Ea(O:s.heap.IsTuple z xs)(Yp:s.heap.IsList G ys)(h:∀h',IsZip h' (s.heap.objs.size+4) (s.heap.objs.size+2) (s.heap.objs.size+3) .none->QN h' (s.heap.objs.size+2) (.ref s.heap.objs.size) (.ref (s.heap.objs.size+1)) ->
   QN h' (s.heap.objs.size+3) .none .none->h'.IsTupleIter s.heap.objs.size z 0->h'.IsListIter (s.heap.objs.size+1) G 0->h'.objs.size=s.heap.objs.size+5 ->
   (∀c o,s.heap.get? c=some o->h'.get? c=some o)->Q (.ref (s.heap.objs.size+4)) { s with heap:=h' }):NF (NL prog w) A (call (.type "zip") [.ref z,.ref G]) Q E s:=by
 refine callType_new F.called_zip (by decide) (F.typeCall_zip_2 _ _) (F.newCall_zip_2 _ _) (λobj=>F.args_object_init_3 obj _ _) F.entry_zip_new (Lx z G xs ys) ⟨O,Yp,?_⟩;have U:(zT1 s.heap z).objs.size=s.heap.objs.size+1:=Pl ..;have Z:(zT2 s.heap z G).objs.size=s.heap.objs.size+2:=by rw [Pl,U]
 have J:(zT3 s.heap z G).objs.size=s.heap.objs.size+3:=by rw [Pl,Z]
 have S:(zT4 s.heap z G).objs.size=s.heap.objs.size+4:=by rw [Pl,J]
 have z5:(zT5 s.heap z G).objs.size=s.heap.objs.size+5:=by rw [Pl,S]
 have W:(zT5 s.heap z G).get? (zT4 s.heap z G).objs.size=some _:=NK _ rfl;have g4:(zT5 s.heap z G).get? (zT3 s.heap z G).objs.size=some _:=zv _ (NK _ rfl);have g3:(zT5 s.heap z G).get? (zT2 s.heap z G).objs.size=some _:=zv _ (zv _ (NK _ rfl));have g2:(zT5 s.heap z G).get? (zT1 s.heap z).objs.size=some _:=zv _ (zv _ (zv _ (NK _ rfl)));have g1:(zT5 s.heap z G).get? s.heap.objs.size=some _:=zv _ (zv _ (zv _ (zv _ (NK _ rfl))));show _/\_;rw [Z,J,S] at W;rw [U,Z] at g3;rw [J] at g4;rw [U] at g2;rw [S];refine ⟨⟨_,W,rfl⟩,h _ W g3 g4 ⟨_,g1,rfl,rfl⟩ ⟨_,g2,rfl,rfl⟩ z5 λc o x=>?_⟩;exact zv _ (zv _ (zv _ (zv _ (zv _ x))))
end
def kh(K:Nu)(a b:Addr):It :=
 ⟨λi H=>∃xs ys x y,SqT K H a xs/\SqL K H b ys/\xs[i]?=some x/\ys[i]?=some y,λi H v H'=>∃T x y,H T=none/\v = .ref T/\H'=upd H T (.tup [x,y])/\(∀xs,SqT K H a xs->xs[i]?=some x)/\∀ys,SqL K H b ys->ys[i]?=some y,
  λi H=>∃xs ys,SqT K H a xs/\SqL K H b ys/\xs.length<=i⟩
structure j7(z TI TO i1 i2 l1 l2:Addr)(i:Nat)(h:Heap):Prop where
 z:IsZip h z TI TO .none
 ti:QN h TI (.ref i1) (.ref i2)
 to:∃a b,QN h TO a b
 a:h.IsTupleIter i1 l1 i
 b:h.IsListIter i2 l2 i
theorem j7.keep{z TI TO i1 i2 G F:Addr}(x:j7 z TI TO i1 i2 G F i h)(k:∀b∈[z,TI,TO,i1,i2],∀o,h.get? b=some o->h'.get? b=some o):j7 z TI TO i1 i2 G F i h':=by
 obtain ⟨U,O,⟨u,v,J⟩,S,W⟩:=x;exact ⟨k _ (by simp) _ U,k _ (by simp) _ O,⟨u,v,k _ (by simp) _ J⟩,S.at λo e=>k _ (by simp) o e,W.at λo e=>k _ (by simp) o e⟩
theorem FW{P:NB}{w:NQ}{K:Nu}{YK:List N0}{kk:Nat}{tp:Pos}{l1 l2 z TI TO i1 i2:Addr}(D:ZipApart z TI TO i1 i2 l1 l2) :
  dy false P w K (.Tuple YK kk tp) (kh K l1 l2) [z,TI,TO,i1,i2] z (j7 z TI TO i1 i2 l1 l2) where
 mem:=by simp
 obj:=λi h st b hb=>by
  obtain ⟨Z,O,⟨u,v,a3⟩,⟨o4,G,_,d4⟩,⟨o5,U,_,d5⟩⟩:=st;simp only [Nw,NH,or_false] at hb;rcases hb with rfl|rfl|rfl|rfl|rfl
  .exact ⟨_,Z,λv q=>nomatch q⟩
  .exact ⟨_,O,λv q=>nomatch q⟩
  .exact ⟨_,a3,λv q=>nomatch q⟩
  .exact ⟨_,G,λv q=>by rw [d4] at q;cases q⟩
  .exact ⟨_,U,λv q=>by rw [d5] at q;cases q⟩
 keep:=λi h h' st k=>st.keep k
 item:=by
  intro X hP hw hK hc i Go s σ H E I hf st hg;subst hP hw hK;obtain ⟨xs,ys,x,y,F,S,hx,hy⟩:=hg;obtain ⟨ak,WY,p1,ag⟩:=I.tuple F;obtain ⟨a7,aj,p2,a6⟩:=I.list S;obtain ⟨u1,aT,ai⟩:=WY.get hx;obtain ⟨u2,a0,ab⟩:=aj.get hy;obtain ⟨Z,O,⟨u,v,a3⟩,G,U⟩:=st;refine Ka D Z O a3 G U p1 p2.isList (x:=u1) (y:=u2) (by simpa using aT) (by simpa using a0) λh' b1 b2 b3 b4 b5 b6 b7=>?_;refine ⟨_,rfl,wpAny_letOwnedTupleGo_zip (s:={ s with heap:=h' }) b1 λh2 c1 W=>?_⟩;have WX:z<s.heap.objs.size:=NR Z;have nz:s.heap.objs.size≠z:=Qs WX;have all:∀c o,c≠z->c≠TO->c≠i1->c≠i2->s.heap.get? c=some o->h2.get? c=some o:=λc o n1 n2 n3 n4 e=>W.extBut c o n1 (b7 c o n1 n2 n3 n4 e);have tT:h2.get? s.heap.objs.size=some { cls:=.type "tuple",data:=.seq #[u1,u2] }:=W.extBut _ _ nz b5;have YL:H s.heap.objs.size=none:=I.hok.fresh (Nq _);have WW:HOk X.prog X.w H h2:=λb u e=>by
   refine (I.hok b u e).stay (λc v hc q=>?_) (λ_ q=>q) λ_ _ q=>q;have J:∀d∈[z,TI,TO,i1,i2],c≠d:=λd hd w=>by
    have fd:=(hf d hd).1;rcases hc with k|k
    .rw [k] at w;rw [w,fd] at e;cases e
    .rw [w,fd] at k;cases k
   exact all c v (J z (by simp)) (J TO (by simp)) (J i1 (by simp)) (J i2 (by simp)) q
  have av:∀b o,s.heap.get? b=some o->b≠s.heap.objs.size:=λb o e=>Oh (NR e);have I2:Inv X Go σ (upd H s.heap.objs.size (.tup [x,y])) { s with heap:=h2 }:=by
   refine I.step (g':=s.gens) (d':=s.drawn) (t':=s.toks) (ch:=[z,TO,i1,i2]) (λb hb=>?_) (λb o _ _ hb e _=>?_) (λb o _ _ hb e _=>?_) (λb o _ e n=>?_) (λb o hb e=>?_) (λb ps e=>?_) (λb o u e=>?_) (λb ps e=>?_) (λm hm=>?_) (WW.add YL ?_) I.bare
   .have Xa:b∈[z,TI,TO,i1,i2]:=by simp only [Nw,NH,or_false] at hb ⊢;rcases hb with h|h|h|h<;>simp [h]
    obtain ⟨f0,f1,f2,f3,f4,f5⟩:=hf b Xa;exact ⟨f3,f1,f4,f5⟩
   .simp only [Nw,NH,or_false,not_or] at hb;exact all b o hb.1 hb.2.1 hb.2.2.1 hb.2.2.2 e
   .simp only [Nw,NH,or_false,not_or] at hb;exact ⟨o.slots,all b o hb.1 hb.2.1 hb.2.2.1 hb.2.2.2 e⟩
   .rw [zd (av b o e)];exact n
   .simp only [Nw,NH,or_false,not_or] at hb;exact ⟨o,all b o hb.1 hb.2.1 hb.2.2.1 hb.2.2.2 e⟩
   .rw [zd (zE e YL)];exact e
   .rw [zd (zE e YL)];exact e
   .exact ⟨#[],by rw [zd (zE e YL),e];simp⟩
   .obtain ⟨o,es,ep,ho,r⟩:=hm;exact ⟨o,es,ep,all _ o (NO (hf z (by simp)).2.1) (NO (hf TO (by simp)).2.1) (NO (hf i1 (by simp)).2.1) (NO (hf i2 (by simp)).2.1) ho,r⟩
   .exact ⟨by show 2<=sizeLine;decide,[u1,u2],.cons ai (.cons ab .nil),⟨_,tT,rfl,_,rfl⟩⟩
  refine ⟨.ref s.heap.objs.size,_,I2,rfl,⟨_,x,y,YL,rfl,rfl,λzs hz=>by rw [I.TR hz F];exact hx,λzs hz=>by rw [I.Tj hz S];exact hy⟩,?_,λb hb=>?_⟩
  .exact ⟨c1,W.extBut _ _ D.TIz (b7 _ _ D.TIz D.TITO D.TIi1 D.TIi2 O),⟨u1,u2,W.extBut _ _ D.TOz b2⟩,b3.at λo e=>W.extBut _ o D.i1z e,b4.extBut W.extBut D.i2z⟩
  .have ne:b≠s.heap.objs.size:=λq=>by
    have:b<s.heap.objs.size:=by
     simp only [Nw,NH,or_false] at hb;obtain ⟨o4,G,_⟩:=G;obtain ⟨o5,U,_⟩:=U;rcases hb with rfl|rfl|rfl|rfl|rfl
     .exact WX
     .exact NR O
     .exact NR a3
     .exact NR G
     .exact NR U
    exact absurd (q ▸ this) (Od _)
   rw [zd ne];exact (hf b hb).1
 done:=by
  intro X hP hw hK hc i Go s σ H E I hf st hg;subst hP hw hK;obtain ⟨xs,ys,F,S,hx⟩:=hg;obtain ⟨ak,WY,p1,ag⟩:=I.tuple F;have hl:=WY.length;obtain ⟨Z,O,⟨u,v,a3⟩,G,U⟩:=st;refine Ni I.hnd D Z O a3 G p1 (by simp;lia) λh' up=>⟨rfl,?_⟩;refine I.step (g':=s.gens) (d':=s.drawn) (t':=s.toks) (ch:=[z,i1]) (λb hb=>?_) (λb o _ _ hb e _=>?_) (λb o _ _ hb e _=>?_) (λ_ _ _ _ n=>n) (λb o hb e=>?_) (λ_ _ e=>e) (λ_ _ _ e=>e) (λb ps e=>⟨#[],by rw [e];simp⟩) (λm hm=>?_) (λb u e=>?_) I.bare
  .have Xa:b∈[z,TI,TO,i1,i2]:=by simp only [Nw,NH,or_false] at hb ⊢;rcases hb with h|h<;>simp [h]
   obtain ⟨f0,f1,f2,f3,f4,f5⟩:=hf b Xa;exact ⟨f3,f1,f4,f5⟩
  .simp only [Nw,NH,or_false,not_or] at hb;exact up b o hb.1 hb.2 e
  .simp only [Nw,NH,or_false,not_or] at hb;exact ⟨o.slots,up b o hb.1 hb.2 e⟩
  .simp only [Nw,NH,or_false,not_or] at hb;exact ⟨o,up b o hb.1 hb.2 e⟩
  .obtain ⟨o,es,ep,ho,r⟩:=hm;exact ⟨o,es,ep,up _ o (NO (hf z (by simp)).2.1) (NO (hf i1 (by simp)).2.1) ho,r⟩
  .refine (I.hok b u e).stay (λc v hc q=>?_) (λ_ q=>q) λ_ _ q=>q;have J:∀d∈[z,TI,TO,i1,i2],c≠d:=λd hd w=>by
    have fd:=(hf d hd).1;rcases hc with k|k
    .rw [k] at w;rw [w,fd] at e;cases e
    .rw [w,fd] at k;cases k
   exact up c v (J z (by simp)) (J i1 (by simp)) q
 self:=λ_ _ _ _ _ st h=>wpAny_pyIter_zip st.z h
section
variable {X:Cx}
def A5(K:Nu)(ta:TA):TI:=λσ H R=>ta σ H λvs H1=>∃a b,vs=[.ref a,.ref b]/\(∃xs,SqT K H1 a xs)/\(∃ys,SqL K H1 b ys)/\R (kh K a b) H1
theorem Dh{tp p pos:Pos}(hg:Gl X "zip")(hm:X.mg "zip"=none)(ha:W (PA X [a,b] ta))(hs:NZ [a,b] X.env=[(false,Os a X.env),(false,Os b X.env)]:=by rfl)(Z:NZ [b] X.env=[(false,Os b X.env)]:=by rfl):W (PIc false X (.Tuple YK kk tp) (.Call (.Name "zip" p) [a,b] [] pos) (A5 X.K ta)):=by
 refine ⟨?_⟩;have ha:=ha.h;intro Go s σ H R I h;refine Call_ (dN I hg hm boot_zip (O1 (thn (ha pos Go s σ H _ I h) λus s1=>x5e λvs H1 z r1 q1=>?_) (by rw [hs,Z]) (by rw [Z];rfl)));obtain ⟨U,O,e,⟨xs,h1⟩,⟨ys,h2⟩,q⟩:=q1;subst e;cases r1 with
 | cons r J =>
  cases J with
  | cons r' J =>
   cases J;cases (show _=Ny U from r);cases (show _=Ny O from r');obtain ⟨ag,WY,p1,_⟩:=z.tuple h1;obtain ⟨ai,ab,p2,_⟩:=z.list h2;have F:U<s1.heap.objs.size:=by obtain ⟨o,e,_⟩:=p1;exact NR e
   have G:O<s1.heap.objs.size:=by obtain ⟨o,e,_⟩:=p2.isList;exact NR e
   refine Ea p1 p2.isList λh' S a2 a3 a4 a5 a6 a7=>wpAny_pyIter_zip (s:={ s1 with heap:=h' }) S ?_;refine ⟨_,_,_,_,H1,rfl,z.kept (t':=s1.toks) a7,FW (zipApart_new F G),⟨S,a2,⟨_,_,a3⟩,a4,a5⟩,λb hb=>?_,q⟩;have le:s1.heap.objs.size<=b:=by
    simp only [Nw,NH,or_false] at hb;rcases hb with rfl|rfl|rfl|rfl|rfl<;>lia
   exact z.Tz le (z.hok.fresh le)
end
section
variable {K:Nu}{g:TG}{tb:TS}{D:aP}{σ:St}{H:Hp}{ta:TA}{R:It->Hp->Prop}
theorem IT:A5 K ta σ H R=ta σ H λvs H1=>uR2 vs λa b=>(∃xs,SqT K H1 a xs)/\(∃ys,SqL K H1 b ys)/\R (kh K a b) H1:=by
 apply propext;constructor
 .intro h;exact h
 .intro h;exact h
theorem aA.bp(W:xs.length=ys.length)(z:Nat->St->Hp->Prop)(h0:z 0 σ H)(hl:∀i σ H,i<=xs.length->z i σ H->SqT K H a xs/\SqL K H b ys)(hs:∀i x y p σ H,xs[i]?=some x->ys[i]?=some y->z i σ H->H p=none->g (.ref p) σ (upd H p (.tup [x,y])) λO H2=>tb { D with nx:=z (i+1),ct:=z (i+1),bk:=D.nx } O H2)(hd:∀σ H,z xs.length σ H->D.nx σ H):aA (kh K a b) g tb D σ H:=by
 refine ⟨λi m σ H=>m=xs.length-i/\i<=xs.length/\z i σ H,⟨xs.length,by simp,Ot _,h0⟩,?_⟩;rintro i m σ H ⟨rfl,hi,p⟩;obtain ⟨J,F⟩:=hl i σ H hi p;by_cases G:i<xs.length
 .refine .inr ⟨⟨xs,ys,xs[i],ys[i]'(by lia),J,F,by simp [G],by simp [W ▸ G]⟩,z (i+1),λZ H' S=>⟨xs.length-(i+1),by lia,rfl,G,S⟩,λv H' y=>?_⟩;obtain ⟨T,x,y,U,rfl,rfl,hx,hy⟩:=y;exact hs i x y T σ _ (hx xs J) (hy ys F) p U
 .have e:i=xs.length:=by lia
  subst e;exact .inl ⟨⟨xs,ys,J,F,Nq _⟩,hd σ H p⟩
end
def tx(l:List Nat):Str:=⟨l.toArray⟩
def sg(z:Str):List Nat:=z.cps.toList
theorem cE(l:List Nat):sg (tx l)=l:=by simp [sg,tx]
theorem i5(z:Str):tx (sg z)=z:=by cases z;simp [sg,tx]
theorem lT(h:sg a=sg b):a=b:=by rw [<- i5 a,h,i5]
theorem dj(a b:Str):sg (a++b)=sg a++sg b:=by simp [sg,Str.cps_append]
theorem ae(z:Str):(sg z).length=z.length:=by simp [sg,Str.length]
theorem nG(l:List Nat):(tx l).length=l.length:=by simp [tx,Str.length]
def c1(c:Nat):Str:=⟨#[c]⟩
theorem jC:StrLaws.At x (c1 c) x.length i↔(sg x)[i]?=some c:=by
 unfold StrLaws.At;rw [StrLaws.subAt_eq];show i+1<=x.length/\((((sg x).drop i).take 1)==[c])=true↔_;rw [<- ae x];constructor
 .rintro ⟨h1,h2⟩;have h2:=eq_of_beq h2;rw [p8 (by lia)];have h3:((sg x).drop i).take 1=[(sg x)[i]'(by lia)]:=by
   rw [Pw (by lia)];rfl
  rw [h3] at h2;injection h2 with h2 _
  rw [h2]
 .intro h;obtain ⟨h1,h2⟩:=Nt.mp h;refine ⟨by lia,?_⟩;rw [Pw h1,h2];simp
theorem CN(y:Str)(c:Nat):(!(NN.Str.occurrences y ⟨#[c]⟩ 0 y.length 1).isEmpty)=(sg y).contains c:=by
 rcases StrLaws.occ_head y (c1 c) 1 (Nq _) with ⟨h,hn⟩|⟨i,r,h,ha,_⟩
 .rw [show NN.Str.occurrences y ⟨#[c]⟩ 0 y.length 1=[] from h];symm;show (sg y).contains c=false;rw [Qm];intro hc;obtain ⟨i,hi,e⟩:=Ov (P0.mp hc);exact hn i (jC.mpr (by rw [p8 hi,e]))
 .rw [show NN.Str.occurrences y ⟨#[c]⟩ 0 y.length 1=i::r from h];symm;exact P0.mpr (NM (jC.mp ha))
def aH(c:Nat):List Nat->List (List Nat)
 | []=>[[]]
 | x::t=>if x=c then []::aH c t else match aH c t with
  | []=>[[x]]
  | h::r=>(x::h)::r
def fA(p:List Nat):List (List Nat)->List (List Nat)
 | []=>[p]
 | h::r=>(p++h)::r
theorem gP(c:Nat):∀l,∃h r,aH c l=h::r
 | []=>⟨_,_,rfl⟩
 | x::t=>by
  unfold aH;split
  .exact ⟨_,_,rfl⟩
  .obtain ⟨h,r,e⟩:=gP c t;rw [e];exact ⟨_,_,rfl⟩
theorem iP(c x:Nat)(t:List Nat)(h:x≠c):aH c (x::t)=fA [x] (aH c t):=by
 obtain ⟨a,r,e⟩:=gP c t;show (if x=c then _ else _)=_;rw [if_neg h,e];rfl
theorem Hw(p q:List Nat)(l:List (List Nat)):fA p (fA q l)=fA (p++q) l:=by
 cases l<;>simp [fA]
theorem lX(s:Str)(c hi z:Nat):∀(l:List Nat)(st:Array Nat×Nat),(∀i∈l,st.2<=i)->l.Pairwise (· < ·)->st.1.size+l.length<=z ->
  (forIn l st (StrLaws.occBody s (c1 c) hi z)).run.fst.toList=st.1.toList++l.filter λi=>decide (i+1<=hi)&&NN.Str.subAt s (c1 c) i
 | [],st,_,_,_=>by simp
 | a::l,st,h1,h2,h3=>by
  rw [SB];unfold StrLaws.occBody;have ha:=h1 a (NX ..);rw [OJ] at h2;simp only [Oy] at h3;split
  .rename_i hc;have G:=lX s c hi z l (st.1.push a,a+(c1 c).length) (λi hi=>by have:=h2.1 i hi;show a+1<=i;lia) h2.2 (by simp;lia);have F:(decide (a+1<=hi)&&NN.Str.subAt s (c1 c) a)=true:=by rw [Oc];exact ⟨decide_eq_true hc.1.2,hc.2⟩
   rw [QD,F,if_pos rfl];refine Eq.trans G ?_;simp
  .rename_i hc;have G:=lX s c hi z l st (λi hi=>h1 i (ND _ hi)) h2.2 (by lia);have F:(decide (a+1<=hi)&&NN.Str.subAt s (c1 c) a)=false:=by
    rw [Qm];intro h;rw [Oc] at h;exact hc ⟨⟨⟨by lia,ha⟩,of_decide_eq_true h.1⟩,h.2⟩
   rw [QD,F,if_neg (by simp)];exact G
theorem tf(x:Str)(c:Nat):NN.Str.occurrences x (c1 c) 0 x.length (x.length+1)=(range' 0 (x.length+1)).filter λi=>(sg x)[i]? == some c:=by
 rw [StrLaws.occ_eq];rw [lX x c x.length (x.length+1) _ _ (λ_ _=>Ot _) (List.pairwise_lt_range' (s:=0) (n:=x.length+1-0)) (by simp)];simp only [Sx,Nat.sub_zero];refine List.filter_congr λi _=>?_;rw [Qu];have:=jC (x:=x) (c:=c) (i:=i);unfold StrLaws.At at this;rw [Oc,decide_eq_true_eq,beq_iff_eq];exact this
theorem oh(x:Str)(c:Nat):∀(k a i:Nat),i+k=x.length->a<=i->StrLaws.partsFrom x 1 a ((range' i (k+1)).filter λi=>(sg x)[i]? == some c)=(fA (((sg x).drop a).take (i-a)) (aH c ((sg x).drop i))).map tx
 | 0,a,i,h,ha=>by
  have hl:=ae x;have J:(sg x)[i]?=none:=Pf (by lia);have O:(sg x).drop i=[]:=Rc (by lia);have F:(range' i (0+1)).filter (λi=>(sg x)[i]? == some c)=[]:=by
   show List.filter _ [i]=[];rw [QD,J];rfl
  rw [O,F];show [NN.Str.strSub x a x.length]=[tx _];refine congrArg (·::[]) (lT ?_);rw [cE];show (NN.Str.strSub x a x.length).cps.toList=_;rw [StrLaws.strSub_toList,show x.length=i by lia];simp [aH,sg]
 | k+1,a,i,h,ha=>by
  have hl:=ae x;have hi:i<(sg x).length:=by lia
  have z:(sg x)[i]?=some ((sg x)[i]):=p8 hi;have U:(sg x).drop i=(sg x)[i]::(sg x).drop (i+1):=Pw hi;rw [List.range'_succ,QD,z,U];by_cases hc:(sg x)[i]=c
  .rw [if_pos (by simp [hc])];have W:=oh x c k (i+1) (i+1) (by lia) (Nq _);show NN.Str.strSub x a i::StrLaws.partsFrom x 1 (i+1) _=_;rw [W];have G:aH c ((sg x)[i]::(sg x).drop (i+1))=[]::aH c ((sg x).drop (i+1)):=by
    show (if _=c then _ else _)=_;rw [if_pos hc]
   rw [G];obtain ⟨p,r,e⟩:=gP c ((sg x).drop (i+1));rw [e];simp only [Nat.sub_self,List.take_zero,fA,Sx,O8,Om];refine congrArg (·::_) (lT ?_);rw [cE];exact StrLaws.strSub_toList x a i
  .rw [if_neg (by simp [hc])];rw [oh x c k a (i+1) (by lia) (by lia),iP c _ _ hc,Hw];have S:((sg x).drop a).take (i+1-a)=((sg x).drop a).take (i-a)++[(sg x)[i]]:=by
    rw [show i+1-a=(i-a)+1 by lia,Oe];congr 1;rw [List.getElem?_drop,show a+(i-a)=i by lia,z];rfl
   rw [S]
theorem v7:∀{l:List Nat},c∉l->aH c l=[l]
 | [],_=>rfl
 | x::t,h=>by
  rw [Nw,not_or] at h;rw [iP c x t (NO h.1),v7 h.2];rfl
theorem vN(x:Str)(hc:c<128):Oz x (c1 c)=(aH c (sg x)).map tx:=by
 have J:NN.Str.strKind (c1 c)=1:=by
  unfold NN.Str.strKind;rw [if_pos];show (#[c]:Array Nat).all (· < 256)=true;simp;lia
 have F : ¬ NN.Str.strKind x<NN.Str.strKind (c1 c):=by
  rw [J];unfold NN.Str.strKind;split<;>(try split)<;>lia
 have z:c∉sg x->[x]=(aH c (sg x)).map tx:=λh=>by rw [v7 h];show [x]=[tx (sg x)];rw [i5]
 unfold Oz;split
 .rename_i h;rw [decide_eq_false F,QQ,decide_eq_true_eq] at h;have h:x.length<1:=h;rw [<- ae] at h;refine z ?_;have G:sg x=[]:=RB (by lia);rw [G];exact NH
 .split
  .rename_i h;refine z λhm=>?_;obtain ⟨i,hi,e⟩:=Ov hm;rw [tf] at h;have:i∈(range' 0 (x.length+1)).filter λi=>(sg x)[i]? == some c:=by
    rw [RR];refine ⟨?_,by rw [p8 hi,e];simp⟩;rw [List.mem_range'_1];rw [ae] at hi;lia
   rw [List.isEmpty_iff.mp h] at this;exact absurd this NH
  .rw [StrLaws.partsBetween_eq,tf];show StrLaws.partsFrom x 1 0 _=_;rw [oh x c x.length 0 0 (by lia) (Nq _)];simp only [Nat.sub_self,List.take_zero,SO];obtain ⟨h,r,e⟩:=gP c (sg x);rw [e];rfl
theorem mJ:∀(w:List Nat)(ws:List (List Nat)),(∀v∈w::ws,c∉v)->aH c (w++(ws.map (c::·)).flatten)=w::ws
 | [],[],_=>rfl
 | [],v::ws,h=>by
  have F:=mJ v ws λu z=>h u (ND _ z);show aH c (c::(v++(ws.map (c::·)).flatten))=_;show (if c=c then _ else _)=_;rw [if_pos rfl,F]
 | x::w,ws,h=>by
  have hx:=h _ (NX ..);rw [Nw,not_or] at hx;have F:=mJ w ws λu z=>by
   rcases Nw.mp z with rfl|z
   .exact hx.2
   .exact h u (ND _ z)
  show aH c (x::(w++(ws.map (c::·)).flatten))=_;rw [iP c x _ (NO hx.1),F];rfl
theorem mY(x:Str)(c hi:Nat):∀(l:List Nat)(st:Option Nat),(forIn l st (λi r=>if (decide (i+(c1 c).length<=hi)&&NN.Str.subAt x (c1 c) i)=true then (pure (ForInStep.yield (some i)):Id _) else pure (ForInStep.yield r))).run =
  l.foldl (λZJ i=>if (decide (i+1<=hi)&&NN.Str.subAt x (c1 c) i)=true then some i else ZJ) st
 | [],st=>rfl
 | a::l,st=>by
  rw [SB,SC];show _=l.foldl _ (if (decide (a+(c1 c).length<=hi)&&NN.Str.subAt x (c1 c) a)=true then some a else st);split
  .exact mY x c hi l _
  .exact mY x c hi l _
theorem wc(x:Str)(c:Nat):NN.Str.lastOccurrence x (c1 c) 0 x.length=(range' 0 (x.length+1)).foldl (λZJ i=>if (sg x)[i]?=some c then some i else ZJ) none:=by
 have e:NN.Str.lastOccurrence x (c1 c) 0 x.length=(forIn (range' 0 (x.length+1)) none (λi r=>if (decide (i+(c1 c).length<=x.length)&&NN.Str.subAt x (c1 c) i)=true then (pure (ForInStep.yield (some i)):Id _) else pure (ForInStep.yield r))).run:=by
  unfold NN.Str.lastOccurrence;simp
 rw [e,mY];congr 1;funext ZJ i;have:=jC (x:=x) (c:=c) (i:=i);unfold StrLaws.At at this;by_cases h:(sg x)[i]?=some c
 .rw [if_pos h,if_pos];rw [Oc,decide_eq_true_eq];exact this.mpr h
 .rw [if_neg h,if_neg];intro q;rw [Oc,decide_eq_true_eq] at q;exact h (this.mp q)
theorem oj{p:Nat->Prop} [DecidablePred p]:∀(l:List Nat)(a:Option Nat),(∀i∈l,¬ p i)->l.foldl (λZJ i=>if p i then some i else ZJ) a=a
 | [],_,_=>rfl
 | x::l,a,h=>by
  rw [SC,if_neg (h x (NX ..))];exact oj l a λi hi=>h i (ND _ hi)
theorem J9(h:sg x=a++c::b)(hb:c∉b):QV x (c1 c)=a.length:=by
 have hl:x.length=a.length+(b.length+1):=by rw [<- ae,h];simp
 have e:NN.Str.lastOccurrence x (c1 c) 0 x.length=some a.length:=by
  rw [wc,show x.length+1=a.length+((b.length+1)+1) by lia,<- List.range'_append_1,SD,List.range'_succ,SC];rw [if_pos (by rw [h];simp),Nat.zero_add];refine oj (p:=λi=>(sg x)[i]?=some c) _ _ λi hi=>?_;rw [List.mem_range'_1] at hi;intro q;rw [h,Pa (by lia)] at q;obtain ⟨j,z⟩:∃j,i-a.length=j+1:=⟨i-a.length-1,by lia⟩;rw [z,List.getElem?_cons_succ] at q;exact hb (NM q)
 show (match NN.Str.lastOccurrence x (c1 c) 0 x.length with|some i=>(i:Int)|none=>-1)=_;rw [e]
theorem G5(h:c∉sg x):QV x (c1 c) = -1:=by
 have e:NN.Str.lastOccurrence x (c1 c) 0 x.length=none:=by
  rw [wc];exact oj (p:=λi=>(sg x)[i]?=some c) _ _ λi _ q=>h (NM q)
 show (match NN.Str.lastOccurrence x (c1 c) 0 x.length with|some i=>(i:Int)|none=>-1)=_;rw [e]
theorem j8(h:j<=(sg x).length):OV x none (some (j:Int))=tx ((sg x).take j):=by
 have e:=StrLaws.sliceText_to (x:=x) (j:=(j:Int)) ⟨by lia,by simpa [sg] using h⟩;refine Eq.trans (show OV x none (some (j:Int))=StrLaws.sliceText x none (some (j:Int)) from rfl) (e.trans ?_);show tx _=tx _;simp [sg]
theorem xx(h:0<(sg x).length):OV x none (some (-1))=tx ((sg x).dropLast):=by
 rw [ae] at h;have e:=StrLaws.sliceText_to_neg (x:=x) (j:=-1) (by lia) (by lia);refine Eq.trans (show OV x none (some (-1))=StrLaws.sliceText x none (some (-1)) from rfl) (e.trans ?_);show tx _=tx _;rw [List.dropLast_eq_take,ae,SO,show (-1+(x.length:Int)-0).toNat=x.length-1 by lia];rfl
theorem iU(m:Nat):sg (toString ((m:Nat):Int):Str)=(SJ 10 m).map Char.toNat:=PySem.W.KIN.signs_num m
section
variable {X:Cx}{tg:N0}
def nJ(K:Nu)(tl:TE):TI:=λσ H R=>tl σ H λx H1=>uR x λa=>(∃xs,SqL K H1 a xs/\R (Itl K a) H1)\/∃xs,SqT K H1 a xs/\R (Itt K a) H1
theorem Bo{K:Nu}:nJ K tl σ H R=tl σ H λx H1=>uR x λa=>(∃xs,SqL K H1 a xs/\R (Itl K a) H1)\/∃xs,SqT K H1 a xs/\R (Itt K a) H1:=rfl
theorem Dw(hl:PE X l tl):PIc true X tg l (nJ X.K tl):=by
 intro Go s σ H R I h;refine thn (hl Go s σ H _ I h) λv s1=>x5e λx H1 z O F=>?_;obtain ⟨a,e,F⟩:=F;subst e;cases O;rcases F with ⟨xs,G,q⟩|⟨xs,G,q⟩
 .obtain ⟨its,J,p,S⟩:=z.list G;refine Pk p.isList ⟨s1.heap.objs.size,[s1.heap.objs.size],_,_,H1,rfl,z.kept (t':=s1.toks) λb o e=>zv _ e,jW a _,⟨_,NK _ rfl,rfl,rfl⟩,λb hb=>?_,q⟩;have e:b=s1.heap.objs.size:=by simpa using hb
  subst e;exact z.Tz (Nq _) (z.hok.fresh (Nq _))
 .obtain ⟨its,J,p,S⟩:=z.tuple G;refine wpAny_pyIter_tuple (show s1.heap.IsTuple a its.toArray from p) ⟨s1.heap.objs.size,[s1.heap.objs.size],_,_,H1,rfl,z.kept (t':=s1.toks) λb o e=>zv _ e,HV a _,⟨_,NK _ rfl,rfl,rfl⟩,λb hb=>?_,q⟩;have e:b=s1.heap.objs.size:=by simpa using hb
  subst e;exact z.Tz (Nq _) (z.hok.fresh (Nq _))
theorem Eh(hl:W (PE X l tl)):W (PIc true X tg l (nJ X.K tl)):=⟨Dw hl.h⟩
end
section
variable {K:Nu}{g:TG}{tt:TT}{te:TE}{H:Hp}{Q:VK}{R:It->Hp->Prop}
theorem zT.tup{a:Addr}{xs:List V}{τ:St}(F:Nat->St->List V->Hp->Prop)(S:∀i τ ys H,F i τ ys H->ys.length<sizeLine)(ha:∀i τ ys H,F i τ ys H->SqT K H a xs)(U:F 0 τ [] H)
  (hs:∀(N:St->List V->Hp->Prop) i x τ ys H,xs[i]?=some x->F i τ ys H->(∀τ ys H,F (i+1) τ ys H->N τ ys H)->g x τ H λz H4=>tt z H4 λok H5=>dD N ys z te ok H5) (hd:∀τ ys H,F xs.length τ ys H->∀D H',New H D (.lst ys) H'->Q (.ref D) H'):zT (Itt K a) g tt te τ H Q:=by
 refine ⟨λi m τ ys H=>m=xs.length-i/\i<=xs.length/\F i τ ys H,⟨xs.length,by simp,Ot _,U⟩,?_⟩;rintro i m τ ys H2 ⟨rfl,hi,p⟩;refine ⟨S i τ ys H2 p,?_⟩;have q:=ha i τ ys H2 p;by_cases J:i<xs.length
 .refine .inr ⟨⟨xs,xs[i],q,by simp [J]⟩,λx H' y=>?_⟩;obtain ⟨e,y⟩:=y;subst e;exact hs (λz ys H=>∃G,G<xs.length-i/\G=xs.length-(i+1)/\i+1<=xs.length/\F (i+1) z ys H) i x τ ys _ (y xs q) p λz zs H q=>⟨xs.length-(i+1),by lia,rfl,J,q⟩
 .have e:i=xs.length:=by lia
  subst e;exact .inl ⟨⟨xs,q,Nq _⟩,λD O _=>hd τ ys H2 p D _ (.mk' O)⟩
theorem BK{H:Hp}{Q:VK}:dZ c (.ref a) .non H Q=Q (.bl (if c then true else false)) H:=by simp [dZ]
theorem EY{H:Hp}{Q:VK}:dZ c (.str a) .non H Q=Q (.bl (if c then true else false)) H:=by simp [dZ]
theorem bT(z:Str):asc z=(sg z).all (· < 128):=by simp [asc,sg]
end
def uv(h:Heap)(e:Addr):Prop:=∃oe vs T,h.get? e=some oe/\oe.data = .fields vs/\vs[1]?=some (Ny T)
section
variable {M:Model}{A:NP}{E:Value->we->Prop}{s:we}{B:Heap}{env:Env}{outer l:List Env}{L e:Addr}{cls fl:Value}
theorem yC(Z:A.frames=some (env::outer))(hf:env.frame=some L)(st:B.StaysIn s.heap)(hn:B.get? e=none)(hl:s.heap.FunFrames B (env::outer))(he:s.heap.get? e=some oe)(hc:oe.cls=cls)(X3:oe.dict=none)(hd:oe.data = .fields vs)(hz:2<vs.size)(h2:vs[2]?=some .none)(k:∀h',bu B (env::outer) e cls (OE L) h'->uv h' e->s.heap.UpToSlots h'->Q () { s with heap:=h' }):
  NF M A (do let a<-frameOf env;let pl<-entryPlaceOf L J;let b<-EntryCells.newEntry head a .none (OE L) .none pl;setField (.ref e) 1 b) Q E s:=by
 have O:e∉(env::outer).filterMap (·.frame):=λz=>by
  obtain ⟨_,o,ho,F⟩:=hl.mem z;rw [he] at ho;cases ho;exact F vs hd
 refine fv (wpAny_frameOf_fun Z hl hf λg only=>?_);obtain ⟨_,same,slots⟩:=only;refine fv (wpAny_entryPlaceOf λpl Yr=>?_);have key:∀(tb:Obj)(ts:Array Value),tb.data = .fields ts->ts[3]?=some (OE L)->NF M A (setField (.ref e) 1 (.ref g.objs.size)) Q E { s with heap:=g.push tb }:=by
  intro tb ts td t3;have U:g.get? e=some oe:=(same e O).trans he;have G:(g.push tb).get? e=some oe:=zv _ U;have hT:(g.push tb).get? g.objs.size=some tb:=NK _ (by rw [OX td]);have S:g.objs.size≠e:=Qs (NR U);have fresh:B.get? g.objs.size=none:=by
   cases q:B.get? g.objs.size with
   | none=>rfl
   | some o =>
    obtain ⟨sl,z⟩:=slots _ o (st _ o q);exact absurd (NR z) (Od _)
  have up:∀b o,b≠e->g.get? b=some o->((g.push tb).update e (Sj (·.setIfInBounds 1 (.ref g.objs.size)))).get? b=some o:=λb o hb q =>
   (NS _ _ (NO hb)).trans (zv _ q)
  have W:∀b o,s.heap.get? b=some o->(∀ws,o.data≠.fields ws)->b≠e:=λb o q F z=>by
   rw [z,he] at q;cases q;exact F vs hd
  have dd:=PZ hd (·.setIfInBounds 1 (Ny g.objs.size));refine OY G hd (by lia) (k _ ⟨λb o q=>?_,hn,?_,?_⟩ ⟨_,_,g.objs.size,OF _ G (OX dd),dd,by rw [Oq (by lia)]⟩ λb o q F=>?_)
  .refine up b o (λz=>by rw [z,hn] at q;cases q) ((same b λz=>?_).trans (st b o q));rw [(hl.mem z).1] at q;cases q
  .refine hl.of_keeps λb o q F=>?_;obtain ⟨sl,z⟩:=slots b o q;exact ⟨_,up b _ (W b o q F) z,rfl⟩
  .refine ⟨_,_,OF _ G (OX dd),(Rb _ _).trans hc,(y8 _ _).trans X3,dd,by simpa using hz,by rw [Re (by decide)];exact h2,.inr ⟨g.objs.size,tb,ts,?_,fresh,S,?_,td,t3⟩⟩
   .rw [Oq (by lia)]
   .rw [NS _ _ (NO S)];exact hT
  .obtain ⟨sl,z⟩:=slots b o q;exact ⟨sl,up b _ (W b o q F) z⟩
 unfold EntryCells.newEntry newFields;refine fv (Ou ?_ (Yr.sizeOk5 _ _ _ _ _));exact key _ _ rfl (by simp)
theorem Jr(YL:A.frames=some (env::outer))(hf:env.frame=some L)(x:bu B (env::outer) e cls fl s.heap)(k:∀h',bu B (env::outer) e cls (OE L) h'->uv h' e->s.heap.UpToSlots h'->Q () { s with heap:=h' }):NF M A (Sh (.ref e) env) Q E s:=by
 obtain ⟨st,hn,hl,oe,vs,he,hc,U,hd,O,h2,h1⟩:=x;unfold Sh;simp only [hf];rcases h1 with h1|⟨T,oT,ts,h1,W,Te,J,dT,S⟩
 .refine fv (N4 he hd h1 ?_);rw [if_neg (show ¬ ((N7 != N7)=true) by decide)];exact yC YL hf st hn hl he hc U hd O h2 k
 .refine fv (N4 he hd h1 ?_);rw [if_pos (show (Ny T != N7)=true by simp)];refine fv (N4 J dT S ?_);by_cases G:fl=OE L
  .subst G;rw [if_pos (show (OE L==OE L)=true by simp)];exact Nv (k s.heap ⟨st,hn,hl,oe,vs,he,hc,U,hd,O,h2,.inr ⟨T,oT,ts,h1,W,Te,J,dT,S⟩⟩ ⟨oe,vs,T,he,hd,h1⟩ (UpToSlots.refl _))
  .rw [if_neg (show ¬ ((fl==OE L)=true) by simpa using G)];refine fv (OY J dT (OP.mp S).1 ?_);have oth:∀b,b≠T->(s.heap.update T (Sj (·.setIfInBounds 3 N7))).get? b=s.heap.get? b:=λb hb=>NS _ _ (NO hb);have Z:∀b o,s.heap.get? b=some o->(∀ws,o.data≠.fields ws)->b≠T:=λb o q F z=>by
    rw [z,J] at q;cases q;exact F ts dT
   refine yC (B:=B) (cls:=cls) YL hf (λb o q=>?_) hn (hl.of_keeps λb o q F=>⟨o,(oth b (Z b o q F)).trans q,rfl⟩) ((oth e (NO Te)).trans he) hc U hd O h2 λh' y ht up=>k h' y ht λb o q F=>up b o ((oth b (Z b o q F)).trans q) F;exact (oth b λz=>by rw [z,W] at q;cases q).trans (st b o q)
theorem EH(x:bu B l e cls fl s.heap)(k:∀h',bu B l e cls (OE L) h'->s.heap.UpToSlots h'->Q () { s with heap:=h' }):NF M A (setFlight (.ref e) (some L)) Q E s:=by
 obtain ⟨st,hn,hl,oe,vs,he,hc,Z,hd,W,h2,h1⟩:=x;unfold setFlight;rcases h1 with h1|⟨T,oT,ts,h1,O,U,J,dT,t3⟩
 .refine fv (N4 he hd h1 ?_);rw [if_neg (show ¬ ((N7 != N7)=true) by decide)];exact Nv (k s.heap ⟨st,hn,hl,oe,vs,he,hc,Z,hd,W,h2,.inl h1⟩ (UpToSlots.refl _))
 .refine fv (N4 he hd h1 ?_);rw [if_pos (show (Ny T != N7)=true by simp)];have G:3<ts.size:=(OP.mp t3).1;have dd:=PZ dT (·.setIfInBounds 3 (OE L));have oth:∀b,b≠T->(s.heap.update T (Sj (·.setIfInBounds 3 (OE L)))).get? b=s.heap.get? b:=λb hb=>NS _ _ (NO hb);have S:∀b o,s.heap.get? b=some o->(∀ws,o.data≠.fields ws)->b≠T:=λb o q F z=>by
   rw [z,J] at q;cases q;exact F ts dT
  refine OY J dT G (k _ ⟨λb o q=>(oth b λz=>by rw [z,O] at q;cases q).trans (st b o q),hn,hl.of_keeps λb o q F=>⟨o,(oth b (S b o q F)).trans q,rfl⟩,oe,vs,(oth e (NO U)).trans he,hc,Z,hd,W,h2,
   .inr ⟨T,_,_,h1,O,U,OF _ J (OX dd),dd,?_⟩⟩ λb o q F=>⟨o.slots,(oth b (S b o q F)).trans q⟩)
  rw [Oq G]
end
def xp(X:Cx)(Ex:Addr->St->Hp->Prop):Value->we->Prop:=λe s'=>∃(ea C:Addr)(B:Heap)(H':Hp)(fl:Value)(σ:St)(z:we)(Go:List (Addr×Obj)),e = .ref ea/\Inv X Go σ H' z/\bu B X.stack ea (.ref C) fl s'.heap /\
 s'.os=z.os/\Qz s'.gens/\(∀b o,z.heap.get? b=some o->b∉frs X.stack->B.get? b=some o)/\z.heap.UpToSlots s'.heap/\Ex C σ H'
abbrev cxF(X:Cx)(Ex:Addr->St->Hp->Prop):Cx:=X.Tc (xp X Ex)
theorem CP:bQ (cxF X Ex) Ex:=λps σ H z ea C B fl s' I y os bare F up q =>
 ⟨ea,C,B,H,fl,σ,z,ps,rfl,I.y0,y,os,bare,F,up,q⟩
theorem Cg(hst:X.stack=X.env::X.outer)(G:X.Ok->X.A.frames=some (X.env::X.outer))(z:X.env.frame=some L):OW (NL X.prog X.w) X.A X.env (xp X Ex):=by
 rintro e s' ⟨ea,C,B,H',fl,σ,Z,Go,rfl,I,y,os,bare,W,up,q⟩;have fr:=G I.ok;rw [hst] at y;refine Jr fr z y λh1 U S u1=>?_;obtain ⟨oe,vs,T,g1,O,J⟩:=S;refine fv (N4 g1 O J ?_);rw [if_neg (show ¬ ((Ny T==N7)=true) by simp)];rw [z];refine EH (s:={ s' with heap:=h1 }) U λh2 F u2=>?_;rw [<- hst] at F;exact ⟨ea,C,B,H',_,σ,Z,Go,rfl,I,F,os,bare,W,(up.trans u1).trans u2,q⟩
theorem PS.bF{st:Stmt}{t:TS}(T:bQ X Ex)(h:PS (cxF X Ex) st t):PS X st t:=λGo s σ H D I F =>
 OG (h Go s σ H D (I.Tc _) F) (λ_ _ q=>q.y0) <| by
  rintro e s' ⟨ea,C,B,H',fl,z,J,ps,he,O,y,os,bare,G,up,q⟩;subst he;exact T ps z H' J ea C B fl s' O y os bare G up q
theorem G1{st:Stmt}{t:TS}(T:bQ X Ex)(h:W (PS (cxF X Ex) st t)):W (PS X st t):=⟨PS.bF T h.h⟩
section
variable {X:Cx}
def tN(A:NP):List V->Hp->VK->Prop:=λxs H Q=>Az A xs H Q\/(∃z,xs=[.str z]/\(QG.str z).shown.length<=sizeLine/\Q (.str (QG.str z).shown) H)\/(∃i,xs=[.int i]/\i.natAbs.log2<1920/\Q (.str (toString i)) H) \/
 (∃b:Bool,xs=[.bl b]/\Q (.str (if b then "True" else "False")) H)\/(xs=[.non]/\Q (.str "None") H)
theorem kY(hg:X.A.guards=some []):zM X (.builtin "repr") (tN X.A):=by
 intro Go s σ H xs us Q I r h;rcases h with h|⟨z,rfl,J,q⟩|⟨i,rfl,hi,q⟩|⟨b,rfl,q⟩|⟨rfl,q⟩
 .exact HG hg Go s σ H xs us Q I r h
 .cases r with
  | cons G F =>
   cases F;obtain ⟨t,rfl⟩:=G;have e:(QG.str z).shown=PySem.reprText z:=by simp only [QG.shown]
   rw [e] at J q;exact PySem.P.repr_of_str ⟨.str _,H,I.tok _,⟨_,rfl⟩,q⟩ J
 .cases r with
  | cons G F =>
   cases F;obtain ⟨t,rfl⟩:=G;exact PySem.P.repr_of_int hi ⟨.str _,H,I.tok _,⟨_,rfl⟩,q⟩
 .cases r with
  | cons G F =>
   cases F;cases (show _=Pq b from G);exact PySem.P.repr_of_bool ⟨.str _,H,I.tok _,⟨_,by cases b<;>rfl⟩,q⟩
 .cases r with
  | cons G F =>
   cases F;cases (show _=N7 from G);exact PySem.P.repr_of_none ⟨.str _,H,I.tok _,⟨_,rfl⟩,q⟩
def gH:List V->Hp->VK->Prop:=λxs H Q=>gi xs H Q\/∃b:Bool,xs=[.bl b]/\Q (.str (if b then "True" else "False")) H
theorem FD:zM X (.type "str") gH:=by
 intro Go s σ H xs us Q I r h;rcases h with h|⟨b,rfl,q⟩
 .exact MZ Go s σ H xs us Q I r h
 .cases r with
  | cons F z =>
   cases z;cases (show _=Pq b from F);exact PySem.P.str_of_bool ⟨.str _,H,I.tok _,⟨_,by cases b<;>rfl⟩,q⟩
theorem KP:gH [.int i] H Q=(i.natAbs.log2<1920/\Q (.str (toString i)) H):=by simp [gH,Aw]
theorem Ii:gH [.str z] H Q=Q (.str z) H:=by simp [gH,xc]
theorem Jm:gH [.bl b] H Q=Q (.str (if b then "True" else "False")) H:=by simp [gH,gi,fQ]
end
theorem EV(J:X.N.Nodup)(S:X.N[i0]?=some z)(Xe:Loc X.env.scope z)(hc:c=true->X.calm=true)(L:zU X sc N' ix)(hi:PIc c X tg iter wi)(hg:∀Go C fp s H,PG (zP X sc N' Go C fp s H) tg g)(ht:∀Go C fp s H,PTs (zP X sc N' Go C fp s H) F tt)(he:∀Go C fp s H,PE (zP X sc N' Go C fp s H) XT te)(hs:∀x,O7 iter X.env x=pure x:=by intro _;rfl)(ab:swapsWith (.ListComp XT [⟨tg,iter,F,0⟩] sc pos) (some (.Name z Y3)) Xl.line X.env=pure true:=by rfl)(O:X.fn z=true\/X.env.scope.names.lookup z=some .local:=by first|exact .inl rfl|exact .inr rfl|assumption):
  PS X (.Assign [.Name z Y3] (.ListComp XT [⟨tg,iter,F,0⟩] sc pos) Xl) (iH (tLC ix wi g tt te) (dr i0)):=by
 intro Go s σ H Z I h;rw [exec_Assign_Name_used z Y3 _ Xl ab];refine fv (PN (fv ?_));rw [arm_evalThenUse_ListComp];show NF (NL X.prog X.w) X.A (comprehension (.ListComp XT [⟨tg,iter,F,0⟩] sc pos) sc X.env (firstIterPos [⟨tg,iter,F,0⟩] pos) (newList []) (firstAsync [⟨tg,iter,F,0⟩]) (firstIter [⟨tg,iter,F,0⟩] X.env) (some (assign (.Name z Y3) X.env))>>=λ_=>pure ()) _ _ _;refine fv (xo hc L hi hg ht he hs I h λC D oC H' s5 m5 IX ns tu q=>?_);refine thn (yP J S Xe O (Go++[(C,oC)]) s5 σ H' (.ref D) (.ref D) Z.nx IX rfl q) λ_ s6=>x4e λG H6 I6 q6=>?_;obtain ⟨p6,W,_⟩:=I6.pin (C,oC) (NU _ (NU _ (NG.mpr rfl)));exact ⟨m5,ns p6,λh' U=>Nv (Nv ⟨G,H6,tu (I6.L0 λp hp=>I6.pin p (NU _ (OQ _ hp))) W U,q6⟩)⟩
theorem gF(O:X.N.Nodup)(F:X.N[i0]?=some z)(Z:Loc X.env.scope z)(hc:c=true->X.calm=true)(L:zU X sc N' ix)(hi:W (PIc c X tg iter wi))(hg:∀Go C fp s H,W (PG (zP X sc N' Go C fp s H) tg g))(ht:∀Go C fp s H,W (PTs (zP X sc N' Go C fp s H) S tt))(he:∀Go C fp s H,W (PE (zP X sc N' Go C fp s H) XT te))(hs:∀x,O7 iter X.env x=pure x:=by intro _;rfl)(G:swapsWith (.ListComp XT [⟨tg,iter,S,0⟩] sc pos) (some (.Name z Y3)) U.line X.env=pure true:=by rfl)(J:X.fn z=true\/X.env.scope.names.lookup z=some .local:=by first|exact .inl rfl|exact .inr rfl|assumption):
  W (PS X (.Assign [.Name z Y3] (.ListComp XT [⟨tg,iter,S,0⟩] sc pos) U) (iH (tLC ix wi g tt te) (dr i0))) :=
 ⟨EV O F Z hc L hi.h (λa b c d e=>(hg a b c d e).h) (λa b c d e=>(ht a b c d e).h) (λa b c d e=>(he a b c d e).h) hs G J⟩
section
variable {κ:Type} [DecidableEq κ]
def zZ(kvs:List (κ×V))(k:κ):Option V:=(kvs.find? λz=>decide (z.1=k)).map (·.2)
def aL(kvs:List (κ×V))(k:κ)(v:V):List (κ×V) :=
 if (kvs.any λz=>decide (z.1=k))=true then kvs.map (λz=>if z.1=k then (z.1,v) else z) else kvs++[(k,v)]
def cB(kvs:List (κ×V))(k:κ):List (κ×V):=kvs.filter λz=>decide (z.1≠k)
theorem iG{p:κ×V}{r:List (κ×V)}{k:κ}(e:p.1=k):zZ (p::r) k=some p.2:=by simp [zZ,QX,e]
theorem jk{p:κ×V}{r:List (κ×V)}{k:κ}(e : ¬ p.1=k):zZ (p::r) k=zZ r k:=by simp [zZ,QX,e]
theorem nC(k:κ):∀kvs:List (κ×V),(kvs.any λz=>decide (z.1=k))=(zZ kvs k).isSome
 | []=>rfl
 | p::r=>by
  rw [Rx];by_cases e:p.1=k
  .simp only [iG e,decide_eq_true e,Bool.true_or,isSome_some]
  .rw [jk e,decide_eq_false e,Bool.false_or];exact nC k r
theorem xQ(kvs:List (κ×V))(k:κ)(v:V):(aL kvs k v).length<=kvs.length+1:=by
 unfold aL;split
 .rw [KE];lia
 .rw [NY,Oy,PU];lia
theorem bH.L4{o:Option V}(r:bH o u):o.isSome=u.isSome:=by
 cases o with
 | none=>cases u with
  | none=>rfl
  | some _=>exact (show False from r).elim
 | some _=>cases u with
  | none=>exact (show False from r).elim
  | some _=>rfl
theorem bH.getD{o:Option V}(r:bH o u)(z:zo d d'):zo (o.getD d) (u.getD d'):=by
 cases o with
 | none=>cases u with
  | none=>exact z
  | some _=>exact (show False from r).elim
 | some _=>cases u with
  | none=>exact (show False from r).elim
  | some _=>exact r
theorem KV.val(r:KV kvs vs)(k:κ):bH (zZ kvs k) (valueAt vs k):=by
 unfold KV at r
 induction r with
 | nil=>exact True.intro
 | @cons p q ps F h t J =>
  obtain ⟨h1,h2⟩:=h;by_cases e:p.1=k
  .have G:q.1=k:=h1.symm.trans e;have b:valueAt (q::F) k=some q.2:=by simp [valueAt,QX,G]
   rw [iG e,b];exact h2
  .have G : ¬ q.1=k:=λz=>e (h1.trans z);have b:valueAt (q::F) k=valueAt F k:=by simp [valueAt,QX,G]
   rw [jk e,b];exact J
theorem KV.any(r:KV kvs vs)(k:κ):(kvs.any λz=>decide (z.1=k))=vs.any λz=>decide (z.1=k):=by
 unfold KV at r
 induction r with
 | nil=>rfl
 | cons h t F=>rw [Rx,Rx,F,h.1]
theorem KV.aJ(r:KV kvs vs)(k:κ)(G:zo y u):
  KV (kvs.map λF=>if F.1=k then (F.1,y) else F) (vs.map λF=>if F.1=k then (F.1,u) else F):=by
 unfold KV at r ⊢
 induction r with
 | nil=>exact .nil
 | @cons p q ps O h t J =>
  rw [Om,Om];refine .cons ?_ J;obtain ⟨h1,h2⟩:=h;by_cases e:p.1=k
  .rw [if_pos e,if_pos (h1.symm.trans e)];exact ⟨h1,G⟩
  .rw [if_neg e,if_neg (λz=>e (h1.trans z))];exact ⟨h1,h2⟩
theorem KV.put(r:KV kvs vs)(k:κ)(z:zo y u):KV (aL kvs k y) (stored vs k u):=by
 unfold aL stored;rw [r.any k];by_cases e:(vs.any λF=>decide (F.1=k))=true
 .rw [if_pos e,if_pos e];exact r.aJ k z
 .rw [if_neg e,if_neg e];exact Paired.snoc r ⟨rfl,z⟩
theorem KV.drop(r:KV kvs vs)(k:κ):KV (cB kvs k) (without vs k):=by
 unfold KV at r ⊢;unfold cB without
 induction r with
 | nil=>exact .nil
 | @cons p q ps J h t F =>
  obtain ⟨h1,h2⟩:=h;rw [QD,QD];by_cases e:p.1=k
  .have a : ¬ decide (p.1≠k)=true:=by simp [e]
   have b : ¬ decide (q.1≠k)=true:=by simp [h1.symm.trans e]
   rw [if_neg a,if_neg b];exact F
  .have G : ¬ q.1=k:=λz=>e (h1.trans z);have a:decide (p.1≠k)=true:=by simp [e]
   have b:decide (q.1≠k)=true:=by simp [G]
   rw [if_pos a,if_pos b];exact .cons ⟨h1,h2⟩ F
theorem KV.length{kvs:List (κ×V)}{vs:List (κ×Value)}(r:KV kvs vs):kvs.length=vs.length:=Paired.length r
theorem FX(kvs:List (κ×V))(k:κ):(cB kvs k).length<=kvs.length:=Rf _ _
end
theorem fk{k:Key}(r:zo (kV k) u):(aB P w).is k u=true:=by
 cases k with
 | inl i=>obtain ⟨t,e⟩:=(show ∃t,u=PB i t from r);subst e;exact IV P w i t
 | inr x=>obtain ⟨t,e⟩:=(show ∃t,u=RL x t from r);subst e;exact kI P w x t
theorem tU:∀{ks:List Key}{us:List Value},zp (ks.map kV) us->ItemsAre (aB P w) ks us
 | [],_,r=>by rw [map_nil] at r;cases r;exact .nil
 | k::ks,_,r=>by
  rw [Om] at r;cases r with
  | cons h t=>exact .cons (fk h) (tU t)
abbrev KT(H:Hp):List (List Key×V)->List (List Key×Addr×Value)->Prop:=Paired λp q=>p.1=q.1/\H q.2.1=some (.tup (p.1.map kV))/\zo p.2 q.2.2
theorem KT.val(r:KT H kvs xs)(k:List Key):bH (zZ kvs k) ((atKey xs k).map (·.2)):=by
 induction r with
 | nil=>exact True.intro
 | @cons p q ps F h t J =>
  obtain ⟨h1,_,h2⟩:=h;by_cases e:p.1=k
  .have G:q.1=k:=h1.symm.trans e;have b:atKey (q::F) k=some q.2:=by simp [atKey,QX,G]
   rw [iG e,b];exact h2
  .have G : ¬ q.1=k:=λz=>e (h1.trans z);have b:atKey (q::F) k=atKey F k:=by simp [atKey,QX,G]
   rw [jk e,b];exact J
theorem KT.aJ(r:KT H kvs xs)(k:List Key)(G:zo y u):
  KT H (kvs.map λF=>if F.1=k then (F.1,y) else F) (xs.map (putAt k u)):=by
 induction r with
 | nil=>exact .nil
 | @cons p q ps O h t J =>
  rw [Om,Om];refine .cons ?_ J;obtain ⟨h1,h2,h3⟩:=h;unfold putAt;by_cases e:p.1=k
  .rw [if_pos e,if_pos (h1.symm.trans e)];exact ⟨h1,h2,G⟩
  .rw [if_neg e,if_neg (λz=>e (h1.trans z))];exact ⟨h1,h2,h3⟩
theorem KT.put(r:KT H kvs xs)(k:List Key)(hb:H b=some (.tup (k.map kV)))(z:zo y u):
  KT H (aL kvs k y) (storedH xs k b u):=by
 have e:(kvs.any λF=>decide (F.1=k))=(atKey xs k).isSome:=by
  rw [nC,(r.val k).L4,isSome_map]
 unfold aL storedH;rw [e];by_cases q:(atKey xs k).isSome=true
 .rw [if_pos q,if_pos q];exact r.aJ k z
 .rw [if_neg q,if_neg q];exact Paired.snoc r ⟨rfl,hb,z⟩
theorem KT.keeps(r:KT H kvs xs)(F:∀b ys,H b=some (.tup ys)->H' b=some (.tup ys)):KT H' kvs xs :=
 Paired.yz r λ_ _ z=>⟨z.1,F _ _ z.2.1,z.2.2⟩
section
variable {P:NB}{w:NQ}{H:Hp}{h:Heap}{a:Addr}
theorem vU(ok:HOk P w H h)(e:Rd H a u):ao P w H h a u:=e.ok ok
theorem d8(ok:HOk P w H h)(e:Rd H a (.dK kvs)):kvs.length<=sizeLine/\(a==sysModules)=false/\∃vs,KV kvs vs/\h.DictOf (aB P w) a vs :=
 show ao P w H h a (.dK kvs) from vU ok e
theorem oo(ok:HOk P w H h)(e:H a=some (.dK kvs)):kvs.length<=sizeLine/\(a==sysModules)=false/\∃vs,KV kvs vs/\h.DictOf (aB P w) a vs:=d8 ok (.inl e)
theorem gR(ok:HOk P w H h)(e:H a=some (.tup (ks.map kV))):(Se (aB P w)).is h ks a:=by
 obtain ⟨_,its,r,o,h1,h2,n,h3⟩:=(show ao P w H h a (.tup (ks.map kV)) from ok a _ e);exact ⟨o,its.toArray,n,h1,h2,h3,by simpa using tU r⟩
theorem gN(ok:HOk P w H h)(e:Rd H a (.dT kvs)):kvs.length<=sizeLine/\(a==sysModules)=false /\
  ∃xs,KT H kvs xs/\h.DictOfH (Se (aB P w)) a xs:=by
 obtain ⟨z,y,xs,r,o,es,ep,h1,h2,h3,h4,J⟩:=(show ao P w H h a (.dT kvs) from vU ok e);refine ⟨z,y,xs,r,o,es,ep,h1,h2,h3,h4,λx hx=>?_,J⟩;have all:∀{l:List (List Key×V)}{m:List (List Key×Addr×Value)},KT H l m->∀x∈m,(Se (aB P w)).is h x.1 x.2.1:=by
  intro l m q
  induction q with
  | nil=>intro x hx;exact nomatch hx
  | @cons p q ps O F t G =>
   intro x hx;rcases Nw.mp hx with e|hx
   .subst e;exact gR ok (by rw [<- F.1];exact F.2.1)
   .exact G x hx
 exact all r x hx
theorem Ie(ok:HOk P w H h)(e:H a=some (.dT kvs)):kvs.length<=sizeLine/\(a==sysModules)=false /\
  ∃xs,KT H kvs xs/\h.DictOfH (Se (aB P w)) a xs:=gN ok (.inl e)
end
def dS(H:Hp)(a:Addr)(y:V)(r:Option V):Prop :=
 (∃kvs k,Rd H a (.dK kvs)/\y=kV k/\r=zZ kvs k)\/∃kvs k b,Rd H a (.dT kvs)/\y = .ref b/\H b=some (.tup (k.map kV))/\r=zZ kvs k
def iy(H:Hp)(a:Addr)(y v:V)(H':Hp):Prop :=
 (∃kvs k,H a=some (.dK kvs)/\y=kV k/\kvs.length<sizeLine/\H'=upd H a (.dK (aL kvs k v))) \/
 ∃kvs k b,H a=some (.dT kvs)/\y = .ref b/\H b=some (.tup (k.map kV))/\kvs.length<sizeLine/\H'=upd H a (.dT (aL kvs k v))
theorem dS.k{k:Key}(e:H a=some (.dK kvs)):dS H a (kV k) (zZ kvs k):=.inl ⟨kvs,k,.inl e,rfl,rfl⟩
theorem dS.t{k:List Key}(e:H a=some (.dT kvs))(z:H b=some (.tup (k.map kV))):dS H a (.ref b) (zZ kvs k):=.inr ⟨kvs,k,b,.inl e,rfl,z,rfl⟩
theorem iy.k{k:Key}(e:H a=some (.dK kvs))(hl:kvs.length<sizeLine):iy H a (kV k) v (upd H a (.dK (aL kvs k v))):=.inl ⟨kvs,k,e,rfl,hl,rfl⟩
theorem iy.t{k:List Key}(e:H a=some (.dT kvs))(z:H b=some (.tup (k.map kV)))(hl:kvs.length<sizeLine):
  iy H a (.ref b) v (upd H a (.dT (aL kvs k v))):=.inr ⟨kvs,k,b,e,rfl,z,hl,rfl⟩
section
variable {X:Cx}{Go:List (Addr×Obj)}{σ:St}{H:Hp}{s:we}{a:Addr}{y v:V}{u r:Value}{o:Option V}{A:NP}{E:Value->we->Prop}
theorem LW(hu:A.units+1<cLine)(I:Inv X Go σ H s)(g:dS H a y (some v))(U:zo y u)(h:∀w' s',Inv X Go σ H s'->zo v w'->Q w' s'):
  NF (NL X.prog X.w) A (SA (.ref a) u) Q E s:=by
 rcases g with ⟨kvs,k,e,G,l⟩|⟨kvs,k,b,e,G,Z,l⟩
 .subst G;obtain ⟨z,hd,vs,J,dd⟩:=d8 I.hok e;obtain ⟨w',F,S⟩:=bH.some_of (v:=v) (o:=valueAt vs k) (by rw [l];exact J.val k);exact wpAny_getItem_of (fk U) dd.mapOf F (h w' _ (I.tok _) S)
 .subst G;cases (show u=Ny b from U);obtain ⟨z,hd,xs,J,dd⟩:=gN I.hok e;obtain ⟨w',F,S⟩:=bH.some_of (v:=v) (o:=(atKey xs k).map (·.2)) (by rw [l];exact J.val k);obtain ⟨p,W,O⟩:=NV.mp F;refine wpAny_getItem_heap (Qj hu) (gR I.hok Z) dd W ?_;rw [O];exact h w' _ (I.tok _) S
theorem Cz(S:A.units+1<cLine)(I:Inv X Go σ H s)(g:dS H a y o)(J:zo y u)(h:∀s',Inv X Go σ H s'->Q (.bool o.isSome) s'):
  NF (NL X.prog X.w) A (Of .In u (.ref a)) Q E s:=by
 rcases g with ⟨kvs,k,e,F,l⟩|⟨kvs,k,b,e,F,O,l⟩
 .subst F;obtain ⟨z,hd,vs,G,dd⟩:=d8 I.hok e;refine wpAny_in_of (fk J) hd dd.mapOf ?_;rw [<- (G.val k).L4,<- l];exact h _ (I.tok _)
 .subst F;cases (show u=Ny b from J);obtain ⟨z,hd,xs,G,dd⟩:=gN I.hok e;refine wpAny_in_heap (Qj S) (gR I.hok O) hd dd ?_;have q:=(G.val k).L4;rw [isSome_map] at q;rw [<- q,<- l];exact h _ (I.tok _)
theorem MC(S:A.units+1<cLine)(I:Inv X Go σ H s)(g:dS H a y o)(J:zo y u)(h:∀s',Inv X Go σ H s'->Q (.bool (!o.isSome)) s'):
  NF (NL X.prog X.w) A (Of .NotIn u (.ref a)) Q E s:=by
 rcases g with ⟨kvs,k,e,F,l⟩|⟨kvs,k,b,e,F,O,l⟩
 .subst F;obtain ⟨z,hd,vs,G,dd⟩:=d8 I.hok e;refine wpAny_notIn_of (fk J) hd dd.mapOf ?_;rw [<- (G.val k).L4,<- l];exact h _ (I.tok _)
 .subst F;cases (show u=Ny b from J);obtain ⟨z,hd,xs,G,dd⟩:=gN I.hok e;refine wpAny_notIn_heap (Qj S) (gR I.hok O) hd dd ?_;have q:=(G.val k).L4;rw [isSome_map] at q;rw [<- q,<- l];exact h _ (I.tok _)
theorem nt(I:Inv X Go σ H s)(F:Mut (H a))(hs:Q8 a s.heap h')(he:∃q,h'.get? a=some q)(new:ao X.prog X.w (upd H a ob) h' a ob):
  Inv X Go σ (upd H a ob) { s with heap:=h',toks:=t' } :=
 I.write (x:=a) (e:=a) F (.inl rfl) (λb q hb z=>(hs.2 b hb).trans z) he new
theorem pb(z:kvs.length<=sizeLine)(hd:(a==sysModules)=false)(F:KV kvs vs)(dd:h'.DictOf (aB P w) a vs):
  ao P w H' h' a (.dK kvs):=⟨z,hd,vs,F,dd⟩
theorem IM(hu:A.units+1<cLine)(I:Inv X Go σ H s)(g:iy H a y v H')(Z:zo y u)(W:zo v r)(h:∀s',Inv X Go σ H' s'->Q () s'):
  NF (NL X.prog X.w) A (setItem (.ref a) u r) Q E s:=by
 rcases g with ⟨kvs,k,e,O,l,S⟩|⟨kvs,k,b,e,O,eb,l,S⟩
 .subst O S;obtain ⟨z,hd,vs,G,dd⟩:=oo I.hok e;have U:vs.length<=sizeLine:=by rw [<- G.length];exact z
  have hl:(aL kvs k v).length<=sizeLine:=by have:=xQ kvs k v;lia
  refine wpAny_setItem_pairs (hsz:=U) (fk Z) dd λh' F hs=>h _ ?_;have he:∃q,h'.get? a=some q:=let ⟨q,_,_,J,_⟩:=F;⟨q,J⟩;exact nt I (by rw [e];exact True.intro) hs he (pb hl hd (G.put k W) F)
 .subst O S;cases (show u=Ny b from Z);obtain ⟨z,hd,xs,G,dd⟩:=Ie I.hok e;have U:xs.length<=sizeLine:=by rw [<- Paired.length G];exact z
  have hl:(aL kvs k v).length<=sizeLine:=by have:=xQ kvs k v;lia
  refine wpAny_setItem_heap (hsz:=U) (Qj hu) (gR I.hok eb) dd λh' F hs=>h _ ?_;obtain ⟨q,es,ep,J,h2,h3,h4,_,h5⟩:=F;refine nt I (by rw [e];exact True.intro) hs ⟨q,J⟩ ⟨hl,hd,_,(G.put k eb W).keeps λc ys ec=>?_,q,es,ep,J,h2,h3,h4,h5⟩;rw [zd (Kf ec e (λz=>nomatch z))];exact ec
end
section
variable {X:Cx}{Go:List (Addr×Obj)}{σ:St}{H:Hp}{s:we}{a:Addr}{kvs:List (Key×V)}{k:Key}{u:Value}{A:NP}{E:Value->we->Prop}
theorem KG(I:Inv X Go σ H s)(e:H a=some (.dK kvs))(O:zo (kV k) u)(l:(zZ kvs k).isSome=true)(h:∀s',Inv X Go σ (upd H a (.dK (cB kvs k))) s'->Q () s'):
  NF (NL X.prog X.w) A (delItem (.ref a) u) Q E s:=by
 obtain ⟨z,hd,vs,J,dd⟩:=oo I.hok e;refine wpAny_delItem_slot dd.typeIs (by decide) R0
  (SE R0 dd.typeIs PySem.F.entry_dict_delitem (PySem.F.args_dict_delitem_2 _ _) (meets_dict_delitem_pairs (aB X.prog X.w) a (fk O)) ⟨vs,dd,by rw [<- J.length];exact z,by rw [<- (J.val k).L4];exact l,λh' G hs=>h _ ?_⟩)
 have he:∃q,h'.get? a=some q:=let ⟨q,_,_,hq,_⟩:=G;⟨q,hq⟩;exact nt I (by rw [e];exact True.intro) hs he (pb (N6 (FX kvs k) z) hd (J.drop k) G)
end
theorem AV{o:Option V}(I:Inv X Go σ H s)(g:dS H a y o):s.TypeIs (.ref a) "dict":=by
 rcases g with ⟨kvs,k,e,_,_⟩|⟨kvs,k,b,e,_,_,_⟩
 .obtain ⟨_,_,vs,_,dd⟩:=d8 I.hok e;exact dd.typeIs
 .obtain ⟨_,_,xs,_,dd⟩:=gN I.hok e;exact dd.typeIs
structure M2(X:Cx)(o:N0)(m:Str)(Z3:Pos)(e f:N0)(cpos:Pos):Prop where
 base:OT o m X.env (Os o X.env)=Os o X.env
 few:((Pp cpos (NZ [e,f] X.env)).all (λx=>!x.1)&&(Rw cpos (Qh [] X.env)).all (λx=>x.1.isSome)
  && decide (([e,f]:List N0).length+([]:List Keyword).length+(if ([]:List Keyword).isEmpty then 0 else 1)<30))=true
 line:(Z3.endLine==cpos.line)=true
 trees:Pp cpos (NZ [e,f] X.env)=[(false,Os e X.env),(false,Os f X.env)]
def IsD(H:Hp)(a:Addr):Prop:=(∃kvs,Rd H a (.dK kvs))\/∃kvs,Rd H a (.dT kvs)
theorem LF(I:Inv X Go σ H s)(d:IsD H a):
  s.TypeIs (.ref a) "dict"/\(∀b,Ny a = .ref b->∃ob,s.heap.get? b=some ob/\ob.dict=none)/\(a==sysModules)=false:=by
 rcases d with ⟨kvs,e⟩|⟨kvs,e⟩
 .obtain ⟨_,hd,vs,_,dd⟩:=d8 I.hok e;refine ⟨dd.typeIs,λb q=>?_,hd⟩;cases q;obtain ⟨ob,_,_,h1,h2,_⟩:=dd;exact ⟨ob,h1,h2.2.1⟩
 .obtain ⟨_,hd,xs,_,dd⟩:=gN I.hok e;refine ⟨dd.typeIs,λb q=>?_,hd⟩;cases q;obtain ⟨ob,_,_,h1,h2,_⟩:=dd;exact ⟨ob,h1,h2.2.1⟩
section
variable {X:Cx}{Go:List (Addr×Obj)}{σ:St}{H:Hp}{s:we}{a:Addr}{y d:V}{u r:Value}{o:Option V}{A:NP}{E:Value->we->Prop}
theorem IA(U:A.units+1<cLine)(I:Inv X Go σ H s)(g:dS H a y o)(O:zo y u)(J:zo d r)(h:∀w' s',Inv X Go σ H s'->zo (o.getD d) w'->Q w' s'):
  NF (NL X.prog X.w) A (call (.builtin "dict.get") [.ref a,u,r]) Q E s:=by
 rcases g with ⟨kvs,k,e,F,l⟩|⟨kvs,k,b,e,F,S,l⟩
 .subst F;obtain ⟨z,hd,vs,G,dd⟩:=d8 I.hok e;refine SE Ro dd.typeIs entry_dict_get (Sq _ _ _) (meets_dict_get_default (aB X.prog X.w) a (fk O) hd r) ⟨_,dd.mapOf,h _ _ (I.tok _) ?_⟩;rw [l];exact (G.val k).getD J
 .subst F;cases (show u=Ny b from O);obtain ⟨z,hd,xs,G,dd⟩:=gN I.hok e;refine SE Ro dd.typeIs entry_dict_get (Sq _ _ _) (meetsH_dict_get_default (Se (aB X.prog X.w)) a b hd r) ⟨Qj U,k,xs,gR I.hok S,dd,h _ _ (I.tok _) ?_⟩;rw [l];exact (G.val k).getD J
end
section
variable {X:Cx}{Go:List (Addr×Obj)}{σ:St}{H:Hp}{s:we}{a:Addr}{kvs:List (Key×V)}{A:NP}{E:Value->we->Prop}
theorem Ih(I:Inv X Go σ H s)(e:Rd H a (.dK kvs))(h:∀p s',H p=none->Inv X Go σ (upd H p (.dK kvs)) s'->Q (.ref p) s'):NF (NL X.prog X.w) A (call (.type "dict") [.ref a]) Q E s:=by
 obtain ⟨z,hd,vs,G,dd⟩:=d8 I.hok e;refine kt_call_dict hd dd (by rw [<- G.length];exact z) λh' F hs=>?_;refine h _ _ (I.hok.fresh (Nq _)) (I.laid (a:=s.heap.objs.size) (o:=.dK kvs) (t':=s.toks) (λb q J=>?_) (Nq _) (pb z (beq_eq_false_iff_ne.mpr (NO (Oh I.big))) G F));exact (hs.2 b (Oh (NR J))).trans (zv _ J)
end
section
variable {κ:Type} [DecidableEq κ]
theorem Fc{p:κ×V}{r:List (κ×V)}{k:κ}(e:p.1=k):cB (p::r) k=cB r k:=by
 unfold cB;rw [QD,if_neg (by simp [e])]
theorem Bp{p:κ×V}{r:List (κ×V)}{k:κ}(e : ¬ p.1=k):cB (p::r) k=p::cB r k:=by
 unfold cB;rw [QD,if_pos (by simp [e])]
end
section
variable {X:Cx}{Go:List (Addr×Obj)}{σ:St}{H:Hp}{s:we}{a:Addr}{o:Obj}{kvs:List (Key×V)}
theorem Inv.swap(I:Inv X Go σ H s)(e:H a=some F)(h1:∀x,F≠.own x)(h2:∀xs,F≠.tup xs)(h3:∀ob,F≠.frz ob (.own 0))(h4:∀ps,F≠.tbl ps)(W:∀ob u,X.H₀ a≠some (.frz ob u))(new:∀H',ao X.prog X.w H' s.heap a O):Inv X Go σ (upd H a O) s:=by
 have ne:∀b,H b=none->b≠a:=λb n z=>by subst z;rw [e] at n;cases n
 have G:∀b,H b=none->upd H a O b=none:=λb n=>by rw [zd (ne b n)];exact n
 refine ⟨I.ok,I.os,I.bare,⟨I.base.keep,I.base.slot,λb ob q n hx=>G b (I.base.free b ob q n hx),I.base.there,λb xs q=>?_,λb ob u q=>?_,λb ps q=>?_⟩,I.loc,I.cell,G _ I.free,λx c q=>G c (I.Pv x c q),λp U=>?_,λb u q=>?_,I.len,?_⟩
 .have z:=I.base.tups b xs q;rw [zd (λy=>by subst y;rw [e] at z;cases z;exact h2 _ rfl)];exact z
 .by_cases hb:b=a
  .subst hb;exact absurd q (W ob u)
  .rw [zd hb];exact I.base.frzs b ob u q
 .obtain ⟨more,z⟩:=I.base.tbls b ps q;exact ⟨more,by rw [zd (λy=>by subst y;rw [e] at z;cases z;exact h4 _ rfl)];exact z⟩
 .obtain ⟨p1,p2,p3⟩:=I.pin p U;exact ⟨p1,G _ p2,p3⟩
 .by_cases hb:b=a
  .subst hb;rw [zx] at q;cases q;exact new _
  .rw [zd hb] at q;exact (I.hok b u q).stay (λc z _ y=>y) (λc z=>by rw [zd (λy=>by subst y;rw [e] at z;cases z;exact h1 _ rfl)];exact z) (λc xs z=>by rw [zd (λy=>by subst y;rw [e] at z;cases z;exact h2 _ rfl)];exact z)
 .rcases I.hdk with z|⟨b,ob,vs,Z,J,S⟩
  .exact .inl z
  .exact .inr ⟨b,ob,vs,Z,by rw [zd (λy=>by subst y;rw [e] at J;cases J;exact h3 _ rfl)];exact J,S⟩
theorem Inv.freeze(I:Inv X Go σ H s)(e:H a=some (.dK kvs)):(∀ob u,X.H₀ a≠some (.frz ob u))/\∃o,Inv X Go σ (upd H a (.frz o (.dK kvs))) s:=by
 have F:∀ob u,X.H₀ a≠some (.frz ob u):=λob u q=>by
  have z:=I.base.frzs a ob u q;rw [e] at z;cases z
 refine ⟨F,?_⟩;obtain ⟨z,hd,vs,G,dd⟩:=oo I.hok e;obtain ⟨o,es,ep,ho,r⟩:=id dd;exact ⟨o,I.swap e (λ_ q=>nomatch q) (λ_ q=>nomatch q) (λ_ q=>nomatch q) (λ_ q=>nomatch q) F λH'=>⟨ho,z,hd,vs,G,dd⟩⟩
theorem Inv.Vg(I:Inv X Go σ H s)(e:H a=some (.frz o (.dK kvs)))(F:∀ob u,X.H₀ a≠some (.frz ob u)):Inv X Go σ (upd H a (.dK kvs)) s:=by
 obtain ⟨ho,z⟩:=I.hok a _ e;exact I.swap e (λ_ q=>nomatch q) (λ_ q=>nomatch q) (λ_ q=>by injection q with _ q;cases q) (λ_ q=>nomatch q) F λH'=>z
end
def jS(a:Addr)(kvs:List (Key×V))(H:Hp)(R:Hp->Prop):Prop:=∃o,H a=some (.frz o (.dK kvs))/\R (upd H a (.dK kvs))
def aP.Vg(D:aP)(a:Addr)(kvs:List (Key×V)):aP:=⟨λσ H=>jS a kvs H (D.nx σ),λv H=>jS a kvs H (D.rt v),λσ H=>jS a kvs H (D.bk σ),λσ H=>jS a kvs H (D.ct σ)⟩
def tFz(t:TS):TS:=λD σ H=>∃a kvs,H a=some (.dK kvs)/\∀o,t (D.Vg a kvs) σ (upd H a (.frz o (.dK kvs)))
theorem JY{st:Stmt}{t:TS}(h:W (PS X st t)):W (PS X st (tFz t)):=by
 refine ⟨?_⟩;have h:=h.h;rintro Go s σ H D I ⟨a,kvs,e,q⟩;obtain ⟨O,o,S⟩:=I.freeze e;refine thn (h Go s σ _ _ S (q o)) λf s' z=>?_;cases f with
 | next=>obtain ⟨F,H',J,o',G,d⟩:=z;exact ⟨F,_,J.Vg G O,d⟩
 | brk=>obtain ⟨F,H',J,o',G,d⟩:=z;exact ⟨F,_,J.Vg G O,d⟩
 | cont=>obtain ⟨F,H',J,o',G,d⟩:=z;exact ⟨F,_,J.Vg G O,d⟩
 | ret u=>obtain ⟨v,F,H',J,r,o',G,d⟩:=z;exact ⟨v,F,_,J.Vg G O,r,d⟩
theorem KV.at(r:KV kvs vs):∀{i:Nat}{p:Key×V},kvs[i]?=some p->∃u,vs[i]?=some (p.1,u)/\zo p.2 u:=by
 induction r with
 | nil=>intro i p h;simp at h
 | @cons x y l m r t z =>
  intro i p h;cases i with
  | zero =>
   have e:x=p:=by simpa using h
   subst e;exact ⟨y.2,by rw [r.1];rfl,r.2⟩
  | succ i=>exact z (by simpa using h)
def Itd(a:Addr)(o:Obj)(kvs:List (Key×V)):It:=⟨λi H=>H a=some (.frz o (.dK kvs))/\i<kvs.length,λi H x H'=>H'=H/\∃p,kvs[i]?=some p/\x=kV p.1,λi H=>H a=some (.frz o (.dK kvs))/\kvs.length<=i⟩
theorem n9{o:Obj}(I:Inv X Go σ H s)(e:H a=some (.frz o (.dK kvs)))(hd:o.data = .dict es ep):
  (a==sysModules)=false/\∃vs,KV kvs vs/\s.heap.DictAt (aB X.prog X.w) a vs ep/\vs.length=kvs.length:=by
 obtain ⟨ho,z,hm,vs,G,o',O,S,J,hc,F,r⟩:=I.hok a _ e;rw [ho] at J;cases J;rw [hd] at F;cases F;exact ⟨hm,vs,G,⟨o,es,ho,hc,hd,r⟩,G.length.symm⟩
theorem JW{o:Obj}(I:Inv X Go σ H s)(e:H a=some (.frz o (.dK kvs))):∃es ep,o.data = .dict es ep:=by
 obtain ⟨ho,z,hm,vs,S,o',J,O,G,hc,F,r⟩:=I.hok a _ e;rw [ho] at G;cases G;exact ⟨_,_,F⟩
theorem Gp{P:NB}{w:NQ}{K:Nu}{tg:N0}(a it:Addr){o:Obj}{kvs:List (Key×V)}{es:Array Sr}{ep:Nat}(hd:o.data = .dict es ep):dy true P w K tg (Itd a o kvs) [it] it (λi h=>h.IsKeyIter it a i kvs.length ep) where
 mem:=by simp
 obj:=λi h st b hb=>by
  have e:b=it:=by simpa using hb
  subst e;obtain ⟨o,e,c,d⟩:=st;exact ⟨o,e,λv z=>by rw [d] at z;cases z⟩
 keep:=λi h h' st k=>st.at λo e=>k it (by simp) o e
 item:=by
  intro X G hw O hc i Go s σ H E I hf st hg;subst G hw O;obtain ⟨hq,hi⟩:=hg;obtain ⟨hm,vs,Zs,dd,hl⟩:=n9 I hq hd;obtain ⟨p,hp⟩:∃p,kvs[i]?=some p:=⟨kvs[i],by simp [hi]⟩;obtain ⟨u,hu,ru⟩:=Zs.at hp;obtain ⟨J,S,f2,f3,U,W⟩:=hf it (by simp);rw [<- hl] at st;refine wpAny_pyNext_dict_item st dd hu λkey h' hk F sb=>?_;rw [hl] at F;have I1:Inv X Go σ H { s with heap:=h' }:=I.turned (t':=s.toks) (λb o hb e=>(sb.2 b hb).trans e) J S f3 U W;have rk:zo (kV p.1) key:=by
   rcases cZ (show eP p.1 key=true from hk) with ⟨j,t,Z,e2⟩|⟨x,t,Z,e2⟩
   .rw [Z,e2];exact ⟨t,rfl⟩
   .rw [Z,e2];exact ⟨t,rfl⟩
  obtain ⟨o,e,c,d⟩:=id F;exact ⟨key,rfl,gA (s:={ s with heap:=h' }) e c d (by decide) ⟨kV p.1,H,I1,rk,⟨rfl,p,hp,rfl⟩,F,λb hb=>(hf b hb).1⟩⟩
 done:=by
  intro X G hw O hc i Go s σ H E I hf st hg;subst G hw O;obtain ⟨hq,hi⟩:=hg;obtain ⟨hm,vs,Zs,dd,hl⟩:=n9 I hq hd;obtain ⟨J,S,f2,f3,U,W⟩:=hf it (by simp);rw [<- hl] at st;exact wpAny_pyNext_dict_end (I.ok.hd (hc rfl)) st dd (Pf (by lia)) λh' eb=>⟨rfl,I.turned (t':=s.toks) (λb o hb e=>eb b o hb e) J S f3 U W⟩
 self:=λ_ _ _ _ _ st h=>wpAny_pyIter_keyiter st h
section
variable {X:Cx}{tg:N0}
def nL(tl:TE):TI:=λσ H R=>tl σ H λx H1=>∃a o kvs,x = .ref a/\H1 a=some (.frz o (.dK kvs))/\R (Itd a o kvs) H1
theorem EJ(hl:W (PE X l tl)):W (PI X tg l (nL tl)):=by
 refine ⟨?_⟩;have hl:=hl.h;intro Go s σ H R I h;refine thn (hl Go s σ H _ I h) λv s1=>x5e λx H1 z J G=>?_;obtain ⟨a,o,kvs,e,F,q⟩:=G;subst e;cases J;obtain ⟨es,ep,hd⟩:=JW z F;obtain ⟨hm,vs,O,dd,hl⟩:=n9 z F hd;refine wpAny_pyIter_dict hm dd ?_;rw [hl];refine ⟨s1.heap.objs.size,[s1.heap.objs.size],_,_,H1,rfl,z.kept (t':=s1.toks) λb o e=>zv _ e,Gp a _ hd,⟨_,NK _ rfl,rfl,rfl⟩,λb hb=>?_,q⟩;have e:b=s1.heap.objs.size:=by simpa using hb
 subst e;exact z.Tz (Nq _) (z.hok.fresh (Nq _))
end
def uK(y:V)(q:Key->Prop):Prop:=∃k,y=kV k/\q k
theorem By:uK (.str z) q=q (.inr z):=by
 apply propext;constructor
 .rintro ⟨k,e,h⟩;cases k with
  | inl i=>cases e
  | inr x=>cases e;exact h
 .exact λh=>⟨.inr z,rfl,h⟩
theorem Le:uK (.int i) q=q (.inl i):=by
 apply propext;constructor
 .rintro ⟨k,e,h⟩;cases k with
  | inl i=>cases e;exact h
  | inr x=>cases e
 .exact λh=>⟨.inl i,rfl,h⟩
section
variable {X:Cx}
def qT:R2:=λx y H Q=>∃a k kvs v,x = .ref a/\y=kV k/\Rd H a (.dK kvs)/\zZ kvs k=some v/\Q v H
theorem kr(Z:X.A.units+1<cLine):IxR X qT:=by
 intro ZL Y7 Go s σ H x y v u Q I J S h hs;obtain ⟨a,k,kvs,z,rfl,rfl,W,he,q⟩:=h;obtain rfl:v=Ny a:=J;have g:dS H a (kV k) (some z):=.inl ⟨kvs,k,W,rfl,he.symm⟩;unfold subscriptTail;refine fv ?_;rw [getitemInPython_of_ne (AV I g).not_modules];refine fv (wpAny_specialOf (AV I g) PySem.F.slot_dict_getitem.lookup ?_);have G:NF (NL X.prog X.w) X.A (subscripted Y7 false (.ref a) u) (λr s₃=>NF (NL X.prog X.w) X.A (letTemporaryGo ZL (.ref a) r>>=λ_=>pure r) (EP X Go σ Q) X.xe s₃) X.xe s:=by
  rw [hs];exact wpAny_operating (LW Z I g S λw' s3 U O=>fv (wpAny_letTemporaryGo (Nv ⟨z,H,U,O,q⟩)))
 first
  | exact Nv (fv G)
  | exact fv (Nv (fv G))
  | exact fv G
def jY(c:Bool):R2:=λy x H Q=>∃a k kvs,x = .ref a/\y=kV k/\Rd H a (.dK kvs)/\Q (.bl (if c then !(zZ kvs k).isSome else (zZ kvs k).isSome)) H
theorem La(J:X.A.units+1<cLine):OpR X (Of .In) (jY false):=by
 intro Go s σ H x y v u Q I z F h;obtain ⟨a,k,kvs,rfl,rfl,G,q⟩:=h;obtain rfl:u=Ny a:=F;exact Cz J I (.inl ⟨kvs,k,G,rfl,rfl⟩) z λS O=>⟨.bl (zZ kvs k).isSome,H,O,rfl,q⟩
theorem IL(J:X.A.units+1<cLine):OpR X (Of .NotIn) (jY true):=by
 intro Go s σ H x y v u Q I z F h;obtain ⟨a,k,kvs,rfl,rfl,G,q⟩:=h;obtain rfl:u=Ny a:=F;exact MC J I (.inl ⟨kvs,k,G,rfl,rfl⟩) z λS O=>⟨.bl (!(zZ kvs k).isSome),H,O,rfl,q⟩
theorem Br{p:Addr}:jY c (.str x) (.ref p) H Q = ∃kvs,Rd H p (.dK kvs)/\Q (.bl (if c then !(zZ kvs (.inr x)).isSome else (zZ kvs (.inr x)).isSome)) H:=by
 apply propext;constructor
 .rintro ⟨a,k,kvs,F,z,h,q⟩;cases F;cases k with
  | inl i=>cases z
  | inr x=>cases z;exact ⟨kvs,h,q⟩
 .rintro ⟨kvs,h,q⟩;exact ⟨p,.inr x,kvs,rfl,rfl,h,q⟩
def ji:V->V->V->Hp->(Hp->Prop)->Prop:=λo i v H Q=>mv o i v H Q\/∃a k kvs,o = .ref a/\i=kV k/\H a=some (.dK kvs)/\kvs.length<sizeLine/\Q (upd H a (.dK (aL kvs k v)))
theorem jZ(O:X.A.units+1<cLine):qI X ji:=by
 intro Go s σ H o i v ov iv u Q I G z F h;rcases h with h|⟨a,k,kvs,rfl,rfl,e,l,q⟩
 .exact hG Go s σ H o i v ov iv u Q I G z F h
 .obtain rfl:ov=Ny a:=G;exact IM O I (.inl ⟨kvs,k,e,rfl,l,rfl⟩) z F λs' J=>⟨_,J,q⟩
theorem DJ:ji (.ref a) (.str z) v H Q = ∃kvs,H a=some (.dK kvs)/\kvs.length<sizeLine/\Q (upd H a (.dK (aL kvs (.inr z) v))):=by
 apply propext;constructor
 .rintro (⟨_,_,_,_,_,e,_⟩|⟨a',k,kvs,G,F,h,l,q⟩)
  .cases e
  .cases G;cases k with
   | inl i=>cases F
   | inr x=>cases F;exact ⟨kvs,h,l,q⟩
 .rintro ⟨kvs,h,l,q⟩;exact .inr ⟨a,.inr z,kvs,rfl,rfl,h,l,q⟩
theorem sO:ji (.ref a) (.int i) v H Q=((∃xs j,H a=some (.lst xs)/\ixN xs.length i=some j/\Q (upd H a (.lst (xs.set j v))))\/∃kvs,H a=some (.dK kvs)/\kvs.length<sizeLine/\Q (upd H a (.dK (aL kvs (.inl i) v)))):=by
 apply propext;unfold ji;rw [xq];constructor
 .rintro (h|⟨a',k,kvs,F,z,h,l,q⟩)
  .exact .inl h
  .cases F;cases k with
   | inl i=>cases z;exact .inr ⟨kvs,h,l,q⟩
   | inr x=>cases z
 .rintro (h|⟨kvs,h,l,q⟩)
  .exact .inl h
  .exact .inr ⟨a,.inl i,kvs,rfl,rfl,h,l,q⟩
def sC(td ty:TE):TS:=λD σ H=>td σ H λx H1=>ty σ H1 λy H2=>uR x λa=>uK y λk=>∃kvs,H2 a=some (.dK kvs)/\(zZ kvs k).isSome=true/\D.nx σ (upd H2 a (.dK (cB kvs k)))
theorem CB{o i:N0}(ho:W (PE X o td))(hi:W (PE X i ty)):W (PS X (.Delete [.Subscript o i Xb] pos) (sC td ty)):=by
 refine ⟨?_⟩;have ho:=ho.h;have hi:=hi.h;intro Go s σ H D I h;refine wpAny_Delete (wpAny_deleteEach_cons (wpAny_delete_Subscript (thn (ho Go s σ H _ I h) λu s1=>x5e λx H1 Z z U=>thn (hi Go s1 σ H1 _ Z U) λiv s2=>x5e λy H2 S J O=>?_)));obtain ⟨a,ex,k,G,kvs,e,l,F⟩:=O;subst ex G;obtain rfl:u=Ny a:=z;exact KG S e J l λs3 I3=>wpAny_deleteEach_nil ⟨σ,_,I3,F⟩
theorem Lo:sC td ty D σ H=td σ H λx H1=>ty σ H1 λy H2=>uR x λa=>uK y λk=>∃kvs,H2 a=some (.dK kvs)/\(zZ kvs k).isSome=true/\D.nx σ (upd H2 a (.dK (cB kvs k))):=rfl
def ux(td ty tx:TE):TE:=λσ H Q=>td σ H λx H1=>uR x λa=>(∃kvs,Rd H1 a (.dK kvs))/\ty σ H1 λy H2=>tx σ H2 λz H3=>uK y λk=>∃kvs,Rd H3 a (.dK kvs)/\Q ((zZ kvs k).getD z) H3
theorem Dl{td ty tx:TE}:ux td ty tx σ H Q=td σ H λx H1=>uR x λa=>(∃kvs,Rd H1 a (.dK kvs))/\ty σ H1 λy H2=>tx σ H2 λz H3=>uK y λk=>∃kvs,Rd H3 a (.dK kvs)/\Q ((zZ kvs k).getD z) H3:=rfl
theorem tG{o e f:N0}{td ty tx:TE}(hu:X.A.units+1<cLine)(ho:W (PE X o td))(he:W (PE X e ty))(hf:W (PE X f tx))(m:M2 X o "get" Z3 e f cpos:=by exact ⟨rfl,rfl,rfl,rfl⟩):W (PE X (.Call (.Attribute o "get" Z3) [e,f] [] cpos) (ux td ty tx)):=by
 refine ⟨?_⟩;have ho:=ho.h;have he:=he.h;have hf:=hf.h;intro Go s σ H Q I h;refine wpAny_Call_method m.base m.few m.line Sm Ro PySem.F.type_dict_get (thn (ho Go s σ H _ I h) λu s1=>x5e λx H1 J S Z=>?_);obtain ⟨a,ex,d,q1⟩:=Z;subst ex;obtain rfl:u=Ny a:=S;obtain ⟨t1,t2,_⟩:=LF J (.inl d);refine ⟨t1,t2,?_⟩;rw [m.trees];refine Calls.callWith_builtin rfl (Calls.evalArgs_plain (Calls.spliced_cons (thn (he Go s1 σ H1 _ J q1) λiv s2=>x5e λy H2 I2 ry U =>
  Calls.spliced_cons (thn (hf Go s2 σ H2 _ I2 U) λfv s3=>x5e λz H3 I3 rz G=>Calls.spliced_nil ?_))))
 obtain ⟨k,ey,kvs,g,O⟩:=G;subst ey;exact IA hu I3 (.inl ⟨kvs,k,g,rfl,rfl⟩) ry rz λw' s4 I4 XJ=>⟨_,H3,I4,XJ,O⟩
end
end L2
namespace L2
open PySem PySem.Spec PyProof.Rows PySem.W PySem.Calls
def leS(a b:Str):Prop:=ltCps b.cps.toList a.cps.toList=false
theorem Jc(h1:leS a b)(h2:leS b a):a=b:=by
 unfold leS at h1 h2;rw [ltCps_eq] at h1 h2;exact lT (PK.total a.cps.toList b.cps.toList h2 h1)
theorem sy:∀{l:List Str},sortedS l=true->l.Pairwise leS:=by
 have key:∀(r:List Str)(x:Str),risingS x r=true->(x::r).Pairwise leS:=by
  intro r
  induction r with
  | nil=>intro x _;simp
  | cons y r U =>
   intro x h;have h':(!ltCps y.cps.toList x.cps.toList&&risingS y r)=true:=h;rw [Oc,Bool.not_eq_true'] at h';have F:=U y h'.2;refine OJ.mpr ⟨λz J=>?_,F⟩;rcases Nw.mp J with rfl|J
   .exact h'.1
   .have G:=(OJ.mp F).1 z J;unfold leS at G ⊢;have S:=h'.1;rw [ltCps_eq] at G S ⊢;exact KeyOrd.kle_trans (O:=PK.toKeyOrd) S G
 intro l h;cases l with
 | nil=>exact .nil
 | cons x r=>exact key r x h
theorem xk:∀{l m:List Str},l.Perm m->l.Pairwise leS->m.Pairwise leS->l=m
 | [],m,p,_,_=>(Q4.nil_eq p)
 | x::l,[],p,_,_=>absurd p.length_eq (by simp)
 | x::l,y::m,p,hl,hm=>by
  have e:x=y:=by
   have h1:x∈y::m:=p.mem_iff.mp (NX ..);have h2:y∈x::l:=p.mem_iff.mpr (NX ..);rcases Nw.mp h1 with e|h1
   .exact e
   .rcases Nw.mp h2 with e|h2
    .exact e.symm
    .exact Jc ((OJ.mp hl).1 y h2) ((OJ.mp hm).1 x h1)
  subst e;rw [xk ((List.perm_cons x).mp p) (OJ.mp hl).2 (OJ.mp hm).2]
open Classical in
noncomputable def c8(ks:List Str):List Str:=if h:∃z:List Str,z.Perm ks/\sortedS z=true then h.choose else ks
theorem A9(p:z.Perm ks)(h:sortedS z=true):z=c8 ks:=by
 have ex:∃z:List Str,z.Perm ks/\sortedS z=true:=⟨z,p,h⟩;unfold c8;rw [dif_pos ex];exact xk (p.trans ex.choose_spec.1.symm) (sy h) (sy ex.choose_spec.2)
section
variable {X:Cx}
def Ak:List V->Hp->VK->Prop:=λxs H Q=>uR1 xs λa=>∃kvs,Rd H a (.dK kvs)/\∀p H2,New H p (.dK kvs) H2->Q (.ref p) H2
theorem Ge:Ak [.ref a] H Q = ∃kvs,Rd H a (.dK kvs)/\∀p H2,New H p (.dK kvs) H2->Q (.ref p) H2:=e9
theorem A4:zM X (.type "dict") Ak:=by
 intro Go s σ H xs us Q I r h;obtain ⟨a,rfl,kvs,ha,q⟩:=h;obtain ⟨u,rfl,F⟩:=cg r;cases F;exact Ih I ha λp s' hn z=>⟨.ref p,_,z,rfl,q _ _ (.mk' hn)⟩
def sk(kvs:List (Str×V)):List (Key×V):=kvs.map λp=>(.inr p.1,p.2)
def uL:List V->Hp->VK->Prop:=λxs H Q=>uR1 xs λa=>∃kvs:List (Str×V),Rd H a (.dK (sk kvs))/\kvs.length<64/\∀p H2,New H p (.lst ((c8 (kvs.map (·.1))).map V.str)) H2->Q (.ref p) H2
theorem Ct:uL [.ref a] H Q = ∃kvs:List (Str×V),Rd H a (.dK (sk kvs))/\kvs.length<64/\∀p H2,New H p (.lst ((c8 (kvs.map (·.1))).map V.str)) H2->Q (.ref p) H2:=e9
theorem uT:∀{vs:List Value}{z:List Str},vs.length=z.length->(∀(j:Nat)(v:Value),vs[j]?=some v->∃t,v=RL (z.getD j "") t)->StrsAre vs z
 | [],[],_,_=>.nil
 | [],_::_,h,_=>absurd h (by simp)
 | _::_,[],h,_=>absurd h (by simp)
 | v::vs,x::z,h,f=>by
  obtain ⟨t,e⟩:=f 0 v rfl;have G:v=RL x t:=e;rw [G];exact .cons x t (uT (by simpa using h) λj u F=>f (j+1) u F)
theorem yi:∀{vs:List Value}{z:List Str},StrsAre vs z->zp (z.map V.str) vs
 | _,_,.nil=>.nil
 | _,_,.cons x t h=>.cons ⟨t,rfl⟩ (yi h)
theorem E7(hc:X.calm=true):zM X (.builtin "sorted") uL:=by
 intro Go s σ H xs us Q I r h;obtain ⟨a,rfl,kvs,hq,Yc,q⟩:=h;obtain ⟨u,rfl,ru⟩:=cg r;cases ru;obtain ⟨z,hd,vs,Zs,dd⟩:=d8 I.hok hq;obtain ⟨ep,W⟩:=dd.dictAt;have Z7:vs.length=kvs.length:=by rw [<- Zs.length];simp [sk]
 refine call_function_entry kind_sorted plain_sorted entry_sorted (args_sorted1 _) ?_;unfold NN.«sorted»
 refine fv (m:=checkCount "sorted" 1 1 _) (Nv ?_);refine fv (kdu_collect (A:=X.A.in1) (kdl_dict (knd:=aB X.prog X.w) (kvs:=vs) (ep:=ep) hd) (I.ok.hd hc) W (by rw [Z7,Ox];lia) λh' tk ZJ U XU=>?_);have hl:ZJ.toList.length=kvs.length:=by rw [PR,<- Z7];exact XU.1
 have S:StrsAre ZJ.toList (kvs.map (·.1)):=uT (by rw [hl,KE]) λj v hv=>by
  obtain ⟨k,x,hx,U⟩:=XU.2 j v (by rw [<- QT];exact hv);have hj:j<vs.length:=(Nt.mp hx).1;have F:j<kvs.length:=by lia
  have J:(sk kvs)[j]?=some (.inr kvs[j].1,kvs[j].2):=by simp [sk,F]
  obtain ⟨u',G,_⟩:=Zs.at J;rw [hx] at G;cases G;rcases cZ (show eP (Sum.inr kvs[j].1) v=true from U) with ⟨i,t,Z,J⟩|⟨y,t,Z,J⟩
  .cases Z
  .cases Z;exact ⟨t,by rw [J,Nr,NJ,p8 F];rfl⟩
 have I1:Inv X Go σ H { s with heap:=h',toks:=tk }:=I.kept U;refine fv (R7 ?_ (by rw [hl,Ox];lia));have O:(h'.push (Pc "list" ZJ.toList.toArray 0)).get? h'.objs.size=some (Pc "list" ZJ.toList.toArray 0):=NK _ rfl;refine fv (N9 (OB slot_list_sort ⟨_,O,rfl⟩ entry_list_sort (list_sort_treeK strKind_oneLt O S.keysOf (λag ai Zo e=>keyKind_strs (by rw [<- e];exact S)) (by rw [hl];exact Yc) λYM a1 a2=>⟨_,rfl,?_⟩) (args_list_sort _)));obtain ⟨aj,b1,b2,b3⟩:=sorted_out_str S a1 a2;have e3:=A9 b2 b3;subst e3;obtain ⟨c,ab⟩:=sortedHeap_at (vs:=ZJ.toList) (out:=(arrOf YM).map (·.2)) O;refine Nv ⟨_,rfl,.ref h'.objs.size,upd H h'.objs.size (.lst ((c8 (kvs.map (·.1))).map V.str)),I1.laid (a:=h'.objs.size) (t':=tk) (λb o e=>?_) (Nq _) ⟨?_,((arrOf YM).map (·.2)).toList,c,yi b1,by rw [Array.toArray_toList];exact ab⟩,rfl,q _ _ (.mk' (I1.hok.fresh (Nq _)))⟩
 .have hb:b<h'.objs.size:=NR e;rw [sortedHeap_old (Oh hb) (by rw [RQ];exact QP hb)];exact zv _ e
 .have:=b2.length_eq;rw [KE,this,KE,Ox];lia
end
end L2
namespace HT
open PySem PySem.Spec PyProof.Rows PySem.Calls
section
variable {prog:NB}{w:NQ}{A:NP}{E:Value->we->Prop}{s:we}
theorem getItem_tuple_whole{t sl:Addr}{W:Value}{lo hi:Option Int}(z:Rg s.heap t items)(hs:s.heap.IsSliceOf sl W Z .none)(pl:RY W lo)(pu:RY Z hi)(h0:sIx items.size 0 lo=0)(h1:sIx items.size items.size hi=items.size)(h:Q (.ref t) s):NF (NL prog w) A (SA (.ref t) (.ref sl)) Q E s:=by
 obtain ⟨os,J,O,ab⟩:=id hs;have G:s.TypeIs (.ref sl) "slice":=⟨os,J,O⟩;unfold SA
 try with_reducible refine N9 ?_
 first|refine fv (Nv ?_)|skip
 refine fv (wpAny_sequenceKey z.typeIs (by decide) ?_);refine fv (Oo (name:=yv "__getitem__") z.typeIs Ow
  (OB Ow z.typeIs entry_tuple_getitem ?_ (args_tuple_getitem _ _)))
 show NF _ _ (NN.Tuple.tupleItemsOf (.ref t)>>=_) _ _ s;refine fv (tupleItemsOf_ z ?_);refine fv (Ss G ?_);rw [if_pos (by decide)];refine fv (yl hs pl pu ?_);have F:(((sIx items.size 0 lo:Nat):Int)==0&&(1:Int)==1&&(sIx items.size items.size hi-sIx items.size 0 lo)==items.size)=true:=by
  rw [h0,h1];simp
 show NF _ _ (if (((sIx items.size 0 lo:Nat):Int)==0&&(1:Int)==1&&(sIx items.size items.size hi-sIx items.size 0 lo)==items.size)=true then _ else _) _ _ s;rw [if_pos F];have S:∀{R:Bool->we->Prop}{U:NP}{E':Value->we->Prop},R true s->NF (NL prog w) U (NN.Tuple.tupleIsExact (.ref t)) R E' s:=λ{R U E'} hr=>by
  unfold NN.Tuple.tupleIsExact
  first
   | exact fv (Ss z.typeIs (Nv hr))
   | exact wpAny_map (Ss z.typeIs hr)
 refine fv (S ?_)
 first
  | exact fv (PP (fv (Nv (Nv ⟨_,rfl,Nv h⟩))))
  | exact fv (PP (Nv ⟨_,rfl,Nv h⟩))
  | exact fv (PP (fv (Nv ⟨_,rfl,Nv h⟩)))
end
end HT
namespace L2
open PySem PySem.Spec PyProof.Rows PySem.W PySem.Calls
section
variable {X:Cx}
def iF:V->Option Int->Option Int->Hp->VK->Prop:=λx lo hi H Q=>uSl x lo hi H Q\/∃a xs,x = .ref a/\H a=some (.tup xs)/\∀p H2,zj H H2->H2 p=some (.tup (aX xs lo hi))->Q (.ref p) H2
theorem ow:SlR X iF:=by
 intro Go s σ H x v J U lo hi sl Q I G hs pl F h;rcases h with h|⟨a,xs,rfl,hx,q⟩
 .exact fZ Go s σ H x v J U lo hi sl Q I G hs pl F h
 .by_cases z:HT.sIx xs.length 0 lo=0/\HT.sIx xs.length xs.length hi=xs.length
  .cases G;obtain ⟨its,r,S,Z⟩:=I.tuple (SqT.of hx);have O:its.toArray.size=xs.length:=by rw [NI];exact r.length.symm
   refine ⟨"tuple",_,Ow.lookup,S.typeIs,?_⟩;refine HT.getItem_tuple_whole S hs pl F (by rw [O];exact z.1) (by rw [O];exact z.2) ⟨.ref a,H,I,rfl,q a H (zj.refl _) ?_⟩;rw [hx];unfold aX;rw [z.1,z.2];simp
  .exact Jz Go s σ H _ v J U lo hi sl Q I G hs pl F ⟨a,xs,rfl,SqT.of hx,z,λp W=>q p _ (New.mk' (o:=.tup (aX xs lo hi)) W).same zx⟩
theorem EZ{lo hi:Option Int}:iF (.str z) lo hi H Q=(z.length<=sizeLine/\Q (.str (Txt.slice z lo hi)) H):=by simp [iF,wX]
theorem FJ{lo hi:Option Int}:iF (.ref a) lo hi H Q=((∃xs,H a=some (.lst xs)/\∀p H2,New H p (.lst (aX xs lo hi)) H2->Q (.ref p) H2)\/∃xs,H a=some (.tup xs)/\∀p H2,zj H H2->H2 p=some (.tup (aX xs lo hi))->Q (.ref p) H2):=by
 unfold iF;rw [qp];apply propext;constructor
 .rintro (h|⟨a',xs,e,h⟩)
  .exact .inl h
  .cases e;exact .inr ⟨xs,h⟩
 .rintro (h|⟨xs,h⟩)
  .exact .inl h
  .exact .inr ⟨a,xs,rfl,h⟩
def jl:R2:=λx y H Q=>∃a b xs ys,x = .ref a/\y = .ref b/\H a=some (.tup xs)/\H b=some (.tup ys)/\xs.length+ys.length<=sizeLine/\∀p H2,zj H H2->H2 p=some (.tup (xs++ys))->Q (.ref p) H2
theorem Bf:OpR X (Pd .Add) jl:=by
 intro Go s σ H x y v u Q I O S h;obtain ⟨a,b,xs,ys,rfl,rfl,ha,hb,hz,q⟩:=h;by_cases hx:xs=[]
 .cases O;cases S;obtain ⟨its,r1,p1,_⟩:=I.tuple (SqT.of ha);obtain ⟨Ya,r2,p2,_⟩:=I.tuple (SqT.of hb);obtain ⟨⟨cls,dd,data,sl⟩,ho,hc,n,hd⟩:=id p1;obtain ⟨⟨U,W,data2,J⟩,z,F,Z,G⟩:=id p2;simp only at hc hd F G;subst hc hd F G;have hi:its=[]:=r1.Tt.mpr hx;exact concat_meets ⟨_,ho,rfl⟩ ⟨_,z,rfl⟩ noFill_tuple_add seq_tuple_add slot_tuple_add entry_tuple_add (args_tuple_add_2 _ _)
   (tuple_addW0 a b its.toArray Ya.toArray n Z dd W sl J (by simp [hi])) ⟨ho,z,⟨.ref b,H,I,rfl,q b H (zj.refl _) (by rw [hb,hx];rfl)⟩⟩
 .exact G8 Go s σ H _ _ v u Q I O S ⟨a,b,xs,ys,rfl,rfl,SqT.of ha,SqT.of hb,hx,hz,λe=>q a H (zj.refl _) (by rw [ha,e,O8]),λ_ p hp=>q p _ (New.mk' (o:=.tup (xs++ys)) hp).same zx⟩
def gu:R2:=λx y H Q=>dR x y H Q\/jl x y H Q
theorem lP:OpR X (Pd .Add) gu:=Av.or Bf
theorem G7:gu (.int i) (.int j) H Q=Q (.int (i+j)) H:=by simp [gu,jl,dR]
theorem Hk:gu (.str i) (.str j) H Q=(i.length+j.length<=sizeLine/\Q (.str (i++j)) H):=by simp [gu,jl,dR]
theorem BM:gu (.ref a) (.ref b) H Q=((∃xs zs,H a=some (.lst xs)/\H b=some (.lst zs)/\xs.length+zs.length<=sizeLine/\∀p H2,New H p (.lst (xs++zs)) H2->Q (.ref p) H2) \/
  ∃xs ys,H a=some (.tup xs)/\H b=some (.tup ys)/\xs.length+ys.length<=sizeLine/\∀p H2,zj H H2->H2 p=some (.tup (xs++ys))->Q (.ref p) H2):=by
 unfold gu;rw [nK];apply propext;constructor
 .rintro (h|⟨a',G,xs,ys,z,F,h⟩)
  .exact .inl h
  .cases z;cases F;exact .inr ⟨xs,ys,h⟩
 .rintro (h|⟨xs,ys,h⟩)
  .exact .inl h
  .exact .inr ⟨a,b,xs,ys,rfl,rfl,h⟩
def xR:List V->Hp->VK->Prop:=λxs H Q=>∃i j,xs=[.int i,.int j]/\(0<j/\j<2 ^ 64)/\∀p H2,New H p (.tup [.int (i / j),.int (i % j)]) H2->Q (.ref p) H2
theorem M7:xR [.int i,.int j] H Q=((0<j/\j<2 ^ 64)/\∀p H2,New H p (.tup [.int (i / j),.int (i % j)]) H2->Q (.ref p) H2):=by
 apply propext;constructor
 .rintro ⟨F,z,e,h⟩;cases e;exact h
 .exact λh=>⟨i,j,rfl,h⟩
theorem Fo:zM X (.builtin "divmod") xR:=by
 intro Go s σ H xs us Q I r h;obtain ⟨i,j,rfl,⟨h1,h2⟩,q⟩:=h;obtain ⟨u,w',rfl,⟨t,rfl⟩,⟨t',rfl⟩⟩:=mZ r;have z:j.natAbs.log2<9000:=by
  have:j.natAbs.log2<64:=(Nat.log2_lt (by lia)).mpr (by lia);lia
 refine divmod_int (by lia) ?_ (.inl (PyProof.noPylong_of_log2 z));rw [Int.fdiv_eq_ediv_of_nonneg i (by lia),Int.fmod_eq_emod_of_nonneg i (by lia)];have hn:H s.heap.objs.size=none:=I.hok.fresh (Nq _);refine ⟨.ref s.heap.objs.size,_,?_,rfl,q _ _ (.mk' hn)⟩;refine I.laid (λb o e=>zv _ e) (Nq _) ⟨by simp only [Oy,PU];rw [Ox];decide,[.int (i / j) s.toks,.int (i % j) (s.toks+1)],.cons ⟨_,rfl⟩ (.cons ⟨_,rfl⟩ .nil),?_⟩;exact ⟨_,NK s.heap rfl,rfl,0,rfl⟩
def Ag:TS:=λ_ _ _=>False
theorem gW{st:Stmt}:W (PS X st Ag):=⟨λ_ _ _ _ _ _ h=>h.elim⟩
def xO(to te:TE):TE:=λσ H Q=>to σ H λx H1=>uR x λl=>(∃xs,H1 l=some (.lst xs))/\te σ H1 λy H2=>uR y λb=>∃xs zs,H2 l=some (.lst xs)/\H2 b=some (.lst zs)/\xs.length+zs.length<=sizeLine/\Q .non (upd H2 l (.lst (xs++zs)))
theorem DV:xO to te σ H Q=to σ H λx H1=>uR x λl=>(∃xs,H1 l=some (.lst xs))/\te σ H1 λy H2=>uR y λb=>∃xs zs,H2 l=some (.lst xs)/\H2 b=some (.lst zs)/\xs.length+zs.length<=sizeLine/\Q .non (upd H2 l (.lst (xs++zs))):=rfl
theorem MQ{o e:N0}(ho:W (PE X o to))(he:W (PE X e te))(ZI:OT o "extend" X.env (Os o X.env)=Os o X.env:=by rfl)(ZH:(Z3.endLine==cpos.line)=true:=by rfl)(Z:aw e=true:=by rfl):W (PE X (.Call (.Attribute o "extend" Z3) [e] [] cpos) (xO to te)):=by
 refine ⟨?_⟩;have ho:=ho.h;have he:=he.h;intro Go s σ H Q I h;have hs:NZ [e] X.env=[(false,Os e X.env)]:=cT Z;refine O4 ZI (by rw [hs];rfl) ZH rfl (thn (ho Go s σ H _ I h) λv s1=>x5e λx H1 G z Ys=>?_);obtain ⟨l,ex,⟨xs,hx⟩,q1⟩:=Ys;subst ex;obtain ⟨h1,h2⟩:=gX (T:="list") G z (.inl ⟨rfl,xs,SqL.of hx⟩);refine ⟨"list","list.extend",RE,PySem.F.slot_list_extend,PySem.F.type_list_extend,h1,h2,?_⟩;rw [hs];refine Calls.callWith_builtin rfl (Calls.evalArgs_plain ?_);refine Calls.spliced_cons (thn (he Go s1 σ H1 _ G q1) λu s2=>x5e λy H2 I2 J O=>Calls.spliced_nil ?_);obtain ⟨b,S,WV,zs,hl,hb,U,q⟩:=O;subst S;exact DZ Go s2 σ H2 (.ref l) [.ref b] v [u] Q I2 z (.cons J .nil) ⟨l,b,WV,zs,rfl,rfl,hl,hb,U,q⟩
end
section
variable {K:Nu}{g:TG}{tb:TS}{D:aP}{σ:St}{H:Hp}{tl:TE}{R:It->Hp->Prop}{tt:TT}{te:TE}{Q:VK}{a:Addr}{o:Obj}{kvs:List (Key×V)}
theorem CY:nL tl σ H R=tl σ H λx H1=>uR x λa=>∃o kvs,H1 a=some (.frz o (.dK kvs))/\R (Itd a o kvs) H1:=by
 unfold nL uR;congr;funext x H1;apply propext;constructor
 .rintro ⟨a,o,kvs,e,h⟩;exact ⟨a,e,o,kvs,h⟩
 .rintro ⟨a,e,o,kvs,h⟩;exact ⟨a,o,kvs,e,h⟩
theorem zT.bG(G:Nat->St->List V->Hp->Prop)(J:∀i τ ys H,G i τ ys H->ys.length<sizeLine)(ha:∀i τ ys H,G i τ ys H->H a=some (.frz o (.dK kvs)))(W:G 0 τ [] H)(hs:∀(N:St->List V->Hp->Prop) i p τ ys H,kvs[i]?=some p->G i τ ys H->(∀τ ys H,G (i+1) τ ys H->N τ ys H)->g (kV p.1) τ H λF H4=>tt F H4 λok H5=>dD N ys F te ok H5)(hd:∀τ ys H,G kvs.length τ ys H->∀D H',New H D (.lst ys) H'->Q (.ref D) H'):zT (Itd a o kvs) g tt te τ H Q:=by
 refine ⟨λi m τ ys H=>m=kvs.length-i/\i<=kvs.length/\G i τ ys H,⟨kvs.length,by simp,Ot _,W⟩,?_⟩;rintro i m τ ys H2 ⟨rfl,hi,p⟩;refine ⟨J i τ ys H2 p,?_⟩;have q:=ha i τ ys H2 p;by_cases S:i<kvs.length
 .refine .inr ⟨⟨q,S⟩,λx H' y=>?_⟩;obtain ⟨e,z,J,ex⟩:=y;subst e ex;exact hs (λF ys H=>∃O,O<kvs.length-i/\O=kvs.length-(i+1)/\i+1<=kvs.length/\G (i+1) F ys H) i z τ ys _ J p λF zs H q=>⟨kvs.length-(i+1),by lia,rfl,S,q⟩
 .have e:i=kvs.length:=by lia
  subst e;exact .inl ⟨⟨q,Nq _⟩,λD U _=>hd τ ys H2 p D _ (.mk' U)⟩
theorem BZ{t:TS}:tFz t D σ H = ∃a kvs,H a=some (.dK kvs)/\∀o,t (D.Vg a kvs) σ (upd H a (.frz o (.dK kvs))):=rfl
end
end L2
namespace L2
open PySem PySem.Spec PyProof.Rows
section
variable {α β:Type}
def look(t:List (Str×α))(n:Str):Option α:=(t.find? λp=>decide (p.1=n)).map (·.2)
def bF(t:List (Str×α))(n:Str)(a:α):List (Str×α):=if (look t n).isSome then t.map λp=>if p.1=n then (p.1,a) else p else t++[(n,a)]
def aQ(t:List (Str×α))(n:Str):List (Str×α):=t.filter λp=>!decide (p.1=n)
def names(t:List (Str×α)):List Str:=t.map (·.1)
theorem sj:look ([]:List (Str×α)) n=none:=rfl
theorem cN{p:Str×α}{t:List (Str×α)}:look (p::t) n=if p.1=n then some p.2 else look t n:=by
 unfold look;by_cases h:p.1=n
 .rw [List.find?_cons_of_pos (by simpa using h),if_pos h];rfl
 .rw [List.find?_cons_of_neg (by simpa using h),if_neg h]
theorem ig{t:List (Str×α)}:look t n=none↔n∉names t:=by
 induction t with
 | nil=>simp [look,names]
 | cons p t z =>
  rw [cN];by_cases e:p.1=n
  .rw [if_pos e];simp [names,e]
  .rw [if_neg e,z];simp [names];exact λ_=>λh=>e h.symm
theorem Nn{t:List (Str×α)}:names (bF t n a)=if (look t n).isSome then names t else names t++[n]:=by
 unfold bF names;by_cases h:(look t n).isSome
 .rw [if_pos h,if_pos h,Oi];refine O6 λp _=>?_;show (if p.1=n then (p.1,a) else p).1=p.1;split<;>rfl
 .rw [if_neg h,if_neg h,Oa];rfl
theorem nA{t:List (Str×α)}(nd:(names t).Nodup):(names (bF t n a)).Nodup:=by
 rw [Nn];by_cases h:(look t n).isSome
 .rw [if_pos h];exact nd
 .rw [if_neg h];have:look t n=none:=by simpa using h
  rw [ig] at this;rw [QI];refine ⟨nd,by simp,λx hx y z e=>?_⟩;have:y=n:=by simpa using z
  subst this;subst e;contradiction
theorem KS{t:List (Str×α)}(nd:(names t).Nodup):(names (aQ t n)).Nodup:=by
 unfold names aQ;exact nd.sublist (List.Sublist.map _ List.filter_sublist)
theorem Ga{t:List (Str×α)}:look (t.map λp=>if p.1=n then (p.1,a) else p) m=if m=n then (if (look t n).isSome then some a else none) else look t m:=by
 induction t with
 | nil=>by_cases h:m=n<;>simp [look,h]
 | cons p t F =>
  rw [Om,cN,F,cN,cN];by_cases e:p.1=n
  .rw [if_pos e,if_pos e];show (if p.1=m then some a else _)=_;by_cases h:m=n
   .rw [if_pos (by rw [e,h]),if_pos h];rfl
   .rw [if_neg (λz=>h (by rw [<- z,e])),if_neg h,if_neg h,if_neg (λz=>h (by rw [<- z,e]))]
  .rw [if_neg e,if_neg e];by_cases h:m=n
   .rw [if_pos h,if_pos h,if_neg (λz=>e (by rw [z,h]))]
   .rw [if_neg h,if_neg h]
theorem LC{t u:List (Str×α)}:look (t++u) m=(look t m).or (look u m):=by
 induction t with
 | nil=>simp [sj]
 | cons p t z =>
  rw [cons_append,cN,cN,z];by_cases h:p.1=m
  .rw [if_pos h,if_pos h];rfl
  .rw [if_neg h,if_neg h]
theorem vX{t:List (Str×α)}:look (bF t n a) m=if m=n then some a else look t m:=by
 unfold bF;by_cases h:(look t n).isSome
 .rw [if_pos h,Ga,if_pos h]
 .rw [if_neg h,LC,cN];have hn:look t n=none:=by simpa using h
  by_cases e:m=n
  .rw [if_pos e,e,hn,if_pos rfl];rfl
  .rw [if_neg e,if_neg (λz=>e z.symm),sj,Option.or_none]
theorem Iv{t:List (Str×α)}:look (aQ t n) m=if m=n then none else look t m:=by
 induction t with
 | nil=>by_cases h:m=n<;>simp [look,aQ,h]
 | cons p t F =>
  by_cases e:p.1=n
  .have:aQ (p::t) n=aQ t n:=by unfold aQ;rw [Qg (by simpa using e)]
   rw [this,F,cN];by_cases h:m=n
   .rw [if_pos h,if_pos h]
   .rw [if_neg h,if_neg h,if_neg (λz=>h (by rw [<- z,e]))]
  .have:aQ (p::t) n=p::aQ t n:=by unfold aQ;rw [Qf (by simpa using e)]
   rw [this,cN,cN,F];by_cases h:m=n
   .rw [if_pos h,if_pos h,if_neg (λz=>e (by rw [z,h]))]
   .rw [if_neg h,if_neg h]
def AD(t u:List (Str×α)):Prop:=∀n,look t n=look u n
theorem AD.names{t u:List (Str×α)}(h:AD t u)(F:(names t).Nodup)(G:(L2.names u).Nodup):(L2.names t).Perm (L2.names u):=by
 refine (List.perm_ext_iff_of_nodup F G).mpr λn=>?_;have h1:=h n;constructor
 .intro hn;refine Px λz=>?_;rw [ig.mpr z] at h1;exact ig.mp h1 hn
 .intro hn;refine Px λz=>?_;rw [ig.mpr z] at h1;exact ig.mp h1.symm hn
def Dct(R:V->α->Prop):List (Str×V)->List (Str×α)->Prop:=Paired λp q=>p.1=q.1/\R p.2 q.2
theorem Dct.names{t:List (Str×α)}(h:Dct R kvs t):kvs.map (·.1)=L2.names t:=by
 induction h with
 | nil=>rfl
 | @cons p q l m r _ z=>show p.1::l.map (·.1)=q.1::m.map (·.1);rw [r.1,z];rfl
theorem Dct.length{t:List (Str×α)}(h:Dct R kvs t):kvs.length=t.length:=Paired.length h
theorem Dct.imp{t:List (Str×α)}(h:Dct R kvs t)(f:∀v a,R v a->S v a):Dct S kvs t:=Paired.yz h λp q z=>⟨z.1,f _ _ z.2⟩
theorem Dct.look{t:List (Str×α)}(h:Dct R kvs t)(n:Str):(∃v a,L2.look kvs n=some v/\L2.look t n=some a/\R v a)\/(L2.look kvs n=none/\L2.look t n=none):=by
 induction h with
 | nil=>exact .inr ⟨rfl,rfl⟩
 | cons r _ z =>
  rw [cN,cN,<- r.1];split
  .exact .inl ⟨_,_,rfl,rfl,r.2⟩
  .exact z
theorem Dct.put{t:List (Str×α)}(h:Dct R kvs t)(n:Str)(r:R v a):Dct R (bF kvs n v) (bF t n a):=by
 have hs:(L2.look kvs n).isSome=(L2.look t n).isSome:=by
  rcases h.look n with ⟨v,a,F,G,_⟩|⟨F,G⟩<;>rw [F,G]<;>rfl
 have hm:Dct R (kvs.map λp=>if p.1=n then (p.1,v) else p) (t.map λp=>if p.1=n then (p.1,a) else p):=by
  clear hs
  induction h with
  | nil=>exact .nil
  | @cons p q _ _ r' _ z =>
   refine .cons ?_ z;show (if p.1=n then (p.1,v) else p).1=(if q.1=n then (q.1,a) else q).1/\R (if p.1=n then (p.1,v) else p).2 (if q.1=n then (q.1,a) else q).2;by_cases e:p.1=n
   .rw [if_pos e,if_pos (by rw [<- r'.1];exact e)];exact ⟨r'.1,r⟩
   .rw [if_neg e,if_neg (by rw [<- r'.1];exact e)];exact r'
 have ha:Dct R (kvs++[(n,v)]) (t++[(n,a)]):=by
  clear hs hm
  induction h with
  | nil=>exact .cons ⟨rfl,r⟩ .nil
  | cons r' _ z=>exact .cons r' z
 unfold bF;rw [hs];split
 .exact hm
 .exact ha
theorem Dct.drop{t:List (Str×α)}(h:Dct R kvs t)(n:Str):Dct R (aQ kvs n) (aQ t n):=by
 induction h with
 | nil=>exact .nil
 | @cons p q _ _ r _ z =>
  unfold aQ at z ⊢;by_cases e:p.1=n
  .rw [Qg (by simpa using e),Qg (by rw [<- r.1];simpa using e)];exact z
  .rw [Qf (by simpa using e),Qf (by rw [<- r.1];simpa using e)];exact .cons r z
theorem Dct.at{t:List (Str×α)}(h:Dct R kvs t):∀{i:Nat}{p:Str×V},kvs[i]?=some p->∃a,t[i]?=some (p.1,a)/\R p.2 a:=by
 induction h with
 | nil=>intro i p e;simp at e
 | @cons x y _ _ r _ z =>
  intro i p e;cases i with
  | zero =>
   have F:x=p:=by simpa using e
   subst F;exact ⟨y.2,by rw [r.1];rfl,r.2⟩
  | succ i=>exact z (by simpa using e)
end
theorem fY:zZ (sk kvs) (.inr n)=look kvs n:=by
 induction kvs with
 | nil=>rfl
 | cons p t F =>
  rw [cN];by_cases e:p.1=n
  .rw [if_pos e];exact iG (show (Sum.inr p.1:Key)=Sum.inr n by rw [e])
  .rw [if_neg e,<- F];exact jk (λz=>e (by injection z))
theorem nX:aL (sk kvs) (.inr n) v=sk (bF kvs n v):=by
 unfold aL bF;have hs:((sk kvs).any λz=>decide (z.1 = .inr n))=(look kvs n).isSome:=by rw [nC,fY]
 rw [hs];split
 .unfold sk;rw [Oi,Oi];refine O6 λp _=>?_;by_cases e:p.1=n
  .simp [e]
  .simp [e]
 .simp [sk]
theorem GK:cB (sk kvs) (.inr n)=sk (aQ kvs n):=by
 induction kvs with
 | nil=>rfl
 | cons p t F =>
  by_cases e:p.1=n
  .have:aQ (p::t) n=aQ t n:=by unfold aQ;rw [Qg (by simpa using e)]
   rw [this,<- F];exact Fc (show (Sum.inr p.1:Key)=Sum.inr n by rw [e])
  .have:aQ (p::t) n=p::aQ t n:=by unfold aQ;rw [Qf (by simpa using e)]
   rw [this];show cB ((Sum.inr p.1,p.2)::sk t) (Sum.inr n)=(Sum.inr p.1,p.2)::sk (aQ t n);rw [<- F];exact Bp (λz=>e (by injection z))
theorem Kl:qT (.ref a) (.str z) H Q = ∃kvs,Rd H a (.dK kvs)/\∃v,zZ kvs (.inr z)=some v/\Q v H:=by
 apply propext;constructor
 .rintro ⟨a',k,kvs,v,G,F,h1,h2,q⟩;cases G;cases k with
  | inl i=>cases F
  | inr x=>cases F;exact ⟨kvs,h1,v,h2,q⟩
 .rintro ⟨kvs,h1,v,h2,q⟩;exact ⟨a,.inr z,kvs,v,rfl,rfl,h1,h2,q⟩
theorem Jh:jl (.ref a) (.ref b) H Q = ∃xs ys,H a=some (.tup xs)/\H b=some (.tup ys)/\xs.length+ys.length<=sizeLine/\∀p H2,zj H H2->H2 p=some (.tup (xs++ys))->Q (.ref p) H2:=by
 apply propext;constructor
 .rintro ⟨a',G,xs,ys,z,F,h⟩;cases z;cases F;exact ⟨xs,ys,h⟩
 .rintro ⟨xs,ys,h⟩;exact ⟨a,b,xs,ys,rfl,rfl,h⟩
theorem Kr{k j:Nat}{p pos:Pos}(G:GC X.prog X.w X.K X.mg X.base cm j x C ps sp)(hr:zK cm k X.A)(hg:Gl X x)(z:j+1<=k:=by decide)(J:(x==("__debug__":Str))=false:=by decide):
  PE X (.Call (.Name x p) [] [] pos) (jX C sp cb):=by
 obtain ⟨f,fd,F,hm,M,hb⟩:=G.ex;intro Go s σ H Q I h;exact Eb M F (hr.mono z) hg hm hb .nil i9 J Go s σ H Q I (λy dx hx hd ne=>h y dx _ (.mk' hx hd ne))
theorem yO{k j:Nat}{p pos:Pos}(G:GC X.prog X.w X.K X.mg X.base cm j x C ps sp)(hr:zK cm k X.A)(hg:Gl X x)(z:j+1<=k:=by decide)(F:(x==("__debug__":Str))=false:=by decide):
  W (PE X (.Call (.Name x p) [] [] pos) (jX C sp cb)):=⟨Kr G hr hg z F⟩
def rn:R2:=λx y H Q=>∃p xs,y = .ref p/\(H p=some (.lst xs)\/H p=some (.tup xs))/\ah x=true/\xs.all ah=true/\Q (.bl (!inV x xs)) H
theorem yo(G:X.A.units<cLine):OpR X (Of .NotIn) rn:=HM.weak λx y H Q h=>by
 obtain ⟨p,xs,e,h,z,F,q⟩:=h;exact ⟨p,xs,e,h.elim (λh=>.inl (SqL.of h)) (λh=>.inr (SqT.of h)),z,F,by simpa using q⟩
theorem Ja{p:Addr}:rn x (.ref p) H Q = ∃xs,(H p=some (.lst xs)\/H p=some (.tup xs))/\ah x=true/\xs.all ah=true/\Q (.bl (!inV x xs)) H:=by simp [rn]
theorem p0:(sk kvs).length=kvs.length:=by simp [sk]
section
variable {M:Model}{A:NP}{E:Value->we->Prop}{s:we}
theorem AL{id:String}(G:args.any (·.1)=false)(z:F.any (·.1.isNone)=false)(h:NF M A (evalArgs (.builtin id) true args F) (λa s1=>NF M A (call (.builtin id) a.pos a.kw) Q E s1) E s):NF M A (QE pos (.builtin id) [] args F) Q E s:=by
 unfold QE;refine fv (N9 (OG h (λa s1 h1=>fv (PN ?_)) λ_ _ x=>x));simp only [G,z,QQ];exact fv (Nv (fv (OG h1 (λr s2 hr=>fv (N9 (wpAny_point (Nv hr)))) λ_ _ x=>x)))
end
theorem IP{W p2 S p4 U:Pos}{a r:Addr}{k:Int}{t:Tok}(J:env.scope.kind = .function)(hl:env.kindOf x=some .local)(hn:s.heap.Ns env.locals m)(hm:m x=some (.ref a))(ha:Rg s.heap a its)(z:its[0]?=some (.ref r))(hr:Rg s.heap r ks)(h1:ks[1]?=some (.int k t))(hd:(x==("__debug__":Str))=false)(q:∀tk,Q (.int k t) { s with toks:=tk }):NF (NL prog w) A (Os (.Subscript (.Subscript (.Name x W) (.Constant (.int 0) F p2) S) (.Constant (.int 1) O p4) U) env) Q E s:=by
 refine Subscript_ (Subscript_ (wpAny_Name (Rr J hl hn hm ?_) hd));refine RN ?_;have G:0<its.size:=(OP.mp z).1;have s1:1<ks.size:=(OP.mp h1).1;refine Qk (x:=.ref r) (T:="tuple") ha.typeIs RO.lookup (getItem_tuple (j:=0) ha (by decide) (by decide) (by simp [Sf,G]) z ⟨rfl,?_⟩);refine RN ?_;exact Qk (x:=.int k t) (T:="tuple") hr.typeIs RO.lookup (getItem_tuple (j:=1) hr (by decide) (by decide) (by simp [Sf];lia) h1 ⟨rfl,q _⟩)
def cF(pos:Pos)(qual:Str)(H:Hp)(P:Addr):Prop :=
 H P=some (.tbl #[])\/∃c' oc vs t,H P=some (.tbl #[OE pos.line,OE pos.col,.ref c'])/\H c'=some (.frz oc (.own 0))/\oc.data = .fields vs/\vs[1]?=some (.str qual t)
structure fM(mg:Str->Option Value)(base:Heap)(Z2:Value)(P:Addr):Prop where
 cd:∃c,Z2 = .ref c/\PySem.W.CodeHd base c P
 bt:∃bm o,mg "__builtins__"=some (.ref bm)/\bm≠QY/\bm≠NA/\base.get? bm=some o/\o.cls = .type "module"/\o.dict=some QY/\o.data = .plain
def iI(H H':Hp)(P:Addr):Prop:=∀a o,a≠P->H a=some o->H' a=some o
theorem Fx(LB:fM X.mg X.base X.env.code P)(WU:defaultsOf ZR X.env=([],[]))(a0:RU scope X.env=pure [])(I:Inv X Go σ H s)(hT:cF pos (X.env.qual++"<lambda>") H P)(h:∀(f c':Addr)(F:Value)(h':Heap)(tk:Nat)(H':Hp),f+1=h'.objs.size->s.heap.objs.size<=f->h'.CodeRec (.ref c') (X.env.qual++"<lambda>") ->
   h'.get? f=some (kla_obj "<lambda>" (X.env.qual++"<lambda>") ZR Zv scope [] ((X.mg "__name__").getD .none) c' F)->cF pos (X.env.qual++"<lambda>") H' P->iI H H' P->Inv X Go σ H' { s with heap:=h',toks:=tk }->Q (.ref f) { s with heap:=h',toks:=tk }):
  NF (NL X.prog X.w) X.A (Os (.Lambda ZR Zv scope pos) X.env) Q E s:=by
 refine PySem.W.kla_eval WU ?_;obtain ⟨c,hc,C⟩:=LB.cd;obtain ⟨bm,ob,b1,b2,b3,b4,b5,b6,b7⟩:=LB.bt;obtain ⟨og,a8,a6,eg,a7⟩:=id I.ok.mod.glob;have ak:s.heap.Ns NA X.mg:=I.ok.mod.glob.keeps I.bk;have Z:∀{b:Addr}{o:Obj}{u:HO},X.base.get? b=some o->H P=some u->b≠P:=λe G z=>by
  have:=(I.bs _ _ e).2;rw [z,G] at this;cases this
 rcases hT with G|⟨c',oc,vs,t,G,Yy,hd,hv⟩
 .have S:s.heap.get? P=some (tabObj #[]):=I.hok P _ G;refine PySem.W.kla_makeFunction (mg:=X.mg) a0 I.ok.glob ak hc (C.keeps I.bk) S trivial rfl (Z eg G) ⟨bm,ob,b1,b2,b3,Z b4 G,I.bk _ _ b4,b5,b6,b7⟩ λc' F h' tk hx J ZQ ai aj=>?_;obtain ⟨a5,oc,vs,t,e2,U,hd,hv⟩:=ai;cases e2;have a3:P<s.heap.objs.size:=NR S;have cP:c'≠P:=λz=>by rw [z] at J;exact absurd a3 (SK.mpr J)
  have ab:∀{b:Addr}{u:HO},H b=some u->b≠c':=λe z=>by
   have:=I.hok.lt e;rw [z] at this;exact absurd this (SK.mpr J)
  have av:∀{b:Addr}{u:Obj},s.heap.get? b=some u->b≠c':=λe z=>by
   have:=NR e;rw [z] at this;exact absurd this (SK.mpr J)
  have kp:∀b o,b≠P->s.heap.get? b=some o->(h'.push (kla_obj "<lambda>" (X.env.qual++"<lambda>") ZR Zv scope [] ((X.mg "__name__").getD .none) c' F)).get? b=some o:=λb o n e=>zv _ (hx b o n e)
  let H':Hp:=upd (upd H P (.tbl #[OE pos.line,OE pos.col,.ref c'])) c' (.frz oc (.own 0))
  have O:∀b,b≠P->b≠c'->H' b=H b:=λb n1 n2=>by show upd _ c' _ b=H b;rw [zd n2,zd n1]
  have ag:H' P=some (.tbl #[OE pos.line,OE pos.col,.ref c']):=by show upd _ c' _ P=_;rw [zd (NO cP),zx]
  have aT:H' c'=some (.frz oc (.own 0)):=zx;have nP:∀b,H b=none->b≠P:=λb e z=>by rw [z,G] at e;cases e
  have ext:∀b u,H b=some u->(∀ps,u≠.tbl ps)->H' b=some u:=λb u e n=>by rw [O b (λz=>by rw [z,G] at e;cases e;exact n _ rfl) (ab e)];exact e
  have un:Un X.fs [] H H' s.heap (h'.push (kla_obj "<lambda>" (X.env.qual++"<lambda>") ZR Zv scope [] ((X.mg "__name__").getD .none) c' F)):=by
   refine ⟨λb o e n _ _=>kp b o (nP b n) e,λb o e n _ _=>⟨o.slots,kp b o (nP b n) e⟩,λb o e n _=>by rw [O b (nP b n) (av e)];exact n,λb o e _=>?_,λb xs e=>ext b _ e λ_=>nofun,λb o u e=>ext b _ e λ_=>nofun,λb ps e=>?_⟩
   .by_cases z:b=P
    .exact ⟨_,by rw [z];exact zv _ aj⟩
    .exact ⟨o,kp b o z e⟩
   .by_cases z:b=P
    .rw [z,G] at e;cases e;exact ⟨#[OE pos.line,OE pos.col,.ref c'],by rw [z,ag];simp⟩
    .exact ⟨#[],by rw [O b z (ab e),e];simp⟩
  have hok:HOk X.prog X.w H' (h'.push (kla_obj "<lambda>" (X.env.qual++"<lambda>") ZR Zv scope [] ((X.mg "__name__").getD .none) c' F)):=λa o e=>by
   by_cases z1:a=c'
   .rw [z1,aT] at e;cases e;rw [z1];exact ⟨zv _ U,⟨_,zv _ U⟩⟩
   .by_cases z2:a=P
    .rw [z2,ag] at e;cases e;rw [z2];show Heap.get? _ P=_;exact zv _ aj
    .rw [O a z2 z1] at e;refine (I.hok a o e).stay (λb u hb q=>kp b u ?_ q) (λb q=>ext b _ q λ_=>nofun) λb xs q=>ext b _ q λ_=>nofun;rcases hb with rfl|hb
     .exact z2
     .intro z;rw [z,G] at hb;cases hb
  refine h h'.objs.size c' F _ tk H' (by rw [RQ]) (Pj (OI J ZQ)) ⟨c',oc,vs,t,rfl,zv _ U,hd,hv⟩ (NK _ rfl) (.inr ⟨c',oc,vs,t,ag,aT,hd,hv⟩) (λa o n e=>by rw [O a n (ab e)];exact e) (I.un un hok)
 .have S:s.heap.get? P=some (tabObj #[OE pos.line,OE pos.col,.ref c']):=I.hok P _ G;have a4:s.heap.get? c'=some oc:=(I.hok c' _ Yy).1;refine PySem.W.kla_makeFunctionHit (mg:=X.mg) (cv:=.ref c') a0 I.ok.glob ak hc (C.keeps I.bk) S ?_ ?_ ⟨bm,ob,b1,b2,b3,Z b4 G,I.bk _ _ b4,b5,b6,b7⟩ λF h' tk hk hsz=>?_
  .exact trivial
  .simp [codeAmong,OE]
  .exact h h'.objs.size c' F _ tk H (by rw [RQ]) hsz ⟨c',oc,vs,t,rfl,zv _ (hk _ _ a4),hd,hv⟩ (NK _ rfl) (.inr ⟨c',oc,vs,t,G,Yy,hd,hv⟩) (λ_ _ _ e=>e) (I.kept λb o e=>zv _ (hk b o e))
def nH(H:Hp)(a:Addr)(k:Int):Prop:=∃r Zo y ys,H a=some (.tup (.ref r::Zo))/\H r=some (.tup (y::.int k::ys))
def gy(P:Addr)(pos:Pos)(qual:Str)(v:V)(H1:Hp)(Q:VK):Prop:=uR v λl=>∃(as:List Addr)(ks:List Int),H1 l=some (.lst (as.map V.ref))/\cF pos qual H1 P/\as.length<64/\Paired (nH H1) as ks /\
 ∀(D:Addr)(zs:List (Int×Addr))(H2:Hp),iI H1 H2 P->cF pos qual H2 P->H1 D=none->D≠P->D≠sysModules->H2 D=some (.lst (zs.map λz=>V.ref z.2))->zs.Perm (ks.zip as)->zs.Pairwise (λp q=>p.1<=q.1)->Q (.ref D) H2
def rg(P:Addr)(pos:Pos)(qual:Str)(ta:TE):TE:=λσ H Q=>ta σ H λv H1=>gy P pos qual v H1 Q
theorem BL:rg P pos qual ta σ H Q=ta σ H λv H1=>gy P pos qual v H1 Q:=rfl
theorem IH:gy P pos qual (.ref l) H1 Q = ∃(as:List Addr)(ks:List Int),H1 l=some (.lst (as.map V.ref))/\cF pos qual H1 P/\as.length<64/\Paired (nH H1) as ks /\
 ∀(D:Addr)(zs:List (Int×Addr))(H2:Hp),iI H1 H2 P->cF pos qual H2 P->H1 D=none->D≠P->D≠sysModules->H2 D=some (.lst (zs.map λz=>V.ref z.2))->zs.Perm (ks.zip as)->zs.Pairwise (λp q=>p.1<=q.1)->Q (.ref D) H2:=mh
theorem AH{as:List Addr}(h:zp (as.map V.ref) its):its=as.map Ny:=by
 induction as generalizing its with
 | nil=>cases h;rfl
 | cons a as z =>
  cases h with
  | cons r F=>rw [z F,show _=Ny a from r];rfl
theorem wM(as:List Addr):zp (as.map V.ref) (as.map Ny):=by
 induction as with
 | nil=>exact .nil
 | cons a as z=>exact .cons rfl z
theorem Ej(h:ps.Perm (l.map λz=>(z.1,Ny z.2))):∃zs:List (Int×Addr),zs.Perm l/\ps=zs.map λz=>(z.1,Ny z.2):=by
 let g:Int×Value->Int×Addr:=λp=>(p.1,match p.2 with | .ref a=>a|_=>0)
 have G:(l.map λz=>(z.1,Ny z.2)).map g=l:=by
  rw [Oi];have:(g∘λz:Int×Addr=>(z.1,Ny z.2))=id:=rfl;rw [this,List.map_id]
 refine ⟨ps.map g,by have:=h.map g;rw [G] at this;exact this,?_⟩;rw [Oi];have:∀p∈ps,((λz:Int×Addr=>(z.1,Ny z.2))∘g) p=p:=λp F=>by
  obtain ⟨z,_,rfl⟩:=PF.mp (h.mem_iff.mp F);rfl
 exact (List.map_id ps).symm.trans (O6 λp F=>(this p F).symm)
theorem ve:∀(ks:List Int)(as:List Addr),ks.zip (as.map Ny)=(ks.zip as).map λz=>(z.1,Ny z.2)
 | [],_=>rfl
 | _::_,[]=>rfl
 | k::ks,a::as=>by rw [Om,Qv,Qv,Om,ve ks as]
theorem aY{α β:Type}{R:α->β->Prop}:∀{l:List α}{m:List β},Paired R l m->∀{i:Nat}{a:α}{b:β},l[i]?=some a->m[i]?=some b->R a b
 | _,_,.nil,i,a,b,h,_=>by simp at h
 | _,_,.cons r t,0,a,b,h,h'=>by
  simp at h h';subst h h';exact r
 | _,_,.cons r t,i+1,a,b,h,h'=>aY t (by simpa using h) (by simpa using h')
theorem zW{α β:Type}{R:α->β->Prop}{l:List α}{m:List β}(h:Paired R l m):l.length=m.length:=Paired.length h
theorem LZ{k:Nat}{p pos X2 kp p1 p2 p3 p4 p5:Pos}(LB:fM X.mg X.base X.env.code P)(hr:zK cm k X.A)(hg:Gl X "sorted")(hm:X.mg "sorted"=none)(ha:PE X a ta)(WU:defaultsOf ZR X.env=([],[]))(bp:RU scope X.env=pure [])(XR:∀(q:Str)(pm cd ct v:Value),bindArgs (kla_fn "<lambda>" q ZR (.Subscript (.Subscript (.Name x p1) (.Constant (.int 0) j1 p2) p3) (.Constant (.int 1) j2 p4) p5) scope [] pm cd ct) ⟨[v],[]⟩=pure [(x,v)])(WT:scope.names=[(x,.local)])(X7:scope.kind = .function)(b1:scope.isCoroutine=false)(aj:scope.isGenerator=false)(hp:aw a=true:=by rfl)(Y5:(x==("__debug__":Str))=false:=by decide):
  PE X (.Call (.Name "sorted" p) [a] [⟨some (yv "key"),.Lambda ZR (.Subscript (.Subscript (.Name x p1) (.Constant (.int 0) j1 p2) p3) (.Constant (.int 1) j2 p4) p5) scope X2,kp⟩] pos) (rg P X2 (X.env.qual++"<lambda>") ta):=by
 intro Go s σ H Q I h;have hs:NZ [a] X.env=[(false,Os a X.env)]:=cT hp;have hA:=dX ha dQ (hs:=hs) pos Go s σ H (λys H1=>∃y,ys=[y]/\gy P X2 (X.env.qual++"<lambda>") y H1 Q) I (by
  show ta σ H λx H1=>∃y,[x]=[y]/\gy P X2 (X.env.qual++"<lambda>") y H1 Q;have e:(λ(x:V)(H1:Hp)=>∃y,[x]=[y]/\gy P X2 (X.env.qual++"<lambda>") y H1 Q)=λv H1=>gy P X2 (X.env.qual++"<lambda>") v H1 Q:=by
   funext x H1;apply propext;constructor
   .rintro ⟨y,e,h⟩;cases e;exact h
   .exact λh=>⟨x,rfl,h⟩
  rw [e];exact h)
 refine ON (dN I hg hm R5 (AL (by rw [hs];rfl) rfl ?_));rw [hs] at hA ⊢;refine evalArgs_kwB rfl (thn hA λus s1=>x5e λvs H1 I1 r1 q1=>kws_cons ?_);obtain ⟨y,rfl,l,rfl,as,ks,hl,hT,Yc,hK,q⟩:=q1
 .cases r1 with
  | cons r rr =>
   cases rr;cases r;refine Fx LB WU bp I1 hT λf c' bx h2 tk H2 hsz ag Yb hf a0 hL O=>kws_nil ?_;have ba:l≠P:=λz=>by
    rcases hT with G|⟨_,_,_,_,G,_⟩ <;> · rw [z,G] at hl;cases hl
   have Yp:=hL _ _ ba hl;obtain ⟨its,rv,⟨o,n,e1,e2,e3,e4⟩,hz⟩:=O.list (SqL.of Yp);have a6:=AH rv;subst a6;obtain ⟨m,F⟩:=O.fr;have bq:=zW hK;have XF:∀b o,h2.get? b=some o->b≠X.env.locals->X.base.get? b=none->(b,o)∈gJ X.base h2 X.env.locals:=λb o e n1 n2=>DC n1 n2 e;refine PyProof.Rows.ksk_sorted (b:=false) (kz:=ks) (f:=.ref f) (h₀:=X.base) (L:=X.env.locals) (news:=gJ X.base h2 X.env.locals) F DH (vs:=as.map Ny) (l:=l) ⟨o,e1,e2,n,e4⟩ (by rw [KE];exact bq.symm) (by rw [KE];exact Yc) (PyProof.Rows.ksk_s1 _ _) (λx=>PyProof.Rows.ksk_l1 _ _) (λx=>PyProof.Rows.ksk_t1 _ _) (λi v k' hv Zr h3 a4 own U N3=>?_) λD h3 a4 out c U N3 lt ko=>?_
   .have Z:∀b o,b≠X.env.locals->h2.get? b=some o->h3.get? b=some o:=λb o n e=>by
     cases S:X.base.get? b with
     | some u =>
      have:=F.keep b u S;rw [show h2.get? b=some u from this] at e;cases e;exact U.keep b _ S
     | none=>exact (N3 (b,o) (OQ _ (XF b o e n S))).1
    rw [NJ] at hv;obtain ⟨ai,bA,rfl⟩:=NV.mp hv;obtain ⟨r,Zo,y,ys,k1,k2⟩:=aY hK bA Zr;have tt:∀{b xs},H1 b=some (.tup xs)->∃its,zp xs its/\Rg h3 b its.toArray:=λ{b xs} e=>by
     have bP:b≠P:=λz=>by
      rcases hT with G|⟨_,_,_,_,G,_⟩ <;> · rw [z,G] at e;cases e
     have e2:=hL _ _ bP e;obtain ⟨_,its,rv,ob,g1,g2⟩:=O.hok b _ e2;have bL:b≠X.env.locals:=λz=>by rw [z,O.free] at e2;cases e2
     exact ⟨its,rv,ob,Z _ _ bL g1,g2⟩
    obtain ⟨b2,WY,t1⟩:=tt k1;obtain ⟨b4,a9,t2⟩:=tt k2;cases WY with
    | cons ra _ =>
    cases ra;cases a9 with
    | cons rb rc =>
    cases rc with
    | cons rd _ =>
    obtain ⟨a7,rfl⟩:=rd;have fL:f≠X.env.locals:=λz=>by
     have:=I1.lt;rw [<- z] at this;exact absurd this (SK.mpr ag)
    have bB:=Z _ _ fL hf;have a3:h3.CodeRec (.ref c') (X.env.qual++"<lambda>"):=by
     obtain ⟨c2,oc,vs,t,e,g1,g2,g3⟩:=Yb;refine ⟨c2,oc,vs,t,e,Z _ _ (λz=>?_) g1,g2,g3⟩;obtain ⟨m',⟨ol,es,ep,el,a5,_⟩,_⟩:=id O.loc;rw [z] at g1;rw [show h2.get? X.env.locals=some ol from el] at g1;cases g1;rw [g2] at a5;cases a5
    refine Su (PySem.W.kla_callFunE (by show X.A.depth<recursionLimit;exact hr.depth) bB rfl b1 aj rfl a3 ?_);rw [XR];refine Nv (wpAny_newFunctionEnv (λy hy=>?_) (λy hy=>?_) (λh4 a8 bc=>?_) X7)
    .rw [WT,NG] at hy;rw [hy];nofun
    .rw [NG] at hy;rw [hy];show scope.names.lookup x=_;rw [WT];simp [PL]
    .have k4:∀b o,h3.get? b=some o->h4.get? b=some o:=λb o e=>bc.extBut b o (Oh (NR e)) (zv _ e);refine ⟨(I.ok.mod.nolimit.keeps U.keep).keeps k4,PySem.W.kla_codeExpr ?_⟩;refine IP (m:=λy=>([(x,Ny ai)]:List (Str×Value)).reverse.lookup y) (a:=ai) (r:=r) (k:=k') (t:=a7) X7 ?_ a8 (by simp [PL]) (its:=(Ny r::_).toArray) ⟨t1.choose,k4 _ _ t1.choose_spec.1,t1.choose_spec.2⟩ (by simp) (ks:=(_::PB k' a7::_).toArray) ⟨t2.choose,k4 _ _ t2.choose_spec.1,t2.choose_spec.2⟩ (by simp) Y5 λb3=>?_
     .show scope.names.lookup x=_;rw [WT];simp [PL]
     .exact PyProof.Rows.KskEnd.intro (news':=gJ X.base h2 X.env.locals++own) ⟨U.ns.keeps k4,λb o e=>k4 _ _ (U.keep b o e),U.above⟩ (λp hp=>⟨k4 _ _ (N3 p hp).1,(N3 p hp).2⟩) λ_ h=>h
   .obtain ⟨ps,av,b0,bZ⟩:=ko;rw [ve] at av;obtain ⟨zs,ak,rfl⟩:=Ej av;have fm:(f,kla_obj "<lambda>" (X.env.qual++"<lambda>") ZR (.Subscript (.Subscript (.Name x p1) (.Constant (.int 0) j1 p2) p3) (.Constant (.int 1) j2 p4) p5) scope [] ((X.mg "__name__").getD .none) c' bx)∈gJ X.base h2 X.env.locals:=XF _ _ hf (λz=>by
     have:=I1.lt;rw [<- z] at this;exact absurd this (SK.mpr ag)) (by
     cases S:X.base.get? f with
     | none=>rfl
     | some u =>
      have:=NR (I1.bk _ _ S);exact absurd this (SK.mpr ag))
    have ab:h2.objs.size<=D:=by have:=lt _ fm;rw [<- hsz];exact this
    have D2:H2 D=none:=O.hok.fresh ab;have DP:D≠P:=λz=>by
     rcases a0 with G|⟨_,_,_,_,G,_⟩ <;> · rw [z,G] at D2;cases D2
    have D1:H1 D=none:=by
     cases qd:H1 D with
     | none=>rfl
     | some u=>rw [hL _ _ DP qd] at D2;cases D2
    have eo:out=((zs.map (·.2)).map Ny).toArray:=by
     apply Array.toList_inj.mp;rw [b0];simp
    have lz:zs.length<=as.length:=by rw [ak.length_eq,List.length_zip];lia
    have Z:∀b o,b≠X.env.locals->h2.get? b=some o->h3.get? b=some o:=λb o hb e=>by
     cases S:X.base.get? b with
     | some u =>
      have:=F.keep b u S;rw [show h2.get? b=some u from this] at e;cases e;exact U.keep b _ S
     | none=>exact (N3 (b,o) (ND _ (XF b o e hb S))).1
    have J:∀{b:Addr}{u:HO},H2 b=some u->b≠D:=λe z=>by rw [z,D2] at e;cases e
    have aT:∀{b:Addr}{u:HO},H2 b=some u->b≠X.env.locals:=λe z=>by rw [z,O.free] at e;cases e
    have hm:(zs.map λz:Int×Addr=>V.ref z.2)=(zs.map (·.2)).map V.ref:=by rw [Oi];rfl
    have new:ao X.prog X.w (upd H2 D (.lst (zs.map λz:Int×Addr=>V.ref z.2))) h3 D (.lst (zs.map λz:Int×Addr=>V.ref z.2)):=⟨by rw [KE,Ox];lia,(zs.map (·.2)).map Ny,c,by rw [hm];exact wM _,by rw [<- eo];exact (N3 _ (NX ..)).1⟩;refine ⟨.ref D,upd H2 D (.lst (zs.map λz:Int×Addr=>V.ref z.2)),?_,rfl,q D zs _ (λb u n e=>by rw [zd (λz=>by rw [z,D1] at e;cases e)];exact hL _ _ n e) ?_ D1 DP (Qs (NT O.big ab)) zx ak ?_⟩
    .refine O.step (h':=h3) (g':=s1.gens) (d':=s1.drawn) (t':=a4) (ch:=[]) (λ_ z=>nomatch z) (λb o n _ _ e _=>Z b o n e) (λb o n _ _ e _=>⟨o.slots,Z b o n e⟩) (λb o _ e n=>?_) (λb o _ e=>?_) (λb xs e=>by rw [zd (J e)];exact e) (λb o u e=>by rw [zd (J e)];exact e) (λb ps e=>⟨#[],by rw [zd (J e),e];simp⟩) (λm' bt=>?_) (λb u e=>?_) O.bare
     .rw [zd (λz=>?_)]
      .exact n
      .have:=NR e;rw [z] at this;exact absurd this (SK.mpr ab)
     .by_cases hb:b=X.env.locals
      .obtain ⟨o1,_,_,g1,_⟩:=U.ns;exact ⟨o1,by rw [hb];exact g1⟩
      .exact ⟨o,Z b o hb e⟩
     .have e1:=bt.eq_nsMap;have e2:=F.ns.eq_nsMap;have:m'=m:=e1.trans e2.symm;rw [this];exact U.ns
     .by_cases z:b=D
      .rw [z,zx] at e;cases e;rw [z];exact new
      .rw [zd z] at e;refine (O.hok b u e).stay (λc v hc q=>Z c v ?_ q) (λc q=>by rw [zd (J q)];exact q) λc xs q=>by rw [zd (J q)];exact q
       rcases hc with rfl|hc
       .exact aT e
       .exact aT hc
    .rcases a0 with G|⟨c1,oc,vs,t,G,hc,hr⟩
     .exact .inl (by rw [zd (NO DP)];exact G)
     .exact .inr ⟨c1,oc,vs,t,by rw [zd (NO DP)];exact G,by rw [zd (λz=>by rw [<- z,hc] at D2;cases D2)];exact hc,hr⟩
    .have:=O5.mp bZ;exact this.imp λh=>by simpa using h
def fP(mg:Str->Option Value)(base:Heap):Prop:=∃bm o,mg "__builtins__"=some (.ref bm)/\bm≠QY/\bm≠NA/\base.get? bm=some o/\o.cls = .type "module"/\o.dict=some QY/\o.data = .plain
theorem MF{K:Nu}{k:Nat}{ts:List Addr}(W:∀T∈ts,s₁.heap.get? T=some (tabObj #[]))(hC:∀T∈ts,K.lookup T=none/\∃c,SM K c T=true)(av:fP mg s₁.heap)(KX:K.In s₁.heap)(ab:s₁.heap.Ns NA mg)(hb:s₁.heap.Ns QY mb)(a0:∀x:Str,x≠"__name__"->mb x=Qo x)(Z:s₁.heap.NoLimit)(hg:s₁.gens = #[])(ha:s₁.heap.get? a=some { cls:=.type "list",data:=.seq vs.toArray })(hi:Qq vs ns)(hl:ns.length<=sizeLine)(hr:zK true k callerA)(F:∀base:Heap,K.In base->base.Ns NA mg->fP mg base->zm P w K mg base CX true k fa fd [x] sp)(XR:∀(s:we)(u:Value),BindsTo s fd ⟨[u],[]⟩ [(x,u)])(Xf:∀H:Hp,(∀T∈ts,H T=some (.tbl #[]))->SqL K H a (ns.map V.int)->sp [.ref a] H (λv _=>v = .bl true) λ_ _ _=>False)(a3:∀H e s',CX [] H s₁ (λ_ _ _=>False) e s'->False):
  Qx (NL P w) callerA (.call (.ref fa) ⟨[.ref a],[]⟩) (λr s'=>r = .ok (.ret (.bool true))/\OldK s₁.heap s'.heap/\s'.os=s₁.os/\Qz s'.gens) s₁:=by
 have rv:=wB hi;have ak:=hi.length;have aT:a∉ts:=λh=>by have:=W a h;rw [ha] at this;cases this
 have XS:∀H:Hp,(∀b,H b=none\/(∃o xs,H b=some (.frz o (.lst xs)))\/(b∈ts/\H b=some (.tbl #[])))->(∀T∈ts,H T=some (.tbl #[]))->SqL K H a (ns.map V.int)->HOk P w H s₁.heap->(∀b,H b≠none->b=a\/b∈ts)->(H a≠none->K.lookup a=none) ->
   Qx (NL P w) callerA (.call (.ref fa) ⟨[.ref a],[]⟩) (λr s'=>r = .ok (.ret (.bool true))/\OldK s₁.heap s'.heap/\s'.os=s₁.os/\Qz s'.gens) s₁:=by
  intro H hO ag hS hok hA hK;have G:∀{b:Addr}{o:Obj},s₁.heap.get? b=some o->H b=none->(d6 s₁.heap H).get? b=some o:=λe n=>J6 e n;have ai:∀{b:Addr}{o:Obj},s₁.heap.get? b=some o->(∀xs n,o.data≠.seq xs n)->(∀ps,o.data≠.fields ps)->H b=none:=λ{b o} e d1 d2=>by
   cases q:H b with
   | none=>rfl
   | some u =>
    rcases hA b (by rw [q];simp) with e'|e'
    .subst e';rw [ha] at e;cases e;exact absurd rfl (d1 _ _)
    .rw [W b e'] at e;cases e;exact absurd rfl (d2 _)
  have O:∀{b:Addr}{m:Str->Option Value},s₁.heap.Ns b m->(d6 s₁.heap H).Ns b m:=λ{b m} ⟨o,es,ep,e,d,r⟩=>⟨o,es,ep,G e (ai e (λ_ _=>by rw [d];nofun) (λ_=>by rw [d];nofun)),d,r⟩;have aj:K.In (d6 s₁.heap H):=λb o e=>G (KX b o e) (by
   cases q:H b with
   | none=>rfl
   | some u =>
    rcases hA b (by rw [q];simp) with e'|e'
    .subst e';rw [hK (by rw [q];simp)] at e;cases e
    .rw [(hC b e').1] at e;cases e)
  have hM:Mod K mg (d6 s₁.heap H):=⟨aj,O ab,⟨mb,O hb,a0⟩,let ⟨mc,h1,h2⟩:=Z;⟨mc,O h1,h2⟩⟩;have hB:fP mg (d6 s₁.heap H):=let ⟨bm,o,b1,b2,b3,b4,b5,b6,b7⟩:=av;⟨bm,o,b1,b2,b3,G b4 (ai b4 (λ_ _=>by rw [b7];nofun) (λ_=>by rw [b7];nofun)),b5,b6,b7⟩;have e0:gK P w K mg (d6 s₁.heap H) callerA [] s₁ H:=⟨rfl,.inl rfl,hM,λb o e=>CH e,Sk (M8 _ _),trivial,λb hb=>absurd (show b∈([]:List Addr) from hb) (by simp),hok,.of_eq hg⟩;refine QL ((F _ aj (O ab) hB).run callerA [] s₁ H ⟨[.ref a],[]⟩ [.ref a] [.ref a] _ _ hr e0 (XR s₁ (.ref a)) (.cons rfl .nil) (Xf H ag hS)) λr s' h=>?_;cases r with
  | error e=>exact (a3 H e s' h).elim
  | ok fl =>
   cases fl with
   | next=>exact False.elim h
   | brk=>exact False.elim h
   | cont=>exact False.elim h
   | ret u =>
    obtain ⟨v,H',os,bare,un,S,r',q⟩:=h;have q':v = .bl true:=q;subst q';obtain rfl:u=Pq true:=r';have U:∀b,b∈ts->∃more:Array Value,s'.heap.get? b=some (tabObj (#[]++more)):=λb hb=>by
     obtain ⟨more,z⟩:=un.tbls b #[] (ag b hb);exact ⟨more,S b _ z⟩
    refine ⟨rfl,⟨λb o e=>?_,λb o e=>un.there b o e (by simp)⟩,os,bare⟩;cases q:H b with
    | none=>exact .inl (un.keep b o e q (by intro z;exact absurd (show b∈([]:List Addr) from z) (by simp)) (by simp))
    | some u =>
     rcases hO b with z|⟨ob,xs,z⟩|⟨hb,z⟩
     .rw [q] at z;cases z
     .have z2:=un.frzs b ob _ z;obtain ⟨e1,_⟩:=hok b _ z;obtain ⟨e2,_⟩:=S b _ z2;rw [e] at e1;cases e1;exact .inl e2
     .obtain ⟨more,g⟩:=U b hb;have e2:=W b hb;rw [e] at e2;cases e2;obtain ⟨_,c,hc⟩:=hC b hb;exact .inr (.inl ⟨((codeHd_of_K KX hc).tab (W b hb)).isCodeTable,rfl,#[],more,rfl,g⟩)
 cases hk:K.lookup a with
 | some o =>
  have e:=KX a o hk;rw [ha] at e;cases e;refine XS (λb=>if b∈ts then some (.tbl #[]) else none) (λb=>?_) (λT h=>if_pos h) (.inr ⟨_,vs.toArray,_,hk,rfl,rfl,rfl,by rw [NI,ak];exact hl,by simpa using rv⟩) (λb u z=>?_) (λb z=>?_) λz=>absurd (if_neg aT) z
  .by_cases hb:b∈ts
   .exact .inr (.inr ⟨hb,if_pos hb⟩)
   .exact .inl (if_neg hb)
  .by_cases hb:b∈ts
   .have z':=(if_pos hb).symm.trans z;cases z';exact W b hb
   .have z':=(if_neg hb).symm.trans z;cases z'
  .by_cases hb:b∈ts
   .exact .inr hb
   .exact absurd (if_neg hb) z
 | none =>
  refine XS (λb=>if b=a then some (.frz { cls:=.type "list",data:=.seq vs.toArray } (.lst (ns.map V.int))) else if b∈ts then some (.tbl #[]) else none) (λb=>?_) (λT h=>?_) (.inl (.inr ⟨{ cls:=.type "list",data:=.seq vs.toArray },if_pos rfl⟩)) (λb u z=>?_) (λb z=>?_) λ_=>hk
  .by_cases hb:b=a
   .exact .inr (.inl ⟨_,_,if_pos hb⟩)
   .by_cases J:b∈ts
    .exact .inr (.inr ⟨J,by rw [if_neg hb,if_pos J]⟩)
    .exact .inl (by rw [if_neg hb,if_neg J])
  .rw [if_neg (λz=>aT (by rw [<- z];exact h)),if_pos h]
  .by_cases hb:b=a
   .have z':=(if_pos hb).symm.trans z;cases z';subst hb;exact ⟨ha,by rw [KE];exact hl,vs,_,rv,ha⟩
   .have z1:=(if_neg hb).symm.trans z;by_cases J:b∈ts
    .have z2:=(if_pos J).symm.trans z1;cases z2;exact W b J
    .have z2:=(if_neg J).symm.trans z1;cases z2
  .by_cases hb:b=a
   .exact .inl hb
   .by_cases J:b∈ts
    .exact .inr J
    .exact absurd (show (if b=a then _ else if b∈ts then _ else none)=none by rw [if_neg hb,if_neg J]) z
theorem walk_ofT{l:PySem.W.OpenLaw}{n k:Nat}{K:Params->Nu}{CX:NQ->CXT}{sp:NQ->Sp}{ts:List Addr}(hn:l.most=some n)(ab:n<=sizeLine)(O:d.params.defaults=[])(hr:zK true k callerA)(hY:∀(w:NQ)(h:Heap),YP w h->(K w.params).In h/\∀T∈ts,h.get? T=some (tabObj #[]))(F:∀(w:NQ)(mg:Str->Option Value)(fa:Addr)(h:Heap),(K w.params).In h->h.Ns NA mg->mg d.name=some (.ref fa) ->
   ∃fd:Nz,(∀(s:we)(u:Value),BindsTo s fd ⟨[u],[]⟩ [(x,u)])/\(∀T∈ts,(K w.params).lookup T=none/\∃c,SM (K w.params) c T=true) /\
    ∀base:Heap,(K w.params).In base->base.Ns NA mg->fP mg base->zm l.prog w (K w.params) mg base (CX w) true k fa fd [x] (sp w))(Xf:∀(w:NQ)(H:Hp)(a:Addr)(ns:List Int),ns.length<=n->(∀T∈ts,H T=some (.tbl #[]))->SqL (K w.params) H a (ns.map V.int)->sp w [.ref a] H (λv _=>v = .bl true) λ_ _ _=>False)(ag:∀(w:NQ)(H:Hp)(s:we)(e:Value)(s':we),CX w [] H s (λ_ _ _=>False) e s'->False):
  PySem.W.WalkO q X6 XP YP l.row.toRowW d [] (λf vs=>PySem.call f vs):=by
 refine Att.attach_call hn O λw s₀ s₁ mg mb fa o pm cd Ye a vs ns G Y ho hd Yb Z J W0 Z7 hg=>?_;obtain ⟨KX,hT⟩:=hY w _ Y;obtain ⟨fd,hb,hC,hF⟩:=F w mg fa _ KX G.T.g Z;have U:fP mg s₁.heap:=by
  obtain ⟨bm,ob,b1,b2,b3,b4,b5,b6⟩:=G.T.bmain;refine ⟨bm,ob,b1,b2,λz=>?_,b3,b4,b5,b6⟩;obtain ⟨og,es,ep,eg,S,_⟩:=G.T.g;rw [z,eg] at b3;cases b3;rw [S] at b6;cases b6
 exact MF hT hC U KX G.T.g G.T.b G.T.builtins G.T.nolimit hg J W0 (N6 Z7 ab) hr hF hb (λH hO hS=>Xf w H a ns Z7 hO hS) λH e s'=>ag w H s₁ e s'
theorem Fun.bD{K:Nu}{st:Stmt}{k:Nat}(F:Fun K x qual st f fd)(hc:fd.code = .ref c)(S:zt N ps (zi st))(len:∀vs H Q E,sp vs H Q E->vs.length=ps.length)(O:∀(A:NP)(outer:List Env)(s:we)(H:Hp)(vs:List V)(Q:VK)(E:XK),zK cm k (A.deeper (PY qual (zi st) s.heap.objs.size f (.ref c)))->sp vs H Q E ->
   ∃t,PSs (cn CX0 cm P w K mg base N qual (zi st) f (.ref c) A outer s H E).Vp (c0 st) t/\t { nx:=λ_ H'=>Q .non H',rt:=Q } (start N vs) H):zm P w K mg base CX0 cm (k+1) f fd ps sp:=by
 obtain ⟨oc,od,kV,W,pm,Z,J,ct,z,rfl,lk,G⟩:=F.ex;have e:J = .ref c:=hc;subst e;refine nV lk G S len λA outer s H vs Q E hr U=>?_;obtain ⟨t,h,q⟩:=O A outer s H vs Q E hr U;exact ⟨t,h.Vp,q⟩
section
variable {X:Cx}
theorem vw{k:Nat}{p pos O kp p1 p2 Z p4 p5:Pos}(LB:fM X.mg X.base X.env.code P)(hr:zK cm k X.A)(hg:Gl X "sorted")(hm:X.mg "sorted"=none)(ha:W (PE X a ta))(WU:defaultsOf F X.env=([],[]))(G:RU scope X.env=pure [])(XR:∀(q:Str)(pm cd ct v:Value),bindArgs (kla_fn "<lambda>" q F (.Subscript (.Subscript (.Name x p1) (.Constant (.int 0) S p2) Z) (.Constant (.int 1) U p4) p5) scope [] pm cd ct) ⟨[v],[]⟩=pure [(x,v)])(WT:scope.names=[(x,.local)])(X7:scope.kind = .function)(J:scope.isCoroutine=false)(z:scope.isGenerator=false)(hp:aw a=true:=by rfl)(Y5:(x==("__debug__":Str))=false:=by decide):
  W (PE X (.Call (.Name "sorted" p) [a] [⟨some (yv "key"),.Lambda F (.Subscript (.Subscript (.Name x p1) (.Constant (.int 0) S p2) Z) (.Constant (.int 1) U p4) p5) scope O,kp⟩] pos) (rg P O (X.env.qual++"<lambda>") ta)):=⟨LZ LB hr hg hm ha.h WU G XR WT X7 J z hp Y5⟩
def pB(K:Nu)(D:Addr)(tb:(Addr->St->Hp->Prop)->TS)(ts:TS):TS:=λZ σ H =>
 tb (λC z H'=>bY K C/\Sa K C (.ref D)=some true/\∀ea oe,H' ea=none->iJ C oe->ts Z z (upd H' ea (.frz oe (.own 0)))) Z σ H
theorem JG{ag:Pos}(hc:X.calm=true)(ab:X.ex=[])(XD:X.stack=X.env::X.outer/\X.env.frame=some X.env.locals)(OD:bY X.K D)(hg:Gl X x)(hm:X.mg x=some (.ref D))(hb:∀Go Ex,PSs (qE X Go Ex) Zv (tb Ex))(hs:∀Go ea,PSs (i7 X Go ea) (G::XO) ts)(Y5:(x==("__debug__":Str))=false:=by decide):
  PS X (.Try Zv [.ExceptHandler (some (.Name x np)) none (G::XO) ag] [] [] pos) (pB X.K D tb ts):=by
 intro Go s σ H Z I h;have hh:X.A.handled=none:=I.ok.hd hc;refine wpAny_Try_except (OG (hb Go _ [] s σ H Z (I.p.Tc _) h) (λf s1 q=>?_) λe s1 q=>?_)
 .cases f with
  | next =>
   obtain ⟨F,H',J,q⟩:=q;exact QR ⟨F,H',Inv.bh I.ok J.y0,q⟩
  | brk=>obtain ⟨F,H',J,q⟩:=q;exact ⟨F,H',Inv.bh I.ok J.y0,q⟩
  | cont=>obtain ⟨F,H',J,q⟩:=q;exact ⟨F,H',Inv.bh I.ok J.y0,q⟩
  | ret u=>obtain ⟨v,F,H',J,r,q⟩:=q;exact ⟨v,F,H',Inv.bh I.ok J.y0,r,q⟩
 .obtain ⟨ea,C,B,H',fl,F,sI,rfl,J,y,os,bare,hB,up,OC,sub,ai⟩:=q;have fr:X.A.frames=some (X.env::X.outer):=by rw [I.ok.frames,XD.1]
  rw [XD.1] at y;refine Aj fr XD.2 y λh2 y2 u2=>qv (s:={ s1 with heap:=h2 }) y2 λh3 y3 u3=>?_;have a0:bu B X.stack ea (.ref C) .none h3:=by rw [XD.1];exact y3
  have W:=(up.trans u2).trans u3;obtain ⟨_,a3,c3,g3,J3⟩:=Ay (s':={ s1 with heap:=h3 }) ab J a0 os bare hB W;obtain ⟨aT,cC,eC⟩:=OC.obj J3.S2;obtain ⟨a4,cD,eD⟩:=OD.obj J3.S2;have Xn:aT.mro.contains (.ref D)=true:=by
   unfold Sa at sub;rw [cC] at sub;simp only [RK] at sub;split at sub
   .cases sub
   .exact Ob.inj sub
  refine wpAny_handleBy_cons (codeAny_handlers_test (gv (X:=i7 X Go ea) J3 hg hm ?_ Y5)) (by intro q;cases q);refine MH (h:=h3) (g:=s1.gens) (d:=s1.drawn) (t:=s1.toks) (os:=s1.os) eC eD g3 c3.1 Xn ?_;refine codeAny_handlers_suite ?_;refine qv (s:={ s1 with heap:=h3 }) y3 λh4 y4 u4=>?_;have aj:bu B X.stack ea (.ref C) .none h4:=by rw [XD.1];exact y4
  obtain ⟨ak,av,c4,g4,J4⟩:=Ay (s':={ s1 with heap:=h4 }) ab J aj os bare hB (W.trans u4);refine OG (hs Go ea [] _ _ _ _ J4 (ai ea av ak c4)) (λf s6 q6=>?_) λ_ _ z=>z.elim;cases f with
  | next=>obtain ⟨O,H7,S,U⟩:=q6;exact ⟨_,_,Inv.Ts I.ok hh S,U⟩
  | brk=>obtain ⟨O,H7,S,U⟩:=q6;exact ⟨_,_,Inv.Ts I.ok hh S,U⟩
  | cont=>obtain ⟨O,H7,S,U⟩:=q6;exact ⟨_,_,Inv.Ts I.ok hh S,U⟩
  | ret u=>obtain ⟨v,O,H7,S,r7,U⟩:=q6;exact ⟨v,_,_,Inv.Ts I.ok hh S,r7,U⟩
theorem rh(hc:X.calm=true)(G:X.ex=[])(XD:X.stack=X.env::X.outer/\X.env.frame=some X.env.locals)(S:bY X.K D)(hg:Gl X x)(hm:X.mg x=some (.ref D))(hb:∀Go Ex,W (PSs (qE X Go Ex) O (tb Ex)))(hs:∀Go ea,W (PSs (i7 X Go ea) (z::J) ts))(U:(x==("__debug__":Str))=false:=by decide):
  W (PS X (.Try O [.ExceptHandler (some (.Name x Z)) none (z::J) F] [] [] pos) (pB X.K D tb ts)):=⟨JG hc G XD S hg hm (λGo Ex=>(hb Go Ex).h) (λGo ea=>(hs Go ea).h) U⟩
theorem CM{K:Nu}:pB K D tb ts Z σ H=tb (λC z H'=>bY K C/\Sa K C (.ref D)=some true/\∀ea oe,H' ea=none->iJ C oe->ts Z z (upd H' ea (.frz oe (.own 0)))) Z σ H:=rfl
def qq(neg:Bool):R2:=λx y H Q=>∃a b xs ys,x = .ref a/\y = .ref b/\H a=some (.lst xs)/\H b=some (.lst ys)/\(xs.length=0\/ys.length=0)/\Q (.bl (if neg then !decide (xs.length=ys.length) else decide (xs.length=ys.length))) H
theorem pO(F:X.A.units<cLine):OpR X (Of .Eq) (qq false):=by
 intro Go s σ H x y v u Q I G O h;obtain ⟨a,b,xs,ys,rfl,rfl,ha,hb,h0,q⟩:=h;cases G;cases O;by_cases W:xs.length=ys.length
 .have h1:xs=[]:=Pm.mp (by lia);have h2:ys=[]:=Pm.mp (by lia);subst h1 h2;exact Ae F Go s σ H (.ref a) (.ref b) (.ref a) (.ref b) Q I rfl rfl ⟨a,b,[],[],rfl,rfl,SqL.of ha,SqL.of hb,rfl,rfl,q⟩
 .obtain ⟨is,U,S,_⟩:=I.list (SqL.of (K:=X.K) ha);obtain ⟨js,J,p2,_⟩:=I.list (SqL.of (K:=X.K) hb);have Z:=U.length;have l2:=J.length;refine SeqAt.eq_list_lengthsAt S.isList p2.isList (by simp;lia) F ⟨.bl false,H,I,rfl,?_⟩;have z:Q (.bl (decide (xs.length=ys.length))) H:=q;rw [decide_eq_false W] at z;exact z
theorem yB(F:X.A.units<cLine):OpR X (Of .NotEq) (qq true):=by
 intro Go s σ H x y v u Q I G O h;obtain ⟨a,b,xs,ys,rfl,rfl,ha,hb,h0,q⟩:=h;cases G;cases O;by_cases W:xs.length=ys.length
 .have h1:xs=[]:=Pm.mp (by lia);have h2:ys=[]:=Pm.mp (by lia);subst h1 h2;exact se F Go s σ H (.ref a) (.ref b) (.ref a) (.ref b) Q I rfl rfl ⟨a,b,[],[],rfl,rfl,SqL.of ha,SqL.of hb,rfl,rfl,q⟩
 .obtain ⟨is,U,S,_⟩:=I.list (SqL.of (K:=X.K) ha);obtain ⟨js,J,p2,_⟩:=I.list (SqL.of (K:=X.K) hb);have Z:=U.length;have l2:=J.length;refine SeqAt.RcNeAt.lists_lengths S.isList p2.isList (by simp;lia) F _ _ _ _ ⟨.bl true,H,I,rfl,?_⟩;have z:Q (.bl (!decide (xs.length=ys.length))) H:=q;rw [decide_eq_false W] at z;exact z
theorem um:qq neg (.ref a) (.ref b) H Q = ∃xs ys,H a=some (.lst xs)/\H b=some (.lst ys)/\(xs.length=0\/ys.length=0)/\Q (.bl (if neg then !decide (xs.length=ys.length) else decide (xs.length=ys.length))) H:=by
 apply propext;constructor
 .rintro ⟨a',G,xs,ys,z,F,h⟩;cases z;cases F;exact ⟨xs,ys,h⟩
 .rintro ⟨xs,ys,h⟩;exact ⟨a,b,xs,ys,rfl,rfl,h⟩
def pd:List V->Hp->VK->Prop:=λxs H Q=>∃i,xs=[.int i]/\Q (.int (if i<0 then -i else i)) H
theorem De:pd [.int i] H Q=Q (.int (if i<0 then -i else i)) H:=by simp [pd]
theorem JF:zM X (.builtin "abs") pd:=by
 intro Go s σ H xs us Q I r h;obtain ⟨i,rfl,q⟩:=h;obtain ⟨u,rfl,t,rfl⟩:=cg r;exact call_abs_int λu tk=>⟨.int _,H,I.tok tk,⟨_,rfl⟩,q⟩
end
section
variable {K:Nu}{g:TG}{tt:TT}{te:TE}{H:Hp}{Q:VK}
theorem zT.enum(G:Nat->St->List V->Hp->Prop)(J:∀i τ ys H,G i τ ys H->ys.length<sizeLine)(ha:∀i τ ys H,G i τ ys H->SqL K H a xs)(Z:G 0 τ [] H)(hs:∀(N:St->List V->Hp->Prop) i x p τ ys H,xs[i]?=some x->G i τ ys H->H p=none->(∀τ ys H,G (i+1) τ ys H->N τ ys H)->g (.ref p) τ (upd H p (.tup [.int i,x])) λF H4=>tt F H4 λok H5=>dD N ys F te ok H5)(hd:∀τ ys H,G xs.length τ ys H->∀D H',New H D (.lst ys) H'->D≠sysModules->Q (.ref D) H'):zT (Ite K a) g tt te τ H Q:=by
 refine ⟨λi m τ ys H=>m=xs.length-i/\i<=xs.length/\G i τ ys H,⟨xs.length,by simp,Ot _,Z⟩,?_⟩;rintro i m τ ys H2 ⟨rfl,hi,p⟩;refine ⟨J i τ ys H2 p,?_⟩;have q:=ha i τ ys H2 p;by_cases S:i<xs.length
 .refine .inr ⟨⟨xs,xs[i],q,by simp [S]⟩,λx H' y=>?_⟩;obtain ⟨T,z,U,rfl,rfl,J⟩:=y;exact hs (λF ys H=>∃O,O<xs.length-i/\O=xs.length-(i+1)/\i+1<=xs.length/\G (i+1) F ys H) i z T τ ys _ (J xs q) p U λF zs H q=>⟨xs.length-(i+1),by lia,rfl,S,q⟩
 .have e:i=xs.length:=by lia
  subst e;exact .inl ⟨⟨xs,q,Nq _⟩,λD W hs=>hd τ ys H2 p D _ (.mk' W) hs⟩
theorem zT.bx{lo:Int}(F:Nat->St->List V->Hp->Prop)(S:∀i τ ys H,F i τ ys H->ys.length<sizeLine)(U:F 0 τ [] H)(hs:∀(N:St->List V->Hp->Prop) i τ ys H,i<n->F i τ ys H->(∀τ ys H,F (i+1) τ ys H->N τ ys H)->g (.int (lo+i)) τ H λz H4=>tt z H4 λok H5=>dD N ys z te ok H5)(hd:∀τ ys H,F n τ ys H->∀D H',New H D (.lst ys) H'->D≠sysModules->Q (.ref D) H'):zT (Itr lo n) g tt te τ H Q:=by
 refine ⟨λi m τ ys H=>m=n-i/\i<=n/\F i τ ys H,⟨n,by simp,Ot _,U⟩,?_⟩;rintro i m τ ys H2 ⟨rfl,hi,p⟩;refine ⟨S i τ ys H2 p,?_⟩;by_cases G:i<n
 .refine .inr ⟨G,λx H' y=>?_⟩;obtain ⟨rfl,rfl⟩:=y;exact hs (λz ys H=>∃J,J<n-i/\J=n-(i+1)/\i+1<=n/\F (i+1) z ys H) i τ ys _ G p λz zs H q=>⟨n-(i+1),by lia,rfl,G,q⟩
 .have e:i=n:=by lia
  subst e;exact .inl ⟨Nq _,λD O hs=>hd τ ys H2 p D _ (.mk' O) hs⟩
end
theorem Gi{p:Addr}:jY c (.int i) (.ref p) H Q = ∃kvs,Rd H p (.dK kvs)/\Q (.bl (if c then !(zZ kvs (.inl i)).isSome else (zZ kvs (.inl i)).isSome)) H:=by
 apply propext;constructor
 .rintro ⟨a,k,kvs,F,z,h,q⟩;cases F;cases k with
  | inl i=>cases z;exact ⟨kvs,h,q⟩
  | inr x=>cases z
 .rintro ⟨kvs,h,q⟩;exact ⟨p,.inl i,kvs,rfl,rfl,h,q⟩
def az(f:Nat->Int):Nat->Option Int
 | 0=>none
 | j+1=>some (match az f j with|none=>f j|some m=>if f j>m then f j else m)
def lV:Option Int->Array Value->Prop|none,its=>its = #[]|some m,its=>∃t,its = #[.int m t,.int m t]
def oQ(d:Value):Option Int->Value->Prop|none,v=>v=d|some m,v=>∃t,v = .int m t
section
variable {prog:NB}{w:NQ}{A:NP}{E:Value->we->Prop}{s:we}
theorem FU{St:Nat->Heap->Prop}(W:Walks prog w A.in1 I fp wr n P St)(f:Nat->Int)(hv:∀i v,P i v->∃t,v = .int (f i) t)(S:Addr)(ag:S∉fp)(ak:0<n\/kw=[(yv "default",d)]):
  ∀(k j:Nat)(s:we)(c:Nat)(its:Array Value),n-j=k->j<=n->St j s.heap->lV (az f j) its ->
  s.heap.get? S=some { cls:=.type "list",dict:=none,data:=.seq its c,slots:=#[] } ->
  (∀v h' tk,oQ d (az f n) v->(∀b o,b∉wr->b≠S->s.heap.get? b=some o->h'.get? b=some o)->R (.ok (.ret v)) { s with heap:=h',toks:=tk }) ->
  Qx (NL prog w) A (.builtin "max.loop" ⟨[.ref I,.none,.ref S],kw⟩) R s:=by
 have ab:S∉wr:=λh=>ag (W.sub _ h);have Y6:(toString "max"++toString ".loop":String)="max.loop":=by decide
 intro k
 induction k with
 | zero =>
  intro j s c its hk hj hst Z hS hR;have Yn:j=n:=by lia
  refine Pz F.entry_max_loop ?_;rw [NP.under_plainId F.plain_max_loop _];show NF _ A.in1 (Q1 (.ref S)>>=_) _ _ s;refine fv (OA hS rfl ?_);show NF _ A.in1 (tryCatch (Ql (.ref I)) _>>=_) _ _ s;refine fv (PX (W.done s _ _ (Yn ▸ hst) λh' tk Zr=>?_));have G:=Zr S _ ab hS;rw [Yn] at Z;cases hb:az f n with
  | none =>
   rw [hb] at Z hR;cases (show its = #[] from Z);have h0 : ¬ 0<n:=λz=>by
    cases n with
    | zero=>lia
    | succ m=>cases hb
   rcases ak with z|rfl
   .exact absurd z h0
   show NF _ A.in1 (rule _>>=_) _ _ _;exact fv (PP (Nv (hR d _ tk rfl λb o J _ e=>Zr b o J e)))
  | some m =>
   rw [hb] at Z hR;obtain ⟨t,rfl⟩:=Z;show NF _ A.in1 (updateSeq S (λ_=>#[])>>=_) _ _ _;refine fv (Qr G rfl (fv (PC (Nv ?_))));exact hR _ _ tk ⟨t,rfl⟩ λb o J X1 e=>(NS _ _ (NO X1)).trans (Zr b o J e)
 | succ k ih =>
  intro j s c its hk hj hst Z hS hR;have ZQ:j<n:=by lia
  refine Pz F.entry_max_loop ?_;rw [NP.under_plainId F.plain_max_loop _];show NF _ A.in1 (Q1 (.ref S)>>=_) _ _ s;refine fv (OA hS rfl ?_);show NF _ A.in1 (tryCatch (Ql (.ref I)) _>>=_) _ _ s;refine fv (PX (W.item j s _ _ ZQ hst λv h' tk hP XC Zr=>?_));have G:=Zr S _ ab hS;obtain ⟨t,rfl⟩:=hv j v hP;have U:∀{b o}{g:Array Value->Array Value},b≠S->h'.get? b=some o->(h'.update S (Qw g)).get? b=some o:=λn e=>(NS _ _ (NO n)).trans e;have aj:∀{g:Array Value->Array Value},St (j+1) (h'.update S (Qw g)):=λ{g}=>W.frame _ _ _ XC λb hb o e=>U (λz=>ag (z ▸ hb)) e;cases hb:az f j with
  | none =>
   rw [hb] at Z;cases (show its = #[] from Z);show NF _ A.in1 (updateSeq S (λ_=>#[.int (f j) t,.int (f j) t])>>=_) _ _ _;refine fv (Qr G rfl ?_);rw [Y6];refine Nv ⟨PQ F.plain_max_loop _,ih (j+1) _ _ _ (by lia) ZQ aj ?_ (OF _ G rfl) λv' h2 O XN X9=>?_⟩
   .show lV (some _) _;rw [hb];exact ⟨t,rfl⟩
   .exact hR v' h2 O XN λb o J X1 e=>X9 b o J X1 (U X1 (Zr b o J e))
  | some m =>
   rw [hb] at Z;obtain ⟨u,rfl⟩:=Z;show NF _ A.in1 (tryCatch (PV [.int (f j) t,.int (f j) t] (Rt .Gt (.int (f j) t) (.int m u)>>=_)) _>>=_) _ _ _;obtain ⟨bt,ai,XB⟩:∃bt:Nat->Nat->Bool,bt 0 1=decide (f j>m)/\CmpOf prog w A.in1 .Gt (λi v=>(i=0/\v = .int (f j) t)\/(i=1/\v = .int m u)) bt:=⟨_,rfl,CmpOf.ints_gt (λi=>if i=0 then f j else m) λi v h=>by rcases h with ⟨rfl,rfl⟩|⟨rfl,rfl⟩<;>exact ⟨_,rfl⟩⟩;refine fv (PX (N9 (fv (XB 0 1 _ _ _ _ _ (.inl ⟨rfl,rfl⟩) (.inr ⟨rfl,rfl⟩) ?_))));refine fv (N9 (O2 ?_));refine fv (PC (Nv ?_));by_cases hg:f j>m
   .rw [ai,decide_eq_true hg];simp only [if_true];refine fv (Qr G rfl (fv (PC ?_)));rw [Y6];refine Nv ⟨PQ F.plain_max_loop _,ih (j+1) _ _ _ (by lia) ZQ aj ?_ (OF _ G rfl) λv' h2 O XN X9=>?_⟩
    .show lV (some _) _;rw [hb];simp only [if_pos hg];exact ⟨t,rfl⟩
    .exact hR v' h2 O XN λb o J X1 e=>X9 b o J X1 (U X1 (Zr b o J e))
   .rw [ai,decide_eq_false hg];simp only [Pi,if_false];refine fv (PC ?_);rw [Y6];refine Nv ⟨PQ F.plain_max_loop _,ih (j+1) _ _ _ (by lia) ZQ XC ?_ G λv' h2 O XN X9=>?_⟩
    .show lV (some _) _;rw [hb];simp only [if_neg hg];exact ⟨u,rfl⟩
    .exact hR v' h2 O XN λb o J X1 e=>X9 b o J X1 (Zr b o J e)
theorem HU(a d:Value):argsOk "max" ⟨[a],[(yv "default",d)]⟩:=by unfold argsOk;kernel_rfl
theorem vy(hh:A.handled=none)(hl:s.heap.IsList l its)(hv:∀(i:Nat) v,its[i]?=some v->∃t,v = .int (f i) t)(G:(0<its.size/\kw=[])\/kw=[(yv "default",d)])(h:∀v h' tk,oQ d (az f its.size) v->(∀b o,s.heap.get? b=some o->h'.get? b=some o)->Q v { s with heap:=h',toks:=tk }):
  NF (NL prog w) A (call (.builtin "max") [.ref l] kw) Q E s:=by
 have Y6:(toString "max"++toString ".loop":String)="max.loop":=by decide
 have Z:l<s.heap.objs.size:=by obtain ⟨_,e,_⟩:=hl;exact NR e
 have W:argsOk "max" ⟨[.ref l],kw⟩:=by
  rcases G with ⟨_,rfl⟩|rfl
  .exact F.args_max1 _
  .exact HU _ _
 refine PyProof.Rows.kmk_tree F.kind_max F.plain_max F.entry_max W ?_;obtain ⟨J,U,hdk⟩:∃J:Option Value,NN.Builtins.bindParams "max" ["key","default"] 0 ⟨[],kw⟩=pure [none,J]/\(J.toList.map λd=>((yv "default":Str),d))=kw:=by
  rcases G with ⟨_,rfl⟩|rfl
  .exact ⟨none,rfl,rfl⟩
  .exact ⟨some d,rfl,rfl⟩
 show NF _ A.in1 (NN.Builtins.bindParams "max" ["key","default"] 0 ⟨[],kw⟩>>=_) _ _ s;refine fv (wpAny_of_eq U ?_);refine fv (Nv ?_);refine fv (Pk hl ?_);refine fv (Ou ?_);rw [Y6];have O:(s.heap.push { cls:=.type "list_iterator",data:=.fields #[.ref l,.int 0 0] }).objs.size=s.heap.objs.size+1:=RQ ..;have S:l≠s.heap.objs.size:=Oh Z;refine Nv ⟨PQ F.plain_max_loop _,?_⟩;show Qx _ A (.builtin "max.loop" ⟨[_,.none,_],J.toList.map λd=>((yv "default":Str),d)⟩) _ _;rw [hdk];refine FU (Walks.list (A:=A.in1) hh _ l S its) f hv _ (λhm=>?_) (G.imp (·.1) id) _ 0 _ _ #[] rfl (Ot _) ⟨⟨_,zv _ (NK _ rfl),rfl,rfl⟩,(hl.push _).push _⟩ rfl (NK _ rfl) λv h' tk hr hk=>?_
 .rcases Nw.mp hm with e|hm
  .rw [O] at e;exact absurd e (Qs (Rn _))
  .rcases Nw.mp hm with e|hm
   .rw [O] at e;exact absurd (e ▸ QP Z) (Od _)
   .cases hm
 .refine h v h' tk hr λb o e=>hk b o (λhm=>?_) (λz=>?_) (zv _ (zv _ e))
  .rcases Nw.mp hm with e1|hm
   .exact absurd (e1 ▸ NR e) (Od _)
   .cases hm
  .have:=NR e;rw [z,O] at this;exact absurd this (SK.mpr (Sy _))
end
section
variable {X:Cx}
def oi:Option Int->V|none=>.non|some m=>.int m
def pH:List V->Hp->VK->Prop:=λxs H Q=>nF xs H Q\/∃(l:Addr)(ks:List Int),xs=[.ref l]/\H l=some (.lst (ks.map V.int))/\0<ks.length/\Q (oi (az (λi=>ks.getD i 0) ks.length)) H
theorem tK{ks:List Int}(r:zp (ks.map V.int) its):∀(i:Nat) v,its.toArray[i]?=some v->∃t,v = .int (ks.getD i 0) t:=by
 intro i v h;rw [<- QT] at h
 replace h:its[i]?=some v:=h
 induction ks generalizing its i with
 | nil=>cases r;simp at h
 | cons k ks z =>
  cases r with
  | cons r F =>
   cases i with
   | zero=>obtain ⟨t,rfl⟩:=r;simp at h;subst h;exact ⟨t,rfl⟩
   | succ i=>exact z F i (by simpa using h)
theorem yU{o:Option Int}(h:oQ .none o v):zo (oi o) v:=by
 cases o with
 | none=>cases (show v = .none from h);rfl
 | some m=>obtain ⟨t,rfl⟩:=h;exact ⟨_,rfl⟩
theorem je(hc:X.calm=true):zM X (.builtin "max") pH:=by
 intro Go s σ H xs us Q I r h;rcases h with h|⟨l,ks,rfl,hl,hn,q⟩
 .exact BI hc Go s σ H xs us Q I r h
 .obtain ⟨u,rfl,J⟩:=cg r;cases J;obtain ⟨its,F,p,O⟩:=I.list (SqL.of (K:=X.K) hl);have z:=F.length;rw [KE] at z;refine vy (d:=.none) (f:=λi=>ks.getD i 0) (I.ok.hd hc) p.isList (tK F) (.inl ⟨by rw [NI];lia,rfl⟩) λv h' tk hr G=>⟨_,H,I.kept G,yU hr,?_⟩;rw [NI,<- z];exact q
def o6(ta:TE):TE:=λσ H Q=>ta σ H λv H1=>uR v λl=>∃ks:List Int,H1 l=some (.lst (ks.map V.int))/\Q (oi (az (λi=>ks.getD i 0) ks.length)) H1
theorem LV:o6 ta σ H Q=ta σ H λv H1=>uR v λl=>∃ks:List Int,H1 l=some (.lst (ks.map V.int))/\Q (oi (az (λi=>ks.getD i 0) ks.length)) H1:=rfl
theorem Fy{p pos kp Z:Pos}(hc:X.calm=true)(hg:Gl X "max")(hm:X.mg "max"=none)(ha:PE X a ta)(U:aw a=true:=by rfl):
  PE X (.Call (.Name "max" p) [a] [⟨some (yv "default"),.Constant .none j Z,kp⟩] pos) (o6 ta):=by
 intro Go s σ H Q I h;have hs:NZ [a] X.env=[(false,Os a X.env)]:=cT U;have F:=dX ha dQ (hs:=hs) pos Go s σ H (λys H1=>∃y,ys=[y]/\uR y λl=>∃ks:List Int,H1 l=some (.lst (ks.map V.int))/\Q (oi (az (λi=>ks.getD i 0) ks.length)) H1) I (by
  show ta σ H λx H1=>∃y,[x]=[y]/\_;have e:(λ(x:V)(H1:Hp)=>∃y,[x]=[y]/\uR y λl=>∃ks:List Int,H1 l=some (.lst (ks.map V.int))/\Q (oi (az (λi=>ks.getD i 0) ks.length)) H1)=λv H1=>uR v λl=>∃ks:List Int,H1 l=some (.lst (ks.map V.int))/\Q (oi (az (λi=>ks.getD i 0) ks.length)) H1:=by
   funext x H1;apply propext;constructor
   .rintro ⟨y,e,h⟩;cases e;exact h
   .exact λh=>⟨x,rfl,h⟩
  rw [e];exact h)
 refine ON (dN I hg hm boot_max (AL (by rw [hs];rfl) rfl ?_));rw [hs] at F ⊢;refine evalArgs_kwB rfl (thn F λus s1=>x5e λvs H1 z O W=>kws_cons ?_);obtain ⟨y,rfl,l,rfl,ks,hl,q⟩:=W;cases O with
 | cons r rr =>
  cases rr;cases r;refine wpAny_Constant_none (kws_nil ?_);obtain ⟨its,J,pl,hz⟩:=z.list (SqL.of (K:=X.K) hl);have G:=J.length;rw [KE] at G;refine vy (d:=.none) (f:=λi=>ks.getD i 0) (z.ok.hd hc) pl.isList (tK J) (.inr rfl) λv h' tk hr S=>⟨_,H1,z.kept S,yU hr,?_⟩;rw [NI,<- G];exact q
theorem Hu{p pos kp z:Pos}(hc:X.calm=true)(hg:Gl X "max")(hm:X.mg "max"=none)(ha:W (PE X a ta))(F:aw a=true:=by rfl):
  W (PE X (.Call (.Name "max" p) [a] [⟨some (yv "default"),.Constant .none j z,kp⟩] pos) (o6 ta)):=⟨Fy hc hg hm ha.h F⟩
theorem IB:pH [.int i,.int j] H Q=Q (.int (if j>i then j else i)) H:=by
 apply propext;constructor
 .rintro (h|⟨l,ks,e,_⟩)
  .rw [mr] at h;exact h
  .cases e
 .exact λq=>.inl (by rw [mr];exact q)
theorem pZ:pH [.ref l] H Q = ∃ks:List Int,H l=some (.lst (ks.map V.int))/\0<ks.length/\Q (oi (az (λi=>ks.getD i 0) ks.length)) H:=by
 apply propext;constructor
 .rintro (⟨i,j,e,_⟩|⟨l',ks,e,h⟩)
  .cases e
  .cases e;exact ⟨ks,h⟩
 .rintro ⟨ks,h⟩;exact .inr ⟨l,ks,rfl,h⟩
def md(to te:TE):TE:=λσ H Q=>to σ H λx H1=>uR x λl=>(∃xs,H1 l=some (.lst xs))/\te σ H1 λy H2=>∃(xs:List V)(k:Nat)(v:V),y = .int k/\H2 l=some (.lst xs)/\xs[k]?=some v/\Q v (upd H2 l (.lst (xs.eraseIdx k)))
theorem Iy:md to te σ H Q=to σ H λx H1=>uR x λl=>(∃xs,H1 l=some (.lst xs))/\te σ H1 λy H2=>∃(xs:List V)(k:Nat)(v:V),y = .int k/\H2 l=some (.lst xs)/\xs[k]?=some v/\Q v (upd H2 l (.lst (xs.eraseIdx k))):=rfl
theorem C3{o e:N0}(ho:PE X o to)(he:PE X e te)(ZI:OT o "pop" X.env (Os o X.env)=Os o X.env:=by rfl)(ZH:(Z3.endLine==cpos.line)=true:=by rfl)(hp:aw e=true:=by rfl):PE X (.Call (.Attribute o "pop" Z3) [e] [] cpos) (md to te):=by
 intro Go s σ H Q I h;have hs:NZ [e] X.env=[(false,Os e X.env)]:=cT hp;refine O4 ZI (by rw [hs];rfl) ZH rfl (thn (ho Go s σ H _ I h) λv s1=>x5e λx H1 S r1 Ys=>?_);obtain ⟨l,ex,⟨xs,hx⟩,q1⟩:=Ys;subst ex;obtain ⟨h1,h2⟩:=gX (T:="list") S r1 (.inl ⟨rfl,xs,SqL.of hx⟩);refine ⟨"list","list.pop",RE,PySem.F.slot_list_pop,PySem.F.type_list_pop,h1,h2,?_⟩;rw [hs];refine Calls.callWith_builtin rfl (Calls.evalArgs_plain ?_);have U:=dX he dQ (hs:=hs) cpos Go s1 σ H1 (λys H2=>cx (λy=>∃(xs:List V)(k:Nat)(v:V),y = .int k/\H2 l=some (.lst xs)/\xs[k]?=some v/\Q v (upd H2 l (.lst (xs.eraseIdx k)))) ys) S q1;rw [hs] at U;refine thn U λus s2=>x5e λvs H2 Z r2 O=>?_;obtain ⟨_,rfl,G,k,y,rfl,z,W,O⟩:=cx.ex O;obtain ⟨hz,_⟩:=Z.UL z;have ZQ:k<G.length:=(Nt.mp W).1;have J:k<sizeLine:=NT ZQ hz;rw [Ox] at J;exact IK Go s2 σ H2 (.ref l) [.int k] v us Q Z r1 r2 ⟨l,G,k,k,y,rfl,rfl,z,by lia,by lia,by simp [Sf];lia,W,O⟩
theorem Hl{o e:N0}(ho:W (PE X o to))(he:W (PE X e te))(G:OT o "pop" X.env (Os o X.env)=Os o X.env:=by rfl)(F:(Z3.endLine==cpos.line)=true:=by rfl)(z:aw e=true:=by rfl):W (PE X (.Call (.Attribute o "pop" Z3) [e] [] cpos) (md to te)):=⟨C3 ho.h he.h G F z⟩
end
end L2
namespace L2
open PySem PySem.Spec PyProof.Rows PySem.W
section
variable {α β:Type}{lt:Nat->Nat->Bool}{N:Nat}
def wpK(lt:Nat->Nat->Bool)(N:Nat){α:Type}:KasT α->(α->Prop)->Prop
 | .ret a,Q=>Q a
 | .ask i j k,Q=>i<N/\j<N/\wpK lt N (k (lt i j)) Q
theorem h6:∀{t:KasT α},wpK lt N t (λa=>wpK lt N (f a) Q)->wpK lt N (t.bind f) Q
 | .ret _,h=>h
 | .ask _ _ _,h=>⟨h.1,h.2.1,h6 h.2.2⟩
theorem cM(F:∀a,Q a->z a):∀{t:KasT α},wpK lt N t Q->wpK lt N t z
 | .ret _,h=>F _ h
 | .ask _ _ _,h=>⟨h.1,h.2.1,cM F h.2.2⟩
theorem wg(hc:∀i j C,i<N->j<N->C (lt i j) s->cmp i j C s):∀{t:KasT α},wpK lt N t (λa=>Q a s)->t.kasWp cmp Q s
 | .ret _,h=>h
 | .ask i j k,h=>hc i j _ h.1 h.2.1 (wg hc h.2.2)
structure bU(lt:Nat->Nat->Bool):Prop where
 bg:∀i j,lt i j=true->lt j i=false
 Vl:∀i j k,lt j i=false->lt k j=false->lt k i=false
def at0(p:Array Nat)(i:Nat):Nat:=p.getD i 0
structure PM(N:Nat)(p:Array Nat):Prop where
 perm:p.Perm (Sv (RG N))
theorem PM.size{p:Array Nat}(h:PM N p):p.size=N:=by have:=h.perm.size_eq;simpa using this
theorem PM.low{p:Array Nat}(h:PM N p)(hi:i<N):at0 p i<N:=by
 have hs:i<p.size:=by rw [h.size];exact hi
 have e:at0 p i=p[i]:=by unfold at0;simp [Array.getD,hs]
 have m:p[i]∈Sv (RG N):=h.perm.mem_iff.mp (Array.getElem_mem hs);rw [e];simpa using m
theorem rA(p:Array Nat)(i:Nat):at0 p i=(p[i]?).getD 0:=by unfold at0;rw [Array.getD_eq_getD_getElem?]
def Ri(lt:Nat->Nat->Bool)(p:Array Nat)(n:Nat):Prop:=∀i j,i<=j->j<n->lt (at0 p j) (at0 p i)=false
def Fa(lt:Nat->Nat->Bool)(p:Array Nat)(n:Nat):Prop:=∀i j,i<=j->j<n->lt (at0 p i) (at0 p j)=false
theorem bU.af(O:bU lt)(i:Nat):lt i i=false:=by
 cases h:lt i i with
 | false=>rfl
 | true=>rw [O.bg i i h] at h;cases h
theorem hW{p:Array Nat}{i j k:Nat}(z:j<=p.size):at0 (kas_rev p i j) k=if i<=k/\k<j then at0 p (i+j-1-k) else at0 p k:=by
 simp only [rA];unfold kas_rev;rw [getElem?_mirror_all z];split<;>rfl
theorem PM.rev{p:Array Nat}(h:PM N p)(i j:Nat):PM N (kas_rev p i j):=⟨(mirror_perm p i j _).trans h.perm⟩
theorem yr{p:Array Nat}{k d x:Nat}(z:k<p.size)(hd:d<=k):at0 (bubble p k d) x=if x=k-d then at0 p k else if k-d<x/\x<=k then at0 p (x-1) else at0 p x:=by
 simp only [rA];rw [getElem?_bubble z d hd];split
 .rfl
 .split<;>rfl
theorem PM.bH{p:Array Nat}(h:PM N p)(k d:Nat):PM N (bubble p k d):=⟨(bubble_perm p k d).trans h.perm⟩
theorem mT(O:bU lt){p:Array Nat}(P:PM N p):∀(f n:Nat),1<=n->n+f<=N->Ri lt p n->wpK lt N (kas_asc p f n) λm=>n<=m/\m<=n+f/\Ri lt p m/\(m=n+f\/lt (at0 p m) (at0 p (m-1))=true)
 | 0,n,h1,hn,r=>⟨Nq _,Nq _,r,.inl rfl⟩
 | f+1,n,h1,hn,r=>by
  refine ⟨P.low (show n<N by lia),P.low (show n-1<N by lia),?_⟩;by_cases c:lt (at0 p n) (at0 p (n-1))=true
  .show wpK lt N (if lt (at0 p n) (at0 p (n-1))=true then _ else _) _;rw [if_pos c];exact ⟨Nq _,by lia,r,.inr c⟩
  .show wpK lt N (if lt (at0 p n) (at0 p (n-1))=true then _ else _) _;rw [if_neg c];have c':lt (at0 p n) (at0 p (n-1))=false:=by simpa using c
   refine cM (λm hm=>⟨by lia,by lia,hm.2.2.1,hm.2.2.2.imp (λe=>by lia) id⟩) (mT O P f (n+1) (by lia) (by lia) λi j z J=>?_);by_cases e:j<n
   .exact r i j z e
   .have G:j=n:=by lia
    subst G;by_cases F:i=j
    .subst F;exact O.af _
    .exact O.Vl _ _ _ (r i (j-1) (by lia) (by lia)) c'
def Ali(lt:Nat->Nat->Bool)(p:Array Nat)(n q:Nat):Prop:=∀i,n<=i+(q+1)->i<n->lt (at0 p (n-1)) (at0 p i)=false
theorem o9(O:bU lt){p:Array Nat}(hs:n<=p.size)(hq:q+1<=n)(a:Ali lt p n q)(f:Fa lt p n):Fa lt (kas_rev p (n-(q+1)) n) n:=by
 have z:∀k,k<n->lt (at0 (kas_rev p (n-(q+1)) n) k) (at0 p k)=false/\lt (at0 p k) (at0 (kas_rev p (n-(q+1)) n) k)=false:=λk U=>by
  rw [hW hs];split
  .rename_i h;have S:=a k (by lia) U;have G:=f k (n-1) (by lia) (by lia);have W:=a (n-(q+1)+n-1-k) (by lia) (by lia);have Z:=f (n-(q+1)+n-1-k) (n-1) (by lia) (by lia);exact ⟨O.Vl _ _ _ S Z,O.Vl _ _ _ W G⟩
  .exact ⟨O.af _,O.af _⟩
 intro i j J F;exact O.Vl _ _ _ (O.Vl _ _ _ (z j F).2 (f i j J F)) (z i (by lia)).1
theorem wH{p:Array Nat}{i j k:Nat}(z:j<=p.size)(F:j<=k):at0 (kas_rev p i j) k=at0 p k:=by rw [hW z,if_neg (by lia)]
structure DI(lt:Nat->Nat->Bool)(N:Nat)(p:Array Nat)(n q:Nat):Prop where
 pm:PM N p
 fa:Fa lt p n
 qn:q+1<=n
 al:Ali lt p n q
theorem lx(O:bU lt){p:Array Nat}(f:Fa lt p n)(h1:1<=n)(c:lt (at0 p (n-1)) (at0 p n)=false):Fa lt p (n+1):=λi j z J=>by
 by_cases e:j<n
 .exact f i j z e
 .have G:j=n:=by lia
  subst G;by_cases F:i=j
  .subst F;exact O.af _
  .exact O.Vl _ _ _ c (f i (j-1) (by lia) (by lia))
theorem kP(O:bU lt):∀(f:Nat)(p:Array Nat)(n q:Nat),n+f<=N->DI lt N p n q->wpK lt N (kas_desc f p n q) λr=>n<=r.2.1/\r.2.1<=n+f/\DI lt N r.1 r.2.1 r.2.2
 | 0,p,n,q,hn,d=>⟨Nq _,Nq _,d⟩
 | f+1,p,n,q,hn,d=>by
  have S:=d.qn;have hs:n<=p.size:=by rw [d.pm.size];lia
  refine ⟨d.pm.low (show n<N by lia),d.pm.low (show n-1<N by lia),?_⟩;show wpK lt N (if lt (at0 p n) (at0 p (n-1))=true then _ else _) _;by_cases c:lt (at0 p n) (at0 p (n-1))=true
  .rw [if_pos c];have c':=O.bg _ _ c;have z:∀F:Array Nat,Ali lt F (n+1) 0:=λF i h1 h2=>by
    have:i=n:=by lia
    subst this;exact O.af _
   split
   .refine cM (λr h=>⟨by lia,by lia,h.2.2⟩) (kP O f _ (n+1) 0 (by lia) ⟨d.pm.rev _ _,lx O (o9 O hs S d.al d.fa) (by lia) ?_,by lia,z _⟩);rw [wH hs (Nq _),hW hs];split
    .have e:=d.fa (n-(q+1)+n-1-(n-1)) (n-1) (by lia) (by lia);have a:=d.al (n-(q+1)+n-1-(n-1)) (by lia) (by lia);exact O.Vl _ _ _ c' e
    .exact c'
   .exact cM (λr h=>⟨by lia,by lia,h.2.2⟩) (kP O f p (n+1) 0 (by lia) ⟨d.pm,lx O d.fa (by lia) c',by lia,z _⟩)
  .rw [if_neg c];have c1:lt (at0 p n) (at0 p (n-1))=false:=by simpa using c
   refine ⟨d.pm.low (show n-1<N by lia),d.pm.low (show n<N by lia),?_⟩;show wpK lt N (if lt (at0 p (n-1)) (at0 p n)=true then _ else _) _;by_cases e:lt (at0 p (n-1)) (at0 p n)=true
   .rw [if_pos e];show n<=n/\n<=n+(f+1)/\DI lt N p n q;exact ⟨Nq _,by lia,d⟩
   .rw [if_neg e];have G:lt (at0 p (n-1)) (at0 p n)=false:=by simpa using e
    refine cM (λr h=>⟨by lia,by lia,h.2.2⟩) (kP O f p (n+1) (q+1) (by lia) ⟨d.pm,lx O d.fa (by lia) G,by lia,λi h1 h2=>?_⟩);show lt (at0 p n) (at0 p i)=false;by_cases J:i=n
    .subst J;exact O.af _
    .exact O.Vl _ _ _ (d.al i (by lia) (by lia)) c1
theorem vz(O:bU lt){p:Array Nat}(P:PM N p)(f:Fa lt p n)(h1:1<=n)(hn:n<=N):wpK lt N (kas_tail3 n N p) λr=>1<=r.1/\r.1<=N/\PM N r.2/\Ri lt r.2 r.1:=by
 have hs:n<=p.size:=by rw [P.size];exact hn
 unfold kas_tail3;refine h6 (cM (λm h=>?_) (mT O (P.rev 0 n) (N-n) n h1 (by lia) λi j F z=>?_))
 .show 1<=m/\m<=N/\PM N (kas_rev p 0 n)/\Ri lt (kas_rev p 0 n) m;exact ⟨by lia,by lia,P.rev 0 n,h.2.2.1⟩
 .rw [hW hs,hW hs,if_pos (by lia),if_pos (by lia)];exact f _ _ (by lia) (by lia)
theorem vd(O:bU lt){p:Array Nat}(P:PM N p)(f:Fa lt p (n+1))(hn:n+1<=N):wpK lt N (kas_descPart n N p) λr=>1<=r.1/\r.1<=N/\PM N r.2/\Ri lt r.2 r.1:=by
 unfold kas_descPart;refine h6 (cM (λr h=>?_) (kP O (N-(n+1)) p (n+1) 0 (by lia) ⟨P,f,by lia,λi h1 h2=>?_⟩))
 .have z:=h.2.2.qn;split
  .exact vz O (h.2.2.pm.rev _ _) (o9 O (by rw [h.2.2.pm.size];lia) z h.2.2.al h.2.2.fa) (by lia) (by lia)
  .exact vz O h.2.2.pm h.2.2.fa (by lia) (by lia)
 .have:i=n:=by lia
  subst this;exact O.af _
theorem Ju(O:bU lt){p:Array Nat}(P:PM N p)(h1:1<=N):wpK lt N (kas_count N p) λr=>1<=r.1/\r.1<=N/\PM N r.2/\Ri lt r.2 r.1:=by
 unfold kas_count;refine h6 (cM (λn h=>?_) (mT O P (N-1) 1 (Nq _) (by lia) λi j J S=>?_))
 .obtain ⟨G,a2,F,Z⟩:=h;by_cases e:n=N
  .rw [if_pos (by simpa using e)];exact ⟨G,by lia,P,F⟩
  .rw [if_neg (by simpa using e)];have c:lt (at0 p n) (at0 p (n-1))=true:=Z.resolve_left (by lia);have hs:n<=p.size:=by rw [P.size];lia
   split
   .refine ⟨P.low (show 0<N by lia),P.low (show n-1<N by lia),?_⟩;show wpK lt N (if lt (at0 p 0) (at0 p (n-1))=true then _ else _) _;by_cases z:lt (at0 p 0) (at0 p (n-1))=true
    .rw [if_pos z];exact ⟨G,by lia,P,F⟩
    .rw [if_neg z];have z':lt (at0 p 0) (at0 p (n-1))=false:=by simpa using z
     have al:Ali lt p n (n-1):=λi _ hi=>F i (n-1) (by lia) (by lia);have fa:Fa lt p n:=λi j J S=>O.Vl _ _ _ (O.Vl _ _ _ (F j (n-1) (by lia) (by lia)) z') (F 0 i (by lia) (by lia));have U:n-(n-1+1)=0:=by lia
     have fr:=o9 O hs (q:=n-1) (by lia) al fa;rw [U] at fr;refine vd O (P.rev 0 n) (lx O fr G ?_) (by lia);rw [wH hs (Nq _),hW hs,if_pos (by lia)];exact O.Vl _ _ _ (O.bg _ _ c) (fa (0+n-1-(n-1)) (n-1) (by lia) (by lia))
   .have en:n=1:=by lia
    subst en;refine vd O P (λi j J S=>?_) (by lia);by_cases W:i=j
    .subst W;exact O.af _
    .have:i=0/\j=1:=by lia
     rw [this.1,this.2];exact O.bg _ _ c
 .have:i=j:=by lia
  subst this;exact O.af _
theorem oN(O:bU lt){p:Array Nat}{k:Nat}(P:PM N p)(F:k<N)(s:Ri lt p k):∀(f l r:Nat),l<=r->r<=k->r<=l+f->(∀i,i<l->lt (at0 p k) (at0 p i)=false)->(∀i,r<=i->i<k->lt (at0 p i) (at0 p k)=false) ->
  wpK lt N (kas_place p k f l r) λx=>x<=k/\(∀i,i<x->lt (at0 p k) (at0 p i)=false)/\∀i,x<=i->i<k->lt (at0 p i) (at0 p k)=false
 | 0,l,r,h1,h2,h3,a,b=>by
  have e:l=r:=by lia
  subst e;exact ⟨h2,a,b⟩
 | f+1,l,r,h1,h2,h3,a,b=>by
  unfold kas_place;split
  .have e:l=r:=by lia
   subst e;exact ⟨h2,a,b⟩
  .refine ⟨P.low F,P.low (show (l+r) / 2<N by lia),?_⟩;show wpK lt N (if lt (at0 p k) (at0 p ((l+r) / 2))=true then _ else _) _;by_cases c:lt (at0 p k) (at0 p ((l+r) / 2))=true
   .rw [if_pos c];exact oN O P F s f l _ (by lia) (by lia) (by lia) a λi hi z=>O.Vl _ _ _ (O.bg _ _ c) (s _ _ hi z)
   .rw [if_neg c];have c':lt (at0 p k) (at0 p ((l+r) / 2))=false:=by simpa using c
    exact oN O P F s f _ r (by lia) h2 (by lia) (λi hi=>O.Vl _ _ _ (s i ((l+r) / 2) (by lia) (by lia)) c') b
theorem rX(O:bU lt):∀(f:Nat)(p:Array Nat)(k:Nat),PM N p->k+f<=N->Ri lt p k->wpK lt N (kas_bin f p k) λq=>PM N q/\Ri lt q (k+f)
 | 0,p,k,P,S,s=>⟨P,s⟩
 | f+1,p,k,P,S,s=>by
  unfold kas_bin;refine h6 (cM (λl h=>?_) (oN O P (show k<N by lia) s k 0 k (Ot _) (Nq _) (by lia) (λi hi=>by lia) λi h1 h2=>by lia));obtain ⟨h1,h2,h3⟩:=h;have hs:k<p.size:=by rw [P.size];lia
  refine cM (λq h=>⟨h.1,by rw [show k+(f+1)=k+1+f by lia];exact h.2⟩) (rX O f _ (k+1) (P.bH _ _) (by lia) λi j J U=>?_);rw [yr hs (by lia),yr hs (by lia),show k-(k-l)=l by lia];by_cases F:j=l
  .rw [if_pos F];by_cases z:i=l
   .rw [if_pos z];exact O.af _
   .rw [if_neg z,if_neg (by lia)];exact h2 i (by lia)
  .rw [if_neg F];by_cases G:l<j/\j<=k
   .rw [if_pos G];by_cases z:i=l
    .rw [if_pos z];exact h3 _ (by lia) (by lia)
    .rw [if_neg z];split
     .exact s _ _ (by lia) (by lia)
     .exact s _ _ (by lia) (by lia)
   .rw [if_neg G,if_neg (by lia),if_neg (by lia)];exact s _ _ J (by lia)
theorem CS(O:bU lt)(h1:1<=N):wpK lt N (kas_sort N) λp=>PM N p/\Ri lt p N:=by
 unfold kas_sort;refine h6 (cM (λr h=>?_) (Ju O ⟨Array.Perm.refl _⟩ h1));obtain ⟨G,J,F,z⟩:=h;split
 .refine cM (λq h=>⟨h.1,by have e:=h.2;rw [show max r.1 1+(N-max r.1 1)=N by lia] at e;exact e⟩) (rX O _ _ _ F (by lia) (by rw [show max r.1 1=r.1 by lia];exact z))
 .have e:r.1=N:=by lia
  rw [e] at z;exact ⟨F,z⟩
end
end L2
namespace L2
open PySem PySem.Spec PyProof.Rows
def tDC(ix:List (Option Nat))(wi:TI)(g:TG)(tt:TT)(tk tv:TE):TE:=λσ H Q=>wi σ H λJ H1=>∃W:Nat->Nat->St->List (Key×V)->Hp->Prop,(∃m,W 0 m (cz ix σ) [] H1)/\∀i m τ ys H2,W i m τ ys H2->ys.length<sizeLine /\
 ((J.stop i H2 ∧ ∀ D, H2 D = none → D ≠ sysModules → Q (.ref D) (upd H2 D (.dK ys))) ∨
  (J.go i H2 ∧ ∀ x H3, J.ai i H2 x H3 → g x τ H3 fun F H4 => tt F H4 fun ok H5 => if ok = true then tk F H5 fun y H6 => tv F H6 fun z H7 => uK y fun k => ∃ G, G < m ∧ W (i + 1) G F (aL ys k z) H7 else ∃ G, G < m ∧ W (i + 1) G F ys H5))
theorem M5{tk tv:TE}(hc:c=true->X.calm=true)(L:zU X sc N' ix)(hi:PIc c X tg iter wi)(hg:∀Go C fp s H,PG (zP X sc N' Go C fp s H) tg g)(ht:∀Go C fp s H,PTs (zP X sc N' Go C fp s H) Zf tt)(hk:∀Go C fp s H,PE (zP X sc N' Go C fp s H) O tk)(hv:∀Go C fp s H,PE (zP X sc N' Go C fp s H) F tv)(hs:∀x,O7 iter X.env x=pure x:=by intro _;rfl):PE X (.DictComp O F [⟨tg,iter,Zf,0⟩] sc pos) (tDC ix wi g tt tk tv):=by
 intro Go s σ H Q I h;rw [arm_eval_DictComp];refine yS (e:=.DictComp O F [⟨tg,iter,Zf,0⟩] sc pos) (use:=none) (em:=λD env=>do
  let kv<-Os O env
  let vv<-PV [kv] (Os F env)
  QH { O.pos with endLine:=F.pos.endLine,endCol:=F.pos.endCol }
  PV [kv,vv] (dictSet D kv vv)) (T:="dict") (dt:=.dict #[]) length HO.dK [] (λys o=>∃vs es ep,KV ys vs/\o.ExactDict/\o.data = .dict es ep/\KeysOf (aB X.prog X.w) es/\Pairs (aB X.prog X.w) es.toList vs/\(vs.map (·.1)).Nodup) (λK ys τ H=>tk τ H λy H6=>tv τ H6 λz H7=>uK y λk=>K (aL ys k z) H7) rfl (by size_fits) (λ_ _ _=>⟨λ_=>rfl,rfl⟩) codeAny_compStart_dict ?_ rfl ?_ ?_ ?_ hc L hi hg ht hs I h λC D oC H' s5 m5 IX ns tu q=>?_
 .obtain ⟨o,es,ep,e,r⟩:=Heap.DictOf.new (knd:=aB X.prog X.w) s.heap;rw [NK _ rfl] at e;cases e;exact ⟨[],es,ep,.nil,r⟩
 .rintro ys o ⟨vs,es,ep,_,_,d,_⟩ v z;rw [d] at z;cases z
 .rintro ys o H' h D ⟨vs,es,ep,U,dx,r⟩ hl n e;exact ⟨Pj hl,by simpa using n,vs,U,o,es,ep,e,dx,r⟩
 .rintro Go C fp s H pins' s8 τ H8 ys ob D K I8 q8 ⟨vs,es,ep,U,r⟩ hl hD;refine fv (thn (hk Go C fp s H _ s8 τ H8 _ I8 q8) λy s9=>x5e λyv H9 I9 r9 q9=>fv (N9 (thn (hv Go C fp s H _ s9 τ H9 _ I9 q9) λz S=>x5e λzv ak G ab Xo=>?_)));obtain ⟨kk,ek,w'⟩:=Xo;subst ek;have lv:vs.length<sizeLine:=by rw [<- U.length];exact hl
  refine fv (PN (N9 (wpAny_dictSet_pairs (hsz:=Pj lv) (fk r9) ⟨ob,es,ep,(G.pin _ (NU _ hD)).1,r⟩ λZ J sb=>?_)));obtain ⟨o2,W,ag,e2,r2⟩:=J;exact ⟨S,_,ak,o2,Z,S.toks+1,rfl,w',G,⟨_,W,ag,U.put kk ab,r2⟩,e2,sb⟩
 .obtain ⟨p6,aj,_⟩:=IX.pin (C,oC) (NU _ (NU _ (NG.mpr rfl)));exact ⟨m5,ns p6,λh' ai=>⟨.ref D,H',tu (IX.L0 λp hp=>IX.pin p (NU _ (OQ _ hp))) aj ai,rfl,q⟩⟩
end L2
namespace L2
open PySem PySem.Spec PyProof.Rows PySem.W PySem.Calls
theorem yn{α:Type}(d:α):∀vs:List α,(RG vs.length).map (λi=>vs.getD i d)=vs:=λvs=>by
 apply List.ext_getElem?;intro i;rw [NJ];by_cases h:i<vs.length
 .rw [List.getElem?_range h,p8 h];show some (vs.getD i d)=_;rw [Nr,p8 h];rfl
 .rw [Pf (by simp;lia),Pf (by lia)];rfl
section
variable {prog:NB}{w:NQ}{A:NP}{E:Value->we->Prop}{s:we}
theorem Mo{lt:Nat->Nat->Bool}(O:bU lt)(ho:s.heap.get? a=some (Pc "list" vs.toArray n))(Yc:vs.length<64)(hk:∀(h':Heap)(Q:SortKind->we->Prop),(∀b o,b≠a->s.heap.get? b=some o->h'.get? b=some o)->2<=vs.length->Q κ { s with heap:=h' }->NF (NL prog w) A (keyKind' vs.toArray) Q E { s with heap:=h' })(hl:∀(h':Heap) i j C,(∀b o,b≠a->s.heap.get? b=some o->h'.get? b=some o)->i<vs.length->j<vs.length->C (lt i j) { s with heap:=h' }->kas_ask prog w A κ vs i j C { s with heap:=h' })(h:∀p:Array Nat,PM vs.length p->Ri lt p vs.length->P (.done (.ret .none)) { s with heap:=sortedHeap s.heap a vs (Sv (p.toList.map λi=>vs.getD i N7)) }):
  NF (NL prog w) A (NN.«list.sort» ⟨[.ref a],[]⟩) P E s:=by
 rw [list_sort_plain];have ha:a<s.heap.objs.size:=NR ho;obtain ⟨U,G⟩:∃U,(s.heap.update a (Qw λ_=>(#[]:Array Value))).get? a=some (Pc "list" #[] U):=⟨_,get?_update_seq ho λ_=>#[]⟩;refine fv (listItems_at ho rfl (fv (listUpdate_at ho rfl ?_ (by rw [NI,Ox];lia) (Ot _))));refine fv (seqEpoch_at G rfl (fv (wpAny_newTuple (fv (R7 (N9 ?_) (Ot _))) (by show vs.length<=_;rw [Ox];lia))));have Z:∀b o,b≠a->s.heap.get? b=some o->(((s.heap.update a (Qw λ_=>(#[]:Array Value))).push (Pc "tuple" vs.toArray 0)).push (Pc "list" #[] 0)).get? b=some o:=λb o hb e=>by
  refine zv _ (zv _ ?_);rw [Heap.get?_update_ne _ _ _ _ hb];exact e
 have F:(((s.heap.update a (Qw λ_=>(#[]:Array Value))).push (Pc "tuple" vs.toArray 0)).push (Pc "list" #[] 0)).get? a=some (Pc "list" #[] U):=zv _ (zv _ G);show NF (NL prog w) A _ P E { s with heap:=((s.heap.update a (Qw λ_=>(#[]:Array Value))).push (Pc "tuple" vs.toArray 0)).push (Pc "list" #[] 0) };dsimp only;have hz:vs.toArray.size=vs.length:=by simp
 have big:vs.length<=sizeLine:=by rw [Ox];lia
 by_cases h2:vs.toArray.size<2
 .rw [if_pos h2,if_pos h2];refine fv (Nv ?_);rw [StateT.run_pure];refine fv (Nv ?_);dsimp only;have hr:=h (Sv (RG vs.length)) ⟨Array.Perm.refl _⟩ (λi j X8 hj=>by
   have:i=j:=by lia
   subst this;exact O.af _)
  rw [show (Sv (RG vs.length)).toList=RG vs.length from rfl,yn] at hr;have eo:(arrOf (SortSt.mk' general' (vs.toArray.zip vs.toArray) #[] 7 none)).map (·.2)=vs.toArray:=by
   show (vs.toArray.zip vs.toArray).map (·.2)=vs.toArray;apply Array.ext
   .simp
   .intro i h1 h2;simp
  rw [eo];refine fv (seqEpoch_at F rfl (fv (listUpdate_at F rfl ?_ (Ot _) (by rw [hz];exact Qy big))));simp only [bne_self_eq_false,Pi,if_false];exact Nv hr
 .rw [if_neg h2,if_neg h2];have W:2<=vs.length:=by lia
  refine fv (hk _ _ Z W ?_);have run:=CS O (N:=vs.length) (by lia);have wp:=wg (cmp:=kas_ask prog w A κ vs) (s:={ s with heap:=((s.heap.update a (Qw λ_=>(#[]:Array Value))).push (Pc "tuple" vs.toArray 0)).push (Pc "list" #[] 0) }) (hl _ · · · Z) (Q:=λp s'=>s'={ s with heap:=((s.heap.update a (Qw λ_=>(#[]:Array Value))).push (Pc "tuple" vs.toArray 0)).push (Pc "list" #[] 0) }/\PM vs.length p/\Ri lt p vs.length) (cM (λp q=>⟨rfl,q⟩) run);refine fv (OG (kat_run (E:=E) (Q:=λJ s'=>∃p:Array Nat,p.size=vs.length/\arrOf J=p.map (kas_item (vs.toArray.zip vs.toArray))/\failedOf J=none/\s'={ s with heap:=((s.heap.update a (Qw λ_=>(#[]:Array Value))).push (Pc "tuple" vs.toArray 0)).push (Pc "list" #[] 0) }/\PM vs.length p/\Ri lt p vs.length) rfl W Yc (λp J s' a1 a2 a3 a4=>⟨p,a1,a2,a3,a4⟩) wp) ?_ λ_ _ z=>z);rintro ⟨⟨⟩,J⟩ s' ⟨p,hp,S,hf,rfl,pm,ri⟩;dsimp only;have Yt:=kat_snds rfl S;rw [Yt,hf];refine fv (seqEpoch_at F rfl (fv (listUpdate_at F rfl ?_ (Ot _) (by rw [NI,KE,PR,hp];exact Qy big))));simp only [bne_self_eq_false,Pi,if_false];exact Nv (h p pm ri)
theorem Hh{lt:Nat->Nat->Bool}(O:bU lt)(F:s.heap.IsList l vs.toArray)(Yc:vs.length<64)(U:∀(h':Heap)(Q:SortKind->we->Prop),(∀b o,s.heap.get? b=some o->h'.get? b=some o)->2<=vs.length->Q κ { s with heap:=h' }->NF (NL prog w) A.in1.in1 (keyKind' vs.toArray) Q E { s with heap:=h' })(hl:∀(h':Heap) i j C,(∀b o,s.heap.get? b=some o->h'.get? b=some o)->i<vs.length->j<vs.length->C (lt i j) { s with heap:=h' }->kas_ask prog w A.in1.in1 κ vs i j C { s with heap:=h' })(h:∀p:Array Nat,PM vs.length p->Ri lt p vs.length->Q (.ref (s.heap.objs.size+1)) { s with heap:=sortedAll s.heap vs (Sv (p.toList.map λi=>vs.getD i N7)) }):
  NF (NL prog w) A (call (.builtin "sorted") [.ref l]) Q E s:=by
 refine call_function_entry kind_sorted plain_sorted entry_sorted (args_sorted1 _) ?_;unfold NN.«sorted»
 refine fv (m:=checkCount "sorted" 1 1 _) (Nv (fv (collect_list F (fv (R7 ?_ (by rw [Ox];lia))) (by rw [Ox];lia))));have hsz:((s.heap.push (Pc "list" #[] 0)).update s.heap.objs.size (Qw (·++vs.toArray))).objs.size=s.heap.objs.size+1:=(Heap.size_update ..).trans (RQ ..);have G:(((s.heap.push (Pc "list" #[] 0)).update s.heap.objs.size (Qw (·++vs.toArray))).push (Pc "list" vs.toArray 0)).get? (s.heap.objs.size+1)=some (Pc "list" vs.toArray 0):=hsz ▸ NK _ rfl;have keep:∀b o,s.heap.get? b=some o->(((s.heap.push (Pc "list" #[] 0)).update s.heap.objs.size (Qw (·++vs.toArray))).push (Pc "list" vs.toArray 0)).get? b=some o:=λb o q=>by
  refine zv _ ?_;rw [Heap.get?_update_ne _ _ _ _ (Oh (NR q))];exact zv _ q
 show NF _ _ _ _ _ { s with heap:=((s.heap.push (Pc "list" #[] 0)).update s.heap.objs.size (Qw (·++vs.toArray))).push (Pc "list" vs.toArray 0) };rw [hsz];have ne:∀b o,s.heap.get? b=some o->b≠s.heap.objs.size+1:=λb o e=>Oh (QP (NR e));refine fv (N9 (OB slot_list_sort ⟨_,G,rfl⟩ entry_list_sort (Mo (κ:=κ) O (s:={ s with heap:=((s.heap.push (Pc "list" #[] 0)).update s.heap.objs.size (Qw (·++vs.toArray))).push (Pc "list" vs.toArray 0) }) G Yc (λh' Q k J q=>?_) (λh' i j C k hi Z q=>?_) λp W S=>⟨_,rfl,Nv ⟨_,rfl,h p W S⟩⟩) (args_list_sort _)))
 .exact OG (U h' Q (λb o e=>k b o (ne b o e) (keep b o e)) J q) (λ_ _ z=>z) λ_ _ z=>z
 .exact hl h' i j C (λb o e=>k b o (ne b o e) (keep b o e)) hi Z q
end
def ltP(p q:Int×Int):Bool:=decide (p.1<q.1)||(decide (p.1=q.1)&&decide (p.2<q.2))
theorem oY{p q:Int×Int}:ltP p q=false↔q.1<p.1\/(p.1=q.1/\q.2<=p.2):=by
 unfold ltP;simp only [Bool.or_eq_false_iff,Bool.and_eq_false_iff,decide_eq_false_iff_not];lia
theorem LG{p q:Int×Int}:ltP p q=true↔p.1<q.1\/(p.1=q.1/\p.2<q.2):=by
 unfold ltP;simp only [Bool.or_eq_true,Oc,decide_eq_true_eq]
theorem Gy(f:Nat->Int×Int):bU λi j=>ltP (f i) (f j):=⟨λi j h=>by rw [LG] at h;rw [oY];lia,λi j k h1 h2=>by rw [oY] at *;lia⟩
def gG(H:Hp)(a:Addr)(p:Int×Int):Prop:=H a=some (.tup [.int p.1,.int p.2])
theorem so{α β:Type}{R:α->β->Prop}{l:List α}{m:List β}{x:α}{y:β}(h:Paired R l m):∀{ix:List Nat},(∀i∈ix,i<l.length)->Paired R (ix.map λi=>l.getD i x) (ix.map λi=>m.getD i y)
 | [],_=>.nil
 | i::ix,hi=>by
  have h1:i<l.length:=hi i (NX ..);have h2:i<m.length:=by rw [<- zW h];exact h1
  refine .cons ?_ (so h λj z=>hi j (ND _ z));show R (l.getD i x) (m.getD i y);rw [Nr,Nr,p8 h1,p8 h2];exact aY h (p8 h1) (p8 h2)
theorem PM.mem{p:Array Nat}(h:PM N p):∀i∈p.toList,i<N:=λi hi=>by
 have m:i∈Sv (RG N):=h.perm.mem_iff.mp (by simpa using hi);simpa using m
theorem PM.perms{α:Type}{p:Array Nat}(h:PM N p){l:List α}(hl:l.length=N)(d:α):(p.toList.map λi=>l.getD i d).Perm l:=by
 have e:p.toList.Perm (RG N):=by have:=Array.perm_iff_toList_perm.mp h.perm;simpa using this
 have:=e.map λi=>l.getD i d;rw [<- hl,yn] at this;exact this
theorem Jg{α:Type}{p:Array Nat}(h:PM N p){l:List α}{d:α}{f:α->α->Bool}(r:Ri (λi j=>f (l.getD i d) (l.getD j d)) p N):(p.toList.map λi=>l.getD i d).Pairwise λa b=>f b a=false:=by
 rw [Pt];intro i j hi z F;rw [KE,PR] at hi z;have:=r i j (Pj F) (by rw [<- h.size];exact z);simp only [rA] at this;simp only [List.getElem_map,Array.getElem_toList];rw [R1 hi,R1 z] at this;exact this
def tH:List V->Hp->VK->Prop:=λxs H Q=>uR1 xs λl=>∃(as:List Addr)(ps:List (Int×Int)),H l=some (.lst (as.map V.ref))/\Paired (gG H) as ps/\as.length<64 /\
 ∀D F z H2,New H D (.lst (F.map V.ref)) H2->D≠sysModules->Paired (gG H) F z->z.Perm ps->z.Pairwise (λa b=>ltP b a=false)->Q (.ref D) H2
theorem BQ:tH [.ref l] H Q = ∃(as:List Addr)(ps:List (Int×Int)),H l=some (.lst (as.map V.ref))/\Paired (gG H) as ps/\as.length<64 /\
 ∀D F z H2,New H D (.lst (F.map V.ref)) H2->D≠sysModules->Paired (gG H) F z->z.Perm ps->z.Pairwise (λa b=>ltP b a=false)->Q (.ref D) H2:=e9
section
variable {X:Cx}
theorem uA{p:Int×Int}(I:Inv X Go σ H s)(e:gG H a p):∃o n t u,s.heap.get? a=some o/\o.cls = .type "tuple"/\o.data = .seq #[.int p.1 t,.int p.2 u] n:=by
 obtain ⟨_,its,O,ob,g1,G,n,F⟩:=I.hok a _ e;cases O with
 | cons J S =>
 cases S with
 | cons U z =>
 cases z;obtain ⟨t,rfl⟩:=J;obtain ⟨u,rfl⟩:=U;exact ⟨ob,n,t,u,g1,G,F⟩
theorem Et(I:Inv X Go σ H s)(k:∀b o,s.heap.get? b=some o->h'.get? b=some o)(h:Paired (gG H) as ps):∃fs,KatTups h' (as.map Ny) fs/\fs.length=as.length/\∀v∈fs,∃n t,v=PB n t:=by
 induction h with
 | nil=>exact ⟨[],.nil,rfl,by simp⟩
 | cons r _ G =>
  obtain ⟨fs,h1,h2,h3⟩:=G;obtain ⟨o,n,t,u,g1,J,F⟩:=uA I r;refine ⟨.int _ t::fs,KatTups.cons (k _ _ g1) J F rfl h1,by simp [h2],λv z=>?_⟩;rcases Nw.mp z with rfl|z
  .exact ⟨_,_,rfl⟩
  .exact h3 v z
theorem C2:zM X (.builtin "sorted") tH:=by
 intro Go s σ H xs us Q I r h;obtain ⟨l,rfl,as,ps,hl,O,Yc,q⟩:=h;obtain ⟨u,rfl,ru⟩:=cg r;cases ru;obtain ⟨its,rv,⟨o,n,e1,e2,e3,e4⟩,hz⟩:=I.list (SqL.of hl);have J:=AH rv;subst J;have lp:=zW O;refine Hh (κ:=tuples' true) (Gy λi=>ps.getD i (0,0)) ⟨o,e1,e2,n,e4⟩ (by rw [KE];exact Yc) (λh' Q' k Z q'=>?_) (λh' i j C k hi W F=>?_) λp pm S=>?_
 .obtain ⟨fs,t1,t2,t3⟩:=Et I k O;refine kat_kind (T:=.type "int") t1 (by rw [t2];rw [KE] at Z;lia) (λv hv=>?_) (by decide) (by rw [show (type "int" != type "tuple")=true by decide];exact q');obtain ⟨n,t,rfl⟩:=t3 v hv;exact .now
 .rw [KE] at hi W;have get:∀i,i<as.length->∃a t u,(as.map Ny).getD i N7 = .ref a/\∃o n,h'.get? a=some o/\o.data = .seq #[.int (ps.getD i (0,0)).1 t,.int (ps.getD i (0,0)).2 u] n:=λi hi=>by
   have G:i<ps.length:=by lia
   obtain ⟨o,n,t,u,g1,_,g3⟩:=uA I (aY O (p8 hi) (p8 G));refine ⟨as[i],t,u,by rw [Nr,NJ,p8 hi];rfl,o,n,k _ _ g1,?_⟩;rw [Nr,p8 G];exact g3
  obtain ⟨a,t,u,ea,oa,na,ga,da⟩:=get i hi;obtain ⟨b,t',u',eb,ob,nb,gb,db⟩:=get j W;unfold kas_ask;rw [ea,eb];generalize ps.getD i (0,0)=x at *
  generalize ps.getD j (0,0)=y at *
  refine kat_lt ga da gb db (kat_cons (wpAny_eqBool_int ?_));by_cases z:x.1=y.1
  .rw [show (x.1==y.1)=true by simpa using z];refine kat_yes (kat_cons (wpAny_eqBool_int ?_));by_cases U:x.2=y.2
   .rw [show (x.2==y.2)=true by simpa using U];refine kat_yes (kat_nil ?_);have e:ltP x y=false:=by rw [oY];lia
    rw [e] at F;exact F
   .rw [show (x.2==y.2)=false by simpa using U];refine kat_no (kat_one _ _ (SQ ?_));have e:ltP x y=decide (x.2<y.2):=by unfold ltP;rw [z];simp
    rw [e] at F;exact F
  .rw [show (x.1==y.1)=false by simpa using z];refine kat_no (oneLt_int ?_);have e:ltP x y=decide (x.1<y.1):=by unfold ltP;simp [z]
   rw [e] at F;exact F
 .rw [KE] at pm S;have hm:=pm.mem;have eo:(p.toList.map λi=>(as.map Ny).getD i N7)=(p.toList.map λi=>as.getD i 0).map Ny:=by
   rw [Oi];refine O6 λi hi=>?_;show (as.map Ny).getD i N7=Ny (as.getD i 0);have:=hm i hi;rw [Nr,Nr,NJ,p8 this];rfl
  obtain ⟨e,he⟩:=sortedAll_at s.heap (as.map Ny) (Sv (p.toList.map λi=>(as.map Ny).getD i N7));have lz:(p.toList.map λi=>as.getD i 0).length=as.length:=by rw [KE,PR,pm.size]
  refine ⟨.ref (s.heap.objs.size+1),upd H (s.heap.objs.size+1) (.lst ((p.toList.map λi=>as.getD i 0).map V.ref)),I.laid (t':=s.toks) (λb o e=>sortedAll_old e) (Sy _) ⟨by rw [KE,lz,Ox];lia,(p.toList.map λi=>as.getD i 0).map Ny,e,wM _,by rw [<- eo];exact he⟩,rfl,?_⟩;exact q _ (p.toList.map λi=>as.getD i 0) (p.toList.map λi=>ps.getD i (0,0)) _ (.mk' (I.hok.fresh (Sy _))) (Qs (QP I.big)) (so O hm) (pm.perms lp.symm (0,0)) (Jg pm S)
def ik(kvs:List (Int×V)):List (Key×V):=kvs.map λp=>(.inl p.1,p.2)
def vo:List V->Hp->VK->Prop:=λxs H Q=>uR1 xs λa=>∃kvs:List (Int×V),Rd H a (.dK (ik kvs))/\kvs.length<64/\∀p (ns:List Int) H2,New H p (.lst (ns.map V.int)) H2->ns.Perm (kvs.map (·.1))->ns.Pairwise (·<=·)->Q (.ref p) H2
theorem GI:vo [.ref a] H Q = ∃kvs:List (Int×V),Rd H a (.dK (ik kvs))/\kvs.length<64/\∀p (ns:List Int) H2,New H p (.lst (ns.map V.int)) H2->ns.Perm (kvs.map (·.1))->ns.Pairwise (·<=·)->Q (.ref p) H2:=e9
theorem tR:∀{vs:List Value}{ns:List Int},vs.length=ns.length->(∀(j:Nat)(v:Value),vs[j]?=some v->∃t,v=PB (ns.getD j 0) t)->Qq vs ns
 | [],[],_,_=>.nil
 | [],_::_,h,_=>absurd h (by simp)
 | _::_,[],h,_=>absurd h (by simp)
 | v::vs,x::ns,h,f=>by
  obtain ⟨t,e⟩:=f 0 v rfl;have F:v=PB x t:=e;rw [F];exact .cons x t (tR (by simpa using h) λj u z=>f (j+1) u z)
theorem vm(hc:X.calm=true):zM X (.builtin "sorted") vo:=by
 intro Go s σ H xs us Q I r h;obtain ⟨a,rfl,kvs,hq,Yc,q⟩:=h;obtain ⟨u,rfl,ru⟩:=cg r;cases ru;obtain ⟨z,hd,vs,Zs,dd⟩:=d8 I.hok hq;obtain ⟨ep,U⟩:=dd.dictAt;have Z7:vs.length=kvs.length:=by rw [<- Zs.length];simp [ik]
 refine call_function_entry kind_sorted plain_sorted entry_sorted (args_sorted1 _) ?_;unfold NN.«sorted»
 refine fv (m:=checkCount "sorted" 1 1 _) (Nv (fv (kdu_collect (A:=X.A.in1) (kdl_dict (knd:=aB X.prog X.w) (kvs:=vs) (ep:=ep) hd) (I.ok.hd hc) U (by rw [Z7,Ox];lia) λh' tk ZJ S XU=>?_)));have hl:ZJ.toList.length=kvs.length:=by rw [PR,<- Z7];exact XU.1
 have hS:Qq ZJ.toList (kvs.map (·.1)):=tR (by rw [hl,KE]) λj v hv=>by
  obtain ⟨k,x,hx,S⟩:=XU.2 j v (by rw [<- QT];exact hv);have hj:j<vs.length:=(Nt.mp hx).1;have F:j<kvs.length:=by lia
  have J:(ik kvs)[j]?=some (.inl kvs[j].1,kvs[j].2):=by simp [ik,F]
  obtain ⟨u',G,_⟩:=Zs.at J;rw [hx] at G;cases G;rcases cZ (show eP (Sum.inl kvs[j].1) v=true from S) with ⟨i,t,W,J⟩|⟨y,t,W,J⟩
  .cases W;exact ⟨t,by rw [J,Nr,NJ,p8 F];rfl⟩
  .cases W
 have I1:Inv X Go σ H { s with heap:=h',toks:=tk }:=I.kept S;refine fv (R7 ?_ (by rw [hl,Ox];lia));have O:(h'.push (Pc "list" ZJ.toList.toArray 0)).get? h'.objs.size=some (Pc "list" ZJ.toList.toArray 0):=NK _ rfl;refine fv (N9 (OB slot_list_sort ⟨_,O,rfl⟩ entry_list_sort (list_sort_tree O hS (by rw [hl];exact Yc) λout ns' b1 b2 b3=>⟨_,rfl,?_⟩) (args_list_sort _)));obtain ⟨c,Z⟩:=sortedHeap_at (vs:=ZJ.toList) (out:=out) O;refine Nv ⟨_,rfl,.ref h'.objs.size,upd H h'.objs.size (.lst (ns'.map V.int)),I1.laid (a:=h'.objs.size) (t':=tk) (λb o e=>?_) (Nq _) ⟨?_,out.toList,c,wB b1,by rw [Array.toArray_toList];exact Z⟩,rfl,q _ ns' _ (.mk' (I1.hok.fresh (Nq _))) b2 b3⟩
 .have hb:b<h'.objs.size:=NR e;rw [sortedHeap_old (Oh hb) (by rw [RQ];exact QP hb)];exact zv _ e
 .have:=b2.length_eq;rw [KE,this,KE,Ox];lia
end
theorem Fh{tk tv:TE}(hc:c=true->X.calm=true)(L:zU X sc N' ix)(hi:W (PIc c X tg iter wi))(hg:∀Go C fp s H,W (PG (zP X sc N' Go C fp s H) tg g))(O:∀Go C fp s H,W (PTs (zP X sc N' Go C fp s H) G tt))(S:∀Go C fp s H,W (PE (zP X sc N' Go C fp s H) F tk))(J:∀Go C fp s H,W (PE (zP X sc N' Go C fp s H) z tv))(hs:∀x,O7 iter X.env x=pure x:=by intro _;rfl):W (PE X (.DictComp F z [⟨tg,iter,G,0⟩] sc pos) (tDC ix wi g tt tk tv)):=⟨M5 hc L hi.h (λa b c d e=>(hg a b c d e).h) (λa b c d e=>(O a b c d e).h) (λa b c d e=>(S a b c d e).h) (λa b c d e=>(J a b c d e).h) hs⟩
theorem GB:qT (.ref a) (.int i) H Q = ∃kvs,Rd H a (.dK kvs)/\∃v,zZ kvs (.inl i)=some v/\Q v H:=by
 apply propext;constructor
 .rintro ⟨a',k,kvs,v,F,z,h1,h2,q⟩;cases F;cases k with
  | inl j=>cases z;exact ⟨kvs,h1,v,h2,q⟩
  | inr x=>cases z
 .rintro ⟨kvs,h1,v,h2,q⟩;exact ⟨a,.inl i,kvs,v,rfl,rfl,h1,h2,q⟩
section
variable {K:Nu}{g:TG}{tt:TT}{te tk tv:TE}{σ:St}{H:Hp}{wi:TI}{ix:List (Option Nat)}{Q:VK}
def lq(J:It)(g:TG)(tt:TT)(tk tv:TE)(τ:St)(H:Hp)(Q:VK):Prop:=∃W:Nat->Nat->St->List (Key×V)->Hp->Prop,(∃m,W 0 m τ [] H)/\∀i m τ ys H2,W i m τ ys H2->ys.length<sizeLine /\
 ((J.stop i H2 ∧ ∀ D, H2 D = none → D ≠ sysModules → Q (.ref D) (upd H2 D (.dK ys))) ∨
  (J.go i H2 ∧ ∀ x H3, J.ai i H2 x H3 → g x τ H3 fun F H4 => tt F H4 fun ok H5 => if ok = true then tk F H5 fun y H6 => tv F H6 fun z H7 => uK y fun k => ∃ G, G < m ∧ W (i + 1) G F (aL ys k z) H7 else ∃ G, G < m ∧ W (i + 1) G F ys H5))
theorem C1:tDC ix wi g tt tk tv σ H Q=wi σ H λJ H1=>lq J g tt tk tv (cz ix σ) H1 Q:=rfl
def om(N:St->List (Key×V)->Hp->Prop)(ys:List (Key×V))(F:St)(tk tv:TE)(ok:Bool)(H5:Hp):Prop:=if ok=true then tk F H5 λy H6=>tv F H6 λz H7=>uK y λk=>N F (aL ys k z) H7 else N F ys H5
theorem Me:om N ys τ tk tv true H=tk τ H λy H6=>tv τ H6 λz H7=>uK y λk=>N τ (aL ys k z) H7:=rfl
theorem C9:om N ys τ tk tv false H=N τ ys H:=rfl
theorem lq.lst{a:Addr}{xs:List V}{τ:St}(F:Nat->St->List (Key×V)->Hp->Prop)(S:∀i τ ys H,F i τ ys H->ys.length<sizeLine)(ha:∀i τ ys H,F i τ ys H->SqL K H a xs)(U:F 0 τ [] H)
  (hs:∀(N:St->List (Key×V)->Hp->Prop) i x τ ys H,xs[i]?=some x->F i τ ys H->(∀τ ys H,F (i+1) τ ys H->N τ ys H)->g x τ H λz H4=>tt z H4 λok H5=>om N ys z tk tv ok H5) (hd:∀τ ys H,F xs.length τ ys H->∀D H',New H D (.dK ys) H'->Q (.ref D) H'):lq (Itl K a) g tt tk tv τ H Q:=by
 refine ⟨λi m τ ys H=>m=xs.length-i/\i<=xs.length/\F i τ ys H,⟨xs.length,by simp,Ot _,U⟩,?_⟩;rintro i m τ ys H2 ⟨rfl,hi,p⟩;refine ⟨S i τ ys H2 p,?_⟩;have q:=ha i τ ys H2 p;by_cases J:i<xs.length
 .refine .inr ⟨⟨xs,xs[i],q,by simp [J]⟩,λx H' y=>?_⟩;obtain ⟨e,y⟩:=y;subst e;exact hs (λz ys H=>∃G,G<xs.length-i/\G=xs.length-(i+1)/\i+1<=xs.length/\F (i+1) z ys H) i x τ ys _ (y xs q) p λz zs H q=>⟨xs.length-(i+1),by lia,rfl,J,q⟩
 .have e:i=xs.length:=by lia
  subst e;exact .inl ⟨⟨xs,q,Nq _⟩,λD O _=>hd τ ys H2 p D _ (.mk' O)⟩
theorem zT.bB(F:Nat->St->List V->Hp->Prop)(S:∀i τ ys H,F i τ ys H->ys.length<sizeLine)(ha:∀i τ ys H,F i τ ys H->SqL K H a xs)(U:F 0 τ [] H)(hs:∀(N:St->List V->Hp->Prop) i x τ ys H,xs[i]?=some x->F i τ ys H->(∀τ ys H,F (i+1) τ ys H->N τ ys H)->g x τ H λz H4=>tt z H4 λok H5=>dD N ys z te ok H5)(hd:∀τ ys H,F xs.length τ ys H->∀D H',New H D (.lst ys) H'->D≠sysModules->Q (.ref D) H'):zT (Itl K a) g tt te τ H Q:=by
 refine ⟨λi m τ ys H=>m=xs.length-i/\i<=xs.length/\F i τ ys H,⟨xs.length,by simp,Ot _,U⟩,?_⟩;rintro i m τ ys H2 ⟨rfl,hi,p⟩;refine ⟨S i τ ys H2 p,?_⟩;have q:=ha i τ ys H2 p;by_cases J:i<xs.length
 .refine .inr ⟨⟨xs,xs[i],q,by simp [J]⟩,λx H' y=>?_⟩;obtain ⟨e,y⟩:=y;subst e;exact hs (λz ys H=>∃G,G<xs.length-i/\G=xs.length-(i+1)/\i+1<=xs.length/\F (i+1) z ys H) i x τ ys _ (y xs q) p λz zs H q=>⟨xs.length-(i+1),by lia,rfl,J,q⟩
 .have e:i=xs.length:=by lia
  subst e;exact .inl ⟨⟨xs,q,Nq _⟩,λD O n=>hd τ ys H2 p D _ (.mk' O) n⟩
end
end L2
namespace L2
open PySem PySem.Spec PyProof.Rows
def Ris(xs:Array Nat):Prop:=∀i j,i<j->j<xs.size->xs.getD i 0<xs.getD j 0
structure GH(bt:Bool)(t:SetTable):Prop where
 led:t.led = !bt
 dum:t.dummies = #[]
 ris:Ris t.place
def btW(w:NQ):Bool:=w.params.followText "set-order"
def IR(e:Int×Value):Int:=numOf e.2
structure nB(prog:NB)(w:NQ)(h:Heap)(a:Addr)(ns:List Int):Prop where
 ex:∃o es ep t,h.get? a=some o/\o.ExactSet/\o.data = .set es ep t/\ElemsOf (PySem.intKind prog w) es.toList/\t.fits es.size=true/\GH (btW w) t/\(es.toList.map IR).Perm ns
 few:ns.length<4000
section
variable {prog:NB}{w:NQ}{A:NP}{E:Value->we->Prop}{s:we}
theorem nB.at(x:nB prog w h a ns)(k:∀o,h.get? a=some o->h'.get? a=some o):nB prog w h' a ns :=
 let ⟨o,es,ep,t,ho,r⟩:=x.ex;⟨⟨o,es,ep,t,k o ho,r⟩,x.few⟩
end
section
variable {prog:NB}{w:NQ}{A:NP}{E:Value->we->Prop}{s:we}
structure SIt(h:Heap)(I a:Addr)(n ep:Nat)(first:Value)(i:Nat):Prop where
 ex:∃o,h.get? I=some o/\o.cls = .type "set_iterator"/\o.data = .fields #[first,.int i 0,.ref a,.int n 0,.int ep 0]
theorem SIt.at(x:SIt h I a n ep first i)(k:∀o,h.get? I=some o->h'.get? I=some o):SIt h' I a n ep first i:=let ⟨o,ho,r⟩:=x.ex;⟨⟨o,k o ho,r⟩⟩
end
end L2
namespace L2
open PySem PySem.Spec PyProof.Rows PySem.W PySem.Calls
end L2
namespace L2
open PySem PySem.Spec PyProof.Rows
section
variable {P:NB}{w:NQ}{K:Nu}{ix:List (Option Nat)}{wi:TI}{g:TG}{tb:TB}{te:TE}{σ:St}{ns:List Int}{H:Hp}{Q:St->List Int->Hp->Prop}{R:VK}
theorem FK{H:Hp}(hl:W (PE (zP X sc N' Go C fp s H) l tl)):W (PIc true (zP X sc N' Go C fp s H) tg l (gD X.K tl)):=⟨yN (hl:=hl.h)⟩
end
section
variable {X:Cx}
def EqR(H:Hp)(x y:V)(b:Bool):Prop:=∃p q zs ws,x = .ref p/\y = .ref q/\H p=some (.tup zs)/\H q=some (.tup ws)/\zs.all ah=true/\ws.all ah=true/\b=eqL zs ws
theorem EqR.at(I:Inv X Go σ H s)(h:EqR H x y b)(rx:zo x u)(ry:zo y v)(hu:A.units<cLine):SeqAt.EqAt A s u v b:=by
 obtain ⟨p,q,xs,ys,rfl,rfl,ha,hb,J,fy,rfl⟩:=h;cases rx;cases ry;by_cases G:p=q
 .subst G;rw [ha] at hb;cases hb;rw [KM J λx hx b e=>by have:=Ol.mp J x hx;rw [e] at this;cases this];exact SeqAt.EqAt.same _
 obtain ⟨is,S,p1,_⟩:=I.tuple (SqT.of (K:=X.K) ha);obtain ⟨F,Z,p2,_⟩:=I.tuple (SqT.of (K:=X.K) hb);have l1:=S.length;have l2:=Z.length;have z:=SeqAt.RcAt.tuples (A:=A) (e:=λj=>eqV (xs.getD j .non) (ys.getD j .non)) p1 p2 hu λj h1 h2=>by
  simp only [NI] at h1 h2;have W:xs[j]?=some (xs.getD j .non):=by rw [Nr,p8 (by lia)];rfl
  have e2:ys[j]?=some (ys.getD j .non):=by rw [Nr,p8 (by lia)];rfl
  obtain ⟨u,g1,q1⟩:=S.get W;obtain ⟨v,O,q2⟩:=Z.get e2;rw [p8 h1] at g1;rw [p8 h2] at O;have w1:is.toArray[j]=u:=by simpa using Ob.inj g1
  have w2:F.toArray[j]=v:=by simpa using Ob.inj O
  rw [w1,w2];exact pS q1 q2 (Ol.mp J _ (NM W)) (Ol.mp fy _ (NM e2))
 have e:eqL xs ys=((RG (min is.toArray.size F.toArray.size)).all (λj=>eqV (xs.getD j .non) (ys.getD j .non))&&is.toArray.size==F.toArray.size):=by
  unfold eqL;simp only [NI];rw [l1,l2];by_cases U:is.length=F.length
  .rw [U];simp
  .have z:(is.length==F.length)=false:=by simpa using U
   rw [z,RZ,Bool.and_false]
 rw [e];exact .of_refs G z
theorem Il{z F pt:Pos}{kt k2 pt2}(hc:X.calm=true)(hN:X.N.Nodup)(hi:X.N[i]?=some x)(S:X.N[j]?=some y)(J:i≠j)(hx:X.env.scope.names.lookup x=some .local)(O:X.env.scope.names.lookup y=some .local)(ha:W (PA X [a,b] ta))(G:swappedStores [.Tuple [.Name x z,.Name y F] kt pt] (.Tuple [a,b] k2 pt2) X.env=pure (some [x,y]))(hs:swapsWithSole [.Tuple [.Name x z,.Name y F] kt pt] (.Tuple [a,b] k2 pt2) pos.line X.env=pure false:=by rfl):
  W (PS X (.Assign [.Tuple [.Name x z,.Name y F] kt pt] (.Tuple [a,b] k2 pt2) pos) (rM i j ta)):=⟨EC hc hN hi S J hx O ha.h G hs⟩
theorem GN:rM i j ta D σ H=ta σ H λvs H1=>∃v w,vs=[v,w]/\D.nx ((σ.set i (some v)).set j (some w)) H1:=rfl
end
section
variable {prog:NB}{w:NQ}{A:NP}{E:Value->we->Prop}{s:we}
theorem KU(S:Hnd A s.heap)(G:s.heap.IsListIter it l i)(hl:s.heap.IsList l items)(hx:items[i]?=none)(k:∀h',ExtBut it s.heap h'->Q none { s with heap:=h' }):NF (NL prog w) A (Ql (.ref it)) Q E s:=by
 obtain ⟨o,ho,hc,hd⟩:=id G;obtain ⟨W,J,_,nl,F⟩:=hl;unfold Ql;refine fv (QO (Oo (name:=yv "__next__") G.typeIs slot_listiter_next (OB slot_listiter_next G.typeIs entry_listiter_next ?_ (args_listiter_next _))));refine fv (m:=RT (.ref it) 0) (N4 ho hd (x:=.ref l) rfl ?_);rw [if_neg (show ¬ ((Ny l==N7)=true) by simp)];refine fv (m:=RT (.ref it) 1) (N4 ho hd (x:=.int i 0) rfl (fv (m:=Q1 (.ref l)) (OA J F ?_)));simp only [Ph,hx];refine fv (PP (fv (OY ho hd (by simp) ?_)));refine kH (S.keeps λb q U e=>(NS _ _ λz=>?_).trans e) λh' e up=>x3e λo' g' c' =>
  fv (Rh (T:="StopIteration") (b:=true) ⟨o',g',c'⟩ RS (Nv (k h' λb q hb z=>up b q ((NS _ _ (NO hb)).trans z))))
 obtain ⟨C,O⟩:=U;rw [<- z,ho] at e;cases e;rw [hc] at O;cases O
theorem DA{x left step:Int}(S:Hnd A s.heap)(J:RC s.heap it x left step)(G:left<=0)(k:∀h',ExtBut it s.heap h'->Q none { s with heap:=h' }):NF (NL prog w) A (Ql (.ref it)) Q E s:=by
 have O:s.TypeIs (.ref it) "range_iterator":=⟨_,J,rfl⟩;unfold Ql;refine fv (QO (Oo (name:=yv "__next__") O F.slot_range_iterator_next (OB F.slot_range_iterator_next O F.entry_range_iterator_next ?_ (F.args_range_iterator_next_1 _))));refine fv (m:=RT (.ref it) 0) (N4 J rfl (x:=OE x) rfl ?_);refine fv (m:=RT (.ref it) 1) (N4 J rfl (x:=OE left) rfl ?_);refine fv (m:=RT (.ref it) 2) (N4 J rfl (x:=OE step) rfl ?_);show NF _ _ (if left<=0 then _ else _) _ _ s;rw [if_pos G];refine fv (PP (fv ?_));exact kH S λh' e up=>x3e λo' g' c' =>
  fv (Rh (T:="StopIteration") (b:=true) ⟨o',g',c'⟩ RS (Nv (k h' λb q hb z=>up b q z)))
end
theorem B4{P:NB}{w:NQ}{K:Nu}{tg:N0}(a it:Addr):dy false P w K tg (Itl K a) [it] it (λi h=>h.IsListIter it a i) where
 mem:=by simp
 obj:=(jW (P:=P) (w:=w) (K:=K) (tg:=tg) a it).obj
 keep:=(jW (P:=P) (w:=w) (K:=K) (tg:=tg) a it).keep
 item:=by
  intro X F Z O hc i Go s σ H E I hf st hg;subst F Z O;obtain ⟨xs,x,z,hx⟩:=hg;obtain ⟨its,G,p,hz⟩:=I.list z;obtain ⟨u,hu,ru⟩:=G.get hx;obtain ⟨J,S,f2,f3,U,W⟩:=hf it (by simp);refine wpAny_pyNext_list_item st p.isList (x:=u) (by simpa using hu) λh' YM sb=>?_;have I1:Inv X Go σ H { s with heap:=h' }:=I.turned (t':=s.toks) (λb o hb e=>(sb.2 b hb).trans e) J S f3 U W;obtain ⟨o,e,c,d⟩:=id YM;exact ⟨u,rfl,gA (s:={ s with heap:=h' }) e c d (by decide) ⟨x,H,I1,ru,⟨rfl,λys hy=>by rw [I.Tj hy z];exact hx⟩,YM,λb hb=>(hf b hb).1⟩⟩
 done:=by
  intro X F Z O hc i Go s σ H E I hf st hg;subst F Z O;obtain ⟨xs,z,hx⟩:=hg;obtain ⟨its,G,p,hz⟩:=I.list z;obtain ⟨J,S,f2,f3,U,W⟩:=hf it (by simp);have hl:=G.length;exact KU I.hnd st p.isList (by simp;lia) λh' eb=>⟨rfl,I.turned (t':=s.toks) (λb o hb e=>eb b o hb e) J S f3 U W⟩
 self:=λ_ _ _ _ _ st h=>wpAny_pyIter_listiter st h
theorem Im{P:NB}{w:NQ}{K:Nu}{tg:N0}(it:Addr)(lo:Int)(n:Nat):dy false P w K tg (Itr lo n) [it] it (λi h=>RC h it (lo+(i:Nat)*1) ((n:Int)-(i:Nat)) 1) where
 mem:=by simp
 obj:=(oz (P:=P) (w:=w) (K:=K) (tg:=tg) it lo n).obj
 keep:=(oz (P:=P) (w:=w) (K:=K) (tg:=tg) it lo n).keep
 item:=by
  intro X O G F hc i Go s σ H E I hf st hg;subst O G F;obtain ⟨W,S,f2,J,U,Z⟩:=hf it (by simp);have hg:i<n:=hg;refine wpAny_pyNext_range_item st (by lia) λh' z sb=>?_;have I1:Inv X Go σ H { s with heap:=h',toks:=s.toks+1 }:=I.turned (λb o hb e=>(sb.2 b hb).trans e) W S J U Z;have z:RC h' it (lo+((i+1:Nat):Int)*1) ((n:Int)-((i+1:Nat):Int)) 1:=by
   rw [show lo+((i+1:Nat):Int)*1=lo+(i:Int)*1+1 by lia,show (n:Int)-((i+1:Nat):Int)=(n:Int)-(i:Int)-1 by lia];exact z
  refine ⟨_,rfl,gA (s:={ s with heap:=h',toks:=s.toks+1 }) (n:="range_iterator") z rfl rfl (by decide) ⟨.int (lo+i),H,I1,⟨s.toks,?_⟩,⟨rfl,rfl⟩,z,λb hb=>(hf b hb).1⟩⟩;rw [Int.mul_one]
 done:=by
  intro X O G F hc i Go s σ H E I hf st hg;subst O G F;obtain ⟨W,S,f2,J,U,Z⟩:=hf it (by simp);exact DA I.hnd st (by have:n<=i:=hg;lia) λh' eb=>⟨rfl,I.turned (t':=s.toks) (λb o hb e=>eb b o hb e) W S J U Z⟩
 self:=λ_ _ _ _ _ st h=>wpAny_pyIter_rangeiter st h
section
variable {X:Cx}{tg:N0}
theorem JC(hl:PE X l tl):PIc false X tg l (gD X.K tl):=by
 intro Go s σ H R I h;refine thn (hl Go s σ H _ I h) λv s1=>x5e λx H1 z J F=>?_;obtain ⟨a,e,⟨xs,G⟩,q⟩:=F;subst e;cases J;obtain ⟨its,O,p,S⟩:=z.list G;refine Pk p.isList ?_;refine ⟨s1.heap.objs.size,[s1.heap.objs.size],_,_,H1,rfl,z.kept (t':=s1.toks) λb o e=>zv _ e,B4 a _,⟨_,NK _ rfl,rfl,rfl⟩,λb hb=>?_,q⟩;have e:b=s1.heap.objs.size:=by simpa using hb
 subst e;exact z.Tz (Nq _) (z.hok.fresh (Nq _))
theorem Ca{p pos:Pos}(hg:Gl X "range")(hm:X.mg "range"=none)(ha:PA X [a] ta)(S:aw a=true:=by rfl):PIc false X tg (.Call (.Name "range" p) [a] [] pos) (jg ta):=by
 intro Go s σ H R I h;refine Call_ (dN I hg hm boot_range (O1 (thn (ha pos Go s σ H _ I h) λus s1=>x5e λvs H1 U J F=>?_) (cT S) rfl));obtain ⟨j,e,F,G,q⟩:=F;subst e;cases J with
 | cons r W =>
  cases W;obtain ⟨t,rfl⟩:=r;refine call_range_1 (wpAny_pyIter_range (IsRange.new ..) (small_one (by lia) (by lia) F G) ?_);have z:Inv X Go σ H1 { s1 with heap:=s1.heap.push { cls:=.type "range",data:=.fields #[.int 0 s1.toks,.int j t,.int 1 (s1.toks+1)] },toks:=s1.toks+1+1 }:=U.kept λb o e=>zv _ e;refine ⟨_,[_],_,_,H1,rfl,z.kept (t':=s1.toks+1+1) λb o e=>zv _ e,Im _ 0 j.toNat,?_,λb hb=>?_,q⟩
  .have O:((j.toNat:Nat):Int)-((0:Nat):Int)=NN.Range.rangeSize 0 j 1:=by rw [rangeSize_one];split<;>lia
   show RC _ _ (0+((0:Nat):Int)*1) (((j.toNat:Nat):Int)-((0:Nat):Int)) 1;rw [O];exact NK _ rfl
  .have e:b=_:=NG.mp hb;subst e;exact z.Tz (Nq _) (z.hok.fresh (Nq _))
theorem Ik(hl:W (PE X l tl)):W (PIc false X tg l (gD X.K tl)):=⟨JC hl.h⟩
theorem LS{p pos:Pos}(hg:Gl X "range")(hm:X.mg "range"=none)(ha:W (PA X [a] ta))(z:aw a=true:=by rfl):W (PIc false X tg (.Call (.Name "range" p) [a] [] pos) (jg ta)):=⟨Ca hg hm ha.h z⟩
end
theorem HA{α β:Type}{f:α->β}{a:α}{l:List α}:(a::l).map f=f a::l.map f:=rfl
theorem HI{α β:Type}{f:α->β}:([]:List α).map f=[]:=rfl
theorem J8:(!true)=false:=rfl
theorem EI:(!false)=true:=rfl
theorem fsc(a:sc.kind = .function:=by rfl)(b:sc.isCoroutine=false:=by rfl)(c:sc.isGenerator=false:=by rfl)(d:N.Nodup:=by decide +kernel)(e:N.take P.length=P:=by rfl)(f:∀x∈P,sc.names.lookup x=some .local\/sc.names.lookup x=some .cell:=by decide +kernel)(g:∀y∈sc.names,y.2≠.free:=by decide +kernel):zt N P sc:=⟨a,b,c,d,e,f,g⟩
abbrev FnM(K:Nu)(x:Str)(st:Stmt):Prop:=∃f fd,Pr K NA x=some (some (.ref f))/\Fun K x x st f fd
abbrev ar(K:Nu)(C:Addr)(m q:Str)(st:Stmt):Prop:=∃f fd,O0 K (.ref C) m=some (some (.ref f))/\isFn K (.ref f)=true/\Fun K m q st f fd
theorem u1{α:Type}{p:List α->Prop}(h:∀a,p [a]):∀us,us.length=1->p us
 | [a],_=>h a
theorem u2{α:Type}{p:List α->Prop}(h:∀a b,p [a,b]):∀us,us.length=2->p us
 | [a,b],_=>h a b
theorem u3{α:Type}{p:List α->Prop}(h:∀a b c,p [a,b,c]):∀us,us.length=3->p us
 | [a,b,c],_=>h a b c
theorem u4{α:Type}{p:List α->Prop}(h:∀a b c d,p [a,b,c,d]):∀us,us.length=4->p us
 | [a,b,c,d],_=>h a b c d
theorem u5{α:Type}{p:List α->Prop}(h:∀a b c d e,p [a,b,c,d,e]):∀us,us.length=5->p us
 | [a,b,c,d,e],_=>h a b c d e
section
variable {w:NQ}{K:Nu}{mg:Str->Option Value}{h:Heap}{k:Nat}{x q:Str}{C:Addr}{ps:List Str}{sp:Sp}{st:Stmt} (P:NB) (base:Heap) (cm:Bool)
abbrev BdA(x q:Str)(st:Stmt)(ps:List Str):Prop:=∀(kV z pm:Value)(F:Option Addr)(G ct:Value)(us:List Value),us.length=ps.length->bindArgs (fnOf x q (gj st) (c0 st) (zi st) .none kV z pm F G ct) ⟨us,[]⟩=pure (ps.zip us)
theorem gf(X:K.In h)(G:h.Ns NA mg)(m:FnM K x st)(o:∀f fd,Fun K x x st f fd->zm P w K mg base CX0 cm k f fd ps sp)(b:BdA x x st ps):GF P w K mg base cm k x ps sp:=let ⟨f,fd,a,F⟩:=m;⟨f,fd,o f fd F,PD X G a,F.kp,F.binds b⟩
theorem gx(X:K.In h)(G:h.Ns NA mg)(m:FnM K x st)(o:∀f fd,Fun K x x st f fd->zm P w K mg base (CXW P w) cm k f fd ps sp)(b:BdA x x st ps):GX P w K mg base cm k x ps sp:=let ⟨f,fd,a,F⟩:=m;⟨f,fd,o f fd F,PD X G a,F.kp,F.binds b⟩
theorem gm(m:ar K C x q st)(o:∀f fd,Fun K x q st f fd->zm P w K mg base CX0 cm k f fd ps sp)(b:BdA x q st ps):GM P w K mg base cm k C x ps sp:=let ⟨f,fd,a,i,F⟩:=m;⟨f,fd,o f fd F,⟨a,i,F.kp⟩,F.binds b⟩
theorem gmx(m:ar K C x q st)(o:∀f fd,Fun K x q st f fd->zm P w K mg base (CXW P w) cm k f fd ps sp)(b:BdA x q st ps):GMX P w K mg base cm k C x ps sp:=let ⟨f,fd,a,i,F⟩:=m;⟨f,fd,o f fd F,⟨a,i,F.kp⟩,F.binds b⟩
theorem gc(X:K.In h)(G:h.Ns NA mg)(c:Pr K NA x=some (some (.ref C)))(mk:makesIn K C=true)(z:Rk K (.ref C)=true)(m:ar K C VX q st)(o:∀f fd,Fun K VX q st f fd->zm P w K mg base CX0 cm k f fd ps sp)(b:BdA VX q st ps):GC P w K mg base cm k x C ps sp:=let ⟨f,fd,a,i,F⟩:=m;⟨f,fd,o f fd F,PD X G c,⟨mk,a,i,z⟩,F.binds b⟩
end
def jc(i:Nat):TE:=λσ H Q=>match σ[i]? with|some (some v)=>Q v H|_=>False
def rID(C:Int->Int->Prop)(g:Int->Int->V):R2:=λx y H Q=>match x,y with | .int i,.int j=>C i j/\Q (g i j) H|_,_=>False
def xN(g:Int->Int->V):R2:=λx y H Q=>match x,y with | .int i,.int j=>Q (g i j) H|_,_=>False
section
variable {X:Cx}{f:Value->Value->Sem Value}{C:Int->Int->Prop}{g:Int->Int->V}
theorem pvD(i:Nat)(hN:X.N[i]?=some x:=by rfl)(F:Vis X.env.scope x:=by first|exact NC rfl|exact Rm (NC rfl)|exact Rm (Rm rfl))(hd:(x==("__debug__":Str))=false:=by decide)(z:(x==("__classdict__":Str))=false:=by decide):PE X (.Name x pos) (jc i):=λGo s σ H Q I h=>pv i hN F hd z Go s σ H Q I (by
 unfold jc at h;split at h
 .exact ⟨_,by assumption,h⟩
 .exact h.elim)
theorem za(i:Nat)(hN:X.N[i]?=some x:=by rfl)(F:Vis X.env.scope x:=by first|exact NC rfl|exact Rm (NC rfl)|exact Rm (Rm rfl))(hd:(x==("__debug__":Str))=false:=by decide)(z:(x==("__classdict__":Str))=false:=by decide):W (PE X (.Name x pos) (jc i)):=⟨pvD i hN F hd z⟩
theorem oI(h:OpR X f (rI C g)):OpR X f (rID C g):=h.weak λx y H Q q=>by
 cases x<;>cases y<;>first|exact q.elim|exact ⟨_,_,rfl,rfl,q⟩
theorem oI0(h:OpR X f (rI0 g)):OpR X f (xN g):=h.weak λx y H Q q=>by
 cases x<;>cases y<;>first|exact q.elim|exact ⟨_,_,rfl,rfl,q⟩
end
section
variable {i j:Int}{H:Hp}{Q:VK}{C:Int->Int->Prop}{g:Int->Int->V}
theorem Mv:rID C g (.int i) (.int j) H Q=(C i j/\Q (g i j) H):=rfl
theorem BE:xN g (.int i) (.int j) H Q=Q (g i j) H:=rfl
end
abbrev clT(t:TE):TE:=λσ H Q=>∃R:VK,t σ H R/\∀v H,R v H->Q v H
abbrev clR(r:R2):R2:=λx y H Q=>∃R:VK,r x y H R/\∀v H,R v H->Q v H
abbrev clA(t:TA):TA:=λσ H Q=>∃R:List V->Hp->Prop,t σ H R/\∀v H,R v H->Q v H
def bD(v:V)(q:Bool->Prop):Prop:=match v with | .bl c=>q c|_=>False
def aD(v:V)(q:Addr->Prop):Prop:=match v with | .ref a=>q a|_=>False
theorem yY:bD (.bl c) q=q c:=rfl
theorem tW:aD (.ref a) q=q a:=rfl
theorem bD.ex(h:bD v q):∃c,v = .bl c/\q c:=by
 cases v<;>first|exact ⟨_,rfl,h⟩|exact h.elim
theorem aD.ex(h:aD v q):∃a,v = .ref a/\q a:=by
 cases v<;>first|exact ⟨_,rfl,h⟩|exact h.elim
def xP(t:TE):TT:=λσ H Q=>t σ H λx H1=>bD x λc=>Q c H1
def vH(ta tb:TE):TE:=λσ H Q=>ta σ H λx H1=>bD x λc=>if c=true then tb σ H1 Q else Q (.bl false) H1
def yb(ta:TE):TE:=λσ H Q=>ta σ H λx H1=>bD x λc=>Q (.bl (!c)) H1
def pK(C:Addr)(m:Str)(sp:Sp)(E:XK)(ta:TE)(t:TA):TE:=λσ H Q=>ta σ H λx H1=>aD x λa=>∃dx fs,H1 a=some (.ins C dx fs)/\fs.lookup m=none/\t σ H1 λvs H2=>sp (.ref a::vs) H2 Q E
def l6(C:Addr)(m:Str)(sp:Sp)(Ex:Addr->St->Hp->Prop)(ta:TE)(t:TA):TE:=λσ H Q=>ta σ H λx H1=>aD x λa=>∃dx fs,H1 a=some (.ins C dx fs)/\fs.lookup m=none/\t σ H1 λvs H2=>sp (.ref a::vs) H2 Q (XE Ex σ)
def oR(sp:Sp)(E:XK)(t:TA):TE:=λσ H Q=>t σ H λvs H1=>sp vs H1 Q E
def xv(sp:Sp)(Ex:Addr->St->Hp->Prop)(t:TA):TE:=λσ H Q=>t σ H λvs H1=>sp vs H1 Q (XE Ex σ)
def sM(C:Addr)(ta:TE)(f:Str):TE:=λσ H Q=>ta σ H λx H1=>aD x λa=>∃dx fs v,H1 a=some (.ins C dx fs)/\fs.lookup f=some v/\Q v H1
def wa(C:Addr)(ta tv:TE)(f:Str):TS:=λD σ H=>tv σ H λy H1=>ta σ H1 λx H2=>aD x λa=>∃dx fs,H2 a=some (.ins C dx fs)/\fs.length<1000/\D.nx σ (upd H2 a (.ins C dx (zR f y fs)))
def sA(K:Nu)(tl:TE):TI:=λσ H R=>tl σ H λx H1=>aD x λa=>(∃xs,SqL K H1 a xs)/\R (Itl K a) H1
def A7(t:TG)(u:TGs):TGs:=λvs σ H Q=>match vs with|v::r=>t v σ H λz H'=>u r z H' Q|[]=>False
theorem Gn{t:TG}{r:List V}:A7 t u (v::r) σ H Q=t v σ H λz H'=>u r z H' Q:=rfl
def ot:R2:=λx y H Q=>match x,y with
 | .ref a,.int i=>∃xs,(H a=some (.lst xs)\/H a=some (.tup xs))/\∃v,atI xs i=some v/\Q v H
 | .str x,.int i=>x.length<=sizeLine/\∃c,atI x.cps.toList i=some c/\Q (.str ⟨#[c]⟩) H
 | _,_=>False
def qA:List V->Hp->VK->Prop:=λxs H Q=>match xs with
 | [.ref a]=>∃ys,(H a=some (.lst ys)\/H a=some (.tup ys))/\Q (.int ys.length) H
 | [.str x]=>x.length<=sizeLine/\Q (.int x.length) H
 | _=>False
def iM(c:Bool):R2:=λx y H Q=>match x,y with
 | .int i,.int j=>Q (.bl (if c then !decide (i=j) else decide (i=j))) H
 | .str i,.str j=>Q (.bl (if c then !decide (i=j) else decide (i=j))) H
 | .bl i,.bl j=>Q (.bl (if c then !decide (i=j) else decide (i=j))) H
 | .ref a,.ref b=>∃xs ys,H a=some (.lst xs)/\H b=some (.lst ys)/\xs.all ah=true/\ys.all ah=true/\Q (.bl (if c then !eqL xs ys else eqL xs ys)) H
 | _,_=>False
def hJ:R2:=λx y H Q=>match x,y with
 | .int i,.int j=>Q (.int (i+j)) H
 | .str x,.str y=>x.length+y.length<=sizeLine/\Q (.str (x++y)) H
 | .ref a,.ref b=>∃xs zs,H a=some (.lst xs)/\H b=some (.lst zs)/\xs.length+zs.length<=sizeLine/\∀p H2,New H p (.lst (xs++zs)) H2->Q (.ref p) H2
 | _,_=>False
section
variable {H:Hp}{Q:VK}{i j:Int}{x y:Str}{a b:Addr}{k k' c:Bool}
theorem hZ:ot (.ref a) (.int i) H Q = ∃xs,(H a=some (.lst xs)\/H a=some (.tup xs))/\∃v,atI xs i=some v/\Q v H:=rfl
theorem sU:ot (.str x) (.int i) H Q=(x.length<=sizeLine/\∃c,atI x.cps.toList i=some c/\Q (.str ⟨#[c]⟩) H):=rfl
theorem pF:qA [.ref a] H Q = ∃ys,(H a=some (.lst ys)\/H a=some (.tup ys))/\Q (.int ys.length) H:=rfl
theorem J0:qA [.str x] H Q=(x.length<=sizeLine/\Q (.int x.length) H):=rfl
theorem tL:iM c (.int i) (.int j) H Q=Q (.bl (if c then !decide (i=j) else decide (i=j))) H:=rfl
theorem qU:iM c (.str x) (.str y) H Q=Q (.bl (if c then !decide (x=y) else decide (x=y))) H:=rfl
theorem KN:iM c (.bl k) (.bl k') H Q=Q (.bl (if c then !decide (k=k') else decide (k=k'))) H:=rfl
theorem Jp:iM c (.ref a) (.ref b) H Q = ∃xs ys,H a=some (.lst xs)/\H b=some (.lst ys)/\xs.all ah=true/\ys.all ah=true/\Q (.bl (if c then !eqL xs ys else eqL xs ys)) H:=rfl
theorem gw:hJ (.int i) (.int j) H Q=Q (.int (i+j)) H:=rfl
theorem Eo:hJ (.str x) (.str y) H Q=(x.length+y.length<=sizeLine/\Q (.str (x++y)) H):=rfl
theorem ib:hJ (.ref a) (.ref b) H Q = ∃xs zs,H a=some (.lst xs)/\H b=some (.lst zs)/\xs.length+zs.length<=sizeLine/\∀p H2,New H p (.lst (xs++zs)) H2->Q (.ref p) H2:=rfl
end
section
variable {X:Cx}{e:N0}{es:List N0}{st:Stmt}{t ta tb tv:TE}{tA:TA}{r:R2}{f:Value->Value->Sem Value}{C:Addr}{m:Str}{sp:Sp}{E:XK}{Ex:Addr->St->Hp->Prop}{c:Bool}
theorem clE(h:W (PE X e t)):W (PE X e (clT t)):=⟨λGo s σ H Q I=>x3e λR q z=>thn (h.h Go s σ H R I q) λ_ _=>x5e λv H' a b c=>⟨v,H',a,b,z _ _ c⟩⟩
theorem clO(h:OpR X f r):OpR X f (clR r):=λGo s σ H x y v u Q I G z=>x3e λR q F=>thn (h Go s σ H x y v u R I G z q) λ_ _=>x5e λv H' a b c=>⟨v,H',a,b,F _ _ c⟩
theorem clP(h:W (PA X es tA)):W (PA X es (clA tA)):=⟨h.h.any⟩
theorem peD(h:W (PE X e t))(w:∀σ H Q,t' σ H Q->t σ H Q):W (PE X e t'):=⟨λGo s σ H Q I q=>h.h Go s σ H Q I (w σ H Q q)⟩
theorem tD(h:W (PT X e (lC (tOp (clR r) (clT ta) (clT tb))))):W (PT X e (xP (tOp r ta tb))):=⟨λGo s σ H Q I q=>h.h Go s σ H Q I ⟨_,q,λx H1 J=>⟨_,J,λy H2 G=>⟨_,G,λz H3 F=>F.ex⟩⟩⟩⟩
theorem anD(h:W (PE X e (mB (clT ta) tb))):W (PE X e (vH ta tb)):=peD h λσ H Q q=>⟨_,q,λx H1 z=>z.ex⟩
theorem ntD(h:W (PE X e (qF (clT ta)))):W (PE X e (yb ta)):=peD h λσ H Q q=>⟨_,q,λx H1 z=>z.ex⟩
theorem mD(h:W (PE X e (fh C m sp [] E (clT ta) (clA tA)))):W (PE X e (pK C m sp E ta tA)):=peD h λσ H Q q=>⟨_,q,λx H1 G=>by
 obtain ⟨a,rfl,dx,fs,h1,h2,F⟩:=G.ex;exact ⟨a,dx,fs,rfl,h1,h2,_,F,λvs H2 z=>by dsimp only;rw [O8];exact z⟩⟩
theorem m0D(h:W (PE X e (fh C m sp [] E (clT ta) cb))):W (PE X e (pK C m sp E ta cb)):=peD h λσ H Q q=>⟨_,q,λx H1 F=>by
 obtain ⟨a,rfl,dx,fs,h1,h2,z⟩:=F.ex;exact ⟨a,dx,fs,rfl,h1,h2,z⟩⟩
theorem mXD(h:W (PE X e (fH C m sp [] Ex (clT ta) (clA tA)))):W (PE X e (l6 C m sp Ex ta tA)):=peD h λσ H Q q=>⟨_,q,λx H1 G=>by
 obtain ⟨a,rfl,dx,fs,h1,h2,F⟩:=G.ex;exact ⟨a,dx,fs,rfl,h1,h2,_,F,λvs H2 z=>by dsimp only;rw [O8];exact z⟩⟩
theorem fO(h:W (PE X e (fH C m sp [] Ex (clT ta) cb))):W (PE X e (l6 C m sp Ex ta cb)):=peD h λσ H Q q=>⟨_,q,λx H1 F=>by
 obtain ⟨a,rfl,dx,fs,h1,h2,z⟩:=F.ex;exact ⟨a,dx,fs,rfl,h1,h2,z⟩⟩
theorem caD(h:W (PE X e (jV sp [] E (clA tA)))):W (PE X e (oR sp E tA)):=peD h λσ H Q q=>⟨_,q,λvs H2 z=>by dsimp only;rw [O8];exact z⟩
theorem cXD(h:W (PE X e (lG sp [] Ex (clA tA)))):W (PE X e (xv sp Ex tA)):=peD h λσ H Q q=>⟨_,q,λvs H2 z=>by dsimp only;rw [O8];exact z⟩
theorem fD(h:W (PE X e (jJ C (clT ta) m))):W (PE X e (sM C ta m)):=peD h λσ H Q q=>⟨_,q,λx H1 F=>by
 obtain ⟨a,rfl,dx,fs,v,z⟩:=F.ex;exact ⟨a,dx,fs,v,rfl,z⟩⟩
theorem sfD(h:W (PS X st (jq C (clT ta) (clT tv) m))):W (PS X st (wa C ta tv m)):=⟨λGo s σ H D I q=>h.h Go s σ H D I ⟨_,q,λy H1 G=>⟨_,G,λx H2 F=>by
 obtain ⟨a,rfl,dx,fs,z⟩:=F.ex;exact ⟨a,dx,fs,rfl,z⟩⟩⟩⟩
theorem liD(h:W (PIc c X tg e (gD X.K (clT ta)))):W (PIc c X tg e (sA X.K ta)):=⟨λGo s σ H R I q=>h.h Go s σ H R I ⟨_,q,λx H1 z=>z.ex⟩⟩
theorem gsD(h:W (PGs X ts (nr g u))):W (PGs X ts (A7 g u)):=⟨λGo s σ H vs us Q I z q=>h.h Go s σ H vs us Q I z (by cases vs with|nil=>exact q.elim|cons v r=>exact ⟨v,r,rfl,q⟩)⟩
theorem zJ:IxR X ot:=BV.weak λx y H Q h=>by
 cases x<;>cases y<;>first|exact h.elim|skip
 .rename_i a i;exact (AI (x:=a) (i:=i)).mpr h
 .rename_i a i;exact (AA (a:=a) (i:=i)).mpr h
theorem bj:zM X (.builtin "len") qA:=Mh.weak λxs H Q h=>by
 match xs,h with
 | [.ref a],h=>exact (vQ (a:=a)).mpr h
 | [.str x],h=>exact (vG (x:=x)).mpr h
theorem oE{f:Value->Value->Sem Value}(h:OpR X f (uEq c)):OpR X f (iM c):=h.weak λx y H Q h=>by
 cases x<;>cases y<;>first|exact h.elim|exact vV.mpr h|exact wA.mpr h|exact w6.mpr h|exact vI.mpr h
theorem aK:OpR X (Pd .Add) hJ:=Av.weak λx y H Q h=>by
 cases x<;>cases y<;>first|exact h.elim|exact yR.mpr h|exact As.mpr h|exact nK.mpr h
end
end L2
namespace HT
open PySem PyProof.Rows
end HT
namespace L2
open PySem PySem.Spec PyProof.Rows
section
variable {P:NB}{w:NQ}{K:Nu}{mg:Str->Option Value}{base:Heap}{x qual:Str}{st:Stmt}{f:Addr}{fd:Nz}{N ps:List Str}{cm:Bool}{k:Nat}{sp:Sp}
theorem Fun.o(F:Fun K x qual st f fd)(S:zt N ps (zi st))
  (hb:∀(z:Value)(A:NP)(outer:List Env)(s:we)(H:Hp)(vs:List V)(Q:VK)(E:XK),zK cm k (A.deeper (PY qual (zi st) s.heap.objs.size f z))->sp vs H Q E ->
   ∃t,PSs (cn CX0 cm P w K mg base N qual (zi st) f z A outer s H E).Vp (c0 st) t/\t { nx:=λ_ H'=>Q .non H',rt:=Q } (start N vs) H)
  (len:∀vs H Q E,sp vs H Q E->vs.length=ps.length:=by intro _ _ _ _ h;repeat (first|(obtain ⟨rfl,_⟩:=h;rfl)|(obtain ⟨_,h⟩:=h))):zm P w K mg base CX0 cm (k+1) f fd ps sp:=F.ok S len hb
theorem Fun.oW(F:Fun K x qual st f fd)(S:zt N ps (zi st))
  (hb:∀(z:Value)(A:NP)(outer:List Env)(s:we)(H:Hp)(vs:List V)(Q:VK)(E:XK),zK cm k (A.deeper (PY qual (zi st) s.heap.objs.size f z))->sp vs H Q E ->
   ∃t,PSs (cn (CXW P w) cm P w K mg base N qual (zi st) f z A outer s H E) (c0 st) t/\t { nx:=λ_ H'=>Q .non H',rt:=Q } (start N vs) H)
  (len:∀vs H Q E,sp vs H Q E->vs.length=ps.length:=by intro _ _ _ _ h;repeat (first|(obtain ⟨rfl,_⟩:=h;rfl)|(obtain ⟨_,h⟩:=h))):zm P w K mg base (CXW P w) cm (k+1) f fd ps sp:=F.bC S len hb
end
end L2
namespace HT
open PySem PyProof.Rows
section
variable {prog:NB}{w:NQ}{A:NP}{E:Value->we->Prop}{s:we}
theorem LN{St:Nat->Heap->Prop}(W:Walks prog w A.in1 I fp wr n P St)(bt:Nat->Nat->Bool)(S:Addr)(ag:S∉fp)(Kp:Heap->Prop)(hK:∀h h':Heap,Kp h->(∀b o,b∉wr->b≠S->h.get? b=some o->h'.get? b=some o)->Kp h')(XB:∀i j vi vj (s:we) (Q:Value->we->Prop) (E:Value->we->Prop),Kp s.heap->P i vi->P j vj->Q (.bool (bt i j)) s->NF (NL prog w) A.in1 (Rt .Lt vi vj) Q E s):
  ∀(k j:Nat)(s:we)(J:Value)(c:Nat),n-(j+1)=k->j+1<=n->St (j+1) s.heap->Kp s.heap->P (PH bt j) J ->
  s.heap.get? S=some { cls:=.type "list",dict:=none,data:=.seq #[J,J] c,slots:=#[] } ->
  (∀v h' tk,P (PH bt (n-1)) v->(∀b o,b∉wr->b≠S->s.heap.get? b=some o->h'.get? b=some o)->R (.ok (.ret v)) { s with heap:=h',toks:=tk }) ->
  Qx (NL prog w) A (.builtin "min.loop" ⟨[.ref I,.none,.ref S],[]⟩) R s:=by
 have ab:S∉wr:=λh=>ag (W.sub _ h);have Y6:(toString "min"++toString ".loop":String)="min.loop":=by decide
 intro k
 induction k with
 | zero =>
  intro j s J c hk hj hst _ G hS hR;have Yn:j+1=n:=by lia
  refine Pz F.entry_min_loop ?_;rw [NP.under_plainId F.plain_min_loop _];show NF _ A.in1 (Q1 (.ref S)>>=_) _ _ s;refine fv (OA hS rfl ?_);show NF _ A.in1 (tryCatch (Ql (.ref I)) _>>=_) _ _ s;refine fv (PX (W.done s _ _ (Yn ▸ hst) λh' tk O=>?_));have z:=O S _ ab hS;show NF _ A.in1 (updateSeq S (λ_=>#[])>>=_) _ _ _;refine fv ?_;refine Qr z rfl (fv (PC (Nv ?_)));exact hR J _ tk (by rw [<- Yn];exact G) λb o Yl X1 e=>(NS _ _ (NO X1)).trans (O b o Yl e)
 | succ k ih =>
  intro j s J c hk hj hst kp G hS hR;have ZQ:j+1<n:=by lia
  refine Pz F.entry_min_loop ?_;rw [NP.under_plainId F.plain_min_loop _];show NF _ A.in1 (Q1 (.ref S)>>=_) _ _ s;refine fv (OA hS rfl ?_);show NF _ A.in1 (tryCatch (Ql (.ref I)) _>>=_) _ _ s;refine fv (PX (W.item (j+1) s _ _ ZQ hst λv h' tk hP XC O=>?_));have z:=O S _ ab hS;have U:Kp h':=hK _ _ kp λb o hb _ e=>O b o hb e;show NF _ A.in1 (tryCatch (PV [v,v] (Rt .Lt v J>>=_)) _>>=_) _ _ _;refine fv (PX (N9 (fv (XB (j+1) (PH bt j) v J _ _ _ U hP G ?_))));refine fv (N9 (O2 ?_));refine fv (PC (Nv ?_));cases hb:bt (j+1) (PH bt j) with
  | true =>
   simp only [if_true];refine fv ?_;refine Qr z rfl (fv (PC ?_));rw [Y6];refine Nv ⟨PQ F.plain_min_loop _,ih (j+1) _ v _ (by lia) ZQ (W.frame _ _ _ XC λb ai o e=>?_) (hK _ _ U λb o _ hb e=>(NS _ _ (NO hb)).trans e) (by simp only [PH,hb,if_true];exact hP) (OF _ z rfl)
    λv' Z WR XN WQ=>?_⟩
   .exact (NS _ _ (λh:S=b=>ag (by rw [h];exact ai))).trans e
   .exact hR v' Z WR XN λb o Yl X1 e=>WQ b o Yl X1 ((NS _ _ (NO X1)).trans (O b o Yl e))
  | false =>
   simp only [Pi,if_false];refine fv (PC ?_);rw [Y6];refine Nv ⟨PQ F.plain_min_loop _,ih (j+1) _ J c (by lia) ZQ XC U (by simp only [PH,hb,Pi,if_false];exact G) z λv' Z WR XN WQ=>?_⟩;exact hR v' Z WR XN λb o Yl X1 e=>WQ b o Yl X1 (O b o Yl e)
theorem Du{St:Nat->Heap->Prop}(W:Walks prog w A.in1 I fp wr n P St)(bt:Nat->Nat->Bool)(S:Addr)(z:S∉fp)(G:Heap->Prop)(U:∀h h':Heap,G h->(∀b o,b∉wr->b≠S->h.get? b=some o->h'.get? b=some o)->G h')(XB:∀i j vi vj (s:we) (Q:Value->we->Prop) (E:Value->we->Prop),G s.heap->P i vi->P j vj->Q (.bool (bt i j)) s->NF (NL prog w) A.in1 (Rt .Lt vi vj) Q E s)(hn:0<n){s:we}(hst:St 0 s.heap)(kp:G s.heap)(hS:s.heap.get? S=some { cls:=.type "list",dict:=none,data:=.seq #[] c,slots:=#[] })(hR:∀v h' tk,P (PH bt (n-1)) v->(∀b o,b∉wr->b≠S->s.heap.get? b=some o->h'.get? b=some o)->R (.ok (.ret v)) { s with heap:=h',toks:=tk }):
  Qx (NL prog w) A (.builtin "min.loop" ⟨[.ref I,.none,.ref S],[]⟩) R s:=by
 have Z:S∉wr:=λh=>z (W.sub _ h);have Y6:(toString "min"++toString ".loop":String)="min.loop":=by decide
 refine Pz F.entry_min_loop ?_;rw [NP.under_plainId F.plain_min_loop _];show NF _ A.in1 (Q1 (.ref S)>>=_) _ _ s;refine fv (OA hS rfl ?_);show NF _ A.in1 (tryCatch (Ql (.ref I)) _>>=_) _ _ s;refine fv (PX (W.item 0 s _ _ hn hst λv h' tk hP XC O=>?_));have J:=O S _ Z hS;have ab:G h':=U _ _ kp λb o hb _ e=>O b o hb e;show NF _ A.in1 (updateSeq S (λ_=>#[v,v])>>=_) _ _ _;refine fv ?_;refine Qr J rfl ?_;rw [Y6];refine Nv ⟨PQ F.plain_min_loop _,LN W bt S z G U XB _ 0 _ v _ rfl hn (W.frame _ _ _ XC λb ai o e=>?_) (U _ _ ab λb o _ hb e=>(NS _ _ (NO hb)).trans e) hP (OF _ J rfl) λv' ag WR XN WQ=>?_⟩
 .exact (NS _ _ (λh:S=b=>z (by rw [h];exact ai))).trans e
 .exact hR v' ag WR XN λb o Yl X1 e=>WQ b o Yl X1 ((NS _ _ (NO X1)).trans (O b o Yl e))
theorem minH(G:Heap->Prop)(Z:∀h':Heap,(∀b o,s.heap.get? b=some o->h'.get? b=some o)->G h')(kb:∀h:Heap,G h->∀h':Heap,(∀b o,b<s.heap.objs.size->h.get? b=some o->h'.get? b=some o)->G h')(XB:∀i j W U (s:we) (Q:Value->we->Prop) (E:Value->we->Prop),G s.heap->its[i]?=some W->its[j]?=some U->Q (.bool (bt i j)) s->NF (NL prog w) A.in1 (Rt .Lt W U) Q E s)(hh:A.handled=none)(hl:s.heap.IsList l its)(hn:0<its.size)(h:∀v h' tk,its[PH bt (its.size-1)]?=some v->(∀b o,s.heap.get? b=some o->h'.get? b=some o)->Q v { s with heap:=h',toks:=tk }):
  NF (NL prog w) A (call (.builtin "min") [.ref l]) Q E s:=by
 have Y6:(toString "min"++toString ".loop":String)="min.loop":=by decide
 have ZQ:l<s.heap.objs.size:=by obtain ⟨_,e,_⟩:=hl;exact NR e
 refine call_function_tree F.kind_min F.plain_min F.entry_min (F.args_min1 _) ?_;show NF _ A.in1 (NN.Builtins.bindParams "min" ["key","default"] 0 ⟨[],[]⟩>>=_) _ _ s;refine fv (wpAny_of_eq (show NN.Builtins.bindParams "min" ["key","default"] 0 ⟨[],[]⟩=pure [none,none] from rfl) ?_);refine fv (Nv ?_);refine fv (Pk hl ?_);refine fv (Ou ?_);rw [Y6];have O:(s.heap.push { cls:=.type "list_iterator",data:=.fields #[.ref l,.int 0 0] }).objs.size=s.heap.objs.size+1:=Pl ..;have S:l≠s.heap.objs.size:=Oh ZQ;refine Nv ⟨PQ F.plain_min_loop _,?_⟩;have J:∀b,b<s.heap.objs.size->b∉[s.heap.objs.size]/\b≠(s.heap.push { cls:=.type "list_iterator",data:=.fields #[.ref l,.int 0 0] }).objs.size:=λb hb=>by
  refine ⟨λhm=>?_,λz=>?_⟩
  .rw [NG] at hm;lia
  .rw [O] at z;lia
 refine Du (Walks.list (A:=A.in1) hh _ l S its) bt _ (λhm=>?_) G (λh1 h2 k1 k2=>kb h1 k1 h2 λb o hb e=>k2 b o (J b hb).1 (J b hb).2 e) XB hn ⟨⟨_,zv _ (NK _ rfl),rfl,rfl⟩,(hl.push _).push _⟩ (Z _ λb o e=>zv _ (zv _ e)) (NK _ rfl) λv h' tk hr hk=>?_
 .rcases Nw.mp hm with e|hm
  .rw [O] at e;lia
  .rw [NG,O] at hm;lia
 .exact h v h' tk hr λb o e=>hk b o (J b (NR e)).1 (J b (NR e)).2 (zv _ (zv _ e))
end
end HT
namespace L2
open PySem PySem.Spec PyProof.Rows
section
variable {X:Cx}
theorem mq{as:List Addr}(r:zp (as.map V.ref) its):∀(i:Nat) v,its.toArray[i]?=some v->∃a,as[i]?=some a/\v = .ref a:=by
 intro i v h;rw [<- QT] at h
 replace h:its[i]?=some v:=h
 induction as generalizing its i with
 | nil=>cases r;simp at h
 | cons k ks z =>
  cases r with
  | cons r F =>
   cases i with
   | zero=>cases r;simp at h;subst h;exact ⟨_,rfl,rfl⟩
   | succ i=>exact z F i (by simpa using h)
def j4(ns:List (List Int)):Nat:=PH (λi j=>HT.lexLt (ns.getD i []) (ns.getD j [])) (ns.length-1)
def yp:List V->Hp->VK->Prop:=λxs H Q=>uR1 xs λl=>∃(as:List Addr)(ns:List (List Int)),H l=some (.lst (as.map V.ref))/\as.length=ns.length/\0<as.length/\(∀(i:Nat) a (n:List Int),as[i]?=some a->ns[i]?=some n->H a=some (.tup (n.map V.int)))/\∀a,as[j4 ns]?=some a->Q (.ref a) H
theorem CT:yp [.ref l] H Q = ∃(as:List Addr)(ns:List (List Int)),H l=some (.lst (as.map V.ref))/\as.length=ns.length/\0<as.length/\(∀(i:Nat) a (n:List Int),as[i]?=some a->ns[i]?=some n->H a=some (.tup (n.map V.int)))/\∀a,as[j4 ns]?=some a->Q (.ref a) H:=e9
theorem FZ(hc:X.calm=true)(hu:X.A.in1.units<cLine):zM X (.builtin "min") yp:=by
 intro Go s σ H xs us Q I r h;obtain ⟨l,rfl,as,ns,hl,G,h0,Z,q⟩:=h;obtain ⟨u,rfl,ru⟩:=cg r;cases ru;obtain ⟨its,F,p,hz⟩:=I.list (SqL.of (K:=X.K) hl);have O:=F.length;rw [KE] at O;have k0:∀(i:Nat) a (n:List Int),as[i]?=some a->ns[i]?=some n->∃t,Rg s.heap a t/\Qq t.toList n:=λi a n h1 h2=>by
  obtain ⟨t,r1,z,_⟩:=I.tuple (SqT.of (K:=X.K) (Z i a n h1 h2));exact ⟨_,z,KL r1⟩
 refine HT.minH (bt:=λi j=>HT.lexLt (ns.getD i []) (ns.getD j [])) (λh=>∀(i:Nat) a (n:List Int),as[i]?=some a->ns[i]?=some n->∃t,Rg h a t/\Qq t.toList n) (λh' k i a n h1 h2=>?_) (λh1 k1 h2 k i a n S U=>?_) (λi j vi vj s' Q' E' kp hi hj q'=>?_) (I.ok.hd hc) p.isList (by rw [NI];lia) λv h' tk hr hk=>?_
 .obtain ⟨t,⟨o,e,z⟩,p2⟩:=k0 i a n h1 h2;exact ⟨t,⟨o,k _ _ e,z⟩,p2⟩
 .obtain ⟨_,⟨o0,e0,_⟩,_⟩:=k0 i a n S U;obtain ⟨t,⟨o,e,z⟩,p2⟩:=k1 i a n S U;exact ⟨t,⟨o,k _ _ (NR e0) e,z⟩,p2⟩
 .obtain ⟨a,ha,rfl⟩:=mq F i vi hi;obtain ⟨b,hb,rfl⟩:=mq F j vj hj;have J:i<ns.length:=by rw [<- G];exact (Nt.mp ha).1
  have W:j<ns.length:=by rw [<- G];exact (Nt.mp hb).1
  obtain ⟨t,z,i1⟩:=kp i a _ ha (p8 J);obtain ⟨t',p2,i2⟩:=kp j b _ hb (p8 W);refine (HT.lt_tupInts z p2 i1 i2 hu ?_:NF (NL X.prog X.w) X.A.in1 (Of .Lt (.ref a) (.ref b)) Q' E' s');have ea:ns.getD i []=ns[i]:=by rw [Nr,p8 J];rfl
  have eb:ns.getD j []=ns[j]:=by rw [Nr,p8 W];rfl
  rw [<- ea,<- eb];exact q'
 .rw [NI,<- O,G] at hr;obtain ⟨a,ha,rfl⟩:=mq F _ v hr;exact ⟨.ref a,H,I.kept hk,rfl,q a ha⟩
end
end L2
namespace K62
open PySem PySem.Spec PyProof.Rows L2
open PySem.W (Frag OpenLaw WalkO findIn mroIn)
local macro_rules | `(tactic| erw [$ls,*])=>do
 let l<-("mx tC xi tOr xX tIf qr qz yy pq ox dr Fb Lk iH vP ipI tOp tUn cb lH ym ue yx jV jX lG tCB pj yR As nK sP Ld AA AI vQ vG E6 vR Bw vV wA w6 vI Kt Cr Md mr KA CK JX Df B6 Mn FI Ku Dq BJ HD mh JZ FH IU MU sW Hs Co CJ Hj MV M6 Lq Hm cz RK Option.bind_none Option.join_some oy and_assoc exists_and_left exists_and_right exists_eq_left' exists_eq_left exists_eq exists_eq' exists_eq_right exists_eq_right' and_true true_and and_false false_and or_false false_or exists_false exists_const Ob.injEq V.int.injEq V.str.injEq V.ref.injEq V.bl.injEq V.ty.injEq HO.lst.injEq HO.tup.injEq HO.ins.injEq List.cons.injEq reduceCtorEq reduceIte Pi List.getElem?_cons_zero List.getElem?_cons_succ List.set_cons_zero List.set_cons_succ Sx cons_append O8 Oy PU L2.start HA HI N5 Nat.reduceSub Nat.reduceAdd J8 EI tB Fd JR BD GS tQ II Kd wX qp tSl vp Be yA xq yW Jx vB tZ qe wy Mi e9 MJ Gb IT L8 Bk Jv Lh BY Nf I0 FO sR wC CO Nb nE Ks Aw xc L9 Kc LU Kg Bo BK EY KP Ii Jm Kl Br DJ sO Lo By Le Dl Ge Ct EZ FJ G7 Hk BM Jh M7 DV CY BZ Ag Ja BL IH CM um De Gi LV IB pZ Iy BQ GI GB C1 Me C9 GN jc Mv BE xP vH yb pK l6 oR xv sM wa sA yY tW Gn hZ sU pF J0 tL qU KN Jp gw Eo ib CT".splitOn " ").toArray.mapM fun s=>`(Lean.Parser.Tactic.simpLemma|$(Lean.mkIdent s.toName):ident)
 let k<-ls.getElems.mapM fun s=>match s with
  | `(Lean.Parser.Tactic.rwRule|$t:term)=>`(Lean.Parser.Tactic.simpLemma|$t:term)
  | _=>Lean.Macro.throwUnsupported
 let l:=l++k
 `(tactic| try simp only [$l,*])
local macro_rules | `(tactic| ac_rfl)=>`(tactic| erw [])
def top(i:Nat):Stmt:=PySem.Challenge.pw_cleanrows_k62_best_told.main.body.getD i (.Pass ⟨0,0,0,0⟩)
structure zh where
 TL:Addr
 SZ:Addr
 aV:Addr
 Full:Addr
 SW:Addr
 aT:Addr
 aC:Addr
 Vf:Addr
 aB:Addr
 tj:Addr
 tr:Addr
 State:Addr
 J7:Addr
 Q2:Addr
 aH:Addr
 S5:Addr
 S7:Addr
 SX:Addr
 SY:Addr
 SS:Addr
structure Txt(w:NQ)(K:Frag)(mg:Str->Option Value)(A:zh):Prop where
 aa:mg "PARTS"=some (.ref A.aH)
 aA:ju w K A.aH [(VU,A.S5),(VT,A.S7),(VV,A.SX),("free",A.SY),("carry",A.SS)]
 Va:∀H:Hp,SqT K H A.S5 [.str "number",.str "number",.str "end",.str "name",.str "number",.str "word"]
 Vb:∀H:Hp,SqT K H A.S7 [.str "number",.str "name",.str "number"]
 UH:∀H:Hp,SqT K H A.SX [.str "number",.str "name"]
 UI:∀H:Hp,SqT K H A.SY [.str "number",.str "name"]
 TM:∀H:Hp,SqT K H A.SS [.str "number",.str "number",.str "word"]
 a6:mg "abs"=none
 a5:mg "all"=none
 Vu:mg "bool"=none
 Vt:mg "dict"=none
 Vs:mg "divmod"=none
 F6:mg "enumerate"=none
 Vr:mg "int"=none
 L1:mg "isinstance"=none
 wh:mg "len"=none
 Vq:mg "list"=none
 TU:mg "max"=none
 Vk:mg "min"=none
 a4:mg "ord"=none
 z4:mg "range"=none
 UK:mg "repr"=none
 SV:mg "sorted"=none
 aD:mg "str"=none
 ar:mg "tuple"=none
 a3:mg "zip"=none
 TX:∃u,mg "FIGURES"=some u/\zo (.str "0123456789") u
 TV:∃u,mg "LETTERS"=some u/\zo (.str "abcdefghijklmnopqrstuvwxyz") u
 TH:∃u,mg "MOST_FIGURES"=some u/\zo (.int 18) u
 TF:∃u,mg "MOST_LETTERS"=some u/\zo (.int 6) u
 UM:∃u,mg "MOST_SIGNS"=some u/\zo (.int 20) u
 Vn:∃u,mg "MODULUS"=some u/\zo (.int 65521) u
 Ve:∃u,mg "COLD_KIND"=some u/\zo (.str "carry") u
 To:∃u,mg "LEAST_STRETCHES"=some u/\zo (.int 3) u
 Tq:∃u,mg "MOST_STRETCHES"=some u/\zo (.int 16) u
 TK:∃u,mg "LEAST_PLACES"=some u/\zo (.int 2) u
 TN:∃u,mg "MOST_PLACES"=some u/\zo (.int 32) u
 aj:mg "CleanError"=some (.ref A.TL)
 Ti:mg "NoRow"=some (.ref A.SZ)
 aY:mg "NoDisk"=some (.ref A.aV)
 av:mg "Full"=some (.ref A.Full)
 Tg:mg "Stopped"=some (.ref A.SW)
 aX:mg "NoFile"=some (.ref A.aT)
 aM:mg "NoPlace"=some (.ref A.aC)
 ae:mg "HeldAlready"=some (.ref A.Vf)
 aL:mg "NotHeld"=some (.ref A.aB)
 bj:mg "Disk"=some (.ref A.tj)
 a8:mg "Files"=some (.ref A.tr)
 a7:mg "State"=some (.ref A.State)
 ak:bY K A.TL
 S4:bY K A.SZ
 az:bY K A.Full
 Qe:bY K A.SW
 Vv:mroIn K A.SZ (.ref A.SZ)=some true
 Tv:mroIn K A.SW (.ref A.SW)=some true
 pw:Cls K A.tj
 xy:br K A.tj "at_sides"
 vl:br K A.tj "counted"
 vb:br K A.tj "has_stopped"
 z3:br K A.tj "left"
 Bn:br K A.tj "width"
 q0:br K A.tj "written"
 pL:Cls K A.tr
 qf:br K A.tr "births"
 zf:br K A.tr "kept"
 vr:Cls K A.State
 Tf:br K A.State "next_mark"
 SR:br K A.State "next_row"
 N2:br K A.State "own_files"
 z9:br K A.State "spot_of"
def dC:Nat->List Nat->Nat
 | _,[]=>0
 | k,c::l=>c*k+dC (k+1) l
def ck(z:Str):Int:=((dC 1 (sg z) % 65521:Nat):Int)
def cW(z:Str):Str:=z++(toString (ck z):Str)++";"
def aW(z y:Str)(m:Int):Bool:=decide (1<=(z.length:Int))&&decide ((z.length:Int)<=m)&&(sg z).all λc=>(sg y).contains c
def FIG:Str:="0123456789"
def LET:Str:="abcdefghijklmnopqrstuvwxyz"
def cj(z:Str):Bool:=aW z FIG 18&&(decide (z="0") || !decide (tx ((sg z).take 1)="0"))
def cR(z:Str):Bool:=aW z LET 6
def dO(z:Str):Bool:=aW z (LET++FIG) 20
def aZ(k z:Str):Option V :=
 if k="number"/\cj z=true then some (.int ((Ra z).getD 0))
 else if k="end"/\(z="0"\/z="1") then some (.bl (decide (z="1")))
 else if k="name"/\cR z=true then some (.str z)
 else if k="word"/\dO z=true then some (.str z)
 else none
def dz(z:Str):Option (List Str) :=
 if z=VU then some Wd
 else if z=VT then some ["number","name","number"]
 else if z=VV then some Wc
 else if z="free" then some Wc
 else if z="carry" then some ["number","number","word"]
 else none
def aI:List Str->List Str->Option (List V)
 | k::ks,z::zs=>(aZ k z).bind λv=>(aI ks zs).map (v::·)
 | _,_=>some []
def cG(ws:List Str):Option (List V):=match ws with
 | []=>none
 | w::zs=>(dz w).bind λks=>if zs.length=ks.length then (aI ks zs).map (.str w::·) else none
def cQ(z:Str):Str:=OV z none (some (QV z (c1 32)+1))
def eQ(z:Str):Option Str:=if z=cW (cQ z) then some (cQ z) else none
def bJ(z:Str):Option (List V):=(eQ z).bind λb=>cG (Oz (OV b none (some (-1))) (c1 32))
def aE:V->Str
 | .bl b=>if b then "1" else "0"
 | .int i=>toString i
 | .str z=>z
 | _=>""
inductive c7:V->Prop
 | bl (b:Bool):c7 (.bl b)
 | int (i:Int):0<=i->i<10 ^ 18->c7 (.int i)
 | str (z:Str):asc z=true->z.length<=100->c7 (.str z)
def zX(xs:List V):List Nat:=(xs.map λv=>sg (aE v)++[32]).flatten
def aS(xs:List V):Str:=cW (tx (zX xs))
def j6:Sp:=λvs H Q _=>∃z y m,vs=[.str z,.str y,.int m]/\asc z=true/\z.length<=100000/\∀H',zj H H'->Q (.bl (aW z y m)) H'
def ij(p:Str->Bool):Sp:=λvs H Q _=>∃z,vs=[.str z]/\asc z=true/\z.length<=100000/\∀H',zj H H'->Q (.bl (p z)) H'
def xE:Sp:=λvs H Q _=>∃z,vs=[.str z]/\asc z=true/\z.length<=100000/\∀H',zj H H'->Q (.int (ck z)) H'
def lD:Sp:=λvs H Q _=>∃z,vs=[.str z]/\asc z=true/\z.length<=100000/\∀H',zj H H'->Q (.str (cW z)) H'
def o8(o:Option Str):V:=match o with|some b=>.str b|none=>.non
inductive eT(H:Hp):V->Prop
 | non:eT H .non
 | bl (b:Bool):eT H (.bl b)
 | int (i:Int):eT H (.int i)
 | lst {a:Addr}{xs:List V}:H a=some (.lst xs)->eT H (.ref a)
 | tup {a:Addr}{xs:List V}:H a=some (.tup xs)->eT H (.ref a)
 | dic {a:Addr}{kvs:List (Key×V)}:H a=some (.dK kvs)->eT H (.ref a)
theorem Ls{X:Cx}(t:eT H v)(q:Q (.bl false) H):lQ X.K [v,.ty "str"] H Q:=by
 cases t with
 | non=>exact ⟨_,_,_,_,_,rfl,rfl,.of .non,rfl,q⟩
 | bl b=>exact ⟨_,_,_,_,_,rfl,rfl,.of (.bl b),rfl,q⟩
 | int i=>exact ⟨_,_,_,_,_,rfl,rfl,.of (.int i),rfl,q⟩
 | lst h=>exact ⟨_,_,_,_,_,rfl,rfl,.of (.lst h),rfl,q⟩
 | tup h=>exact ⟨_,_,_,_,_,rfl,rfl,.of (.tup h),rfl,q⟩
 | dic h=>exact ⟨_,_,_,_,_,rfl,rfl,.of (.dK h),rfl,q⟩
def y7:Sp:=λvs H Q _=>(∃z,vs=[.str z]/\asc z=true/\z.length<=100000/\∀H',zj H H'->Q (o8 (eQ z)) H')\/∃v,vs=[v]/\eT H v/\Q .non H
def rE:Sp:=λvs H Q _=>∃v,vs=[v]/\c7 v/\Q (.str (aE v)) H
def uU:Sp:=λvs H Q _=>∃a xs,vs=[.ref a]/\(H a=some (.lst xs)\/H a=some (.tup xs))/\xs.length<=10/\(∀v∈xs,c7 v)/\∀H',zj H H'->Q (.str (aS xs)) H'
def xM(A:zh):Sp:=λvs H Q E=>∃k z,vs=[.str k,.str z]/\asc z=true/\z.length<=100000/\∀H',zj H H'->(∀v,aZ k z=some v->Q v H')/\(aZ k z=none->E (.ref A.SZ) none H')
def wb(A:zh):Sp:=λvs H Q E=>∃a ws,vs=[.ref a]/\H a=some (.lst (ws.map V.str))/\ws≠[]/\ws.length<=100001/\(∀z∈ws,asc z=true/\z.length<=100000) /\
 (∀xs,cG ws=some xs->∀p H',zj H H'->H' p=some (.tup xs)->Q (.ref p) H')/\(cG ws=none->∀H',zj H H'->E (.ref A.SZ) none H')
def xI(A:zh):Sp:=λvs H Q E=>(∃v,vs=[v]/\eT H v/\E (.ref A.SZ) none H)\/∃z,vs=[.str z]/\asc z=true/\z.length<=100000 /\
 (∀xs,bJ z=some xs->∀p H',zj H H'->H' p=some (.tup xs)->Q (.ref p) H')/\(bJ z=none->∀H',zj H H'->E (.ref A.SZ) none H')
theorem aM(h:n<=1000000):n<=sizeLine:=N6 h (by decide)
theorem aF(h:n<=1000000):n<sizeLine:=OI h (by decide)
abbrev jv:Stmt:=top 19
abbrev qc:Stmt:=top 20
abbrev qk:Stmt:=top 21
abbrev qO:Stmt:=top 22
section
variable {P:NB}{w:NQ}{K:Frag}{mg:Str->Option Value}{base:Heap}{A:zh}
structure Gv(H:Hp)(z y:Str)(i:Nat)(τ:L2.St)(ys:List V)(H':Hp):Prop where
 ex:∃t,τ=[t,some (V.str y)]
 ys:ys=(((sg z).take i).map λc=>(sg y).contains c).map V.bl
 same:H'=H
theorem Jb:zt Xu Xu (zi jv):=fsc
theorem Jw:aG { kind:=.function,names:=[(yv ".0",.local),(yv "sign",.local),(yv "signs",.free)],isGenerator:=false,isCoroutine:=false,more:=[] } (zi jv).names Xu ["sign","signs"] [none,some 1]=true:=by decide +kernel
theorem ML:(["sign","signs"]:List Str).Nodup:=by decide +kernel
theorem Hv(F:Fun K VQ VQ jv f fd)(T:Txt w K mg A):zm P w K mg base CX0 true 1 f fd Xu j6:=by
 refine F.o Jb λZ U outer s H vs Q E hr h=>?_;obtain ⟨z,y,m,rfl,ha,O,q⟩:=h;have S:_<cLine:=N1 (zO hr);refine ⟨_,(W.h (zg (zw (anD (pU (clE (ye (oI0 ly) (oI0 ly) zl (zL bj rfl T.wh N8 (zb (za 0) zc)) (za 2))) (jI (zL (JQ rfl) rfl T.a5 boot_all (zb (cA (λ_=>rfl) (zU.of Jw) (G0 (za 0)) (λ_ _ _ _ _=>(zz (i:=0) ML rfl (NC rfl))) (λ_ _ _ _ _=>di) (λ_ _ _ _ _=>(cy (mE S) (za 0) (za 1) rfl))) zc)))))))),?_⟩;erw [aM (N6 O (by decide))];refine aq (λh1=>aq (λh2=>?_) λh2=>?_) λh1=>?_
 .refine ⟨ha,zT.str (Gv H z y) (λi τ ys H' I=>?_) ⟨⟨_,rfl⟩,by simp,rfl⟩ ?_ ?_⟩
  .rw [I.ys,KE,KE,Pb];exact aF (by rw [ae];lia)
  .intro N i c τ ys H' hc I hN;obtain ⟨t,rfl⟩:=I.ex;ac_rfl;rw [CN];have J:(sg z)[i]?=some c:=by simpa [sg] using hc
   exact hN _ _ _ ⟨⟨_,rfl⟩,by rw [I.ys,Oe,J];simp,I.same⟩
  .intro τ ys H' I p H2 G;ac_rfl;refine ⟨_,by rw [G.at_,I.ys],?_⟩;have hs:zj H H2:=by have:=G.same;rw [I.same] at this;exact this
   have e:aW z y m=(((sg z).take z.cps.size).map λc=>(sg y).contains c).all id:=by
    unfold aW;rw [h1,h2,NW (by rw [ae];exact Nq _),List.all_map];rfl
   rw [<- e];exact q H2 hs
 .have e:aW z y m=false:=by unfold aW;rw [Qm.mpr h2];simp
  rw [<- e];exact q H (zj.refl _)
 .have e:aW z y m=false:=by unfold aW;rw [Qm.mpr h1];simp
  rw [<- e];exact q H (zj.refl _)
theorem Gs:zt Xk Xk (zi qk):=fsc
theorem IE(F:Fun K "is_name" "is_name" qk f fd)(T:Txt w K mg A)(J:GF P w K mg base true 1 VQ Xu j6):zm P w K mg base CX0 true 2 f fd Xk (ij cR):=by
 refine F.o Gs λS O outer s H vs Q E hr h=>?_;obtain ⟨z,rfl,ha,G,q⟩:=h;refine ⟨_,(W.h (zg (zw (caD (zq J hr rfl (clP (zb (za 0) (zb (cI rfl T.TV) (zb (cI rfl T.TF) zc))))))))),?_⟩;ac_rfl;exact ⟨z,_,_,rfl,ha,G,q⟩
theorem BX:zt Xk Xk (zi qO):=fsc
theorem Lf(F:Fun K "is_word" "is_word" qO f fd)(T:Txt w K mg A)(J:GF P w K mg base true 1 VQ Xu j6):zm P w K mg base CX0 true 2 f fd Xk (ij dO):=by
 refine F.o BX λS O outer s H vs Q E hr h=>?_;obtain ⟨z,rfl,ha,G,q⟩:=h;refine ⟨_,(W.h (zg (zw (caD (zq J hr rfl (clP (zb (za 0) (zb (zB aK (cI rfl T.TV) (cI rfl T.TX)) (zb (cI rfl T.UM) zc))))))))),?_⟩;ac_rfl;exact ⟨by decide,z,_,_,rfl,ha,G,q⟩
theorem DR:zt Xk Xk (zi qc):=fsc
theorem Ck(F:Fun K VG VG qc f fd)(T:Txt w K mg A)(S:GF P w K mg base true 1 VQ Xu j6):zm P w K mg base CX0 true 2 f fd Xk (ij cj):=by
 refine F.o DR λZ U outer s H vs Q E hr h=>?_;obtain ⟨z,rfl,ha,G,q⟩:=h;have J:_<cLine:=N1 (zO hr);refine ⟨_,(W.h (ze (zQ (fJ (bG (caD (zq S hr rfl (clP (zb (za 0) (zb (cI rfl T.TX) (zb (cI rfl T.TH) zc))))))))
   (zg (zw bW))
   zV)
   (zg (zw (Bh (cy (oE (aV J)) (za 0) zH (zC _)) (jI (cy (oE (eS J)) (zF zJ (za 0) zl (λ_ _=>rfl)) zH (zC _)))))))),?_⟩
 ac_rfl;refine ⟨z,_,_,rfl,ha,G,λH1 s1=>?_⟩;erw [aM (N6 G (by decide))];refine aq (λh1=>?_) λh1=>?_
 .have e:cj z=false:=by
   unfold cj FIG;rw [show aW z "0123456789" 18=false by simpa using h1];rfl
  rw [<- e];exact q H1 s1
 .have h1:aW z "0123456789" 18=true:=by simpa using h1
  refine aq (λh2=>?_) λh2=>?_
  .have e:cj z=true:=by
    unfold cj FIG;rw [h1,h2];rfl
   rw [<- e];exact q H1 s1
  .have hl:0<(sg z).length:=by
    rw [ae];unfold aW at h1;rw [Oc,Oc,decide_eq_true_eq] at h1;lia
   have O:(sg z).take 1=[(sg z)[0]]:=by
    generalize sg z=l at hl;cases l with
    | nil=>cases hl
    | cons x l=>rfl
   refine ⟨(sg z)[0],cu (xs:=sg z) (j:=0) (p8 hl),?_⟩;have e:cj z = !decide (({ cps:=#[(sg z)[0]] }:Str)="0"):=by
    unfold cj FIG;rw [h1,Qm.mpr h2,O];rfl
   rw [<- e];exact q H1 s1
abbrev mn:Stmt:=top 30
abbrev jB:Stmt:=top 29
abbrev oU:Stmt:=top 26
abbrev oF:Stmt:=top 27
abbrev nQ:Stmt:=top 28
theorem wo:∀(k:Nat)(a b:List Nat),dC k (a++b)=dC k a+dC (k+a.length) b
 | k,[],b=>by simp [dC]
 | k,c::a,b=>by
  show c*k+dC (k+1) (a++b)=c*k+dC (k+1) a+_;rw [wo (k+1) a b,Oy,show k+1+a.length=k+(a.length+1) by lia];lia
structure EL(H:Hp)(z:Str)(i:Nat)(σ:L2.St)(H':Hp):Prop where
 ex:∃a b,σ=[some (V.str z),some (.int (dC 1 ((sg z).take i):Nat)),a,b]
 same:zj H H'
theorem iE:zt ["text","total","place","sign"] Xk (zi oU):=fsc
theorem MK(F:Fun K "sum_of" "sum_of" oU f fd)(T:Txt w K mg A):zm P w K mg base CX0 true 1 f fd Xk xE:=by
 refine F.o iE λZ U outer s H vs Q E hr h=>?_;obtain ⟨z,rfl,ha,hz,q⟩:=h;refine ⟨_,(W.h (ze (zy (i:=1) iE.nd rfl (NC rfl) zl)
   (ze (bN OW.never (λ_=>rfl) (Fz rfl T.F6 (za 0)) (dW (n:=2) (gsD (zS (zz (i:=2) iE.nd rfl (NC rfl)) (gsD (zS (zz (i:=3) iE.nd rfl (NC rfl)) bR)))))
   (zg (BG (i:=1) iE.nd rfl (NC rfl) (zB cV (zL Eu rfl T.a4 boot_ord (zb (za 3) zc)) (za 2)) Lp)))
   (zg (zw (zB (oI gL) (za 1) (cI rfl T.Vn))))))),?_⟩
 ac_rfl;refine ⟨ha,aA.bc (EL H z) ⟨⟨_,_,rfl⟩,zj.refl _⟩ ?_ ?_⟩
 .rintro i c p σ H' hc ⟨⟨a,b,rfl⟩,G⟩ S;have J:(sg z)[i]?=some c:=by simpa [sg] using hc
  ac_rfl;refine ⟨p,_,rfl,SqT.of zx,rfl,?_⟩;ac_rfl;refine ⟨rfl,.inl ⟨by simp;lia,?_⟩,⟨⟨some (.int ((i+1:Nat):Int)),some (.str ⟨#[c]⟩),?_⟩,?_⟩⟩
  .have O:c<128:=by
    have h3:=NM J;rw [bT] at ha;simpa using Ol.mp ha c h3
   simp;lia
  .rw [Oe,J,wo];have hi:i<(sg z).length:=(Nt.mp J).1;rw [Pb,SH (by lia)];simp [dC];rw [Int.add_comm 1 (i:Int)]
  .exact G.trans λb o e=>by rw [zd (zE e S)];exact e
 .rintro σ H' ⟨⟨a,b,rfl⟩,G⟩;ac_rfl;refine ⟨by decide,?_⟩;have e:ck z=((dC 1 ((sg z).take z.cps.size):Nat):Int) % 65521:=by
   unfold ck;rw [NW (by rw [ae];exact Nq _)];lia
  rw [<- e];exact q H' G
theorem tw:(" ":Str)=c1 32:=by decide +kernel
theorem xY(h:n<2 ^ 64):n.log2<1920:=by
 by_cases z:n=0
 .subst z;decide
 .exact Nat.lt_trans ((Nat.log2_lt z).mpr h) (by decide)
theorem fj(z:Str):0<=ck z/\ck z<65521:=by unfold ck;lia
theorem A8(m:Nat)(h:0<m):∃c r,(SJ 10 m).map Char.toNat=c::r/\49<=c:=by
 induction m using Nat.strongRecOn with
 | _ m z =>
  by_cases h1:m<10
  .rw [Nat.toDigits_of_lt_base h1];refine ⟨_,[],rfl,?_⟩;have:∀d:Nat,d<10->0<d->49<=(Nat.digitChar d).toNat:=by decide
   exact this m h1 h
  .have hm:m % 10<10:=Nat.mod_lt m (by decide);have t:SJ 10 (m / 10)++SJ 10 (m % 10)=SJ 10 (10*(m / 10)+m % 10):=Nat.toDigits_append_toDigits (by decide) (by lia) hm;rw [Nat.div_add_mod] at t;obtain ⟨c,r,e,hc⟩:=z (m / 10) (by lia) (by lia);rw [<- t,Oa,e];exact ⟨c,_,rfl,hc⟩
structure Ig(i:Int):Prop where
 dig:∀c∈sg (toString i:Str),48<=c/\c<=57
 one:1<=(sg (toString i:Str)).length
 most:(sg (toString i:Str)).length<=18
 back:Ra (toString i:Str)=some i
 head:(toString i:Str)="0"\/∃c r,sg (toString i:Str)=c::r/\49<=c
theorem gz(G:0<=i)(h1:i<10 ^ 18):Ig i:=by
 obtain ⟨m,rfl⟩:=Pn G;have hd:∀c∈sg (toString ((m:Nat):Int):Str),48<=c/\c<=57:=by
  intro c hc;rw [iU] at hc;obtain ⟨ch,J,e⟩:=PF.mp hc;have r:=Nat.isDigit_of_mem_toDigits (by decide) (by decide) J;rw [<- e];exact PyProof.Rows.digit_range r
 have hn:1<=(sg (toString ((m:Nat):Int):Str)).length:=by
  rcases Nat.eq_zero_or_pos m with h|h
  .rw [h,iU];decide
  .obtain ⟨c,r,e,_⟩:=A8 m h;rw [iU,e];simp
 have hl:(sg (toString ((m:Nat):Int):Str)).length<=18:=by
  have e:(Nat.repr m).length<=18:=(Nat.length_repr_le_iff (by decide)).mpr (by lia);rw [ae];show (yv (toString ((m:Nat):Int))).length<=18;rw [PySem.ofString_length];exact e
 refine ⟨hd,hn,hl,?_,?_⟩
 .have e:=intText_digits (x:=(toString ((m:Nat):Int):Str)) hd (λz=>by rw [show sg (toString ((m:Nat):Int):Str)=[] from z] at hn;cases hn) (by rw [<- ae];lia);have F:(toString ((m:Nat):Int):Str).cps.toList=(SJ 10 m).map Char.toNat:=iU m;rw [F,PySem.W.KIN.val_back] at e;exact e
 .rcases Nat.eq_zero_or_pos m with h|h
  .left;rw [h];rfl
  .obtain ⟨c,r,e,hc⟩:=A8 m h;exact .inr ⟨c,r,by rw [iU,e],hc⟩
theorem v9{i:Int}(z:0<=i)(h1:i<10 ^ 18):(toString i:Str).length<=19:=by
 have e:=int_text_length_le10 (a:=i) (k:=18) (by decide) (by lia);show (yv (toString i)).length<=19;rw [PySem.ofString_length];exact e
theorem Cv:zt ["body"] ["body"] (zi oF):=fsc
theorem DD(F:Fun K "summed" "summed" oF f fd)(T:Txt w K mg A)(O:GF P w K mg base true 1 "sum_of" Xk xE):zm P w K mg base CX0 true 2 f fd ["body"] lD:=by
 refine F.o Cv λZ U outer s H vs Q E hr h=>?_;obtain ⟨z,rfl,ha,J,q⟩:=h;refine ⟨_,(W.h (zg (zw (Fl (rL (uz (za 0)) (rL (uz (caD (zq O hr rfl (clP (zb (za 0) zc))))) (rL zH GG))))))),?_⟩;ac_rfl;have hs:=fj z;have hn:=v9 hs.1 (by lia);refine ⟨aM (by lia),by rw [Str.empty_append];exact aM (by lia),z,rfl,ha,J,λH' s1=>?_⟩;ac_rfl;rw [Str.empty_append];have S:(z++(toString (ck z):Str)).length<=1000000:=by rw [Q7];lia
 have G:(z++(toString (ck z):Str)++";").length<=1000000:=by
  rw [Q7,Q7];have:(";":Str).length=1:=by decide
  lia
 exact ⟨xY (by lia),aM S,aM G,aM G,q H' s1⟩
theorem qi(l:List Nat):asc (tx l)=l.all (· < 128):=by rw [bT,cE]
theorem rp(h:asc z=true)(hl:∀c∈l,c∈sg z):asc (tx l)=true:=by
 rw [qi,Ol];rw [bT,Ol] at h;exact λc hc=>h c (hl c hc)
theorem Am(c:Nat):∀l:List Nat,c∈l->∃a b,l=a++c::b/\c∉b
 | [],h=>by cases h
 | x::l,h=>by
  by_cases hm:c∈l
  .obtain ⟨a,b,e,hb⟩:=Am c l hm;exact ⟨x::a,b,by rw [e];rfl,hb⟩
  .rcases Nw.mp h with e|e
   .exact ⟨[],l,by rw [e];rfl,hm⟩
   .exact absurd e hm
theorem tE(h:sg z=a++32::b)(hb:32∉b):cQ z=tx (a++[32]):=by
 unfold cQ;rw [J9 h hb];have e:((a.length:Int)+1)=((a.length+1:Nat):Int):=by lia
 rw [e,j8 (by rw [h];simp),h];congr 1;rw [show a++32::b=(a++[32])++b by simp,List.take_left' (by simp)]
theorem ME(h:32∉sg z):cQ z=tx []:=by
 unfold cQ;rw [G5 h];exact j8 (j:=0) (Ot _)
theorem AJ(h:asc z=true):asc (cQ z)=true/\(cQ z).length<=z.length:=by
 refine ⟨?_,PySem.Txt.slice_le _ _ _⟩;by_cases hm:32∈sg z
 .obtain ⟨a,b,e,hb⟩:=Am 32 _ hm;rw [tE e hb];refine rp h λc hc=>?_;rw [e,show a++32::b=(a++[32])++b by simp];exact OQ _ hc
 .rw [ME hm,qi];rfl
theorem u9:zt ["text","body"] Xk (zi nQ):=fsc
theorem Jn(F:Fun K "body_of" "body_of" nQ f fd)(T:Txt w K mg A)(O:GF P w K mg base true 2 "summed" ["body"] lD):zm P w K mg base CX0 true 3 f fd Xk y7:=by
 refine F.ok u9 (λvs H Q E h=>?_) (λZ2 Ar outer s H vs Q E hr h=>?_)
 .rcases h with ⟨z,rfl,_⟩|⟨v,rfl,_⟩<;>rfl
 .have S:_<cLine:=N1 (zO hr);refine ⟨_,(W.h (ze (zQ (fJ (bG (zL jx rfl T.L1 RF (zb (za 0) (zb (lJ rfl T.aD boot_str (v:=.ty "str") rfl) zc)))))
   (zg (zw aJ))
   zV)
   (ze (zy (i:=1) u9.nd rfl (NC rfl) (eW fZ (za 0) eL (eR (zB aK (Cm (za 0) zH) zl))))
   (zg (zw (jT (tD (zG (clO (oE (aV S))) (clE (za 0)) (clE (caD (zq O hr rfl (clP (zb (za 1) zc))))) (zC _))) (za 1) aJ)))))),?_⟩
  rcases h with ⟨z,rfl,ha,J,q⟩|⟨v,rfl,tv,q⟩
  case inr =>
   ac_rfl;refine Ls tv ?_;ac_rfl;exact q
  ac_rfl;refine ⟨_,_,_,_,_,rfl,rfl,.of (.str z),rfl,?_⟩;erw [aM (N6 J (by decide)),tw];obtain ⟨U,Z⟩:=AJ ha;refine ⟨cQ z,rfl,U,by lia,λH' s1=>?_⟩;ac_rfl;have G:=q H' s1;refine aq (λh=>?_) λh=>?_
  .have e:eQ z=some (cQ z):=if_pos (of_decide_eq_true h);rw [e] at G;exact G
  .have e:eQ z=none:=if_neg λx=>h (decide_eq_true x);rw [e] at G;exact G
theorem Cb:∀ys:List Str,sg (SN "" ys)=(ys.map sg).flatten:=by
 intro ys;have e:SN "" ys=Str.join "" ys:=StrLaws.glued_eq_join "" ys;rw [e]
 induction ys with
 | nil=>rfl
 | cons y ys z =>
  cases ys with
  | nil=>show sg y=_;simp
  | cons x ys =>
   have z:=z (StrLaws.glued_eq_join "" _);show sg (y++""++Str.join "" (x::ys))=_;rw [dj,dj,z];have:sg ("":Str)=[]:=by decide
   rw [this];simp
theorem An(h:c7 v):(aE v).length<=100/\asc (aE v)=true:=by
 cases h with
 | bl b=>cases b<;>exact ⟨by decide,by rw [bT];decide⟩
 | int i J h1 =>
  have F:=gz J h1;refine ⟨by show (toString i:Str).length<=100;rw [<- ae];have:=F.most;lia,?_⟩;show asc (toString i:Str)=true;rw [bT,Ol];exact λc hc=>decide_eq_true (by have:=F.dig c hc;lia)
 | str z ha G=>exact ⟨G,ha⟩
theorem pa:∀{xs:List V},(∀v∈xs,c7 v)->(zX xs).length<=101*xs.length/\(zX xs).all (· < 128)=true
 | [],_=>⟨by simp [zX],rfl⟩
 | v::xs,h=>by
  obtain ⟨h1,h2⟩:=pa (xs:=xs) λu z=>h u (ND _ z);obtain ⟨F,p2⟩:=An (h v (NX ..));have e:zX (v::xs)=sg (aE v)++[32]++zX xs:=by simp [zX]
  rw [e];rw [<- ae] at F;rw [bT] at p2;refine ⟨by simp;lia,?_⟩;rw [all_append,all_append,p2,h2];rfl
theorem Hq:zt ["part"] ["part"] (zi mn):=fsc
theorem Cp(F:Fun K Vz Vz mn f fd)(T:Txt w K mg A):zm P w K mg base CX0 cm 1 f fd ["part"] rE:=by
 refine F.o Hq λO J outer s H vs Q E hr h=>?_;obtain ⟨v,rfl,G,q⟩:=h;refine ⟨_,(W.h (ze (zQ (bG (zL jx rfl T.L1 RF (zb (za 0) (zb (lJ rfl T.Vu boot_bool (v:=.ty "bool") rfl) zc))))
   (zg (zw (jT (bG (za 0)) zH zH)))
   zV)
   (zg (zw (fe FD rfl T.aD boot_str (zb (za 0) zc)))))),?_⟩
 ac_rfl;cases G with
 | bl b =>
  refine ⟨_,_,_,_,_,rfl,rfl,.of (.bl b),rfl,?_⟩;ac_rfl;cases b with
  | true=>exact lO q
  | false=>exact iw q
 | int i U h1 =>
  refine ⟨_,_,_,_,_,rfl,rfl,.of (.int i),rfl,?_⟩;ac_rfl;exact ⟨xY (by lia),q⟩
 | str z ha S =>
  refine ⟨_,_,_,_,_,rfl,rfl,.of (.str z),rfl,?_⟩;ac_rfl;exact q
structure ia(H:Hp)(xs:List V)(i:Nat)(τ:L2.St)(ys:List V)(H':Hp):Prop where
 ex:∃t,τ=[t]
 ys:ys=((xs.take i).map λv=>aE v++" ").map V.str
 same:H'=H
theorem KQ:zt ["row"] ["row"] (zi jB):=fsc
theorem Kb:aG { kind:=.function,names:=[(yv ".0",.local),(yv "part",.local),(yv "part_text",.globalImplicit)],isGenerator:=false,isCoroutine:=false,more:=[] } (zi jB).names ["row"] ["part"] [none]=true:=by decide +kernel
theorem Jq:(["part"]:List Str).Nodup:=by decide +kernel
theorem GL(F:Fun K "row_text" "row_text" jB f fd)(T:Txt w K mg A)(Zg:GF P w K mg base true 2 "summed" ["body"] lD)(Y1:GF P w K mg base true 1 Vz ["part"] rE):zm P w K mg base CX0 true 3 f fd ["row"] uU:=by
 refine F.o KQ λZ2 Ar outer s H vs Q E hr h=>?_;obtain ⟨a,xs,rfl,z,hx,hp,q⟩:=h;refine ⟨_,(W.h (zg (zw (caD (zq Zg hr rfl (clP (zb (Mc zH (cA (λ_=>rfl) (zU.of Kb) (Eh (za 0)) (λ_ _ _ _ _=>(zz (i:=0) Jq rfl (NC rfl))) (λ_ _ _ _ _=>di) (λ_ _ _ _ _=>(zB aK (caD (zq Y1 hr rfl (clP (zb (za 0) zc)))) zH)))) zc))))))),?_⟩;ac_rfl;have U:(" ":Str).length=1:=by decide
 have step:∀(N:L2.St->List V->Hp->Prop)(i:Nat)(x:V)(τ:L2.St)(ys:List V)(H':Hp),xs[i]?=some x->ia H xs i τ ys H'->(∀τ ys H3,ia H xs (i+1) τ ys H3->N τ ys H3)->dr 0 x τ H' λS H4=>oy S H4 λok H5=>dD N ys S (tOp hJ (oR rE E0 (lH (jc 0) cb)) (tC (V.str " "))) ok H5:=by
  intro N i x τ ys H' O I hN;obtain ⟨t,rfl⟩:=I.ex;have hv:=hp x (NM O);ac_rfl;refine ⟨x,rfl,hv,?_⟩;ac_rfl;refine ⟨?_,hN _ _ _ ⟨⟨_,rfl⟩,by rw [I.ys,Oe,O];simp,I.same⟩⟩;rw [U];exact aM (by have:=(An hv).1;lia)
 have done:∀(τ:L2.St)(ys:List V)(H':Hp),ia H xs xs.length τ ys H'->∀D H2,New H' D (.lst ys) H2->jh (V.str "") [.ref D] H2 λx H1=>lD [x] H1 Q E0:=by
  intro τ ys H' I D H2 Z;rw [wy];have G:xs.take xs.length=xs:=NW (Nq _);have e:SN "" (xs.map λv=>aE v++" ")=tx (zX xs):=by
   refine lT ?_;rw [Cb,cE,Oi];unfold zX;congr 1;refine O6 λv _=>?_;show sg (aE v++" ")=_;rw [dj];rfl
  obtain ⟨l1,l2⟩:=pa hp;refine ⟨xs.map λv=>aE v++" ",by rw [Z.at_,I.ys,G],?_,tx (zX xs),by rw [e],by rw [qi];exact l2,by rw [nG];lia,λH3 s3=>q H3 ?_⟩
  .have es:((xs.map λv=>aE v++" ").map (·.length)).sum=(zX xs).length:=by
    unfold zX;rw [List.length_flatten,Oi,Oi];congr 1;refine O6 λv _=>?_;show (aE v++" ").length=(sg (aE v)++[32]).length;rw [Q7,NY,ae];rfl
   rw [es,show ("":Str).length=0 by decide];lia
  .have:=Z.same;rw [I.same] at this;exact this.trans s3
 have J:∀i τ ys H',ia H xs i τ ys H'->ys.length<sizeLine:=λi τ ys H' I=>by
  rw [I.ys,KE,KE,Pb];exact aF (by lia)
 rcases z with z|z
 .exact .inl ⟨⟨_,SqL.of z⟩,zT.lst (xs:=xs) (ia H xs) J (λi τ ys H' I=>SqL.of (by rw [I.same];exact z)) ⟨⟨_,rfl⟩,by simp,rfl⟩ step done⟩
 .exact .inr ⟨⟨_,SqT.of z⟩,zT.tup (xs:=xs) (ia H xs) J (λi τ ys H' I=>SqT.of (by rw [I.same];exact z)) ⟨⟨_,rfl⟩,by simp,rfl⟩ step done⟩
abbrev lR:Stmt:=top 33
abbrev kM:Stmt:=top 32
abbrev jy:Stmt:=top 31
theorem GQ(h:cj z=true):∃n,Ra z=some n/\z.length<=640:=by
 unfold cj aW at h;rw [Oc,Oc,Oc,decide_eq_true_eq,decide_eq_true_eq] at h;obtain ⟨⟨⟨h1,h2⟩,h3⟩,_⟩:=h;have hl:z.length<=18:=by lia
 have hd:∀c∈sg z,48<=c/\c<=57:=by
  intro c hc;have:=Ol.mp h3 c hc;have hf:sg FIG=[48,49,50,51,52,53,54,55,56,57]:=by decide
  rw [hf] at this;have:=P0.mp this;simp only [Nw,NH,or_false] at this;omega
 refine ⟨_,intText_digits (x:=z) hd (λe=>?_) (by lia),by lia⟩;have:z.length=0:=by rw [<- ae];rw [show sg z=[] from e];rfl
 lia
theorem FC:zt Wm Wm (zi lR):=fsc
theorem BP(F:Fun K VB VB lR f fd)(T:Txt w K mg A)(ZD:GF P w K mg base true 2 VG Xk (ij cj))(YC:GF P w K mg base true 2 "is_name" Xk (ij cR))(YB:GF P w K mg base true 2 "is_word" Xk (ij dO)):
  zm P w K mg base (CXW P w) true 3 f fd Wm (xM A):=by
 refine F.oW FC λZ2 Ar outer s H vs Q E hr h=>?_;obtain ⟨k,z,rfl,ha,Z,q⟩:=h;have O:_<cLine:=N1 (zO hr);have Th:=fB (cm:=true) (P:=P) (w:=w) (K:=K) (mg:=mg) (base:=base) (N:=Wm) (qual:=VB) (scope:=zi lR) (f:=f) (cd:=Z2) (A:=Ar) (outer:=outer) (s:=s) (H:=H) (E:=E);refine ⟨_,(W.h (ze (nZ (zQ (cH (fo (tD (zG (clO (oE (aV O))) (clE (za 0)) (clE zH) (zC _))) (fG (bG (caD (zq ZD hr rfl (clP (zb (za 1) zc))))))))
   (zg (zw (fe AF rfl T.Vr boot_int (zb (za 1) zc))))
   zV))
   (ze (nZ (zQ (cH (fo (tD (zG (clO (oE (aV O))) (clE (za 0)) (clE zH) (zC _))) (fG (tD (zG (clO (mE O)) (clE (za 1)) (clE (aO (zb zH (zb zH zc)))) rfl)))))
   (zg (zw (cy (oE (aV O)) (za 1) zH (zC _))))
   zV))
   (ze (nZ (zQ (cH (fo (tD (zG (clO (oE (aV O))) (clE (za 0)) (clE zH) (zC _))) (fG (bG (caD (zq YC hr rfl (clP (zb (za 1) zc))))))))
   (zg (zw (za 1)))
   zV))
   (ze (zQ (cH (fo (tD (zG (clO (oE (aV O))) (clE (za 0)) (clE zH) (zC _))) (fG (bG (caD (zq YB hr rfl (clP (zb (za 1) zc))))))))
   (zg (zw (za 1)))
   zV)
   (zg (iK rfl Th T.S4 rfl T.Ti (zb zH zc)))))))),?_⟩
 erw [qZ];refine ⟨λG H'=>G=[some (.str k),some (.str z)]/\zj H H'/\¬ (k="number"/\cj z=true),?_,?_⟩
 .refine aq (λh1=>?_) λh1=>⟨rfl,zj.refl _,λx=>h1 (decide_eq_true x.1)⟩;refine ⟨z,rfl,ha,Z,λH1 s1=>?_⟩;ac_rfl;refine aq (λh2=>?_) λh2=>⟨s1,λx=>h2 x.2⟩;obtain ⟨n,hn,hl⟩:=GQ h2;refine ⟨hl,n,hn,(q H1 s1).1 _ ?_⟩;unfold aZ;rw [if_pos ⟨of_decide_eq_true h1,h2⟩,hn];rfl
 rintro G H1 ⟨rfl,s1,U⟩;erw [qZ];refine ⟨λG H'=>G=[some (.str k),some (.str z)]/\zj H H'/\¬ (k="end"/\(z="0"\/z="1")),?_,?_⟩
 .refine aq (λh1=>?_) λh1=>⟨rfl,s1,λx=>h1 (decide_eq_true x.1)⟩;refine ⟨by decide,λp H2 J=>⟨_,.inr J.at_,rfl,rfl,?_⟩⟩;have e:inV (V.str z) [V.str "0",V.str "1"]=true↔(z="0"\/z="1"):=by
   unfold inV;rw [Rx,Rx,List.any_nil,QQ,Bool.or_eq_true];have e3:∀a:Str,eqV (V.str a) (V.str z)=true↔z=a:=λa=>by
    show (a==z)=true↔_;rw [beq_iff_eq];exact eq_comm
   rw [e3,e3]
  refine aq (λh2=>?_) λh2=>⟨rfl,s1.trans J.same,λx=>h2 (e.mpr x.2)⟩;refine (q H2 (s1.trans J.same)).1 _ ?_;unfold aZ;rw [if_neg U,if_pos ⟨of_decide_eq_true h1,e.mp h2⟩]
 rintro G H2 ⟨rfl,s2,J⟩;erw [qZ];refine ⟨λG H'=>G=[some (.str k),some (.str z)]/\zj H H'/\¬ (k="name"/\cR z=true),?_,?_⟩
 .refine aq (λh1=>?_) λh1=>⟨rfl,s2,λx=>h1 (decide_eq_true x.1)⟩;refine ⟨z,rfl,ha,Z,λH3 S=>?_⟩;ac_rfl;refine aq (λh2=>?_) λh2=>⟨s2.trans S,λx=>h2 x.2⟩;refine (q H3 (s2.trans S)).1 _ ?_;unfold aZ;rw [if_neg U,if_neg J,if_pos ⟨of_decide_eq_true h1,h2⟩]
 rintro G H3 ⟨rfl,S,n3⟩;ac_rfl;refine aq (λh1=>?_) λh1=>?_
 .refine ⟨z,rfl,ha,Z,λH4 s4=>?_⟩;ac_rfl;refine aq (λh2=>?_) λh2=>?_
  .refine (q H4 (S.trans s4)).1 _ ?_;unfold aZ;rw [if_neg U,if_neg J,if_neg n3,if_pos ⟨of_decide_eq_true h1,h2⟩]
  .refine ⟨by decide,(q H4 (S.trans s4)).2 ?_⟩;unfold aZ;rw [if_neg U,if_neg J,if_neg n3,if_neg λx=>h2 x.2]
 .refine ⟨by decide,(q H3 S).2 ?_⟩;unfold aZ;rw [if_neg U,if_neg J,if_neg n3,if_neg λx=>h1 (decide_eq_true x.1)]
theorem Mm(T:Txt w K mg A)(z:Str):(eK [(VU,A.S5),(VT,A.S7),(VV,A.SX),("free",A.SY),("carry",A.SS)] z = .non/\dz z=none) \/
  ∃p ks,eK [(VU,A.S5),(VT,A.S7),(VV,A.SX),("free",A.SY),("carry",A.SS)] z = .ref p/\dz z=some ks/\ks.length<=10/\∀H:Hp,SqT K H p (ks.map V.str):=by
 unfold eK dz;simp only [QX,List.find?_nil];by_cases h1:z=VU
 .rw [if_pos h1,decide_eq_true h1.symm];exact .inr ⟨_,_,rfl,rfl,by decide,T.Va⟩
 rw [if_neg h1,decide_eq_false (NO h1)];by_cases h2:z=VT
 .rw [if_pos h2,decide_eq_true h2.symm];exact .inr ⟨_,_,rfl,rfl,by decide,T.Vb⟩
 rw [if_neg h2,decide_eq_false (NO h2)];by_cases h3:z=VV
 .rw [if_pos h3,decide_eq_true h3.symm];exact .inr ⟨_,_,rfl,rfl,by decide,T.UH⟩
 rw [if_neg h3,decide_eq_false (NO h3)];by_cases h4:z="free"
 .rw [if_pos h4,decide_eq_true h4.symm];exact .inr ⟨_,_,rfl,rfl,by decide,T.UI⟩
 rw [if_neg h4,decide_eq_false (NO h4)];by_cases F:z="carry"
 .rw [if_pos F,decide_eq_true F.symm];exact .inr ⟨_,_,rfl,rfl,by decide,T.TM⟩
 rw [if_neg F,decide_eq_false (NO F)];exact .inl ⟨rfl,rfl⟩
theorem jU:∀{ks zs:List Str}(ks' F:List Str),ks.length=zs.length->aI (ks++ks') (zs++F)=(aI ks zs).bind λvs=>(aI ks' F).map (vs++·)
 | [],[],ks',F,_=>by simp [aI]
 | k::ks,z::zs,ks',F,h=>by
  have G:=jU (ks:=ks) (zs:=zs) ks' F (by simpa using h);show (aZ k z).bind (λv=>(aI (ks++ks') (zs++F)).map (v::·))=((aZ k z).bind λv=>(aI ks zs).map (v::·)).bind _;rw [G];cases aZ k z with
  | none=>rfl
  | some v =>
   cases aI ks zs with
   | none=>rfl
   | some vs =>
    show ((aI ks' F).map (vs++·)).map (v::·)=(aI ks' F).map ((v::vs)++·);rw [Option.map_map];rfl
 | [],z::zs,_,_,h=>by cases h
 | k::ks,[],_,_,h=>by cases h
theorem eG(z:Str)(zs:List Str):cG (z::zs)=(dz z).bind λks=>if zs.length=ks.length then (aI ks zs).map (.str z::·) else none:=rfl
theorem Mr:aX (x::l) (some 1) none=l:=by
 have z:HT.sIx (x::l).length 0 (some 1)=1:=by simp [HT.sIx]
 have F:HT.sIx (x::l).length (x::l).length none=l.length+1:=by simp [HT.sIx]
 unfold aX;rw [z,F];simp
structure Cw(H:Hp)(a p r b:Addr)(z:Str)(ks zs:List Str)(i:Nat)(σ:L2.St)(H':Hp):Prop where
 ex:∃k' z',σ=[some (V.ref a),some (.ref p),some (.ref r),k',z']
 same:zj H H'
 row:∃vs,H' r=some (.lst (.str z::vs))/\aI (ks.take i) (zs.take i)=some vs/\vs.length=i
 words:H' b=some (.lst (zs.map V.str))
 ne:H r=none/\H b=none/\r≠b
theorem iB:zt ["words","kinds","row","kind","word"] ["words"] (zi kM):=fsc
theorem MX(F:Fun K "row_of" "row_of" kM f fd)(T:Txt w K mg A)(Y0:GX P w K mg base true 3 VB Wm (xM A)):zm P w K mg base (CXW P w) true 4 f fd ["words"] (wb A):=by
 refine F.oW iB λZ2 Ar outer s H vs Q E hr h=>?_;obtain ⟨a,ws,rfl,hH,YO,hl,hw,q,qn⟩:=h;have hu:_<cLine:=N1 (zO hr);have Th:=fB (cm:=true) (P:=P) (w:=w) (K:=K) (mg:=mg) (base:=base) (N:=["words","kinds","row","kind","word"]) (qual:="row_of") (scope:=zi kM) (f:=f) (cd:=Z2) (A:=Ar) (outer:=outer) (s:=s) (H:=H) (E:=E);obtain ⟨z,zs,rfl⟩:=List.exists_cons_of_ne_nil YO;have e0:atI (V.str z::map V.str zs) 0=some (.str z):=cu (j:=0) rfl;refine ⟨_,(W.h (ze (zy (i:=1) iB.nd rfl (NC rfl) (G9 rfl T.aa T.aA (zF zJ (za 0) zl (λ_ _=>rfl))))
   (ze (zQ (cH (i6 (tD (zG (clO iD) (clE (za 1)) (clE aJ) (zC _))) (i4 (tD (zG (clO (oE (eS hu))) (clE (zL bj rfl T.wh N8 (zb (za 0) zc))) (clE (zB aK (zL kG rfl T.wh N8 (zb (za 1) zc)) zl)) (zC _))))))
   (zg (iK rfl Th T.S4 rfl T.Ti (zb zH zc)))
   zV)
   (ze (zy (i:=2) iB.nd rfl (NC rfl) (ay (zb (zF zJ (za 0) zl (λ_ _=>rfl)) zc)))
   (ze (G1 Th (bN (Cg rfl (λok=>ok.frames) rfl) (by intro h;exact nomatch h) (Dh rfl T.a3 (zb (za 1) (zb (eW fZ (za 0) (eR zl) eL) zc))) (dW (n:=2) (gsD (zS (zz (i:=3) iB.nd rfl (NC rfl)) (gsD (zS (zz (i:=4) iB.nd rfl (NC rfl)) bR)))))
   (zg (ax (hU (za 2) (cXD (pI CP Y0 hr rfl (clP (zb (za 3) (zb (za 4) zc))))))))))
   (zg (zw (fe Dg rfl T.ar boot_tuple (zb (za 2) zc))))))))),?_⟩
 erw [hH,e0];rcases Mm T z with ⟨g1,g2⟩|⟨p,ks,g1,g2,g4,g3⟩
 .erw [g1];exact ⟨by decide,qn (by rw [eG,g2];rfl) H (zj.refl _)⟩
 erw [g1,hH];refine ⟨_,.inr (g3 H),?_⟩;have Yp:(!decide ((((map V.str zs).length+1:Nat):Int)=((map V.str ks).length:Int)+1))=true↔zs.length≠ks.length:=by
  rw [KE,KE];simp;lia
 refine aq (λh=>?_) λh=>?_
 .refine ⟨by decide,qn ?_ H (zj.refl _)⟩;rw [eG,g2];show (if zs.length=ks.length then _ else _)=_;rw [if_neg (Yp.mp h)]
 have Z7:ks.length=zs.length:=by
  refine Px λhx=>h (Yp.mpr λx=>hx x.symm)
 have XA:cG (z::zs)=(aI ks zs).map (.str z::·):=by
  rw [eG,g2];show (if zs.length=ks.length then _ else _)=_;rw [if_pos Z7.symm]
 refine ⟨_,e0,by decide,λr H1 J _=>⟨_,J.same _ _ hH,λb H2 G=>?_⟩⟩;have s2:zj H H2:=J.same.trans G.same;have er:=G.same _ _ J.at_;have eb:=G.at_;rw [Om,Mr] at eb;have U:r≠b:=λx=>by rw [x] at J;have:=J.at_;rw [G.no] at this;cases this
 refine ⟨⟨_,g3 H2⟩,⟨_,SqL.of eb⟩,aA.bp (xs:=ks.map V.str) (ys:=zs.map V.str) (by rw [KE,KE];exact Z7) (Cw H a p r b z ks zs) ⟨⟨_,_,rfl⟩,s2,⟨[],er,by simp [aI],rfl⟩,eb,J.no,J.same.free G.no,U⟩ (λi σ H' _ I=>⟨g3 H',SqL.of I.words⟩) ?_ ?_⟩
 .intro i x y t σ H' hx hy I ht;obtain ⟨k',z',rfl⟩:=I.ex;rw [NJ] at hx hy;obtain ⟨k,hk,rfl⟩:=NV.mp hx;obtain ⟨u,Z,rfl⟩:=NV.mp hy;obtain ⟨vs,S,hp,ab⟩:=I.row;have hm:=hw u (ND _ (NM Z));ac_rfl;refine ⟨t,_,rfl,SqT.of zx,rfl,?_⟩;have ak:r≠t:=λx=>by rw [x] at S;rw [ht] at S;cases S
  have ag:b≠t:=λx=>by have:=I.words;rw [x,ht] at this;cases this
  have WO:upd H' t (.tup [.str k,.str u]) r=some (.lst (.str z::vs)):=by rw [zd ak];exact S
  erw [WO];have st:zj H (upd H' t (.tup [.str k,.str u])):=λc o e=>by
   have:=I.same c o e;rw [zd (zE this ht)];exact this
  have hi:i<ks.length:=(Nt.mp hk).1;have ta:(ks.take i).length=(zs.take i).length:=by rw [Pb,Pb,Z7]
  have tk:ks.take (i+1)=ks.take i++[k]:=by rw [Oe,hk];rfl
  have tz:zs.take (i+1)=zs.take i++[u]:=by rw [Oe,Z];rfl
  refine ⟨k,u,rfl,hm.1,hm.2,λH3 s3=>⟨λv O=>?_,λO=>?_⟩⟩
  .have aj:H3 r=some (.lst (.str z::vs)):=s3 _ _ WO;have ai:H3 b=some (.lst (zs.map V.str)):=s3 _ _ (by rw [zd ag];exact I.words);refine ⟨_,aj,by simp;exact aF (by lia),⟨⟨_,_,rfl⟩,λc o e=>?_,⟨vs++[v],by rw [zx];rfl,?_,by simp [ab]⟩,by rw [zd (NO U)];exact ai,I.ne⟩⟩
   .rw [zd (zE e I.ne.1)];exact s3 _ _ (st c o e)
   .rw [tk,tz,jU _ _ ta,hp];show (aI [k] [u]).map (vs++·)=_;simp [aI,O]
  .refine ⟨_,rfl,qn ?_ H3 (st.trans s3)⟩;have e1:aI ks zs=none:=by
    have k1:ks=ks.take (i+1)++ks.drop (i+1):=(List.take_append_drop _ _).symm;have z1:zs=zs.take (i+1)++zs.drop (i+1):=(List.take_append_drop _ _).symm;rw [k1,z1,jU _ _ (by rw [Pb,Pb,Z7]),tk,tz,jU _ _ ta,hp];simp [aI,O]
   rw [XA,e1];rfl
 .rintro σ H' I;obtain ⟨k',z',rfl⟩:=I.ex;obtain ⟨vs,S,hp,ab⟩:=I.row;erw [S];intro l H2 G;rw [KE,NW (Nq _),NW (by lia)] at hp;exact q _ (by rw [XA,hp];rfl) l H2 (I.same.trans G.same) G.at_
theorem lM:∀{l:List Nat}{w:List Nat},w∈aH c l->∀x∈w,x∈l
 | [],w,h,x,hx=>by
  rw [show aH c []=[[]] from rfl,NG] at h;rw [h] at hx;cases hx
 | y::l,w,h,x,hx=>by
  by_cases hc:y=c
  .rw [show aH c (y::l)=[]::aH c l from if_pos hc] at h;rcases Nw.mp h with e|h
   .rw [e] at hx;cases hx
   .exact ND _ (lM h x hx)
  .rw [iP c y l hc] at h;obtain ⟨a,r,e⟩:=gP c l;rw [e] at h;rcases Nw.mp h with z|h
   .rw [z] at hx;rcases Nw.mp hx with F|hx
    .rw [F];exact NX ..
    .exact ND _ (lM (l:=l) (w:=a) (by rw [e];exact NX ..) x hx)
   .exact ND _ (lM (l:=l) (by rw [e];exact ND _ h) x hx)
theorem Bc(c:Nat):∀l:List Nat,(aH c l).length<=l.length+1/\∀w∈aH c l,w.length<=l.length
 | []=>⟨by simp [aH],by simp [aH]⟩
 | y::l=>by
  obtain ⟨h1,h2⟩:=Bc c l;by_cases hc:y=c
  .rw [show aH c (y::l)=[]::aH c l from if_pos hc];refine ⟨by simp;lia,λw z=>?_⟩;rcases Nw.mp z with e|z
   .rw [e];simp
   .have:=h2 w z;simp;lia
  .rw [iP c y l hc];obtain ⟨a,r,e⟩:=gP c l;rw [e] at h1 h2 ⊢;refine ⟨by simpa [fA] using Qy h1,λw z=>?_⟩;rcases Nw.mp z with F|z
   .have:=h2 a (NX ..);rw [F];simp;lia
   .have:=h2 w (ND _ z);simp;lia
theorem AO:zt ["text","body"] Xk (zi jy):=fsc
theorem MY(F:Fun K "read_row" "read_row" jy f fd)(T:Txt w K mg A)(YA:GF P w K mg base true 3 "body_of" Xk y7)(Yj:GX P w K mg base true 4 "row_of" ["words"] (wb A)):zm P w K mg base (CXW P w) true 5 f fd Xk (xI A):=by
 refine F.bC AO (λvs H Q E h=>?_) (λZ2 Ar outer s H vs Q E hr h=>?_)
 .rcases h with ⟨v,rfl,_⟩|⟨z,rfl,_⟩<;>rfl
 .have U:=fB (cm:=true) (P:=P) (w:=w) (K:=K) (mg:=mg) (base:=base) (N:=["text","body"]) (qual:="read_row") (scope:=zi jy) (f:=f) (cd:=Z2) (A:=Ar) (outer:=outer) (s:=s) (H:=H) (E:=E);refine ⟨_,(W.h (ze (zy (i:=1) AO.nd rfl (NC rfl) (caD (zq YA hr rfl (clP (zb (za 0) zc)))))
   (ze (zQ (tD (zG (clO iD) (clE (za 1)) (clE aJ) (zC _)))
   (zg (iK rfl U T.S4 rfl T.Ti (zb zH zc)))
   zV)
   (zg (zw (cXD (pI U Yj hr rfl (clP (zb (E5 (eW fZ (za 1) eL (eR (jK lB zl))) zH) zc))))))))),?_⟩
  rcases h with ⟨v,rfl,tv,q⟩|⟨z,rfl,ha,Z,q,qn⟩
  case inl =>
   ac_rfl;refine .inr ⟨v,rfl,tv,?_⟩;ac_rfl;exact ⟨by decide,q⟩
  ac_rfl;refine .inl ⟨z,rfl,ha,Z,λH1 s1=>?_⟩;cases hb:eQ z with
  | none =>
   erw [o8];exact ⟨by decide,qn (by unfold bJ;rw [hb];rfl) H1 s1⟩
  | some b =>
   have eb:b=cQ z:=by
    unfold eQ at hb;split at hb
    .exact (Ob.inj hb).symm
    .cases hb
   obtain ⟨b1,O⟩:=AJ ha;rw [<- eb] at b1 O;have hs:bJ z=cG (Oz (OV b none (some (-1))) (c1 32)):=by unfold bJ;rw [hb];rfl
   have b3:(OV b none (some (-1))).length<=b.length:=PySem.Txt.slice_le _ _ _;erw [o8,tw,aM (N6 (N6 O Z) (by decide))];generalize hy:OV b none (some (-1))=y at *
   have ya:asc y=true:=by
    by_cases h0:0<(sg b).length
    .rw [xx h0] at hy;rw [<- hy];exact rp b1 λc hc=>(List.dropLast_sublist _).subset hc
    .rw [ae] at h0;have:sg y=[]:=RB (by rw [ae];lia);rw [bT,this];rfl
   have es:=vN y (c:=32) (by decide);obtain ⟨l1,l2⟩:=Bc 32 (sg y);rw [ae] at l1;refine ⟨by decide,aF (by lia),by rw [es,KE];exact aM (by lia),λp H2 G=>?_⟩;refine ⟨p,Oz y (c1 32),rfl,G.at_,?_,by rw [es,KE];lia,λu hu=>?_,λxs hx p3 H3 J h3=>q xs (by rw [hs];exact hx) p3 H3 ((s1.trans G.same).trans J) h3,λhx H3 J=>⟨_,rfl,qn (by rw [hs];exact hx) H3 ((s1.trans G.same).trans J)⟩⟩
   .rw [es];obtain ⟨a,r,e⟩:=gP 32 (sg y);rw [e];simp
   .rw [es] at hu;obtain ⟨v,S,rfl⟩:=PF.mp hu;refine ⟨rp ya (lM S),?_⟩;rw [nG];have:=l2 v S;rw [ae] at this;lia
end
def bM(i:Int):Prop:=0<=i/\i<10 ^ 18
inductive bE:List V->Prop
 | put (n g:Int) (b:Bool) (nm:Str) (pl:Int) (wd:Str):bM n->bM g->bM pl->cR nm=true->dO wd=true->bE [.str VU,.int n,.int g,.bl b,.str nm,.int pl,.str wd]
 | cut (n:Int) (nm:Str) (pl:Int):bM n->bM pl->cR nm=true->bE [.str VT,.int n,.str nm,.int pl]
 | hold (n:Int) (nm:Str):bM n->cR nm=true->bE [.str VV,.int n,.str nm]
 | free (n:Int) (nm:Str):bM n->cR nm=true->bE [.str "free",.int n,.str nm]
 | carry (n g:Int) (wd:Str):bM n->bM g->dO wd=true->bE [.str "carry",.int n,.int g,.str wd]
theorem Mg(h:∀c∈sg z,c∈sg y)(h1:1<=z.length)(h2:(z.length:Int)<=m):aW z y m=true:=by
 unfold aW;rw [decide_eq_true (show (1:Int)<=z.length by lia),decide_eq_true h2];rw [Bool.true_and,Bool.true_and,Ol];exact λc hc=>P0.mpr (h c hc)
theorem Ip(hl:∃a,l=a++[32]):cQ (cW (tx l))=tx l:=by
 obtain ⟨a,rfl⟩:=hl;have F:=gz (fj (tx (a++[32]))).1 (by have:=(fj (tx (a++[32]))).2;lia);have e:sg (cW (tx (a++[32])))=a++32::(sg (toString (ck (tx (a++[32]))):Str)++[59]):=by
  unfold cW;rw [dj,dj,cE];simp;decide +kernel
 refine tE e λh=>?_;rcases Og.mp h with h|h
 .have:=F.dig 32 h;lia
 .simp at h
theorem uQ(h:aW z y m=true)(G:32∉sg y):32∉sg z:=by
 unfold aW at h;rw [Oc] at h;intro F;exact G (P0.mp (Ol.mp h.2 32 F))
theorem jP(h:cR z=true):32∉sg z:=uQ h (f!"")
theorem tY(h:dO z=true):32∉sg z:=uQ h (f!"")
theorem eO(h:bM i):32∉sg (toString i:Str):=λz=>by
 have:=(gz h.1 h.2).dig 32 z;lia
theorem yV(h:aW z y m=true)(F:∀c∈sg y,c<128)(hm:m<=100):asc z=true/\z.length<=100:=by
 unfold aW at h;rw [Oc,Oc,decide_eq_true_eq,decide_eq_true_eq] at h;refine ⟨?_,by lia⟩;rw [bT,Ol];exact λc hc=>decide_eq_true (F c (P0.mp (Ol.mp h.2 c hc)))
theorem kC(h:cR z=true):c7 (.str z):=by
 obtain ⟨a,b⟩:=yV h (f!"") (by decide);exact .str z a b
theorem vf(h:dO z=true):c7 (.str z):=by
 obtain ⟨a,b⟩:=yV h (f!"") (by decide);exact .str z a b
theorem eM(h:bM i):c7 (.int i):=.int i h.1 h.2
theorem G6(h:bM i):cj (toString i:Str)=true:=by
 have F:=gz h.1 h.2;unfold cj;rw [Oc];constructor
 .refine Mg (λc hc=>?_) (by rw [<- ae];exact F.one) (by rw [<- ae];have:=F.most;lia);have hf:sg FIG=[48,49,50,51,52,53,54,55,56,57]:=by decide
  rw [hf];have:=F.dig c hc;simp;lia
 .rcases F.head with h|⟨c,r,e,hc⟩
  .rw [decide_eq_true h];rfl
  .rw [e];have : ¬ tx (List.take 1 (c::r))=("0":Str):=λx=>by
    have:=congrArg sg x;rw [cE] at this;have z:sg ("0":Str)=[48]:=by decide
    rw [z] at this;injection this with h1 _
    lia
   rw [decide_eq_false this];simp
theorem eA(h:bM i):aZ "number" (toString i:Str)=some (.int i):=by
 unfold aZ;rw [if_pos ⟨rfl,G6 h⟩,(gz h.1 h.2).back];rfl
theorem jL(h:cR z=true):aZ "name" z=some (.str z):=by
 unfold aZ;rw [if_neg (λx=>absurd x.1 (f!"")),if_neg (λx=>absurd x.1 (f!"")),if_pos ⟨rfl,h⟩]
theorem vC(h:dO z=true):aZ "word" z=some (.str z):=by
 unfold aZ;rw [if_neg (λx=>absurd x.1 (f!"")),if_neg (λx=>absurd x.1 (f!"")),if_neg (λx=>absurd x.1 (f!"")),if_pos ⟨rfl,h⟩]
theorem JO(b:Bool):aZ "end" (aE (.bl b))=some (.bl b):=by cases b<;>decide +kernel
theorem iX(hn:∀u∈v::xs,32∉sg (aE u)):bJ (aS (v::xs))=cG ((v::xs).map aE):=by
 have F:∀l:List V,zX l=(l.map λu=>sg (aE u)++[32]).flatten:=λl=>rfl;have ap:∀(u:V)(l:List V),zX (u::l)=sg (aE u)++32::zX l:=λu l=>by simp [zX]
 have key:∀(u:V)(l:List V),zX (u::l)=sg (aE u)++((l.map λt=>sg (aE t)).map (32::·)).flatten++[32]:=by
  intro u l
  induction l generalizing u with
  | nil=>simp [zX]
  | cons t l J =>
   rw [ap u (t::l),J t];simp
 have hb:cQ (aS (v::xs))=tx (zX (v::xs)):=Ip ⟨_,key v xs⟩;have hs:eQ (aS (v::xs))=some (tx (zX (v::xs))):=by
  unfold eQ;rw [hb];exact if_pos rfl
 unfold bJ;rw [hs];show cG (Oz (OV (tx (zX (v::xs))) none (some (-1))) (c1 32))=_;rw [xx (by rw [cE,key,NY];exact NT (by decide) (Nat.le_add_left _ _)),cE,key,List.dropLast_concat,vN _ (by decide),cE,mJ]
 .congr 1;rw [Om,Oi,Om,i5];congr 1
 .intro u z;rcases Nw.mp z with rfl|z
  .exact hn v (NX ..)
  .obtain ⟨t,G,rfl⟩:=PF.mp z;exact hn t (ND _ G)
theorem bE.read(h:bE xs):bJ (aS xs)=some xs:=by
 have G:∀b:Bool,32∉sg (aE (.bl b)):=λb=>by cases b<;>decide
 cases h with
 | put n g b nm pl F h1 h2 h3 h4 J =>
  rw [iX (by
   simp only [Nw,NH,or_false];rintro u (rfl|rfl|rfl|rfl|rfl|rfl|rfl)
   .decide +kernel
   .exact eO h1
   .exact eO h2
   .exact G b
   .exact jP h4
   .exact eO h3
   .exact tY J)]
  have z:dz VU=some (Wd:List Str):=by decide +kernel
  show cG [(VU:Str),(toString n:Str),(toString g:Str),aE (.bl b),nm,(toString pl:Str),F]=_;rw [eG,z];simp only [RK,Oy,PU,if_true,aI,eA h1,eA h2,JO,jL h4,eA h3,vC J,SL]
 | cut n nm pl h1 h2 h3 =>
  rw [iX (by
   simp only [Nw,NH,or_false];rintro u (rfl|rfl|rfl|rfl)
   .decide +kernel
   .exact eO h1
   .exact jP h3
   .exact eO h2)]
  have z:dz VT=some (["number","name","number"]:List Str):=by decide +kernel
  show cG [(VT:Str),(toString n:Str),nm,(toString pl:Str)]=_;rw [eG,z];simp only [RK,Oy,PU,if_true,aI,eA h1,jL h3,eA h2,SL]
 | hold n nm h1 h2 =>
  rw [iX (by
   simp only [Nw,NH,or_false];rintro u (rfl|rfl|rfl)
   .decide +kernel
   .exact eO h1
   .exact jP h2)]
  have z:dz VV=some (Wc:List Str):=by decide +kernel
  show cG [(VV:Str),(toString n:Str),nm]=_;rw [eG,z];simp only [RK,Oy,PU,if_true,aI,eA h1,jL h2,SL]
 | free n nm h1 h2 =>
  rw [iX (by
   simp only [Nw,NH,or_false];rintro u (rfl|rfl|rfl)
   .decide +kernel
   .exact eO h1
   .exact jP h2)]
  have z:dz "free"=some (Wc:List Str):=by decide +kernel
  show cG [("free":Str),(toString n:Str),nm]=_;rw [eG,z];simp only [RK,Oy,PU,if_true,aI,eA h1,jL h2,SL]
 | carry n g F h1 h2 h3 =>
  rw [iX (by
   simp only [Nw,NH,or_false];rintro u (rfl|rfl|rfl|rfl)
   .decide +kernel
   .exact eO h1
   .exact eO h2
   .exact tY h3)]
  have z:dz "carry"=some (["number","number","word"]:List Str):=by decide +kernel
  show cG [("carry":Str),(toString n:Str),(toString g:Str),F]=_;rw [eG,z];simp only [RK,Oy,PU,if_true,aI,eA h1,eA h2,vC h3,SL]
theorem bE.parts(h:bE xs):xs.length<=10/\xs.all ah=true/\(∀v∈xs,∀b,v≠.byt b)/\∀v∈xs,c7 v:=by
 have kp:∀z:Str,asc z=true->z.length<=100->c7 (.str z):=λz a b=>.str z a b;cases h with
 | put n g b nm pl F h1 h2 h3 h4 G =>
  refine ⟨by simp,rfl,by simp,?_⟩;simp only [Nw,NH,or_false];rintro u (rfl|rfl|rfl|rfl|rfl|rfl|rfl)
  .exact kp _ (by rw [bT];decide +kernel) (by decide)
  .exact eM h1
  .exact eM h2
  .exact .bl b
  .exact kC h4
  .exact eM h3
  .exact vf G
 | cut n nm pl h1 h2 h3 =>
  refine ⟨by simp,rfl,by simp,?_⟩;simp only [Nw,NH,or_false];rintro u (rfl|rfl|rfl|rfl)
  .exact kp _ (by rw [bT];decide +kernel) (by decide)
  .exact eM h1
  .exact kC h3
  .exact eM h2
 | hold n nm h1 h2 =>
  refine ⟨by simp,rfl,by simp,?_⟩;simp only [Nw,NH,or_false];rintro u (rfl|rfl|rfl)
  .exact kp _ (by rw [bT];decide +kernel) (by decide)
  .exact eM h1
  .exact kC h2
 | free n nm h1 h2 =>
  refine ⟨by simp,rfl,by simp,?_⟩;simp only [Nw,NH,or_false];rintro u (rfl|rfl|rfl)
  .exact kp _ (by rw [bT];decide +kernel) (by decide)
  .exact eM h1
  .exact kC h2
 | carry n g F h1 h2 h3 =>
  refine ⟨by simp,rfl,by simp,?_⟩;simp only [Nw,NH,or_false];rintro u (rfl|rfl|rfl|rfl)
  .exact kp _ (by rw [bT];decide +kernel) (by decide)
  .exact eM h1
  .exact eM h2
  .exact vf h3
abbrev Tx:=Option Str
def tv:Tx->V|none=>.non|some z=>.str z
def lv:Option Int->V|none=>.non|some i=>.int i
structure DM where
 rows:List (List Tx)
 sides:List Tx
 cnt:Int
 left:Option Int
 st:Bool
def dn(left:Option Int)(z:Int):Int:=match left with|none=>z|some l=>if l<z then l else z
def DM.spend(d:DM)(z:Int):DM:={ d with cnt:=d.cnt+dn d.left z,left:=d.left.map (· - dn d.left z),st:=decide (dn d.left z<z) }
inductive Res where|val (v:V)|full|stop
def gn(t:Str)(n:Int):Tx:=some (Txt.slice t none (some n))
def DM.write(m:Int)(d:DM)(k:Nat)(t:Str):Res×DM :=
 if d.st=true then (.stop,d) else if ((d.rows.getD k []).length:Int)=m then (.full,d) else
 if dn d.left t.length=0/\(d.spend t.length).st=true then (.stop,d.spend t.length) else
 ((if (d.spend t.length).st=true then .stop else .val (.int (d.rows.getD k []).length)),{ d.spend t.length with rows:=d.rows.set k (d.rows.getD k []++[gn t (dn d.left t.length)]) })
def DM.empty(d:DM)(k:Nat):Res×DM :=
 if d.st=true then (.stop,d) else
 if (d.spend (d.rows.getD k []).length).st=true then (.stop,{ d.spend (d.rows.getD k []).length with rows:=d.rows.set k (N5 (dn d.left (d.rows.getD k []).length).toNat none++(d.rows.getD k []).drop (dn d.left (d.rows.getD k []).length).toNat) }) else
 (.val .non,{ d.spend (d.rows.getD k []).length with rows:=d.rows.set k [] })
def DM.put(d:DM)(k:Nat)(t:Str):Res×DM :=
 if d.st=true then (.stop,d) else if dn d.left t.length=0/\(d.spend t.length).st=true then (.stop,d.spend t.length) else
 ((if (d.spend t.length).st=true then .stop else .val .non),{ d.spend t.length with sides:=d.sides.set k (gn t (dn d.left t.length)) })
structure Rows(H:Hp)(wl:Addr)(cells:List Addr)(rows:List (List Tx)):Prop where
 w:H wl=some (.lst (cells.map V.ref))
 len:cells.length=rows.length
 at_:∀i c,cells[i]?=some c->H c=some (.lst ((rows.getD i []).map tv))
def zI(m:Int)(wl sl:Addr)(d:DM):List (Str×V):=[("width",.int m),("written",.ref wl),("at_sides",.ref sl),("counted",.int d.cnt),("left",lv d.left),("has_stopped",.bl d.st)]
structure zD(A:zh)(H:Hp)(p wl sl:Addr)(cells:List Addr)(m:Int)(d:DM):Prop where
 ob:∃dx,H p=some (.ins A.tj dx (zI m wl sl d))
 rows:Rows H wl cells d.rows
 sides:H sl=some (.lst (d.sides.map tv))
 nd:(p::wl::sl::cells).Nodup
def zu(F:List Addr)(H H':Hp):Prop:=∀b o,H b=some o->b∉F->H' b=some o
theorem zu.refl:zu F H H:=λ_ _ h _=>h
theorem zu.trans(a:zu F H H1)(b:zu F H1 H2):zu F H H2:=λc o h hc=>b c o (a c o h hc) hc
theorem zu.mono(a:zu F H H')(s:∀x∈F,x∈G):zu G H H':=λc o h hc=>a c o h λz=>hc (s c z)
theorem zu.same(a:zj H H'):zu F H H':=λc o h _=>a c o h
theorem zu.upd{o:HO}(hx:x∈F):zu F H (L2.upd H x o):=λc u h hc=>by
 have G:c≠x:=λz=>hc (by rw [z];exact hx);rw [zd G];exact h
theorem Rows.keep{rows:List (List Tx)}(r:Rows H wl cells rows)(k:∀b o,H b=some o->b=wl\/b∈cells->H' b=some o):Rows H' wl cells rows :=
 ⟨k _ _ r.w (.inl rfl),r.len,λi c hc=>k _ _ (r.at_ i c hc) (.inr (NM hc))⟩
theorem zD.keep{p wl sl:Addr}(D:zD A H p wl sl cells m d)(k:zu F H H')(z:∀x∈p::wl::sl::cells,x∉F):zD A H' p wl sl cells m d:=by
 obtain ⟨dx,h⟩:=D.ob;refine ⟨⟨dx,k _ _ h (z _ (by simp))⟩,D.rows.keep λb o e hb=>k b o e (z b ?_),k _ _ D.sides (z _ (by simp)),D.nd⟩;rcases hb with rfl|hb
 .simp
 .simp [hb]
theorem uw{l:List Addr}(nd:l.Nodup){i j:Nat}(h1:l[i]?=some a)(h2:l[j]?=some a):i=j:=by
 obtain ⟨hi,z⟩:=Nt.mp h1;obtain ⟨G,F⟩:=Nt.mp h2;exact (List.getElem_inj nd).mp (z.trans F.symm)
theorem Rows.set{rows:List (List Tx)}{k:Nat}{r:List Tx}(R:Rows H wl cells rows)(nd:(wl::cells).Nodup)(hc:cells[k]?=some c):Rows (upd H c (.lst (r.map tv))) wl cells (rows.set k r):=by
 have hn:=OO.mp nd;have J:k<rows.length:=by rw [<- R.len];exact (Nt.mp hc).1
 have F:wl≠c:=λz=>hn.1 (by rw [z];exact NM hc);refine ⟨by rw [zd F];exact R.w,by rw [Pe];exact R.len,λi b hb=>?_⟩;by_cases hi:i=k
 .subst hi;rw [hc] at hb;cases hb;rw [zx];simp [Nr,J]
 .have G:b≠c:=λz=>by
   subst z;exact hi (uw hn.2 hb hc)
  rw [zd G,R.at_ i b hb];simp [Nr,QU (NO hi)]
abbrev oP:Stmt:=aC (top 55) 1
abbrev qm:Stmt:=aC (top 55) 2
abbrev oK:Stmt:=aC (top 55) 3
abbrev qR:Stmt:=aC (top 55) 4
abbrev qo:Stmt:=aC (top 55) 6
abbrev kK:Stmt:=aC (top 55) 12
abbrev rm:Stmt:=aC (top 55) 13
abbrev kD:Stmt:=aC (top 55) 14
section
variable {P:NB}{w:NQ}{K:Frag}{mg:Str->Option Value}{base:Heap}{A:zh}
section
variable {m:Int}{wl sl:Addr}{d:DM}
theorem mz:(zI m wl sl d).lookup ("width":Str)=some (.int m):=by kernel_rfl
theorem g9:(zI m wl sl d).lookup ("written":Str)=some (.ref wl):=by kernel_rfl
theorem Ad:(zI m wl sl d).lookup ("at_sides":Str)=some (.ref sl):=by kernel_rfl
theorem kR:(zI m wl sl d).lookup ("counted":Str)=some (.int d.cnt):=by kernel_rfl
theorem xw:(zI m wl sl d).lookup ("left":Str)=some (lv d.left):=by kernel_rfl
theorem vW:(zI m wl sl d).lookup ("has_stopped":Str)=some (.bl d.st):=by kernel_rfl
theorem kL:(zI m wl sl d).lookup (VR:Str)=none:=by kernel_rfl
theorem jQ:(zI m wl sl d).lookup ("places":Str)=none:=by kernel_rfl
theorem yk:(zI m wl sl d).lookup (VD:Str)=none:=by kernel_rfl
theorem JS:(zI m wl sl d).lookup ("told":Str)=none:=by kernel_rfl
theorem uP:(zI m wl sl d).lookup ("signs":Str)=none:=by kernel_rfl
theorem x5:(zI m wl sl d).lookup ("write":Str)=none:=by kernel_rfl
theorem Jk:(zI m wl sl d).lookup ("put_side":Str)=none:=by kernel_rfl
theorem vO:(zI m wl sl d).lookup ("empty":Str)=none:=by kernel_rfl
theorem Af:(zI m wl sl d).lookup ("stop":Str)=none:=by kernel_rfl
theorem Bq:(zI m wl sl d).lookup (VO:Str)=none:=by kernel_rfl
theorem fK:(zI m wl sl d).lookup (VZ:Str)=none:=by kernel_rfl
theorem yD:(zI m wl sl d).lookup ("spend":Str)=none:=by kernel_rfl
theorem sq:(zI m wl sl d).lookup (VJ:Str)=none:=by kernel_rfl
theorem KZ:zR "left" (lv x) (zI m wl sl d)=zI m wl sl { d with left:=x }:=by kernel_rfl
theorem my:zR "left" (.int x) (zI m wl sl d)=zI m wl sl { d with left:=some x }:=KZ (x:=some x)
theorem oG:zR "counted" (.int x) (zI m wl sl d)=zI m wl sl { d with cnt:=x }:=by kernel_rfl
theorem wJ:zR "has_stopped" (.bl x) (zI m wl sl d)=zI m wl sl { d with st:=x }:=by kernel_rfl
theorem iu:(zI m wl sl d).length<1000:=by show 6<1000;decide
end
def dA(A:zh)(r:Int->DM->V):Sp:=λvs H Q _=>∃(p wl sl:Addr)(cells:List Addr)(m:Int)(d:DM),vs=[.ref p]/\zD A H p wl sl cells m d/\Q (r m d) H
def ml(A:zh):Sp:=λvs H Q _=>∃(p wl sl:Addr)(cells:List Addr)(m:Int)(d:DM)(k:Nat),vs=[.ref p,.int k]/\zD A H p wl sl cells m d/\k<d.rows.length/\Q (.int (d.rows.getD k []).length) H
def lj(d:DM)(k j:Nat):V:=tv ((d.rows.getD k []).getD j none)
def Ao(A:zh):Sp:=λvs H Q _=>∃(p wl sl:Addr)(cells:List Addr)(m:Int)(d:DM)(k j:Nat),vs=[.ref p,.int k,.int j]/\zD A H p wl sl cells m d/\k<d.rows.length/\Q (lj d k j) H
def jf(A:zh):Sp:=λvs H Q E=>∃(p wl sl:Addr)(cells:List Addr)(m:Int)(d:DM),vs=[.ref p]/\zD A H p wl sl cells m d/\(d.st=true->E (.ref A.SW) none H)/\(d.st=false->Q .non H)
def ny(A:zh):Sp:=λvs H Q _=>∃(p wl sl:Addr)(cells:List Addr)(m:Int)(d:DM)(n:Int),vs=[.ref p,.int n]/\zD A H p wl sl cells m d/\∀H',zD A H' p wl sl cells m (d.spend n)->zu [p] H H'->Q (.int (dn d.left n)) H'
def qG(A:zh):Sp:=λvs H Q E=>∃(p wl sl:Addr)(cells:List Addr)(m:Int)(d:DM)(t:Str),vs=[.ref p,.str t]/\zD A H p wl sl cells m d/\t.length<=1000 /\
 ∀H',zD A H' p wl sl cells m (d.spend t.length)->zu [p] H H'->((dn d.left t.length=0/\(d.spend t.length).st=true->E (.ref A.SW) none H')/\(¬ (dn d.left t.length=0/\(d.spend t.length).st=true)->Q (.str (Txt.slice t none (some (dn d.left t.length)))) H'))
theorem Rows.cell{rows:List (List Tx)}(R:Rows H wl cells rows){k:Nat}(F:k<rows.length):∃c,cells[k]?=some c/\atI (cells.map V.ref) (k:Int)=some (.ref c)/\H c=some (.lst ((rows.getD k []).map tv)):=by
 have z:k<cells.length:=by rw [R.len];exact F
 refine ⟨cells[k],p8 z,cu (by rw [NJ,p8 z];rfl),R.at_ k _ (p8 z)⟩
theorem zD.obj{p wl sl dx:Addr}(D:zD A H p wl sl cells m d)(h1:d'.rows=d.rows)(h2:d'.sides=d.sides):zD A (upd H p (.ins A.tj dx (zI m wl sl d'))) p wl sl cells m d':=by
 have hn:=OO.mp D.nd;have ne:∀b∈wl::sl::cells,b≠p:=λb hb z=>hn.1 (by rw [<- z];exact hb);refine ⟨⟨dx,zx⟩,?_,?_,D.nd⟩
 .rw [h1];refine D.rows.keep λb o e hb=>?_;rw [zd (ne b (by rcases hb with rfl|hb<;>simp_all))];exact e
 .rw [h2,zd (ne sl (by simp))];exact D.sides
theorem Bm:zt Zn Zn (zi oP):=fsc
theorem Dt(F:Fun K VR "Disk.stretches" oP f fd)(T:Txt w K mg A):zm P w K mg base CX0 cm 1 f fd Zn (dA A λ_ d=>.int d.rows.length):=by
 refine F.o Bm λG z outer s H vs Q E hr h=>?_;obtain ⟨p,wl,sl,cells,m,d,rfl,D,q⟩:=h;obtain ⟨dx,h1⟩:=D.ob;refine ⟨_,(W.h (zg (zw (zL bj rfl T.wh N8 (zb (fD (aa T.pw T.q0 (clE (za 0)))) zc))))),?_⟩;erw [h1,D.rows.w,g9,KE,D.rows.len];exact q
theorem GR:zt Zn Zn (zi qm):=fsc
theorem GO(F:Fun K "places" "Disk.places" qm f fd)(T:Txt w K mg A):zm P w K mg base CX0 cm 1 f fd Zn (dA A λm _=>.int m):=by
 refine F.o GR λG z outer s H vs Q E hr h=>?_;obtain ⟨p,wl,sl,cells,m,d,rfl,D,q⟩:=h;obtain ⟨dx,h1⟩:=D.ob;refine ⟨_,(W.h (zg (zw (fD (aa T.pw T.Bn (clE (za 0))))))),?_⟩;erw [h1,mz];exact q
theorem BR:zt Zn Zn (zi qo):=fsc
theorem Ft(F:Fun K "signs" "Disk.signs" qo f fd)(T:Txt w K mg A):zm P w K mg base CX0 cm 1 f fd Zn (dA A λ_ d=>.int d.cnt):=by
 refine F.o BR λG z outer s H vs Q E hr h=>?_;obtain ⟨p,wl,sl,cells,m,d,rfl,D,q⟩:=h;obtain ⟨dx,h1⟩:=D.ob;refine ⟨_,(W.h (zg (zw (fD (aa T.pw T.vl (clE (za 0))))))),?_⟩;erw [h1,kR];exact q
theorem Li:zt Xw Xw (zi oK):=fsc
theorem EE(F:Fun K VD "Disk.next_place" oK f fd)(T:Txt w K mg A):zm P w K mg base CX0 cm 1 f fd Xw (ml A):=by
 refine F.o Li λO J outer s H vs Q E hr h=>?_;obtain ⟨p,wl,sl,cells,m,d,k,rfl,D,z,q⟩:=h;obtain ⟨dx,h1⟩:=D.ob;obtain ⟨c,hc,ha,G⟩:=D.rows.cell z;refine ⟨_,(W.h (zg (zw (zL bj rfl T.wh N8 (zb (zF zJ (fD (aa T.pw T.q0 (clE (za 0)))) (za 1) (λ_ _=>rfl)) zc))))),?_⟩;erw [h1,D.rows.w,g9,ha,G,KE];exact q
theorem yc:zt ["self","stretch","place","texts"] Wh (zi qR):=fsc
theorem Km(F:Fun K "told" "Disk.told" qR f fd)(T:Txt w K mg A):zm P w K mg base CX0 cm 1 f fd Wh (Ao A):=by
 refine F.o yc λU S outer s H vs Q E hr h=>?_;obtain ⟨p,wl,sl,cells,m,d,k,j,rfl,D,J,q⟩:=h;obtain ⟨dx,h1⟩:=D.ob;obtain ⟨c,hc,ha,O⟩:=D.rows.cell J;refine ⟨_,(W.h (ze (zy (i:=3) yc.nd rfl (NC rfl) (zF zJ (fD (aa T.pw T.q0 (clE (za 0)))) (za 1) (λ_ _=>rfl)))
   (zg (zw (jT (tD (zG (clO (oI0 gZ)) (clE (za 2)) (clE (zL bj rfl T.wh N8 (zb (za 3) zc))) (zC _))) (zF zJ (za 3) (za 2) (λ_ _=>rfl)) aJ))))),?_⟩
 erw [h1,D.rows.w,g9,ha,O,KE];refine aq (λh=>?_) (λh=>?_)
 .have G:j<(d.rows.getD k []).length:=by have:=of_decide_eq_true h;lia
  refine ⟨_,cu (by rw [NJ,p8 G];rfl),?_⟩;unfold lj at q;rw [Nr,p8 G] at q;exact q
 .have G : ¬ j<(d.rows.getD k []).length:=λz=>h (decide_eq_true (by lia));unfold lj at q;rw [Nr,Pf (by lia)] at q;exact q
theorem Iz:zt Zn Zn (zi kK):=fsc
theorem Gr(F:Fun K VZ VP kK f fd)(T:Txt w K mg A):zm P w K mg base (CXW P w) true 1 f fd Zn (jf A):=by
 refine F.oW Iz λJ G outer s H vs Q E hr h=>?_;obtain ⟨p,wl,sl,cells,m,d,rfl,D,S,z⟩:=h;obtain ⟨dx,h1⟩:=D.ob;have O:=fB (cm:=true) (P:=P) (w:=w) (K:=K) (mg:=mg) (base:=base) (N:=Zn) (qual:=VP) (scope:=zi kK) (f:=f) (cd:=J) (A:=G) (outer:=outer) (s:=s) (H:=H) (E:=E);refine ⟨_,(W.h (zg (zQ (bG (fD (aa T.pw T.vb (clE (za 0)))))
   (zg (iK rfl O T.Qe rfl T.Tg (zb zH zc)))
   zV))),?_⟩
 erw [h1,vW];refine aq (λh=>⟨by decide,S h⟩) (λh=>z (Qm.mpr h))
theorem o7:zt ["self","many","done"] WH (zi rm):=fsc
theorem Ng(F:Fun K "spend" "Disk.spend" rm f fd)(T:Txt w K mg A):zm P w K mg base CX0 true 1 f fd WH (ny A):=by
 refine F.o o7 λJ G outer s H vs Q E hr h=>?_;obtain ⟨p,wl,sl,cells,m,d,n,rfl,D,q⟩:=h;obtain ⟨dx,h1⟩:=D.ob;refine ⟨_,(W.h (ze (zy (i:=2) o7.nd rfl (NC rfl) (za 1))
   (ze (zQ (tD (zG (clO iR) (clE (fD (aa T.pw T.z3 (clE (za 0))))) (clE aJ) (zC _)))
   (ze (zy (i:=2) o7.nd rfl (NC rfl) (zL (rK rfl) rfl T.Vk boot_min (zb (za 1) (zb (fD (aa T.pw T.z3 (clE (za 0)))) zc))))
   (zg (wD T.pw T.z3 (za 0) (za 2) Em)))
   zV)
   (ze (wD T.pw T.vl (za 0) (za 2) Lv)
   (ze (sfD (bz T.pw T.vb (clE (za 0)) (clE (cy (oI0 gZ) (za 2) (za 1) (zC _)))))
   (zg (zw (za 2)))))))),?_⟩
 cases hl:d.left with
 | none =>
  erw [h1,xw,hl,lv,zx,kR,oG,wJ,my,iu,eI];have e:d.spend n={ d with cnt:=d.cnt+n,left:=none,st:=decide (n<n) }:=by unfold DM.spend;rw [hl];rfl
  have z:dn d.left n=n:=by rw [hl];rfl
  rw [e,z] at q;exact q _ (D.obj rfl rfl) (zu.upd (by simp))
 | some l =>
  erw [h1,xw,hl,lv,zx,kR,oG,wJ,my,iu,eI];have z:dn d.left n=if l<n then l else n:=by rw [hl];rfl
  have e:d.spend n={ d with cnt:=d.cnt+(if l<n then l else n),left:=some (l-if l<n then l else n),st:=decide ((if l<n then l else n)<n) }:=by unfold DM.spend;rw [z,hl];rfl
  rw [e,z] at q;exact q _ (D.obj rfl rfl) (zu.upd (by simp))
theorem vh:zt ["self","text","done"] V6 (zi kD):=fsc
theorem Dm(F:Fun K VJ "Disk.first_signs" kD f fd)(T:Txt w K mg A)(U:GM P w K mg base true 1 A.tj "spend" WH (ny A))(Z8:GMX P w K mg base true 1 A.tj VZ Zn (jf A)):zm P w K mg base (CXW P w) true 2 f fd V6 (qG A):=by
 refine F.oW vh λZ2 Z outer s H vs Q E hr h=>?_;obtain ⟨p,wl,sl,cells,m,d,t,rfl,D,ht,q⟩:=h;obtain ⟨dx,h1⟩:=D.ob;have hu:_<cLine:=N1 (zO hr);have Th:=fB (cm:=true) (P:=P) (w:=w) (K:=K) (mg:=mg) (base:=base) (N:=["self","text","done"]) (qual:="Disk.first_signs") (scope:=zi kD) (f:=f) (cd:=Z2) (A:=Z) (outer:=outer) (s:=s) (H:=H) (E:=E);refine ⟨_,(W.h (ze (zy (i:=2) vh.nd rfl (NC rfl) (mD (bS (clE (za 0)) T.pw U hr (clP (zb (zL bj rfl T.wh N8 (zb (za 1) zc)) zc)))))
   (ze (zQ (tD (zG (clO (oE (aV hu))) (clE (za 2)) (clE zl) (zC _)))
   (zg (ax (fO (fT (clE (za 0)) T.pw Th Z8 hr))))
   zV)
   (zg (zw (eW fZ (za 1) eL (eR (za 2)))))))),?_⟩
 have G:t.length<=sizeLine:=N6 ht (by decide);erw [h1,yD,G];refine ⟨p,wl,sl,cells,m,d,_,rfl,D,λH1 J k1=>?_⟩;obtain ⟨q1,O⟩:=q H1 J k1;obtain ⟨S,g1⟩:=J.ob;erw [g1,fK,G];refine aq (λh=>?_) (λh=>?_)
 .have h0:=of_decide_eq_true h;refine ⟨p,wl,sl,cells,m,_,rfl,J,λhs=>?_,λhs=>?_⟩
  .exact ⟨_,rfl,q1 ⟨h0,hs⟩⟩
  .erw [G];exact O λz=>by rw [z.2] at hs;cases hs
 .exact O λz=>h (decide_eq_true z.1)
end
abbrev lN:Stmt:=aC (top 55) 8
abbrev jn:Stmt:=aC (top 55) 7
abbrev k7:Stmt:=aC (top 55) 9
section
variable {P:NB}{w:NQ}{K:Frag}{mg:Str->Option Value}{base:Heap}{A:zh}
theorem zD.Vh{p wl sl c:Addr}{k:Nat}{r:List Tx}(D:zD A H p wl sl cells m d)(hc:cells[k]?=some c):zD A (upd H c (.lst (r.map tv))) p wl sl cells m { d with rows:=d.rows.set k r }:=by
 have hm:=NM hc;have nd:=D.nd;simp only [OO,Nw,not_or] at nd;obtain ⟨⟨n1,Z,U⟩,⟨W,O⟩,G,S⟩:=nd;obtain ⟨dx,h⟩:=D.ob;have F:p≠c:=λz=>U (by rw [z];exact hm);have J:sl≠c:=λz=>G (by rw [z];exact hm);exact ⟨⟨dx,by rw [zd F];exact h⟩,D.rows.set (OO.mpr ⟨O,S⟩) hc,by rw [zd J];exact D.sides,D.nd⟩
theorem zD.Vo{p wl sl:Addr}{r:List Tx}(D:zD A H p wl sl cells m d):zD A (upd H sl (.lst (r.map tv))) p wl sl cells m { d with sides:=r }:=by
 have nd:=D.nd;simp only [OO,Nw,not_or] at nd;obtain ⟨⟨O,G,W⟩,⟨F,S⟩,J,U⟩:=nd;obtain ⟨dx,h⟩:=D.ob;refine ⟨⟨dx,by rw [zd G];exact h⟩,D.rows.keep λb o e hb=>?_,zx,D.nd⟩;have:b≠sl:=by
  rcases hb with rfl|hb
  .exact F
  .exact λz=>J (by rw [<- z];exact hb)
 rw [zd this];exact e
def Out(A:zh)(r:Res)(Q:VK)(E:XK)(H:Hp):Prop:=match r with | .val v=>Q v H | .full=>E (.ref A.Full) none H | .stop=>E (.ref A.SW) none H
def small(d:DM):Prop:=∀k,(d.rows.getD k []).length<=1000
def rf(A:zh):Sp:=λvs H Q E=>∃(p wl sl:Addr)(cells:List Addr)(m:Int)(d:DM)(k:Nat)(t:Str),vs=[.ref p,.int k,.str t]/\zD A H p wl sl cells m d/\k<d.rows.length/\t.length<=1000/\small d /\
 ∀H',zD A H' p wl sl cells m (d.write m k t).2->zu (p::wl::sl::cells) H H'->Out A (d.write m k t).1 Q E H'
def sH(A:zh):Sp:=λvs H Q E=>∃(p wl sl:Addr)(cells:List Addr)(m:Int)(d:DM)(k:Nat)(t:Str),vs=[.ref p,.int k,.str t]/\zD A H p wl sl cells m d/\k<d.sides.length/\d.sides.length=2/\t.length<=1000 /\
 ∀H',zD A H' p wl sl cells m (d.put k t).2->zu (p::wl::sl::cells) H H'->Out A (d.put k t).1 Q E H'
def qV(A:zh):Sp:=λvs H Q E=>∃(p wl sl:Addr)(cells:List Addr)(m:Int)(d:DM)(k:Nat),vs=[.ref p,.int k]/\zD A H p wl sl cells m d/\k<d.rows.length/\small d/\(∀l,d.left=some l->0<=l) /\
 ∀H',zD A H' p wl sl cells m (d.empty k).2->zu (p::wl::sl::cells) H H'->Out A (d.empty k).1 Q E H'
theorem xJ{d:DM}:(d.spend n).rows=d.rows:=rfl
theorem Ed{d:DM}:(d.spend n).sides=d.sides:=rfl
theorem Ff{r:List Tx}{t:Str}:r.map tv++[V.str (Txt.slice t none (some n))]=(r++[gn t n]).map tv:=by rw [Oa];rfl
theorem rj:zt V4 We (zi jn):=fsc
theorem El(F:Fun K "write" "Disk.write" jn f fd)(T:Txt w K mg A)(Z0:GMX P w K mg base true 2 A.tj VJ V6 (qG A))(Z8:GMX P w K mg base true 1 A.tj VZ Zn (jf A)):zm P w K mg base (CXW P w) true 3 f fd We (rf A):=by
 refine F.oW rj λZ2 Ar outer s H vs Q E hr h=>?_;obtain ⟨p,wl,sl,cells,m,d,k,t,rfl,D,hk,ht,ab,q⟩:=h;obtain ⟨dx,h1⟩:=D.ob;have hu:_<cLine:=N1 (zO hr);obtain ⟨c,hc,ha,hH⟩:=D.rows.cell hk;have O:=fB (cm:=true) (P:=P) (w:=w) (K:=K) (mg:=mg) (base:=base) (N:=V4) (qual:="Disk.write") (scope:=zi jn) (f:=f) (cd:=Z2) (A:=Ar) (outer:=outer) (s:=s) (H:=H) (E:=E);refine ⟨_,(W.h (ze (ax (fO (fT (clE (za 0)) T.pw O Z8 hr)))
   (ze (zy (i:=3) rj.nd rfl (NC rfl) (zF zJ (fD (aa T.pw T.q0 (clE (za 0)))) (za 1) (λ_ _=>rfl)))
   (ze (zy (i:=4) rj.nd rfl (NC rfl) (zL bj rfl T.wh N8 (zb (za 3) zc)))
   (ze (zQ (tD (zG (clO (oE (aV hu))) (clE (za 4)) (clE (fD (aa T.pw T.Bn (clE (za 0))))) (zC _)))
   (zg (iK rfl O T.az rfl T.av (zb zH zc)))
   zV)
   (ze (ax (hU (za 3) (mXD (gO (clE (za 0)) T.pw O Z0 hr (clP (zb (za 2) zc))))))
   (ze (ax (fO (fT (clE (za 0)) T.pw O Z8 hr)))
   (zg (zw (za 4)))))))))),?_⟩
 erw [h1,fK];unfold DM.write at q;refine ⟨p,wl,sl,cells,m,d,rfl,D,λhs=>?_,λhs=>?_⟩
 .rw [if_pos hs] at q;exact ⟨_,rfl,q H D zu.refl⟩
 rw [if_neg (by rw [hs];exact Nx)] at q;erw [h1,D.rows.w,g9,mz,ha,hH,KE];refine aq (λh=>?_) (λh=>?_)
 .rw [if_pos (of_decide_eq_true h)] at q;exact ⟨by decide,q H D zu.refl⟩
 rw [if_neg (λz=>h (decide_eq_true z))] at q;erw [h1,hH,sq];refine ⟨p,wl,sl,cells,m,d,t,rfl,D,ht,λH1 S k1=>⟨λZ=>?_,λZ=>?_⟩⟩
 .rw [if_pos Z] at q;exact ⟨_,rfl,q H1 S (k1.mono (by simp))⟩
 rw [if_neg Z] at q;obtain ⟨ag,g1⟩:=S.ob;have gc:=S.rows.at_ k c hc;rw [xJ] at gc;have U:=S.Vh (r:=d.rows.getD k []++[gn t (dn d.left t.length)]) hc;obtain ⟨Xt,g2⟩:=U.ob;erw [gc,Ff,g2,fK];refine ⟨by rw [KE];exact oO (ab k),p,wl,sl,cells,m,_,rfl,U,λYv=>⟨_,rfl,?_⟩,λYv=>?_⟩
 .have G:(d.spend t.length).st=true:=Yv;have J:=q _ U ((k1.mono (by simp)).trans (zu.upd (by simp [NM hc])));rw [if_pos G] at J;exact J
 .have G:(d.spend t.length).st=false:=Yv;ac_rfl;have J:=q _ U ((k1.mono (by simp)).trans (zu.upd (by simp [NM hc])));rw [if_neg (by rw [G];exact Nx)] at J;exact J
theorem JN:zt Wv Wv (zi lN):=fsc
theorem EF(F:Fun K "put_side" "Disk.put_side" lN f fd)(T:Txt w K mg A)(Z0:GMX P w K mg base true 2 A.tj VJ V6 (qG A))(Z8:GMX P w K mg base true 1 A.tj VZ Zn (jf A)):zm P w K mg base (CXW P w) true 3 f fd Wv (sH A):=by
 refine F.oW JN λZ2 Ar outer s H vs Q E hr h=>?_;obtain ⟨p,wl,sl,cells,m,d,k,t,rfl,D,hk,X9,ht,q⟩:=h;obtain ⟨dx,h1⟩:=D.ob;have hu:_<cLine:=N1 (zO hr);have S:=fB (cm:=true) (P:=P) (w:=w) (K:=K) (mg:=mg) (base:=base) (N:=Wv) (qual:="Disk.put_side") (scope:=zi lN) (f:=f) (cd:=Z2) (A:=Ar) (outer:=outer) (s:=s) (H:=H) (E:=E);refine ⟨_,(W.h (ze (ax (fO (fT (clE (za 0)) T.pw S Z8 hr)))
   (ze (cJ (mXD (gO (clE (za 0)) T.pw S Z0 hr (clP (zb (za 2) zc)))) (eJ (fD (aa T.pw T.xy (clE (za 0)))) (za 1) hG))
   (zg (ax (fO (fT (clE (za 0)) T.pw S Z8 hr))))))),?_⟩
 erw [h1,fK];unfold DM.put at q;refine ⟨p,wl,sl,cells,m,d,rfl,D,λhs=>?_,λhs=>?_⟩
 .rw [if_pos hs] at q;exact ⟨_,rfl,q H D zu.refl⟩
 rw [if_neg (by rw [hs];exact Nx)] at q;erw [h1,sq];refine ⟨p,wl,sl,cells,m,d,t,rfl,D,ht,λH1 J k1=>⟨λU=>?_,λU=>?_⟩⟩
 .rw [if_pos U] at q;exact ⟨_,rfl,q H1 J (k1.mono (by simp))⟩
 rw [if_neg U] at q;obtain ⟨ab,g1⟩:=J.ob;have gs:=J.sides;rw [Ed] at gs;have O:=J.Vo (r:=d.sides.set k (gn t (dn d.left t.length)));obtain ⟨Xt,g2⟩:=O.ob;have ix:ixN (d.sides.map tv).length (k:Int)=some k:=by
  unfold ixN;rw [if_pos (by lia),if_pos (by rw [KE];lia)];simp
 have sm:(d.sides.map tv).set k (V.str (Txt.slice t none (some (dn d.left t.length))))=(d.sides.set k (gn t (dn d.left t.length))).map tv:=by rw [map_set];rfl
 erw [g1,gs,Ad,ix,sm,g2,fK];refine ⟨p,wl,sl,cells,m,_,rfl,O,λZ=>⟨_,rfl,?_⟩,λZ=>?_⟩
 .have z:(d.spend t.length).st=true:=Z;have G:=q _ O ((k1.mono (by simp)).trans (zu.upd (by simp)));rw [if_pos z] at G;exact G
 .have z:(d.spend t.length).st=false:=Z;ac_rfl;have G:=q _ O ((k1.mono (by simp)).trans (zu.upd (by simp)));rw [if_neg (by rw [z];exact Nx)] at G;exact G
abbrev rJ:Stmt:=top 17
abbrev pM:Stmt:=top 18
abbrev jF:Stmt:=aC (top 55) 0
abbrev jA:Stmt:=aC (top 55) 11
inductive Thg(H:Hp):V->Prop
 | non:Thg H .non
 | bl (b:Bool):Thg H (.bl b)
 | int (i:Int):Thg H (.int i)
 | str (x:Str):Thg H (.str x)
 | lst {a:Addr}{xs:List V}:H a=some (.lst xs)->Thg H (.ref a)
 | tup {a:Addr}{xs:List V}:H a=some (.tup xs)->Thg H (.ref a)
 | dic {a:Addr}{kvs:List (Key×V)}:H a=some (.dK kvs)->Thg H (.ref a)
def qJ:V->Bool | .int _=>true|_=>false
def ic(v:V)(a b:Int):Bool:=match v with | .int i=>decide (a<=i)&&decide (i<=b)|_=>false
def A1:Sp:=λvs H Q _=>∃v,vs=[v]/\Thg H v/\Q (.bl (qJ v)) H
def lg:Sp:=λvs H Q _=>∃v a b,vs=[v,.int a,.int b]/\Thg H v/\Q (.bl (ic v a b)) H
theorem Cn{X:Cx}(t:Thg H v)(q:Q (.bl (match v with | .int _=>true | .bl _=>true|_=>false)) H):lQ X.K [v,.ty "int"] H Q:=by
 cases t with
 | non=>exact ⟨_,_,_,_,_,rfl,rfl,.of .non,rfl,q⟩
 | bl b=>exact ⟨_,_,_,_,_,rfl,rfl,.of (.bl b),rfl,q⟩
 | int i=>exact ⟨_,_,_,_,_,rfl,rfl,.of (.int i),rfl,q⟩
 | str x=>exact ⟨_,_,_,_,_,rfl,rfl,.of (.str x),rfl,q⟩
 | lst h=>exact ⟨_,_,_,_,_,rfl,rfl,.of (.lst h),rfl,q⟩
 | tup h=>exact ⟨_,_,_,_,_,rfl,rfl,.of (.tup h),rfl,q⟩
 | dic h=>exact ⟨_,_,_,_,_,rfl,rfl,.of (.dK h),rfl,q⟩
theorem tX{X:Cx}(t:Thg H v)(q:Q (.bl (match v with | .bl _=>true|_=>false)) H):lQ X.K [v,.ty "bool"] H Q:=by
 cases t with
 | non=>exact ⟨_,_,_,_,_,rfl,rfl,.of .non,rfl,q⟩
 | bl b=>exact ⟨_,_,_,_,_,rfl,rfl,.of (.bl b),rfl,q⟩
 | int i=>exact ⟨_,_,_,_,_,rfl,rfl,.of (.int i),rfl,q⟩
 | str x=>exact ⟨_,_,_,_,_,rfl,rfl,.of (.str x),rfl,q⟩
 | lst h=>exact ⟨_,_,_,_,_,rfl,rfl,.of (.lst h),rfl,q⟩
 | tup h=>exact ⟨_,_,_,_,_,rfl,rfl,.of (.tup h),rfl,q⟩
 | dic h=>exact ⟨_,_,_,_,_,rfl,rfl,.of (.dK h),rfl,q⟩
theorem DS:zt ["value"] ["value"] (zi rJ):=fsc
theorem KH(F:Fun K "is_whole" "is_whole" rJ f fd)(T:Txt w K mg A):zm P w K mg base CX0 cm 1 f fd ["value"] A1:=by
 refine F.o DS λG z outer s H vs Q E hr h=>?_;obtain ⟨v,rfl,th,q⟩:=h;refine ⟨_,(W.h (zg (zw (anD (pU (clE (zL jx rfl T.L1 RF (zb (za 0) (zb (lJ rfl T.Vr boot_int (v:=.ty "int") rfl) zc)))) (jI (ntD (Ko (clE (zL jx rfl T.L1 RF (zb (za 0) (zb (lJ rfl T.Vu boot_bool (v:=.ty "bool") rfl) zc)))))))))))),?_⟩;ac_rfl;refine Cn th ?_;cases th with
 | int i=>dsimp only [bD];exact lO (tX (.int i) q)
 | bl i=>dsimp only [bD];exact lO (tX (.bl i) q)
 | _=>dsimp only [bD];exact iw q
theorem BW:zt WJ WJ (zi pM):=fsc
theorem LQ(F:Fun K VL VL pM f fd)(T:Txt w K mg A)(z:GF P w K mg base cm 1 "is_whole" ["value"] A1):zm P w K mg base CX0 cm 2 f fd WJ lg:=by
 refine F.o BW λJ G outer s H vs Q E hr h=>?_;obtain ⟨v,a,b,rfl,th,q⟩:=h;refine ⟨_,(W.h (zg (zw (anD (pU (clE (caD (zq z hr rfl (clP (zb (za 0) zc))))) (jI (ye (oI0 ly) (oI0 ly) (za 1) (za 0) (za 2)))))))),?_⟩;ac_rfl;refine ⟨_,rfl,th,?_⟩;cases th with
 | int i =>
  dsimp only [bD,qJ];refine lO ?_;ac_rfl;refine aq (λh=>?_) (λh=>?_)
  .have e:ic (.int i) a b=decide (i<=b):=by show (decide (a<=i)&&_)=_;rw [h];rfl
   rw [<- e];exact q
  .have e:ic (.int i) a b=false:=by show (decide (a<=i)&&_)=_;rw [Qm.mpr h];rfl
   rw [<- e];exact q
 | _=>dsimp only [bD,qJ];exact iw q
def DM.new(n:Nat):DM:=⟨N5 n [],[none,none],0,none,false⟩
def ng(A:zh):Sp:=λvs H Q _=>∃(p dx:Addr)(n m:Int),vs=[.ref p,.int n,.int m]/\H p=some (.ins A.tj dx [])/\3<=n/\n<=16/\2<=m/\m<=32 /\
 ∀(wl sl:Addr)(cells:List Addr)(H':Hp),zD A H' p wl sl cells m (DM.new n.toNat)->(∀b o,H b=some o->b≠p->H' b=some o)->(∀x∈wl::sl::cells,H x=none)->Q .non H'
structure yX(H:Hp)(i:Nat)(τ:L2.St)(ys:List V)(H':Hp):Prop where
 τ:∃t,τ=[t]
 ex:∃cells:List Addr,ys=cells.map V.ref/\cells.length=i/\(∀c∈cells,H' c=some (.lst [])/\H c=none)/\cells.Nodup
 same:zj H H'
 le:i<=16
theorem KD:zt X4 X4 (zi jF):=fsc
theorem Ke:aG { kind:=.function,names:=[(yv ".0",.local),(yv "number",.local)],isGenerator:=false,isCoroutine:=false,more:=[] } (zi jF).names X4 ["number"] [none]=true:=by decide +kernel
theorem G3:(["number"]:List Str).Nodup:=by decide +kernel
theorem DQ(F:Fun K VX "Disk.__init__" jF f fd)(T:Txt w K mg A)(ZW:GF P w K mg base cm 2 VL WJ lg):zm P w K mg base CX0 cm 3 f fd X4 (ng A):=by
 refine F.o KD λZ2 Ar outer s H vs Q E hr h=>?_;obtain ⟨p,dx,n,m,rfl,hp,n0,n1,m0,m1,q⟩:=h;have h1:ic (.int n) 3 16=true:=by show (decide _&&decide _)=true;rw [decide_eq_true n0,decide_eq_true n1];rfl
 have h2:ic (.int m) 2 32=true:=by show (decide _&&decide _)=true;rw [decide_eq_true m0,decide_eq_true m1];rfl
 refine ⟨_,(W.h (ze (zQ (fJ (bG (caD (zq ZW hr rfl (clP (zb (za 1) (zb (cI rfl T.To) (zb (cI rfl T.Tq) zc))))))))
   (zg gW)
   zV)
   (ze (zQ (fJ (bG (caD (zq ZW hr rfl (clP (zb (za 2) (zb (cI rfl T.TK) (zb (cI rfl T.TN) zc))))))))
   (zg gW)
   zV)
   (ze (sfD (bz T.pw T.Bn (clE (za 0)) (clE (za 2))))
   (ze (sfD (bz T.pw T.q0 (clE (za 0)) (clE (cA (by intro h;exact nomatch h) (zU.of Ke) (LS rfl T.z4 (zb (za 1) zc)) (λ_ _ _ _ _=>(zz (i:=0) G3 rfl (NC rfl))) (λ_ _ _ _ _=>di) (λ_ _ _ _ _=>(ay zc))))))
   (ze (sfD (bz T.pw T.xy (clE (za 0)) (clE (ay (zb aJ (zb aJ zc))))))
   (ze (sfD (bz T.pw T.vl (clE (za 0)) (clE zl)))
   (ze (sfD (bz T.pw T.z3 (clE (za 0)) (clE aJ)))
   (zg (sfD (bz T.pw T.vb (clE (za 0)) (clE bW)))))))))))),?_⟩
 ac_rfl;refine ⟨.int n,3,16,rfl,.int n,?_⟩;erw [h1];refine ⟨.int m,2,32,rfl,.int m,?_⟩;erw [h2,hp,zx,zR,cz];refine ⟨by decide,by lia,by lia,zT.rng (yX (upd H p (.ins A.tj dx [("width",.int m)]))) (λi τ ys H' I=>?_) ⟨⟨_,rfl⟩,⟨[],rfl,rfl,by simp,nodup_nil⟩,zj.refl _,by decide⟩ ?_ ?_⟩
 .obtain ⟨cells,e,l,_⟩:=I.ex;rw [e,KE,l];exact oO (N6 I.le (by decide))
 .intro N i τ ys H' hi I hN;obtain ⟨t,rfl⟩:=I.τ;obtain ⟨cells,e,l,hc,Xm⟩:=I.ex;ac_rfl;refine ⟨by decide,λc H2 Z _=>hN _ _ _ ⟨⟨_,rfl⟩,⟨cells++[c],by rw [e,Oa];rfl,by simp [l],λb hb=>?_,?_⟩,I.same.trans Z.same,by lia⟩⟩
  .rcases Og.mp hb with hb|hb
   .exact ⟨Z.same _ _ (hc b hb).1,(hc b hb).2⟩
   .rw [NG] at hb;subst hb;exact ⟨Z.at_,I.same.free Z.no⟩
  .refine QI.mpr ⟨Xm,by simp,λa ha b hb=>?_⟩;rw [NG] at hb;subst hb;exact zE (hc a ha).1 Z.no
 .intro τ ys H1 I D H2 S;obtain ⟨cells,e,l,hc,Xm⟩:=I.ex;have e1:H2 p=some (.ins A.tj dx [("width",.int m)]):=S.same _ _ (I.same _ _ zx);have w1:zR "written" (.ref D) [(("width":Str),V.int m)]=[(("width":Str),V.int m),("written",.ref D)]:=by kernel_rfl
  refine ⟨dx,_,e1,by show 1<1000;decide,by decide,λs1 H3 U _=>?_⟩;rw [w1] at U;have e3:H3 p=some (.ins A.tj dx [("width",.int m),("written",.ref D)]):=U.same _ _ zx;have w2:zR "at_sides" (.ref s1) [(("width":Str),V.int m),("written",.ref D)]=[(("width":Str),V.int m),("written",.ref D),("at_sides",.ref s1)]:=by kernel_rfl
  have w3:zR "counted" (.int 0) [(("width":Str),V.int m),("written",.ref D),("at_sides",.ref s1)]=[(("width":Str),V.int m),("written",.ref D),("at_sides",.ref s1),("counted",.int 0)]:=by kernel_rfl
  have w4:zR "left" .non [(("width":Str),V.int m),("written",.ref D),("at_sides",.ref s1),("counted",.int 0)]=[(("width":Str),V.int m),("written",.ref D),("at_sides",.ref s1),("counted",.int 0),("left",.non)]:=by kernel_rfl
  have w5:zR "has_stopped" (.bl false) [(("width":Str),V.int m),("written",.ref D),("at_sides",.ref s1),("counted",.int 0),("left",.non)]=zI m D s1 (DM.new n.toNat):=by kernel_rfl
  refine ⟨dx,_,e3,?_⟩;rw [w2,w3,w4,w5,eI,eI,eI];refine ⟨by show 2<1000;decide,by show 3<1000;decide,by show 4<1000;decide,by show 5<1000;decide,?_⟩;have pD:p≠D:=zE (I.same _ _ zx) S.no;have ps:p≠s1:=zE zx U.no;have J:∀b o,b≠p->H2 b=some o->H3 b=some o:=λb o hb h=>U.same _ _ (by rw [zd hb];exact h);have G:=S.at_;rw [e] at G;have cp:∀c∈cells,c≠p:=λc O z=>by have:=(hc c O).2;rw [z,zx] at this;cases this
  have cD:∀c∈cells,c≠D:=λc O=>zE (hc c O).1 S.no;have cs:∀c∈cells,c≠s1:=λc O=>zE (show (upd H2 p (.ins A.tj dx [("width",.int m),("written",.ref D)])) c=some _ by rw [zd (cp c O)];exact S.same _ _ (hc c O).1) U.no;have Ds:D≠s1:=zE (show (upd H2 p (.ins A.tj dx [("width",.int m),("written",.ref D)])) D=some _ by rw [zd (NO pD)];exact G) U.no;have Hn:∀b,b≠p->(upd H p (.ins A.tj dx [("width",V.int m)])) b=none->H b=none:=λb hb h=>by rw [zd hb] at h;exact h
  refine q D s1 cells _ ⟨⟨dx,zx⟩,⟨?_,?_,λi c hi=>?_⟩,?_,?_⟩ (λb o hb YO=>?_) (λx hx=>?_)
  .rw [zd (NO pD)];exact J D _ (NO pD) G
  .simp [DM.new,l]
  .have O:=NM hi;rw [zd (cp c O),J c _ (cp c O) (S.same _ _ (hc c O).1)];have:((DM.new n.toNat).rows.getD i [])=[]:=by
    unfold DM.new;rw [Nr,P9];split<;>rfl
   rw [this];rfl
  .rw [zd (NO ps)];exact U.at_
  .simp only [OO,Nw,not_or];exact ⟨⟨pD,ps,λz=>cp p z rfl⟩,⟨Ds,λz=>cD D z rfl⟩,λz=>cs s1 z rfl,Xm⟩
  .rw [zd YO];exact J b _ YO (S.same _ _ (I.same _ _ (by rw [zd YO];exact hb)))
  .simp only [Nw] at hx;rcases hx with rfl|rfl|hx
   .exact Hn _ (NO pD) (I.same.free S.no)
   .have z:=U.no;rw [zd (NO ps)] at z;exact Hn _ (NO ps) (I.same.free (S.same.free z))
   .exact Hn _ (cp x hx) (hc x hx).2
theorem K0{o:HO}(h:H a=some o):upd H a o=H:=by
 funext b;by_cases hb:b=a
 .rw [hb,zx,h]
 .rw [zd hb]
def eX(i:Nat)(r:List Tx):List Tx:=N5 i none++r.drop i
theorem MW{r:List Tx}(h:i<=r.length):(eX i r).length=r.length:=by simp [eX];lia
theorem My{r:List Tx}(h:i<r.length):((eX i r).map tv).set i .non=(eX (i+1) r).map tv:=by
 have e:V.non=tv none:=rfl;rw [e,<- map_set];congr 1;unfold eX;rw [List.set_append_right _ _ (by simp)];have h2:r.drop i=r[i]::r.drop (i+1):=Pw h;rw [h2,OK,Nat.sub_self,List.set_cons_zero,List.replicate_succ',R6];rfl
structure Jt(H1:Hp)(p c:Addr)(k:Nat)(n:Int)(r:List Tx)(i:Nat)(σ:L2.St)(H':Hp):Prop where
 ex:∃x,σ=[some (V.ref p),some (.int k),some (.ref c),some (.int n),x]
 at_:H'=upd H1 c (.lst ((eX i r).map tv))
 le:i<=r.length
theorem k8:zt V5 Xw (zi k7):=fsc
theorem Lr(F:Fun K "empty" "Disk.empty" k7 f fd)(T:Txt w K mg A)(ZO:GM P w K mg base true 1 A.tj "spend" WH (ny A))(Z8:GMX P w K mg base true 1 A.tj VZ Zn (jf A)):zm P w K mg base (CXW P w) true 2 f fd Xw (qV A):=by
 refine F.oW k8 λZ2 Ar outer s H vs Q E hr h=>?_;obtain ⟨p,wl,sl,cells,m,d,k,rfl,D,hk,ag,hl,q⟩:=h;obtain ⟨dx,h1⟩:=D.ob;obtain ⟨c,hc,ha,hH⟩:=D.rows.cell hk;have Th:=fB (cm:=true) (P:=P) (w:=w) (K:=K) (mg:=mg) (base:=base) (N:=V5) (qual:="Disk.empty") (scope:=zi k7) (f:=f) (cd:=Z2) (A:=Ar) (outer:=outer) (s:=s) (H:=H) (E:=E);refine ⟨_,(W.h (ze (ax (fO (fT (clE (za 0)) T.pw Th Z8 hr)))
   (ze (zy (i:=2) k8.nd rfl (NC rfl) (zF zJ (fD (aa T.pw T.q0 (clE (za 0)))) (za 1) (λ_ _=>rfl)))
   (ze (zy (i:=3) k8.nd rfl (NC rfl) (mD (bS (clE (za 0)) T.pw ZO hr (clP (zb (zL bj rfl T.wh N8 (zb (za 2) zc)) zc)))))
   (ze (zQ (bG (fD (aa T.pw T.vb (clE (za 0)))))
   (zg (Lm (bN OW.never (λ_=>rfl) (dP rfl T.z4 (zb (za 3) zc)) (zz (i:=4) k8.nd rfl (NC rfl))
   (zg (cJ aJ (eJ (za 2) (za 4) hG))))))
   (zg (ax (tI (za 2)))))
   (zg (ax (fO (fT (clE (za 0)) T.pw Th Z8 hr))))))))),?_⟩
 erw [h1,fK];unfold DM.empty at q;refine ⟨p,wl,sl,cells,m,d,rfl,D,λhs=>?_,λhs=>?_⟩
 .rw [if_pos hs] at q;exact ⟨_,rfl,q H D zu.refl⟩
 rw [if_neg (by rw [hs];exact Nx)] at q;erw [h1,D.rows.w,g9,ha,hH,KE,yD];generalize S:d.rows.getD k []=r at q hH ⊢;have ak:r.length<=1000:=by rw [<- S];exact ag k
 refine ⟨p,wl,sl,cells,m,d,_,rfl,D,λH1 U k1=>?_⟩;obtain ⟨av,g1⟩:=U.ob;have gc:=U.rows.at_ k c hc;rw [xJ,S] at gc;have ai:0<=dn d.left r.length:=by
  unfold dn;split
  .lia
  .rename_i l e;have:=hl l e;split<;>lia
 have aj:dn d.left r.length<=r.length:=by
  unfold dn;split
  .lia
  .split<;>lia
 have kF:∀o,zu (p::wl::sl::cells) H (upd H1 c o):=λo=>(k1.mono (by simp)).trans (zu.upd (by simp [NM hc]));erw [g1,vW];refine aq (λhst=>?_) (λhst=>?_)
 .rw [if_pos hst] at q;refine ⟨by lia,by lia,aA.rng (Jt H1 p c k (dn d.left r.length) r) ⟨⟨_,rfl⟩,(K0 gc).symm,Ot _⟩ ?_ ?_⟩
  .rintro i σ H' hi ⟨⟨x,rfl⟩,rfl,G⟩;have ix:ixN ((eX i r).map tv).length (0+(i:Int))=some i:=by
    unfold ixN;rw [if_pos (by lia),if_pos (by rw [KE,MW G];lia)];simp
   erw [zx,ix,eI,My (show i<r.length by lia)];exact ⟨⟨_,rfl⟩,rfl,by lia⟩
  .rintro σ H' ⟨⟨x,rfl⟩,rfl,G⟩;have z:=U.Vh (r:=eX (dn d.left r.length).toNat r) hc;obtain ⟨Xt,Z⟩:=z.ob;erw [Z,fK];refine ⟨p,wl,sl,cells,m,_,rfl,z,λO=>⟨_,rfl,q _ z (kF _)⟩,λO=>?_⟩;have J:(d.spend r.length).st=false:=O;rw [J] at hst;cases hst
 .rw [if_neg hst] at q;have z:=U.Vh (r:=[]) hc;obtain ⟨Xt,Z⟩:=z.ob;have ab:upd H1 c (.lst []) p=some (.ins A.tj Xt (zI m wl sl { d.spend r.length with rows:=(d.spend r.length).rows.set k [] })):=Z;erw [gc,ab,fK];refine ⟨p,wl,sl,cells,m,_,rfl,z,λO=>absurd O hst,λO=>?_⟩;ac_rfl;exact q _ z (kF _)
def DM.copy(d:DM):DM:={ d with left:=none,st:=false }
def uG(A:zh):Sp:=λvs H Q _=>∃(p wl sl:Addr)(cells:List Addr)(m:Int)(d:DM),vs=[.ref p]/\zD A H p wl sl cells m d/\3<=d.rows.length/\d.rows.length<=16/\2<=m/\m<=32 /\
 ∀(z F J:Addr)(G:List Addr)(H':Hp),zD A H' z F J G m d.copy->zj H H'->(∀x∈z::F::J::G,H x=none)->Q (.ref z) H'
end
abbrev fX:Stmt:=top 38
abbrev rG:Stmt:=top 36
abbrev mL:Stmt:=top 37
def rdT:Tx->Option (List V)|none=>none|some z=>bJ z
structure cL(d:DM):Prop where
 ok:∀r∈d.rows,r.length<=32/\∀t∈r,∀z,t=some z->asc z=true/\z.length<=1000
 len:d.rows.length<=16
abbrev Tri:=List V×Nat×Nat
def gQ:List V->Int|_::.int k::_=>k|_=>0
def one(o:Option (List V))(k j:Nat):List Tri:=match o with|some row=>[(row,k,j)]|none=>[]
theorem rq(o:Option (List V))(k j:Nat):(one o k j).length<=1:=by cases o<;>simp [one]
def rIn(l:List Tx)(k:Nat):Nat->List Tri
 | 0=>[]
 | j+1=>rIn l k j++one (rdT (l.getD j none)) k j
def wU(rows:List (List Tx)):Nat->List Tri
 | 0=>[]
 | i+1=>wU rows i++rIn (rows.getD i []) i (rows.getD i []).length
def gU(H:Hp)(a:Addr)(t:Tri):Prop:=∃r,H a=some (.tup [.ref r,.int t.2.1,.int t.2.2])/\H r=some (.tup t.1)
def bI(H:Hp)(as:List Addr)(ts:List Tri):Prop:=Paired (gU H) as ts
def zA(H H':Hp):Prop:=∀a o,(∀ps,o≠.tbl ps)->H a=some o->H' a=some o
theorem zA.of(s:zj H H'):zA H H':=λa o _ e=>s a o e
theorem zA.refl:zA H H:=λ_ _ _ e=>e
theorem zA.trans(x:zA H H1)(y:zA H1 H2):zA H H2:=λa o n e=>y a o n (x a o n e)
theorem zA.bb(x:iI H H' P)(h:H P=some (.tbl ps)):zA H H':=λa o n e=>x a o (λz=>by subst z;rw [h] at e;cases e;exact n _ rfl) e
theorem zA.lam(x:iI H H' P)(h:cF pos q H P):zA H H':=by
 rcases h with h|⟨_,_,_,_,h,_⟩
 .exact zA.bb x h
 .exact zA.bb x h
theorem zA.list(s:zA H H')(h:H a=some (.lst xs)):H' a=some (.lst xs):=s _ _ (λ_=>nofun) h
theorem zA.tup{H H':Hp}(s:zA H H'){a:Addr}{xs:List V}(h:H a=some (.tup xs)):H' a=some (.tup xs):=s _ _ (λ_=>nofun) h
theorem zD.qb{p wl sl:Addr}(D:zD A H p wl sl cells m d)(s:zA H H'):zD A H' p wl sl cells m d:=by
 obtain ⟨dx,e⟩:=D.ob;exact ⟨⟨dx,s _ _ (λ_=>nofun) e⟩,⟨s.list D.rows.w,D.rows.len,λi c h=>s.list (D.rows.at_ i c h)⟩,s.list D.sides,D.nd⟩
theorem gU.qb{t:Tri}(h:gU H a t)(s:zA H H'):gU H' a t:=let ⟨r,e1,e2⟩:=h;⟨r,s.tup e1,s.tup e2⟩
theorem bI.qb(h:bI H as ts)(s:zA H H'):bI H' as ts:=Paired.yz h λ_ _ r=>r.qb s
theorem bI.same(h:bI H as ts)(s:zj H H'):bI H' as ts:=h.qb (.of s)
theorem dc{α β:Type}{R:α->β->Prop}{z F:List α}{G m2:List β}(h1:Paired R z G)(h2:Paired R F m2):Paired R (z++F) (G++m2):=by
 induction h1 with
 | nil=>exact h2
 | cons r _ J=>exact .cons r J
theorem FG(h:bJ z=some row):∃y k ys,row = .str y::.int k::ys:=by
 unfold bJ at h;obtain ⟨b,_,h⟩:=bind_eq_some_iff.mp h;cases e:Oz (OV b none (some (-1))) (c1 32) with
 | nil=>rw [e] at h;cases h
 | cons w ws =>
  rw [e,eG] at h;obtain ⟨ks,F,h⟩:=bind_eq_some_iff.mp h;split at h
  .obtain ⟨vs,O,rfl⟩:=NV.mp h;have:∃ks',ks=("number":Str)::ks':=by
    unfold dz at F;split at F
    .cases F;exact ⟨_,rfl⟩
    .split at F
     .cases F;exact ⟨_,rfl⟩
     .split at F
      .cases F;exact ⟨_,rfl⟩
      .split at F
       .cases F;exact ⟨_,rfl⟩
       .split at F
        .cases F;exact ⟨_,rfl⟩
        .cases F
   obtain ⟨ks',rfl⟩:=this;cases ws with
   | nil=>rename_i hl;cases hl
   | cons z zs =>
    have G:(aZ "number" z).bind (λv=>(aI ks' zs).map (v::·))=some vs:=O;obtain ⟨v,h1,h2⟩:=bind_eq_some_iff.mp G;obtain ⟨S,_,rfl⟩:=NV.mp h2;have:∃k,v = .int k:=by
     unfold aZ at h1;by_cases J:cj z=true
     .rw [if_pos ⟨rfl,J⟩] at h1;cases h1;exact ⟨_,rfl⟩
     .rw [if_neg (λq=>J q.2),if_neg (λq=>absurd q.1 (by decide)),if_neg (λq=>absurd q.1 (by decide)),if_neg (λq=>absurd q.1 (by decide))] at h1;cases h1
    obtain ⟨k,rfl⟩:=this;exact ⟨w,k,S,rfl⟩
  .cases h
theorem eV{α:Type}{l:List α}{x:α}(h:j<l.length):l.getD j x∈l:=by
 rw [Nr,p8 h];exact Oj h
section
variable {P:NB}{w:NQ}{K:Frag}{mg:Str->Option Value}{base:Heap}{A:zh}
def sX(A:zh):Sp:=λvs H Q _=>∃(p wl sl:Addr)(cells:List Addr)(m:Int)(d:DM)(k j:Nat),vs=[.ref p,.int k,.int j]/\zD A H p wl sl cells m d/\cL d/\k<d.rows.length /\
 (∀row,rdT ((d.rows.getD k []).getD j none)=some row->∀r H',zj H H'->H' r=some (.tup row)->Q (.ref r) H')/\(rdT ((d.rows.getD k []).getD j none)=none->∀H',zj H H'->Q .non H')
theorem Gq:zt Wy Wy (zi rG):=fsc
theorem Bx(F:Fun K "row_at" "row_at" rG f fd)(T:Txt w K mg A)(YZ:GM P w K mg base true 1 A.tj "told" Wh (Ao A))(S:GX P w K mg base true 5 "read_row" Xk (xI A)):zm P w K mg base CX0 true 7 f fd Wy (sX A):=by
 refine F.o Gq λZ2 Ar outer s H vs Q E hr h=>?_;obtain ⟨p,wl,sl,cells,m,d,k,j,rfl,D,tx,G,O,U⟩:=h;refine ⟨_,(W.h (zg (rh rfl rfl ⟨rfl,rfl⟩ T.S4 rfl T.Ti (λGo Ex=>(zg (zw (cXD (pI nu S hr rfl (clP (zb (mD (bS (clE (za 0)) T.pw YZ hr (clP (zb (za 1) (zb (za 2) zc))))) zc))))))) (λGo ea=>by
   have hr:=hr.mark (v:=some (.ref ea));exact (zg (zw aJ)))))),?_⟩
 obtain ⟨dx,h1⟩:=D.ob;erw [h1,JS];refine ⟨p,wl,sl,cells,m,d,k,j,rfl,D,G,?_⟩;unfold lj;have J:∀z,(d.rows.getD k []).getD j none=some z->asc z=true/\z.length<=1000:=λz e=>by
  have hr:d.rows.getD k []∈d.rows:=eV G;by_cases hj:j<(d.rows.getD k []).length
  .exact (tx.ok _ hr).2 _ (eV hj) z e
  .rw [Nr,Pf (by lia)] at e;cases e
 have exc:∀H1,zj H H1->rdT ((d.rows.getD k []).getD j none)=none->bY K A.SZ/\mroIn K A.SZ (.ref A.SZ)=some true/\∀(ea:Addr)(oe:Obj),H1 ea=none->iJ A.SZ oe->Q V.non (upd H1 ea (HO.frz oe (HO.own 0))):=λH1 s1 hn=>⟨T.S4,T.Vv,λea oe he _=>U hn _ λa o e=>by rw [zd (zE (s1 _ _ e) he)];exact s1 _ _ e⟩;generalize (d.rows.getD k []).getD j none=t at J exc O;cases t with
 | none=>exact .inl ⟨_,rfl,.non,_,rfl,exc H (zj.refl _) rfl⟩
 | some z =>
  obtain ⟨a1,a2⟩:=J z rfl;exact .inr ⟨z,rfl,a1,by lia,λxs hx Z H' s' h'=>O xs hx Z H' s' h',λhn H' s'=>⟨_,rfl,exc H' s' hn⟩⟩
def nN(A:zh):Sp:=λvs H Q _=>∃(p wl sl:Addr)(cells:List Addr)(m:Int)(d:DM)(k:Nat),vs=[.ref p,.int k]/\zD A H p wl sl cells m d/\cL d/\k<d.rows.length /\
 ∀l as H',zj H H'->H l=none->H' l=some (.lst (as.map V.ref))->bI H' as (rIn (d.rows.getD k []) k (d.rows.getD k []).length)->Q (.ref l) H'
structure Kj(H:Hp)(p l:Addr)(k:Nat)(r:List Tx)(j:Nat)(σ:L2.St)(H':Hp):Prop where
 ex:∃t1 t2,σ=[some (V.ref p),some (.int k),some (.ref l),t1,t2]
 same:zj H H'
 no:H l=none
 ls:∃as:List Addr,H' l=some (.lst (as.map V.ref))/\bI H' as (rIn r k j)/\as.length<=j
theorem j9:zt ["disk","stretch","found","place","row"] Xv (zi mL):=fsc
theorem GD(F:Fun K "rows_in" "rows_in" mL f fd)(T:Txt w K mg A)(ZY:GM P w K mg base true 1 A.tj VD Xw (ml A))(Yi:GF P w K mg base true 7 "row_at" Wy (sX A)):zm P w K mg base CX0 true 8 f fd Xv (nN A):=by
 refine F.o j9 λZ2 Ar outer s H vs Q E hr h=>?_;obtain ⟨p,wl,sl,cells,m,d,k,rfl,D,tx,Z,q⟩:=h;refine ⟨_,(W.h (ze (zy (i:=2) j9.nd rfl (NC rfl) (ay zc))
   (ze (bN OW.never (λ_=>rfl) (dP rfl T.z4 (zb (mD (bS (clE (za 0)) T.pw ZY hr (clP (zb (za 1) zc)))) zc)) (zz (i:=3) j9.nd rfl (NC rfl))
   (ze (zy (i:=4) j9.nd rfl (NC rfl) (caD (zq Yi hr rfl (clP (zb (za 0) (zb (za 1) (zb (za 3) zc)))))))
   (zg (zQ (tD (zG (clO iR) (clE (za 4)) (clE aJ) (zC _)))
   (zg (ax (hU (za 2) (aO (zb (za 4) (zb (za 1) (zb (za 3) zc)))))))
   zV))))
   (zg (zw (za 2)))))),?_⟩
 have ab:d.rows.getD k []∈d.rows:=by rw [Nr,p8 Z];exact Oj Z
 have ai:=(tx.ok _ ab).1;ac_rfl;refine ⟨by decide,λl H1 n1 _=>?_⟩;have D1:=D.qb (.of n1.same);obtain ⟨dx,h1⟩:=D1.ob;erw [h1,yk];refine ⟨p,wl,sl,cells,m,d,k,rfl,D1,Z,?_⟩;ac_rfl;have er:(((d.rows.getD k []).length:Nat):Int).toNat=(d.rows.getD k []).length:=by lia
 rw [er];refine ⟨by lia,by lia,aA.rng (Kj H p l k (d.rows.getD k [])) ⟨⟨_,_,rfl⟩,n1.same,n1.no,[],n1.at_,.nil,Nq _⟩ ?_ ?_⟩
 .rintro j σ H2 hj ⟨⟨t1,t2,rfl⟩,S,O,as,hl,U,ha⟩;have ej:(0+(j:Int))=((j:Nat):Int):=by lia
  erw [ej];refine ⟨p,wl,sl,cells,m,d,k,j,rfl,D.qb (.of S),tx,Z,λrow XA r H3 G h3=>?_,λhn H3 G=>?_⟩
  .have WN:=G _ _ hl;erw [WN];refine ⟨by decide,λa H4 J=>?_⟩;have ag:=J.same _ _ WN;erw [ag];have al:a≠l:=λz=>by have:=J.no;rw [z,WN] at this;cases this
   have rl:r≠l:=λz=>by rw [z,WN] at h3;cases h3
   refine ⟨by rw [KE];exact aF (by lia),⟨_,_,rfl⟩,λc o e=>?_,O,as++[a],by rw [zx];simp,?_,by simp;lia⟩
   .rw [zd (zE e O)];exact J.same _ _ (G _ _ (S _ _ e))
   .have e1:rIn (d.rows.getD k []) k (j+1)=rIn (d.rows.getD k []) k j++[(row,k,j)]:=by
     show rIn _ k j++_=_;rw [XA];rfl
    rw [e1];refine dc (Paired.yz U λx t ⟨r',g1,g2⟩=>?_) (.cons ⟨r,?_,?_⟩ .nil)
    .refine ⟨r',?_,?_⟩
     .rw [zd (λz=>by rw [z,hl] at g1;cases g1)];exact J.same _ _ (G _ _ g1)
     .rw [zd (λz=>by rw [z,hl] at g2;cases g2)];exact J.same _ _ (G _ _ g2)
    .rw [zd al];exact J.at_
    .rw [zd rl];exact J.same _ _ h3
  .ac_rfl;refine ⟨⟨_,_,rfl⟩,S.trans G,O,as,G _ _ hl,?_,by lia⟩;have e1:rIn (d.rows.getD k []) k (j+1)=rIn (d.rows.getD k []) k j:=by
    show rIn _ k j++_=_;rw [hn];exact O8 _
   rw [e1];exact bI.same U G
 .rintro σ H2 ⟨⟨t1,t2,rfl⟩,S,O,as,hl,U,ha⟩;ac_rfl;exact q l as H2 S O hl U
end
abbrev nR:Stmt:=top 39
def zr(t:Tri):Int:=gQ t.1
theorem Fp{α β:Type}{f:α->β}{zs m:List β}(h:zs.Perm m):∀{L:List α},m=L.map f->∃G:List α,G.Perm L/\zs=G.map f:=by
 induction h with
 | nil=>intro L e;cases L with
  | nil=>exact ⟨[],.nil,rfl⟩
  | cons a L=>cases e
 | cons x _ S =>
  intro L e;cases L with
  | nil=>cases e
  | cons a L =>
   rw [Om] at e;injection e with F z
   obtain ⟨G,p,rfl⟩:=S z;exact ⟨a::G,p.cons a,by rw [Om,F]⟩
 | swap x y l =>
  intro L e;cases L with
  | nil=>cases e
  | cons a L =>
   cases L with
   | nil=>rw [Om] at e;injection e with _ z;cases z
   | cons b L =>
    rw [Om,Om] at e;injection e with F z
    injection z with z e3
    exact ⟨b::a::L,.swap ..,by rw [Om,Om,F,z,e3]⟩
 | trans _ _ J O =>
  intro L e;obtain ⟨W,U,F⟩:=O e;obtain ⟨L2,p2,z⟩:=J F;exact ⟨L2,p2.trans U,z⟩
theorem yj:∀{l m:List Tri},l.Perm m->l.Pairwise (λa b=>zr a<zr b)->m.Pairwise (λa b=>zr a<zr b)->l=m
 | [],m,p,_,_=>(Q4.nil_eq p)
 | a::l,[],p,_,_=>by have:=p.length_eq;cases this
 | a::l,b::m,p,h1,h2=>by
  obtain ⟨g1,F⟩:=OJ.mp h1;obtain ⟨k1,k2⟩:=OJ.mp h2;have e:a=b:=by
   refine Px λne=>?_;have ha:a∈b::m:=p.mem_iff.mp (NX ..);have hb:b∈a::l:=p.mem_iff.mpr (NX ..);rcases Nw.mp ha with z|ha
   .exact ne z
   .rcases Nw.mp hb with z|hb
    .exact ne z.symm
    .have:=k1 a ha;have:=g1 b hb;lia
  subst e;rw [yj (Q4.cons_inv p) F k2]
theorem xC{l:List Tri}(nd:(l.map zr).Nodup)(h:l.Pairwise (λa b=>zr a<=zr b)):l.Pairwise (λa b=>zr a<zr b) :=
 (h.and (O5.mp nd)).imp λ⟨h1,h2⟩=>by lia
open Classical in
noncomputable def zY(U:List Tri):List Tri:=if h:∃ts:List Tri,ts.Perm U/\ts.Pairwise (λa b=>zr a<=zr b) then h.choose else U
theorem LI(nd:(U.map zr).Nodup)(p:ts.Perm U)(h:ts.Pairwise (λa b=>zr a<=zr b)):ts=zY U:=by
 have ex:∃ts:List Tri,ts.Perm U/\ts.Pairwise (λa b=>zr a<=zr b):=⟨ts,p,h⟩;unfold zY;rw [dif_pos ex];have F:(ts.map zr).Nodup:=(p.map zr).nodup_iff.mpr nd;have z:(ex.choose.map zr).Nodup:=(ex.choose_spec.1.map zr).nodup_iff.mpr nd;exact yj (p.trans ex.choose_spec.1.symm) (xC F h) (xC z ex.choose_spec.2)
def lpW:Pos:=⟨105,29,105,50⟩
def lpL:Pos:=⟨412,34,412,65⟩
def qW:Str:=(PY VW (zi fX) 0 0 .none).qual++"<lambda>"
abbrev fu:Stmt:=top 70
def qL:Str:=(PY VY (zi fu) 0 0 .none).qual++"<lambda>"
structure TB(A:zh)(H:Hp):Prop where
 w:cF lpW qW H A.J7
 l:cF lpL qL H A.Q2
 ne:A.J7≠A.Q2
theorem yK(h:cF pos q H P):∃ps,H P=some (.tbl ps):=by
 rcases h with h|⟨_,_,_,_,h,_⟩<;>exact ⟨_,h⟩
theorem jD(h:cF pos q H P)(k:∀a o,H a=some o->(a=P\/∀ps,o≠.tbl ps)->H' a=some o):cF pos q H' P:=by
 rcases h with h|⟨c,oc,vs,t,h1,h2,h3⟩
 .exact .inl (k _ _ h (.inl rfl))
 .exact .inr ⟨c,oc,vs,t,k _ _ h1 (.inl rfl),k _ _ h2 (.inr λps z=>by cases z),h3⟩
theorem TB.same(h:TB A H)(s:zj H H'):TB A H':=⟨jD h.w λa o e _=>s a o e,jD h.l λa o e _=>s a o e,h.ne⟩
theorem TB.keep(h:TB A H)(k:zu F H H')(G:∀x∈F,∀o,H x=some o->(∀ps,o≠.tbl ps)/\∀oc,o≠.frz oc (.own 0)):TB A H':=by
 have go:∀{pos q P},cF pos q H P->cF pos q H' P:=λ{pos q P} h=>by
  rcases h with h|⟨c,oc,vs,t,h1,h2,h3⟩
  .exact .inl (k _ _ h λz=>(G _ z _ h).1 _ rfl)
  .exact .inr ⟨c,oc,vs,t,k _ _ h1 λz=>(G _ z _ h1).1 _ rfl,k _ _ h2 λz=>(G _ z _ h2).2 _ rfl,h3⟩
 exact ⟨go h.w,go h.l,h.ne⟩
section
variable {P:NB}{w:NQ}{K:Frag}{mg:Str->Option Value}{base:Heap}{A:zh}
def nU(d:DM):List Tri:=wU d.rows d.rows.length
structure C6(H:Hp)(p l:Addr)(d:DM)(i:Nat)(σ:L2.St)(H':Hp):Prop where
 ex:∃t1,σ=[some (V.ref p),some (.ref l),t1]
 same:zj H H'
 no:H l=none
 ls:∃as:List Addr,H' l=some (.lst (as.map V.ref))/\bI H' as (wU d.rows i)/\as.length<=32*i
theorem rH{k:Nat}:∀{j:Nat}{t:Tri},t∈rIn l k j->∃y n ys,t.1 = .str y::.int n::ys
 | 0,t,h=>by cases h
 | j+1,t,h=>by
  rcases Og.mp h with h|h
  .exact rH h
  .cases e:l.getD j none with
   | none=>rw [e] at h;cases h
   | some z =>
    rw [e] at h;cases F:bJ z with
    | none=>rw [show rdT (some z)=bJ z from rfl,F] at h;cases h
    | some row =>
     rw [show rdT (some z)=bJ z from rfl,F] at h;have h:t=(row,k,j):=NG.mp h;rw [h];exact FG F
theorem iZ{rows:List (List Tx)}:∀{i:Nat}{t:Tri},t∈wU rows i->∃y n ys,t.1 = .str y::.int n::ys
 | 0,t,h=>by cases h
 | i+1,t,h=>by
  rcases Og.mp h with h|h
  .exact iZ h
  .exact rH h
theorem xV(h:bI H as ts)(F:∀t∈ts,∃y n ys,t.1 = .str y::.int n::ys):Paired (nH H) as (ts.map zr):=by
 induction h with
 | nil=>exact .nil
 | @cons a t _ _ r _ J =>
  refine .cons ?_ (J λt h=>F t (ND _ h));obtain ⟨y,n,ys,e⟩:=F t (NX ..);obtain ⟨O,G,z⟩:=r;rw [e] at z;have S:zr t=n:=by unfold zr;rw [e];rfl
  rw [S];exact ⟨O,_,_,_,G,z⟩
theorem sE{zs:List (Int×Addr)}(h:bI H as ts)(p:zs.Perm ((ts.map zr).zip as))(hs:zs.Pairwise (λp q=>p.1<=q.1))(nd:(ts.map zr).Nodup):bI H (zs.map (·.2)) (zY ts):=by
 have hl:=zW h;have J:(ts.map zr).zip as=(as.zip ts).map λq=>(zr q.2,q.1):=by
  clear p nd
  induction h with
  | nil=>rfl
  | cons r _ F=>rw [Om,Qv,Qv,Om,F (Paired.length ‹_›)]
 obtain ⟨L,G,rfl⟩:=Fp p J;have O:(as.zip ts).map (·.2)=ts:=List.map_snd_zip (by lia);have hm:∀q∈as.zip ts,gU H q.1 q.2:=by
  clear p G J O hs nd hl
  induction h with
  | nil=>intro q z;cases z
  | cons r _ F =>
   intro q z;rw [Qv] at z;rcases Nw.mp z with rfl|z
   .exact r
   .exact F q z
 have S:L.map (·.2)=zY ts:=LI nd (by have:=G.map (·.2);rw [O] at this;exact this) (by
  have:=O5.mp hs;exact O5.mpr this)
 rw [<- S,Oi];have:∀M:List (Addr×Tri),(∀q∈M,gU H q.1 q.2)->bI H (M.map ((·.2)∘λq=>(zr q.2,q.1))) (M.map (·.2)):=λM=>by
  induction M with
  | nil=>exact λ_=>.nil
  | cons q M F=>exact λh=>.cons (h q (NX ..)) (F λr hr=>h r (ND _ hr))
 exact this L λq z=>hm q (G.mem_iff.mp z)
def lZ(A:zh):Sp:=λvs H Q _=>∃(p wl sl:Addr)(cells:List Addr)(m:Int)(d:DM),vs=[.ref p]/\zD A H p wl sl cells m d/\cL d/\((nU d).map zr).Nodup/\(nU d).length<64/\TB A H /\
 ∀l as H',zA H H'->TB A H'->H l=none->l≠sysModules->H' l=some (.lst (as.map V.ref))->bI H' as (zY (nU d))->Q (.ref l) H'
theorem mj:zt ["disk","found","stretch"] V8 (zi fX):=fsc
theorem MP(F:Fun K VW VW fX f fd)(hc:fd.code = .ref c)(LB:fM mg base (.ref c) A.J7)(T:Txt w K mg A)(Z6:GM P w K mg base true 1 A.tj VR Zn (dA A λ_ d=>.int d.rows.length))(Zw:GF P w K mg base true 8 "rows_in" Xv (nN A)):zm P w K mg base CX0 true 9 f fd V8 (lZ A):=by
 refine F.bD hc mj (λvs H Q E h=>?_) (λAr outer s H vs Q E hr h=>?_)
 .obtain ⟨p,wl,sl,cells,m,d,rfl,_⟩:=h;rfl
 .obtain ⟨p,wl,sl,cells,m,d,rfl,D,tx,nd,Yc,tb,q⟩:=h;refine ⟨_,(W.h (ze (zy (i:=1) mj.nd rfl (NC rfl) (ay zc))
   (ze (bN OW.never (λ_=>rfl) (dP rfl T.z4 (zb (m0D (bh (clE (za 0)) T.pw Z6 hr)) zc)) (zz (i:=2) mj.nd rfl (NC rfl))
   (zg (ax (MQ (za 1) (caD (zq Zw hr rfl (clP (zb (za 0) (zb (za 2) zc)))))))))
   (zg (zw (vw LB hr rfl T.SV (za 1) rfl rfl (λ_ _ _ _ _=>rfl) rfl rfl rfl rfl)))))),?_⟩
  have ag:=tx.len;ac_rfl;refine ⟨by decide,λl H1 U _=>?_⟩;have D1:=D.qb (.of U.same);obtain ⟨dx,h1⟩:=D1.ob;erw [h1,kL];refine ⟨p,wl,sl,cells,m,d,rfl,D1,?_⟩;ac_rfl;have er:((d.rows.length:Nat):Int).toNat=d.rows.length:=by lia
  rw [er];refine ⟨by lia,by lia,aA.rng (C6 H p l d) ⟨⟨_,rfl⟩,U.same,U.no,[],U.at_,.nil,Nq _⟩ ?_ ?_⟩
  .rintro i σ H2 hi ⟨⟨t1,rfl⟩,J,Z,as,hl,S,ha⟩;have ej:(0+(i:Int))=((i:Nat):Int):=by lia
   erw [hl,ej];refine ⟨p,wl,sl,cells,m,d,i,rfl,D.qb (.of J),tx,hi,λl2 bs H3 G n3 h3 t3=>?_⟩;have WN:=G _ _ hl;have hb:bs.length<=32:=by
    have e1:=zW t3;have e2:∀(r:List Tx) k j,(rIn r k j).length<=j:=λr k j=>by
     induction j with
     | zero=>exact Nq _
     | succ j ih=>show (rIn r k j++_).length<=_;rw [NY];have:=rq (rdT (r.getD j none)) k j;lia
    have:=e2 (d.rows.getD i []) i (d.rows.getD i []).length;have:=(tx.ok _ (eV (x:=[]) hi)).1;lia
   erw [WN,h3];refine ⟨by rw [KE,KE];exact aM (by lia),⟨_,rfl⟩,λc o e=>?_,Z,as++bs,by rw [zx];simp,?_,by simp;lia⟩
   .rw [zd (zE e Z)];exact G _ _ (J _ _ e)
   .have up:∀{b xs},H3 b=some (.tup xs)->upd H3 l (.lst (map V.ref as++map V.ref bs)) b=some (.tup xs):=λ{b xs} e=>by rw [zd (λz=>by rw [z,WN] at e;cases e)];exact e
    exact dc (Paired.yz S λx t ⟨r',g1,g2⟩=>⟨r',up (G _ _ g1),up (G _ _ g2)⟩) (Paired.yz t3 λx t ⟨r',g1,g2⟩=>⟨r',up g1,up g2⟩)
  .rintro σ H2 ⟨⟨t1,rfl⟩,J,Z,as,hl,S,ha⟩;ac_rfl;have Z7:=zW S;have O:=tb.same J;refine ⟨as,hl,O.w,by rw [Z7];exact Yc,(nU d).map zr,xV S λt h=>iZ h,λD2 zs H3 L3 T3 f3 ai ab e3 pz sz=>?_⟩;have G:zA H2 H3:=zA.lam L3 O.w;have Xd:TB A H3:=⟨T3,jD O.l λa o e h=>L3 a o (λz=>?_) e,O.ne⟩
   .refine q D2 (zs.map (·.2)) H3 ((zA.of J).trans G) Xd (J.free f3) ab (by rw [e3,Oi];rfl) ((sE S pz sz nd).qb G)
   .obtain ⟨ps,Yd⟩:=yK O.w;rcases h with h|h
    .exact O.ne (z.symm.trans h)
    .rw [z,Yd] at e;cases e;exact h _ rfl
theorem dH(U:List Tri):(zY U).Perm U:=by
 unfold zY;split
 .rename_i h;exact h.choose_spec.1
 .exact .refl _
def cS(t:Tri):Bool:=match t.1 with | .str y::_=>!decide (y=("carry":Str))|_=>true
def dM(ts:List Tri)(hot:Bool):Nat->Option Nat
 | 0=>none
 | i+1=>match ts[i]? with|some t=>if cS t=hot then some t.2.1 else dM ts hot i|none=>dM ts hot i
def ov:Option Nat->V|none=>.non|some n=>.int n
noncomputable def bo(d:DM)(hot:Bool):Option Nat:=dM (zY (nU d)) hot (zY (nU d)).length
def iv(n:Nat):V:=.int n
structure B3(H1:Hp)(p:Addr)(hot:Bool)(ts:List Tri)(i:Nat)(σ:L2.St)(H':Hp):Prop where
 ex:∃t1 t2 t3,σ=[some (V.ref p),some (.bl hot),some (ov (dM ts hot i)),t1,t2,t3]
 same:H'=H1
def yE(A:zh):Sp:=λvs H Q _=>∃(p wl sl:Addr)(cells:List Addr)(m:Int)(d:DM)(hot:Bool),vs=[.ref p,.bl hot]/\zD A H p wl sl cells m d/\cL d/\((nU d).map zr).Nodup/\(nU d).length<64/\TB A H /\
 ∀H',zA H H'->TB A H'->Q (ov (bo d hot)) H'
theorem gY:zt ["disk","is_hot","end","row","stretch","place"] ["disk","is_hot"] (zi nR):=fsc
theorem CD(F:Fun K "end_of" "end_of" nR f fd)(T:Txt w K mg A)(Zd:GF P w K mg base true 9 VW V8 (lZ A)):zm P w K mg base CX0 true 10 f fd ["disk","is_hot"] (yE A):=by
 refine F.o gY λZ2 Ar outer s H vs Q E hr h=>?_;obtain ⟨p,wl,sl,cells,m,d,hot,rfl,D,tx,nd,Yc,tb,q⟩:=h;have hu:_<cLine:=N1 (zO hr);refine ⟨_,(W.h (ze (zy (i:=2) gY.nd rfl (NC rfl) aJ)
   (ze (bN OW.never (λ_=>rfl) (liD (bK (clE (caD (zq Zd hr rfl (clP (zb (za 0) zc))))))) (dW (n:=3) (gsD (zS (zz (i:=3) gY.nd rfl (NC rfl)) (gsD (zS (zz (i:=4) gY.nd rfl (NC rfl)) (gsD (zS (zz (i:=5) gY.nd rfl (NC rfl)) bR)))))))
   (zg (zQ (tD (zG (clO (oE (aV hu))) (clE (cy (oE (eS hu)) (zF zJ (za 3) zl (λ_ _=>rfl)) (cI rfl T.Ve) (zC _))) (clE (za 1)) (zC _)))
   (zg (zy (i:=2) gY.nd rfl (NC rfl) (za 4)))
   zV)))
   (zg (zw (za 2)))))),?_⟩
 ac_rfl;refine ⟨p,wl,sl,cells,m,d,rfl,D,tx,nd,Yc,tb,λl as H1 s1 XZ ln _ hl Z=>?_⟩;have U:=zW Z;ac_rfl;refine ⟨⟨_,SqL.of hl⟩,aA.lst (xs:=as.map V.ref) (B3 H1 p hot (zY (nU d))) ⟨⟨_,_,_,rfl⟩,rfl⟩ (λi σ H' _ I=>by rw [I.same];exact SqL.of hl) ?_ ?_⟩
 .rintro i x σ H' hx ⟨⟨t1,t2,t3,rfl⟩,rfl⟩;rw [NJ] at hx;obtain ⟨a,ha,rfl⟩:=NV.mp hx;have hi:i<(zY (nU d)).length:=by rw [<- U];exact (Nt.mp ha).1
  have G:(zY (nU d))[i]?=some (zY (nU d))[i]:=p8 hi;generalize (zY (nU d))[i]=t at G;obtain ⟨r,e1,J⟩:=aY Z ha G;obtain ⟨y,n,ys,O⟩:=iZ ((dH _).mem_iff.mp (NM G));rw [O] at J;refine ⟨a,_,rfl,SqT.of e1,rfl,?_⟩;have ix:atI (V.str y::V.int n::ys) 0=some (V.str y):=cu (j:=0) (by simp);have S:cS t = !decide (y=("carry":Str)):=by unfold cS;rw [O]
  erw [J,ix];have ep:dM (zY (nU d)) hot (i+1)=if cS t=hot then some t.2.1 else dM (zY (nU d)) hot i:=by
   show (match (zY (nU d))[i]? with|some t=>_|none=>_)=_;rw [G]
  refine aq (λh=>?_) (λh=>?_)
  .exact ⟨⟨_,_,_,by rw [ep,if_pos (by rw [S];exact of_decide_eq_true h)];rfl⟩,rfl⟩
  .exact ⟨⟨_,_,_,by rw [ep,if_neg (by rw [S];exact λz=>h (decide_eq_true z))]⟩,rfl⟩
 .rintro σ H' ⟨⟨t1,t2,t3,rfl⟩,rfl⟩;ac_rfl;have:=q _ s1 XZ;unfold bo at this;rw [KE,U];exact this
abbrev qy:Stmt:=top 61
abbrev mR:Stmt:=top 62
abbrev nM:Stmt:=top 63
abbrev nO:Stmt:=top 64
def But(b:Addr)(H H':Hp):Prop:=∀a o,a≠b->H a=some o->H' a=some o
theorem But.of(s:zj H H'):But b H H':=λa o _ e=>s a o e
theorem But.trans(x:But b H H1)(y:But b H1 H2):But b H H2:=λa o n e=>y a o n (x a o n e)
theorem mV{α:Type}{xs:List α}{i:Int}(F:0<=i)(h1:i<xs.length):∃v,atI xs i=some v/\v∈xs:=by
 have hn:i.toNat<xs.length:=by lia
 have z:atI xs ((i.toNat:Nat):Int)=some xs[i.toNat]:=cu (p8 hn);rw [show ((i.toNat:Nat):Int)=i by lia] at z;exact ⟨_,z,Oj hn⟩
def atD(ns:List Int)(k:Int):Int:=if k<ns.length then ns.getD k.toNat 0 else 0
def uy(K:Frag):Sp:=λvs H Q _=>∃(a:Addr)(ns:List Int)(k:Int),vs=[.ref a,.int k]/\SqL K H a (ns.map V.int)/\0<=k/\Q (.int (atD ns k)) H
theorem E9:zt XQ XQ (zi qy):=fsc
theorem Dj(F:Fun K "_law_cell" "_law_cell" qy f fd)(T:Txt w K mg A):zm P w K mg base CX0 true 1 f fd XQ (uy K):=by
 refine F.o E9 λS J outer s H vs Q E hr h=>?_;obtain ⟨a,ns,k,rfl,G,O,q⟩:=h;refine ⟨_,uF (AN (sQ gZ (pv 1) (vY kG rfl T.wh N8 (dX (pv 0) dQ)) (zC _))
  (qx (pJ (wm xH (pv 0) (pv 1) (λ_ _=>rfl)))) Ap) (qx (pJ rD)),?_⟩
 ac_rfl;refine ⟨_,.inl G,?_⟩;rw [KE];refine aq (λh=>?_) (λh=>?_)
 .have h':k<(ns.length:Int):=of_decide_eq_true h;have hn:k.toNat<ns.length:=by lia
  have e:atD ns k=ns[k.toNat]:=by unfold atD;rw [if_pos h',Nr,p8 hn];rfl
  refine ⟨a,ns.map V.int,k,.int (ns[k.toNat]),rfl,rfl,G,?_,by rw [<- e];exact q⟩;have z:atI (ns.map V.int) ((k.toNat:Nat):Int)=some (.int (ns[k.toNat])):=cu (by rw [NJ,p8 hn];rfl);have kz:((k.toNat:Nat):Int)=k:=by lia
  rw [kz] at z;exact z
 .have h' : ¬ k<(ns.length:Int):=λz=>h (decide_eq_true z);have e:atD ns k=0:=by unfold atD;rw [if_neg h']
  rw [<- e];exact q
theorem kT{a b:V}:atI [a,b] 0=some a:=rfl
theorem jz{a b:V}:atI [a,b] 1=some b:=rfl
theorem IJ:ixN 2 0=some 0:=rfl
theorem Gg:ixN 2 1=some 1:=rfl
structure Pot(H:Hp)(a:Addr):Prop where
 ex:∃x y:Int,H a=some (.lst [.int x,.int y])/\0<=x/\0<=y/\y<2147483647
theorem Pot.same(h:Pot H a)(s:zj H H'):Pot H' a:=let ⟨x,y,e,r⟩:=h.ex;⟨⟨x,y,s _ _ e,r⟩⟩
theorem Pot.ne(h:Pot H a)(n:H l=none):l≠a:=λz=>by
 obtain ⟨x,y,e,_⟩:=h.ex;rw [z,e] at n;cases n
def xt(K:Frag):Sp:=λvs H Q _=>∃(a:Addr)(ns:List Int)(k:Int),vs=[.ref a,.int k]/\SqL K H a (ns.map V.int)/\0<=k/\∀l H',zj H H'->H l=none->Pot H' l->Q (.ref l) H'
theorem Aq:zt ["_law_script","_law_k","_law_cell_here"] XQ (zi mR):=fsc
theorem MG(F:Fun K "_law_pot" "_law_pot" mR f fd)(T:Txt w K mg A)(J:GF P w K mg base true 1 "_law_cell" XQ (uy K)):zm P w K mg base CX0 true 2 f fd XQ (xt K):=by
 refine F.o Aq λU S outer s H vs Q E hr h=>?_;obtain ⟨a,ns,k,rfl,G,O,q⟩:=h;refine ⟨_,(W.h (ze (zy (i:=2) Aq.nd rfl (NC rfl) (caD (zq J hr rfl (clP (zb (za 0) (zb (za 1) zc))))))
   (zg (zw (ay (zb (zL (je rfl) rfl T.TU boot_max (zb zl (zb (zB (oI0 fI) (za 2) (zB (oI pC) zl zl)) zc))) (zb (zB (oI gL) (zB aK (zB (oI gL) (zL JF rfl T.a6 PyProof.Rows.boot_abs (zb (za 2) zc)) zl) (zB cV zl (zB aK (za 1) zl))) zl) zc))))))),?_⟩
 ac_rfl;refine ⟨a,ns,k,rfl,G,O,?_⟩;ac_rfl;refine ⟨⟨by decide,by decide,by decide⟩,by decide,.inl ⟨by decide,by decide⟩,by decide,by decide,λl H1 z _=>q l H1 z.same z.no ⟨⟨_,_,z.at_,?_,?_,?_⟩⟩⟩
 .split<;>lia
 .lia
 .lia
def du:Sp:=λvs H Q _=>∃(a:Addr)(m:Int),vs=[.ref a,.int m]/\Pot H a/\0<m/\m<2 ^ 64/\∀(r:Int) H',But a H H'->Pot H' a->0<=r->r<m->Q (.int r) H'
theorem tJ:zt ["_law_pot_here","_law_many","_law_digit"] Zu (zi nM):=fsc
theorem EG(F:Fun K V0 V0 nM f fd)(T:Txt w K mg A):zm P w K mg base CX0 true 1 f fd Zu du:=by
 refine F.o tJ λZ2 Ar outer s H vs Q E hr h=>?_;obtain ⟨a,m,rfl,⟨x,y,e,S,Z,y1⟩,z,m1,q⟩:=h;refine ⟨_,(W.h (ze (zQ (tD (zG (clO (oI0 h9)) (clE (zF zJ (za 0) zl (λ_ _=>rfl))) (clE zl) (zC _)))
   (ze (cJ (zL Fo rfl T.Vs boot_divmod (zb (zF zJ (za 0) zl (λ_ _=>rfl)) (zb (za 1) zc))) (dW (n:=2) (gsD (zS (eJ (za 0) zl hG) (gsD (zS (zz (i:=2) tJ.nd rfl (NC rfl)) bR))))))
   (zg (zw (za 2))))
   zV)
   (ze (cJ (zB (oI gL) (zB aK (zB cV (zF zJ (za 0) zl (λ_ _=>rfl)) zl) zl) zl) (eJ (za 0) zl hG))
   (zg (zw (zB (oI gL) (zB (oI qh) (zB (oI gL) (zB cV (zF zJ (za 0) zl (λ_ _=>rfl)) (zF zJ (za 0) zl (λ_ _=>rfl))) zl) zl) (za 1))))))),?_⟩
 erw [e,kT,jz];refine aq (λh=>?_) (λh=>?_)
 .refine ⟨z,m1,λp H2 G=>⟨p,_,rfl,SqT.of G.at_,rfl,?_⟩⟩;have U:=G.same _ _ e;erw [U,IJ,kT];refine q _ _ (λc o J O=>by rw [zd J];exact G.same _ _ O) ⟨⟨_,_,zx,Int.ediv_nonneg S (by lia),Z,y1⟩⟩ (Int.emod_nonneg _ (by lia)) (Int.emod_lt_of_pos _ z)
 .erw [Gg,zx,jz];refine ⟨.inr ⟨by decide,by decide⟩,by decide,.inl ⟨by lia,by lia⟩,by decide,⟨by decide,by decide⟩,z,q _ _ (λc o J O=>by rw [zd J];exact O) ⟨⟨_,_,zx,S,by lia,by lia⟩⟩ (Int.emod_nonneg _ (by lia)) (Int.emod_lt_of_pos _ z)⟩
def jb:Sp:=λvs H Q _=>∃(a:Addr),Pot H a/\((∃(l:Addr)(xs:List V),vs=[.ref a,.ref l]/\l≠a/\(H l=some (.lst xs)\/H l=some (.tup xs))/\0<xs.length/\xs.length<=1000/\∀v H',v∈xs->But a H H'->Pot H' a->Q v H') \/
 ∃z:Str,vs=[.ref a,.str z]/\0<z.length/\z.length<=1000/\∀c H',c∈sg z->But a H H'->Pot H' a->Q (.str (c1 c)) H')
theorem Es:zt Ym Ym (zi nO):=fsc
theorem Hz(F:Fun K VS VS nO f fd)(T:Txt w K mg A)(U:GF P w K mg base true 1 V0 Zu du):zm P w K mg base CX0 true 2 f fd Ym jb:=by
 refine F.ok Es (λvs H Q E h=>?_) (λZ2 Ar outer s H vs Q E hr h=>?_)
 .obtain ⟨a,_,⟨l,xs,rfl,_⟩|⟨z,rfl,_⟩⟩:=h<;>rfl
 .refine ⟨_,(W.h (zg (zw (zF zJ (za 1) (caD (zq U hr rfl (clP (zb (za 0) (zb (zL bj rfl T.wh N8 (zb (za 1) zc)) zc))))) (λ_ _=>rfl))))),?_⟩;obtain ⟨a,S,⟨l,xs,rfl,ne,hl,x0,x1,q⟩|⟨z,rfl,z0,z1,q⟩⟩:=h
  .ac_rfl;refine ⟨xs,hl,a,_,rfl,S,by lia,QZ (show (xs.length:Int)<=1000 by lia) (by decide),λr H' bt O G J=>?_⟩;obtain ⟨v,ev,Z⟩:=mV (xs:=xs) G J;rw [hZ];exact ⟨xs,hl.imp (bt _ _ ne) (bt _ _ ne),v,ev,q v H' Z bt O⟩
  .ac_rfl;refine ⟨aM (by lia),a,_,rfl,S,by lia,QZ (show (z.length:Int)<=1000 by lia) (by decide),λr H' bt O G J=>?_⟩;obtain ⟨c,ec,hc⟩:=mV (xs:=sg z) G (by rw [ae];exact J);rw [sU];exact ⟨aM (by lia),c,ec,q c H' hc bt O⟩
end
abbrev OR:=Option (List V)
def de(H:Hp)(v:V)(o:OR):Prop:=match o with|none=>v = .non|some xs=>∃r,v = .ref r/\H r=some (.tup xs)
structure au(H:Hp)(sh:Addr)(shc:List Addr)(rs:List (List OR)):Prop where
 w:H sh=some (.lst (shc.map V.ref))
 len:shc.length=rs.length
 at_:∀i c,shc[i]?=some c->∃vs,H c=some (.lst vs)/\Paired (de H) vs (rs.getD i [])
 nd:(sh::shc).Nodup
theorem de.keep{o:OR}(h:de H v o)(k:∀r xs,H r=some (.tup xs)->H' r=some (.tup xs)):de H' v o:=by
 cases o with
 | none=>exact h
 | some xs=>obtain ⟨r,e,h⟩:=h;exact ⟨r,e,k _ _ h⟩
theorem au.keep{sh:Addr}(h:au H sh shc rs)(k1:∀r xs,H r=some (.tup xs)->H' r=some (.tup xs))(k2:∀b xs,b=sh\/b∈shc->H b=some (.lst xs)->H' b=some (.lst xs)):au H' sh shc rs :=
 ⟨k2 _ _ (.inl rfl) h.w,h.len,λi c hc=>let ⟨vs,e,p⟩:=h.at_ i c hc;⟨vs,k2 _ _ (.inr (NM hc)) e,Paired.yz p λv o r=>r.keep k1⟩,h.nd⟩
theorem au.qb{sh:Addr}(h:au H sh shc rs)(s:zA H H'):au H' sh shc rs:=h.keep (λ_ _ e=>s.tup e) λ_ _ _ e=>s.list e
theorem au.same{sh:Addr}(h:au H sh shc rs)(s:zj H H'):au H' sh shc rs:=h.qb (.of s)
theorem au.cell{sh:Addr}(h:au H sh shc rs){k:Nat}(F:k<rs.length):∃c vs,shc[k]?=some c/\atI (shc.map V.ref) (k:Int)=some (.ref c)/\H c=some (.lst vs)/\Paired (de H) vs (rs.getD k [])/\vs.length=(rs.getD k []).length:=by
 have z:k<shc.length:=by rw [h.len];exact F
 obtain ⟨vs,e,p⟩:=h.at_ k _ (p8 z);exact ⟨_,vs,p8 z,cu (by rw [NJ,p8 z];rfl),e,p,zW p⟩
def rO(l:List OR)(k:Nat):Nat->List Tri
 | 0=>[]
 | j+1=>rO l k j++one (l.getD j none) k j
def wO(rs:List (List OR)):Nat->List Tri
 | 0=>[]
 | i+1=>wO rs i++rO (rs.getD i []) i (rs.getD i []).length
theorem il(l:List Tx)(k:Nat):∀j,rIn l k j=rO (l.map rdT) k j
 | 0=>rfl
 | j+1=>by
  show rIn l k j++_=rO _ k j++_;rw [il l k j];have:(l.map rdT).getD j none=rdT (l.getD j none):=by
   rw [Nr,NJ,Nr];cases l[j]? <;> rfl
  rw [this]
def rdR(rows:List (List Tx)):List (List OR):=rows.map λr=>r.map rdT
theorem bf(rows:List (List Tx))(i:Nat):(rdR rows).getD i []=(rows.getD i []).map rdT:=by
 unfold rdR;rw [Nr,NJ,Nr];cases rows[i]? <;> rfl
theorem wY(rows:List (List Tx)):∀i,wU rows i=wO (rdR rows) i
 | 0=>rfl
 | i+1=>by
  show wU rows i++_=wO _ i++_;rw [wY rows i,bf,KE,il]
theorem jr(l:List OR)(k:Nat):∀j,(rO l k j).length<=j
 | 0=>Nq _
 | j+1=>by show (rO l k j++_).length<=_;have:=jr l k j;rw [NY];have:=rq (l.getD j none) k j;lia
section
variable {P:NB}{w:NQ}{K:Frag}{mg:Str->Option Value}{base:Heap}{A:zh}
structure LRc(H:Hp)(k:Nat)(l:List OR)(j:Nat)(τ:L2.St)(ys:List V)(H':Hp):Prop where
 ex:∃t1 t2,τ=[t1,t2,some (.int (k:Nat))]
 ys:∃as:List Addr,ys=as.map V.ref/\bI H' as (rO l k j)
 same:zj H H'
 le:j<=32
structure C7(H:Hp)(sh:Addr)(rs:List (List OR))(i:Nat)(σ:L2.St)(H':Hp):Prop where
 ex:∃fl t1 t2,σ=[some (V.ref sh),some (.ref fl),t1,t2]/\H fl=none/\∃as:List Addr,H' fl=some (.lst (as.map V.ref))/\bI H' as (wO rs i)
 same:zj H H'
 le:i<=16
def Ax(rs:List (List OR)):Prop:=∀t∈wO rs rs.length,∃y n ys,t.1 = .str y::.int n::ys
def iQ(A:zh):Sp:=λvs H Q _=>∃(sh:Addr)(shc:List Addr)(rs:List (List OR)),vs=[.ref sh]/\au H sh shc rs/\rs.length<=16/\(∀i,(rs.getD i []).length<=32)/\Ax rs/\((wO rs rs.length).map zr).Nodup/\(wO rs rs.length).length<64/\TB A H /\
 ∀l as H',zA H H'->TB A H'->H l=none->l≠sysModules->H' l=some (.lst (as.map V.ref))->bI H' as (zY (wO rs rs.length))->Q (.ref l) H'
theorem iO:zt Wo W6 (zi fu):=fsc
theorem Ey:aG { kind:=.function,names:=[(yv ".0",.local),(yv "_law_place",.local),(yv "_law_row_here",.local),(yv "_law_stretch",.free)],isGenerator:=false,isCoroutine:=false,more:=[] } (zi fu).names Wo Wa [none,none,some 2]=true:=by decide +kernel
theorem u6:(Wa:List Str).Nodup:=by decide +kernel
theorem FP(F:Fun K VY VY fu f fd)(hc:fd.code = .ref c)(LB:fM mg base (.ref c) A.Q2)(T:Txt w K mg A):zm P w K mg base CX0 true 1 f fd W6 (iQ A):=by
 refine F.bD hc iO (λvs H Q E h=>?_) (λAr outer s H vs Q E hr h=>?_)
 .obtain ⟨sh,shc,rs,rfl,_⟩:=h;rfl
 .obtain ⟨sh,shc,rs,rfl,S,hl,ag,ak,nd,Yc,tb,q⟩:=h;have hu:_<cLine:=N1 (zO hr);refine ⟨_,(W.h (ze (zy (i:=1) iO.nd rfl (NC rfl) (ay zc))
   (ze (bN OW.never (λ_=>rfl) (kN rfl T.F6 (zb (za 0) zc)) (dW (n:=2) (gsD (zS (zz (i:=2) iO.nd rfl (Rm rfl)) (gsD (zS (zz (i:=3) iO.nd rfl (NC rfl)) bR)))))
   (zg (zy (i:=1) iO.nd rfl (NC rfl) (zB aK (za 1) (cA (λ_=>rfl) (zU.of Ey) (kN rfl T.F6 (zb (za 3) zc)) (λ_ _ _ _ _=>(gB (n:=2) (gsD (zS (zz (i:=0) u6 rfl (NC rfl)) (gsD (zS (zz (i:=1) u6 rfl (NC rfl)) bR)))))) (λ_ _ _ _ _=>(dU (tD (zG (clO iR) (clE (za 1)) (clE aJ) (zC _))))) (λ_ _ _ _ _=>(aO (zb (za 1) (zb (za 2) (zb (za 0) zc))))))))))
   (zg (zw (vw LB hr rfl T.SV (za 1) rfl rfl (λ_ _ _ _ _=>rfl) rfl rfl rfl rfl)))))),?_⟩
  ac_rfl;refine ⟨by decide,λfl H1 n1 _=>⟨⟨_,SqL.of (n1.same _ _ S.w)⟩,aA.enum (xs:=shc.map V.ref) (C7 H sh rs) ⟨⟨fl,_,_,rfl,n1.no,[],n1.at_,.nil⟩,n1.same,by lia⟩ (λi σ H' _ I=>SqL.of (I.same _ _ S.w)) ?_ ?_⟩⟩
  .rintro i x p σ H2 hx ⟨⟨ai,t1,t2,rfl,f0,as,hf,O⟩,U,le⟩ hp;rw [NJ] at hx;obtain ⟨cc,ab,rfl⟩:=NV.mp hx;have hi:i<rs.length:=by rw [<- S.len];exact (Nt.mp ab).1
   refine ⟨p,_,rfl,SqT.of zx,rfl,?_⟩;have nw:New H2 p (.tup [.int i,.ref cc]) (upd H2 p (.tup [.int i,.ref cc])):=.mk' hp;generalize upd H2 p (.tup [.int i,.ref cc])=H3 at nw ⊢;have S3:=S.same (U.trans nw.same);obtain ⟨vs,hv,pv⟩:=S3.at_ i cc ab;have lv:=zW pv;have a0:=ag i;have Z:=nw.same _ _ hf;erw [Z];refine ⟨⟨_,SqL.of hv⟩,zT.enum (xs:=vs) (LRc H3 i (rs.getD i [])) (λj τ ys H' I=>?_) (λj τ ys H' I=>SqL.of (I.same _ _ hv)) ⟨⟨_,_,rfl⟩,⟨[],rfl,.nil⟩,zj.refl _,by lia⟩ ?_ ?_⟩
   .obtain ⟨bs,e,tl⟩:=I.ys;have:=zW tl;have:=jr (rs.getD i []) i j;have:=I.le;rw [e,KE];exact aF (by lia)
   .intro N j x p2 τ ys H4 hx I aj hN;obtain ⟨t1,t2,rfl⟩:=I.ex;obtain ⟨bs,e,tl⟩:=I.ys;have hj:j<(rs.getD i []).length:=by rw [<- lv];exact (Nt.mp hx).1
    have ho:(rs.getD i [])[j]?=some (rs.getD i [])[j]:=p8 hj;have hr:=aY pv hx ho;have eg:(rs.getD i []).getD j none=(rs.getD i [])[j]:=by rw [Nr,ho];rfl
    generalize (rs.getD i [])[j]=o at hr eg;refine ⟨p2,_,rfl,SqT.of zx,rfl,?_⟩;have G:New H4 p2 (.tup [.int j,x]) (upd H4 p2 (.tup [.int j,x])):=.mk' aj;generalize upd H4 p2 (.tup [.int j,x])=H5 at G ⊢;have er:rO (rs.getD i []) i (j+1)=rO (rs.getD i []) i j++one o i j:=by
     show rO _ i j++_=_;rw [eg]
    cases o with
    | none =>
     cases (show x=V.non from hr);ac_rfl;exact hN _ _ _ ⟨⟨_,_,rfl⟩,⟨bs,e,by rw [er];exact (O8 (rO (rs.getD i []) i j)).symm ▸ tl.same G.same⟩,I.same.trans G.same,by lia⟩
    | some row =>
     obtain ⟨r,rfl,av⟩:=hr;ac_rfl;refine ⟨by decide,λp6 H6 J=>hN _ _ _ ⟨⟨_,_,rfl⟩,⟨bs++[p6],by rw [e];simp,?_⟩,(I.same.trans G.same).trans J.same,by lia⟩⟩;rw [er];exact dc (tl.same (G.same.trans J.same)) (.cons ⟨r,J.at_,J.same _ _ (G.same _ _ (I.same _ _ av))⟩ .nil)
   .intro τ ys H4 I D H5 n5 _;obtain ⟨bs,e,tl⟩:=I.ys;rw [lv] at tl;have l1:=zW tl;have l2:=jr (rs.getD i []) i (rs.getD i []).length;have l3:=zW O;have s5:zj H3 H5:=I.same.trans n5.same;have l4:(wO rs i).length<=32*i:=by
     clear O hf Z l3;have:∀n,n<=16->(wO rs n).length<=32*n:=λn=>by
      induction n with
      | zero=>exact λ_=>Nq _
      | succ n ih =>
       intro hn;show (wO rs n++_).length<=_;have:=ih (by lia);have:=jr (rs.getD n []) n (rs.getD n []).length;have:=ag n;rw [NY];lia
     exact this i le
    rw [ib];refine ⟨_,_,s5 _ _ Z,n5.at_,aM (by rw [e];simp;lia),λp6 H6 J=>?_⟩;refine ⟨⟨p6,_,_,rfl,?_,as++bs,by rw [J.at_,e];simp,?_⟩,(U.trans nw.same).trans (s5.trans J.same),by lia⟩
    .exact ((U.trans nw.same).trans s5).free J.no
    .exact dc (O.same ((nw.same.trans s5).trans J.same)) (tl.same (n5.same.trans J.same))
  .rintro σ H2 ⟨⟨ai,t1,t2,rfl,f0,as,hf,O⟩,U,le⟩;rw [KE,S.len] at O;have Z7:=zW O;have Yh:=tb.same U;ac_rfl;refine ⟨as,hf,Yh.l,by rw [Z7];exact Yc,(wO rs rs.length).map zr,xV O ak,λD2 zs H3 L3 T3 f3 a3 aT e3 pz sz=>?_⟩;have s3:zA H2 H3:=zA.lam L3 Yh.l;have Xd:TB A H3:=⟨jD Yh.w λa o e h=>L3 a o (λz=>?_) e,T3,Yh.ne⟩
   .refine q D2 (zs.map (·.2)) H3 ((zA.of U).trans s3) Xd (U.free f3) aT (by rw [e3,Oi];rfl) ((sE O pz sz nd).qb s3)
   .obtain ⟨ps,Yd⟩:=yK Yh.l;rcases h with h|h
    .exact Yh.ne (h.symm.trans z)
    .rw [z,Yd] at e;cases e;exact h _ rfl
theorem rS{U:List Tri}(nd:(U.map zr).Nodup){s t:Tri}(hs:s∈U)(z:t∈U)(h:zr s=zr t):s=t:=by
 obtain ⟨i,hi,rfl⟩:=Ov hs;obtain ⟨j,F,rfl⟩:=Ov z;have:i=j:=by
  have h1:(U.map zr)[i]?=(U.map zr)[j]?:=by rw [NJ,NJ,p8 hi,p8 F];simpa using h
  exact (RI (by simpa using hi) nd).mp h1
 subst this;rfl
theorem hV{k:Nat}{t:Tri}:∀{j:Nat},t∈rO l k j↔∃i,i<j/\l.getD i none=some t.1/\t.2=(k,i)
 | 0=>by simp [rO]
 | j+1=>by
  show t∈rO l k j++one (l.getD j none) k j↔_;rw [Og,hV (j:=j)];constructor
  .rintro (⟨i,h1,h2,h3⟩|h)
   .exact ⟨i,by lia,h2,h3⟩
   .cases e:l.getD j none with
    | none=>rw [e] at h;cases h
    | some row =>
     rw [e] at h;have h:t=(row,k,j):=NG.mp h;exact ⟨j,by lia,by rw [h];exact e,by rw [h]⟩
  .rintro ⟨i,h1,h2,h3⟩;by_cases hi:i<j
   .exact .inl ⟨i,hi,h2,h3⟩
   .have:i=j:=by lia
    subst this;refine .inr ?_;rw [h2];refine NG.mpr ?_;rw [<- h3]
theorem bX{t:Tri}:∀{n:Nat},t∈wO rs n↔t.2.1<n/\t.2.2<(rs.getD t.2.1 []).length/\(rs.getD t.2.1 []).getD t.2.2 none=some t.1
 | 0=>by simp [wO]
 | n+1=>by
  show t∈wO rs n++rO (rs.getD n []) n (rs.getD n []).length↔_;rw [Og,bX (n:=n),hV];constructor
  .rintro (⟨h1,h2⟩|⟨i,h1,h2,h3⟩)
   .exact ⟨by lia,h2⟩
   .rw [h3];exact ⟨by simp,h1,h2⟩
  .rintro ⟨h1,h2,h3⟩;by_cases hn:t.2.1<n
   .exact .inl ⟨hn,h2,h3⟩
   .have:t.2.1=n:=by lia
    exact .inr ⟨t.2.2,by rw [<- this];exact h2,by rw [<- this];exact h3,by rw [<- this]⟩
theorem Ba{k:Nat}:∀j,(rO l k j).Nodup
 | 0=>.nil
 | j+1=>by
  show (rO l k j++one (l.getD j none) k j).Nodup;rw [QI];refine ⟨Ba j,by cases l.getD j none<;>simp [one],λa ha b hb e=>?_⟩;subst e;obtain ⟨i,h1,_,h3⟩:=hV.mp ha;cases z:l.getD j none with
  | none=>rw [z] at hb;cases hb
  | some row =>
   rw [z] at hb;have hb:a=(row,k,j):=NG.mp hb;rw [hb] at h3;have:j=i:=congrArg Prod.snd h3;lia
theorem nv:∀n,(wO rs n).Nodup
 | 0=>.nil
 | n+1=>by
  show (wO rs n++rO (rs.getD n []) n (rs.getD n []).length).Nodup;rw [QI];refine ⟨nv n,Ba _,λa ha b hb e=>?_⟩;subst e;have h1:=(bX.mp ha).1;obtain ⟨i,_,_,h3⟩:=hV.mp hb;have:a.2.1=n:=by rw [h3]
  lia
theorem fq{α:Type}{l:List α}{k i:Nat}{x d:α}(z:k<l.length):(l.set k x).getD i d=if i=k then x else l.getD i d:=by
 rw [Nr,Nr];by_cases h:i=k
 .rw [if_pos h,h,Qp z];rfl
 .rw [if_neg h,QU (NO h)]
theorem KJ{α:Type}{l m:List α}{d:α}(h:b<l.length):(l++m).getD b d=l.getD b d:=by
 rw [Nr,Nr,Pu h]
theorem w9{α:Type}{l:List α}{x d:α}:(l++[x]).getD l.length d=x:=by
 rw [Nr,Pa (Nq _)];simp
theorem DB{k:Nat}{o:OR}(z:k<rs.length){t:Tri}:t∈wO (rs.set k (rs.getD k []++[o])) (rs.set k (rs.getD k []++[o])).length↔t∈wO rs rs.length\/(o=some t.1/\t.2=(k,(rs.getD k []).length)):=by
 obtain ⟨row,a,b⟩:=t;rw [bX,bX,Pe,fq z];show a<rs.length/\b<length (if a=k then rs.getD k []++[o] else rs.getD a [])/\List.getD (if a=k then rs.getD k []++[o] else rs.getD a []) b none=some row↔_;by_cases ha:a=k
 .rw [if_pos ha];subst ha;rw [NY,QJ];by_cases hb:b<(rs.getD a []).length
  .have e:(rs.getD a []++[o]).getD b none=(rs.getD a []).getD b none:=KJ hb;rw [e];constructor
   .rintro ⟨h1,_,h3⟩;exact .inl ⟨h1,hb,h3⟩
   .rintro (⟨h1,_,h3⟩|⟨_,h⟩)
    .exact ⟨h1,by lia,h3⟩
    .injection h with _ h;lia
  .constructor
   .rintro ⟨h1,h2,h3⟩;have F:b=(rs.getD a []).length:=by lia
    rw [F,w9] at h3;exact .inr ⟨h3,by rw [F]⟩
   .rintro (⟨_,h2,_⟩|⟨h1,h⟩)
    .exact absurd h2 hb
    .injection h with _ h
     refine ⟨z,by lia,?_⟩;rw [h,w9];exact h1
 .rw [if_neg ha];constructor
  .exact λh=>.inl h
  .rintro (h|⟨_,h⟩)
   .exact h
   .injection h with h _;exact absurd h ha
theorem L5{k:Nat}(z:k<rs.length){t:Tri}:t∈wO (rs.set k []) (rs.set k []).length↔t∈wO rs rs.length/\t.2.1≠k:=by
 rw [bX,bX,Pe,fq z];by_cases ha:t.2.1=k
 .rw [if_pos ha];constructor
  .rintro ⟨_,h,_⟩;simp at h
  .rintro ⟨_,h⟩;exact absurd ha h
 .rw [if_neg ha];exact ⟨λh=>⟨h,ha⟩,λh=>h.1⟩
abbrev oM:Stmt:=aC (top 55) 10
theorem Dy:zR "written" (.ref x) (zI m wl sl d)=zI m x sl d:=by kernel_rfl
theorem MR:zR "at_sides" (.ref x) (zI m wl sl d)=zI m wl x d:=by kernel_rfl
structure Fg(H:Hp)(rows:List (List Tx))(i:Nat)(τ:L2.St)(ys:List V)(H':Hp):Prop where
 τ:∃t,τ=[t]
 ex:∃cs:List Addr,ys=cs.map V.ref/\cs.length=i/\(∀j c,cs[j]?=some c->H' c=some (.lst ((rows.getD j []).map tv)))/\(∀c∈cs,H c=none)/\cs.Nodup
 same:zj H H'
 le:i<=16
theorem Fn(h1:d.cnt=d'.cnt)(h2:d.left=d'.left)(h3:d.st=d'.st):zI m wl sl d=zI m wl sl d':=by unfold zI;rw [h1,h2,h3]
theorem x9:zt V9 Zn (zi jA):=fsc
theorem Kx:aG { kind:=.function,names:=[(yv ".0",.local),(yv "texts",.local),(yv "list",.globalImplicit)],isGenerator:=false,isCoroutine:=false,more:=[] } (zi jA).names V9 ["texts"] [none]=true:=by decide +kernel
theorem HQ:(["texts"]:List Str).Nodup:=by decide +kernel
theorem DF(F:Fun K VO "Disk.copied" jA f fd)(T:Txt w K mg A)(Z6:GM P w K mg base cm 1 A.tj VR Zn (dA A λ_ d=>.int d.rows.length))(Yz:GC P w K mg base cm 3 "Disk" A.tj X4 (ng A)):zm P w K mg base CX0 cm 5 f fd Zn (uG A):=by
 refine F.o x9 λZ2 Ar outer s H vs Q E hr h=>?_;obtain ⟨p,wl,sl,cells,m,d,rfl,D,r3,a7,m0,m1,q⟩:=h;obtain ⟨dx,h1⟩:=D.ob;refine ⟨_,(W.h (ze (zy (i:=1) x9.nd rfl (NC rfl) (qP Yz hr rfl (zb (m0D (bh (clE (za 0)) T.pw Z6 hr)) (zb (fD (aa T.pw T.Bn (clE (za 0)))) zc))))
   (ze (sfD (bz T.pw T.q0 (clE (za 1)) (clE (cA (by intro h;exact nomatch h) (zU.of Kx) (liD (Ik (clE (fD (aa T.pw T.q0 (clE (za 0))))))) (λ_ _ _ _ _=>(zz (i:=0) HQ rfl (NC rfl))) (λ_ _ _ _ _=>di) (λ_ _ _ _ _=>(fe tP rfl T.Vq boot_list (zb (za 0) zc)))))))
   (ze (sfD (bz T.pw T.xy (clE (za 1)) (clE (fe tP rfl T.Vq boot_list (zb (fD (aa T.pw T.xy (clE (za 0)))) zc)))))
   (ze (sfD (bz T.pw T.vl (clE (za 1)) (clE (fD (aa T.pw T.vl (clE (za 0)))))))
   (zg (zw (za 1)))))))),?_⟩
 erw [h1,kL];refine ⟨p,wl,sl,cells,m,d,rfl,D,?_⟩;erw [h1,mz];intro x Xt H2 n2;refine ⟨x,Xt,d.rows.length,m,rfl,n2.at_,by lia,by lia,m0,m1,λa9 O a0 H3 D3 kp fr=>⟨rfl,?_⟩⟩;have s3:zj H H3:=λb o e=>kp b o (n2.same b o e) (zE e n2.no);have Dk:zD A H3 p wl sl cells m d:=D.keep (F:=[]) (zu.same s3) (λx _ z=>nomatch z);obtain ⟨G,g3⟩:=D3.ob;obtain ⟨ab,gk⟩:=Dk.ob;have px:p≠x:=zE h1 n2.no;erw [gk,g9,cz];refine ⟨⟨_,SqL.of Dk.rows.w⟩,zT.lst (xs:=cells.map V.ref) (Fg H3 d.rows) (λi τ ys H' I=>?_) (λi τ ys H' I=>SqL.of (I.same _ _ Dk.rows.w)) ⟨⟨_,rfl⟩,⟨[],rfl,rfl,by simp,by simp,nodup_nil⟩,zj.refl _,by decide⟩ ?_ ?_⟩
 .obtain ⟨cs,e,l,_⟩:=I.ex;rw [e,KE,l];exact oO (N6 I.le (by decide))
 .intro N i v τ ys H' hi I hN;obtain ⟨t,rfl⟩:=I.τ;obtain ⟨cs,e,l,hc,hf,Xm⟩:=I.ex;rw [NJ] at hi;obtain ⟨c,ag,rfl⟩:=NV.mp hi;have a4:=I.same _ _ (Dk.rows.at_ i c ag);have a8:i<cells.length:=(Nt.mp ag).1;erw [a4];intro c2 H4 n4;refine hN _ _ _ ⟨⟨_,rfl⟩,⟨cs++[c2],by rw [e,Oa];rfl,by simp [l],λj b hb=>?_,λb hb=>?_,?_⟩,I.same.trans n4.same,by have:=Dk.rows.len;lia⟩
  .by_cases hj:j<cs.length
   .rw [Pu hj] at hb;exact n4.same _ _ (hc j b hb)
   .have av:j<(cs++[c2]).length:=(Nt.mp hb).1;have ak:j=cs.length:=by rw [NY] at av;simp at av;lia
    rw [ak,Pa (Nq _)] at hb;simp at hb;subst hb;rw [ak,l];exact n4.at_
  .rcases Og.mp hb with hb|hb
   .exact hf b hb
   .rw [NG] at hb;subst hb;exact I.same.free n4.no
  .refine QI.mpr ⟨Xm,by simp,λa ha b hb=>?_⟩;rw [NG] at hb;subst hb;obtain ⟨j,hj⟩:=RA ha;exact zE (hc j a hj) n4.no
 .intro τ ys H4 I W H5 nW;obtain ⟨cs,e,l,hc,hf,Xm⟩:=I.ex;rw [KE] at l;have J:zj H3 H5:=I.same.trans nW.same;have g5:=J _ _ g3;have k5:=J _ _ gk;have w5:=nW.at_;rw [e] at w5;have a3:(upd H5 x (.ins A.tj G (zI m W O (DM.new d.rows.length)))) sl=some (.lst (d.sides.map tv)):=by
   rw [zd (zE D.sides n2.no)];exact J _ _ Dk.sides
  have aT:(upd H5 x (.ins A.tj G (zI m W O (DM.new d.rows.length)))) p=some (.ins A.tj ab (zI m wl sl d)):=by rw [zd px];exact k5
  have e0:(d.rows.length:Int).toNat=d.rows.length:=by lia
  rw [e0] at g5;erw [g5,Dy,iu,aT,Ad,a3];intro S H6 n6;have x6:H6 x=some (.ins A.tj G (zI m W O (DM.new d.rows.length))):=n6.same _ _ zx;have p6:=n6.same _ _ aT;have p7:(upd H6 x (.ins A.tj G (zI m W S (DM.new d.rows.length)))) p=some (.ins A.tj ab (zI m wl sl d)):=by rw [zd px];exact p6
  erw [x6,MR,iu,p7,kR,zx,oG,eI];have xW:x≠W:=zE (I.same _ _ g3) nW.no;have xS:x≠S:=zE zx n6.no;have WS:W≠S:=zE (show (upd H5 x (.ins A.tj G (zI m W O (DM.new d.rows.length)))) W=some _ by rw [zd (NO xW)];exact w5) n6.no;have Z:∀c∈cs,c≠x:=λc U=>NO (zE g3 (hf c U));have aj:∀c∈cs,∃o,H5 c=some o:=λc U=>by
   obtain ⟨j,hj⟩:=RA U;exact ⟨_,nW.same _ _ (hc j c hj)⟩
  have a5:∀c∈cs,c≠W:=λc U=>by
   obtain ⟨j,hj⟩:=RA U;exact zE (hc j c hj) nW.no
  have a6:∀c∈cs,c≠S:=λc U=>by
   obtain ⟨o,ho⟩:=aj c U;exact zE (show (upd H5 x (.ins A.tj G (zI m W O (DM.new d.rows.length)))) c=some o by rw [zd (Z c U)];exact ho) n6.no
  have up:∀b o,b≠x->H5 b=some o->H6 b=some o:=λb o hb h=>n6.same _ _ (by rw [zd hb];exact h);have Sn:H S=none:=s3.free (J.free (by have z:=n6.no;rw [zd (NO xS)] at z;exact z));refine q x W S cs _ ⟨⟨G,?_⟩,⟨?_,?_,λi c hi=>?_⟩,?_,?_⟩ (λb o hb=>?_) (λb hb=>?_)
  .exact zx.trans (congrArg (λl=>some (HO.ins A.tj G l)) (Fn (d':=d.copy) rfl rfl rfl))
  .rw [zd (NO xW)];exact up _ _ (NO xW) w5
  .rw [l];exact Dk.rows.len
  .have U:=NM hi;rw [zd (Z c U)];exact up _ _ (Z c U) (nW.same _ _ (hc i c hi))
  .rw [zd (NO xS)];exact n6.at_
  .simp only [OO,Nw,not_or];exact ⟨⟨xW,xS,λz=>Z x z rfl⟩,⟨WS,λz=>a5 W z rfl⟩,λz=>a6 S z rfl,Xm⟩
  .have ai:b≠x:=zE hb n2.no;rw [zd ai];exact up _ _ ai (J _ _ (s3 _ _ hb))
  .simp only [Nw] at hb;rcases hb with rfl|rfl|rfl|hb
   .exact n2.no
   .exact s3.free (I.same.free nW.no)
   .exact Sn
   .exact s3.free (hf b hb)
def DM.stop(d:DM)(x:Int):DM:={ d with left:=some x }
def pQ(A:zh):Sp:=λvs H Q _=>∃(p wl sl:Addr)(cells:List Addr)(m:Int)(d:DM)(x:Int),vs=[.ref p,.int x]/\zD A H p wl sl cells m d/\∀H',zD A H' p wl sl cells m (d.stop x)->zu [p] H H'->Q .non H'
theorem KI:zt WH WH (zi oM):=fsc
theorem M3(F:Fun K "stop" "Disk.stop" oM f fd)(T:Txt w K mg A):zm P w K mg base CX0 cm 1 f fd WH (pQ A):=by
 refine F.o KI λG z outer s H vs Q E hr h=>?_;obtain ⟨p,wl,sl,cells,m,d,x,rfl,D,q⟩:=h;obtain ⟨dx,h1⟩:=D.ob;refine ⟨_,(W.h (zg (sfD (bz T.pw T.z3 (clE (za 0)) (clE (za 1)))))),?_⟩;erw [h1,my];exact ⟨iu,q _ (D.obj (d':=d.stop x) rfl rfl) (zu.upd (by simp))⟩
abbrev lu:Stmt:=top 42
abbrev lL:Stmt:=top 43
def clo(G:Nat->Nat)(z F:Option Nat):Nat->List Nat
 | 0=>[]
 | i+1=>clo G z F i++if G i≠0/\z≠some i/\F≠some i then [i] else []
theorem lK(G:Nat->Nat)(F z:Option Nat):∀i,(clo G F z i).length<=i
 | 0=>Nq _
 | i+1=>by show (clo G F z i++_).length<=_;have:=lK G F z i;rw [NY];split<;>simp<;>lia
theorem qC{k:Nat}:∀{n:Nat},k∈clo G F z n↔k<n/\G k≠0/\F≠some k/\z≠some k
 | 0=>by simp [clo]
 | n+1=>by
  show k∈clo G F z n++_↔_;rw [Og,qC (n:=n)];constructor
  .rintro (⟨h1,h2⟩|h)
   .exact ⟨by lia,h2⟩
   .split at h
    .rw [NG] at h;subst h;exact ⟨by lia,by assumption⟩
    .cases h
  .rintro ⟨h1,h2⟩;by_cases J:k<n
   .exact .inl ⟨J,h2⟩
   .have:k=n:=by lia
    subst this;exact .inr (by rw [if_pos h2];exact NG.mpr rfl)
def Fr(H:Hp)(l:Addr):Prop:=∀o,(∀ps,o≠.tbl ps)->H l≠some o
theorem zA.fr(s:zA H H')(h:H' l=none):Fr H l:=λo no e=>by
 have:=s _ _ no e;rw [h] at this;cases this
theorem Fr.back(s:zA H H')(h:Fr H' l):Fr H l:=λo no e=>h o no (s _ _ no e)
def lnD(d:DM)(i:Nat):Nat:=(d.rows.getD i []).length
theorem sN{k:Nat}:inV (.int k) [ov G,ov F]=(decide (G=some k)||decide (F=some k)):=by
 have h:∀o:Option Nat,eqV (ov o) (.int k)=decide (o=some k):=λo=>by
  cases o with
  | none=>rfl
  | some n =>
   show decide ((n:Int)=(k:Int))=_;by_cases h:n=k
   .rw [decide_eq_true (by lia),decide_eq_true (by rw [h])]
   .rw [decide_eq_false (by lia),decide_eq_false (λz=>h (by injection z))]
 unfold inV;simp only [Rx,List.any_nil,QQ];rw [h G,h F]
theorem yL:[ov F,ov z].all ah=true:=by cases F<;>cases z<;>rfl
structure Jl(H:Hp)(p tp:Addr)(ln:Nat->Nat)(e1 e0:Option Nat)(i:Nat)(τ:L2.St)(ys:List V)(H':Hp):Prop where
 ex:∃t,τ=[t,some (V.ref p),some (V.ref tp)]
 ys:ys=(clo ln e1 e0 i).map iv
 same:H'=H
 le:i<=16
theorem Ah{N:L2.St->List V->Hp->Prop}(S:ys=(clo z G F i).map iv)(h:∀J,J=(clo z G F (i+1)).map iv->N τ J H)(b:Bool)(hb:b=(decide (z i≠0) && !(decide (G=some i)||decide (F=some i)))):
  if b=true then N τ (ys++[.int i]) H else N τ ys H:=by
 have O:clo z G F (i+1)=clo z G F i++if z i≠0/\G≠some i/\F≠some i then [i] else []:=rfl;by_cases hc:z i≠0/\G≠some i/\F≠some i
 .rw [hb,decide_eq_true hc.1,decide_eq_false hc.2.1,decide_eq_false hc.2.2];exact h _ (by rw [S,O,if_pos hc,Oa];rfl)
 .have:b=false:=by
   rw [hb];by_cases h1:z i≠0
   .by_cases h2:G=some i
    .rw [decide_eq_true h2];simp
    .by_cases h3:F=some i
     .rw [decide_eq_true h3];simp
     .exact absurd ⟨h1,h2,h3⟩ hc
   .rw [decide_eq_false h1];rfl
  rw [this];exact h _ (by rw [S,O,if_neg hc,O8])
def uu(A:zh):Sp:=λvs H Q _=>∃(p wl sl:Addr)(cells:List Addr)(m:Int)(d:DM),vs=[.ref p]/\zD A H p wl sl cells m d/\cL d/\((nU d).map zr).Nodup/\(nU d).length<64/\TB A H /\
 ∀l H',zA H H'->TB A H'->Fr H l->l≠sysModules->H' l=some (.lst ((clo (lnD d) (bo d true) (bo d false) d.rows.length).map iv))->Q (.ref l) H'
theorem A0:zt ["disk","ends"] V8 (zi lu):=fsc
theorem Ho:aG { kind:=.function,names:=[(yv ".0",.local),(yv "stretch",.local),(yv "disk",.free),(yv "ends",.free)],isGenerator:=false,isCoroutine:=false,more:=[] } (zi lu).names ["disk","ends"] ["stretch","disk","ends"] [none,some 0,some 1]=true:=by decide +kernel
theorem GU:(["stretch","disk","ends"]:List Str).Nodup:=by decide +kernel
theorem Lg(F:Fun K "closed" "closed" lu f fd)(T:Txt w K mg A)(YD:GF P w K mg base true 10 "end_of" ["disk","is_hot"] (yE A))(Z6:GM P w K mg base true 1 A.tj VR Zn (dA A λ_ d=>.int d.rows.length))(ZY:GM P w K mg base true 1 A.tj VD Xw (ml A)):zm P w K mg base CX0 true 11 f fd V8 (uu A):=by
 refine F.o A0 λZ2 Ar outer s H vs Q E hr h=>?_;obtain ⟨p,wl,sl,cells,m,d,rfl,D,tx,nd,Yc,tb,q⟩:=h;have hu:_<cLine:=N1 (zO hr);have hl:=tx.len;refine ⟨_,(W.h (ze (zy (i:=1) A0.nd rfl (Rm rfl) (aO (zb (caD (zq YD hr rfl (clP (zb (za 0) (zb bW zc))))) (zb (caD (zq YD hr rfl (clP (zb (za 0) (zb bW zc))))) zc))))
   (zg (zw (cA (λ_=>rfl) (zU.of Ho) (dP rfl T.z4 (zb (m0D (bh (clE (za 0)) T.pw Z6 hr)) zc)) (λ_ _ _ _ _=>(zz (i:=0) GU rfl (NC rfl))) (λ_ _ _ _ _=>(dU (cH (fo (tD (zG (clO (oI0 h9)) (clE (mD (bS (clE (za 1)) T.pw ZY hr (clP (zb (za 0) zc))))) (clE zl) (zC _))) (fG (tD (zG (clO (yo hu)) (clE (za 0)) (clE (za 2)) rfl))))))) (λ_ _ _ _ _=>(za 0))))))),?_⟩
 ac_rfl;refine ⟨p,wl,sl,cells,m,d,true,rfl,D,tx,nd,Yc,tb,λH1 s1 XZ=>?_⟩;ac_rfl;refine ⟨p,wl,sl,cells,m,d,false,rfl,D.qb s1,tx,nd,Yc,XZ,λH2 s2 Yh=>?_⟩;ac_rfl;refine ⟨by decide,λtp H3 n3=>?_⟩;have O:zA H H3:=(s1.trans s2).trans (.of n3.same);have Xd:=Yh.same n3.same;have Z:=D.qb O;obtain ⟨dx,h1⟩:=Z.ob;erw [h1,kL];refine ⟨p,wl,sl,cells,m,d,rfl,Z,?_⟩;ac_rfl;have er:((d.rows.length:Nat):Int).toNat=d.rows.length:=by lia
 rw [er];refine ⟨by lia,by lia,zT.bx (Jl H3 p tp (lnD d) (bo d true) (bo d false)) (λi τ ys H' I=>?_) ⟨⟨_,rfl⟩,rfl,rfl,by lia⟩ ?_ ?_⟩
 .rw [I.ys,KE];exact aF (by have:=lK (lnD d) (bo d true) (bo d false) i;have:=I.le;lia)
 .intro N i τ ys H' hi I hN;obtain ⟨t,rfl⟩:=I.ex;have e:=I.same;subst e;have ej:(0+(i:Int))=((i:Nat):Int):=by lia
  erw [h1,yk,ej];refine ⟨p,wl,sl,cells,m,d,i,rfl,Z,hi,?_⟩;ac_rfl;have Yn:inV (V.int i) [ov (bo d true),ov (bo d false)]=(decide (bo d true=some i)||decide (bo d false=some i)):=sN;have z:=Ah (τ:=[some (V.int i),some (V.ref p),some (V.ref tp)]) (N:=N) (H:=H') I.ys (λS e=>hN _ S _ ⟨⟨_,rfl⟩,e,rfl,by lia⟩) _ rfl;by_cases U:(d.rows.getD i []).length=0
  .have J:lnD d i=0:=U;rw [if_neg (by rw [U];decide)];rw [J] at z;exact z
  .have J:lnD d i≠0:=U;rw [if_pos (decide_eq_true (by lia))];refine ⟨_,.inr n3.at_,rfl,yL,?_⟩;rw [decide_eq_true J] at z;rw [Yn];cases hb:(decide (bo d true=some i)||decide (bo d false=some i)) with
   | true=>rw [hb] at z;ac_rfl;exact z
   | false=>rw [hb] at z;ac_rfl;exact z
 .intro τ ys H' I D2 H4 G ns;have e:=I.same;subst e;rw [I.ys] at G;exact q D2 H4 (O.trans (.of G.same)) (Xd.same G.same) (O.fr G.no) ns G.at_
def yH(A:zh):Sp:=λvs H Q _=>∃(p wl sl:Addr)(cells:List Addr)(m:Int)(d:DM)(k:Nat),vs=[.ref p,.int k]/\zD A H p wl sl cells m d/\cL d/\k<d.rows.length /\
 ∀H',zj H H'->Q (oi (az (λi=>((rIn (d.rows.getD k []) k (d.rows.getD k []).length).map zr).getD i 0) (rIn (d.rows.getD k []) k (d.rows.getD k []).length).length)) H'
structure CF(H:Hp)(ts:List Tri)(i:Nat)(τ:L2.St)(ys:List V)(H':Hp):Prop where
 ex:∃t1 t2 t3,τ=[t1,t2,t3]
 ys:ys=((ts.take i).map zr).map V.int
 same:H'=H
theorem F0:zt Xv Xv (zi lL):=fsc
theorem IZ:aG { kind:=.function,names:=[(yv ".0",.local),(yv "row",.local),(yv "at",.local),(yv "place",.local)],isGenerator:=false,isCoroutine:=false,more:=[] } (zi lL).names Xv ["row","at","place"] [none,none,none]=true:=by decide +kernel
theorem nS:(["row","at","place"]:List Str).Nodup:=by decide +kernel
theorem Mj(F:Fun K Vx Vx lL f fd)(T:Txt w K mg A)(Zw:GF P w K mg base true 8 "rows_in" Xv (nN A)):zm P w K mg base CX0 true 9 f fd Xv (yH A):=by
 refine F.o F0 λZ2 Ar outer s H vs Q E hr h=>?_;obtain ⟨p,wl,sl,cells,m,d,k,rfl,D,tx,Z,q⟩:=h;refine ⟨_,(W.h (zg (zw (Hu rfl rfl T.TU (cA (λ_=>rfl) (zU.of IZ) (liD (bK (clE (caD (zq Zw hr rfl (clP (zb (za 0) (zb (za 1) zc)))))))) (λ_ _ _ _ _=>(gB (n:=3) (gsD (zS (zz (i:=0) nS rfl (NC rfl)) (gsD (zS (zz (i:=1) nS rfl (NC rfl)) (gsD (zS (zz (i:=2) nS rfl (NC rfl)) bR)))))))) (λ_ _ _ _ _=>di) (λ_ _ _ _ _=>(zF zJ (za 0) zl (λ_ _=>rfl)))))))),?_⟩;have S:=(tx.ok _ (eV (x:=[]) Z)).1;have z:∀j,(rIn (d.rows.getD k []) k j).length<=j:=λj=>by
  induction j with
  | zero=>exact Nq _
  | succ j ih=>show (rIn _ k j++_).length<=_;rw [NY];have:=rq (rdT ((d.rows.getD k []).getD j none)) k j;lia
 have z:=z (d.rows.getD k []).length;have XW:∀t∈rIn (d.rows.getD k []) k (d.rows.getD k []).length,∃y n ys,t.1 = .str y::.int n::ys:=λt G=>rH G;generalize J:rIn (d.rows.getD k []) k (d.rows.getD k []).length=ts at z XW q;ac_rfl;refine ⟨p,wl,sl,cells,m,d,k,rfl,D,tx,Z,λl as H1 s1 ln hl G=>?_⟩;rw [J] at G;have U:=zW G;ac_rfl;refine ⟨⟨_,SqL.of hl⟩,zT.lst (xs:=as.map V.ref) (CF H1 ts) (λi τ ys H' I=>?_) (λi τ ys H' I=>by rw [I.same];exact SqL.of hl) ⟨⟨_,_,_,rfl⟩,rfl,rfl⟩ ?_ ?_⟩
 .rw [I.ys,KE,KE];exact aF (by have:=List.length_take_le i ts;have:=OS i ts;lia)
 .intro N i x τ ys H' hx I hN;obtain ⟨t1,t2,t3,rfl⟩:=I.ex;have e:=I.same;subst e;rw [NJ] at hx;obtain ⟨a,ha,rfl⟩:=NV.mp hx;have hi:i<ts.length:=by rw [<- U];exact (Nt.mp ha).1
  have Y4:ts[i]?=some ts[i]:=p8 hi;obtain ⟨r,e1,e2⟩:=aY G ha Y4;obtain ⟨y,n,zs,et⟩:=XW _ (Oj hi);rw [et] at e2;refine ⟨a,_,rfl,SqT.of e1,rfl,?_⟩;have ix:atI (V.str y::V.int n::zs) 1=some (V.int n):=cu (j:=1) (by simp);erw [e2,ix];refine hN _ _ _ ⟨⟨_,_,_,rfl⟩,?_,rfl⟩;have ek:zr ts[i]=n:=by unfold zr;rw [et];rfl
  rw [Oe,Y4,I.ys,Oa,Oa];show _=_++[V.int (zr ts[i])];rw [ek]
 .intro τ ys H' I D2 H4 O;have e:=I.same;subst e;rw [I.ys,KE,U,NW (Nq _)] at O;rw [mh];refine ⟨_,O.at_,?_⟩;rw [KE];exact q H4 (s1.trans O.same)
def lnO(rs:List (List OR))(i:Nat):Nat:=(rs.getD i []).length
structure kJ(rs:List (List OR)):Prop where
 len:rs.length<=16
 wide:∀i,(rs.getD i []).length<=32
 keys:Ax rs
 nd:((wO rs rs.length).map zr).Nodup
 few:(wO rs rs.length).length<64
end
theorem cf(d:DM):nU d=wO (rdR d.rows) (rdR d.rows).length:=by
 unfold nU;rw [wY];show wO (rdR d.rows) d.rows.length=wO (rdR d.rows) (map _ d.rows).length;rw [KE]
theorem bb(d:DM):(rdR d.rows).length=d.rows.length:=KE ..
structure DOk(d:DM):Prop where
 tx:cL d
 nd:((nU d).map zr).Nodup
 few:(nU d).length<=30
 pos:∀t∈nU d,1<=zr t/\zr t<10 ^ 17
 row:∀t∈nU d,bE t.1
theorem DOk.sh(h:DOk d):kJ (rdR d.rows):=by
 have e:=cf d;refine ⟨by rw [bb];exact h.tx.len,λi=>?_,λt z=>iZ (by rw [<- e] at z;exact z),by rw [<- e];exact h.nd,by rw [<- e];have:=h.few;lia⟩;rw [bf,KE];by_cases hi:i<d.rows.length
 .exact (h.tx.ok _ (eV hi)).1
 .rw [Nr,Pf (by lia)];simp
structure DW(A:zh)(H:Hp)(p wl sl sh:Addr)(cells shc:List Addr)(m:Int)(d:DM):Prop where
 vx:zD A H p wl sl cells m d
 F8:au H sh shc (rdR d.rows)
 ap:∀x∈wl::sl::cells,x≠sh/\x∉shc
 tb:TB A H
 ok:DOk d
theorem TB.lists(h:TB A H)(k:zu F H H')(G:∀x∈F,(∃xs,H x=some (.lst xs))\/∃C dx fs,H x=some (.ins C dx fs)):TB A H':=h.keep k λx hx o e=>by
 rcases G x hx with ⟨xs,z⟩|⟨C,dx,fs,z⟩ <;> · rw [z] at e;cases e;exact ⟨λ_ q=>(by cases q),λ_ q=>(by cases q)⟩
section
variable {A:zh}{H H':Hp}{p wl sl sh:Addr}{cells shc:List Addr}{m:Int}{d:DM}
theorem DW.qb(h:DW A H p wl sl sh cells shc m d)(s:zA H H')(tb:TB A H'):DW A H' p wl sl sh cells shc m d:=⟨h.vx.qb s,h.F8.qb s,h.ap,tb,h.ok⟩
theorem DW.same(h:DW A H p wl sl sh cells shc m d)(s:zj H H'):DW A H' p wl sl sh cells shc m d:=h.qb (.of s) (h.tb.same s)
theorem TB.put{A:zh}{l:Addr}{o:HO}(tb:TB A H)(e:H l=some (.lst xs)):TB A (upd H l o):=tb.lists (F:=[l]) (zu.upd (by simp)) λx hx=>by rw [NG] at hx;subst hx;exact .inl ⟨_,e⟩
end
abbrev pG:Stmt:=top 65
abbrev ou:Stmt:=top 67
structure LR(n:Int)(xs:List V):Prop where
 ok:bE xs
 hd:∃y ys,xs = .str y::.int n::ys
 len:xs.length<=7
section
variable {P:NB}{w:NQ}{K:Frag}{mg:Str->Option Value}{base:Heap}{A:zh}
def vq:Sp:=λvs H Q _=>∃(a:Addr)(n:Int)(hot:Bool),vs=[.ref a,.int n,.bl hot]/\Pot H a/\1<=n/\n<10 ^ 17/\∀r xs H',But a H H'->Pot H' a->LR n xs->H' r=some (.tup xs)->Q (.ref r) H'
theorem Ep(h:v∈[V.str "w",.str "0",.str "x1",.str "12",.str "abcdefghij0123456789"]):∃z:Str,v = .str z/\dO z=true:=by
 simp only [Nw,NH,or_false] at h;rcases h with rfl|rfl|rfl|rfl|rfl<;>exact ⟨_,rfl,f!""⟩
theorem HB(h:v∈[V.str "a",.str "b",.str VU,.str "zzzzzz"]):∃z:Str,v = .str z/\cR z=true:=by
 simp only [Nw,NH,or_false] at h;rcases h with rfl|rfl|rfl|rfl<;>exact ⟨_,rfl,f!""⟩
theorem eY:zt ["_law_pot_here","_law_number","_law_is_hot","_law_word","_law_name","_law_place","_law_group","_law_some"] WD (zi pG):=fsc
theorem HY(F:Fun K "_law_row" "_law_row" pG f fd)(T:Txt w K mg A)(Z9:GF P w K mg base true 1 V0 Zu du)(Z5:GF P w K mg base true 2 VS Ym jb):zm P w K mg base CX0 true 3 f fd WD vq:=by
 refine F.o eY λZ2 Ar outer s H vs Q E hr h=>?_;obtain ⟨a,n,hot,rfl,hP,n1,n2,q⟩:=h;have hu:_<cLine:=N1 (zO hr);refine ⟨_,(W.h (ze (zy (i:=3) eY.nd rfl (NC rfl) (caD (zq Z5 hr rfl (clP (zb (za 0) (zb (ay (zb zH (zb zH (zb zH (zb zH (zb zH zc)))))) zc))))))
   (ze (zQ (fJ (bG (za 2)))
   (zg (zw (aO (zb zH (zb (za 1) (zb (caD (zq Z9 hr rfl (clP (zb (za 0) (zb (za 1) zc))))) (zb (za 3) zc)))))))
   zV)
   (ze (zy (i:=4) eY.nd rfl (NC rfl) (caD (zq Z5 hr rfl (clP (zb (za 0) (zb (ay (zb zH (zb zH (zb zH (zb zH zc))))) zc))))))
   (ze (zy (i:=5) eY.nd rfl (NC rfl) (caD (zq Z9 hr rfl (clP (zb (za 0) (zb zl zc))))))
   (ze (zy (i:=6) eY.nd rfl (NC rfl) (zB (oI0 fI) (za 1) (caD (zq Z9 hr rfl (clP (zb (za 0) (zb (zB aK (zL (rK rfl) rfl T.Vk boot_min (zb (za 1) (zb zl zc))) zl) zc)))))))
   (ze (zy (i:=7) eY.nd rfl (NC rfl) (ay (zb (aO (zb zH (zb (za 1) (zb (za 6) (zb (cy (oE (aV hu)) (caD (zq Z9 hr rfl (clP (zb (za 0) (zb zl zc))))) zl (zC _)) (zb (za 4) (zb (za 5) (zb (za 3) zc)))))))) zc)))
   (ze (zy (i:=7) eY.nd rfl (NC rfl) (zB aK (za 7) (ay (zb (aO (zb zH (zb (za 1) (zb (za 1) (zb bW (zb (za 4) (zb zl (zb (za 3) zc)))))))) (zb (aO (zb zH (zb (za 1) (zb (za 4) (zb (za 5) zc))))) zc)))))
   (ze (zy (i:=7) eY.nd rfl (NC rfl) (zB aK (za 7) (ay (zb (aO (zb zH (zb (za 1) (zb (za 4) zc)))) (zb (aO (zb zH (zb (za 1) (zb (za 4) zc)))) zc)))))
   (zg (zw (caD (zq Z5 hr rfl (clP (zb (za 0) (zb (za 7) zc)))))))))))))))),?_⟩
 have hn:bM n:=⟨by lia,by lia⟩;ac_rfl;refine ⟨by decide,λl1 H1 m1 _=>⟨a,hP.same m1.same,.inl ⟨l1,_,rfl,hP.ne m1.no,.inl m1.at_,by simp,by simp,λv H2 hv b2 Xq=>?_⟩⟩⟩;obtain ⟨wd,rfl,Z⟩:=Ep hv;have bA:=(But.of m1.same).trans b2;cases hot with
 | false =>
  ac_rfl;refine ⟨a,n,rfl,Xq,by lia,Int.lt_of_lt_of_le n2 (by decide),λg H3 b3 Xj g0 g1=>?_⟩;ac_rfl;refine ⟨by decide,λp2 H4 S=>q _ _ H4 ((bA.trans b3).trans (But.of S.same)) (Xj.same S.same) ⟨.carry n g _ hn ⟨g0,by lia⟩ Z,⟨_,_,rfl⟩,by simp⟩ S.at_⟩
 | true =>
  ac_rfl;refine ⟨by decide,λl3 H3 O _=>⟨a,Xq.same O.same,.inl ⟨l3,_,rfl,Xq.ne O.no,.inl O.at_,by simp,by simp,λv H4 a3 b4 ak=>?_⟩⟩⟩;obtain ⟨nm,rfl,Xc⟩:=HB a3;have bB:=(bA.trans (But.of O.same)).trans b4;ac_rfl;refine ⟨a,200,rfl,ak,by decide,by decide,λpl H5 b5 Xi a4 a8=>?_⟩;ac_rfl;refine ⟨a,_,rfl,Xi,?_,?_,λgd H6 b6 aj a6 aT=>?_⟩
  .split<;>lia
  .have:(2:Int) ^ 64=18446744073709551616:=by decide
   split<;>lia
  have a7:gd<=n:=by split at aT<;>lia
  ac_rfl;refine ⟨a,2,rfl,aj,by decide,by decide,λeb H7 b7 a0 a5 a9=>?_⟩;ac_rfl;refine ⟨by decide,λp1 K1 m1=>⟨by decide,λq1 K2 m2 _=>⟨by decide,λp2 K3 O=>⟨by decide,λp3 K4 S=>⟨by decide,λq2 K5 m5 _=>⟨_,m5.same _ _ (S.same _ _ (O.same _ _ m2.at_)),_,m5.at_,aM (by simp),λq3 K6 m6=>⟨by decide,λp4 K7 m7=>⟨by decide,λp5 K8 m8=>⟨by decide,λq4 K9 m9 _=>⟨_,m9.same _ _ (m8.same _ _ (m7.same _ _ m6.at_)),_,m9.at_,aM (by simp),λq5 av J=>?_⟩⟩⟩⟩⟩⟩⟩⟩⟩⟩;have ab:zj H7 K9:=((((((((m1.same.trans m2.same).trans O.same).trans S.same).trans m5.same).trans m6.same).trans m7.same).trans m8.same).trans m9.same);have ag:=a0.same ab;have U:=ag.same J.same;refine ⟨a,U,.inl ⟨q5,_,rfl,ag.ne J.no,.inl J.at_,by simp,by simp,λv H8 ai b8 G=>?_⟩⟩;have ne:∀{b:Addr}{xs:List V},av b=some (.tup xs)->b≠a:=λ{b xs} e z=>by
   obtain ⟨x,y,ea,_⟩:=U.ex;rw [z,ea] at e;cases e
  have bZ:But a H H8:=((((bB.trans b5).trans b6).trans b7).trans (But.of (ab.trans J.same))).trans b8;have Yr:bM pl:=⟨by lia,by lia⟩;have t8:=λ{b:Addr}{xs:List V}(e:K8 b=some (.tup xs))=>J.same _ _ (m9.same _ _ e);have t5:=λ{b:Addr}{xs:List V}(e:K5 b=some (.tup xs))=>t8 (m8.same _ _ (m7.same _ _ (m6.same _ _ e)));have t3:=λ{b:Addr}{xs:List V}(e:K3 b=some (.tup xs))=>t5 (m5.same _ _ (S.same _ _ e));have e1:=t3 (O.same _ _ (m2.same _ _ m1.at_));have e2:=t3 O.at_;have e3:=t5 (m5.same _ _ S.at_);have e4:=t8 (m8.same _ _ m7.at_);have e5:=t8 m8.at_;simp only [cons_append,Sx,Nw,NH,or_false] at ai;rcases ai with rfl|rfl|rfl|rfl|rfl
  .exact q _ _ H8 bZ G ⟨.put n (n-gd) _ nm pl wd hn ⟨by lia,by lia⟩ Yr Xc Z,⟨_,_,rfl⟩,by simp⟩ (b8 _ _ (ne e1) e1)
  .exact q _ _ H8 bZ G ⟨.put n n true nm 0 wd hn hn ⟨by decide,by decide⟩ Xc Z,⟨_,_,rfl⟩,by simp⟩ (b8 _ _ (ne e2) e2)
  .exact q _ _ H8 bZ G ⟨.cut n nm pl hn Yr Xc,⟨_,_,rfl⟩,by simp⟩ (b8 _ _ (ne e3) e3)
  .exact q _ _ H8 bZ G ⟨.hold n nm hn Xc,⟨_,_,rfl⟩,by simp⟩ (b8 _ _ (ne e4) e4)
  .exact q _ _ H8 bZ G ⟨.free n nm hn Xc,⟨_,_,rfl⟩,by simp⟩ (b8 _ _ (ne e5) e5)
structure Ris(ns:List Int)(top:Int):Prop where
 up:ns.Pairwise (· < ·)
 ax:∀n∈ns,1<=n/\n<=top
 last:ns.getLast?=some top
structure NmI(H:Hp)(a l:Addr)(Ze:Int)(i:Nat)(σ:L2.St)(H':Hp):Prop where
 ex:∃t,σ=[some (V.ref a),some (.int Ze),some (.ref l),t]
 but:But a H H'
 Tp:Pot H' a
 no:H l=none
 ls:∃ns top,H' l=some (.lst (ns.map V.int))/\ns.length=i+1/\Ris ns top/\top<=10 ^ 16+3*i
 le:i<=20
def ud:Sp:=λvs H Q _=>∃(a:Addr)(z:Nat),vs=[.ref a,.int z]/\Pot H a/\1<=z/\z<=20/\∀l (ns:List Int) H',But a H H'->Pot H' a->H l=none->H' l=some (.lst (ns.map V.int))->ns.length=z->ns.Nodup->(∀n∈ns,1<=n/\n<10 ^ 17)->Q (.ref l) H'
theorem But.no(b:But a H H')(z:Pot H' a)(h:H' l=none):H l=none:=by
 cases e:H l with
 | none=>rfl
 | some o =>
  have:=b l o (z.ne h) e;rw [h] at this;cases this
theorem rB:zt ["_law_pot_here","_law_many","_law_found","_law_k"] Zu (zi ou):=fsc
theorem CL(F:Fun K VC VC ou f fd)(T:Txt w K mg A)(Z:GF P w K mg base true 1 V0 Zu du):zm P w K mg base CX0 true 2 f fd Zu ud:=by
 refine F.o rB λZ2 Ar outer s H vs Q E hr h=>?_;obtain ⟨a,Ze,rfl,hP,n1,n2,q⟩:=h;refine ⟨_,(W.h (ze (zy (i:=2) rB.nd rfl (NC rfl) (ay (zb (zB aK zl (caD (zq Z hr rfl (clP (zb (za 0) (zb (zF zJ (ay (zb zl (zb (zB (oI pC) zl zl) zc))) (caD (zq Z hr rfl (clP (zb (za 0) (zb zl zc))))) (λ_ _=>rfl)) zc)))))) zc)))
   (ze (bN OW.never (λ_=>rfl) (dP rfl T.z4 (zb (zB (oI0 fI) (za 1) zl) zc)) (zz (i:=3) rB.nd rfl (NC rfl))
   (zg (ax (hU (za 2) (zB aK (zB aK (zF zJ (za 2) (jK lB zl) (λ_ _=>rfl)) zl) (zB cV (caD (zq Z hr rfl (clP (zb (za 0) (zb zl zc))))) (caD (zq Z hr rfl (clP (zb (za 0) (zb zl zc)))))))))))
   (zg (zw (za 2)))))),?_⟩
 ac_rfl;refine ⟨⟨by decide,by decide,by decide⟩,by decide,λlp H1 m1 _=>?_⟩;ac_rfl;refine ⟨a,2,rfl,hP.same m1.same,by decide,by decide,λr H2 b2 Xq r0 r1=>?_⟩;ac_rfl;have ai:lp≠a:=hP.ne m1.no;have e2:=b2 _ _ ai m1.at_;have hv:∃y:Int,atI [V.int 9,V.int (10 ^ 16)] r=some (.int y)/\1<=y/\y<=10 ^ 16:=by
  have:r=0\/r=1:=by lia
  rcases this with rfl|rfl
  .exact ⟨9,rfl,by decide,by decide⟩
  .exact ⟨10 ^ 16,rfl,by decide,by decide⟩
 obtain ⟨y,hy,y1,y2⟩:=hv;refine ⟨_,.inl e2,_,hy,a,y,rfl,Xq,by lia,QZ y2 (by decide),λd H3 b3 Xj d0 d1=>?_⟩;have bA:=((But.of m1.same).trans b2).trans b3;simp only [gw];refine ⟨by decide,λl H4 U _=>⟨by lia,by lia,?_⟩⟩;have bB:=bA.trans (But.of U.same);have er:((Ze:Nat)-1:Int).toNat=Ze-1:=by lia
 rw [er];refine aA.rng (NmI H a l Ze) ⟨⟨_,rfl⟩,bB,Xj.same U.same,bA.no Xj U.no,⟨[1+d],1+d,U.at_,rfl,⟨Q3 ..,λn hn=>by rw [NG] at hn;lia,rfl⟩,by lia⟩,by lia⟩ ?_ ?_
 .rintro i σ H5 hi ⟨⟨t,rfl⟩,b5,Xi,O,⟨ns,top,hl,Z7,R,ht⟩,le⟩;have la:l≠a:=hP.ne O;erw [hl];have ak:atI (ns.map V.int) (-1)=some (.int top):=by
   rcases List.eq_nil_or_concat ns with rfl|⟨zs,z,ez⟩
   .simp at Z7
   .rw [List.concat_eq_append] at ez;have J:=R.last;rw [ez,Rz] at J;cases J;rw [ez,Oa];exact sr _ _
  refine ⟨_,ak,?_⟩;simp only [gw];refine ⟨a,3,rfl,Xi,by decide,by decide,λG H6 b6 aj a3 av=>⟨a,2,rfl,aj,by decide,by decide,λS H7 b7 ab a0 aT=>?_⟩⟩;simp only [tQ,gw];have ag:0<=G*S/\G*S<=2:=by
   have h3:G=0\/G=1\/G=2:=by lia
   have h4:S=0\/S=1:=by lia
   rcases h3 with rfl|rfl|rfl<;>rcases h4 with rfl|rfl<;>decide
  generalize G*S=g at ag;refine ⟨.inl ⟨by lia,by lia⟩,_,b7 _ _ la (b6 _ _ la hl),by rw [KE];exact aF (by lia),⟨_,rfl⟩,λc o nc ec=>?_,?_,O,⟨ns++[top+1+g],_,by rw [zx,Oa];rfl,by simp [Z7],⟨?_,λn hn=>?_,Rz ..⟩,by lia⟩,by lia⟩
  .rw [zd (zE ec O)];exact b7 _ _ nc (b6 _ _ nc (b5 _ _ nc ec))
  .obtain ⟨x,y,ea,rr⟩:=ab.ex;exact ⟨⟨x,y,by rw [zd (NO la)];exact ea,rr⟩⟩
  .rw [Ry];exact ⟨R.up,Q3 ..,λx hx z J=>by rw [NG] at J;have:=R.ax x hx;lia⟩
  .rcases Og.mp hn with hn|hn
   .have:=R.ax n hn;lia
   .rw [NG] at hn;obtain ⟨z,J⟩:∃z,z∈ns:=by cases ns with|nil=>simp at Z7|cons z zs=>exact ⟨z,NX ..⟩
    have:=R.ax z J;lia
 .rintro σ H5 ⟨⟨t,rfl⟩,b5,Xi,O,⟨ns,top,hl,Z7,R,ht⟩,le⟩;ac_rfl;exact q l ns H5 b5 Xi O hl (by lia) (R.up.imp λh=>by lia) λn hn=>by have:=R.ax n hn;lia
end
theorem uV(h:aW z y m=true)(hc:c∉sg y):c∉sg z:=λF=>by
 unfold aW at h;rw [Oc] at h;have:=Ol.mp h.2 c F;exact hc (by simpa using this)
theorem uJ(h:bM i):59∉sg (toString i:Str):=λz=>by
 have:=(gz h.1 h.2).dig 59 z;lia
theorem bE.bA(h:bE xs):∀v∈xs,59∉sg (aE v):=by
 have U:∀b:Bool,59∉sg (aE (.bl b)):=λb=>by cases b<;>decide +kernel
 have J:∀{z:Str},cR z=true->59∉sg (aE (.str z)):=λS=>uV S (f!"");have O:∀{z:Str},dO z=true->59∉sg (aE (.str z)):=λS=>uV S (f!"");have F:∀{i:Int},bM i->59∉sg (aE (.int i)):=λhi=>uJ hi;cases h with
 | put n g b nm pl W h1 h2 h3 h4 Z =>
  intro v G;simp only [Nw,NH,or_false] at G;rcases G with rfl|rfl|rfl|rfl|rfl|rfl|rfl
  .exact (by decide +kernel:59∉sg (VU:Str))
  .exact F h1
  .exact F h2
  .exact U b
  .exact J h4
  .exact F h3
  .exact O Z
 | cut n nm pl h1 h2 h3 =>
  intro v G;simp only [Nw,NH,or_false] at G;rcases G with rfl|rfl|rfl|rfl
  .exact (by decide +kernel:59∉sg (VT:Str))
  .exact F h1
  .exact J h3
  .exact F h2
 | hold n nm h1 h2 =>
  intro v G;simp only [Nw,NH,or_false] at G;rcases G with rfl|rfl|rfl
  .exact (by decide +kernel:59∉sg (VV:Str))
  .exact F h1
  .exact J h2
 | free n nm h1 h2 =>
  intro v G;simp only [Nw,NH,or_false] at G;rcases G with rfl|rfl|rfl
  .exact (by decide +kernel:59∉sg ("free":Str))
  .exact F h1
  .exact J h2
 | carry n g W h1 h2 h3 =>
  intro v G;simp only [Nw,NH,or_false] at G;rcases G with rfl|rfl|rfl|rfl
  .exact (by decide +kernel:59∉sg ("carry":Str))
  .exact F h1
  .exact F h2
  .exact O h3
theorem mP(b:Str):sg (cW b)=(sg b++sg (toString (ck b):Str))++[59]:=by
 unfold cW;rw [dj,dj];rfl
theorem JT(h:∀v∈xs,59∉sg (aE v)):59∉zX xs:=λz=>by
 unfold zX at z;obtain ⟨l,hl,F⟩:=List.mem_flatten.mp z;obtain ⟨v,G,rfl⟩:=PF.mp hl;rcases Og.mp F with F|F
 .exact h v G F
 .simp at F
theorem CZ(ok:bE xs)(h:j<(aS xs).length):bJ (tx ((sg (aS xs)).take j))=none:=by
 have hs:=mP (tx (zX xs));have F:=fj (tx (zX xs));have no:59∉sg (tx (zX xs))++sg (toString (ck (tx (zX xs))):Str):=λz=>by
  rcases Og.mp z with z|z
  .rw [cE] at z;exact JT ok.bA z
  .exact uJ ⟨F.1,by lia⟩ z
 have hl:(aS xs).length=(sg (tx (zX xs))++sg (toString (ck (tx (zX xs))):Str)).length+1:=by
  show (cW _).length=_;rw [<- ae,hs,NY];rfl
 have G:59∉(sg (aS xs)).take j:=λz=>by
  unfold aS at z;rw [hs,List.take_append_of_le_length (by lia)] at z;exact no (QS z)
 unfold bJ eQ;rw [if_neg]
 .rfl
 .intro e;apply G;have:=congrArg sg e;rw [cE,mP] at this;rw [this];exact NU _ (NG.mpr rfl)
theorem Ib(ok:bE xs)(hl:xs.length<=7):asc (aS xs)=true/\(aS xs).length<=1000/\bJ (aS xs)=some xs/\2<=(aS xs).length:=by
 obtain ⟨_,_,_,z⟩:=ok.parts;obtain ⟨J,G⟩:=pa z;have F:=gz (fj (tx (zX xs))).1 (by have:=(fj (tx (zX xs))).2;lia);have nl:=v9 (fj (tx (zX xs))).1 (by have:=(fj (tx (zX xs))).2;lia);refine ⟨?_,?_,ok.read,?_⟩
 .unfold aS cW;rw [bT,dj,dj,cE,all_append,all_append,G];have:(sg (toString (ck (tx (zX xs))):Str)).all (λc=>decide (c<128))=true:=Ol.mpr λc hc=>decide_eq_true (by have:=F.dig c hc;lia);rw [this];decide +kernel
 .unfold aS cW;rw [<- ae,dj,dj,cE,NY,NY,ae];have:(sg (";":Str)).length=1:=by decide +kernel
  rw [this];lia
 .show 2<=(cW _).length;rw [<- ae,mP,NY,NY,QJ];have:=F.one;lia
theorem jd{α:Type}:∀{l m:List α},l.Nodup->(∀x∈l,x∈m)->l.length<=m.length
 | [],_,_,_=>Ot _
 | x::l,m,nd,h=>by
  obtain ⟨G,J⟩:=OO.mp nd;obtain ⟨O,m2,rfl⟩:=List.append_of_mem (h x (NX ..));have:=jd (m:=O++m2) J λy F=>by
   rcases Og.mp (h y (ND _ F)) with z|z
   .exact OQ _ z
   .rcases Nw.mp z with z|z
    .subst z;exact absurd F G
    .exact NU _ z
  simp only [Oy,NY] at this ⊢;lia
theorem iT(d:DM):(nU d).Nodup:=by rw [cf];exact nv _
theorem uE(inj:∀s t:Tri,s∈nU d->t∈nU d->zr s=zr t->s=t):((nU d).map zr).Nodup :=
 O5.mpr (Pairwise.imp_of_mem (λ{a b} ha hb h e=>h (inj a b ha hb e)) (iT d))
structure TOk(m:Int)(d:DM)(ns:List Int):Prop where
 size:3<=d.rows.length/\d.rows.length<=16/\2<=m/\m<=32
 wide:∀i,((d.rows.getD i []).length:Int)<=m
 nd:ns.Nodup
 ax:∀n∈ns,1<=n/\n<10 ^ 17
 apart:∀t∈nU d,zr t∉ns
 few:(nU d).length+ns.length<=20
theorem DOk.less(h:DOk d)(tx:cL d')(hs:∀t∈nU d',t∈nU d):DOk d' :=
 ⟨tx,uE λs t G z e=>rS h.nd (hs s G) (hs t z) e,N6 (jd (iT d') hs) h.few,λt F=>h.pos t (hs t F),λt F=>h.row t (hs t F)⟩
theorem TOk.less(h:TOk m d ns)(hl:d'.rows.length=d.rows.length)(F:∀i,((d'.rows.getD i []).length:Int)<=m)(hs:∀t∈nU d',t∈nU d):TOk m d' ns :=
 ⟨by rw [hl];exact h.size,F,h.nd,h.ax,λt z=>h.apart t (hs t z),N6 (Nat.add_le_add_right (jd (iT d') hs) _) h.few⟩
theorem ie{rows:List (List Tx)}{k:Nat}{r:List Tx}:rdR (rows.set k r)=(rdR rows).set k (r.map rdT):=by
 unfold rdR;rw [map_set]
theorem cL.set(h:cL d){k:Nat}{r:List Tx}{st:Bool}(hr:r.length<=32/\∀t∈r,∀z,t=some z->asc z=true/\z.length<=1000):cL ⟨d.rows.set k r,sd,c,G,st⟩:=by
 refine ⟨λq F=>?_,by show (d.rows.set k r).length<=16;rw [Pe];exact h.len⟩;rcases QM F with F|rfl
 .exact h.ok q F
 .exact hr
def DM.wrote(d:DM)(k:Nat)(t:Str)(c:Int):DM:={ d with rows:=d.rows.set k (d.rows.getD k []++[some t]),cnt:=c }
def DM.cleared(d:DM)(k:Nat)(c:Int):DM:={ d with rows:=d.rows.set k [],cnt:=c }
theorem Ij{d:DM}{k:Nat}{t:Str}(h1:d.left=none)(h2:d.st=false)(O:((d.rows.getD k []).length:Int)<m):d.write m k t=(.val (.int (d.rows.getD k []).length),d.wrote k t (d.cnt+t.length)):=by
 have F:dn d.left t.length=t.length:=by rw [h1];rfl
 have es:(d.spend t.length).st=false:=by show decide _=false;rw [F];exact decide_eq_false (Sd _)
 unfold DM.write;rw [if_neg (by rw [h2];exact Nx),if_neg (by lia),if_neg (by rw [es];exact λz=>Nx z.2),if_neg (by rw [es];exact Nx),F];have G:gn t t.length=some t:=by
  show some (Txt.slice t none (some (t.length:Int)))=_;rw [j8 (by rw [ae];exact Nq _),<- ae,NW (Nq _),i5]
 rw [G];have J:d.spend t.length={ d with cnt:=d.cnt+t.length }:=by
  unfold DM.spend;rw [F,h1,h2,decide_eq_false (Sd _)];rfl
 rw [J];rfl
theorem HF{d:DM}{k:Nat}(h1:d.left=none)(h2:d.st=false):d.empty k=(.val .non,d.cleared k (d.cnt+(d.rows.getD k []).length)):=by
 have z:dn d.left (d.rows.getD k []).length=(d.rows.getD k []).length:=by rw [h1];rfl
 have es:(d.spend (d.rows.getD k []).length).st=false:=by show decide _=false;rw [z];exact decide_eq_false (Sd _)
 unfold DM.empty;rw [if_neg (by rw [h2];exact Nx),if_neg (by rw [es];exact Nx)];have F:d.spend (d.rows.getD k []).length={ d with cnt:=d.cnt+(d.rows.getD k []).length }:=by
  unfold DM.spend;rw [z,h1,h2,decide_eq_false (Sd _)];rfl
 rw [F];rfl
section
variable {d:DM}{m:Int}{ns:List Int}{k:Nat}
theorem vS(z:k<d.rows.length){t:Tri}:t∈nU (d.cleared k c)↔t∈nU d/\t.2.1≠k:=by
 rw [cf,cf];show t∈wO (rdR (d.rows.set k [])) (rdR (d.rows.set k [])).length↔_;rw [ie];exact L5 (by rw [bb];exact z)
theorem Jf(h:DOk d)(F:k<d.rows.length):DOk (d.cleared k c):=h.less (h.tx.set ⟨by simp,by simp⟩) λt z=>((vS F).mp z).1
theorem Ly(hm:2<=m)(F:∀i,((d.rows.getD i []).length:Int)<=m)(z:k<d.rows.length)(i:Nat):(((d.cleared k c).rows.getD i []).length:Int)<=m:=by
 show (((d.rows.set k []).getD i []).length:Int)<=m;rw [fq z];split
 .simp;lia
 .exact F i
theorem Ez(h:TOk m d ns)(z:k<d.rows.length):TOk m (d.cleared k c) ns:=h.less (by show (d.rows.set k []).length=_;rw [Pe]) (Ly h.size.2.2.1 h.wide z) λt F=>((vS z).mp F).1
theorem qg{t:Str}(z:k<d.rows.length):u∈nU (d.wrote k t c)↔u∈nU d\/(rdT (some t)=some u.1/\u.2=(k,(d.rows.getD k []).length)):=by
 rw [cf,cf];show u∈wO (rdR (d.rows.set k (d.rows.getD k []++[some t]))) (rdR (d.rows.set k (d.rows.getD k []++[some t]))).length↔_;rw [ie,Oa,<- bf];have:=DB (rs:=rdR d.rows) (o:=rdT (some t)) (k:=k) (by rw [bb];exact z) (t:=u);rw [show ([some t]:List Tx).map rdT=[rdT (some t)] from rfl,this,bf,KE]
theorem Fq{t:Str}(h:DOk d)(G:TOk m d ns)(S:k<d.rows.length)(hw:((d.rows.getD k []).length:Int)<m)(ha:asc t=true)(hl:t.length<=1000)(hn:ns[i]?=some n)(hr:∀xs,rdT (some t)=some xs->gQ xs=n)(W:∀xs,rdT (some t)=some xs->bE xs):
  DOk (d.wrote k t c)/\TOk m (d.wrote k t c) (ns.eraseIdx i):=by
 have hsz:=G.size;have U:n∈ns:=NM hn;have hi:i<ns.length:=(Nt.mp hn).1;have new:∀{u:Tri},u∈nU (d.wrote k t c)->u∈nU d\/(zr u=n/\rdT (some t)=some u.1/\u.2=(k,(d.rows.getD k []).length)):=λ{u} F=>by
  rcases (qg S).mp F with F|⟨h1,h2⟩
  .exact .inl F
  .exact .inr ⟨hr _ h1,h1,h2⟩
 have ab:(nU (d.wrote k t c)).length<=(nU d).length+1:=by
  cases e:rdT (some t) with
  | none =>
   refine Qy (jd (iT _) λu F=>?_);rcases (qg S).mp F with F|⟨h1,_⟩
   .exact F
   .rw [e] at h1;cases h1
  | some xs =>
   have:=jd (m:=(xs,k,(d.rows.getD k []).length)::nU d) (iT (d.wrote k t c)) λu F=>by
    rcases (qg S).mp F with F|⟨h1,h2⟩
    .exact ND _ F
    .rw [e] at h1;cases h1;obtain ⟨x,y⟩:=u;cases (show y=_ from h2);exact NX ..
   simpa using this
 have ag:=RX hi;have Z:=G.few;have J:∀x∈ns.eraseIdx i,x∈ns/\x≠n:=λx hx=>by
  refine ⟨(List.eraseIdx_sublist ..).subset hx,λz=>?_⟩;rw [List.mem_eraseIdx_iff_getElem?] at hx;obtain ⟨j,hj,e⟩:=hx;subst z;exact hj ((RI hi G.nd).mp (hn.trans e.symm)).symm
 refine ⟨⟨h.tx.set ⟨?_,?_⟩,uE ?_,by lia,λu F=>?_,λu F=>?_⟩,⟨by show 3<=(d.rows.set k _).length/\(d.rows.set k _).length<=16/\_;rw [Pe];exact hsz,λj=>?_,G.nd.sublist (List.eraseIdx_sublist ..),λx hx=>G.ax x (J x hx).1,λu F z=>?_,by lia⟩⟩
 .rw [NY,QJ];lia
 .intro q O z hz;rcases Og.mp O with O|O
  .exact (h.tx.ok _ (eV S)).2 q O z hz
  .rw [NG] at O;subst O;cases hz;exact ⟨ha,hl⟩
 .intro s u hs F e;rcases new hs with hs|⟨s1,s2,s3⟩
  .rcases new F with F|⟨u1,_⟩
   .exact rS h.nd hs F e
   .exact absurd (by rw [e,u1];exact U) (G.apart s hs)
  .rcases new F with F|⟨u1,u2,u3⟩
   .exact absurd (by rw [<- e,s1];exact U) (G.apart u F)
   .obtain ⟨a,b⟩:=s;obtain ⟨a',b'⟩:=u;have:a=a':=by rw [s2] at u2;exact Ob.inj u2
    rw [this,show b=b' from s3.trans u3.symm]
 .rcases new F with F|⟨u1,_⟩
  .exact h.pos u F
  .rw [u1];exact G.ax n U
 .rcases new F with F|⟨_,u2,_⟩
  .exact h.row u F
  .exact W _ u2
 .show (((d.rows.set k _).getD j []).length:Int)<=m;rw [fq S];split
  .rw [NY,QJ];lia
  .exact G.wide j
 .obtain ⟨z1,z2⟩:=J _ z;rcases new F with F|⟨u1,_⟩
  .exact G.apart u F z1
  .exact z2 u1
end
abbrev jw:Stmt:=top 66
section
variable {A:zh}{H H':Hp}{a nl p wl sl sh:Addr}{cells shc:List Addr}{m:Int}{d:DM}{ns:List Int}
theorem Pot.lst(h:Pot H a):∃xs,H a=some (.lst xs):=let ⟨x,y,e,_⟩:=h.ex;⟨_,e⟩
theorem lW{fs:List (Str×V)}(h:H b=some (.lst xs))(h':H c=some (.ins C dx fs)):b≠c:=λz=>by rw [z,h'] at h;cases h
theorem zD.lists(D:zD A H p wl sl cells m d):∀x∈p::wl::sl::cells,(∃xs,H x=some (.lst xs))\/∃C dx fs,H x=some (.ins C dx fs):=λx hx=>by
 obtain ⟨dx,z⟩:=D.ob;rcases Nw.mp hx with rfl|hx
 .exact .inr ⟨_,_,_,z⟩
 .rcases Nw.mp hx with rfl|hx
  .exact .inl ⟨_,D.rows.w⟩
  .rcases Nw.mp hx with rfl|hx
   .exact .inl ⟨_,D.sides⟩
   .obtain ⟨i,hi,rfl⟩:=Ov hx;exact .inl ⟨_,D.rows.at_ i _ (p8 hi)⟩
theorem zD.out(D:zD A H p wl sl cells m d)(e:H c=some (.lst zs))(hn:∀x∈wl::sl::cells,x≠c):c∉p::wl::sl::cells:=λz=>by
 obtain ⟨dx,F⟩:=D.ob;rcases Nw.mp z with z|z
 .exact lW e F z
 .exact hn c z rfl
theorem zD.tup(D:zD A H p wl sl cells m d)(b:zu (p::wl::sl::cells) H H'){r:Addr}{xs:List V}(e:H r=some (.tup xs)):H' r=some (.tup xs):=b _ _ e λz=>by
 rcases D.lists r z with ⟨ys,q⟩|⟨C,dx,fs,q⟩ <;> · rw [q] at e;cases e
theorem au.aG(h:au H sh shc rs)(k:zu F H H')(G:∀x∈F,(∃xs,H x=some (.lst xs))\/∃C dx fs,H x=some (.ins C dx fs))(h1:sh∉F)(h2:∀c∈shc,c∉F):au H' sh shc rs :=
 h.keep (λr xs e=>k _ _ e λz=>by rcases G r z with ⟨xs,q⟩|⟨C,dx,fs,q⟩ <;> · rw [q] at e;cases e) λb xs hb e=>k _ _ e (by
  rcases hb with rfl|hb
  .exact h1
  .exact h2 b hb)
theorem DW.put(h:DW A H p wl sl sh cells shc m d)(e:H b=some (.lst xs))(h1:∀x∈wl::sl::cells,x≠b)(h2:b≠sh)(h3:b∉shc)(k:zu [b] H H'):DW A H' p wl sl sh cells shc m d:=by
 have F:∀x∈[b],(∃xs,H x=some (.lst xs))\/∃C dx fs,H x=some (.ins C dx fs):=λx hx=>by rw [NG] at hx;subst hx;exact .inl ⟨_,e⟩
 obtain ⟨dx,G⟩:=h.vx.ob;refine ⟨h.vx.keep k λx hx z=>?_,h.F8.aG k F (by simpa using λz=>h2 z.symm) (λc hc z=>by rw [NG] at z;exact h3 (z ▸ hc)),h.ap,h.tb.lists k F,h.ok⟩;rw [NG] at z;rcases Nw.mp hx with rfl|hx
 .exact lW e G z.symm
 .exact h1 x hx z
theorem DW.Vd(h:DW A H p wl sl sh cells shc m d)(b:zu (p::wl::sl::cells) H H'):au H' sh shc (rdR d.rows)/\TB A H':=by
 refine ⟨h.F8.aG b h.vx.lists (h.vx.out h.F8.w λx hx=>(h.ap x hx).1) λc hc=>?_,h.tb.lists b h.vx.lists⟩;obtain ⟨i,hi,rfl⟩:=Ov hc;obtain ⟨vs,e,_⟩:=h.F8.at_ i _ (p8 hi);exact h.vx.out e λx hx z=>(h.ap x hx).2 (z ▸ hc)
theorem au.set(S:au H sh shc rs){k:Nat}(hk:k<rs.length)(hc:shc[k]?=some c)(hp:Paired (de H) F r'):au (upd H c (.lst F)) sh shc (rs.set k r'):=by
 have hm:=NM hc;obtain ⟨W,U⟩:=OO.mp S.nd;obtain ⟨ab,G,_⟩:=S.at_ k c hc;have J:∀r xs,H r=some (.tup xs)->upd H c (.lst F) r=some (.tup xs):=λr xs e=>by rw [zd (λz=>by rw [z,G] at e;cases e)];exact e
 refine ⟨by rw [zd (λz:sh=c=>W (by rw [z];exact hm))];exact S.w,by rw [Pe];exact S.len,λi O hi=>?_,S.nd⟩;rw [fq hk];by_cases h:i=k
 .subst h;rw [hc] at hi;cases hi;rw [if_pos rfl];exact ⟨F,zx,Paired.yz hp λv o r=>r.keep J⟩
 .rw [if_neg h];obtain ⟨vs,Z,pv⟩:=S.at_ i O hi;refine ⟨vs,?_,Paired.yz pv λv o r=>r.keep J⟩;rw [zd (λz:O=c=>h (uw U hi (by rw [z];exact hc)))];exact Z
theorem DW.done{k:Nat}(h:DW A H p wl sl sh cells shc m d)(b:zu (p::wl::sl::cells) H H')(W:k<d.rows.length)(S:zD A H' p wl sl cells m d')(hr:rdR d'.rows=(rdR d.rows).set k r')(hc:shc[k]?=some c)(hp:Paired (de H') G r')(ok:DOk d'):
  DW A (upd H' c (.lst G)) p wl sl sh cells shc m d':=by
 obtain ⟨O,U⟩:=h.Vd b;have hm:=NM hc;obtain ⟨Z,F,_⟩:=O.at_ k c hc;obtain ⟨dx,J⟩:=S.ob;have kk:zu [c] H' (upd H' c (.lst G)):=zu.upd (by simp);refine ⟨S.keep kk λx hx z=>?_,by rw [hr];exact O.set (by rw [bb];exact W) hc hp,h.ap,U.put F,ok⟩;rw [NG] at z;rcases Nw.mp hx with rfl|hx
 .exact lW F J z.symm
 .exact (h.ap x hx).2 (z ▸ hm)
structure QW(A:zh)(H:Hp)(a nl p wl sl sh:Addr)(cells shc:List Addr)(m:Int)(d:DM)(ns:List Int):Prop where
 dw:DW A H p wl sl sh cells shc m d
 Tp:Pot H a
 nums:H nl=some (.lst (ns.map V.int))
 ap:∀x∈wl::sl::cells,x≠a/\x≠nl
 TQ:a≠nl/\a≠sh/\a∉shc/\nl≠sh/\nl∉shc
 live:d.left=none/\d.st=false
 sd:d.sides.length=2
theorem But.keeps(h:But b H H'):zu [b] H H':=λc o e n=>h c o (λz=>n (by simp [z])) e
theorem DW.S0(h:DW A H p wl sl sh cells shc m d)(z:Pot H a)(h1:∀x∈wl::sl::cells,x≠a)(h2:a≠sh)(h3:a∉shc)(b:But a H H'):DW A H' p wl sl sh cells shc m d:=by
 obtain ⟨xs,e⟩:=z.lst;exact h.put e h1 h2 h3 b.keeps
theorem QW.S0(h:QW A H a nl p wl sl sh cells shc m d ns)(b:But a H H')(z:Pot H' a):QW A H' a nl p wl sl sh cells shc m d ns :=
 ⟨h.dw.S0 h.Tp (λx hx=>(h.ap x hx).1) h.TQ.2.1 h.TQ.2.2.1 b,z,b _ _ (NO h.TQ.1) h.nums,h.ap,h.TQ,h.live,h.sd⟩
theorem QW.same(h:QW A H a nl p wl sl sh cells shc m d ns)(s:zj H H'):QW A H' a nl p wl sl sh cells shc m d ns:=⟨h.dw.same s,h.Tp.same s,s _ _ h.nums,h.ap,h.TQ,h.live,h.sd⟩
theorem QW.popped(h:QW A H a nl p wl sl sh cells shc m d ns):QW A (upd H nl (.lst (ns'.map V.int))) a nl p wl sl sh cells shc m d ns':=by
 obtain ⟨x,y,e,r⟩:=h.Tp.ex;exact ⟨h.dw.put h.nums (λx hx=>(h.ap x hx).2) h.TQ.2.2.2.1 h.TQ.2.2.2.2 (zu.upd (by simp)),⟨⟨x,y,by rw [zd h.TQ.1];exact e,r⟩⟩,zx,h.ap,h.TQ,h.live,h.sd⟩
theorem QW.done{k:Nat}(h:QW A H a nl p wl sl sh cells shc m d ns)(b:zu (p::wl::sl::cells) H H')(G:k<d.rows.length)(O:zD A H' p wl sl cells m d')(hr:rdR d'.rows=(rdR d.rows).set k r')(hc:shc[k]?=some c)(J:Paired (de H') F r')(ok:DOk d')(lv:d'.left=none/\d'.st=false)(sd:d'.sides.length=2):
  QW A (upd H' c (.lst F)) a nl p wl sl sh cells shc m d' ns:=by
 have hm:=NM hc;obtain ⟨x,y,e,r⟩:=h.Tp.ex;refine ⟨h.dw.done b G O hr hc J ok,⟨⟨x,y,?_,r⟩⟩,?_,h.ap,h.TQ,lv,sd⟩
 .rw [zd (λz:a=c=>h.TQ.2.2.1 (z ▸ hm))];exact b _ _ e (h.dw.vx.out e λx hx=>(h.ap x hx).1)
 .rw [zd (λz:nl=c=>h.TQ.2.2.2.2 (z ▸ hm))];exact b _ _ h.nums (h.dw.vx.out h.nums λx hx=>(h.ap x hx).2)
def FT(a nl p wl sl sh:Addr)(cells shc:List Addr):List Addr:=a::nl::p::wl::sl::sh::(cells++shc)
theorem TOk.small(h:TOk m d ns):small d:=λk=>by have:=h.wide k;have:=h.size;lia
end
section
variable {P:NB}{w:NQ}{K:Frag}{mg:Str->Option Value}{base:Heap}{A:zh}
theorem su{α β:Type}{f:α->β}:∀{l:List α}{i:Nat},(l.map f).eraseIdx i=(l.eraseIdx i).map f
 | [],_=>rfl
 | _::_,0=>rfl
 | x::l,i+1=>by show f x::(l.map f).eraseIdx i=f x::(l.eraseIdx i).map f;rw [su]
structure HtI(H:Hp)(n:Nat)(i:Nat)(τ:L2.St)(ys:List V)(H':Hp):Prop where
 le:i<=n
 ex:∃t1,τ=[t1]
 ys:∃bs:List Bool,ys=bs.map V.bl/\bs.length<=i
 same:H'=H
def uZ(A:zh):Sp:=λvs H Q _=>∃(a nl p wl sl sh:Addr)(cells shc:List Addr)(m:Int)(d:DM)(ns:List Int),vs=[.ref a,.ref p,.ref sh,.ref nl]/\QW A H a nl p wl sl sh cells shc m d ns/\TOk m d ns/\1<=ns.length /\
 ∀d' ns' H',QW A H' a nl p wl sl sh cells shc m d' ns'->TOk m d' ns'->ns.length<=ns'.length+1->zu (FT a nl p wl sl sh cells shc) H H'->Q .non H'
theorem hX:zt XG Xx (zi jw):=fsc
theorem B1:aG { kind:=.function,names:=[(yv ".0",.local),(yv "_law_row_here",.local)],isGenerator:=false,isCoroutine:=false,more:=[] } (zi jw).names XG Wb [none]=true:=by decide +kernel
theorem Dc:(Wb:List Str).Nodup:=by decide +kernel
theorem MN(F:Fun K "_law_turn" "_law_turn" jw f fd)(T:Txt w K mg A)(Z9:GF P w K mg base true 1 V0 Zu du)(ZN:GMX P w K mg base true 2 A.tj "empty" Xw (qV A))(Z1:GM P w K mg base true 1 A.tj "places" Zn (dA A λm _=>.int m))(YG:GF P w K mg base true 3 "_law_row" WD vq)(YF:GF P w K mg base true 3 "row_text" ["row"] uU)(Zz:GMX P w K mg base true 3 A.tj "write" We (rf A)):zm P w K mg base CX0 true 4 f fd Xx (uZ A):=by
 refine F.o hX λZ2 Ar outer s H vs Q E hr h=>?_;obtain ⟨a,nl,p,wl,sl,sh,cells,shc,m,d,ns,rfl,Tw,ok,n1,q⟩:=h;have hu:_<cLine:=N1 (zO hr);refine ⟨_,(W.h (ze (zy (i:=4) hX.nd rfl (NC rfl) (caD (zq Z9 hr rfl (clP (zb (za 0) (zb (zL bj rfl T.wh N8 (zb (za 2) zc)) zc))))))
   (ze (zy (i:=5) hX.nd rfl (NC rfl) (caD (zq Z9 hr rfl (clP (zb (za 0) (zb zl zc))))))
   (zg (zQ (tD (zG (clO (oE (aV hu))) (clE (za 5)) (clE zl) (zC _)))
   (ze (ax (mXD (gO (clE (za 1)) T.pw oq ZN hr (clP (zb (za 4) zc)))))
   (zg (ax (tI (zF zJ (za 2) (za 4) (λ_ _=>rfl))))))
   (zg (zQ (tD (zG (clO (oI0 gZ)) (clE (zL bj rfl T.wh N8 (zb (zF zJ (za 2) (za 4) (λ_ _=>rfl)) zc))) (clE (m0D (bh (clE (za 1)) T.pw Z1 hr))) (zC _)))
   (ze (gF (i0:=6) hX.nd rfl (NC rfl) (λ_=>rfl) (zU.of B1) (liD (bK (clE (zF zJ (za 2) (za 4) (λ_ _=>rfl))))) (λ_ _ _ _ _=>(zz (i:=0) Dc rfl (NC rfl))) (λ_ _ _ _ _=>(dU (tD (zG (clO iR) (clE (za 0)) (clE aJ) (zC _))))) (λ_ _ _ _ _=>(cy (oE (eS hu)) (zF zJ (za 0) zl (λ_ _=>rfl)) zH (zC _))))
   (ze (zy (i:=7) hX.nd rfl (NC rfl) (caD (zq YG hr rfl (clP (zb (za 0) (zb (Hl (za 3) (caD (zq Z9 hr rfl (clP (zb (za 0) (zb (zL bj rfl T.wh N8 (zb (za 3) zc)) zc)))))) (zb (zF zJ (zB aK (za 6) (ay (zb (cy (oI0 h9) (caD (zq Z9 hr rfl (clP (zb (za 0) (zb zl zc))))) zl (zC _)) zc))) zl (λ_ _=>rfl)) zc)))))))
   (ze (zy (i:=8) hX.nd rfl (NC rfl) (caD (zq YF hr rfl (clP (zb (za 7) zc)))))
   (zg (zQ (tD (zG (clO (oI0 gZ)) (clE (za 5)) (clE zl) (zC _)))
   (ze (ax (mXD (gO (clE (za 1)) T.pw oq Zz hr (clP (zb (za 4) (zb (eW fZ (za 8) eL (eR (zB aK zl (caD (zq Z9 hr rfl (clP (zb (za 0) (zb (zB (oI0 fI) (zL bj rfl T.wh N8 (zb (za 8) zc)) zl) zc)))))))) zc))))))
   (zg (ax (hU (zF zJ (za 2) (za 4) (λ_ _=>rfl)) aJ))))
   (ze (ax (mXD (gO (clE (za 1)) T.pw oq Zz hr (clP (zb (za 4) (zb (za 8) zc))))))
   (zg (ax (hU (zF zJ (za 2) (za 4) (λ_ _=>rfl)) (za 7))))))))))
   zV))))))),?_⟩
 have hsz:=ok.size;have b8:=Tw.dw.F8.w;erw [b8,KE,Tw.dw.F8.len,bb];refine ⟨a,_,rfl,Tw.Tp,by lia,by lia,λk' H1 b1 bp k0 k1=>?_⟩;obtain ⟨k,rfl⟩:=Pn k0;have S:k<d.rows.length:=by lia
 have T1:=Tw.S0 b1 bp;ac_rfl;refine ⟨a,10,rfl,bp,by decide,by decide,λdK H2 b2 Xq w0 w1=>?_⟩;have J:=T1.S0 b2 Xq;have kA:zu (FT a nl p wl sl sh cells shc) H H2:=(b1.keeps.mono (by simp [FT])).trans (b2.keeps.mono (by simp [FT]));obtain ⟨Xt,bc⟩:=J.dw.vx.ob;have bZ:=J.dw.F8.w;obtain ⟨c,vs,hc,ha,WO,c3,a4⟩:=J.dw.F8.cell (k:=k) (by rw [bb];exact S);have Yx:=NM hc;have a3:vs.length=(d.rows.getD k []).length:=by rw [a4,bf,KE]
 erw [bc,vO];refine aq (λa9=>?_) (λa9=>?_)
 .refine ⟨p,wl,sl,cells,m,d,k,rfl,J.dw.vx,S,ok.small,(λl e=>by rw [Tw.live.1] at e;cases e),λH3 D3 b3=>?_⟩;rw [HF Tw.live.1 Tw.live.2] at D3 ⊢;unfold Out;dsimp only;obtain ⟨S3,_⟩:=J.dw.Vd b3;obtain ⟨c',dp,Yy,c5,df,dv,dt⟩:=S3.cell (k:=k) (by rw [bb];exact S);rw [hc] at Yy;cases Yy;have ai:=S3.w;have kZ:zu (FT a nl p wl sl sh cells shc) H (upd H3 c (.lst [])):=(kA.trans (b3.mono (by simp [FT];intro x hx;simp [hx]))).trans (zu.upd (by simp [FT,Yx]));refine ⟨_,.inl ai,_,c5,c,rfl,⟨_,df⟩,q (d.cleared k _) ns _ (J.done b3 S D3 (r':=[]) ?_ hc .nil (Jf J.dw.ok S) J.live J.sd) (Ez ok S) (by lia) kZ⟩;exact ie
 .erw [bc,jQ,bZ,ha,WO];refine ⟨p,wl,sl,cells,m,d,rfl,J.dw.vx,?_⟩;ac_rfl;rw [a3];refine aq (λU=>?_) (λU=>?_)
  rotate_left
  .exact q d ns H2 J ok (by lia) kA
  have U:((d.rows.getD k []).length:Int)<m:=of_decide_eq_true U;refine ⟨_,.inl bZ,_,ha,?_⟩;rw [tW];have bB:=J.dw.ok;have Xp:∀j xs,((rdR d.rows).getD k [])[j]?=some (some xs)->∃y n ys,xs=V.str y::V.int n::ys:=λj xs e=>bB.sh.keys (xs,k,j) (bX.mpr ⟨by rw [bb];exact S,(Nt.mp e).1,by show ((rdR d.rows).getD k []).getD j none=_;rw [Nr,e];rfl⟩);have dk:=bB.sh.wide k;refine ⟨⟨_,SqL.of WO⟩,zT.lst (xs:=vs) (HtI H2 vs.length) (λi τ ys H' I=>?_) (λi τ ys H' I=>by rw [I.same];exact SqL.of WO) ⟨Ot _,⟨_,rfl⟩,⟨[],rfl,Nq _⟩,rfl⟩ ?_ ?_⟩
  .obtain ⟨bs,e,l⟩:=I.ys;rw [e,KE];exact aF (by have:=I.le;lia)
  .intro N i x τ ys H' hx I hN;obtain ⟨t1,rfl⟩:=I.ex;obtain ⟨bs,e,l⟩:=I.ys;have es:=I.same;subst es;have hi:i<((rdR d.rows).getD k []).length:=by rw [<- a4];exact (Nt.mp hx).1
   have bx:((rdR d.rows).getD k [])[i]?=some ((rdR d.rows).getD k [])[i]:=p8 hi;have hr:=aY c3 hx bx;have X9:=Xp i;rw [bx] at X9;generalize ((rdR d.rows).getD k [])[i]=o at hr X9;cases o with
   | none =>
    cases (show x=V.non from hr);ac_rfl;exact hN _ _ _ ⟨by lia,⟨_,rfl⟩,⟨bs,e,by lia⟩,rfl⟩
   | some xs =>
    obtain ⟨rr,rfl,dd⟩:=hr;obtain ⟨y,n,zs,rfl⟩:=X9 xs rfl;have ix:atI (V.str y::V.int n::zs) 0=some (V.str y):=cu (j:=0) (by simp);erw [dd,ix];exact hN _ _ _ ⟨by lia,⟨_,rfl⟩,⟨bs++[_],by rw [e,Oa];rfl,by simp;lia⟩,rfl⟩
  .intro τ ys H' I D3 H3 m3;obtain ⟨bs,cC,dT⟩:=I.ys;have es:=I.same;subst es;rw [cC] at m3;have T3:=J.same m3.same;have a5:=T3.nums;have dV:=ok.few;refine ⟨⟨_,a5⟩,_,.inl a5,a,_,rfl,T3.Tp,by rw [KE];lia,by rw [KE];lia,λri H4 b4 cc r0 r1=>?_⟩;obtain ⟨i,rfl⟩:=Pn r0;have hi:i<ns.length:=by rw [KE] at r1;lia
   have aj:ns[i]?=some ns[i]:=p8 hi;have ak:=ok.ax _ (Oj hi);generalize ns[i]=n at aj ak;have T4:=T3.S0 b4 cc;refine ⟨_,i,rfl,T4.nums,_,by rw [NJ,aj];rfl,?_⟩;rw [su];have T5:=T4.popped (ns':=ns.eraseIdx i);have k5:zu [nl] H4 (upd H4 nl (.lst ((ns.eraseIdx i).map V.int))):=zu.upd (by simp);generalize upd H4 nl (.lst ((ns.eraseIdx i).map V.int))=H5 at T5 k5 ⊢;refine ⟨a,3,rfl,T5.Tp,by decide,by decide,λg H6 b6 b5 g0 g1=>?_⟩;have T6:=T5.S0 b6 b5;simp only [vR];refine ⟨by decide,λpl H7 m7 _=>?_⟩;have T7:=T6.same m7.same;have Da:D3≠a:=J.Tp.ne m3.no;have Dn:D3≠nl:=λz=>by have:=m3.no;rw [z,J.nums] at this;cases this
   have eD:H7 D3=some (.lst (bs.map V.bl)):=m7.same _ _ (b6 _ _ Da (k5 _ _ (b4 _ _ Da m3.at_) (by simpa using Dn)));have cv:bs.length<=32:=by lia
   rw [ib];refine ⟨_,_,eD,m7.at_,aM (by simp;lia),λp8 H8 m8=>?_⟩;rw [hZ];obtain ⟨hot,a0⟩:∃hot:Bool,atI (bs.map V.bl++[V.bl (decide (0<g))]) 0=some (.bl hot):=by
    cases bs with
    | nil=>exact ⟨_,rfl⟩
    | cons b bs=>exact ⟨b,cu (j:=0) (by simp)⟩
   have T8:=T7.same m8.same;refine ⟨_,.inl m8.at_,_,a0,a,n,hot,rfl,T8.Tp,ak.1,ak.2,λr xs H9 b9 cP lr bP=>?_⟩;have T9:=T8.S0 b9 cP;obtain ⟨ra,rl,rr,dm⟩:=Ib lr.ok lr.len;have k9:zu (FT a nl p wl sl sh cells shc) H H9:=(((((kA.trans (zu.same m3.same)).trans (b4.keeps.mono (by simp [FT]))).trans (k5.mono (by simp [FT]))).trans (b6.keeps.mono (by simp [FT]))).trans (zu.same (m7.same.trans m8.same))).trans (b9.keeps.mono (by simp [FT]));have a7:∀(t:Str)(v:V)(H11:Hp)(Q':VK)(E':XK),QW A H11 a nl p wl sl sh cells shc m d (ns.eraseIdx i)->zu (FT a nl p wl sl sh cells shc) H H11->asc t=true->t.length<=1000->(∀Z,rdT (some t)=some Z->gQ Z=n)->(∀Z,rdT (some t)=some Z->bE Z)->(∀H12,zu (p::wl::sl::cells) H11 H12->de H12 v (rdT (some t))) ->
     (∀u H12 c vs,H12 sh=some (.lst (shc.map V.ref))->atI (shc.map V.ref) (k:Int)=some (.ref c)->H12 c=some (.lst vs)->vs.length<sizeLine->Q .non (upd H12 c (.lst (vs++[v])))->Q' u H12)->rf A [.ref p,.int k,.str t] H11 Q' E':=λt v H11 Q' E' TT kk cD bA XW c4 c6 cont=>by
    refine ⟨p,wl,sl,cells,m,d,k,t,rfl,TT.dw.vx,S,bA,ok.small,λH12 a6 G=>?_⟩;rw [Ij TT.live.1 TT.live.2 U] at a6 ⊢;obtain ⟨aT,_⟩:=TT.dw.Vd G;obtain ⟨c',X0,Yy,dg,cp,c2,dq⟩:=aT.cell (k:=k) (by rw [bb];exact S);have a8:=NM Yy;obtain ⟨od,b7⟩:=Fq (c:=d.cnt+t.length) (i:=i) TT.dw.ok ok S U cD bA aj XW c4;have bq:rdR (d.wrote k t (d.cnt+t.length)).rows=(rdR d.rows).set k ((rdR d.rows).getD k []++[rdT (some t)]):=by
     show rdR (d.rows.set k _)=_;rw [ie,Oa,bf];rfl
    refine cont _ H12 c' X0 aT.w dg cp (aF (by lia)) (q _ (ns.eraseIdx i) _ (TT.done G S a6 bq Yy (dc c2 (.cons (c6 H12 G) .nil)) od TT.live TT.sd) b7 (by rw [RX hi];lia) ?_);exact (kk.trans (G.mono (by simp [FT];intro x hx;simp [hx]))).trans (zu.upd (by simp [FT,a8]))
   refine ⟨r,xs,rfl,.inr bP,lr.ok.parts.1,lr.ok.parts.2.2.2,λct av=>?_⟩;have O:=T9.same av;have bL:=av _ _ bP;have bt:=k9.trans (zu.same av);obtain ⟨ag,ab⟩:=O.dw.vx.ob;have XW:gQ xs=n:=by obtain ⟨y,ys,e⟩:=lr.hd;rw [e];rfl
   refine aq (λai=>?_) (λai=>?_)
   .refine ⟨ag,_,ab,x5,?_⟩;ac_rfl;refine ⟨aM (by lia),a,_,rfl,O.Tp,by lia,by lia,λj' H11 ba b0 j0 j1=>?_⟩;obtain ⟨j,rfl⟩:=Pn j0;have hj:1+j<(aS xs).length:=by lia
    have c9:=O.S0 ba b0;have da:=bt.trans (ba.keeps.mono (by simp [FT]));simp only [gw,yA];have et:Txt.slice (aS xs) none (some (1+(j:Int)))=tx ((sg (aS xs)).take (1+j)):=by
     have e:(1+(j:Int))=((1+j:Nat):Int):=by lia
     rw [e,j8 (by rw [ae];lia)]
    rw [et];have WM:rdT (some (tx ((sg (aS xs)).take (1+j))))=none:=CZ lr.ok hj;refine ⟨aM (by lia),a7 _ .non H11 _ _ c9 da ?_ ?_ (λZ e=>by rw [WM] at e;cases e) (λZ e=>by rw [WM] at e;cases e) (λH12 G=>by rw [WM];rfl) λu H12 c vs h1 h2 h3 h4 h5=>⟨_,.inl h1,_,h2,c,rfl,⟨_,h3⟩,_,h3,h4,h5⟩⟩
    .rw [bT,cE];rw [bT] at ra;exact Ol.mpr λc hc=>Ol.mp ra c (QS hc)
    .rw [nG,Pb,ae];lia
   .refine ⟨ag,_,ab,x5,a7 _ (.ref r) ct _ _ O bt ra rl (λZ e=>by rw [show rdT (some (aS xs))=some xs from rr] at e;cases e;exact XW) (λZ e=>by rw [show rdT (some (aS xs))=some xs from rr] at e;cases e;exact lr.ok) (λH12 G=>by rw [show rdT (some (aS xs))=some xs from rr];exact ⟨r,rfl,O.dw.vx.tup G bL⟩) λu H12 c vs h1 h2 h3 h4 h5=>⟨_,.inl h1,_,h2,c,rfl,⟨_,h3⟩,_,h3,h4,h5⟩⟩
abbrev jM:Stmt:=top 68
def DM.Tr(d:DM)(k j:Nat):DM:={ d with rows:=d.rows.set k (N5 j none++(d.rows.getD k []).drop j),cnt:=d.cnt+j }
theorem Hg{d:DM}{k j:Nat}(h2:d.st=false)(O:j<(d.rows.getD k []).length):(d.stop j).empty k=(.stop,{ d.Tr k j with left:=some 0,st:=true }):=by
 have z:dn (d.stop j).left (((d.stop j).rows.getD k []).length:Nat)=j:=by
  show (if (j:Int)<((d.rows.getD k []).length:Int) then (j:Int) else _)=j;rw [if_pos (by lia)]
 have F:(d.stop j).spend (((d.stop j).rows.getD k []).length:Nat)={ d with cnt:=d.cnt+j,left:=some 0,st:=true }:=by
  unfold DM.spend;rw [z];have G:(d.stop j).left.map (· - (j:Int))=some 0:=by show some ((j:Int)-j)=some 0;rw [Int.sub_self]
  have J:decide ((j:Int)<(((d.stop j).rows.getD k []).length:Nat))=true:=decide_eq_true (by show (j:Int)<((d.rows.getD k []).length:Int);lia);rw [G,J];rfl
 unfold DM.empty;rw [if_neg (by show ¬ d.st=true;rw [h2];exact Nx),if_pos (by rw [F]),z,F,Ph];rfl
theorem wF{k j:Nat}(G:k<d.rows.length)(J:j<(d.rows.getD k []).length){t:Tri}(h:t∈nU (d.Tr k j)):t∈nU d:=by
 rw [cf] at h ⊢;rw [bX] at h ⊢;rw [bb] at h ⊢;obtain ⟨h1,h2,h3⟩:=h;have e:(rdR (d.Tr k j).rows).getD t.2.1 []=if t.2.1=k then N5 j none++((rdR d.rows).getD k []).drop j else (rdR d.rows).getD t.2.1 []:=by
  show (rdR (d.rows.set k _)).getD _ _=_;rw [ie,fq (by rw [bb];exact G)];split
  .rw [Oa,RW,List.map_drop,bf];rfl
  .rfl
 have z:t.2.1<d.rows.length:=by
  have:(d.Tr k j).rows.length=d.rows.length:=Pe ..;lia
 rw [e] at h2 h3;by_cases F:t.2.1=k
 .rw [if_pos F] at h2 h3;rw [NY,OK,Ru] at h2;by_cases hb:t.2.2<j
  .rw [Nr,Pu (by rw [OK];exact hb),P9,if_pos hb] at h3;cases h3
  .rw [Nr,Pa (by rw [OK];lia),OK,List.getElem?_drop] at h3;have hl:((rdR d.rows).getD k []).length=(d.rows.getD k []).length:=by rw [bf,KE]
   refine ⟨z,by rw [F];lia,?_⟩;rw [F,Nr];rw [show j+(t.2.2-j)=t.2.2 by lia] at h3;exact h3
 .rw [if_neg F] at h2 h3;exact ⟨z,h2,h3⟩
theorem xB{d:DM}{k j:Nat}(z:j<(d.rows.getD k []).length):(N5 j (none:Tx)++(d.rows.getD k []).drop j).length=(d.rows.getD k []).length:=by rw [NY,OK,Ru];lia
theorem M0{d:DM}{k j:Nat}{c:Int}{U:Option Int}{st:Bool}(h:DOk d)(G:k<d.rows.length)(O:j<(d.rows.getD k []).length):DOk { d.Tr k j with left:=U,st:=st }:=by
 refine h.less (h.tx.set ⟨?_,λq F z J=>?_⟩) λt S=>wF G O S
 .rw [xB O];exact (h.tx.ok _ (eV G)).1
 .rcases Og.mp F with F|F
  .rw [(List.mem_replicate.mp F).2] at J;cases J
  .exact (h.tx.ok _ (eV G)).2 q (List.mem_of_mem_drop F) z J
theorem Mf{k j:Nat}{st:Bool}(h:TOk m d ns)(z:k<d.rows.length)(F:j<(d.rows.getD k []).length):TOk m { d.Tr k j with left:=J,st:=st } ns:=by
 refine h.less (Pe ..) (λi=>?_) λt G=>wF z F G;show (((d.rows.set k _).getD i []).length:Int)<=m;rw [fq z];split
 .rw [xB F];exact h.wide k
 .exact h.wide i
theorem au.swap{sh:Addr}(S:au H sh shc rs){k:Nat}(Z:k<rs.length)(e:H c'=some (.lst F))(h1:c'≠sh)(h2:c'∉shc)(hp:Paired (de H) F r'):au (upd H sh (.lst ((shc.map V.ref).set k (.ref c')))) sh (shc.set k c') (rs.set k r'):=by
 obtain ⟨O,n2⟩:=OO.mp S.nd;have U:∀r xs,H r=some (.tup xs)->upd H sh (.lst ((shc.map V.ref).set k (.ref c'))) r=some (.tup xs):=λr xs e=>by rw [zd (λz=>by rw [z,S.w] at e;cases e)];exact e
 have Zr:k<shc.length:=by rw [S.len];exact Z
 have Yw:∀x∈shc.set k c',x=c'\/x∈shc:=λx hx=>(QM hx).symm;refine ⟨by rw [zx,map_set],by rw [Pe,Pe];exact S.len,λi W hi=>?_,OO.mpr ⟨λz=>?_,?_⟩⟩
 .rw [fq Z];by_cases h:i=k
  .subst h;rw [Qp Zr] at hi;cases hi;rw [if_pos rfl];exact ⟨F,by rw [zd h1];exact e,Paired.yz hp λv o r=>r.keep U⟩
  .rw [if_neg h];rw [QU (NO h)] at hi;obtain ⟨vs,hv,pv⟩:=S.at_ i W hi;exact ⟨vs,by rw [zd (λz:W=sh=>O (by rw [<- z];exact NM hi))];exact hv,Paired.yz pv λv o r=>r.keep U⟩
 .rcases Yw sh z with z|z
  .exact h1 z.symm
  .exact O z
 .refine Pt.mpr λi j hi J X8=>?_;rw [Pe] at hi J;rw [List.getElem_set,List.getElem_set];have G:=Pt.mp n2 i j hi J X8;split
  .split
   .lia
   .exact λz=>h2 (by rw [z];exact Oj J)
  .split
   .exact λz=>h2 (by rw [<- z];exact Oj hi)
   .exact G
theorem wI:∀{n:Nat},Paired (de H) (N5 n V.non) (N5 n none)
 | 0=>.nil
 | n+1=>by rw [OZ,OZ];exact .cons rfl wI
theorem vc{α β:Type}{R:α->β->Prop}:∀{l:List α}{m:List β}{j:Nat},Paired R l m->Paired R (l.drop j) (m.drop j)
 | _,_,0,h=>h
 | _,_,_+1,.nil=>.nil
 | _,_,j+1,.cons _ t=>vc (j:=j) t
theorem BF{xs:List V}{j:Nat}(h:j<=xs.length):aX xs (some (j:Int)) none=xs.drop j:=by
 unfold aX;rw [HT.sIx_nat,HT.sIx_none,SH h,NW (by rw [Ru];exact Nq _)]
theorem Cu{x:V}:(N5 n [x]).flatten=N5 n x:=by
 induction n with
 | zero=>rfl
 | succ n z=>rw [OZ,Q6,z];rfl
structure SmI(H:Hp)(rs:List (List OR))(i:Nat)(τ:L2.St)(ys:List V)(H':Hp):Prop where
 ex:∃t1 t2,τ=[t1,t2]
 ys:∃l:List Nat,ys=l.map iv/\l.length<=i/\∀k∈l,k<rs.length/\(rs.getD k []).length≠0
 same:zj H H'
 le:i<=16
def xA(A:zh):Sp:=λvs H Q _=>∃(a nl p wl sl sh:Addr)(cells shc:List Addr)(m:Int)(d:DM)(ns:List Int),vs=[.ref a,.ref p,.ref sh]/\QW A H a nl p wl sl sh cells shc m d ns/\TOk m d ns /\
 ∀z F J G shc' d' H',QW A H' a nl z F J sh G shc' m d' ns->TOk m d' ns->zu (FT a nl p wl sl sh cells shc) H H'->(∀x∈FT a nl z F J sh G shc',x∈FT a nl p wl sl sh cells shc\/H x=none)->Q (.ref z) H'
theorem gS:zt WG WE (zi jM):=fsc
theorem Dp:aG { kind:=.function,names:=[(yv ".0",.local),(yv "_law_k",.local),(yv "_law_rows_here",.local)],isGenerator:=false,isCoroutine:=false,more:=[] } (zi jM).names WG ["_law_k","_law_rows_here"] [none,none]=true:=by decide +kernel
theorem wN:(["_law_k","_law_rows_here"]:List Str).Nodup:=by decide +kernel
theorem Mz(F:Fun K "_law_torn" "_law_torn" jM f fd)(T:Txt w K mg A)(Z9:GF P w K mg base true 1 V0 Zu du)(Z5:GF P w K mg base true 2 VS Ym jb)(ZK:GM P w K mg base true 1 A.tj "stop" WH (pQ A))(ZN:GMX P w K mg base true 2 A.tj "empty" Xw (qV A))(Zm:GM P w K mg base true 5 A.tj VO Zn (uG A)):zm P w K mg base CX0 true 6 f fd WE (xA A):=by
 refine F.o gS λZ2 Ar outer s H vs Q E hr h=>?_;obtain ⟨a,nl,p,wl,sl,sh,cells,shc,m,d,ns,rfl,Tw,ok,q⟩:=h;have hu:_<cLine:=N1 (zO hr);refine ⟨_,(W.h (ze (gF (i0:=3) gS.nd rfl (NC rfl) (λ_=>rfl) (zU.of Dp) (kN rfl T.F6 (zb (za 2) zc)) (λ_ _ _ _ _=>(gB (n:=2) (gsD (zS (zz (i:=0) wN rfl (NC rfl)) (gsD (zS (zz (i:=1) wN rfl (NC rfl)) bR)))))) (λ_ _ _ _ _=>(dU (tD (zG (clO (yB hu)) (clE (za 1)) (clE (ay zc)) (zC _))))) (λ_ _ _ _ _=>(za 0)))
   (ze (zQ (cH (i6 (tD (zG (clO (pO hu)) (clE (za 3)) (clE (ay zc)) (zC _))) (i4 (tD (zG (clO (oE (aV hu))) (clE (caD (zq Z9 hr rfl (clP (zb (za 0) (zb zl zc)))))) (clE zl) (zC _))))))
   (zg (zw (za 1)))
   zV)
   (ze (zy (i:=4) gS.nd rfl (NC rfl) (caD (zq Z5 hr rfl (clP (zb (za 0) (zb (za 3) zc))))))
   (ze (zy (i:=5) gS.nd rfl (NC rfl) (caD (zq Z9 hr rfl (clP (zb (za 0) (zb (zL bj rfl T.wh N8 (zb (zF zJ (za 2) (za 4) (λ_ _=>rfl)) zc)) zc))))))
   (ze (ax (mD (bS (clE (za 1)) T.pw ZK hr (clP (zb (za 5) zc)))))
   (ze (zy (i:=6) gS.nd rfl (NC rfl) bW)
   (ze (rh rfl rfl ⟨rfl,rfl⟩ T.Qe rfl T.Tg (λGo Ex=>(zg (ax (mXD (gO (clE (za 1)) T.pw nu ZN hr (clP (zb (za 4) zc))))))) (λGo ea=>by
   have hr:=hr.mark (v:=some (.ref ea));exact (zg (zy (i:=6) gS.nd rfl (NC rfl) bW))))
   (ze (zQ (bG (za 6))
   (zg (cJ (zB aK (zB cV (ay (zb aJ zc)) (za 5)) (eW fZ (zF zJ (za 2) (za 4) (λ_ _=>rfl)) (eR (za 5)) eL)) (eJ (za 2) (za 4) hG)))
   zV)
   (zg (zw (m0D (bh (clE (za 1)) T.pw Zm hr))))))))))))),?_⟩
 have hsz:=ok.size;have S:=Tw.dw.F8;ac_rfl;refine ⟨⟨_,SqL.of S.w⟩,zT.enum (xs:=shc.map V.ref) (SmI H (rdR d.rows)) (λi τ ys H' I=>?_) (λi τ ys H' I=>SqL.of (I.same _ _ S.w)) ⟨⟨_,_,rfl⟩,⟨[],rfl,Nq _,by simp⟩,zj.refl _,by lia⟩ ?_ ?_⟩
 .obtain ⟨l,e,hl,_⟩:=I.ys;rw [e,KE];exact aF (by have:=I.le;lia)
 .intro N i x pt τ ys H' hx I hp hN;obtain ⟨t1,t2,rfl⟩:=I.ex;obtain ⟨l,e,hl,hm⟩:=I.ys;rw [NJ] at hx;obtain ⟨c,hc,rfl⟩:=NV.mp hx;have hi:i<(rdR d.rows).length:=by rw [<- S.len];exact (Nt.mp hc).1
  have dv:i<16:=by rw [bb] at hi;lia
  obtain ⟨vs,hv,pv⟩:=S.at_ i c hc;have lv:=zW pv;refine ⟨pt,_,rfl,SqT.of zx,rfl,?_⟩;have nw:New H' pt (.tup [.int i,.ref c]) (upd H' pt (.tup [.int i,.ref c])):=.mk' hp;generalize upd H' pt (.tup [.int i,.ref c])=H0 at nw ⊢;ac_rfl;refine ⟨Ot _,λpl H5 n5 _=>⟨_,n5.same _ _ (nw.same _ _ (I.same _ _ hv)),_,n5.at_,.inr rfl,?_⟩⟩;have sm:=(I.same.trans nw.same).trans n5.same;rw [show ([]:List V).length=0 from rfl];by_cases h0:vs.length=0
  .rw [decide_eq_true h0];ac_rfl;exact hN _ _ _ ⟨⟨_,_,rfl⟩,⟨l,e,by lia,hm⟩,sm,by lia⟩
  .rw [decide_eq_false h0];ac_rfl;refine hN _ _ _ ⟨⟨_,_,rfl⟩,⟨l++[i],by rw [e,Oa];rfl,by simp;lia,λk hk=>?_⟩,sm,by lia⟩;rcases Og.mp hk with hk|hk
   .exact hm k hk
   .rw [NG] at hk;subst hk;exact ⟨hi,by lia⟩
 .intro τ ys H' I D2 H2 m2;obtain ⟨l,e,hl,hm⟩:=I.ys;rw [e] at m2;have s2:zj H H2:=I.same.trans m2.same;have T2:=Tw.same s2;have stay:Q (.ref p) H2:=q p wl sl cells shc d H2 T2 ok (zu.same s2) λx hx=>.inl hx;intro _;refine ⟨Ot _,λpl H3 m3 _=>?_⟩;have T3:=T2.same m3.same;have s3:=s2.trans m3.same;rw [um];refine ⟨_,_,m3.same _ _ m2.at_,m3.at_,.inr rfl,?_⟩;ac_rfl;rw [KE];by_cases bL:l.length=0
  .rw [if_pos (decide_eq_true bL)];exact q p wl sl cells shc d H3 T3 ok (zu.same s3) λx hx=>.inl hx
  rw [if_neg (by rw [decide_eq_false bL];exact Nx)];refine ⟨a,3,rfl,T3.Tp,by decide,by decide,λr H4 b4 cD r0 r1=>?_⟩;have T4:=T3.S0 b4 cD;have kp:∀{H H':Hp},But a H H'->zu (FT a nl p wl sl sh cells shc) H H':=λ{H H'} b=>b.keeps.mono (by simp [FT]);have k4:zu (FT a nl p wl sl sh cells shc) H H4:=(zu.same s3).trans (kp b4);simp only [tL,yY];by_cases b2:r=0
  .rw [decide_eq_true b2];exact q p wl sl cells shc d H4 T4 ok k4 λx hx=>.inl hx
  rw [decide_eq_false b2];have Da:D2≠a:=(Tw.Tp.same I.same).ne m2.no;have dp:l.length<=16:=by
   have:=hl;rw [KE,S.len,bb] at this;lia
  refine ⟨a,T4.Tp,.inl ⟨D2,_,rfl,Da,.inl (b4 _ _ Da (m3.same _ _ m2.at_)),by rw [KE];lia,by rw [KE];lia,λv H5 hv b5 Xi=>?_⟩⟩;obtain ⟨k,cp,rfl⟩:=PF.mp hv;obtain ⟨Zr,YO⟩:=hm k cp;have hk:k<d.rows.length:=by rw [bb] at Zr;exact Zr
  have T5:=T4.S0 b5 Xi;have k5:=k4.trans (kp b5);obtain ⟨c,vs,hc,ha,c4,d0,c6⟩:=T5.dw.F8.cell (k:=k) Zr;have Yx:=NM hc;have d3:vs.length=(d.rows.getD k []).length:=by rw [c6,bf,KE]
  have dq:=ok.wide k;unfold iv;rw [hZ];refine ⟨_,.inl T5.dw.F8.w,_,ha,?_⟩;rw [pF];refine ⟨_,.inl c4,a,_,rfl,T5.Tp,by lia,by lia,λj' H6 b6 cc j0 j1=>?_⟩;obtain ⟨j,rfl⟩:=Pn j0;have hj:j<(d.rows.getD k []).length:=by lia
  have G:=T5.S0 b6 cc;have k6:=k5.trans (kp b6);obtain ⟨da,ct⟩:=G.dw.vx.ob;refine ⟨da,_,ct,Af,p,wl,sl,cells,m,d,j,rfl,G.dw.vx,λH7 D7 b7=>?_⟩;obtain ⟨c5,dg⟩:=D7.ob;refine ⟨c5,_,dg,vO,p,wl,sl,cells,m,d.stop j,k,rfl,D7,hk,ok.small,(λl e=>by cases e;lia),λH8 D8 b8=>?_⟩;rw [Hg G.live.2 hj] at D8 ⊢;unfold Out;dsimp only;refine ⟨_,rfl,T.Qe,T.Tv,λea oe he _=>?_⟩;have dm:zu (p::wl::sl::cells) H6 H8:=(b7.mono (by simp)).trans b8;have a4:zj H8 (upd H8 ea (.frz oe (.own 0))):=λx o e=>by rw [zd (zE e he)];exact e
  generalize upd H8 ea (.frz oe (.own 0))=H9 at a4 ⊢;have D9:=D8.qb (.of a4);have J:zu (p::wl::sl::cells) H6 H9:=dm.trans (zu.same a4);obtain ⟨S9,b9⟩:=G.dw.Vd J;obtain ⟨c9,bx,dV,a8,ba,cv,df⟩:=S9.cell (k:=k) Zr;have a0:=S9.w;have dt:bx.length=(d.rows.getD k []).length:=by rw [df,bf,KE]
  erw [a0,a8,ba];refine ⟨by decide,λp1 d1 bq _=>⟨_,bq.at_,by lia,by lia,aM (by simp;lia),λp2 H11 bp=>?_⟩⟩;have a3:zj H9 H11:=bq.same.trans bp.same;refine ⟨_,.inl (a3 _ _ a0),_,a8,?_⟩;rw [qp];refine ⟨_,a3 _ _ ba,λp3 H12 ag=>?_⟩;rw [BF (by lia)] at ag;rw [ib];have b1:=bp.at_;rw [Ph,Cu] at b1;refine ⟨_,_,ag.same _ _ b1,ag.at_,aM (by simp;lia),λp4 H13 U=>?_⟩;have Z:zj H9 H12:=a3.trans ag.same;have O:zj H9 H13:=Z.trans U.same;have ai:=S9.same O;have bB:=b9.same O;have b0:=D9.qb (.of O);have dK:k<shc.length:=by rw [S9.len];exact Zr
  have ix:ixN (shc.map V.ref).length (k:Int)=some k:=by
   unfold ixN;rw [if_pos (by lia),if_pos (by rw [KE];lia)];simp
  refine ⟨_,ai.w,k,ix,?_⟩;have a9:p4≠sh:=λz=>by have:=U.no;rw [z,Z _ _ a0] at this;cases this
  have b3:p4∉shc:=λz=>by
   obtain ⟨i,hi,e⟩:=Ov z;obtain ⟨us,eu,_⟩:=S9.at_ i _ (p8 hi);have:=U.no;rw [<- e,Z _ _ eu] at this;cases this
  have bZ:Paired (de H13) (N5 j V.non++bx.drop j) (N5 j none++((rdR d.rows).getD k []).drop j):=dc wI (Paired.yz (vc cv) λv o r=>r.keep λr xs e=>O _ _ e);have aj:=ai.swap Zr U.at_ a9 b3 bZ;have kS:zu [sh] H13 (upd H13 sh (.lst ((shc.map V.ref).set k (.ref p4)))):=zu.upd (by simp);have ak:TB A (upd H13 sh (.lst ((shc.map V.ref).set k (.ref p4)))):=bB.put ai.w;have aT:=b0.keep kS λx hx z=>by
   rw [NG] at z;obtain ⟨d2,bP⟩:=b0.ob;rcases Nw.mp hx with rfl|hx
   .rw [z,ai.w] at bP;cases bP
   .exact (G.dw.ap x hx).1 z
  have c3:zu (FT a nl p wl sl sh cells shc) H H13:=(k6.trans (J.mono (by simp [FT];intro x hx;simp [hx]))).trans (zu.same O);have a6:zu (FT a nl p wl sl sh cells shc) H (upd H13 sh (.lst ((shc.map V.ref).set k (.ref p4)))):=c3.trans (kS.mono (by simp [FT]));have a7:Pot (upd H13 sh (.lst ((shc.map V.ref).set k (.ref p4)))) a:=by
   obtain ⟨x,y,e,rr⟩:=G.Tp.ex;exact ⟨⟨x,y,by rw [zd G.TQ.2.1];exact O _ _ (J _ _ e (G.dw.vx.out e λx hx=>(G.ap x hx).1)),rr⟩⟩
  have a5:(upd H13 sh (.lst ((shc.map V.ref).set k (.ref p4)))) nl=some (.lst (ns.map V.int)):=by
   rw [zd G.TQ.2.2.2.1];exact O _ _ (J _ _ G.nums (G.dw.vx.out G.nums λx hx=>(G.ap x hx).2))
  have cC:p4∈FT a nl p wl sl sh cells shc\/H p4=none:=by
   by_cases z:p4∈FT a nl p wl sl sh cells shc
   .exact .inl z
   .refine .inr ?_;cases e:H p4 with
    | none=>rfl
    | some o =>
     have:=((k6.trans (J.mono (by simp [FT];intro x hx;simp [hx]))).trans (zu.same Z)) _ _ e z;rw [U.no] at this;cases this
  have dk:a≠p4:=λz=>by
   obtain ⟨xs,e⟩:=G.Tp.lst;have:=Z _ _ (J _ _ e (G.dw.vx.out e λx hx=>(G.ap x hx).1));rw [z,U.no] at this;cases this
  have cP:nl≠p4:=λz=>by
   have:=Z _ _ (J _ _ G.nums (G.dw.vx.out G.nums λx hx=>(G.ap x hx).2));rw [z,U.no] at this;cases this
  generalize upd H13 sh (.lst ((shc.map V.ref).set k (.ref p4)))=dT at aj ak aT a6 a7 a5 ⊢;obtain ⟨bt,bc⟩:=aT.ob;have rl:(d.Tr k j).rows.length=d.rows.length:=Pe ..;refine ⟨bt,_,bc,Bq,p,wl,sl,cells,m,_,rfl,aT,by show 3<=(d.Tr k j).rows.length;lia,by show (d.Tr k j).rows.length<=16;lia,hsz.2.2.1,hsz.2.2.2,λp' Xs XM ZG bA dd ab av=>?_⟩;have Yw:∀x∈shc.set k p4,x=p4\/x∈shc:=λx hx=>(QM hx).symm;have fr:∀x∈p'::Xs::XM::ZG,x∈FT a nl p wl sl sh cells shc\/H x=none:=λx hx=>by
   by_cases z:x∈FT a nl p wl sl sh cells shc
   .exact .inl z
   .refine .inr ?_;cases e:H x with
    | none=>rfl
    | some o =>
     have:=a6 _ _ e z;rw [av x hx] at this;cases this
  have c2:rdR (d.Tr k j).rows=(rdR d.rows).set k (N5 j none++((rdR d.rows).getD k []).drop j):=by
   show rdR (d.rows.set k _)=_;rw [ie,Oa,RW,List.map_drop,bf];rfl
  refine q p' Xs XM ZG (shc.set k p4) { d.Tr k j with left:=none,st:=false } bA ⟨⟨dd,?_,λx hx=>?_,ak.same ab,M0 (c:=0) Tw.dw.ok hk hj⟩,a7.same ab,ab _ _ a5,λx hx=>?_,⟨G.TQ.1,G.TQ.2.1,λz=>?_,G.TQ.2.2.2.1,λz=>?_⟩,⟨rfl,rfl⟩,Tw.sd⟩ (Mf ok hk hj) (a6.trans (zu.same ab)) λx hx=>?_
  .show au bA sh _ (rdR (d.Tr k j).rows);rw [c2];exact aj.same ab
  .have Xe:=av x (ND _ hx);refine ⟨λz=>?_,λz=>?_⟩
   .rw [z,aj.w] at Xe;cases Xe
   .obtain ⟨i,hi,e⟩:=Ov z;obtain ⟨us,eu,_⟩:=aj.at_ i _ (p8 hi);rw [<- e,eu] at Xe;cases Xe
  .have Xe:=av x (ND _ hx);refine ⟨a7.ne Xe,λz=>?_⟩;rw [z,a5] at Xe;cases Xe
  .rcases Yw _ z with z|z
   .exact dk z
   .exact G.TQ.2.2.1 z
  .rcases Yw _ z with z|z
   .exact cP z
   .exact G.TQ.2.2.2.2 z
  .unfold FT at hx;rcases Nw.mp hx with rfl|hx
   .exact .inl (by simp [FT])
   .rcases Nw.mp hx with rfl|hx
    .exact .inl (by simp [FT])
    .rcases Nw.mp hx with rfl|hx
     .exact fr _ (by simp)
     .rcases Nw.mp hx with rfl|hx
      .exact fr _ (by simp)
      .rcases Nw.mp hx with rfl|hx
       .exact fr _ (by simp)
       .rcases Nw.mp hx with rfl|hx
        .exact .inl (by simp [FT])
        .rcases Og.mp hx with hx|hx
         .exact fr _ (by simp [hx])
         .rcases Yw x hx with rfl|hx
          .exact cC
          .exact .inl (by simp [FT,hx])
abbrev ph:Stmt:=top 82
abbrev jR:Stmt:=top 69
theorem rF{α:Type}(n i:Nat):(N5 n ([]:List α)).getD i []=[]:=by
 rw [Nr,P9];split<;>rfl
theorem xK(n:Nat):nU (DM.new n)=[]:=by
 refine List.eq_nil_iff_forall_not_mem.mpr λt z=>?_;rw [cf,bX] at z;have h:=z.2.1;rw [bf,KE] at h;have e:(DM.new n).rows.getD t.2.1 []=[]:=rF n _;rw [e] at h;simp at h
theorem Nd(h:n<=16):DOk (DM.new n):=by
 have e:=xK n;refine ⟨⟨λr hr=>?_,by show (N5 n _).length<=16;rw [OK];exact h⟩,by rw [e];exact nodup_nil,by rw [e];decide,(λt z=>by rw [e] at z;cases z),(λt z=>by rw [e] at z;cases z)⟩;rw [(List.mem_replicate.mp hr).2];exact ⟨by simp,by simp⟩
theorem HN(h1:3<=n)(h2:n<=16)(h3:2<=m)(h4:m<=32)(nd:ns.Nodup)(hi:∀x∈ns,1<=x/\x<10 ^ 17)(hl:ns.length<=20):TOk m (DM.new n) ns:=by
 have e:=xK n;refine ⟨by show 3<=(N5 n _).length/\(N5 n _).length<=16/\_;rw [OK];exact ⟨h1,h2,h3,h4⟩,λi=>?_,nd,hi,(λt z=>by rw [e] at z;cases z),by rw [e];simpa using hl⟩;show (((N5 n ([]:List Tx)).getD i []).length:Int)<=m;rw [rF];simp;lia
structure Lp1(A:zh)(H0:Hp)(a nl p wl sl sh:Addr)(cells shc:List Addr)(m:Int)(lo:Nat)(i:Nat)(σ:L2.St)(H':Hp):Prop where
 ex:∃t,σ=[some (V.ref a),some (.ref p),some (.ref sh),some (.ref nl),t]
 st:∃d ns,QW A H' a nl p wl sl sh cells shc m d ns/\TOk m d ns/\lo<=ns.length+i
 keep:zu (FT a nl p wl sl sh cells shc) H0 H'
def sS(A:zh):Sp:=λvs H Q _=>∃a,vs=[.ref a]/\Pot H a/\TB A H/\∀tp p wl sl sh cells shc m d H',H' tp=some (.tup [.ref p,.ref sh])->DW A H' p wl sl sh cells shc m d->Pot H' a->But a H H' ->
 (∀x∈p::wl::sl::sh::(cells++shc),x≠a/\H x=none)->d.left=none->d.st=false->d.sides.length=2->(3<=d.rows.length/\d.rows.length<=16/\2<=m/\m<=32)->(∀i,((d.rows.getD i []).length:Int)<=m)->Q (.ref tp) H'
theorem fU:zt WB ["_law_pot_here"] (zi jR):=fsc
theorem B5:aG { kind:=.function,names:=[(yv ".0",.local),(yv "_law_k",.local)],isGenerator:=false,isCoroutine:=false,more:=[] } (zi jR).names WB ["_law_k"] [none]=true:=by decide +kernel
theorem Ew:(["_law_k"]:List Str).Nodup:=by decide +kernel
theorem FN(F:Fun K "_law_disk" "_law_disk" jR f fd)(T:Txt w K mg A)(Z5:GF P w K mg base true 2 VS Ym jb)(Yz:GC P w K mg base true 3 "Disk" A.tj X4 (ng A))(Z6:GM P w K mg base true 1 A.tj VR Zn (dA A λ_ d=>.int d.rows.length))(Zt:GF P w K mg base true 2 VC Zu ud)(Z9:GF P w K mg base true 1 V0 Zu du)(Zp:GF P w K mg base true 4 "_law_turn" Xx (uZ A))(YX:GF P w K mg base true 6 "_law_torn" WE (xA A)):zm P w K mg base CX0 true 7 f fd ["_law_pot_here"] (sS A):=by
 refine F.o fU λZ2 Ar outer s H vs Q E hr h=>?_;obtain ⟨a,rfl,hP,tb,q⟩:=h;have hu:_<cLine:=N1 (zO hr);refine ⟨_,(W.h (ze (zy (i:=1) fU.nd rfl (NC rfl) (qP Yz hr rfl (zb (caD (zq Z5 hr rfl (clP (zb (za 0) (zb (ay (zb zl (zb zl (zb zl (zb zl (zb zl zc)))))) zc))))) (zb (caD (zq Z5 hr rfl (clP (zb (za 0) (zb (ay (zb zl (zb zl (zb zl (zb zl (zb zl zc)))))) zc))))) zc))))
   (ze (gF (i0:=2) fU.nd rfl (NC rfl) (λ_=>rfl) (zU.of B5) (dP rfl T.z4 (zb (m0D (bh (clE (za 1)) T.pw Z6 hr)) zc)) (λ_ _ _ _ _=>(zz (i:=0) Ew rfl (NC rfl))) (λ_ _ _ _ _=>di) (λ_ _ _ _ _=>(ay zc)))
   (ze (zy (i:=3) fU.nd rfl (NC rfl) (caD (zq Zt hr rfl (clP (zb (za 0) (zb zl zc))))))
   (ze (bN OW.never (λ_=>rfl) (dP rfl T.z4 (zb (caD (zq Z9 hr rfl (clP (zb (za 0) (zb zl zc))))) zc)) (zz (i:=4) fU.nd rfl (NC rfl))
   (zg (ax (caD (zq Zp hr rfl (clP (zb (za 0) (zb (za 1) (zb (za 2) (zb (za 3) zc))))))))))
   (ze (zy (i:=1) fU.nd rfl (NC rfl) (caD (zq YX hr rfl (clP (zb (za 0) (zb (za 1) (zb (za 2) zc)))))))
   (ze (bN OW.never (λ_=>rfl) (dP rfl T.z4 (zb (caD (zq Z9 hr rfl (clP (zb (za 0) (zb zl zc))))) zc)) (zz (i:=4) fU.nd rfl (NC rfl))
   (zg (ax (caD (zq Zp hr rfl (clP (zb (za 0) (zb (za 1) (zb (za 2) (zb (za 3) zc))))))))))
   (zg (zw (aO (zb (za 1) (zb (za 2) zc)))))))))))),?_⟩
 have lst:∀{H:Hp},Pot H a->∀x∈[a],(∃xs,H x=some (.lst xs))\/∃C dx fs,H x=some (.ins C dx fs):=λ{H} h x hx=>by
  rw [NG] at hx;subst hx;obtain ⟨xs,e⟩:=h.lst;exact .inl ⟨xs,e⟩
 ac_rfl;refine ⟨by decide,λl1 H1 m1 _=>⟨a,hP.same m1.same,.inl ⟨l1,_,rfl,hP.ne m1.no,.inl m1.at_,by simp,by simp,λv1 H2 a7 b2 Xq=>?_⟩⟩⟩;obtain ⟨n,rfl,ct,bp⟩:∃n:Nat,v1 = .int n/\3<=n/\n<=16:=by
  simp only [Nw,NH,or_false] at a7;rcases a7 with rfl|rfl|rfl|rfl|rfl
  .exact ⟨3,rfl,by decide,by decide⟩
  .exact ⟨3,rfl,by decide,by decide⟩
  .exact ⟨4,rfl,by decide,by decide⟩
  .exact ⟨5,rfl,by decide,by decide⟩
  .exact ⟨16,rfl,by decide,by decide⟩
 have bA:=(But.of m1.same).trans b2;have Yh:TB A H2:=(tb.same m1.same).lists b2.keeps (lst (hP.same m1.same));refine ⟨by decide,λl3 H3 m3 _=>⟨a,Xq.same m3.same,.inl ⟨l3,_,rfl,Xq.ne m3.no,.inl m3.at_,by simp,by simp,λv2 H4 WO b4 ab=>?_⟩⟩⟩;obtain ⟨m,rfl,b0,bx⟩:∃m:Int,v2 = .int m/\2<=m/\m<=32:=by
  simp only [Nw,NH,or_false] at WO;rcases WO with rfl|rfl|rfl|rfl|rfl
  .exact ⟨2,rfl,by decide,by decide⟩
  .exact ⟨2,rfl,by decide,by decide⟩
  .exact ⟨3,rfl,by decide,by decide⟩
  .exact ⟨5,rfl,by decide,by decide⟩
  .exact ⟨32,rfl,by decide,by decide⟩
 have bB:=(bA.trans (But.of m3.same)).trans b4;have cP:TB A H4:=(Yh.same m3.same).lists b4.keeps (lst (Xq.same m3.same));refine λp b7 H5 nI=>⟨p,b7,n,m,rfl,nI.at_,by lia,by lia,by lia,by lia,λwl sl cells H6 D6 k6 f6=>⟨rfl,?_⟩⟩;rw [Ph] at D6;have P5:=ab.same nI.same;obtain ⟨xa,ya,ea,ra⟩:=P5.ex;have a3:a≠p:=λz=>by rw [z,nI.at_] at ea;cases ea
 have P6:Pot H6 a:=⟨⟨xa,ya,k6 _ _ ea a3,ra⟩⟩;have cv:zu [p] H5 H6:=λc o e n=>k6 c o e (λz=>n (by simp [z]));have c3:TB A H6:=(cP.same nI.same).lists cv (λx hx=>by rw [NG] at hx;subst hx;exact .inr ⟨_,_,_,nI.at_⟩);have b6:But a H H6:=λx o nx e=>k6 x o (nI.same _ _ (bB x o nx e)) (λz=>by have:=bB x o nx e;rw [z,nI.no] at this;cases this);have S:∀x∈p::wl::sl::cells,x≠a/\H x=none:=λx hx=>by
  rcases Nw.mp hx with rfl|hx
  .exact ⟨NO a3,bB.no ab nI.no⟩
  .have h5:=f6 x hx;have h4:H4 x=none:=nI.same.free h5;exact ⟨P5.ne h5,bB.no ab h4⟩
 obtain ⟨cC,bL⟩:=D6.ob;refine ⟨cC,_,bL,kL,p,wl,sl,cells,m,_,rfl,D6,?_⟩;have er:(DM.new n).rows.length=n:=OK ..;ac_rfl;rw [er,Ph];refine ⟨by lia,by lia,zT.rng (yX H6) (λi τ ys H' I=>?_) ⟨⟨_,rfl⟩,⟨[],rfl,rfl,by simp,nodup_nil⟩,zj.refl _,by decide⟩ ?_ ?_⟩
 .obtain ⟨cs,e,l,_⟩:=I.ex;rw [e,KE,l];exact aF (by have:=I.le;lia)
 .intro N i τ ys H' hi I hN;obtain ⟨t,rfl⟩:=I.τ;obtain ⟨cs,e,l,hc,Xm⟩:=I.ex;ac_rfl;refine ⟨Ot _,λc H7 n7 _=>hN _ _ _ ⟨⟨_,rfl⟩,⟨cs++[c],by rw [e];simp,by simp [l],λx hx=>?_,?_⟩,I.same.trans n7.same,by lia⟩⟩
  .rcases Og.mp hx with hx|hx
   .exact ⟨n7.same _ _ (hc x hx).1,(hc x hx).2⟩
   .rw [NG] at hx;subst hx;exact ⟨n7.at_,I.same.free n7.no⟩
  .rw [QI];refine ⟨Xm,by simp,λx hx y hy z=>?_⟩;rw [NG] at hy;have:=(hc x hx).1;rw [z,hy,n7.no] at this;cases this
 .intro τ ys H7 I sh H8 n8;obtain ⟨shc,e,lc,hc,Xm⟩:=I.ex;rw [e] at n8;have O:zj H6 H8:=I.same.trans n8.same;have bt:sh∉shc:=λz=>by have:=n8.no;rw [(hc sh z).1] at this;cases this
  have a0:rdR (DM.new n).rows=N5 n []:=by
   show (N5 n ([]:List Tx)).map _=_;rw [RW];rfl
  have rep:∀i c,shc[i]?=some c->H8 c=some (.lst []):=λi c h=>n8.same _ _ (hc c (NM h)).1;have S8:au H8 sh shc (rdR (DM.new n).rows):=by
   rw [a0];exact ⟨n8.at_,by rw [OK];exact lc,λi c h=>⟨[],rep i c h,by rw [rF];exact .nil⟩,OO.mpr ⟨bt,Xm⟩⟩
  have fr:∀x o,H6 x=some o->x≠sh/\x∉shc:=λx o h=>by
   refine ⟨λz=>?_,λz=>?_⟩
   .have:=n8.no;rw [<- z,I.same _ _ h] at this;cases this
   .have:=(hc x z).2;rw [h] at this;cases this
  have ba:∀x∈wl::sl::cells,∃o,H6 x=some o:=λx hx=>by
   rcases D6.lists x (ND _ hx) with ⟨xs,h⟩|⟨_,_,_,h⟩<;>exact ⟨_,h⟩
  have W8:DW A H8 p wl sl sh cells shc m (DM.new n):=⟨D6.qb (.of O),S8,λx hx=>by obtain ⟨o,ho⟩:=ba x hx;exact fr x o ho,c3.same O,Nd bp⟩;have P8:=P6.same O;obtain ⟨x6,y6,ai,_⟩:=P6.ex;obtain ⟨a5,a9⟩:=fr a _ ai;have b8:But a H H8:=b6.trans (But.of O);refine ⟨a,14,rfl,P8,by decide,by decide,λnl ns H9 b9 a6 aT bq Z7 nd Yn=>?_⟩;have c4:=b8.trans b9;have U:∀x o,H8 x=some o->x≠nl:=λx o h z=>by rw [z,aT] at h;cases h
  have Q9:QW A H9 a nl p wl sl sh cells shc m (DM.new n) ns:=by
   refine ⟨W8.S0 P8 (λx hx=>(S x (ND _ hx)).1) a5 a9 b9,a6,bq,λx hx=>⟨(S x (ND _ hx)).1,?_⟩,⟨U a _ (O _ _ ai),a5,a9,(U sh _ S8.w).symm,λz=>?_⟩,⟨rfl,rfl⟩,rfl⟩
   .obtain ⟨o,ho⟩:=ba x hx;exact U x o (O _ _ ho)
   .obtain ⟨i,hi,ei⟩:=Ov z;exact U nl _ (rep i nl (by rw [<- ei];exact p8 hi)) rfl
  have T9:TOk m (DM.new n) ns:=HN ct bp b0 bx nd Yn (by lia);have ag:∀x∈FT a nl p wl sl sh cells shc,x=a\/H x=none:=λx hx=>by
   unfold FT at hx;rcases Nw.mp hx with rfl|hx
   .exact .inl rfl
   .rcases Nw.mp hx with rfl|hx
    .exact .inr (b8.no P8 aT)
    .rcases Nw.mp hx with rfl|hx
     .exact .inr (S _ (by simp)).2
     .rcases Nw.mp hx with rfl|hx
      .exact .inr (S _ (by simp)).2
      .rcases Nw.mp hx with rfl|hx
       .exact .inr (S _ (by simp)).2
       .rcases Nw.mp hx with rfl|hx
        .exact .inr (b6.no P6 (I.same.free n8.no))
        .rcases Og.mp hx with hx|hx
         .exact .inr (S _ (by simp [hx])).2
         .exact .inr (b6.no P6 (hc x hx).2)
  have G:∀{Hy Hc:Hp}{F:List Addr},But a H Hy->(∀x∈F,x=a\/H x=none)->zu F Hy Hc->But a H Hc:=λ{Hy Hc F} b fr k x o nx e=>k x o (b x o nx e) λz=>by
   rcases fr x z with z|z
   .exact nx z
   .rw [e] at z;cases z
  ac_rfl;refine ⟨a,10,rfl,a6,by decide,by decide,λr1 b5 av ak c5 c6=>?_⟩;have cc:=Q9.S0 av ak;have aj:=c4.trans av;ac_rfl;refine ⟨by lia,by lia,aA.rng (Lp1 A b5 a nl p wl sl sh cells shc m 14) ⟨⟨_,rfl⟩,⟨_,ns,cc,T9,by lia⟩,zu.refl⟩ ?_ ?_⟩
  .rintro i σ Ha hi ⟨⟨t,rfl⟩,⟨d,ns',Qa,Ta,hl⟩,ka⟩;ac_rfl;exact ⟨a,nl,p,wl,sl,sh,cells,shc,m,d,ns',rfl,Qa,Ta,by lia,λd' Z Hb Qb Tb Yp kb=>⟨⟨_,rfl⟩,⟨d',Z,Qb,Tb,by lia⟩,ka.trans kb⟩⟩
  .rintro σ Ha ⟨⟨t,rfl⟩,⟨d,ns',Qa,Ta,hl⟩,ka⟩;have a8:=G aj ag ka;ac_rfl;refine ⟨a,nl,p,wl,sl,sh,cells,shc,m,d,ns',rfl,Qa,Ta,λp' Xs XM ZG shc' d' Hb Qb Tb kb fb=>?_⟩;have bZ:=G a8 ag kb;have a4:∀x∈FT a nl p' Xs XM sh ZG shc',x=a\/H x=none:=λx hx=>by
    rcases fb x hx with h|h
    .exact ag x h
    .exact .inr (a8.no Qa.Tp h)
   ac_rfl;refine ⟨a,6,rfl,Qb.Tp,by decide,by decide,λr2 Hc bc cD da dd=>?_⟩;have Qc:=Qb.S0 bc cD;have b3:=bZ.trans bc;ac_rfl;refine ⟨by lia,by lia,aA.rng (Lp1 A Hc a nl p' Xs XM sh ZG shc' m 5) ⟨⟨_,rfl⟩,⟨d',ns',Qc,Tb,by lia⟩,zu.refl⟩ ?_ ?_⟩
   .rintro i σ Hd hi ⟨⟨t,rfl⟩,⟨d2,Z,Qd,Td,Yp⟩,kd⟩;ac_rfl;exact ⟨a,nl,p',Xs,XM,sh,ZG,shc',m,d2,Z,rfl,Qd,Td,by lia,λd3 cp He J Te WN ke=>⟨⟨_,rfl⟩,⟨d3,cp,J,Te,by lia⟩,kd.trans ke⟩⟩
   .rintro σ Hd ⟨⟨t,rfl⟩,⟨d2,Z,Qd,Td,Yp⟩,kd⟩;have b1:=G b3 a4 kd;ac_rfl;refine ⟨by decide,λtp He me=>?_⟩;have J:=Qd.same me.same;refine q tp p' Xs XM sh ZG shc' m d2 He me.at_ J.dw J.Tp (b1.trans (But.of me.same)) (λx hx=>?_) J.live.1 J.live.2 J.sd Td.size Td.wide;have bP:x∈FT a nl p' Xs XM sh ZG shc':=by
     unfold FT;exact ND _ (ND _ hx)
    have xa:x≠a:=by
     rcases Nw.mp hx with rfl|hx
     .obtain ⟨c9,c2⟩:=J.dw.vx.ob;obtain ⟨xs,e⟩:=J.Tp.lst;exact NO (lW e c2)
     .rcases Nw.mp hx with rfl|hx
      .exact (J.ap _ (by simp)).1
      .rcases Nw.mp hx with rfl|hx
       .exact (J.ap _ (by simp)).1
       .rcases Nw.mp hx with rfl|hx
        .exact NO J.TQ.2.1
        .rcases Og.mp hx with hx|hx
         .exact (J.ap _ (by simp [hx])).1
         .exact λz=>J.TQ.2.2.1 (z ▸ hx)
    exact ⟨xa,(a4 x bP).resolve_left xa⟩
def yZ(A:zh):Sp:=λvs H Q _=>∃(p wl sl:Addr)(cells:List Addr)(m:Int)(d:DM),vs=[.ref p]/\zD A H p wl sl cells m d/\d.st=false/\d.sides.length=2/\∀d' H',zD A H' p wl sl cells m d'->d'.rows=d.rows->d'.cnt=d.cnt->zu (p::wl::sl::cells) H H'->Q (.bl true) H'
theorem nY:zt ["_law_disk_here","_law_told"] ["_law_disk_here"] (zi ph):=fsc
theorem JV(F:Fun K Vw Vw ph f fd)(T:Txt w K mg A)(ZK:GM P w K mg base true 1 A.tj "stop" WH (pQ A))(ZA:GMX P w K mg base true 3 A.tj "put_side" Wv (sH A)):zm P w K mg base CX0 true 4 f fd ["_law_disk_here"] (yZ A):=by
 refine F.o nY λZ2 Ar outer s H vs Q E hr h=>?_;obtain ⟨p,wl,sl,cells,m,d,rfl,D,hst,G,q⟩:=h;refine ⟨_,(W.h (ze (zy (i:=1) nY.nd rfl (NC rfl) bW)
   (ze (ax (mD (bS (clE (za 0)) T.pw ZK hr (clP (zb zl zc)))))
   (ze (rh rfl rfl ⟨rfl,rfl⟩ T.Qe rfl T.Tg (λGo Ex=>(zg (ax (mXD (gO (clE (za 0)) T.pw nu ZA hr (clP (zb zl (zb zH zc)))))))) (λGo ea=>by
   have hr:=hr.mark (v:=some (.ref ea));exact (zg (zy (i:=1) nY.nd rfl (NC rfl) bW))))
   (zg (zw (za 1))))))),?_⟩
 obtain ⟨dx,h1⟩:=D.ob;erw [h1,Af];refine ⟨p,wl,sl,cells,m,d,0,rfl,D,λH1 J b1=>?_⟩;obtain ⟨ab,g1⟩:=J.ob;erw [g1,Jk];have S:("a":Str).length=1:=by decide +kernel
 have z:dn (d.stop 0).left (("a":Str).length:Nat)=0:=by rw [S];show (if (0:Int)<1 then (0:Int) else 1)=0;decide
 have es:((d.stop 0).spend (("a":Str).length:Nat)).st=true:=by
  show decide (dn (d.stop 0).left (("a":Str).length:Nat)<(("a":Str).length:Nat))=true;rw [z,S];decide
 have ep:(d.stop 0).put 0 "a"=(.stop,(d.stop 0).spend (("a":Str).length:Nat)):=by
  unfold DM.put;rw [if_neg (by show ¬ d.st=true;rw [hst];exact Nx),if_pos ⟨z,es⟩]
 refine ⟨p,wl,sl,cells,m,d.stop 0,0,"a",rfl,J,by show 0<d.sides.length;lia,G,by lia,λH2 O Z=>?_⟩;rw [ep] at O ⊢;unfold Out;dsimp only;refine ⟨_,rfl,T.Qe,T.Tv,λea oe he _=>?_⟩;have U:zj H2 (upd H2 ea (.frz oe (.own 0))):=λx o e=>by rw [zd (zE e he)];exact e
 exact q _ _ (O.qb (.of U)) rfl (show d.cnt+dn (d.stop 0).left (("a":Str).length:Nat)=d.cnt by rw [z];lia) (((b1.mono (by simp)).trans Z).trans (zu.same U))
end
abbrev qN:Stmt:=aC (top 57) 0
abbrev qH:Stmt:=aC (top 57) 1
abbrev pV:Stmt:=aC (top 57) 2
abbrev mH:Stmt:=aC (top 57) 14
abbrev Tab:=List (Str×List Int)
def aR(H:Hp)(v:V)(l:List Int):Prop:=∃p,v = .ref p/\H p=some (.tup (l.map V.int))
def aU(b k:Addr):List (Str×V):=[("births",.ref b),("kept",.ref k)]
structure cU(H:Hp)(b:Addr)(t:Tab):Prop where
 ex:∃kvs,H b=some (.dK (sk kvs))/\Dct (aR H) kvs t
 nd:(names t).Nodup
structure dJ(H:Hp)(b:Addr)(t:Tab):Prop where
 ex:∃kvs,Rd H b (.dK (sk kvs))/\Dct (aR H) kvs t
 nd:(names t).Nodup
theorem cU.r{t:Tab}(h:cU H b t):dJ H b t:=let ⟨kvs,e,d⟩:=h.ex;⟨⟨kvs,.inl e,d⟩,h.nd⟩
structure cq(A:zh)(H:Hp)(q b k:Addr)(t:Tab):Prop where
 ob:∃dx,H q=some (.ins A.tr dx (aU b k))
 qs:dJ H b t
 kept:Rd H k (.dK (sk []))
def cK(A:zh)(H:Hp)(b k:Addr)(v:V)(t:Tab):Prop:=∃q z k',v = .ref q/\cq A H q z k' t/\z≠b/\z≠k/\k'≠b/\k'≠k
structure zN(A:zh)(H:Hp)(p b k:Addr)(t:Tab)(ks:List (Str×Tab)):Prop where
 ob:∃dx,H p=some (.ins A.tr dx (aU b k))
 qs:cU H b t
 kept:∃kk,H k=some (.dK (sk kk))/\Dct (cK A H b k) kk ks
 aq:(names ks).Nodup
 ne:b≠k
structure gh(A:zh)(H:Hp)(p b k:Addr)(t:Tab)(ks:List (Str×Tab)):Prop where
 ob:∃dx,H p=some (.ins A.tr dx (aU b k))
 qs:dJ H b t
 kept:∃kk,Rd H k (.dK (sk kk))/\Dct (cK A H b k) kk ks
 aq:(names ks).Nodup
theorem zN.r{p b k:Addr}{t:Tab}(h:zN A H p b k t ks):gh A H p b k t ks:=let ⟨kk,e,d⟩:=h.kept;⟨h.ob,h.qs.r,⟨kk,.inl e,d⟩,h.aq⟩
structure FS(H H':Hp):Prop where
 oth:∀a o,(∀kvs,o≠.dK kvs)->(∀ob kvs,o≠.frz ob (.dK kvs))->H a=some o->H' a=some o
 dic:∀a kvs,Rd H a (.dK kvs)->Rd H' a (.dK kvs)
theorem FS.of(s:zj H H'):FS H H':=⟨λa o _ _ e=>s a o e,λa kvs r=>r.elim (λe=>.inl (s _ _ e)) (λ⟨o,e⟩=>.inr ⟨o,s _ _ e⟩)⟩
theorem Rd.same(h:Rd H a u)(s:zj H H'):Rd H' a u:=h.elim (λe=>.inl (s _ _ e)) (λ⟨o,e⟩=>.inr ⟨o,s _ _ e⟩)
theorem But.upd{b:Addr}{H:Hp}{o:HO}:But b H (upd H b o):=λa u n e=>by rw [zd n];exact e
theorem aR.but(h:aR H v l)(s:But b H H')(hb:∀xs,H b≠some (.tup xs)):aR H' v l:=by
 obtain ⟨p,e,F⟩:=h;exact ⟨p,e,s p _ (λz=>by subst z;exact hb _ F) F⟩
theorem aR.same(h:aR H v l)(s:zj H H'):aR H' v l:=let ⟨p,e,hp⟩:=h;⟨p,e,s p _ hp⟩
theorem cU.but{t:Tab}(h:cU H b t)(s:But x H H')(hx:∀xs,H x≠some (.tup xs))(n:b≠x):cU H' b t:=by
 obtain ⟨kvs,e,d⟩:=h.ex;exact ⟨⟨kvs,s _ _ n e,d.imp λv a r=>r.but s hx⟩,h.nd⟩
theorem cU.same{t:Tab}(h:cU H b t)(s:zj H H'):cU H' b t:=by
 obtain ⟨kvs,e,d⟩:=h.ex;exact ⟨⟨kvs,s _ _ e,d.imp λv a r=>r.same s⟩,h.nd⟩
theorem dJ.but{t:Tab}(h:dJ H b t)(s:But x H H')(hx:∀xs,H x≠some (.tup xs))(n:b≠x):dJ H' b t:=by
 obtain ⟨kvs,e,d⟩:=h.ex;exact ⟨⟨kvs,e.elim (λe=>.inl (s _ _ n e)) (λ⟨o,e⟩=>.inr ⟨o,s _ _ n e⟩),d.imp λv a r=>r.but s hx⟩,h.nd⟩
theorem aR.fs(h:aR H v l)(s:FS H H'):aR H' v l:=let ⟨p,e,hp⟩:=h;⟨p,e,s.oth p _ (λ_=>nofun) (λ_ _=>nofun) hp⟩
theorem dJ.fs{t:Tab}(h:dJ H b t)(s:FS H H'):dJ H' b t:=by
 obtain ⟨kvs,e,d⟩:=h.ex;exact ⟨⟨kvs,s.dic _ _ e,d.imp λv a r=>r.fs s⟩,h.nd⟩
theorem cq.but{q b k:Addr}{t:Tab}(h:cq A H q b k t)(s:But x H H')(hx:H x=some (.dK kvs))(G:b≠x)(F:k≠x):cq A H' q b k t:=by
 obtain ⟨dx,e⟩:=h.ob;exact ⟨⟨dx,s _ _ (λz=>by subst z;rw [e] at hx;cases hx) e⟩,h.qs.but s (λxs z=>by rw [z] at hx;cases hx) G,h.kept.elim (λe=>.inl (s _ _ F e)) (λ⟨o,e⟩=>.inr ⟨o,s _ _ F e⟩)⟩
theorem cq.fs{q b k:Addr}{t:Tab}(h:cq A H q b k t)(s:FS H H'):cq A H' q b k t:=let ⟨dx,e⟩:=h.ob;⟨⟨dx,s.oth _ _ (λ_=>nofun) (λ_ _=>nofun) e⟩,h.qs.fs s,s.dic _ _ h.kept⟩
theorem cq.same{q b k:Addr}{t:Tab}(h:cq A H q b k t)(s:zj H H'):cq A H' q b k t:=h.fs (.of s)
theorem cK.fs{b k:Addr}{t:Tab}(h:cK A H b k v t)(s:FS H H'):cK A H' b k v t:=let ⟨q,b',k',e,r,n⟩:=h;⟨q,b',k',e,r.fs s,n⟩
theorem gh.fs{p b k:Addr}{t:Tab}(h:gh A H p b k t ks)(s:FS H H'):gh A H' p b k t ks:=by
 obtain ⟨dx,e⟩:=h.ob;obtain ⟨F,z,d⟩:=h.kept;exact ⟨⟨dx,s.oth _ _ (λ_=>nofun) (λ_ _=>nofun) e⟩,h.qs.fs s,⟨F,s.dic _ _ z,d.imp λv a r=>r.fs s⟩,h.aq⟩
theorem zN.fs{p b k d:Addr}{t:Tab}(h:zN A H p b k t ks)(s:FS H H')(bt:But d H H')(J:b≠d)(G:k≠d):zN A H' p b k t ks:=by
 obtain ⟨dx,e⟩:=h.ob;obtain ⟨S,O,d⟩:=h.kept;obtain ⟨kvs,F,z⟩:=h.qs.ex;exact ⟨⟨dx,s.oth _ _ (λ_=>nofun) (λ_ _=>nofun) e⟩,⟨⟨kvs,bt _ _ J F,z.imp λv a r=>r.fs s⟩,h.qs.nd⟩,⟨S,bt _ _ G O,d.imp λv a r=>r.fs s⟩,h.aq,h.ne⟩
theorem cK.same{b k:Addr}{t:Tab}(h:cK A H b k v t)(s:zj H H'):cK A H' b k v t:=let ⟨q,b',k',e,r,n⟩:=h;⟨q,b',k',e,r.same s,n⟩
theorem zN.same{p b k:Addr}{t:Tab}(h:zN A H p b k t ks)(s:zj H H'):zN A H' p b k t ks:=by
 obtain ⟨dx,e⟩:=h.ob;obtain ⟨F,z,d⟩:=h.kept;exact ⟨⟨dx,s _ _ e⟩,h.qs.same s,⟨F,s _ _ z,d.imp λv a r=>r.same s⟩,h.aq,h.ne⟩
theorem zN.setB{p b k:Addr}{t t':Tab}(h:zN A H p b k t ks)(s:But b H H')(e:H' b=some (.dK (sk F)))(d':Dct (aR H') F t')(nd:(names t').Nodup):zN A H' p b k t' ks:=by
 obtain ⟨dx,O⟩:=h.ob;obtain ⟨kk,Z,d⟩:=h.kept;obtain ⟨kvs,G,_⟩:=h.qs.ex;exact ⟨⟨dx,s _ _ (λz=>by subst z;rw [O] at G;cases G) O⟩,⟨⟨F,e,d'⟩,nd⟩,⟨kk,s _ _ (NO h.ne) Z,d.imp λv a ⟨q,b',k',ev,r,J,W,S,U⟩=>⟨q,b',k',ev,r.but s G J S,J,W,S,U⟩⟩,h.aq,h.ne⟩
theorem zN.bq{p b k:Addr}{t:Tab}(h:zN A H p b k t ks)(s:But k H H')(e:H' k=some (.dK (sk F)))(d':Dct (cK A H' b k) F ks')(nd:(names ks').Nodup):zN A H' p b k t ks':=by
 obtain ⟨dx,J⟩:=h.ob;obtain ⟨O,G,d⟩:=h.kept;exact ⟨⟨dx,s _ _ (λz=>by subst z;rw [J] at G;cases G) J⟩,h.qs.but s (λxs z=>by rw [z] at G;cases G) h.ne,⟨F,e,d'⟩,nd,h.ne⟩
theorem cK.but{b k:Addr}{t:Tab}(h:cK A H b k v t)(s:But k H H')(hx:H k=some (.dK kvs)):cK A H' b k v t:=let ⟨q,b',k',ev,r,n1,n2,n3,n4⟩:=h;⟨q,b',k',ev,r.but s hx n2 n4,n1,n2,n3,n4⟩
section
variable {P:NB}{w:NQ}{K:Frag}{mg:Str->Option Value}{base:Heap}{A:zh}{b k:Addr}
theorem cX:(aU b k).lookup ("births":Str)=some (.ref b):=by kernel_rfl
theorem qQ:(aU b k).lookup ("kept":Str)=some (.ref k):=by kernel_rfl
theorem AC:(aU b k).lookup ("names":Str)=none:=by kernel_rfl
theorem i3:(aU b k).lookup ("many":Str)=none:=by kernel_rfl
theorem Lb:(aU b k).lookup (VU:Str)=none:=by kernel_rfl
theorem Bt:(aU b k).lookup (VT:Str)=none:=by kernel_rfl
theorem JD:(aU b k).lookup (VV:Str)=none:=by kernel_rfl
theorem A2:(aU b k).lookup ("bare":Str)=none:=by kernel_rfl
theorem GT:(aU b k).lookup ("keep":Str)=none:=by kernel_rfl
theorem v3:(aU b k).lookup (VF:Str)=none:=by kernel_rfl
def oS(A:zh):Sp:=λvs H Q _=>∃(p dx:Addr),vs=[.ref p]/\H p=some (.ins A.tr dx [])/\∀b k H',But p H H'->H b=none->H k=none->H' b=some (.dK (sk []))->H' k=some (.dK (sk []))->b≠k->H' p=some (.ins A.tr dx (aU b k))->Q .non H'
theorem Ln:zt Zn Zn (zi qN):=fsc
theorem Nk(F:Fun K VX "Files.__init__" qN f fd)(T:Txt w K mg A):zm P w K mg base CX0 true 1 f fd Zn (oS A):=by
 refine F.o Ln λZ2 Ar outer s H vs Q E hr h=>?_;obtain ⟨p,dx,rfl,S,q⟩:=h;refine ⟨_,(W.h (ze (sfD (bz T.pL T.qf (clE (za 0)) (clE pR)))
   (zg (sfD (bz T.pL T.zf (clE (za 0)) (clE pR)))))),?_⟩
 ac_rfl;refine λb H1 J=>⟨dx,[],J.same _ _ S,by decide,λk H2 G=>⟨dx,_,G.same _ _ zx,by show 1<1000;decide,?_⟩⟩;have O:b≠p:=λz=>by have:=J.no;rw [z,S] at this;cases this
 have kp:k≠p:=λz=>by have:=G.no;rw [z,zx] at this;cases this
 have k1:H1 k=none:=by have:=G.no;rw [zd kp] at this;exact this
 have Z:zR ("kept":Str) (V.ref k) (zR ("births":Str) (V.ref b) [])=aU b k:=by kernel_rfl
 have U:H2 b=some (.dK []):=G.same _ _ (by rw [zd O];exact J.at_);rw [Z];refine q b k _ (λa o n e=>?_) J.no (J.same.free k1) (by rw [zd O];exact U) (by rw [zd kp];exact G.at_) (λz=>?_) zx
 .rw [zd n];exact G.same _ _ (by rw [zd n];exact J.same _ _ e)
 .have:=G.no;rw [<- z,zd O,J.at_] at this;cases this
def wk(A:zh):Sp:=λvs H Q _=>∃(p b k:Addr)(t:Tab)(ks:List (Str×Tab)),vs=[.ref p]/\gh A H p b k t ks/\t.length<64/\∀l H',New H l (.lst ((c8 (names t)).map V.str)) H'->Q (.ref l) H'
theorem DK:zt Zn Zn (zi qH):=fsc
theorem ID(F:Fun K "names" "Files.names" qH f fd)(T:Txt w K mg A):zm P w K mg base CX0 true 1 f fd Zn (wk A):=by
 refine F.o DK λS O outer s H vs Q E hr h=>?_;obtain ⟨p,b,k,t,ks,rfl,z,hl,q⟩:=h;refine ⟨_,(W.h (zg (zw (zL (E7 rfl) rfl T.SV R5 (zb (fD (aa T.pL T.qf (clE (za 0)))) zc))))),?_⟩;obtain ⟨dx,G⟩:=z.ob;obtain ⟨kvs,J,d⟩:=z.qs.ex;erw [G,cX];refine ⟨kvs,J,by rw [d.length];exact hl,?_⟩;rw [d.names];exact q
def lk(t:Tab)(n:Str):List Int:=(look t n).getD []
def km(A:zh):Sp:=λvs H Q _=>∃(p b k:Addr)(t:Tab)(ks:List (Str×Tab))(n:Str),vs=[.ref p,.str n]/\gh A H p b k t ks/\∀H',zj H H'->Q (.int (lk t n).length) H'
theorem cU.get{t:Tab}(d:Dct (aR H) kvs t)(n:Str){p:Addr}(s:zj H H')(G:H' p=some (.tup [])):∃a,(look kvs n).getD (.ref p) = .ref a/\H' a=some (.tup ((lk t n).map V.int)):=by
 rcases d.look n with ⟨v,l,z,F,a,J,ha⟩|⟨z,F⟩
 .exact ⟨a,by rw [z,J];rfl,by unfold lk;rw [F];exact s _ _ ha⟩
 .exact ⟨p,by rw [z];rfl,by unfold lk;rw [F];exact G⟩
theorem Ma:zt W3 W3 (zi pV):=fsc
theorem E8(F:Fun K "many" "Files.many" pV f fd)(T:Txt w K mg A):zm P w K mg base CX0 true 1 f fd W3 (km A):=by
 refine F.o Ma λZ U outer s H vs Q E hr h=>?_;obtain ⟨p,b,k,t,ks,n,rfl,J,q⟩:=h;refine ⟨_,(W.h (zg (zw (zL bj rfl T.wh N8 (zb (tG (zO hr) (fD (aa T.pL T.qf (clE (za 0)))) (za 1) (aO zc)) zc))))),?_⟩;obtain ⟨dx,O⟩:=J.ob;obtain ⟨kvs,G,d⟩:=J.qs.ex;erw [O,cX];refine ⟨⟨_,G⟩,Ot _,λS H2 z=>⟨_,Rd.same G z.same,?_⟩⟩;obtain ⟨a,ea,ha⟩:=cU.get d n z.same z.at_;rw [fY,ea,pF];exact ⟨_,.inr ha,by rw [KE];exact q H2 z.same⟩
theorem Dct.Vc{α:Type}{R:V->α->Prop}{t:List (Str×α)}(d:Dct R kvs t)(n:Str):(look kvs n).isSome=(look t n).isSome:=by
 rcases d.look n with ⟨v,l,z,F,_⟩|⟨z,F⟩<;>rw [z,F]<;>rfl
def vn(A:zh):Sp:=λvs H Q _=>∃(p b k:Addr)(t:Tab)(ks:List (Str×Tab))(n:Str),vs=[.ref p,.str n]/\gh A H p b k t ks/\(look t n).isSome=true/\Q .non H
theorem Gx:zt W3 W3 (zi mH):=fsc
theorem IS(F:Fun K VF "Files.refuse_if_none" mH f fd)(T:Txt w K mg A):zm P w K mg base CX0 true 1 f fd W3 (vn A):=by
 refine F.o Gx λS O outer s H vs Q E hr h=>?_;obtain ⟨p,b,k,t,ks,n,rfl,z,hn,q⟩:=h;refine ⟨_,(W.h (zg (zQ (tD (zG (clO (IL (zO hr))) (clE (za 1)) (clE (fD (aa T.pL T.qf (clE (za 0))))) rfl))
   (zg gW)
   zV))),?_⟩
 obtain ⟨dx,G⟩:=z.ob;obtain ⟨kvs,J,d⟩:=z.qs.ex;erw [G,cX];refine ⟨_,J,?_⟩;rw [fY,Dct.Vc d n,hn];exact iw q
abbrev o3:Stmt:=aC (top 57) 4
abbrev rQ:Stmt:=aC (top 57) 5
theorem ub{i a b:Int}(h1:a<=i)(h2:i<=b):ic (.int i) a b=true:=by
 show (decide (a<=i)&&decide (i<=b))=true;rw [decide_eq_true h1,decide_eq_true h2];rfl
theorem sJ(G:0<=i)(h1:i<=xs.length):aX xs none (some i)=xs.take i.toNat:=by
 have z:HT.sIx xs.length 0 none=0:=rfl;have F:HT.sIx xs.length xs.length (some i)=i.toNat:=by
  unfold HT.sIx;simp only;split<;>lia
 unfold aX;rw [z,F];simp
theorem M4{i:Int}(G:0<=i)(h1:i<=xs.length+1):aX xs (some i) none=xs.drop i.toNat:=by
 have z:HT.sIx xs.length xs.length none=xs.length:=rfl;have F:HT.sIx xs.length 0 (some i)=min i.toNat xs.length:=by
  unfold HT.sIx;simp only;split<;>lia
 unfold aX;rw [z,F];by_cases h:i.toNat<=xs.length
 .rw [SH h,NW (by rw [Ru];lia)]
 .rw [Nat.min_eq_right (by lia),Rc (Nq _),Rc (by lia)];simp
def uf(A:zh):Sp:=λvs H Q _=>∃(p b k:Addr)(t:Tab)(ks:List (Str×Tab))(n:Str)(i x:Int),vs=[.ref p,.str n,.int i,.int x]/\zN A H p b k t ks/\0<=i/\i<=(lk t n).length/\(lk t n).length<=1000/\t.length<=1000 /\
 ∀H',But b H H'->zN A H' p b k (bF t n ((lk t n).take i.toNat++[x]++(lk t n).drop (i.toNat+1))) ks->Q .non H'
theorem sL:zt ["self","file","place","birth","births"] Wp (zi o3):=fsc
theorem ED(F:Fun K VU "Files.put" o3 f fd)(T:Txt w K mg A)(ZZ:GM P w K mg base true 1 A.tr "many" W3 (km A))(ZW:GF P w K mg base true 2 VL WJ lg):zm P w K mg base CX0 true 4 f fd Wp (uf A):=by
 refine F.o sL λZ2 Ar outer s H vs Q E hr h=>?_;obtain ⟨p,b,k,t,ks,n,i,x,rfl,S,i0,i1,l1,t1,q⟩:=h;refine ⟨_,(W.h (ze (zQ (fJ (bG (caD (zq ZW hr rfl (clP (zb (za 2) (zb zl (zb (mD (bS (clE (za 0)) T.pL ZZ hr (clP (zb (za 1) zc)))) zc))))))))
   (zg gW)
   zV)
   (ze (zy (i:=4) sL.nd rfl (NC rfl) (tG (zO hr) (fD (aa T.pL T.qf (clE (za 0)))) (za 1) (aO zc)))
   (zg (cJ (zB lP (zB lP (eW ow (za 4) eL (eR (za 2))) (aO (zb (za 3) zc))) (eW ow (za 4) (eR (zB lP (za 2) zl)) eL)) (eJ (fD (aa T.pL T.qf (clE (za 0)))) (za 1) (jZ (zO hr)))))))),?_⟩
 obtain ⟨dx,e1⟩:=S.ob;erw [e1,cX,i3];refine ⟨p,b,k,t,ks,n,rfl,S.r,λH1 s1=>?_⟩;have Z:=S.same s1;obtain ⟨ak,ai⟩:=Z.ob;obtain ⟨kvs,U,d⟩:=Z.qs.ex;ac_rfl;refine ⟨_,_,_,rfl,.int i,?_⟩;rw [ub i0 i1];erw [ai,cX];refine ⟨⟨_,.inl U⟩,Ot _,λp1 H2 J=>⟨_,.inl (J.same _ _ U),?_⟩⟩;obtain ⟨a,ea,ha⟩:=cU.get d n J.same J.at_;rw [fY,ea];erw [ha];intro p2 H3 s3 e3;refine ⟨by decide,λp3 H4 O=>?_⟩;rw [sJ i0 (by rw [KE];exact i1)] at e3;have big:∀n:Nat,n<=100000->n<=sizeLine:=λn h=>N6 h (by decide);refine .inr ⟨_,O.same _ _ e3,_,O.at_,big _ (by simp;lia),λp4 H5 s5 e5=>?_⟩;have ab:=s5 _ _ (O.same _ _ (s3 _ _ ha));refine .inr ⟨_,ab,λp6 H6 s6 e6=>?_⟩;rw [M4 (by lia) (by rw [KE];lia)] at e6;refine .inr ⟨_,s6 _ _ e5,_,e6,big _ (by simp;lia),λp7 H7 s7 e7=>?_⟩;have G:zj H1 H7:=((((J.same.trans s3).trans O.same).trans s5).trans s6).trans s7;have F7:=Z.same G;obtain ⟨aj,ag⟩:=F7.ob;erw [ag,cX];refine ⟨_,G _ _ U,by rw [p0,d.length];exact OI t1 (by decide),?_⟩;rw [nX];have bt:∀xs,H7 b≠some (.tup xs):=λxs z=>by rw [G _ _ U] at z;cases z
 have et:(i+1).toNat=i.toNat+1:=by lia
 have d7:Dct (aR H7) kvs t:=d.imp λv a r=>r.same G;have r7:aR H7 (.ref p7) ((lk t n).take i.toNat++[x]++(lk t n).drop (i.toNat+1)):=⟨p7,rfl,by rw [e7,et];simp [List.map_take,List.map_drop]⟩;refine q _ (λc o nc e=>by rw [zd nc];exact G _ _ (s1 _ _ e)) (F7.setB But.upd zx ((d7.put n r7).imp λv a r=>r.but But.upd bt) (nA S.qs.nd))
def f9(t:Tab)(n:Str)(m:Int):Tab:=if m=0 then aQ t n else bF t n ((lk t n).take m.toNat)
def Ai(A:zh):Sp:=λvs H Q _=>∃(p b k:Addr)(t:Tab)(ks:List (Str×Tab))(n:Str)(l:List Int)(m:Int),vs=[.ref p,.str n,.int m]/\zN A H p b k t ks/\look t n=some l/\0<=m/\m<=l.length/\t.length<=1000/\∀H',But b H H'->zN A H' p b k (f9 t n m) ks->Q .non H'
theorem Mq:zt Ws Ws (zi rQ):=fsc
theorem HR(F:Fun K VT "Files.cut" rQ f fd)(T:Txt w K mg A)(ZT:GM P w K mg base true 1 A.tr VF W3 (vn A))(ZZ:GM P w K mg base true 1 A.tr "many" W3 (km A))(ZW:GF P w K mg base true 2 VL WJ lg):zm P w K mg base CX0 true 4 f fd Ws (Ai A):=by
 refine F.o Mq λZ2 Ar outer s H vs Q E hr h=>?_;obtain ⟨p,b,k,t,ks,n,l,m,rfl,J,hn,m0,m1,t1,q⟩:=h;have hu:_<cLine:=N1 (zO hr);refine ⟨_,(W.h (ze (ax (mD (bS (clE (za 0)) T.pL ZT hr (clP (zb (za 1) zc)))))
   (ze (zQ (fJ (bG (caD (zq ZW hr rfl (clP (zb (za 2) (zb zl (zb (mD (bS (clE (za 0)) T.pL ZZ hr (clP (zb (za 1) zc)))) zc))))))))
   (zg gW)
   zV)
   (zg (zQ (tD (zG (clO (oE (aV hu))) (clE (za 2)) (clE zl) (zC _)))
   (zg (CB (fD (aa T.pL T.qf (clE (za 0)))) (za 1)))
   (zg (cJ (eW ow (zF (kr (zO hr)) (fD (aa T.pL T.qf (clE (za 0)))) (za 1) (λ_ _=>rfl)) eL (eR (za 2))) (eJ (fD (aa T.pL T.qf (clE (za 0)))) (za 1) (jZ (zO hr)))))))))),?_⟩
 obtain ⟨dx,e1⟩:=J.ob;erw [e1,cX,v3,i3];refine ⟨p,b,k,t,ks,n,rfl,J.r,by rw [hn];rfl,?_⟩;erw [e1,cX,v3,i3];refine ⟨p,b,k,t,ks,n,rfl,J.r,λH1 s1=>?_⟩;have S:=J.same s1;obtain ⟨aj,ai⟩:=S.ob;obtain ⟨kvs,O,d⟩:=S.qs.ex;have el:lk t n=l:=by unfold lk;rw [hn];rfl
 ac_rfl;refine ⟨_,_,_,rfl,.int m,?_⟩;rw [ub m0 (by rw [el];lia)];erw [ai,cX];have bt:∀xs,H1 b≠some (.tup xs):=λxs z=>by rw [O] at z;cases z
 obtain ⟨v,l',U,G,a,ev,ha⟩:∃v l',look kvs n=some v/\look t n=some l'/\aR H1 v l':=by
  rcases d.look n with ⟨v,l',U,G,r⟩|⟨_,G⟩
  .exact ⟨v,l',U,G,r⟩
  .rw [hn] at G;cases G
 rw [hn] at G;cases G;subst ev;refine aq (λh=>?_) (λh=>?_)
 .have hm:m=0:=of_decide_eq_true h;refine ⟨_,O,by rw [fY,U];rfl,?_⟩;rw [GK];have Z:f9 t n m=aQ t n:=if_pos hm;refine q _ (λc o nc e=>by rw [zd nc];exact s1 _ _ e) ?_;rw [Z];exact S.setB But.upd zx ((d.drop n).imp λv a r=>r.but But.upd bt) (KS J.qs.nd)
 .have hm : ¬ m=0:=λz=>h (decide_eq_true z);refine ⟨_,.inl O,.ref a,by rw [fY];exact U,?_⟩;erw [ha];intro p2 H2 s2 ep;rw [sJ m0 (by rw [KE];exact m1)] at ep;have F2:=S.same s2;obtain ⟨Xt,ab⟩:=F2.ob;erw [ab,cX];refine ⟨_,s2 _ _ O,by rw [p0,d.length];exact OI t1 (by decide),?_⟩;rw [nX];have ag:∀xs,H2 b≠some (.tup xs):=λxs z=>by rw [s2 _ _ O] at z;cases z
  have G:Dct (aR H2) kvs t:=d.imp λv a r=>r.same s2;have r2:aR H2 (.ref p2) ((lk t n).take m.toNat):=⟨p2,rfl,by rw [ep,el,List.map_take]⟩;have Z:f9 t n m=bF t n ((lk t n).take m.toNat):=if_neg hm;refine q _ (λc o nc e=>by rw [zd nc];exact s2 _ _ (s1 _ _ e)) ?_;rw [Z];exact F2.setB But.upd zx ((G.put n r2).imp λv a r=>r.but But.upd ag) (nA J.qs.nd)
abbrev mK:Stmt:=aC (top 57) 6
abbrev mU:Stmt:=aC (top 57) 12
abbrev nj:Stmt:=aC (top 57) 13
structure Has(A:zh)(H:Hp)(p:Addr)(t:Tab):Prop where
 ob:∃b k dx,H p=some (.ins A.tr dx (aU b k))/\dJ H b t
theorem zN.has{p:Addr}{t:Tab}(h:zN A H p b k t ks):Has A H p t:=let ⟨dx,e⟩:=h.ob;⟨b,k,dx,e,h.qs.r⟩
def mF(A:zh):Sp:=λvs H Q _=>∃(p:Addr)(t:Tab),vs=[.ref p]/\Has A H p t/\∀q z k' H',zj H H'->H z=none->H k'=none->H q=none->cq A H' q z k' t->Q (.ref q) H'
theorem xU:zt V9 Zn (zi mU):=fsc
theorem DU(F:Fun K "bare" "Files.bare" mU f fd)(T:Txt w K mg A)(YN:GC P w K mg base true 1 "Files" A.tr Zn (oS A)):zm P w K mg base CX0 true 3 f fd Zn (mF A):=by
 refine F.o xU λZ2 Ar outer s H vs Q E hr h=>?_;obtain ⟨p,t,rfl,⟨b,k,dx,e1,hB⟩,q⟩:=h;refine ⟨_,(W.h (ze (zy (i:=1) xU.nd rfl (NC rfl) (yO YN hr rfl))
   (ze (sfD (bz T.pL T.qf (clE (za 1)) (clE (fe A4 rfl T.Vt boot_dict (zb (fD (aa T.pL T.qf (clE (za 0)))) zc)))))
   (zg (zw (za 1)))))),?_⟩
 obtain ⟨kvs,e2,d⟩:=hB.ex;erw [e1,cX];refine λx U H2 S=>⟨x,U,rfl,S.at_,λb1 k1 H3 s3 nb nk eb Z aj ex=>⟨rfl,?_⟩⟩;have px:∀c o,H c=some o->c≠x:=λc o e z=>by have:=S.no;rw [<- z,e] at this;cases this
 have G:∀c o,H c=some o->H3 c=some o:=λc o e=>s3 c o (px c o e) (S.same c o e);have ag:=G _ _ e1;erw [ag,cX];refine ⟨_,Rd.same e2 G,λJ H4 O=>⟨U,_,O.same _ _ ex,by show 2<1000;decide,?_⟩⟩;have eF:zR ("births":Str) (V.ref J) (aU b1 k1)=aU J k1:=by kernel_rfl
 rw [eF];have ab:J≠x:=λz=>by have:=O.no;rw [z,ex] at this;cases this
 have ai:k1≠x:=λz=>by rw [z,ex] at Z;cases Z
 have sF:zj H (upd H4 x (.ins A.tr U (aU J k1))):=λc o e=>by rw [zd (px c o e)];exact O.same _ _ (G c o e)
 have fr:∀c,H3 c=none->H c=none:=λc e=>by
  cases h:H c with
  | none=>rfl
  | some o=>rw [G c o h] at e;cases e
 have k0:H k1=none:=S.same.free nk;refine q x J k1 _ sF (fr J O.no) k0 S.no ⟨⟨U,zx⟩,⟨⟨kvs,.inl (by rw [zd ab];exact O.at_),d.imp λv a r=>r.same sF⟩,hB.nd⟩,.inl (by rw [zd ai];exact O.same _ _ Z)⟩
def xb(A:zh):Sp:=λvs H Q _=>∃(p b k:Addr)(t:Tab)(ks:List (Str×Tab))(n:Str)(q:Addr)(u:Tab),vs=[.ref p,.str n,.ref q]/\zN A H p b k t ks/\Has A H q u/\ks.length<=1000/\∀H',But k H H'->zN A H' p b k t (bF ks n u)->Q .non H'
theorem EN:zt Wt Wt (zi nj):=fsc
theorem Ei(F:Fun K "keep" "Files.keep" nj f fd)(T:Txt w K mg A)(ZM:GM P w K mg base true 3 A.tr "bare" Zn (mF A)):zm P w K mg base CX0 true 4 f fd Wt (xb A):=by
 refine F.o EN λZ2 Ar outer s H vs Q E hr h=>?_;obtain ⟨p,b,k,t,ks,n,qa,u,rfl,G,Z,kl,q⟩:=h;refine ⟨_,(W.h (zg (cJ (m0D (bh (clE (za 2)) T.pL ZM hr)) (eJ (fD (aa T.pL T.zf (clE (za 0)))) (za 1) (jZ (zO hr)))))),?_⟩;obtain ⟨dx,e1⟩:=G.ob;obtain ⟨bq,kq,ag,J,_⟩:=Z.ob;erw [J,A2];refine ⟨qa,u,rfl,Z,λx b' k' H1 s1 nb U nx hB=>?_⟩;have O:=G.same s1;obtain ⟨aj,S⟩:=O.ob;obtain ⟨kk,e2,d⟩:=O.kept;obtain ⟨ab,eb,_⟩:=G.qs.ex;obtain ⟨ai,ek,_⟩:=G.kept;erw [S,qQ];refine ⟨_,e2,by rw [p0,d.length];exact OI kl (by decide),?_⟩;rw [nX];have ne:∀c o,H c=some o->∀e,H e=none->e≠c:=λc o h e he z=>by rw [z,h] at he;cases he
 have r:cK A H1 b k (.ref x) u:=⟨x,b',k',rfl,hB,ne _ _ eb _ nb,ne _ _ ek _ nb,ne _ _ eb _ U,ne _ _ ek _ U⟩;exact q _ (λc o nc e=>by rw [zd nc];exact s1 _ _ e) (O.bq But.upd zx ((d.put n r).imp λv a r=>r.but But.upd e2) (nA G.aq))
def vT(A:zh):Sp:=λvs H Q _=>∃(p b k:Addr)(t:Tab)(ks:List (Str×Tab))(n:Str),vs=[.ref p,.str n]/\zN A H p b k t ks/\look ks n=none/\ks.length<=1000/\∀H',But k H H'->zN A H' p b k t (bF ks n t)->Q .non H'
theorem L7:zt V3 V3 (zi mK):=fsc
theorem Cj(F:Fun K VV "Files.hold" mK f fd)(T:Txt w K mg A)(J:GM P w K mg base true 4 A.tr "keep" Wt (xb A)):zm P w K mg base CX0 true 5 f fd V3 (vT A):=by
 refine F.o L7 λZ U outer s H vs Q E hr h=>?_;obtain ⟨p,b,k,t,ks,n,rfl,z,hn,S,q⟩:=h;refine ⟨_,(W.h (ze (zQ (tD (zG (clO (La (zO hr))) (clE (za 1)) (clE (fD (aa T.pL T.zf (clE (za 0))))) rfl))
   (zg gW)
   zV)
   (zg (ax (mD (bS (clE (za 0)) T.pL J hr (clP (zb (za 1) (zb (za 0) zc))))))))),?_⟩
 obtain ⟨dx,G⟩:=z.ob;obtain ⟨kk,O,d⟩:=z.kept;erw [G,qQ,GT];refine ⟨_,.inl O,?_⟩;rw [fY,Dct.Vc d n,hn];exact iw ⟨p,b,k,t,ks,n,p,t,rfl,z,z.has,S,q⟩
end
abbrev lY:Stmt:=aC (top 57) 11
abbrev kQ:Stmt:=aC (top 59) 0
abbrev ku:Stmt:=aC (top 59) 2
abbrev pA:Stmt:=aC (top 59) 1
abbrev pP:Stmt:=aC (top 59) 4
def bO{α:Type}(l:List (Int×α))(n:Int)(a:α):List (Int×α):=if n∈l.map (·.1) then l.map (λp=>if p.1=n then (p.1,a) else p) else l++[(n,a)]
theorem wV:((ik kvs).any λF=>decide (F.1=(.inl n:Key)))=true↔n∈kvs.map (·.1):=by
 unfold ik;rw [List.any_map,List.any_eq_true];constructor
 .rintro ⟨p,z,h⟩;have h:(Sum.inl p.1:Key) = .inl n:=of_decide_eq_true h;cases h;exact PF.mpr ⟨p,z,rfl⟩
 .intro h;obtain ⟨p,z,rfl⟩:=PF.mp h;exact ⟨p,z,by simp⟩
theorem AR:aL (ik kvs) (.inl n) v=ik (bO kvs n v):=by
 unfold aL bO;by_cases h:n∈kvs.map (·.1)
 .rw [if_pos (wV.mpr h),if_pos h];unfold ik;rw [Oi,Oi];refine O6 λp _=>?_;show (if (Sum.inl p.1:Key) = .inl n then _ else _)=_;by_cases e:p.1=n
  .rw [if_pos (by rw [e])];show _=(Sum.inl (if p.1=n then (p.1,v) else p).1,(if p.1=n then (p.1,v) else p).2);rw [if_pos e]
  .rw [if_neg (λz=>e (by cases z;rfl))];show _=(Sum.inl (if p.1=n then (p.1,v) else p).1,(if p.1=n then (p.1,v) else p).2);rw [if_neg e]
 .rw [if_neg (λz=>h (wV.mp z)),if_neg h];unfold ik;rw [Oa];rfl
theorem oH:∀{kvs:List (Int×V)},(kvs.map (·.1)).Nodup->(n,v)∈kvs->zZ (ik kvs) (.inl n)=some v
 | [],_,h=>by cases h
 | p::kvs,nd,h=>by
  have F:=OO.mp nd;show zZ ((Sum.inl p.1,p.2)::ik kvs) (.inl n)=_;rcases Nw.mp h with e|h
  .rw [<- e];exact iG rfl
  .have ne : ¬ (Sum.inl p.1:Key) = .inl n:=λz=>by
    cases z;exact F.1 (PF.mpr ⟨_,h,rfl⟩)
   rw [jk ne];exact oH F.2 h
theorem mI:(ik kvs).length=kvs.length:=by simp [ik]
abbrev T3:=Int×Int×Int
def dh(H:Hp)(p:Int×V)(t:T3):Prop:=p.1=t.1/\∃a,p.2 = .ref a/\H a=some (.tup [.int t.2.1,.int t.2.2])
def dI(H:Hp)(a:Addr)(t:T3):Prop:=H a=some (.tup [.int t.1,.int t.2.1,.int t.2.2])
structure qt(ts:List T3):Prop where
 nd:(ts.map (·.1)).Nodup
 few:ts.length<40
 num:∀t∈ts,0<=t.1/\t.1<10 ^ 18
def dE(f d:Addr)(n m:Int):List (Str×V):=[("own_files",.ref f),("spot_of",.ref d),("next_row",.int n),("next_mark",.int m)]
structure bV(A:zh)(H:Hp)(x:Addr)(ts:List T3)(n:Int):Prop where
 ex:∃dx f d m kvs,H x=some (.ins A.State dx (dE f d n m))/\H d=some (.dK (ik kvs))/\Paired (dh H) kvs ts
 ok:qt ts
def Fw(A:zh)(H:Hp)(p:Addr):Prop:=∃b k dx t kvs,H p=some (.ins A.tr dx (aU b k))/\dJ H b t/\H k=some (.dK kvs)
def Own(A:zh)(H:Hp)(x:Addr):Prop:=∃dx f d n m,H x=some (.ins A.State dx (dE f d n m))/\Fw A H f
theorem Fw.but{p x:Addr}(h:Fw A H p)(s:But x H H')(hx:H x=some u)(h1:∀kvs,u≠.dK kvs)(h2:∀o kvs,u≠.frz o (.dK kvs))(h3:∀xs,u≠.tup xs)(n:p≠x):Fw A H' p:=by
 obtain ⟨b,k,G,t,kvs,e,O,J⟩:=h;have ne:∀{o:HO},H x=some o->u=o:=λe=>Ob.inj (hx.symm.trans e);refine ⟨b,k,G,t,kvs,s _ _ n e,O.but s (λxs z=>h3 _ (ne z)) (λz=>?_),s _ _ (λz=>h1 _ (ne (z ▸ J))) J⟩;obtain ⟨S,F,_⟩:=O.ex;rw [z] at F;rcases F with F|⟨o,F⟩
 .exact h1 _ (ne F)
 .exact h2 _ _ (ne F)
theorem zN.fw{p b k:Addr}{t:Tab}(h:zN A H p b k t ks):Fw A H p:=by
 obtain ⟨dx,e⟩:=h.ob;obtain ⟨F,z,_⟩:=h.kept;exact ⟨b,k,dx,t,_,e,h.qs.r,z⟩
theorem dh.keep{p:Int×V}{t:T3}(h:dh H p t)(k:∀r xs,H r=some (.tup xs)->H' r=some (.tup xs)):dh H' p t:=let ⟨e,a,e2,e3⟩:=h;⟨e,a,e2,k _ _ e3⟩
theorem bV.qb(h:bV A H x ts n)(s:zA H H'):bV A H' x ts n:=by
 obtain ⟨dx,f,d,m,kvs,z,F,G⟩:=h.ex;exact ⟨⟨dx,f,d,m,kvs,s _ _ (λ_=>nofun) z,s _ _ (λ_=>nofun) F,Paired.yz G λp t r=>r.keep λr xs e=>s.tup e⟩,h.ok⟩
theorem ki(h:Paired (dh H) kvs ts):kvs.map (·.1)=ts.map (·.1):=by
 induction h with
 | nil=>rfl
 | cons r _ z=>rw [Om,Om,z,r.1]
section
variable {P:NB}{w:NQ}{K:Frag}{mg:Str->Option Value}{base:Heap}{A:zh}{b k f d:Addr}{n m:Int}
theorem tO:(aU b k).lookup (VO:Str)=none:=by kernel_rfl
theorem xG:(dE f d n m).lookup ("spot_of":Str)=some (.ref d):=by kernel_rfl
theorem Fj:(dE f d n m).lookup ("own_files":Str)=some (.ref f):=by kernel_rfl
theorem Js:(dE f d n m).lookup ("next_row":Str)=some (.int n):=by kernel_rfl
theorem qM:(dE f d n m).lookup (VI:Str)=none:=by kernel_rfl
theorem Er:(dE f d n m).lookup ("spots":Str)=none:=by kernel_rfl
def mX(A:zh):Sp:=λvs H Q _=>∃p,vs=[.ref p]/\Fw A H p/\∀q H',zj H H'->H q=none->Fw A H' q->Q (.ref q) H'
theorem uc:zt V9 Zn (zi lY):=fsc
theorem Gu{f:Addr}(F:Fun K VO "Files.copied" lY f fd)(T:Txt w K mg A)(ZM:GM P w K mg base true 3 A.tr "bare" Zn (mF A)):zm P w K mg base CX0 true 4 f fd Zn (mX A):=by
 refine F.o uc λZ2 Ar outer s H vs Q E hr h=>?_;obtain ⟨p,rfl,⟨b,k,dx,t,kvs,e1,Z,e2⟩,q⟩:=h;refine ⟨_,(W.h (ze (zy (i:=1) uc.nd rfl (NC rfl) (m0D (bh (clE (za 0)) T.pL ZM hr)))
   (ze (sfD (bz T.pL T.zf (clE (za 1)) (clE (fe A4 rfl T.Vt boot_dict (zb (fD (aa T.pL T.zf (clE (za 0)))) zc)))))
   (zg (zw (za 1)))))),?_⟩
 erw [e1,A2];refine ⟨p,t,rfl,⟨b,k,dx,e1,Z⟩,λx S k' H1 s1 nb nk nx U=>?_⟩;obtain ⟨O,G⟩:=U.ob;have ab:=s1 _ _ e1;erw [ab,qQ];refine ⟨_,.inl (s1 _ _ e2),λkd H2 J=>⟨O,_,J.same _ _ G,by show 2<1000;decide,?_⟩⟩;have eF:zR ("kept":Str) (V.ref kd) (aU S k')=aU S kd:=by kernel_rfl
 rw [eF];have kx:kd≠x:=λz=>by have:=J.no;rw [z,G] at this;cases this
 have bx:S≠x:=λz=>by obtain ⟨kv,er,_⟩:=U.qs.ex;rw [z] at er;rcases er with e|⟨o,e⟩ <;> · rw [G] at e;cases e
 refine q x _ (λa o e=>by rw [zd (zE e nx)];exact J.same _ _ (s1 _ _ e)) nx ⟨S,kd,O,t,kvs,zx,?_,by rw [zd kx];exact J.at_⟩;exact (U.same J.same).qs.but But.upd (λxs z=>by rw [J.same _ _ G] at z;cases z) bx
structure DcI(H:Hp)(ts:List T3)(i:Nat)(τ:L2.St)(ys:List (Key×V))(H':Hp):Prop where
 ex:∃t1 t2 t3,τ=[t1,t2,t3]
 ys:∃kvs,ys=ik kvs/\Paired (dh H') kvs (ts.take i)
 same:zj H H'
def sY(A:zh):Sp:=λvs H Q _=>∃(x p sl dx:Addr)(n m:Int)(as:List Addr)(ts:List T3),vs=[.ref x,.ref p,.ref sl,.int n,.int m]/\H x=some (.ins A.State dx [])/\Fw A H p/\H sl=some (.lst (as.map V.ref))/\Paired (dI H) as ts/\qt ts /\
 ∀H',But x H H'->bV A H' x ts n->Own A H' x->Q .non H'
theorem Fm:zt Yo Yo (zi kQ):=fsc
theorem B7:aG { kind:=.function,names:=[(yv ".0",.local),(yv "birth",.local),(yv "stretch",.local),(yv "place",.local)],isGenerator:=false,isCoroutine:=false,more:=[] } (zi kQ).names Yo ["birth","stretch","place"] [none,none,none]=true:=by decide +kernel
theorem qu:(["birth","stretch","place"]:List Str).Nodup:=by decide +kernel
theorem Cq{f:Addr}(F:Fun K VX "State.__init__" kQ f fd)(T:Txt w K mg A)(ZU:GM P w K mg base true 4 A.tr VO Zn (mX A)):zm P w K mg base CX0 true 5 f fd Yo (sY A):=by
 refine F.o Fm λZ2 Ar outer s H vs Q E hr h=>?_;obtain ⟨x,p,sl,dx,n,m,as,ts,rfl,hx,hF,hs,hp,ok,q⟩:=h;refine ⟨_,(W.h (ze (sfD (bz T.vr T.N2 (clE (za 0)) (clE (m0D (bh (clE (za 1)) T.pL ZU hr)))))
   (ze (sfD (bz T.vr T.z9 (clE (za 0)) (clE (Fh (λ_=>rfl) (zU.of B7) (liD (bK (clE (za 2)))) (λ_ _ _ _ _=>(gB (n:=3) (gsD (zS (zz (i:=0) qu rfl (NC rfl)) (gsD (zS (zz (i:=1) qu rfl (NC rfl)) (gsD (zS (zz (i:=2) qu rfl (NC rfl)) bR)))))))) (λ_ _ _ _ _=>di) (λ_ _ _ _ _=>(za 0)) (λ_ _ _ _ _=>(aO (zb (za 1) (zb (za 2) zc))))))))
   (ze (sfD (bz T.vr T.SR (clE (za 0)) (clE (za 3))))
   (zg (sfD (bz T.vr T.Tf (clE (za 0)) (clE (za 4))))))))),?_⟩
 obtain ⟨b,k,aj,t,ai,e1,_⟩:=id hF;erw [e1,tO];refine ⟨p,rfl,hF,λO H1 s1 nq F1=>⟨dx,[],s1 _ _ hx,by decide,?_⟩⟩;have U:∀{o:HO}{r:Addr}{xs:List V},H1 r=some (.tup xs)->upd H1 x o r=some (.tup xs):=λ{o r xs} e=>by rw [zd (λz=>by rw [z,s1 _ _ hx] at e;cases e)];exact e
 have sx:sl≠x:=λz=>by rw [z,hx] at hs;cases hs
 have Yv:∀o,upd H1 x o sl=some (.lst (as.map V.ref)):=λo=>by rw [zd sx];exact s1 _ _ hs
 have Z7:=zW hp;refine ⟨⟨_,SqL.of (Yv _)⟩,lq.lst (xs:=as.map V.ref) (DcI (upd H1 x _) ts) (λi τ ys H' I=>?_) (λi τ ys H' I=>SqL.of (I.same _ _ (Yv _))) ⟨⟨_,_,_,rfl⟩,⟨[],rfl,.nil⟩,zj.refl _⟩ ?_ ?_⟩
 .obtain ⟨kvs,e,G⟩:=I.ys;have:=zW G;have h2:=OS i ts;have:=ok.few;rw [e,mI];exact aF (by lia)
 .intro N i v τ ys H' hv I hN;obtain ⟨t1,t2,t3,rfl⟩:=I.ex;obtain ⟨kvs,e,G⟩:=I.ys;rw [NJ] at hv;obtain ⟨a,ha,rfl⟩:=NV.mp hv;have hi:i<ts.length:=by rw [<- Z7];exact (Nt.mp ha).1
  have Y4:ts[i]?=some ts[i]:=p8 hi;have ht:=I.same _ _ (U (o:=_) (s1 _ _ (aY hp ha Y4)));refine ⟨a,_,rfl,SqT.of ht,rfl,?_⟩;ac_rfl;refine ⟨by decide,λa2 H2 Z=>hN _ _ _ ⟨⟨_,_,_,rfl⟩,⟨kvs++[(ts[i].1,.ref a2)],?_,?_⟩,I.same.trans Z.same⟩⟩
  .have ab:ts[i].1∉kvs.map (·.1):=by
    rw [ki G];intro z;obtain ⟨u,hu,eu⟩:=PF.mp z;obtain ⟨j,hj,ej⟩:=Ov hu;have ak:j<i:=by rw [Pb] at hj;lia
    rw [List.getElem_take] at ej;have ag:j<(ts.map (·.1)).length:=by rw [KE];lia
    have:=(RI ag ok.nd).mp (show (ts.map (·.1))[j]?=(ts.map (·.1))[i]? by rw [NJ,NJ,Y4,p8 (show j<ts.length by lia),ej];show some u.1=some ts[i].1;rw [eu]);lia
   rw [e,AR];unfold bO;rw [if_neg ab]
  .rw [Oe,Y4];exact dc (Paired.yz G λp t r=>r.keep λr xs e=>Z.same _ _ e) (.cons ⟨rfl,a2,rfl,Z.at_⟩ .nil)
 .intro τ ys H3 I D H4 J;obtain ⟨kvs,e,G⟩:=I.ys;rw [KE,Z7,NW (Nq _)] at G;rw [e] at J;have x4:=J.same _ _ (I.same _ _ zx);refine ⟨dx,_,x4,by show 1<1000;decide,dx,_,zx,(OI (Sk (show _=2 by kernel_rfl)) (by decide)),dx,_,zx,(OI (Sk (show _=3 by kernel_rfl)) (by decide)),?_⟩;rw [eI,eI];have eF:zR ("next_mark":Str) (V.int m) (zR "next_row" (V.int n) (zR "spot_of" (V.ref D) (zR "own_files" (V.ref O) [])))=dE O D n m:=by kernel_rfl
  rw [eF];have Dx:D≠x:=λz=>by have:=J.no;rw [z,I.same _ _ zx] at this;cases this
  have bt:But x H1 (upd H4 x (.ins A.State dx (dE O D n m))):=λa o S ea=>by
   rw [zd S];exact J.same _ _ (I.same _ _ (by rw [zd S];exact ea))
  refine q _ (λa o S ea=>bt _ _ S (s1 _ _ ea)) ⟨⟨dx,O,D,m,kvs,zx,by rw [zd Dx];exact J.at_,Paired.yz G λp t r=>r.keep λr xs e=>?_⟩,ok⟩ ⟨dx,O,D,n,m,zx,F1.but bt (s1 _ _ hx) (λ_=>nofun) (λ_ _=>nofun) (λ_=>nofun) (λz=>by rw [z,hx] at nq;cases nq)⟩
  .rw [zd (λz=>by rw [z,I.same _ _ zx] at e;cases e)];exact J.same _ _ e
def Hr(A:zh):Sp:=λvs H Q _=>∃x,vs=[.ref x]/\Own A H x/\∀q H',zj H H'->Fw A H' q->Q (.ref q) H'
theorem E3:zt Zn Zn (zi pA):=fsc
theorem BA{f:Addr}(F:Fun K "files" "State.files" pA f fd)(T:Txt w K mg A)(ZU:GM P w K mg base true 4 A.tr VO Zn (mX A)):zm P w K mg base CX0 true 5 f fd Zn (Hr A):=by
 refine F.o E3 λZ2 Ar outer s H vs Q E hr h=>?_;obtain ⟨x,rfl,⟨dx,U,d,n,m,O,z⟩,q⟩:=h;refine ⟨_,(W.h (zg (zw (m0D (bh (clE (fD (aa T.vr T.N2 (clE (za 0))))) T.pL ZU hr))))),?_⟩;obtain ⟨b,k,J,t,G,S,_⟩:=id z;erw [O,S,Fj,tO];exact ⟨U,rfl,z,λZ H' s' _=>q Z H' s'⟩
def pT(A:zh):Sp:=λvs H Q _=>∃x ts n,vs=[.ref x]/\bV A H x ts n/\Q (.int n) H
theorem CW:zt Zn Zn (zi pP):=fsc
theorem JP{f:Addr}(F:Fun K VI "State.next_number" pP f fd)(T:Txt w K mg A):zm P w K mg base CX0 cm 1 f fd Zn (pT A):=by
 refine F.o CW λS J outer s H vs Q E hr h=>?_;obtain ⟨x,ts,n,rfl,z,q⟩:=h;refine ⟨_,(W.h (zg (zw (fD (aa T.vr T.SR (clE (za 0))))))),?_⟩;obtain ⟨dx,O,d,m,kvs,G,_⟩:=z.ex;erw [G,Js];exact q
end
abbrev iA:Stmt:=top 41
def gM(ts:List T3)(n:Int):T3:=(ts.find? λt=>decide (t.1=n)).getD (0,0,0)
theorem rV(nd:(ts.map (·.1)).Nodup){t:T3}(h:t∈ts):gM ts t.1=t:=by
 unfold gM
 induction ts with
 | nil=>cases h
 | cons u ts F =>
  obtain ⟨J,G⟩:=OO.mp nd;rw [QX];rcases Nw.mp h with rfl|h
  .rw [decide_eq_true rfl];rfl
  .have ne : ¬ u.1=t.1:=λz=>J (by show u.1∈_;rw [z];exact PF.mpr ⟨t,h,rfl⟩);rw [decide_eq_false ne];exact F G h
theorem B9{ts:List T3}(nd:(ts.map (·.1)).Nodup):(ts.map (·.1)).map (gM ts)=ts:=by
 rw [Oi];have:∀us:List T3,(∀u∈us,u∈ts)->us.map (gM ts∘(·.1))=us:=λus h=>by
  induction us with
  | nil=>rfl
  | cons u us z=>rw [Om,z λv F=>h v (ND _ F)];show gM ts u.1::us=_;rw [rV nd (h u (NX ..))]
 exact this ts λ_ h=>h
def pk(ts:List T3)(k:Int):List (Int×Int):=(ts.filter λt=>decide (t.2.1=k)).map λt=>(t.2.2,t.1)
def jE(ts:List T3)(k:Int)(ns:List Int):Prop:=∃ps:List (Int×Int),ps.Perm (pk ts k)/\ps.Pairwise (λa b=>ltP b a=false)/\ns=ps.map (·.2)
theorem FV{k:Int}(p:z.Perm ts)(h:jE z k ns):jE ts k ns:=by
 obtain ⟨ps,F,s1,e⟩:=h;exact ⟨ps,F.trans ((p.filter _).map _),s1,e⟩
theorem h8(ts:List T3)(k:Int):(pk ts k).length<=ts.length:=by unfold pk;rw [KE];exact Rf ..
theorem mi(ts:List T3)(k:Int)(t:T3):pk (ts++[t]) k=if t.2.1=k then pk ts k++[(t.2.2,t.1)] else pk ts k:=by
 unfold pk;rw [List.filter_append];by_cases h:t.2.1=k
 .rw [if_pos h,show [t].filter (λt=>decide (t.2.1=k))=[t] by simp [h],Oa];rfl
 .rw [if_neg h,show [t].filter (λt=>decide (t.2.1=k))=[] by simp [h],O8]
section
variable {P:NB}{w:NQ}{K:Frag}{mg:Str->Option Value}{base:Heap}{A:zh}
def AG(A:zh):Sp:=λvs H Q _=>∃(x:Addr)(ts:List T3)(n:Int),vs=[.ref x]/\bV A H x ts n/\∀l as z H',zj H H'->H l=none->H' l=some (.lst (as.map V.ref))->Paired (dI H') as z->z.Perm ts->Q (.ref l) H'
structure SpI(H:Hp)(x:Addr)(ts:List T3)(ns:List Int)(i:Nat)(τ:L2.St)(ys:List V)(H':Hp):Prop where
 ex:∃t1,τ=[t1,some (.ref x)]
 ys:∃as:List Addr,ys=as.map V.ref/\Paired (dI H') as ((ns.take i).map (gM ts))
 same:zj H H'
theorem Je:zt Zn Zn (zi ku):=fsc
theorem DN:aG { kind:=.function,names:=[(yv ".0",.local),(yv "birth",.local),(yv "self",.free)],isGenerator:=false,isCoroutine:=false,more:=[] } (zi ku).names Zn ["birth","self"] [none,some 0]=true:=by decide +kernel
theorem Jy:(["birth","self"]:List Str).Nodup:=by decide +kernel
theorem Ji(F:Fun K "spots" "State.spots" ku f fd)(T:Txt w K mg A):zm P w K mg base CX0 true 1 f fd Zn (AG A):=by
 refine F.o Je λZ2 Ar outer s H vs Q E hr h=>?_;obtain ⟨x,ts,n,rfl,hS,q⟩:=h;refine ⟨_,(W.h (zg (zw (cA (λ_=>rfl) (zU.of DN) (liD (bK (clE (zL (vm rfl) rfl T.SV R5 (zb (fD (aa T.vr T.z9 (clE (za 0)))) zc))))) (λ_ _ _ _ _=>(zz (i:=0) Jy rfl (NC rfl))) (λ_ _ _ _ _=>di) (λ_ _ _ _ _=>(zB lP (aO (zb (za 0) zc)) (zF (kr (zO hr)) (fD (aa T.vr T.z9 (clE (za 1)))) (za 0) (λ_ _=>rfl)))))))),?_⟩;obtain ⟨dx,f',d,m,kvs,e1,e2,e3⟩:=hS.ex;have ok:=hS.ok;have lk:=zW e3;have ky:=ki e3;erw [e1,xG];refine ⟨kvs,.inl e2,by rw [lk];have:=ok.few;lia,λp ns H1 G pm _=>?_⟩;rw [ky] at pm;have aj:ns.length=ts.length:=by rw [pm.length_eq,KE]
 refine ⟨⟨_,SqL.of G.at_⟩,zT.lst (xs:=ns.map V.int) (SpI H1 x ts ns) (λi τ ys H' I=>?_) (λi τ ys H' I=>SqL.of (I.same _ _ G.at_)) ⟨⟨_,rfl⟩,⟨[],rfl,.nil⟩,zj.refl _⟩ ?_ ?_⟩
 .obtain ⟨as,e,J⟩:=I.ys;have:=zW J;rw [KE] at this;have h2:=OS i ns;have:=ok.few;rw [e,KE];exact aF (by lia)
 .intro N i v τ ys H' hv I hN;obtain ⟨t1,rfl⟩:=I.ex;obtain ⟨as,e,J⟩:=I.ys;rw [NJ] at hv;obtain ⟨nb,S,rfl⟩:=NV.mp hv;have ag:=I.same _ _ (G.same _ _ e1);have ai:=I.same _ _ (G.same _ _ e2);obtain ⟨t,ht,et⟩:=PF.mp (pm.mem_iff.mp (NM S));obtain ⟨j,hj,ej⟩:=Ov ht;have U:j<kvs.length:=by rw [lk];exact hj
  obtain ⟨s1,a,s2,s3⟩:=aY e3 (p8 U) (p8 hj);rw [ej] at s1 s3;have WO:zZ (ik kvs) (.inl nb)=some (.ref a):=by
   refine oH (by rw [ky];exact ok.nd) ?_;rw [<- et,<- s1,<- s2];exact Oj U
  ac_rfl;refine ⟨by decide,λp1 H2 z=>?_⟩;have ab:=z.same _ _ ag;erw [ab,xG];refine ⟨_,.inl (z.same _ _ ai),_,WO,?_⟩;ac_rfl;refine .inr ⟨_,z.at_,_,z.same _ _ (I.same _ _ (G.same _ _ s3)),by show 3<=sizeLine;decide,λp2 H3 O Z=>hN _ _ _ ⟨⟨_,rfl⟩,⟨as++[p2],by rw [e,Oa];rfl,?_⟩,I.same.trans (z.same.trans O)⟩⟩;rw [Oe,S,Oa];refine dc (Paired.yz J λa t r=>O _ _ (z.same _ _ r)) (.cons ?_ .nil);show H3 p2=_;rw [Z,<- et,rV ok.nd ht];rfl
 .intro τ ys H' I D H2 z;obtain ⟨as,e,J⟩:=I.ys;rw [KE,NW (Nq _)] at J;rw [e] at z;refine q D as _ H2 ((G.same.trans I.same).trans z.same) ((G.same.trans I.same).free z.no) z.at_ (Paired.yz J λa t r=>z.same _ _ r) ?_;have:=pm.map (gM ts);rw [B9 ok.nd] at this;exact this
structure FdI(H:Hp)(k:Int)(ts:List T3)(i:Nat)(τ:L2.St)(ys:List V)(H':Hp):Prop where
 ex:∃t1 t2 t3,τ=[t1,t2,t3,some (.int k)]
 ys:∃as:List Addr,ys=as.map V.ref/\Paired (gG H') as (pk (ts.take i) k)
 same:zj H H'
structure BtI(H:Hp)(ps:List (Int×Int))(i:Nat)(τ:L2.St)(ys:List V)(H':Hp):Prop where
 ex:∃t1 t2,τ=[t1,t2]
 ys:ys=((ps.take i).map (·.2)).map V.int
 same:H'=H
def oA(A:zh):Sp:=λvs H Q _=>∃(x:Addr)(ts:List T3)(k n:Int),vs=[.ref x,.int k]/\bV A H x ts n/\∀l ns H',zj H H'->H l=none->l≠sysModules->H' l=some (.lst (ns.map V.int))->jE ts k ns->Q (.ref l) H'
theorem wR:zt Wj Wk (zi iA):=fsc
theorem Iu:aG { kind:=.function,names:=[(yv ".0",.local),(yv "birth",.local),(yv "at",.local),(yv "place",.local),(yv "stretch",.free)],isGenerator:=false,isCoroutine:=false,more:=[] } (zi iA).names Wj ["birth","at","place","stretch"] [none,none,none,some 1]=true:=by decide +kernel
theorem oV:(["birth","at","place","stretch"]:List Str).Nodup:=by decide +kernel
theorem Cc:aG { kind:=.function,names:=[(yv ".0",.local),(yv "place",.local),(yv "birth",.local)],isGenerator:=false,isCoroutine:=false,more:=[] } (zi iA).names Wj ["place","birth"] [none,none]=true:=by decide +kernel
theorem AW:(["place","birth"]:List Str).Nodup:=by decide +kernel
theorem Fi(F:Fun K VA VA iA f fd)(T:Txt w K mg A)(Zl:GM P w K mg base true 1 A.State "spots" Zn (AG A)):zm P w K mg base CX0 true 2 f fd Wk (oA A):=by
 refine F.o wR λZ2 Ar outer s H vs Q E hr h=>?_;obtain ⟨x,ts,k,n,rfl,hS,q⟩:=h;have hu:_<cLine:=N1 (zO hr);refine ⟨_,(W.h (ze (gF (i0:=2) wR.nd rfl (NC rfl) (λ_=>rfl) (zU.of Iu) (liD (bK (clE (m0D (bh (clE (za 0)) T.vr Zl hr))))) (λ_ _ _ _ _=>(gB (n:=3) (gsD (zS (zz (i:=0) oV rfl (NC rfl)) (gsD (zS (zz (i:=1) oV rfl (NC rfl)) (gsD (zS (zz (i:=2) oV rfl (NC rfl)) bR)))))))) (λ_ _ _ _ _=>(dU (tD (zG (clO (oE (aV hu))) (clE (za 1)) (clE (za 3)) (zC _))))) (λ_ _ _ _ _=>(aO (zb (za 2) (zb (za 0) zc)))))
   (zg (zw (cA (λ_=>rfl) (zU.of Cc) (liD (bK (clE (zL C2 rfl T.SV R5 (zb (za 2) zc))))) (λ_ _ _ _ _=>(gB (n:=2) (gsD (zS (zz (i:=0) AW rfl (NC rfl)) (gsD (zS (zz (i:=1) AW rfl (NC rfl)) bR)))))) (λ_ _ _ _ _=>di) (λ_ _ _ _ _=>(za 1))))))),?_⟩
 obtain ⟨dx,f',d,m,kvs,e1,e2,e3⟩:=hS.ex;have ok:=hS.ok;erw [e1,Er];refine ⟨x,ts,n,rfl,hS,λl as z H1 s1 l0 hl hp pm=>?_⟩;have Z7:=zW hp;have aj:z.length<40:=by rw [pm.length_eq];exact ok.few
 ac_rfl;refine ⟨⟨_,SqL.of hl⟩,zT.lst (xs:=as.map V.ref) (FdI H1 k z) (λi τ ys H' I=>?_) (λi τ ys H' I=>SqL.of (I.same _ _ hl)) ⟨⟨_,_,_,rfl⟩,⟨[],rfl,.nil⟩,zj.refl _⟩ ?_ ?_⟩
 .obtain ⟨bs,e,J⟩:=I.ys;have:=zW J;have h2:=OS i z;have:=h8 (z.take i) k;rw [e,KE];exact aF (by lia)
 .intro N i v τ ys H' S I hN;obtain ⟨t1,t2,t3,rfl⟩:=I.ex;obtain ⟨bs,e,J⟩:=I.ys;rw [NJ] at S;obtain ⟨a,ha,rfl⟩:=NV.mp S;have hi:i<z.length:=by rw [<- Z7];exact (Nt.mp ha).1
  have U:z[i]?=some z[i]:=p8 hi;have ht:=I.same _ _ (aY hp ha U);have sn:=mi (z.take i) k z[i];have tk:z.take (i+1)=z.take i++[z[i]]:=by rw [Oe,U];rfl
  refine ⟨a,_,rfl,SqT.of ht,rfl,?_⟩;generalize z[i]=t at ht sn tk;ac_rfl;by_cases hk:t.2.1=k
  .rw [decide_eq_true hk];ac_rfl;refine ⟨by decide,λp2 H2 n2=>hN _ _ _ ⟨⟨_,_,_,rfl⟩,⟨bs++[p2],by rw [e,Oa];rfl,?_⟩,I.same.trans n2.same⟩⟩;rw [tk,sn,if_pos hk];exact dc (Paired.yz J λa t r=>n2.same _ _ r) (.cons n2.at_ .nil)
  .rw [decide_eq_false hk];ac_rfl;refine hN _ _ _ ⟨⟨_,_,_,rfl⟩,⟨bs,e,?_⟩,I.same⟩;rw [tk,sn,if_neg hk];exact J
 .intro τ ys H2 I D H3 n3;obtain ⟨bs,e,J⟩:=I.ys;rw [KE,Z7,NW (Nq _)] at J;rw [e] at n3;have lb:=zW J;have sI:=I.same;have:=h8 z k;ac_rfl;refine ⟨bs,n3.at_,_,Paired.yz J λa t r=>n3.same _ _ r,by lia,λD2 ab G H4 O _ p4 Z ai=>?_⟩;ac_rfl;have l4:=zW p4;have l5:=Z.length_eq;refine ⟨⟨_,SqL.of O.at_⟩,zT.bB (xs:=ab.map V.ref) (BtI H4 G) (λi τ ys H' I=>?_) (λi τ ys H' I=>by rw [I.same];exact SqL.of O.at_) ⟨⟨_,_,rfl⟩,rfl,rfl⟩ ?_ ?_⟩
  .have h2:=OS i G;rw [I.ys,KE,KE];exact aF (by lia)
  .intro N i v τ ys H' S I hN;obtain ⟨t1,t2,rfl⟩:=I.ex;rw [NJ] at S;obtain ⟨a,ha,rfl⟩:=NV.mp S;have hi:i<G.length:=by rw [<- l4];exact (Nt.mp ha).1
   have U:G[i]?=some G[i]:=p8 hi;have e:=I.same;subst e;have ht:=O.same _ _ (aY p4 ha U);refine ⟨a,_,rfl,SqT.of ht,rfl,?_⟩;ac_rfl;refine hN _ _ _ ⟨⟨_,_,rfl⟩,?_,rfl⟩;rw [I.ys,Oe,U,Oa,Oa];rfl
  .intro τ ys H5 I D5 H6 n6 ag;have e:=I.same;subst e;have hy:=I.ys;rw [KE,l4,NW (Nq _)] at hy;rw [hy] at n6;exact q D5 _ H6 ((((s1.trans sI).trans n3.same).trans O.same).trans n6.same) (((((s1.trans sI).trans n3.same).trans O.same)).free n6.no) ag n6.at_ (FV pm ⟨G,Z,ai,rfl⟩)
abbrev mO:Stmt:=top 72
def bg(a:Addr)(H H':Hp):Prop:=∀b o,b≠a->(∀ps,o≠.tbl ps)->H b=some o->H' b=some o
theorem bg.of(s:zA H H'):bg a H H':=λb o _ n e=>s b o n e
theorem bg.but(s:But a H H'):bg a H H':=λb o n _ e=>s b o n e
theorem bg.trans(x:bg a H H1)(y:bg a H1 H2):bg a H H2:=λb o n m e=>y b o n m (x b o n m e)
theorem En{α:Type}{l:List (Int×α)}{a:α}:(bO l n a).map (·.1)=if n∈l.map (·.1) then l.map (·.1) else l.map (·.1)++[n]:=by
 unfold bO;split
 .rw [Oi];refine O6 λp _=>?_;show (if p.1=n then (p.1,a) else p).1=p.1;split<;>rfl
 .rw [Oa];rfl
theorem Cd{α:Type}{l:List (Int×α)}{a:α}(h:(l.map (·.1)).Nodup):((bO l n a).map (·.1)).Nodup:=by
 rw [En];split
 .exact h
 .rename_i hn;rw [QI];exact ⟨h,by simp,λx hx y z e=>by rw [NG] at z;exact hn (by rw [<- z,<- e];exact hx)⟩
theorem M9{α:Type}{l:List (Int×α)}{a:α}:(bO l n a).length<=l.length+1:=by
 unfold bO;split<;>simp
theorem yq{α:Type}{l:List (Int×α)}{a:α}{p:Int×α}(h:p∈bO l n a):p∈l\/p=(n,a):=by
 unfold bO at h;split at h
 .obtain ⟨q,z,e⟩:=PF.mp h;by_cases c:q.1=n
  .rw [if_pos c] at e;right;rw [<- e,c]
  .rw [if_neg c] at e;left;rw [<- e];exact z
 .rcases Og.mp h with h|h
  .exact .inl h
  .exact .inr (by simpa using h)
theorem Lj(h:Paired (dh H) kvs us){st:Int×Int}(r:dh H (n,v) (n,st)):Paired (dh H) (bO kvs n v) (bO us n st):=by
 have F:=ki h;unfold bO;rw [F];split
 .rename_i G;clear F G
  induction h with
  | nil=>exact .nil
  | @cons p t l m z _ J =>
   rw [Om,Om];refine .cons ?_ J;rw [z.1];by_cases c:t.1=n
   .rw [if_pos c,if_pos c];exact ⟨rfl,r.2⟩
   .rw [if_neg c,if_neg c];exact z
 .exact dc h (.cons r .nil)
theorem GJ{β:Type}{l:List (Int×β)}{a:β}(h1:(l.map (·.1)).Nodup)(h2:(l.map (·.2)).Nodup)(h:a∉l.map (·.2)):((bO l n a).map (·.2)).Nodup:=by
 have h1:=O5.mp h1;have h2:=O5.mp h2;have h:∀x∈l,a≠x.2:=λx hx z=>h (PF.mpr ⟨x,hx,z.symm⟩);unfold bO;split
 .rw [Oi];refine O5.mpr ((h1.and h2).imp_of_mem λ{x y} hx F z=>?_);show (if x.1=n then (x.1,a) else x).2≠(if y.1=n then (y.1,a) else y).2;by_cases ex:x.1=n<;>by_cases G:y.1=n
  .exact absurd (ex.trans G.symm) z.1
  .rw [if_pos ex,if_neg G];exact h y F
  .rw [if_neg ex,if_pos G];exact (h x hx).symm
  .rw [if_neg ex,if_neg G];exact z.2
 .rw [Oa];refine Ry.mpr ⟨O5.mpr h2,Q3 ..,λx hx y F=>?_⟩;obtain ⟨u,J,rfl⟩:=PF.mp hx;rw [List.map_singleton,NG] at F;rw [F];exact (h u J).symm
def p2(s:Tri):Int×Int:=(s.2.1,s.2.2)
theorem Iw(d:DM):((nU d).map p2).Nodup:=by
 rw [cf];refine O5.mpr ((nv (rs:=rdR d.rows) (rdR d.rows).length).imp_of_mem (R:=(·≠·)) λ{x y} hx F z e=>z ?_);have hx:=(bX.mp hx).2.2;have F:=(bX.mp F).2.2;have G:x.2.1=y.2.1:=by have:=congrArg Prod.fst e;exact Int.ofNat.inj this
 have J:x.2.2=y.2.2:=by have:=congrArg Prod.snd e;exact Int.ofNat.inj this
 rw [G,J,F] at hx;exact Prod.ext (Ob.inj hx).symm (Prod.ext G J)
structure SpM(d:DM)(ts:List T3):Prop where
 nd:(ts.map (·.2)).Nodup
 at_:∀t∈ts,∃s∈nU d,t.2=p2 s
structure BiI(A:zh)(H2:Hp)(a sh dd:Addr)(ts:List Tri)(i:Nat)(σ:L2.St)(H':Hp):Prop where
 ex:∃t1 t2 t3,σ=[some (V.ref a),some (.ref sh),some (.ref dd),t1,t2,t3]
 dic:∃kvs us,H' dd=some (.dK (ik kvs))/\Paired (dh H') kvs us/\(us.map (·.1)).Nodup/\us.length<=i/\(∀t∈us,0<=t.1/\t.1<10 ^ 18)/\(us.map (·.2)).Nodup/\∀t∈us,∃s∈ts.take i,t.2=p2 s
 keep:∀b o,b≠a->b≠dd->H2 b=some o->H' b=some o
 Tp:Pot H' a
def yu(A:zh):Sp:=λvs H Q _=>∃(a p wl sl sh:Addr)(cells shc:List Addr)(m:Int)(d:DM),vs=[.ref a,.ref sh]/\DW A H p wl sl sh cells shc m d/\Pot H a /\
 ∀dd kvs ts H',bg a H H'->TB A H'->Pot H' a->H dd=none->H' dd=some (.dK (ik kvs))->Paired (dh H') kvs ts->qt ts->SpM d ts->Q (.ref dd) H'
theorem iS:zt ["_law_pot_here","_law_shelf","_law_found","_law_row_here","_law_stretch","_law_place"] YJ (zi mO):=fsc
theorem EU(F:Fun K Vy Vy mO f fd)(T:Txt w K mg A)(Z9:GF P w K mg base true 1 V0 Zu du)(ZV:GF P w K mg base true 1 VY W6 (iQ A)):zm P w K mg base CX0 true 2 f fd YJ (yu A):=by
 refine F.o iS λZ2 Ar outer s H vs Q E hr h=>?_;obtain ⟨a,p,wl,sl,sh,cells,shc,m,d,rfl,Ww,hP,q⟩:=h;have hu:_<cLine:=N1 (zO hr);refine ⟨_,(W.h (ze (zy (i:=2) iS.nd rfl (NC rfl) pR)
   (ze (bN OW.never (λ_=>rfl) (liD (bK (clE (caD (zq ZV hr rfl (clP (zb (za 1) zc))))))) (dW (n:=3) (gsD (zS (zz (i:=3) iS.nd rfl (NC rfl)) (gsD (zS (zz (i:=4) iS.nd rfl (NC rfl)) (gsD (zS (zz (i:=5) iS.nd rfl (NC rfl)) bR)))))))
   (zg (zQ (cH (fo (tD (zG (clO (mE hu)) (clE (zF zJ (za 3) zl (λ_ _=>rfl))) (clE (aO (zb zH (zb zH zc)))) rfl)) (fG (tD (zG (clO (oI0 h9)) (clE (caD (zq Z9 hr rfl (clP (zb (za 0) (zb zl zc)))))) (clE zl) (zC _))))))
   (zg (cJ (aO (zb (za 4) (zb (za 5) zc))) (eJ (za 2) (zF zJ (za 3) (zB aK zl (fe AF rfl T.Vr boot_int (zb (cy (oE (aV hu)) (zF zJ (za 3) zl (λ_ _=>rfl)) zH (zC _)) zc))) (λ_ _=>rfl)) (jZ (zO hr)))))
   zV)))
   (zg (zw (za 2)))))),?_⟩
 have ok:=Ww.ok;have WL:=ok.sh;ac_rfl;refine λdd H1 J=>?_;have W1:=Ww.same J.same;refine ⟨sh,shc,_,rfl,W1.F8,WL.len,WL.wide,WL.keys,WL.nd,WL.few,W1.tb,λl2 a5 H2 s2 Yh f2 a8 e2 ab=>?_⟩;rw [<- cf] at ab;have Z7:=zW ab;have a7:(zY (nU d)).length<=30:=by rw [(dH _).length_eq];exact ok.few
 have XA:∀t∈zY (nU d),bE t.1:=λt O=>ok.row t ((dH _).mem_iff.mp O);have aT:((zY (nU d)).map p2).Nodup:=((dH _).map _).nodup_iff.mpr (Iw d);have Yw:∀s∈zY (nU d),s∈nU d:=λs hs=>(dH _).mem_iff.mp hs;generalize zY (nU d)=ts at Z7 a7 XA ab aT Yw;have P2:Pot H2 a:=by obtain ⟨x,y,e,r⟩:=(hP.same J.same).ex;exact ⟨⟨x,y,s2.list e,r⟩⟩
 have XI:H2 dd=some (.dK (ik [])):=s2 _ _ (λ_=>nofun) J.at_;have da:dd≠a:=hP.ne J.no;have la:l2≠a:=(hP.same J.same).ne f2;have ld:l2≠dd:=λz=>by rw [z,J.at_] at f2;cases f2
 ac_rfl;refine ⟨⟨_,SqL.of e2⟩,aA.lst (xs:=a5.map V.ref) (BiI A H2 a sh dd ts) ⟨⟨_,_,_,rfl⟩,⟨[],[],XI,.nil,by simp,by simp,by simp,by simp,by simp⟩,λ_ _ _ _ e=>e,P2⟩ (λi σ H' _ I=>SqL.of (I.keep _ _ la ld e2)) ?_ ?_⟩
 .rintro i x σ H3 hx ⟨⟨t1,t2,U,rfl⟩,⟨kvs,us,hd,pr,nd,ul,un,np,ua⟩,kp,Xj⟩;rw [NJ] at hx;obtain ⟨b,hb,rfl⟩:=NV.mp hx;have hi:i<ts.length:=by rw [<- Z7];exact (Nt.mp hb).1
  have Y4:ts[i]?=some ts[i]:=p8 hi;have ag:∀{r:Addr}{xs:List V},H2 r=some (.tup xs)->H3 r=some (.tup xs):=λ{r xs} e=>kp _ _ (λz=>by obtain ⟨x,y,ea,_⟩:=P2.ex;rw [z,ea] at e;cases e) (λz=>by rw [z,XI] at e;cases e) e;obtain ⟨r,g1,S⟩:=aY ab hb Y4;have g1:=ag g1;have S:=ag S;have ro:=XA _ (Oj hi);refine ⟨b,_,rfl,SqT.of g1,rfl,?_⟩;have tk:∀s∈ts.take i,s∈ts.take (i+1):=λs hs=>by rw [Oe];exact OQ _ hs
  have Yn:∃s∈ts.take (i+1),(((ts[i].2.1:Nat):Int),((ts[i].2.2:Nat):Int))=p2 s:=⟨ts[i],by rw [Oe,Y4];exact NU _ (NG.mpr rfl),rfl⟩;have aj:(((ts[i].2.1:Nat):Int),((ts[i].2.2:Nat):Int))∉us.map (·.2):=λz=>by
   obtain ⟨u,hu,eu⟩:=PF.mp z;obtain ⟨s,hs,es⟩:=ua u hu;obtain ⟨j,hj,ej⟩:=Ov hs;have a9:j<i:=by rw [Pb] at hj;lia
   rw [List.getElem_take] at ej;have a6:j<(ts.map p2).length:=by rw [KE];lia
   have e2:p2 s=p2 ts[i]:=es.symm.trans eu;have:=(RI a6 aT).mp (show (ts.map p2)[j]?=(ts.map p2)[i]? by rw [NJ,NJ,Y4,p8 (show j<ts.length by lia),ej];show some (p2 s)=some (p2 ts[i]);rw [e2]);lia
  have ai:∀H4,(∀b o,b≠a->b≠dd->H3 b=some o->H4 b=some o)->Pot H4 a->H4 dd=H3 dd->∀t1 t2 U,BiI A H2 a sh dd ts (i+1) [some (V.ref a),some (.ref sh),some (.ref dd),t1,t2,U] H4:=λH4 k4 p4 e4 t1 t2 U=>by
   refine ⟨⟨_,_,_,rfl⟩,⟨kvs,us,by rw [e4];exact hd,Paired.yz pr λp t r=>r.keep λr xs e=>k4 _ _ (λz=>by obtain ⟨x,y,ea,_⟩:=Xj.ex;rw [z,ea] at e;cases e) (λz=>by rw [z,hd] at e;cases e) e,nd,by lia,un,np,λt O=>let ⟨s,hs,e⟩:=ua t O;⟨s,tk s hs,e⟩⟩,λb o J n2 e=>k4 _ _ J n2 (kp _ _ J n2 e),p4⟩
  generalize ts[i].1=row at S ro;generalize ts[i].2.1=kk at g1 Yn aj;generalize ts[i].2.2=jj at g1 Yn aj;have av:∀(nb:Int)(Z:Addr)(H6:Hp),0<=nb->nb<10 ^ 18->(∀b o,b≠a->H3 b=some o->H6 b=some o)->Pot H6 a->H6 Z=some (.tup [.int kk,.int jj])->∀t1 t2 U,ji (.ref dd) (.int nb) (.ref Z) H6 λH7=>BiI A H2 a sh dd ts (i+1) [some (V.ref a),some (.ref sh),some (.ref dd),t1,t2,U] H7:=λnb Z H6 b0 b1 k6 a4 e6 t1 t2 U=>by
   have ak:=k6 _ _ da hd;have lk:=zW pr;have ba:Z≠dd:=λz=>by rw [z,ak] at e6;cases e6
   rw [sO];refine .inr ⟨_,ak,by rw [mI];exact aF (by lia),?_⟩;rw [AR];have up:∀{r:Addr}{xs:List V}{o:HO},H6 r=some (.tup xs)->upd H6 dd o r=some (.tup xs):=λ{r xs o} e=>by rw [zd (λz=>by rw [z,ak] at e;cases e)];exact e
   have a3:Paired (dh H6) kvs us:=Paired.yz pr λp t r=>r.keep λr xs e=>k6 _ _ (λz=>by obtain ⟨x,y,ea,_⟩:=Xj.ex;rw [z,ea] at e;cases e) e;refine ⟨⟨_,_,_,rfl⟩,⟨bO kvs nb (.ref Z),bO us nb ((kk:Int),(jj:Int)),zx,Paired.yz (Lj a3 (st:=((kk:Int),(jj:Int))) ⟨rfl,Z,rfl,e6⟩) λp t r=>r.keep λr xs e=>up e,Cd nd,?_,λt O=>?_,GJ nd np aj,λt O=>?_⟩,λb o J n2 e=>by rw [zd n2];exact k6 _ _ J (kp _ _ J n2 e),?_⟩
   .have:=M9 (l:=us) (n:=nb) (a:=((kk:Int),(jj:Int)));lia
   .rcases yq O with O|rfl
    .exact un t O
    .exact ⟨b0,b1⟩
   .rcases yq O with O|rfl
    .obtain ⟨s,hs,e⟩:=ua t O;exact ⟨s,tk s hs,e⟩
    .exact Yn
   .obtain ⟨x,y,e,rr⟩:=a4.ex;exact ⟨⟨x,y,by rw [zd (NO da)];exact e,rr⟩⟩
  have skip:∀{H4:Hp}{o:HO}{p1:Addr},New H3 p1 o H4->∀t1 t2 U,BiI A H2 a sh dd ts (i+1) [some (V.ref a),some (.ref sh),some (.ref dd),t1,t2,U] H4:=λ{H4 o p1} G t1 t2 U=>ai H4 (λb o _ _ e=>G.same _ _ e) (Xj.same G.same) ((G.same _ _ hd).trans hd.symm) t1 t2 U;have a0:∀{xs:List V},H3 r=some (.tup xs)->r≠a:=λ{xs} e z=>by obtain ⟨x,y,ea,_⟩:=Xj.ex;rw [z,ea] at e;cases e
  cases ro with
  | put n g b nm pl wd h1 h2 h3 h4 h5 =>
   have i0:atI [V.str VU,.int n,.int g,.bl b,.str nm,.int pl,.str wd] 0=some (V.str VU):=rfl;have i1:atI [V.str VU,.int n,.int g,.bl b,.str nm,.int pl,.str wd] (1+0)=some (V.int n):=rfl;have ne:decide ((VU:Str)="carry")=false:=by decide +kernel
   erw [S,i0];refine ⟨by decide,λp1 H4 G=>⟨_,.inr G.at_,rfl,rfl,?_⟩⟩;rw [if_pos (f!"")];refine ⟨a,3,rfl,Xj.same G.same,by decide,by decide,λr' H5 b5 Xi r0 r1=>?_⟩;ac_rfl;refine aq (λh=>⟨by decide,λZ H6 n6=>?_⟩) (λh=>ai H5 (λb o J _ e=>b5 _ _ J (G.same _ _ e)) Xi ((b5 _ _ da (G.same _ _ hd)).trans hd.symm) _ _ _);have g6:=n6.same _ _ (b5 _ _ (a0 S) (G.same _ _ S));refine ⟨_,.inr g6,_,i0,?_⟩;simp only [qU,ne,nE,gw,hZ];refine ⟨_,.inr g6,_,i1,av n Z H6 h1.1 h1.2 (λb o J e=>n6.same _ _ (b5 _ _ J (G.same _ _ e))) (Xi.same n6.same) n6.at_ _ _ _⟩
  | carry n g wd h1 h2 h3 =>
   have i0:atI [V.str "carry",.int n,.int g,.str wd] 0=some (V.str "carry"):=rfl;have i1:atI [V.str "carry",.int n,.int g,.str wd] (1+1)=some (V.int g):=rfl;have ne:decide (("carry":Str)="carry")=true:=by decide +kernel
   erw [S,i0];refine ⟨by decide,λp1 H4 G=>⟨_,.inr G.at_,rfl,rfl,?_⟩⟩;rw [if_pos (f!"")];refine ⟨a,3,rfl,Xj.same G.same,by decide,by decide,λr' H5 b5 Xi r0 r1=>?_⟩;ac_rfl;refine aq (λh=>⟨by decide,λZ H6 n6=>?_⟩) (λh=>ai H5 (λb o J _ e=>b5 _ _ J (G.same _ _ e)) Xi ((b5 _ _ da (G.same _ _ hd)).trans hd.symm) _ _ _);have g6:=n6.same _ _ (b5 _ _ (a0 S) (G.same _ _ S));refine ⟨_,.inr g6,_,i0,?_⟩;simp only [qU,ne,nE,gw,hZ];refine ⟨_,.inr g6,_,i1,av g Z H6 h2.1 h2.2 (λb o J e=>n6.same _ _ (b5 _ _ J (G.same _ _ e))) (Xi.same n6.same) n6.at_ _ _ _⟩
  | cut n nm pl h1 h2 h3 =>
   have i0:atI [V.str VT,.int n,.str nm,.int pl] 0=some (V.str VT):=rfl;erw [S,i0];refine ⟨by decide,λp1 H4 G=>⟨_,.inr G.at_,rfl,rfl,?_⟩⟩;rw [if_neg (f!"")];exact skip G _ _ _
  | hold n nm h1 h2 =>
   have i0:atI [V.str VV,.int n,.str nm] 0=some (V.str VV):=rfl;erw [S,i0];refine ⟨by decide,λp1 H4 G=>⟨_,.inr G.at_,rfl,rfl,?_⟩⟩;rw [if_neg (f!"")];exact skip G _ _ _
  | free n nm h1 h2 =>
   have i0:atI [V.str "free",.int n,.str nm] 0=some (V.str "free"):=rfl;erw [S,i0];refine ⟨by decide,λp1 H4 G=>⟨_,.inr G.at_,rfl,rfl,?_⟩⟩;rw [if_neg (f!"")];exact skip G _ _ _
 .rintro σ H3 ⟨⟨t1,t2,U,rfl⟩,⟨kvs,us,hd,pr,nd,ul,un,np,ua⟩,kp,Xj⟩;ac_rfl;rw [KE] at ul;have Xd:TB A H3:=Yh.keep (F:=[a,dd]) (λb o e n=>kp b o (λz=>n (by simp [z])) (λz=>n (by simp [z])) e) λx hx o e=>by
   rcases Nw.mp hx with rfl|hx
   .obtain ⟨x',y',ea,_⟩:=P2.ex;rw [ea] at e;cases e;exact ⟨λ_=>nofun,λ_=>nofun⟩
   .rw [NG] at hx;subst hx;rw [XI] at e;cases e;exact ⟨λ_=>nofun,λ_=>nofun⟩
  refine q dd kvs us H3 (λb o nb no e=>?_) Xd Xj J.no hd pr ⟨nd,by lia,un⟩ ⟨np,λt O=>let ⟨s,hs,e⟩:=ua t O;⟨s,Yw s (QS hs),e⟩⟩;exact kp b o nb (λz=>by rw [z,J.no] at e;cases e) (s2 _ _ no (J.same _ _ e))
end
abbrev mW:Stmt:=top 73
theorem JU(a b:Str):leS a b\/leS b a:=by
 unfold leS;rw [ltCps_eq,ltCps_eq];by_cases h:PK.blt b.cps.toList a.cps.toList=true
 .exact .inr (KeyOrd.klt_asymm (O:=PK.toKeyOrd) h)
 .exact .inl (by simpa using h)
theorem HH(h1:leS a b)(h2:leS b c):leS a c:=by
 unfold leS at *
 rw [ltCps_eq] at *
 exact KeyOrd.kle_trans (O:=PK.toKeyOrd) h1 h2
theorem ui(x:Str):∀l:List Str,l.Pairwise leS->∃m:List Str,m.Perm (x::l)/\m.Pairwise leS
 | [],_=>⟨[x],Q4.refl _,by simp⟩
 | y::l,h=>by
  rcases JU x y with hx|hx
  .refine ⟨x::y::l,Q4.refl _,OJ.mpr ⟨λz F=>?_,h⟩⟩;rcases Nw.mp F with rfl|F
   .exact hx
   .exact HH hx ((OJ.mp h).1 z F)
  .obtain ⟨m,p,hm⟩:=ui x l (OJ.mp h).2;refine ⟨y::m,(Q4.cons y p).trans (Q4.swap x y l),OJ.mpr ⟨λz F=>?_,hm⟩⟩;rcases Nw.mp (p.mem_iff.mp F) with rfl|F
   .exact hx
   .exact (OJ.mp h).1 z F
theorem AE:∀ks:List Str,∃z:List Str,z.Perm ks/\z.Pairwise leS
 | []=>⟨[],Q4.refl _,.nil⟩
 | x::ks=>by
  obtain ⟨z,p,h⟩:=AE ks;obtain ⟨m,p2,h2⟩:=ui x z h;exact ⟨m,p2.trans (Q4.cons x p),h2⟩
theorem Jj(ks:List Str):(c8 ks).Perm ks/\(c8 ks).Pairwise leS:=by
 obtain ⟨z,p,h⟩:=AE ks;have e:=A9 p (sortedS_of_pairwise z h);rw [<- e];exact ⟨p,h⟩
theorem AX{α:Type}{t:List (Str×α)}{a:α}:(bF t n a).length<=t.length+1:=by
 unfold bF;split<;>simp
section
variable {A:zh}{H H':Hp}{a p b k:Addr}{xs:List V}{t:Tab}{ks:List (Str×Tab)}
theorem Rd.lst{kvs:List (Key×V)}{c:Addr}(h:Rd H c (.dK kvs))(s:But a H H')(ha:H a=some (.lst xs)):Rd H' c (.dK kvs):=by
 have n:c≠a:=λz=>by
  rcases h with h|⟨o,h⟩ <;> · rw [z,ha] at h;cases h
 exact h.elim (λe=>.inl (s _ _ n e)) λ⟨o,e⟩=>.inr ⟨o,s _ _ n e⟩
theorem aR.lst{v:V}{l:List Int}(h:aR H v l)(s:But a H H')(ha:H a=some (.lst xs)):aR H' v l:=h.but s λys z=>by rw [ha] at z;cases z
theorem cq.lst{q F k':Addr}{t:Tab}(h:cq A H q F k' t)(s:But a H H')(ha:H a=some (.lst xs)):cq A H' q F k' t:=by
 obtain ⟨dx,e⟩:=h.ob;obtain ⟨kvs,G,d⟩:=h.qs.ex;exact ⟨⟨dx,s _ _ (λz=>by rw [z,ha] at e;cases e) e⟩,⟨⟨kvs,Rd.lst G s ha,d.imp λv l r=>r.lst s ha⟩,h.qs.nd⟩,Rd.lst h.kept s ha⟩
theorem zN.lst(h:zN A H p b k t ks)(s:But a H H')(ha:H a=some (.lst xs)):zN A H' p b k t ks:=by
 obtain ⟨dx,e⟩:=h.ob;obtain ⟨W,G,d⟩:=h.kept;obtain ⟨kvs,F,J⟩:=h.qs.ex;have ne:∀{c:Addr}{ys:List (Key×V)},H c=some (.dK ys)->c≠a:=λ{c ys} e z=>by rw [z,ha] at e;cases e
 exact ⟨⟨dx,s _ _ (λz=>by rw [z,ha] at e;cases e) e⟩,⟨⟨kvs,s _ _ (ne F) F,J.imp λv l r=>r.lst s ha⟩,h.qs.nd⟩,⟨W,s _ _ (ne G) G,d.imp λv u ⟨q,O,k',U,r,S⟩=>⟨q,O,k',U,r.lst s ha,S⟩⟩,h.aq,h.ne⟩
theorem zN.Tp(h:zN A H p b k t ks)(s:But a H H')(z:Pot H a):zN A H' p b k t ks:=let ⟨_,_,e,_⟩:=z.ex;h.lst s e
theorem zN.bd(h:zN A H p b k t ks):∃kvs,H b=some (.dK kvs):=let ⟨_,e,_⟩:=h.qs.ex;⟨_,e⟩
theorem zN.kd(h:zN A H p b k t ks):∃kvs,H k=some (.dK kvs):=let ⟨_,e,_⟩:=h.kept;⟨_,e⟩
theorem Pot.dic(F:Pot H a)(s:But c H H')(e:H c=some (.dK kvs)):Pot H' a:=by
 obtain ⟨x,y,ea,r⟩:=F.ex;exact ⟨⟨x,y,s _ _ (λz=>by rw [z,e] at ea;cases ea) ea,r⟩⟩
theorem MM:lk (bF t n l) m=if m=n then l else lk t m:=by
 unfold lk;rw [vX];split<;>rfl
theorem Kn(h:m≠n):look (f9 t n i) m=look t m:=by
 unfold f9;split
 .rw [Iv,if_neg h]
 .rw [vX,if_neg h]
theorem FL:(f9 t n i).length<=t.length+1:=by
 unfold f9;split
 .exact Qy (Rf ..)
 .exact AX
end
theorem Ms(h:v∈[V.str "a",.str "b",.str "zzzzzz"]):∃z:Str,v = .str z:=by
 simp only [Nw,NH,or_false] at h;rcases h with rfl|rfl|rfl<;>exact ⟨_,rfl⟩
section
variable {P:NB}{w:NQ}{K:Frag}{mg:Str->Option Value}{base:Heap}{A:zh}
structure FiI(A:zh)(H0:Hp)(a dd p b k:Addr)(i:Nat)(σ:L2.St)(H':Hp):Prop where
 ex:∃t1 t2,σ=[some (V.ref a),some (.ref dd),some (.ref p),t1,t2]
 fi:∃t,zN A H' p b k t []/\t.length<=i/\∀n,(lk t n).length<=i
 keep:∀c o,c≠a->c≠b->H0 c=some o->H' c=some o
 Tp:Pot H' a
structure CuI(A:zh)(H0:Hp)(a dd p b k:Addr)(t0:Tab)(ks:List (Str×Tab))(ss:List Str)(i:Nat)(σ:L2.St)(H':Hp):Prop where
 ex:∃t1 t2,σ=[some (V.ref a),some (.ref dd),some (.ref p),t1,t2]
 fi:∃t,zN A H' p b k t ks/\t.length<=64+i/\∀j n,i<=j->ss[j]?=some n->look t n=look t0 n
 keep:∀c o,c≠a->c≠b->H0 c=some o->H' c=some o
 Tp:Pot H' a
def Al(A:zh):Sp:=λvs H Q _=>∃(a dd:Addr)(kvs:List (Int×V)),vs=[.ref a,.ref dd]/\Pot H a/\H dd=some (.dK (ik kvs))/\kvs.length<40/\∀p b k t ks H',But a H H'->Pot H' a->zN A H' p b k t ks->Q (.ref p) H'
theorem jm:zt ["_law_pot_here","_law_births_here","_law_files_here","_law_birth","_law_name"] Wu (zi mW):=fsc
theorem Hf(F:Fun K "_law_files" "_law_files" mW f fd)(T:Txt w K mg A)(YN:GC P w K mg base true 1 "Files" A.tr Zn (oS A))(Z5:GF P w K mg base true 2 VS Ym jb)(Z9:GF P w K mg base true 1 V0 Zu du)(ZZ:GM P w K mg base true 1 A.tr "many" W3 (km A))(YW:GM P w K mg base true 4 A.tr VU Wp (uf A))(Zb:GM P w K mg base true 5 A.tr VV V3 (vT A))(Zk:GM P w K mg base true 1 A.tr "names" Zn (wk A))(YV:GM P w K mg base true 4 A.tr VT Ws (Ai A)):zm P w K mg base CX0 true 6 f fd Wu (Al A):=by
 refine F.o jm λZ2 Ar outer s H vs Q E hr h=>?_;obtain ⟨a,dd,kvs,rfl,hP,hd,hl,q⟩:=h;have hu:_<cLine:=N1 (zO hr);refine ⟨_,(W.h (ze (zy (i:=2) jm.nd rfl (NC rfl) (yO YN hr rfl))
   (ze (bN OW.never (λ_=>rfl) (liD (bK (clE (zL (vm rfl) rfl T.SV R5 (zb (za 1) zc))))) (zz (i:=3) jm.nd rfl (NC rfl))
   (ze (zy (i:=4) jm.nd rfl (NC rfl) (caD (zq Z5 hr rfl (clP (zb (za 0) (zb (ay (zb zH (zb zH (zb zH zc)))) zc))))))
   (zg (ax (mD (bS (clE (za 2)) T.pL YW hr (clP (zb (za 4) (zb (mD (bS (clE (za 2)) T.pL ZZ hr (clP (zb (za 4) zc)))) (zb (za 3) zc))))))))))
   (ze (zQ (tD (zG (clO (oE (aV hu))) (clE (caD (zq Z9 hr rfl (clP (zb (za 0) (zb zl zc)))))) (clE zl) (zC _)))
   (ze (ax (mD (bS (clE (za 2)) T.pL Zb hr (clP (zb zH zc)))))
   (zg (bN OW.never (λ_=>rfl) (liD (bK (clE (m0D (bh (clE (za 2)) T.pL Zk hr))))) (zz (i:=4) jm.nd rfl (NC rfl))
   (zg (ax (mD (bS (clE (za 2)) T.pL YV hr (clP (zb (za 4) (zb (caD (zq Z9 hr rfl (clP (zb (za 0) (zb (zB aK (mD (bS (clE (za 2)) T.pL ZZ hr (clP (zb (za 4) zc)))) zl) zc))))) zc))))))))))
   zV)
   (zg (zw (za 2))))))),?_⟩
 ac_rfl;refine λp av H1 nI=>⟨p,av,rfl,nI.at_,λb k H2 s2 nb nk eb ek a7 ex=>⟨rfl,?_⟩⟩;have a3:∀{c:Addr}{o:HO},H c=some o->c≠p:=λ{c o} e z=>by have:=nI.no;rw [<- z,e] at this;cases this
 have G:∀c o,H c=some o->H2 c=some o:=λc o e=>s2 _ _ (a3 e) (nI.same _ _ e);have F2:zN A H2 p b k [] []:=⟨⟨av,ex⟩,⟨⟨[],eb,.nil⟩,by simp [names]⟩,⟨[],ek,.nil⟩,by simp [names],a7⟩;have b0:H b=none:=nI.same.free nb;have bp:H k=none:=nI.same.free nk;refine ⟨kvs,.inl (G _ _ hd),by lia,λl ns H3 n3 pm _=>?_⟩;have bA:ns.length<40:=by rw [pm.length_eq,KE];exact hl
 have F3:=F2.same n3.same;have P3:Pot H3 a:=by obtain ⟨x,y,e,r⟩:=hP.ex;exact ⟨⟨x,y,n3.same _ _ (G _ _ e),r⟩⟩
 have la:l≠a:=(show Pot H2 a by obtain ⟨x,y,e,r⟩:=hP.ex;exact ⟨⟨x,y,G _ _ e,r⟩⟩).ne n3.no;have lb:l≠b:=λz=>by have:=n3.no;rw [z,eb] at this;cases this
 ac_rfl;refine ⟨⟨_,SqL.of n3.at_⟩,aA.lst (xs:=ns.map V.int) (FiI A H3 a dd p b k) ⟨⟨_,_,rfl⟩,⟨[],F3,by simp,λn=>by simp [lk,look]⟩,λ_ _ _ _ e=>e,P3⟩ (λi σ H' _ I=>SqL.of (I.keep _ _ la lb n3.at_)) ?_ ?_⟩
 .rintro i x σ H4 hx ⟨⟨t1,t2,rfl⟩,⟨t,F4,tl,tn⟩,kp,P4⟩;rw [NJ] at hx;obtain ⟨bi,bq,rfl⟩:=NV.mp hx;have hi:i<ns.length:=(Nt.mp bq).1;ac_rfl;refine ⟨by decide,λl5 H5 n5 _=>⟨a,P4.same n5.same,.inl ⟨l5,_,rfl,P4.ne n5.no,.inl n5.at_,by simp,by simp,λv H6 hv b6 P6=>?_⟩⟩⟩;obtain ⟨z,rfl⟩:=Ms hv;have J:=(F4.same n5.same).Tp b6 (P4.same n5.same);obtain ⟨bc,e6⟩:=J.ob;erw [e6,i3,Lb];refine ⟨p,b,k,t,[],z,rfl,J.r,λH7 s7=>?_⟩;have F7:=J.same s7;ac_rfl;refine ⟨p,b,k,t,[],z,_,bi,rfl,F7,by lia,by lia,by have:=tn z;lia,by lia,λH8 b8 U=>?_⟩;obtain ⟨kb,e7⟩:=F7.bd;refine ⟨⟨_,_,rfl⟩,⟨_,U,?_,λn=>?_⟩,λc o n1 n2 e=>b8 _ _ n2 (s7 _ _ (b6 _ _ n1 (n5.same _ _ (kp _ _ n1 n2 e)))),(P6.same s7).dic b8 e7⟩
  .have:=AX (t:=t) (n:=z) (a:=((lk t z).take (((lk t z).length:Nat):Int).toNat++[bi]++(lk t z).drop ((((lk t z).length:Nat):Int).toNat+1)));lia
  .rw [MM];have:=tn n;have:=tn z;split
   .simp;lia
   .lia
 .rintro σ H4 ⟨⟨t1,t2,rfl⟩,⟨t,F4,tl,tn⟩,kp,P4⟩;rw [KE] at tl;ac_rfl;refine ⟨a,3,rfl,P4,by decide,by decide,λr H5 b5 P5 r0 r1=>?_⟩;have F5:=F4.Tp b5 P4;have ag:But a H H5:=λc o n e=>b5 _ _ n (kp _ _ n (λz=>by rw [z,b0] at e;cases e) (n3.same _ _ (G _ _ e)));ac_rfl;refine aq (λh=>?_) (λh=>q p b k t [] H5 ag P5 F5);obtain ⟨bL,e5⟩:=F5.ob;erw [e5,JD,AC];refine ⟨p,b,k,t,[],"h",rfl,F5,rfl,by simp,λH6 b6 J=>?_⟩;obtain ⟨kd,a6⟩:=F5.kd;have P6:=P5.dic b6 a6;obtain ⟨bc,e6⟩:=J.ob;erw [e6,AC];refine ⟨p,b,k,t,_,rfl,J.r,by lia,λl7 H7 S=>?_⟩;have F7:=J.same S.same;have P7:=P6.same S.same;have ba:l7≠a:=P6.ne S.no;have a4:l7≠b:=λz=>by obtain ⟨kb,a8⟩:=J.bd;have:=S.no;rw [z,a8] at this;cases this
  have sp:=Jj (names t);have ls:(c8 (names t)).length<=40:=by rw [sp.1.length_eq];simp [names];lia
  have aT:(c8 (names t)).Nodup:=sp.1.nodup_iff.mpr J.qs.nd;have O:∀n∈c8 (names t),∃u,look t n=some u:=λn hn=>by
   cases e:look t n with
   | none=>exact absurd (sp.1.mem_iff.mp hn) (ig.mp e)
   | some u=>exact ⟨u,rfl⟩
  generalize c8 (names t)=ss at S ls aT O;ac_rfl;refine ⟨⟨_,SqL.of S.at_⟩,aA.lst (xs:=ss.map V.str) (CuI A H7 a dd p b k t _ ss) ⟨⟨_,_,rfl⟩,⟨t,F7,by lia,λ_ _ _ _=>rfl⟩,λ_ _ _ _ e=>e,P7⟩ (λi σ H' _ I=>SqL.of (I.keep _ _ ba a4 S.at_)) ?_ ?_⟩
  .rintro i x σ H8 hx ⟨⟨t1,t2,rfl⟩,⟨u,U,ul,uk⟩,ab,P8⟩;rw [NJ] at hx;obtain ⟨n,hn,rfl⟩:=NV.mp hx;have hi:i<ss.length:=(Nt.mp hn).1;obtain ⟨l,el⟩:=O n (NM hn);have eu:look u n=some l:=by rw [uk i n (Nq _) hn];exact el
   have a5:lk u n=l:=by unfold lk;rw [eu];rfl
   obtain ⟨bB,e8⟩:=U.ob;erw [e8,Bt,i3];refine ⟨p,b,k,u,_,n,rfl,U.r,λH9 s9=>?_⟩;have F9:=U.same s9;have bP:l.length<=40:=by
    have e:lk t n=l:=by unfold lk;rw [el];rfl
    have h:=tn n;rw [e,KE] at h;lia
   rw [a5];ac_rfl;refine ⟨a,_,rfl,P8.same s9,by lia,QZ (show (l.length:Int)+1<=41 by lia) (by decide),λm bx ak a9 m0 m1=>?_⟩;have ai:=F9.Tp ak (P8.same s9);refine ⟨p,b,k,u,_,n,l,m,rfl,ai,eu,m0,by lia,by lia,λH11 aj bt=>?_⟩;obtain ⟨kb,a0⟩:=ai.bd;refine ⟨⟨_,_,rfl⟩,⟨_,bt,by have:=FL (t:=u) (n:=n) (i:=m);lia,λj n' hj Z=>?_⟩,λc o n1 n2 e=>aj _ _ n2 (ak _ _ n1 (s9 _ _ (ab _ _ n1 n2 e))),a9.dic aj a0⟩;have ne:n'≠n:=λz=>by
    rw [z] at Z;have:=(RI hi aT).mp (hn.trans Z.symm);lia
   rw [Kn ne];exact uk j n' (by lia) Z
  .rintro σ H8 ⟨⟨t1,t2,rfl⟩,⟨u,U,ul,uk⟩,ab,P8⟩;ac_rfl;refine q p b k u _ H8 (λc o n e=>ab _ _ n (λz=>by rw [z,b0] at e;cases e) (S.same _ _ (b6 _ _ (λz=>by rw [z,bp] at e;cases e) (ag _ _ n e)))) P8 U
end
abbrev jo:Stmt:=top 74
abbrev jt:Stmt:=top 75
theorem oZ(f:Nat->Int):∀n,0<n->∃i,i<n/\az f n=some (f i)/\∀j,j<n->f j<=f i
 | 1,_=>⟨0,by decide,rfl,λj F=>by rw [show j=0 by lia];exact Int.le_refl _⟩
 | n+2,_=>by
  obtain ⟨i,hi,e,hm⟩:=oZ f (n+1) (by lia);have G:az f (n+2)=some (match az f (n+1) with|none=>f (n+1)|some m=>if f (n+1)>m then f (n+1) else m):=rfl;rw [G,e];show ∃j,j<n+2/\some (if f (n+1)>f i then f (n+1) else f i)=some (f j)/\_;split
  .refine ⟨n+1,by lia,rfl,λj F=>?_⟩;by_cases z:j=n+1
   .rw [z];exact Int.le_refl _
   .have:=hm j (by lia);lia
  .refine ⟨i,by lia,rfl,λj F=>?_⟩;by_cases z:j=n+1
   .rw [z];lia
   .exact hm j (by lia)
section
variable {A:zh}{H H':Hp}{a p wl sl sh:Addr}{cells shc:List Addr}{m:Int}{d:DM}
structure Apt(a wl sl sh:Addr)(cells shc:List Addr):Prop where
 d:∀x∈wl::sl::cells,x≠a
 s:a≠sh
 c:a∉shc
theorem DW.Vj(h:DW A H p wl sl sh cells shc m d)(J:Pot H a)(ap:Apt a wl sl sh cells shc)(s:bg a H H')(tb:TB A H')(G:Pot H' a):DW A H' p wl sl sh cells shc m d:=by
 obtain ⟨xs,e⟩:=J.lst;obtain ⟨ys,O⟩:=G.lst;have s':zA H (upd H' a (.lst xs)):=λb o n F=>by
  by_cases z:b=a
  .subst z;rw [e] at F;cases F;exact zx
  .rw [zd z];exact s b o z n F
 have W:=h.qb s' (tb.put O);refine W.put (b:=a) zx ap.d ap.s ap.c λb o F S=>?_;have z:b≠a:=λz=>S (by simp [z]);rw [zd z] at F;exact F
theorem bg.fr(s:bg a H H')(F:Pot H' a)(h:H' l=none):Fr H l:=λo no e=>by
 by_cases z:l=a
 .subst z;obtain ⟨x,y,ea,_⟩:=F.ex;rw [ea] at h;cases h
 .rw [s l o z no e] at h;cases h
end
section
variable {P:NB}{w:NQ}{K:Frag}{mg:Str->Option Value}{base:Heap}{A:zh}
structure NuI(H:Hp)(ts:List Tri)(i:Nat)(τ:L2.St)(ys:List V)(H':Hp):Prop where
 ex:∃t1,τ=[t1]
 ys:ys=((ts.take i).map zr).map V.int
 same:H'=H
def yM(A:zh):Sp:=λvs H Q _=>∃(a p wl sl sh:Addr)(cells shc:List Addr)(m:Int)(d:DM),vs=[.ref a,.ref sh]/\DW A H p wl sl sh cells shc m d/\Pot H a/\∀(z:Int) H',bg a H H'->TB A H'->Pot H' a->(∀t∈nU d,zr t<z)->0<z->z<10 ^ 18->Q (.int z) H'
theorem w8:zt Wf YJ (zi jo):=fsc
theorem Bz:aG { kind:=.function,names:=[(yv ".0",.local),(yv "_law_one",.local)],isGenerator:=false,isCoroutine:=false,more:=[] } (zi jo).names Wf ["_law_one"] [none]=true:=by decide +kernel
theorem GZ:(["_law_one"]:List Str).Nodup:=by decide +kernel
theorem EW(F:Fun K "_law_next" "_law_next" jo f fd)(T:Txt w K mg A)(Z9:GF P w K mg base true 1 V0 Zu du)(ZV:GF P w K mg base true 1 VY W6 (iQ A)):zm P w K mg base CX0 true 2 f fd YJ (yM A):=by
 refine F.o w8 λZ2 Ar outer s H vs Q E hr h=>?_;obtain ⟨a,p,wl,sl,sh,cells,shc,m,d,rfl,Ww,hP,q⟩:=h;have hu:_<cLine:=N1 (zO hr);refine ⟨_,(W.h (ze (zy (i:=2) w8.nd rfl (NC rfl) (zB aK (ay (zb zl zc)) (cA (λ_=>rfl) (zU.of Bz) (liD (bK (clE (caD (zq ZV hr rfl (clP (zb (za 1) zc))))))) (λ_ _ _ _ _=>(zz (i:=0) GZ rfl (NC rfl))) (λ_ _ _ _ _=>di) (λ_ _ _ _ _=>(zF zJ (zF zJ (za 0) zl (λ_ _=>rfl)) zl (λ_ _=>rfl))))))
   (zg (zw (zB aK (zB aK (zL (je rfl) rfl T.TU boot_max (zb (za 2) zc)) zl) (caD (zq Z9 hr rfl (clP (zb (za 0) (zb (zF zJ (ay (zb zl (zb zl (zb (zB (oI pC) zl zl) zc)))) (caD (zq Z9 hr rfl (clP (zb (za 0) (zb zl zc))))) (λ_ _=>rfl)) zc)))))))))),?_⟩
 have ok:=Ww.ok;have O:=ok.sh;ac_rfl;refine ⟨by decide,λl0 H1 n1 _=>?_⟩;have W1:=Ww.same n1.same;refine ⟨sh,shc,_,rfl,W1.F8,O.len,O.wide,O.keys,O.nd,O.few,W1.tb,λl2 ai H2 s2 Yh f2 aT e2 G=>?_⟩;rw [<- cf] at G;ac_rfl;have Z7:=zW G;have av:(zY (nU d)).length<=30:=by rw [(dH _).length_eq];exact ok.few
 have S:∀t∈zY (nU d),∃y n ys,t.1 = .str y::.int n::ys:=λt z=>iZ ((dH _).mem_iff.mp z);have Yd:∀t∈zY (nU d),1<=zr t/\zr t<10 ^ 17:=λt z=>ok.pos t ((dH _).mem_iff.mp z);have Xc:∀t∈nU d,t∈zY (nU d):=λt z=>(dH _).mem_iff.mpr z;generalize zY (nU d)=ts at Z7 av S G Yd Xc;refine ⟨⟨_,SqL.of e2⟩,zT.lst (xs:=ai.map V.ref) (NuI H2 ts) (λi τ ys H' I=>?_) (λi τ ys H' I=>by rw [I.same];exact SqL.of e2) ⟨⟨_,rfl⟩,rfl,rfl⟩ ?_ ?_⟩
 .rw [I.ys,KE,KE];exact aF (by have:=OS i ts;lia)
 .intro N i x τ ys H' hx I hN;obtain ⟨t1,rfl⟩:=I.ex;have e:=I.same;subst e;rw [NJ] at hx;obtain ⟨b,hb,rfl⟩:=NV.mp hx;have hi:i<ts.length:=by rw [<- Z7];exact (Nt.mp hb).1
  have Y4:ts[i]?=some ts[i]:=p8 hi;obtain ⟨r,g1,g2⟩:=aY G hb Y4;obtain ⟨y,n,zs,et⟩:=S _ (Oj hi);rw [et] at g2;have i0:atI [V.ref r,V.int (ts[i]).2.1,V.int (ts[i]).2.2] 0=some (V.ref r):=rfl;have ix:atI (V.str y::V.int n::zs) 1=some (V.int n):=cu (j:=1) (by simp);erw [g1,g2,i0,ix];refine hN _ _ _ ⟨⟨_,rfl⟩,?_,rfl⟩;have ek:zr ts[i]=n:=by unfold zr;rw [et];rfl
  rw [Oe,Y4,I.ys,Oa,Oa];show _=_++[V.int (zr ts[i])];rw [ek]
 .intro τ ys H' I D3 H3 n3;have e:=I.same;subst e;have Xr:=I.ys;rw [KE,Z7,NW (Nq _)] at Xr;rw [Xr] at n3;rw [ib];refine ⟨_,_,n3.same _ _ (s2.list n1.at_),n3.at_,aM (by simp;lia),λp4 H4 n4=>?_⟩;rw [pZ];refine ⟨0::ts.map zr,by rw [n4.at_];rfl,by simp,?_⟩;obtain ⟨i,hi,eb,hM⟩:=oZ (λi=>(0::ts.map zr).getD i 0) (0::ts.map zr).length (by simp);rw [eb];show hJ (V.int ((0::ts.map zr).getD i 0)) (V.int 1) H4 _;have ak:(0::ts.map zr).getD i 0<10 ^ 17:=by
   cases i with
   | zero=>show (0:Int)<_;decide
   | succ i =>
    rw [List.getD_cons_succ];have hi:i<(ts.map zr).length:=by simpa using hi
    rw [Nr,p8 hi];show (ts.map zr)[i]<_;rw [List.getElem_map];exact (Yd _ (Oj _)).2
  have aj:0<=(0::ts.map zr).getD i 0:=hM 0 (by simp);have Z:∀t∈nU d,zr t<=(0::ts.map zr).getD i 0:=λt z=>by
   obtain ⟨j,hj,ej⟩:=Ov (Xc t z);have:=hM (j+1) (by simpa using hj);rw [List.getD_cons_succ,Nr,NJ,p8 hj,ej] at this;exact this
  clear hM eb;generalize (0::ts.map zr).getD i 0=M at ak aj Z ⊢;have J:zA H H4:=(zA.of n1.same).trans (s2.trans (.of (n3.same.trans n4.same)));have ag:=(Yh.same n3.same).same n4.same;have P4:Pot H4 a:=by obtain ⟨x,y,e,r⟩:=hP.ex;exact ⟨⟨x,y,J.list e,r⟩⟩
  ac_rfl;refine ⟨⟨by decide,by decide,by decide⟩,by decide,λp5 H5 n5 _=>?_⟩;have P5:=P4.same n5.same;refine ⟨a,3,rfl,P5,by decide,by decide,λr H6 b6 P6 r0 r1=>?_⟩;have ab:p5≠a:=P4.ne n5.no;have e6:=b6 _ _ ab n5.at_;obtain ⟨v,ev,hv⟩:=mV (xs:=[V.int 6,.int 60,.int (10 ^ Int.toNat 16)]) r0 (by simpa using r1);erw [e6];refine ⟨v,ev,?_⟩;obtain ⟨mm,rfl,m0,m1⟩:∃mm:Int,v = .int mm/\0<mm/\mm<=10 ^ 16:=by
   simp only [Nw,NH,or_false] at hv;rcases hv with rfl|rfl|rfl
   .exact ⟨6,rfl,by decide,by decide⟩
   .exact ⟨60,rfl,by decide,by decide⟩
   .exact ⟨_,rfl,by decide,by decide⟩
  refine ⟨a,mm,rfl,P6,m0,by lia,λr' H7 b7 P7 z0 z1=>?_⟩;ac_rfl;have U:But a H4 H7:=((But.of n5.same).trans b6).trans b7;exact q _ H7 ((bg.of J).trans (.but U)) (ag.lists U.keeps λx hx=>by rw [NG] at hx;subst hx;obtain ⟨xs,e⟩:=P4.lst;exact .inl ⟨_,e⟩) P7 (λt z=>by have:=Z t z;lia) (by lia) (by lia)
structure SsI(H:Hp)(dd:Addr)(fz:HO)(ts:List T3)(i:Nat)(τ:L2.St)(ys:List V)(H':Hp):Prop where
 ex:∃t1,τ=[t1,some (.ref dd)]
 ys:∃as:List Addr,ys=as.map V.ref/\Paired (dI H') as (ts.take i)
 fz:H' dd=some fz
 same:zj H H'
theorem TB.S0(tb:TB A H)(z:Pot H a)(b:But a H H'):TB A H':=tb.lists b.keeps λx hx=>by rw [NG] at hx;subst hx;obtain ⟨xs,e⟩:=z.lst;exact .inl ⟨_,e⟩
theorem Pot.tup{H:Hp}{a r:Addr}{xs:List V}(F:Pot H a)(e:H r=some (.tup xs)):r≠a:=λz=>by obtain ⟨x,y,ea,_⟩:=F.ex;rw [z,ea] at e;cases e
theorem bg.tup{H H':Hp}{a r:Addr}{xs:List V}(s:bg a H H')(z:Pot H a)(e:H r=some (.tup xs)):H' r=some (.tup xs):=s _ _ (z.tup e) (λ_=>nofun) e
theorem zN.Vj{a p b k:Addr}{t:Tab}(h:zN A H p b k t ks)(F:Pot H a)(s:bg a H H'):zN A H' p b k t ks:=by
 obtain ⟨x,y,ha,_⟩:=F.ex;have O:∀{v:V}{l:List Int},aR H v l->aR H' v l:=λ{v l} ⟨q,e,hq⟩=>⟨q,e,s.tup F hq⟩;have J:∀{q dx:Addr}{fs:List (Str×V)},H q=some (.ins A.tr dx fs)->H' q=some (.ins A.tr dx fs):=λ{q dx fs} e=>s _ _ (λz=>by rw [z,ha] at e;cases e) (λ_=>nofun) e;have dk:∀{c:Addr}{ys:List (Key×V)},H c=some (.dK ys)->H' c=some (.dK ys):=λ{c ys} e=>s _ _ (λz=>by rw [z,ha] at e;cases e) (λ_=>nofun) e;have G:∀{c:Addr}{ys:List (Key×V)},Rd H c (.dK ys)->Rd H' c (.dK ys):=λ{c ys} e=>e.elim (λe=>.inl (dk e)) λ⟨o,e⟩=>.inr ⟨o,s _ _ (λz=>by rw [z,ha] at e;cases e) (λ_=>nofun) e⟩;obtain ⟨dx,e⟩:=h.ob;obtain ⟨kk,e2,d⟩:=h.kept;obtain ⟨kvs,U,d3⟩:=h.qs.ex;exact ⟨⟨dx,J e⟩,⟨⟨kvs,dk U,d3.imp λv l r=>O r⟩,h.qs.nd⟩,⟨kk,dk e2,d.imp λv u ⟨q,Z,k',ev,⟨⟨dq,S⟩,⟨⟨kv,eb,W⟩,nb⟩,ek⟩,nn⟩=>⟨q,Z,k',ev,⟨⟨dq,J S⟩,⟨⟨kv,G eb,W.imp λv l r=>O r⟩,nb⟩,G ek⟩,nn⟩⟩,h.aq,h.ne⟩
theorem Fw.qb{p:Addr}(h:Fw A H p)(s:zA H H'):Fw A H' p:=by
 obtain ⟨b,k,z,t,kvs,O,F,S⟩:=h;obtain ⟨G,J,dd⟩:=F.ex;exact ⟨b,k,z,t,kvs,s _ _ (λ_=>nofun) O,⟨⟨G,J.elim (λe=>.inl (s _ _ (λ_=>nofun) e)) λ⟨o,e⟩=>.inr ⟨o,s _ _ (λ_=>nofun) e⟩,dd.imp λv l ⟨p,ep,U⟩=>⟨p,ep,s.tup U⟩⟩,F.nd⟩,s _ _ (λ_=>nofun) S⟩
theorem Own.qb(h:Own A H x)(s:zA H H'):Own A H' x:=by
 obtain ⟨dx,f,d,n,m,e,z⟩:=h;exact ⟨dx,f,d,n,m,s _ _ (λ_=>nofun) e,z.qb s⟩
def uW(A:zh):Sp:=λvs H Q _=>∃(a p wl sl sh:Addr)(cells shc:List Addr)(m:Int)(d:DM),vs=[.ref a,.ref sh]/\DW A H p wl sl sh cells shc m d/\Pot H a/\Apt a wl sl sh cells shc /\
 ∀tp x l as ts n H',H' tp=some (.tup [.ref x,.ref l])->bg a H H'->TB A H'->Pot H' a->bV A H' x ts n->Own A H' x->H' l=some (.lst (as.map V.ref))->Paired (dI H') as ts->Fr H l->SpM d ts->(∀t∈nU d,zr t<n)->0<n->n<10 ^ 18->Q (.ref tp) H'
theorem l8:zt Wq YJ (zi jt):=fsc
theorem Bj:aG { kind:=.function,names:=[(yv ".0",.local),(yv "_law_birth",.local),(yv "_law_births_here",.free)],isGenerator:=false,isCoroutine:=false,more:=[] } (zi jt).names Wq ["_law_birth","_law_births_here"] [none,some 2]=true:=by decide +kernel
theorem Fe:(["_law_birth","_law_births_here"]:List Str).Nodup:=by decide +kernel
theorem LO(F:Fun K "_law_state" "_law_state" jt f fd)(T:Txt w K mg A)(Z9:GF P w K mg base true 1 V0 Zu du)(Zj:GF P w K mg base true 2 Vy YJ (yu A))(Za:GF P w K mg base true 6 "_law_files" Wu (Al A))(YU:GF P w K mg base true 2 "_law_next" YJ (yM A))(XY:GC P w K mg base true 5 "State" A.State Yo (sY A)):zm P w K mg base CX0 true 7 f fd YJ (uW A):=by
 refine F.o l8 λZ2 Ar outer s H vs Q E hr h=>?_;obtain ⟨a,p,wl,sl,sh,cells,shc,m,d,rfl,Ww,hP,ap,q⟩:=h;have hu:_<cLine:=N1 (zO hr);refine ⟨_,(W.h (ze (zy (i:=2) l8.nd rfl (Rm rfl) (caD (zq Zj hr rfl (clP (zb (za 0) (zb (za 1) zc))))))
   (ze (JY (gF (i0:=3) l8.nd rfl (NC rfl) (λ_=>rfl) (zU.of Bj) (EJ (za 2)) (λ_ _ _ _ _=>(zz (i:=0) Fe rfl (NC rfl))) (λ_ _ _ _ _=>di) (λ_ _ _ _ _=>(aO (zb (za 0) (zb (zF zJ (zF (kr (zO hr)) (za 1) (za 0) (λ_ _=>rfl)) zl (λ_ _=>rfl)) (zb (zF zJ (zF (kr (zO hr)) (za 1) (za 0) (λ_ _=>rfl)) zl (λ_ _=>rfl)) zc)))))))
   (zg (zw (aO (zb (qP XY hr rfl (zb (caD (zq Za hr rfl (clP (zb (za 0) (zb (za 2) zc))))) (zb (za 3) (zb (caD (zq YU hr rfl (clP (zb (za 0) (zb (za 1) zc))))) (zb (caD (zq Z9 hr rfl (clP (zb (za 0) (zb zl zc))))) zc))))) (zb (za 3) zc)))))))),?_⟩
 ac_rfl;refine ⟨a,p,wl,sl,sh,cells,shc,m,d,rfl,Ww,hP,λdd kvs ts H1 b1 XZ P1 bq hd pr ok sm=>?_⟩;have lk:=zW pr;have W1:=Ww.Vj hP ap b1 XZ P1;ac_rfl;refine ⟨dd,_,hd,λo=>?_⟩;have av:upd H1 dd (.frz o (.dK (ik kvs))) dd=some (.frz o (.dK (ik kvs))):=zx;have aj:∀{r:Addr}{xs:List V},H1 r=some (.tup xs)->upd H1 dd (.frz o (.dK (ik kvs))) r=some (.tup xs):=λ{r xs} e=>by rw [zd (λz=>by rw [z,hd] at e;cases e)];exact e
 ac_rfl;refine ⟨o,ik kvs,by first|exact av|rfl,zT.bG (SsI (upd H1 dd (.frz o (.dK (ik kvs)))) dd (.frz o (.dK (ik kvs))) ts) (λi τ ys H' I=>?_) (λi τ ys H' I=>I.fz) ⟨⟨_,rfl⟩,⟨[],rfl,.nil⟩,av,zj.refl _⟩ ?_ ?_⟩
 .obtain ⟨as,e,J⟩:=I.ys;have:=zW J;have h2:=OS i ts;have:=ok.few;rw [e,KE];exact aF (by lia)
 .intro N i pv τ ys H' hp I hN;obtain ⟨t1,rfl⟩:=I.ex;obtain ⟨as,e,J⟩:=I.ys;unfold ik at hp;rw [NJ] at hp;obtain ⟨kv,ai,rfl⟩:=NV.mp hp;have hi:i<ts.length:=by rw [<- lk];exact (Nt.mp ai).1
  have Y4:ts[i]?=some ts[i]:=p8 hi;obtain ⟨s1,a2,s2,s3⟩:=aY pr ai Y4;have s3:=I.same _ _ (aj s3);have hv:zZ (ik kvs) (.inl ts[i].1)=some (.ref a2):=oH (by rw [ki pr];exact ok.nd) (by rw [<- s1,<- s2];exact NM ai);have ek:kV (Sum.inl kv.1:Key)=V.int ts[i].1:=by rw [<- s1];rfl
  show dr 0 (kV (Sum.inl kv.1:Key)) _ _ _;rw [ek];have a3:Rd H' dd (.dK (ik kvs)):=.inr ⟨o,I.fz⟩;ac_rfl;refine ⟨_,a3,_,hv,?_⟩;erw [s3,kT,jz];refine ⟨_,a3,_,hv,?_⟩;erw [s3,kT,jz];refine ⟨by decide,λp2 H2 n2=>hN _ _ _ ⟨⟨_,rfl⟩,⟨as++[p2],by rw [e,Oa];rfl,?_⟩,n2.same _ _ I.fz,I.same.trans n2.same⟩⟩;rw [Oe,Y4];exact dc (Paired.yz J λa t r=>n2.same _ _ r) (.cons n2.at_ .nil)
 .intro τ ys H2 I D H3 Z;obtain ⟨as,e,J⟩:=I.ys;rw [mI,lk,NW (Nq _)] at J;rw [e] at Z;refine ⟨o,Z.same _ _ I.fz,?_⟩;have G:zj H1 (upd H3 dd (.dK (ik kvs))):=λc u eu=>by
   by_cases z:c=dd
   .subst z;rw [hd] at eu;cases eu;exact zx
   .rw [zd z];exact Z.same _ _ (I.same _ _ (by rw [zd z];exact eu))
  have Dd:D≠dd:=λz=>by have:=Z.no;rw [z,I.fz] at this;cases this
  have aT:upd H3 dd (.dK (ik kvs)) D=some (.lst (as.map V.ref)):=by rw [zd Dd];exact Z.at_
  have ak:Paired (dI (upd H3 dd (.dK (ik kvs)))) as ts:=Paired.yz J λa t r=>by
   have r:H2 a=_:=r;show upd H3 dd _ a=_;rw [zd (λz=>by rw [z,I.fz] at r;cases r)];exact Z.same _ _ r
  have D1:H1 D=none:=by
   cases eD:H1 D with
   | none=>rfl
   | some u =>
    have h3:=I.same D u (by rw [zd Dd];exact eD);rw [Z.no] at h3;cases h3
  have a8:Fr H D:=b1.fr P1 D1;have P4:=P1.same G;have W4:=W1.same G;have a7:=XZ.same G;have a5:=G _ _ hd;have Da:D≠a:=P1.ne D1;generalize upd H3 dd (.dK (ik kvs))=H4 at G aT ak P4 W4 a7 a5;ac_rfl;refine ⟨a,dd,kvs,rfl,P4,a5,by rw [lk];exact ok.few,λpf b k t ks H5 b5 P5 F5=>?_⟩;have W5:=W4.S0 P4 ap.d ap.s ap.c b5;refine ⟨a,p,wl,sl,sh,cells,shc,m,d,rfl,W5,P5,λz H6 b6 bc P6 zk z0 z1=>⟨a,9,rfl,P6,by decide,by decide,λr H7 b7 P7 _ _=>?_⟩⟩;have ab:bg a H4 H7:=((bg.but b5).trans b6).trans (.but b7);have F7:=(F5.Vj P5 b6).Vj P6 (.but b7);have ba:=bc.S0 P6 b7;have a4:=ab D (.lst (as.map V.ref)) Da (λ_=>nofun) aT;have a0:Paired (dI H7) as ts:=Paired.yz ak λc t r=>ab.tup P4 r;intro x a6 H8 U;refine ⟨x,pf,D,a6,z,r,as,ts,rfl,U.at_,(F7.same U.same).fw,U.same _ _ a4,Paired.yz a0 λc t r=>U.same _ _ r,ok,λH9 b9 S9 O9=>⟨rfl,by decide,λtp ag O=>?_⟩⟩;have nx:∀{c:Addr}{o:HO},H7 c=some o->c≠x:=λ{c o} e z=>by have:=U.no;rw [<- z,e] at this;cases this
  have S:∀{c:Addr}{o:HO},H7 c=some o->ag c=some o:=λ{c o} e=>O.same _ _ (b9 _ _ (nx e) (U.same _ _ e));have a9:TB A H9:=(ba.same U.same).lists b9.keeps λy hy=>by rw [NG] at hy;subst hy;exact .inr ⟨_,_,_,U.at_⟩
  have bp:Pot ag a:=by obtain ⟨x',y',ea,rr⟩:=P7.ex;exact ⟨⟨x',y',S ea,rr⟩⟩
  refine q tp x D as ts z ag O.at_ (λc o n no e=>S (ab _ _ n no (G _ _ (b1 _ _ n no e)))) (a9.same O.same) bp (S9.qb (.of O.same)) (O9.qb (.of O.same)) (S a4) (Paired.yz a0 λc t r=>S r) a8 sm zk z0 z1
abbrev jH:Stmt:=top 71
abbrev lA:Stmt:=top 76
abbrev lI:Stmt:=top 77
def fnd(ts:List Tri)(hot:Bool):Nat->List Nat
 | 0=>[]
 | i+1=>fnd ts hot i++match ts[i]? with|some t=>if cS t=hot then [t.2.1] else []|none=>[]
theorem qK(ts:List Tri)(hot:Bool):∀i,(fnd ts hot i).length<=i
 | 0=>Nq _
 | i+1=>by
  show (fnd ts hot i++_).length<=_;have:=qK ts hot i;rw [NY];split
  .split<;>simp<;>lia
  .simp;lia
theorem ni(ts:List Tri)(hot:Bool):∀i,(fnd ts hot i).getLast?=dM ts hot i
 | 0=>rfl
 | i+1=>by
  show (fnd ts hot i++match ts[i]? with|some t=>if cS t=hot then [t.2.1] else []|none=>[]).getLast?=match ts[i]? with|some t=>if cS t=hot then some t.2.1 else dM ts hot i|none=>dM ts hot i
  cases ts[i]? with
  | none=>simp [ni ts hot i]
  | some t =>
   by_cases h:cS t=hot
   .simp [h]
   .simp [h,ni ts hot i]
noncomputable def fC(rs:List (List OR))(hot:Bool):Option Nat:=dM (zY (wO rs rs.length)) hot (zY (wO rs rs.length)).length
structure Fs(H1:Hp)(hot:Bool)(ts:List Tri)(i:Nat)(τ:L2.St)(ys:List V)(H':Hp):Prop where
 ex:∃t1,τ=[t1,some (V.bl hot)]
 ys:ys=(fnd ts hot i).map iv
 same:H'=H1
 le:i<=ts.length
def tM(A:zh):Sp:=λvs H Q _=>∃(sh:Addr)(shc:List Addr)(rs:List (List OR))(hot:Bool),vs=[.ref sh,.bl hot]/\au H sh shc rs/\kJ rs/\TB A H/\∀H',zA H H'->TB A H'->Q (ov (fC rs hot)) H'
theorem vM:zt V2 Wl (zi jH):=fsc
theorem DX:aG { kind:=.function,names:=[(yv ".0",.local),(yv "_law_one",.local),(yv "_law_is_hot",.free)],isGenerator:=false,isCoroutine:=false,more:=[] } (zi jH).names V2 ["_law_one","_law_is_hot"] [none,some 1]=true:=by decide +kernel
theorem FM:(["_law_one","_law_is_hot"]:List Str).Nodup:=by decide +kernel
theorem L6(F:Fun K "_law_end" "_law_end" jH f fd)(T:Txt w K mg A)(ZV:GF P w K mg base true 1 VY W6 (iQ A)):zm P w K mg base CX0 true 2 f fd Wl (tM A):=by
 refine F.o vM λZ2 Ar outer s H vs Q E hr h=>?_;obtain ⟨sh,shc,rs,hot,rfl,S,ok,tb,q⟩:=h;have hu:_<cLine:=N1 (zO hr);refine ⟨_,(W.h (ze (gF (i0:=2) vM.nd rfl (NC rfl) (λ_=>rfl) (zU.of DX) (liD (bK (clE (caD (zq ZV hr rfl (clP (zb (za 0) zc))))))) (λ_ _ _ _ _=>(zz (i:=0) FM rfl (NC rfl))) (λ_ _ _ _ _=>(dU (tD (zG (clO (oE (aV hu))) (clE (cy (oE (eS hu)) (zF zJ (zF zJ (za 0) zl (λ_ _=>rfl)) zl (λ_ _=>rfl)) zH (zC _))) (clE (za 1)) (zC _))))) (λ_ _ _ _ _=>(zF zJ (za 0) zl (λ_ _=>rfl))))
   (ze (zQ (tD (zG (clO (pO hu)) (clE (za 2)) (clE (ay zc)) (zC _)))
   (zg (zw aJ))
   zV)
   (zg (zw (zF zJ (za 2) (jK lB zl) (λ_ _=>rfl))))))),?_⟩
 ac_rfl;refine ⟨sh,shc,rs,rfl,S,ok.len,ok.wide,ok.keys,ok.nd,ok.few,tb,λl as H1 s1 XZ ln _ hl ht=>?_⟩;have Z7:=zW ht;have Yc:(zY (wO rs rs.length)).length<64:=by rw [(dH _).length_eq];exact ok.few
 have U:∀t∈zY (wO rs rs.length),∃y n ys,t.1 = .str y::.int n::ys:=λt h=>ok.keys t ((dH _).mem_iff.mp h);unfold fC at q;generalize zY (wO rs rs.length)=ts at Z7 Yc U ht q;ac_rfl;refine ⟨⟨_,SqL.of hl⟩,zT.lst (xs:=as.map V.ref) (Fs H1 hot ts) (λi τ ys H' I=>?_) (λi τ ys H' I=>by rw [I.same];exact SqL.of hl) ⟨⟨_,rfl⟩,rfl,rfl,by lia⟩ ?_ ?_⟩
 .rw [I.ys,KE];exact aF (by have:=qK ts hot i;have:=I.le;lia)
 .intro N i x τ ys H' hx I hN;obtain ⟨t1,rfl⟩:=I.ex;have e:=I.same;subst e;rw [NJ] at hx;obtain ⟨a,ha,rfl⟩:=NV.mp hx;have hi:i<ts.length:=by rw [<- Z7];exact (Nt.mp ha).1
  have Y4:ts[i]?=some ts[i]:=p8 hi;have O:=Oj hi;generalize ts[i]=t at Y4 O;obtain ⟨r,e1,e2⟩:=aY ht ha Y4;obtain ⟨y,n,zs,et⟩:=U _ O;rw [et] at e2;have i0:atI [V.ref r,V.int t.2.1,V.int t.2.2] 0=some (V.ref r):=rfl;have i1:atI [V.ref r,V.int t.2.1,V.int t.2.2] 1=some (V.int t.2.1):=rfl;have i2:atI (V.str y::V.int n::zs) 0=some (V.str y):=cu (j:=0) (by simp);have eh:cS t = !decide (y=("carry":Str)):=by unfold cS;rw [et]
  have ef:fnd ts hot (i+1)=fnd ts hot i++if cS t=hot then [t.2.1] else []:=by
   show fnd ts hot i++(match ts[i]? with|some t=>_|none=>_)=_;rw [Y4]
  erw [e1,e2,i0,i1,i2];rw [<- eh];by_cases hh:cS t=hot
  .rw [decide_eq_true hh];erw [e1,i1];exact hN _ _ _ ⟨⟨_,rfl⟩,by rw [I.ys,ef,if_pos hh,Oa];rfl,rfl,by lia⟩
  .rw [decide_eq_false hh];ac_rfl;exact hN _ _ _ ⟨⟨_,rfl⟩,by rw [I.ys,ef,if_neg hh,O8],rfl,by lia⟩
 .intro τ ys H' I D2 H4 n4;have e:=I.same;subst e;have Xr:=I.ys;rw [KE,Z7] at Xr;rw [Xr] at n4;have J:=n4.at_;have q2:∀H5,zj H' H5->Q (ov (fnd ts hot ts.length).getLast?) H5:=λH5 s5=>by rw [ni];exact q H5 (s1.trans (.of s5)) (XZ.same s5)
  have fl:=qK ts hot ts.length;generalize fnd ts hot ts.length=zs at q2 fl J;ac_rfl;refine ⟨Ot _,λpl H5 Z _=>⟨_,Z.same _ _ J,_,Z.at_,.inr rfl,?_⟩⟩;rw [KE];have G:=q2 H5 (n4.same.trans Z.same);rcases List.eq_nil_or_concat zs with rfl|⟨ab,z,ez⟩
  .exact G
  .rw [List.concat_eq_append] at ez;subst ez;rw [decide_eq_false (by simp)];rw [Rz] at G;rw [Oa] at J;exact ⟨_,.inl (Z.same _ _ J),_,sr _ _,G⟩
structure ClO(H:Hp)(el:Addr)(ln:Nat->Nat)(e1 e0:Option Nat)(i:Nat)(τ:L2.St)(ys:List V)(H':Hp):Prop where
 ex:∃t1 t2,τ=[t1,t2,some (V.ref el)]
 ys:ys=(clo ln e1 e0 i).map iv
 same:zj H H'
 le:i<=16
def rN(A:zh):Sp:=λvs H Q _=>∃(sh:Addr)(shc:List Addr)(rs:List (List OR)),vs=[.ref sh]/\au H sh shc rs/\kJ rs/\TB A H/\∀l H',zA H H'->TB A H'->Fr H l->l≠sysModules->H' l=some (.lst ((clo (lnO rs) (fC rs true) (fC rs false) rs.length).map iv))->Q (.ref l) H'
theorem xj:zt ["_law_shelf","_law_ends"] W6 (zi lA):=fsc
theorem Kh:aG { kind:=.function,names:=[(yv ".0",.local),(yv "_law_k",.local),(yv "_law_rows_here",.local),(yv "_law_ends",.free)],isGenerator:=false,isCoroutine:=false,more:=[] } (zi lA).names ["_law_shelf","_law_ends"] ["_law_k","_law_rows_here","_law_ends"] [none,none,some 1]=true:=by decide +kernel
theorem xm:(["_law_k","_law_rows_here","_law_ends"]:List Str).Nodup:=by decide +kernel
theorem Dv(F:Fun K VH VH lA f fd)(T:Txt w K mg A)(Y9:GF P w K mg base true 2 "_law_end" Wl (tM A)):zm P w K mg base CX0 true 3 f fd W6 (rN A):=by
 refine F.o xj λZ2 Ar outer s H vs Q E hr h=>?_;obtain ⟨sh,shc,rs,rfl,S,ok,tb,q⟩:=h;have hu:_<cLine:=N1 (zO hr);have hl:=ok.len;refine ⟨_,(W.h (ze (zy (i:=1) xj.nd rfl (Rm rfl) (ay (zb (caD (zq Y9 hr rfl (clP (zb (za 0) (zb bW zc))))) (zb (caD (zq Y9 hr rfl (clP (zb (za 0) (zb bW zc))))) zc))))
   (zg (zw (cA (λ_=>rfl) (zU.of Kh) (kN rfl T.F6 (zb (za 0) zc)) (λ_ _ _ _ _=>(gB (n:=2) (gsD (zS (zz (i:=0) xm rfl (NC rfl)) (gsD (zS (zz (i:=1) xm rfl (NC rfl)) bR)))))) (λ_ _ _ _ _=>(dU (cH (fo (tD (zG (clO (yB hu)) (clE (za 1)) (clE (ay zc)) (zC _))) (fG (tD (zG (clO (yo hu)) (clE (za 0)) (clE (za 2)) rfl))))))) (λ_ _ _ _ _=>(za 0))))))),?_⟩
 ac_rfl;refine ⟨sh,shc,rs,true,rfl,S,ok,tb,λH1 s1 XZ=>?_⟩;ac_rfl;refine ⟨sh,shc,rs,false,rfl,S.qb s1,ok,XZ,λH2 s2 Yh=>?_⟩;ac_rfl;refine ⟨by decide,λel H3 O _=>?_⟩;have s3:zA H H3:=(s1.trans s2).trans (.of O.same);have Xd:=Yh.same O.same;have U:=S.qb s3;generalize fC rs true=e1 at q O;generalize fC rs false=e0 at q O;refine ⟨⟨_,SqL.of U.w⟩,zT.enum (xs:=shc.map V.ref) (ClO H3 el (lnO rs) e1 e0) (λi τ ys H' I=>?_) (λi τ ys H' I=>SqL.of (I.same _ _ U.w)) ⟨⟨_,_,rfl⟩,rfl,zj.refl _,by lia⟩ ?_ ?_⟩
 .rw [I.ys,KE];exact aF (by have:=lK (lnO rs) e1 e0 i;have:=I.le;lia)
 .intro N i x p τ ys H' hx I hp hN;obtain ⟨t1,t2,rfl⟩:=I.ex;rw [NJ] at hx;obtain ⟨c,hc,rfl⟩:=NV.mp hx;have hi:i<rs.length:=by rw [<- S.len];exact (Nt.mp hc).1
  obtain ⟨vs,hv,pv⟩:=U.at_ i c hc;have lv:=zW pv;refine ⟨p,_,rfl,SqT.of zx,rfl,?_⟩;have nw:New H' p (.tup [.int i,.ref c]) (upd H' p (.tup [.int i,.ref c])):=.mk' hp;generalize upd H' p (.tup [.int i,.ref c])=H0 at nw ⊢;ac_rfl;refine ⟨Ot _,λpl H5 Z _=>⟨_,Z.same _ _ (nw.same _ _ (I.same _ _ hv)),_,Z.at_,.inr rfl,?_⟩⟩;have sm:=(I.same.trans nw.same).trans Z.same;have z:=Ah (τ:=[some (V.int i),some (V.ref c),some (V.ref el)]) (N:=N) (H:=H5) I.ys (λab e=>hN _ ab _ ⟨⟨_,_,rfl⟩,e,sm,by lia⟩) _ rfl;by_cases G:vs.length=0
  .have hz:lnO rs i=0:=by rw [lv] at G;exact G
   rw [show ([]:List V).length=0 from rfl,decide_eq_true G];rw [hz] at z;exact z
  .have hz:lnO rs i≠0:=by rw [lv] at G;exact G
   rw [show ([]:List V).length=0 from rfl,decide_eq_false G];refine ⟨_,.inl (sm _ _ O.at_),rfl,yL,?_⟩;rw [decide_eq_true hz] at z;rw [sN];cases hb:(decide (e1=some i)||decide (e0=some i)) with
   | true=>rw [hb] at z;ac_rfl;exact z
   | false=>rw [hb] at z;ac_rfl;exact z
 .intro τ ys H' I D2 H4 J ns;have Xr:=I.ys;rw [KE,S.len] at Xr;rw [Xr] at J;have s4:zA H H4:=s3.trans (.of (I.same.trans J.same));exact q D2 H4 s4 (Xd.same (I.same.trans J.same)) ((s3.trans (.of I.same)).fr J.no) ns J.at_
def aN:List OR->List Int
 | []=>[]
 | none::l=>aN l
 | some xs::l=>gQ xs::aN l
theorem sV(l m:List OR):aN (l++m)=aN l++aN m:=by
 induction l with
 | nil=>rfl
 | cons o l z=>cases o with
  | none=>exact z
  | some xs=>show gQ xs::aN (l++m)=_;rw [z];rfl
theorem AS(l:List OR):(aN l).length<=l.length:=by
 induction l with
 | nil=>exact Nq _
 | cons o l z=>cases o with
  | none=>exact N6 z (Sy _)
  | some xs=>exact Nat.succ_le_succ z
structure LK(H:Hp)(r:List OR)(i:Nat)(τ:L2.St)(ys:List V)(H':Hp):Prop where
 ex:∃t1,τ=[t1]
 ys:ys=(aN (r.take i)).map V.int
 same:H'=H
def ur:Sp:=λvs H Q _=>∃(sh:Addr)(shc:List Addr)(rs:List (List OR))(k:Nat),vs=[.ref sh,.int k]/\au H sh shc rs/\kJ rs/\k<rs.length /\
 ∀H',zj H H'->Q (oi (az (λi=>((-1)::aN (rs.getD k [])).getD i 0) ((aN (rs.getD k [])).length+1))) H'
theorem FE:zt WI WI (zi lI):=fsc
theorem IF:aG { kind:=.function,names:=[(yv ".0",.local),(yv "_law_row_here",.local)],isGenerator:=false,isCoroutine:=false,more:=[] } (zi lI).names WI Wb [none]=true:=by decide +kernel
theorem ES:(Wb:List Str).Nodup:=by decide +kernel
theorem Bd(F:Fun K "_law_last" "_law_last" lI f fd)(T:Txt w K mg A):zm P w K mg base CX0 true 1 f fd WI ur:=by
 refine F.o FE λZ2 Ar outer s H vs Q E hr h=>?_;obtain ⟨sh,shc,rs,k,rfl,S,ok,hk,q⟩:=h;have hu:_<cLine:=N1 (zO hr);refine ⟨_,(W.h (zg (zw (zL (je rfl) rfl T.TU boot_max (zb (zB aK (ay (zb (jK lB zl) zc)) (cA (λ_=>rfl) (zU.of IF) (liD (bK (clE (zF zJ (za 0) (za 1) (λ_ _=>rfl))))) (λ_ _ _ _ _=>(zz (i:=0) ES rfl (NC rfl))) (λ_ _ _ _ _=>(dU (tD (zG (clO iR) (clE (za 0)) (clE aJ) (zC _))))) (λ_ _ _ _ _=>(zF zJ (za 0) zl (λ_ _=>rfl))))) zc))))),?_⟩;have hw:=ok.wide k;have Xp:∀j xs,(rs.getD k [])[j]?=some (some xs)->∃y n ys,xs=V.str y::V.int n::ys:=λj xs e=>ok.keys (xs,k,j) (bX.mpr ⟨hk,(Nt.mp e).1,by show (rs.getD k []).getD j none=_;rw [Nr,e];rfl⟩);ac_rfl;refine ⟨by decide,λpl H1 J _=>?_⟩;have S1:=S.same J.same;obtain ⟨c,vs,hc,ha,hv,pv,lv⟩:=S1.cell hk;generalize rs.getD k []=r at q pv lv hw Xp;erw [S1.w,ha];refine ⟨⟨_,SqL.of hv⟩,zT.lst (xs:=vs) (LK H1 r) (λi τ ys H' I=>?_) (λi τ ys H' I=>by rw [I.same];exact SqL.of hv) ⟨⟨_,rfl⟩,rfl,rfl⟩ ?_ ?_⟩
 .rw [I.ys,KE];exact aF (by have:=AS (r.take i);have:=OS i r;lia)
 .intro N i x τ ys H' hx I hN;obtain ⟨t1,rfl⟩:=I.ex;have e:=I.same;subst e;have hi:i<r.length:=by rw [<- lv];exact (Nt.mp hx).1
  have z:r[i]?=some r[i]:=p8 hi;have hr:=aY pv hx z;have U:=Xp i;rw [z] at U;have O:aN (r.take (i+1))=aN (r.take i)++aN [r[i]]:=by rw [Oe,z,sV];rfl
  generalize r[i]=o at hr U O;cases o with
  | none =>
   cases (show x=V.non from hr);ac_rfl;exact hN _ _ _ ⟨⟨_,rfl⟩,by rw [I.ys,O];show _=(_++[]).map _;rw [O8],rfl⟩
  | some xs =>
   obtain ⟨rr,rfl,Z⟩:=hr;obtain ⟨y,n,zs,rfl⟩:=U xs rfl;have ix:atI (V.str y::V.int n::zs) 1=some (V.int n):=cu (j:=1) (by simp);erw [Z,ix];exact hN _ _ _ ⟨⟨_,rfl⟩,by rw [I.ys,O,Oa];rfl,rfl⟩
 .intro τ ys H' I D2 H4 G;have e:=I.same;subst e;have Xr:=I.ys;rw [lv,NW (Nq _)] at Xr;rw [Xr] at G;have kl:=AS r;rw [ib];refine ⟨_,_,G.same _ _ J.at_,G.at_,aM (by simp;lia),λp5 H5 n5=>?_⟩;rw [pZ];refine ⟨(-1)::aN r,by rw [n5.at_];rfl,by simp,?_⟩;exact q H5 ((J.same.trans G.same).trans n5.same)
theorem uo(d:DM):lnO (rdR d.rows)=lnD d:=by
 funext i;show ((rdR d.rows).getD i []).length=_;rw [bf,KE];rfl
theorem jO(d:DM)(hot:Bool):fC (rdR d.rows) hot=bo d hot:=by unfold fC bo;rw [cf]
theorem uO(l:List OR)(k:Nat):∀j,j<=l.length->(rO l k j).map zr=aN (l.take j)
 | 0,_=>by simp [rO,aN]
 | j+1,h=>by
  have z:j<l.length:=by lia
  show (rO l k j++one (l.getD j none) k j).map zr=_;rw [Oa,uO l k j (by lia),Oe,p8 z,sV,Nr,p8 z];show _++(one l[j] k j).map zr=_++aN [l[j]];cases l[j]<;>rfl
theorem yd(l:List Tx)(k:Nat):(rIn l k l.length).map zr=aN (l.map rdT):=by
 rw [il,uO _ _ _ (by rw [KE];exact Nq _),NW (by rw [KE];exact Nq _)]
theorem rZ{k:Nat}:∀n∈aN ((rdR d.rows).getD k []),∃t∈nU d,zr t=n:=λn hn=>by
 by_cases F:k<d.rows.length
 .rw [bf,<- yd] at hn;obtain ⟨t,z,rfl⟩:=PF.mp hn;refine ⟨t,?_,rfl⟩;rw [cf];rw [il] at z;obtain ⟨i,h1,h2,h3⟩:=hV.mp z;rw [bX,h3];refine ⟨by rw [bb];exact F,?_,?_⟩
  .show i<((rdR d.rows).getD k []).length;rw [bf,KE];exact h1
  .show ((rdR d.rows).getD k []).getD i none=_;rw [bf];exact h2
 .rw [bf,Nr,Pf (by lia)] at hn;cases hn
theorem xg(ks:List Int)(h:∀n∈ks,0<=n):∀j,j<=ks.length->az (λi=>((-1)::ks).getD i 0) (j+1)=some (match az (λi=>ks.getD i 0) j with|none=>-1|some m=>m)/\∀m,az (λi=>ks.getD i 0) j=some m->m∈ks
 | 0,_=>⟨rfl,λm h=>by cases h⟩
 | j+1,U=>by
  obtain ⟨e,hm⟩:=xg ks h j (by lia);have F:ks.getD j 0∈ks:=eV (by lia);have J:((-1)::ks).getD (j+1) 0=ks.getD j 0:=rfl;have G:az (λi=>((-1)::ks).getD i 0) (j+1+1)=some (match az (λi=>((-1)::ks).getD i 0) (j+1) with|none=>((-1)::ks).getD (j+1) 0|some m=>if ((-1)::ks).getD (j+1) 0>m then ((-1)::ks).getD (j+1) 0 else m):=rfl;have O:az (λi=>ks.getD i 0) (j+1)=some (match az (λi=>ks.getD i 0) j with|none=>ks.getD j 0|some m=>if ks.getD j 0>m then ks.getD j 0 else m):=rfl;rw [G,e,O,J];cases hb:az (λi=>ks.getD i 0) j with
  | none =>
   have:=h _ F;exact ⟨by show some (if ks.getD j 0 > -1 then _ else _)=_;rw [if_pos (by lia)],λm hm=>by cases hm;exact F⟩
  | some m =>
   refine ⟨rfl,λS z=>?_⟩;simp only [Ob.injEq] at z;rw [<- z];split
   .exact F
   .exact hm m hb
abbrev qY:Stmt:=top 47
abbrev mM:Stmt:=top 46
abbrev mf:Stmt:=top 45
def wG:Sp:=λvs H Q _=>∃a b:Nat,vs=[.int a,.int b]/\Q (.int (gcd a b)) H
structure GcI(H0:Hp)(g:Nat)(m:Nat)(σ:L2.St)(H':Hp):Prop where
 ex:∃x:Nat,σ=[some (V.int x),some (.int m)]/\gcd x m=g
 same:H'=H0
theorem xr:zt Wg Wg (zi qY):=fsc
theorem J5(F:Fun K VE VE qY f fd)(T:Txt w K mg A):zm P w K mg base CX0 true 1 f fd Wg wG:=by
 refine F.o xr λO J outer s H vs Q E hr h=>?_;obtain ⟨a,b,rfl,q⟩:=h;have G:_<cLine:=N1 (zO hr);refine ⟨_,(W.h (ze (Gw OW.never (tD (zG (clO (oE (eS G))) (clE (za 1)) (clE zl) (zC _)))
   (zg (Il (i:=0) (j:=1) rfl xr.nd rfl rfl (by decide) rfl rfl (zb (za 1) (zb (zB (oI gL) (za 0) (za 1)) zc)) rfl)))
   (zg (zw (za 0))))),?_⟩
 ac_rfl;unfold vk;refine ⟨GcI H (gcd a b),⟨b,⟨a,rfl,rfl⟩,rfl⟩,?_⟩;rintro m σ H' ⟨⟨x,rfl,hg⟩,rfl⟩;ac_rfl;by_cases hm:m=0
 .subst hm;rw [Nat.gcd_zero_right] at hg;subst hg;exact q
 .rw [decide_eq_false (show ¬ ((m:Nat):Int)=0 by lia)];refine ⟨GcI H' (gcd a b) (x % m),λz H' h=>⟨_,Nat.mod_lt _ (by lia),h⟩,?_⟩;exact ⟨by lia,⟨m,rfl,by rw [<- hg,Nat.gcd_comm m,<- Nat.gcd_rec,Nat.gcd_comm]⟩,rfl⟩
def bC(d:DM)(k:Nat):Option Int:=az (λi=>((rIn (d.rows.getD k []) k (d.rows.getD k []).length).map zr).getD i 0) (rIn (d.rows.getD k []) k (d.rows.getD k []).length).length
def eE(n:Int)(o:Option Int):Int:=match o with|none=>n|some l=>n-l
def xn(A:zh):Sp:=λvs H Q _=>∃(p wl sl x:Addr)(cells:List Addr)(m:Int)(d:DM)(k:Nat)(ts:List T3)(n:Int),vs=[.ref p,.ref x,.int k]/\zD A H p wl sl cells m d/\cL d/\k<d.rows.length/\bV A H x ts n/\∀H',zj H H'->Q (.int (eE n (bC d k))) H'
theorem vF:zt ["disk","state","stretch","last"] Xh (zi mM):=fsc
theorem JI(F:Fun K "age_of" "age_of" mM f fd)(T:Txt w K mg A)(Z:GF P w K mg base true 9 Vx Xv (yH A))(O:GM P w K mg base true 1 A.State VI Zn (pT A)):zm P w K mg base CX0 true 10 f fd Xh (xn A):=by
 refine F.o vF λZ2 Ar outer s H vs Q E hr h=>?_;obtain ⟨p,wl,sl,x,cells,m,d,k,ts,n,rfl,D,tx,U,S,q⟩:=h;refine ⟨_,(W.h (ze (zy (i:=3) vF.nd rfl (NC rfl) (caD (zq Z hr rfl (clP (zb (za 0) (zb (za 2) zc))))))
   (zg (zw (jT (tD (zG (clO iD) (clE (za 3)) (clE aJ) (zC _))) (m0D (bh (clE (za 1)) T.vr O hr)) (zB (oI0 fI) (m0D (bh (clE (za 1)) T.vr O hr)) (za 3))))))),?_⟩
 ac_rfl;refine ⟨p,wl,sl,cells,m,d,k,rfl,D,tx,U,λH1 s1=>?_⟩;have G:=S.qb (.of s1);obtain ⟨dx,f1,dd,mm,kvs,J,_⟩:=id G.ex;have z:=q H1 s1;unfold bC at z;generalize az (λi=>((rIn (d.rows.getD k []) k (d.rows.getD k []).length).map zr).getD i 0) (rIn (d.rows.getD k []) k (d.rows.getD k []).length).length=o at z ⊢;cases o with
 | none =>
  erw [oi,J,qM];exact ⟨x,ts,n,rfl,G,z⟩
 | some l =>
  erw [oi,J,qM];refine ⟨x,ts,n,rfl,G,?_⟩;ac_rfl;exact z
def al(ts:List T3)(k:Nat):Nat:=(pk ts k).length
theorem pX{k:Nat}(h:jE ts k ns):ns.length=al ts k:=by
 obtain ⟨ps,pm,_,rfl⟩:=h;rw [KE];exact pm.length_eq
def uH(A:zh):Sp:=λvs H Q _=>∃(p wl sl x:Addr)(cells:List Addr)(m:Int)(d:DM)(k:Nat)(ts:List T3)(n:Int),vs=[.ref p,.ref x,.int k]/\zD A H p wl sl cells m d/\cL d/\k<d.rows.length/\bV A H x ts n/\(al ts k:Int)<=m/\2<=m/\m<=32/\0<=eE n (bC d k) /\
 ∀tp (u l:Nat) H',zj H H'->(u:Int)=(m-al ts k)*eE n (bC d k)->(l:Int)=m+al ts k->H' tp=some (.tup [.int (u / gcd u l:Nat),.int (l / gcd u l:Nat)])->Q (.ref tp) H'
theorem iY:zt ["disk","state","stretch","many","upper","lower","divisor"] Xh (zi mf):=fsc
theorem FF(F:Fun K "worth" "worth" mf f fd)(T:Txt w K mg A)(ZP:GF P w K mg base true 2 VA Wk (oA A))(J:GM P w K mg base true 1 A.tj "places" Zn (dA A λm _=>.int m))(Yg:GF P w K mg base true 10 "age_of" Xh (xn A))(ZC:GF P w K mg base true 1 VE Wg wG):zm P w K mg base CX0 true 11 f fd Xh (uH A):=by
 refine F.o iY λZ2 Ar outer s H vs Q E hr h=>?_;obtain ⟨p,wl,sl,x,cells,m,d,k,ts,n,rfl,D,tx,hk,O,h1,h2,h3,h4,q⟩:=h;refine ⟨_,(W.h (ze (zy (i:=3) iY.nd rfl (NC rfl) (zL bj rfl T.wh N8 (zb (caD (zq ZP hr rfl (clP (zb (za 1) (zb (za 2) zc))))) zc)))
   (ze (zy (i:=4) iY.nd rfl (NC rfl) (zB cV (zB (oI0 fI) (m0D (bh (clE (za 0)) T.pw J hr)) (za 3)) (caD (zq Yg hr rfl (clP (zb (za 0) (zb (za 1) (zb (za 2) zc))))))))
   (ze (zy (i:=5) iY.nd rfl (NC rfl) (zB aK (m0D (bh (clE (za 0)) T.pw J hr)) (za 3)))
   (ze (zy (i:=6) iY.nd rfl (NC rfl) (caD (zq ZC hr rfl (clP (zb (za 4) (zb (za 5) zc))))))
   (zg (zw (aO (zb (zB (oI qh) (za 4) (za 6)) (zb (zB (oI qh) (za 5) (za 6)) zc)))))))))),?_⟩
 ac_rfl;refine ⟨x,ts,k,n,rfl,O,λl ns H1 s1 l0 _ hl G=>?_⟩;have z:=D.qb (.of s1);obtain ⟨dx,g1⟩:=z.ob;erw [hl,g1,jQ];rw [KE,pX G];generalize eo:eE n (bC d k)=ag at h4 q;have u0:0<=(m-al ts k)*ag:=Int.mul_nonneg (by lia) h4;obtain ⟨u,Z⟩:∃u:Nat,(u:Int)=(m-al ts k)*ag:=⟨((m-al ts k)*ag).toNat,Int.toNat_of_nonneg u0⟩;obtain ⟨v,ev⟩:∃v:Nat,(v:Int)=m+al ts k:=⟨(m+al ts k).toNat,by lia⟩;have gp:0<gcd u v:=Nat.gcd_pos_of_pos_right _ (by lia);have gl:gcd u v<=v:=Nat.gcd_le_right _ (by lia);refine ⟨p,wl,sl,cells,m,d,rfl,z,p,wl,sl,x,cells,m,d,k,ts,n,rfl,z,tx,hk,O.qb (.of s1),λH2 s2=>?_⟩;have S:=z.qb (.of s2);obtain ⟨Xt,g2⟩:=S.ob;rw [eo];erw [g2,jQ];refine ⟨.inl ⟨by lia,by lia⟩,p,wl,sl,cells,m,d,rfl,S,?_⟩;ac_rfl;rw [<- Z,<- ev];refine ⟨u,v,rfl,⟨⟨by lia,by lia⟩,⟨by lia,by lia⟩,by decide,λtp H3 U=>q tp u v H3 ((s1.trans s2).trans U.same) Z ev ?_⟩⟩;rw [U.at_];rfl
abbrev jG:Stmt:=top 78
theorem sD{a b c:V}:atI [a,b,c] 1=some b:=rfl
theorem vE(ok:DOk d){k:Nat}:az (λi=>((-1)::aN ((rdR d.rows).getD k [])).getD i 0) ((aN ((rdR d.rows).getD k [])).length+1)=some (match bC d k with|none=>-1|some m=>m)/\∀m,bC d k=some m->∃t∈nU d,zr t=m:=by
 have z:(rIn (d.rows.getD k []) k (d.rows.getD k []).length).map zr=aN ((rdR d.rows).getD k []):=by rw [yd,bf]
 have J:(rIn (d.rows.getD k []) k (d.rows.getD k []).length).length=(aN ((rdR d.rows).getD k [])).length:=by rw [<- z,KE]
 obtain ⟨G,hm⟩:=xg (aN ((rdR d.rows).getD k [])) (λn hn=>by obtain ⟨t,F,e⟩:=rZ n hn;have:=ok.pos t F;lia) _ (Nq _);unfold bC;rw [z,J];exact ⟨G,λm h=>rZ m (hm m h)⟩
structure LwI(H:Hp)(k:Int)(ts:List T3)(i:Nat)(τ:L2.St)(ys:List V)(H':Hp):Prop where
 ex:∃t1,τ=[t1,some (.int k)]
 ys:ys.length=(pk (ts.take i) k).length
 same:H'=H
def uN:Sp:=λvs H Q _=>∃(sh l:Addr)(shc as:List Addr)(d:DM)(ts:List T3)(m n:Int)(k:Nat),vs=[.ref sh,.int m,.ref l,.int n,.int k]/\au H sh shc (rdR d.rows)/\DOk d/\k<d.rows.length/\H l=some (.lst (as.map V.ref))/\Paired (dI H) as ts/\ts.length<40/\2<=m/\m<=32 /\
 ∀tp H',zj H H'->H' tp=some (.tup [.int ((m-al ts k)*eE n (bC d k)),.int (m+al ts k)])->Q (.ref tp) H'
theorem AU:zt WC X5 (zi jG):=fsc
theorem Iq:aG { kind:=.function,names:=[(yv ".0",.local),(yv "_law_one",.local),(yv "_law_stretch",.free)],isGenerator:=false,isCoroutine:=false,more:=[] } (zi jG).names WC Wz [none,some 4]=true:=by decide +kernel
theorem Jo:(Wz:List Str).Nodup:=by decide +kernel
theorem MS(F:Fun K "_law_worth" "_law_worth" jG f fd)(T:Txt w K mg A)(YT:GF P w K mg base true 1 "_law_last" WI ur):zm P w K mg base CX0 true 2 f fd X5 uN:=by
 refine F.o AU λZ2 Ar outer s H vs Q E hr h=>?_;obtain ⟨sh,l,shc,as,d,ts,m,n,k,rfl,S,ok,z,hl,hp,ag,m2,m32,q⟩:=h;have hu:_<cLine:=N1 (zO hr);refine ⟨_,(W.h (ze (zy (i:=5) AU.nd rfl (NC rfl) (zL bj rfl T.wh N8 (zb (cA (λ_=>rfl) (zU.of Iq) (liD (bK (clE (za 2)))) (λ_ _ _ _ _=>(zz (i:=0) Jo rfl (NC rfl))) (λ_ _ _ _ _=>(dU (tD (zG (clO (oE (aV hu))) (clE (zF zJ (za 0) zl (λ_ _=>rfl))) (clE (za 1)) (zC _))))) (λ_ _ _ _ _=>(za 0))) zc)))
   (zg (zw (aO (zb (zB cV (zB (oI0 fI) (za 1) (za 5)) (zB (oI0 fI) (za 3) (zL (je rfl) rfl T.TU boot_max (zb zl (zb (caD (zq YT hr rfl (clP (zb (za 0) (zb (za 4) zc))))) zc))))) (zb (zB aK (za 1) (za 5)) zc))))))),?_⟩
 have Z7:=zW hp;ac_rfl;refine ⟨⟨_,SqL.of hl⟩,zT.lst (xs:=as.map V.ref) (LwI H k ts) (λi τ ys H' I=>?_) (λi τ ys H' I=>by rw [I.same];exact SqL.of hl) ⟨⟨_,rfl⟩,rfl,rfl⟩ ?_ ?_⟩
 .have h2:=OS i ts;have:=h8 (ts.take i) k;rw [I.ys];exact aF (by lia)
 .intro N i v τ ys H' hv I hN;obtain ⟨t1,rfl⟩:=I.ex;have Z:=I.same;subst Z;rw [NJ] at hv;obtain ⟨a,ha,rfl⟩:=NV.mp hv;have hi:i<ts.length:=by rw [<- Z7];exact (Nt.mp ha).1
  have Y4:ts[i]?=some ts[i]:=p8 hi;have J:H' a=_:=aY hp ha Y4;have sn:=mi (ts.take i) k ts[i];have tk:ts.take (i+1)=ts.take i++[ts[i]]:=by rw [Oe,Y4];rfl
  generalize ts[i]=t at J sn tk;erw [J,sD];by_cases z:t.2.1=(k:Int)
  .rw [decide_eq_true z];ac_rfl;exact hN _ _ _ ⟨⟨_,rfl⟩,by rw [tk,sn,if_pos z,NY,NY,I.ys];rfl,rfl⟩
  .rw [decide_eq_false z];ac_rfl;exact hN _ _ _ ⟨⟨_,rfl⟩,by rw [tk,sn,if_neg z];exact I.ys,rfl⟩
 .intro τ ys H2 I D H3 n3;have Z:=I.same;subst Z;have O:=I.ys;rw [KE,Z7,NW (Nq _)] at O;have O:ys.length=al ts k:=O;have hD:=n3.at_;erw [hD];refine ⟨sh,shc,_,k,rfl,S.same n3.same,ok.sh,by rw [bb];exact z,λH4 s4=>?_⟩;rw [(vE ok).1,O];have ZQ:∀m,bC d k=some m->1<=m:=λm e=>by obtain ⟨t,J,et⟩:=(vE ok).2 m e;have:=ok.pos t J;lia
  have U:=λtp H' s=>q tp H' ((n3.same.trans s4).trans s);clear q;have ab:al ts k<=40:=by have:=h8 ts k;unfold al;lia
  cases e:bC d k with
  | none =>
   rw [e] at U;erw [oi];rw [if_neg (by decide),Int.sub_zero];exact ⟨.inl ⟨by lia,by lia⟩,by decide,λtp H5 G=>U tp H5 G.same G.at_⟩
  | some l =>
   rw [e] at U;have:=ZQ l e;erw [oi];rw [if_pos (by lia)];exact ⟨.inl ⟨by lia,by lia⟩,by decide,λtp H5 G=>U tp H5 G.same G.at_⟩
abbrev pe:Stmt:=top 49
abbrev qX:Stmt:=top 48
def Uw(d:DM)(ts:List T3)(n m:Int)(k:Nat):Int:=(m-al ts k)*eE n (bC d k)
def Lw(ts:List T3)(m:Int)(k:Nat):Int:=m+al ts k
def bet(d:DM)(ts:List T3)(n m:Int)(lst:Bool)(j i:Nat):Bool:=if lst=true then decide ((al ts j:Int)<al ts i) else decide (Uw d ts n m j*Lw ts m i>Uw d ts n m i*Lw ts m j)
def Wr(u l a b:Int):Prop:=∃g,0<g/\u=a*g/\l=b*g
theorem Wr.of{u l:Nat}(h:0<l):Wr u l (u / gcd u l:Nat) (l / gcd u l:Nat):=by
 refine ⟨(gcd u l:Nat),by have:=Nat.gcd_pos_of_pos_right u h;lia,?_,?_⟩
 .have:=Nat.div_mul_cancel (Nat.gcd_dvd_left u l);exact_mod_cast this.symm
 .have:=Nat.div_mul_cancel (Nat.gcd_dvd_right u l);exact_mod_cast this.symm
theorem Wr.bf(h:Wr u l a b)(h':Wr J l' a' z):decide (a*z>a'*b)=decide (u*l'>J*l):=by
 obtain ⟨g,U,rfl,rfl⟩:=h;obtain ⟨g',F,rfl,rfl⟩:=h';have O:a*g*(z*g')=a*z*(g*g'):=by rw [Sb,Sb,Int.mul_left_comm g]
 have S:a'*g'*(b*g)=a'*b*(g*g'):=by rw [Sb,Sb,Int.mul_left_comm g',Int.mul_comm g' g]
 rw [O,S];have G:=Int.mul_pos U F;rw [decide_eq_decide];exact ⟨λh=>Int.mul_lt_mul_of_pos_right h G,λh=>Int.lt_of_mul_lt_mul_right h (Int.le_of_lt G)⟩
theorem GE{k:Nat}(J:k<d.rows.length)(h:bC d k=some m):∃t∈nU d,zr t=m:=by
 unfold bC at h;have F:∀t∈rIn (d.rows.getD k []) k (d.rows.getD k []).length,t∈nU d:=λt z=>by
  rw [cf];rw [il] at z;obtain ⟨i,h1,h2,h3⟩:=hV.mp z;rw [bX,h3];refine ⟨by rw [bb];exact J,?_,?_⟩
  .show i<((rdR d.rows).getD k []).length;rw [bf,KE];exact h1
  .show ((rdR d.rows).getD k []).getD i none=_;rw [bf];exact h2
 generalize rIn (d.rows.getD k []) k (d.rows.getD k []).length=L at h F;by_cases G:L.length=0
 .rw [G] at h;cases h
 .obtain ⟨i,hi,e,_⟩:=oZ (λi=>(L.map zr).getD i 0) L.length (by lia);rw [e] at h;have h:=Ob.inj h;rw [Nr,NJ,p8 hi] at h;exact ⟨L[i],F _ (Oj hi),h⟩
theorem wx{k:Nat}(F:k<d.rows.length)(hn:∀t∈nU d,zr t<n)(n0:0<n):0<=eE n (bC d k):=by
 cases e:bC d k with
 | none=>show 0<=n;lia
 | some l =>
  obtain ⟨t,z,G⟩:=GE F e;have:=hn t z;show 0<=n-l;lia
structure Ask(A:zh)(H:Hp)(p x:Addr)(m:Int)(d:DM)(ts:List T3)(n:Int):Prop where
 vx:∃wl sl cells,zD A H p wl sl cells m d
 st:bV A H x ts n
 ok:DOk d
 al:∀k,(al ts k:Int)<=m
 m2:2<=m
 m32:m<=32
 hn:∀t∈nU d,zr t<n
 n0:0<n
theorem Ask.qb{p x:Addr}(h:Ask A H p x m d ts n)(s:zA H H'):Ask A H' p x m d ts n:=by
 obtain ⟨wl,sl,cells,D⟩:=h.vx;exact ⟨⟨wl,sl,cells,D.qb s⟩,h.st.qb s,h.ok,h.al,h.m2,h.m32,h.hn,h.n0⟩
def Aa(A:zh):Sp:=λvs H Q _=>∃(p x:Addr)(m:Int)(d:DM)(ts:List T3)(n:Int)(kd:Str)(j i:Nat),vs=[.ref p,.ref x,.str kd,.int j,.int i]/\Ask A H p x m d ts n/\j<d.rows.length/\i<d.rows.length/\∀H',zj H H'->Q (.bl (bet d ts n m (decide (kd="least")) j i)) H'
theorem ip:zt ["disk","state","kind","stretch","other","upper","lower","other_upper","other_lower"] WA (zi pe):=fsc
theorem KY(F:Fun K "is_better" "is_better" pe f fd)(T:Txt w K mg A)(ZP:GF P w K mg base true 2 VA Wk (oA A))(Yu:GF P w K mg base true 11 "worth" Xh (uH A)):zm P w K mg base CX0 true 12 f fd WA (Aa A):=by
 refine F.o ip λZ2 Ar outer s H vs Q E hr h=>?_;obtain ⟨p,x,m,d,ts,n,kd,j,i,rfl,a,hj,hi,q⟩:=h;have hu:_<cLine:=N1 (zO hr);refine ⟨_,(W.h (ze (zQ (tD (zG (clO (oE (aV hu))) (clE (za 2)) (clE zH) (zC _)))
   (zg (zw (cy (oI0 gZ) (zL bj rfl T.wh N8 (zb (caD (zq ZP hr rfl (clP (zb (za 1) (zb (za 3) zc))))) zc)) (zL bj rfl T.wh N8 (zb (caD (zq ZP hr rfl (clP (zb (za 1) (zb (za 4) zc))))) zc)) (zC _))))
   zV)
   (ze (cJ (caD (zq Yu hr rfl (clP (zb (za 0) (zb (za 1) (zb (za 3) zc)))))) (dW (n:=2) (gsD (zS (zz (i:=5) ip.nd rfl (NC rfl)) (gsD (zS (zz (i:=6) ip.nd rfl (NC rfl)) bR))))))
   (ze (cJ (caD (zq Yu hr rfl (clP (zb (za 0) (zb (za 1) (zb (za 4) zc)))))) (dW (n:=2) (gsD (zS (zz (i:=7) ip.nd rfl (NC rfl)) (gsD (zS (zz (i:=8) ip.nd rfl (NC rfl)) bR))))))
   (zg (zw (cy (oI0 h9) (zB cV (za 5) (za 8)) (zB cV (za 7) (za 6)) (zC _)))))))),?_⟩
 obtain ⟨wl,sl,cells,D⟩:=a.vx;ac_rfl;by_cases hk:kd=("least":Str)
 .rw [decide_eq_true hk] at q ⊢;ac_rfl;refine ⟨x,ts,j,n,rfl,a.st,λl ns H1 s1 l0 _ hl h1=>?_⟩;erw [hl];refine ⟨x,ts,i,n,rfl,a.st.qb (.of s1),λl' ns' H2 s2 _ _ Z h2=>?_⟩;erw [Z];rw [KE,KE,pX h1,pX h2];exact q H2 (s1.trans s2)
 .rw [decide_eq_false hk] at q ⊢;ac_rfl;refine ⟨p,wl,sl,x,cells,m,d,j,ts,n,rfl,D,a.ok.tx,hj,a.st,a.al j,a.m2,a.m32,wx hj a.hn a.n0,λtp u l H1 s1 eu el U=>?_⟩;have m2:=a.m2;have m32:=a.m32;have aj:=a.al j;have ai:=a.al i;have w1:Wr (Uw d ts n m j) (Lw ts m j) (u / gcd u l:Nat) (l / gcd u l:Nat):=by rw [show Uw d ts n m j=u from eu.symm,show Lw ts m j=l from el.symm];exact Wr.of (by lia)
  have b1:l / gcd u l<=l:=Nat.div_le_self ..;refine ⟨tp,_,rfl,SqT.of U,rfl,?_⟩;ac_rfl;refine ⟨p,wl,sl,x,cells,m,d,i,ts,n,rfl,D.qb (.of s1),a.ok.tx,hi,a.st.qb (.of s1),a.al i,a.m2,a.m32,wx hi a.hn a.n0,λJ G l' H2 s2 O S z=>?_⟩;have w2:Wr (Uw d ts n m i) (Lw ts m i) (G / gcd G l':Nat) (l' / gcd G l':Nat):=by rw [show Uw d ts n m i=G from O.symm,show Lw ts m i=l' from S.symm];exact Wr.of (by lia)
  have b2:l' / gcd G l'<=l':=Nat.div_le_self ..;refine ⟨J,_,rfl,SqT.of z,rfl,?_⟩;ac_rfl;refine ⟨.inr ⟨by lia,by lia⟩,.inr ⟨by lia,by lia⟩,?_⟩;have q2:=q H2 (s1.trans s2);have e:bet d ts n m false j i=decide (Uw d ts n m j*Lw ts m i>Uw d ts n m i*Lw ts m j):=rfl;rw [e,<- w1.bf w2] at q2;exact q2
def stp(bt:Nat->Nat->Bool)(f:Option Nat)(s:Nat):Option Nat:=match f with|none=>some s|some g=>if bt s g=true then some s else some g
def bst(bt:Nat->Nat->Bool)(l:List Nat):Option Nat:=l.foldl (stp bt) none
noncomputable def cl(d:DM):List Nat:=clo (lnD d) (bo d true) (bo d false) d.rows.length
theorem mG{k:Nat}(h:k∈cl d):k<d.rows.length:=(qC.mp h).1
theorem kg:∀{l:List Nat}{f:Option Nat}{k:Nat},l.foldl (stp bt) f=some k->k∈l\/f=some k
 | [],f,k,h=>.inr h
 | s::l,f,k,h=>by
  rcases kg (l:=l) h with h|h
  .exact .inl (ND _ h)
  .cases f with
   | none=>cases h;exact .inl (NX ..)
   | some g =>
    unfold stp at h;dsimp only at h;split at h
    .cases h;exact .inl (NX ..)
    .exact .inr h
structure BsI(H:Hp)(p x:Addr)(kd:Str)(bt:Nat->Nat->Bool)(C:List Nat)(i:Nat)(σ:L2.St)(H':Hp):Prop where
 ex:∃t,σ=[some (V.ref p),some (.ref x),some (.str kd),some (ov (bst bt (C.take i))),t]
 same:zj H H'
def Au(A:zh):Sp:=λvs H Q _=>∃(p x:Addr)(m:Int)(d:DM)(ts:List T3)(n:Int)(kd:Str),vs=[.ref p,.ref x,.str kd]/\Ask A H p x m d ts n/\TB A H/\∀H',zA H H'->TB A H'->Q (ov (bst (bet d ts n m (decide (kd="least"))) (cl d))) H'
theorem kX:zt ["disk","state","kind","found","stretch"] V7 (zi qX):=fsc
theorem GP(F:Fun K "best" "best" qX f fd)(T:Txt w K mg A)(Yf:GF P w K mg base true 11 "closed" V8 (uu A))(YS:GF P w K mg base true 12 "is_better" WA (Aa A)):zm P w K mg base CX0 true 13 f fd V7 (Au A):=by
 refine F.o kX λZ2 Ar outer s H vs Q E hr h=>?_;obtain ⟨p,x,m,d,ts,n,kd,rfl,a,tb,q⟩:=h;refine ⟨_,(W.h (ze (zy (i:=3) kX.nd rfl (NC rfl) aJ)
   (ze (bN OW.never (λ_=>rfl) (liD (bK (clE (caD (zq Yf hr rfl (clP (zb (za 0) zc))))))) (zz (i:=4) kX.nd rfl (NC rfl))
   (zg (zQ (cH (i6 (tD (zG (clO iD) (clE (za 3)) (clE aJ) (zC _))) (i4 (bG (caD (zq YS hr rfl (clP (zb (za 0) (zb (za 1) (zb (za 2) (zb (za 4) (zb (za 3) zc))))))))))))
   (zg (zy (i:=3) kX.nd rfl (NC rfl) (za 4)))
   zV)))
   (zg (zw (za 3)))))),?_⟩
 obtain ⟨wl,sl,cells,D⟩:=a.vx;have few:=a.ok.few;ac_rfl;refine ⟨p,wl,sl,cells,m,d,rfl,D,a.ok.tx,a.ok.nd,by lia,tb,λl H1 s1 Z f1 _ hl=>?_⟩;have G:∀k∈cl d,k<d.rows.length:=λk h=>mG h;change H1 l=some (.lst ((cl d).map iv)) at hl;generalize J:bet d ts n m (decide (kd=("least":Str)))=bt at q;generalize cl d=C at hl G q;ac_rfl;refine ⟨⟨_,SqL.of hl⟩,aA.lst (xs:=C.map iv) (BsI H1 p x kd bt C) ⟨⟨_,rfl⟩,zj.refl _⟩ (λi σ H' _ I=>SqL.of (I.same _ _ hl)) ?_ ?_⟩
 .rintro i v σ H2 S ⟨⟨t,rfl⟩,s2⟩;rw [NJ] at S;obtain ⟨k,U,rfl⟩:=NV.mp S;have O:=NM U;have et:bst bt (C.take (i+1))=stp bt (bst bt (C.take i)) k:=by
   unfold bst;rw [Oe,U,SD];rfl
  have a2:=a.qb (s1.trans (.of s2));have hb:∀g,bst bt (C.take i)=some g->g<d.rows.length:=λg e=>by
   rcases kg e with h|h
   .exact G g (QS h)
   .cases h
  show dr 4 (.int k) _ _ _;have nx:∀(u:Option V) H3,zj H2 H3->∀o,o=stp bt (bst bt (C.take i)) k->BsI H1 p x kd bt C (i+1) [some (V.ref p),some (.ref x),some (.str kd),some (ov o),u] H3:=λu H3 z o e=>⟨⟨u,by rw [et,e]⟩,s2.trans z⟩;generalize bst bt (C.take i)=o at hb nx;cases o with
  | none =>
   erw [ov];exact nx _ H2 (zj.refl _) (some k) rfl
  | some g =>
   erw [ov];refine ⟨p,x,m,d,ts,n,kd,k,g,rfl,a2,G k O,hb g rfl,λH3 z=>?_⟩;rw [J];ac_rfl;exact aq (λh=>nx _ H3 z (some k) (by unfold stp;dsimp only;rw [if_pos h])) λh=>nx _ H3 z (some g) (by unfold stp;dsimp only;rw [if_neg h])
 .rintro σ H2 ⟨⟨t,rfl⟩,s2⟩;ac_rfl;rw [KE,NW (Nq _)];exact q H2 (s1.trans (.of s2)) (Z.same s2)
abbrev qB:Stmt:=top 79
abbrev pN:Stmt:=top 80
abbrev kO:Stmt:=top 81
theorem r8:∀n,(clo G F z n).Pairwise (· < ·)
 | 0=>.nil
 | n+1=>by
  show (clo G F z n++_).Pairwise _;refine Ry.mpr ⟨r8 n,by split<;>simp,λa ha b hb=>?_⟩;have:=(qC.mp ha).1;split at hb
  .rw [NG] at hb;lia
  .cases hb
def vD:Sp:=λvs H Q _=>∃(t1 t2:Addr)(a b a' z:Int),vs=[.ref t1,.ref t2]/\H t1=some (.tup [.int a,.int b])/\H t2=some (.tup [.int a',.int z])/\0<b/\b<100/\0<z/\z<100/\Q (.bl (decide (a*z>a'*b))) H
theorem J1:zt Wx Wx (zi qB):=fsc
theorem Ec(F:Fun K "_law_more" "_law_more" qB f fd)(T:Txt w K mg A):zm P w K mg base CX0 true 1 f fd Wx vD:=by
 refine F.o J1 λZ2 U outer s H vs Q E hr h=>?_;obtain ⟨t1,t2,a,b,a',z,rfl,h1,h2,b0,Z,S,J,q⟩:=h;refine ⟨_,(W.h (zg (zw (cy (oI0 h9) (zB cV (zF zJ (za 0) zl (λ_ _=>rfl)) (zF zJ (za 1) zl (λ_ _=>rfl))) (zB cV (zF zJ (za 1) zl (λ_ _=>rfl)) (zF zJ (za 0) zl (λ_ _=>rfl))) (zC _))))),?_⟩;have i0:atI [V.int a,.int b] 0=some (.int a):=rfl;have i1:atI [V.int a,.int b] 1=some (.int b):=rfl;have O:atI [V.int a',.int z] 0=some (.int a'):=rfl;have G:atI [V.int a',.int z] 1=some (.int z):=rfl;erw [h1,h2,i0,i1,O,G];exact ⟨.inr ⟨by lia,by lia⟩,.inr ⟨by lia,by lia⟩,q⟩
structure BwI(H:Hp)(sh l:Addr)(m n:Int)(bt:Nat->Nat->Bool)(C:List Nat)(i:Nat)(σ:L2.St)(H':Hp):Prop where
 ex:∃t u,σ=[some (V.ref sh),some (.int m),some (.ref l),some (.int n),some (ov (bst bt (C.take i))),t,u]
 same:zj H H'
def ug(A:zh):Sp:=λvs H Q _=>∃(sh l:Addr)(shc as:List Addr)(d:DM)(ts:List T3)(m n:Int),vs=[.ref sh,.int m,.ref l,.int n]/\au H sh shc (rdR d.rows)/\DOk d/\H l=some (.lst (as.map V.ref))/\Paired (dI H) as ts/\ts.length<40/\2<=m/\m<=32/\TB A H /\
 ∀H',zA H H'->TB A H'->Q (ov (bst (bet d ts n m false) (cl d))) H'
theorem iN:zt ["_law_shelf","_law_places","_law_spots","_law_following","_law_found","_law_stretch","_law_own"] WZ (zi pN):=fsc
theorem KC(F:Fun K VN VN pN f fd)(T:Txt w K mg A)(ZS:GF P w K mg base true 3 VH W6 (rN A))(Zy:GF P w K mg base true 2 "_law_worth" X5 uN)(YR:GF P w K mg base true 1 "_law_more" Wx vD):zm P w K mg base CX0 true 4 f fd WZ (ug A):=by
 refine F.o iN λZ2 Ar outer s H vs Q E hr h=>?_;obtain ⟨sh,l,shc,as,d,ts,m,n,rfl,S,ok,hl,hp,ab,m2,m32,tb,q⟩:=h;refine ⟨_,(W.h (ze (zy (i:=4) iN.nd rfl (NC rfl) aJ)
   (ze (bN OW.never (λ_=>rfl) (liD (bK (clE (caD (zq ZS hr rfl (clP (zb (za 0) zc))))))) (zz (i:=5) iN.nd rfl (NC rfl))
   (ze (zy (i:=6) iN.nd rfl (NC rfl) (caD (zq Zy hr rfl (clP (zb (za 0) (zb (za 1) (zb (za 2) (zb (za 3) (zb (za 5) zc)))))))))
   (zg (zQ (cH (i6 (tD (zG (clO iD) (clE (za 4)) (clE aJ) (zC _))) (i4 (bG (caD (zq YR hr rfl (clP (zb (za 6) (zb (caD (zq Zy hr rfl (clP (zb (za 0) (zb (za 1) (zb (za 2) (zb (za 3) (zb (za 4) zc)))))))) zc)))))))))
   (zg (zy (i:=4) iN.nd rfl (NC rfl) (za 5)))
   zV))))
   (zg (zw (za 4)))))),?_⟩
 ac_rfl;refine ⟨sh,shc,_,rfl,S,ok.sh,tb,λlc H1 s1 XZ _ _ U=>?_⟩;rw [uo,jO,jO,bb] at U;have hC:∀k∈cl d,k<d.rows.length:=λk h=>mG h;change H1 lc=some (.lst ((cl d).map iv)) at U;generalize av:bet d ts n m false=bt at q;have Z:∀k,al ts k<=40:=λk=>by have:=h8 ts k;unfold al;lia
 generalize cl d=C at U hC q;ac_rfl;refine ⟨⟨_,SqL.of U⟩,aA.lst (xs:=C.map iv) (BwI H1 sh l m n bt C) ⟨⟨_,_,rfl⟩,zj.refl _⟩ (λi σ H' _ I=>SqL.of (I.same _ _ U)) ?_ ?_⟩
 .rintro i v σ H2 hv ⟨⟨t,u,rfl⟩,s2⟩;rw [NJ] at hv;obtain ⟨k,hk,rfl⟩:=NV.mp hv;have aj:=NM hk;have et:bst bt (C.take (i+1))=stp bt (bst bt (C.take i)) k:=by
   unfold bst;rw [Oe,hk,SD];rfl
  have hb:∀g,bst bt (C.take i)=some g->g<d.rows.length:=λg e=>by
   rcases kg e with h|h
   .exact hC g (QS h)
   .cases h
  show dr 5 (.int k) _ _ _;have nx:∀(u:Option V) H3,zj H2 H3->∀o,o=stp bt (bst bt (C.take i)) k->BwI H1 sh l m n bt C (i+1) [some (V.ref sh),some (.int m),some (.ref l),some (.int n),some (ov o),some (.int k),u] H3:=λu H3 J o e=>⟨⟨some (.int k),u,by rw [et,e]⟩,s2.trans J⟩;generalize bst bt (C.take i)=o at hb nx;have z:=s1.trans (.of s2);ac_rfl;refine ⟨sh,l,shc,as,d,ts,m,n,k,rfl,S.qb z,ok,hC k aj,z.list hl,Paired.yz hp λc t r=>z.tup r,ab,m2,m32,λtp H3 J aT=>?_⟩;have G:=z.trans (.of J);cases o with
  | none =>
   erw [ov];exact nx _ H3 J (some k) rfl
  | some g =>
   erw [ov];refine ⟨sh,l,shc,as,d,ts,m,n,g,rfl,S.qb G,ok,hb g rfl,G.list hl,Paired.yz hp λc t r=>G.tup r,ab,m2,m32,λai H4 s4 O=>?_⟩;ac_rfl;have ak:=Z k;have ag:=Z g;refine ⟨tp,ai,_,_,_,_,rfl,s4 _ _ aT,O,by lia,by lia,by lia,by lia,?_⟩;have e:decide ((m-al ts k)*eE n (bC d k)*(m+al ts g)>(m-al ts g)*eE n (bC d g)*(m+al ts k))=bt k g:=by rw [<- av];rfl
   rw [e];ac_rfl;exact aq (λh=>nx _ H4 (J.trans s4) (some k) (by unfold stp;dsimp only;rw [if_pos h])) λh=>nx _ H4 (J.trans s4) (some g) (by unfold stp;dsimp only;rw [if_neg h])
 .rintro σ H2 ⟨⟨t,u,rfl⟩,s2⟩;ac_rfl;rw [KE,NW (Nq _)];exact q H2 (s1.trans (.of s2)) (XZ.same s2)
def lpt(f:Nat->Nat)(C:List Nat)(a b:Nat):Bool:=HT.lexLt ((C.map λk=>[(f k:Int),(k:Int)]).getD a []) ((C.map λk=>[(f k:Int),(k:Int)]).getD b [])
def lbt(f:Nat->Nat)(a b:Nat):Bool:=decide ((f a:Int)<f b)
theorem uM(z:C.Pairwise (· < ·)):∀j,j<C.length->PH (lpt f C) j<=j/\C[PH (lpt f C) j]?=bst (lbt f) (C.take (j+1))
 | 0,h=>by
  cases C with
  | nil=>cases h
  | cons c C=>exact ⟨Nq _,rfl⟩
 | j+1,h=>by
  obtain ⟨h1,h2⟩:=uM (f:=f) z j (by lia);have e:bst (lbt f) (C.take (j+1+1))=stp (lbt f) (bst (lbt f) (C.take (j+1))) C[j+1]:=by
   unfold bst;rw [Oe (i:=j+1),p8 h,SD];rfl
  have ea:PH (lpt f C) (j+1)=if lpt f C (j+1) (PH (lpt f C) j)=true then j+1 else PH (lpt f C) j:=rfl;rw [e,<- h2,ea];generalize PH (lpt f C) j=r at h1 ⊢;have hr:r<C.length:=by lia
  have lt:C[r]<C[j+1]:=Pt.mp z r (j+1) hr h (by lia);have g:∀i (hi:i<C.length),(C.map λk=>[(f k:Int),(k:Int)]).getD i []=[(f C[i]:Int),(C[i]:Int)]:=λi hi=>by rw [Nr,NJ,p8 hi];rfl
  have F:lpt f C (j+1) r=lbt f C[j+1] C[r]:=by
   unfold lpt;rw [g r hr,g (j+1) h];show (if (f C[j+1]:Int)=f C[r] then (if (C[j+1]:Int)=C[r] then false else decide ((C[j+1]:Int)<C[r])) else decide ((f C[j+1]:Int)<f C[r]))=_;split
   .rename_i he;rw [if_neg (by lia),decide_eq_false (by lia)];exact (decide_eq_false (by lia)).symm
   .rfl
  rw [F,p8 hr];unfold stp;dsimp only;split
  .exact ⟨Nq _,p8 h⟩
  .exact ⟨by lia,p8 hr⟩
def DE(ts:List T3)(H:Hp)(a:Addr)(k:Nat):Prop:=H a=some (.tup [.int (al ts k:Nat),.int k])
structure BlI(H1:Hp)(l:Addr)(ts:List T3)(C:List Nat)(i:Nat)(τ:L2.St)(ys:List V)(H':Hp):Prop where
 ex:∃t,τ=[t,some (V.ref l)]
 ys:∃es,ys=es.map V.ref/\Paired (DE ts H') es (C.take i)
 same:zj H1 H'
def AZ(A:zh):Sp:=λvs H Q _=>∃(sh l:Addr)(shc as:List Addr)(d:DM)(ts:List T3)(m n:Int),vs=[.ref sh,.ref l]/\au H sh shc (rdR d.rows)/\DOk d/\H l=some (.lst (as.map V.ref))/\Paired (dI H) as ts/\ts.length<40/\TB A H /\
 ∀H',zA H H'->TB A H'->Q (ov (bst (bet d ts n m true) (cl d))) H'
theorem AQ:zt ["_law_shelf","_law_spots","_law_some"] Wi (zi kO):=fsc
theorem vA:aG { kind:=.function,names:=[(yv ".0",.local),(yv "_law_stretch",.cell),(yv "len",.globalImplicit),(yv "_law_spots",.free)],isGenerator:=false,isCoroutine:=false,more:=[] } (zi kO).names ["_law_shelf","_law_spots","_law_some"] Wn [none,some 1]=true:=by decide +kernel
theorem Kw:(Wn:List Str).Nodup:=by decide +kernel
theorem LD:aG { kind:=.function,names:=[(yv ".0",.local),(yv "_law_one",.local),(yv "_law_stretch",.free)],isGenerator:=false,isCoroutine:=false,more:=[] } (({ kind:=.function,names:=[(yv ".0",.local),(yv "_law_stretch",.cell),(yv "len",.globalImplicit),(yv "_law_spots",.free)],isGenerator:=false,isCoroutine:=false,more:=[] }:Scope).names.map λy=>(y.1,if y.2 == .free then On.cell else y.2)) Wn Wz [none,some 0]=true:=by decide +kernel
theorem IQ:(Wz:List Str).Nodup:=by decide +kernel
theorem HE(F:Fun K VM VM kO f fd)(T:Txt w K mg A)(ZS:GF P w K mg base true 3 VH W6 (rN A)):zm P w K mg base CX0 true 4 f fd Wi (AZ A):=by
 refine F.o AQ λZ2 Ar outer s H vs Q E hr h=>?_;obtain ⟨sh,l,shc,as,d,ts,m,n,rfl,S,ok,hl,hp,av,tb,q⟩:=h;have hu:_<cLine:=N1 (zO hr);refine ⟨_,(W.h (ze (gF (i0:=2) AQ.nd rfl (NC rfl) (λ_=>rfl) (zU.of vA) (liD (bK (clE (caD (zq ZS hr rfl (clP (zb (za 0) zc))))))) (λ_ _ _ _ _=>(zz (i:=0) Kw rfl (Rm rfl))) (λ_ _ _ _ _=>di) (λ_ _ _ _ _=>(aO (zb (zL bj rfl T.wh N8 (zb (cA (λ_=>rfl) (zU.of2 rfl (zU.of vA) LD) (FK (za 1)) (λ_ _ _ _ _=>(zz (i:=0) IQ rfl (NC rfl))) (λ_ _ _ _ _=>(dU (tD (zG (clO (oE (aV hu))) (clE (zF zJ (za 0) zl (λ_ _=>rfl))) (clE (za 1)) (zC _))))) (λ_ _ _ _ _=>(za 0))) zc)) (zb (za 0) zc)))))
   (ze (zQ (tD (zG (clO (pO hu)) (clE (za 2)) (clE (ay zc)) (zC _)))
   (zg (zw aJ))
   zV)
   (zg (zw (zF zJ (zL (FZ rfl (zO hr)) rfl T.Vk boot_min (zb (za 2) zc)) zl (λ_ _=>rfl))))))),?_⟩
 ac_rfl;refine ⟨sh,shc,_,rfl,S,ok.sh,tb,λlc H1 s1 XZ _ _ WK=>?_⟩;rw [uo,jO,jO,bb] at WK;have hC:(cl d).Pairwise (· < ·):=r8 _;have U:(cl d).length<=d.rows.length:=lK ..;have aj:=ok.sh.len;rw [bb] at aj;change H1 lc=some (.lst ((cl d).map iv)) at WK;have ak:bet d ts n m true=lbt (al ts):=rfl;rw [ak] at q;generalize cl d=C at WK hC U q;have Z7:=zW hp;ac_rfl;refine ⟨⟨_,SqL.of WK⟩,zT.lst (xs:=C.map iv) (BlI H1 l ts C) (λi τ ys H' I=>?_) (λi τ ys H' I=>SqL.of (I.same _ _ WK)) ⟨⟨_,rfl⟩,⟨[],rfl,.nil⟩,zj.refl _⟩ ?_ ?_⟩
 .obtain ⟨es,e,J⟩:=I.ys;have h1:=zW J;have h2:=OS i C;rw [e,KE];exact aF (by lia)
 .rintro N i v τ ys H2 hv ⟨⟨t,rfl⟩,⟨es,rfl,J⟩,s2⟩ hN;rw [NJ] at hv;obtain ⟨k,O,rfl⟩:=NV.mp hv;have ab:=s1.trans (.of s2);have Yp:=ab.list hl;have ai:Paired (dI H2) as ts:=Paired.yz hp λc t r=>ab.tup r;show dr 0 (.int k) _ _ _;ac_rfl;refine ⟨⟨_,SqL.of Yp⟩,zT.lst (xs:=as.map V.ref) (LwI H2 k ts) (λi τ ys H' I=>?_) (λi τ ys H' I=>by rw [I.same];exact SqL.of Yp) ⟨⟨_,rfl⟩,rfl,rfl⟩ ?_ ?_⟩
  .have h2:=OS i ts;have:=h8 (ts.take i) k;rw [I.ys];exact aF (by lia)
  .intro N i v τ ys H' hv I hN;obtain ⟨t1,rfl⟩:=I.ex;have e':=I.same;subst e';rw [NJ] at hv;obtain ⟨a,ha,rfl⟩:=NV.mp hv;have hi:i<ts.length:=by rw [<- Z7];exact (Nt.mp ha).1
   have Y4:ts[i]?=some ts[i]:=p8 hi;have Z:H' a=_:=aY ai ha Y4;have sn:=mi (ts.take i) k ts[i];have tk:ts.take (i+1)=ts.take i++[ts[i]]:=by rw [Oe,Y4];rfl
   generalize ts[i]=t at Z sn tk;erw [Z,sD];by_cases O:t.2.1=(k:Int)
   .rw [decide_eq_true O];ac_rfl;exact hN _ _ _ ⟨⟨_,rfl⟩,by rw [tk,sn,if_pos O,NY,NY,I.ys];rfl,rfl⟩
   .rw [decide_eq_false O];ac_rfl;exact hN _ _ _ ⟨⟨_,rfl⟩,by rw [tk,sn,if_neg O];exact I.ys,rfl⟩
  .intro τ ys H3 I D H4 n4;have e':=I.same;subst e';have hy:=I.ys;rw [KE,Z7,NW (Nq _)] at hy;have hy:ys.length=al ts k:=hy;have hD:=n4.at_;erw [hD];refine ⟨by decide,λtp H5 z=>hN _ _ _ ⟨⟨_,rfl⟩,⟨es++[tp],by rw [Oa];rfl,?_⟩,(s2.trans n4.same).trans z.same⟩⟩;rw [Oe,O];refine dc (Paired.yz J λc t r=>z.same _ _ (n4.same _ _ r)) (.cons ?_ .nil);show H5 tp=_;rw [z.at_,hy]
 .rintro τ ys H2 ⟨⟨t,rfl⟩,⟨es,rfl,J⟩,s2⟩ D H3 n3;rw [KE,NW (Nq _)] at J;have hD:=n3.at_;have le:=zW J;erw [hD];refine ⟨Ot _,λpl H5 z _=>⟨_,z.same _ _ hD,_,z.at_,.inr rfl,?_⟩⟩;rw [KE,le];have s5:=(s2.trans n3.same).trans z.same;have G:=q H5 (s1.trans (.of s5)) (XZ.same s5);by_cases h0:C.length=0
  .cases Pm.mp h0;exact G
  .rw [decide_eq_false (by simpa using h0)];ac_rfl;refine ⟨es,z.same _ _ hD,C.map λk=>[((al ts k:Nat):Int),(k:Int)],by rw [KE];exact le,by lia,λi a nn ha hn=>?_,λa ha=>?_⟩
   .rw [NJ] at hn;obtain ⟨k,O,rfl⟩:=NV.mp hn;exact z.same _ _ (n3.same _ _ (aY J ha O))
   .obtain ⟨_,h2⟩:=uM (f:=al ts) hC (C.length-1) (by lia);rw [NW (by lia)] at h2;have ei:j4 (C.map λk=>[((al ts k:Nat):Int),(k:Int)])=PH (lpt (al ts) C) (C.length-1):=by unfold j4;rw [KE];rfl
    rw [ei] at ha;have ZQ:PH (lpt (al ts) C) (C.length-1)<C.length:=Nat.lt_of_lt_of_eq (Nt.mp ha).1 le;rw [p8 ZQ] at h2;have Z:=aY J ha (p8 ZQ);rw [<- h2] at G;generalize C[PH (lpt (al ts) C) (C.length-1)]=k at Z G;have ag:H5 a=_:=z.same _ _ (n3.same _ _ Z);erw [ag];exact ⟨_,rfl,G⟩
abbrev qw:Stmt:=top 83
theorem DOk.rows(h:DOk d)(e:d'.rows=d.rows):DOk d':=by
 have en:nU d'=nU d:=by unfold nU;rw [e]
 exact ⟨⟨by rw [e];exact h.tx.ok,by rw [e];exact h.tx.len⟩,by rw [en];exact h.nd,by rw [en];exact h.few,by rw [en];exact h.pos,by rw [en];exact h.row⟩
theorem zA.keeps(s:zA G H)(k:zu F H H')(f:∀x∈F,Fr G x):zA G H':=λb o n e=>k b o (s b o n e) λz=>f b z o n e
theorem SqL.qb{K:Frag}(s:zA H H')(h:SqL K H a xs):SqL K H' a xs:=by
 rcases h with (h|⟨o,h⟩)|h
 .exact .inl (.inl (s.list h))
 .exact .inl (.inr ⟨o,s _ _ (λ_=>nofun) h⟩)
 .exact .inr h
theorem zA.Vj(s:zA F H)(k:bg a H H')(f:Fr F a):zA F H':=λb o n e=>k b o (λz=>f o n (by rw [<- z];exact e)) n (s b o n e)
theorem Lz{A:zh}{H:Hp}{x p dx dp f d wl sl:Addr}(h:H x=some (.ins A.State dx (dE f d n m)))(h':H p=some (.ins A.tj dp (zI G wl sl F))):x≠p:=λz=>by
 rw [z,h'] at h;have h:=Ob.inj h;simp only [HO.ins.injEq,zI,dE,List.cons.injEq,Prod.mk.injEq] at h;exact absurd h.2.2.1.1 (f!"")
theorem bV.vx{A:zh}{x p wl sl:Addr}(h:bV A H x ts n)(D:zD A H p wl sl cells m G)(b:zu (p::wl::sl::cells) H H'):bV A H' x ts n:=by
 obtain ⟨dx,f,d,W,kvs,F,U,J⟩:=h.ex;obtain ⟨dp,ep⟩:=D.ob;have out:∀{c:Addr}{o:HO},H c=some o->(∀xs,o≠.lst xs)->(∀C dx fs,o≠.ins C dx fs)->H' c=some o:=λ{c o} e S O=>b _ _ e λz=>by
  rcases D.lists c z with ⟨xs,q⟩|⟨C,dx,fs,q⟩
  .rw [q] at e;cases e;exact S _ rfl
  .rw [q] at e;cases e;exact O _ _ _ rfl
 refine ⟨⟨dx,f,d,W,kvs,b _ _ F λz=>?_,out U (λ_=>nofun) (λ_ _ _=>nofun),Paired.yz J λp t r=>r.keep λr xs e=>out e (λ_=>nofun) (λ_ _ _=>nofun)⟩,h.ok⟩;rcases Nw.mp z with z|z
 .exact Lz F ep z
 .have hx:=ND p z;rcases Nw.mp z with rfl|z
  .rw [D.rows.w] at F;cases F
  .rcases Nw.mp z with rfl|z
   .rw [D.sides] at F;cases F
   .obtain ⟨i,hi,rfl⟩:=Ov z;rw [D.rows.at_ i _ (p8 hi)] at F;cases F
theorem qj:∀(n:Nat)(l:List Int),l.Nodup->(∀x∈l,0<=x/\x<n)->l.length<=n
 | 0,l,_,h=>by
  cases l with
  | nil=>exact Nq _
  | cons x l=>have:=h x (NX ..);lia
 | n+1,l,nd,h=>by
  by_cases hn:(n:Int)∈l
  .have:=qj n (l.erase n) (nd.erase _) λx hx=>by
    have h1:=(List.Nodup.mem_erase_iff nd).mp hx;have:=h x h1.2;have:=h1.1;lia
   rw [List.length_erase_of_mem hn] at this;lia
  .have:=qj n l nd λx hx=>by
    have:=h x hx;have:x≠n:=λz=>hn (z ▸ hx);lia
   lia
theorem Ef(J:SpM d ts)(wide:∀i,((d.rows.getD i []).length:Int)<=m)(k:Nat):(al ts k:Int)<=m:=by
 refine Int.le_trans (Int.ofNat_le.mpr ?_) (wide k);unfold al pk;rw [KE,<- KE (f:=λt:T3=>t.2.2)];refine qj _ _ (O5.mpr (((O5.mp J.nd).filter _).imp_of_mem λ{a b} ha hb z e=>z ?_)) λx hx=>?_
 .obtain ⟨t,G,rfl⟩:=PF.mp hx;obtain ⟨G,F⟩:=RR.mp G;have F:=of_decide_eq_true F;obtain ⟨s,hs,es⟩:=J.at_ t G;rw [es] at F ⊢;rw [cf] at hs;have h1:=(bX.mp hs).2.1;have F:s.2.1=k:=by have:(s.2.1:Int)=k:=F;lia
  rw [F,bf,KE] at h1;exact ⟨by show (0:Int)<=(s.2.2:Nat);lia,by show ((s.2.2:Nat):Int)<_;lia⟩
 .have h1:=of_decide_eq_true (RR.mp ha).2;have h2:=of_decide_eq_true (RR.mp hb).2;exact Prod.ext (h1.trans h2.symm) e
theorem xD(e:d'.rows=d.rows):bet d'=bet d:=by
 funext ts n m lst j i;unfold bet Uw bC;rw [e]
theorem xT(e:d'.rows=d.rows):cl d'=cl d:=by
 have h1:lnD d'=lnD d:=by funext k;unfold lnD;rw [e]
 have h2:nU d'=nU d:=by unfold nU;rw [e]
 unfold cl bo;rw [h1,h2,e]
def ovT(o:Option Nat):Str:=match o with|none=>"None" | some k=>(toString (k:Int):Str)
theorem jN{o:Option Nat}(h:∀k,o=some k->k<100)(q:Q (.str (ovT o)) H):tN z [ov o] H Q:=by
 cases o with
 | none=>exact .inr (.inr (.inr (.inr ⟨rfl,q⟩)))
 | some k =>
  have F:=h k rfl;refine .inr (.inr (.inl ⟨k,rfl,?_,q⟩));show (k:Int).natAbs.log2<1920;rw [Int.natAbs_natCast];exact OI (Nat.log2_le_self k) (by lia)
structure FA(A:zh)(H0:Hp)(sc:V)(i:Nat)(σ:L2.St)(H':Hp):Prop where
 ex:∃t1 t2 t3 t4 t5 t6 t7 t8 t9 t0,σ=[some sc,t1,t2,t3,t4,t5,t6,t7,t8,t9,t0]
 same:zA H0 H'
 tb:TB A H'
structure InI(A:zh)(H0:Hp)(σ0:L2.St)(p wl sl sh x:Addr)(cells shc:List Addr)(m:Int)(d:DM)(ts:List T3)(n:Int)(i:Nat)(σ:L2.St)(H':Hp):Prop where
 ex:∃t,σ=σ0++[t]
 dk:∃d',DW A H' p wl sl sh cells shc m d'/\d'.rows=d.rows/\d'.cnt=d.cnt/\(i=0->d'=d)
 st:bV A H' x ts n
 same:zA H0 H'
def lS(t1 t2:Addr)(K:Frag):Sp:=λvs H Q _=>∃(a:Addr)(ns:List Int),vs=[.ref a]/\SqL K H a (ns.map V.int)/\ns.length<=63/\H t1=some (.tbl #[])/\H t2=some (.tbl #[])/\t1≠t2/\∀H',Q (.bl true) H'
theorem dF:zt ["_law_script","_law_k","_law_pot_here","_law_disk_here","_law_shelf","_law_state_here","_law_spots","_law_signs","_law_by_worth","_law_by_least","_law_turn_here"] V1 (zi qw):=fsc
theorem C8(F:Fun K "law" "law" qw f fd)(T:Txt w K mg A)(YE:GF P w K mg base true 2 "_law_pot" XQ (xt K))(YQ:GF P w K mg base true 7 "_law_disk" ["_law_pot_here"] (sS A))(Y8:GF P w K mg base true 7 "_law_state" YJ (uW A))(Zx:GM P w K mg base true 1 A.tj "signs" Zn (dA A λ_ d=>.int d.cnt))(Z1:GM P w K mg base true 1 A.tj "places" Zn (dA A λm _=>.int m))(Z4:GM P w K mg base true 1 A.State VI Zn (pT A))(ZF:GF P w K mg base true 4 VN WZ (ug A))(ZE:GF P w K mg base true 4 VM Wi (AZ A))(XX:GF P w K mg base true 13 "best" V7 (Au A))(Zh:GF P w K mg base true 4 Vw ["_law_disk_here"] (yZ A)):zm P w K mg base CX0 true 14 f fd V1 (lS A.J7 A.Q2 K):=by
 refine F.o dF λZ2 Ar outer s H vs Q E hr h=>?_;obtain ⟨sc,ns,rfl,hS,hl,bc,a9,bA,q⟩:=h;have hu:_<cLine:=N1 (zO hr);have hg:=hr.gd;refine ⟨_,(W.h (ze (bN OW.never (λ_=>rfl) (dP rfl T.z4 (zb (zL (je rfl) rfl T.TU boot_max (zb zl (zb (zL (rK rfl) rfl T.Vk boot_min (zb (zL kG rfl T.wh N8 (zb (za 0) zc)) (zb zl zc))) zc))) zc)) (zz (i:=1) dF.nd rfl (NC rfl))
   (ze (zy (i:=2) dF.nd rfl (NC rfl) (caD (zq YE hr rfl (clP (zb (za 0) (zb (za 1) zc))))))
   (ze (cJ (caD (zq YQ hr rfl (clP (zb (za 2) zc)))) (dW (n:=2) (gsD (zS (zz (i:=3) dF.nd rfl (NC rfl)) (gsD (zS (zz (i:=4) dF.nd rfl (NC rfl)) bR))))))
   (ze (cJ (caD (zq Y8 hr rfl (clP (zb (za 2) (zb (za 4) zc))))) (dW (n:=2) (gsD (zS (zz (i:=5) dF.nd rfl (NC rfl)) (gsD (zS (zz (i:=6) dF.nd rfl (NC rfl)) bR))))))
   (ze (zy (i:=7) dF.nd rfl (NC rfl) (m0D (bh (clE (za 3)) T.pw Zx hr)))
   (ze (zy (i:=8) dF.nd rfl (NC rfl) (caD (zq ZF hr rfl (clP (zb (za 4) (zb (m0D (bh (clE (za 3)) T.pw Z1 hr)) (zb (za 6) (zb (m0D (bh (clE (za 5)) T.vr Z4 hr)) zc))))))))
   (ze (zy (i:=9) dF.nd rfl (NC rfl) (caD (zq ZE hr rfl (clP (zb (za 4) (zb (za 6) zc))))))
   (ze (bN OW.never (λ_=>rfl) (dP rfl T.z4 (zb zl zc)) (zz (i:=10) dF.nd rfl (NC rfl))
   (ze (zQ (cH (i6 (tD (zG (clO (oE (eS hu))) (clE (zL (kY hg) rfl T.UK boot_repr (zb (caD (zq XX hr rfl (clP (zb (za 3) (zb (za 5) (zb zH zc)))))) zc))) (clE (zL (kY hg) rfl T.UK boot_repr (zb (za 8) zc))) (zC _))) (i4 (tD (zG (clO (oE (eS hu))) (clE (zL (kY hg) rfl T.UK boot_repr (zb (caD (zq XX hr rfl (clP (zb (za 3) (zb (za 5) (zb zH zc)))))) zc))) (clE (zL (kY hg) rfl T.UK boot_repr (zb (za 9) zc))) (zC _))))))
   (zg (zw bW))
   zV)
   (zg (zQ (cH (fo (tD (zG (clO (oE (aV hu))) (clE (za 10)) (clE zl) (zC _))) (fG (fJ (bG (caD (zq Zh hr rfl (clP (zb (za 3) zc)))))))))
   (zg (zw bW))
   zV))))
   (zg (zQ (tD (zG (clO (oE (eS hu))) (clE (m0D (bh (clE (za 3)) T.pw Zx hr))) (clE (za 7)) (zC _)))
   (zg (zw bW))
   zV))))))))))
   (zg (zw bW)))),?_⟩
 have a7:TB A H:=⟨.inl bc,.inl a9,bA⟩;ac_rfl;refine ⟨_,.inl hS,?_⟩;rw [KE];have hN:∃N:Nat,(if (if 3<(ns.length:Int) then 3 else (ns.length:Int))>1 then if 3<(ns.length:Int) then 3 else (ns.length:Int) else 1)=(N:Int)/\N<=3:=by
  by_cases h1:3<(ns.length:Int)
  .rw [if_pos h1];exact ⟨3,rfl,by decide⟩
  .rw [if_neg h1];split
   .exact ⟨ns.length,rfl,by lia⟩
   .exact ⟨1,rfl,by decide⟩
 obtain ⟨N,eN,bZ⟩:=hN;rw [eN,Ph];refine ⟨by lia,by lia,aA.rng (FA A H (.ref sc)) ⟨⟨_,_,_,_,_,_,_,_,_,_,rfl⟩,zA.refl,a7⟩ ?_ ?_⟩
 .rintro i σ H0 hi ⟨⟨t1,t2,t3,t4,t5,t6,t7,t8,t9,t0,rfl⟩,s0,ab⟩;have ej:(0+(i:Int))=((i:Nat):Int):=by lia
  erw [ej];refine ⟨sc,ns,i,rfl,SqL.qb s0 hS,by lia,λa H1 s1 a0 a8=>?_⟩;have XZ:=ab.same s1;ac_rfl;refine ⟨a,rfl,a8,XZ,λtp p wl sl sh cells shc m d H2 bB W2 Xq b2 fr lf st sd size wide=>?_⟩;refine ⟨tp,_,rfl,SqT.of bB,rfl,?_⟩;have ag:Fr H0 a:=λo no e=>by rw [a0] at e;cases e
  have s2:zA H0 H2:=(zA.of s1).keeps b2.keeps (λx hx=>by rw [NG] at hx;subst hx;exact ag);have mm:∀x∈p::wl::sl::cells,x∈p::wl::sl::sh::(cells++shc):=λx hx=>by
   simp only [Nw,Og] at hx ⊢;rcases hx with h|h|h|h<;>simp [h]
  have bt:∀x∈p::wl::sl::cells,Fr H0 x:=λx hx o no e=>by
   have:=(fr x (mm x hx)).2;rw [s1 _ _ e] at this;cases this
  have ap:Apt a wl sl sh cells shc:=⟨λx hx=>(fr x (mm x (ND _ hx))).1,λz=>(fr sh (by simp)).1 z.symm,λz=>(fr a (by simp [z])).1 rfl⟩;ac_rfl;refine ⟨a,p,wl,sl,sh,cells,shc,m,d,rfl,W2,Xq,ap,λtq x l as ts n H3 ba b3 Xd P3 S3 O3 WN ai b0 sm hn n0 n1=>?_⟩;refine ⟨tq,_,rfl,SqT.of ba,rfl,?_⟩;have O:=W2.Vj Xq ap b3 Xd P3;have s3:=s2.Vj b3 ag;have aj:=Ef sm wide;obtain ⟨b4,g3⟩:=O.vx.ob;obtain ⟨bP,f3,d3,m3,b5,bp,_⟩:=id S3.ex;erw [g3,uP];refine ⟨p,wl,sl,cells,m,d,rfl,O.vx,?_⟩;erw [g3,jQ];refine ⟨p,wl,sl,cells,m,d,rfl,O.vx,?_⟩;erw [bp,qM];refine ⟨x,ts,n,rfl,S3,?_⟩;ac_rfl;refine ⟨sh,l,shc,as,d,ts,m,n,rfl,O.F8,O.ok,WN,ai,by have:=S3.ok.few;lia,size.2.2.1,size.2.2.2,Xd,λH4 s4 bq=>?_⟩;ac_rfl;refine ⟨sh,l,shc,as,d,ts,m,n,rfl,O.F8.qb s4,O.ok,s4.list WN,Paired.yz ai λc t r=>s4.tup r,by have:=S3.ok.few;lia,bq,λH5 s5 a5=>?_⟩;ac_rfl;have U:=s4.trans s5;have bx:=O.ok.sh.len;rw [bb] at bx;have J:∀lst k,bst (bet d ts n m lst) (cl d)=some k->k<100:=λlst k e=>by
   rcases kg e with h|h
   .have:=mG h;lia
   .cases h
  refine ⟨by decide,by decide,aA.rng (InI A H0 [some (.ref sc),some (.int i),some (.ref a),some (.ref p),some (.ref sh),some (.ref x),some (.ref l),some (.int d.cnt),some (ov (bst (bet d ts n m false) (cl d))),some (ov (bst (bet d ts n m true) (cl d)))] p wl sl sh x cells shc m d ts n) ⟨⟨_,rfl⟩,⟨d,O.qb U a5,rfl,rfl,λ_=>rfl⟩,S3.qb U,s3.trans U⟩ ?_ ?_⟩
  .rintro j σ H6 hj ⟨⟨t,rfl⟩,⟨d',S,er,ec,e0⟩,S6,s6⟩;have eU:nU d'=nU d:=by unfold nU;rw [er]
   have A6:Ask A H6 p x m d' ts n:=⟨⟨wl,sl,cells,S.vx⟩,S6,S.ok,aj,size.2.2.1,size.2.2.2,by rw [eU];exact hn,n0⟩;ac_rfl;refine ⟨p,x,m,d',ts,n,"worth",rfl,A6,S.tb,λH7 s7 aT=>?_⟩;rw [xD er,xT er,decide_eq_false (show ¬ ("worth":Str)="least" by decide +kernel)];ac_rfl;refine jN (J _) (jN (J _) ?_);ac_rfl;refine ⟨p,x,m,d',ts,n,"least",rfl,A6.qb s7,aT,λH8 s8 a6=>?_⟩;rw [xD er,xT er,decide_eq_true (show ("least":Str)="least" from rfl)];refine jN (J _) (jN (J _) ?_);ac_rfl;have G:=s7.trans s8;have W8:=S.qb G a6;by_cases av:j=0
   .subst av;obtain ⟨bL,g8⟩:=W8.vx.ob;rw [decide_eq_true (show (0:Int)+((0:Nat):Int)=0 from rfl)];ac_rfl;cases e0 rfl;refine ⟨p,wl,sl,cells,m,d,rfl,W8.vx,st,sd,λd9 H9 D9 Z a3 b9=>?_⟩;obtain ⟨a4,ak⟩:=W8.Vd b9;have W9:DW A H9 p wl sl sh cells shc m d9:=⟨D9,by rw [Z];exact a4,W8.ap,ak,W8.ok.rows Z⟩;ac_rfl;exact ⟨⟨_,rfl⟩,⟨d9,W9,Z,a3,λz=>absurd z (by decide)⟩,(S6.qb G).vx W8.vx b9,(s6.trans G).keeps b9 bt⟩
   .rw [decide_eq_false (show ¬ (0:Int)+(j:Int)=0 by lia)];ac_rfl;exact ⟨⟨_,rfl⟩,⟨d',W8,er,ec,λz=>absurd z (by lia)⟩,S6.qb G,s6.trans G⟩
  .rintro σ H6 ⟨⟨t,rfl⟩,⟨d',S,er,ec,e0⟩,S6,s6⟩;obtain ⟨b1,g6⟩:=S.vx.ob;erw [g6,uP];refine ⟨p,wl,sl,cells,m,d',rfl,S.vx,?_⟩;erw [ec];exact ⟨⟨_,_,_,_,_,_,_,_,_,_,rfl⟩,s0.trans s6,S.tb⟩
 .rintro σ H1 ⟨⟨t1,t2,t3,t4,t5,t6,t7,t8,t9,t0,rfl⟩,s1,XZ⟩;ac_rfl;exact q H1
end
theorem all_mk{l:OpenLaw}{w:NQ}{K:Frag}{h:Heap}{mg:Str->Option Value}{fa:Addr}{a6 aT b4 a4 ak bZ bP b2 bp J W u8 ba ai ut a9 ag v0 a0 a7 a8 a5 bc v4:Addr}{fm ei hn c9 nx gr b8 mN g6:Option Addr}{hQ l2 ht dm kx n4 n3:Array (Option Value)}{kl hD h4 dk nT m5 lb ct j1 b6:Value}{hM f3 eb d3 hh g4 gs kZ gd kf dT n8 kn hj cv d0 mc ka eD h3 ec df d5 ky hB et h5 hK dp eN hz g8:Tok}{nI fL d2 ih n7 gC:Nat}(X:K.In h)(G:h.Ns NA mg)(dv:mg "law"=some (.ref fa))
  (cP:Pr K NA "CleanError"=some (some (.ref a6)))
  (eg:Pr K NA "NoRow"=some (some (.ref aT)))
  (ft:Pr K NA "NoDisk"=some (some (.ref b4)))
  (hq:Pr K NA "Full"=some (some (.ref a4)))
  (n5:Pr K NA "Stopped"=some (some (.ref ak)))
  (l7:Pr K NA "NoFile"=some (some (.ref bZ)))
  (nD:Pr K NA "NoPlace"=some (some (.ref bP)))
  (m6:Pr K NA "HeldAlready"=some (some (.ref b2)))
  (e1:Pr K NA "NotHeld"=some (some (.ref bp)))
  (b3:Pr K NA "Disk"=some (some (.ref J)))
  (bA:Pr K NA "Files"=some (some (.ref W)))
  (bL:Pr K NA "State"=some (some (.ref u8)))
  (gp:FnM K "is_whole" rJ)
  (nW:FnM K VL pM)
  (dt:FnM K VQ jv)
  (ff:FnM K VG qc)
  (hI:FnM K "is_name" qk)
  (dw:FnM K "is_word" qO)
  (d4:FnM K "sum_of" oU)
  (e6:FnM K "summed" oF)
  (j0:FnM K "body_of" nQ)
  (kS:FnM K "row_text" jB)
  (js:FnM K Vz mn)
  (hL:FnM K "read_row" jy)
  (c3:FnM K "row_of" kM)
  (me:FnM K VB lR)
  (eU:FnM K "row_at" rG)
  (n6:FnM K "rows_in" mL)
  (m2:Pr K NA VW=some (some (.ref ba)))
  (nz:K.lookup ba=some ⟨kl,fm,.func (fnOf VW VW (gj fX) (c0 fX) (zi fX) .none hD h4 dk ei (.ref ai) nT),hQ⟩)
  (nd:codeIn K (.ref ai) VW=true)
  (od:tabIn K VW=some (ai,ut))
  (b1:SM K ai ut=true)
  (ej:K.lookup ut=none)
  (bt:Rk K (.ref ba)=true)
  (d1:FnM K "end_of" nR)
  (c4:FnM K "closed" lu)
  (m7:FnM K Vx lL)
  (k2:FnM K VA iA)
  (hE:FnM K "worth" mf)
  (e0:FnM K "age_of" mM)
  (hy:FnM K VE qY)
  (kv:FnM K "best" qX)
  (ed:FnM K "is_better" pe)
  (g7:ar K J VX "Disk.__init__" jF)
  (ea:ar K J VR "Disk.stretches" oP)
  (nc:ar K J "places" "Disk.places" qm)
  (e4:ar K J VD "Disk.next_place" oK)
  (kF:ar K J "told" "Disk.told" qR)
  (b5:ar K J "signs" "Disk.signs" qo)
  (l4:ar K J "write" "Disk.write" jn)
  (lr:ar K J "put_side" "Disk.put_side" lN)
  (dV:ar K J "empty" "Disk.empty" k7)
  (hg:ar K J "stop" "Disk.stop" oM)
  (oa:ar K J VO "Disk.copied" jA)
  (v6:ar K J VZ VP kK)
  (kp:ar K J "spend" "Disk.spend" rm)
  (nP:ar K J VJ "Disk.first_signs" kD)
  (eC:ar K W VX "Files.__init__" qN)
  (ey:ar K W "names" "Files.names" qH)
  (n1:ar K W "many" "Files.many" pV)
  (hH:ar K W VU "Files.put" o3)
  (kz:ar K W VT "Files.cut" rQ)
  (k5:ar K W VV "Files.hold" mK)
  (hS:ar K W VO "Files.copied" lY)
  (kq:ar K W "bare" "Files.bare" mU)
  (hb:ar K W "keep" "Files.keep" nj)
  (kE:ar K W VF "Files.refuse_if_none" mH)
  (g5:ar K u8 VX "State.__init__" kQ)
  (ho:ar K u8 "files" "State.files" pA)
  (nq:ar K u8 "spots" "State.spots" ku)
  (l0:ar K u8 VI "State.next_number" pP)
  (c2:FnM K "_law_cell" qy)
  (j3:FnM K "_law_pot" mR)
  (en:FnM K V0 nM)
  (f6:FnM K VS nO)
  (fy:FnM K "_law_row" pG)
  (mm:FnM K "_law_turn" jw)
  (ew:FnM K VC ou)
  (da:FnM K "_law_torn" jM)
  (hO:FnM K "_law_disk" jR)
  (ek:Pr K NA VY=some (some (.ref a9)))
  (la:K.lookup a9=some ⟨m5,hn,.func (fnOf VY VY (gj fu) (c0 fu) (zi fu) .none lb ct j1 c9 (.ref ag) b6),l2⟩)
  (ha:codeIn K (.ref ag) VY=true)
  (oc:tabIn K VY=some (ag,v0))
  (bx:SM K ag v0=true)
  (f7:K.lookup v0=none)
  (b0:Rk K (.ref a9)=true)
  (m8:FnM K Vy mO)
  (fx:FnM K "_law_files" mW)
  (hx:FnM K "_law_next" jo)
  (hA:FnM K "_law_state" jt)
  (gg:FnM K "_law_end" jH)
  (ko:FnM K VH lA)
  (m3:FnM K "_law_last" lI)
  (cc:FnM K "_law_worth" jG)
  (mC:FnM K "_law_more" qB)
  (f5:FnM K VN pN)
  (fb:FnM K VM kO)
  (ez:FnM K Vw ph)
  (hp:FnM K "law" qw)
  (cC:Pr K NA "abs"=some none)
  (k9:Pr K NA "all"=some none)
  (hl:Pr K NA "bool"=some none)
  (n0:Pr K NA "dict"=some none)
  (hs:Pr K NA "divmod"=some none)
  (k1:Pr K NA "enumerate"=some none)
  (m9:Pr K NA "int"=some none)
  (k6:Pr K NA "isinstance"=some none)
  (hP:Pr K NA "len"=some none)
  (l1:Pr K NA "list"=some none)
  (hc:Pr K NA "max"=some none)
  (b9:Pr K NA "min"=some none)
  (hv:Pr K NA "ord"=some none)
  (fi:Pr K NA "range"=some none)
  (dg:Pr K NA "repr"=some none)
  (hY:Pr K NA "sorted"=some none)
  (cp:Pr K NA "str"=some none)
  (j2:Pr K NA "tuple"=some none)
  (k4:Pr K NA "zip"=some none)
  (b7:Pr K NA "FIGURES"=some (some (.str "0123456789" hM)))
  (mu:Pr K NA "LETTERS"=some (some (.str "abcdefghijklmnopqrstuvwxyz" f3)))
  (e7:Pr K NA "MOST_FIGURES"=some (some (.int 18 eb)))
  (gk:Pr K NA "MOST_LETTERS"=some (some (.int 6 d3)))
  (hk:Pr K NA "MOST_SIGNS"=some (some (.int 20 hh)))
  (gT:Pr K NA "MODULUS"=some (some (.int 65521 g4)))
  (eh:Pr K NA "COLD_KIND"=some (some (.str "carry" gs)))
  (n2:Pr K NA "LEAST_STRETCHES"=some (some (.int 3 kZ)))
  (er:Pr K NA "MOST_STRETCHES"=some (some (.int 16 gd)))
  (kA:Pr K NA "LEAST_PLACES"=some (some (.int 2 kf)))
  (d9:Pr K NA "MOST_PLACES"=some (some (.int 32 dT)))
  (fF:Pr K NA "PARTS"=some (some (.ref a0)))
  (kc:K.lookup a0=some { cls:=.type "dict",dict:=none,data:=.dict #[{ hash:=QF w.params (yv "put"),key:=.str (yv "put") n8,val:=.ref a7 },{ hash:=QF w.params (yv "cut"),key:=.str (yv "cut") eD,val:=.ref a8 },{ hash:=QF w.params (yv "hold"),key:=.str (yv "hold") d5,val:=.ref a5 },{ hash:=QF w.params (yv "free"),key:=.str (yv "free") et,val:=.ref bc },{ hash:=QF w.params (yv "carry"),key:=.str (yv "carry") dp,val:=.ref v4 }] nI,slots:=#[] })
  (e8:(a0==sysModules)=false)
  (jj:K.lookup a7=some { cls:=.type "tuple",dict:=nx,data:=.seq #[.str (yv "number") kn,.str (yv "number") hj,.str (yv "end") cv,.str (yv "name") d0,.str (yv "number") mc,.str (yv "word") ka] fL,slots:=ht })
  (gb:K.lookup a8=some { cls:=.type "tuple",dict:=gr,data:=.seq #[.str (yv "number") h3,.str (yv "name") ec,.str (yv "number") df] d2,slots:=dm })
  (hR:K.lookup a5=some { cls:=.type "tuple",dict:=b8,data:=.seq #[.str (yv "number") ky,.str (yv "name") hB] ih,slots:=kx })
  (eu:K.lookup bc=some { cls:=.type "tuple",dict:=mN,data:=.seq #[.str (yv "number") h5,.str (yv "name") hK] n7,slots:=n4 })
  (ke:K.lookup v4=some { cls:=.type "tuple",dict:=g6,data:=.seq #[.str (yv "number") eN,.str (yv "number") hz,.str (yv "word") g8] gC,slots:=n3 })
  (m1:excIn K a6 [.type "ValueError",.type "Exception",.type "BaseException",.type "object"] "ValueError.__new__"=true)
  (nf:excIn K aT [.type "ValueError",.type "Exception",.type "BaseException",.type "object"] "ValueError.__new__"=true)
  (mb:excIn K a4 [.type "ValueError",.type "Exception",.type "BaseException",.type "object"] "ValueError.__new__"=true)
  (eF:excIn K ak [.type "ValueError",.type "Exception",.type "BaseException",.type "object"] "ValueError.__new__"=true)
  (d7:mroIn K aT (.ref aT)=some true)
  (kk:mroIn K ak (.ref ak)=some true)
  (hF:Sg K J RM=true)
  (el:Sl K J=true)
  (dq:plainOver K J=true)
  (e2:findIn K (.ref J) "__setattr__"=some (some (.builtin "object.__setattr__")))
  (kb:makesIn K J=true)
  (hr:Rk K (.ref J)=true)
  (lz:findIn K (.ref J) "at_sides"=some none)
  (k3:findIn K (.ref J) "counted"=some none)
  (eo:findIn K (.ref J) "has_stopped"=some none)
  (c6:findIn K (.ref J) "left"=some none)
  (dK:findIn K (.ref J) "width"=some none)
  (lp:findIn K (.ref J) "written"=some none)
  (l3:Sg K W RM=true)
  (cD:Sl K W=true)
  (g0:plainOver K W=true)
  (ee:findIn K (.ref W) "__setattr__"=some (some (.builtin "object.__setattr__")))
  (hN:makesIn K W=true)
  (dd:Rk K (.ref W)=true)
  (m4:findIn K (.ref W) "births"=some none)
  (e3:findIn K (.ref W) "kept"=some none)
  (l5:Sg K u8 RM=true)
  (hu:Sl K u8=true)
  (eH:plainOver K u8=true)
  (nk:findIn K (.ref u8) "__setattr__"=some (some (.builtin "object.__setattr__")))
  (fz:makesIn K u8=true)
  (c5:Rk K (.ref u8)=true)
  (ef:findIn K (.ref u8) "next_mark"=some none)
  (j5:findIn K (.ref u8) "next_row"=some none)
  (hC:findIn K (.ref u8) "own_files"=some none)
  (e5:findIn K (.ref u8) "spot_of"=some none) :
  ∃fd:Nz,(∀(s:we)(v:Value),BindsTo s fd ⟨[v],[]⟩ [("_law_script",v)])/\(∀T,T∈[ut,v0]->K.lookup T=none/\∃c,SM K c T=true)/\∀base:Heap,K.In base->base.Ns NA mg->fP mg base->zm l.prog w K mg base CX0 true 14 fa fd V1 (lS ut v0 K):=by
 obtain ⟨ob,av,bq,a3⟩:=hp;have e:=dv.symm.trans (PD X G bq);cases e;have k0:∀(s:we)(v:Value),BindsTo s av ⟨[v],[]⟩ [("_law_script",v)]:=by obtain ⟨_,_,_,_,_,_,_,_,_,rfl,_⟩:=a3.ex;exact λs v=>.of_eq rfl
 have T:Txt w K mg ⟨a6,aT,b4,a4,ak,bZ,bP,b2,bp,J,W,u8,ut,v0,a0,a7,a8,a5,bc,v4⟩:=⟨PD X G fF,⟨⟨_,_,kc,(.cons (.cons (.cons (.cons (.cons .nil)))))⟩,by show ([VU,VT,VV,"free","carry"]:List Str).Nodup;decide +kernel,e8⟩,λH=>.inr ⟨_,_,_,jj,rfl,rfl,by show 6<=sizeLine;decide,(.cons ⟨_,rfl⟩ (.cons ⟨_,rfl⟩ (.cons ⟨_,rfl⟩ (.cons ⟨_,rfl⟩ (.cons ⟨_,rfl⟩ (.cons ⟨_,rfl⟩ .nil))))))⟩,λH=>.inr ⟨_,_,_,gb,rfl,rfl,by show 3<=sizeLine;decide,(.cons ⟨_,rfl⟩ (.cons ⟨_,rfl⟩ (.cons ⟨_,rfl⟩ .nil)))⟩,λH=>.inr ⟨_,_,_,hR,rfl,rfl,by show 2<=sizeLine;decide,(.cons ⟨_,rfl⟩ (.cons ⟨_,rfl⟩ .nil))⟩,λH=>.inr ⟨_,_,_,eu,rfl,rfl,by show 2<=sizeLine;decide,(.cons ⟨_,rfl⟩ (.cons ⟨_,rfl⟩ .nil))⟩,λH=>.inr ⟨_,_,_,ke,rfl,rfl,by show 3<=sizeLine;decide,(.cons ⟨_,rfl⟩ (.cons ⟨_,rfl⟩ (.cons ⟨_,rfl⟩ .nil)))⟩,OM X G cC,OM X G k9,OM X G hl,OM X G n0,OM X G hs,OM X G k1,OM X G m9,OM X G k6,OM X G hP,OM X G l1,OM X G hc,OM X G b9,OM X G hv,OM X G fi,OM X G dg,OM X G hY,OM X G cp,OM X G j2,OM X G k4,⟨_,PD X G b7,⟨_,rfl⟩⟩,⟨_,PD X G mu,⟨_,rfl⟩⟩,⟨_,PD X G e7,⟨_,rfl⟩⟩,⟨_,PD X G gk,⟨_,rfl⟩⟩,⟨_,PD X G hk,⟨_,rfl⟩⟩,⟨_,PD X G gT,⟨_,rfl⟩⟩,⟨_,PD X G eh,⟨_,rfl⟩⟩,⟨_,PD X G n2,⟨_,rfl⟩⟩,⟨_,PD X G er,⟨_,rfl⟩⟩,⟨_,PD X G kA,⟨_,rfl⟩⟩,⟨_,PD X G d9,⟨_,rfl⟩⟩,PD X G cP,PD X G eg,PD X G ft,PD X G hq,PD X G n5,PD X G l7,PD X G nD,PD X G m6,PD X G e1,PD X G b3,PD X G bA,PD X G bL,m1,nf,mb,eF,d7,kk,⟨hF,el,dq,e2⟩,lz,k3,eo,c6,dK,lp,⟨l3,cD,g0,ee⟩,m4,e3,⟨l5,hu,eH,nk⟩,ef,j5,hC,e5⟩;have z:=yG (st:=fX) nz nd bt;have Z:=z.binds (ps:=V8) fun|_,_,_,_,_,_,[_],_=>rfl;have O:=yG (st:=fu) la ha b0;have ab:=O.binds (ps:=W6) fun|_,_,_,_,_,_,[_],_=>rfl;refine ⟨av,k0,λT hT=>?_,λbase KB _ bB=>?_⟩
 .simp only [Nw,NH,or_false] at hT;rcases hT with rfl|rfl
  .exact ⟨ej,_,b1⟩
  .exact ⟨f7,_,bx⟩
 have S:fM mg base (.ref ai) ut:=⟨⟨ai,rfl,codeHd_of_K KB b1⟩,bB⟩;have U:fM mg base (.ref ag) v0:=⟨⟨ag,rfl,codeHd_of_K KB bx⟩,bB⟩;have ZX:=gf l.prog base true X G dt (λ_ _ F=>Hv F T) λ_ _ _ _ _ _=>u3 λ_ _ _=>rfl;have YC:=gf l.prog base true X G hI (λ_ _ F=>IE F T ZX) λ_ _ _ _ _ _=>u1 λ_=>rfl;have YB:=gf l.prog base true X G dw (λ_ _ F=>Lf F T ZX) λ_ _ _ _ _ _=>u1 λ_=>rfl;have ZD:=gf l.prog base true X G ff (λ_ _ F=>Ck F T ZX) λ_ _ _ _ _ _=>u1 λ_=>rfl;have Yk:=gf l.prog base true X G d4 (λ_ _ F=>MK F T) λ_ _ _ _ _ _=>u1 λ_=>rfl;have Zg:=gf l.prog base true X G e6 (λ_ _ F=>DD F T Yk) λ_ _ _ _ _ _=>u1 λ_=>rfl;have YA:=gf l.prog base true X G j0 (λ_ _ F=>Jn F T Zg) λ_ _ _ _ _ _=>u1 λ_=>rfl;have Y1:=gf l.prog base true X G js (λ_ _ F=>Cp F T) λ_ _ _ _ _ _=>u1 λ_=>rfl;have YF:=gf l.prog base true X G kS (λ_ _ F=>GL F T Zg Y1) λ_ _ _ _ _ _=>u1 λ_=>rfl;have Y0:=gx l.prog base true X G me (λ_ _ F=>BP F T ZD YC YB) λ_ _ _ _ _ _=>u2 λ_ _=>rfl;have Yj:=gx l.prog base true X G c3 (λ_ _ F=>MX F T Y0) λ_ _ _ _ _ _=>u1 λ_=>rfl;have YH:=gx l.prog base true X G hL (λ_ _ F=>MY F T YA Yj) λ_ _ _ _ _ _=>u1 λ_=>rfl;have Z6:=gm l.prog base true ea (λ_ _ F=>Dt F T) λ_ _ _ _ _ _=>u1 λ_=>rfl;have Z1:=gm l.prog base true nc (λ_ _ F=>GO F T) λ_ _ _ _ _ _=>u1 λ_=>rfl;have Zx:=gm l.prog base true b5 (λ_ _ F=>Ft F T) λ_ _ _ _ _ _=>u1 λ_=>rfl;have ZY:=gm l.prog base true e4 (λ_ _ F=>EE F T) λ_ _ _ _ _ _=>u2 λ_ _=>rfl;have YZ:=gm l.prog base true kF (λ_ _ F=>Km F T) λ_ _ _ _ _ _=>u3 λ_ _ _=>rfl;have Z8:=gmx l.prog base true v6 (λ_ _ F=>Gr F T) λ_ _ _ _ _ _=>u1 λ_=>rfl;have ZO:=gm l.prog base true kp (λ_ _ F=>Ng F T) λ_ _ _ _ _ _=>u2 λ_ _=>rfl;have Z0:=gmx l.prog base true nP (λ_ _ F=>Dm F T ZO Z8) λ_ _ _ _ _ _=>u2 λ_ _=>rfl;have Zz:=gmx l.prog base true l4 (λ_ _ F=>El F T Z0 Z8) λ_ _ _ _ _ _=>u3 λ_ _ _=>rfl;have ZA:=gmx l.prog base true lr (λ_ _ F=>EF F T Z0 Z8) λ_ _ _ _ _ _=>u3 λ_ _ _=>rfl;have YI:=gf l.prog base true X G gp (λ_ _ F=>KH F T) λ_ _ _ _ _ _=>u1 λ_=>rfl;have ZW:=gf l.prog base true X G nW (λ_ _ F=>LQ F T YI) λ_ _ _ _ _ _=>u3 λ_ _ _=>rfl;have Yz:=gc l.prog base true X G b3 kb hr g7 (λ_ _ F=>DQ F T ZW) λ_ _ _ _ _ _=>u3 λ_ _ _=>rfl;have ZN:=gmx l.prog base true dV (λ_ _ F=>Lr F T ZO Z8) λ_ _ _ _ _ _=>u2 λ_ _=>rfl;have Yi:=gf l.prog base true X G eU (λ_ _ F=>Bx F T YZ YH) λ_ _ _ _ _ _=>u3 λ_ _ _=>rfl;have Zw:=gf l.prog base true X G n6 (λ_ _ F=>GD F T ZY Yi) λ_ _ _ _ _ _=>u2 λ_ _=>rfl;have Zd:GF l.prog w K mg base true 9 VW V8 (lZ _):=⟨_,_,MP z rfl S T Z6 Zw,PD X G m2,bt,Z⟩;have YD:=gf l.prog base true X G d1 (λ_ _ F=>CD F T Zd) λ_ _ _ _ _ _=>u2 λ_ _=>rfl;have YY:=gf l.prog base true X G c2 (λ_ _ F=>Dj F T) λ_ _ _ _ _ _=>u2 λ_ _=>rfl;have YE:=gf l.prog base true X G j3 (λ_ _ F=>MG F T YY) λ_ _ _ _ _ _=>u2 λ_ _=>rfl;have Z9:=gf l.prog base true X G en (λ_ _ F=>EG F T) λ_ _ _ _ _ _=>u2 λ_ _=>rfl;have Z5:=gf l.prog base true X G f6 (λ_ _ F=>Hz F T Z9) λ_ _ _ _ _ _=>u2 λ_ _=>rfl;have ZV:GF l.prog w K mg base true 1 VY W6 (iQ _):=⟨_,_,FP O rfl U T,PD X G ek,b0,ab⟩;have Zm:=gm l.prog base true oa (λ_ _ F=>DF F T Z6 Yz) λ_ _ _ _ _ _=>u1 λ_=>rfl;have ZK:=gm l.prog base true hg (λ_ _ F=>M3 F T) λ_ _ _ _ _ _=>u2 λ_ _=>rfl;have Yf:=gf l.prog base true X G c4 (λ_ _ F=>Lg F T YD Z6 ZY) λ_ _ _ _ _ _=>u1 λ_=>rfl;have Zi:=gf l.prog base true X G m7 (λ_ _ F=>Mj F T Zw) λ_ _ _ _ _ _=>u2 λ_ _=>rfl;have YG:=gf l.prog base true X G fy (λ_ _ F=>HY F T Z9 Z5) λ_ _ _ _ _ _=>u3 λ_ _ _=>rfl;have Zt:=gf l.prog base true X G ew (λ_ _ F=>CL F T Z9) λ_ _ _ _ _ _=>u2 λ_ _=>rfl;have Zp:=gf l.prog base true X G mm (λ_ _ F=>MN F T Z9 ZN Z1 YG YF Zz) λ_ _ _ _ _ _=>u4 λ_ _ _ _=>rfl;have YX:=gf l.prog base true X G da (λ_ _ F=>Mz F T Z9 Z5 ZK ZN Zm) λ_ _ _ _ _ _=>u3 λ_ _ _=>rfl;have YQ:=gf l.prog base true X G hO (λ_ _ F=>FN F T Z5 Yz Z6 Zt Z9 Zp YX) λ_ _ _ _ _ _=>u1 λ_=>rfl;have Zh:=gf l.prog base true X G ez (λ_ _ F=>JV F T ZK ZA) λ_ _ _ _ _ _=>u1 λ_=>rfl;have YN:=gc l.prog base true X G bA hN dd eC (λ_ _ F=>Nk F T) λ_ _ _ _ _ _=>u1 λ_=>rfl;have Zk:=gm l.prog base true ey (λ_ _ F=>ID F T) λ_ _ _ _ _ _=>u1 λ_=>rfl;have ZZ:=gm l.prog base true n1 (λ_ _ F=>E8 F T) λ_ _ _ _ _ _=>u2 λ_ _=>rfl;have ZT:=gm l.prog base true kE (λ_ _ F=>IS F T) λ_ _ _ _ _ _=>u2 λ_ _=>rfl;have YW:=gm l.prog base true hH (λ_ _ F=>ED F T ZZ ZW) λ_ _ _ _ _ _=>u4 λ_ _ _ _=>rfl;have YV:=gm l.prog base true kz (λ_ _ F=>HR F T ZT ZZ ZW) λ_ _ _ _ _ _=>u3 λ_ _ _=>rfl;have ZM:=gm l.prog base true kq (λ_ _ F=>DU F T YN) λ_ _ _ _ _ _=>u1 λ_=>rfl;have Zc:=gm l.prog base true hb (λ_ _ F=>Ei F T ZM) λ_ _ _ _ _ _=>u3 λ_ _ _=>rfl;have Zb:=gm l.prog base true k5 (λ_ _ F=>Cj F T Zc) λ_ _ _ _ _ _=>u2 λ_ _=>rfl;have ZU:=gm l.prog base true hS (λ_ _ F=>Gu F T ZM) λ_ _ _ _ _ _=>u1 λ_=>rfl;have XY:=gc l.prog base true X G bL fz c5 g5 (λ_ _ F=>Cq F T ZU) λ_ _ _ _ _ _=>u5 λ_ _ _ _ _=>rfl;have aj:=gm l.prog base true ho (λ_ _ F=>BA F T ZU) λ_ _ _ _ _ _=>u1 λ_=>rfl;have Z4:=gm l.prog base true l0 (λ_ _ F=>JP F T) λ_ _ _ _ _ _=>u1 λ_=>rfl;have Zl:=gm l.prog base true nq (λ_ _ F=>Ji F T) λ_ _ _ _ _ _=>u1 λ_=>rfl;have ZP:=gf l.prog base true X G k2 (λ_ _ F=>Fi F T Zl) λ_ _ _ _ _ _=>u2 λ_ _=>rfl;have Zj:=gf l.prog base true X G m8 (λ_ _ F=>EU F T Z9 ZV) λ_ _ _ _ _ _=>u2 λ_ _=>rfl;have Za:=gf l.prog base true X G fx (λ_ _ F=>Hf F T YN Z5 Z9 ZZ YW Zb Zk YV) λ_ _ _ _ _ _=>u2 λ_ _=>rfl;have YU:=gf l.prog base true X G hx (λ_ _ F=>EW F T Z9 ZV) λ_ _ _ _ _ _=>u2 λ_ _=>rfl;have Y8:=gf l.prog base true X G hA (λ_ _ F=>LO F T Z9 Zj Za YU XY) λ_ _ _ _ _ _=>u2 λ_ _=>rfl;have Y9:=gf l.prog base true X G gg (λ_ _ F=>L6 F T ZV) λ_ _ _ _ _ _=>u2 λ_ _=>rfl;have ZS:=gf l.prog base true X G ko (λ_ _ F=>Dv F T Y9) λ_ _ _ _ _ _=>u1 λ_=>rfl;have YT:=gf l.prog base true X G m3 (λ_ _ F=>Bd F T) λ_ _ _ _ _ _=>u2 λ_ _=>rfl;have ZC:=gf l.prog base true X G hy (λ_ _ F=>J5 F T) λ_ _ _ _ _ _=>u2 λ_ _=>rfl;have Yg:=gf l.prog base true X G e0 (λ_ _ F=>JI F T Zi Z4) λ_ _ _ _ _ _=>u3 λ_ _ _=>rfl;have Yu:=gf l.prog base true X G hE (λ_ _ F=>FF F T ZP Z1 Yg ZC) λ_ _ _ _ _ _=>u3 λ_ _ _=>rfl;have Zy:=gf l.prog base true X G cc (λ_ _ F=>MS F T YT) λ_ _ _ _ _ _=>u5 λ_ _ _ _ _=>rfl;have YS:=gf l.prog base true X G ed (λ_ _ F=>KY F T ZP Yu) λ_ _ _ _ _ _=>u5 λ_ _ _ _ _=>rfl;have XX:=gf l.prog base true X G kv (λ_ _ F=>GP F T Yf YS) λ_ _ _ _ _ _=>u3 λ_ _ _=>rfl;have YR:=gf l.prog base true X G mC (λ_ _ F=>Ec F T) λ_ _ _ _ _ _=>u2 λ_ _=>rfl;have ZF:=gf l.prog base true X G f5 (λ_ _ F=>KC F T ZS Zy YR) λ_ _ _ _ _ _=>u4 λ_ _ _ _=>rfl;have ZE:=gf l.prog base true X G fb (λ_ _ F=>HE F T ZS) λ_ _ _ _ _ _=>u2 λ_ _=>rfl;exact C8 a3 T YE YQ Y8 Zx Z1 Z4 ZF ZE XX Zh
theorem walk{l:OpenLaw}{W:List Str}{K:Params->Frag}(ut v0:Addr){ts:List Addr}(hn:l.most=some 63)(S:d.params.defaults=[])(Z:∀(w:NQ)(h:Heap),U w h->(K w.params).In h/\∀T∈ts,h.get? T=some (tabObj #[]))(O:∀T,T∈ts->T∈[ut,v0])(G:∀T,T∈[ut,v0]->T∈ts)(hnd:([ut,v0]:List Addr).Nodup)(F:∀(w:NQ)(mg:Str->Option Value)(fa:Addr)(h:Heap),(K w.params).In h->h.Ns NA mg->mg d.name=some (.ref fa) ->
   ∃fd:Nz,(∀(s:we)(u:Value),BindsTo s fd ⟨[u],[]⟩ [("_law_script",u)])/\(∀T,T∈[ut,v0]->(K w.params).lookup T=none/\∃c,SM (K w.params) c T=true)/\∀base:Heap,(K w.params).In base->base.Ns NA mg->fP mg base->zm l.prog w (K w.params) mg base CX0 true 14 fa fd V1 (lS ut v0 (K w.params))):
  WalkO q W XP U l.row.toRowW d [] (λf vs=>PySem.call f vs) :=
 L2.walk_ofT (n:=63) (k:=14) (x:="_law_script") (CX:=λ_=>CX0) (sp:=λw=>lS ut v0 (K w.params)) (ts:=ts) hn (by decide) S ⟨λ_=>rfl,by decide,by decide,rfl⟩ Z (λw mg fa h a b c=>let ⟨fd,g1,g2,g3⟩:=F w mg fa h a b c;⟨fd,g1,λT J=>g2 T (O T J),g3⟩) (λ_ H a ns hl J hS=>⟨a,ns,rfl,hS,hl,J _ (G _ (by simp)),J _ (G _ (by simp)),(by intro z;rw [z] at hnd;exact absurd hnd (by simp)),λ_=>rfl⟩) λ_ _ _ _ _ z=>z
end K62
def PySem.W.Fast.UR:Nat:=0
def PySem.W.Fast.UA:Nat:=0
def PySem.W.Fast.Uz:Nat:=0
def PySem.W.Fast.UE:Nat:=0
def PySem.W.Fast.UN:Nat:=0
def PySem.W.Fast.Uj:Nat:=0
def PySem.W.Fast.Uh:Nat:=0
def PySem.W.Fast.U6:Nat:=0
def PySem.W.Fast.UC:Nat:=0
def PySem.W.Fast.Ui:Nat:=0
def PySem.W.Fast.Ut:Nat:=0
def PySem.W.Fast.UO:Nat:=0
def PySem.W.Fast.U1:Nat:=0
def PySem.W.Fast.UW:Nat:=0
def PySem.W.Fast.Uk:Nat:=0
def PySem.W.Fast.Uq:Nat:=0
def PySem.W.Fast.U0:Nat:=0
def PySem.W.Fast.U2:Nat:=0
def PySem.W.Fast.TZ:Nat:=0
def PySem.W.Fast.Ul:Nat:=0
def PySem.W.Fast.UZ:Nat:=0
def PySem.W.Fast.Ux:Nat:=0
def PySem.W.Fast.Uo:Nat:=0
def PySem.W.Fast.Uu:Nat:=0
def PySem.W.Fast.UU:Nat:=0
def PySem.W.Fast.U5:Nat:=0
def PySem.W.Fast.Uy:Nat:=0
def PySem.W.Fast.Uv:Nat:=0
def PySem.W.Fast.Us:Nat:=0
def PySem.W.Fast.Ua:Nat:=0
def PySem.W.Fast.UT:Nat:=0
def PySem.W.Fast.US:Nat:=0
def PySem.W.Fast.UV:Nat:=0
def PySem.W.Fast.TY:Nat:=0
def PySem.W.Fast.Ur:Nat:=0
def PySem.W.Fast.UF:Nat:=0
def PySem.W.Fast.UB:Nat:=0
def PySem.W.Fast.Ub:Nat:=0
def PySem.W.Fast.UX:Nat:=0
def PySem.W.Fast.Ud:Nat:=0
def PySem.W.Fast.U8:Nat:=0
def PySem.W.Fast.U9:Nat:=0
def PySem.W.Fast.UP:Nat:=0
def PySem.W.Fast.Um:Nat:=0
def PySem.W.Fast.U4:Nat:=0
def PySem.W.Fast.Ug:Nat:=0
def PySem.W.Fast.UY:Nat:=0
def PySem.W.Fast.UG:Nat:=0
def PySem.W.Fast.U3:Nat:=0
def PySem.W.Fast.U7:Nat:=0
def PySem.W.Fast.UQ:Nat:=0
def PySem.W.Fast.Ue:Nat:=0
def PySem.W.Fast.Up:Nat:=0
def PySem.W.Fast.Uc:Nat:=0
def PySem.W.Fast.UD:Nat:=0
structure PySem.W.Fast:Prop where(tw7664209064147571288 tw11683492527290251498 tw11686635000996139086 tw11067831608062799563 tw9802360372446017074 tw16150200744806172393 tw16567741610651721767 tw1964718040254047599 tw11538598647642529446 tw16157322334941046255 tw13640877352707868258 tw8340920166814863861 tw4671579628473794847 tw5189387990287042490 tw15908164618312237897 tw14167008552944329512 tw4755113405053193548 tw3921045963036892198 tw17838325799385445848 tw15399237745434446232 tw4913897990283498460 tw12464001114192545062 tw14914205259688802287 tw13416451675842911441 tw6400468599008228764 tw2147788224340315279 tw12372277527583810200 tw13658902398570927405 tw12494716494170696681 tw17707954173980961699 tw6747531600231635491 tw7566864430099544894 tw6206055971206839103 tw18334248257791496972 tw13997811269985482746 tw10960192421764064120 tw11556494455559815249 tw17703859643654132463 tw5060094566862512388 tw17166419429099918771 tw1628955405781358524 tw759883785589340645 tw8151238934634365465 tw15395009006349616395 tw2286936167554047304 tw16741254285586790264 tw4991074255937724387 tw10612966938220987916 tw2654095070255941354 tw1901640600397753145 tw8089540711392519101 tw16907572756407112361 tw14480614090820263044 tw17350086427833809631 tw11382700564208166989 tw4631887531512736736 tw9835226019056794576 tw15948556229477540441 tw5919887116290480755 tw2725537643894541729 tw4138507028403716676 tw6983851792337763480 tw8747356523330091201 tw12275619730203331065 tw9735430609592866496 tw6582262421031620798 tw9399614790240136349 tw17335129971882738495 tw1324372095783997648 tw3218294173600084442 tw4700840585345905942 tw4174393936230055935 tw17213424291539123852 tw11556220837452101454 tw419658560740944224 tw13933014364329200095 tw652906119489771382 tw14842419925419839414 tw5074995127990561552 tw4497508231962707832 tw6045489620922165213 tw8702654516041262632 tw3806368375804380581 tw2376360127737123432 tw6056202576555105804 tw18083787993451647523 tw8809488125751018800 tw2731479916326499211 tw14941726061746708692 tw13589087658974752561 tw8599041043379583993 tw14233402908634443285 tw17350701273041461167 tw10250486243201638151 tw17084019637608865929 tw2437351660187268390 tw10198416830359962259 tw16410495807652000908 tw9268485515993271019 tw5233002547101675720 tw8519912339000148213 tw16067357091156227016 tw1056789927519710846 tw14853399043018511227 tw12026669038094367079 tw6991988663945862194 tw15803338637302729620 tw8125274124649576463 tw985110396706347691 tw18371483441066967624 tw17014498372244584468 tw2370379444934799704 tw5672339141206105215 tw4008334836694465629 tw15779081528345860714 tw4259268149282818346 tw5307251230999410978 tw14408907360810093941 tw10554594533403961922 tw8664108373805056936 tw8053863118251387047 tw560146105967121173 tw8218465699688515373 tw15468127743803984125 tw5208721321955345097 tw3506803635018529126 tw2895016934367042791 tw1703954029993223787 tw9471671035186894560 tw6000493346457860729 tw10149594935800156875 tw667822208778365527 tw6138484577221932046 tw14710951906279815548 tw18280386083670437368 tw2238096421459074692 tw6212852699776831837 tw4606475013212869045 tw10166948545587237622 tw2199806058830756816 tw12358817397354137982 tw4323247644498765175 tw14345682304728511256 tw3735154216733705800 tw6098124115071738016 tw10449154613723826484 tw964232540609374137 tw11087203244009487103 tw9747694307704754703 tw5585375815408807590 tw16331741336815690623 tw2995487104024305260 tw13764533906608443324 tw6006008863270611549 tw7254331425261012605 tw9942369331004225329 tw9719522528252501578 tw609056629903112834 tw3004456767898831045 tw14141136631844328883 tw11551645252672605100 tw2571159389645643534 tw13513338635909280110 tw10261058433193650221 tw9802490002220839571 tw9225947521193526163 tw16443464627785692787 tw4833770586498507871 tw7046645041417150549 tw16739265416781551204 tw18400322145582763540 tw1040950996344543966 tw16051333400903749632 tw14913581498365621380 tw9109638353802592112 tw7658348889453241898 tw1622229028810791244 tw13211909594247158026 tw8171864641435811470 tw6766757936823692076 tw15840032283267898831 tw9206475591066124601 tw9627888787977238463 tw6270879356565153753 tw996982378481817641 tw11050070226161879898 tw12195992941290478085 tw18386450205907197461 tw9341283247452342922 tw13587354690370413415 tw7086403123669492772 tw2331436494247079374 tw11593253059604286000 tw12196590982649698987 tw7800582079604478222 tw8001623803267313291 tw6248186097054266633 tw11109706872291537087 tw3982993501657997182 tw10083628450104737545 tw3632500724382974973 tw6148710190613272132 tw12635195753429662050 tw15627073725089278582 tw4801134898271690827 tw5837041883197810068 tw12634280905819335723 tw929175180232083512 tw3377701278854569250 tw9092232395231098628 tw8651183455949260031 tw7228225394425974533 tw3745221654097904509 tw13780186863558986547 tw4631974199142338467 tw9829312146049896928 tw16763056846914792473 tw12554859552427949966 tw1085569487117869658 tw7286716916048506254 tw17727111511301068152 tw15921706627181107596 tw9954308478118124044 tw9217394110285110707 tw6782692878358119359 tw4798404347419388110 tw15847207465122115369 tw14960783362570538200 tw4627133459331433925 tw7801976385998217605 tw17089240980417140886 tw13100714237187656693 tw5496869168980832132 tw13072147078578293191 tw3975576193659793325 tw18075068494746772326 tw4134705698639513593 tw13128691544949765738 tw16684446283205243408 tw166736816023680726 tw15489149122056832076 tw10311681578226838939 tw16914688908786535482 tw814515266043370726 tw17904476983021593592 tw1738547434580758800 tw10130718053281025110 tw1394224623821256232 tw11959271547308206193 tw6540786620905395000 tw372224356371161555 tw5704766980961235372 tw557912300055624264 tw1990965075942658951 tw1372198405311222943 tw5539269228714272431 tw10989362750900054991 tw1266538449672752631 tw11012759232322070631 tw7127335503989761897 tw16775294197780827211 tw8207198365892957635 tw6877876465173302545 tw18412887221163478022 tw14365401601092981920 tw9846316679589777033 tw7839896855877326279 tw9279887547455728166 tw7503186899057889404 tw1347429482046008095 tw1290093701782694255 tw390599551628681951 tw5151694162580277539 tw5117947287198493988 tw196007077068473363 tw6734520552929073747 tw5300304225831565583 tw17517319894381004069 tw16431523328791897644 tw1182655763507128506 tw9207507130028980723 tw11840702961370000781 tw15707542247008513709 tw12929981324804681776 tw16554739058104334637 tw11686047731579436481 tw9567206927710337865 tw7175278736779423890 tw511092455445154103 tw4952880408382616295 tw2045750970720302481 tw12593496903598057107 tw14809757690264424892 tw11847913227088769659 tw2032258377423238762 tw6777934458393491620 tw2075095633531353910 tw3348190544367744956 tw3566861296801520466 tw2567927638224691617 tw17056740619673487669 tw6579252117466046815 tw371397470646032447 tw4864377105508376481 tw3609998372308486692 tw6912773800972376616 tw8084692947357287908 tw2578207896108685446 tw9952857156448732958 tw2136091345682882760:True)
open PySem PySem.W PyProof.Rows
set_option maxRecDepth 100000 in
set_option maxHeartbeats 0 in
theorem PySem.Challenge.cw_cleanrows_k62_best_told_holds : PySem.Challenge.rw_cleanrows_k62_best_told.Holds := by
 w_on;o_law;k_head;(case hw=>w_witness2)
 k_fill
 refine K62.walk 246 658 (l:=PySem.Challenge.rw_cleanrows_k62_best_told) rfl rfl (λw h Y=>⟨PySem.W.km_in_of Y,PySem.W.km_tabs_of Y⟩) (by decide) (by decide) (by decide) ?F
 case F =>
  intro w mg fa h KX G hmg
  refine' K62.all_mk KX G hmg ..
  all_goals try refine' ⟨_,_,?_,⟨⟨_,_,_,_,_,_,_,_,_,rfl,?_,?_⟩,?_⟩⟩
  all_goals try refine' ⟨_,_,?_,?_,⟨⟨_,_,_,_,_,_,_,_,_,rfl,?_,?_⟩,?_⟩⟩
  all_goals first|k_is|kit_is|k_exc|rfl|decide +kernel|skip
