import PyProof.Rows.All
import Wide.All
import OpenK.AllK
import Wide.FinOn
import Lean
import PyProof.EqAt
import PyProof.EqKinds
import PyProof.TupleCall
import KE.KUnpack
import PyProof.NeKinds
import PyProof.EnumFor
import PyProof.EnumStmt
import PyProof.EnumMake
import PyProof.Draws
import PyProof.StrWalks
import PyProof.Rows.FStr
import PyProof.Rows.CallKw2
import PyProof.StrBlockL
import KE.KIntText
import PyProof.ConsumeWalk
import PyProof.StrBlockG
import PyProof.CallStr
import PyProof.Rows.Range3
import PyProof.MeetsDict
import PyProof.DictList
import PyProof.StrLawsChain
import PyProof.StrLawsNeg
import KE.IntTextLaws
import KE.IntTextText
import PyProof.CallFns
import PyProof.CompUse
import PyProof.DictWalks
import KE.KDictSum
import PyProof.FString5
import KE.KLam
import KE.KSortKey
import KE.KNestM
import PyProof.Rows.RuleN_abs
import PyProof.WalkInts
import KE.KMinKey
import KE.KSortTup
import PyProof.DictCompW
import PyProof.SetRoads
import PyProof.SetNew
import KE.KEqDict
import PyProof.ListRange
import KE.KRevSl
import KE.LcSums
import PySem.Challenge.RW_cleanrows_k32_whole_marks_there_and_back
open PySem renaming wpAny_bind->we,Shared->JR,wpAny_pure->JT,Program->JZ,wpAny->J3,FuncData->J4,model->J6,mainGlobals->J9,Builtin->Kb,World->Ke,Expr->Kf,SetTable->Ki,Around->Kk,wpAny_holding->Ks,starEach->Kv,foldedSetIterable->Kw,boot_len->KA,compareOp->KG,wpAny_newObj_type->KI,wpAny_mono->KJ,NameKind->KO,attributeBase->KU,eval->KZ,intKind->K5,sizeLine_eq->K8,mem_of_lookup->K9,assignEach->La,Spec->Lb,wpAny_call_entry->Lg,PassesOwn->Lh,wpAny_standAt->Ll,binaryOp->Ly,wpAny_Call_Name_kw->Lz,cellsFrom->LB,wpAny_truthy_bool->LF,wpAny_setState_of->LG,letOwnedTupleGo->LK,wpAny_Call_method_late->LL,codeAny->LN,wpAny_setField->LP,codeAny_mono->LW,wpAny_callSpecial?_slot->L5,wpAny_askSetting->L6,pushCells->L8,wpAny_rule->Mc,tupleKind_room_in1->Md,rawInt->Me,call_meets->Mf,bootBuiltins->Mg,pushCells_keeps->Ml,codeAny_builtin->Mm,plainId_quiet->Mp,standAt->Mt,strIterType->Mx,backTo->MA,wpAny_updateSeq->MK,wpAny_passesOwn->ML,holding->MM,wpAny_Call_method0_late->MP,sliceBounds->MQ,pickOrder->MR,wpAny_typeOf->MT,wpAny_pyIter_list->MU,pyNext->MW,call_meetsIn->M5,typeIs_str->Nb,checkBuiltinCall->Nf,behindInMarks->Nh,wpAny_field->Ni,keywordEach->Nl,codeAny_call_builtin->Nn,wpAny_execs_nil->Np,evalArgs_none->Nt,wpAny_seqItems->Ny,firstArgMember->ND,IsPart->NH,wpAny_pyIter_strU->NN,wpAny_pyIter_enum->NO,assign->NU,argsOk->NV,ExceptHandler->NX,Comprehension->NY,tupleKind->N0,setField->N1,raiseNew->N2,getMethod->N8,compTurn->N9,valueAt->Od,getItem->Og,Within->Oj,intText?->Ot
open List renaming getElem?_eq_getElem->JQ,length_map->JS,getElem?_eq_some_iff->JX,mem_append_right->J0,mem_cons->J1,take_of_length_le->J2,size_toArray->J8,mem_cons_of_mem->Kc,getElem?_map->Kd,mem_cons_self->Kg,not_mem_nil->Kh,getD_eq_getElem?_getD->Kj,mem_of_getElem?->Kn,length_take->Kr,take_add_one->Kt,mem_append->Kx,map_append->Kz,length_append->KB,mem_append_left->KC,mem_map->KL,length_eq_zero_iff->KM,lookup->KP,range->KR,mem_singleton->KS,all_eq_true->KW,replicate->K2,length_cons->Le,map_cons->Li,getElem_mem->Lk,pairwise_cons->Lm,foldl_append->Lp,perm_ext_iff_of_nodup->Lw,length_singleton->LA,map_congr_left->LC,getElem_of_mem->LD,drop_eq_nil_of_le->LH,append_assoc->LI,mem_of_mem_take->LJ,map_map->LM,replicate_succ->LQ,length_eraseIdx_of_lt->LR,getElem?_eq_none->LU,drop_eq_getElem_cons->LV,flatMap_append->L9,filter_cons_of_pos->Ma,filter_cons_of_neg->Mb,take_append_drop->Mr,length_filter_le->Ms,lookup_cons->My,filter_cons->Mz,append_nil->MB,length_take_le'->MC,getElem?_append_right->MD,flatten_cons->MF,contains_iff_mem->MH,nodup_cons->MO,getElem?_cons_succ->MS,length_range->MY,length_pos_iff->MZ,getElem?_toArray->Na,find?_cons->Nd,cons_append->Nm,filterMap_cons->Nu,nil_append->NA,mem_filter->NB,length_nil->NC,length_drop->NP,nodup_append->NT,mem_range->N5,foldl_cons->Oh,of_mem_zip->Om,forIn_cons->On,any_cons->Os,take_zero->Ou,drop_zero->Ov
open PySem.Heap renaming get?_push_of_some->JU,get?_push_size->J7,lt_size->Kq,get?_update_other->Ld,get?_update_self->Lq,SameBut->Lr,size_push->L7
open PySem.W renaming Frag->JV,kia_one->Lf,mg_none_of->Lj,findIn->Lo,nsIn->ME,mg_of->M6,plainGet->N3,hasDictIn->N7,keepIn->Oe,instObj->Of
open PySem.Str renaming ofString->JW,length_append->Lu,empty->Nx
open Nat renaming le_refl->JY,lt_of_lt_of_le->Kl,le_trans->Kp,lt_of_le_of_lt->Ku,ne_of_lt->Ky,lt_of_succ_lt->KH,lt_irrefl->K4,zero_le->Lc,le_succ_of_le->LY,lt_succ_of_lt->Mq,lt_succ_self->MX,lt_trans->Nj,le_of_lt->Nk,eq_zero_or_pos->NG,le_succ->NQ,ne_of_gt->N4,le_of_eq->N6,min_eq_left->Ol,toDigits->Oo
open Or renaming inl->J5,inr->MJ
open Bool renaming false_ne_true->Ka,and_eq_true->KD,false_eq_true->LZ,eq_iff_iff->Mo,eq_false_iff->MG,not_eq_true'->Nv,false_and->NI,or_false->NZ
open Option renaming map_eq_some_iff->Km,some->KE,isSome_iff_exists->M0
open PySem.Value renaming ref->Ko,none->Mh,bool->Mi,int->MI,str->Ng,isInt->NR
open PySem.Txt renaming join->KF,split->K0,slice->Mn,rfind->MN
open PyProof.Rows renaming slot_tuple_getitem->KN,boot_str->Ls,boot_sorted->LO,strKind->LX,callWith_type1->Mu,IntsAre->Mv,AllBare->Nw,envOfC->Oi
open Array renaming getElem?_toList->KQ,length_toList->Ln,getElem?_eq_getElem->Lx,getD_eq_getD_getElem?->LS,toArray_toList->MV,getElem?_eq_some_iff->NJ
open Classical renaming byContradiction->KY
open Ne renaming symm->Lv
open PySem.Obj renaming data_mapFields->Mj,isFreed_of_fields->M7,cls_mapFields->NS,mapSeq->Oq
open Int renaming toNat_natCast->Mw
open PySem.F renaming slot_dict_values->Nc,plainAttrs_list->Nq,plainAttrs_dict->Nr,slot_str_split->Nz,args_dict_values_1->NF,slot_dict_delitem->NK,plain_extend_loop->NL,entry_dict_values->NM,type_dict_values->NW,plain_list_iadd->Oa,attr_ValueError->Ob,args_dict_get_3->Oc
open PySem.W (methodObj lookIn handedIn plainGet_of isFn plainOver takerIn makesIn emptyDict callWith_K callWith_K0 fnOf codeIn excIn clsIn)
open List (length foldl map_nil take range' Perm map_take map map_id all_append)
open PySem.Heap (Ns ExtBut)
open Nat (not_lt sub_self)
open Array (getD)
open Option (getD_none isSome_some isSome_map)
open PySem.Value (float type builtin)
open PyProof.Rows (KeyOrd)
open PySem.F (slot_tuple_add entry_tuple_add args_tuple_add_2 entry_str_split args_str_split_2 slot_dict_get)
local macro_rules | `(f!$_)=>`(by decide +kernel)
set_option Elab.async false
set_option linter.all false
set_option autoImplicit true
set_option maxRecDepth 100000
namespace L2
open PySem PySem.Spec PyProof.Rows
abbrev WH:PySem.Str:="_law_draw"
abbrev WG:PySem.Str:="files"
abbrev WE:PySem.Str:="__init__"
abbrev WD:PySem.Str:="next_number"
abbrev WC:PySem.Str:="mark_number"
abbrev WB:PySem.Str:="birth"
abbrev WA:PySem.Str:="refuse_if_not_held"
abbrev Wz:PySem.Str:="_law_drawn"
abbrev Wy:PySem.Str:="take_number"
abbrev Wx:PySem.Str:="_law_state_right"
abbrev Ww:PySem.Str:="take_later_name"
abbrev Wv:PySem.Str:="refuse_if_none"
abbrev Wu:PySem.Str:="spots"
abbrev Wt:PySem.Str:="_law_files_words"
abbrev Ws:PySem.Str:="_law_same_files"
abbrev Wr:PySem.Str:="take_word"
abbrev Wq:PySem.Str:="is_within"
abbrev Wp:PySem.Str:="many"
abbrev Wo:PySem.Str:="_law_living"
abbrev Wn:PySem.Str:="is_number_text"
abbrev Wm:PySem.Str:="_law_named"
abbrev Wl:PySem.Str:="is_made_of"
abbrev Wk:PySem.Str:="_law_words"
abbrev Wj:PySem.Str:="is_at_end"
abbrev Wi:PySem.Str:="mark_text"
abbrev Wh:PySem.Str:="_law_text"
abbrev Wg:PySem.Str:="first_state"
abbrev Wf:PySem.Str:="table_words"
abbrev ZY:List PySem.Str:=["self"]
abbrev Zg:List PySem.Str:=["self","files","spots","next_number","mark_number"]
abbrev YR:List PySem.Str:=["_law_pot_here","_law_many"]
abbrev YF:List PySem.Str:=["_law_state","_law_plain","_law_kept","_law_spots_here","_law_numbers"]
abbrev YD:List PySem.Str:=["self","name"]
abbrev YA:List PySem.Str:=["_law_plain","_law_kept","_law_spots_here","_law_following","_law_number"]
abbrev Yz:List PySem.Str:=["_law_script","_law_elder","_law_k","_law_pot_here","_law_files_here","_law_plain","_law_kept","_law_spots_here","_law_left","_law_handed","_law_numbers","_law_state","_law_text_here"]
abbrev Yy:List PySem.Str:=["_law_pot_here","_law_some"]
abbrev Yt:List PySem.Str:=["self","file"]
abbrev Yh:List PySem.Str:=["_law_text_here","_law_plain","_law_kept","_law_spots_here","_law_numbers"]
abbrev X0:List PySem.Str:=["_law_pot_here","_law_files_here","_law_plain","_law_kept","_law_menu"]
abbrev XZ:List PySem.Str:=["_law_pot_here"]
abbrev XY:List PySem.Str:=["_law_script","_law_k"]
abbrev XW:List PySem.Str:=["_law_pot_here","_law_spots_here"]
abbrev XH:List PySem.Str:=["self","file","place","birth"]
abbrev XE:List PySem.Str:=["_law_pot_here","_law_files_here","_law_plain","_law_menu"]
abbrev XC:List PySem.Str:=["_law_plain","_law_kept","_law_spots_here","_law_following","_law_number","_law_words_here","_law_name","_law_spot"]
abbrev Xw:List PySem.Str:=["value","least","most"]
abbrev Xd:List PySem.Str:=["text","signs","most"]
abbrev Xc:List PySem.Str:=["text"]
abbrev Xb:List PySem.Str:=["_law_pot_here","_law_files_here","_law_plain"]
abbrev Xa:List PySem.Str:=["self","name","files"]
abbrev W9:List PySem.Str:=["self","file","place"]
abbrev W8:List PySem.Str:=["_law_files_here","_law_plain","_law_kept"]
abbrev W7:List PySem.Str:=["_law_pot_here","_law_files_here","_law_plain","_law_kept","_law_menu","_law_turn"]
abbrev W6:List PySem.Str:=["_law_pot_here","_law_plain","_law_kept"]
abbrev W0:List PySem.Str:=["words"]
abbrev WZ:List PySem.Str:=["birth","stretch","place"]
abbrev WY:List PySem.Str:=["_law_plain","_law_kept"]
abbrev WX:List PySem.Str:=["_law_text_here"]
abbrev WW:List PySem.Str:=["self","file","many"]
abbrev WV:List PySem.Str:=["_law_files_here","_law_plain"]
abbrev WU:List PySem.Str:=["_law_files_here","_law_plain","_law_name","_law_births"]
abbrev WT:List PySem.Str:=["words","mark_number","next_number","files","spots"]
abbrev WS:List PySem.Str:=["_law_words_here"]
abbrev WR:List PySem.Str:=["state","spots","words","birth","stretch","place"]
abbrev WQ:List PySem.Str:=["files"]
abbrev WO:List PySem.Str:=["_law_files_here","_law_words_here","_law_name"]
abbrev WN:List PySem.Str:=["words","name"]
abbrev WM:List PySem.Str:=["_law_place","_law_files_here","_law_name"]
abbrev WL:List PySem.Str:=["self","text"]
abbrev WK:List PySem.Str:=["_law_script"]
abbrev WJ:List PySem.Str:=["_law_k","_law_pot_here","_law_letters"]
abbrev WI:List PySem.Str:=["_law_one","_law_left","_law_pot_here"]
structure W(p:Prop):Prop where
 h:p
abbrev Key:=Sum Int Str
def dz:Key->Value->Bool
 | .inl k,v=>NR k v
 | .inr x,v=>Value.isStrOf x v
def Am(w:Ke):Key->Int
 | .inl k=>hashInt k
 | .inr x=>hashStr w x
theorem cG:∀{k:Key}{v:Value},dz k v=true->(∃i t,k=Sum.inl i/\v=MI i t)\/(∃x t,k=Sum.inr x/\v=Ng x t)
 | .inl i,v,h=>by
  obtain ⟨t,e⟩:=Value.isInt_shape (k:=i) (v:=v) h;exact .inl ⟨i,t,rfl,e⟩
 | .inr x,v,h=>by
  obtain ⟨t,e⟩:=Value.isStrOf_shape (x:=x) (v:=v) h;exact .inr ⟨x,t,rfl,e⟩
theorem y9(i:Int)(t:Tok):dz (.inl i) (.int i t)=true:=by simp [dz,NR]
theorem Hq(x:Str)(t:Tok):dz (.inr x) (.str x t)=true:=by simp [dz,Value.isStrOf]
theorem Dj(a b:Int):decide ((Sum.inl a:Key)=Sum.inl b)=(a==b):=by
 by_cases e:a=b
 .subst e;simp
 .have h : ¬ (Sum.inl a:Key)=Sum.inl b:=λq=>e (Sum.inl.inj q);rw [decide_eq_false h];exact (beq_eq_false_iff_ne.mpr e).symm
theorem GU(a b:Str):decide ((Sum.inr a:Key)=Sum.inr b)=decide (a=b):=by
 by_cases e:a=b
 .subst e;simp
 .have h : ¬ (Sum.inr a:Key)=Sum.inr b:=λq=>e (Sum.inr.inj q);rw [decide_eq_false h,decide_eq_false e]
theorem Dn(a:Int)(b:Str):decide ((Sum.inl a:Key)=Sum.inr b)=false:=decide_eq_false (λq=>nomatch q)
theorem ED(a:Str)(b:Int):decide ((Sum.inr a:Key)=Sum.inl b)=false:=decide_eq_false (λq=>nomatch q)
def aw(prog:JZ)(w:Ke):PySem.KeyKind prog w Key where
 is:=dz
 hash:=Am w
 inj:=λv a b ha hb=>by
  rcases cG ha with ⟨i,t,rfl,rfl⟩|⟨x,t,rfl,rfl⟩
  .rcases cG hb with ⟨j,u,rfl,e⟩|⟨y,u,rfl,e⟩
   .injection e with e1 _;rw [e1]
   .exact nomatch e
  .rcases cG hb with ⟨j,u,rfl,e⟩|⟨y,u,rfl,e⟩
   .exact nomatch e
   .injection e with e1 _;rw [e1]
 byValue:=λk v h=>by
  rcases cG h with ⟨i,t,rfl,rfl⟩|⟨x,t,rfl,rfl⟩<;>rfl
 pyHash:=λhv h=>by
  rcases cG hv with ⟨i,t,rfl,rfl⟩|⟨x,t,rfl,rfl⟩
  .exact wpAny_pyHash_int h
  .exact wpAny_pyHash_str h
 eqBool:=λz hv h=>by
  rcases cG z with ⟨i,t,rfl,rfl⟩|⟨x,t,rfl,rfl⟩
  .rcases cG hv with ⟨j,u,rfl,rfl⟩|⟨y,u,rfl,rfl⟩
   .rw [Dj] at h;exact wpAny_eqBool_int h
   .rw [Dn] at h;exact SeqAt.EqAt.int_str i t y u _ _ _ _ h
  .rcases cG hv with ⟨j,u,rfl,rfl⟩|⟨y,u,rfl,rfl⟩
   .rw [ED] at h;exact SeqAt.EqAt.str_int x t j u _ _ _ _ h
   .rw [GU] at h;exact wpAny_eqBool_str h
 «strs»:=λk x t v h=>by
  rcases cG h with ⟨i,u,rfl,e⟩|⟨y,u,rfl,e⟩
  .exact nomatch e
  .injection e with e1 _
   subst e1;cases v<;>rfl
theorem x8(prog:JZ)(w:Ke)(i:Int)(t:Tok):(aw prog w).is (.inl i) (.int i t)=true:=y9 i t
theorem DS(prog:JZ)(w:Ke)(x:Str)(t:Tok):(aw prog w).is (.inr x) (.str x t)=true:=Hq x t
inductive V where
 | non|bl (b:Bool)|int (i:Int)|str (x:Str)|byt (b:Array UInt8)|flt (b:UInt64)|ref (a:Addr)|ty (n:String)
 deriving DecidableEq
def zl:V->Value->Prop
 | .non,u=>u=Mh
 | .bl b,u=>u=Mi b
 | .int i,u=>∃t,u=MI i t
 | .str x,u=>∃t,u=Ng x t
 | .byt b,u=>∃t,u=Value.bytes b t
 | .flt b,u=>∃t,u=float b t
 | .ref a,u=>u=Ko a
 | .ty n,u=>u=type n
abbrev zm:List V->List Value->Prop:=Paired zl
theorem zm.length(r:zm xs us):xs.length=us.length:=Paired.length r
theorem zm.get:∀{xs:List V}{us:List Value}{i:Nat}{x:V},zm xs us->xs[i]?=some x->∃u,us[i]?=some u/\zl x u
 | _,_,_,_,.nil,e=>by simp at e
 | _,_,0,_,.cons r _,e=>by simp at e;subst e;exact ⟨_,rfl,r⟩
 | _,_,i+1,x,.cons _ t,e=>by
  obtain ⟨u,h1,h2⟩:=zm.get (i:=i) (x:=x) t (by simpa using e);exact ⟨u,by simpa using h1,h2⟩
theorem zm.set(r:zl x u):∀{xs:List V}{us:List Value}(i:Nat),zm xs us->zm (xs.set i x) (us.set i u)
 | _,_,_,.nil=>.nil
 | _,_,0,.cons _ t=>.cons r t
 | _,_,i+1,.cons q t=>.cons q (zm.set r i t)
theorem zm.append(h:zm xs us)(k:zm ys ws):zm (xs++ys) (us++ws):=by
 induction h with
 | nil=>exact k
 | cons r t z=>exact .cons r z
theorem zm.take:∀{xs:List V}{us:List Value}(n:Nat),zm xs us->zm (xs.take n) (us.take n)
 | _,_,0,_=>.nil
 | _,_,_+1,.nil=>.nil
 | _,_,n+1,.cons r t=>.cons r (zm.take n t)
theorem zm.drop:∀{xs:List V}{us:List Value}(n:Nat),zm xs us->zm (xs.drop n) (us.drop n)
 | _,_,0,r=>r
 | _,_,_+1,.nil=>.nil
 | _,_,n+1,.cons _ t=>zm.drop n t
def aX:Option V->Option Value->Prop
 | some v,some u=>zl v u
 | none,none=>True
 | _,_=>False
def KV{κ:Type}:List (κ×V)->List (κ×Value)->Prop:=Paired λ(p:κ×V)(q:κ×Value)=>p.1=q.1/\zl p.2 q.2
def kV:Key->V
 | .inl i=>.int i
 | .inr x=>.str x
inductive HO where
 | lst (xs:List V)
 | tup (xs:List V)
 | dK (kvs:List (Key×V))|dT (kvs:List (List Key×V))
 | set (S:Int->Bool) (n:Nat)
 | ins (C dx:Addr) (fs:List (Str×V))
 | own (x:Addr)
 | xd (fs:List (Str×V))
 | met (f x:Addr)
 | rng (lo hi:Int)
 | frz (o:Obj) (u:HO)
 | tbl (ps:Array Value)
 | ext (φ:Heap->Prop)
abbrev Hp:=Addr->Option HO
def upd(H:Hp)(a:Addr)(o:HO):Hp:=λb=>if b=a then some o else H b
theorem zq{a:Addr}{o:HO}:upd H a o a=some o:=by unfold upd;rw [if_pos rfl]
theorem zf{a b:Addr}{o:HO}(h:b≠a):upd H a o b=H b:=by unfold upd;rw [if_neg h]
theorem qj{a:Addr}{o u:HO}:upd (upd H a o) a u=upd H a u:=by
 funext b;unfold upd;split<;>rfl
theorem xE{H:Hp}{a b:Addr}{o u:HO}(h:H a=some o)(h':H b=some u)(d:o≠u):a≠b:=by
 intro e;subst e;rw [h] at h';exact d (KE.inj h')
theorem zH{H:Hp}{a b:Addr}{o:HO}(h:H a=some o)(h':H b=none):a≠b:=by
 intro e;subst e;rw [h] at h';cases h'
section
variable (P:JZ) (w:Ke)
def z7(H:Hp)(h:Heap)(a:Addr):HO->Prop
 | .lst xs=>xs.length<=sizeLine/\∃(z:List Value)(n:Nat),zm xs z/\h.get? a=some { cls:=.type "list",data:=.seq z.toArray n }
 | .tup xs=>xs.length<=sizeLine/\∃z:List Value,zm xs z/\IsTup h a z.toArray
 | .dK kvs=>kvs.length<=sizeLine/\(a==sysModules)=false/\∃vs,KV kvs vs/\h.DictOf (aw P w) a vs
 | .dT kvs=>kvs.length<=sizeLine/\(a==sysModules)=false/\∃xs:List (List Key×Addr×Value),
   Paired (λ(p:List Key×V)(q:List Key×Addr×Value)=>p.1=q.1/\H q.2.1=some (.tup (p.1.map kV))/\zl p.2 q.2.2) kvs xs /\
   ∃o es ep,h.get? a=some o/\o.ExactDict/\o.data = .dict es ep/\es.toList=xs.map (entryOfKey (N0 (aw P w)))/\(xs.map (·.1)).Nodup
 | .set S n=>h.SetOf (intKind P w) a S n
 | .ins C dx fs=>H dx=some (.own a)/\fs.length<=1000/\dx≠a/\h.get? a=some (Of C dx) /\
   ∃mA,h.Ns1 dx mA/\(∀f,aX (fs.lookup f) (mA f))/\Oj mA (fs.map (·.1))
 | .own _=>∃o,h.get? a=some o
 | .xd fs=>∃mA,h.Ns1 a mA/\∀f,aX (fs.lookup f) (mA f)
 | .rng lo hi=>∃t u v,h.get? a=some { cls:=.type "range",data:=.fields #[.int lo t,.int hi u,.int 1 v] }
 | .frz o u=>h.get? a=some o/\z7 H h a u
 | .tbl ps=>h.get? a=some { cls:=.none,data:=.fields ps }
 | .met f x=>h.get? a=some (methodObj (.ref f) (.ref x))
 | .ext F=>F h/\(∃o,h.get? a=some o)/\∀h1 h2:Heap,F h1->(∀o,h1.get? a=some o->h2.get? a=some o)->F h2
def HOk(H:Hp)(h:Heap):Prop:=∀a o,H a=some o->z7 P w H h a o
end
section
variable {P:JZ}{w:Ke}{H H':Hp}{h h':Heap}{a:Addr}{o:HO}
theorem z7.lt(x:z7 P w H h a o):a<h.objs.size:=by
 cases o with
 | lst xs=>obtain ⟨_,_,_,_,e⟩:=x;exact Kq e
 | tup xs=>obtain ⟨_,_,_,p⟩:=x;exact p.lt
 | dK kvs=>obtain ⟨_,_,_,_,o,_,_,e,_⟩:=x;exact Kq e
 | dT kvs=>obtain ⟨_,_,_,_,o,_,_,e,_⟩:=x;exact Kq e
 | set S n=>obtain ⟨o,_,_,_,e,_⟩:=x;exact Kq e
 | ins C dx fs=>obtain ⟨_,_,_,e,_⟩:=x;exact Kq e
 | own y=>obtain ⟨_,e⟩:=x;exact Kq e
 | xd fs=>obtain ⟨_,⟨_,_,_,e,_⟩,_⟩:=x;exact Kq e
 | rng lo hi=>obtain ⟨_,_,_,e⟩:=x;exact Kq e
 | frz ob u=>obtain ⟨e,_⟩:=x;exact Kq e
 | tbl ps=>exact Kq (show h.get? a=some _ from x)
 | met f y=>exact Kq (show h.get? a=some _ from x)
 | ext z=>obtain ⟨_,⟨_,e⟩,_⟩:=x;exact Kq e
theorem Paired.ri{α β:Type}{F G:α->β->Prop}{z:List α}{l₂:List β}(h:Paired F z l₂)(f:∀a b,F a b->G a b):Paired G z l₂:=by
 induction h with
 | nil=>exact .nil
 | cons r t J=>exact .cons (f _ _ r) J
theorem z7.Oy(x:z7 P w H h a o)(k:∀b u,(b=a\/H b=some (.own a))->h.get? b=some u->h'.get? b=some u)
  (ho:∀b,H b=some (.own a)->H' b=some (.own a)) (J:∀b xs,H b=some (.tup xs)->H' b=some (.tup xs)):z7 P w H' h' a o:=by
 induction o with
 | lst xs=>obtain ⟨z,G,n,r,e⟩:=x;exact ⟨z,G,n,r,k _ _ (.inl rfl) e⟩
 | tup xs=>obtain ⟨z,G,r,ob,e,c⟩:=x;exact ⟨z,G,r,ob,k _ _ (.inl rfl) e,c⟩
 | dK kvs=>obtain ⟨z,y,vs,r,ob,es,ep,e,c⟩:=x;exact ⟨z,y,vs,r,ob,es,ep,k _ _ (.inl rfl) e,c⟩
 | dT kvs =>
  obtain ⟨z,y,xs,r,ob,es,ep,e,c⟩:=x;exact ⟨z,y,xs,Paired.ri r λp q z=>⟨z.1,J _ _ z.2.1,z.2.2⟩,ob,es,ep,k _ _ (.inl rfl) e,c⟩
 | set S n=>obtain ⟨ob,es,ep,t,e,c⟩:=x;exact ⟨ob,es,ep,t,k _ _ (.inl rfl) e,c⟩
 | ins C dx fs =>
  obtain ⟨d,z,ne,e,mA,⟨F,es,ep,U,c⟩,r⟩:=x;exact ⟨ho _ d,z,ne,k _ _ (.inl rfl) e,mA,⟨F,es,ep,k _ _ (.inr d) U,c⟩,r⟩
 | own y=>obtain ⟨ob,e⟩:=x;exact ⟨ob,k _ _ (.inl rfl) e⟩
 | xd fs=>obtain ⟨mA,⟨F,es,ep,e,c⟩,r⟩:=x;exact ⟨mA,⟨F,es,ep,k _ _ (.inl rfl) e,c⟩,r⟩
 | rng lo hi=>obtain ⟨t,u,v,e⟩:=x;exact ⟨t,u,v,k _ _ (.inl rfl) e⟩
 | frz ob u O=>obtain ⟨e,q⟩:=x;exact ⟨k _ _ (.inl rfl) e,O q⟩
 | tbl ps =>
  have e:h.get? a=some { cls:=.none,data:=.fields ps }:=x;show h'.get? a=some { cls:=.none,data:=.fields ps };exact k a _ (.inl rfl) e
 | met f y =>
  have e:h.get? a=some (methodObj (.ref f) (.ref y)):=x;show h'.get? a=some (methodObj (.ref f) (.ref y));exact k a _ (.inl rfl) e
 | ext W=>obtain ⟨p,⟨o,e⟩,st⟩:=x;exact ⟨st _ _ p λo q=>k _ _ (.inl rfl) q,⟨o,k _ _ (.inl rfl) e⟩,st⟩
theorem HOk.lt(x:HOk P w H h)(e:H a=some o):a<h.objs.size:=(x a o e).lt
theorem HOk.fresh(x:HOk P w H h)(e:h.objs.size<=a):H a=none:=by
 cases q:H a with
 | none=>rfl
 | some u=>exact absurd (Kl (x.lt q) e) (K4 _)
theorem HOk.kept(x:HOk P w H h)(k:∀b u,h.get? b=some u->h'.get? b=some u):HOk P w H h':=λa o e =>
 (x a o e).Oy (λb u _ q=>k b u q) (λ_ q=>q) λ_ _ q=>q
theorem HOk.laid(x:HOk P w H h)(k:∀b u,h.get? b=some u->h'.get? b=some u)(F:h.objs.size<=a)(new:z7 P w (upd H a o) h' a o):HOk P w (upd H a o) h':=λb u e=>by
 have z:=x.fresh F;by_cases hb:b=a
 .subst hb;rw [zq] at e;cases e;exact new
 .rw [zf hb] at e;exact (x b u e).Oy (λc v _ q=>k c v q) (λc q=>by rw [zf (zH q z)];exact q) λc xs q=>by rw [zf (zH q z)];exact q
end
def Rd(H:Hp)(a:Addr)(u:HO):Prop:=H a=some u\/∃o,H a=some (.frz o u)
theorem Rd.ok{a:Addr}(r:Rd H a u)(x:HOk P w H h):z7 P w H h a u:=by
 rcases r with r|⟨o,r⟩
 .exact x a u r
 .obtain ⟨_,q⟩:=x a _ r;exact q
def Mut:Option HO->Prop
 | some (.lst _)=>True
 | some (.dK _)=>True
 | some (.dT _)=>True
 | some (.set _ _)=>True
 | some (.ins _ _ _)=>True
 | some (.ext _)=>True
 | _=>False
section
variable {P:JZ}{w:Ke}{H:Hp}{h h':Heap}{x e:Addr}{o':HO}
theorem HOk.write(ok:HOk P w H h)(O:Mut (H x))(he:e=x\/H e=some (.own x))(k:∀b u,b≠e->h.get? b=some u->h'.get? b=some u)(S:∃u,h'.get? e=some u)
  (new:z7 P w (upd H x o') h' x o'):HOk P w (upd H x o') h':=λb u q=>by
 have G:∀c y,H c=some (.own y)->c≠x:=λc y r z=>by subst z;rw [r] at O;exact O
 have J:∀c xs,H c=some (.tup xs)->c≠x:=λc xs r z=>by subst z;rw [r] at O;exact O
 by_cases hb:b=x
 .subst hb;rw [zq] at q;cases q;exact new
 .rw [zf hb] at q;by_cases F:b=e
  .have U:H b=some (.own x):=by
    rcases he with z|z
    .exact absurd (F.trans z) hb
    .rw [F];exact z
   rw [q] at U;cases U;obtain ⟨v,hv⟩:=S;exact ⟨v,by rw [F];exact hv⟩
  .refine (ok b u q).Oy (λc v hc r=>k c v ?_ r) (λc r=>by rw [zf (G c b r)];exact r) λc xs r=>by rw [zf (J c xs r)];exact r
   rcases hc with rfl|hc
   .exact F
   .rintro rfl;rcases he with z|z
    .exact G c b hc z
    .rw [hc] at z;cases z;exact hb rfl
end
structure Un(fs ex:List Addr)(H H':Hp)(h h':Heap):Prop where
 keep:∀b o,h.get? b=some o->H b=none->b∉fs->b∉ex->h'.get? b=some o
 slot:∀b o,h.get? b=some o->H b=none->b∈fs->b∉ex->∃sl,h'.get? b=some { o with slots:=sl }
 free:∀b o,h.get? b=some o->H b=none->b∉ex->H' b=none
 there:∀b o,h.get? b=some o->b∉ex->∃o',h'.get? b=some o'
 tups:∀b xs,H b=some (.tup xs)->H' b=some (.tup xs)
 frzs:∀b o u,H b=some (.frz o u)->H' b=some (.frz o u)
 tbls:∀b ps,H b=some (.tbl ps)->∃more,H' b=some (.tbl (ps++more))
section
variable {fs fs' ex ex':List Addr}{H H1 H2:Hp}{h h1 h2 h':Heap}{a x e:Addr}{o:HO}
theorem Un.any(u:Un fs ex H H1 h h1){b:Addr}(q:h.get? b=some ob)(n:H b=none)(hx:b∉ex):∃sl,h1.get? b=some { ob with slots:=sl }:=by
 by_cases hb:b∈fs
 .exact u.slot b ob q n hb hx
 .exact ⟨ob.slots,u.keep b ob q n hb hx⟩
theorem Un.kept(k:∀b u,h.get? b=some u->h'.get? b=some u):Un fs ex H H h h' :=
 ⟨λb ob q _ _ _=>k b ob q,λb ob q _ _ _=>⟨ob.slots,k b ob q⟩,λ_ _ _ n _=>n,λb ob q _=>⟨ob,k b ob q⟩,λ_ _ q=>q,λ_ _ _ q=>q,λ_ ps q=>⟨#[],by rw [q];simp⟩⟩
theorem Un.refl:Un fs ex H H h h:=Un.kept λ_ _ q=>q
theorem Un.laid(k:∀b u,h.get? b=some u->h'.get? b=some u)(F:h.objs.size<=a)(z:H a=none):Un fs ex H (upd H a o) h h' where
 keep:=λb u q _ _ _=>k b u q
 slot:=λb u q _ _ _=>⟨u.slots,k b u q⟩
 free:=λb u q n _=>by rw [zf (Ky (Kl (Kq q) F))];exact n
 there:=λb u q _=>⟨u,k b u q⟩
 tups:=λb xs q=>by rw [zf (zH q z)];exact q
 frzs:=λb u xs q=>by rw [zf (zH q z)];exact q
 tbls:=λb ps q=>⟨#[],by rw [zf (zH q z),q];simp⟩
theorem Un.write(G:Mut (H x))(he:e=x\/H e=some (.own x))(k:∀b u,b≠e->h.get? b=some u->h'.get? b=some u)(J:∃u,h'.get? e=some u):Un fs ex H (upd H x o) h h':=by
 have hx:∀b,H b=none->b≠x:=λb n z=>by subst z;rw [n] at G;exact G
 have hb:∀b,H b=none->b≠e:=λb n z=>by
  subst z;rcases he with r|r
  .exact hx b n r
  .rw [n] at r;cases r
 have hm:∀b u,H b=some u->¬ Mut (some u)->b≠x:=λb u q nm z=>by subst z;rw [q] at G;exact nm G
 refine ⟨λb u q n _ _=>k b u (hb b n) q,λb u q n _ _=>⟨u.slots,k b u (hb b n) q⟩,λb u q n _=>by rw [zf (hx b n)];exact n,λb u q _=>?_,
  λb xs q=>by rw [zf (hm b _ q λz=>z)];exact q,λb u xs q=>by rw [zf (hm b _ q λz=>z)];exact q,λb ps q=>⟨#[],by rw [zf (hm b _ q λz=>z),q];simp⟩⟩
 by_cases F:b=e
 .subst F;exact J
 .exact ⟨u,k b u F q⟩
end
def trk(h:Heap)(H:Hp):List Addr:=(KR h.objs.size).filter λa=>(H a).isSome
def dA(h:Heap)(H:Hp):Heap:=PySem.W.hideAll h (trk h H)
theorem EK(h:Heap)(H:Hp):(dA h H).objs.size=h.objs.size:=PySem.W.hideAll_size _ _
theorem Cg{b:Addr}{o:Obj}(e:h.get? b=some o)(n:H b=none):(dA h H).get? b=some o :=
 PySem.W.hideAll_get _ e λhm=>by
  have q:(H b).isSome=true:=(NB.mp hm).2;rw [n] at q;simp at q
theorem JL{b:Addr}{o:Obj}(e:(dA h H).get? b=some o):h.get? b=some o/\H b=none:=by
 have F:h.get? b=some o:=PySem.W.of_hideAll (trk h H) e;refine ⟨F,?_⟩;cases q:H b with
 | none=>rfl
 | some x =>
  have hm:b∈trk h H:=NB.mpr ⟨N5.mpr (Kq F),by simp [q]⟩;have z:(dA h H).get? b=none:=PySem.W.hideAll_none (trk h H) hm;rw [z] at e;cases e
structure Mod(K:JV)(mg:Str->Option Value)(base:Heap):Prop where
 QE:K.In base
 glob:base.Ns J9 mg
 blt:∃mb,base.Ns builtinsNs mb/\∀x:Str,x≠"__name__"->mb x=Mg x
 nolimit:base.NoLimit
def g9(A:Kk)(H:Hp):Prop:=A.handled=none\/∃(a:Addr)(o:Obj)(vs:Array Value),A.handled=some (.ref a)/\H a=some (.frz o (.own 0))/\o.data = .fields vs/\vs[2]?=some .none/\∃C,o.cls = .ref C
theorem g9.same(x:g9 A H)(k:∀b o u,H b=some (.frz o u)->H' b=some (.frz o u)):g9 A H':=by
 rcases x with x|⟨a,o,vs,h1,h2,z⟩
 .exact .inl x
 .exact .inr ⟨a,o,vs,h1,k _ _ _ h2,z⟩
structure Cx where
 prog:JZ
 w:Ke
 K:JV
 mg:Str->Option Value
 base:Heap
 A:Kk
 N:List Str
 s₀:JR
 H₀:Hp
 env:Env
 outer:List Env
 stack:List Env
 ex:List Addr
 fn:Str->Bool
 calm:Bool
 pn:List (Addr×Obj)
 xe:Value->JR->Prop
def frs(l:List Env):List Addr:=l.filterMap (·.frame)
abbrev Cx.fs(X:Cx):List Addr:=frs X.outer
def Vis(sc:Scope)(x:Str):Prop:=sc.names.lookup x=some .local\/sc.names.lookup x=some .cell\/sc.names.lookup x=some .free
def Loc(sc:Scope)(x:Str):Prop:=sc.names.lookup x=some .local\/sc.names.lookup x=some .cell
def Ec(env:Env)(h:Heap)(m:Str->Option Value)(x:Str)(u:Value):Prop :=
 (env.kindOf x=some .local/\m x=some u)\/((env.kindOf x=some .cell\/env.kindOf x=some .free)/\∃c,env.cells.lookup x=some c/\h.IsCell c (some u))
structure Cx.Ok(X:Cx):Prop where
 mod:Mod X.K X.mg X.base
 kind:X.env.scope.kind = .function
 glob:X.env.globals=J9
 blt:X.env.builtins=builtinsNs
 above:X.s₀.heap.objs.size<=X.env.locals
 inj:∀x y c,X.env.cells.lookup x=some c->X.env.cells.lookup y=some c->x=y
 has:∀x,(X.env.kindOf x=some .cell\/X.env.kindOf x=some .free)->∃c,X.env.cells.lookup x=some c
 Qn:∀x c,X.fn x=true->X.env.cells.lookup x=some c->X.s₀.heap.objs.size<=c
 hd:X.calm=true->X.A.handled=none
 frames:X.A.frames=some X.stack
 Qp:X.stack=X.outer\/(X.stack=X.env::X.outer/\X.env.frame=some X.env.locals)
 QK:∀b∈X.ex,b≠X.env.locals/\∀x c,X.env.cells.lookup x=some c->c≠b
 bs:∀b o,X.base.get? b=some o->X.s₀.heap.get? b=some o/\X.H₀ b=none
 PP:X.base.objs.size<=X.s₀.heap.objs.size
 Pt:∀b o,X.base.get? b=some o->b∉X.ex
 PH:∀b∈X.ex,b∉X.fs
 E2:X.s₀.heap.FunFrames X.base X.outer
 PZ:∀b∈X.fs,X.H₀ b=none
structure Inv(X:Cx)(Go:List (Addr×Obj))(σ:List (Option V))(H:Hp)(s:JR):Prop where
 ok:X.Ok
 os:s.os=X.s₀.os
 bare:Nw s.gens
 base:Un X.fs X.ex X.H₀ H X.s₀.heap s.heap
 loc:∃m,s.heap.Ns X.env.locals m/\∀(i:Nat)(x:Str)(v:V),X.N[i]?=some x->σ[i]?=some (some v)->Vis X.env.scope x->∃u,zl v u/\Ec X.env s.heap m x u
 cell:∀x c,X.env.cells.lookup x=some c->∃v,s.heap.IsCell c v
 free:H X.env.locals=none
 wa:∀x c,X.env.cells.lookup x=some c->H c=none
 pin:∀p∈X.pn++Go,s.heap.get? p.1=some p.2/\H p.1=none/\p.1≠X.env.locals/\p.1∉X.fs/\∀v,p.2.data≠.cell v
 hok:HOk X.prog X.w H s.heap
 len:σ.length=X.N.length
 hdk:g9 X.A H
section
variable {X:Cx}{Go:List (Addr×Obj)}{σ:List (Option V)}{H H':Hp}{s:JR}{h':Heap}
theorem Cx.Ok.QI(ok:X.Ok){b:Addr}{o:Obj}(e:X.base.get? b=some o):b∉X.fs:=λhb=>by
 have:=(ok.E2.mem hb).1;rw [e] at this;cases this
theorem Inv.bs(I:Inv X Go σ H s):∀b o,X.base.get? b=some o->s.heap.get? b=some o/\H b=none:=λb o e =>
 ⟨I.base.keep b o (I.ok.bs b o e).1 (I.ok.bs b o e).2 (I.ok.QI e) (I.ok.Pt b o e),I.base.free b o (I.ok.bs b o e).1 (I.ok.bs b o e).2 (I.ok.Pt b o e)⟩
theorem Inv.bk(I:Inv X Go σ H s):∀b o,X.base.get? b=some o->s.heap.get? b=some o:=λb o e=>(I.bs b o e).1
theorem Inv.mod(I:Inv X Go σ H s):Mod X.K X.mg X.base:=I.ok.mod
theorem Inv.z4(I:Inv X Go σ H s):X.K.In s.heap:=I.ok.mod.QE.keeps I.bk
theorem Inv.lt(I:Inv X Go σ H s):X.env.locals<s.heap.objs.size:=let ⟨_,hn,_⟩:=I.loc;hn.lt
theorem Inv.sz(I:Inv X Go σ H s):X.s₀.heap.objs.size<=s.heap.objs.size:=Kp I.ok.above (Nk I.lt)
theorem Inv.Qu(I:Inv X Go σ H s){a:Addr}(h:s.heap.objs.size<=a):a∉X.fs:=λhb=>by
 obtain ⟨_,o,ho,_⟩:=I.ok.E2.mem hb;exact absurd (Kl (Kq ho) (Kp I.sz h)) (K4 _)
theorem Inv.cne(I:Inv X Go σ H s):∀x c,X.env.cells.lookup x=some c->c≠X.env.locals:=λx c e z=>by
 obtain ⟨v,o,ho,hd⟩:=I.cell x c e;obtain ⟨m,⟨o',es,ep,G,F,_⟩,_⟩:=I.loc;rw [z,G] at ho;cases ho;rw [F] at hd;cases hd
theorem Inv.E2(I:Inv X Go σ H s):s.heap.FunFrames X.base X.outer:=by
 have all:∀(l:List Env),(∀b∈frs l,b∈X.fs)->X.s₀.heap.FunFrames X.base l->s.heap.FunFrames X.base l:=by
  intro l
  induction l with
  | nil=>intro _ _;trivial
  | cons env r O =>
   intro hs hl;obtain ⟨G,⟨L,o,hf,J,ho,hd⟩,hr⟩:=hl;have F:L∈X.fs:=hs L (by unfold frs;rw [Nu,hf];exact Kg);obtain ⟨sl,e⟩:=I.base.slot L o ho (I.ok.PZ L F) F λz=>I.ok.PH L z F;exact ⟨G,⟨L,_,hf,J,e,hd⟩,O (λb hb=>hs b (by unfold frs;rw [Nu,hf];exact Kc _ hb)) hr⟩
 exact all X.outer (λ_ hb=>hb) I.ok.E2
theorem Inv.stack(I:Inv X Go σ H s):s.heap.FunFrames X.base X.stack:=by
 rcases I.ok.Qp with e|⟨e,hf⟩
 .rw [e];exact I.E2
 .rw [e];obtain ⟨m,z,_⟩:=I.loc;refine .cons (by rw [I.ok.kind];decide) hf z ?_ I.E2;exact Heap.get?_none_of_le (Kp I.ok.PP I.ok.above)
theorem Inv.Da(I:Inv X Go σ H s):∀b∈frs X.stack,b∈X.env.locals::X.fs:=λb hb=>by
 rcases I.ok.Qp with e|⟨e,hf⟩
 .rw [e] at hb;exact Kc _ hb
 .rw [e] at hb;unfold frs at hb;rw [Nu,hf] at hb;exact hb
theorem Inv.Pq(I:Inv X Go σ H s):∀b∈frs X.stack,H b=none:=λb hb=>by
 rcases J1.mp (I.Da b hb) with e|hb
 .rw [e];exact I.free
 .obtain ⟨_,o,ho,_⟩:=I.ok.E2.mem hb;exact I.base.free b o ho (I.ok.PZ b hb) λz=>I.ok.PH b z hb
theorem Inv.step{ch:List Addr}(I:Inv X Go σ H s)(S:∀b∈ch,(b∈X.ex\/X.s₀.heap.objs.size<=b)/\b≠X.env.locals/\(∀x c,X.env.cells.lookup x=some c->c≠b)/\∀p∈X.pn++Go,p.1≠b)(keep:∀b o,b≠X.env.locals->b∉X.fs->b∉ch->s.heap.get? b=some o->H b=none->h'.get? b=some o)(slot:∀b o,b≠X.env.locals->b∈X.fs->b∉ch->s.heap.get? b=some o->H b=none->∃sl,h'.get? b=some { o with slots:=sl })(free:∀b o,b∉ch->s.heap.get? b=some o->H b=none->H' b=none)(there:∀b o,b∉ch->s.heap.get? b=some o->∃o',h'.get? b=some o')(tups:∀b xs,H b=some (.tup xs)->H' b=some (.tup xs))(frzs:∀b o u,H b=some (.frz o u)->H' b=some (.frz o u))(tbls:∀b ps,H b=some (.tbl ps)->∃more,H' b=some (.tbl (ps++more)))(ns:∀m,s.heap.Ns X.env.locals m->h'.Ns X.env.locals m)(hok:HOk X.prog X.w H' h')(hg:Nw g'):
  Inv X Go σ H' { s with heap:=h',gens:=g',drawn:=d',toks:=t' }:=by
 have W:∀b o,X.s₀.heap.get? b=some o->b≠X.env.locals:=λb o e=>Ky (Kl (Kq e) I.ok.above);have O:∀b o,X.s₀.heap.get? b=some o->b∉X.ex->b∉ch:=λb o e hx hb=>by
  rcases (S b hb).1 with z|z
  .exact hx z
  .exact absurd (Kl (Kq e) z) (K4 _)
 have G:∀x c,X.env.cells.lookup x=some c->∀v,s.heap.IsCell c v->h'.IsCell c v:=λx c e v ⟨o,ho,hd⟩=>by
  have F:c∉ch:=λz=>(S c z).2.2.1 x c e rfl;by_cases hc:c∈X.fs
  .obtain ⟨sl,q⟩:=slot c o (I.cne x c e) hc F ho (I.wa x c e);exact ⟨_,q,hd⟩
  .exact ⟨o,keep c o (I.cne x c e) hc F ho (I.wa x c e),hd⟩
 refine ⟨I.ok,I.os,hg,⟨λb o e n hb hx=>?_,λb o e n hb hx=>?_,λb o e n hx=>?_,λb o e hx=>?_,λb xs e=>tups b xs (I.base.tups b xs e),λb o xs e=>frzs b o xs (I.base.frzs b o xs e),λb ps e=>?_⟩,?_,λx c e=>?_,?_,λx c e=>?_,λp hp=>?_,hok,I.len,I.hdk.same frzs⟩
 .exact keep b o (W b o e) hb (O b o e hx) (I.base.keep b o e n hb hx) (I.base.free b o e n hx)
 .obtain ⟨sl,J⟩:=I.base.slot b o e n hb hx;obtain ⟨Z,U⟩:=slot b _ (W b o e) hb (O b o e hx) J (I.base.free b o e n hx);exact ⟨Z,U⟩
 .obtain ⟨o',J⟩:=I.base.there b o e hx;exact free b o' (O b o e hx) J (I.base.free b o e n hx)
 .obtain ⟨o',J⟩:=I.base.there b o e hx;exact there b o' (O b o e hx) J
 .obtain ⟨m1,J⟩:=I.base.tbls b ps e;obtain ⟨m2,U⟩:=tbls b _ J;exact ⟨m1++m2,by rw [U,Array.append_assoc]⟩
 .obtain ⟨m,hn,hl⟩:=I.loc;refine ⟨m,ns m hn,λi x v J U e3=>?_⟩;obtain ⟨u,r,l⟩:=hl i x v J U e3;refine ⟨u,r,?_⟩;rcases l with l|⟨k,c,e,z⟩
  .exact .inl l
  .exact .inr ⟨k,c,e,G x c e _ z⟩
 .obtain ⟨v,z⟩:=I.cell x c e;exact ⟨v,G x c e v z⟩
 .obtain ⟨m,⟨o,_,_,ho,_⟩,_⟩:=I.loc;exact free _ o (λz=>(S _ z).2.1 rfl) ho I.free
 .obtain ⟨v,o,ho,hd⟩:=I.cell x c e;exact free c o (λz=>(S c z).2.2.1 x c e rfl) ho (I.wa x c e)
 .obtain ⟨e,n,ne,nf,d⟩:=I.pin p hp;have F:p.1∉ch:=λz=>(S p.1 z).2.2.2 p hp rfl;exact ⟨keep p.1 p.2 ne nf F e n,free p.1 p.2 F e n,ne,nf,d⟩
theorem Inv.un(I:Inv X Go σ H s)(u:Un X.fs [] H H' s.heap h')(hok:HOk X.prog X.w H' h'):Inv X Go σ H' { s with heap:=h',toks:=t' }:=by
 obtain ⟨m,⟨o,es,ep,ho,r⟩,_⟩:=id I.loc;obtain ⟨sl,J⟩:=u.any ho I.free (by simp);exact I.step (g':=s.gens) (d':=s.drawn) (ch:=[]) (λ_ z=>nomatch z) (λb o _ hb _ e n=>u.keep b o e n hb (by simp)) (λb o _ hb _ e n=>u.slot b o e n hb (by simp)) (λb o _ e n=>u.free b o e n (by simp)) (λb o _ e=>u.there b o e (by simp)) u.tups u.frzs u.tbls (λS hm=>by
  obtain ⟨o',O,F,G,r'⟩:=hm;rw [ho] at G;cases G;exact ⟨_,O,F,J,r'⟩) hok I.bare
theorem Inv.call(I:Inv X Go σ H s)(u:Un (frs X.stack) ch H H' s.heap h')(hok:HOk X.prog X.w H' h')(U:Nw g')(J:∀b∈ch,(b∈X.ex\/X.s₀.heap.objs.size<=b)/\b≠X.env.locals/\(∀x c,X.env.cells.lookup x=some c->c≠b)/\∀p∈X.pn++Go,p.1≠b):
  Inv X Go σ H' { s with heap:=h',gens:=g',drawn:=d',toks:=t' }:=by
 obtain ⟨m,⟨o,es,ep,ho,r⟩,_⟩:=id I.loc;obtain ⟨sl,G⟩:=u.any ho I.free λz=>(J _ z).2.1 rfl;exact I.step (ch:=ch) J (λb o G hb hc e n=>u.keep b o e n (λz=>(J1.mp (I.Da b z)).elim G hb) hc) (λb o _ _ hc e n=>u.any e n hc) (λb o hc e n=>u.free b o e n hc) (λb o hc e=>u.there b o e hc) u.tups u.frzs u.tbls (λW hm=>by
  obtain ⟨o',S,F,O,r'⟩:=hm;rw [ho] at O;cases O;exact ⟨_,S,F,G,r'⟩) hok U
theorem Inv.turned(I:Inv X Go σ H s)(k:∀b o,b≠it->s.heap.get? b=some o->h'.get? b=some o)(J:H it=none)(G:it≠X.env.locals)(h1:it∈X.ex\/X.s₀.heap.objs.size<=it)(h2:∀x c,X.env.cells.lookup x=some c->c≠it)(O:∀p∈X.pn++Go,p.1≠it):Inv X Go σ H { s with heap:=h',toks:=t' }:=by
 have F:∀b u,H b=some u->b≠it:=λb u e z=>by rw [z,J] at e;cases e
 refine I.step (g':=s.gens) (d':=s.drawn) (ch:=[it]) (λb hb=>?_) (λb o _ _ hc e _=>k b o (λz=>hc (by simp [z])) e) (λb o _ _ hc e _=>⟨o.slots,k b o (λz=>hc (by simp [z])) e⟩) (λ_ _ _ _ n=>n)
  (λb o hc e=>⟨o,k b o (λz=>hc (by simp [z])) e⟩) (λ_ _ e=>e) (λ_ _ _ e=>e) (λb ps e=>⟨#[],by rw [e];simp⟩) (λm hm=>?_) (λb u e=>?_) I.bare
 .have e:b=it:=by simpa using hb
  subst e;exact ⟨h1,G,h2,O⟩
 .obtain ⟨o,es,ep,ho,r⟩:=hm;exact ⟨o,es,ep,k _ o (Lv G) ho,r⟩
 .refine (I.hok b u e).Oy (λc v hc q=>k c v ?_ q) (λ_ q=>q) λ_ _ q=>q;rcases hc with z|z
  .rw [z];exact F b u e
  .exact F c _ z
theorem Inv.tok(I:Inv X Go σ H s)(t:Nat):Inv X Go σ H { s with toks:=t }:=I.un (h':=s.heap) (t':=t) Un.refl I.hok
theorem Inv.kept(I:Inv X Go σ H s)(k:∀b u,s.heap.get? b=some u->h'.get? b=some u):Inv X Go σ H { s with heap:=h',toks:=t' }:=I.un (Un.kept k) (I.hok.kept k)
theorem Inv.laid{a:Addr}{o:HO}(I:Inv X Go σ H s)(k:∀b u,s.heap.get? b=some u->h'.get? b=some u)(z:s.heap.objs.size<=a)(new:z7 X.prog X.w (upd H a o) h' a o):
  Inv X Go σ (upd H a o) { s with heap:=h',toks:=t' }:=I.un (Un.laid k z (I.hok.fresh z)) (I.hok.laid k z new)
theorem Inv.write{o:HO}(I:Inv X Go σ H s)(F:Mut (H x))(he:e=x\/H e=some (.own x))(k:∀b u,b≠e->s.heap.get? b=some u->h'.get? b=some u)(z:∃u,h'.get? e=some u)(new:z7 X.prog X.w (upd H x o) h' x o):Inv X Go σ (upd H x o) { s with heap:=h',toks:=t' }:=I.un (Un.write F he k z) (I.hok.write F he k z new)
theorem Inv.ti(I:Inv X Go σ H s)(h:∀p∈pins',s.heap.get? p.1=some p.2/\H p.1=none/\p.1≠X.env.locals/\p.1∉X.fs/\∀v,p.2.data≠.cell v):Inv X pins' σ H s :=
 ⟨I.ok,I.os,I.bare,I.base,I.loc,I.cell,I.free,I.wa,λp F=>(Kx.mp F).elim (λz=>I.pin p (KC _ z)) (h p),I.hok,I.len,I.hdk⟩
theorem v5{N:List Str}(hN:N.Nodup){i j:Nat}(a:N[i]?=some x)(b:N[j]?=some x):i=j:=by
 obtain ⟨h1,z⟩:=JX.mp a;obtain ⟨h2,F⟩:=JX.mp b;exact (List.getElem_inj hN).mp (z.trans F.symm)
theorem JO(I:Inv X Go σ H s)(hN:X.N.Nodup)(hi:X.N[i]?=some x)(hx:Loc X.env.scope x)(r:zl v u)(h:∀s',Inv X Go (σ.set i (some v)) H s'->(∃a,Lr a s.heap s'.heap/\(a=X.env.locals\/X.env.cells.lookup x=some a))->Q () s')(hf:X.fn x=true\/X.env.scope.names.lookup x=some .local:=by first|exact .inl rfl|exact .inr rfl|assumption):J3 M A (storeName X.env x u) Q E s:=by
 obtain ⟨m,hn,hl⟩:=id I.loc;have ab:(X.env.scope.kind == .class||(X.env.scope.kind == .module&&X.env.locals != X.env.globals))=false:=by rw [I.ok.kind];rfl
 have O:i<σ.length:=by rw [I.len];exact (JX.mp hi).1
 have cne:=I.cne;have X2:∀{a:Addr}{h':Heap},(∃o,s.heap.get? a=some o/\H a=none)->Lr a s.heap h'->HOk X.prog X.w H h':=λ{a h'} ha hs b ob e=>by
  obtain ⟨_,_,G⟩:=ha;refine (I.hok b ob e).Oy (λc w' hc q=>(hs.2 c ?_).trans q) (λ_ q=>q) λ_ _ q=>q;rintro rfl;rcases hc with rfl|hc
  .rw [G] at e;cases e
  .rw [G] at hc;cases hc
 rcases hx with S|S
 .refine wpAny_storeName_local S hn (λh' a0 hs=>?_) ab;obtain ⟨oL,_,_,XJ,_⟩:=id hn;refine h _ ⟨I.ok,I.os,I.bare,⟨λb o e n hb hx=>?_,λb o e n hb hx=>?_,I.base.free,λb o e hx=>?_,I.base.tups,I.base.frzs,I.base.tbls⟩,⟨_,a0,λj y v' F J e3=>?_⟩,λy c e=>?_,I.free,I.wa,λp hp=>?_,X2 ⟨oL,XJ,I.free⟩ hs,by simpa using I.len,I.hdk⟩ ⟨_,hs,.inl rfl⟩
  .exact (hs.2 b (Ky (Kl (Kq e) I.ok.above))).trans (I.base.keep b o e n hb hx)
  .obtain ⟨sl,F⟩:=I.base.slot b o e n hb hx;exact ⟨sl,(hs.2 b (Ky (Kl (Kq e) I.ok.above))).trans F⟩
  .obtain ⟨o',F⟩:=I.base.there b o e hx;exact ⟨o',(hs.2 b (Ky (Kl (Kq e) I.ok.above))).trans F⟩
  .by_cases W:j=i
   .subst W;rw [hi] at F;cases F;rw [List.getElem?_set_self O] at J;cases J;exact ⟨u,r,.inl ⟨S,by simp⟩⟩
   .rw [List.getElem?_set_ne (Lv W)] at J;obtain ⟨u',r',q⟩:=hl j y v' F J e3;refine ⟨u',r',?_⟩;rcases q with ⟨k,e⟩|⟨k,c,e,z⟩
    .refine .inl ⟨k,?_⟩;have:y≠x:=λe=>W (v5 hN F (e ▸ hi));simp [this,e]
    .exact .inr ⟨k,c,e,z.sameBut hs (cne y c e)⟩
  .obtain ⟨w',z⟩:=I.cell y c e;exact ⟨w',z.sameBut hs (cne y c e)⟩
  .obtain ⟨e,n,ne,nf,d⟩:=I.pin p hp;exact ⟨(hs.2 p.1 ne).trans e,n,ne,nf,d⟩
 .have U:X.fn x=true:=by
   rcases hf with z|z
   .exact z
   .rw [z] at S;cases S
  obtain ⟨c,hc⟩:=I.ok.has x (.inl S);obtain ⟨w',z⟩:=I.cell x c hc;refine wpAny_storeName_cell I.ok.kind S hc z (λh' Yr hs=>?_);obtain ⟨oc,av,aI⟩:=id z;refine h { s with heap:=h' } ⟨I.ok,I.os,I.bare,⟨λb o e n hb hx=>?_,λb o e n hb hx=>?_,I.base.free,λb o e hx=>?_,I.base.tups,I.base.frzs,I.base.tbls⟩,⟨m,hn.sameBut hs (Lv (cne x c hc)),λj y v' F J e3=>?_⟩,λy c' e=>?_,I.free,I.wa,λp hp=>?_,X2 ⟨oc,av,I.wa x c hc⟩ hs,by simpa using I.len,I.hdk⟩ ⟨c,hs,.inr hc⟩
  .exact (hs.2 b (Ky (Kl (Kq e) (I.ok.Qn x c U hc)))).trans (I.base.keep b o e n hb hx)
  .obtain ⟨sl,F⟩:=I.base.slot b o e n hb hx;exact ⟨sl,(hs.2 b (Ky (Kl (Kq e) (I.ok.Qn x c U hc)))).trans F⟩
  .obtain ⟨o',F⟩:=I.base.there b o e hx;exact ⟨o',(hs.2 b (Ky (Kl (Kq e) (I.ok.Qn x c U hc)))).trans F⟩
  .by_cases W:j=i
   .subst W;rw [hi] at F;cases F;rw [List.getElem?_set_self O] at J;cases J;exact ⟨u,r,.inr ⟨.inl S,c,hc,Yr⟩⟩
   .rw [List.getElem?_set_ne (Lv W)] at J;obtain ⟨u',r',q⟩:=hl j y v' F J e3;refine ⟨u',r',?_⟩;rcases q with q|⟨k,c',e,z'⟩
    .exact .inl q
    .refine .inr ⟨k,c',e,z'.sameBut hs ?_⟩;rintro rfl;exact W (v5 hN F (I.ok.inj _ _ _ e hc ▸ hi))
  .by_cases Z:c'=c
   .subst Z;exact ⟨_,Yr⟩
   .obtain ⟨w2,z2⟩:=I.cell y c' e;exact ⟨w2,z2.sameBut hs Z⟩
  .obtain ⟨e,n,ne,nf,d⟩:=I.pin p hp;refine ⟨(hs.2 p.1 ?_).trans e,n,ne,nf,d⟩;intro q;rw [q,av] at e;have q':oc=p.2:=KE.inj e;exact d w' (by rw [<- q'];exact aI)
theorem kg(I:Inv X Go σ H s)(hN:X.N.Nodup)(hi:X.N[i]?=some x)(hx:Loc X.env.scope x)(r:zl v u)(h:∀s',Inv X Go (σ.set i (some v)) H s'->Q () s')(hf:X.fn x=true\/X.env.scope.names.lookup x=some .local:=by first|exact .inl rfl|exact .inr rfl|assumption):J3 M A (storeName X.env x u) Q E s :=
 JO I hN hi hx r (λs' z _=>h s' z) hf
theorem Inv.P0(I:Inv X Go σ H s)(ho:s'.os=s.os)(u:Un (frs X.stack) ch H H' s.heap s'.heap)(hok:HOk X.prog X.w H' s'.heap)(F:Nw s'.gens)(z:∀b∈ch,(b∈X.ex\/X.s₀.heap.objs.size<=b)/\b≠X.env.locals/\(∀x c,X.env.cells.lookup x=some c->c≠b)/\∀p∈X.pn++Go,p.1≠b):Inv X Go σ H' s':=by
 obtain ⟨h',g',d',t',o'⟩:=s';have e:o'=s.os:=ho;subst e;exact I.call (g':=g') (t':=t') (d':=d') u hok F z
end
abbrev XK:=Value->Option Addr->Hp->Prop
abbrev St:=List (Option V)
abbrev VK:=V->Hp->Prop
abbrev TE:=St->Hp->VK->Prop
abbrev TT:=St->Hp->(Bool->Hp->Prop)->Prop
abbrev TA:=St->Hp->(List V->Hp->Prop)->Prop
structure aR where
 nx:St->Hp->Prop
 rt:VK
 bk:St->Hp->Prop:=λ_ _=>False
 ct:St->Hp->Prop:=λ_ _=>False
abbrev TS:=aR->St->Hp->Prop
def EP(X:Cx)(Go:List (Addr×Obj))(σ:St)(Q:VK)(u:Value)(s':JR):Prop:=∃v H',Inv X Go σ H' s'/\zl v u/\Q v H'
def TP(X:Cx)(Go:List (Addr×Obj))(σ:St)(Q:Bool->Hp->Prop)(b:Bool)(s':JR):Prop:=∃H',Inv X Go σ H' s'/\Q b H'
def AP(X:Cx)(Go:List (Addr×Obj))(σ:St)(Q:List V->Hp->Prop)(us:List Value)(s':JR):Prop:=∃vs H',Inv X Go σ H' s'/\zm vs us/\Q vs H'
def SP(X:Cx)(Go:List (Addr×Obj))(D:aR)(f:Flow)(s':JR):Prop :=
 match f with
 | .next=>∃z H',Inv X Go z H' s'/\D.nx z H'
 | .brk=>∃z H',Inv X Go z H' s'/\D.bk z H'
 | .cont=>∃z H',Inv X Go z H' s'/\D.ct z H'
 | .ret u=>∃v z H',Inv X Go z H' s'/\zl v u/\D.rt v H'
def PE(X:Cx)(e:Kf)(t:TE):Prop :=
 ∀(Go:List (Addr×Obj))(s:JR)(σ:St)(H:Hp)(Q:VK),Inv X Go σ H s->t σ H Q->J3 (J6 X.prog X.w) X.A (KZ e X.env) (EP X Go σ Q) X.xe s
def PT(X:Cx)(e:Kf)(t:TT):Prop :=
 ∀(Go:List (Addr×Obj))(s:JR)(σ:St)(H:Hp)(Q:Bool->Hp->Prop),Inv X Go σ H s->t σ H Q->J3 (J6 X.prog X.w) X.A (isTrue e X.env (KZ e X.env)) (TP X Go σ Q) X.xe s
def PW(X:Cx)(e:Kf)(t:TT):Prop :=
 ∀(z:Sem Value)(Go:List (Addr×Obj))(s:JR)(σ:St)(H:Hp)(Q:Bool->Hp->Prop),Inv X Go σ H s->t σ H Q->J3 (J6 X.prog X.w) X.A (isTrue e X.env z) (TP X Go σ Q) X.xe s
theorem PW.pt{t:TT}(h:PW X e t):PT X e t:=h _
def PA(X:Cx)(es:List Kf)(t:TA):Prop :=
 ∀(pos:Pos)(Go:List (Addr×Obj))(s:JR)(σ:St)(H:Hp)(Q:List V->Hp->Prop),Inv X Go σ H s->t σ H Q->J3 (J6 X.prog X.w) X.A (spliced (MA pos (Kv es X.env))) (AP X Go σ Q) X.xe s
def PS(X:Cx)(st:Stmt)(t:TS):Prop :=
 ∀(Go:List (Addr×Obj))(s:JR)(σ:St)(H:Hp)(D:aR),Inv X Go σ H s->t D σ H->J3 (J6 X.prog X.w) X.A (exec st X.env) (SP X Go D) X.xe s
def PSs(X:Cx)(st:List Stmt)(t:TS):Prop :=
 ∀(Go:List (Addr×Obj))(s:JR)(σ:St)(H:Hp)(D:aR),Inv X Go σ H s->t D σ H->J3 (J6 X.prog X.w) X.A (execs st X.env) (SP X Go D) X.xe s
theorem x2e{a b c:Prop}(f:a->b->c)(h:a/\b):c:=f h.1 h.2
theorem x3e{α:Sort _}{A B:α->Prop}{D:Prop}(f:∀x,A x->B x->D)(h:∃x,A x/\B x):D:=h.elim λx z=>f x z.1 z.2
theorem x4e{α β:Sort _}{A B:α->β->Prop}{D:Prop}(f:∀x y,A x y->B x y->D)(h:∃x y,A x y/\B x y):D:=h.elim λx=>x3e (f x)
theorem x5e{α β:Sort _}{A B C:α->β->Prop}{D:Prop}(f:∀x y,A x y->B x y->C x y->D)(h:∃x y,A x y/\B x y/\C x y):D:=h.elim λx=>x3e λy a=>x2e (f x y a)
theorem thn{α:Type}{t:Sem α}{Q z:α->JR->Prop}(h:J3 M A t Q E s)(F:∀a s,Q a s->z a s):J3 M A t z E s:=KJ h F λ_ _ x=>x
section
variable {X:Cx}
def di(i:Nat):TE:=λσ H Q=>∃v,σ[i]?=some (some v)/\Q v H
def tC(v:V):TE:=λ_ H Q=>Q v H
theorem By(hN:X.N[i]?=some x)(hv:Vis X.env.scope x)(hd:(x==("__debug__":Str))=false:=by decide)(hcd:(x==("__classdict__":Str))=false:=by decide):PE X (.Name x pos) (di i):=by
 intro Go s σ H Q I h;obtain ⟨v,e,h⟩:=h;obtain ⟨m,J,hl⟩:=I.loc;obtain ⟨u,r,l⟩:=hl i x v hN e hv;have F:EP X Go σ Q u s:=⟨v,H,I,r,h⟩;rcases l with ⟨z,hm⟩|⟨z,c,hc,G⟩
 .exact wpAny_Name (wpAny_loadName_local I.ok.kind z J hm F) hd
 .rcases z with z|z
  .exact wpAny_Name (wpAny_loadName_cell I.ok.kind z hc G F) hd
  .exact wpAny_Name (wpAny_loadName_free I.ok.kind z hc G F hcd) hd
theorem nD{i j pos}:PE X (.Constant (.int i) j pos) (tC (.int i)):=λ_ _ _ H _ I h=>wpAny_Constant_int ⟨.int i,H,I.tok _,⟨_,rfl⟩,h⟩
theorem ck{b j pos}:W (PE X (.Constant (.bool b) j pos) (tC (.bl b))):=⟨λ_ _ _ H _ I h=>Constant_bool ⟨.bl b,H,I,rfl,h⟩⟩
theorem h8{j pos}:W (PE X (.Constant .none j pos) (tC .non)):=⟨λ_ _ _ H _ I h=>Constant_none ⟨.non,H,I,rfl,h⟩⟩
theorem aC{x j pos}:W (PE X (.Constant (.str x) j pos) (tC (.str x))):=⟨λ_ _ _ H _ I h=>Calls.Constant_str ⟨.str x,H,I.tok _,⟨_,rfl⟩,h⟩⟩
def Gl(X:Cx)(x:Str):Prop:=X.env.kindOf x=some .globalImplicit
theorem gw(I:Inv X Go σ H s)(z:Gl X x)(hm:X.mg x=some u)(h:Q u s)(hd:(x==("__debug__":Str))=false:=by decide):J3 (J6 X.prog X.w) X.A (KZ (.Name x pos) X.env) Q E s :=
 Calls.Name_function_global I.ok.kind z (Calls.loadGlobal_global (by rw [I.ok.glob];exact I.mod.glob.keeps I.bk) hm h) hd
theorem fH(I:Inv X Go σ H s)(F:Gl X x)(hm:X.mg x=none)(hv:Mg x=some u)(h:Q u s)(z:x≠"__name__":=by decide)(hd:(x==("__debug__":Str))=false:=by decide):J3 (J6 X.prog X.w) X.A (KZ (.Name x pos) X.env) Q E s:=by
 obtain ⟨G,h1,h2⟩:=I.mod.blt;exact Calls.Name_function_global I.ok.kind F (Calls.loadGlobal_builtin (by rw [I.ok.glob];exact I.mod.glob.keeps I.bk) hm (by rw [I.ok.blt];exact h1.keeps I.bk) ((h2 x z).trans hv) h) hd
theorem CU(z:Gl X x)(hm:X.mg x=some u)(r:zl v u)(hd:(x==("__debug__":Str))=false:=by decide):PE X (.Name x pos) (tC v) :=
 λ_ _ _ H _ I h=>gw I z hm ⟨v,H,I,r,h⟩ hd
theorem me(F:Gl X x)(hm:X.mg x=none)(hv:Mg x=some u)(r:zl v u)(z:x≠"__name__":=by decide)(hd:(x==("__debug__":Str))=false:=by decide):W (PE X (.Name x pos) (tC v)):=⟨λ_ _ _ H _ I h=>fH I F hm hv ⟨v,H,I,r,h⟩ z hd⟩
variable {a b:Kf}{ta tb:TE}{pos:Pos}
variable {tA tB':TT}{ZL:List Kf}
def vo(t u:TT):TT:=λσ H Q=>t σ H λc H1=>if c=true then u σ H1 Q else Q false H1
def tOr(t u:TT):TT:=λσ H Q=>t σ H λc H1=>if c=true then Q true H1 else u σ H1 Q
def qM(t:TT):TT:=λσ H Q=>t σ H λc H1=>Q (!c) H1
theorem iF(ha:W (PT X a tA)):W (PW X (.BoolOp .And [a] pos) tA):=by
 refine ⟨?_⟩;have ha:=ha.h;intro z Go s σ H Q I h;refine isTrue_and (thn (ha Go s σ H Q I h) λc s1 e=>?_);cases c with
 | true=>exact isTrue_and_nil e
 | false=>exact e
theorem jN(ha:W (PT X a tA)):W (PW X (.BoolOp .Or [a] pos) tA):=by
 refine ⟨?_⟩;have ha:=ha.h;intro z Go s σ H Q I h;refine isTrue_or (thn (ha Go s σ H Q I h) λc s1 e=>?_);cases c with
 | false=>exact isTrue_or_nil e
 | true=>exact e
theorem jK(ha:W (PT X a tA))(hb:W (PW X (.BoolOp .And (b::ZL) pos) tB')):W (PW X (.BoolOp .And (a::b::ZL) pos) (vo tA tB')):=by
 refine ⟨?_⟩;have ha:=ha.h;have hb:=hb.h;intro F Go s σ H Q I h;refine isTrue_and (thn (ha Go s σ H _ I h) λc s1=>x3e λH1 z q1=>?_);cases c with
 | true=>exact hb F Go s1 σ H1 Q z q1
 | false=>exact ⟨H1,z,q1⟩
theorem jg(ha:W (PT X a tA))(hb:W (PW X (.BoolOp .Or (b::ZL) pos) tB')):W (PW X (.BoolOp .Or (a::b::ZL) pos) (tOr tA tB')):=by
 refine ⟨?_⟩;have ha:=ha.h;have hb:=hb.h;intro F Go s σ H Q I h;refine isTrue_or (thn (ha Go s σ H _ I h) λc s1=>x3e λH1 z q1=>?_);cases c with
 | true=>exact ⟨H1,z,q1⟩
 | false=>exact hb F Go s1 σ H1 Q z q1
theorem bW(ha:W (PT X a tA)):W (PT X (.UnaryOp .Not a pos) (qM tA)):=by
 refine ⟨?_⟩;have ha:=ha.h;intro Go s σ H Q I h;exact isTrue_not (ha Go s σ H (λc H1=>Q (!c) H1) I h)
def rO(ta tb:TE):TE:=λσ H Q=>ta σ H λx H1=>∃c,x = .bl c/\if c=true then tb σ H1 Q else Q (.bl false) H1
def pD(ta tb:TE):TE:=λσ H Q=>ta σ H λx H1=>∃c,x = .bl c/\if c=true then Q (.bl true) H1 else tb σ H1 Q
def pZ(ta:TE):TE:=λσ H Q=>ta σ H λx H1=>∃c,x = .bl c/\Q (.bl (!c)) H1
theorem iN{op}{t:TE}(h:W (PE X a t)):W (PE X (.BoolOp op [a] pos) t):=by refine ⟨?_⟩;have h:=h.h;exact λGo s σ H Q I hw=>BoolOp_one (h Go s σ H Q I hw)
theorem oA(ha:W (PE X a ta))(hb:W (PE X (.BoolOp .And (b::ZL) pos) tb)):W (PE X (.BoolOp .And (a::b::ZL) pos) (rO ta tb)):=by
 refine ⟨?_⟩;have ha:=ha.h;have hb:=hb.h;intro Go s σ H Q I h;refine BoolOp_and (thn (ha Go s σ H _ I h) λv s1=>x5e λx H1 z F q1=>?_);obtain ⟨c,rfl,q1⟩:=q1;cases F;refine LF ?_;cases c with
 | true=>exact hb Go s1 σ H1 Q z q1
 | false=>exact ⟨.bl false,H1,z,rfl,q1⟩
theorem JG(ha:W (PE X a ta))(hb:W (PE X (.BoolOp .Or (b::ZL) pos) tb)):W (PE X (.BoolOp .Or (a::b::ZL) pos) (pD ta tb)):=by
 refine ⟨?_⟩;have ha:=ha.h;have hb:=hb.h;intro Go s σ H Q I h;refine BoolOp_or (thn (ha Go s σ H _ I h) λv s1=>x5e λx H1 z F q1=>?_);obtain ⟨c,rfl,q1⟩:=q1;cases F;refine LF ?_;cases c with
 | false=>exact hb Go s1 σ H1 Q z q1
 | true=>exact ⟨.bl true,H1,z,rfl,q1⟩
theorem HN(ha:W (PE X a ta)):W (PE X (.UnaryOp .Not a pos) (pZ ta)):=by
 refine ⟨?_⟩;have ha:=ha.h;intro Go s σ H Q I h;refine UnaryOp_ (thn (ha Go s σ H _ I h) λv s1=>x5e λx H1 F z q1=>?_);obtain ⟨c,rfl,q1⟩:=q1;cases z;exact not_of (LF ⟨.bl (!c),H1,F,rfl,q1⟩)
def tIf(t:TT)(ta tb:TE):TE:=λσ H Q=>t σ H λc H1=>if c=true then ta σ H1 Q else tb σ H1 Q
theorem yU(hc:W (PT X c tA))(ha:W (PE X a ta))(hb:W (PE X b tb)):W (PE X (.IfExp c a b pos) (tIf tA ta tb)):=by
 refine ⟨?_⟩;have hc:=hc.h;have ha:=ha.h;have hb:=hb.h;intro Go s σ H Q I h;refine wpAny_IfExp (thn (hc Go s σ H _ I h) λd s1=>x3e λH1 z q1=>?_);cases d with
 | true=>exact ha Go s1 σ H1 Q z q1
 | false=>exact hb Go s1 σ H1 Q z q1
end
def SqL(K:JV)(H:Hp)(a:Addr)(xs:List V):Prop :=
 Rd H a (.lst xs) \/
  ∃(o:Obj)(z:Array Value)(n:Nat),K.lookup a=some o/\o.cls = .type "list"/\o.dict=none/\o.data = .seq z n/\z.size<=sizeLine/\zm xs z.toList
def SqT(K:JV)(H:Hp)(a:Addr)(xs:List V):Prop :=
 Rd H a (.tup xs) \/
  ∃(o:Obj)(z:Array Value)(n:Nat),K.lookup a=some o/\o.cls = .type "tuple"/\o.data = .seq z n/\z.size<=sizeLine/\zm xs z.toList
def yh:Value->Option V
 | .none=>some .non
 | .bool b=>some (.bl b)
 | .int i _=>some (.int i)
 | .str x _=>some (.str x)
 | .bytes b _=>some (.byt b)
 | .float b _=>some (.flt b)
 | .ref a=>some (.ref a)
 | .type n=>some (.ty n)
 | _=>none
theorem zl.abs(r:zl x u):yh u=some x:=by
 cases x with
 | non=>cases r;rfl
 | bl _=>cases r;rfl
 | int _=>obtain ⟨t,rfl⟩:=r;rfl
 | str _=>obtain ⟨t,rfl⟩:=r;rfl
 | byt _=>obtain ⟨t,rfl⟩:=r;rfl
 | flt _=>obtain ⟨t,rfl⟩:=r;rfl
 | ref _=>cases r;rfl
 | ty _=>cases r;rfl
theorem zl.inj(r:zl x u)(q:zl y u):x=y:=KE.inj (r.abs.symm.trans q.abs)
theorem zm.inj(h:zm xs us):∀{ys:List V},zm ys us->xs=ys:=by
 induction h with
 | nil=>intro ys k;cases k;rfl
 | cons r t z =>
  intro ys k;cases k with
  | cons r' t'=>rw [r.inj r',z t']
section
variable {X:Cx}{Go:List (Addr×Obj)}{σ:St}{H:Hp}{s:JR}{a:Addr}{xs ys:List V}
theorem SqL.of{K:JV}(h:H a=some (.lst xs)):SqL K H a xs:=.inl (.inl h)
theorem SqT.of{K:JV}(h:H a=some (.tup xs)):SqT K H a xs:=.inl (.inl h)
theorem Inv.list(I:Inv X Go σ H s)(h:SqL X.K H a xs):∃F:List Value,zm xs F/\PlainL s.heap a F.toArray/\xs.length<=sizeLine:=by
 rcases h with h|⟨o,F,n,G,hc,hd,hs,hz,r⟩
 .obtain ⟨z,F,n,r,e⟩:=h.ok I.hok;exact ⟨F,r,⟨_,n,e,rfl,rfl,rfl⟩,z⟩
 .refine ⟨F.toList,r,⟨o,n,I.z4 a o G,hc,hd,by simpa using hs⟩,?_⟩;have e:=r.length;simp only [Ln] at e;lia
theorem Inv.tuple(I:Inv X Go σ H s)(h:SqT X.K H a xs):∃F:List Value,zm xs F/\IsTup s.heap a F.toArray/\xs.length<=sizeLine:=by
 rcases h with h|⟨o,F,n,G,hc,hs,hz,r⟩
 .obtain ⟨z,F,r,p⟩:=h.ok I.hok;exact ⟨F,r,p,z⟩
 .refine ⟨F.toList,r,⟨o,I.z4 a o G,hc,n,by simpa using hs⟩,?_⟩;have e:=r.length;simp only [Ln] at e;lia
theorem Inv.PF(I:Inv X Go σ H s)(h:SqL X.K H a xs)(h':SqL X.K H a ys):xs=ys:=by
 obtain ⟨F,r,⟨o,n,e,_,_,d⟩,_⟩:=I.list h;obtain ⟨its',r',⟨o',G,z,_,_,d'⟩,_⟩:=I.list h';rw [e] at z;cases z;rw [d] at d';injection d' with d1 _
 have:F=its':=by simpa using congrArg Array.toList d1
 subst this;exact r.inj r'
theorem Inv.Pr(I:Inv X Go σ H s)(h:SqT X.K H a xs)(h':SqT X.K H a ys):xs=ys:=by
 obtain ⟨F,r,⟨o,e,_,n,d⟩,_⟩:=I.tuple h;obtain ⟨its',r',⟨o',z,_,G,d'⟩,_⟩:=I.tuple h';rw [e] at z;cases z;rw [d] at d';injection d' with d1 _
 have:F=its':=by simpa using congrArg Array.toList d1
 subst this;exact r.inj r'
end
abbrev Cx.L1(X:Cx)(E:Value->JR->Prop):Cx:={ X with xe:=E }
abbrev Cx.Qt(X:Cx):Cx:=X.L1 λ_ _=>False
theorem Cx.Ok.L1{X:Cx}(ok:X.Ok)(E:Value->JR->Prop):(X.L1 E).Ok :=
 ⟨ok.mod,ok.kind,ok.glob,ok.blt,ok.above,ok.inj,ok.has,ok.Qn,ok.hd,ok.frames,ok.Qp,ok.QK,ok.bs,ok.PP,ok.Pt,ok.PH,ok.E2,ok.PZ⟩
theorem Cx.Ok.tj{X:Cx}(ok:(X.L1 E).Ok):X.Ok :=
 ⟨ok.mod,ok.kind,ok.glob,ok.blt,ok.above,ok.inj,ok.has,ok.Qn,ok.hd,ok.frames,ok.Qp,ok.QK,ok.bs,ok.PP,ok.Pt,ok.PH,ok.E2,ok.PZ⟩
section
variable {X:Cx}{Go:List (Addr×Obj)}{σ:St}{H:Hp}{s:JR}{E:Value->JR->Prop}
theorem Inv.L1(I:Inv X Go σ H s)(E:Value->JR->Prop):Inv (X.L1 E) Go σ H s:=⟨I.ok.L1 E,I.os,I.bare,I.base,I.loc,I.cell,I.free,I.wa,I.pin,I.hok,I.len,I.hdk⟩
theorem Inv.tj(I:Inv (X.L1 E) Go σ H s):Inv X Go σ H s:=⟨I.ok.tj,I.os,I.bare,I.base,I.loc,I.cell,I.free,I.wa,I.pin,I.hok,I.len,I.hdk⟩
theorem SP.tj(h:SP (X.L1 E) Go D f s'):SP X Go D f s':=by
 cases f with
 | next=>obtain ⟨z,H',I,q⟩:=h;exact ⟨z,H',I.tj,q⟩
 | brk=>obtain ⟨z,H',I,q⟩:=h;exact ⟨z,H',I.tj,q⟩
 | cont=>obtain ⟨z,H',I,q⟩:=h;exact ⟨z,H',I.tj,q⟩
 | ret u=>obtain ⟨v,z,H',I,r,q⟩:=h;exact ⟨v,z,H',I.tj,r,q⟩
theorem PSs.Qt{st:List Stmt}{t:TS}(h:PSs X.Qt st t):PSs X st t:=λGo s σ H D I hw =>
 KJ (h Go s σ H D (I.L1 _) hw) (λ_ _ q=>q.tj) λ_ _ z=>False.elim z
end
section
variable {X:Cx}{st:Stmt}{ZL:List Stmt}{t u:TS}{e:Kf}{te:TE}{pos:Pos}
def kE:TS:=λD σ H=>D.nx σ H
def mR(t u:TS):TS:=λD σ H=>t { D with nx:=u D } σ H
theorem su:PSs X [] kE:=λ_ _ σ H _ I h=>Np ⟨σ,H,I,h⟩
theorem vc(h1:PS X st t)(h2:PSs X ZL u):PSs X (st::ZL) (mR t u):=by
 intro Go s σ H D I h;refine wpAny_execs_cons (thn (h1 Go s σ H { D with nx:=u D } I h) λf s1 q=>?_);cases f with
 | next =>
  obtain ⟨z,H',F,q⟩:=q;exact h2 Go s1 z H' D F q
 | ret v=>exact q
 | brk=>exact q
 | cont=>exact q
theorem mx(h1:PS X st t):PSs X [st] t:=by
 intro Go s σ H D I h;refine wpAny_execs_cons (thn (h1 Go s σ H D I h) λf s1 q=>?_);cases f with
 | next=>exact Np q
 | ret v=>exact q
 | brk=>exact q
 | cont=>exact q
theorem Inv.quiet(I:Inv X Go σ H s):interactive X.env=false:=by simp [interactive,I.ok.kind]
def qr(te:TE):TS:=λD σ H=>te σ H λ_ H1=>D.nx σ H1
theorem ai(he:W (PE X e te))(hs:swapsWith e none pos.line X.env=pure false:=by rfl):W (PS X (.Expr e pos) (qr te)):=by
 refine ⟨?_⟩;have he:=he.h;intro Go s σ H D I h;exact wpAny_Expr_any (thn (he Go s σ H _ I h) λv s1=>x5e λx H1 z F q1=>⟨σ,H1,z,q1⟩) I.quiet hs
def oO(te:TE):TS:=λD σ H=>te σ H D.rt
theorem nK(he:PE X e te):PS X (.Return (some e) pos) (oO te):=by
 intro Go s σ H D I h;exact wpAny_Return_some (thn (he Go s σ H _ I h) λv s1=>x5e λx H1 F z q1=>⟨x,σ,H1,F,z,q1⟩)
def nQ(c:TT)(t u:TS):TS:=λD σ H=>c σ H λb H1=>if b=true then t D σ H1 else u D σ H1
theorem wb{a b:List Stmt}(hc:PT X c tc)(ha:PSs X a t)(hb:PSs X b u):PS X (.If c a b pos) (nQ tc t u):=by
 intro Go s σ H D I h;refine wpAny_If (thn (hc Go s σ H _ I h) λd s1=>x3e λH1 z q1=>?_);cases d with
 | true=>exact ha Go s1 σ H1 D z q1
 | false=>exact hb Go s1 σ H1 D z q1
end
abbrev TG:=V->St->Hp->(St->Hp->Prop)->Prop
abbrev TGs:=List V->St->Hp->(St->Hp->Prop)->Prop
def PG(X:Cx)(z:Kf)(t:TG):Prop :=
 ∀(Go:List (Addr×Obj))(s:JR)(σ:St)(H:Hp)(v:V)(u:Value)(Q:St->Hp->Prop),Inv X Go σ H s->zl v u->t v σ H Q ->
  J3 (J6 X.prog X.w) X.A (NU z X.env u) (λ_ s'=>∃F H',Inv X Go F H' s'/\Q F H') X.xe s
def PGs(X:Cx)(ts:List Kf)(t:TGs):Prop :=
 ∀(Go:List (Addr×Obj))(s:JR)(σ:St)(H:Hp)(vs:List V)(us:List Value)(Q:St->Hp->Prop),Inv X Go σ H s->zm vs us->t vs σ H Q ->
  J3 (J6 X.prog X.w) X.A (assignInOrder ((La ts X.env).map (·.2)) us) (λ_ s'=>∃z H',Inv X Go z H' s'/\Q z H') X.xe s
abbrev oa:=V->V->V->Hp->(Hp->Prop)->Prop
def mH(X:Cx)(t:oa):Prop :=
 ∀(Go:List (Addr×Obj))(s:JR)(σ:St)(H:Hp)(o i v:V)(z F u:Value)(Q:Hp->Prop),Inv X Go σ H s->zl o z->zl i F->zl v u->t o i v H Q ->
  J3 (J6 X.prog X.w) X.A (setItem z F u) (λ_ s'=>∃H',Inv X Go σ H' s'/\Q H') X.xe s
abbrev TIp:=V->V->Hp->VK->Prop
def PIp(X:Cx)(z:Operator)(t:TIp):Prop :=
 ∀(Go:List (Addr×Obj))(s:JR)(σ:St)(H:Hp)(x y:V)(v u:Value)(Q:VK),Inv X Go σ H s->zl x v->zl y u->t x y H Q ->
  J3 (J6 X.prog X.w) X.A (inplaceOp z v u) (EP X Go σ Q) X.xe s
section
variable {X:Cx}{pos:Pos}
def bN(i:Nat):TG:=λv σ H Q=>Q (σ.set i (some v)) H
theorem tS(hN:X.N.Nodup)(hi:X.N[i]?=some x)(hx:Loc X.env.scope x)(hf:X.fn x=true\/X.env.scope.names.lookup x=some .local:=by first|exact .inl rfl|exact .inr rfl|assumption):PG X (.Name x pos) (bN i):=by
 intro Go s σ H v u Q I r h;exact wpAny_assign_Name (kg I hN hi hx r (λs' z=>⟨_,H,z,h⟩) hf)
def mh:TGs:=λvs σ H Q=>vs=[]/\Q σ H
def fO(t:TG)(u:TGs):TGs:=λvs σ H Q=>∃v r,vs=v::r/\t v σ H λz H'=>u r z H' Q
theorem ef:W (PGs X [] mh):=by
 refine ⟨?_⟩;intro Go s σ H vs us Q I r h;obtain ⟨e,h⟩:=h;subst e;cases r;exact assignInOrder_nil ⟨σ,H,I,h⟩
theorem bh{t:TG}(h1:W (PG X e t))(h2:W (PGs X es u))(hs:(La (e::es) X.env).map (·.2)=NU e X.env::(La es X.env).map (·.2):=by rfl):W (PGs X (e::es) (fO t u)):=by
 refine ⟨?_⟩;have h1:=h1.h;have h2:=h2.h;intro Go s σ H vs us Q I r h;obtain ⟨v,O,G,h⟩:=h;subst G;cases r with
 | cons r F =>
  rw [hs];refine assignInOrder_cons (thn (h1 Go s σ H _ _ _ I r h) λ_ s1=>x4e λz H1 J q1=>?_);exact h2 Go s1 z H1 _ _ Q J F q1
def jS(K:JV)(n:Nat)(t:TGs):TG:=λv σ H Q=>∃a xs,v = .ref a/\SqT K H a xs/\xs.length=n/\t xs σ H Q
def pT(to z:TE)(t:oa):TG:=λv σ H Q=>to σ H λo H1=>z σ H1 λi H2=>t o i v H2 λH3=>Q σ H3
theorem dj{o i:Kf}{to G:TE}{t:oa}(ho:W (PE X o to))(hi:W (PE X i G))(hs:mH X t)
  (ha:∀v,NU (.Subscript o i pos) X.env v=(do
   let z<-MM [v] (KZ o X.env)
   let F<-MM [v,z] (KZ i X.env)
   Mt pos
   MM [v,z,F] (setItem z F v)
   release [v,z,F] []):=by intro _;rfl):W (PG X (.Subscript o i pos) (pT to G t)):=by
 refine ⟨?_⟩;have ho:=ho.h;have hi:=hi.h;intro Go s σ H v u Q I r h;rw [ha];refine we (Ks (thn (ho Go s σ H _ I h) λz s1=>x5e λx H1 I1 J q1=>?_));refine we (Ks (thn (hi Go s1 σ H1 _ I1 q1) λF s2=>x5e λy H2 S O U=>?_));refine we (Ll (we (Ks (thn (hs Go s2 σ H2 x y v z F u _ S J O r U) λ_ s3=>x3e λH3 I3 Z=>?_))));exact wpAny_release ⟨σ,H3,I3,Z⟩
def ir(te:TE)(g:TG):TS:=λD σ H=>te σ H λx H1=>g x σ H1 D.nx
theorem cT(he:W (PE X e te))(z:W (PG X tg g))(hs:swapsWithSole [tg] e pos.line X.env=pure false:=by rfl)(hw:swappedStores [tg] e X.env=pure none:=by rfl)(h1:(La [tg] X.env).map (·.2)=[NU tg X.env]:=by rfl):W (PS X (.Assign [tg] e pos) (ir te g)):=by
 refine ⟨?_⟩;have he:=he.h;have z:=z.h;intro Go s σ H D I h;refine wpAny_Assign_stores (thn (he Go s σ H _ I h) λv s1=>x5e λx H1 G F q1=>?_) hs hw;rw [h1];exact thn (z Go s1 σ H1 x v _ G F q1) λ_ s2 q=>q
theorem zw(hN:X.N.Nodup)(hi:X.N[i]?=some x)(hx:Loc X.env.scope x)(he:W (PE X e te))(hs:swapsWith e (some (.Name x YX)) pos.line X.env=pure false:=by rfl)(hf:X.fn x=true\/X.env.scope.names.lookup x=some .local:=by first|exact .inl rfl|exact .inr rfl|assumption):W (PS X (.Assign [.Name x YX] e pos) (ir te (bN i))):=by
 refine ⟨?_⟩;have he:=he.h;intro Go s σ H D I h;refine wpAny_Assign_Name (thn (he Go s σ H _ I h) λv s1=>x5e λy H1 G z q1=>?_) hs;exact kg G hN hi hx z (λs2 F=>⟨_,H1,F,q1⟩) hf
def sj(i:Nat)(te:TE)(F:TIp):TS:=λD σ H=>∃x,σ[i]?=some (some x)/\te σ H λy H1=>F x y H1 λz H2=>D.nx (σ.set i (some z)) H2
theorem xS(hN:X.N.Nodup)(hi:X.N[i]?=some x)(hx:Loc X.env.scope x)(he:W (PE X e te))(ho:PIp X O S)(hf:X.fn x=true\/X.env.scope.names.lookup x=some .local:=by first|exact .inl rfl|exact .inr rfl|assumption):W (PS X (.AugAssign (.Name x YX) O e pos) (sj i te S)):=by
 refine ⟨?_⟩;have he:=he.h;intro Go s σ H D I h;obtain ⟨v,e1,h⟩:=h;obtain ⟨m,hn,hl⟩:=I.loc;have J:Vis X.env.scope x:=by rcases hx with k|k;exact .inl k;exact .inr (.inl k)
 obtain ⟨u,r,l⟩:=hl i x v hi e1 J;refine wpAny_AugAssign_Name ?_;have go:J3 (J6 X.prog X.w) X.A (KZ e X.env) (λw G=>J3 (J6 X.prog X.w) X.A (inplaceOp O u w) (λr s₃=>J3 (J6 X.prog X.w) X.A (storeName X.env x r) (λ_=>SP X Go D .next) X.xe s₃) X.xe G) X.xe s:=by
  refine thn (he Go s σ H _ I h) λw s1=>x5e λy H1 I1 U q1=>?_;refine thn (ho Go s1 σ H1 v y u w _ I1 r U q1) λz s2=>x5e λzv H2 I2 Z q2=>?_;exact kg I2 hN hi hx Z (λs3 I3=>⟨_,H2,I3,q2⟩) hf
 rcases l with ⟨F,hm⟩|⟨F,c,hc,X1⟩
 .exact wpAny_loadName_local I.ok.kind F hn hm go
 .rcases F with F|F
  .exact wpAny_loadName_cell I.ok.kind F hc X1 go
  .rcases hx with k|k
   .have:X.env.scope.names.lookup x=some .free:=F;rw [k] at this;cases this
   .have:X.env.scope.names.lookup x=some .free:=F;rw [k] at this;cases this
def ipI(f:Int->Int->Int):TIp:=λx y H Q=>∃i j,x = .int i/\y = .int j/\Q (.int (f i j)) H
theorem xZ:PIp X .Add (ipI λi j=>i+j):=by
 intro Go s σ H x y v u Q I z G h;obtain ⟨i,j,F,J,q⟩:=h;subst F;subst J;obtain ⟨t,rfl⟩:=z;obtain ⟨t',rfl⟩:=G;exact iadd_int ⟨.int _,H,I.tok _,⟨_,rfl⟩,q⟩
end
structure It where
 go:Nat->Hp->Prop
 Px:Nat->Hp->V->Hp->Prop
 stop:Nat->Hp->Prop
def aA(X:Cx)(Go:List (Addr×Obj))(H:Hp)(b:Addr):Prop :=
 H b=none/\b≠X.env.locals/\b∉X.fs/\(b∈X.ex\/X.s₀.heap.objs.size<=b)/\(∀x c,X.env.cells.lookup x=some c->c≠b)/\∀p∈X.pn++Go,p.1≠b
theorem Inv.Oz{b:Addr}(I:Inv X Go σ H s)(hb:s.heap.objs.size<=b)(F:H' b=none):aA X Go H' b:=by
 refine ⟨F,N4 (Kl I.lt hb),I.Qu hb,.inr (Kp I.sz hb),λx c e z=>?_,λp G z=>?_⟩
 .obtain ⟨v,q⟩:=I.cell x c e;exact absurd (Kl q.lt (by rw [z];exact hb)) (K4 _)
 .exact absurd (Kl (Kq (I.pin p G).1) (by rw [z];exact hb)) (K4 _)
structure dq(c:Bool)(P:JZ)(w:Ke)(K:JV)(tg:Kf)(J:It)(fp:List Addr)(it:Addr)(tn:Nat->Heap->Prop):Prop where
 mem:it∈fp
 obj:∀i h,tn i h->∀b∈fp,∃o,h.get? b=some o/\∀v,o.data≠.cell v
 keep:∀i h h',tn i h->(∀b∈fp,∀o,h.get? b=some o->h'.get? b=some o)->tn i h'
 item:∀(X:Cx),X.prog=P->X.w=w->X.K=K->(c=true->X.calm=true)->∀(i:Nat)(Go:List (Addr×Obj))(s:JR)(σ:St)(H:Hp)(E:Value->JR->Prop),Inv X Go σ H s->(∀b∈fp,aA X Go H b)->tn i s.heap->J.go i H ->
  J3 (J6 P w) X.A (MW (.ref it)) (λr s1=>∃u,r=some u /\
   J3 (J6 P w) X.A (LK tg (.ref it) u) (λ_ s2=>∃x H',Inv X Go σ H' s2/\zl x u/\J.Px i H x H'/\tn (i+1) s2.heap/\∀b∈fp,H' b=none) E s1) E s
 done:∀(X:Cx),X.prog=P->X.w=w->X.K=K->(c=true->X.calm=true)->∀(i:Nat)(Go:List (Addr×Obj))(s:JR)(σ:St)(H:Hp)(E:Value->JR->Prop),Inv X Go σ H s->(∀b∈fp,aA X Go H b)->tn i s.heap->J.stop i H ->
  J3 (J6 P w) X.A (MW (.ref it)) (λr s1=>r=none/\Inv X Go σ H s1) E s
 self:∀(A:Kk)(i:Nat)(s:JR)(Q:Value->JR->Prop)(E:Value->JR->Prop),tn i s.heap->Q (.ref it) s->J3 (J6 P w) A (pyIter (.ref it)) Q E s
abbrev TI:=St->Hp->(It->Hp->Prop)->Prop
def PIE(c:Bool)(X:Cx)(Go:List (Addr×Obj))(σ:St)(tg:Kf)(R:It->Hp->Prop)(z:Value)(s2:JR):Prop :=
 ∃(it:Addr)(fp:List Addr)(F:Nat->Heap->Prop)(J:It)(H':Hp),z = .ref it/\Inv X Go σ H' s2/\dq c X.prog X.w X.K tg J fp it F/\F 0 s2.heap/\(∀b∈fp,aA X Go H' b)/\R J H'
def PIc(c:Bool)(X:Cx)(tg iter:Kf)(wi:TI):Prop :=
 ∀(Go:List (Addr×Obj))(s:JR)(σ:St)(H:Hp)(R:It->Hp->Prop),Inv X Go σ H s->wi σ H R ->
  J3 (J6 X.prog X.w) X.A (KZ iter X.env) (λv s1=>J3 (J6 X.prog X.w) X.A (pyIter v) (PIE c X Go σ tg R) X.xe s1) X.xe s
abbrev PI:=PIc true
theorem fK{o:Obj}(ho:s.heap.get? it=some o)(hc:o.cls = .type n)(hd:o.data = .fields vs)(F:["enumerate","zip","dict_itemiterator","dict_reverseitemiterator","odict_iterator","itertools.zip_longest","itertools.pairwise"].contains n=false)(z:Q () s):J3 M A (LK tg (.ref it) u) Q E s:=by
 unfold LK;cases tg<;>first
  | exact JT z
  | (cases u<;>first
    | exact JT z
    | (refine we (wpAny_load ho ?_)
       rw [hc, hd];show J3 M A (if (["enumerate", "zip", "dict_itemiterator", "dict_reverseitemiterator", "odict_iterator", "itertools.zip_longest", "itertools.pairwise"].contains n && vs[0]? == some (Me _)) = true then _ else _) Q E s;rw [if_neg (by intro h; rw [F, NI] at h; cases h)];exact JT z))
def Itl(K:JV)(a:Addr):It :=
 ⟨λi H=>∃xs x,SqL K H a xs/\xs[i]?=some x,λi H x H'=>H'=H/\∀xs,SqL K H a xs->xs[i]?=some x,λi H=>∃xs,SqL K H a xs/\xs.length<=i⟩
def Itt(K:JV)(a:Addr):It :=
 ⟨λi H=>∃xs x,SqT K H a xs/\xs[i]?=some x,λi H x H'=>H'=H/\∀xs,SqT K H a xs->xs[i]?=some x,λi H=>∃xs,SqT K H a xs/\xs.length<=i⟩
def Itr(lo:Int)(n:Nat):It:=⟨λi _=>i<n,λi H x H'=>H'=H/\x = .int (lo+i),λi _=>n<=i⟩
theorem pC{P:JZ}{w:Ke}{K:JV}{tg:Kf}(a it:Addr):dq true P w K tg (Itl K a) [it] it (λi h=>h.IsListIter it a i) where
 mem:=by simp
 obj:=λi h st b hb=>by
  have e:b=it:=by simpa using hb
  subst e;obtain ⟨o,e,c,d⟩:=st;exact ⟨o,e,λv z=>by rw [d] at z;cases z⟩
 keep:=λi h h' st k=>st.at λo e=>k it (by simp) o e
 item:=by
  intro X U hw hK hc i Go s σ H E I hf st hg;subst U hw hK;obtain ⟨xs,x,F,hx⟩:=hg;obtain ⟨Z7,J,p,hz⟩:=I.list F;obtain ⟨u,hu,ru⟩:=J.get hx;obtain ⟨S,O,f2,Z,W,G⟩:=hf it (by simp);refine wpAny_pyNext_list_item st p.isList (x:=u) (by simpa using hu) λh' YC sb=>?_;have I1:Inv X Go σ H { s with heap:=h' }:=I.turned (t':=s.toks) (λb o hb e=>(sb.2 b hb).trans e) S O Z W G;obtain ⟨o,e,c,d⟩:=id YC;exact ⟨u,rfl,fK (s:={ s with heap:=h' }) e c d (by decide) ⟨x,H,I1,ru,⟨rfl,λys hy=>by rw [I.PF hy F];exact hx⟩,YC,λb hb=>(hf b hb).1⟩⟩
 done:=by
  intro X U hw hK hc i Go s σ H E I hf st hg;subst U hw hK;obtain ⟨xs,F,hx⟩:=hg;obtain ⟨Z7,J,p,hz⟩:=I.list F;obtain ⟨S,O,f2,Z,W,G⟩:=hf it (by simp);have hl:=J.length;exact wpAny_pyNext_list_end (I.ok.hd (hc rfl)) st p.isList (by simp;lia) λh' eb=>⟨rfl,I.turned (t':=s.toks) (λb o hb e=>eb b o hb e) S O Z W G⟩
 self:=λ_ _ _ _ _ st h=>wpAny_pyIter_listiter st h
theorem qO{P:JZ}{w:Ke}{K:JV}{tg:Kf}(a it:Addr):dq true P w K tg (Itt K a) [it] it (λi h=>h.IsTupleIter it a i) where
 mem:=by simp
 obj:=λi h st b hb=>by
  have e:b=it:=by simpa using hb
  subst e;obtain ⟨o,e,c,d⟩:=st;exact ⟨o,e,λv z=>by rw [d] at z;cases z⟩
 keep:=λi h h' st k=>st.at λo e=>k it (by simp) o e
 item:=by
  intro X W hw hK hc i Go s σ H E I hf st hg;subst W hw hK;obtain ⟨xs,x,F,hx⟩:=hg;obtain ⟨J,O,p,hz⟩:=I.tuple F;obtain ⟨u,hu,ru⟩:=O.get hx;obtain ⟨U,S,f2,f3,Z,G⟩:=hf it (by simp);refine wpAny_pyNext_tuple_item st (show s.heap.IsTuple a J.toArray from p) (x:=u) (by simpa using hu) λh' YC sb=>?_;have I1:Inv X Go σ H { s with heap:=h' }:=I.turned (t':=s.toks) (λb o hb e=>(sb.2 b hb).trans e) U S f3 Z G;obtain ⟨o,e,c,d⟩:=id YC;exact ⟨u,rfl,fK (s:={ s with heap:=h' }) e c d (by decide) ⟨x,H,I1,ru,⟨rfl,λys hy=>by rw [I.Pr hy F];exact hx⟩,YC,λb hb=>(hf b hb).1⟩⟩
 done:=by
  intro X W hw hK hc i Go s σ H E I hf st hg;subst W hw hK;obtain ⟨xs,F,hx⟩:=hg;obtain ⟨J,O,p,hz⟩:=I.tuple F;obtain ⟨U,S,f2,f3,Z,G⟩:=hf it (by simp);have hl:=O.length;exact wpAny_pyNext_tuple_end (I.ok.hd (hc rfl)) st (show s.heap.IsTuple a J.toArray from p) (by simp;lia) λh' eb=>⟨rfl,I.turned (t':=s.toks) (λb o hb e=>eb b o hb e) U S f3 Z G⟩
 self:=λ_ _ _ _ _ st h=>wpAny_pyIter_tupleiter st h
theorem FC{P:JZ}{w:Ke}{K:JV}{tg:Kf}(it:Addr)(lo:Int)(n:Nat):dq true P w K tg (Itr lo n) [it] it (λi h=>IsRangeIter h it (lo+(i:Nat)*1) ((n:Int)-(i:Nat)) 1) where
 mem:=by simp
 obj:=λi h st b hb=>by
  have e:b=it:=by simpa using hb
  subst e;exact ⟨_,st,λv z=>by
   have z':Data.fields _=Data.cell v:=z;cases z'⟩
 keep:=λi h h' st k=>k it (by simp) _ st
 item:=by
  intro X J hw Z hc i Go s σ H E I hf st hg;subst J hw Z;obtain ⟨S,G,f2,U,O,F⟩:=hf it (by simp);have W:=Walks.range (prog:=X.prog) (w:=X.w) (I.ok.hd (hc rfl)) it lo 1 n;refine W.item i s _ _ hg st λv h' tk hv YC kk=>?_;obtain ⟨t,rfl⟩:=hv;have I1:Inv X Go σ H { s with heap:=h',toks:=tk }:=I.turned (λb o hb e=>kk b o (by simpa using hb) e) S G U O F;refine ⟨_,rfl,fK (s:={ s with heap:=h',toks:=tk }) (n:="range_iterator") YC rfl rfl (by decide) ⟨.int (lo+i),H,I1,⟨t,?_⟩,⟨rfl,rfl⟩,YC,λb hb=>(hf b hb).1⟩⟩;rw [Int.mul_one]
 done:=by
  intro X J hw Z hc i Go s σ H E I hf st hg;subst J hw Z;obtain ⟨S,G,f2,U,O,F⟩:=hf it (by simp);exact wpAny_pyNext_range_end (I.ok.hd (hc rfl)) st (by have:n<=i:=hg;lia) λh' eb=>⟨rfl,I.turned (t':=s.toks) (λb o hb e=>eb b o hb e) S G U O F⟩
 self:=λ_ _ _ _ _ st h=>wpAny_pyIter_rangeiter st h
section
variable {X:Cx}{tg:Kf}
def pe(K:JV)(tl:TE):TI:=λσ H R=>tl σ H λx H1=>∃a,x = .ref a/\(∃xs,SqL K H1 a xs)/\R (Itl K a) H1
def gB(K:JV)(tl:TE):TI:=λσ H R=>tl σ H λx H1=>∃a,x = .ref a/\(∃xs,SqT K H1 a xs)/\R (Itt K a) H1
theorem bz(hl:W (PE X l tl)):W (PI X tg l (pe X.K tl)):=by
 refine ⟨?_⟩;have hl:=hl.h;intro Go s σ H R I h;refine thn (hl Go s σ H _ I h) λv s1=>x5e λx H1 z F q1=>?_;obtain ⟨a,e,⟨xs,G⟩,q⟩:=q1;subst e;cases F;obtain ⟨O,J,p,hz⟩:=z.list G;refine MU p.isList ?_;refine ⟨s1.heap.objs.size,[s1.heap.objs.size],_,_,H1,rfl,z.kept (t':=s1.toks) λb o e=>JU _ e,pC a _,⟨_,J7 _ rfl,rfl,rfl⟩,λb hb=>?_,q⟩;have e:b=s1.heap.objs.size:=by simpa using hb
 subst e;exact z.Oz (JY _) (z.hok.fresh (JY _))
theorem tG(hl:PE X l tl):PI X tg l (gB X.K tl):=by
 intro Go s σ H R I h;refine thn (hl Go s σ H _ I h) λv s1=>x5e λx H1 z F q1=>?_;obtain ⟨a,e,⟨xs,G⟩,q⟩:=q1;subst e;cases F;obtain ⟨J,O,p,hz⟩:=z.tuple G;refine wpAny_pyIter_tuple (show s1.heap.IsTuple a J.toArray from p) ?_;refine ⟨s1.heap.objs.size,[s1.heap.objs.size],_,_,H1,rfl,z.kept (t':=s1.toks) λb o e=>JU _ e,qO a _,⟨_,J7 _ rfl,rfl,rfl⟩,λb hb=>?_,q⟩;have e:b=s1.heap.objs.size:=by simpa using hb
 subst e;exact z.Oz (JY _) (z.hok.fresh (JY _))
theorem CH{lo hi:Int}{t u v:Tok}(I:Inv X Go σ H s)(h1 : -(2 ^ 62)<=lo)(h2:lo<2 ^ 62)(h3 : -(2 ^ 62)<=hi)(J:hi<2 ^ 62)(q:R (Itr lo (hi-lo).toNat) H):J3 (J6 X.prog X.w) X.A (pyIter (.ref s.heap.objs.size)) (PIE true X Go σ tg R) E { s with heap:=s.heap.push { cls:=.type "range",data:=.fields #[.int lo t,.int hi u,.int 1 v] },toks:=tk }:=by
 refine wpAny_pyIter_range (IsRange.new ..) (small_one h1 h2 h3 J) ?_;have z:Inv X Go σ H { s with heap:=s.heap.push { cls:=.type "range",data:=.fields #[.int lo t,.int hi u,.int 1 v] },toks:=tk }:=I.kept λb o e=>JU _ e;refine ⟨(s.heap.push { cls:=.type "range",data:=.fields #[.int lo t,.int hi u,.int 1 v] }).objs.size,[(s.heap.push { cls:=.type "range",data:=.fields #[.int lo t,.int hi u,.int 1 v] }).objs.size],_,_,H,rfl,
  z.kept (t':=tk) λb o e=>JU _ e,FC _ lo (hi-lo).toNat,?_,λb hb=>?_,q⟩
 .have F:lo+((0:Nat):Int)*1=lo:=by simp
  have G:(((hi-lo).toNat:Nat):Int)-((0:Nat):Int)=Kb.Range.rangeSize lo hi 1:=by rw [rangeSize_one];split<;>lia
  show IsRangeIter _ _ (lo+((0:Nat):Int)*1) ((((hi-lo).toNat:Nat):Int)-((0:Nat):Int)) 1;rw [F,G];exact J7 _ rfl
 .have e:b=(s.heap.push { cls:=.type "range",data:=.fields #[.int lo t,.int hi u,.int 1 v] }).objs.size:=by simpa using hb
  subst e;exact z.Oz (JY _) (z.hok.fresh (JY _))
def nC(ta:TA):TI:=λσ H R=>ta σ H λvs H1=>∃j:Int,vs=[.int j]/\-(2 ^ 62)<=j/\j<2 ^ 62/\R (Itr 0 j.toNat) H1
theorem Ik{a:Kf}{p pos:Pos}(O:Gl X "range")(hm:X.mg "range"=none)(ha:PA X [a] ta)(hs:Kv [a] X.env=[(false,KZ a X.env)]:=by rfl):PI X tg (.Call (.Name "range" p) [a] [] pos) (nC ta):=by
 intro Go s σ H R I h;refine Call_ (fH I O hm boot_range (Mu (thn (ha pos Go s σ H _ I h) λus s1=>x5e λvs H1 J z q1=>?_) hs rfl));obtain ⟨j,e,q1,G,q⟩:=q1;subst e;cases z with
 | cons r F =>
  cases F;obtain ⟨t,rfl⟩:=r;exact call_range_1 (CH J (by lia) (by lia) q1 G (by simpa using q))
def vY(wi:TI)(g:TG)(tb:TS):TS:=λD σ H=>wi σ H λJ H1=>∃W:Nat->Nat->St->Hp->Prop,(∃m,W 0 m σ H1)/\∀i m σ H,W i m σ H ->
 (J.stop i H/\D.nx σ H)\/(J.go i H/\∃N:St->Hp->Prop,(∀z H',N z H'->∃G,G<m/\W (i+1) G z H')/\∀x H',J.Px i H x H'->g x σ H' λF H2=>tb { D with nx:=N,ct:=N,bk:=D.nx } F H2)
def eP(fp:List Addr)(h:Heap):List (Addr×Obj):=fp.filterMap λb=>(h.get? b).map λo=>(b,o)
theorem fi{b:Addr}{o:Obj}(hb:b∈fp)(e:h.get? b=some o):(b,o)∈eP fp h:=List.mem_filterMap.mpr ⟨b,hb,by rw [e];rfl⟩
theorem oV{p:Addr×Obj}(z:p∈eP fp h):p.1∈fp/\h.get? p.1=some p.2:=by
 obtain ⟨b,hb,e⟩:=List.mem_filterMap.mp z;cases q:h.get? b with
 | none=>rw [q] at e;cases e
 | some o =>
  rw [q] at e;have F:(b,o)=p:=KE.inj e;subst F;exact ⟨hb,q⟩
theorem Inv.pinned(I:Inv X Go σ H s)(hf:∀b∈fp,aA X Go H b)(ho:∀b∈fp,∃o,s.heap.get? b=some o/\∀v,o.data≠.cell v):Inv X (Go++eP fp s.heap) σ H s :=
 I.ti λp S=>(Kx.mp S).elim (λz=>I.pin p (J0 _ z)) λz=>by
  obtain ⟨hb,e⟩:=oV z;obtain ⟨O,J,G,_⟩:=hf p.1 hb;obtain ⟨o,F,d⟩:=ho p.1 hb;rw [e] at F;cases F;exact ⟨e,O,J,G,d⟩
theorem Inv.mu(I:Inv X (Go++pl) σ H s):Inv X Go σ H s:=I.ti λp z=>I.pin p (J0 _ (KC _ z))
theorem aW(hp:Lh (J6 X.prog X.w) X.A X.env X.xe)(hc:c=true->X.calm=true)(hi:W (PIc c X tg iter wi))(hg:W (PG X tg g))(hb:W (PSs X Zj tb))(hs:∀x,Kw iter X.env x=pure x:=by intro _;rfl):W (PS X (.For tg iter Zj [] pos) (vY wi g tb)):=by
 refine ⟨?_⟩;have hi:=hi.h;have hg:=hg.h;have hb:=hb.h;intro Go s σ H D I h;refine wpAny_For (thn (hi Go s σ H _ I h) λv s1 h1=>thn h1 λa5 s2 h2=>?_) hs;obtain ⟨it,fp,tn,J,H2,e,I2,T,aI,f2,W,⟨m0,w0⟩,Yp⟩:=h2;subst e;have S:∀{H':Hp},(∀b∈fp,H' b=none)->∀b∈fp,aA X Go H' b:=λhn b hb=>⟨hn b hb,(f2 b hb).2⟩;refine codeAny_forLoop_any (λn s'=>∃i G H',Inv X Go G H' s'/\tn i s'.heap/\(∀b∈fp,H' b=none)/\W i n G H') ?_ m0 ⟨0,σ,H2,I2,aI,λb hb=>(f2 b hb).1,w0⟩;rintro n s3 ⟨i,F,H3,I3,ab,av,w3⟩;rcases Yp i n F H3 w3 with ⟨stop,qn⟩|⟨go,N,hN,step⟩
 .refine ML hp (thn (T.done X rfl rfl rfl hc i Go s3 F H3 X.xe I3 (S av) ab stop) λr s4=>x2e λhr I4=>?_);subst hr;exact Np ⟨F,H3,I4,qn⟩
 .refine ML hp (thn (T.item X rfl rfl rfl hc i Go s3 F H3 X.xe I3 (S av) ab go) λr s4=>x3e λu hr h4=>?_);subst hr;refine ML hp (thn h4 λ_ s5=>x5e λx H5 I5 r5 YH=>?_);obtain ⟨y5,Z,a3⟩:=YH;have a0:=I5.pinned (S a3) (T.obj _ _ Z);refine ML hp (thn (hg _ s5 F H5 x u _ a0 r5 (step x H5 y5)) λ_ s6=>x4e λa4 H6 I6 q6=>?_);refine ML hp (thn (hb _ s6 a4 H6 _ I6 q6) λf s7 U=>?_);have again:∀{z:St}{H7:Hp},Inv X (Go++eP fp s5.heap) z H7 s7->N z H7->∃m,m<n/\∃i G H',Inv X Go G H' s7/\tn i s7.heap/\(∀b∈fp,H' b=none)/\W i m G H':=λ{z H7} O n7=>by
   obtain ⟨m',hm,w7⟩:=hN z H7 n7;refine ⟨m',hm,i+1,z,H7,O.mu,T.keep _ _ _ Z λb hb o e=>(O.pin (b,o) (J0 _ (J0 _ (fi hb e)))).1,λb hb=>?_,w7⟩;obtain ⟨o,e,d⟩:=T.obj _ _ Z b hb;exact (O.pin (b,o) (J0 _ (J0 _ (fi hb e)))).2.1
  cases f with
  | next=>obtain ⟨z,H7,O,n7⟩:=U;exact again O n7
  | cont=>obtain ⟨z,H7,O,n7⟩:=U;exact again O n7
  | brk=>obtain ⟨z,H7,O,U⟩:=U;exact ⟨z,H7,O.mu,U⟩
  | ret v=>obtain ⟨x7,z,H7,O,r7,U⟩:=U;exact ⟨x7,z,H7,O.mu,r7,U⟩
end
theorem yS{K:JV}{a:Addr}{g:TG}{tb:TS}{D:aR}(z:Nat->St->Hp->Prop)(U:z 0 σ H)(hl:∀i σ H,i<=xs.length->z i σ H->SqL K H a xs)(hs:∀i x σ H,xs[i]?=some x->z i σ H->g x σ H λF H2=>tb { D with nx:=z (i+1),ct:=z (i+1),bk:=D.nx } F H2)(hd:∀σ H,z xs.length σ H->D.nx σ H):
  ∃W:Nat->Nat->St->Hp->Prop,(∃m,W 0 m σ H)/\∀i m σ H,W i m σ H ->
   ((Itl K a).stop i H/\D.nx σ H)\/((Itl K a).go i H/\∃N:St->Hp->Prop,(∀G H',N G H'->∃J,J<m/\W (i+1) J G H')/\∀x H',(Itl K a).Px i H x H'->g x σ H' λF H2=>tb { D with nx:=N,ct:=N,bk:=D.nx } F H2):=by
 refine ⟨λi m σ H=>m=xs.length-i/\i<=xs.length/\z i σ H,⟨xs.length,by simp,Lc _,U⟩,?_⟩;rintro i m σ H ⟨rfl,hi,p⟩;have q:=hl i σ H hi p;by_cases O:i<xs.length
 .refine .inr ⟨⟨xs,xs[i],q,by simp [O]⟩,z (i+1),λG H' S=>⟨xs.length-(i+1),by lia,rfl,O,S⟩,λx H' y=>?_⟩;obtain ⟨e,y⟩:=y;subst e;exact hs i x σ _ (y xs q) p
 .have e:i=xs.length:=by lia
  subst e;exact .inl ⟨⟨xs,q,JY _⟩,hd σ H p⟩
theorem yQ{lo:Int}{g:TG}{tb:TS}{D:aR}(z:Nat->St->Hp->Prop)(U:z 0 σ H)(hs:∀i σ H,i<n->z i σ H->g (.int (lo+i)) σ H λF H2=>tb { D with nx:=z (i+1),ct:=z (i+1),bk:=D.nx } F H2)(hd:∀σ H,z n σ H->D.nx σ H):
  ∃W:Nat->Nat->St->Hp->Prop,(∃m,W 0 m σ H)/\∀i m σ H,W i m σ H ->
   ((Itr lo n).stop i H/\D.nx σ H)\/((Itr lo n).go i H/\∃N:St->Hp->Prop,(∀G H',N G H'->∃O,O<m/\W (i+1) O G H')/\∀x H',(Itr lo n).Px i H x H'->g x σ H' λF H2=>tb { D with nx:=N,ct:=N,bk:=D.nx } F H2):=by
 refine ⟨λi m σ H=>m=n-i/\i<=n/\z i σ H,⟨n,by simp,Lc _,U⟩,?_⟩;rintro i m σ H ⟨rfl,hi,p⟩;by_cases J:i<n
 .refine .inr ⟨J,z (i+1),λG H' S=>⟨n-(i+1),by lia,rfl,J,S⟩,λx H' y=>?_⟩;obtain ⟨e,y⟩:=y;subst e y;exact hs i σ _ J p
 .have e:i=n:=by lia
  subst e;exact .inl ⟨JY _,hd σ H p⟩
abbrev R2:=V->V->Hp->VK->Prop
def OpR(X:Cx)(f:Value->Value->Sem Value)(r:R2):Prop :=
 ∀(Go:List (Addr×Obj))(s:JR)(σ:St)(H:Hp)(x y:V)(v u:Value)(Q:VK),Inv X Go σ H s->zl x v->zl y u->r x y H Q ->
  J3 (J6 X.prog X.w) X.A (f v u) (EP X Go σ Q) X.xe s
def UnR(X:Cx)(f:Value->Sem Value)(r:V->Hp->VK->Prop):Prop :=
 ∀(Go:List (Addr×Obj))(s:JR)(σ:St)(H:Hp)(x:V)(v:Value)(Q:VK),Inv X Go σ H s->zl x v->r x H Q ->
  J3 (J6 X.prog X.w) X.A (f v) (EP X Go σ Q) X.xe s
def zI(X:Cx)(f:Value)(r:List V->Hp->VK->Prop):Prop :=
 ∀(Go:List (Addr×Obj))(s:JR)(σ:St)(H:Hp)(xs:List V)(us:List Value)(Q:VK),Inv X Go σ H s->zm xs us->r xs H Q ->
  J3 (J6 X.prog X.w) X.A (call f us) (EP X Go σ Q) X.xe s
def B2(X:Cx)(r:V->Hp->(Bool->Hp->Prop)->Prop):Prop :=
 ∀(Go:List (Addr×Obj))(s:JR)(σ:St)(H:Hp)(x:V)(v:Value)(Q:Bool->Hp->Prop),Inv X Go σ H s->zl x v->r x H Q ->
  J3 (J6 X.prog X.w) X.A (truthy v) (TP X Go σ Q) X.xe s
def tOp(r:R2)(ta tb:TE):TE:=λσ H Q=>ta σ H λx H1=>tb σ H1 λy H2=>r x y H2 Q
def tUn(r:V->Hp->VK->Prop)(ta:TE):TE:=λσ H Q=>ta σ H λx H1=>r x H1 Q
def rI(C:Int->Int->Prop)(g:Int->Int->V):R2:=λx y H Q=>∃i j,x = .int i/\y = .int j/\C i j/\Q (g i j) H
def rI0(g:Int->Int->V):R2:=λx y H Q=>∃i j,x = .int i/\y = .int j/\Q (g i j) H
def rU(g:Int->V):V->Hp->VK->Prop:=λx H Q=>∃i,x = .int i/\Q (g i) H
section
variable {X:Cx}{a b c:Kf}{ta tb tc:TE}{pos:Pos}
theorem mE(ha:PE X a ta)(hb:PE X b tb){R:V->V->Hp->Prop}(I:Inv X Go σ H s)(h:ta σ H λx H1=>tb σ H1 λy H2=>R x y H2){f:Value->Value->Sem Value}(hf:∀v u s2 x y H2,Inv X Go σ H2 s2->zl x v->zl y u->R x y H2->J3 (J6 X.prog X.w) X.A (f v u) Q X.xe s2):
  J3 (J6 X.prog X.w) X.A (KZ a X.env) (λv s₁=>J3 (J6 X.prog X.w) X.A (KZ b X.env) (λu z=>J3 (J6 X.prog X.w) X.A (f v u) Q X.xe z) X.xe s₁) X.xe s:=by
 refine thn (ha Go s σ H _ I h) λv s1=>x5e λx H1 S F q1=>?_;refine thn (hb Go s1 σ H1 _ S q1) λu s2=>x5e λy H2 J G O=>?_;exact hf v u s2 x y H2 J F G O
theorem zB{r:R2}(ho:OpR X (Ly z) r)(ha:W (PE X a ta))(hb:W (PE X b tb)):W (PE X (.BinOp a z b pos) (tOp r ta tb)):=by
 refine ⟨?_⟩;have ha:=ha.h;have hb:=hb.h;intro Go s σ H Q I h;exact wpAny_BinOp (mE ha hb I h λv u s2 x y H2 F G J q=>ho Go s2 σ H2 x y v u Q F G J q)
theorem xm{r:V->Hp->VK->Prop}(ho:UnR X (unaryOp z) r)(ha:W (PE X a ta)):W (PE X (.UnaryOp z a pos) (tUn r ta)):=by
 refine ⟨?_⟩;have ha:=ha.h;intro Go s σ H Q I h;exact UnaryOp_ (thn (ha Go s σ H _ I h) λv s1=>x5e λx H1 G F q1=>ho Go s1 σ H1 x v Q G F q1)
theorem opI{g:Int->Int->Int}(rule:∀(i j:Int)(t u:Tok)(s:JR)(Q:Value->JR->Prop)(E:Value->JR->Prop),C i j->Q (.int (g i j) s.toks) { s with toks:=s.toks+1 }->J3 (J6 X.prog X.w) X.A (f (.int i t) (.int j u)) Q E s):
  OpR X f (rI C λi j=>.int (g i j)):=by
 intro Go s σ H x y v u Q I z F h;obtain ⟨i,j,rfl,rfl,hc,q⟩:=h;obtain ⟨t,rfl⟩:=z;obtain ⟨t',rfl⟩:=F;exact rule i j t t' s _ _ hc ⟨.int (g i j),H,I.tok _,⟨_,rfl⟩,q⟩
theorem rT{g:Int->Int->Int}(rule:∀(i j:Int)(t u:Tok)(s:JR)(Q:Value->JR->Prop)(E:Value->JR->Prop),Q (.int (g i j) s.toks) { s with toks:=s.toks+1 }->J3 (J6 X.prog X.w) X.A (f (.int i t) (.int j u)) Q E s):
  OpR X f (rI0 λi j=>.int (g i j)):=by
 intro Go s σ H x y v u Q I z F h;obtain ⟨i,j,rfl,rfl,q⟩:=h;obtain ⟨t,rfl⟩:=z;obtain ⟨t',rfl⟩:=F;exact rule i j t t' s _ _ ⟨.int (g i j),H,I.tok _,⟨_,rfl⟩,q⟩
theorem ki{g:Int->Int->Bool}(rule:∀(i j:Int)(t u:Tok)(s:JR)(Q:Value->JR->Prop)(E:Value->JR->Prop),Q (.bool (g i j)) s->J3 (J6 X.prog X.w) X.A (f (.int i t) (.int j u)) Q E s):
  OpR X f (rI0 λi j=>.bl (g i j)):=by
 intro Go s σ H x y v u Q I z F h;obtain ⟨i,j,rfl,rfl,q⟩:=h;obtain ⟨t,rfl⟩:=z;obtain ⟨t',rfl⟩:=F;exact rule i j t t' s _ _ ⟨.bl (g i j),H,I,rfl,q⟩
def BE(i j:Int):Prop:=0<j/\j<1073741824
def JI(i j:Int):Prop:=0<=j/\j<=1000000/\i.natAbs<2 ^ 64
def fQ(i j:Int):Prop:=(-(2 ^ 64)<i/\i<2 ^ 64)\/(-(2 ^ 64)<j/\j<2 ^ 64)
theorem fQ.ok(h:fQ i j):IntMulOk i j:=by
 rcases h with ⟨h1,h2⟩|⟨h1,h2⟩
 .exact .of_left (intBits_le_64 h1 h2)
 .exact .of_right (intBits_le_64 h1 h2)
theorem EG:OpR X (Ly .Add) (rI0 λi j=>.int (i+j)):=rT λ_ _ _ _ _ _ _ q=>add_int q
theorem og:OpR X (Ly .Sub) (rI0 λi j=>.int (i-j)):=rT λ_ _ _ _ _ _ _ q=>sub_int q
theorem Ai:OpR X (Ly .Mult) (rI fQ λi j=>.int (i*j)):=opI λ_ _ _ _ _ _ _ hc q=>mul_int q hc.ok
theorem o8:OpR X (Ly .FloorDiv) (rI BE λi j=>.int (i / j)):=opI λi j _ _ _ _ _ hc q=>by
 have h1:(0:Int)<j:=hc.1;have h2:j<1073741824:=hc.2;exact floordiv_int (by lia) (by rw [Int.fdiv_eq_ediv_of_nonneg i (by lia)];exact q) (.inl (PyProof.noPylong_small (by lia)))
theorem dG:OpR X (Ly .Mod) (rI (λ_ j=>0<j) λi j=>.int (i % j)):=opI λi j _ _ _ _ _ hc q=>by
 have h1:(0:Int)<j:=hc;exact mod_int' (by lia) (by rw [Int.fmod_eq_emod_of_nonneg i (by lia)];exact q)
theorem jQ:OpR X (Ly .Pow) (rI JI λi j=>.int (i ^ j.toNat)):=opI λ_ _ _ _ _ _ _ hc q=>pow_int_small hc.1 hc.2.1 hc.2.2 q
theorem unI{g:Int->Int}(rule:∀(i:Int)(t:Tok)(s:JR)(Q:Value->JR->Prop)(E:Value->JR->Prop),Q (.int (g i) s.toks) { s with toks:=s.toks+1 }->J3 (J6 X.prog X.w) X.A (f (.int i t)) Q E s):
  UnR X f (rU λi=>.int (g i)):=by
 intro Go s σ H x v Q I z h;obtain ⟨i,rfl,q⟩:=h;obtain ⟨t,rfl⟩:=z;exact rule i t s _ _ ⟨.int (g i),H,I.tok _,⟨_,rfl⟩,q⟩
theorem Fv:UnR X (unaryOp .USub) (rU λi=>.int (-i)):=unI λ_ _ _ _ _ q=>neg_int q
def fg:V->V->Bool
 | .non,.non=>true | .non,.int _=>true | .int _,.non=>true | .non,.bl _=>true | .bl _,.non=>true | .non,.str _=>true | .str _,.non=>true
 | .int _,.int _=>true | .bl _,.bl _=>true | .str _,.str _=>true | .byt _,.byt _=>true
 | .int _,.str _=>true | .str _,.int _=>true | .bl _,.str _=>true | .str _,.bl _=>true
 | _,_=>false
def rEq:R2:=λx y H Q=>fg x y=true/\Q (.bl (decide (x=y))) H
def rNe:R2:=λx y H Q=>fg x y=true/\Q (.bl (!decide (x=y))) H
theorem pW:decide (V.int i=V.int j)=(i==j):=by
 rw [Mo];simp
theorem uL:decide (V.bl i=V.bl j)=(i==j):=by
 rw [Mo];simp
theorem rm:decide (V.str i=V.str j)=(i==j):=by
 rw [Mo];simp
theorem se:decide (V.byt i=V.byt j)=(i.toList==j.toList):=by
 rw [Mo];cases i;cases j;simp
theorem zV{k k':Bool}(I:Inv X Go σ H s)(q:Q (.bl k) H)(e:k=k'):EP X Go σ Q (.bool k') s:=by
 subst e;exact ⟨.bl k,H,I,rfl,q⟩
theorem Bo:OpR X (KG .Eq) rEq:=by
 intro Go s σ H x y v u Q I F z h;obtain ⟨hs,q⟩:=h;cases x with
 | non =>
  cases F;cases y with
  | non=>cases z;exact PySem.EqNone.eq_none_none (zV I q (by simp))
  | bl j=>cases z;exact PySem.EqNone.eq_none_bool (zV I q (by simp))
  | int j=>obtain ⟨t',rfl⟩:=z;exact PySem.EqNone.eq_none_int (zV I q (by simp))
  | str j=>obtain ⟨t',rfl⟩:=z;exact PySem.EqNone.eq_none_str (zV I q (by simp))
  | _=>exact absurd (show false=true from hs) Ka
 | bl i =>
  cases F;cases y with
  | non=>cases z;exact PySem.EqNone.eq_bool_none (zV I q (by simp))
  | bl j=>cases z;exact eq_bool (zV I q uL)
  | str j=>obtain ⟨t',rfl⟩:=z;exact PySem.EqMixed.eq_bool_str (zV I q (by simp))
  | _=>exact absurd (show false=true from hs) Ka
 | int i =>
  obtain ⟨t,rfl⟩:=F;cases y with
  | non=>cases z;exact PySem.EqNone.eq_int_none (zV I q (by simp))
  | int j=>obtain ⟨t',rfl⟩:=z;exact eq_int (zV I q pW)
  | str j=>obtain ⟨t',rfl⟩:=z;exact PySem.EqMixed.eq_int_str (zV I q (by simp))
  | _=>exact absurd (show false=true from hs) Ka
 | str i =>
  obtain ⟨t,rfl⟩:=F;cases y with
  | non=>cases z;exact PySem.EqNone.eq_str_none (zV I q (by simp))
  | bl j=>cases z;exact PySem.EqMixed.eq_str_bool (zV I q (by simp))
  | int j=>obtain ⟨t',rfl⟩:=z;exact PySem.EqMixed.eq_str_int (zV I q (by simp))
  | str j=>obtain ⟨t',rfl⟩:=z;exact eq_str (zV I q rm)
  | _=>exact absurd (show false=true from hs) Ka
 | byt i =>
  obtain ⟨t,rfl⟩:=F;cases y with
  | byt j=>obtain ⟨t',rfl⟩:=z;exact PySem.W.eq_bytes (zV I q se)
  | _=>exact absurd (show false=true from hs) Ka
 | _=>cases y<;>exact absurd (show false=true from hs) Ka
theorem GX:OpR X (KG .NotEq) rNe:=by
 intro Go s σ H x y v u Q I F z h;obtain ⟨hs,q⟩:=h;cases x with
 | non =>
  cases F;cases y with
  | non=>cases z;exact PySem.EqNone.ne_none_none (zV I q (by simp))
  | bl j=>cases z;exact PySem.EqNone.ne_none_bool (zV I q (by simp))
  | int j=>obtain ⟨t',rfl⟩:=z;exact PySem.EqNone.ne_none_int (zV I q (by simp))
  | str j=>obtain ⟨t',rfl⟩:=z;exact PySem.EqNone.ne_none_str (zV I q (by simp))
  | _=>exact absurd (show false=true from hs) Ka
 | bl i =>
  cases F;cases y with
  | non=>cases z;exact PySem.EqNone.ne_bool_none (zV I q (by simp))
  | bl j=>cases z;exact ne_bool (zV I q (congrArg not uL))
  | str j=>obtain ⟨t',rfl⟩:=z;exact PySem.EqMixed.ne_bool_str (zV I q (by simp))
  | _=>exact absurd (show false=true from hs) Ka
 | int i =>
  obtain ⟨t,rfl⟩:=F;cases y with
  | non=>cases z;exact PySem.EqNone.ne_int_none (zV I q (by simp))
  | int j=>obtain ⟨t',rfl⟩:=z;exact ne_int (zV I q (congrArg not pW))
  | str j=>obtain ⟨t',rfl⟩:=z;exact PySem.EqMixed.ne_int_str (zV I q (by simp))
  | _=>exact absurd (show false=true from hs) Ka
 | str i =>
  obtain ⟨t,rfl⟩:=F;cases y with
  | non=>cases z;exact PySem.EqNone.ne_str_none (zV I q (by simp))
  | bl j=>cases z;exact PySem.EqMixed.ne_str_bool (zV I q (by simp))
  | int j=>obtain ⟨t',rfl⟩:=z;exact PySem.EqMixed.ne_str_int (zV I q (by simp))
  | str j=>obtain ⟨t',rfl⟩:=z;exact ne_str (zV I q (congrArg not rm))
  | _=>exact absurd (show false=true from hs) Ka
 | byt i =>
  obtain ⟨t,rfl⟩:=F;cases y with
  | byt j=>obtain ⟨t',rfl⟩:=z;exact PySem.W.ne_bytes (zV I q (congrArg not se))
  | _=>exact absurd (show false=true from hs) Ka
 | _=>cases y<;>exact absurd (show false=true from hs) Ka
theorem qo:OpR X (KG .Lt) (rI0 λi j=>.bl (decide (i<j))):=ki λ_ _ _ _ _ _ _ q=>lt_int q
theorem gb:OpR X (KG .LtE) (rI0 λi j=>.bl (decide (i<=j))):=ki λ_ _ _ _ _ _ _ q=>le_int q
theorem rR:OpR X (KG .Gt) (rI0 λi j=>.bl (decide (j<i))):=ki λ_ _ _ _ _ _ _ q=>gt_int q
theorem Ij:OpR X (KG .In) (λx y H Q=>∃i j,x = .str i/\y = .str j/\Q (.bl (!(Kb.Str.occurrences j i 0 j.length 1).isEmpty)) H):=by
 intro Go s σ H x y v u Q I z F h;obtain ⟨i,j,rfl,rfl,q⟩:=h;obtain ⟨t,rfl⟩:=z;obtain ⟨t',rfl⟩:=F;exact in_str (zV I q rfl)
theorem yo:OpR X (KG .Is) (λx y H Q=>y = .non/\Q (.bl (decide (x = .non))) H):=by
 intro Go s σ H x y v u Q I z F h;obtain ⟨rfl,q⟩:=h;cases F;refine is_none_gen (zV I q ?_);cases x<;>first
  | (cases z;rfl)
  | (obtain ⟨t,rfl⟩:=z;rfl)
theorem CL:OpR X (KG .IsNot) (λx y H Q=>y = .non/\Q (.bl (!decide (x = .non))) H):=by
 intro Go s σ H x y v u Q I z F h;obtain ⟨rfl,q⟩:=h;cases F;refine isnot_none_gen (zV I q ?_);cases x<;>first
  | (cases z;rfl)
  | (obtain ⟨t,rfl⟩:=z;rfl)
theorem OpR.or{r r':R2}(h:OpR X f r)(h':OpR X f r'):OpR X f (λx y H Q=>r x y H Q\/r' x y H Q):=by
 intro Go s σ H x y v u Q I z F q;rcases q with q|q
 .exact h Go s σ H x y v u Q I z F q
 .exact h' Go s σ H x y v u Q I z F q
theorem z6(b:Kf)(h:z≠.In:=by decide)(h2:z≠.NotIn:=by decide):Nh z b=false:=by
 have F:(z==CmpOp.In)=false:=by cases z<;>first|rfl|exact absurd rfl h
 have G:(z==CmpOp.NotIn)=false:=by cases z<;>first|rfl|exact absurd rfl h2
 cases b<;>simp [Nh,F,G]
theorem eR{r:R2}(ho:OpR X (KG z) r)(ha:W (PE X a ta))(hb:W (PE X b tb))(hm:Nh z b=false):W (PE X (.Compare a [z] [b] pos) (tOp r ta tb)):=by
 refine ⟨?_⟩;have ha:=ha.h;have hb:=hb.h;intro Go s σ H Q I h;exact wpAny_Compare1 (mE ha hb I h λv u s2 x y H2 F G J q=>ho Go s2 σ H2 x y v u Q F G J q) hm
def jC(t:TE):TT:=λσ H Q=>t σ H λx H'=>∃k,x = .bl k/\Q k H'
theorem wG{r:R2}(ho:OpR X (KG F) r)(ha:PE X a ta)(hb:PE X b tb)(hm:Nh F b=false):PT X (.Compare a [F] [b] pos) (jC (tOp r ta tb)):=by
 intro Go s σ H Q I h;refine wpAny_isTrue_Compare1 (thn (ha Go s σ H _ I h) λv s1=>x5e λx H1 I1 G q1=>thn (hb Go s1 σ H1 _ I1 q1) λu s2=>x5e λy H2 O J U =>
  thn (ho Go s2 σ H2 x y v u _ O G J U) λc s3=>x5e λz H3 I3 Z S=>?_) hm
 obtain ⟨k,e,W⟩:=S;subst e;cases Z;exact LF ⟨H3,I3,W⟩
def wV(r r':R2)(ta tb tc:TE):TE:=λσ H Q=>ta σ H λx H1=>tb σ H1 λy H2=>r x y H2 λz H3=>∃k,z = .bl k /\
 (if k=true then tc σ H3 λw' H4=>r' y w' H4 Q else Q (.bl false) H3)
theorem va{r r':R2}(ho:OpR X (KG J) r)(Yk:OpR X (KG F) r')(ha:W (PE X a ta))(hb:W (PE X b tb))(hc:W (PE X c tc))(hm:lastMarks [J,F] [b,c]=false:=by with_unfolding_all rfl):W (PE X (.Compare a [J,F] [b,c] pos) (wV r r' ta tb tc)):=by
 refine ⟨?_⟩;have ha:=ha.h;have hb:=hb.h;have hc:=hc.h;intro Go s σ H Q I h;refine Compare_chain (thn (ha Go s σ H _ I h) λv s1=>x5e λx H1 I1 Z q1=>chain_link (thn (hb Go s1 σ H1 _ I1 q1) λu s2=>x5e λy H2 I2 O q2 =>
  thn (ho Go s2 σ H2 x y v u _ I2 Z O q2) λd s3=>x5e λz H3 U r3 G=>?_)) hm
 obtain ⟨k,e,S⟩:=G;subst e;cases r3;refine LF ?_;cases k with
 | false=>exact ite_ff ⟨.bl false,H3,U,rfl,S⟩
 | true=>exact ite_tt (chain_last (thn (hc Go s3 σ H3 _ U S) λw' s4=>x5e λz' H4 I4 r4 q4=>Yk Go s4 σ H4 y z' u w' Q I4 O r4 q4))
def fb(K:JV)(x:V)(H:Hp)(k:Bool):Prop :=
 match x with
 | .non=>k=false
 | .bl b=>k=b
 | .int i=>k=(i != 0)
 | .str y=>y.length<=sizeLine/\k=((y.length:Int) != 0)
 | .byt y=>y.size<=sizeLine/\k=((y.size:Int) != 0)
 | .ref p=>(∃xs,SqL K H p xs/\k = !xs.isEmpty)\/(∃xs,SqT K H p xs/\k = !xs.isEmpty)\/∃kvs,H p=some (.dK kvs)/\k = !kvs.isEmpty
 | _=>False
theorem yB{κ:Type}{kvs:List (κ×V)}{vs:List (κ×Value)}(r:KV kvs vs):(!vs.isEmpty) = !kvs.isEmpty:=by
 cases r<;>rfl
theorem ud(r:zm xs z):(!z.toArray.isEmpty) = !xs.isEmpty:=by
 cases r<;>simp
theorem fh:(sizeLine:Nat)<2 ^ 63:=by rw [K8];decide
theorem Do:B2 X (λx H Q=>∃k,fb X.K x H k/\Q k H):=by
 intro Go s σ H x v Q I F h;obtain ⟨k,e,q⟩:=h;have hl:=fh;have hs:sizeLine=16777216:=K8;cases x with
 | non =>
  cases F;have z:k=false:=e;subst z;exact truthy_none ⟨H,I,q⟩
 | bl b =>
  cases F;have z:k=b:=e;subst z;exact LF ⟨H,I,q⟩
 | int i =>
  obtain ⟨t,rfl⟩:=F;have z:k=(i != 0):=e;subst z;exact PySem.P.truthy_int ⟨H,I,q⟩
 | str y =>
  obtain ⟨t,rfl⟩:=F;obtain ⟨J,z⟩:y.length<=sizeLine/\k=((y.length:Int) != 0):=e;subst z;exact PySem.P.truthy_str (by lia) ⟨H,I.tok _,q⟩
 | byt y =>
  obtain ⟨t,rfl⟩:=F;obtain ⟨J,z⟩:y.size<=sizeLine/\k=((y.size:Int) != 0):=e;subst z;exact PySem.W.truthy_bytes (by lia) ⟨H,I.tok _,q⟩
 | ref p =>
  cases F;have z:(∃xs,SqL X.K H p xs/\k = !xs.isEmpty)\/(∃xs,SqT X.K H p xs/\k = !xs.isEmpty)\/∃kvs,H p=some (.dK kvs)/\k = !kvs.isEmpty:=e;rcases z with ⟨xs,hx,z⟩|⟨xs,hx,z⟩|⟨kvs,hx,z⟩
  .subst z;obtain ⟨S,r,pl,hz⟩:=I.list hx;have G:=r.length;exact wpAny_truthy_list pl.isList (by simp only [J8];lia) ⟨H,I.tok _,by rw [ud r];exact q⟩
  .subst z;obtain ⟨S,r,pl,hz⟩:=I.tuple hx;have G:=r.length;exact truthy_tuple pl (by simp only [J8];lia) ⟨H,I.tok _,by rw [ud r];exact q⟩
  .subst z;obtain ⟨hz,O,vs,r,m⟩:kvs.length<=sizeLine/\(p==sysModules)=false/\∃vs,KV kvs vs/\s.heap.DictOf (aw X.prog X.w) p vs:=I.hok p _ hx;have G:kvs.length=vs.length:=Paired.length r;exact wpAny_truthy_dict O m (by lia) ⟨H,I.tok _,by rw [yB r];exact q⟩
 | _=>exact (show False from e).elim
theorem BO(ha:PE X a ta)(he:∀z,isTrue a X.env z=(do let v<-z;Mt a.pos;MM [v] (truthy v))) :
  PT X a (λσ H Q=>ta σ H λx H'=>∃k,fb X.K x H' k/\Q k H'):=by
 intro Go s σ H Q I h;exact isTrue_plain (thn (ha Go s σ H _ I h) λv s1=>x5e λx H1 G F q1=>Do Go s1 σ H1 x v Q G F q1) (he _)
theorem BG:OpR X (Ly .Add) (λx y H Q=>∃i j,x = .str i/\y = .str j/\i.length+j.length<=sizeLine/\Q (.str (i++j)) H):=by
 intro Go s σ H x y v u Q I z F h;obtain ⟨i,j,rfl,rfl,hz,q⟩:=h;obtain ⟨t,rfl⟩:=z;obtain ⟨t',rfl⟩:=F;exact add_str (λt' tk=>⟨.str (i++j),H,I.tok _,⟨_,rfl⟩,q⟩) hz
theorem bo(r:zm [x] us):∃u,us=[u]/\zl x u:=by
 cases r with
 | cons z F=>cases F;exact ⟨_,rfl,z⟩
theorem ko(r:zm [x,y] us):∃u w',us=[u,w']/\zl x u/\zl y w':=by
 cases r with
 | cons z G =>
  cases G with
  | cons F J=>cases J;exact ⟨_,_,rfl,z,F⟩
theorem B9(hc:X.calm=true):zI X (.builtin "max") (λxs H Q=>∃i j,xs=[.int i,.int j]/\Q (.int (if j>i then j else i)) H):=by
 intro Go s σ H xs us Q I r h;obtain ⟨i,j,rfl,q⟩:=h;obtain ⟨u,w',rfl,⟨t,rfl⟩,⟨t',rfl⟩⟩:=ko r;refine max_two_ints (I.ok.hd hc) λh' tk k=>⟨_,H,I.kept k,?_,q⟩;by_cases z:j>i
 .rw [if_pos z,if_pos z];exact ⟨_,rfl⟩
 .rw [if_neg z,if_neg z];exact ⟨_,rfl⟩
theorem Ju(hc:X.calm=true):zI X (.builtin "min") (λxs H Q=>∃i j,xs=[.int i,.int j]/\Q (.int (if j<i then j else i)) H):=by
 intro Go s σ H xs us Q I r h;obtain ⟨i,j,rfl,q⟩:=h;obtain ⟨u,w',rfl,⟨t,rfl⟩,⟨t',rfl⟩⟩:=ko r;refine min_two_ints (I.ok.hd hc) λh' tk k=>⟨_,H,I.kept k,?_,q⟩;by_cases z:j<i
 .rw [if_pos z,if_pos z];exact ⟨_,rfl⟩
 .rw [if_neg z,if_neg z];exact ⟨_,rfl⟩
theorem HX:zI X (.type "int") (λxs H Q=>(∃i,xs=[.int i]/\Q (.int i) H)\/∃k,xs=[.bl k]/\Q (.int (if k then 1 else 0)) H):=by
 intro Go s σ H xs us Q I r h;rcases h with ⟨i,rfl,q⟩|⟨k,rfl,q⟩
 .obtain ⟨u,rfl,t,rfl⟩:=bo r;exact call_int_int ⟨.int i,H,I,⟨_,rfl⟩,q⟩
 .obtain ⟨u,rfl,z⟩:=bo r;cases z;exact call_int_bool ⟨.int (if k then 1 else 0),H,I.tok _,⟨_,rfl⟩,q⟩
theorem Gu:zI X (.type "str") (λxs H Q=>∃i,xs=[.int i]/\i.natAbs.log2<1920/\Q (.str (toString i)) H):=by
 intro Go s σ H xs us Q I r h;obtain ⟨i,rfl,hz,q⟩:=h;obtain ⟨u,rfl,t,rfl⟩:=bo r;exact PySem.P.str_of_int hz ⟨.str _,H,I.tok _,⟨_,rfl⟩,q⟩
theorem Hr:zI X (.builtin "ord") (λxs H Q=>∃x,xs=[.str x]/\x.length=1/\Q (.int (x.cps.getD 0 0:Nat)) H):=by
 intro Go s σ H xs us Q I r h;obtain ⟨x,rfl,hz,q⟩:=h;obtain ⟨u,rfl,t,rfl⟩:=bo r;exact ord_of_one hz ⟨.int _,H,I.tok _,⟨_,rfl⟩,q⟩
end
structure fc(h:Heap)(x dx C:Addr)(mA:Str->Option Value):Prop where
 obj:h.get? x=some (Of C dx)
 ns:h.Ns1 dx mA
 ne:dx≠x
theorem FX{h:Heap}(n:h.Ns1 dx mA):∃F,h.get? dx=some F/\∀name,lookIn name F=some (mA name):=by
 obtain ⟨o,es,ep,ho,hd,J,_,hm⟩:=n;refine ⟨o,ho,λname=>?_⟩;have e:=hm name;unfold nsFind findBy at e;rw [<- Array.find?_toList] at e;unfold lookIn;rw [hd];dsimp only;split
 .rename_i y q;rw [q] at e;exact congrArg some e
 .rename_i q;rw [q] at e;have a:es.toList.any (·.refKey)=false:=by
   rw [List.any_eq_false];intro y G;obtain ⟨z,t,O⟩:=J y (Array.mem_toList_iff.mp G);simp [DictEntry.refKey,O]
  have S : ¬ es.toList.any (·.refKey)=true:=by rw [a];exact Ka
  rw [if_neg S];exact congrArg some e
theorem fc.look(I:fc h x dx C mA):∃z,PySem.W.InstAt h x (Of C dx) C (some z)/\∀name,lookIn name z=some (mA name) :=
 let ⟨z,ho,hl⟩:=FX I.ns
 ⟨z,⟨I.obj,rfl,rfl,ho⟩,hl⟩
section
variable {prog:JZ}{w:Ke}{A:Kk}{E:Value->JR->Prop}{s:JR}{K:JV}{x dx C f:Addr}{mA:Str->Option Value}{name:Str}{v:Value}
theorem Cp(X:K.In s.heap)(I:fc s.heap x dx C mA)(O:N3 K C name=true)(G:N7 K C=true)(ha:Lo K (.ref C) name=some none)(hv:mA name=some v)(F:handedIn v=true)(h:Q v { s with toks:=s.toks+1 }):
  J3 (J6 prog w) A (getAttr (.ref x) name z) Q E s:=by
 obtain ⟨S,J,hl⟩:=I.look;exact PySem.W.get_value X J (plainGet_of O).1 (PySem.W.findObj_own G ha rfl (by rw [hl,hv])) F h
theorem Gp(X:K.In s.heap)(I:fc s.heap x dx C mA)(z:N3 K C name=true)(hf:Lo K (.ref C) name=some (some (.ref f)))(F:isFn K (.ref f)=true)(hv:mA name=none)(h:Q (.ref f,[.ref x]) s):
  J3 (J6 prog w) A (N8 (.ref x) name pl) Q E s:=by
 obtain ⟨G,J,hl⟩:=I.look;exact PySem.W.method_fn X J (plainGet_of z).1 (plainGet_of z).2 hf (beq_iff_eq.mp F) (by show (lookIn name G).map (·.isSome)=some false;rw [hl,hv];rfl) h
theorem xT(X:K.In s.heap)(I:fc s.heap x dx C mA)(hs:Lo K (.ref C) "__setattr__"=some (some (.builtin "object.__setattr__")))(hp:plainOver K C=true)(Z:takerIn K C name=some none)(hh:N7 K C=true)(hw:Oj mA ns)(hsz:ns.length<=sizeLine)(h:∀h',fc h' x dx C (λy=>if y=name then some v else mA y)->Lr dx s.heap h'->Q () { s with heap:=h',toks:=s.toks+2 }):
  J3 (J6 prog w) A (setAttr (.ref x) name v) Q E s:=by
 obtain ⟨od,J,hl⟩:=I.look;refine PySem.W.set_plain X J hs (PySem.W.osa_open (s:={ s with toks:=s.toks+1 }) (r:=none) X J hp Z λb=>?_);obtain ⟨cd,hc,O⟩:=PySem.W.any_some hh;have hx:s.heap.get? x=some ⟨.ref C,some dx,.plain,#[]⟩:=I.obj;refine we (JT (we (we (wpAny_loadPart hx (we (PySem.W.Looks.here (s:={ s with toks:=s.toks+1 }) (PySem.W.looks_clsIn X hc) ?_))))));rw [O];refine JT (a:=some dx) (we (JT (we ?_)));refine wpAny_nsSet1 (s:={ s with toks:=s.toks+1 }) I.ns λh' z F=>?_;obtain ⟨oD,av,ab,S,G,U⟩:=z.count (Oj.cons name v hw);refine we (wpAny_lookBehind S (by rw [G];exact pastItsLine_dict (Kp U (by rw [Le];lia))) ?_);exact JT (h _ ⟨(F.2 _ (Lv I.ne)).trans I.obj,z,I.ne⟩ F)
theorem Dl(X:K.In s.heap)(hm:makesIn K C=true)(hi:Lo K (.ref C) WE=some (some (.ref f)))(hf:PySem.W.typeIn K (.ref f)=some (.type "function"))(h:LN (J6 prog w) (A.under (.builtin "type.__call__" ⟨.ref C::vs,kw⟩)) (.call (.ref f) ⟨.ref (s.heap.objs.size+1)::vs,kw⟩) (PySem.W.InitBack (s.heap.objs.size+1) R)
   { s with heap:=(s.heap.push emptyDict).push (Of C s.heap.objs.size) }):
  LN (J6 prog w) A (.call (.ref C) ⟨vs,kw⟩) R s:=by
 obtain ⟨z,g,d,t,os⟩:=s;exact PySem.W.make_core (PySem.W.makes_of X hm) (PySem.W.looks_findIn X hi) (λself=>PySem.W.bind_fn X self hf) (.inl rfl) h
end
def zL(f:Str)(v:V):List (Str×V)->List (Str×V)
 | []=>[(f,v)]
 | (g,x)::r=>if g=f then (g,v)::r else (g,x)::zL f v r
theorem wU(f g:Str)(v:V):∀fs:List (Str×V),(zL f v fs).lookup g=if g=f then some v else fs.lookup g
 | []=>by
  show KP g [(f,v)]=_;by_cases h:g=f
  .have hb:(g==f)=true:=beq_iff_eq.mpr h;simp only [KP,hb,if_pos h]
  .have hb:(g==f)=false:=beq_eq_false_iff_ne.mpr h;simp only [KP,hb,if_neg h]
 | (k,x)::r=>by
  have F:=wU f g v r;rw [show zL f v ((k,x)::r)=(if k=f then (k,v)::r else (k,x)::zL f v r) from rfl];by_cases z:k=f
  .rw [if_pos z];by_cases h:g=k
   .have hb:(g==k)=true:=beq_iff_eq.mpr h;simp only [KP,hb,if_pos (h.trans z)]
   .have hb:(g==k)=false:=beq_eq_false_iff_ne.mpr h;simp only [KP,hb,if_neg (λe:g=f=>h (e.trans z.symm))]
  .rw [if_neg z];by_cases h:g=k
   .have hb:(g==k)=true:=beq_iff_eq.mpr h;simp only [KP,hb,if_neg (λe:g=f=>z (h.symm.trans e))]
   .have hb:(g==k)=false:=beq_eq_false_iff_ne.mpr h;simp only [KP,hb];exact F
theorem mL(f:Str)(v:V):∀fs:List (Str×V),f∈(zL f v fs).map (·.1)/\∀g,g∈fs.map (·.1)->g∈(zL f v fs).map (·.1)
 | []=>⟨by simp [zL],λg h=>by simp at h⟩
 | (k,x)::r=>by
  obtain ⟨i1,i2⟩:=mL f v r;rw [show zL f v ((k,x)::r)=(if k=f then (k,v)::r else (k,x)::zL f v r) from rfl];by_cases z:k=f
  .rw [if_pos z];subst z;exact ⟨by simp,λg h=>by simpa using h⟩
  .rw [if_neg z];refine ⟨?_,λg h=>?_⟩
   .rw [Li];exact Kc _ i1
   .rw [Li] at h ⊢;rcases J1.mp h with e|e
    .exact J1.mpr (.inl e)
    .exact Kc _ (i2 g e)
theorem wF(f:Str)(v:V):∀fs:List (Str×V),(zL f v fs).length<=fs.length+1
 | []=>by simp [zL]
 | (k,x)::r=>by
  have F:=wF f v r;rw [show zL f v ((k,x)::r)=(if k=f then (k,v)::r else (k,x)::zL f v r) from rfl];by_cases z:k=f
  .rw [if_pos z,Le,Le];lia
  .rw [if_neg z,Le,Le];lia
theorem aX.some_of{o:Option Value}(r:aX (some v) o):∃u,o=some u/\zl v u:=by
 cases o with
 | none=>exact (show False from r).elim
 | some u=>exact ⟨u,rfl,r⟩
theorem aX.none_of{o:Option Value}(r:aX none o):o=none:=by
 cases o with
 | none=>rfl
 | some u=>exact (show False from r).elim
theorem Dc(r:zl v u):handedIn u=true:=by
 cases v with
 | non=>cases (show u=Mh from r);rfl
 | bl b=>cases (show u=Mi b from r);rfl
 | int i=>obtain ⟨t,e⟩:=(show ∃t,u=MI i t from r);cases e;rfl
 | str x=>obtain ⟨t,e⟩:=(show ∃t,u=Ng x t from r);cases e;rfl
 | byt b=>obtain ⟨t,e⟩:=(show ∃t,u=Value.bytes b t from r);cases e;rfl
 | flt b=>obtain ⟨t,e⟩:=(show ∃t,u=float b t from r);cases e;rfl
 | ref a=>cases (show u=Ko a from r);rfl
 | ty n=>cases (show u=type n from r);rfl
section
variable {P:JZ}{w:Ke}{H H':Hp}{h h':Heap}{a C dx:Addr}{fs fs':List (Str×V)}
theorem i9(hok:HOk P w H h)(e:H a=some (.ins C dx fs)):∃mA,fc h a dx C mA/\(∀f,aX (fs.lookup f) (mA f))/\Oj mA (fs.map (·.1))/\fs.length<=1000/\H dx=some (.own a):=by
 obtain ⟨d,z,ne,ob,mA,n,r,q⟩:=(show z7 P w H h a (.ins C dx fs) from hok a _ e);exact ⟨mA,⟨ob,n,ne⟩,r,q,z,d⟩
end
structure Cls(K:JV)(C:Addr):Prop where
 pg:N3 K C Nx=true
 hd:N7 K C=true
 po:plainOver K C=true
 sa:Lo K (.ref C) "__setattr__"=some (some (.builtin "object.__setattr__"))
theorem Cls.get{K:JV}(c:Cls K C)(f:Str):N3 K C f=true:=c.pg
def bH(K:JV)(C:Addr)(f:Str):Prop:=Lo K (.ref C) f=some none
theorem bH.Qo{K:JV}(n:bH K C f):takerIn K C f=some none:=by
 unfold takerIn;rw [show Lo K (.ref C) f=some none from n];rfl
structure iX(K:JV)(C:Addr)(m:Str)(f:Addr):Prop where
 at_:Lo K (.ref C) m=some (some (.ref f))
 fn:isFn K (.ref f)=true
 kp:Oe K (.ref f)=true
section
variable {X:Cx}{Go:List (Addr×Obj)}{σ:St}{H:Hp}{s:JR}{a C dx:Addr}{fs:List (Str×V)}{f:Str}{v:V}{A:Kk}{E:Value->JR->Prop}
theorem uO{b:Bool}(I:Inv X Go σ H s)(e:H a=some (.ins C dx fs))(c:Cls X.K C)(n:bH X.K C f)(l:fs.lookup f=some v)(h:∀u s',Inv X Go σ H s'->zl v u->Q u s'):J3 (J6 X.prog X.w) A (getAttr (.ref a) f b) Q E s:=by
 obtain ⟨mA,O,r,_,_,_⟩:=i9 I.hok e;obtain ⟨u,F,z⟩:=aX.some_of (v:=v) (o:=mA f) (by rw [<- l];exact r f);exact Cp I.z4 O (c.get f) c.hd n F (Dc z) (h u _ (I.tok _) z)
theorem pO(I:Inv X Go σ H s)(e:H a=some (.ins C dx fs))(c:Cls X.K C)(k:iX X.K C m g)(l:fs.lookup m=none)(h:Q (.ref g,[.ref a]) s):J3 (J6 X.prog X.w) A (N8 (.ref a) m pl) Q E s:=by
 obtain ⟨mA,O,r,_,_,_⟩:=i9 I.hok e;have z:mA m=none:=aX.none_of (by rw [<- l];exact r m);exact Gp I.z4 O (c.get m) k.at_ k.fn z h
theorem sP(I:Inv X Go σ H s)(e:H a=some (.ins C dx fs))(c:Cls X.K C)(n:bH X.K C f)(hl:fs.length<1000)(G:zl y u)(h:∀s',Inv X Go σ (upd H a (.ins C dx (zL f y fs))) s'->Q () s'):J3 (J6 X.prog X.w) A (setAttr (.ref a) f u) Q E s:=by
 obtain ⟨mA,O,r,wi,_,ho⟩:=i9 I.hok e;have hz:(fs.map (·.1)).length<=sizeLine:=by rw [JS,K8];lia
 refine xT I.z4 O c.sa c.po n.Qo c.hd wi hz λh' F J=>h _ ?_;have hd:∃o,h'.get? dx=some o:=let ⟨o,_,_,e',_⟩:=F.ns;⟨o,e'⟩;refine I.write (x:=a) (e:=dx) (by rw [e];exact True.intro) (.inr ho) (λb q hb z=>(J.2 b hb).trans z) hd ?_;refine ⟨by rw [zf O.ne];exact ho,?_,O.ne,F.obj,_,F.ns,λg=>?_,λg S=>?_⟩
 .have:=wF f y fs;lia
 .show aX ((zL f y fs).lookup g) (if g=f then some u else mA g);rw [wU];by_cases q:g=f
  .rw [if_pos q,if_pos q];exact G
  .rw [if_neg q,if_neg q];exact r g
 .by_cases q:g=f
  .rw [q];exact (mL f y fs).1
  .refine (mL f y fs).2 g (wi g λz=>S ?_);show (if g=f then some u else mA g)=none;rw [if_neg q];exact z
theorem Inv.made(I:Inv X Go σ H s):Inv X Go σ (upd (upd H s.heap.objs.size (.own (s.heap.objs.size+1))) (s.heap.objs.size+1) (.ins C s.heap.objs.size []))
  { s with heap:=(s.heap.push emptyDict).push (Of C s.heap.objs.size) }:=by
 have z:(s.heap.push emptyDict).get? s.heap.objs.size=some emptyDict:=J7 s.heap rfl;have G:((s.heap.push emptyDict).push (Of C s.heap.objs.size)).get? (s.heap.objs.size+1)=some (Of C s.heap.objs.size):=by
  have:=J7 (s.heap.push emptyDict) (o:=Of C s.heap.objs.size) rfl;rwa [L7] at this
 have J:(s.heap.push emptyDict).Ns s.heap.objs.size (λ_=>none):=⟨emptyDict,#[],_,z,rfl,(λe he=>absurd he (by simp)),λ_=>rfl⟩;have O:=I.laid (a:=s.heap.objs.size) (o:=.own (s.heap.objs.size+1)) (h':=s.heap.push emptyDict) (t':=s.toks) (λb u q=>JU _ q) (JY _) ⟨_,z⟩;refine O.laid (a:=s.heap.objs.size+1) (o:=.ins C s.heap.objs.size []) (t':=s.toks) (λb u q=>JU _ q) (N6 (L7 _ _)) ?_;have ne:s.heap.objs.size≠s.heap.objs.size+1:=Ky (MX _);refine ⟨by rw [zf ne,zq],Lc _,ne,G,λ_=>none,(Heap.Ns1.of_empty J).at λo q=>JU _ q,λ_=>True.intro,λy F=>absurd rfl F⟩
theorem y8{f:Str}{s:JR}(hb:KU e f env (KZ e env)=KZ e env)(h:J3 (J6 prog w) A (KZ e env) (λo s₁=>J3 (J6 prog w) A (getAttr o f true) Q E s₁) E s):J3 (J6 prog w) A (KZ (.Attribute e f pos) env) Q E s :=
 Attribute_any_ h (by rw [arm_eval_Attribute,hb])
end
def uI(X:Cx)(z:Operator)(F:V->V->Hp->VK->Prop):Prop :=
 ∀(Go:List (Addr×Obj))(s:JR)(σ:St)(H:Hp)(x y:V)(u v:Value)(Q:VK),Inv X Go σ H s->zl x u->zl y v->F x y H Q->J3 (J6 X.prog X.w) X.A (inplaceOp z u v) (EP X Go σ Q) X.xe s
section
variable {X:Cx}{o e Zp:Kf}{f:Str}{pos YX Xu:Pos}{ta tv:TE}
def ma:V->V->Hp->VK->Prop:=λx y H Q=>∃i j,x = .int i/\y = .int j/\Q (.int (i+j)) H
theorem Gd:uI X .Add ma:=by
 rintro Go s σ H x y u v Q I z F ⟨i,j,rfl,rfl,q⟩;obtain ⟨t,rfl⟩:=(show ∃t,u=MI i t from z);obtain ⟨t',rfl⟩:=(show ∃t',v=MI j t' from F);exact PyProof.Rows.iadd_int ⟨.int (i+j),H,I.tok _,⟨_,rfl⟩,q⟩
end
section
variable {X:Cx}{Go:List (Addr×Obj)}{σ:St}{H:Hp}{s:JR}{A:Kk}{E:Value->JR->Prop}{Q:Value->JR->Prop}{c:Value}{b:Bool}
inductive cg(K:JV)(H:Hp):V->Value->Prop where
 | non:cg K H .non (.type "NoneType")
 | bl (x:Bool):cg K H (.bl x) (.type "bool")
 | int (i:Int):cg K H (.int i) (.type "int")
 | str (x:Str):cg K H (.str x) (.type "str")
 | flt (x:UInt64):cg K H (.flt x) (.type "float")
 | lst {a:Addr}{xs:List V} (e:H a=some (.lst xs)):cg K H (.ref a) (.type "list")
 | frz {a:Addr}{o:Obj}{xs:List V} (e:H a=some (.frz o (.lst xs))):cg K H (.ref a) (.type "list")
 | tup {a:Addr}{xs:List V} (e:H a=some (.tup xs)):cg K H (.ref a) (.type "tuple")
 | dK {a:Addr}{kvs:List (Key×V)} (e:H a=some (.dK kvs)):cg K H (.ref a) (.type "dict")
 | dT {a:Addr}{kvs:List (List Key×V)} (e:H a=some (.dT kvs)):cg K H (.ref a) (.type "dict")
 | ins {a C dx:Addr}{fs:List (Str×V)} (e:H a=some (.ins C dx fs)) (cl:Cls K C) (ha:Lo K (.ref C) "__class__"=some (some (.builtin "object.__class__")))
   (hn:PySem.W.specialIn K (.builtin "object.__class__") "__get__"=some (some (.builtin "getset_descriptor.__get__"))) (htk:PySem.W.takesIn K (.builtin "object.__class__")=some true)
   (hm:PySem.W.mroIn K C (.type "object")=some true):cg K H (.ref a) (.ref C)
theorem Dv{u t:Value}(I:Inv X Go σ H s)(F:zl x u)(ty:cg X.K H x t)(e:PySem.W.kitOne X.K t c=some b)(h:∀tk,Q (.bool b) { s with toks:=tk }):
  J3 (J6 X.prog X.w) A (call (.builtin "isinstance") [u,c]) Q E s:=by
 cases ty with
 | non=>cases (show u=Mh from F);exact Lf PySem.W.kitx_none I.z4 True.intro e (λz=>nomatch z) h
 | bl y=>cases (show u=Mi y from F);exact Lf PySem.W.kitx_bool I.z4 True.intro e (λz=>nomatch z) h
 | int i=>obtain ⟨t,q⟩:=(show ∃t,u=MI i t from F);cases q;exact Lf PySem.W.kitx_int I.z4 True.intro e (λz=>nomatch z) h
 | str y=>obtain ⟨t,q⟩:=(show ∃t,u=Ng y t from F);cases q;exact Lf PySem.W.kitx_str I.z4 True.intro e (λz=>nomatch z) h
 | flt y=>obtain ⟨t,q⟩:=(show ∃t,u=float y t from F);cases q;exact Lf PySem.W.kitx_float I.z4 True.intro e (λz=>nomatch z) h
 | @lst a xs G =>
  cases (show u=Ko a from F);obtain ⟨_,_,n,_,h1⟩:=(show z7 X.prog X.w H s.heap a (.lst xs) from I.hok a _ G);exact Lf PySem.W.kitx_list I.z4 ⟨_,h1,rfl⟩ e (λz=>nomatch z) h
 | @frz a ob xs G =>
  cases (show u=Ko a from F);obtain ⟨_,_,_,n,_,h1⟩:=(show z7 X.prog X.w H s.heap a (.frz ob (.lst xs)) from I.hok a _ G);exact Lf PySem.W.kitx_list I.z4 ⟨_,h1,rfl⟩ e (λz=>nomatch z) h
 | @tup a xs G =>
  cases (show u=Ko a from F);obtain ⟨_,_,_,p⟩:=(show z7 X.prog X.w H s.heap a (.tup xs) from I.hok a _ G);obtain ⟨o,h1,h2,_⟩:=p;exact Lf PySem.W.kitx_tuple I.z4 ⟨o,h1,h2⟩ e (λz=>nomatch z) h
 | @dK a kvs G =>
  cases (show u=Ko a from F);obtain ⟨_,_,vs,_,p⟩:=(show z7 X.prog X.w H s.heap a (.dK kvs) from I.hok a _ G);obtain ⟨o,es,ep,h1,h2,_⟩:=p;exact Lf PySem.W.kitx_dict I.z4 ⟨o,h1,h2.1⟩ e (λz=>nomatch z) h
 | @dT a kvs G =>
  cases (show u=Ko a from F);obtain ⟨_,_,xs,_,o,es,ep,h1,h2,_⟩:=(show z7 X.prog X.w H s.heap a (.dT kvs) from I.hok a _ G);exact Lf PySem.W.kitx_dict I.z4 ⟨o,h1,h2.1⟩ e (λz=>nomatch z) h
 | @ins a C dx fs G cl ha U S hm =>
  cases (show u=Ko a from F);obtain ⟨mA,O,_⟩:=i9 I.hok G;obtain ⟨Z,J,_⟩:=O.look;exact Lf (PySem.W.kitx_own (cl.get _) cl.hd ha U S hm) I.z4 J e (λz=>nomatch z) h
end
structure zT(c:Bool)(k:Nat)(A:Kk):Prop where
 hd:c=true->A.handled=none
 dp:A.depth+3*k+5<recursionLimit
 un:A.units+16*k+200<cLine
 gd:A.guards=some []
theorem zT.mono{j k:Nat}(r:zT c k A)(h:j<=k):zT c j A:=⟨r.hd,by have:=r.dp;lia,by have:=r.un;lia,r.gd⟩
theorem zT.deeper{k:Nat}(r:zT c (k+1) A)(env:Env):zT c k (A.deeper env) :=
 ⟨r.hd,by have:=r.dp;show A.depth+1+3*k+5<_;lia,by have:=r.un;show A.units+3+16*k+200<_;lia,by first|exact r.gd|simpa [Kk.deeper,Kk.under,Code.isGuard] using r.gd⟩
theorem Ht{A:Kk}:(A.under (.builtin "type.__call__" ⟨.ref C::us,kw⟩)).depth=A.depth+1:=by
 first|rfl|simp [Kk.under,Code.weight,Code.isCreation,Code.isGuard,Code.isCaller,Code.frames,Code.isFrame,guardIds]
theorem DL{A:Kk}:(A.under (.builtin "type.__call__" ⟨.ref C::us,kw⟩)).units=A.units+1:=by
 first|rfl|simp [Kk.under,Code.cUnits,Code.frames,Code.isFrame]
theorem zT.make{k:Nat}(r:zT c (k+1) A)(C:Addr)(us:List Value)(kw:List (Str×Value)):zT c k (A.under (.builtin "type.__call__" ⟨.ref C::us,kw⟩)) :=
 ⟨r.hd,by have:=r.dp;rw [Ht];lia,by have:=r.un;rw [DL];lia,by first|exact r.gd|simpa [Kk.under,Code.isGuard,guardIds] using r.gd⟩
theorem zT.depth{k:Nat}(r:zT c k A):A.depth<recursionLimit:=by have:=r.dp;lia
theorem zT.units{k:Nat}(r:zT c k A):A.units+64<cLine:=by have:=r.un;lia
def cj:TA:=λ_ H Q=>Q [] H
def g8(ta:TE)(z:TA):TA:=λσ H Q=>ta σ H λx H1=>z σ H1 λxs H2=>Q (x::xs) H2
section
variable {X:Cx}{e:Kf}{es:List Kf}{te:TE}{t:TA}{pos:Pos}
theorem dP:PA X [] cj:=λ_ _ _ _ H Q I h=>Calls.spliced_nil ⟨[],H,I,.nil,h⟩
theorem dI(ha:PE X e te)(hr:PA X es t)(hs:Kv (e::es) X.env=(false,KZ e X.env)::Kv es X.env:=by rfl):PA X (e::es) (g8 te t):=by
 intro pos Go s σ H Q I h;rw [hs];show J3 _ _ (spliced ((false,KZ e X.env)::MA pos (Kv es X.env))) _ _ s;refine Calls.spliced_cons (thn (ha Go s σ H _ I h) λu s1=>x5e λx H1 O z q1=>?_);exact thn (hr pos Go s1 σ H1 _ O q1) λus s2=>x5e λxs H2 G F J=>⟨x::xs,H2,G,.cons z F,J⟩
def Ao(t:TA):TE:=λσ H Q=>t σ H λxs H1=>xs.length<=sizeLine/\∀p,H1 p=none->Q (.ref p) (upd H1 p (.tup xs))
theorem BH{x1}(h:PA X es t):PE X (.Tuple es x1 pos) (Ao t):=by
 intro Go s σ H Q I G;refine wpAny_Tuple_spliced (thn (h pos Go s σ H _ I G) λus s1=>x5e λxs H1 F r=>x2e λz q=>⟨by rw [<- r.length];exact z,?_⟩);have hf:H1 s1.heap.objs.size=none:=F.hok.fresh (JY _);refine ⟨.ref s1.heap.objs.size,upd H1 s1.heap.objs.size (.tup xs),F.laid (t':=s1.toks) (λb u e=>JU _ e) (JY _) ?_,rfl,q _ hf⟩;exact ⟨z,us,r,⟨_,J7 _ rfl,rfl,_,rfl⟩⟩
end
abbrev Sp:=List V->Hp->VK->XK->Prop
abbrev CXT:=List Env->Hp->JR->XK->Value->JR->Prop
structure d9(P:JZ)(w:Ke)(K:JV)(mg:Str->Option Value)(base:Heap)(A:Kk)(outer:List Env)(s:JR)(H:Hp):Prop where
 frames:A.frames=some outer
 hdk:g9 A H
 mod:Mod K mg base
 bs:∀b o,base.get? b=some o->s.heap.get? b=some o/\H b=none
 PP:base.objs.size<=s.heap.objs.size
 E2:s.heap.FunFrames base outer
 PZ:∀b∈frs outer,H b=none
 hok:HOk P w H s.heap
 bare:Nw s.gens
def CE(outer:List Env)(P:JZ)(w:Ke)(H:Hp)(s:JR)(Q:VK)(u:Value)(s':JR):Prop :=
 ∃v H',s'.os=s.os/\Nw s'.gens/\Un (frs outer) [] H H' s.heap s'.heap/\HOk P w H' s'.heap/\zl v u/\Q v H'
def CR(CX:CXT)(outer:List Env)(P:JZ)(w:Ke)(H:Hp)(s:JR)(Q:VK)(E:XK)(r:Result)(s':JR):Prop :=
 match r with
 | .ok (.ret u)=>CE outer P w H s Q u s'
 | .ok _=>False
 | .error e=>CX outer H s E e s'
structure zp(P:JZ)(w:Ke)(K:JV)(mg:Str->Option Value)(base:Heap)(CX:CXT)(c:Bool)(k:Nat)(f:Addr)(fd:J4)(ps:List Str)(sp:Sp):Prop where
 len:∀vs H Q E,sp vs H Q E->vs.length=ps.length
 run:∀(A:Kk)(outer:List Env)(s:JR)(H:Hp)(args:Args)(us:List Value)(vs:List V)(Q:VK)(E:XK),zT c k A->d9 P w K mg base A outer s H->BindsTo s fd args (ps.zip us)->zm vs us->sp vs H Q E ->
  LN (J6 P w) A (.call (.ref f) args) (CR CX outer P w H s Q E) s
theorem d9.make{K:JV}(e:d9 P w K mg base A outer s H)(C:Addr)(us:List Value)(kw:List (Str×Value)):
  d9 P w K mg base (A.under (.builtin "type.__call__" ⟨.ref C::us,kw⟩)) outer s H:=⟨by first|exact e.frames|(simpa [Kk.under,Code.envs,Code.isFrame,pushEnvs] using e.frames),e.hdk,e.mod,e.bs,e.PP,e.E2,e.PZ,e.hok,e.bare⟩
section
variable {X:Cx}{Go:List (Addr×Obj)}{σ:St}{H:Hp}{s s':JR}
theorem Inv.QF(I:Inv X Go σ H s):d9 X.prog X.w X.K X.mg X.base X.A X.stack s H :=
 ⟨I.ok.frames,I.hdk,I.ok.mod,I.bs,Kp I.ok.PP I.sz,I.stack,I.Pq,I.hok,I.bare⟩
theorem Inv.after(I:Inv X Go σ H s)(h:CE X.stack X.prog X.w H s Q u s'):EP X Go σ Q u s':=by
 obtain ⟨v,H',os,bare,un,hok,r,q⟩:=h;obtain ⟨G,g,d,t,F⟩:=s';obtain rfl:F=s.os:=os;exact ⟨v,H',I.call (h':=G) (g':=g) (d':=d) (t':=t) (ch:=[]) un hok bare (λb z=>absurd z (by simp)),r,q⟩
end
def fu(sp:Sp)(YJ:List V)(E:XK)(t:TA):TE:=λσ H Q=>t σ H λvs H1=>sp (vs++YJ) H1 Q E
def dX(C:Addr)(m:Str)(sp:Sp)(YJ:List V)(E:XK)(ta:TE)(t:TA):TE:=λσ H Q=>ta σ H λx H1=>∃a dx fs,x = .ref a/\H1 a=some (.ins C dx fs)/\fs.lookup m=none /\
 t σ H1 λvs H2=>sp (x::(vs++YJ)) H2 Q E
def sy(C:Addr)(sp:Sp)(YJ:List V)(E:XK)(t:TA):TE:=λσ H Q=>t σ H λvs H1=>∀x dx,H1 x=none->H1 dx=none->dx≠x ->
 sp (.ref x::(vs++YJ)) (upd (upd H1 dx (.own x)) x (.ins C dx [])) (λv H2=>v = .non/\Q (.ref x) H2) E
def bU(K:JV)(fd:J4)(ps:List Str)(ds:List Value):Prop :=
 ∀(s:JR)(us:List Value),K.In s.heap->(us++ds).length=ps.length->BindsTo s fd ⟨us,[]⟩ (ps.zip (us++ds))
theorem bU.all{K:JV}(h:∀us:List Value,us.length=ps.length->bindArgs fd ⟨us,[]⟩=pure (ps.zip us)):bU K fd ps []:=λs us _ hl=>by
 rw [MB] at hl ⊢;exact .of_eq (h us hl)
def dm(CX:CXT)(X:Cx)(E:XK):Prop:=∀(Go:List (Addr×Obj))(σ:St)(H:Hp)(s:JR)(e:Value)(s':JR),Inv X Go σ H s->CX X.stack H s E e s'->X.xe e s'
section
variable {X:Cx}{CX:CXT}{cm:Bool}{k:Nat}{f C:Addr}{fd:J4}{ps:List Str}{sp:Sp}{YJ:List V}{ds:List Value}{E:XK}{x m:Str}{p pos Z1:Pos}{e o:Kf}{es:List Kf}{ta:TE}{t:TA}
theorem jF(F:zp X.prog X.w X.K X.mg X.base CX cm k f fd ps sp)(hr:zT cm k X.A)(hb:bU X.K fd ps ds)(hd:zm YJ ds)(hx:dm CX X E)(I:Inv X Go σ H s)(r:zm vs us)(h:sp (vs++YJ) H Q E):J3 (J6 X.prog X.w) X.A (call (.ref f) us) (EP X Go σ Q) X.xe s:=by
 have G:zm (vs++YJ) (us++ds):=r.append hd;have hl:(us++ds).length=ps.length:=by rw [<- G.length];exact F.len _ _ _ _ h
 refine wpAny_call (LW (F.run X.A X.stack s H ⟨us,[]⟩ (us++ds) (vs++YJ) Q E hr I.QF (hb s us I.z4 hl) G h) λr s' z=>?_);cases r with
 | error e=>exact hx Go σ H s e s' I z
 | ok fl =>
  cases fl with
  | ret u=>exact I.after z
  | next=>exact False.elim z
  | brk=>exact False.elim z
  | cont=>exact False.elim z
theorem xt(F:zp X.prog X.w X.K X.mg X.base CX cm k f fd ps sp)(hr:zT cm k X.A)(S:Gl X x)(hm:X.mg x=some (.ref f))(G:Oe X.K (.ref f)=true)(hb:bU X.K fd ps ds)(hd:zm YJ ds)(hx:dm CX X E)
  (ha:PA X (e::es) t) (J:(x==("__debug__":Str))=false:=by decide) (he:Kv (e::es) X.env=(false,KZ e X.env)::Kv es X.env:=by rfl) (O:(MA pos (Kv es X.env)).any (·.1)=false:=by rfl) :
  PE X (.Call (.Name x p) (e::es) [] pos) (fu sp YJ E t):=by
 intro Go s σ H Q I h;refine Lz (gw I S hm ?_ J);refine callWith_K (h₀:=X.base) I.ok.mod.QE G (thn (ha pos Go s σ H _ I h) λus s1=>x5e λvs H1 z r q=>⟨z.z4,?_⟩) he O;exact jF F hr hb hd hx z r q
theorem xG(F:zp X.prog X.w X.K X.mg X.base CX cm k f fd ps sp)(hr:zT cm k X.A)(J:Gl X x)(hm:X.mg x=some (.ref f))(z:Oe X.K (.ref f)=true)(hb:bU X.K fd ps ds)(hd:zm YJ ds)(hx:dm CX X E)
  (G:(x==("__debug__":Str))=false:=by decide):PE X (.Call (.Name x p) [] [] pos) (fu sp YJ E cj):=by
 intro Go s σ H Q I h;refine Lz (gw I J hm ?_ G);exact callWith_K0 I.z4 z (jF (us:=[]) F hr hb hd hx I .nil h)
theorem Et(he:PE X o ta)(c:Cls X.K C)(hm:iX X.K C m f)(F:zp X.prog X.w X.K X.mg X.base CX cm k f fd ps sp)(hr:zT cm k X.A)(hb:bU X.K fd ps ds)(hd:zm YJ ds)(hx:dm CX X E)(ha:PA X (e::es) t)(hst:Kv (e::es) X.env=(false,KZ e X.env)::Kv es X.env:=by rfl)(Yo:(MA pos (Kv es X.env)).any (·.1)=false:=by rfl)(S:KZ (.Call (.Attribute o m Z1) (e::es) [] pos) X.env=(do
   let J<-KZ o X.env
   Mt Z1.atName
   let (f,first)<-MM [J] (N8 J m pl)
   callWith pos f first (MA pos (Kv (e::es) X.env)) (backToKw pos (Nl [] X.env))):=by rfl):
  PE X (.Call (.Attribute o m Z1) (e::es) [] pos) (dX C m sp YJ E ta t):=by
 intro Go s σ H Q I h;refine PySem.W.methodCall_KW (pl:=pl) (thn (he Go s σ H _ I h) λu s1=>x5e λx H1 O U z=>?_) S;obtain ⟨a,dx,fs,ex,ea,l,q⟩:=z;subst ex;obtain rfl:u=Ko a:=U;refine pO O ea c hm l ?_;refine callWith_K (first:=[.ref a]) (h₀:=X.base) I.ok.mod.QE hm.kp (thn (ha pos Go s1 σ H1 _ O q) λus s2=>x5e λvs H2 G r Z=>⟨G.z4,?_⟩) hst Yo;exact jF (us:=.ref a::us) (vs:=.ref a::vs) F hr hb hd hx G (.cons rfl r) Z
theorem Dm(he:PE X o ta)(c:Cls X.K C)(hm:iX X.K C m f)(F:zp X.prog X.w X.K X.mg X.base CX cm k f fd ps sp)(hr:zT cm k X.A)(hb:bU X.K fd ps ds)(hd:zm YJ ds)(hx:dm CX X E)(O:KZ (.Call (.Attribute o m Z1) [] [] pos) X.env=(do
   let J<-KZ o X.env
   Mt Z1.atName
   let (f,first)<-MM [J] (N8 J m pl)
   callWith pos f first (MA pos (Kv [] X.env)) (backToKw pos (Nl [] X.env))):=by rfl):
  PE X (.Call (.Attribute o m Z1) [] [] pos) (dX C m sp YJ E ta cj):=by
 intro Go s σ H Q I h;refine PySem.W.methodCall_KW (pl:=pl) (thn (he Go s σ H _ I h) λu s1=>x5e λx H1 G S z=>?_) O;obtain ⟨a,dx,fs,ex,U,l,q⟩:=z;subst ex;obtain rfl:u=Ko a:=S;refine pO G U c hm l ?_;exact callWith_K0 (first:=[.ref a]) G.z4 hm.kp (jF (us:=[.ref a]) (vs:=[.ref a]) F hr hb hd hx G (.cons rfl .nil) q)
structure Mk(K:JV)(C f:Addr):Prop where
 makes:makesIn K C=true
 init:Lo K (.ref C) WE=some (some (.ref f))
 fn:isFn K (.ref f)=true
 kp:Oe K (.ref C)=true
theorem pL(M:Mk X.K C f)(F:zp X.prog X.w X.K X.mg X.base CX cm k f fd ps sp)(hr:zT cm (k+1) X.A)(hb:bU X.K fd ps ds)(hd:zm YJ ds)(hx:dm CX X E)(I:Inv X Go σ H s)(r:zm vs us)(h:∀x dx,H x=none->H dx=none->dx≠x->sp (.ref x::(vs++YJ)) (upd (upd H dx (.own x)) x (.ins C dx [])) (λv H2=>v = .non/\Q (.ref x) H2) E):
  J3 (J6 X.prog X.w) X.A (call (.ref C) us) (EP X Go σ Q) X.xe s:=by
 have O:=h (s.heap.objs.size+1) s.heap.objs.size (I.hok.fresh (NQ _)) (I.hok.fresh (JY _)) (Ky (MX _));have G:=Inv.made (C:=C) I;have J:zm (V.ref (s.heap.objs.size+1)::(vs++YJ)) (Ko (s.heap.objs.size+1)::(us++ds)):=.cons rfl (r.append hd);have hl:(Ko (s.heap.objs.size+1)::us++ds).length=ps.length:=by
  have e:=J.length;rw [F.len _ _ _ _ O] at e;exact e.symm
 refine wpAny_call (Dl (f:=f) I.z4 M.makes M.init (beq_iff_eq.mp M.fn) (LW (F.run _ X.stack _ _ ⟨Ko (s.heap.objs.size+1)::us,[]⟩ (Ko (s.heap.objs.size+1)::(us++ds)) _ _ E (hr.make C us [])
  (G.QF.make C us []) (hb _ (Ko (s.heap.objs.size+1)::us) G.z4 hl) J O) λr s' z=>?_))
 cases r with
 | error e=>exact hx Go σ _ _ e s' G z
 | ok fl =>
  cases fl with
  | ret u =>
   obtain ⟨v,H',W,S,Z,U⟩:=G.after z;subst Z;exact ⟨S,⟨V.ref (s.heap.objs.size+1),H',W,rfl,U⟩⟩
  | next=>exact False.elim z
  | brk=>exact False.elim z
  | cont=>exact False.elim z
theorem yr(M:Mk X.K C f)(F:zp X.prog X.w X.K X.mg X.base CX cm k f fd ps sp)(hr:zT cm (k+1) X.A)(O:Gl X x)(hm:X.mg x=some (.ref C))(hb:bU X.K fd ps ds)(hd:zm YJ ds)(hx:dm CX X E)
  (ha:PA X (e::es) t) (G:(x==("__debug__":Str))=false:=by decide) (he:Kv (e::es) X.env=(false,KZ e X.env)::Kv es X.env:=by rfl) (J:(MA pos (Kv es X.env)).any (·.1)=false:=by rfl) :
  PE X (.Call (.Name x p) (e::es) [] pos) (sy C sp YJ E t):=by
 intro Go s σ H Q I h;refine Lz (gw I O hm ?_ G);refine callWith_K (h₀:=X.base) I.ok.mod.QE M.kp (thn (ha pos Go s σ H _ I h) λus s1=>x5e λvs H1 z r q=>⟨z.z4,?_⟩) he J;exact pL M F hr hb hd hx z r q
theorem Bt(M:Mk X.K C f)(F:zp X.prog X.w X.K X.mg X.base CX cm k f fd ps sp)(hr:zT cm (k+1) X.A)(G:Gl X x)(hm:X.mg x=some (.ref C))(hb:bU X.K fd ps ds)(hd:zm YJ ds)(hx:dm CX X E)
  (z:(x==("__debug__":Str))=false:=by decide):PE X (.Call (.Name x p) [] [] pos) (sy C sp YJ E cj):=by
 intro Go s σ H Q I h;refine Lz (gw I G hm ?_ z);exact callWith_K0 I.z4 M.kp (pL (us:=[]) M F hr hb hd hx I .nil h)
end
structure zu(N P:List Str)(sc:Scope):Prop where
 kind:sc.kind = .function
 co:sc.isCoroutine=false
 gen:sc.isGenerator=false
 nd:N.Nodup
 pre:N.take P.length=P
 par:∀x∈P,sc.names.lookup x=some .local\/sc.names.lookup x=some .cell
 Qc:∀y∈sc.names,y.2≠.free
theorem tP{kindOf:Str->Option KO}:∀{binds:List (Str×Value)}{m:Str->Option Value},(∀v,(x,v)∉binds)->bindL kindOf binds m x=m x
 | [],_,_=>rfl
 | (n,v)::r,m,h=>by
  unfold bindL;rw [tP λw hw=>h w (Kc _ hw)];split
  .have:x≠n:=by rintro rfl;exact h v Kg
   simp [this]
  .rfl
theorem tQ{kindOf:Str->Option KO}:∀{binds:List (Str×Value)}{m:Str->Option Value},(∀v,(x,v)∉binds)->bindC kindOf binds m x=m x
 | [],_,_=>rfl
 | (n,v)::r,m,h=>by
  unfold bindC;rw [tQ λw hw=>h w (Kc _ hw)];split
  .rfl
  .have:x≠n:=by rintro rfl;exact h v Kg
   simp [this]
theorem vq{kindOf:Str->Option KO}:∀{P:List Str}{vs:List Value}{i:Nat}{m:Str->Option Value},P.Nodup->P[i]?=some x->vs[i]?=some v->kindOf x=some .local ->
  bindL kindOf (P.zip vs) m x=some v
 | [],_,_,_,_,h,_,_=>by simp at h
 | _::_,[],_,_,_,_,h,_=>by simp at h
 | p::P,w::vs,0,m,nd,h1,h2,z=>by
  simp at h1 h2;subst h1;subst h2;show bindL kindOf ((p,w)::P.zip vs) m p=_;unfold bindL;rw [tP λv hv=>(MO.mp nd).1 (Om hv).1,if_pos z];simp
 | p::P,w::vs,i+1,m,nd,h1,h2,z=>by
  show bindL kindOf ((p,w)::P.zip vs) m x=_;unfold bindL;exact vq (i:=i) (MO.mp nd).2 (by simpa using h1) (by simpa using h2) z
theorem wY{kindOf:Str->Option KO}:∀{P:List Str}{vs:List Value}{i:Nat}{m:Str->Option Value},P.Nodup->P[i]?=some x->vs[i]?=some v->kindOf x≠some .local ->
  bindC kindOf (P.zip vs) m x=some v
 | [],_,_,_,_,h,_,_=>by simp at h
 | _::_,[],_,_,_,_,h,_=>by simp at h
 | p::P,w::vs,0,m,nd,h1,h2,z=>by
  simp at h1 h2;subst h1;subst h2;show bindC kindOf ((p,w)::P.zip vs) m p=_;unfold bindC;rw [tQ λv hv=>(MO.mp nd).1 (Om hv).1,if_neg z];simp
 | p::P,w::vs,i+1,m,nd,h1,h2,z=>by
  show bindC kindOf ((p,w)::P.zip vs) m x=_;unfold bindC;exact wY (i:=i) (MO.mp nd).2 (by simpa using h1) (by simpa using h2) z
def start(N:List Str)(vs:List V):St:=vs.map some++K2 (N.length-vs.length) none
def eZ(CX:CXT)(cm:Bool)(P:JZ)(w:Ke)(K:JV)(mg:Str->Option Value)(base:Heap)(N:List Str)(Zy:Str)(F:Scope)(f:Addr)(cd:Value)(A:Kk)(outer:List Env)(s:JR)(H:Hp)(E:XK):Cx where
 prog:=P
 w:=w
 K:=K
 mg:=mg
 base:=base
 A:=A.deeper (Oi Zy F s.heap.objs.size f cd)
 N:=N
 s₀:=s
 H₀:=H
 env:=Oi Zy F s.heap.objs.size f cd
 outer:=outer
 stack:=Oi Zy F s.heap.objs.size f cd::outer
 ex:=[]
 calm:=cm
 fn:=λ_=>true
 pn:=[]
 xe:=λe s'=>J3 (J6 P w) (A.deeper (Oi Zy F s.heap.objs.size f cd)) (leaving (Oi Zy F s.heap.objs.size f cd) e) (λ_ z=>CX outer H s E e z) (λG z=>CX outer H s E G z) s'
theorem vJ{sc:Scope}(h:sc.names.lookup x=some .cell):∃c,(LB n sc.names []).lookup x=some c:=by
 have q:=PySem.W.cellsFrom_some sc.names n [] (.inl h);exact M0.mp q
theorem Hk{K:JV}(S:zu N ps G)(hd:cm=true->A.handled=none)(F:d9 P w K mg base A outer s H)(hl:vs.length=ps.length)(r:zm vs us)(x:InCallC s s.heap.objs.size (bindL (Oi Zy G s.heap.objs.size f cd).kindOf (ps.zip us) λ_=>none) (LB (s.heap.objs.size+1) G.names []) (bindC (Oi Zy G s.heap.objs.size f cd).kindOf (ps.zip us) λ_=>none) s1):
  Inv (eZ CX cm P w K mg base N Zy G f cd A outer s H E) [] (start N vs) H s1:=by
 have Yo:ps.length<=N.length:=by have:=congrArg length S.pre;rw [Kr] at this;lia
 obtain ⟨h1,tk,rfl,Z⟩:=x.done;have O:∀b:Addr,b∉(eZ CX cm P w K mg base N Zy G f cd A outer s H E).ex:=λb z=>absurd (show b∈([]:List Addr) from z) (by simp);refine ⟨⟨F.mod,S.kind,rfl,rfl,JY _,λy z c h1 h2=>?_,λy J=>?_,λy c _ h=>?_,hd,Kk.frames_deeper F.frames,.inr ⟨rfl,rfl⟩,λb z=>absurd z (O b),F.bs,F.PP,λb _ _=>O b,λb z=>absurd z (O b),F.E2,F.PZ⟩,
  rfl,F.bare,Un.kept Z,⟨_,x.toInCall.ns,λi y v h1 h2 h3=>?_⟩,λy c h=>⟨_,x.cell y c h⟩,F.hok.fresh (JY _),λy c h=>?_,λp W=>absurd (show p∈([]:List (Addr×Obj)) from W) (by simp),F.hok.kept Z,?_,F.hdk⟩
 .exact name_of_addr x.apart (K9 h1) (K9 h2)
 .have J:G.names.lookup y=some .cell\/G.names.lookup y=some .free:=J;rcases J with J|J
  .exact vJ J
  .exact absurd rfl (S.Qc _ (K9 J))
 .exact Nk (x.above y c (K9 h))
 .have hi:i<vs.length:=by
   unfold start at h2;by_cases hi:i<vs.length
   .exact hi
   .rw [MD (by simpa using hi)] at h2;rw [List.getElem?_replicate] at h2;split at h2<;>cases h2
  have ha:vs[i]?=some v:=by
   unfold start at h2;rw [List.getElem?_append_left (by simpa using hi),Kd] at h2;cases e:vs[i]? with
   | none=>rw [e] at h2;cases h2
   | some a=>rw [e] at h2;cases h2;rfl
  obtain ⟨u,hu,rv⟩:=r.get ha;have W:ps[i]?=some y:=by
   rw [<- S.pre,List.getElem?_take_of_lt (by lia)];exact h1
  have U:ps.Nodup:=by rw [<- S.pre];exact S.nd.sublist (List.take_sublist _ _)
  refine ⟨u,rv,?_⟩;rcases S.par y (Kn W) with k|k
  .exact .inl ⟨k,vq U W hu k⟩
  .obtain ⟨c,e⟩:=vJ (n:=s.heap.objs.size+1) k;refine .inr ⟨.inl k,c,e,?_⟩;have q:=x.cell y c e;rw [wY U W hu (by show G.names.lookup y≠_;rw [k];decide)] at q;exact q
 .exact F.hok.fresh (Nk (x.above y c (K9 h)))
 .unfold start;show _=N.length;rw [KB,JS,List.length_replicate];lia
theorem Dp{K:JV}{k:Nat}{dV kV Yc pm G ct oc:Value}(lk:K.lookup f=some ⟨oc,od,.func (fnOf name Zy Xt Zj z dV kV Yc pm an G ct),ab⟩)(hcd:codeIn K G Zy=true)(S:zu N ps z)(len:∀vs H Q E,sp vs H Q E->vs.length=ps.length)(Xs:∀(A:Kk)(outer:List Env)(s:JR)(H:Hp)(vs:List V)(Q:VK)(E:XK),zT cm k (A.deeper (Oi Zy z s.heap.objs.size f G))->sp vs H Q E ->
   ∃t,PSs (eZ CX cm P w K mg base N Zy z f G A outer s H E) Zj t/\t { nx:=λ_ H'=>Q .non H',rt:=Q } (start N vs) H):
  zp P w K mg base CX cm (k+1) f (fnOf name Zy Xt Zj z dV kV Yc pm an G ct) ps sp:=by
 refine ⟨len,λA outer s H args us vs Q E hr Z hb r U=>?_⟩;have hl:=len _ _ _ _ U;have KX:K.In s.heap:=Z.mod.QE.keeps λb o e=>(Z.bs b o e).1;have av:s.heap.NoLimit:=Z.mod.nolimit.keeps λb o e=>(Z.bs b o e).1;have O:∀y∈ps.zip us,z.names.lookup y.1=some .local\/(z.names.lookup y.1=some .cell/\((LB (s.heap.objs.size+1) z.names []).lookup y.1).isSome=true):=λ⟨n,v⟩ hy=>by
  rcases S.par n (Om hy).1 with q|q
  .exact .inl q
  .exact .inr ⟨q,PySem.W.cellsFrom_some _ _ _ (.inl q)⟩
 refine codeAny_call_function hr.depth (KX _ _ lk) rfl S.co S.gen rfl (PySem.W.codeRec_of KX hcd) (hb _ _ _ _ ?_);refine wpAny_newFunctionEnv_cells S.kind O λenv he s1 x=>?_;subst he;refine ⟨av.keeps x.toInCall.keep,codeAny_func ?_⟩;obtain ⟨t,ht,hq⟩:=Xs A outer s H vs Q E (hr.deeper _) U;have I:Inv (eZ CX cm P w K mg base N Zy z f G A outer s H E) [] (start N vs) H s1:=Hk S hr.hd Z hl r x;refine KJ (ht [] s1 (start N vs) H _ I hq) (λfl s' hs=>?_) λe s' hs=>hs;have Y0:∀{F:St}{H':Hp}{v:V}{u:Value},Inv (eZ CX cm P w K mg base N Zy z f G A outer s H E) [] F H' s'->zl v u->Q v H'->CE outer P w H s Q u s' :=
  λ{F H' v u} J rv q=>⟨v,H',J.os,J.bare,J.base,J.hok,rv,q⟩
 cases fl with
 | ret u =>
  obtain ⟨v,F,H',J,rv,q⟩:=hs;exact Y0 J rv q
 | next =>
  obtain ⟨F,H',J,q⟩:=hs;exact Y0 (v:=V.non) (u:=Mh) J rfl q
 | brk =>
  obtain ⟨_,_,_,q⟩:=hs;exact False.elim q
 | cont =>
  obtain ⟨_,_,_,q⟩:=hs;exact False.elim q
section
variable {X:Cx}{x:Str}{p pos:Pos}{e:Kf}{es:List Kf}{t:TA}{id T:String}{r:List V->Hp->VK->Prop}
def tCB(r:List V->Hp->VK->Prop)(t:TA):TE:=λσ H Q=>t σ H λvs H1=>r vs H1 Q
theorem vQ(hc:zI X (.builtin id) r)(S:Gl X x)(hm:X.mg x=none)(hv:Mg x=some (.builtin id))(ha:PA X (e::es) t)(J:x≠"__name__":=by decide)(F:(x==("__debug__":Str))=false:=by decide)
  (he:Kv (e::es) X.env=(false,KZ e X.env)::Kv es X.env:=by rfl) (O:(MA pos (Kv es X.env)).any (·.1)=false:=by rfl):PE X (.Call (.Name x p) (e::es) [] pos) (tCB r t):=by
 intro Go s σ H Q I h;refine Lz (fH I S hm hv ?_ J F);exact PyProof.Rows.callWith_builtin1 (thn (ha pos Go s σ H _ I h) λus s1=>x5e λvs H1 G z q1=>hc Go s1 σ H1 vs us Q G z q1) he O
theorem G8(hc:zI X (.type T) r)(S:Gl X x)(hm:X.mg x=none)(hv:Mg x=some (.type T))(ha:PA X (e::es) t)(J:x≠"__name__":=by decide)(F:(x==("__debug__":Str))=false:=by decide)
  (he:Kv (e::es) X.env=(false,KZ e X.env)::Kv es X.env:=by rfl) (O:(MA pos (Kv es X.env)).any (·.1)=false:=by rfl):PE X (.Call (.Name x p) (e::es) [] pos) (tCB r t):=by
 intro Go s σ H Q I h;refine Lz (fH I S hm hv ?_ J F);exact Mu (thn (ha pos Go s σ H _ I h) λus s1=>x5e λvs H1 G z q1=>hc Go s1 σ H1 vs us Q G z q1) he O
end
end L2
namespace HT
open PySem PyProof.Rows
section
variable {prog:JZ}{w:Ke}{A:Kk}{E:Value->JR->Prop}{s:JR}
theorem cat_tup{t b:Addr}(Z:IsTup s.heap t vs.toArray)(hb:IsTup s.heap b ws.toArray)(hv:vs≠[])(h1:ws=[]->Q (.ref t) s)(h2:ws≠[]->Q (.ref s.heap.objs.size) { s with heap:=s.heap.push { cls:=.type "tuple",data:=.seq (vs++ws).toArray } })(hsz:vs.length+ws.length<=sizeLine):J3 (J6 prog w) A (Ly .Add (.ref t) (.ref b)) Q E s:=by
 obtain ⟨⟨cls,W,data,sl⟩,ho,hc,n,hd⟩:=id Z;obtain ⟨⟨J,O,data2,F⟩,z,S,U,G⟩:=id hb;simp only at hc hd S G;subst hc hd S G;have e:vs.toArray++ws.toArray=(vs++ws).toArray:=by simp
 by_cases hw:ws=[]
 .exact concat_meets ⟨_,ho,rfl⟩ ⟨_,z,rfl⟩ noFill_tuple_add seq_tuple_add slot_tuple_add entry_tuple_add (args_tuple_add_2 _ _)
   (tuple_addW1 t b vs.toArray ws.toArray n U W O sl F (by simpa using hv) (by simp [hw])) ⟨ho,z,h1 hw⟩
 .refine concat_meets ⟨_,ho,rfl⟩ ⟨_,z,rfl⟩ noFill_tuple_add seq_tuple_add slot_tuple_add entry_tuple_add (args_tuple_add_2 _ _)
   (tuple_addW2 t b vs.toArray ws.toArray n U W O sl F (by simpa using hv) (by simpa using hw) (by rw [J8,J8];exact hsz)) ⟨ho,z,?_⟩
  rw [e];exact h2 hw
def sIx(n d:Nat):Option Int->Nat
 | none=>d
 | some v=>if v<0 then (v+(n:Int)).toNat else min v.toNat n
theorem EH(n d:Nat)(hd:d<=n)(o:Option Int):sIx n d o<=n:=by
 cases o with
 | none=>exact hd
 | some v =>
  show (if v<0 then (v+(n:Int)).toNat else min v.toNat n)<=n;by_cases hv:v<0
  .rw [if_pos hv];lia
  .rw [if_neg hv];exact Nat.min_le_right _ _
theorem uo(v:Int)(n d:Nat):(if v<0 then max (v+(n:Int)) 0 else min v (n:Int))=((sIx n d (some v):Nat):Int):=by
 show (if v<0 then max (v+(n:Int)) 0 else min v (n:Int))=(((if v<0 then (v+(n:Int)).toNat else min v.toNat n):Nat):Int);by_cases hv:v<0
 .simp only [if_pos hv];lia
 .simp only [if_neg hv];lia
theorem IS(lo hi:Option Int)(n:Nat):Kb.Slice.sliceAdjust lo hi 1 (n:Int)=(((sIx n 0 lo:Nat):Int),((sIx n n hi:Nat):Int)):=by
 have h1 : ¬ ((1:Int)<0):=by lia
 unfold Kb.Slice.sliceAdjust;simp only [h1,if_false];refine Prod.ext ?_ ?_
 .cases lo with
  | none=>rfl
  | some v=>exact uo v n 0
 .cases hi with
  | none=>rfl
  | some v=>exact uo v n n
theorem CB(i j:Nat):Kb.Slice.slicePlaces (i:Int) (j:Int) 1=j-i:=by
 unfold Kb.Slice.slicePlaces;have h1:(1:Int)>0:=by lia
 simp only [h1,if_true,Int.ediv_one];split<;>lia
theorem wM{o:Option Int}(p:NH v o)(h:Q o s):J3 (J6 prog w) A (Kb.Slice.slicePartIndex v) Q E s:=by
 cases p with
 | none=>exact slicePart_none h
 | int i t=>exact slicePart_int h
theorem qE{sl:Addr}{G J:Value}{lo hi:Option Int}{n:Nat}{Q:Int×Int×Nat->JR->Prop}(hs:s.heap.IsSliceOf sl G J .none)(pl:NH G lo)(O:NH J hi)
  (h:Q (((sIx n 0 lo:Nat):Int),1,sIx n n hi-sIx n 0 lo) s):J3 (J6 prog w) A (Kb.Slice.sliceApplied (.ref sl) (pure (n:Int))) Q E s:=by
 obtain ⟨os,z,S,F⟩:=id hs;unfold Kb.Slice.sliceApplied Kb.Slice.sliceFields;refine we (we (Ni z F (x:=G) rfl (we (Ni z F (x:=J) rfl (we (Ni z F (x:=.none) rfl (JT ?_)))))));refine we (slicePart_none ?_);show J3 _ _ (if ((1:Int)==0)=true then _ else _) _ _ s;rw [if_neg (by decide)];refine we (wM pl (we (wM O (we (JT ?_)))));show J3 _ _ (match Kb.Slice.sliceAdjust lo hi 1 (n:Int) with|(lo,hi)=>pure (lo,(1:Int),Kb.Slice.slicePlaces lo hi 1)) _ _ s;rw [IS lo hi n];show J3 _ _ (pure (((sIx n 0 lo:Nat):Int),(1:Int),Kb.Slice.slicePlaces ((sIx n 0 lo:Nat):Int) ((sIx n n hi:Nat):Int) 1)) _ _ s;rw [CB];exact JT h
theorem Ds(xs:Array Value)(i k:Nat):((KR k).filterMap λ(m:Nat)=>xs[((i:Int)+(m:Int)*1).toNat]?).toArray=((xs.toList.drop i).take k).toArray:=by
 have e:(λ(m:Nat)=>xs[((i:Int)+(m:Int)*1).toNat]?)=λm=>xs[i+m]?:=by
  funext m;have:((i:Int)+(m:Int)*1).toNat=i+m:=by lia
  rw [this]
 rw [e];have:=pick_run xs i k;rw [List.filterMap_map] at this;have z:((λx=>xs[x]?)∘λx=>i+x)=λm=>xs[i+m]?:=rfl;rw [z] at this;rw [this]
theorem getItem_tuple_cut{t sl:Addr}{W:Value}{lo hi:Option Int}(F:IsTup s.heap t items)(hs:s.heap.IsSliceOf sl U W .none)(pl:NH U lo)(Z:NH W hi)(hw : ¬ (sIx items.size 0 lo=0/\sIx items.size items.size hi=items.size))(h:Q (.ref s.heap.objs.size) { s with heap:=s.heap.push { cls:=.type "tuple",data:=.seq ((items.toList.drop (sIx items.size 0 lo)).take (sIx items.size items.size hi-sIx items.size 0 lo)).toArray } })(hsz:items.size<=sizeLine):J3 (J6 prog w) A (Og (.ref t) (.ref sl)) Q E s:=by
 have z:sizeOk (.seq ((items.toList.drop (sIx items.size 0 lo)).take (sIx items.size items.size hi-sIx items.size 0 lo)).toArray):=by
  show ((items.toList.drop (sIx items.size 0 lo)).take (sIx items.size items.size hi-sIx items.size 0 lo)).toArray.size<=sizeLine;rw [J8,Kr,NP,Ln];lia
 have hj:sIx items.size items.size hi<=items.size:=EH _ _ (JY _) hi;obtain ⟨os,J,S,ab⟩:=id hs;have O:s.TypeIs (.ref sl) "slice":=⟨os,J,S⟩;unfold Og
 try with_reducible refine Ks ?_
 first|refine we (JT ?_)|skip
 refine we (wpAny_sequenceKey F.typeIs (by decide) ?_);refine we (L5 (name:=JW "__getitem__") F.typeIs KN
  (Lg KN F.typeIs entry_tuple_getitem ?_ (args_tuple_getitem _ _)))
 show J3 _ _ (Kb.Tuple.tupleItemsOf (.ref t)>>=_) _ _ s;refine we (tupleItemsOf_ F ?_);refine we (MT O ?_);rw [if_pos (by decide)];refine we (qE hs pl Z ?_);have G : ¬ ((((sIx items.size 0 lo:Nat):Int)==0&&(1:Int)==1&&(sIx items.size items.size hi-sIx items.size 0 lo)==items.size)=true):=by
  intro q;rw [KD,KD] at q;have q1:((sIx items.size 0 lo:Nat):Int)=0:=eq_of_beq q.1.1;have q2:sIx items.size items.size hi-sIx items.size 0 lo=items.size:=eq_of_beq q.2;exact hw ⟨by lia,by lia⟩
 show J3 _ _ (if (((sIx items.size 0 lo:Nat):Int)==0&&(1:Int)==1&&(sIx items.size items.size hi-sIx items.size 0 lo)==items.size)=true then _ else _) _ _ s;rw [if_neg G,Ds]
 first
  | exact we (m:=Kb.Tuple.tupleExact _) (KI (JT ⟨_,rfl,JT h⟩) z)
  | exact we (m:=Kb.Tuple.tupleExact _) (KI (we (JT (JT ⟨_,rfl,JT h⟩))) z)
  | exact we (we (m:=Kb.Tuple.tupleExact _) (KI (JT (JT ⟨_,rfl,JT h⟩)) z))
  | exact we (we (m:=Kb.Tuple.tupleExact _) (KI (JT ⟨_,rfl,JT h⟩) z))
end
end HT
namespace L2
open PySem PySem.Spec PyProof.Rows
abbrev TO:=St->Hp->(Option Int->Hp->Prop)->Prop
def PO(X:Cx)(e:Option Kf)(t:TO):Prop :=
 ∀(Go:List (Addr×Obj))(s:JR)(σ:St)(H:Hp)(Q:Option Int->Hp->Prop),Inv X Go σ H s->t σ H Q ->
  J3 (J6 X.prog X.w) X.A (evalPart e X.env) (λu s'=>∃o H',Inv X Go σ H' s'/\NH u o/\Q o H') X.xe s
def wg:TO:=λ_ H Q=>Q none H
def sG(t:TE):TO:=λσ H Q=>t σ H λx H1=>∃i,x = .int i/\Q (some i) H1
section
variable {X:Cx}{e:Kf}{te:TE}{lo hi:Option Kf}{tl th:TO}{pos p2:Pos}
theorem dO:W (PO X none wg):=by
 refine ⟨?_⟩;intro Go s σ H Q I h;rw [evalPart_none];exact JT ⟨none,H,I,.none,h⟩
theorem dS(h:W (PE X e te)):W (PO X (some e) (sG te)):=by
 refine ⟨?_⟩;have h:=h.h;intro Go s σ H Q I hw;rw [evalPart_some];refine thn (h Go s σ H _ I hw) λu s1=>x5e λx H1 F z q1=>?_;obtain ⟨i,rfl,q⟩:=q1;obtain ⟨t,rfl⟩:=z;exact ⟨some i,H1,F,.int i t,q⟩
def SlR(X:Cx)(r:V->Option Int->Option Int->Hp->VK->Prop):Prop :=
 ∀(Go:List (Addr×Obj))(s:JR)(σ:St)(H:Hp)(x:V)(v z F:Value)(lo hi:Option Int)(sl:Addr)(Q:VK),Inv X Go σ H s->zl x v->s.heap.IsSliceOf sl z F .none->NH z lo->NH F hi->r x lo hi H Q ->
  ∃T id,typeLookup (.type T) "__getitem__"=pure (some (.builtin id))/\s.TypeIs v T/\J3 (J6 X.prog X.w) X.A (Og v (.ref sl)) (EP X Go σ Q) X.xe s
theorem SlR.or{r r':V->Option Int->Option Int->Hp->VK->Prop}(h:SlR X r)(h':SlR X r'):SlR X (λx lo hi H Q=>r x lo hi H Q\/r' x lo hi H Q):=by
 intro Go s σ H x v z J lo hi sl Q I F hs pl G q;rcases q with q|q
 .exact h Go s σ H x v z J lo hi sl Q I F hs pl G q
 .exact h' Go s σ H x v z J lo hi sl Q I F hs pl G q
def tSl(r:V->Option Int->Option Int->Hp->VK->Prop)(te:TE)(tl th:TO):TE:=λσ H Q=>te σ H λx H1=>tl σ H1 λl H2=>th σ H2 λu H3=>r x l u H3 Q
theorem dR{r:V->Option Int->Option Int->Hp->VK->Prop}(hr:SlR X r)(he:W (PE X e te))(hl:W (PO X lo tl))(J:W (PO X hi th)):W (PE X (.Subscript e (.Slice lo hi none p2) pos) (tSl r te tl th)):=by
 refine ⟨?_⟩;have he:=he.h;have hl:=hl.h;have J:=J.h;intro Go s σ H Q I h;refine Subscript_ (thn (he Go s σ H _ I h) λv s1=>x5e λx H1 I1 O q1=>?_);refine wpAny_Slice (thn (hl Go s1 σ H1 _ I1 q1) λF s2=>x5e λl H2 Z pl q2=>thn (J Go s2 σ H2 _ Z q2) λG z=>x5e λu H3 I3 U q3=>?_);rw [evalPart_none];refine JT ?_;have I4:Inv X Go σ H3 { z with heap:=z.heap.push { cls:=.type "slice",data:=.fields #[F,G,.none] } }:=I3.kept (t':=z.toks) λb ob q=>JU _ q;obtain ⟨T,id,hT,S,hg⟩:=hr Go { z with heap:=z.heap.push { cls:=.type "slice",data:=.fields #[F,G,.none] } } σ H3 x v F G l u z.heap.objs.size Q I4 O (Heap.IsSliceOf.new ..) pl U q3;show J3 (J6 X.prog X.w) X.A (subscriptTail e (.Slice lo hi none p2) v (.ref z.heap.objs.size)) (EP X Go σ Q) X.xe { z with heap:=z.heap.push { cls:=.type "slice",data:=.fields #[F,G,.none] } };exact tail_any (ops:=[.ref z.heap.objs.size,v]) S hT hg (by with_unfolding_all rfl)
def aQ(xs:List V)(lo hi:Option Int):List V:=(xs.drop (HT.sIx xs.length 0 lo)).take (HT.sIx xs.length xs.length hi-HT.sIx xs.length 0 lo)
theorem qp(xs:List V)(lo hi:Option Int):(aQ xs lo hi).length<=xs.length:=by
 unfold aQ;rw [Kr,NP];lia
def xX(K:JV):V->Option Int->Option Int->Hp->VK->Prop:=λx lo hi H Q=>∃a xs,x = .ref a/\SqT K H a xs /\
 ¬ (HT.sIx xs.length 0 lo=0/\HT.sIx xs.length xs.length hi=xs.length)/\∀p,H p=none->Q (.ref p) (upd H p (.tup (aQ xs lo hi)))
theorem DJ:SlR X (xX X.K):=by
 intro Go s σ H x v S U lo hi sl Q I G hs pl J h;obtain ⟨a,xs,rfl,hx,hw,q⟩:=h;cases G;obtain ⟨O,r,F,hz⟩:=I.tuple hx;have z:O.toArray.size=xs.length:=by rw [J8];exact r.length.symm
 refine ⟨"tuple",_,KN.lookup,F.typeIs,?_⟩;refine HT.getItem_tuple_cut F hs pl J (by rw [z];exact hw) ?_ (by rw [z];exact hz);rw [z];refine ⟨.ref s.heap.objs.size,_,I.laid (t':=s.toks) (o:=.tup (aQ xs lo hi)) (λb ob q=>JU _ q) (JY _) ?_,rfl,q _ (I.hok.fresh (JY _))⟩;exact ⟨Kp (qp xs lo hi) hz,_,(r.drop (HT.sIx xs.length 0 lo)).take (HT.sIx xs.length xs.length hi-HT.sIx xs.length 0 lo),IsTup.new _ _⟩
def GA(K:JV):R2:=λx y H Q=>∃a b xs ys,x = .ref a/\y = .ref b/\SqT K H a xs/\SqT K H b ys/\xs≠[]/\xs.length+ys.length<=sizeLine /\
 (ys=[]->Q (.ref a) H)/\(ys≠[]->∀p,H p=none->Q (.ref p) (upd H p (.tup (xs++ys))))
theorem zm.L3(r:zm xs us):us=[]↔xs=[]:=by
 cases r with
 | nil=>simp
 | cons _ _=>simp
theorem DK:OpR X (Ly .Add) (GA X.K):=by
 intro Go s σ H x y v u Q I J O h;obtain ⟨a,b,xs,ys,rfl,rfl,ha,hb,hx,hz,q1,U⟩:=h;cases J;cases O;obtain ⟨Z,G,S,_⟩:=I.tuple ha;obtain ⟨W,F,p2,_⟩:=I.tuple hb;refine HT.cat_tup S p2 (λz=>hx (G.L3.mp z)) (λz=>⟨.ref a,H,I,rfl,q1 (F.L3.mp z)⟩) (λz=>?_) (by rw [<- G.length,<- F.length];exact hz);refine ⟨.ref s.heap.objs.size,_,I.laid (t':=s.toks) (o:=.tup (xs++ys)) (λb ob q=>JU _ q) (JY _) ?_,rfl,U (λw=>z (F.L3.mpr w)) _ (I.hok.fresh (JY _))⟩;exact ⟨by rw [KB];exact hz,_,G.append F,IsTup.new _ _⟩
end
def ixN(n:Nat)(i:Int):Option Nat:=if 0<=i then (if i<n then some i.toNat else none) else if -(n:Int)<=i then some (i+n).toNat else none
def atI{α:Type}(xs:List α)(i:Int):Option α:=(ixN xs.length i).bind λj=>xs[j]?
theorem uC(h:ixN n i=some j):seqIndex? i n=some j/\j<n/\-(n:Int)<=i/\i<n:=by
 unfold ixN at h;by_cases z:0<=i
 .rw [if_pos z] at h;by_cases h1:i<n
  .rw [if_pos h1] at h;have e:i.toNat=j:=KE.inj h;exact ⟨by rw [seqIndex_of z h1,e],by lia,by lia,h1⟩
  .rw [if_neg h1] at h;cases h
 .rw [if_neg z] at h;by_cases h1 : -(n:Int)<=i
  .rw [if_pos h1] at h;have e:(i+n).toNat=j:=KE.inj h;exact ⟨by rw [seqIndex_neg (by lia) h1,e],by lia,h1,by lia⟩
  .rw [if_neg h1] at h;cases h
theorem lO{α:Type}{xs:List α}{v:α}(h:atI xs i=some v):∃j,seqIndex? i xs.length=some j/\xs[j]?=some v/\j<xs.length/\-(xs.length:Int)<=i/\i<xs.length:=by
 unfold atI at h;cases e:ixN xs.length i with
 | none=>rw [e] at h;cases h
 | some j =>
  rw [e] at h;obtain ⟨h1,h2,z,F⟩:=uC e;exact ⟨j,h1,h,h2,z,F⟩
theorem gj{α:Type}{xs:List α}{j:Nat}{v:α}(h:xs[j]?=some v):atI xs (j:Int)=some v:=by
 have z:j<xs.length:=(JX.mp h).1;have e:ixN xs.length (j:Int)=some j:=by
  unfold ixN;rw [if_pos (by lia),if_pos (by lia)];simp
 unfold atI;rw [e];exact h
def sM(b:Kf):Prop:=∀o i,subscripted b false o i=operate [o,i] (Og o i)
def IxR(X:Cx)(r:R2):Prop :=
 ∀(Zp z:Kf)(Go:List (Addr×Obj))(s:JR)(σ:St)(H:Hp)(x y:V)(v u:Value)(Q:VK),Inv X Go σ H s->zl x v->zl y u->r x y H Q ->
  subscripted z false v u=operate [v,u] (Og v u)->J3 (J6 X.prog X.w) X.A (subscriptTail Zp z v u) (EP X Go σ Q) X.xe s
def MtR(X:Cx)(id:String)(r:V->List V->Hp->VK->Prop):Prop :=
 ∀(Go:List (Addr×Obj))(s:JR)(σ:St)(H:Hp)(x:V)(xs:List V)(v:Value)(us:List Value)(Q:VK),Inv X Go σ H s->zl x v->zm xs us->r x xs H Q ->
  J3 (J6 X.prog X.w) X.A (call (.builtin id) (v::us)) (EP X Go σ Q) X.xe s
section
variable {X:Cx}{a b:Kf}{ta tb:TE}{pos:Pos}
theorem IxR.or{r r':R2}(h:IxR X r)(h':IxR X r'):IxR X (λx y H Q=>r x y H Q\/r' x y H Q):=by
 intro Zp z Go s σ H x y v u Q I F G q hs;rcases q with q|q
 .exact h Zp z Go s σ H x y v u Q I F G q hs
 .exact h' Zp z Go s σ H x y v u Q I F G q hs
theorem u7{r:R2}(hr:IxR X r)(ha:PE X a ta)(hb:PE X b tb)(hs:sM b):PE X (.Subscript a b pos) (tOp r ta tb):=by
 intro Go s σ H Q I h;exact Subscript_ (mE ha hb I h λv u s2 x y H2 z F G q=>hr a b Go s2 σ H2 x y v u Q z F G q (hs _ _))
def wu(K:JV):R2:=λx y H Q=>∃p xs i v,x = .ref p/\y = .int i/\SqL K H p xs/\atI xs i=some v/\Q v H
def qD(K:JV):R2:=λx y H Q=>∃p xs i v,x = .ref p/\y = .int i/\SqT K H p xs/\atI xs i=some v/\Q v H
def wz:R2:=λx y H Q=>∃z i c,x = .str z/\y = .int i/\z.length<=sizeLine/\atI z.cps.toList i=some c/\Q (.str ⟨#[c]⟩) H
theorem rh:IxR X (wu X.K):=by
 intro Zp YZ Go s σ H x y v u Q I S U h hs;obtain ⟨p,xs,i,z,rfl,rfl,Z,he,q⟩:=h;cases S;obtain ⟨t,rfl⟩:=U;obtain ⟨Z7,r,pl,hz⟩:=I.list Z;obtain ⟨j,h1,h2,h3,W,h5⟩:=lO he;obtain ⟨w,J,Yj⟩:=r.get h2;have hl:=r.length;have hn:=fh;have G:EP X Go σ Q w s:=⟨z,H,I,Yj,q⟩;by_cases O:0<=i
 .have F:i.toNat=j:=by
   rw [seqIndex_of O h5] at h1;exact KE.inj h1
  exact item_listR pl.isList O (by lia) (by rw [F];simpa using J) G hs
 .have F:(i+(Z7.toArray.size:Int)).toNat=j:=by
   rw [seqIndex_neg (by lia) W] at h1;rw [J8,<- hl];exact KE.inj h1
  exact subscriptTail_builtinR (x:=w) pl.isList.typeIs slot_list_getitem.lookup
   (wpAny_getItem_list_neg (Q:=λr s'=>r=w/\EP X Go σ Q r s') pl.isList (by lia) (by rw [J8]<;>lia) (by lia) (by rw [F];simpa using J) ⟨rfl,G⟩) hs
theorem Jt:IxR X (qD X.K):=by
 intro Zp Z Go s σ H x y v u Q I F J h hs;obtain ⟨p,xs,i,z,rfl,rfl,S,he,q⟩:=h;cases F;obtain ⟨t,rfl⟩:=J;obtain ⟨Z7,r,pl,hz⟩:=I.tuple S;obtain ⟨j,h1,h2,h3,W,h5⟩:=lO he;obtain ⟨w,O,U⟩:=r.get h2;have hl:=r.length;have hn:=fh;have G:EP X Go σ Q w s:=⟨z,H,I,U,q⟩;exact subscriptTail_builtinR (x:=w) pl.typeIs slot_tuple_getitem.lookup
  (getItem_tuple (j:=j) (Q:=λr s'=>r=w/\EP X Go σ Q r s') pl (by lia) (by lia) (by rw [J8,<- hl];exact h1) (by simpa using O) ⟨rfl,G⟩) hs
theorem Ed:IxR X wz:=by
 intro Zp W Go s σ H x y v u Q I F G h hs;obtain ⟨z,i,c,rfl,rfl,hz,he,q⟩:=h;obtain ⟨t,rfl⟩:=F;obtain ⟨t',rfl⟩:=G;obtain ⟨j,h1,h2,h3,J,U⟩:=lO he;have hl:z.cps.toList.length=z.length:=by simp [Str.length]
 rw [hl] at h1 J U;have Z:=fh;exact tail_any (Nb s z t) slot_str_getitem.lookup (getItem_str (c:=c) (by
  have O:decide (i < -(2 ^ 63:Int))=false:=decide_eq_false (by lia);have S:decide (i ≥ 2 ^ 63)=false:=decide_eq_false (by lia);rw [O,S,NZ]) (by rw [h1];simpa using h2) ⟨.str ⟨#[c]⟩,H,I.tok _,⟨_,rfl⟩,q⟩) hs
def rIx(K:JV):R2:=λx y H Q=>wu K x y H Q\/qD K x y H Q\/wz x y H Q
theorem EF:IxR X (rIx X.K):=rh.or (Jt.or Ed)
theorem Aa(z:List Value)(n j:Nat)(u:Value):Oq (·.setIfInBounds j u) { cls:=.type "list",data:=.seq z.toArray n }={ cls:=.type "list",data:=.seq (z.set j u).toArray n }:=by
 simp [Oq]
theorem Inv.lst{Go:List (Addr×Obj)}{σ:St}{H:Hp}{s:JR}{p:Addr}{xs:List V}(I:Inv X Go σ H s)(h:H p=some (.lst xs)) :
  ∃(F:List Value)(n:Nat),zm xs F/\s.heap.get? p=some { cls:=.type "list",data:=.seq F.toArray n }/\xs.length<=sizeLine:=by
 obtain ⟨z,F,n,r,e⟩:=I.hok p _ h;exact ⟨F,n,r,e,z⟩
theorem Inv.Qh{p:Addr}{F its':List Value}(I:Inv X Go σ H s)(h:H p=some (.lst xs))(ho:s.heap.get? p=some { cls:=.type "list",data:=.seq F.toArray n })(hf:f { cls:=.type "list",data:=.seq F.toArray n }={ cls:=.type "list",data:=.seq its'.toArray z })(r:zm ys its')(hz:ys.length<=sizeLine)(t:Nat):
  Inv X Go σ (upd H p (.lst ys)) { s with heap:=s.heap.update p f,toks:=t }:=by
 have e:(s.heap.update p f).get? p=some { cls:=.type "list",data:=.seq its'.toArray z }:=by
  rw [Lq f ho (by rw [hf]<;>rfl),hf]
 refine I.write (x:=p) (e:=p) (by rw [h];trivial) (.inl rfl) (λb u hb q=>(Ld _ _ (Lv hb)).trans q) ⟨_,e⟩ ?_;exact ⟨hz,its',z,r,e⟩
def nS:V->V->V->Hp->(Hp->Prop)->Prop:=λo i v H Q=>∃p xs k j,o = .ref p/\i = .int k/\H p=some (.lst xs)/\ixN xs.length k=some j/\Q (upd H p (.lst (xs.set j v)))
theorem mf:mH X nS:=by
 intro Go s σ H o i v ov iv u Q I ro Z rv h;obtain ⟨p,xs,k,j,rfl,rfl,J,hj,q⟩:=h;cases ro;obtain ⟨t,rfl⟩:=Z;obtain ⟨S,n,r,ho,hz⟩:=I.lst J;obtain ⟨h1,h2,O,F⟩:=uC hj;have hl:=r.length;have hn:=fh;have U:Inv X Go σ (upd H p (.lst (xs.set j v))) { s with heap:=s.heap.update p (Oq (·.setIfInBounds j u)) } :=
  I.Qh J ho (Aa S n j u) (r.set rv j) (by rw [List.length_set];exact hz) s.toks
 by_cases G:0<=k
 .have z:k.toNat=j:=by
   rw [seqIndex_of G F] at h1;exact KE.inj h1
  exact PySem.W.ki_setAt ho G (by lia) (by rw [J8,<- hl];exact F) (by rw [z];exact ⟨_,U,q⟩)
 .have z:(k+(S.toArray.size:Int)).toNat=j:=by
   rw [seqIndex_neg (by lia) O] at h1;rw [J8,<- hl];exact KE.inj h1
  exact PySem.W.ki_setBack ho (by lia) (by rw [J8,<- hl];exact O) (by lia) (by rw [z];exact ⟨_,U,q⟩)
theorem Ab(lo hi:Option Int)(n:Nat):(MQ lo hi none n).1=((HT.sIx n 0 lo:Nat):Int)/\(MQ lo hi none n).2.1=((HT.sIx n n hi:Nat):Int)/\(MQ lo hi none n).2.2=1:=by
 refine ⟨?_,?_,rfl⟩
 .cases lo with
  | none=>simp [MQ,HT.sIx]
  | some i =>
   simp only [MQ,HT.sIx,getD_none,show (1:Int)>0 by decide,if_true];by_cases h:i<0
   .simp only [h,if_true]<;>lia
   .simp only [h,if_false]<;>lia
 .cases hi with
  | none=>simp [MQ,HT.sIx]
  | some i =>
   simp only [MQ,HT.sIx,getD_none,show (1:Int)>0 by decide,if_true];by_cases h:i<0
   .simp only [h,if_true]<;>lia
   .simp only [h,if_false]<;>lia
theorem IU(z:List Value)(lo hi:Option Int):slicePick z.toArray lo hi none=((z.drop (HT.sIx z.length 0 lo)).take (HT.sIx z.length z.length hi-HT.sIx z.length 0 lo)).toArray:=by
 obtain ⟨h1,h2,F⟩:=Ab lo hi z.toArray.size;unfold slicePick;rw [h1,h2,F];simp only [sliceRange_one,pick_run,J8]<;>rfl
def AC(K:JV):V->Option Int->Option Int->Hp->VK->Prop:=λx lo hi H Q=>∃a xs,x = .ref a/\SqL K H a xs/\∀p,H p=none->Q (.ref p) (upd H p (.lst (aQ xs lo hi)))
theorem Hj:SlR X (AC X.K):=by
 intro Go s σ H x v O S lo hi sl Q I F hs pl G h;obtain ⟨a,xs,rfl,hx,q⟩:=h;cases F;obtain ⟨U,r,z,hz⟩:=I.list hx;have J:=r.length;refine ⟨"list",_,slot_list_getitem.lookup,z.isList.typeIs,?_⟩;refine wpAny_getItem_list_slice z.isList hs pl G .none (by simp) ?_ (by rw [J8]<;>lia);rw [IU,<- J];refine ⟨.ref s.heap.objs.size,_,I.laid (t':=s.toks) (o:=.lst (aQ xs lo hi)) (λb ob q=>JU _ q) (JY _) ?_,rfl,q _ (I.hok.fresh (JY _))⟩;exact ⟨Kp (qp xs lo hi) hz,_,0,(r.drop (HT.sIx xs.length 0 lo)).take (HT.sIx xs.length xs.length hi-HT.sIx xs.length 0 lo),J7 _ rfl⟩
def z5:V->Bool
 | .non=>true
 | .bl _=>true
 | .int _=>true
 | .str _=>true
 | _=>false
def eqV:V->V->Bool
 | .non,.non=>true
 | .bl a,.bl b=>a==b
 | .bl a,.int b=>(if a then 1 else 0)==b
 | .int a,.bl b=>a==(if b then 1 else 0)
 | .int a,.int b=>a==b
 | .str a,.str b=>a==b
 | _,_=>false
theorem oP(F:zl y u)(z:zl x v)(J:z5 y=true)(G:z5 x=true):SeqAt.EqAt A s u v (eqV y x):=by
 cases y with
 | non =>
  cases F;cases x with
  | non=>cases z;exact SeqAt.EqAt.same _
  | bl b=>cases z;exact SeqAt.EqAt.none_bool b
  | int b=>obtain ⟨t,rfl⟩:=z;exact SeqAt.EqAt.none_int b t
  | str b=>obtain ⟨t,rfl⟩:=z;exact SeqAt.EqAt.none_str b t
  | _=>exact absurd (show false=true from G) Ka
 | bl a =>
  cases F;cases x with
  | non=>cases z;exact SeqAt.EqAt.bool_none a
  | bl b=>cases z;exact SeqAt.EqAt.bool_bool a b
  | int b=>obtain ⟨t,rfl⟩:=z;exact SeqAt.EqAt.bool_int a b t
  | str b=>obtain ⟨t,rfl⟩:=z;exact SeqAt.EqAt.bool_str a b t
  | _=>exact absurd (show false=true from G) Ka
 | int a =>
  obtain ⟨t',rfl⟩:=F;cases x with
  | non=>cases z;exact SeqAt.EqAt.int_none a t'
  | bl b=>cases z;exact SeqAt.EqAt.int_bool a t' b
  | int b=>obtain ⟨t,rfl⟩:=z;exact SeqAt.EqAt.int_int a t' b t
  | str b=>obtain ⟨t,rfl⟩:=z;exact SeqAt.EqAt.int_str a t' b t
  | _=>exact absurd (show false=true from G) Ka
 | str a =>
  obtain ⟨t',rfl⟩:=F;cases x with
  | non=>cases z;exact SeqAt.EqAt.str_none a t'
  | bl b=>cases z;exact SeqAt.EqAt.str_bool a t' b
  | int b=>obtain ⟨t,rfl⟩:=z;exact SeqAt.EqAt.str_int a t' b t
  | str b=>obtain ⟨t,rfl⟩:=z;exact SeqAt.EqAt.str_str a t' b t
  | _=>exact absurd (show false=true from G) Ka
 | _=>exact absurd (show false=true from J) Ka
def eqU(x:V)(u:Value):Bool:=match u with
 | .none=>eqV .non x
 | .bool b=>eqV (.bl b) x
 | .int i _=>eqV (.int i) x
 | .str z _=>eqV (.str z) x
 | _=>false
theorem p0(r:zl y u)(f:z5 y=true):eqU x u=eqV y x:=by
 cases y with
 | non=>cases r;rfl
 | bl b=>cases r;rfl
 | int i=>obtain ⟨t,rfl⟩:=r;rfl
 | str z=>obtain ⟨t,rfl⟩:=r;rfl
 | _=>exact absurd (show false=true from f) Ka
theorem tf(h:zm xs us)(f:xs.all z5=true):us.any (eqU x)=xs.any λy=>eqV y x:=by
 induction h with
 | nil=>rfl
 | cons r t z =>
  rw [List.all_cons,KD] at f;rw [Os,Os,p0 r f.1,z f.2]
theorem lY(F:zl x v)(G:z5 x=true):∀{xs:List V}{us:List Value},zm xs us->xs.all z5=true->∀u∈us,SeqAt.EqAt A s u v (eqU x u)
 | _,_,.nil,_=>λu z=>by cases z
 | y::xs,u::us,.cons r t,f=>λJ z=>by
  rw [List.all_cons,KD] at f;rcases J1.mp z with rfl|z
  .rw [p0 r f.1];exact oP r F f.1 G
  .exact lY F G t f.2 J z
def inV(x:V)(xs:List V):Bool:=xs.any λy=>eqV y x
def rIn(K:JV)(neg:Bool):R2:=λx y H Q=>∃p xs,y = .ref p/\(SqL K H p xs\/SqT K H p xs)/\z5 x=true/\xs.all z5=true/\Q (.bl (if neg then !inV x xs else inV x xs)) H
theorem yF:OpR X (KG .In) (rIn X.K false):=by
 intro Go s σ H x y v u Q I G O h;obtain ⟨p,xs,rfl,z,J,fs,q⟩:=h;cases O;rcases z with z|z
 .obtain ⟨F,r,pl,hz⟩:=I.list z;refine SeqAt.in_listAt (eqU x) pl.isList (λw hw=>lY G J r fs w (by simpa using hw)) ⟨.bl _,H,I,rfl,?_⟩;rw [show F.toArray.any (eqU x)=F.any (eqU x) by simp,tf r fs];exact q
 .obtain ⟨F,r,pl,hz⟩:=I.tuple z;refine SeqAt.in_tupleAt (eqU x) pl (λw hw=>lY G J r fs w (by simpa using hw)) ⟨.bl _,H,I,rfl,?_⟩;rw [show F.toArray.any (eqU x)=F.any (eqU x) by simp,tf r fs];exact q
theorem nR:zI X (.builtin "len") (λxs H Q=>∃p ys,xs=[.ref p]/\(SqL X.K H p ys\/SqT X.K H p ys)/\Q (.int ys.length) H):=by
 intro Go s σ H xs us Q I r h;obtain ⟨p,ys,rfl,z,q⟩:=h;obtain ⟨u,rfl,G⟩:=bo r;cases G;have O:=fh;rcases z with z|z
 .obtain ⟨J,r',pl,hz⟩:=I.list z;have F:=r'.length;exact Calls.call_len_list pl.isList (by simp only [J8]<;>lia) ⟨.int ys.length,H,I.tok _,⟨s.toks+1,by rw [J8,F]⟩,q⟩
 .obtain ⟨J,r',pl,hz⟩:=I.tuple z;have F:=r'.length;exact len_tuple pl (by simp only [J8]<;>lia) ⟨.int ys.length,H,I.tok _,⟨s.toks+1,by rw [J8,F]⟩,q⟩
theorem B4:zI X (.builtin "len") (λxs H Q=>∃z,xs=[.str z]/\z.length<=sizeLine/\Q (.int z.length) H):=by
 intro Go s σ H xs us Q I r h;obtain ⟨z,rfl,hz,q⟩:=h;obtain ⟨u,rfl,t,rfl⟩:=bo r;have F:=fh;exact len_str (by lia) ⟨.int z.length,H,I.tok _,⟨_,rfl⟩,q⟩
theorem zI.or{r r':List V->Hp->VK->Prop}(h:zI X f r)(h':zI X f r'):zI X f (λxs H Q=>r xs H Q\/r' xs H Q):=by
 intro Go s σ H xs us Q I z q;rcases q with q|q
 .exact h Go s σ H xs us Q I z q
 .exact h' Go s σ H xs us Q I z q
theorem GG:zI X (.type "list") (λxs H Q=>∃p ys,xs=[.ref p]/\(SqL X.K H p ys\/SqT X.K H p ys)/\∀l,H l=none->Q (.ref l) (upd H l (.lst ys))):=by
 intro Go s σ H xs us Q I r h;obtain ⟨p,ys,rfl,G,q⟩:=h;obtain ⟨u,rfl,O⟩:=bo r;cases O;have J:∀(z:List Value),zm ys z->ys.length<=sizeLine->∀(h':Heap)(F:Nat),(∀b o',s.heap.get? b=some o'->h'.get? b=some o') ->
   h'.get? s.heap.objs.size=some { cls:=.type "list",dict:=none,data:=.seq z.toArray F,slots:=#[] }->EP X Go σ Q (.ref s.heap.objs.size) { s with heap:=h' }:=λz r' hz h' F kp e =>
  ⟨.ref s.heap.objs.size,_,I.laid (t':=s.toks) kp (JY _) (show z7 X.prog X.w _ h' _ (.lst ys) from ⟨hz,z,F,r',e⟩),rfl,q _ (I.hok.fresh (JY _))⟩
 rcases G with G|G
 .obtain ⟨z,r',pl,hz⟩:=I.list G;have S:=r'.length;obtain ⟨o,ho,hc,n,hd⟩:=pl.isList;exact call_list_seq p (.inl rfl) ho hc hd (λh' F kp e=>J z r' hz h' F kp e) (by simp only [J8]<;>lia)
 .obtain ⟨z,r',pl,hz⟩:=I.tuple G;have S:=r'.length;obtain ⟨o,ho,hc,n,hd⟩:=pl;exact call_list_seq p (.inr rfl) ho hc hd (λh' F kp e=>J z r' hz h' F kp e) (by simp only [J8]<;>lia)
def tyV(K:JV)(T:String)(x:V)(H:Hp):Prop:=match x with
 | .str _=>T="str"
 | .int _=>T="int"
 | .ref p=>(T="list"/\∃xs,SqL K H p xs)\/(T="tuple"/\∃o,K.lookup p=some o/\o.cls = .type "tuple"/\o.dict=none) \/
   (T="dict"/\((∃kvs,H p=some (.dK kvs))\/∃kvs,H p=some (.dT kvs)))\/(T="set"/\∃S n,H p=some (.set S n))
 | _=>False
theorem fU(I:Inv X Go σ H s)(r:zl x v)(ty:tyV X.K T x H):
  s.TypeIs v T/\∀a,v = .ref a->∃ob,s.heap.get? a=some ob/\ob.dict=none:=by
 cases x with
 | str z =>
  obtain ⟨t,rfl⟩:=r;cases (show T="str" from ty);exact ⟨Nb s z t,λ_ e=>nomatch e⟩
 | int i =>
  obtain ⟨t,rfl⟩:=r;cases (show T="int" from ty);exact ⟨typeIs_int s i t,λ_ e=>nomatch e⟩
 | ref p =>
  cases r;rcases ty with ⟨rfl,xs,J⟩|⟨rfl,o,F,hc,hd⟩|⟨rfl,F⟩|⟨rfl,S,n,F⟩
  .obtain ⟨O,_,pl,_⟩:=I.list J;refine ⟨pl.isList.typeIs,λa e=>?_⟩;cases e;obtain ⟨o,n,e,c,hd,_⟩:=pl;exact ⟨o,e,hd⟩
  .refine ⟨⟨o,I.z4 p o F,hc⟩,λa e=>?_⟩;cases e;exact ⟨o,I.z4 _ o F,hd⟩
  .have z:∃o,s.heap.get? p=some o/\o.ExactDict:=by
    rcases F with ⟨kvs,F⟩|⟨kvs,F⟩
    .obtain ⟨_,_,_,_,o,_,_,e,ex,_⟩:=I.hok p _ F;exact ⟨o,e,ex⟩
    .obtain ⟨_,_,_,_,o,_,_,e,ex,_⟩:=I.hok p _ F;exact ⟨o,e,ex⟩
   obtain ⟨o,e,ex⟩:=z;refine ⟨⟨o,e,ex.1⟩,λa G=>?_⟩;cases G;exact ⟨o,e,ex.2.1⟩
  .obtain ⟨o,_,_,_,e,ex,_⟩:=I.hok p _ F;refine ⟨⟨o,e,ex.1⟩,λa G=>?_⟩;cases G;exact ⟨o,e,ex.2.1⟩
 | _=>exact False.elim ty
variable {o e:Kf}{es:List Kf}{to:TE}{t:TA}{name:Str}{Z1 cpos:Pos}{T id:String}{r:V->List V->Hp->VK->Prop}
end
def MtM(X:Cx)(id:String)(r:V->List V->Hp->VK->Prop):Prop :=
 ∀(Go:List (Addr×Obj))(s:JR)(σ:St)(H:Hp)(x:V)(xs:List V)(v:Value)(us:List Value)(Q:VK),Inv X Go σ H s->zl x v->zm xs us->r x xs H Q ->
  J3 (J6 X.prog X.w) X.A (call (.builtin id) (v::us)) (EP X Go σ Q) X.xe s
theorem C1{α β:Type}{F:α->β->Prop}{x:α}{xs:List α}{us:List β}(h:Paired F (x::xs) us):∃u ws,us=u::ws/\F x u/\Paired F xs ws:=by
 cases h with
 | cons r t=>exact ⟨_,_,rfl,r,t⟩
theorem vE{α β:Type}{F:α->β->Prop}{us:List β}(h:Paired F [] us):us=[]:=by cases h;rfl
theorem zm.one(h:zm [x] us):∃u,us=[u]/\zl x u:=by
 obtain ⟨u,ws,rfl,r,t⟩:=C1 h;cases vE t;exact ⟨_,rfl,r⟩
def bY(k:V->Prop):List V->Prop
 | [y]=>k y
 | _=>False
theorem bY.ex{k:V->Prop}(h:bY k vs):∃y,vs=[y]/\k y:=by
 cases vs with
 | nil=>exact h.elim
 | cons y t =>
  cases t with
  | nil=>exact ⟨y,rfl,h⟩
  | cons _ _=>exact h.elim
theorem zm.zero(h:zm [] us):us=[]:=vE h
theorem zm.eraseIdx:∀{xs:List V}{us:List Value}(i:Nat),zm xs us->zm (xs.eraseIdx i) (us.eraseIdx i)
 | _,_,_,.nil=>.nil
 | _,_,0,.cons _ t=>t
 | _,_,i+1,.cons r t=>.cons r (zm.eraseIdx i t)
theorem zm.rep(h:zm xs us):∀k:Nat,zm (K2 k xs).flatten (K2 k us).flatten
 | 0=>.nil
 | k+1=>by
  rw [LQ,LQ,MF,MF];exact zm.append h (zm.rep h k)
theorem vf{α:Type}:∀(l:List α)(i:Nat),(l.eraseIdx i).length<=l.length
 | [],_=>JY _
 | _::_,0=>NQ _
 | _::r,i+1=>Nat.succ_le_succ (vf r i)
theorem vN(z:List Value):∀(k:Nat)(ZQ:List Value),
  foldl (λG J=>G++J) ZQ.toArray (K2 k z.toArray)=(ZQ++(K2 k z).flatten).toArray
 | 0,ZQ=>by simp
 | k+1,ZQ=>by
  have e:ZQ.toArray++z.toArray=(ZQ++z).toArray:=by simp
  have F:(ZQ++z)++(K2 k z).flatten=ZQ++(K2 (k+1) z).flatten:=by
   rw [LQ,MF,LI]
  rw [<- F,<- vN z k (ZQ++z),<- e,LQ,Oh]
section
variable {X:Cx}{Go:List (Addr×Obj)}{σ:St}{H:Hp}{s:JR}{l b:Addr}{xs ys zs:List V}
theorem Inv.PN{z its':List Value}(I:Inv X Go σ H s)(F:H l=some (.lst xs))(e:s.heap.get? l=some { cls:=.type "list",data:=.seq z.toArray n })(hf:f z.toArray=its'.toArray)(hv:zm ys its')(hz:ys.length<=sizeLine):
  Inv X Go σ (upd H l (.lst ys)) { s with heap:=s.heap.update l (Oq f),toks:=t' }:=by
 have q:=PySem.IsL.update e f;rw [hf] at q;refine I.write (x:=l) (e:=l) (by rw [F];exact trivial) (.inl rfl) (λJ u hb G=>(Ld s.heap (Oq f) (Lv hb)).trans G) ⟨_,q⟩ ?_;exact ⟨hz,its',_,hv,q⟩
theorem Inv.QD(I:Inv X Go σ H s)(hv:zm ys z)(hz:ys.length<=sizeLine):
  Inv X Go σ (upd H s.heap.objs.size (.lst ys)) { s with heap:=s.heap.push { cls:=.type "list",data:=.seq z.toArray },toks:=t' } :=
 I.laid (λ_ _ q=>JU _ q) (JY _) ⟨hz,z,0,hv,J7 _ rfl⟩
theorem Inv.fresh(I:Inv X Go σ H s):H s.heap.objs.size=none:=I.hok.fresh (JY _)
theorem Inv.OQ(I:Inv X Go σ H s)(G:H l=some (.lst xs)):xs.length<=sizeLine/\∃(F:List Value)(n:Nat),zm xs F/\xs.length=F.length/\s.heap.get? l=some { cls:=.type "list",data:=.seq F.toArray n }:=by
 obtain ⟨z,F,n,r,e⟩:=I.hok l _ G;exact ⟨z,F,n,r,r.length,e⟩
theorem uY(h:n<=sizeLine):Kb.List.listTooLong n=false:=by
 unfold Kb.List.listTooLong;exact decide_eq_false (by lia)
end
section
variable {X:Cx}
def B5:V->List V->Hp->VK->Prop:=λx vs H Q=>∃l xs y,x = .ref l/\vs=[y]/\H l=some (.lst xs)/\xs.length<sizeLine/\Q .non (upd H l (.lst (xs++[y])))
theorem CT:MtM X "list.append" B5:=by
 intro Go s σ H x vs v us Q I O S h;obtain ⟨l,xs,y,rfl,rfl,G,hz,q⟩:=h;cases O;obtain ⟨u,rfl,U⟩:=S.one;obtain ⟨z,J,n,r,hl,e⟩:=I.OQ G;refine Mf F.slot_list_append ⟨_,e,rfl⟩ F.entry_list_append (F.args_list_append_2 _ _) (PySem.list_append l J.toArray n u (by rw [J8];lia)) ⟨e,?_⟩;refine ⟨.non,_,I.PN (its':=J++[u]) G e (by simp) (r.append (.cons U .nil)) ?_,rfl,q⟩;rw [KB,LA];lia
def Dy:V->List V->Hp->VK->Prop:=λx vs H Q=>∃l b xs zs,x = .ref l/\vs=[.ref b]/\H l=some (.lst xs)/\H b=some (.lst zs)/\xs.length+zs.length<=sizeLine/\Q .non (upd H l (.lst (xs++zs)))
theorem Eg:MtM X "list.extend" Dy:=by
 intro Go s σ H x vs v us Q I U rv h;obtain ⟨l,b,xs,zs,rfl,rfl,O,S,hz,q⟩:=h;cases U;obtain ⟨u,rfl,ru⟩:=rv.one;cases ru;obtain ⟨z,G,n,r,hl,e⟩:=I.OQ O;obtain ⟨z2,J,n2,W,ab,e2⟩:=I.OQ S;have hsz:G.toArray.size+J.toArray.size<=sizeLine:=by rw [J8,J8];lia
 have Z : ¬ (!G.toArray.isEmpty&&Kb.List.listTooLong (G.toArray.size+J.toArray.size))=true:=by
  rw [uY hsz,Bool.and_false];exact Ka
 refine Mf F.slot_list_extend ⟨_,e,rfl⟩ F.entry_list_extend (F.args_list_extend_2 _ _)
  (AutoSeq1.list_extend_list_list_0 l G.toArray n b J.toArray n2 Z (by rw [J8];lia) (by lia)) ⟨e,e2,?_⟩
 refine ⟨.non,_,I.PN (its':=G++J) O e (by simp) (r.append W) ?_,rfl,q⟩;rw [KB];lia
def Ji:V->List V->Hp->VK->Prop:=λx vs H Q=>∃l xs i k y,x = .ref l/\vs=[.int i]/\H l=some (.lst xs)/\-(2 ^ 63)<=i/\i<2 ^ 63/\seqIndex? i xs.length=some k/\xs[k]?=some y/\Q y (upd H l (.lst (xs.eraseIdx k)))
theorem Jj:MtM X "list.pop" Ji:=by
 intro Go s σ H x vs v us Q I O S h;obtain ⟨l,xs,i,k,y,rfl,rfl,J,h1,h2,W,U,q⟩:=h;cases O;obtain ⟨u,rfl,ru⟩:=S.one;obtain ⟨t,rfl⟩:=ru;obtain ⟨z,G,n,r,hl,e⟩:=I.OQ J;obtain ⟨w,hw,Z⟩:=r.get U;refine Mf F.slot_list_pop ⟨_,e,rfl⟩ F.entry_list_pop (F.args_list_pop_2 _ _)
  (MeetsSeq.list_pop_at l G.toArray n i t k w (fitsIndex_both h1 h2) (by rw [J8,<- hl];exact W) (by rw [<- KQ];exact hw) (by rw [J8];lia)) ⟨e,?_⟩
 refine ⟨y,_,I.PN (its':=G.eraseIdx k) J e ?_ (r.eraseIdx k) ?_,Z,q⟩
 .show G.toArray.eraseIdxIfInBounds k=(G.eraseIdx k).toArray;rw [List.eraseIdxIfInBounds_toArray]
 .have:=vf xs k;lia
def Aw:V->List V->Hp->VK->Prop:=λx vs H Q=>∃l xs,x = .ref l/\vs=[]/\H l=some (.lst xs)/\Q .non (upd H l (.lst []))
theorem Du:MtM X "list.clear" Aw:=by
 intro Go s σ H x vs v us Q I O S h;obtain ⟨l,xs,rfl,rfl,J,q⟩:=h;cases O;have G:=S.zero;subst G;obtain ⟨z,U,n,r,hl,e⟩:=I.OQ J;refine Mf F.slot_list_clear ⟨_,e,rfl⟩ F.entry_list_clear (F.args_list_clear_1 _) (AutoSeq1.list_clear_list_0 l U.toArray n (by rw [J8];lia)) ⟨e,?_⟩;exact ⟨.non,_,I.PN (its':=[]) (ys:=[]) J e rfl .nil (Lc _),rfl,q⟩
def y3:R2:=λx y H Q=>∃l b xs zs,x = .ref l/\y = .ref b/\H l=some (.lst xs)/\H b=some (.lst zs)/\xs.length+zs.length<=sizeLine/\∀p,H p=none->Q (.ref p) (upd H p (.lst (xs++zs)))
theorem yf:OpR X (Ly .Add) y3:=by
 intro Go s σ H x y v u Q I O U h;obtain ⟨l,b,xs,zs,rfl,rfl,W,J,hz,q⟩:=h;cases O;cases U;obtain ⟨z,G,n,r,hl,e⟩:=I.OQ W;obtain ⟨z2,F,n2,S,ab,Z⟩:=I.OQ J;refine PySem.P.add_list e Z ?_ (by rw [J8,J8];lia);have ea:G.toArray++F.toArray=(G++F).toArray:=by simp
 rw [ea];exact ⟨.ref _,_,I.QD (t':=s.toks) (r.append S) (by rw [KB];lia),rfl,q _ I.fresh⟩
def Gh:R2:=λx y H Q=>∃l k xs,x = .ref l/\y = .int k/\H l=some (.lst xs)/\-(2 ^ 63)<=k/\k<2 ^ 63/\xs.length*k.toNat<=sizeLine /\
 ∀p,H p=none->Q (.ref p) (upd H p (.lst (K2 k.toNat xs).flatten))
theorem Js{α:Type}(xs:List α)(k:Nat):(K2 k xs).flatten.length=k*xs.length:=by
 induction k with
 | zero=>simp
 | succ k z=>rw [LQ,MF,KB,z,Nat.succ_mul,Nat.add_comm]
theorem DP:OpR X (Ly .Mult) Gh:=by
 intro Go s σ H x y v u Q I rx ry h;obtain ⟨l,k,xs,rfl,rfl,hH,h1,h2,hz,q⟩:=h;cases rx;obtain ⟨t,rfl⟩:=ry;obtain ⟨z,G,n,r,hl,e⟩:=I.OQ hH;have ZS:G.toArray.size*k.toNat<=sizeLine:=by rw [J8,<- hl];exact hz
 have J : ¬ G.toArray.size*k.toNat>(2 ^ 63-1) / 8:=by
  have:(sizeLine:Nat)<=(2 ^ 63-1) / 8:=by decide
  lia
 have O : ¬ (!Kb.List.listFitsIndex k)=true:=by
  rw [fitsIndex_both h1 h2];exact Ka
 have Xq : ¬ Kb.List.listTooLong (G.toArray.size*k.toNat)=true:=by
  rw [uY ZS];exact Ka
 have S:foldl (λW Z=>W++Z) #[] (K2 (if G.toArray.isEmpty=true then 0 else k.toNat) G.toArray)=(K2 k.toNat G).flatten.toArray:=by
  have f0:∀m:Nat,foldl (λW Z=>W++Z) #[] (K2 m G.toArray)=(K2 m G).flatten.toArray:=λm=>by
   have:=vN G m [];rw [NA] at this;exact this
  rw [f0];cases G with
  | nil=>simp
  | cons a r'=>rw [if_neg (by simp)]
 refine wpAny_binaryOp_repeat_ref (T:="list") (U:="int") (by decide) ⟨_,e,rfl⟩ (λs'=>typeIs_int s' k t) noFill_list_mul F.fills_int_mul F.slot_int_rmul repeat_list F.slot_int_index.lookup
  (Mf F.slot_int_rmul (typeIs_int s k t) F.entry_int_rmul (F.args_int_rmul_2 _ _) (int___rmul___int_list k t l G.toArray n)
   ⟨e,rfl,⟨_,e,rfl⟩,Mf F.slot_list_mul ⟨_,e,rfl⟩ F.entry_list_mul (F.args_list_mul_2 _ _) (AutoListH.list___mul___list_int_3 l G.toArray n k t O J Xq) ⟨e,?_⟩⟩)
 rw [S];exact ⟨.ref _,_,I.QD (t':=s.toks) (r.rep k.toNat) (by rw [Js,Nat.mul_comm];exact hz),rfl,q _ I.fresh⟩
end
end L2
namespace Att
open PySem PySem.W PySem.Calls PyProof.Rows
theorem Cu:∀(ns:List Int)(vs:List Value),WellAll P h vs (ns.map WData.int)->Mv vs ns:=by
 intro ns
 induction ns with
 | nil =>
  intro vs w;rw [map_nil] at w;cases w;exact .nil
 | cons n ns z =>
  intro vs w;rw [Li] at w;cases w with
  | cons a b =>
   cases a;exact .cons _ _ (z _ b)
theorem B1{l:OpenLaw}(W:l.most=some n){vals:List Value}(z:l.row.toRowW.claim.pre args=true)(hwl:WellAll P h vals args):
  ∃a vs ns,vals=[Ko a]/\args=[WData.list (ns.map WData.int)]/\h.get? a=some { cls:=.type "list",data:=.seq vs.toArray }/\Mv vs ns/\ns.length<=n:=by
 have O:WShape.hasAll [] args [.list .int]=true:=(pre_splitW z).1;have hc:l.pre.holds [] { args:=args }=true:=(pre_splitW z).2;obtain ⟨d,r,rfl,h1,h2⟩:=hasAllW_cons O;obtain rfl:=hasAllW_nil h2;obtain ⟨xs,rfl,Z⟩:=hasW_list h1;obtain ⟨ns,rfl⟩:=items_int Z;have ZS:ns.length<=n:=by
  unfold OpenLaw.pre at hc;have G:(WTm.not (.lt (.lit (.int (n:Int))) (.len (.arg 0)))).holds [] { args:=[.list (ns.map .int)] }=true:=by
   have G:=(holds_andW hc).1;rw [W] at G;exact G
  have J:=condW_of G (w_not (w_lt w_lit (w_len_list (w_arg rfl))));rw [JS] at J;refine Nat.le_of_not_lt λq=>?_;have q':(n:Int)<((ns.length:Nat):Int):=by lia
  first
   | (rw [decide_eq_true q'] at J;exact absurd J (by decide))
   | (simp at J;lia)
 cases hwl with
 | cons U S =>
  cases S;cases U with
  | list ho F=>exact ⟨_,_,ns,rfl,rfl,ho,Cu ns _ F,ZS⟩
theorem FZ(l:OpenLaw)(args:List WData):l.row.toRowW.claim.post args (.bool true) args=true :=
 postW_of (r:=l.row.toRowW) (X:=(true==true))
  (show WShape.has [] (.bool true) .bool=true by first|rfl|decide|simp [WShape.has,WShape.arms,WShape.armsAll])
  (show (WTm.eq .res (.lit (.bool true))).value [] { args:=args,res:=some (.bool true),after:=args }=some (.bool (true==true)) from w_eq_bool (w_res rfl) w_lit) rfl
theorem attach_call{l:OpenLaw}{d:DefRec}(hn:l.most=some n)(S:d.params.defaults=[])(call:∀(w:Ke)(s₀ s₁:JR)(mg U:Str->Option Value)(z:Addr)(o:Obj)(pm cd W:Value)(a:Addr)(vs:List Value)(ns:List Int),
   Ground q Yq [] XP w s₀ mg U s₁.heap->Z w s₁.heap ->
   s₁.heap.get? z=some o->o.data = .func (docDef d.name d.params d.body d.scope pm cd W)->s₁.heap.CodeRec cd d.name->mg d.name=some (.ref z) ->
   s₁.heap.get? a=some { cls:=.type "list",data:=.seq vs.toArray }->Mv vs ns->ns.length<=n->s₁.gens = #[] ->
   LN (J6 l.prog w) callerA (.call (.ref z) ⟨[.ref a],[]⟩) (λr s'=>r = .ok (.ret (.bool true))/\OldK s₁.heap s'.heap/\s'.os=s₁.os/\Nw s'.gens) s₁):
  WalkO q Yq XP Z l.row.toRowW d [] (λf vs=>PySem.call f vs):=by
 intro w s₀ s₁ mg U G Y z o pm cd W dV kV ho hd hcd hD O hg args vals as J ab av hwl aI;obtain rfl:dV = .none:=Dflts.none hD S;obtain rfl:kV = .none:=Dflts.noKw hD;obtain ⟨a,vs,ns,rfl,rfl,F,Xp,ZS⟩:=B1 hn J hwl;refine enter_call (LW (call w s₀ s₁ mg U z o pm cd W a vs ns G Y ho (fd_plain hd) hcd O F Xp ZS hg) λr s' hq=>?_);obtain ⟨rfl,h2,h3,h4⟩:=hq;exact ⟨.inl ⟨.bool true,.bool true,[],rfl,λ_=>rfl,.bool true,FZ l _,λ_=>⟨List.Pairwise.nil,λ_ hm=>(nomatch hm)⟩⟩,h2,h3,h4⟩
end Att
namespace L2
open PySem PySem.Spec PyProof.Rows
theorem lI(h:Mv vs ns):zm (ns.map V.int) vs:=by
 induction h with
 | nil=>exact .nil
 | cons n t h z=>exact .cons ⟨t,rfl⟩ z
def oX(H:Hp):Prop:=∀b,H b=none\/∃o xs,H b=some (.frz o (.lst xs))
theorem Bd{K:JV}{k:Nat}{fa a:Addr}(KX:K.In s₁.heap)(ab:s₁.heap.Ns J9 mg)(hb:s₁.heap.Ns builtinsNs mb)(a4:∀x:Str,x≠"__name__"->mb x=Mg x)(av:s₁.heap.NoLimit)(hg:s₁.gens = #[])(ha:s₁.heap.get? a=some { cls:=.type "list",data:=.seq vs.toArray })(hi:Mv vs ns)(hl:ns.length<=sizeLine)(hr:zT true k callerA)(F:∀base:Heap,K.In base->base.Ns J9 mg->zp P w K mg base CX true k fa fd [x] sp)(S:∀(s:JR)(u:Value),BindsTo s fd ⟨[u],[]⟩ [(x,u)])(aI:∀H:Hp,oX H->SqL K H a (ns.map V.int)->sp [.ref a] H (λv _=>v = .bl true) λ_ _ _=>False)(a3:∀H e s',CX [] H s₁ (λ_ _ _=>False) e s'->False):
  LN (J6 P w) callerA (.call (.ref fa) ⟨[.ref a],[]⟩) (λr s'=>r = .ok (.ret (.bool true))/\OldK s₁.heap s'.heap/\s'.os=s₁.os/\Nw s'.gens) s₁:=by
 have rv:=lI hi;have Z:=hi.length;have O:∀H:Hp,oX H->SqL K H a (ns.map V.int)->HOk P w H s₁.heap->(∀b,H b≠none->b=a)->(H a≠none->K.lookup a=none) ->
   LN (J6 P w) callerA (.call (.ref fa) ⟨[.ref a],[]⟩) (λr s'=>r = .ok (.ret (.bool true))/\OldK s₁.heap s'.heap/\s'.os=s₁.os/\Nw s'.gens) s₁:=by
  intro H hO hS hok hA hK;have G:∀{b:Addr}{o:Obj},s₁.heap.get? b=some o->H b=none->(dA s₁.heap H).get? b=some o:=λe n=>Cg e n;have a0:∀{b:Addr}{o:Obj}{es:Array DictEntry}{ep:Nat},s₁.heap.get? b=some o->o.data = .dict es ep->H b=none:=λ{b o es ep} e d=>by
   cases q:H b with
   | none=>rfl
   | some u =>
    have e':b=a:=hA b (by rw [q];simp);subst e';rw [ha] at e;cases e;have d':Data.seq vs.toArray _=Data.dict es ep:=d;cases d'
  have J:∀{b:Addr}{m:Str->Option Value},s₁.heap.Ns b m->(dA s₁.heap H).Ns b m:=λ{b m} ⟨o,es,ep,e,d,r⟩=>⟨o,es,ep,G e (a0 e d),d,r⟩;have U:K.In (dA s₁.heap H):=λb o e=>G (KX b o e) (by
   cases q:H b with
   | none=>rfl
   | some u =>
    have e':b=a:=hA b (by rw [q];simp);subst e';rw [hK (by rw [q];simp)] at e;cases e)
  have hM:Mod K mg (dA s₁.heap H):=⟨U,J ab,⟨mb,J hb,a4⟩,let ⟨mc,h1,h2⟩:=av;⟨mc,J h1,h2⟩⟩;have e0:d9 P w K mg (dA s₁.heap H) callerA [] s₁ H:=⟨rfl,.inl rfl,hM,λb o e=>JL e,N6 (EK _ _),trivial,λb hb=>absurd (show b∈([]:List Addr) from hb) (by simp),hok,.of_eq hg⟩;refine LW ((F _ U (J ab)).run callerA [] s₁ H ⟨[.ref a],[]⟩ [.ref a] [.ref a] _ _ hr e0 (S s₁ (.ref a)) (.cons rfl .nil) (aI H hO hS)) λr s' h=>?_;cases r with
  | error e=>exact (a3 H e s' h).elim
  | ok fl =>
   cases fl with
   | next=>exact False.elim h
   | brk=>exact False.elim h
   | cont=>exact False.elim h
   | ret u =>
    obtain ⟨v,H',os,bare,un,W,r',q⟩:=h;have q':v = .bl true:=q;subst q';obtain rfl:u=Mi true:=r';refine ⟨rfl,OldK.of_keep λb o e=>?_,os,bare⟩;cases q:H b with
    | none=>exact un.keep b o e q (by intro z;exact absurd (show b∈([]:List Addr) from z) (by simp)) (by simp)
    | some u =>
     rcases hO b with z|⟨ob,xs,z⟩
     .rw [q] at z;cases z
     .have z2:=un.frzs b ob _ z;obtain ⟨e1,_⟩:=hok b _ z;obtain ⟨e2,_⟩:=W b _ z2;rw [e] at e1;cases e1;exact e2
 cases hk:K.lookup a with
 | some o =>
  have e:=KX a o hk;rw [ha] at e;cases e;refine O (λ_=>none) (λ_=>.inl rfl) (.inr ⟨_,vs.toArray,_,hk,rfl,rfl,rfl,by rw [J8,Z];exact hl,by simpa using rv⟩) (λb u z=>by have z':(none:Option HO)=some u:=z;cases z') (λb z=>absurd rfl z) λz=>absurd rfl z
 | none =>
  refine O (λb=>if b=a then some (.frz { cls:=.type "list",data:=.seq vs.toArray } (.lst (ns.map V.int))) else none) (λb=>?_) (.inl (.inr ⟨{ cls:=.type "list",data:=.seq vs.toArray },if_pos rfl⟩)) (λb u z=>?_) (λb z=>?_) λ_=>hk
  .by_cases hb:b=a
   .exact .inr ⟨_,_,if_pos hb⟩
   .exact .inl (if_neg hb)
  .by_cases hb:b=a
   .have z':=(if_pos hb).symm.trans z;cases z';subst hb;exact ⟨ha,by rw [JS];exact hl,vs,_,rv,ha⟩
   .have z':=(if_neg hb).symm.trans z;cases z'
  .by_cases hb:b=a
   .exact hb
   .exact absurd (if_neg hb) z
theorem walk_of{l:PySem.W.OpenLaw}{n k:Nat}{d:DefRec}{K:Params->JV}{CX:Ke->CXT}{sp:Ke->Sp}(hn:l.most=some n)(Z:n<=sizeLine)(ab:d.params.defaults=[])(hr:zT true k callerA)(hY:∀(w:Ke)(h:Heap),YP w h->(K w.params).In h)(F:∀(w:Ke)(mg:Str->Option Value)(J:Addr)(h:Heap),(K w.params).In h->h.Ns J9 mg->mg d.name=some (.ref J) ->
   ∃fd:J4,(∀(s:JR)(u:Value),BindsTo s fd ⟨[u],[]⟩ [(x,u)]) /\
    ∀base:Heap,(K w.params).In base->base.Ns J9 mg->zp l.prog w (K w.params) mg base (CX w) true k J fd [x] (sp w))(O:∀(w:Ke)(H:Hp)(a:Addr)(ns:List Int),ns.length<=n->oX H->SqL (K w.params) H a (ns.map V.int)->sp w [.ref a] H (λv _=>v = .bl true) λ_ _ _=>False)(U:∀(w:Ke)(H:Hp)(s:JR)(e:Value)(s':JR),CX w [] H s (λ_ _ _=>False) e s'->False):
  PySem.W.WalkO q Yq XP YP l.row.toRowW d [] (λf vs=>PySem.call f vs):=by
 refine Att.attach_call hn ab λw s₀ s₁ mg mb J o pm cd Yc a vs ns G Y ho hd hcd S z Xp ZS hg=>?_;have KX:=hY w _ Y;obtain ⟨fd,hb,hF⟩:=F w mg J _ KX G.T.g S;exact Bd KX G.T.g G.T.b G.T.builtins G.T.nolimit hg z Xp (Kp ZS Z) hr hF hb (λH hO hS=>O w H a ns ZS hO hS) λH e s'=>U w H s₁ e s'
def ar(s:Stmt)(j:Nat):Stmt:=match s with
 | .ClassDef _ _ _ z _ _ _ _ _ _ _=>z.getD j (.Pass ⟨0,0,0,0⟩)
 | _=>.Pass ⟨0,0,0,0⟩
def kj(s:Stmt):Arguments:=match s with
 | .FunctionDef _ a _ _ _ _ _ _ _ _=>a
 | _=>{ posonlyargs:=[],args:=[],vararg:=none,kwonlyargs:=[],kw_defaults:=[],kwarg:=none,defaults:=[] }
def gP(s:Stmt):List Stmt:=match s with
 | .FunctionDef _ _ b _ _ _ _ _ _ _=>b
 | _=>[]
def zk(s:Stmt):Scope:=match s with
 | .FunctionDef _ _ _ _ _ _ sc _ _ _=>sc
 | _=>{ kind:=.function,names:=[],isGenerator:=false,isCoroutine:=false }
abbrev CX0:CXT:=λ_ _ _ _ _ _=>False
abbrev E0:XK:=λ_ _ _=>False
theorem fk:dm CX0 X E0:=λ_ _ _ _ _ _ _ h=>h.elim
structure Fun(K:JV)(x Zy:Str)(st:Stmt)(f:Addr)(fd:J4):Prop where
 ex:∃(oc:Value)(od:Option Addr)(kV Yc pm:Value)(an:Option Addr)(ZP ct:Value)(osl:Array (Option Value)),
  fd=fnOf x Zy (kj st) (gP st) (zk st) .none kV Yc pm an ZP ct/\K.lookup f=some ⟨oc,od,.func fd,osl⟩/\codeIn K ZP Zy=true
 kp:Oe K (.ref f)=true
section
variable {P:JZ}{w:Ke}{K:JV}{mg:Str->Option Value}{base:Heap}
theorem Fun.ok{st:Stmt}{k:Nat}(F:Fun K x Zy st f fd)(S:zu N ps (zk st))(len:∀vs H Q E,sp vs H Q E->vs.length=ps.length)(O:∀(z:Value)(A:Kk)(outer:List Env)(s:JR)(H:Hp)(vs:List V)(Q:VK)(E:XK),zT cm k (A.deeper (Oi Zy (zk st) s.heap.objs.size f z))->sp vs H Q E ->
   ∃t,PSs (eZ CX0 cm P w K mg base N Zy (zk st) f z A outer s H E).Qt (gP st) t/\t { nx:=λ_ H'=>Q .non H',rt:=Q } (start N vs) H):zp P w K mg base CX0 cm (k+1) f fd ps sp:=by
 obtain ⟨oc,Z,kV,W,pm,U,z,ct,J,rfl,lk,hcd⟩:=F.ex;refine Dp lk hcd S len λA outer s H vs Q E hr G=>?_;obtain ⟨t,h,q⟩:=O z A outer s H vs Q E hr G;exact ⟨t,h.Qt,q⟩
theorem Fun.binds{st:Stmt}(F:Fun K x Zy st f fd)(h:∀(kV J pm:Value)(G:Option Addr)(z ct:Value)(us:List Value),us.length=ps.length->bindArgs (fnOf x Zy (kj st) (gP st) (zk st) .none kV J pm G z ct) ⟨us,[]⟩=pure (ps.zip us)):bU K fd ps []:=by
 obtain ⟨U,S,kV,J,pm,G,z,ct,O,rfl,lk,hcd⟩:=F.ex;exact .all (h kV J pm G z ct)
end
theorem zM{k:Nat}(hr:zT c k A):A.units+1<cLine:=Ku (Nat.add_le_add_left (by decide:1<=64) _) hr.units
section
variable {X:Cx}
theorem pv(i:Nat)(hN:X.N[i]?=some x:=by rfl)(hv:Vis X.env.scope x:=by first|exact J5 rfl|exact MJ (J5 rfl)|exact MJ (MJ rfl))(hd:(x==("__debug__":Str))=false:=by decide)(hcd:(x==("__classdict__":Str))=false:=by decide):PE X (.Name x pos) (di i):=By hN hv hd hcd
end
theorem h7{A B:Prop}(h:B):if false=true then A else B:=by
 rw [if_neg Ka];exact h
theorem lE{A B:Prop}(h:A):if true=true then A else B:=by
 rw [if_pos rfl];exact h
theorem dn{c A B:Prop} [Decidable c] (h1:c->A) (h2 : ¬ c->B):if c then A else B:=by
 by_cases h:c
 .rw [if_pos h];exact h1 h
 .rw [if_neg h];exact h2 h
def ze(H H':Hp):Prop:=∀b o,H b=some o->H' b=some o
theorem ze.refl(H:Hp):ze H H:=λ_ _ h=>h
theorem ze.trans(a:ze H H1)(b:ze H1 H2):ze H H2:=λc o h=>b c o (a c o h)
theorem ze.free(e:ze H H')(h:H' l=Option.none):H l=Option.none:=by
 cases q:H l with
 | none=>rfl
 | some o =>
  rw [e l o q] at h;cases h
end L2
set_option maxHeartbeats 4000000
namespace L2
open PySem PySem.Spec PyProof.Rows
def bQ(z:List (Str×Addr)):List (Str×KO)->List (Str×Addr)->List (Str×Addr)
 | [],cs=>cs
 | (n,k)::r,cs=>bQ z r (if k == .free then (match z.lookup n with|some c=>(n,c)::cs|none=>cs) else cs)
theorem vL(h:∀y∈F.names,y.2 = .free->∃c,env.cells.lookup y.1=some c):closureFor F env=pure (bQ env.cells F.names []):=by
 simp only [closureFor];have all:∀(l:List (Str×KO))(cs:List (Str×Addr)),(∀y∈l,y.2 = .free->∃c,env.cells.lookup y.1=some c) ->
   (forIn l cs λ(x:Str×KO)(r:List (Str×Addr))=>match x with|(name,kind)=>if (kind==KO.free)=true then do let a<-cellOf env name;pure (ForInStep.yield ((name,a)::r)) else pure (ForInStep.yield r):Sem (List (Str×Addr)))=pure (bQ env.cells l cs):=by
  intro l
  induction l with
  | nil=>intro cs _;rfl
  | cons y r J =>
   intro cs G;obtain ⟨n,k⟩:=y;rw [On];by_cases O:k = .free
   .subst O;obtain ⟨c,hc⟩:=G (n,.free) Kg rfl;have S:env.cells.lookup n=some c:=hc;simp only [cellOf,S,bQ,beq_self_eq_true,if_true];exact J _ λz hz=>G z (Kc _ hz)
   .have hb:(k==KO.free)=false:=by simpa using O
    simp only [bQ,hb,LZ,if_false];exact J _ λz hz=>G z (Kc _ hz)
 have e:=all F.names [] h;show (do let cs<-forIn F.names [] _;pure cs)=_
 first
  | (rw [bind_pure];exact e)
  | exact e
  | (simpa using e)
theorem uE:∀{l:List (Str×KO)}{cs:List (Str×Addr)}{x:Str}{c:Addr},(bQ z l cs).lookup x=some c->cs.lookup x=some c\/(z.lookup x=some c/\(x,KO.free)∈l)
 | [],_,_,_,h=>.inl h
 | (n,k)::r,cs,x,c,h=>by
  unfold bQ at h;rcases uE h with h|⟨h1,h2⟩
  .by_cases F:k = .free
   .subst F;simp only [beq_self_eq_true,if_true] at h;cases e:z.lookup n with
    | none=>rw [e] at h;exact .inl h
    | some G =>
     rw [e] at h;simp only [My] at h;by_cases hx:x=n
     .subst hx;simp only [beq_self_eq_true] at h;cases h;exact .inr ⟨e,Kg⟩
     .have hb:(x==n)=false:=by simpa using hx
      rw [hb] at h;exact .inl h
   .have hb:(k==KO.free)=false:=by simpa using F
    rw [hb] at h;exact .inl h
  .exact .inr ⟨h1,Kc _ h2⟩
theorem rE:∀{l:List (Str×KO)}{cs:List (Str×Addr)}{x:Str},(cs.lookup x).isSome=true->((bQ z l cs).lookup x).isSome=true
 | [],_,_,h=>h
 | (n,k)::r,cs,x,h=>by
  unfold bQ;refine rE ?_;split
  .split
   .simp only [My];split
    .rfl
    .exact h
   .exact h
  .exact h
theorem rA:∀{l:List (Str×KO)}{cs:List (Str×Addr)}{x:Str}{c:Addr},(x,KO.free)∈l->z.lookup x=some c->((bQ z l cs).lookup x).isSome=true
 | (n,k)::r,cs,x,c,hm,hc=>by
  unfold bQ;rcases J1.mp hm with e|hm
  .cases e;refine rE ?_;simp only [beq_self_eq_true,if_true,hc,My];rfl
  .exact rA hm hc
theorem jI:∀(names:List (Str×KO))(n:Nat)(ZQ:List (Str×Addr)),LB n names ZQ=LB n names []++ZQ
 | [],_,_=>rfl
 | (x,k)::r,n,ZQ=>by
  unfold LB;split
  .rw [jI r (n+1) ((x,n)::ZQ),jI r (n+1) [(x,n)],LI];rfl
  .exact jI r n ZQ
theorem lZ:∀{names:List (Str×KO)}{n:Nat}{ZQ:List (Str×Addr)},(x,c)∈LB n names ZQ->(x,c)∈ZQ\/(x,KO.cell)∈names
 | [],_,_,h=>.inl h
 | (y,k)::r,n,ZQ,h=>by
  unfold LB at h;split at h
  .next hk =>
   rcases lZ h with h|h
   .rcases J1.mp h with e|h
    .cases e;rw [eq_of_beq hk];exact .inr Kg
    .exact .inl h
   .exact .inr (Kc _ h)
  .rcases lZ h with h|h
   .exact .inl h
   .exact .inr (Kc _ h)
theorem i7:∀{names:List (Str×KO)}{n:Nat}{ZQ:List (Str×Addr)},(ZQ.lookup x).isSome=true->((LB n names ZQ).lookup x).isSome=true
 | [],_,_,h=>h
 | (y,k)::r,n,ZQ,h=>by
  unfold LB;split
  .refine i7 ?_;rw [My];cases x==y with
   | true=>rfl
   | false=>exact h
  .exact i7 h
theorem m4:∀{names:List (Str×KO)}{n:Nat}{ZQ:List (Str×Addr)},(x,KO.cell)∈names->((LB n names ZQ).lookup x).isSome=true
 | (y,k)::r,n,ZQ,h=>by
  unfold LB;rcases J1.mp h with e|h
  .cases e;rw [if_pos (by decide)];exact i7 (by rw [My,beq_self_eq_true];rfl)
  .split
   .exact m4 h
   .exact m4 h
def dW(z:List (Str×Addr))(sc:Scope)(C:Addr):List (Str×Addr):=LB (C+1) sc.names (bQ z sc.names [])
structure gn(ZH:List (Str×Addr))(sc:Scope)(C:Addr)(h:Heap):Prop where
 Py:∀x c,(dW ZH sc C).lookup x=some c->(C<c/\h.IsCell c none/\(x,KO.cell)∈sc.names)\/(ZH.lookup x=some c/\(x,KO.free)∈sc.names)
 inj:∀x y c,(dW ZH sc C).lookup x=some c->(dW ZH sc C).lookup y=some c->C<c->x=y\/(ZH.lookup x=some c\/ZH.lookup y=some c)
theorem wH:∀{a b:List (Str×Addr)},(a++b).lookup x=(a.lookup x).or (b.lookup x)
 | [],b=>rfl
 | (y,c)::r,b=>by
  rw [Nm,My,My];cases x==y with
  | true=>rfl
  | false=>exact wH
theorem gn.mk'(F:h.objs.size=C+1):gn z sc C (L8 h sc.names):=by
 have ok:=cellsFrom_ok sc.names h (C+1) [] ⟨λ_ _ hm=>(nomatch hm),List.Pairwise.nil⟩ (N6 F.symm);rw [F] at ok;have sp:∀x c,(dW z sc C).lookup x=some c->(x,c)∈LB (C+1) sc.names []\/(z.lookup x=some c/\(x,KO.free)∈sc.names):=λx c h=>by
  unfold dW at h;rw [jI,wH] at h;cases e:(LB (C+1) sc.names []).lookup x with
  | some d=>rw [e] at h;cases h;exact .inl (K9 e)
  | none =>
   rw [e] at h;rcases uE (show (bQ z sc.names []).lookup x=some c from h) with h|h
   .cases h
   .exact .inr h
 refine ⟨λx c h=>?_,λx y c h1 h2 _=>?_⟩
 .rcases sp x c h with h|h
  .refine .inl ⟨(ok.empty x c h).2,(ok.empty x c h).1,?_⟩;rcases lZ h with h|h
   .cases h
   .exact h
  .exact .inr h
 .rcases sp x c h1 with a|a
  .rcases sp y c h2 with b|b
   .exact .inl (PySem.name_of_addr ok.apart a b)
   .exact .inr (.inr b.1)
  .exact .inr (.inl a.1)
theorem tU{code:Value}(S:Q (newEnv F s.heap.objs.size O (LB (s.heap.objs.size+1) F.names J) Zy z code (some outer) builtinsNs) { s with heap:=L8 (s.heap.push { cls:=.type "dict",data:=.dict #[] }) F.names }):
  J3 M A (newFunctionEnv F O J [] Zy z code (some outer)) Q E s:=by
 simp only [newFunctionEnv,isSome_some,if_true];refine we (wpAny_alloc ?_);refine we (wpAny_layCells _ (λname kind U=>by cases G:kind==KO.cell<;>simp [G]) _ _ _ _ ?_);rw [show ({ s with heap:=s.heap.push { cls:=.type "dict",data:=.dict #[] } }:JR).heap.objs.size=s.heap.objs.size+1 from L7 ..];exact we (JT (JT S))
def bc(sc:Scope)(names:List (Str×KO))(N N':List Str)(ix:List (Option Nat)):Bool :=
 sc.kind == .function&&sc.names.all (λy=>(y.2 != .cell||sc.names.lookup y.1==some .cell)&&(y.2 != .local||sc.names.lookup y.1==some .local)&&(y.2 != .free||(names.lookup y.1==some .cell&&sc.names.lookup y.1==some .free)) ) &&
 ix.length==N'.length&&(KR ix.length).all (λi=>match ix.getD i none with
  | none=>true
  | some j=>(match N'[i]?,N[j]? with|some x,some y=>x==y&&sc.names.lookup x==some .free|_,_=>false))
def bK(ix:List (Option Nat))(σ:St):St:=ix.map λo=>o.bind λj=>(σ[j]?).join
structure af(X:Cx)(sc:Scope)(N':List Str)(ix:List (Option Nat)):Prop where
 kind:sc.kind = .function
 cell:∀y∈sc.names,y.2 = .cell->sc.names.lookup y.1=some .cell
 names:∀y∈sc.names,y.2 = .local->sc.names.lookup y.1=some .local
 free:∀y∈sc.names,y.2 = .free->X.env.kindOf y.1=some .cell/\sc.names.lookup y.1=some .free
 len:ix.length=N'.length
 at_:∀(i j:Nat),ix[i]?=some (some j)->∃x,N'[i]?=some x/\X.N[j]?=some x/\sc.names.lookup x=some .free
theorem af.of(h:bc sc X.env.scope.names X.N N' ix=true):af X sc N' ix:=by
 unfold bc at h;simp only [KD,KW] at h;obtain ⟨⟨⟨h1,h2⟩,U⟩,O⟩:=h;refine ⟨by simpa using h1,λy z F=>?_,λy z F=>?_,λy z F=>?_,by simpa using U,λi j e=>?_⟩
 .have q:=(h2 y z).1.1;rw [F] at q;simpa using q
 .have q:=(h2 y z).1.2;rw [F] at q;simpa using q
 .have q:=(h2 y z).2;rw [F] at q;simp only [bne_self_eq_false,Bool.false_or,KD,beq_iff_eq] at q;exact q
 .have hi:i<ix.length:=(JX.mp e).1;have:=O i (N5.mpr hi);have S:ix.getD i none=some j:=by rw [Kj,e];rfl
  rw [S] at this;dsimp only at this;cases G:N'[i]? with
  | none=>rw [G] at this;simp at this
  | some x =>
   cases J:X.N[j]? with
   | none=>rw [G,J] at this;simp at this
   | some y =>
    rw [G,J] at this;simp only [KD,beq_iff_eq] at this;exact ⟨x,rfl,by rw [this.1],this.2⟩
def zy(X:Cx)(sc:Scope)(N':List Str)(Go:List (Addr×Obj))(C:Addr)(fp:List Addr)(s:JR)(H:Hp):Cx :=
 { X with N:=N',s₀:=s,H₀:=H,env:=compEnvC sc (dW X.env.cells sc C) C X.env,outer:=X.stack,stack:=X.stack,ex:=fp,fn:=λx=>sc.names.lookup x==some .cell,pn:=X.pn++Go,xe:=λ_ _=>False }
theorem HOk.add{o:HO}(x:HOk P w H h)(z:H D=none)(new:z7 P w (upd H D o) h D o):HOk P w (upd H D o) h:=λb u e=>by
 by_cases hb:b=D
 .subst hb;rw [zq] at e;cases e;exact new
 .rw [zf hb] at e;exact (x b u e).Oy (λ_ _ _ q=>q) (λc q=>by rw [zf (zH q z)];exact q) λc xs q=>by rw [zf (zH q z)];exact q
theorem HOk.but(x:HOk P w H h)(F:H C=none)(k:∀b u,b≠C->h.get? b=some u->h'.get? b=some u):HOk P w H h':=λb u e =>
 (x b u e).Oy (λc v hc q=>k c v (by
  rcases hc with z|z
  .rw [z];exact zH e F
  .exact zH z F) q) (λ_ q=>q) λ_ _ q=>q
theorem CC(F:env.scope.kind = .function)(hf:∀y∈sc.names,y.2 = .free->env.kindOf y.1=some .cell):
  ∀x,(relabel sc env).names.lookup x=(sc.names.lookup x).map λk=>if k == .free then .cell else k:=by
 intro x;have em:(relabel sc env).names=sc.names.map λy=>(y.1,if y.2 == .free then KO.cell else y.2):=by
  show sc.names.map _=_;refine LC λy G=>?_;obtain ⟨n,k⟩:=y;by_cases z:k = .free
  .subst z;have e:env.kindOf n=some .cell:=hf (n,.free) G rfl;simp [F,e]
  .have hb:(k==KO.free)=false:=by simpa using z
   simp [hb]
 rw [em];generalize sc.names=l
 induction l with
 | nil=>rfl
 | cons y r J =>
  obtain ⟨n,k⟩:=y;simp only [Li,My];cases x==n with
  | true=>rfl
  | false=>exact J
section
variable {X:Cx}{sc:Scope}{N':List Str}{ix:List (Option Nat)}
theorem Cm{i:Nat}(h:(bK ix σ)[i]?=some (some v)):∃j,ix[i]?=some (some j)/\σ[j]?=some (some v):=by
 unfold bK at h;rw [Kd] at h;cases e:ix[i]? with
 | none=>rw [e] at h;cases h
 | some o =>
  rw [e] at h;have h':(o.bind λj=>(σ[j]?).join)=some v:=KE.inj h;cases o with
  | none=>cases h'
  | some j =>
   have F:(σ[j]?).join=some v:=h';cases G:σ[j]? with
   | none=>rw [G] at F;cases F
   | some z =>
    rw [G] at F;have:z=some v:=F;exact ⟨j,rfl,by rw [G,this]⟩
theorem qc(I:Inv X Go σ H s)(L:af X sc N' ix)(f:∀b∈fp,aA X Go H b)(fl:∀b∈fp,b<s.heap.objs.size)(O:s.heap.objs.size<=C)(W:h₁.Ns C m)(old:∀b o,s.heap.get? b=some o->h₁.get? b=some o)(own:gn X.env.cells sc C h₁):
  Inv (zy X sc N' Go C fp s H) [] (bK ix σ) H { s with heap:=h₁,toks:=tk }:=by
 have lt:∀{x c},X.env.cells.lookup x=some c->¬ C<c:=λ{x c} h=>by
  obtain ⟨_,q⟩:=I.cell x c h;have:=q.lt;lia
 have rl:=CC (sc:=sc) (env:=X.env) I.ok.kind λy hy G=>(L.free y hy G).1;have J:∀x,sc.names.lookup x=some .free->∃c,(dW X.env.cells sc C).lookup x=some c/\X.env.cells.lookup x=some c:=λx hx=>by
  have hm:(x,KO.free)∈sc.names:=K9 hx;obtain ⟨c,hc⟩:=I.ok.has x (.inl (L.free _ hm rfl).1);obtain ⟨c',S⟩:=M0.mp (i7 (names:=sc.names) (n:=C+1) (rA (cs:=[]) hm hc));rcases own.Py x c' S with a|a
  .have:=L.cell _ a.2.2 rfl;rw [hx] at this;cases this
  .exact ⟨c',S,a.1⟩
 refine ⟨⟨I.ok.mod,L.kind,I.ok.glob,I.ok.blt,O,λx y c h1 h2=>?_,λx hx=>?_,λx c h h'=>?_,I.ok.hd,I.ok.frames,.inl rfl,λb hb=>⟨Ky (Kl (fl b hb) O),λx c h=>?_⟩,
   I.bs,Kp I.ok.PP I.sz,λb o e hb=>?_,λb hb z=>?_,I.stack,I.Pq⟩,rfl,I.bare,Un.kept old,⟨m,W,λi x v e1 e2 e3=>?_⟩,λx c h=>?_,I.hok.fresh O,λx c h=>?_,λp hp=>?_,I.hok.kept old,?_,I.hdk⟩
 .rcases own.Py x c h1 with a|a<;>rcases own.Py y c h2 with b|b
  .rcases own.inj x y c h1 h2 a.1 with e|e|e
   .exact e
   .exact absurd a.1 (lt e)
   .exact absurd a.1 (lt e)
  .exact absurd a.1 (lt b.1)
  .exact absurd b.1 (lt a.1)
  .exact I.ok.inj x y c a.1 b.1
 .have F:(relabel sc X.env).names.lookup x=some .cell\/(relabel sc X.env).names.lookup x=some .free:=hx;rw [rl x] at F;cases e:sc.names.lookup x with
  | none=>rw [e] at F;simp at F
  | some k =>
   have G:k = .free\/k = .cell:=by
    cases k with
    | free=>exact .inl rfl
    | cell=>exact .inr rfl
    | _=>rw [e] at F;revert F;decide
   rcases G with G|G
   .subst G;obtain ⟨c,h1,_⟩:=J x e;exact ⟨c,h1⟩
   .subst G;exact M0.mp (m4 (K9 e))
 .rcases own.Py x c h' with a|a
  .exact Kp O (Nk a.1)
  .have:=(L.free _ a.2 rfl).2;have h:(sc.names.lookup x==some .cell)=true:=h;rw [this] at h;exact absurd h (by decide)
 .rcases own.Py x c h with a|a
  .have:=fl b hb;have:=a.1;exact λz=>by subst z;lia
  .exact (f b hb).2.2.2.2.1 x c a.1
 .rcases (f b hb).2.2.2.1 with z|z
  .exact I.ok.Pt b o e z
  .exact absurd (Kl (Kq (I.ok.bs b o e).1) z) (K4 _)
 .rcases J1.mp (I.Da b z) with e|e
  .exact (f b hb).2.1 e
  .exact (f b hb).2.2.1 e
 .obtain ⟨j,hj,hv⟩:=Cm e2;obtain ⟨y,n1,n2,Z⟩:=L.at_ i j hj;have ab:x=y:=KE.inj ((show N'[i]?=some x from e1).symm.trans n1);subst ab;obtain ⟨c,c1,c2⟩:=J x Z;have kf:=(L.free _ (K9 Z) rfl).1;obtain ⟨m0,av,hl⟩:=I.loc;obtain ⟨u,r,l⟩:=hl j x v n2 hv (.inr (.inl kf));refine ⟨u,r,.inr ⟨.inl ?_,c,c1,?_⟩⟩
  .show (relabel sc X.env).names.lookup x=some .cell;rw [rl x,Z];rfl
  .rcases l with ⟨G,_⟩|⟨_,c',S,z⟩
   .have U:X.env.kindOf x=some .cell:=kf;rw [G] at U;cases U
   .rw [c2] at S;cases S;obtain ⟨oc,ho,hd⟩:=z;exact ⟨oc,old _ _ ho,hd⟩
 .rcases own.Py x c h with a|a
  .exact ⟨_,a.2.1⟩
  .obtain ⟨v,oc,ho,hd⟩:=I.cell x c a.1;exact ⟨v,oc,old _ _ ho,hd⟩
 .rcases own.Py x c h with a|a
  .exact I.hok.fresh (Kp O (Nk a.1))
  .exact I.wa x c a.1
 .have Xo:p∈X.pn++Go:=by
   have:p∈(X.pn++Go)++[]:=hp;simpa using this
  obtain ⟨a,b,c,d,e⟩:=I.pin p Xo;exact ⟨old _ _ a,b,Ky (Kl (Kq a) O),λz=>(J1.mp (I.Da p.1 z)).elim c d,e⟩
 .show (bK ix σ).length=N'.length;unfold bK;rw [JS,L.len]
end
def PTs(X:Cx)(z:List Kf)(t:TT):Prop :=
 ∀(Go:List (Addr×Obj))(s:JR)(σ:St)(H:Hp)(Q:Bool->Hp->Prop),Inv X Go σ H s->t σ H Q ->
  J3 (J6 X.prog X.w) X.A (forIn z true λc r=>if r=true then do let ok<-isTrue c X.env (KZ c X.env);pure (ForInStep.yield ok) else pure (ForInStep.yield r)) (TP X Go σ Q) X.xe s
def jl:TT:=λ_ H Q=>Q true H
theorem bB:W (PTs X [] jl):=⟨λ_ _ _ H _ I h=>wpAny_tests_nil ⟨H,I,h⟩⟩
theorem HV{e tg iter : Kf}{Zc : List Kf}(hct : (∀ B : Kk, B.under (.compLoop e 0 it ZQ env) = B) ∧ (J6 prog w).den (.compLoop e 0 it ZQ env) = Sem.onRaise (do
      Mt iter.pos
      match ← MW it with
      | none => pure (.done .next)
      | some v =>
        LK tg it v
        NU tg env v
        let mut ok := true
        for c in Zc do
          if ok then ok ← isTrue c env (KZ c env)
        if ok then
          em
        again (.compLoop e 0 it ZQ env)) (fun x => do noteFrame x env; theTreesLotGoes x))(I:Nat->JR->Prop)(Z:∀n s,I n s->J3 (J6 prog w) A (MW it) (λr s₁=>match r with
   | none=>R (.ok .next) s₁
   | some v=>J3 (J6 prog w) A (LK tg it v) (λ_ F=>J3 (J6 prog w) A (NU tg env v) (λ_ G =>
     J3 (J6 prog w) A (forIn Zc true λc r=>if r=true then do let ok<-isTrue c env (KZ c env);pure (ForInStep.yield ok) else pure (ForInStep.yield r)) (λok s₃ =>
      if ok=true then J3 (J6 prog w) A em (λ_ O=>∃m,m<n/\I m O) (λ_ _=>False) s₃
      else ∃m,m<n/\I m s₃) (λ_ _=>False) G) (λ_ _=>False) F) (λ_ _=>False) s₁) (λ_ _=>False) s)(n:Nat)(h:I n s):LN (J6 prog w) A (.compLoop e 0 it ZQ env) R s:=by
 refine codeAny_loop rfl I (λn s hI=>?_) n h;rw [hct.1,hct.2];refine wpAny_noted (KJ (E:=λ_ _=>False) ?_ (λ_ _ q=>q) λ_ _ z=>z.elim);refine we (Ll (we (KJ (Z n s hI) (λr s₁ h₁=>?_) λ_ _ h'=>h')));cases r with
 | none=>exact JT h₁
 | some v =>
  refine we (KJ h₁ (λ_ F S=>?_) λ_ _ h'=>h');refine we (KJ S (λ_ G U=>we (KJ U (λok s₃ J=>?_) λ_ _ h'=>h')) λ_ _ h'=>h');cases ok with
  | false=>exact JT ⟨rfl,J⟩
  | true=>exact we (KJ J (λ_ O W=>JT ⟨rfl,W⟩) λ_ _ h'=>h')
def tLC(ix:List (Option Nat))(wi:TI)(g:TG)(tt:TT)(te:TE):TE:=λσ H Q=>wi σ H λJ H1=>∃W:Nat->Nat->St->List V->Hp->Prop,(∃m,W 0 m (bK ix σ) [] H1)/\∀i m G ys H2,W i m G ys H2->ys.length<sizeLine /\
 ((J.stop i H2 ∧ ∀ D, H2 D = none → D ≠ sysModules → Q (.ref D) (upd H2 D (.lst ys))) ∨
  (J.go i H2 ∧ ∀ x H3, J.Px i H2 x H3 → g x G H3 fun z H4 => tt z H4 fun ok H5 => if ok = true then te z H5 fun y H6 => ∃ F, F < m ∧ W (i + 1) F z (ys ++ [y]) H6 else ∃ F, F < m ∧ W (i + 1) F z ys H5))
theorem uV{α:Type}{Q:VK}{em:Addr->Env->Sem Unit}(len:α->Nat)(ho:α->HO)(a0:α)(At:α->Obj->Prop)(tm:(α->Hp->Prop)->α->St->Hp->Prop)(dd:clausesOf e=[⟨tg,iter,Zc,0⟩])(hsz:sizeOk dt)(dV:∀it D env,(∀B:Kk,B.under (.compLoop e 0 it (.ref D) env)=B)/\(J6 X.prog X.w).den (.compLoop e 0 it (.ref D) env)=Sem.onRaise (do
   Mt iter.pos
   match<-MW it with
   | none=>pure (.done .next)
   | some v =>
    LK tg it v
    NU tg env v
    let mut ok:=true
    for c in Zc do
     if ok then ok<-isTrue c env (KZ c env)
    if ok then
     em D env
    again (.compLoop e 0 it (.ref D) env)) (λx=>do noteFrame x env;theTreesLotGoes x))(hst:∀{A:Kk}{R:Result->JR->Prop}{s:JR}{it ZQ:Value}{env:Env},LN (J6 X.prog X.w) A (.compLoop e 0 it ZQ env) R s->J3 (J6 X.prog X.w) A (pyIter it) (λdk s'=>LN (J6 X.prog X.w) A (.compLoop e 0 dk ZQ env) R s') (notedBy (J6 X.prog X.w) A env λx s'=>R (.error x) s') s->LN (J6 X.prog X.w) A (.compStart e 0 it ZQ env) R s)(h0:At a0 { cls:=.type T,dict:=none,data:=dt })(Xn:({ cls:=.type T,dict:=none,data:=dt }:Obj).isFreed=false)(ba:∀{ys o},At ys o->∀v,o.data≠.cell v)(bf:∀{ys o H' h D},At ys o->len ys<sizeLine->D≠sysModules->h.get? D=some o->z7 X.prog X.w H' h D (ho ys))(dT:∀Go C fp s H pins' s8 Z H8 ys ob D (K:α->Hp->Prop),Inv (zy X sc N' Go C fp s H) pins' Z H8 s8->tm K ys Z H8->At ys ob->len ys<sizeLine->(D,ob)∈pins' ->
   J3 (J6 X.prog X.w) X.A (em D (zy X sc N' Go C fp s H).env) (λ_ s'=>∃s9 bx H9 a3 h' tk,s'={ s9 with heap:=h',toks:=tk }/\K bx H9/\Inv (zy X sc N' Go C fp s H) pins' Z H9 s9/\At bx a3/\h'.get? D=some a3/\Lr D s9.heap h') (λ_ _=>False) s8)(hc:c=true->X.calm=true)(L:af X sc N' ix)(hi:PIc c X tg iter wi)(hg:∀Go C fp s H,PG (zy X sc N' Go C fp s H) tg g)(ht:∀Go C fp s H,PTs (zy X sc N' Go C fp s H) Zc tt)(hs:∀x,Kw iter X.env x=pure x)(I:Inv X Go σ H s)(h:wi σ H λJ H1=>∃W:Nat->Nat->St->α->Hp->Prop,(∃m,W 0 m (bK ix σ) a0 H1)/\∀i m Z ys H2,W i m Z ys H2->len ys<sizeLine /\
   ((J.stop i H2 ∧ ∀ D, H2 D = none → D ≠ sysModules → Q (.ref D) (upd H2 D (ho ys))) ∨
    (J.go i H2 ∧ ∀ x H3, J.Px i H2 x H3 → g x Z H3 fun a4 H4 => tt a4 H4 fun ok H5 => if ok = true then tm (fun zs H6 => ∃ m', m' < m ∧ W (i + 1) m' a4 zs H6) ys a4 H5 else ∃ m', m' < m ∧ W (i + 1) m' a4 ys H5)))(kk:∀(C D:Addr)(oC:Obj)(H':Hp)(s5:JR)(m5:Str->Option Value),Inv X (Go++[(C,oC)]) σ H' s5->(∀{F:Heap},F.get? C=some oC->F.Ns C m5)->(∀{bq:St}{bb:Hp}{s':JR}{h':Heap},Inv X Go bq bb s'->bb C=none->Lr C s'.heap h'->Inv X Go bq bb { s' with heap:=h' })->Q (.ref D) H'->compPost (J6 X.prog X.w) X.A X.xe use R (.ref D) C (.ok .next) s5):
  J3 (J6 X.prog X.w) X.A (comprehension e sc X.env (firstIterPos [⟨tg,iter,Zc,0⟩] pos) (newObj (.type T) dt none) (firstAsync [⟨tg,iter,Zc,0⟩]) (firstIter [⟨tg,iter,Zc,0⟩] X.env) use) R X.xe s:=by
 have Xm:closureFor sc X.env=pure (bQ X.env.cells sc.names []):=vL λy hy hk=>I.ok.has y.1 (.inl (L.free y hy hk).1);refine wpAny_comprehension_free (use:=use) dd hs Xm L.kind L.names (thn (hi Go s σ H _ I h) λv s1 h1=>thn h1 λd4 s2 h2=>?_);obtain ⟨it,fp,tn,J,H2,e,O,T',b6,f2,W,⟨m0,w0⟩,Yp⟩:=h2;subst e;refine KI (tU ?_) hsz;dsimp only;generalize a9:s2.heap.push { cls:=.type T,dict:=none,data:=dt }=G2;have hC:G2.objs.size=s2.heap.objs.size+1:=by rw [<- a9,L7]
 have bp:s2.heap.objs.size≠G2.objs.size:=by rw [hC];exact Ky (MX _)
 have Yv:s2.heap.objs.size<=G2.objs.size:=by rw [hC];exact NQ _
 have below:∀b,b<s2.heap.objs.size->b≠G2.objs.size/\b≠s2.heap.objs.size:=λb hb=>⟨by rw [hC];exact Ky (Mq hb),Ky hb⟩;have old:∀b o,s2.heap.get? b=some o->(L8 (G2.push { cls:=.type "dict",data:=.dict #[] }) sc.names).get? b=some o:=λb o e=>Ml _ _ _ _ (JU _ (a9 ▸ JU _ e));have Xl:(L8 (G2.push { cls:=.type "dict",data:=.dict #[] }) sc.names).Ns G2.objs.size λ_=>none:=(Ns.new G2 (.type "dict")).keeps (Ml _ _);have own:gn X.env.cells sc G2.objs.size (L8 (G2.push { cls:=.type "dict",data:=.dict #[] }) sc.names):=.mk' (L7 ..);have Zn:(L8 (G2.push { cls:=.type "dict",data:=.dict #[] }) sc.names).get? s2.heap.objs.size=some { cls:=.type T,dict:=none,data:=dt }:=Ml _ _ _ _ (JU _ (a9 ▸ J7 _ Xn));generalize L8 (G2.push { cls:=.type "dict",data:=.dict #[] }) sc.names=h₁ at old Xl own Zn ⊢;have fl:∀b∈fp,b<s2.heap.objs.size:=λb hb=>by
  obtain ⟨o,e,_⟩:=T'.obj 0 _ b6 b hb;exact Kq e
 have Yu:s2.heap.objs.size∉fp:=λz=>K4 _ (fl _ z);generalize S:s2.heap.objs.size=D at *
 generalize d1:G2.objs.size=C at *
 have b0:tn 0 h₁:=T'.keep _ _ _ b6 λb _ o e=>old b o e;have I3:Inv (zy X sc N' Go C fp s2 H2) [] (bK ix σ) H2 { s2 with heap:=h₁ }:=qc (tk:=s2.toks) O L f2 (λb hb=>by rw [S];exact fl b hb) (by rw [S];exact Yv) Xl old own;have D0:H2 D=none:=O.hok.fresh (N6 S);have fD:∀{H':Hp},H' D=none->aA (zy X sc N' Go C fp s2 H2) [] H' D:=λ{H'} hn=>by
  refine ⟨hn,bp,λz=>?_,.inr (N6 S),λx c hx z=>?_,λp F z=>?_⟩
  .obtain ⟨_,o,ho,_⟩:=O.stack.mem (show D∈frs X.stack from z);exact absurd (Kq ho) (by rw [S];exact K4 _)
  .rcases own.Py x c hx with a|a
   .have:=a.1;rw [z] at this;exact absurd this (not_lt.mpr Yv)
   .obtain ⟨v,q⟩:=O.cell x c a.1;have:=q.lt;rw [z,S] at this;exact K4 _ this
  .have Xo:p∈X.pn++Go:=by
    have:p∈(X.pn++Go)++[]:=F;simpa using this
   have:=Kq (O.pin p Xo).1;rw [z,S] at this;exact K4 _ this
 have fF:∀{H':Hp},(∀b∈fp,H' b=none)->∀b∈fp,aA (zy X sc N' Go C fp s2 H2) [] H' b:=λ{H'} hn b hb=>by
  obtain ⟨_,g1,g2,g3,g4,g5⟩:=f2 b hb;refine ⟨hn b hb,(below b (fl b hb)).1,λz=>?_,.inl hb,λx c hx=>?_,λp F=>g5 p ?_⟩
  .rcases J1.mp (O.Da b z) with e|e
   .exact g1 e
   .exact g2 e
  .rcases own.Py x c hx with a|a
   .have:=a.1;have:=fl b hb;exact λz=>by subst z;lia
   .exact g4 x c a.1
  .have:p∈(X.pn++Go)++[]:=F;simpa using this
 have a6:∀s₃:JR,s₃={ s2 with heap:=h₁ } ->
   LN (J6 X.prog X.w) X.A (.compLoop e 0 (.ref it) (.ref D) (compEnvC sc (dW X.env.cells sc C) C X.env))
    (compPost (J6 X.prog X.w) X.A X.xe use R (.ref D) C) s₃:=by
  rintro s₃ rfl;refine HV (dV _ _ _) (λn s'=>∃i Z ys H',Inv (zy X sc N' Go C fp s2 H2) [] Z H' s'/\tn i s'.heap/\(∀b∈fp,H' b=none)/\H' D=none/\(∃ob,At ys ob/\s'.heap.get? D=some ob)/\W i n Z ys H')
   ?_ m0 ⟨0,_,a0,H2,I3,b0,λb hb=>(f2 b hb).1,D0,⟨_,h0,Zn⟩,w0⟩
  rintro n s4 ⟨i,Z,ys,H4,I4,cp,bt,G,⟨ob,av,dg⟩,w4⟩;obtain ⟨ZS,step⟩:=Yp i n Z ys H4 w4;rcases step with ⟨stop,Y0⟩|⟨go,step⟩
  .refine thn (T'.done (zy X sc N' Go C fp s2 H2) rfl rfl rfl hc i [(D,ob)] s4 Z H4 (λ_ _=>False) (I4.ti λp F=>?_) (λb hb=>?_) cp stop) λr s5=>x2e λhr I5=>?_
   .have e:p=(D,ob):=by simpa using F
    subst e;obtain ⟨g0,g1,g2,_⟩:=fD G;exact ⟨dg,g0,g1,g2,ba av⟩
   .obtain ⟨g0,g1,g2,g3,g4,g5⟩:=fF bt b hb;refine ⟨g0,g1,g2,g3,g4,λp F=>?_⟩;rcases Kx.mp F with z|z
    .exact g5 p (KC _ z)
    .have e:p=(D,ob):=by simpa using z
     subst e;exact λq=>Yu (by have q':D=b:=q;rw [q'];exact hb)
   .subst hr;have c6:=(I5.pin (D,_) (J0 _ (KS.mpr rfl))).1;obtain ⟨m5,dc,_⟩:=id I5.loc;have ZK:∀b o,s2.heap.get? b=some o->b≠C/\b≠D:=λb o e=>by
     have:=Kq e;rw [S] at this;exact below b this
    have b9:D≠sysModules:=by have h:J9<s2.heap.objs.size:=(O.mod.glob.keeps O.bk).lt;rw [S] at h;exact N4 (Nj (by decide) h)
    have U:=I5.base;have IX:Inv X Go σ (upd H4 D (ho ys)) s5:=by
     refine O.P0 (s':=s5) (ch:=fp) I5.os ⟨λb o e n hb hx=>U.keep b o e n hb hx,λb o e n hb hx=>U.slot b o e n hb hx,λb o e n hx=>?_,λb o e hx=>U.there b o e hx,λb xs e=>?_,λb o u e=>?_,λb ps e=>?_⟩ ?_ I5.bare (λb hb=>?_)
     .rw [zf (ZK b o e).2];exact U.free b o e n hx
     .have q:=U.tups b xs e;rw [zf (zH q G)];exact q
     .have q:=U.frzs b o u e;rw [zf (zH q G)];exact q
     .obtain ⟨more,q⟩:=U.tbls b ps e;exact ⟨more,by rw [zf (zH q G)];exact q⟩
     .exact I5.hok.add G (bf av ZS b9 c6)
     .obtain ⟨_,g1,g2,g3,g4,g5⟩:=f2 b hb;exact ⟨g3,g1,g4,g5⟩
    obtain ⟨oC,c3,du,gC,rC⟩:=id dc;have a7:∀v,oC.data≠.cell v:=λv z=>by rw [rC.1] at z;cases z
    have b8:C≠D:=Lv bp;have HC:upd H4 D (ho ys) C=none:=by rw [zf b8];exact I5.free
    have a5:C≠X.env.locals:=λz=>by
     have:=O.lt;rw [<- z,S] at this;exact absurd (Kl this Yv) (K4 _)
    have c4:C∉X.fs:=O.Qu (by rw [S];exact Yv);have de:=IX.ti (pins':=Go++[(C,oC)]) λp F=>by
     rcases Kx.mp F with z|z
     .exact IX.pin p (J0 _ z)
     .rw [KS.mp z];exact ⟨gC,HC,a5,c4,a7⟩
    refine kk C D oC _ s5 m5 de (λe=>⟨oC,c3,du,e,rC⟩) (λ{d2 H6 s6 h'} I7 d0 dK=>I7.turned (t':=s6.toks) (it:=C) (λb o hb e=>(dK.2 b hb).trans e) d0 a5 (.inr (Kp O.sz (by rw [S];exact Yv))) (λx c hx z=>?_) (λp F z=>?_)) (Y0 D G b9)
    .obtain ⟨v,q⟩:=O.cell x c hx;have:=q.lt;rw [z,S] at this;exact absurd (Kl this Yv) (K4 _)
    .have:=Kq (O.pin p F).1;rw [z,S] at this;exact absurd (Kl this Yv) (K4 _)
  .refine thn (T'.item (zy X sc N' Go C fp s2 H2) rfl rfl rfl hc i [(D,ob)] s4 Z H4 (λ_ _=>False) (I4.ti λp F=>?_) (λb hb=>?_) cp go) λr s5=>x3e λu hr h5=>?_
   .have e:p=(D,ob):=by simpa using F
    subst e;obtain ⟨g0,g1,g2,_⟩:=fD G;exact ⟨dg,g0,g1,g2,ba av⟩
   .obtain ⟨g0,g1,g2,g3,g4,g5⟩:=fF bt b hb;refine ⟨g0,g1,g2,g3,g4,λp F=>?_⟩;rcases Kx.mp F with z|z
    .exact g5 p (KC _ z)
    .have e:p=(D,ob):=by simpa using z
     subst e;exact λq=>Yu (by have q':D=b:=q;rw [q'];exact hb)
   .subst hr;refine thn h5 λ_ s6=>x5e λx H6 I6 r6 YH=>?_;obtain ⟨y6,a8,df⟩:=YH;obtain ⟨aI,dp,_⟩:=I6.pin (D,_) (J0 _ (KS.mpr rfl));have b5:H6 D=none:=dp;have ct:∀b∈D::fp,aA (zy X sc N' Go C fp s2 H2) [] H6 b:=λb hb=>by
     rcases J1.mp hb with z|z
     .subst z;exact fD b5
     .exact fF df b z
    have b7:∀b∈D::fp,∃o,s6.heap.get? b=some o/\∀v,o.data≠.cell v:=λb hb=>by
     rcases J1.mp hb with z|z
     .subst z;exact ⟨_,aI,ba av⟩
     .exact T'.obj _ _ a8 b z
    have c5:=(I6.mu (Go:=[])).pinned ct b7;refine thn (hg Go C fp s2 H2 _ s6 Z H6 x u _ c5 r6 (step x H6 y6)) λ_ s7=>x4e λab H7 I7 q7=>?_;refine thn (ht Go C fp s2 H2 _ s7 ab H7 _ I7 q7) λok s8=>x3e λH8 I8 q8=>?_;have back:∀{s9:JR}{H9:Hp},Inv (zy X sc N' Go C fp s2 H2) ([]++eP (D::fp) s6.heap) ab H9 s9->s9.heap.get? D=some ob/\H9 D=none/\tn (i+1) s9.heap/\∀b∈fp,H9 b=none:=λ{s9 H9} I9=>by
     have pin:∀b o,b∈D::fp->s6.heap.get? b=some o->s9.heap.get? b=some o/\H9 b=none:=λb o hb e=>by
      have q:=I9.pin (b,o) (J0 _ (J0 _ (fi hb e)));exact ⟨q.1,q.2.1⟩
     refine ⟨(pin D _ Kg aI).1,(pin D _ Kg aI).2,T'.keep _ _ _ a8 λb hb o e=>(pin b o (Kc _ hb) e).1,λb hb=>?_⟩;obtain ⟨o,e,_⟩:=T'.obj _ _ a8 b hb;exact (pin b o (Kc _ hb) e).2
    cases ok with
    | false =>
     obtain ⟨b1,b2,b3,b4⟩:=back I8;simp only [LZ,if_false] at q8 ⊢;obtain ⟨m',hm,w'⟩:=q8;exact ⟨m',hm,i+1,ab,ys,H8,I8.mu,b3,b4,b2,⟨ob,av,b1⟩,w'⟩
    | true =>
     simp only [if_true] at q8 ⊢;refine thn (dT Go C fp s2 H2 _ s8 ab H8 ys ob D _ I8 q8 av ZS (J0 _ (fi Kg aI))) λ_ s'=>?_;rintro ⟨s9,zs,H9,a3,d3,tk,rfl,⟨m',hm,w'⟩,I9,dy,c2,sb⟩;obtain ⟨b1,b2,b3,b4⟩:=back I9;obtain ⟨_,g1,_,g3,g4,g5⟩:=fD b2;exact ⟨m',hm,i+1,ab,zs,H9,(I9.mu (Go:=[])).turned (t':=tk) (λb o hb e=>(sb.2 b hb).trans e) b2 g1 g3 g4 g5,T'.keep _ _ _ b3 λb hb o e=>(sb.2 b λq=>Yu (by rw [<- q];exact hb)).trans e,b4,b2,⟨a3,dy,c2⟩,w'⟩
 exact hst (a6 _ rfl) (T'.self _ 0 _ _ _ b0 (a6 _ rfl))
theorem tq(hc:c=true->X.calm=true)(L:af X sc N' ix)(hi:PIc c X tg iter wi)(hg:∀Go C fp s H,PG (zy X sc N' Go C fp s H) tg g)(ht:∀Go C fp s H,PTs (zy X sc N' Go C fp s H) J tt)(he:∀Go C fp s H,PE (zy X sc N' Go C fp s H) Zb te)(hs:∀x,Kw iter X.env x=pure x)(I:Inv X Go σ H s)(h:tLC ix wi g tt te σ H Q)(kk:∀(C D:Addr)(oC:Obj)(H':Hp)(s5:JR)(m5:Str->Option Value),Inv X (Go++[(C,oC)]) σ H' s5->(∀{hp:Heap},hp.get? C=some oC->hp.Ns C m5)->(∀{O:St}{G:Hp}{s':JR}{h':Heap},Inv X Go O G s'->G C=none->Lr C s'.heap h'->Inv X Go O G { s' with heap:=h' })->Q (.ref D) H'->compPost (J6 X.prog X.w) X.A X.xe use R (.ref D) C (.ok .next) s5):
  J3 (J6 X.prog X.w) X.A (comprehension (.ListComp Zb [⟨tg,iter,J,0⟩] sc pos) sc X.env (firstIterPos [⟨tg,iter,J,0⟩] pos) (newList []) (firstAsync [⟨tg,iter,J,0⟩]) (firstIter [⟨tg,iter,J,0⟩] X.env) use) R X.xe s:=by
 refine uV (e:=.ListComp Zb [⟨tg,iter,J,0⟩] sc pos) (em:=λD env=>do let _<-call (.builtin "list.append") [.ref D,<- KZ Zb env]) (T:="list") (dt:=.seq ([]:List Value).toArray) length HO.lst [] (λys o=>∃F k,zm ys F/\o={ cls:=.type "list",data:=.seq F.toArray k }) (λK ys Z H=>te Z H λy H'=>K (ys++[y]) H') rfl (by size_fits) (λ_ _ _=>⟨λ_=>rfl,rfl⟩) codeAny_compStart_list ⟨[],0,.nil,rfl⟩ rfl ?_ ?_ ?_ hc L hi hg ht hs I h kk
 .rintro ys o ⟨F,k,_,rfl⟩ v z;cases z
 .rintro ys o H' h D ⟨F,k,U,rfl⟩ hl _ e;exact ⟨Nk hl,F,k,U,e⟩
 .rintro Go C fp s H pins' s8 Z H8 ys ob D K I8 q8 ⟨F,k,U,rfl⟩ hl hD;refine we (thn (he Go C fp s H _ s8 Z H8 _ I8 q8) λy s9=>x5e λyv H9 I9 r9 w'=>?_);have el:F.toArray.size<=sizeLine:=by
   have:=U.length;simp only [J8];lia
  refine we (append_at (hsz:=el) (I9.pin _ (J0 _ hD)).1 λW sb S=>JT ⟨s9,_,H9,_,W,s9.toks,rfl,w',I9,⟨F++[y],k+1,U.append (.cons r9 .nil),rfl⟩,?_,sb⟩);rw [S];simp
theorem cz(hc:c=true->X.calm=true)(L:af X sc N' ix)(hi:W (PIc c X tg iter wi))(hg:∀Go C fp s H,W (PG (zy X sc N' Go C fp s H) tg g))(S:∀Go C fp s H,W (PTs (zy X sc N' Go C fp s H) Zc tt))(he:∀Go C fp s H,W (PE (zy X sc N' Go C fp s H) Zb te))(hs:∀x,Kw iter X.env x=pure x:=by intro _;rfl):W (PE X (.ListComp Zb [⟨tg,iter,Zc,0⟩] sc pos) (tLC ix wi g tt te)):=by
 refine ⟨?_⟩;have hi:=hi.h;have hg:=λF J z O G=>(hg F J z O G).h;have S:=λF J z O G=>(S F J z O G).h;have he:=λF J z O G=>(he F J z O G).h;intro Go s σ H Q I h;rw [eval_ListComp];refine tq (use:=none) hc L hi hg S he hs I h λC D oC H' s5 m5 IX ns tu q=>?_;obtain ⟨p6,Z,_⟩:=IX.pin (C,oC) (J0 _ (J0 _ (KS.mpr rfl)));exact ⟨m5,ns p6,λh' U=>⟨.ref D,H',tu (IX.ti λp hp=>IX.pin p (J0 _ (KC _ hp))) Z U,rfl,q⟩⟩
structure GB(B:Heap)(l:List Env)(e:Addr)(cls fl:Value)(h:Heap):Prop where
 stays:B.StaysIn h
 new:B.get? e=none
 frames:h.FunFrames B l
 obj:∃oe vs,h.get? e=some oe/\oe.cls=cls/\oe.dict=none/\oe.data = .fields vs/\2<vs.size/\vs[2]?=some .none /\
  (vs[1]?=some .none\/∃T oT ts,vs[1]?=some (.ref T)/\B.get? T=none/\T≠e/\h.get? T=some oT/\oT.data = .fields ts/\ts[3]?=some fl)
def bmV:List Value:=[.type "ValueError",.type "Exception",.type "BaseException",.type "object"]
def jZ(K:JV)(C:Addr):Prop:=excIn K C bmV "ValueError.__new__"=true
structure C5(h:Heap)(C:Addr)(mro:List Value):Prop where
 ex:∃bm N nm q bs hdct sn sub ab col dd k0 k1 k2 k3 k5 mN,mro = .ref C::bm/\h.get? C=some (excClassObj nm q C N bs bm hdct sn sub ab col dd k0 k1 k2 k3 k5 "ValueError.__new__")/\h.Ns N mN/\mN WE=none/\OwnTail h bmV bm
theorem jZ.obj{K:JV}(x:jZ K C)(X:K.In h):∃cd,clsIn K C=some cd/\C5 h C cd.mro:=by
 unfold jZ excIn at x;split at x
 .rename_i dd cd sl look;have hc:clsIn K C=some cd:=by
   unfold clsIn;rw [look]
  refine ⟨cd,hc,?_⟩;split at x
  .rename_i C' S k0 k1 U k3 n Z em es;simp only [KD,beq_iff_eq,Nv] at x;obtain ⟨⟨⟨⟨⟨c1,c2⟩,J⟩,c4⟩,z⟩,G⟩:=x;subst c1 c2;obtain ⟨a1,a2,a3,a4,a5,a6,a7,a8,a9,F,O⟩:=cd;dsimp only at em J z G ⊢;subst em J;obtain ⟨sl⟩:=sl;dsimp only at es;subst es;exact ⟨S,a4,a1,a5,a2,a6,a7,a8,a9,F,dd,k0,k1,U,k3,Z,_,rfl,X _ _ look,.of_isNs (PySem.W.isNs_of_in X z),PySem.W.nsMap_none_of_in X z G,PySem.W.tail_of_in X c4⟩
  .cases x
 .cases x
theorem z7.ex{a:Addr}{o:HO}(x:z7 P w H h a o):∃ob,h.get? a=some ob:=by
 cases o with
 | lst xs=>obtain ⟨_,_,_,_,e⟩:=x;exact ⟨_,e⟩
 | tup xs=>obtain ⟨_,_,_,o,e,_⟩:=x;exact ⟨_,e⟩
 | dK kvs=>obtain ⟨_,_,_,_,o,_,_,e,_⟩:=x;exact ⟨_,e⟩
 | dT kvs=>obtain ⟨_,_,_,_,o,_,_,e,_⟩:=x;exact ⟨_,e⟩
 | set S n=>obtain ⟨o,_,_,_,e,_⟩:=x;exact ⟨_,e⟩
 | ins C dx fs=>obtain ⟨_,_,_,e,_⟩:=x;exact ⟨_,e⟩
 | own y=>exact x
 | xd fs=>obtain ⟨_,⟨_,_,_,e,_⟩,_⟩:=x;exact ⟨_,e⟩
 | rng lo hi=>obtain ⟨_,_,_,e⟩:=x;exact ⟨_,e⟩
 | frz ob u=>exact ⟨_,x.1⟩
 | tbl ps=>exact ⟨_,x⟩
 | met f y=>exact ⟨_,x⟩
 | ext z=>exact x.2.1
abbrev cxP(X:Cx)(Go:List (Addr×Obj)):Cx:={ X with pn:=X.pn++Go }
theorem Cx.Ok.p(ok:X.Ok)(Go:List (Addr×Obj)):(cxP X Go).Ok :=
 ⟨ok.mod,ok.kind,ok.glob,ok.blt,ok.above,ok.inj,ok.has,ok.Qn,ok.hd,ok.frames,ok.Qp,ok.QK,ok.bs,ok.PP,ok.Pt,ok.PH,ok.E2,ok.PZ⟩
theorem Inv.p(I:Inv X Go σ H s):Inv (cxP X Go) [] σ H s :=
 ⟨I.ok.p Go,I.os,I.bare,I.base,I.loc,I.cell,I.free,I.wa,λp z=>I.pin p (by have h:p∈(X.pn++Go)++[]:=z;simpa using h),I.hok,I.len,I.hdk⟩
theorem Inv.QH(ok:X.Ok)(I:Inv (cxP X Go) [] σ H s):Inv X Go σ H s :=
 ⟨ok,I.os,I.bare,I.base,I.loc,I.cell,I.free,I.wa,λp z=>I.pin p (by show p∈(X.pn++Go)++[];simpa using z),I.hok,I.len,I.hdk⟩
abbrev pM(X:Cx)(Go:List (Addr×Obj))(Ex:Addr->St->Hp->Prop):Cx:=(cxP X Go).L1 λe s'=>∃(F C:Addr)(B:Heap)(H':Hp)(fl:Value)(σ:St)(z:JR),e = .ref F/\Inv (cxP X Go) [] σ H' z/\GB B X.stack F (.ref C) fl s'.heap /\
 s'.os=z.os/\Nw s'.gens/\(∀b o,z.heap.get? b=some o->b∉frs X.stack->B.get? b=some o)/\z.heap.UpToSlots s'.heap/\Ex C σ H'
def AD(C:Addr)(o:Obj):Prop:=o.cls = .ref C/\o.dict=none/\∃vs,o.data = .fields vs
end L2
namespace L2
open PySem PySem.Spec PyProof.Rows PySem.W
section
variable {prog:JZ}{w:Ke}{A:Kk}{E:Value->JR->Prop}{K:Frag}{h:Heap}{g:Array GenState}{d:Drawn}{t:Nat}{os:OsState}{e C:Addr}{oe:Obj}
theorem JP(X:K.In h)(I:InstAt h e oe C none)(J:findIn K (.ref C) "__class__"=some (some (.builtin "object.__class__")))(hm:mroIn K C (.type "object")=some true)(O:Q (.done (.ret (.ref C))) ⟨h,g,d,t,os⟩):J3 (J6 prog w) A (Kb.«object.__getattribute__» ⟨[.ref e,.str "__class__" tk],[]⟩) Q E ⟨h,g,d,t,os⟩:=by
 have G:=I.type (M:=J6 prog w);have z:=looks_findIn (M:=J6 prog w) X J;have U:=F.typeOf_object_class;have S:=F.slot_gs_get.lookup;have W:=F.slot_gs_set.lookup
 repeat (any_goals (first|assumption|with_reducible refine G.at ?_|with_reducible refine z.at ?_|wp_step))
 exact class_get (s:=⟨h,g,d,t,os⟩) X I hm (JT O)
theorem Jp(X:K.In h)(I:InstAt h e oe C none)(hb:mroIn K C (.type "BaseException")=some true)(O:Q () ⟨h,g,d,t,os⟩):
  J3 (J6 prog w) A (Nf "BaseException.__getattribute__" ⟨[.ref e,z],[]⟩) Q E ⟨h,g,d,t,os⟩:=by
 have J:=I.type (M:=J6 prog w);have S:=looks_mroIn (M:=J6 prog w) X hb;have c1:builtinKind "BaseException.__getattribute__"=some .slot:=by decide +kernel
 have G:splitId "BaseException.__getattribute__"=some ("BaseException","__getattribute__"):=by decide +kernel
 have U:=F.args_bexc_ga (.ref e) z;simp only [Nf,c1,G];refine we ?_;unfold isInstance
 repeat (first|with_reducible refine J.at ?_|with_reducible refine S.at ?_|wp_step)
 exact O
theorem CG(X:K.In h)(I:InstAt h e oe C none)(G:findIn K (.ref C) "__getattribute__"=some (some (.builtin "BaseException.__getattribute__")))(z:findIn K (.ref C) "__getattr__"=some none)(O:findIn K (.ref C) "__class__"=some (some (.builtin "object.__class__")))(hm:mroIn K C (.type "object")=some true)(hb:mroIn K C (.type "BaseException")=some true)(hq:Q (some (.ref C)) ⟨h,g,d,t+1,os⟩):
  J3 (J6 prog w) A (getAttr? (.ref e) "__class__") Q E ⟨h,g,d,t,os⟩:=by
 have J:=I.type (M:=J6 prog w);have U:=looks_findIn (M:=J6 prog w) X G;have L2:=looks_findIn (M:=J6 prog w) X z;have Z:=Ob.ga.bind (.ref e);have S:(builtin "BaseException.__getattribute__" == builtin "object.__getattribute__")=false:=by decide +kernel
 have W:(onTheHeap (Ko C)&&builtin "BaseException.__getattribute__" == builtin "object.__getattribute__")=false:=by rw [S];rfl
 have x0:(false&&onTheHeap (builtin "BaseException.__getattribute__"))=false:=rfl;unfold getAttr? getAttrBy?;refine we (wpAny_mkText (we (wpAny_attempt ?_)))
 repeat (any_goals (first|assumption|with_reducible refine J.at ?_|with_reducible refine U.at ?_|with_reducible refine L2.at ?_|wp_step))
 refine Nn Ob.ga.plain F.entry_bexc_ga (Jp X I hb (JP X I O hm ?_))
 repeat (any_goals (first|assumption|wp_step))
structure vV(K:Frag)(C:Addr):Prop where
 err:jZ K C
 ga:findIn K (.ref C) "__getattribute__"=some (some (.builtin "BaseException.__getattribute__"))
 gr:findIn K (.ref C) "__getattr__"=some none
 cl:findIn K (.ref C) "__class__"=some (some (.builtin "object.__class__"))
 ob:mroIn K C (.type "object")=some true
 ba:mroIn K C (.type "BaseException")=some true
theorem Cc(O:vV K C):KitX K (.ref e) (.ref C) (λh=>InstAt h e oe C none) where
 ty:=λ_ _ _ I=>I.type
 it:=λM h X I=>by
  obtain ⟨cd,_,⟨W,N,nm,q,bs,F,U,sub,ab,S,dd,k0,k1,k2,k3,k5,Z,_,G,_⟩⟩:=O.err.obj X;intro A' Q' E' s' k q';unfold isType loadHead;exact we (wpAny_loadPart (k _ _ G) (JT q'))
 ne:=λh tp dd Z7 n sl X J=>by
  obtain ⟨cd,_,⟨W,N,nm,q,bs,F,U,sub,ab,S,d1,k0,k1,k2,k3,k5,Z,_,G,_⟩⟩:=O.err.obj X;refine MG.mpr λz=>?_;have ec:C=tp:=Ko.inj (beq_iff_eq.mp z);subst ec;have wd:=congrArg Obj.data (KE.inj (G.symm.trans J));cases wd
 ca:=λ{prog w A E Q s} X I k=>by
  obtain ⟨h,g,d,t,os⟩:=s;exact CG X I O.ga O.gr O.cl O.ob O.ba k
end
def ya:V->Option Value
 | .ref a=>some (.ref a)
 | .ty n=>some (.type n)
 | _=>none
inductive TyX(K:Frag)(H:Hp):V->Value->Prop where
 | of {x:V}{t:Value} (h:cg K H x t):TyX K H x t
 | exc {a C:Addr}{o:Obj} (e:H a=some (.frz o (.own 0))) (ho:AD C o) (O:vV K C):TyX K H (.ref a) (.ref C)
def lP(K:Frag):List V->Hp->VK->Prop:=λxs H Q=>∃x c t u b,xs=[x,c]/\ya c=some u/\TyX K H x t/\kitOne K t u=some b/\Q (.bl b) H
theorem pd:zI X (.builtin "isinstance") (lP X.K):=by
 intro Go s σ H xs us Q I r h;obtain ⟨x,c,t,u,b,rfl,hc,ty,U,q⟩:=h;cases r with
 | cons G F =>
  cases F with
  | cons S F =>
   cases F;rename_i v1 v2;have e2:v2=u:=by
    cases c with
    | ref a=>cases hc;exact S
    | ty n=>cases hc;exact S
    | _=>cases hc
   subst e2;cases ty with
   | of ty=>exact Dv I G ty U λtk=>⟨.bl b,H,I.tok tk,rfl,q⟩
   | exc e ho O =>
    rename_i a C o;obtain rfl:v1=Ko a:=G;obtain ⟨z,_⟩:=I.hok a _ e;obtain ⟨c1,Z,vs,W⟩:=ho;have J:InstAt s.heap a o C none:=⟨z,c1,by unfold notCls;rw [W],by rw [Z];trivial⟩;exact kia_one (Cc O) I.z4 J U (λw=>nomatch w) λtk=>⟨.bl b,H,I.tok tk,rfl,q⟩
end L2
namespace L2
open PySem PySem.Spec PyProof.Rows
def Hnd(A:Kk)(h:Heap):Prop:=A.handled=none\/∃(a:Addr)(o:Obj)(vs:Array Value),A.handled=some (.ref a)/\h.get? a=some o/\o.data = .fields vs/\vs[2]?=some .none/\∃C,o.cls = .ref C
theorem Inv.QO(I:Inv X Go σ H s):Hnd X.A s.heap:=by
 rcases I.hdk with h|⟨a,o,vs,h1,h2,z⟩
 .exact .inl h
 .exact .inr ⟨a,o,vs,h1,(I.hok a _ h2).1,z⟩
theorem Hnd.keeps(x:Hnd A h)(k:∀b o,(∃C,o.cls = .ref C)->h.get? b=some o->h'.get? b=some o):Hnd A h':=by
 rcases x with x|⟨a,o,vs,h1,h2,F,G,z⟩
 .exact .inl x
 .exact .inr ⟨a,o,vs,h1,k a o z h2,F,G,z⟩
theorem yX:entryFor table "proto.unchain"=some Kb.«proto.unchain»:=entryFor_of_tree (by kernel_rfl)
section
variable {prog:JZ}{w:Ke}{A:Kk}{E:Value->JR->Prop}{s:JR}
theorem yj{α:Type}{Q:α->JR->Prop}(F:Hnd A s.heap)(he:s.heap.get? e=some oe)(hd:oe.data = .fields ws)(hz:2<ws.size)(hc:∀C,oe.cls≠.ref C)(k:∀h',Lr e s.heap h'->(∃o,h'.get? e=some o/\o.cls=oe.cls)->E (.ref e) { s with heap:=h' }):J3 (J6 prog w) A (N2 (.ref e):Sem α) Q E s:=by
 unfold N2;refine we (wpAny_handled ?_);rcases F with F|⟨a,o,vs,h1,h2,S,G,C,J⟩
 .rw [F];exact we (JT (wpAny_throw (k s.heap (Lr.refl _ _) ⟨oe,he,rfl⟩)))
 .rw [h1];have ne:a≠e:=λz=>by rw [z,he] at h2;cases h2;exact hc C J
  dsimp only;rw [if_pos (show (Ko a != Ko e)=true by simpa using ne)];refine we (Ks (wpAny_runValue (Mm yX ?_)));refine we (m:=field (.ref a) 2) (Ni h2 S G ?_);rw [if_pos (show (Mh==Mh)=true by rfl)];refine JT (we ?_);show J3 _ _ (N1 (.ref e) 2 (.ref a)) _ _ _;have O:=Mj hd (·.setIfInBounds 2 (Ko a));exact LP he hd hz (wpAny_throw (k _ (Lr.update ..) ⟨_,Lq _ he (M7 O),NS _ _⟩))
theorem Bm{α:Type}{Q:α->JR->Prop}(J:Hnd A s.heap)(k:∀h' e,(∀b o,s.heap.get? b=some o->h'.get? b=some o)->(∃o,h'.get? e=some o/\o.cls = .type "StopIteration")->E (.ref e) { s with heap:=h' }) :
  J3 (J6 prog w) A (newExc (.type "StopIteration") []>>=λe=>(N2 e:Sem α)) Q E s:=by
 refine we ?_;simp only [newExc,newTuple];refine we (KI (we (m:=ND _ _) (wpAny_of_eq (a:=Mh) (by first|rfl|(simp only [ND];rfl)) (KI ?_ (by size_fits)))) (by size_fits));have old:∀(F G:Obj) b o,s.heap.get? b=some o->((s.heap.push F).push G).get? b=some o:=λF G b o q=>JU _ (JU _ q);refine yj (J.keeps λb o _ q=>old _ _ b o q) (J7 _ rfl) rfl (by simp;lia) (λC z=>by cases z) λh' O=>x3e λo g c=>k h' _ (λb o q=>?_) ⟨o,g,c⟩;refine (O.2 b (λz=>?_)).trans (old _ _ b o q);have:=Kq q;rw [z,L7] at this;exact absurd (KH this) (K4 _)
theorem A8{it t:Addr}(hh:Hnd A s.heap)(O:s.heap.IsTupleIter it t i)(U:s.heap.IsTuple t items)(hx:items[i]?=none)(k:∀h',ExtBut it s.heap h'->Q none { s with heap:=h' }):J3 (J6 prog w) A (MW (.ref it)) Q E s:=by
 obtain ⟨o,ho,hc,hd⟩:=id O;obtain ⟨ol,G,_,nl,J⟩:=U;unfold MW;refine we (wpAny_attempt (L5 (name:=JW "__next__") O.typeIs F.slot_tuple_iterator_next (Lg F.slot_tuple_iterator_next O.typeIs F.entry_tuple_iterator_next ?_ (F.args_tuple_iterator_next_1 _))));refine we (m:=field (.ref it) 0) (Ni ho hd (x:=.ref t) rfl ?_);rw [if_neg (show ¬ ((Ko t==Mh)=true) by simp)];refine we (m:=field (.ref it) 1) (Ni ho hd (x:=.int i 0) rfl (we (m:=seqItems? (.ref t)) (Ny G J ?_)));simp only [Mw,hx];refine we (Mc (we (LP ho hd (by simp) ?_)));refine Bm (hh.keeps λb q W e=>(Ld _ _ λz=>?_).trans e) λh' e up=>x3e λo' g' Z =>
  we (wpAny_isInstance (T:="StopIteration") (b:=true) ⟨o',g',Z⟩ isSubtype_stop (JT (k h' λb q hb z=>up b q ((Ld _ _ (Lv hb)).trans z))))
 obtain ⟨C,S⟩:=W;rw [<- z,ho] at e;cases e;rw [hc] at S;cases S
theorem DZ{x1}{t:Addr}(Z:Hnd A s.heap)(G:IsTup s.heap t items)(hn:(La O env).length=items.size)(F:(La O env).findIdx? (·.1)=none)(h:∀h',ExtBut s.heap.objs.size s.heap h'->J3 (J6 prog w) A (assignInOrder ((La O env).map (·.2)) items.toList) Q E { s with heap:=h' }):J3 (J6 prog w) A (NU (.Tuple O x1 pos) env (.ref t)) Q E s:=by
 have lt:t≠s.heap.objs.size:=by obtain ⟨o,ho,_⟩:=G;exact Ky (Kq ho)
 have all:take items.size (List.drop 0 items.toList)=items.toList:=by rw [Ov];exact J2 (by simp)
 have J:J3 (J6 prog w) A (unpackItems (.ref t) items.size none) (λvs s'=>∃h',vs=items.toList/\s'={ s with heap:=h' }/\ExtBut s.heap.objs.size s.heap h') E s:=by
  unfold unpackItems;refine we ?_;unfold notIterableAtAll;refine we (wpAny_specialOf G.typeIs slot_tuple_iter.lookup (JT ?_));simp only [LZ,if_false];refine we (Ks (iter_tuple G (we (Ks (draw_tuple lt items.size 0 _ _ ⟨_,J7 _ rfl,rfl,rfl⟩ (G.push _) (by lia) λh1 S s1=>?_)))));rw [all,if_neg (by simp)];have t1:IsTup h1 t items:=(G.push _).extBut s1.extBut lt;have up1:∀b o,b≠s.heap.objs.size->s.heap.get? b=some o->h1.get? b=some o:=λb o hb e=>s1.extBut b o hb (JU _ e);refine we (Ks (A8 (s:={ s with heap:=h1 }) (Z.keeps λb o _ e=>up1 b o (Ky (Kq e)) e) S t1 (by simp) λh2 U=>?_));simp only [Option.isSome_none,LZ,if_false];exact JT ⟨h2,rfl,rfl,λb o hb e=>U b o hb (up1 b o hb e)⟩
 rw [assign_Tuple];refine we (Ll ?_);unfold unpack;rw [F,hn];refine we (Ks (KJ J (λvs s'=>x3e λh' W=>x2e λU x=>?_) λ_ _ z=>z));subst W U;exact h h' x
end
theorem vn{k:Nat}{t:TGs}(h:PGs X es t)(hl:(La es X.env).length=n:=by rfl)(hst:(La es X.env).findIdx? (·.1)=none:=by rfl):PG X (.Tuple es k pos) (jS X.K n t):=by
 intro Go s σ H v u Q I r q;obtain ⟨a,xs,rfl,hx,G,q⟩:=q;obtain rfl:u=Ko a:=r;obtain ⟨J,z,F,hz⟩:=I.tuple hx;refine DZ I.QO F (by rw [hl,<- G,z.length];simp) hst λh' ex=>?_;have O:Inv X Go σ H { s with heap:=h' }:=I.kept (t':=s.toks) λb o e=>ex b o (Ky (Kq e)) e;have:=h Go { s with heap:=h' } σ H xs J Q O z q;simpa using this
def eqL(xs ys:List V):Bool:=xs.length==ys.length&&(KR xs.length).all λi=>eqV (xs.getD i .non) (ys.getD i .non)
theorem iO:∀{xs:List V},xs.all z5=true->(∀x∈xs,∀b,x≠.byt b)->eqL xs xs=true:=by
 intro xs h _;unfold eqL;rw [beq_self_eq_true,Bool.true_and,KW];intro i hi;have z:=N5.mp hi;have hm:xs[i]∈xs:=Lk z;have:=KW.mp h _ hm;rw [Kj,JQ z,Option.getD_some];cases e:xs[i] with
 | non=>rfl
 | bl b=>simp [eqV]
 | int j=>simp [eqV]
 | str x=>simp [eqV]
 | _=>rw [e] at this;cases this
section
variable {X:Cx}
def sf(K:JV)(neg:Bool):R2:=λx y H Q=>∃a b xs ys,x = .ref a/\y = .ref b/\SqL K H a xs/\SqL K H b ys/\xs.all z5=true/\ys.all z5=true/\Q (.bl (if neg then !eqL xs ys else eqL xs ys)) H
theorem qZ{a b:Addr}(I:Inv X Go σ H s)(ha:SqL X.K H a xs)(hb:SqL X.K H b ys)(fx:xs.all z5=true)(fy:ys.all z5=true):
  ∃is F:List Value,s.heap.IsList a is.toArray/\s.heap.IsList b F.toArray/\xs.length=is.length/\ys.length=F.length/\∀(A:Kk)(j:Nat)(h1:j<is.toArray.size)(h2:j<F.toArray.size),SeqAt.EqAt A s is.toArray[j] F.toArray[j] (eqV (xs.getD j .non) (ys.getD j .non)):=by
 obtain ⟨is,G,p1,_⟩:=I.list ha;obtain ⟨F,J,p2,_⟩:=I.list hb;refine ⟨is,F,p1.isList,p2.isList,G.length,J.length,λA j h1 h2=>?_⟩;have l1:=G.length;have l2:=J.length;simp only [J8] at h1 h2;have O:xs[j]?=some (xs.getD j .non):=by rw [Kj,JQ (by lia)];rfl
 have S:ys[j]?=some (ys.getD j .non):=by rw [Kj,JQ (by lia)];rfl
 obtain ⟨u,U,q1⟩:=G.get O;obtain ⟨v,W,q2⟩:=J.get S;rw [JQ h1] at U;rw [JQ h2] at W;have f1:=KW.mp fx _ (Kn O);have f2:=KW.mp fy _ (Kn S);have z:=oP (A:=A) (s:=s) q1 q2 f1 f2;have w1:is.toArray[j]=u:=by simpa using KE.inj U
 have Z:F.toArray[j]=v:=by simpa using KE.inj W
 rw [w1,Z];exact z
theorem Cy(F:X.A.units<cLine):OpR X (KG .Eq) (sf X.K false):=by
 intro Go s σ H x y v u Q I S U h;obtain ⟨a,b,xs,ys,rfl,rfl,ha,hb,Z,W,q⟩:=h;cases S;cases U;obtain ⟨is,js,z,p2,J,G,eq⟩:=qZ I ha hb Z W;by_cases hz:is.toArray.size=js.toArray.size
 .refine SeqAt.eq_listAt z p2 hz F (λj h1 h2=>eq _ j h1 h2) ⟨.bl _,H,I,rfl,?_⟩;have e:eqL xs ys=(KR is.toArray.size).all λj=>eqV (xs.getD j .non) (ys.getD j .non):=by
   unfold eqL;simp only [J8] at hz ⊢;rw [J,G,hz];simp
  rw [<- e];exact q
 .refine SeqAt.eq_list_lengthsAt z p2 (by simpa using hz) F ⟨.bl false,H,I,rfl,?_⟩;have e:eqL xs ys=false:=by
   unfold eqL;have:(xs.length==ys.length)=false:=by simp only [J8] at hz;rw [J,G];simpa using hz
   rw [this,NI]
  have O:Q (.bl (eqL xs ys)) H:=q;rw [e] at O;exact O
theorem pQ(G:X.A.units<cLine):OpR X (KG .NotEq) (sf X.K true):=by
 intro Go s σ H x y v u Q I S U h;obtain ⟨a,b,xs,ys,rfl,rfl,ha,hb,Z,W,q⟩:=h;cases S;cases U;obtain ⟨is,js,F,p2,O,J,eq⟩:=qZ I ha hb Z W;have z:Q (.bl (!eqL xs ys)) H:=q;by_cases hz:is.toArray.size=js.toArray.size
 .refine SeqAt.RcNeAt.lists F p2 hz G (λj h1 h2=>eq _ j h1 h2) _ _ _ _ ⟨.bl _,H,I,rfl,?_⟩;have e:eqL xs ys=(KR is.toArray.size).all λj=>eqV (xs.getD j .non) (ys.getD j .non):=by
   unfold eqL;simp only [J8] at hz ⊢;rw [O,J,hz];simp
  rw [<- e];exact z
 .refine SeqAt.RcNeAt.lists_lengths F p2 (by simpa using hz) G _ _ _ _ ⟨.bl true,H,I,rfl,?_⟩;have e:eqL xs ys=false:=by
   unfold eqL;have:(xs.length==ys.length)=false:=by simp only [J8] at hz;rw [O,J];simpa using hz
   rw [this,NI]
  rw [e] at z;exact z
theorem Inv.big(I:Inv X Go σ H s):sysModules<s.heap.objs.size:=by
 have h:J9<s.heap.objs.size:=(I.mod.glob.keeps I.bk).lt;exact Nj (by decide) h
def x6:TE:=λ_ H Q=>∀p,H p=none->Q (.ref p) (upd H p (.dK []))
theorem C6:PE X (.Dict [] [] pos) x6:=λGo s σ H Q I h =>
 wpAny_Dict_empty ⟨.ref s.heap.objs.size,_,I.laid (a:=s.heap.objs.size) (o:=.dK []) (t':=s.toks) (λ_ _ q=>JU _ q) (JY _) ⟨Lc _,beq_eq_false_iff_ne.mpr (Lv (Ky I.big)),[],.nil,Heap.DictOf.new s.heap⟩,rfl,h _ (I.hok.fresh (JY _))⟩
def ET(K:JV)(n:Nat)(t:TGs):TG:=λv σ H Q=>∃a xs,v = .ref a/\SqL K H a xs/\xs.length=n/\t xs σ H Q
theorem Cf{k:Nat}{t:TGs}(hc:X.calm=true)(h:PGs X es t)(hl:(La es X.env).length=n:=by rfl)(hst:(La es X.env).findIdx? (·.1)=none:=by rfl):PG X (.Tuple es k pos) (ET X.K n t):=by
 intro Go s σ H v u Q I r q;obtain ⟨a,xs,rfl,hx,J,q⟩:=q;obtain rfl:u=Ko a:=r;obtain ⟨F,z,G,hz⟩:=I.list hx;rw [assign_Tuple];refine we (Ll ?_);unfold unpack;have hs:n=F.toArray.size:=by rw [<- J,z.length];simp
 rw [hl,hst,hs];refine we (Ks (PySem.W.kun_itemsOf (I.ok.hd hc) G.isList λh' ex=>?_));have O:Inv X Go σ H { s with heap:=h' }:=I.kept (t':=s.toks) λb o e=>ex b o (Ky (Kq e)) e;have:=h Go { s with heap:=h' } σ H xs F Q O z q;simpa using this
def aP:Kf->Bool
 | .Starred _ _=>false
 | _=>true
theorem dY(h:aP e=true):Kv (e::es) env=(false,KZ e env)::Kv es env:=by
 cases e<;>first|rfl|(exact absurd (show false=true from h) Ka)
def dF(es:List Kf):Bool:=es.all aP
theorem vM:∀{es:List Kf}(h:dF es=true),(Kv es env).any (·.1)=false
 | [],_=>rfl
 | e::es,h=>by
  unfold dF at h;rw [List.all_cons,KD] at h;rw [dY h.1,Os,vM h.2];rfl
theorem gM(h:dF es=true):(MA pos (Kv es env)).any (·.1)=false:=by
 have q:=vM (env:=env) h;unfold MA;rw [List.any_map];exact q
theorem dM(h:aP e=true):Kv [e] env=[(false,KZ e env)]:=(dY h).trans rfl
theorem za{t:TA}(ha:W (PE X e te))(hr:W (PA X es t))(z:aP e=true:=by rfl):W (PA X (e::es) (g8 te t)):=by refine ⟨?_⟩;have ha:=ha.h;have hr:=hr.h;exact dI ha hr (dY z)
theorem zK{id:String}{r:List V->Hp->VK->Prop}{t:TA}{p pos:Pos}(hc:zI X (.builtin id) r)(O:Gl X x)(hm:X.mg x=none)(hv:Mg x=some (.builtin id))(ha:W (PA X (e::es) t))(G:aP e=true:=by rfl)(z:dF es=true:=by rfl)(J:x≠"__name__":=by decide)(F:(x==("__debug__":Str))=false:=by decide):W (PE X (.Call (.Name x p) (e::es) [] pos) (tCB r t)):=by refine ⟨?_⟩;have ha:=ha.h;exact vQ hc O hm hv ha J F (dY G) (gM z)
theorem az{r:List V->Hp->VK->Prop}{t:TA}{p pos:Pos}(hc:zI X (.type T) r)(O:Gl X x)(hm:X.mg x=none)(hv:Mg x=some (.type T))(ha:W (PA X (e::es) t))(G:aP e=true:=by rfl)(z:dF es=true:=by rfl)(J:x≠"__name__":=by decide)(F:(x==("__debug__":Str))=false:=by decide):W (PE X (.Call (.Name x p) (e::es) [] pos) (tCB r t)):=by refine ⟨?_⟩;have ha:=ha.h;exact G8 hc O hm hv ha J F (dY G) (gM z)
theorem dh{tg a:Kf}{p pos:Pos}(F:Gl X "range")(hm:X.mg "range"=none)(ha:W (PA X [a] ta))(z:aP a=true:=by rfl):W (PIc true X tg (.Call (.Name "range" p) [a] [] pos) (nC ta)):=by refine ⟨?_⟩;have ha:=ha.h;exact Ik F hm ha (dM z)
structure New(H:Hp)(p:Addr)(o:HO)(H':Hp):Prop where
 no:H p=none
 at_:H' p=some o
 same:ze H H'
theorem New.mk'{p:Addr}{o:HO}(h:H p=none):New H p o (upd H p o):=⟨h,zq,λb u e=>by rw [zf (zH e h)];exact e⟩
def rL(t:TA):TE:=λσ H Q=>t σ H λxs H1=>xs.length<=sizeLine/\∀p H2,New H1 p (.lst xs) H2->p≠sysModules->Q (.ref p) H2
theorem aj{t:TA}(h:W (PA X es t)):W (PE X (.List es pos) (rL t)):=by
 refine ⟨?_⟩;have h:=h.h;intro Go s σ H Q I G;refine wpAny_List_spliced (thn (h pos Go s σ H _ I G) λus s1=>x5e λxs H1 F r=>x2e λz q=>⟨by rw [<- r.length];exact z,?_⟩);have hf:H1 s1.heap.objs.size=none:=F.hok.fresh (JY _);refine ⟨.ref s1.heap.objs.size,upd H1 s1.heap.objs.size (.lst xs),F.laid (t':=s1.toks) (λb u e=>JU _ e) (JY _) ?_,rfl,q _ _ (.mk' hf) (N4 F.big)⟩;exact ⟨z,us,0,r,J7 _ rfl⟩
def mB(t:TA):TE:=λσ H Q=>t σ H λxs H1=>xs.length<=sizeLine/\∀p H2,New H1 p (.tup xs) H2->Q (.ref p) H2
theorem rF{t:TA}(hw:∀xs H,R xs H->R' xs H)(h:PA X es t)(pos:Pos)(Go:List (Addr×Obj))(s:JR)(σ:St)(H:Hp)(I:Inv X Go σ H s)(q:t σ H R):
  J3 (J6 X.prog X.w) X.A (spliced (MA pos (Kv es X.env))) (AP X Go σ R') X.xe s :=
 thn (h pos Go s σ H R I q) λ_ _=>x5e λvs H' a b c=>⟨vs,H',a,b,hw _ _ c⟩
theorem dr{t:TA}{x1}(h:W (PA X es t)):W (PE X (.Tuple es x1 pos) (mB t)):=by
 refine ⟨?_⟩;have h:=h.h;have h':PA X es (λσ H Q=>∃R:List V->Hp->Prop,t σ H R/\∀xs H,R xs H->Q xs H):=λpos Go s σ H Q I=>x3e λR q hw=>rF hw h pos Go s σ H I q;intro Go s σ H Q I F;exact BH h' Go s σ H Q I ⟨_,F,λxs H1=>x2e λz q=>⟨z,λp G=>q p _ (.mk' G)⟩⟩
def vS:TE:=λ_ H Q=>∀p H2,New H p (.dK []) H2->Q (.ref p) H2
theorem fe:W (PE X (.Dict [] [] pos) vS):=⟨λGo s σ H Q I h=>C6 Go s σ H Q I λp z=>h p _ (.mk' z)⟩
end
def uR(v:V)(q:Addr->Prop):Prop:=∃a,v = .ref a/\q a
def sQ(to te:TE):TE:=λσ H Q=>to σ H λx H1=>uR x λl=>(∃xs,H1 l=some (.lst xs))/\te σ H1 λy H2=>∃xs,H2 l=some (.lst xs)/\xs.length<sizeLine/\Q .non (upd H2 l (.lst (xs++[y])))
section
variable {X:Cx}
theorem OpR.weak{r r':R2}(h:OpR X f r)(hw:∀x y H Q,r' x y H Q->r x y H Q):OpR X f r' :=
 λGo s σ H x y v u Q I z F q=>h Go s σ H x y v u Q I z F (hw x y H Q q)
theorem zI.weak{r r':List V->Hp->VK->Prop}(h:zI X f r)(hw:∀xs H Q,r' xs H Q->r xs H Q):zI X f r' :=
 λGo s σ H xs us Q I z q=>h Go s σ H xs us Q I z (hw xs H Q q)
theorem IxR.weak{r r':R2}(h:IxR X r)(hw:∀x y H Q,r' x y H Q->r x y H Q):IxR X r' :=
 λZp z Go s σ H x y v u Q I F G q hs=>h Zp z Go s σ H x y v u Q I F G (hw x y H Q q) hs
def cL:R2:=λx y H Q=>(∃i j,x = .int i/\y = .int j/\Q (.int (i+j)) H)\/(∃i j,x = .str i/\y = .str j/\i.length+j.length<=sizeLine/\Q (.str (i++j)) H) \/
 (∃l b xs zs,x = .ref l/\y = .ref b/\H l=some (.lst xs)/\H b=some (.lst zs)/\xs.length+zs.length<=sizeLine/\∀p H2,New H p (.lst (xs++zs)) H2->Q (.ref p) H2)
theorem bg:OpR X (Ly .Add) cL:=EG.or (BG.or (yf.weak λx y H Q h=>by
 obtain ⟨l,b,xs,zs,F,G,h1,h2,O,z⟩:=h;exact ⟨l,b,xs,zs,F,G,h1,h2,O,λp J=>z p _ (.mk' J)⟩))
def dZ:R2:=λx y H Q=>(∃i j,x = .int i/\y = .int j/\fQ i j/\Q (.int (i*j)) H) \/
 (∃l k xs,x = .ref l/\y = .int k/\H l=some (.lst xs)/\-(2 ^ 63)<=k/\k<2 ^ 63/\xs.length*k.toNat<=sizeLine/\∀p H2,New H p (.lst (K2 k.toNat xs).flatten) H2->Q (.ref p) H2)
theorem Bj:OpR X (Ly .Mult) dZ:=Ai.or (DP.weak λx y H Q h=>by
 obtain ⟨l,k,xs,F,G,h1,h2,S,O,z⟩:=h;exact ⟨l,k,xs,F,G,h1,h2,S,O,λp J=>z p _ (.mk' J)⟩)
def uIx:R2:=λx y H Q=>(∃p xs i v,x = .ref p/\y = .int i/\H p=some (.lst xs)/\atI xs i=some v/\Q v H) \/
 (∃p xs i v,x = .ref p/\y = .int i/\H p=some (.tup xs)/\atI xs i=some v/\Q v H)\/(∃z i c,x = .str z/\y = .int i/\z.length<=sizeLine/\atI z.cps.toList i=some c/\Q (.str ⟨#[c]⟩) H)
theorem cu:IxR X uIx:=EF.weak λx y H Q h=>by
 rcases h with ⟨p,xs,i,v,z,F,h,r⟩|⟨p,xs,i,v,z,F,h,r⟩|h
 .exact .inl ⟨p,xs,i,v,z,F,SqL.of h,r⟩
 .exact .inr (.inl ⟨p,xs,i,v,z,F,SqT.of h,r⟩)
 .exact .inr (.inr h)
def i8:List V->Hp->VK->Prop:=λxs H Q=>(∃p ys,xs=[.ref p]/\H p=some (.lst ys)/\Q (.int ys.length) H)\/(∃p ys,xs=[.ref p]/\H p=some (.tup ys)/\Q (.int ys.length) H) \/
 (∃z,xs=[.str z]/\z.length<=sizeLine/\Q (.int z.length) H)
theorem cP:zI X (.builtin "len") i8:=(nR.or B4).weak λxs H Q h=>by
 rcases h with ⟨p,ys,e,h,q⟩|⟨p,ys,e,h,q⟩|h
 .exact .inl ⟨p,ys,e,.inl (SqL.of h),q⟩
 .exact .inl ⟨p,ys,e,.inr (SqT.of h),q⟩
 .exact .inr h
def uEq(neg:Bool):R2:=λx y H Q=>(fg x y=true/\Q (.bl (if neg then !decide (x=y) else decide (x=y))) H) \/
 (∃a b xs ys,x = .ref a/\y = .ref b/\H a=some (.lst xs)/\H b=some (.lst ys)/\xs.all z5=true/\ys.all z5=true/\Q (.bl (if neg then !eqL xs ys else eqL xs ys)) H)
theorem da(G:X.A.units<cLine):OpR X (KG .Eq) (uEq false):=(Bo.or (Cy G)).weak λx y H Q h=>by
 rcases h with h|⟨a,b,xs,ys,z,F,h1,h2,r⟩
 .exact .inl ⟨h.1,by simpa using h.2⟩
 .exact .inr ⟨a,b,xs,ys,z,F,SqL.of h1,SqL.of h2,r⟩
theorem dv(G:X.A.units<cLine):OpR X (KG .NotEq) (uEq true):=(GX.or (pQ G)).weak λx y H Q h=>by
 rcases h with h|⟨a,b,xs,ys,z,F,h1,h2,r⟩
 .exact .inl ⟨h.1,by simpa using h.2⟩
 .exact .inr ⟨a,b,xs,ys,z,F,SqL.of h1,SqL.of h2,r⟩
def sr(K:JV)(ta:TE):TT:=λσ H Q=>ta σ H λx H'=>∃k,fb K x H' k/\Q k H'
theorem bO{a:Kf}(ha:W (PE X a ta))(he:∀z,isTrue a X.env z=(do let v<-z;Mt a.pos;MM [v] (truthy v)):=by intro _;rfl):W (PT X a (sr X.K ta)):=by refine ⟨?_⟩;have ha:=ha.h;exact BO ha he
def nU(C:Addr)(ta:TE)(f:Str):TE:=λσ H Q=>ta σ H λx H1=>∃a dx fs v,x = .ref a/\H1 a=some (.ins C dx fs)/\fs.lookup f=some v/\Q v H1
theorem ag(c:Cls X.K C)(n:bH X.K C f)(he:W (PE X e ta))(hb:KU e f X.env (KZ e X.env)=KZ e X.env:=by rfl):W (PE X (.Attribute e f pos) (nU C ta f)):=by
 refine ⟨?_⟩;have he:=he.h;intro Go s σ H Q I h;refine y8 hb (thn (he Go s σ H _ I h) λu s1=>x5e λx H1 S z G=>?_);obtain ⟨a,dx,fs,v,ex,J,l,q⟩:=G;subst ex;obtain rfl:u=Ko a:=z;exact uO S J c n l λU s2 F O=>⟨v,H1,F,O,q⟩
def nZ(C:Addr)(ta tv:TE)(f:Str):TS:=λD σ H=>tv σ H λy H1=>ta σ H1 λx H2=>∃a dx fs,x = .ref a/\H2 a=some (.ins C dx fs)/\fs.length<1000/\D.nx σ (upd H2 a (.ins C dx (zL f y fs)))
theorem cW{o Zp:Kf}(c:Cls X.K C)(n:bH X.K C f)(ha:W (PE X o ta))(hv:W (PE X Zp tv))(hs:swapsWith Zp (some (.Attribute o f YX)) pos.line X.env=pure false:=by rfl):W (PS X (.Assign [.Attribute o f YX] Zp pos) (nZ C ta tv f)):=by
 refine ⟨?_⟩;have ha:=ha.h;have hv:=hv.h;intro Go s σ H D I h;refine plainObj_wpAny_Assign_Attribute (thn (hv Go s σ H _ I h) λu s1=>x5e λy H1 I1 F q=>thn (ha Go s1 σ H1 _ I1 q) λU s2=>x5e λx H2 G z J=>?_) hs;obtain ⟨a,dx,fs,ex,Z,l,O⟩:=J;subst ex;obtain rfl:U=Ko a:=z;exact sP G Z c n l F λs3 S=>⟨σ,_,S,O⟩
structure GF(P:JZ)(w:Ke)(K:JV)(mg:Str->Option Value)(base:Heap)(cm:Bool)(k:Nat)(x:Str)(ps:List Str)(sp:Sp):Prop where
 ex:∃(f:Addr)(fd:J4),zp P w K mg base CX0 cm k f fd ps sp/\mg x=some (.ref f)/\Oe K (.ref f)=true/\bU K fd ps []
structure GM(P:JZ)(w:Ke)(K:JV)(mg:Str->Option Value)(base:Heap)(cm:Bool)(k:Nat)(C:Addr)(m:Str)(ps:List Str)(sp:Sp):Prop where
 ex:∃(f:Addr)(fd:J4),zp P w K mg base CX0 cm k f fd ps sp/\iX K C m f/\bU K fd ps []
structure GC(P:JZ)(w:Ke)(K:JV)(mg:Str->Option Value)(base:Heap)(cm:Bool)(k:Nat)(x:Str)(C:Addr)(ps:List Str)(sp:Sp):Prop where
 ex:∃(f:Addr)(fd:J4),zp P w K mg base CX0 cm k f fd ps sp/\mg x=some (.ref C)/\Mk K C f/\bU K fd ps []
variable {cm:Bool}{k j:Nat}{x m:Str}{C:Addr}{ps:List Str}{sp:Sp}{e o:Kf}{es:List Kf}{t:TA}{ta:TE}{p pos Z1:Pos}{Ex:Addr->St->Hp->Prop}
theorem zt(G:GF X.prog X.w X.K X.mg X.base cm j x ps sp)(hr:zT cm k X.A)(Z:Gl X x)(ha:W (PA X (e::es) t))(J:j<=k:=by decide)(O:(x==("__debug__":Str))=false:=by decide)(S:aP e=true:=by rfl)(z:dF es=true:=by rfl):W (PE X (.Call (.Name x p) (e::es) [] pos) (fu sp [] E0 t)):=by
 refine ⟨?_⟩;have ha:=ha.h;obtain ⟨f,fd,F,hm,U,hb⟩:=G.ex;exact xt F (hr.mono J) Z hm U hb .nil fk ha O (dY S) (gM z)
theorem aN(he:W (PE X o ta))(c:Cls X.K C)(G:GM X.prog X.w X.K X.mg X.base cm j C m ps sp)(hr:zT cm k X.A)(ha:W (PA X (e::es) t))(S:j<=k:=by decide)(U:aP e=true:=by rfl)(z:dF es=true:=by rfl)(O:KZ (.Call (.Attribute o m Z1) (e::es) [] pos) X.env=(do
   let J<-KZ o X.env
   Mt Z1.atName
   let (f,first)<-MM [J] (N8 J m pl)
   callWith pos f first (MA pos (Kv (e::es) X.env)) (backToKw pos (Nl [] X.env))):=by rfl):W (PE X (.Call (.Attribute o m Z1) (e::es) [] pos) (dX C m sp [] E0 ta t)):=by
 refine ⟨?_⟩;have he:=he.h;have ha:=ha.h;obtain ⟨f,fd,F,hm,hb⟩:=G.ex;exact Et he c hm F (hr.mono S) hb .nil fk ha (dY U) (gM z) O
theorem zO(he:W (PE X o ta))(c:Cls X.K C)(G:GM X.prog X.w X.K X.mg X.base cm j C m ps sp)(hr:zT cm k X.A)(J:j<=k:=by decide)(O:KZ (.Call (.Attribute o m Z1) [] [] pos) X.env=(do
   let z<-KZ o X.env
   Mt Z1.atName
   let (f,first)<-MM [z] (N8 z m pl)
   callWith pos f first (MA pos (Kv [] X.env)) (backToKw pos (Nl [] X.env))):=by rfl):W (PE X (.Call (.Attribute o m Z1) [] [] pos) (dX C m sp [] E0 ta cj)):=by
 refine ⟨?_⟩;have he:=he.h;obtain ⟨f,fd,F,hm,hb⟩:=G.ex;exact Dm he c hm F (hr.mono J) hb .nil fk O
structure k7(H:Hp)(C x dx:Addr)(H':Hp):Prop where
 no:H x=none
 nod:H dx=none
 ne:dx≠x
 at_:H' x=some (.ins C dx [])
 own:H' dx=some (.own x)
 same:ze H H'
theorem k7.mk'{C x dx:Addr}(h:H x=none)(hd:H dx=none)(ne:dx≠x):k7 H C x dx (upd (upd H dx (.own x)) x (.ins C dx [])) :=
 ⟨h,hd,ne,zq,by rw [zf ne,zq],λb u e=>by rw [zf (zH e h),zf (zH e hd)];exact e⟩
def iD(C:Addr)(sp:Sp)(t:TA):TE:=λσ H Q=>t σ H λvs H1=>∀x dx H2,k7 H1 C x dx H2->sp (.ref x::vs) H2 (λv H3=>v = .non/\Q (.ref x) H3) E0
theorem PA.any{es:List Kf}{t:TA}(h:PA X es t):PA X es (λσ H Q=>∃R:List V->Hp->Prop,t σ H R/\∀xs H,R xs H->Q xs H):=λpos Go s σ H Q I=>x3e λR q hw=>rF hw h pos Go s σ H I q
theorem iI(G:GC X.prog X.w X.K X.mg X.base cm j x C ps sp)(hr:zT cm k X.A)(U:Gl X x)(ha:W (PA X (e::es) t))(J:j+1<=k:=by decide)(O:(x==("__debug__":Str))=false:=by decide)(S:aP e=true:=by rfl)(z:dF es=true:=by rfl):W (PE X (.Call (.Name x p) (e::es) [] pos) (iD C sp t)):=by
 refine ⟨?_⟩;have ha:=ha.h;obtain ⟨f,fd,F,hm,M,hb⟩:=G.ex;intro Go s σ H Q I h;exact yr M F (hr.mono J) U hm hb .nil fk ha.any O (dY S) (gM z) Go s σ H Q I ⟨_,h,λvs H1 q x dx hx hd ne=>by rw [MB];exact q x dx _ (.mk' hx hd ne)⟩
theorem fj{pos:Pos}(z:Gl X x)(hm:∃u,X.mg x=some u/\zl v u)(hd:(x==("__debug__":Str))=false:=by decide):W (PE X (.Name x pos) (tC v)):=by
 refine ⟨?_⟩;obtain ⟨u,hm,r⟩:=hm;exact CU z hm r hd
theorem fP{o e:Kf}{to te:TE}{Z1 cpos:Pos}(ho:W (PE X o to))(he:W (PE X e te))
  (Zt:KU o "append" X.env (KZ o X.env)=KZ o X.env:=by rfl)
  (Zs:(Z1.endLine==cpos.line)=true:=by rfl) (hp:aP e=true:=by rfl):W (PE X (.Call (.Attribute o "append" Z1) [e] [] cpos) (sQ to te)):=by
 refine ⟨?_⟩;have ho:=ho.h;have he:=he.h;intro Go s σ H Q I h;have hs:Kv [e] X.env=[(false,KZ e X.env)]:=dM hp;refine LL Zt (by rw [hs];rfl) Zs rfl (thn (ho Go s σ H _ I h) λv s1=>x5e λx H1 I1 U G=>?_);obtain ⟨l,ex,⟨xs,hx⟩,q1⟩:=G;subst ex;obtain ⟨h1,h2⟩:=fU (T:="list") I1 U (.inl ⟨rfl,xs,SqL.of hx⟩);refine ⟨"list","list.append",Nq,PySem.F.slot_list_append,PySem.F.type_list_append,h1,h2,?_⟩;rw [hs];refine Calls.callWith_builtin rfl (Calls.evalArgs_plain ?_);have Z:=dI he dP (hs:=hs) cpos Go s1 σ H1 (λys H2=>bY (λy=>∃xs,H2 l=some (.lst xs)/\xs.length<sizeLine/\Q .non (upd H2 l (.lst (xs++[y])))) ys) I1 q1;rw [hs] at Z;refine thn Z λus s2=>x5e λvs H2 I2 r2 O=>?_;obtain ⟨y,rfl,J,S,z,O⟩:=bY.ex O;exact CT Go s2 σ H2 (.ref l) [y] v us Q I2 U r2 ⟨l,J,y,rfl,rfl,S,z,O⟩
end
section
variable {X:Cx}
def dC:List V->Hp->VK->Prop:=λxs H Q=>(∃i,xs=[.int i]/\Q (.int i) H)\/∃k,xs=[.bl k]/\Q (.int (if k then 1 else 0)) H
theorem EB:zI X (.type "int") dC:=HX
def fz:List V->Hp->VK->Prop:=λxs H Q=>∃i,xs=[.int i]/\i.natAbs.log2<1920/\Q (.str (toString i)) H
theorem AO:zI X (.type "str") fz:=Gu
theorem Ej:dC [.int i] H Q=Q (.int i) H:=by simp [dC]
theorem C9{k:Bool}:dC [.bl k] H Q=Q (.int (if k then 1 else 0)) H:=by simp [dC]
theorem JH:fz [.int i] H Q=(i.natAbs.log2<1920/\Q (.str (toString i)) H):=by simp [fz]
def m9:List V->Hp->VK->Prop:=λxs H Q=>∃i j,xs=[.int i,.int j]/\Q (.int (if j>i then j else i)) H
def pJ:List V->Hp->VK->Prop:=λxs H Q=>∃i j,xs=[.int i,.int j]/\Q (.int (if j<i then j else i)) H
theorem Bx(hc:X.calm=true):zI X (.builtin "max") m9:=B9 hc
theorem Dh(hc:X.calm=true):zI X (.builtin "min") pJ:=Ju hc
theorem pA:m9 [.int i,.int j] H Q=Q (.int (if j>i then j else i)) H:=by
 apply propext;constructor
 .rintro ⟨a,b,e,q⟩;cases e;exact q
 .exact λq=>⟨i,j,rfl,q⟩
theorem xw:pJ [.int i,.int j] H Q=Q (.int (if j<i then j else i)) H:=by
 apply propext;constructor
 .rintro ⟨a,b,e,q⟩;cases e;exact q
 .exact λq=>⟨i,j,rfl,q⟩
end
section
variable {Y:Cx}{sc:Scope}{N':List Str}{Go:List (Addr×Obj)}{D:Addr}{fp:List Addr}{s:JR}{H:Hp}
theorem qU{k:Nat}{t:TGs}(h:PGs (zy Y sc N' Go D fp s H) es t)(hl:(La es (zy Y sc N' Go D fp s H).env).length=n:=by rfl)(hst:(La es (zy Y sc N' Go D fp s H).env).findIdx? (·.1)=none:=by rfl):PG (zy Y sc N' Go D fp s H) (.Tuple es k pos) (jS Y.K n t):=vn h hl hst
end
theorem Hz{t:TG}{r:List V}:fO t u (v::r) σ H Q=t v σ H λz H'=>u r z H' Q:=by
 apply propext;constructor
 .rintro ⟨v,r,e,h⟩;cases e;exact h
 .exact λh=>⟨v,r,rfl,h⟩
theorem yE:mh [] σ H Q=Q σ H:=by
 apply propext;constructor
 .exact λh=>h.2
 .exact λh=>⟨rfl,h⟩
section
variable {H:Hp}{Q:VK}{i j:Int}{x y:Str}{a b:Addr}{K:JV}{g:Int->Int->V}{C:Int->Int->Prop}{k c:Bool}{QB:Bool->Hp->Prop}
theorem rJ:cL (.int i) (.int j) H Q=Q (.int (i+j)) H:=by simp [cL]
theorem q5:cL (.str x) (.str y) H Q=(x.length+y.length<=sizeLine/\Q (.str (x++y)) H):=by simp [cL]
theorem iq:cL (.ref a) (.ref b) H Q = ∃xs zs,H a=some (.lst xs)/\H b=some (.lst zs)/\xs.length+zs.length<=sizeLine/\∀p H2,New H p (.lst (xs++zs)) H2->Q (.ref p) H2:=by simp [cL]
theorem pG:dZ (.int i) (.int j) H Q=(fQ i j/\Q (.int (i*j)) H):=by simp [dZ]
theorem HD:dZ (.ref a) (.int i) H Q = ∃xs,H a=some (.lst xs)/\-(2 ^ 63)<=i/\i<2 ^ 63/\xs.length*i.toNat<=sizeLine/\∀p H2,New H p (.lst (K2 i.toNat xs).flatten) H2->Q (.ref p) H2:=by simp [dZ]
theorem gE:uIx (.ref a) (.int i) H Q = ∃xs,(H a=some (.lst xs)\/H a=some (.tup xs))/\∃v,atI xs i=some v/\Q v H:=by
 apply propext;constructor
 .rintro (⟨p,xs,i,v,F,G,h,r⟩|⟨p,xs,i,v,F,G,h,r⟩|⟨z,i,c,e,_⟩)
  .cases F;cases G;exact ⟨xs,.inl h,v,r⟩
  .cases F;cases G;exact ⟨xs,.inr h,v,r⟩
  .cases e
 .rintro ⟨xs,h|h,v,r⟩
  .exact .inl ⟨_,xs,_,v,rfl,rfl,h,r⟩
  .exact .inr (.inl ⟨_,xs,_,v,rfl,rfl,h,r⟩)
theorem oz:uIx (.str x) (.int i) H Q=(x.length<=sizeLine/\∃c,atI x.cps.toList i=some c/\Q (.str ⟨#[c]⟩) H):=by simp [uIx]
theorem jL:i8 [.ref a] H Q = ∃ys,(H a=some (.lst ys)\/H a=some (.tup ys))/\Q (.int ys.length) H:=by
 apply propext;constructor
 .rintro (⟨p,xs,F,h,r⟩|⟨p,xs,F,h,r⟩|⟨z,e,_⟩)
  .cases F;exact ⟨xs,.inl h,r⟩
  .cases F;exact ⟨xs,.inr h,r⟩
  .cases e
 .rintro ⟨xs,h|h,r⟩
  .exact .inl ⟨_,xs,rfl,h,r⟩
  .exact .inr (.inl ⟨_,xs,rfl,h,r⟩)
theorem wX:i8 [.str x] H Q=(x.length<=sizeLine/\Q (.int x.length) H):=by simp [i8]
theorem Eu:rI C g (.int i) (.int j) H Q=(C i j/\Q (g i j) H):=by simp [rI]
theorem vO:rI0 g (.int i) (.int j) H Q=Q (g i j) H:=by simp [rI0]
theorem Ay{g:Int->V}:rU g (.int i) H Q=Q (g i) H:=by simp [rU]
theorem wB:uEq c (.int i) (.int j) H Q=Q (.bl (if c then !decide (i=j) else decide (i=j))) H:=by simp [uEq,fg]
theorem pU:uEq c (.str x) (.str y) H Q=Q (.bl (if c then !decide (x=y) else decide (x=y))) H:=by simp [uEq,fg]
theorem wc:uEq c (.bl k) (.bl k') H Q=Q (.bl (if c then !decide (k=k') else decide (k=k'))) H:=by simp [uEq,fg]
theorem tN:uEq c (.ref a) (.ref b) H Q = ∃xs ys,H a=some (.lst xs)/\H b=some (.lst ys)/\xs.all z5=true/\ys.all z5=true/\Q (.bl (if c then !eqL xs ys else eqL xs ys)) H:=by simp [uEq,fg]
def eV(K:JV)(v:V)(H:Hp)(Q:Bool->Hp->Prop):Prop:=∃k,fb K v H k/\Q k H
theorem IB:eV K (.bl k) H QB=QB k H:=by simp [eV,fb]
theorem xr:eV K .non H QB=QB false H:=by simp [eV,fb]
theorem Ei:eV K (.int i) H QB=QB (i != 0) H:=by simp [eV,fb]
theorem JN:sr K ta σ H QB=ta σ H λx H'=>eV K x H' QB:=rfl
def uB(v:V)(q:Bool->Prop):Prop:=∃c,v = .bl c/\q c
theorem xQ:uB (.bl k) q=q k:=by simp [uB]
theorem Jd{t:TE}:jC t σ H QB=t σ H λx H1=>uB x λc=>QB c H1:=rfl
theorem Fw{t u:TE}:rO t u σ H Q=t σ H λx H1=>uB x λc=>if c=true then u σ H1 Q else Q (.bl false) H1:=rfl
theorem xo{t u:TE}:pD t u σ H Q=t σ H λx H1=>uB x λc=>if c=true then Q (.bl true) H1 else u σ H1 Q:=rfl
theorem ES{t:TE}:pZ t σ H Q=t σ H λx H1=>uB x λc=>Q (.bl (!c)) H1:=rfl
theorem IF{r r':R2}:wV r r' ta tb tc σ H Q=ta σ H λx H1=>tb σ H1 λy H2=>r x y H2 λz H3=>uB z λk=>if k=true then tc σ H3 λw' H4=>r' y w' H4 Q else Q (.bl false) H3:=rfl
theorem xp:uR (.ref a) q=q a:=by simp [uR]
theorem Jy{C:Addr}:nU C ta f σ H Q=ta σ H λx H1=>uR x λa=>∃dx fs v,H1 a=some (.ins C dx fs)/\fs.lookup f=some v/\Q v H1:=by
 unfold nU uR;congr;funext x H1;apply propext;constructor
 .rintro ⟨a,dx,fs,v,h1,h2,z,F⟩;exact ⟨a,h1,dx,fs,v,h2,z,F⟩
 .rintro ⟨a,h1,dx,fs,v,h2,z,F⟩;exact ⟨a,dx,fs,v,h1,h2,z,F⟩
theorem Hn{C:Addr}:nZ C ta tv f D σ H=tv σ H λy H1=>ta σ H1 λx H2=>uR x λa=>∃dx fs,H2 a=some (.ins C dx fs)/\fs.length<1000/\D.nx σ (upd H2 a (.ins C dx (zL f y fs))):=by
 unfold nZ uR;congr;funext x H1;congr;funext x2 H2;apply propext;constructor
 .rintro ⟨a,dx,fs,h1,h2,z,F⟩;exact ⟨a,h1,dx,fs,h2,z,F⟩
 .rintro ⟨a,h1,dx,fs,h2,z,F⟩;exact ⟨a,dx,fs,h1,h2,z,F⟩
theorem Hd{C:Addr}{t:TA}:dX C m sp YJ E ta t σ H Q=ta σ H λx H1=>uR x λa=>∃dx fs,H1 a=some (.ins C dx fs)/\fs.lookup m=none/\t σ H1 λvs H2=>sp (.ref a::(vs++YJ)) H2 Q E:=by
 unfold dX uR;congr;funext x H1;apply propext;constructor
 .rintro ⟨a,dx,fs,rfl,h2,z,F⟩;exact ⟨a,rfl,dx,fs,h2,z,F⟩
 .rintro ⟨a,rfl,dx,fs,h2,z,F⟩;exact ⟨a,dx,fs,rfl,h2,z,F⟩
end
section
variable {K:JV}{g:TG}{tb:TS}{D:aR}{σ:St}{H:Hp}{ta:TA}{tl:TE}{wi:TI}{R:It->Hp->Prop}{j:Int}{tt:TT}{te:TE}{ix:List (Option Nat)}{Q:VK}
def aa(J:It)(g:TG)(tb:TS)(D:aR)(σ:St)(H:Hp):Prop:=∃W:Nat->Nat->St->Hp->Prop,(∃m,W 0 m σ H)/\∀i m σ H,W i m σ H ->
 (J.stop i H/\D.nx σ H)\/(J.go i H/\∃N:St->Hp->Prop,(∀z H',N z H'->∃G,G<m/\W (i+1) G z H')/\∀x H',J.Px i H x H'->g x σ H' λF H2=>tb { D with nx:=N,ct:=N,bk:=D.nx } F H2)
theorem Bp:vY wi g tb D σ H=wi σ H λJ H1=>aa J g tb D σ H1:=rfl
def uI1(vs:List V)(q:Int->Prop):Prop:=∃j,vs=[.int j]/\q j
theorem As:uI1 [.int j] q=q j:=by simp [uI1]
theorem DE:nC ta σ H R=ta σ H λvs H1=>uI1 vs λj=>-(2 ^ 62)<=j/\j<2 ^ 62/\R (Itr 0 j.toNat) H1:=rfl
theorem yN:pe K tl σ H R=tl σ H λx H1=>uR x λa=>(∃xs,SqL K H1 a xs)/\R (Itl K a) H1:=rfl
theorem xx:gB K tl σ H R=tl σ H λx H1=>uR x λa=>(∃xs,SqT K H1 a xs)/\R (Itt K a) H1:=rfl
def ak(J:It)(g:TG)(tt:TT)(te:TE)(G:St)(H:Hp)(Q:VK):Prop:=∃W:Nat->Nat->St->List V->Hp->Prop,(∃m,W 0 m G [] H)/\∀i m G ys H2,W i m G ys H2->ys.length<sizeLine /\
 ((J.stop i H2 ∧ ∀ D, H2 D = none → D ≠ sysModules → Q (.ref D) (upd H2 D (.lst ys))) ∨
  (J.go i H2 ∧ ∀ x H3, J.Px i H2 x H3 → g x G H3 fun z H4 => tt z H4 fun ok H5 => if ok = true then te z H5 fun y H6 => ∃ F, F < m ∧ W (i + 1) F z (ys ++ [y]) H6 else ∃ F, F < m ∧ W (i + 1) F z ys H5))
theorem EM:tLC ix wi g tt te σ H Q=wi σ H λJ H1=>ak J g tt te (bK ix σ) H1 Q:=rfl
theorem aa.rng{lo:Int}(z:Nat->St->Hp->Prop)(G:z 0 σ H)(hs:∀i σ H,i<n->z i σ H->g (.int (lo+i)) σ H λF H2=>tb { D with nx:=z (i+1),ct:=z (i+1),bk:=D.nx } F H2)(hd:∀σ H,z n σ H->D.nx σ H):aa (Itr lo n) g tb D σ H:=yQ z G hs hd
theorem aa.lst{a:Addr}{xs:List V}(z:Nat->St->Hp->Prop)(G:z 0 σ H)(hl:∀i σ H,i<=xs.length->z i σ H->SqL K H a xs)
  (hs:∀i x σ H,xs[i]?=some x->z i σ H->g x σ H λF H2=>tb { D with nx:=z (i+1),ct:=z (i+1),bk:=D.nx } F H2) (hd:∀σ H,z xs.length σ H->D.nx σ H):aa (Itl K a) g tb D σ H:=yS z G hl hs hd
def dB(N:St->List V->Hp->Prop)(ys:List V)(z:St)(te:TE)(ok:Bool)(H5:Hp):Prop:=if ok=true then te z H5 λy H6=>N z (ys++[y]) H6 else N z ys H5
theorem yw:dB N ys z te true H=te z H λy H6=>N z (ys++[y]) H6:=rfl
theorem AW:dB N ys z te false H=N z ys H:=rfl
theorem ak.rng{lo:Int}(G:Nat->St->List V->Hp->Prop)(hz:∀i z ys H,G i z ys H->ys.length<sizeLine)(S:G 0 z [] H)(hs:∀(N:St->List V->Hp->Prop) i z ys H,i<n->G i z ys H->(∀z ys H,G (i+1) z ys H->N z ys H)->g (.int (lo+i)) z H λF H4=>tt F H4 λok H5=>dB N ys F te ok H5)(hd:∀z ys H,G n z ys H->∀D H',New H D (.lst ys) H'->Q (.ref D) H'):ak (Itr lo n) g tt te z H Q:=by
 refine ⟨λi m z ys H=>m=n-i/\i<=n/\G i z ys H,⟨n,by simp,Lc _,S⟩,?_⟩;rintro i m z ys H2 ⟨rfl,hi,p⟩;refine ⟨hz i z ys H2 p,?_⟩;by_cases J:i<n
 .refine .inr ⟨J,λx H' y=>?_⟩;obtain ⟨e,y⟩:=y;subst e y;exact hs (λF ys H=>∃O,O<n-i/\O=n-(i+1)/\i+1<=n/\G (i+1) F ys H) i z ys _ J p λF zs H q=>⟨n-(i+1),by lia,rfl,J,q⟩
 .have e:i=n:=by lia
  subst e;exact .inl ⟨JY _,λD U _=>hd z ys H2 p D _ (.mk' U)⟩
end
section
variable {X:Cx}
def jV:V->Option Int->Option Int->Hp->VK->Prop:=λx lo hi H Q=>∃z,x = .str z/\z.length<=sizeLine/\Q (.str (Txt.slice z lo hi)) H
theorem GV{h:Heap}{lo hi:Option Int}(hs:h.IsSliceOf sl F J .none)(pl:NH F lo)(G:NH J hi):∃l u:Option (Int×Tok),h.IsSlice sl l u none/\l.map (·.1)=lo/\u.map (·.1)=hi:=by
 obtain ⟨o,h1,h2,z⟩:=hs;cases pl with
 | none =>
  cases G with
  | none=>exact ⟨none,none,⟨o,h1,h2,z⟩,rfl,rfl⟩
  | int j t=>exact ⟨none,some (j,t),⟨o,h1,h2,z⟩,rfl,rfl⟩
 | int i t' =>
  cases G with
  | none=>exact ⟨some (i,t'),none,⟨o,h1,h2,z⟩,rfl,rfl⟩
  | int j t=>exact ⟨some (i,t'),some (j,t),⟨o,h1,h2,z⟩,rfl,rfl⟩
theorem Gr:SlR X jV:=by
 intro Go s σ H x v W Z lo hi sl Q I G hs pl J h;obtain ⟨z,rfl,hz,q⟩:=h;obtain ⟨t,rfl⟩:=G;obtain ⟨l,u,O,S,U⟩:=GV hs pl J;subst S U;exact ⟨"str",_,F.slot_str_getitem.lookup,Nb _ _ _,wpAny_getItem_str_slice (l:=l) (u:=u) (st:=none) O rfl
  (post_val_or_str ⟨Kp (Txt.slice_le z _ _) hz,λt' k=>⟨.str _,H,I.tok k,⟨_,rfl⟩,q⟩⟩)⟩
def uSl:V->Option Int->Option Int->Hp->VK->Prop:=λx lo hi H Q=>(∃a xs,x = .ref a/\H a=some (.lst xs)/\∀p H2,New H p (.lst (aQ xs lo hi)) H2->Q (.ref p) H2)\/jV x lo hi H Q
theorem SlR.weak{r r':V->Option Int->Option Int->Hp->VK->Prop}(h:SlR X r)(hw:∀x l u H Q,r' x l u H Q->r x l u H Q):SlR X r' :=
 λGo s σ H x v z J lo hi sl Q I F hs pl G q=>h Go s σ H x v z J lo hi sl Q I F hs pl G (hw _ _ _ _ _ q)
theorem fM:SlR X uSl:=((Hj (X:=X)).or Gr).weak λx l u H Q h=>by
 rcases h with ⟨a,xs,e,h,q⟩|h
 .exact .inl ⟨a,xs,e,SqL.of h,λp z=>q p _ (.mk' z)⟩
 .exact .inr h
def o3(v:V)(q:Int->Prop):Prop:=∃i,v = .int i/\q i
theorem Ci:o3 (.int i) q=q i:=by simp [o3]
theorem G4{t:TE}:sG t σ H Q=t σ H λx H1=>o3 x λi=>Q (some i) H1:=rfl
theorem rD{lo hi:Option Int}:uSl (.str z) lo hi H Q=(z.length<=sizeLine/\Q (.str (Txt.slice z lo hi)) H):=by simp [uSl,jV]
theorem uQ{a:Addr}{lo hi:Option Int}:uSl (.ref a) lo hi H Q = ∃xs,H a=some (.lst xs)/\∀p H2,New H p (.lst (aQ xs lo hi)) H2->Q (.ref p) H2:=by simp [uSl,jV]
theorem x5:∀{us:List Value},zm (ys.map V.str) us->StrsAre us ys:=by
 induction ys with
 | nil=>intro us r;rw [map_nil] at r;cases r;exact .nil
 | cons n ns F =>
  intro us r;rw [Li] at r;cases r with
  | cons z G =>
   obtain ⟨t,e⟩:=z;subst e;exact .cons n t (F G)
def jT:V->List V->Hp->VK->Prop:=λx vs H Q=>∃z p ys,x = .str z/\vs=[.ref p]/\H p=some (.lst (ys.map V.str))/\(ys.map (·.length)).sum+ys.length*z.length<=16777216/\Q (.str (Txt.join z ys)) H
theorem IL:MtR X "str.join" jT:=by
 intro Go s σ H x xs v us Q I J S h;obtain ⟨z,p,ys,rfl,rfl,O,hz,q⟩:=h;obtain ⟨t,rfl⟩:=J;cases S with
 | cons F U =>
  cases U;cases (show _=Ko p from F);obtain ⟨W,r,G,_⟩:=I.list (SqL.of (K:=X.K) O);exact join_list G.isList (by simpa using x5 r) hz λt' k=>⟨.str _,H,I.tok k,⟨_,rfl⟩,q⟩
def gT(z:Str)(n:Nat):Str:=⟨((K2 n z.cps.toList).flatten).toArray⟩
theorem rN{α:Type}(l:List α):∀(n:Nat)(ZQ:List α),foldl (λz F:Array α=>z++F) ZQ.toArray (K2 n l.toArray)=(ZQ++(K2 n l).flatten).toArray
 | 0,ZQ=>by simp
 | n+1,ZQ=>by
  rw [LQ,Oh,List.append_toArray,rN l n (ZQ++l)];simp [LQ]
theorem Jq(z:Str)(n:Nat):(⟨(K2 n z.cps).foldl (·++·) #[]⟩:Str)=gT z n:=by
 have h:=rN z.cps.toList n [];unfold gT;congr 1
theorem gD{α:Type}(l:List α):∀n:Nat,((K2 n l).flatten).length=l.length*n
 | 0=>by simp
 | n+1=>by rw [LQ,MF,KB,gD l n,Nat.mul_succ];lia
theorem Ap(z:Str)(n:Nat):(gT z n).length=z.length*n:=by
 show (((K2 n z.cps.toList).flatten).toArray).size=_;rw [J8,gD];rfl
def g7:R2:=λx y H Q=>∃z n,x = .str z/\y = .int n/\1<n/\n<2 ^ 31/\z.length≠0/\z.length*n.toNat<=sizeLine/\Q (.str (gT z n.toNat)) H
theorem FK:OpR X (Ly .Mult) g7:=by
 intro Go s σ H x y v u Q I G J h;obtain ⟨z,n,rfl,rfl,h1,h2,O,S,q⟩:=h;obtain ⟨t,rfl⟩:=G;obtain ⟨t',rfl⟩:=J;have hs:sizeLine=16777216:=K8;have hc:(n==1||z.length==0)=false:=by
  rw [Bool.or_eq_false_iff];exact ⟨beq_eq_false_iff_ne.mpr (by lia),beq_eq_false_iff_ne.mpr O⟩
 have hz:z.length<=16777216:=by
  have:z.length*1<=z.length*n.toNat:=Nat.mul_le_mul_left _ (by lia);lia
 refine PySem.P.mul_str ?_ ?_ ?_ ?_
 .rw [decide_eq_false (show ¬ n < -(2 ^ 63:Int) by lia),decide_eq_false (show ¬ n ≥ 2 ^ 63 by lia)];rfl
 .intro _ _ F;have:(16777216:Int)<=(2 ^ 63-1) / n:=Int.le_ediv_of_mul_le (by lia) (by lia);lia
 .intro _ _;exact decide_eq_false (by lia)
 .rw [if_neg (show ¬ n<1 by lia),if_neg (by rw [hc];exact Ka),Jq];exact ⟨by rw [Ap];lia,⟨.str _,H,I.tok _,⟨_,rfl⟩,q⟩⟩
theorem tK{p:Addr}{k:Int}:nS (.ref p) (.int k) v H Q = ∃xs j,H p=some (.lst xs)/\ixN xs.length k=some j/\Q (upd H p (.lst (xs.set j v))):=by
 apply propext;constructor
 .rintro ⟨G,xs,k',j,z,F,h⟩;cases z;cases F;exact ⟨xs,j,h⟩
 .rintro ⟨xs,j,h⟩;exact ⟨p,xs,k,j,rfl,rfl,h⟩
def sO:List V->Hp->VK->Prop:=λxs H Q=>∃p ys,xs=[.ref p]/\(H p=some (.lst ys)\/H p=some (.tup ys))/\∀l H2,New H l (.lst ys) H2->Q (.ref l) H2
theorem xn:zI X (.type "list") sO:=GG.weak λxs H Q h=>by
 obtain ⟨p,ys,e,h1,q⟩:=h;exact ⟨p,ys,e,h1.elim (λh=>.inl (SqL.of h)) (λh=>.inr (SqT.of h)),λl hl=>q l _ (.mk' hl)⟩
theorem Jf{a:Addr}:sO [.ref a] H Q = ∃ys,(H a=some (.lst ys)\/H a=some (.tup ys))/\∀l H2,New H l (.lst ys) H2->Q (.ref l) H2:=by
 apply propext;constructor
 .rintro ⟨p,ys,e,h⟩;cases e;exact ⟨ys,h⟩
 .rintro ⟨ys,h⟩;exact ⟨a,ys,rfl,h⟩
def rM(to:TE):TE:=λσ H Q=>to σ H λx H1=>uR x λl=>∃xs,H1 l=some (.lst xs)/\Q .non (upd H1 l (.lst []))
theorem JD{o:Kf}{to:TE}(ho:W (PE X o to))(J:KU o "clear" X.env (KZ o X.env)=KZ o X.env:=by rfl)(S:(Z1.endLine==cpos.line)=true:=by rfl):W (PE X (.Call (.Attribute o "clear" Z1) [] [] cpos) (rM to)):=by
 refine ⟨?_⟩;have ho:=ho.h;intro Go s σ H Q I h;refine MP J S (thn (ho Go s σ H _ I h) λv s1=>x5e λx H1 G z O=>?_);obtain ⟨l,ex,xs,hx,q1⟩:=O;subst ex;obtain ⟨h1,h2⟩:=fU (T:="list") G z (.inl ⟨rfl,xs,SqL.of hx⟩);exact ⟨"list","list.clear",Nq,PySem.F.slot_list_clear,PySem.F.type_list_clear,h1,h2,Calls.callWith_builtin rfl (Nt (Du Go s1 σ H1 (.ref l) [] v [] Q G z .nil ⟨l,xs,rfl,rfl,hx,q1⟩))⟩
theorem jY{p:Addr}:jT (.str z) [.ref p] H Q = ∃ys:List Str,H p=some (.lst (ys.map V.str))/\(ys.map (·.length)).sum+ys.length*z.length<=16777216/\Q (.str (Txt.join z ys)) H:=by
 apply propext;constructor
 .rintro ⟨J,O,ys,F,G,h⟩;cases F;cases G;exact ⟨ys,h⟩
 .rintro ⟨ys,h⟩;exact ⟨z,p,ys,rfl,rfl,h⟩
end
section
variable {K:JV}{g:TG}{tb:TS}{D:aR}{σ:St}{H:Hp}{ta:TA}{R:It->Hp->Prop}
def uR1(vs:List V)(q:Addr->Prop):Prop:=∃a,vs=[.ref a]/\q a
theorem dw{a:Addr}:uR1 [.ref a] q=q a:=by
 apply propext;constructor
 .rintro ⟨c,e,h⟩;cases e;exact h
 .exact λh=>⟨a,rfl,h⟩
end
section
variable {X:Cx}
def vU(C:Addr)(ta tv:TE)(G:V->V->Hp->VK->Prop)(f:Str):TS:=λD σ H=>ta σ H λx H1=>uR x λa=>∃dx fs v,H1 a=some (.ins C dx fs)/\fs.lookup f=some v /\
 tv σ H1 λy H2=>G v y H2 λz H3=>∃F fs',H3 a=some (.ins C F fs')/\fs'.length<1000/\D.nx σ (upd H3 a (.ins C F (zL f z fs')))
theorem EV{o Zp:Kf}(c:Cls X.K C)(n:bH X.K C f)(ha:W (PE X o ta))(hv:W (PE X Zp tv))(G:uI X J O):W (PS X (.AugAssign (.Attribute o f Xu) J Zp pos) (vU C ta tv O f)):=by
 refine ⟨?_⟩;have ha:=ha.h;have hv:=hv.h;intro Go s σ H D I h;refine wpAny_AugAssign_AttributeAny (thn (ha Go s σ H _ I h) λov s1=>x5e λx H1 I1 rx S=>?_);obtain ⟨a,ex,dx,fs,v,Z,l,q⟩:=S;subst ex;obtain rfl:ov=Ko a:=rx;refine uO I1 Z c n l λu s2 I2 ru=>thn (hv Go s2 σ H1 _ I2 q) λw3 s3=>x5e λy H2 I3 ry q3=>thn (G Go s3 σ H2 v y u w3 _ I3 ru ry q3) λw4 s4=>x5e λz H3 I4 rz XI=>?_;obtain ⟨XX,fs',F,l',q4⟩:=XI;exact sP I4 F c n l' rz λs5 U=>⟨σ,_,U,q4⟩
theorem DR:ma (.int i) (.int j) H Q=Q (.int (i+j)) H:=by simp [ma]
theorem Bu{k j:Nat}{p pos:Pos}(G:GF X.prog X.w X.K X.mg X.base cm j x ps sp)(hr:zT cm k X.A)(S:Gl X x)(z:j<=k:=by decide)(J:(x==("__debug__":Str))=false:=by decide):W (PE X (.Call (.Name x p) [] [] pos) (fu sp [] E0 cj)):=by
 refine ⟨?_⟩;obtain ⟨f,fd,F,hm,O,hb⟩:=G.ex;exact xG F (hr.mono z) S hm O hb .nil fk J
def c8(neg:Bool):R2:=λx y H Q=>y = .non/\Q (.bl (if neg then !decide (x = .non) else decide (x = .non))) H
theorem Fx:OpR X (KG .Is) (c8 false):=yo.weak λx y H Q h=>⟨h.1,by simpa using h.2⟩
theorem IH:OpR X (KG .IsNot) (c8 true):=CL.weak λx y H Q h=>⟨h.1,by simpa using h.2⟩
theorem CD:c8 c .non .non H Q=Q (.bl (if c then false else true)) H:=by simp [c8]
theorem Bi:c8 c (.int i) .non H Q=Q (.bl (if c then true else false)) H:=by simp [c8]
def eX:R2:=λx y H Q=>dZ x y H Q\/g7 x y H Q
theorem gp:OpR X (Ly .Mult) eX:=Bj.or FK
theorem xq:eX (.int i) (.int j) H Q=(fQ i j/\Q (.int (i*j)) H):=by simp [eX,pG,g7]
theorem Jx{a:Addr}:eX (.ref a) (.int i) H Q=dZ (.ref a) (.int i) H Q:=by simp [eX,g7]
theorem AA:eX (.str z) (.int i) H Q=(1<i/\i<2 ^ 31/\z.length≠0/\z.length*i.toNat<=sizeLine/\Q (.str (gT z i.toNat)) H):=by
 simp [eX,dZ,g7]
def uS(v:V)(q:Str->Prop):Prop:=∃z,v = .str z/\q z
theorem oF:uS (.str z) q=q z:=by simp [uS]
def qz(to te:TE):TE:=λσ H Q=>to σ H λx H1=>uS x λz=>te σ H1 λy H2=>jT (.str z) [y] H2 Q
theorem iR{o e:Kf}{to te:TE}(ho:W (PE X o to))(he:W (PE X e te))(Z:KU o "join" X.env (KZ o X.env)=KZ o X.env:=by rfl)(Zs:(Z1.endLine==cpos.line)=true:=by rfl)(hp:aP e=true:=by rfl):W (PE X (.Call (.Attribute o "join" Z1) [e] [] cpos) (qz to te)):=by
 refine ⟨?_⟩;have ho:=ho.h;have he:=he.h;intro Go s σ H Q I h;have hs:Kv [e] X.env=[(false,KZ e X.env)]:=dM hp;refine LL Z (by rw [hs];rfl) Zs rfl (thn (ho Go s σ H _ I h) λv s1=>x5e λx H1 U O G=>?_);obtain ⟨z,ex,q1⟩:=G;subst ex;obtain ⟨h1,h2⟩:=fU (T:="str") U O rfl;refine ⟨"str","str.join",PySem.F.plainAttrs_str,PySem.F.slot_str_join,PySem.F.type_str_join,h1,h2,?_⟩;rw [hs];refine Calls.callWith_builtin rfl (Calls.evalArgs_plain ?_);have S:=dI he dP (hs:=hs) cpos Go s1 σ H1 (λys H2=>bY (λy=>jT (.str z) [y] H2 Q) ys) U q1;rw [hs] at S;refine thn S λus s2=>x5e λvs H2 I2 r2 J=>?_;obtain ⟨y,rfl,J⟩:=bY.ex J;exact IL Go s2 σ H2 (.str z) [y] v us Q I2 O r2 J
end
section
variable {K:JV}{g:TG}{tb:TS}{D:aR}{σ:St}{H:Hp}{ta:TA}{tl:TE}{wi:TI}{R:It->Hp->Prop}{j:Int}{tt:TT}{te:TE}{ix:List (Option Nat)}{Q:VK}
theorem ak.lst{a:Addr}{xs:List V}{z:St}(G:Nat->St->List V->Hp->Prop)(hz:∀i z ys H,G i z ys H->ys.length<sizeLine)(ha:∀i z ys H,G i z ys H->SqL K H a xs)(S:G 0 z [] H)
  (hs:∀(N:St->List V->Hp->Prop) i x z ys H,xs[i]?=some x->G i z ys H->(∀z ys H,G (i+1) z ys H->N z ys H)->g x z H λF H4=>tt F H4 λok H5=>dB N ys F te ok H5) (hd:∀z ys H,G xs.length z ys H->∀D H',New H D (.lst ys) H'->Q (.ref D) H'):ak (Itl K a) g tt te z H Q:=by
 refine ⟨λi m z ys H=>m=xs.length-i/\i<=xs.length/\G i z ys H,⟨xs.length,by simp,Lc _,S⟩,?_⟩;rintro i m z ys H2 ⟨rfl,hi,p⟩;refine ⟨hz i z ys H2 p,?_⟩;have q:=ha i z ys H2 p;by_cases O:i<xs.length
 .refine .inr ⟨⟨xs,xs[i],q,by simp [O]⟩,λx H' y=>?_⟩;obtain ⟨e,y⟩:=y;subst e;exact hs (λF ys H=>∃J,J<xs.length-i/\J=xs.length-(i+1)/\i+1<=xs.length/\G (i+1) F ys H) i x z ys _ (y xs q) p λF zs H q=>⟨xs.length-(i+1),by lia,rfl,O,q⟩
 .have e:i=xs.length:=by lia
  subst e;exact .inl ⟨⟨xs,q,JY _⟩,λD U _=>hd z ys H2 p D _ (.mk' U)⟩
end
section
variable {X:Cx}
theorem z9  : W (PSs X [] kE):=⟨su ⟩
theorem zh{st:Stmt}{ZL:List Stmt}{t:TS}(h1:W (PS X st t))(h2:W (PSs X ZL u)):W (PSs X (st::ZL) (mR t u)):=⟨vc (h1:=h1.h) (h2:=h2.h)⟩
theorem zi{st:Stmt}{t:TS}(h1:W (PS X st t)):W (PSs X [st] t):=⟨mx (h1:=h1.h)⟩
theorem zA(he:W (PE X e te)):W (PS X (.Return (some e) pos) (oO te)):=⟨nK (he:=he.h)⟩
theorem zW{t:TS}{a b:List Stmt}(hc:W (PT X c tc))(ha:W (PSs X a t))(hb:W (PSs X b u)):W (PS X (.If c a b pos) (nQ tc t u)):=⟨wb (hc:=hc.h) (ha:=ha.h) (hb:=hb.h)⟩
theorem zd  : W (PA X [] cj):=⟨dP ⟩
theorem ah{a:Kf}{b:Kf}{r:R2}(ho:OpR X (KG z) r)(ha:W (PE X a ta))(hb:W (PE X b tb))(hm:Nh z b=false):W (PT X (.Compare a [z] [b] pos) (jC (tOp r ta tb))):=⟨wG (ho:=ho) (ha:=ha.h) (hb:=hb.h) (hm:=hm)⟩
theorem zb(i:Nat)(hN:X.N[i]?=some x:=by rfl)(hv:Vis X.env.scope x:=by first|exact J5 rfl|exact MJ (J5 rfl)|exact MJ (MJ rfl))(hd:(x==("__debug__":Str))=false:=by decide)(hcd:(x==("__classdict__":Str))=false:=by decide):W (PE X (.Name x pos) (di i)):=⟨pv (i:=i) (hN:=hN) (hv:=hv) (hd:=hd) (hcd:=hcd)⟩
theorem zo{i j pos}:W (PE X (.Constant (.int i) j pos) (tC (.int i))):=⟨nD ⟩
theorem zQ{a:Kf}{b:Kf}{r:R2}(hr:IxR X r)(ha:W (PE X a ta))(hb:W (PE X b tb))(hs:sM b):W (PE X (.Subscript a b pos) (tOp r ta tb)):=⟨u7 (hr:=hr) (ha:=ha.h) (hb:=hb.h) (hs:=hs)⟩
theorem zD(hN:X.N.Nodup)(hi:X.N[i]?=some x)(hx:Loc X.env.scope x)(hf:X.fn x=true\/X.env.scope.names.lookup x=some .local:=by first|exact .inl rfl|exact .inr rfl|assumption):W (PG X (.Name x pos) (bN i)):=⟨tS (hN:=hN) (hi:=hi) (hx:=hx) (hf:=hf)⟩
theorem jn{X:Cx}{k:Nat}{t:TGs}(h:W (PGs X es t))(hl:(La es X.env).length=n:=by rfl)(hst:(La es X.env).findIdx? (·.1)=none:=by rfl):W (PG X (.Tuple es k pos) (jS X.K n t)):=⟨vn (h:=h.h) (hl:=hl) (hst:=hst)⟩
theorem pB{k:Nat}{t:TGs}(h:W (PGs (zy Y sc N' Go D fp s H) es t))(hl:(La es (zy Y sc N' Go D fp s H).env).length=n:=by rfl)(hst:(La es (zy Y sc N' Go D fp s H).env).findIdx? (·.1)=none:=by rfl):W (PG (zy Y sc N' Go D fp s H) (.Tuple es k pos) (jS Y.K n t)):=⟨qU (h:=h.h) (hl:=hl) (hst:=hst)⟩
theorem Hy(hl:W (PE X l tl)):W (PI X tg l (gB X.K tl)):=⟨tG (hl:=hl.h)⟩
theorem dQ{t:TT}(h:W (PW X e t)):W (PT X e t):=⟨PW.pt h.h⟩
end
def asc(z:Str):Bool:=z.cps.all (· < 128)
def Its(z:Str):It:=⟨λi _=>i<z.cps.size,λi H x H'=>H'=H/\∃c,z.cps[i]?=some c/\x = .str ⟨#[c]⟩,λi _=>z.cps.size<=i⟩
theorem xI{P:JZ}{w:Ke}{K:JV}{tg:Kf}(z:Str)(it:Addr):dq true P w K tg (Its z) [it] it (λi h=>∃t,h.IsStrIter it "str_ascii_iterator" z t i) where
 mem:=by simp
 obj:=λi h st b hb=>by
  have e:b=it:=by simpa using hb
  subst e;obtain ⟨t,o,e,c,d⟩:=st;exact ⟨o,e,λv z=>by rw [d] at z;cases z⟩
 keep:=λi h h' st k=>by
  obtain ⟨t,o,e,r⟩:=st;exact ⟨t,o,k it (by simp) o e,r⟩
 item:=by
  intro X J hw W hc i Go s σ H E I hf st Z;subst J hw W;obtain ⟨t,st⟩:=st;obtain ⟨S,G,f2,U,O,F⟩:=hf it (by simp);have hi:i<z.cps.size:=Z;refine wpAny_pyNext_ascii_item st (c:=z.cps[i]) (by simp [hi]) λh' YC sb=>?_;have I1:Inv X Go σ H { s with heap:=h',toks:=s.toks+1 }:=I.turned (λb o hb e=>(sb.2 b hb).trans e) S G U O F;obtain ⟨o,e,c,d⟩:=id YC;exact ⟨_,rfl,fK (s:={ s with heap:=h',toks:=s.toks+1 }) e c d (by decide) ⟨.str ⟨#[z.cps[i]]⟩,H,I1,⟨_,rfl⟩,⟨rfl,_,by simp [hi],rfl⟩,⟨t,YC⟩,λb hb=>(hf b hb).1⟩⟩
 done:=by
  intro X J hw W hc i Go s σ H E I hf st Z;subst J hw W;obtain ⟨t,st⟩:=st;obtain ⟨S,G,f2,U,O,F⟩:=hf it (by simp);have hi:z.cps.size<=i:=Z;exact wpAny_pyNext_ascii_end (I.ok.hd (hc rfl)) st (by simp [hi]) λh' eb=>⟨rfl,I.turned (t':=s.toks) (λb o hb e=>eb b o hb e) S G U O F⟩
 self:=λ_ _ _ _ _ st h=>by
  obtain ⟨t,st⟩:=st;exact wpAny_pyIter_striter_ascii st h
section
variable {X:Cx}{tg:Kf}
def v3(tl:TE):TI:=λσ H R=>tl σ H λx H1=>uS x λz=>asc z=true/\R (Its z) H1
theorem yW:v3 tl σ H R=tl σ H λx H1=>uS x λz=>asc z=true/\R (Its z) H1:=rfl
theorem AY(hl:W (PE X l tl)):W (PIc true X tg l (v3 tl)):=by
 refine ⟨?_⟩;have hl:=hl.h;intro Go s σ H R I h;refine thn (hl Go s σ H _ I h) λv s1=>x5e λx H1 F G q1=>?_;obtain ⟨z,e,ha,q⟩:=q1;subst e;obtain ⟨t,rfl⟩:=G;refine wpAny_pyIter_ascii ha ?_;refine ⟨s1.heap.objs.size,[s1.heap.objs.size],_,_,H1,rfl,F.kept (t':=s1.toks) λb o e=>JU _ e,xI z _,⟨t,_,J7 _ rfl,rfl,rfl⟩,λb hb=>?_,q⟩;have e:b=s1.heap.objs.size:=by simpa using hb
 subst e;exact F.Oz (JY _) (F.hok.fresh (JY _))
end
theorem Draws.later{prog:JZ}{w:Ke}{A:Kk}{it:Addr}{fp:List Addr}{n k:Nat}{P:Nat->Value->Prop}{St:Nat->Heap->Prop}(D:Draws prog w A it fp n P St) :
  Draws prog w A it fp (n+k) (λi v=>P (i-k) v) (λi h=>k<=i/\St (i-k) h) where
 live:=λ_ _ st=>D.live _ _ st.2
 frame:=λ_ _ _ st F=>⟨st.1,D.frame _ _ _ st.2 F⟩
 item:=λi s Q E hi st G=>D.item (i-k) s Q E (by have:=st.1;lia) st.2 λx h' tk p z J=>G x h' tk p ⟨by have:=st.1;lia,by
  have e:i+1-k=i-k+1:=by have:=st.1;lia
  rw [e];exact z⟩ J
 done:=λs Q E st O=>D.done s Q E (by
  have e:n+k-k=n:=by lia
  have:=st.2;rwa [e] at this) O
def eA(z:Str)(k:Nat):It :=
 ⟨λi _=>i<z.cps.size,λi H v H'=>∃T c,H T=none/\v = .ref T/\z.cps[i]?=some c/\H'=upd H T (.tup [.int ((i:Nat)+k:Nat),.str ⟨#[c]⟩]),λi _=>i=z.cps.size⟩
structure ID(e it:Addr)(z:Str)(k i:Nat)(h:Heap):Prop where
 en:∃old,IsEnum h e it ((i+k:Nat):Int) old
 a:∃t,h.IsStrIter it "str_ascii_iterator" z t i
theorem pH{P:JZ}{w:Ke}{K:JV}{Ys:List Kf}{kk:Nat}{tp:Pos}{z:Str}{k:Nat}{e it:Addr}(U:e≠it) :
  dq true P w K (.Tuple Ys kk tp) (eA z k) [e,it] e (ID e it z k) where
 mem:=by simp
 obj:=λi h st b hb=>by
  obtain ⟨⟨old,G⟩,⟨t,o4,F,_,d4⟩⟩:=st;simp only [J1,Kh,or_false] at hb;rcases hb with rfl|rfl
  .exact ⟨_,G,λv q=>nomatch q⟩
  .exact ⟨_,F,λv q=>by rw [d4] at q;cases q⟩
 keep:=λi h h' st k=>by
  obtain ⟨⟨old,G⟩,⟨t,o,F,r⟩⟩:=st;exact ⟨⟨old,k _ (by simp) _ G⟩,t,o,k _ (by simp) o F,r⟩
 item:=by
  intro X hP hw hK hc i Go s σ H E I hf st hg;subst hP hw hK;obtain ⟨⟨old,G⟩,⟨t,F⟩⟩:=st;have hi:i<z.cps.size:=hg;have S:=I.ok.hd (hc rfl);have D:=Draws.later (k:=k) (Draws.strAscii (prog:=X.prog) (w:=X.w) (A:=X.A.in1) S it z t);refine wpAny_pyNext_enum_itemD D G (i:=i+k) ⟨by lia,by rw [Nat.add_sub_cancel];exact F⟩ (by lia) U (by simpa using U) λx h' tk px b1 W b3 b4 b5=>?_;obtain ⟨c,u,ab,rfl⟩:=px;rw [Nat.add_sub_cancel] at ab;refine ⟨_,rfl,wpAny_letOwnedTupleGo_enum (s:={ s with heap:=h',toks:=tk+1 }) b1 λh2 c1 c2=>?_⟩;have av:e<s.heap.objs.size:=Kq G;have nz:s.heap.objs.size≠e:=N4 av;have all:∀c o,c≠e->c≠it->s.heap.get? c=some o->h2.get? c=some o:=λc o n1 n2 q=>c2.extBut c o n1 (b5 c o n1 n2 q);have tT:h2.get? s.heap.objs.size=some { cls:=.type "tuple",data:=.seq #[.int ((i+k:Nat):Int) tk,.str ⟨#[c]⟩ u] }:=c2.extBut _ _ nz b3;have Xn:H s.heap.objs.size=none:=I.hok.fresh (JY _);have Z:HOk X.prog X.w H h2:=λb u O=>by
   refine (I.hok b u O).Oy (λc v hc q=>?_) (λ_ q=>q) λ_ _ q=>q;have J:∀d∈[e,it],c≠d:=λd hd w=>by
    have fd:=(hf d hd).1;rcases hc with k|k
    .rw [k] at w;rw [w,fd] at O;cases O
    .rw [w,fd] at k;cases k
   exact all c v (J e (by simp)) (J it (by simp)) q
  have aI:∀b o,s.heap.get? b=some o->b≠s.heap.objs.size:=λb o e=>Ky (Kq e);have I2:Inv X Go σ (upd H s.heap.objs.size (.tup [.int ((i+k:Nat):Int),.str ⟨#[c]⟩])) { s with heap:=h2,toks:=tk+1 }:=by
   refine I.step (g':=s.gens) (d':=s.drawn) (t':=tk+1) (ch:=[e,it]) (λb hb=>?_) (λb o _ _ hb q _=>?_) (λb o _ _ hb q _=>?_) (λb o _ q n=>?_) (λb o hb q=>?_) (λb ps q=>?_) (λb o u q=>?_) (λb ps q=>?_) (λm hm=>?_) (Z.add Xn ?_) I.bare
   .obtain ⟨f0,f1,f2,f3,f4,f5⟩:=hf b hb;exact ⟨f3,f1,f4,f5⟩
   .simp only [J1,Kh,or_false,not_or] at hb;exact all b o hb.1 hb.2 q
   .simp only [J1,Kh,or_false,not_or] at hb;exact ⟨o.slots,all b o hb.1 hb.2 q⟩
   .rw [zf (aI b o q)];exact n
   .simp only [J1,Kh,or_false,not_or] at hb;exact ⟨o,all b o hb.1 hb.2 q⟩
   .rw [zf (zH q Xn)];exact q
   .rw [zf (zH q Xn)];exact q
   .exact ⟨#[],by rw [zf (zH q Xn),q];simp⟩
   .obtain ⟨o,es,ep,ho,r⟩:=hm;exact ⟨o,es,ep,all _ o (Lv (hf e (by simp)).2.1) (Lv (hf it (by simp)).2.1) ho,r⟩
   .exact ⟨by show 2<=sizeLine;decide,[.int ((i+k:Nat):Int) tk,.str ⟨#[c]⟩ u],.cons ⟨_,rfl⟩ (.cons ⟨_,rfl⟩ .nil),⟨_,tT,rfl,_,rfl⟩⟩
  refine ⟨.ref s.heap.objs.size,_,I2,rfl,⟨_,c,Xn,rfl,ab,rfl⟩,?_,λb hb=>?_⟩
  .obtain ⟨_,W⟩:=W;have e1:i+k+1-k=i+1:=by lia
   rw [e1] at W;obtain ⟨o,W,r⟩:=W;have e3:((i+1+k:Nat):Int)=((i+k:Nat):Int)+1:=by lia
   refine ⟨?_,t,o,c2.extBut _ _ (Lv U) W,r⟩;rw [e3];exact ⟨_,c1⟩
  .have ne:b≠s.heap.objs.size:=λq=>by
    have:b<s.heap.objs.size:=by
     simp only [J1,Kh,or_false] at hb;obtain ⟨o4,F,_⟩:=F;rcases hb with rfl|rfl
     .exact av
     .exact Kq F
    exact absurd (q ▸ this) (K4 _)
   rw [zf ne];exact (hf b hb).1
 done:=by
  intro X hP hw hK hc i Go s σ H E I hf st hg;subst hP hw hK;obtain ⟨⟨old,G⟩,⟨t,F⟩⟩:=st;have hi:i=z.cps.size:=hg;have S:=I.ok.hd (hc rfl);have D:=Draws.strAscii (prog:=X.prog) (w:=X.w) (A:=X.A.in1) S it z t;rw [hi] at F;refine wpAny_pyNext_enum_endD D G F λh' up=>⟨rfl,?_⟩;refine I.step (g':=s.gens) (d':=s.drawn) (t':=s.toks) (ch:=[it]) (λb hb=>?_) (λb o _ _ hb q _=>?_) (λb o _ _ hb q _=>?_) (λ_ _ _ _ n=>n) (λb o hb q=>?_) (λ_ _ q=>q) (λ_ _ _ q=>q) (λb ps q=>⟨#[],by rw [q];simp⟩) (λm hm=>?_) (λb u O=>?_) I.bare
  .have a0:b∈[e,it]:=by simp only [J1,Kh,or_false] at hb ⊢;exact .inr hb
   obtain ⟨f0,f1,f2,f3,f4,f5⟩:=hf b a0;exact ⟨f3,f1,f4,f5⟩
  .simp only [J1,Kh,or_false] at hb;exact up b o hb q
  .simp only [J1,Kh,or_false] at hb;exact ⟨o.slots,up b o hb q⟩
  .simp only [J1,Kh,or_false] at hb;exact ⟨o,up b o hb q⟩
  .obtain ⟨o,es,ep,ho,r⟩:=hm;exact ⟨o,es,ep,up _ o (Lv (hf it (by simp)).2.1) ho,r⟩
  .refine (I.hok b u O).Oy (λc v hc q=>?_) (λ_ q=>q) λ_ _ q=>q;have J:c≠it:=λw=>by
    have fd:=(hf it (by simp)).1;rcases hc with k|k
    .rw [k] at w;rw [w,fd] at O;cases O
    .rw [w,fd] at k;cases k
   exact up c v J q
 self:=λ_ _ _ _ _ st h=>by
  obtain ⟨old,G⟩:=st.en;exact NO G h
section
variable {prog:JZ}{w:Ke}{A:Kk}{E:Value->JR->Prop}{s:JR}
theorem HP(a b:Value):checkTypeCall "enumerate" ⟨[a],[(JW "start",b)]⟩=pure ():=by kernel_rfl
theorem yM(a b:Value):Nf "enumerate.__new__" ⟨[.type "enumerate",a],[(JW "start",b)]⟩=pure ():=by kernel_rfl
theorem Il(o a b:Value):NV "object.__init__" ⟨[o,a],[(JW "start",b)]⟩:=by
 unfold NV;kernel_rfl
theorem Fj (x : Str) (t u : Tok) : Meets (Kb.«enumerate.__new__» ⟨[.type "enumerate", .str x t], [(JW "start", .int 1 u)]⟩) (fun _ R s =>
      R (.ok (.ret (.ref (s.heap.push { cls := .type (Mx x), data := .fields #[.str x t, .int 0 0] }).objs.size)))
        { s with heap := (s.heap.push { cls := .type (Mx x), data := .fields #[.str x t, .int 0 0] }).push { cls := .type "enumerate", data := .fields #[.none, .bool false, .ref s.heap.objs.size, Me 1, .none, .none] } }) :=
 .of_wp λprog w A R s h=>by
  obtain ⟨F,g,d,tk,os⟩:=s;have z:=sub_enumerate
  wp_walk
  refine wpAny_stack_any λst=>JT ?_;split
  .rename_i c _ _ _ _ _;cases (c==type "enumerate")
   .wp_walk using NN
    exact ⟨_,rfl,h⟩
   .wp_walk using NN
    exact ⟨_,rfl,h⟩
  .wp_walk using NN
   exact ⟨_,rfl,h⟩
theorem E6{self a:Value}(hl:typeLookup (.type T) WE=pure (some (.builtin "object.__init__")))(hm:Bind.madeBy (.type T)=pure (some z))(F:(some z != some "object.__new__")=true):Meets (Kb.«object.__init__» ⟨[self,a],kws⟩) (λ_ R s=>s.TypeIs self T/\R (.ok (.ret .none)) s):=by
 refine Meets.of_wp λprog w A R s=>x2e λJ G=>?_
 repeat (any_goals (first|assumption|wp_step))
 exact ⟨_,rfl,G⟩
theorem Gq{a:Value}(z:TypeCalled T O "object.__init__")(ab:(some O != some "object.__new__")=true)(a0:checkTypeCall T ⟨[a],kws⟩=pure ())(Z:Nf O ⟨[.type T,a],kws⟩=pure ())(hok:∀obj,NV "object.__init__" ⟨[obj,a],kws⟩)(G:entryFor table O=some Bn)(g:Meets (Bn ⟨[.type T,a],kws⟩) S)(h:S A.in1 (wants (λobj s₁=>s₁.TypeIs obj T/\Q obj s₁) E) s):J3 (J6 prog w) A (call (.type T) [a] kws) Q E s:=by
 obtain ⟨c,tl,aI⟩:=z.mro;have W:=z.made;have av:=z.sub;refine wpAny_call (A:=A) (codeAny_of_tree (A:=A) ?_);show J3 (J6 prog w) _ (callAny (.type T) _) _ _ _;refine JT ⟨Code.quiet_builtin _ (f!""),Mm (A:=A) F.entry_type_call ?_⟩;rw [Kk.under_plain (weight_type_call_type T [a] kws) (units_type_call_type T [a] kws)];have k1:=z.notType;have k2:=z.canCreate
 repeat (any_goals (first|assumption|wp_step))
 refine LW (Nn z.plain G (wpAny_of_eq Z (g prog w A.in1 _ s h))) λr s1 hr=>?_;cases r with
 | error e=>exact hr
 | ok fl =>
  cases fl with
  | ret obj =>
   have a4:=z.init.lookup;have a3:=z.init.bind obj;have hT:=hr.1
   repeat (any_goals (first|assumption|wp_step))
   refine LW (Nn z.init.plain F.entry_object_init (z.init.check _ _ _ _ _ _ _ _ hr.1 (hok obj) (E6 z.init.lookup z.made ab prog w A.in1 (wants (λr s2=>r = .none/\Q obj s2) E) s1 ⟨hr.1,rfl,hr.2⟩))) λr2 s2 J=>?_;cases r2 with
   | error e=>exact J
   | ok U =>
    cases U with
    | ret r =>
     obtain ⟨rfl,hq⟩:=J
     repeat (any_goals (first|assumption|wp_step))
    | _=>exact J.elim
  | _=>exact hr.elim
theorem HY{t u:Tok}(h:∀h',IsEnum h' (s.heap.objs.size+1) s.heap.objs.size 1 .none->h'.IsStrIter s.heap.objs.size (Mx x) x t 0->h'.objs.size=s.heap.objs.size+2->(∀b o,s.heap.get? b=some o->h'.get? b=some o)->Q (.ref (s.heap.objs.size+1)) { s with heap:=h' }):
  J3 (J6 prog w) A (call (.type "enumerate") [.str x t] [(JW "start",.int 1 u)]) Q E s:=by
 refine Gq F.called_enumerate (by decide) (HP _ _) (yM _ _) (λobj=>Il obj _ _) F.entry_enumerate_new (Fj x t u) ?_;have hz:(s.heap.push { cls:=.type (Mx x),data:=.fields #[.str x t,.int 0 0] }).objs.size=s.heap.objs.size+1:=L7 ..;show _/\_;rw [hz];have he:IsEnum ((s.heap.push { cls:=.type (Mx x),data:=.fields #[.str x t,.int 0 0] }).push { cls:=.type "enumerate",data:=.fields #[.none,.bool false,.ref s.heap.objs.size,Me 1,.none,.none] }) (s.heap.objs.size+1) s.heap.objs.size 1 .none:=by
  have q:=J7 (s.heap.push { cls:=.type (Mx x),data:=.fields #[.str x t,.int 0 0] }) (o:={ cls:=.type "enumerate",data:=.fields #[.none,.bool false,.ref s.heap.objs.size,Me 1,.none,.none] }) rfl;rw [hz] at q;exact q
 exact ⟨⟨_,he,rfl⟩,h _ he ⟨_,JU _ (J7 _ rfl),rfl,rfl⟩ (by rw [L7,hz]) λb o y=>JU _ (JU _ y)⟩
theorem CS(z:args.any (·.1)=false)(F:G.any (·.1.isNone)=false)(h:J3 M A (evalArgs (.type T) true args G) (λa s1=>J3 M A (call (.type T) a.pos a.kw) Q E s1) E s):J3 M A (callWith pos (.type T) [] args G) Q E s:=by
 unfold callWith;refine we (Ks (KJ h (λa s1 h1=>we (Ll ?_)) λ_ _ x=>x));simp only [z,F,NZ];exact we (JT (we (KJ h1 (λr s2 hr=>we (Ks (wpAny_point (JT hr)))) λ_ _ x=>x)))
end
section
variable {X:Cx}
def ll(k:Nat)(ta:TE):TI:=λσ H R=>ta σ H λx H1=>uS x λz=>asc z=true/\R (eA z k) H1
theorem Ax{k:Nat}:ll k ta σ H R=ta σ H λx H1=>uS x λz=>asc z=true/\R (eA z k) H1:=rfl
theorem vW(h:asc z=true):Mx z="str_ascii_iterator":=by
 unfold Mx;rw [show z.cps.all (· < 128)=true from h];rfl
theorem Bh{tp p pos:Pos}{a:Kf}(hg:Gl X "enumerate")(hm:X.mg "enumerate"=none)(ha:W (PE X a ta))(hp:aP a=true:=by rfl):W (PIc true X (.Tuple U kk tp) (.Call (.Name "enumerate" p) [a] [] pos) (ll 0 ta)):=by
 refine ⟨?_⟩;have ha:=ha.h;intro Go s σ H R I h;have hs:Kv [a] X.env=[(false,KZ a X.env)]:=dM hp;have S:=dI ha dP (hs:=hs) pos Go s σ H (λys H2=>bY (λy=>uS y λz=>asc z=true/\R (eA z 0) H2) ys) I h;refine Call_ (fH I hg hm boot_enumerate (Mu (thn S λus s1=>x5e λvs H1 F O q1=>?_) hs rfl));obtain ⟨y,rfl,z,Z,hz,q⟩:=bY.ex q1;subst Z;cases O with
 | cons r rr =>
  cases rr;obtain ⟨t,rfl⟩:=r;refine call_enumerate_str λh' J G a6 a7=>NO (s:={ s1 with heap:=h' }) J ?_;rw [vW hz] at G;refine ⟨_,_,_,_,H1,rfl,F.kept (t':=s1.toks) a7,pH (Nat.succ_ne_self _),⟨⟨_,J⟩,t,G⟩,λb hb=>?_,q⟩;have le:s1.heap.objs.size<=b:=by
   simp only [J1,Kh,or_false] at hb;rcases hb with rfl|rfl<;>lia
  exact F.Oz le (F.hok.fresh le)
theorem HW{tp p pos kp cp:Pos}{a:Kf}(hg:Gl X "enumerate")(hm:X.mg "enumerate"=none)(ha:W (PE X a ta))(hp:aP a=true:=by rfl):W (PIc true X (.Tuple Ys kk tp) (.Call (.Name "enumerate" p) [a] [⟨some (JW "start"),.Constant (.int 1) j cp,kp⟩] pos) (ll 1 ta)):=by
 refine ⟨?_⟩;have ha:=ha.h;intro Go s σ H R I h;have hs:Kv [a] X.env=[(false,KZ a X.env)]:=dM hp;have O:=dI ha dP (hs:=hs) pos Go s σ H (λys H2=>bY (λy=>uS y λz=>asc z=true/\R (eA z 1) H2) ys) I h;refine Lz (fH I hg hm boot_enumerate (CS (by rw [hs];rfl) rfl ?_));rw [hs] at O ⊢;refine evalArgs_kwB rfl (thn O λus s1=>x5e λvs H1 I1 Z q1=>kws_cons (thn (nD Go s1 σ H1 (λv H=>v = .int 1/\H=H1) I1 ⟨rfl,rfl⟩) λw2 s2=>x5e λy2 H2 F r2 YH=>kws_nil ?_));obtain ⟨G,J⟩:=YH;subst G J;obtain ⟨t2,rfl⟩:=r2;obtain ⟨y,rfl,z,ey,hz,q⟩:=bY.ex q1;subst ey;cases Z with
 | cons r rr =>
  cases rr;obtain ⟨t,rfl⟩:=r;refine HY (s:=s2) λh' U S a6 a7=>NO (s:={ s2 with heap:=h' }) U ?_;rw [vW hz] at S;refine ⟨_,_,_,_,H2,rfl,F.kept (t':=s2.toks) a7,pH (Nat.succ_ne_self _),⟨⟨_,U⟩,t,S⟩,λb hb=>?_,q⟩;have le:s2.heap.objs.size<=b:=by
   simp only [J1,Kh,or_false] at hb;rcases hb with rfl|rfl
   .exact NQ _
   .exact JY _
  exact F.Oz le (F.hok.fresh le)
end
section
variable {K:JV}{g:TG}{tb:TS}{D:aR}{σ:St}{H:Hp}{tt:TT}{te:TE}{Q:VK}
theorem aa.PK{k:Nat}(F:Nat->St->Hp->Prop)(S:F 0 σ H)(hs:∀i c p σ H,z.cps[i]?=some c->F i σ H->H p=none->g (.ref p) σ (upd H p (.tup [.int ((i+k:Nat):Int),.str ⟨#[c]⟩])) λG H2=>tb { D with nx:=F (i+1),ct:=F (i+1),bk:=D.nx } G H2)(hd:∀σ H,F z.cps.size σ H->D.nx σ H):aa (eA z k) g tb D σ H:=by
 refine ⟨λi m σ H=>m=z.cps.size-i/\i<=z.cps.size/\F i σ H,⟨z.cps.size,by simp,Lc _,S⟩,?_⟩;rintro i m σ H ⟨rfl,hi,p⟩;by_cases J:i<z.cps.size
 .refine .inr ⟨J,F (i+1),λW H' O=>⟨z.cps.size-(i+1),by lia,rfl,J,O⟩,λx H' y=>?_⟩;obtain ⟨T,c,U,rfl,hc,rfl⟩:=y;exact hs i c T σ _ hc p U
 .have e:i=z.cps.size:=by lia
  subst e;exact .inl ⟨rfl,hd σ H p⟩
theorem ak.str(J:Nat->St->List V->Hp->Prop)(hz:∀i F ys H,J i F ys H->ys.length<sizeLine)(U:J 0 F [] H)(hs:∀(N:St->List V->Hp->Prop) i c F ys H,z.cps[i]?=some c->J i F ys H->(∀F ys H,J (i+1) F ys H->N F ys H)->g (.str ⟨#[c]⟩) F H λG H4=>tt G H4 λok H5=>dB N ys G te ok H5)(hd:∀F ys H,J z.cps.size F ys H->∀D H',New H D (.lst ys) H'->Q (.ref D) H'):ak (Its z) g tt te F H Q:=by
 refine ⟨λi m F ys H=>m=z.cps.size-i/\i<=z.cps.size/\J i F ys H,⟨z.cps.size,by simp,Lc _,U⟩,?_⟩;rintro i m F ys H2 ⟨rfl,hi,p⟩;refine ⟨hz i F ys H2 p,?_⟩;by_cases S:i<z.cps.size
 .refine .inr ⟨S,λx H' y=>?_⟩;obtain ⟨e,c,hc,rfl⟩:=y;subst e;exact hs (λG ys H=>∃O,O<z.cps.size-i/\O=z.cps.size-(i+1)/\i+1<=z.cps.size/\J (i+1) G ys H) i c F ys _ hc p λG zs H q=>⟨z.cps.size-(i+1),by lia,rfl,S,q⟩
 .have e:i=z.cps.size:=by lia
  subst e;exact .inl ⟨JY _,λD W _=>hd F ys H2 p D _ (.mk' W)⟩
end
section
variable {X:Cx}
def uf:List V->Hp->VK->Prop:=λxs H Q=>uR1 xs λp=>∃bs:List Bool,H p=some (.lst (bs.map V.bl))/\Q (.bl (bs.all id)) H
theorem yJ{bs:List Bool}:∀{us:List Value},zm (bs.map V.bl) us->us=bs.map Mi:=by
 induction bs with
 | nil=>intro us r;rw [map_nil] at r;cases r;rfl
 | cons b bs F =>
  intro us r;rw [Li] at r;cases r with
  | cons z G=>rw [show _=Mi b from z,F G];rfl
theorem BK(hc:X.calm=true):zI X (.builtin "all") uf:=by
 intro Go s σ H xs us Q I r h;obtain ⟨p,rfl,bs,U,q⟩:=h;cases r with
 | cons G W =>
  cases W;cases (show _=Ko p from G);obtain ⟨Z7,J,pl,_⟩:=I.list (SqL.of (K:=X.K) U);have e:=yJ J;subst e;have F:p≠s.heap.objs.size:=by obtain ⟨o,e,_⟩:=pl.isList;exact Ky (Kq e)
  refine call_all_walk (MU pl.isList ?_);have hl:∀k:Nat,k=bs.length->(KR k).all (λi=>bs.getD i true)=bs.all id:=by
   intro k e;subst e;rw [Mo,KW,KW];constructor
   .intro h x hx;obtain ⟨i,hi,rfl⟩:=LD hx;have:=h i (N5.mpr hi);rw [Kj,JQ hi] at this;exact this
   .intro h i hi;have hi:=N5.mp hi;rw [Kj,JQ hi];exact h _ (Lk hi)
  refine ⟨s.heap.objs.size,_,_,_,_,_,λi=>bs.getD i true,rfl,Walks.list (prog:=X.prog) (w:=X.w) (A:=X.A.in1) (show X.A.in1.handled=none from I.ok.hd hc) s.heap.objs.size p F (bs.map Mi).toArray,⟨⟨_,J7 _ rfl,rfl,rfl⟩,pl.isList.push _⟩,?_,λh' tk kp=>?_⟩
  .intro i v s2 O Z hv z;have hv:(bs.map Mi)[i]?=some v:=by simpa using hv
   rw [Kd] at hv;cases e:bs[i]? with
   | none=>rw [e] at hv;cases hv
   | some b =>
    rw [e] at hv;cases hv;have S:bs.getD i true=b:=by rw [Kj,e];rfl
    have z:O (bs.getD i true) s2:=z;rw [S] at z;exact JT z
  .refine ⟨.bl _,H,I.kept (t':=tk) λb o e=>kp b o ?_ (JU _ e),rfl,?_⟩
   .simpa using Ky (Kq e)
   .rw [hl _ (by simp)];exact q
theorem Gc{p:Addr}:uf [.ref p] H Q = ∃bs:List Bool,H p=some (.lst (bs.map V.bl))/\Q (.bl (bs.all id)) H:=dw
def uIn:R2:=λx y H Q=>(∃i j,x = .str i/\y = .str j/\Q (.bl (!(Kb.Str.occurrences j i 0 j.length 1).isEmpty)) H)\/∃p xs,y = .ref p/\(H p=some (.lst xs)\/H p=some (.tup xs))/\z5 x=true/\xs.all z5=true/\Q (.bl (inV x xs)) H
theorem Ir(G:X.A.units<cLine):OpR X (KG .In) uIn:=(Ij.or yF).weak λx y H Q h=>by
 rcases h with h|⟨p,xs,e,h,F,z,q⟩
 .exact .inl h
 .exact .inr ⟨p,xs,e,h.elim (λh=>.inl (SqL.of h)) (λh=>.inr (SqT.of h)),F,z,by simpa using q⟩
theorem Av:uIn (.str x) (.str y) H Q=Q (.bl (!(Kb.Str.occurrences y x 0 y.length 1).isEmpty)) H:=by simp [uIn]
theorem Hs{p:Addr}:uIn x (.ref p) H Q = ∃xs,(H p=some (.lst xs)\/H p=some (.tup xs))/\z5 x=true/\xs.all z5=true/\Q (.bl (inV x xs)) H:=by simp [uIn]
def uM1(to te:TE)(r:Str->V->Hp->VK->Prop):TE:=λσ H Q=>to σ H λx H1=>uS x λz=>te σ H1 λy H2=>r z y H2 Q
theorem HM{to te:TE}{r:Str->V->Hp->VK->Prop}:uM1 to te r σ H Q=to σ H λx H1=>uS x λz=>te σ H1 λy H2=>r z y H2 Q:=rfl
theorem sR{o e:Kf}{to te:TE}{id:String}{r:Str->V->Hp->VK->Prop}(G:Slot "str" m id)(O:typeOf (.builtin id)=pure (.type "method_descriptor"))(hr:∀(Go:List (Addr×Obj))(s:JR)(σ:St)(H:Hp)(z:Str)(y:V)(t:Tok)(v:Value)(Q:VK),Inv X Go σ H s->zl y v->r z y H Q->J3 (J6 X.prog X.w) X.A (call (.builtin id) [.str z t,v]) (λu s1=>∃x H',Inv X Go σ H' s1/\zl x u/\Q x H') X.xe s)(ho:PE X o to)(he:PE X e te)(Z:KU o m X.env (KZ o X.env)=KZ o X.env:=by rfl)(Zs:(Z1.endLine==cpos.line)=true:=by rfl)(hp:aP e=true:=by rfl):
  PE X (.Call (.Attribute o m Z1) [e] [] cpos) (uM1 to te r):=by
 intro Go s σ H Q I h;have hs:Kv [e] X.env=[(false,KZ e X.env)]:=dM hp;refine LL Z (by rw [hs];rfl) Zs rfl (thn (ho Go s σ H _ I h) λv s1=>x5e λx H1 W S YH=>?_);obtain ⟨z,ex,q1⟩:=YH;subst ex;obtain ⟨h1,h2⟩:=fU (T:="str") W S rfl;refine ⟨"str",id,PySem.F.plainAttrs_str,G,O,h1,h2,?_⟩;rw [hs];refine Calls.callWith_builtin rfl (Calls.evalArgs_plain ?_);have U:=dI he dP (hs:=hs) cpos Go s1 σ H1 (λys H2=>bY (λy=>r z y H2 Q) ys) W q1;rw [hs] at U;refine thn U λus s2=>x5e λvs H2 I2 r2 J=>?_;obtain ⟨t,rfl⟩:=S;obtain ⟨y,rfl,J⟩:=bY.ex J;obtain ⟨_,rfl,ry⟩:=zm.one r2;exact hr Go s2 σ H2 z y t _ Q I2 ry J
def tV:Str->V->Hp->VK->Prop:=λz y H Q=>uS y λq=>Q (.int (MN z q)) H
theorem Fi{o e:Kf}{to te:TE}(ho:W (PE X o to))(he:W (PE X e te))(G:KU o "rfind" X.env (KZ o X.env)=KZ o X.env:=by rfl)(S:(Z1.endLine==cpos.line)=true:=by rfl)(J:aP e=true:=by rfl):W (PE X (.Call (.Attribute o "rfind" Z1) [e] [] cpos) (uM1 to te tV)):=by
 refine ⟨?_⟩;have ho:=ho.h;have he:=he.h;exact
  sR PySem.F.slot_str_rfind PySem.F.type_str_rfind (λGo s σ H z y t v Q I O q=>by
   obtain ⟨w,rfl,q⟩:=q;obtain ⟨u,rfl⟩:=O;exact Mf PySem.F.slot_str_rfind (Nb _ _ _) PySem.F.entry_str_rfind (PySem.F.args_str_rfind_2 _ _) (gives_str_rfind z w t u).meets ⟨.int _,H,I.tok _,⟨_,rfl⟩,q⟩) ho he G S J
theorem DQ:tV z (.str q) H Q=Q (.int (MN z q)) H:=oF
theorem rH:∀(k:Nat)(ys:List Str),zm (ys.map V.str) (strsFrom k ys)
 | _,[]=>.nil
 | k,y::ys=>.cons ⟨k,rfl⟩ (rH (k+1) ys)
def vG:Str->V->Hp->VK->Prop:=λz y H Q=>uS y λq=>(q.length==0)=false/\z.length<sizeLine/\(K0 z q).length<=sizeLine/\∀p H2,New H p (.lst ((K0 z q).map V.str)) H2->Q (.ref p) H2
theorem xJ{o e:Kf}{to te:TE}(ho:W (PE X o to))(he:W (PE X e te))(S:KU o "split" X.env (KZ o X.env)=KZ o X.env:=by rfl)(Zs:(Z1.endLine==cpos.line)=true:=by rfl)(Z:aP e=true:=by rfl):W (PE X (.Call (.Attribute o "split" Z1) [e] [] cpos) (uM1 to te vG)):=by
 refine ⟨?_⟩;have ho:=ho.h;have he:=he.h;exact
  sR Nz PySem.F.type_str_split (λGo s σ H z y t v Q I U q=>by
   obtain ⟨w,rfl,hw,hz,J,q⟩:=q;obtain ⟨u,rfl⟩:=U;have G:∀(ys:List Str)(us:List Value)(k:Nat),ys=K0 z w->zm (ys.map V.str) us->∃x H',Inv X Go σ H' { s with heap:=s.heap.push { cls:=.type "list",data:=.seq us.toArray },toks:=k }/\zl x (.ref s.heap.objs.size)/\Q x H':=λys us k e O=>by
    subst e;have hl:=O.length;rw [JS] at hl;exact ⟨.ref s.heap.objs.size,_,I.laid (t':=k) (o:=.lst _) (λb ob q=>JU _ q) (JY _) ⟨by rw [JS];exact J,us,0,O,J7 _ rfl⟩,rfl,q _ _ (.mk' (I.hok.fresh (JY _)))⟩
   cases h1:(decide (z.length<w.length)||decide (Kb.Str.strKind z<Kb.Str.strKind w))
   .cases hf:(Kb.Str.occurrences z w 0 z.length (z.length+1)).isEmpty
    .have es:K0 z w=Kb.Str.partsBetween z (Kb.Str.occurrences z w 0 z.length (z.length+1)) w.length:=(if_neg (ne_true_of_eq_false h1)).trans (if_neg (ne_true_of_eq_false hf));rw [es] at J;exact Mf Nz (Nb _ _ _) entry_str_split (args_str_split_2 _ _) (meets_str_split_sep z w t u h1 hw hf (Nk hz) J) (G _ _ _ es.symm (rH _ _))
    .exact Mf Nz (Nb _ _ _) entry_str_split (args_str_split_2 _ _) (meets_str_split_not_found z w t u h1 hw hf) (G [z] [.str z t] s.toks ((if_neg (ne_true_of_eq_false h1)).trans (if_pos hf)).symm (.cons ⟨t,rfl⟩ .nil))
   .exact Mf Nz (Nb _ _ _) entry_str_split (args_str_split_2 _ _) (meets_str_split_cannot_occur z w t u h1) (G [z] [.str z t] s.toks (if_pos h1).symm (.cons ⟨t,rfl⟩ .nil))) ho he S Zs Z
theorem IY:vG z (.str q) H Q=((q.length==0)=false/\z.length<sizeLine/\(K0 z q).length<=sizeLine/\∀p H2,New H p (.lst ((K0 z q).map V.str)) H2->Q (.ref p) H2):=oF
def qg(te:TE):TE:=λσ H Q=>te σ H λx H1=>(∃z,x = .str z/\z.length<=sizeLine/\Q (.str z) H1)\/∃i,x = .int i/\i.natAbs.log2<1920/\Q (.str (toString i)) H1
def gq:V->Hp->VK->Prop:=λx H1 Q=>(∃z,x = .str z/\z.length<=sizeLine/\Q (.str z) H1)\/∃i,x = .int i/\i.natAbs.log2<1920/\Q (.str (toString i)) H1
theorem HA:qg te σ H Q=te σ H λx H1=>gq x H1 Q:=rfl
theorem Cr:gq (.str z) H Q=(z.length<=sizeLine/\Q (.str z) H):=by simp [gq]
theorem CF:gq (.int i) H Q=(i.natAbs.log2<1920/\Q (.str (toString i)) H):=by simp [gq]
theorem wO(he:W (PE X e te)):W (PE X (.FormattedValue e (-1) none pos) (qg te)):=by
 refine ⟨?_⟩;have he:=he.h;intro Go s σ H Q I h;refine FormattedValue_plain (thn (he Go s σ H _ I h) λv s1=>x5e λx H1 G F q1=>?_);rcases q1 with ⟨z,rfl,hz,q⟩|⟨i,rfl,hi,q⟩
 .obtain ⟨t,rfl⟩:=F;exact formatField_str (λt' tk=>⟨.str z,H1,G.tok _,⟨_,rfl⟩,q⟩) hz
 .obtain ⟨t,rfl⟩:=F;exact formatField_int_small hi ⟨.str _,H1,G.tok _,⟨_,rfl⟩,q⟩
abbrev TJ:=Str->TE
def PJ(X:Cx)(es:List Kf)(z:TJ):Prop:=∀(out:Str)(Go:List (Addr×Obj))(s:JR)(σ:St)(H:Hp)(Q:VK),Inv X Go σ H s->z out σ H Q ->
 J3 (J6 X.prog X.w) X.A (joinParts out (evalEach es X.env)) (λu s1=>∃x H',Inv X Go σ H' s1/\zl x u/\Q x H') X.xe s
def tW:TJ:=λout _ H Q=>out.length<=sizeLine/\Q (.str out) H
def sD(te:TE)(z:TJ):TJ:=λout σ H Q=>te σ H λx H1=>uS x λy=>(out++y).length<=sizeLine/\z (out++y) σ H1 Q
theorem xU:W (PJ X [] tW):=⟨λout Go s σ H Q I h=>joinParts_nil ⟨.str out,H,I.tok _,⟨_,rfl⟩,h.2⟩ h.1⟩
theorem mY(he:W (PE X e te))(z:W (PJ X es F)):W (PJ X (e::es) (sD te F)):=by
 refine ⟨?_⟩;have he:=he.h;have z:=z.h;exact λout Go s σ H Q I h=>by
  refine joinParts_cons (thn (he Go s σ H _ I h) λv s1=>x5e λx H1 O G q1=>?_);obtain ⟨y,rfl,J,q⟩:=q1;obtain ⟨t,rfl⟩:=G;exact ⟨J,z _ Go s1 σ H1 Q O q⟩
def qG(z:TJ):TE:=z Nx
theorem yp:qG z=z Nx:=rfl
theorem HQ(h:W (PJ X (e::F::es) z)):W (PE X (.JoinedStr (e::F::es) pos) (qG z)):=by refine ⟨?_⟩;have h:=h.h;exact λGo s σ H Q I q=>JoinedStr_many (h Nx Go s σ H Q I q)
def d8:List V->Hp->VK->Prop:=λxs H Q=>dC xs H Q\/∃z n,xs=[.str z]/\z.length<=640/\Ot z=some n/\Q (.int n) H
theorem Fo:zI X (.type "int") d8:=by
 intro Go s σ H xs us Q I r h;rcases h with h|⟨z,n,rfl,hl,G,q⟩
 .exact EB Go s σ H xs us Q I r h
 .cases r with
  | cons F J =>
   cases J;obtain ⟨t,rfl⟩:=F;exact PySem.W.KIN.call_text G hl ⟨.int n,H,I.tok _,⟨_,rfl⟩,q⟩
theorem JB:d8 [.int i] H Q=Q (.int i) H:=by simp [d8,dC]
theorem HH{k:Bool}:d8 [.bl k] H Q=Q (.int (if k then 1 else 0)) H:=by simp [d8,dC]
theorem Ac:d8 [.str z] H Q = ∃n,z.length<=640/\Ot z=some n/\Q (.int n) H:=by simp [d8,dC]
def hZ:List V->Hp->VK->Prop:=λxs H Q=>fz xs H Q\/∃z,xs=[.str z]/\Q (.str z) H
theorem aU:zI X (.type "str") hZ:=by
 intro Go s σ H xs us Q I r h;rcases h with h|⟨z,rfl,q⟩
 .exact AO Go s σ H xs us Q I r h
 .cases r with
  | cons F G =>
   cases G;obtain ⟨t,rfl⟩:=F;exact PySem.P.str_of_str ⟨.str z,H,I,⟨_,rfl⟩,q⟩
theorem FF:hZ [.int i] H Q=(i.natAbs.log2<1920/\Q (.str (toString i)) H):=by simp [hZ,fz]
theorem AG:hZ [.str z] H Q=Q (.str z) H:=by simp [hZ,fz]
def mq:List V->Hp->VK->Prop:=λxs H Q=>∃x,xs=[.str x]/\x.length=1/\Q (.int (x.cps.getD 0 0:Nat)) H
theorem uT:zI X (.builtin "ord") mq:=Hr
theorem GR:mq [.str x] H Q=(x.length=1/\Q (.int (x.cps.getD 0 0:Nat)) H):=by simp [mq]
end
def tx(l:List Nat):Str:=⟨l.toArray⟩
def sg(z:Str):List Nat:=z.cps.toList
theorem cI(l:List Nat):sg (tx l)=l:=by simp [sg,tx]
theorem fT(z:Str):tx (sg z)=z:=by cases z;simp [sg,tx]
theorem gz{a b:Str}(h:sg a=sg b):a=b:=by rw [<- fT a,h,fT]
theorem dD(a b:Str):sg (a++b)=sg a++sg b:=by simp [sg,Str.cps_append]
theorem ao(z:Str):(sg z).length=z.length:=by simp [sg,Str.length]
theorem d6(l:List Nat):(tx l).length=l.length:=by simp [tx,Str.length]
def c1(c:Nat):Str:=⟨#[c]⟩
theorem jG:StrLaws.At x (c1 c) x.length i↔(sg x)[i]?=some c:=by
 unfold StrLaws.At;rw [StrLaws.subAt_eq];show i+1<=x.length/\((((sg x).drop i).take 1)==[c])=true↔_;rw [<- ao x];constructor
 .rintro ⟨h1,h2⟩;have h2:=eq_of_beq h2;rw [JQ (by lia)];have z:((sg x).drop i).take 1=[(sg x)[i]'(by lia)]:=by
   rw [LV (by lia)];rfl
  rw [z] at h2;injection h2 with h2 _
  rw [h2]
 .intro h;obtain ⟨h1,h2⟩:=JX.mp h;refine ⟨by lia,?_⟩;rw [LV h1,h2];simp
theorem AS(y:Str)(c:Nat):(!(Kb.Str.occurrences y ⟨#[c]⟩ 0 y.length 1).isEmpty)=(sg y).contains c:=by
 rcases StrLaws.occ_head y (c1 c) 1 (JY _) with ⟨h,z⟩|⟨i,r,h,ha,_⟩
 .rw [show Kb.Str.occurrences y ⟨#[c]⟩ 0 y.length 1=[] from h];symm;show (sg y).contains c=false;rw [MG];intro hc;obtain ⟨i,hi,e⟩:=LD (MH.mp hc);exact z i (jG.mpr (by rw [JQ hi,e]))
 .rw [show Kb.Str.occurrences y ⟨#[c]⟩ 0 y.length 1=i::r from h];symm;exact MH.mpr (Kn (jG.mp ha))
def bF(c:Nat):List Nat->List (List Nat)
 | []=>[[]]
 | x::t=>if x=c then []::bF c t else match bF c t with
  | []=>[[x]]
  | h::r=>(x::h)::r
def eM(p:List Nat):List (List Nat)->List (List Nat)
 | []=>[p]
 | h::r=>(p++h)::r
theorem ji(c:Nat):∀l,∃h r,bF c l=h::r
 | []=>⟨_,_,rfl⟩
 | x::t=>by
  unfold bF;split
  .exact ⟨_,_,rfl⟩
  .obtain ⟨h,r,e⟩:=ji c t;rw [e];exact ⟨_,_,rfl⟩
theorem lK(c x:Nat)(t:List Nat)(h:x≠c):bF c (x::t)=eM [x] (bF c t):=by
 obtain ⟨a,r,e⟩:=ji c t;show (if x=c then _ else _)=_;rw [if_neg h,e];rfl
theorem CV(p q:List Nat)(l:List (List Nat)):eM p (eM q l)=eM (p++q) l:=by
 cases l<;>simp [eM]
theorem om(s:Str)(c hi z:Nat):∀(l:List Nat)(st:Array Nat×Nat),(∀i∈l,st.2<=i)->l.Pairwise (· < ·)->st.1.size+l.length<=z ->
  (forIn l st (StrLaws.occBody s (c1 c) hi z)).run.fst.toList=st.1.toList++l.filter λi=>decide (i+1<=hi)&&Kb.Str.subAt s (c1 c) i
 | [],st,_,_,_=>by simp
 | a::l,st,h1,h2,J=>by
  rw [On];unfold StrLaws.occBody;have ha:=h1 a (Kg ..);rw [Lm] at h2;simp only [Le] at J;split
  .rename_i hc;have G:=om s c hi z l (st.1.push a,a+(c1 c).length) (λi hi=>by have:=h2.1 i hi;show a+1<=i;lia) h2.2 (by simp;lia);have F:(decide (a+1<=hi)&&Kb.Str.subAt s (c1 c) a)=true:=by rw [KD];exact ⟨decide_eq_true hc.1.2,hc.2⟩
   rw [Mz,F,if_pos rfl];refine Eq.trans G ?_;simp
  .rename_i hc;have G:=om s c hi z l st (λi hi=>h1 i (Kc _ hi)) h2.2 (by lia);have F:(decide (a+1<=hi)&&Kb.Str.subAt s (c1 c) a)=false:=by
    rw [MG];intro h;rw [KD] at h;exact hc ⟨⟨⟨by lia,ha⟩,of_decide_eq_true h.1⟩,h.2⟩
   rw [Mz,F,if_neg (by simp)];exact G
theorem sZ(x:Str)(c:Nat):Kb.Str.occurrences x (c1 c) 0 x.length (x.length+1)=(range' 0 (x.length+1)).filter λi=>(sg x)[i]? == some c:=by
 rw [StrLaws.occ_eq];rw [om x c x.length (x.length+1) _ _ (λ_ _=>Lc _) (List.pairwise_lt_range' (s:=0) (n:=x.length+1-0)) (by simp)];simp only [NA,Nat.sub_zero];refine List.filter_congr λi _=>?_;rw [Mo];have:=jG (x:=x) (c:=c) (i:=i);unfold StrLaws.At at this;rw [KD,decide_eq_true_eq,beq_iff_eq];exact this
theorem nL(x:Str)(c:Nat):∀(k a i:Nat),i+k=x.length->a<=i->StrLaws.partsFrom x 1 a ((range' i (k+1)).filter λi=>(sg x)[i]? == some c)=(eM (((sg x).drop a).take (i-a)) (bF c ((sg x).drop i))).map tx
 | 0,a,i,h,ha=>by
  have hl:=ao x;have O:(sg x)[i]?=none:=LU (by lia);have S:(sg x).drop i=[]:=LH (by lia);have U:(range' i (0+1)).filter (λi=>(sg x)[i]? == some c)=[]:=by
   show List.filter _ [i]=[];rw [Mz,O];rfl
  rw [S,U];show [Kb.Str.strSub x a x.length]=[tx _];refine congrArg (·::[]) (gz ?_);rw [cI];show (Kb.Str.strSub x a x.length).cps.toList=_;rw [StrLaws.strSub_toList,show x.length=i by lia];simp [bF,sg]
 | k+1,a,i,h,ha=>by
  have hl:=ao x;have hi:i<(sg x).length:=by lia
  have z:(sg x)[i]?=some ((sg x)[i]):=JQ hi;have J:(sg x).drop i=(sg x)[i]::(sg x).drop (i+1):=LV hi;rw [List.range'_succ,Mz,z,J];by_cases hc:(sg x)[i]=c
  .rw [if_pos (by simp [hc])];have G:=nL x c k (i+1) (i+1) (by lia) (JY _);show Kb.Str.strSub x a i::StrLaws.partsFrom x 1 (i+1) _=_;rw [G];have W:bF c ((sg x)[i]::(sg x).drop (i+1))=[]::bF c ((sg x).drop (i+1)):=by
    show (if _=c then _ else _)=_;rw [if_pos hc]
   rw [W];obtain ⟨p,r,e⟩:=ji c ((sg x).drop (i+1));rw [e];simp only [sub_self,Ou,eM,NA,MB,Li];refine congrArg (·::_) (gz ?_);rw [cI];exact StrLaws.strSub_toList x a i
  .rw [if_neg (by simp [hc])];rw [nL x c k a (i+1) (by lia) (by lia),lK c _ _ hc,CV];have F:((sg x).drop a).take (i+1-a)=((sg x).drop a).take (i-a)++[(sg x)[i]]:=by
    rw [show i+1-a=(i-a)+1 by lia,Kt];congr 1;rw [List.getElem?_drop,show a+(i-a)=i by lia,z];rfl
   rw [F]
theorem rq:∀{l:List Nat},c∉l->bF c l=[l]
 | [],_=>rfl
 | x::t,h=>by
  rw [J1,not_or] at h;rw [lK c x t (Lv h.1),rq h.2];rfl
theorem AB(x:Str)(hc:c<128):K0 x (c1 c)=(bF c (sg x)).map tx:=by
 have J:Kb.Str.strKind (c1 c)=1:=by
  unfold Kb.Str.strKind;rw [if_pos];show (#[c]:Array Nat).all (· < 256)=true;simp;lia
 have z : ¬ Kb.Str.strKind x<Kb.Str.strKind (c1 c):=by
  rw [J];unfold Kb.Str.strKind;split<;>(try split)<;>lia
 have F:c∉sg x->[x]=(bF c (sg x)).map tx:=λh=>by rw [rq h];show [x]=[tx (sg x)];rw [fT]
 unfold K0;split
 .rename_i h;rw [decide_eq_false z,NZ,decide_eq_true_eq] at h;have h:x.length<1:=h;rw [<- ao] at h;refine F ?_;have G:sg x=[]:=List.eq_nil_of_length_eq_zero (by lia);rw [G];exact Kh
 .split
  .rename_i h;refine F λhm=>?_;obtain ⟨i,hi,e⟩:=LD hm;rw [sZ] at h;have:i∈(range' 0 (x.length+1)).filter λi=>(sg x)[i]? == some c:=by
    rw [NB];refine ⟨?_,by rw [JQ hi,e];simp⟩;rw [List.mem_range'_1];rw [ao] at hi;lia
   rw [List.isEmpty_iff.mp h] at this;exact absurd this Kh
  .rw [StrLaws.partsBetween_eq,sZ];show StrLaws.partsFrom x 1 0 _=_;rw [nL x c x.length 0 0 (by lia) (JY _)];simp only [sub_self,Ou,Ov];obtain ⟨h,r,e⟩:=ji c (sg x);rw [e];rfl
theorem oN:∀(w:List Nat)(ws:List (List Nat)),(∀v∈w::ws,c∉v)->bF c (w++(ws.map (c::·)).flatten)=w::ws
 | [],[],_=>rfl
 | [],v::ws,h=>by
  have F:=oN v ws λu z=>h u (Kc _ z);show bF c (c::(v++(ws.map (c::·)).flatten))=_;show (if c=c then _ else _)=_;rw [if_pos rfl,F]
 | x::w,ws,h=>by
  have hx:=h _ (Kg ..);rw [J1,not_or] at hx;have F:=oN w ws λu z=>by
   rcases J1.mp z with rfl|z
   .exact hx.2
   .exact h u (Kc _ z)
  show bF c (x::(w++(ws.map (c::·)).flatten))=_;rw [lK c x _ (Lv hx.1),F];rfl
theorem kY(x:Str)(c hi:Nat):∀(l:List Nat)(st:Option Nat),(forIn l st (λi r=>if (decide (i+(c1 c).length<=hi)&&Kb.Str.subAt x (c1 c) i)=true then (pure (ForInStep.yield (some i)):Id _) else pure (ForInStep.yield r))).run =
  l.foldl (λZQ i=>if (decide (i+1<=hi)&&Kb.Str.subAt x (c1 c) i)=true then some i else ZQ) st
 | [],st=>rfl
 | a::l,st=>by
  rw [On,Oh];show _=l.foldl _ (if (decide (a+(c1 c).length<=hi)&&Kb.Str.subAt x (c1 c) a)=true then some a else st);split
  .exact kY x c hi l _
  .exact kY x c hi l _
theorem rP(x:Str)(c:Nat):Kb.Str.lastOccurrence x (c1 c) 0 x.length=(range' 0 (x.length+1)).foldl (λZQ i=>if (sg x)[i]?=some c then some i else ZQ) none:=by
 have e:Kb.Str.lastOccurrence x (c1 c) 0 x.length=(forIn (range' 0 (x.length+1)) none (λi r=>if (decide (i+(c1 c).length<=x.length)&&Kb.Str.subAt x (c1 c) i)=true then (pure (ForInStep.yield (some i)):Id _) else pure (ForInStep.yield r))).run:=by
  unfold Kb.Str.lastOccurrence;simp
 rw [e,kY];congr 1;funext ZQ i;have:=jG (x:=x) (c:=c) (i:=i);unfold StrLaws.At at this;by_cases h:(sg x)[i]?=some c
 .rw [if_pos h,if_pos];rw [KD,decide_eq_true_eq];exact this.mpr h
 .rw [if_neg h,if_neg];intro q;rw [KD,decide_eq_true_eq] at q;exact h (this.mp q)
theorem nF{p:Nat->Prop} [DecidablePred p]:∀(l:List Nat)(a:Option Nat),(∀i∈l,¬ p i)->l.foldl (λZQ i=>if p i then some i else ZQ) a=a
 | [],_,_=>rfl
 | x::l,a,h=>by
  rw [Oh,if_neg (h x (Kg ..))];exact nF l a λi hi=>h i (Kc _ hi)
theorem I0{a b:List Nat}(h:sg x=a++c::b)(hb:c∉b):MN x (c1 c)=a.length:=by
 have hl:x.length=a.length+(b.length+1):=by rw [<- ao,h];simp
 have e:Kb.Str.lastOccurrence x (c1 c) 0 x.length=some a.length:=by
  rw [rP,show x.length+1=a.length+((b.length+1)+1) by lia,<- List.range'_append_1,Lp,List.range'_succ,Oh];rw [if_pos (by rw [h];simp),Nat.zero_add];refine nF (p:=λi=>(sg x)[i]?=some c) _ _ λi hi=>?_;rw [List.mem_range'_1] at hi;intro q;rw [h,MD (by lia)] at q;obtain ⟨j,z⟩:∃j,i-a.length=j+1:=⟨i-a.length-1,by lia⟩;rw [z,MS] at q;exact hb (Kn q)
 show (match Kb.Str.lastOccurrence x (c1 c) 0 x.length with|some i=>(i:Int)|none=>-1)=_;rw [e]
theorem Ie(h:c∉sg x):MN x (c1 c) = -1:=by
 have e:Kb.Str.lastOccurrence x (c1 c) 0 x.length=none:=by
  rw [rP];exact nF (p:=λi=>(sg x)[i]?=some c) _ _ λi _ q=>h (Kn q)
 show (match Kb.Str.lastOccurrence x (c1 c) 0 x.length with|some i=>(i:Int)|none=>-1)=_;rw [e]
theorem uv(h:j<=(sg x).length):Mn x none (some (j:Int))=tx ((sg x).take j):=by
 have e:=StrLaws.sliceText_to (x:=x) (j:=(j:Int)) ⟨by lia,by simpa [sg] using h⟩;refine Eq.trans (show Mn x none (some (j:Int))=StrLaws.sliceText x none (some (j:Int)) from rfl) (e.trans ?_);show tx _=tx _;simp [sg]
theorem AR(h:0<(sg x).length):Mn x none (some (-1))=tx ((sg x).dropLast):=by
 rw [ao] at h;have e:=StrLaws.sliceText_to_neg (x:=x) (j:=-1) (by lia) (by lia);refine Eq.trans (show Mn x none (some (-1))=StrLaws.sliceText x none (some (-1)) from rfl) (e.trans ?_);show tx _=tx _;rw [List.dropLast_eq_take,ao,Ov,show (-1+(x.length:Int)-0).toNat=x.length-1 by lia];rfl
theorem f9(m:Nat):sg (toString ((m:Nat):Int):Str)=(Oo 10 m).map Char.toNat:=PySem.W.KIN.signs_num m
section
variable {X:Cx}{tg:Kf}
def oB(K:JV)(tl:TE):TI:=λσ H R=>tl σ H λx H1=>uR x λa=>(∃xs,SqL K H1 a xs/\R (Itl K a) H1)\/∃xs,SqT K H1 a xs/\R (Itt K a) H1
theorem B8{K:JV}:oB K tl σ H R=tl σ H λx H1=>uR x λa=>(∃xs,SqL K H1 a xs/\R (Itl K a) H1)\/∃xs,SqT K H1 a xs/\R (Itt K a) H1:=rfl
theorem yA(hl:PE X l tl):PIc true X tg l (oB X.K tl):=by
 intro Go s σ H R I h;refine thn (hl Go s σ H _ I h) λv s1=>x5e λx H1 z J q1=>?_;obtain ⟨a,e,q1⟩:=q1;subst e;cases J;rcases q1 with ⟨xs,F,q⟩|⟨xs,F,q⟩
 .obtain ⟨G,O,p,hz⟩:=z.list F;refine MU p.isList ⟨s1.heap.objs.size,[s1.heap.objs.size],_,_,H1,rfl,z.kept (t':=s1.toks) λb o e=>JU _ e,pC a _,⟨_,J7 _ rfl,rfl,rfl⟩,λb hb=>?_,q⟩;have e:b=s1.heap.objs.size:=by simpa using hb
  subst e;exact z.Oz (JY _) (z.hok.fresh (JY _))
 .obtain ⟨G,O,p,hz⟩:=z.tuple F;refine wpAny_pyIter_tuple (show s1.heap.IsTuple a G.toArray from p) ⟨s1.heap.objs.size,[s1.heap.objs.size],_,_,H1,rfl,z.kept (t':=s1.toks) λb o e=>JU _ e,qO a _,⟨_,J7 _ rfl,rfl,rfl⟩,λb hb=>?_,q⟩;have e:b=s1.heap.objs.size:=by simpa using hb
  subst e;exact z.Oz (JY _) (z.hok.fresh (JY _))
theorem BR(hl:W (PE X l tl)):W (PIc true X tg l (oB X.K tl)):=⟨yA hl.h⟩
end
section
variable {K:JV}{g:TG}{tt:TT}{te:TE}{H:Hp}{Q:VK}{R:It->Hp->Prop}
theorem ak.tup{a:Addr}{xs:List V}{z:St}(G:Nat->St->List V->Hp->Prop)(hz:∀i z ys H,G i z ys H->ys.length<sizeLine)(ha:∀i z ys H,G i z ys H->SqT K H a xs)(S:G 0 z [] H)
  (hs:∀(N:St->List V->Hp->Prop) i x z ys H,xs[i]?=some x->G i z ys H->(∀z ys H,G (i+1) z ys H->N z ys H)->g x z H λF H4=>tt F H4 λok H5=>dB N ys F te ok H5) (hd:∀z ys H,G xs.length z ys H->∀D H',New H D (.lst ys) H'->Q (.ref D) H'):ak (Itt K a) g tt te z H Q:=by
 refine ⟨λi m z ys H=>m=xs.length-i/\i<=xs.length/\G i z ys H,⟨xs.length,by simp,Lc _,S⟩,?_⟩;rintro i m z ys H2 ⟨rfl,hi,p⟩;refine ⟨hz i z ys H2 p,?_⟩;have q:=ha i z ys H2 p;by_cases O:i<xs.length
 .refine .inr ⟨⟨xs,xs[i],q,by simp [O]⟩,λx H' y=>?_⟩;obtain ⟨e,y⟩:=y;subst e;exact hs (λF ys H=>∃J,J<xs.length-i/\J=xs.length-(i+1)/\i+1<=xs.length/\G (i+1) F ys H) i x z ys _ (y xs q) p λF zs H q=>⟨xs.length-(i+1),by lia,rfl,O,q⟩
 .have e:i=xs.length:=by lia
  subst e;exact .inl ⟨⟨xs,q,JY _⟩,λD U _=>hd z ys H2 p D _ (.mk' U)⟩
theorem D1{a:Addr}{H:Hp}{Q:VK}:c8 c (.ref a) .non H Q=Q (.bl (if c then true else false)) H:=by simp [c8]
theorem GN{a:Str}{H:Hp}{Q:VK}:c8 c (.str a) .non H Q=Q (.bl (if c then true else false)) H:=by simp [c8]
theorem dN(z:Str):asc z=(sg z).all (· < 128):=by simp [asc,sg]
end
theorem xN(ab:X.N.Nodup)(W:X.N[i0]?=some z)(G:Loc X.env.scope z)(hc:c=true->X.calm=true)(L:af X sc N' ix)(hi:PIc c X tg iter wi)(hg:∀Go C fp s H,PG (zy X sc N' Go C fp s H) tg g)(ht:∀Go C fp s H,PTs (zy X sc N' Go C fp s H) F tt)(he:∀Go C fp s H,PE (zy X sc N' Go C fp s H) Zb te)(hs:∀x,Kw iter X.env x=pure x:=by intro _;rfl)(O:swapsWith (.ListComp Zb [⟨tg,iter,F,0⟩] sc pos) (some (.Name z YX)) J.line X.env=pure true:=by rfl)(av:X.fn z=true\/X.env.scope.names.lookup z=some .local:=by first|exact .inl rfl|exact .inr rfl|assumption):
  PS X (.Assign [.Name z YX] (.ListComp Zb [⟨tg,iter,F,0⟩] sc pos) J) (ir (tLC ix wi g tt te) (bN i0)):=by
 intro Go s σ H Z I h;rw [exec_Assign_Name_used z YX _ J O];refine we (Ll (we ?_));rw [arm_evalThenUse_ListComp];show J3 (J6 X.prog X.w) X.A (comprehension (.ListComp Zb [⟨tg,iter,F,0⟩] sc pos) sc X.env (firstIterPos [⟨tg,iter,F,0⟩] pos) (newList []) (firstAsync [⟨tg,iter,F,0⟩]) (firstIter [⟨tg,iter,F,0⟩] X.env) (some (NU (.Name z YX) X.env))>>=λ_=>pure ()) _ _ _;refine we (tq hc L hi hg ht he hs I h λC D oC H' s5 m5 IX ns tu q=>?_);refine thn (tS ab W G av (Go++[(C,oC)]) s5 σ H' (.ref D) (.ref D) Z.nx IX rfl q) λ_ s6=>x4e λa0 H6 U q6=>?_;obtain ⟨p6,aI,_⟩:=U.pin (C,oC) (J0 _ (J0 _ (KS.mpr rfl)));exact ⟨m5,ns p6,λh' S=>JT (JT ⟨a0,H6,tu (U.ti λp hp=>U.pin p (J0 _ (KC _ hp))) aI S,q6⟩)⟩
theorem uU(U:X.N.Nodup)(S:X.N[i0]?=some z)(F:Loc X.env.scope z)(hc:c=true->X.calm=true)(L:af X sc N' ix)(hi:W (PIc c X tg iter wi))(hg:∀Go C fp s H,W (PG (zy X sc N' Go C fp s H) tg g))(ht:∀Go C fp s H,W (PTs (zy X sc N' Go C fp s H) O tt))(he:∀Go C fp s H,W (PE (zy X sc N' Go C fp s H) Zb te))(hs:∀x,Kw iter X.env x=pure x:=by intro _;rfl)(J:swapsWith (.ListComp Zb [⟨tg,iter,O,0⟩] sc pos) (some (.Name z YX)) Z.line X.env=pure true:=by rfl)(G:X.fn z=true\/X.env.scope.names.lookup z=some .local:=by first|exact .inl rfl|exact .inr rfl|assumption):
  W (PS X (.Assign [.Name z YX] (.ListComp Zb [⟨tg,iter,O,0⟩] sc pos) Z) (ir (tLC ix wi g tt te) (bN i0))) :=
 ⟨xN U S F hc L hi.h (λa b c d e=>(hg a b c d e).h) (λa b c d e=>(ht a b c d e).h) (λa b c d e=>(he a b c d e).h) hs J G⟩
section
variable {κ:Type} [DecidableEq κ]
def zS(kvs:List (κ×V))(k:κ):Option V:=(kvs.find? λz=>decide (z.1=k)).map (·.2)
def aE(kvs:List (κ×V))(k:κ)(v:V):List (κ×V) :=
 if (kvs.any λz=>decide (z.1=k))=true then kvs.map (λz=>if z.1=k then (z.1,v) else z) else kvs++[(k,v)]
def br(kvs:List (κ×V))(k:κ):List (κ×V):=kvs.filter λz=>decide (z.1≠k)
theorem gQ{p:κ×V}{r:List (κ×V)}{k:κ}(e:p.1=k):zS (p::r) k=some p.2:=by simp [zS,Nd,e]
theorem ie{p:κ×V}{r:List (κ×V)}{k:κ}(e : ¬ p.1=k):zS (p::r) k=zS r k:=by simp [zS,Nd,e]
theorem mM(k:κ):∀kvs:List (κ×V),(kvs.any λz=>decide (z.1=k))=(zS kvs k).isSome
 | []=>rfl
 | p::r=>by
  rw [Os];by_cases e:p.1=k
  .simp only [gQ e,decide_eq_true e,Bool.true_or,isSome_some]
  .rw [ie e,decide_eq_false e,Bool.false_or];exact mM k r
theorem qI(kvs:List (κ×V))(k:κ)(v:V):(aE kvs k v).length<=kvs.length+1:=by
 unfold aE;split
 .rw [JS];lia
 .rw [KB,Le,NC];lia
theorem aX.tr{o:Option V}(r:aX o u):o.isSome=u.isSome:=by
 cases o with
 | none=>cases u with
  | none=>rfl
  | some _=>exact (show False from r).elim
 | some _=>cases u with
  | none=>exact (show False from r).elim
  | some _=>rfl
theorem aX.getD{o:Option V}{d:V}(r:aX o u)(z:zl d d'):zl (o.getD d) (u.getD d'):=by
 cases o with
 | none=>cases u with
  | none=>exact z
  | some _=>exact (show False from r).elim
 | some _=>cases u with
  | none=>exact (show False from r).elim
  | some _=>exact r
theorem KV.val(r:KV kvs vs)(k:κ):aX (zS kvs k) (Od vs k):=by
 unfold KV at r
 induction r with
 | nil=>exact True.intro
 | @cons p q ps F h t J =>
  obtain ⟨h1,h2⟩:=h;by_cases e:p.1=k
  .have G:q.1=k:=h1.symm.trans e;have b:Od (q::F) k=some q.2:=by simp [Od,Nd,G]
   rw [gQ e,b];exact h2
  .have G : ¬ q.1=k:=λz=>e (h1.trans z);have b:Od (q::F) k=Od F k:=by simp [Od,Nd,G]
   rw [ie e,b];exact J
theorem KV.any(r:KV kvs vs)(k:κ):(kvs.any λz=>decide (z.1=k))=vs.any λz=>decide (z.1=k):=by
 unfold KV at r
 induction r with
 | nil=>rfl
 | cons h t F=>rw [Os,Os,F,h.1]
theorem KV.Qa(r:KV kvs vs)(k:κ)(J:zl y u):
  KV (kvs.map λF=>if F.1=k then (F.1,y) else F) (vs.map λF=>if F.1=k then (F.1,u) else F):=by
 unfold KV at r ⊢
 induction r with
 | nil=>exact .nil
 | @cons p q ps O h t G =>
  rw [Li,Li];refine .cons ?_ G;obtain ⟨h1,h2⟩:=h;by_cases e:p.1=k
  .rw [if_pos e,if_pos (h1.symm.trans e)];exact ⟨h1,J⟩
  .rw [if_neg e,if_neg (λz=>e (h1.trans z))];exact ⟨h1,h2⟩
theorem KV.put(r:KV kvs vs)(k:κ)(z:zl y u):KV (aE kvs k y) (stored vs k u):=by
 unfold aE stored;rw [r.any k];by_cases e:(vs.any λF=>decide (F.1=k))=true
 .rw [if_pos e,if_pos e];exact r.Qa k z
 .rw [if_neg e,if_neg e];exact Paired.snoc r ⟨rfl,z⟩
theorem KV.drop(r:KV kvs vs)(k:κ):KV (br kvs k) (without vs k):=by
 unfold KV at r ⊢;unfold br without
 induction r with
 | nil=>exact .nil
 | @cons p q ps J h t F =>
  obtain ⟨h1,h2⟩:=h;rw [Mz,Mz];by_cases e:p.1=k
  .have a : ¬ decide (p.1≠k)=true:=by simp [e]
   have b : ¬ decide (q.1≠k)=true:=by simp [h1.symm.trans e]
   rw [if_neg a,if_neg b];exact F
  .have G : ¬ q.1=k:=λz=>e (h1.trans z);have a:decide (p.1≠k)=true:=by simp [e]
   have b:decide (q.1≠k)=true:=by simp [G]
   rw [if_pos a,if_pos b];exact .cons ⟨h1,h2⟩ F
theorem KV.length{kvs:List (κ×V)}{vs:List (κ×Value)}(r:KV kvs vs):kvs.length=vs.length:=Paired.length r
theorem ua(kvs:List (κ×V))(k:κ):(br kvs k).length<=kvs.length:=Ms _ _
end
theorem dE{k:Key}(r:zl (kV k) u):(aw P w).is k u=true:=by
 cases k with
 | inl i=>obtain ⟨t,e⟩:=(show ∃t,u=MI i t from r);subst e;exact x8 P w i t
 | inr x=>obtain ⟨t,e⟩:=(show ∃t,u=Ng x t from r);subst e;exact DS P w x t
theorem vw:∀{ks:List Key}{us:List Value},zm (ks.map kV) us->ItemsAre (aw P w) ks us
 | [],_,r=>by rw [map_nil] at r;cases r;exact .nil
 | k::ks,_,r=>by
  rw [Li] at r;cases r with
  | cons h t=>exact .cons (dE h) (vw t)
abbrev KT(H:Hp):List (List Key×V)->List (List Key×Addr×Value)->Prop:=Paired λp q=>p.1=q.1/\H q.2.1=some (.tup (p.1.map kV))/\zl p.2 q.2.2
theorem KT.val(r:KT H kvs xs)(k:List Key):aX (zS kvs k) ((atKey xs k).map (·.2)):=by
 induction r with
 | nil=>exact True.intro
 | @cons p q ps F h t J =>
  obtain ⟨h1,_,h2⟩:=h;by_cases e:p.1=k
  .have G:q.1=k:=h1.symm.trans e;have b:atKey (q::F) k=some q.2:=by simp [atKey,Nd,G]
   rw [gQ e,b];exact h2
  .have G : ¬ q.1=k:=λz=>e (h1.trans z);have b:atKey (q::F) k=atKey F k:=by simp [atKey,Nd,G]
   rw [ie e,b];exact J
theorem KT.Qa(r:KT H kvs xs)(k:List Key)(G:zl y u):
  KT H (kvs.map λF=>if F.1=k then (F.1,y) else F) (xs.map (putAt k u)):=by
 induction r with
 | nil=>exact .nil
 | @cons p q ps S h t J =>
  rw [Li,Li];refine .cons ?_ J;obtain ⟨h1,h2,O⟩:=h;unfold putAt;by_cases e:p.1=k
  .rw [if_pos e,if_pos (h1.symm.trans e)];exact ⟨h1,h2,G⟩
  .rw [if_neg e,if_neg (λz=>e (h1.trans z))];exact ⟨h1,h2,O⟩
theorem KT.put(r:KT H kvs xs)(k:List Key){b:Addr}(hb:H b=some (.tup (k.map kV)))(z:zl y u):
  KT H (aE kvs k y) (storedH xs k b u):=by
 have e:(kvs.any λF=>decide (F.1=k))=(atKey xs k).isSome:=by
  rw [mM,(r.val k).tr,isSome_map]
 unfold aE storedH;rw [e];by_cases q:(atKey xs k).isSome=true
 .rw [if_pos q,if_pos q];exact r.Qa k z
 .rw [if_neg q,if_neg q];exact Paired.snoc r ⟨rfl,hb,z⟩
theorem KT.keeps(r:KT H kvs xs)(F:∀b ys,H b=some (.tup ys)->H' b=some (.tup ys)):KT H' kvs xs :=
 Paired.ri r λ_ _ z=>⟨z.1,F _ _ z.2.1,z.2.2⟩
section
variable {P:JZ}{w:Ke}{H:Hp}{h:Heap}{a:Addr}
theorem qF(ok:HOk P w H h)(e:Rd H a u):z7 P w H h a u:=e.ok ok
theorem bR(ok:HOk P w H h)(e:Rd H a (.dK kvs)):kvs.length<=sizeLine/\(a==sysModules)=false/\∃vs,KV kvs vs/\h.DictOf (aw P w) a vs :=
 show z7 P w H h a (.dK kvs) from qF ok e
theorem jo(ok:HOk P w H h)(e:H a=some (.dK kvs)):kvs.length<=sizeLine/\(a==sysModules)=false/\∃vs,KV kvs vs/\h.DictOf (aw P w) a vs:=bR ok (.inl e)
theorem fS(ok:HOk P w H h)(e:H a=some (.tup (ks.map kV))):(N0 (aw P w)).is h ks a:=by
 obtain ⟨_,F,r,o,h1,h2,n,z⟩:=(show z7 P w H h a (.tup (ks.map kV)) from ok a _ e);exact ⟨o,F.toArray,n,h1,h2,z,by simpa using vw r⟩
theorem eK(ok:HOk P w H h)(e:Rd H a (.dT kvs)):kvs.length<=sizeLine/\(a==sysModules)=false /\
  ∃xs,KT H kvs xs/\h.DictOfH (N0 (aw P w)) a xs:=by
 obtain ⟨z,y,xs,r,o,es,ep,h1,h2,S,G,O⟩:=(show z7 P w H h a (.dT kvs) from qF ok e);refine ⟨z,y,xs,r,o,es,ep,h1,h2,S,G,λx hx=>?_,O⟩;have all:∀{l:List (List Key×V)}{m:List (List Key×Addr×Value)},KT H l m->∀x∈m,(N0 (aw P w)).is h x.1 x.2.1:=by
  intro l m q
  induction q with
  | nil=>intro x hx;exact nomatch hx
  | @cons p q ps U F t J =>
   intro x hx;rcases J1.mp hx with e|hx
   .subst e;exact fS ok (by rw [<- F.1];exact F.2.1)
   .exact J x hx
 exact all r x hx
theorem Ge(ok:HOk P w H h)(e:H a=some (.dT kvs)):kvs.length<=sizeLine/\(a==sysModules)=false /\
  ∃xs,KT H kvs xs/\h.DictOfH (N0 (aw P w)) a xs:=eK ok (.inl e)
end
def cU(H:Hp)(a:Addr)(y:V)(r:Option V):Prop :=
 (∃kvs k,Rd H a (.dK kvs)/\y=kV k/\r=zS kvs k)\/∃kvs k b,Rd H a (.dT kvs)/\y = .ref b/\H b=some (.tup (k.map kV))/\r=zS kvs k
def gX(H:Hp)(a:Addr)(y v:V)(H':Hp):Prop :=
 (∃kvs k,H a=some (.dK kvs)/\y=kV k/\kvs.length<sizeLine/\H'=upd H a (.dK (aE kvs k v))) \/
 ∃kvs k b,H a=some (.dT kvs)/\y = .ref b/\H b=some (.tup (k.map kV))/\kvs.length<sizeLine/\H'=upd H a (.dT (aE kvs k v))
theorem cU.k{a:Addr}{k:Key}(e:H a=some (.dK kvs)):cU H a (kV k) (zS kvs k):=.inl ⟨kvs,k,.inl e,rfl,rfl⟩
theorem cU.t{a b:Addr}{k:List Key}(e:H a=some (.dT kvs))(z:H b=some (.tup (k.map kV))):cU H a (.ref b) (zS kvs k):=.inr ⟨kvs,k,b,.inl e,rfl,z,rfl⟩
theorem gX.k{a:Addr}{k:Key}(e:H a=some (.dK kvs))(hl:kvs.length<sizeLine):gX H a (kV k) v (upd H a (.dK (aE kvs k v))):=.inl ⟨kvs,k,e,rfl,hl,rfl⟩
theorem gX.t{a b:Addr}{k:List Key}(e:H a=some (.dT kvs))(z:H b=some (.tup (k.map kV)))(hl:kvs.length<sizeLine):
  gX H a (.ref b) v (upd H a (.dT (aE kvs k v))):=.inr ⟨kvs,k,b,e,rfl,z,hl,rfl⟩
section
variable {X:Cx}{Go:List (Addr×Obj)}{σ:St}{H:Hp}{s:JR}{a:Addr}{y v:V}{u r:Value}{o:Option V}{A:Kk}{E:Value->JR->Prop}
theorem E5(hu:A.units+1<cLine)(I:Inv X Go σ H s)(g:cU H a y (some v))(U:zl y u)(h:∀w' s',Inv X Go σ H s'->zl v w'->Q w' s'):
  J3 (J6 X.prog X.w) A (Og (.ref a) u) Q E s:=by
 rcases g with ⟨kvs,k,e,J,l⟩|⟨kvs,k,b,e,J,W,l⟩
 .subst J;obtain ⟨z,hd,vs,F,S⟩:=bR I.hok e;obtain ⟨w',hw,O⟩:=aX.some_of (v:=v) (o:=Od vs k) (by rw [l];exact F.val k);exact wpAny_getItem_of (dE U) S.mapOf hw (h w' _ (I.tok _) O)
 .subst J;cases (show u=Ko b from U);obtain ⟨z,hd,xs,F,S⟩:=eK I.hok e;obtain ⟨w',hw,O⟩:=aX.some_of (v:=v) (o:=(atKey xs k).map (·.2)) (by rw [l];exact F.val k);obtain ⟨p,Z,G⟩:=Km.mp hw;refine wpAny_getItem_heap (Md hu) (fS I.hok W) S Z ?_;rw [G];exact h w' _ (I.tok _) O
theorem EC(U:A.units+1<cLine)(I:Inv X Go σ H s)(g:cU H a y o)(O:zl y u)(h:∀s',Inv X Go σ H s'->Q (.bool o.isSome) s'):
  J3 (J6 X.prog X.w) A (KG .In u (.ref a)) Q E s:=by
 rcases g with ⟨kvs,k,e,G,l⟩|⟨kvs,k,b,e,G,S,l⟩
 .subst G;obtain ⟨z,hd,vs,F,J⟩:=bR I.hok e;refine wpAny_in_of (dE O) hd J.mapOf ?_;rw [<- (F.val k).tr,<- l];exact h _ (I.tok _)
 .subst G;cases (show u=Ko b from O);obtain ⟨z,hd,xs,F,J⟩:=eK I.hok e;refine wpAny_in_heap (Md U) (fS I.hok S) hd J ?_;have q:=(F.val k).tr;rw [isSome_map] at q;rw [<- q,<- l];exact h _ (I.tok _)
theorem BI(U:A.units+1<cLine)(I:Inv X Go σ H s)(g:cU H a y o)(O:zl y u)(h:∀s',Inv X Go σ H s'->Q (.bool (!o.isSome)) s'):
  J3 (J6 X.prog X.w) A (KG .NotIn u (.ref a)) Q E s:=by
 rcases g with ⟨kvs,k,e,G,l⟩|⟨kvs,k,b,e,G,S,l⟩
 .subst G;obtain ⟨z,hd,vs,F,J⟩:=bR I.hok e;refine wpAny_notIn_of (dE O) hd J.mapOf ?_;rw [<- (F.val k).tr,<- l];exact h _ (I.tok _)
 .subst G;cases (show u=Ko b from O);obtain ⟨z,hd,xs,F,J⟩:=eK I.hok e;refine wpAny_notIn_heap (Md U) (fS I.hok S) hd J ?_;have q:=(F.val k).tr;rw [isSome_map] at q;rw [<- q,<- l];exact h _ (I.tok _)
theorem j6(I:Inv X Go σ H s)(F:Mut (H a))(hs:Lr a s.heap h')(he:∃q,h'.get? a=some q)(new:z7 X.prog X.w (upd H a ob) h' a ob):
  Inv X Go σ (upd H a ob) { s with heap:=h',toks:=t' } :=
 I.write (x:=a) (e:=a) F (.inl rfl) (λb q hb z=>(hs.2 b hb).trans z) he new
theorem iV(z:kvs.length<=sizeLine)(hd:(a==sysModules)=false)(G:KV kvs vs)(F:h'.DictOf (aw P w) a vs):
  z7 P w H' h' a (.dK kvs):=⟨z,hd,vs,G,F⟩
theorem Cz(hu:A.units+1<cLine)(I:Inv X Go σ H s)(g:gX H a y v H')(W:zl y u)(Z:zl v r)(h:∀s',Inv X Go σ H' s'->Q () s'):
  J3 (J6 X.prog X.w) A (setItem (.ref a) u r) Q E s:=by
 rcases g with ⟨kvs,k,e,S,l,O⟩|⟨kvs,k,b,e,S,eb,l,O⟩
 .subst S O;obtain ⟨z,hd,vs,F,U⟩:=jo I.hok e;have hz:vs.length<=sizeLine:=by rw [<- F.length];exact z
  have hl:(aE kvs k v).length<=sizeLine:=by have:=qI kvs k v;lia
  refine wpAny_setItem_pairs (hsz:=hz) (dE W) U λh' G hs=>h _ ?_;have he:∃q,h'.get? a=some q:=let ⟨q,_,_,J,_⟩:=G;⟨q,J⟩;exact j6 I (by rw [e];exact True.intro) hs he (iV hl hd (F.put k Z) G)
 .subst S O;cases (show u=Ko b from W);obtain ⟨z,hd,xs,F,U⟩:=Ge I.hok e;have hz:xs.length<=sizeLine:=by rw [<- Paired.length F];exact z
  have hl:(aE kvs k v).length<=sizeLine:=by have:=qI kvs k v;lia
  refine wpAny_setItem_heap (hsz:=hz) (Md hu) (fS I.hok eb) U λh' G hs=>h _ ?_;obtain ⟨q,es,ep,J,h2,h3,h4,_,h5⟩:=G;refine j6 I (by rw [e];exact True.intro) hs ⟨q,J⟩ ⟨hl,hd,_,(F.put k eb Z).keeps λc ys ec=>?_,q,es,ep,J,h2,h3,h4,h5⟩;rw [zf (xE ec e (λz=>nomatch z))];exact ec
end
section
variable {X:Cx}{Go:List (Addr×Obj)}{σ:St}{H:Hp}{s:JR}{a:Addr}{kvs:List (Key×V)}{k:Key}{u:Value}{A:Kk}{E:Value->JR->Prop}
theorem yZ(I:Inv X Go σ H s)(e:H a=some (.dK kvs))(S:zl (kV k) u)(l:(zS kvs k).isSome=true)(h:∀s',Inv X Go σ (upd H a (.dK (br kvs k))) s'->Q () s'):
  J3 (J6 X.prog X.w) A (delItem (.ref a) u) Q E s:=by
 obtain ⟨z,hd,vs,J,G⟩:=jo I.hok e;refine wpAny_delItem_slot G.typeIs (by decide) NK
  (M5 NK G.typeIs PySem.F.entry_dict_delitem (PySem.F.args_dict_delitem_2 _ _) (meets_dict_delitem_pairs (aw X.prog X.w) a (dE S)) ⟨vs,G,by rw [<- J.length];exact z,by rw [<- (J.val k).tr];exact l,λh' O hs=>h _ ?_⟩)
 have he:∃q,h'.get? a=some q:=let ⟨q,_,_,hq,_⟩:=O;⟨q,hq⟩;exact j6 I (by rw [e];exact True.intro) hs he (iV (Kp (ua kvs k) z) hd (J.drop k) O)
theorem Ey{more:List Value}(I:Inv X Go σ H s)(e:H a=some (.dK kvs))(G:zl (kV k) u)(l:zS kvs k=some v)(hm:more=[]\/∃x,more=[x])(h:∀w' s',Inv X Go σ (upd H a (.dK (br kvs k))) s'->zl v w'->Q w' s'):J3 (J6 X.prog X.w) A (call (.builtin "dict.pop") (.ref a::u::more)) Q E s:=by
 obtain ⟨z,hd,vs,J,S⟩:=jo I.hok e;obtain ⟨w',hw,W⟩:=aX.some_of (v:=v) (o:=Od vs k) (by rw [<- l];exact J.val k);have U:(keyPart u).isSome=true:=by
  cases k with
  | inl i=>obtain ⟨t,q⟩:=(show ∃t,u=MI i t from G);subst q;rfl
  | inr x=>obtain ⟨t,q⟩:=(show ∃t,u=Ng x t from G);subst q;rfl
 have ha:NV "dict.pop" ⟨.ref a::u::more,[]⟩:=by
  rcases hm with q|⟨x,q⟩
  .subst q;exact PySem.F.args_dict_pop_2 _ _
  .subst q;exact PySem.F.args_dict_pop_3 _ _ _
 refine M5 PySem.F.slot_dict_pop S.typeIs PySem.F.entry_dict_pop ha (meets_dict_pop_there (aw X.prog X.w) a (dE G) more hm U)
  ⟨vs,w',S,by rw [<- J.length];exact z,hw,λh' O hs=>h w' _ ?_ W⟩
 have he:∃q,h'.get? a=some q:=let ⟨q,_,_,hq,_⟩:=O;⟨q,hq⟩;exact j6 I (by rw [e];exact True.intro) hs he (iV (Kp (ua kvs k) z) hd (J.drop k) O)
theorem Ew(I:Inv X Go σ H s)(e:Rd H a (.dK kvs))(h:∀t s',Inv X Go σ H s'->Q (.int kvs.length t) s'):J3 (J6 X.prog X.w) A (call (.builtin "len") [.ref a]) Q E s:=by
 obtain ⟨z,hd,vs,F,G⟩:=bR I.hok e;refine call_len_dict hd G (by rw [<- F.length];rw [K8] at z;lia) ?_;rw [<- F.length];exact h _ _ (I.tok _)
end
theorem wA{a:Addr}{o:Option V}(I:Inv X Go σ H s)(g:cU H a y o):s.TypeIs (.ref a) "dict":=by
 rcases g with ⟨kvs,k,e,_,_⟩|⟨kvs,k,b,e,_,_,_⟩
 .obtain ⟨_,_,vs,_,z⟩:=bR I.hok e;exact z.typeIs
 .obtain ⟨_,_,xs,_,z⟩:=eK I.hok e;exact z.typeIs
structure M1(X:Cx)(o:Kf)(m:Str)(Z1:Pos)(e:Kf)(cpos:Pos):Prop where
 base:KU o m X.env (KZ o X.env)=KZ o X.env
 few:((MA cpos (Kv [e] X.env)).all (λx=>!x.1)&&(backToKw cpos (Nl [] X.env)).all (λx=>x.1.isSome)
  && decide (([e]:List Kf).length+([]:List Keyword).length+(if ([]:List Keyword).isEmpty then 0 else 1)<30))=true
 line:(Z1.endLine==cpos.line)=true
 trees:MA cpos (Kv [e] X.env)=[(false,KZ e X.env)]
structure M2(X:Cx)(o:Kf)(m:Str)(Z1:Pos)(e f:Kf)(cpos:Pos):Prop where
 base:KU o m X.env (KZ o X.env)=KZ o X.env
 few:((MA cpos (Kv [e,f] X.env)).all (λx=>!x.1)&&(backToKw cpos (Nl [] X.env)).all (λx=>x.1.isSome)
  && decide (([e,f]:List Kf).length+([]:List Keyword).length+(if ([]:List Keyword).isEmpty then 0 else 1)<30))=true
 line:(Z1.endLine==cpos.line)=true
 trees:MA cpos (Kv [e,f] X.env)=[(false,KZ e X.env),(false,KZ f X.env)]
def IsD(H:Hp)(a:Addr):Prop:=(∃kvs,Rd H a (.dK kvs))\/∃kvs,Rd H a (.dT kvs)
theorem jD{a:Addr}(I:Inv X Go σ H s)(d:IsD H a):
  s.TypeIs (.ref a) "dict"/\(∀b,Ko a = .ref b->∃ob,s.heap.get? b=some ob/\ob.dict=none)/\(a==sysModules)=false:=by
 rcases d with ⟨kvs,e⟩|⟨kvs,e⟩
 .obtain ⟨_,hd,vs,_,z⟩:=bR I.hok e;refine ⟨z.typeIs,λb q=>?_,hd⟩;cases q;obtain ⟨ob,_,_,h1,h2,_⟩:=z;exact ⟨ob,h1,h2.2.1⟩
 .obtain ⟨_,hd,xs,_,z⟩:=eK I.hok e;refine ⟨z.typeIs,λb q=>?_,hd⟩;cases q;obtain ⟨ob,_,_,h1,h2,_⟩:=z;exact ⟨ob,h1,h2.2.1⟩
section
variable {X:Cx}{Go:List (Addr×Obj)}{σ:St}{H:Hp}{s:JR}{a:Addr}{y d:V}{u r:Value}{o:Option V}{A:Kk}{E:Value->JR->Prop}
theorem Ii(Z:A.units+1<cLine)(I:Inv X Go σ H s)(g:cU H a y o)(S:zl y u)(U:zl d r)(h:∀w' s',Inv X Go σ H s'->zl (o.getD d) w'->Q w' s'):
  J3 (J6 X.prog X.w) A (call (.builtin "dict.get") [.ref a,u,r]) Q E s:=by
 rcases g with ⟨kvs,k,e,O,l⟩|⟨kvs,k,b,e,O,W,l⟩
 .subst O;obtain ⟨z,hd,vs,J,G⟩:=bR I.hok e;refine M5 slot_dict_get G.typeIs PySem.F.entry_dict_get (Oc _ _ _) (meets_dict_get_default (aw X.prog X.w) a (dE S) hd r) ⟨_,G.mapOf,h _ _ (I.tok _) ?_⟩;rw [l];exact (J.val k).getD U
 .subst O;cases (show u=Ko b from S);obtain ⟨z,hd,xs,J,G⟩:=eK I.hok e;refine M5 slot_dict_get G.typeIs PySem.F.entry_dict_get (Oc _ _ _) (meetsH_dict_get_default (N0 (aw X.prog X.w)) a b hd r) ⟨Md Z,k,xs,fS I.hok W,G,h _ _ (I.tok _) ?_⟩;rw [l];exact (J.val k).getD U
end
section
variable {X:Cx}{Go:List (Addr×Obj)}{σ:St}{H:Hp}{s:JR}{a:Addr}{kvs:List (Key×V)}{A:Kk}{E:Value->JR->Prop}
theorem xh(I:Inv X Go σ H s)(e:Rd H a (.dK kvs))(h:∀p s',H p=none->Inv X Go σ (upd H p (.dK kvs)) s'->Q (.ref p) s'):J3 (J6 X.prog X.w) A (call (.type "dict") [.ref a]) Q E s:=by
 obtain ⟨z,hd,vs,G,J⟩:=bR I.hok e;refine kt_call_dict hd J (by rw [<- G.length];exact z) λh' O hs=>?_;refine h _ _ (I.hok.fresh (JY _)) (I.laid (a:=s.heap.objs.size) (o:=.dK kvs) (t':=s.toks) (λb q F=>?_) (JY _) (iV z (beq_eq_false_iff_ne.mpr (Lv (Ky I.big))) G O));exact (hs.2 b (Ky (Kq F))).trans (JU _ F)
end
section
variable {κ:Type} [DecidableEq κ]
theorem yk{p:κ×V}{r:List (κ×V)}{k:κ}(e:p.1=k):br (p::r) k=br r k:=by
 unfold br;rw [Mz,if_neg (by simp [e])]
theorem Ho{p:κ×V}{r:List (κ×V)}{k:κ}(e : ¬ p.1=k):br (p::r) k=p::br r k:=by
 unfold br;rw [Mz,if_pos (by simp [e])]
end
section
variable {X:Cx}{Go:List (Addr×Obj)}{σ:St}{H:Hp}{s:JR}{a:Addr}{o:Obj}{kvs:List (Key×V)}
theorem Inv.swap(I:Inv X Go σ H s)(e:H a=some F)(h1:∀x,F≠.own x)(h2:∀xs,F≠.tup xs)(h3:∀ob,F≠.frz ob (.own 0))(S:∀ps,F≠.tbl ps)(Z:∀ob u,X.H₀ a≠some (.frz ob u))(new:∀H',z7 X.prog X.w H' s.heap a J):Inv X Go σ (upd H a J) s:=by
 have ne:∀b,H b=none->b≠a:=λb n z=>by subst z;rw [e] at n;cases n
 have G:∀b,H b=none->upd H a J b=none:=λb n=>by rw [zf (ne b n)];exact n
 refine ⟨I.ok,I.os,I.bare,⟨I.base.keep,I.base.slot,λb ob q n hx=>G b (I.base.free b ob q n hx),I.base.there,λb xs q=>?_,λb ob u q=>?_,λb ps q=>?_⟩,I.loc,I.cell,G _ I.free,λx c q=>G c (I.wa x c q),λp hp=>?_,λb u q=>?_,I.len,?_⟩
 .have z:=I.base.tups b xs q;rw [zf (λy=>by subst y;rw [e] at z;cases z;exact h2 _ rfl)];exact z
 .by_cases hb:b=a
  .subst hb;exact absurd q (Z ob u)
  .rw [zf hb];exact I.base.frzs b ob u q
 .obtain ⟨more,z⟩:=I.base.tbls b ps q;exact ⟨more,by rw [zf (λy=>by subst y;rw [e] at z;cases z;exact S _ rfl)];exact z⟩
 .obtain ⟨W,p2,U⟩:=I.pin p hp;exact ⟨W,G _ p2,U⟩
 .by_cases hb:b=a
  .subst hb;rw [zq] at q;cases q;exact new _
  .rw [zf hb] at q;exact (I.hok b u q).Oy (λc z _ y=>y) (λc z=>by rw [zf (λy=>by subst y;rw [e] at z;cases z;exact h1 _ rfl)];exact z) (λc xs z=>by rw [zf (λy=>by subst y;rw [e] at z;cases z;exact h2 _ rfl)];exact z)
 .rcases I.hdk with z|⟨b,ob,vs,q1,O,q3⟩
  .exact .inl z
  .exact .inr ⟨b,ob,vs,q1,by rw [zf (λy=>by subst y;rw [e] at O;cases O;exact h3 _ rfl)];exact O,q3⟩
theorem Inv.freeze(I:Inv X Go σ H s)(e:H a=some (.dK kvs)):(∀ob u,X.H₀ a≠some (.frz ob u))/\∃o,Inv X Go σ (upd H a (.frz o (.dK kvs))) s:=by
 have G:∀ob u,X.H₀ a≠some (.frz ob u):=λob u q=>by
  have z:=I.base.frzs a ob u q;rw [e] at z;cases z
 refine ⟨G,?_⟩;obtain ⟨z,hd,vs,J,F⟩:=jo I.hok e;obtain ⟨o,es,ep,ho,r⟩:=id F;exact ⟨o,I.swap e (λ_ q=>nomatch q) (λ_ q=>nomatch q) (λ_ q=>nomatch q) (λ_ q=>nomatch q) G λH'=>⟨ho,z,hd,vs,J,F⟩⟩
theorem Inv.L4(I:Inv X Go σ H s)(e:H a=some (.frz o (.dK kvs)))(F:∀ob u,X.H₀ a≠some (.frz ob u)):Inv X Go σ (upd H a (.dK kvs)) s:=by
 obtain ⟨ho,z⟩:=I.hok a _ e;exact I.swap e (λ_ q=>nomatch q) (λ_ q=>nomatch q) (λ_ q=>by injection q with _ q;cases q) (λ_ q=>nomatch q) F λH'=>z
end
def dH(a:Addr)(kvs:List (Key×V))(H:Hp)(R:Hp->Prop):Prop:=∃o,H a=some (.frz o (.dK kvs))/\R (upd H a (.dK kvs))
def aR.L4(D:aR)(a:Addr)(kvs:List (Key×V)):aR:=⟨λσ H=>dH a kvs H (D.nx σ),λv H=>dH a kvs H (D.rt v),λσ H=>dH a kvs H (D.bk σ),λσ H=>dH a kvs H (D.ct σ)⟩
def tFz(t:TS):TS:=λD σ H=>∃a kvs,H a=some (.dK kvs)/\∀o,t (D.L4 a kvs) σ (upd H a (.frz o (.dK kvs)))
def wq(t:TE):TE:=λσ H Q=>∃a kvs,H a=some (.dK kvs)/\∀o,t σ (upd H a (.frz o (.dK kvs))) λv H'=>dH a kvs H' (Q v)
theorem pq{st:Stmt}{t:TS}(h:W (PS X st t)):W (PS X st (tFz t)):=by
 refine ⟨?_⟩;have h:=h.h;rintro Go s σ H D I ⟨a,kvs,e,q⟩;obtain ⟨O,o,S⟩:=I.freeze e;refine thn (h Go s σ _ _ S (q o)) λf s' z=>?_;cases f with
 | next=>obtain ⟨F,H',J,o',G,d⟩:=z;exact ⟨F,_,J.L4 G O,d⟩
 | brk=>obtain ⟨F,H',J,o',G,d⟩:=z;exact ⟨F,_,J.L4 G O,d⟩
 | cont=>obtain ⟨F,H',J,o',G,d⟩:=z;exact ⟨F,_,J.L4 G O,d⟩
 | ret u=>obtain ⟨v,F,H',J,r,o',G,d⟩:=z;exact ⟨v,F,_,J.L4 G O,r,d⟩
theorem yH{t:TE}(h:W (PE X e t)):W (PE X e (wq t)):=by
 refine ⟨?_⟩;have h:=h.h;rintro Go s σ H Q I ⟨a,kvs,e,q⟩;obtain ⟨J,o,G⟩:=I.freeze e;refine thn (h Go s σ _ _ G (q o)) λu s' z=>?_;obtain ⟨v,H',F,r,o',O,d⟩:=z;exact ⟨v,_,F.L4 O J,r,d⟩
theorem KV.at(r:KV kvs vs):∀{i:Nat}{p:Key×V},kvs[i]?=some p->∃u,vs[i]?=some (p.1,u)/\zl p.2 u:=by
 induction r with
 | nil=>intro i p h;simp at h
 | @cons x y l m r t z =>
  intro i p h;cases i with
  | zero =>
   have e:x=p:=by simpa using h
   subst e;exact ⟨y.2,by rw [r.1];rfl,r.2⟩
  | succ i=>exact z (by simpa using h)
def Itd(a:Addr)(o:Obj)(kvs:List (Key×V)):It:=⟨λi H=>H a=some (.frz o (.dK kvs))/\i<kvs.length,λi H x H'=>H'=H/\∃p,kvs[i]?=some p/\x=kV p.1,λi H=>H a=some (.frz o (.dK kvs))/\kvs.length<=i⟩
def Itw(a:Addr)(o:Obj)(kvs:List (Key×V)):It:=⟨λi H=>H a=some (.frz o (.dK kvs))/\i<kvs.length,λi H x H'=>H'=H/\∃p,kvs[i]?=some p/\x=p.2,λi H=>H a=some (.frz o (.dK kvs))/\kvs.length<=i⟩
theorem fJ{a:Addr}{o:Obj}(I:Inv X Go σ H s)(e:H a=some (.frz o (.dK kvs)))(hd:o.data = .dict es ep):
  (a==sysModules)=false/\∃vs,KV kvs vs/\s.heap.DictAt (aw X.prog X.w) a vs ep/\vs.length=kvs.length:=by
 obtain ⟨ho,z,hm,vs,G,o',S,O,J,hc,F,r⟩:=I.hok a _ e;rw [ho] at J;cases J;rw [hd] at F;cases F;exact ⟨hm,vs,G,⟨o,es,ho,hc,hd,r⟩,G.length.symm⟩
theorem v8{a:Addr}{o:Obj}(I:Inv X Go σ H s)(e:H a=some (.frz o (.dK kvs))):∃es ep,o.data = .dict es ep:=by
 obtain ⟨ho,z,hm,vs,O,o',S,J,G,hc,F,r⟩:=I.hok a _ e;rw [ho] at G;cases G;exact ⟨_,_,F⟩
theorem Ff{P:JZ}{w:Ke}{K:JV}{tg:Kf}(a it:Addr){o:Obj}{kvs:List (Key×V)}{es:Array DictEntry}{ep:Nat}(hd:o.data = .dict es ep):dq true P w K tg (Itd a o kvs) [it] it (λi h=>h.IsKeyIter it a i kvs.length ep) where
 mem:=by simp
 obj:=λi h st b hb=>by
  have e:b=it:=by simpa using hb
  subst e;obtain ⟨o,e,c,d⟩:=st;exact ⟨o,e,λv z=>by rw [d] at z;cases z⟩
 keep:=λi h h' st k=>st.at λo e=>k it (by simp) o e
 item:=by
  intro X Z hw hK hc i Go s σ H E I hf st hg;subst Z hw hK;obtain ⟨W,hi⟩:=hg;obtain ⟨hm,vs,Zq,dd,hl⟩:=fJ I W hd;obtain ⟨p,hp⟩:∃p,kvs[i]?=some p:=⟨kvs[i],by simp [hi]⟩;obtain ⟨u,hu,ru⟩:=Zq.at hp;obtain ⟨U,S,f2,f3,f4,F⟩:=hf it (by simp);rw [<- hl] at st;refine wpAny_pyNext_dict_item st dd hu λXU h' hk O sb=>?_;rw [hl] at O;have I1:Inv X Go σ H { s with heap:=h' }:=I.turned (t':=s.toks) (λb o hb e=>(sb.2 b hb).trans e) U S f3 f4 F;have rk:zl (kV p.1) XU:=by
   rcases cG (show dz p.1 XU=true from hk) with ⟨j,t,G,J⟩|⟨x,t,G,J⟩
   .rw [G,J];exact ⟨t,rfl⟩
   .rw [G,J];exact ⟨t,rfl⟩
  obtain ⟨o,e,c,d⟩:=id O;exact ⟨XU,rfl,fK (s:={ s with heap:=h' }) e c d (by decide) ⟨kV p.1,H,I1,rk,⟨rfl,p,hp,rfl⟩,O,λb hb=>(hf b hb).1⟩⟩
 done:=by
  intro X Z hw hK hc i Go s σ H E I hf st hg;subst Z hw hK;obtain ⟨W,hi⟩:=hg;obtain ⟨hm,vs,Zq,dd,hl⟩:=fJ I W hd;obtain ⟨U,S,f2,f3,f4,F⟩:=hf it (by simp);rw [<- hl] at st;exact wpAny_pyNext_dict_end (I.ok.hd (hc rfl)) st dd (LU (by lia)) λh' eb=>⟨rfl,I.turned (t':=s.toks) (λb o hb e=>eb b o hb e) U S f3 f4 F⟩
 self:=λ_ _ _ _ _ st h=>wpAny_pyIter_keyiter st h
theorem yI{P:JZ}{w:Ke}{K:JV}{tg:Kf}(a it:Addr){o:Obj}{kvs:List (Key×V)}{es:Array DictEntry}{ep:Nat}(hd:o.data = .dict es ep):dq true P w K tg (Itw a o kvs) [it] it (λi h=>h.IsValIter it a i kvs.length ep) where
 mem:=by simp
 obj:=λi h st b hb=>by
  have e:b=it:=by simpa using hb
  subst e;obtain ⟨o,e,c,d⟩:=st;exact ⟨o,e,λv z=>by rw [d] at z;cases z⟩
 keep:=λi h h' st k=>st.at λo e=>k it (by simp) o e
 item:=by
  intro X U hw hK hc i Go s σ H E I hf st hg;subst U hw hK;obtain ⟨S,hi⟩:=hg;obtain ⟨hm,vs,Zq,dd,hl⟩:=fJ I S hd;obtain ⟨p,hp⟩:∃p,kvs[i]?=some p:=⟨kvs[i],by simp [hi]⟩;obtain ⟨u,hu,ru⟩:=Zq.at hp;obtain ⟨O,J,f2,Z,W,F⟩:=hf it (by simp);rw [<- hl] at st;refine wpAny_pyNext_values_item st dd hu λh' G sb=>?_;rw [hl] at G;have I1:Inv X Go σ H { s with heap:=h' }:=I.turned (t':=s.toks) (λb o hb e=>(sb.2 b hb).trans e) O J Z W F;obtain ⟨o,e,c,d⟩:=id G;exact ⟨u,rfl,fK (s:={ s with heap:=h' }) e c d (by decide) ⟨p.2,H,I1,ru,⟨rfl,p,hp,rfl⟩,G,λb hb=>(hf b hb).1⟩⟩
 done:=by
  intro X U hw hK hc i Go s σ H E I hf st hg;subst U hw hK;obtain ⟨S,hi⟩:=hg;obtain ⟨hm,vs,Zq,dd,hl⟩:=fJ I S hd;obtain ⟨O,J,f2,Z,W,F⟩:=hf it (by simp);rw [<- hl] at st;exact wpAny_pyNext_values_end (I.ok.hd (hc rfl)) st dd (LU (by lia)) λh' eb=>⟨rfl,I.turned (t':=s.toks) (λb o hb e=>eb b o hb e) O J Z W F⟩
 self:=λ_ _ _ _ _ st h=>wpAny_pyIter_valiter st h
section
variable {X:Cx}{tg:Kf}
def lh(tl:TE):TI:=λσ H R=>tl σ H λx H1=>∃a o kvs,x = .ref a/\H1 a=some (.frz o (.dK kvs))/\R (Itd a o kvs) H1
def kM(tl:TE):TI:=λσ H R=>tl σ H λx H1=>∃a o kvs,x = .ref a/\H1 a=some (.frz o (.dK kvs))/\R (Itw a o kvs) H1
theorem rX(hl:W (PE X l tl)):W (PI X tg l (lh tl)):=by
 refine ⟨?_⟩;have hl:=hl.h;intro Go s σ H R I h;refine thn (hl Go s σ H _ I h) λv s1=>x5e λx H1 z G q1=>?_;obtain ⟨a,o,kvs,e,F,q⟩:=q1;subst e;cases G;obtain ⟨es,ep,hd⟩:=v8 z F;obtain ⟨hm,vs,O,J,hl⟩:=fJ z F hd;refine wpAny_pyIter_dict hm J ?_;rw [hl];refine ⟨s1.heap.objs.size,[s1.heap.objs.size],_,_,H1,rfl,z.kept (t':=s1.toks) λb o e=>JU _ e,Ff a _ hd,⟨_,J7 _ rfl,rfl,rfl⟩,λb hb=>?_,q⟩;have e:b=s1.heap.objs.size:=by simpa using hb
 subst e;exact z.Oz (JY _) (z.hok.fresh (JY _))
theorem lX(ho:W (PE X l tl))(S:KU l "values" X.env (KZ l X.env)=KZ l X.env:=by rfl)(Z:(Z1.endLine==cpos.line)=true:=by rfl):W (PI X tg (.Call (.Attribute l "values" Z1) [] [] cpos) (kM tl)):=by
 refine ⟨?_⟩;have ho:=ho.h;intro Go s σ H R I h;refine MP S Z (thn (ho Go s σ H _ I h) λv s1=>x5e λx H1 z O U=>?_);obtain ⟨a,o,kvs,ex,G,q⟩:=U;subst ex;cases O;obtain ⟨es,ep,hd⟩:=v8 z G;obtain ⟨hm,vs,Zq,J,hl⟩:=fJ z G hd;obtain ⟨t1,t2,_⟩:=jD z (.inl ⟨kvs,.inr ⟨o,G⟩⟩);refine ⟨"dict","dict.values",Nr,Nc,NW,t1,t2,Calls.callWith_builtin rfl (Nt ?_)⟩;refine M5 Nc J.dictOf.typeIs NM (NF _) (meets_dict_values (aw X.prog X.w) a hm) ⟨⟨vs,J.dictOf⟩,?_⟩;have hv:(s1.heap.push { cls:=.type "dict_values",data:=.fields #[.ref a] }).IsValuesView s1.heap.objs.size a:=⟨_,J7 _ rfl,rfl,rfl⟩;refine wpAny_pyIter_values (s:={ s1 with heap:=s1.heap.push { cls:=.type "dict_values",data:=.fields #[.ref a] } }) hv (J.push _) ?_;rw [hl];have F:Inv X Go σ H1 { s1 with heap:=s1.heap.push { cls:=.type "dict_values",data:=.fields #[.ref a] } }:=z.kept (t':=s1.toks) λb o e=>JU _ e;refine ⟨_,[_],_,_,H1,rfl,F.kept (t':=s1.toks) λb o e=>JU _ e,yI a _ hd,⟨_,J7 _ rfl,rfl,rfl⟩,λb hb=>?_,q⟩;have e:=KS.mp hb;subst e;exact F.Oz (JY _) (F.hok.fresh (JY _))
end
def uK(y:V)(q:Key->Prop):Prop:=∃k,y=kV k/\q k
theorem yG:uK (.str z) q=q (.inr z):=by
 apply propext;constructor
 .rintro ⟨k,e,h⟩;cases k with
  | inl i=>cases e
  | inr x=>cases e;exact h
 .exact λh=>⟨.inr z,rfl,h⟩
theorem Dg:uK (.int i) q=q (.inl i):=by
 apply propext;constructor
 .rintro ⟨k,e,h⟩;cases k with
  | inl i=>cases e;exact h
  | inr x=>cases e
 .exact λh=>⟨.inl i,rfl,h⟩
section
variable {X:Cx}
def oG:R2:=λx y H Q=>∃a k kvs v,x = .ref a/\y=kV k/\Rd H a (.dK kvs)/\zS kvs k=some v/\Q v H
theorem c0(Z:X.A.units+1<cLine):IxR X oG:=by
 intro Zp S Go s σ H x y v u Q I J O h hs;obtain ⟨a,k,kvs,z,rfl,rfl,U,he,q⟩:=h;obtain rfl:v=Ko a:=J;have g:cU H a (kV k) (some z):=.inl ⟨kvs,k,U,rfl,he.symm⟩;unfold subscriptTail;refine we ?_;rw [getitemInPython_of_ne (wA I g).not_modules];refine we (wpAny_specialOf (wA I g) PySem.F.slot_dict_getitem.lookup ?_);have G:J3 (J6 X.prog X.w) X.A (subscripted S false (.ref a) u) (λr s₃=>J3 (J6 X.prog X.w) X.A (letTemporaryGo Zp (.ref a) r>>=λ_=>pure r) (EP X Go σ Q) X.xe s₃) X.xe s:=by
  rw [hs];exact wpAny_operating (E5 Z I g O λw' s3 W Yj=>we (wpAny_letTemporaryGo (JT ⟨z,H,W,Yj,q⟩)))
 first
  | exact JT (we G)
  | exact we (JT (we G))
  | exact we G
def j7(c:Bool):R2:=λy x H Q=>∃a k kvs,x = .ref a/\y=kV k/\Rd H a (.dK kvs)/\Q (.bl (if c then !(zS kvs k).isSome else (zS kvs k).isSome)) H
theorem GH(O:X.A.units+1<cLine):OpR X (KG .In) (j7 false):=by
 intro Go s σ H x y v u Q I z F h;obtain ⟨a,k,kvs,rfl,rfl,G,q⟩:=h;obtain rfl:u=Ko a:=F;exact EC O I (.inl ⟨kvs,k,G,rfl,rfl⟩) z λS J=>⟨.bl (zS kvs k).isSome,H,J,rfl,q⟩
theorem nj(O:X.A.units+1<cLine):OpR X (KG .NotIn) (j7 true):=by
 intro Go s σ H x y v u Q I z F h;obtain ⟨a,k,kvs,rfl,rfl,G,q⟩:=h;obtain rfl:u=Ko a:=F;exact BI O I (.inl ⟨kvs,k,G,rfl,rfl⟩) z λS J=>⟨.bl (!(zS kvs k).isSome),H,J,rfl,q⟩
theorem AH{p:Addr}:j7 c (.str x) (.ref p) H Q = ∃kvs,Rd H p (.dK kvs)/\Q (.bl (if c then !(zS kvs (.inr x)).isSome else (zS kvs (.inr x)).isSome)) H:=by
 apply propext;constructor
 .rintro ⟨a,k,kvs,F,z,h,q⟩;cases F;cases k with
  | inl i=>cases z
  | inr x=>cases z;exact ⟨kvs,h,q⟩
 .rintro ⟨kvs,h,q⟩;exact ⟨p,.inr x,kvs,rfl,rfl,h,q⟩
def iT:V->V->V->Hp->(Hp->Prop)->Prop:=λo i v H Q=>nS o i v H Q\/∃a k kvs,o = .ref a/\i=kV k/\H a=some (.dK kvs)/\kvs.length<sizeLine/\Q (upd H a (.dK (aE kvs k v)))
theorem eB(O:X.A.units+1<cLine):mH X iT:=by
 intro Go s σ H o i v J U u Q I F z G h;rcases h with h|⟨a,k,kvs,rfl,rfl,e,l,q⟩
 .exact mf Go s σ H o i v J U u Q I F z G h
 .obtain rfl:J=Ko a:=F;exact Cz O I (.inl ⟨kvs,k,e,rfl,l,rfl⟩) z G λs' S=>⟨_,S,q⟩
theorem Fz{a:Addr}:iT (.ref a) (.str z) v H Q = ∃kvs,H a=some (.dK kvs)/\kvs.length<sizeLine/\Q (upd H a (.dK (aE kvs (.inr z) v))):=by
 apply propext;constructor
 .rintro (⟨_,_,_,_,_,e,_⟩|⟨J,k,kvs,G,F,h,l,q⟩)
  .cases e
  .cases G;cases k with
   | inl i=>cases F
   | inr x=>cases F;exact ⟨kvs,h,l,q⟩
 .rintro ⟨kvs,h,l,q⟩;exact .inr ⟨a,.inr z,kvs,rfl,rfl,h,l,q⟩
theorem Em{a:Addr}:iT (.ref a) (.int i) v H Q=((∃xs j,H a=some (.lst xs)/\ixN xs.length i=some j/\Q (upd H a (.lst (xs.set j v))))\/∃kvs,H a=some (.dK kvs)/\kvs.length<sizeLine/\Q (upd H a (.dK (aE kvs (.inl i) v)))):=by
 apply propext;unfold iT;rw [tK];constructor
 .rintro (h|⟨G,k,kvs,F,z,h,l,q⟩)
  .exact .inl h
  .cases F;cases k with
   | inl i=>cases z;exact .inr ⟨kvs,h,l,q⟩
   | inr x=>cases z
 .rintro (h|⟨kvs,h,l,q⟩)
  .exact .inl h
  .exact .inr ⟨a,.inl i,kvs,rfl,rfl,h,l,q⟩
def uy(td ty:TE):TS:=λD σ H=>td σ H λx H1=>ty σ H1 λy H2=>uR x λa=>uK y λk=>∃kvs,H2 a=some (.dK kvs)/\(zS kvs k).isSome=true/\D.nx σ (upd H2 a (.dK (br kvs k)))
theorem rB{o i:Kf}(ho:W (PE X o td))(hi:W (PE X i ty)):W (PS X (.Delete [.Subscript o i Xu] pos) (uy td ty)):=by
 refine ⟨?_⟩;have ho:=ho.h;have hi:=hi.h;intro Go s σ H D I h;refine wpAny_Delete (wpAny_deleteEach_cons (wpAny_delete_Subscript (thn (ho Go s σ H _ I h) λu s1=>x5e λx H1 Z z q1=>thn (hi Go s1 σ H1 _ Z q1) λiv s2=>x5e λy H2 G F O=>?_)));obtain ⟨a,ex,k,J,kvs,e,l,S⟩:=O;subst ex J;obtain rfl:u=Ko a:=z;exact yZ G e F l λs3 U=>wpAny_deleteEach_nil ⟨σ,_,U,S⟩
theorem DB:uy td ty D σ H=td σ H λx H1=>ty σ H1 λy H2=>uR x λa=>uK y λk=>∃kvs,H2 a=some (.dK kvs)/\(zS kvs k).isSome=true/\D.nx σ (upd H2 a (.dK (br kvs k))):=rfl
def pV(td ty tx:TE):TE:=λσ H Q=>td σ H λx H1=>uR x λa=>(∃kvs,Rd H1 a (.dK kvs))/\ty σ H1 λy H2=>tx σ H2 λz H3=>uK y λk=>∃kvs,Rd H3 a (.dK kvs)/\Q ((zS kvs k).getD z) H3
theorem Jc{td ty tx:TE}:pV td ty tx σ H Q=td σ H λx H1=>uR x λa=>(∃kvs,Rd H1 a (.dK kvs))/\ty σ H1 λy H2=>tx σ H2 λz H3=>uK y λk=>∃kvs,Rd H3 a (.dK kvs)/\Q ((zS kvs k).getD z) H3:=rfl
theorem kT{o e f:Kf}{td ty tx:TE}(hu:X.A.units+1<cLine)(ho:W (PE X o td))(he:W (PE X e ty))(hf:W (PE X f tx))(m:M2 X o "get" Z1 e f cpos:=by exact ⟨rfl,rfl,rfl,rfl⟩):W (PE X (.Call (.Attribute o "get" Z1) [e,f] [] cpos) (pV td ty tx)):=by
 refine ⟨?_⟩;have ho:=ho.h;have he:=he.h;have hf:=hf.h;intro Go s σ H Q I h;refine wpAny_Call_method m.base m.few m.line Nr slot_dict_get PySem.F.type_dict_get (thn (ho Go s σ H _ I h) λu s1=>x5e λx H1 J S XI=>?_);obtain ⟨a,ex,d,q1⟩:=XI;subst ex;obtain rfl:u=Ko a:=S;obtain ⟨t1,t2,_⟩:=jD J (.inl d);refine ⟨t1,t2,?_⟩;rw [m.trees];refine Calls.callWith_builtin rfl (Calls.evalArgs_plain (Calls.spliced_cons (thn (he Go s1 σ H1 _ J q1) λiv s2=>x5e λy H2 U O q2 =>
  Calls.spliced_cons (thn (hf Go s2 σ H2 _ U q2) λfv s3=>x5e λz H3 I3 rz G=>Calls.spliced_nil ?_))))
 obtain ⟨k,Z,kvs,g,q3⟩:=G;subst Z;exact Ii hu I3 (.inl ⟨kvs,k,g,rfl,rfl⟩) O rz λw' s4 I4 Yj=>⟨_,H3,I4,Yj,q3⟩
def ve(td ty:TE):TE:=λσ H Q=>td σ H λx H1=>uR x λa=>(∃kvs,Rd H1 a (.dK kvs))/\ty σ H1 λy H2=>uK y λk=>∃kvs,H2 a=some (.dK kvs)/\∃v,zS kvs k=some v/\Q v (upd H2 a (.dK (br kvs k)))
theorem EI:ve td ty σ H Q=td σ H λx H1=>uR x λa=>(∃kvs,Rd H1 a (.dK kvs))/\ty σ H1 λy H2=>uK y λk=>∃kvs,H2 a=some (.dK kvs)/\∃v,zS kvs k=some v/\Q v (upd H2 a (.dK (br kvs k))):=rfl
theorem rZ{o e:Kf}(ho:W (PE X o td))(he:W (PE X e ty))(m:M1 X o "pop" Z1 e cpos:=by exact ⟨rfl,rfl,rfl,rfl⟩):W (PE X (.Call (.Attribute o "pop" Z1) [e] [] cpos) (ve td ty)):=by
 refine ⟨?_⟩;have ho:=ho.h;have he:=he.h;intro Go s σ H Q I h;refine wpAny_Call_method m.base m.few m.line Nr PySem.F.slot_dict_pop PySem.F.type_dict_pop (thn (ho Go s σ H _ I h) λu s1=>x5e λx H1 J O z=>?_);obtain ⟨a,ex,d,q1⟩:=z;subst ex;obtain rfl:u=Ko a:=O;obtain ⟨t1,t2,_⟩:=jD J (.inl d);refine ⟨t1,t2,?_⟩;rw [m.trees];refine Calls.callWith_builtin rfl (Calls.evalArgs_plain (Calls.spliced_cons (thn (he Go s1 σ H1 _ J q1) λiv s2=>x5e λy H2 U S G=>Calls.spliced_nil ?_)));obtain ⟨k,Z,kvs,ea,v,l,q2⟩:=G;subst Z;exact Ey U ea S l (.inl rfl) λw' s3 I3 Yj=>⟨v,_,I3,Yj,q2⟩
end
end L2
namespace L2
open PySem PySem.Spec PyProof.Rows PySem.W PySem.Calls
def leS(a b:Str):Prop:=ltCps b.cps.toList a.cps.toList=false
theorem uW{a b:Str}(h1:leS a b)(h2:leS b a):a=b:=by
 unfold leS at h1 h2;rw [ltCps_eq] at h1 h2;exact gz (LX.total a.cps.toList b.cps.toList h2 h1)
theorem pK:∀{l:List Str},sortedS l=true->l.Pairwise leS:=by
 have XU:∀(r:List Str)(x:Str),risingS x r=true->(x::r).Pairwise leS:=by
  intro r
  induction r with
  | nil=>intro x _;simp
  | cons y r S =>
   intro x h;have h':(!ltCps y.cps.toList x.cps.toList&&risingS y r)=true:=h;rw [KD,Nv] at h';have F:=S y h'.2;refine Lm.mpr ⟨λz hz=>?_,F⟩;rcases J1.mp hz with rfl|hz
   .exact h'.1
   .have G:=(Lm.mp F).1 z hz;unfold leS at G ⊢;have J:=h'.1;rw [ltCps_eq] at G J ⊢;exact KeyOrd.kle_trans (O:=LX.toKeyOrd) J G
 intro l h;cases l with
 | nil=>exact .nil
 | cons x r=>exact XU r x h
theorem mU:∀{l m:List Str},l.Perm m->l.Pairwise leS->m.Pairwise leS->l=m
 | [],m,p,_,_=>(Perm.nil_eq p)
 | x::l,[],p,_,_=>absurd p.length_eq (by simp)
 | x::l,y::m,p,hl,hm=>by
  have e:x=y:=by
   have h1:x∈y::m:=p.mem_iff.mp (Kg ..);have h2:y∈x::l:=p.mem_iff.mpr (Kg ..);rcases J1.mp h1 with e|h1
   .exact e
   .rcases J1.mp h2 with e|h2
    .exact e.symm
    .exact uW ((Lm.mp hl).1 y h2) ((Lm.mp hm).1 x h1)
  subst e;rw [mU ((List.perm_cons x).mp p) (Lm.mp hl).2 (Lm.mp hm).2]
open Classical in
noncomputable def zr(ks:List Str):List Str:=if h:∃z:List Str,z.Perm ks/\sortedS z=true then h.choose else ks
theorem vP(p:z.Perm ks)(h:sortedS z=true):z=zr ks:=by
 have ex:∃z:List Str,z.Perm ks/\sortedS z=true:=⟨z,p,h⟩;unfold zr;rw [dif_pos ex];exact mU (p.trans ex.choose_spec.1.symm) (pK h) (pK ex.choose_spec.2)
section
variable {X:Cx}
def qy:List V->Hp->VK->Prop:=λxs H Q=>uR1 xs λa=>∃kvs,Rd H a (.dK kvs)/\∀p H2,New H p (.dK kvs) H2->Q (.ref p) H2
theorem GI{a:Addr}:qy [.ref a] H Q = ∃kvs,Rd H a (.dK kvs)/\∀p H2,New H p (.dK kvs) H2->Q (.ref p) H2:=dw
theorem kh:zI X (.type "dict") qy:=by
 intro Go s σ H xs us Q I r h;obtain ⟨a,rfl,kvs,ha,q⟩:=h;obtain ⟨u,rfl,z⟩:=bo r;cases z;exact xh I ha λp s' F G=>⟨.ref p,_,G,rfl,q _ _ (.mk' F)⟩
def sk(kvs:List (Str×V)):List (Key×V):=kvs.map λp=>(.inr p.1,p.2)
def qe:List V->Hp->VK->Prop:=λxs H Q=>uR1 xs λa=>∃kvs:List (Str×V),Rd H a (.dK (sk kvs))/\kvs.length<64/\∀p H2,New H p (.lst ((zr (kvs.map (·.1))).map V.str)) H2->Q (.ref p) H2
theorem C4{a:Addr}:qe [.ref a] H Q = ∃kvs:List (Str×V),Rd H a (.dK (sk kvs))/\kvs.length<64/\∀p H2,New H p (.lst ((zr (kvs.map (·.1))).map V.str)) H2->Q (.ref p) H2:=dw
theorem pN:∀{vs:List Value}{z:List Str},vs.length=z.length->(∀(j:Nat)(v:Value),vs[j]?=some v->∃t,v=Ng (z.getD j "") t)->StrsAre vs z
 | [],[],_,_=>.nil
 | [],_::_,h,_=>absurd h (by simp)
 | _::_,[],h,_=>absurd h (by simp)
 | v::vs,x::z,h,f=>by
  obtain ⟨t,e⟩:=f 0 v rfl;have G:v=Ng x t:=e;rw [G];exact .cons x t (pN (by simpa using h) λj u F=>f (j+1) u F)
theorem uM:∀{vs:List Value}{z:List Str},StrsAre vs z->zm (z.map V.str) vs
 | _,_,.nil=>.nil
 | _,_,.cons x t h=>.cons ⟨t,rfl⟩ (uM h)
theorem dJ(hc:X.calm=true):zI X (.builtin "sorted") qe:=by
 intro Go s σ H xs us Q I r h;obtain ⟨a,rfl,kvs,hq,XD,q⟩:=h;obtain ⟨u,rfl,ru⟩:=bo r;cases ru;obtain ⟨z,hd,vs,Zq,dd⟩:=bR I.hok hq;obtain ⟨ep,U⟩:=dd.dictAt;have ZS:vs.length=kvs.length:=by rw [<- Zq.length];simp [sk]
 refine call_function_entry kind_sorted plain_sorted entry_sorted (args_sorted1 _) ?_;unfold Kb.«sorted»
 refine we (m:=checkCount "sorted" 1 1 _) (JT ?_);refine we (kdu_collect (A:=X.A.in1) (kdl_dict (knd:=aw X.prog X.w) (kvs:=vs) (ep:=ep) hd) (I.ok.hd hc) U (by rw [ZS,K8];lia) λh' tk ZQ hk Zn=>?_);have hl:ZQ.toList.length=kvs.length:=by rw [Ln,<- ZS];exact Zn.1
 have O:StrsAre ZQ.toList (kvs.map (·.1)):=pN (by rw [hl,JS]) λj v hv=>by
  obtain ⟨k,x,hx,hk⟩:=Zn.2 j v (by rw [<- KQ];exact hv);have hj:j<vs.length:=(JX.mp hx).1;have G:j<kvs.length:=by lia
  have J:(sk kvs)[j]?=some (.inr kvs[j].1,kvs[j].2):=by simp [sk,G]
  obtain ⟨u',F,_⟩:=Zq.at J;rw [hx] at F;cases F;rcases cG (show dz (Sum.inr kvs[j].1) v=true from hk) with ⟨i,t,S,J⟩|⟨y,t,S,J⟩
  .cases S
  .cases S;exact ⟨t,by rw [J,Kj,Kd,JQ G];rfl⟩
 have I1:Inv X Go σ H { s with heap:=h',toks:=tk }:=I.kept hk;refine we (wpAny_newList ?_ (by rw [hl,K8];lia));have Z:(h'.push (seqObj "list" ZQ.toList.toArray 0)).get? h'.objs.size=some (seqObj "list" ZQ.toList.toArray 0):=J7 _ rfl;refine we (Ks (Lg slot_list_sort ⟨_,Z,rfl⟩ entry_list_sort (list_sort_treeK strKind_oneLt Z O.keysOf (λab av ZL e=>keyKind_strs (by rw [<- e];exact O)) (by rw [hl];exact XD) λYC a1 a2=>⟨_,rfl,?_⟩) (args_list_sort _)));obtain ⟨aI,b1,b2,b3⟩:=sorted_out_str O a1 a2;have e3:=vP b2 b3;subst e3;obtain ⟨c,W⟩:=sortedHeap_at (vs:=ZQ.toList) (out:=(arrOf YC).map (·.2)) Z;refine JT ⟨_,rfl,.ref h'.objs.size,upd H h'.objs.size (.lst ((zr (kvs.map (·.1))).map V.str)),I1.laid (a:=h'.objs.size) (t':=tk) (λb o e=>?_) (JY _) ⟨?_,((arrOf YC).map (·.2)).toList,c,uM b1,by rw [MV];exact W⟩,rfl,q _ _ (.mk' (I1.hok.fresh (JY _)))⟩
 .have hb:b<h'.objs.size:=Kq e;rw [sortedHeap_old (Ky hb) (by rw [size_push'];exact Mq hb)];exact JU _ e
 .have:=b2.length_eq;rw [JS,this,JS,K8];lia
def sW(to:TE):TE:=λσ H Q=>to σ H λx H1=>uR x λa=>∃kvs,Rd H1 a (.dK kvs)/\∀v H2,New H1 v (.ext λh=>h.IsValuesView v a) H2->Q (.ref v) H2
theorem xl{to:TE}:sW to σ H Q=to σ H λx H1=>uR x λa=>∃kvs,Rd H1 a (.dK kvs)/\∀v H2,New H1 v (.ext λh=>h.IsValuesView v a) H2->Q (.ref v) H2:=rfl
theorem Bw(ho:W (PE X l tl))(S:KU l "values" X.env (KZ l X.env)=KZ l X.env:=by rfl)(Z:(Z1.endLine==cpos.line)=true:=by rfl):W (PE X (.Call (.Attribute l "values" Z1) [] [] cpos) (sW tl)):=by
 refine ⟨?_⟩;have ho:=ho.h;intro Go s σ H Q I h;refine MP S Z (thn (ho Go s σ H _ I h) λv s1=>x5e λx H1 F O U=>?_);obtain ⟨a,ex,kvs,G,q⟩:=U;subst ex;cases O;obtain ⟨z,hm,vs,Zq,J⟩:=bR F.hok G;obtain ⟨t1,t2,_⟩:=jD F (.inl ⟨kvs,G⟩);refine ⟨"dict","dict.values",Nr,Nc,NW,t1,t2,Calls.callWith_builtin rfl (Nt ?_)⟩;refine M5 Nc J.typeIs NM (NF _) (meets_dict_values (aw X.prog X.w) a hm) ⟨⟨vs,J⟩,?_⟩;have hv:(s1.heap.push { cls:=.type "dict_values",data:=.fields #[.ref a] }).IsValuesView s1.heap.objs.size a:=⟨_,J7 _ rfl,rfl,rfl⟩;exact ⟨.ref s1.heap.objs.size,_,F.laid (t':=s1.toks) (o:=.ext λh=>h.IsValuesView s1.heap.objs.size a) (λb o e=>JU _ e) (JY _) ⟨hv,⟨_,J7 _ rfl⟩,λh1 h2 ⟨o,e,r⟩ k=>⟨o,k o e,r⟩⟩,rfl,q _ _ (.mk' (F.hok.fresh (JY _)))⟩
def si:List V->Hp->VK->Prop:=λxs H Q=>uR1 xs λv=>∃a kvs,H v=some (.ext λh=>h.IsValuesView v a)/\Rd H a (.dK kvs)/\∀p H2,New H p (.lst (kvs.map (·.2))) H2->Q (.ref p) H2
theorem Af:si [.ref v] H Q = ∃a kvs,H v=some (.ext λh=>h.IsValuesView v a)/\Rd H a (.dK kvs)/\∀p H2,New H p (.lst (kvs.map (·.2))) H2->Q (.ref p) H2:=dw
theorem k8:∀{xs:List V}{us:List Value},xs.length=us.length->(∀(j:Nat)(u:Value),us[j]?=some u->∃x,xs[j]?=some x/\zl x u)->zm xs us
 | [],[],_,_=>.nil
 | [],_::_,h,_=>absurd h (by simp)
 | _::_,[],h,_=>absurd h (by simp)
 | x::xs,u::us,h,f=>by
  obtain ⟨y,e,r⟩:=f 0 u rfl;cases e;exact .cons r (k8 (by simpa using h) λj w hw=>f (j+1) w hw)
theorem Jg(hc:X.calm=true):zI X (.type "list") si:=by
 intro Go s σ H xs us Q I r h;obtain ⟨v,rfl,a,kvs,hv,hq,q⟩:=h;obtain ⟨u,rfl,ru⟩:=bo r;cases ru;obtain ⟨z,hd,vs,W,dd⟩:=bR I.hok hq;obtain ⟨ep,O⟩:=dd.dictAt;obtain ⟨S,_,_⟩:=I.hok v _ hv;have ZS:=W.length;refine kdl_call (kdl_values (knd:=aw X.prog X.w) (kvs:=vs) (ep:=ep)) (I.ok.hd hc) ⟨S,O⟩ (by rw [<- ZS];exact z) λh' tk J c' Z YI U=>?_;have I1:Inv X Go σ H { s with heap:=h',toks:=tk }:=I.kept Z;refine ⟨.ref s.heap.objs.size,upd H s.heap.objs.size (.lst (kvs.map (·.2))),I.laid (a:=s.heap.objs.size) (t':=tk) Z (JY _) ⟨by rw [JS];exact z,J.toList,c',k8 ?_ λj u hu=>?_,by rw [MV];exact YI⟩,rfl,q _ _ (.mk' (I.hok.fresh (JY _)))⟩
 .have h3:=U.1;have h4:J.toList.length=J.size:=Ln ..;rw [JS];lia
 .obtain ⟨k,hx⟩:=U.2 j u (by rw [<- KQ];exact hu);have hj:j<vs.length:=(JX.mp hx).1;have G:j<kvs.length:=by lia
  obtain ⟨u',F,r'⟩:=W.at (JQ G);rw [hx] at F;cases F;exact ⟨_,by rw [Kd,JQ G];rfl,r'⟩
end
end L2
namespace HT
open PySem PySem.Spec PyProof.Rows PySem.Calls
section
variable {prog:JZ}{w:Ke}{A:Kk}{E:Value->JR->Prop}{s:JR}
theorem getItem_tuple_whole{t sl:Addr}{W:Value}{lo hi:Option Int}(z:IsTup s.heap t items)(hs:s.heap.IsSliceOf sl U W .none)(pl:NH U lo)(pu:NH W hi)(h0:sIx items.size 0 lo=0)(h1:sIx items.size items.size hi=items.size)(h:Q (.ref t) s):J3 (J6 prog w) A (Og (.ref t) (.ref sl)) Q E s:=by
 obtain ⟨os,G,O,ab⟩:=id hs;have J:s.TypeIs (.ref sl) "slice":=⟨os,G,O⟩;unfold Og
 try with_reducible refine Ks ?_
 first|refine we (JT ?_)|skip
 refine we (wpAny_sequenceKey z.typeIs (by decide) ?_);refine we (L5 (name:=JW "__getitem__") z.typeIs KN
  (Lg KN z.typeIs entry_tuple_getitem ?_ (args_tuple_getitem _ _)))
 show J3 _ _ (Kb.Tuple.tupleItemsOf (.ref t)>>=_) _ _ s;refine we (tupleItemsOf_ z ?_);refine we (MT J ?_);rw [if_pos (by decide)];refine we (qE hs pl pu ?_);have F:(((sIx items.size 0 lo:Nat):Int)==0&&(1:Int)==1&&(sIx items.size items.size hi-sIx items.size 0 lo)==items.size)=true:=by
  rw [h0,h1];simp
 show J3 _ _ (if (((sIx items.size 0 lo:Nat):Int)==0&&(1:Int)==1&&(sIx items.size items.size hi-sIx items.size 0 lo)==items.size)=true then _ else _) _ _ s;rw [if_pos F];have Z:∀{R:Bool->JR->Prop}{S:Kk}{E':Value->JR->Prop},R true s->J3 (J6 prog w) S (Kb.Tuple.tupleIsExact (.ref t)) R E' s:=λ{R S E'} hr=>by
  unfold Kb.Tuple.tupleIsExact
  first
   | exact we (MT z.typeIs (JT hr))
   | exact wpAny_map (MT z.typeIs hr)
 refine we (Z ?_)
 first
  | exact we (Mc (we (JT (JT ⟨_,rfl,JT h⟩))))
  | exact we (Mc (JT ⟨_,rfl,JT h⟩))
  | exact we (Mc (we (JT ⟨_,rfl,JT h⟩)))
end
end HT
namespace L2
open PySem PySem.Spec PyProof.Rows PySem.W PySem.Calls
section
variable {X:Cx}
def gY:V->Option Int->Option Int->Hp->VK->Prop:=λx lo hi H Q=>uSl x lo hi H Q\/∃a xs,x = .ref a/\H a=some (.tup xs)/\∀p H2,ze H H2->H2 p=some (.tup (aQ xs lo hi))->Q (.ref p) H2
theorem ox:SlR X gY:=by
 intro Go s σ H x v J O lo hi sl Q I z hs pl F h;rcases h with h|⟨a,xs,rfl,hx,q⟩
 .exact fM Go s σ H x v J O lo hi sl Q I z hs pl F h
 .by_cases hw:HT.sIx xs.length 0 lo=0/\HT.sIx xs.length xs.length hi=xs.length
  .cases z;obtain ⟨W,r,G,hz⟩:=I.tuple (SqT.of hx);have S:W.toArray.size=xs.length:=by rw [J8];exact r.length.symm
   refine ⟨"tuple",_,KN.lookup,G.typeIs,?_⟩;refine HT.getItem_tuple_whole G hs pl F (by rw [S];exact hw.1) (by rw [S];exact hw.2) ⟨.ref a,H,I,rfl,q a H (ze.refl _) ?_⟩;rw [hx];unfold aQ;rw [hw.1,hw.2];simp
  .exact DJ Go s σ H _ v J O lo hi sl Q I z hs pl F ⟨a,xs,rfl,SqT.of hx,hw,λp U=>q p _ (New.mk' (o:=.tup (aQ xs lo hi)) U).same zq⟩
theorem Ip{lo hi:Option Int}:gY (.str z) lo hi H Q=(z.length<=sizeLine/\Q (.str (Txt.slice z lo hi)) H):=by simp [gY,rD]
theorem ER{a:Addr}{lo hi:Option Int}:gY (.ref a) lo hi H Q=((∃xs,H a=some (.lst xs)/\∀p H2,New H p (.lst (aQ xs lo hi)) H2->Q (.ref p) H2)\/∃xs,H a=some (.tup xs)/\∀p H2,ze H H2->H2 p=some (.tup (aQ xs lo hi))->Q (.ref p) H2):=by
 unfold gY;rw [uQ];apply propext;constructor
 .rintro (h|⟨z,xs,e,h⟩)
  .exact .inl h
  .cases e;exact .inr ⟨xs,h⟩
 .rintro (h|⟨xs,h⟩)
  .exact .inl h
  .exact .inr ⟨a,xs,rfl,h⟩
def gH:R2:=λx y H Q=>∃a b xs ys,x = .ref a/\y = .ref b/\H a=some (.tup xs)/\H b=some (.tup ys)/\xs.length+ys.length<=sizeLine/\∀p H2,ze H H2->H2 p=some (.tup (xs++ys))->Q (.ref p) H2
theorem Hm:OpR X (Ly .Add) gH:=by
 intro Go s σ H x y v u Q I O S h;obtain ⟨a,b,xs,ys,rfl,rfl,ha,hb,hz,q⟩:=h;by_cases hx:xs=[]
 .cases O;cases S;obtain ⟨W,Z,p1,_⟩:=I.tuple (SqT.of ha);obtain ⟨Yw,r2,p2,_⟩:=I.tuple (SqT.of hb);obtain ⟨⟨cls,dd,data,sl⟩,ho,hc,n,hd⟩:=id p1;obtain ⟨⟨J,X8,data2,G⟩,F,U,n2,z⟩:=id p2;simp only at hc hd U z;subst hc hd U z;have hi:W=[]:=Z.L3.mpr hx;exact concat_meets ⟨_,ho,rfl⟩ ⟨_,F,rfl⟩ noFill_tuple_add seq_tuple_add slot_tuple_add entry_tuple_add (args_tuple_add_2 _ _)
   (tuple_addW0 a b W.toArray Yw.toArray n n2 dd X8 sl G (by simp [hi])) ⟨ho,F,⟨.ref b,H,I,rfl,q b H (ze.refl _) (by rw [hb,hx];rfl)⟩⟩
 .exact DK Go s σ H _ _ v u Q I O S ⟨a,b,xs,ys,rfl,rfl,SqT.of ha,SqT.of hb,hx,hz,λe=>q a H (ze.refl _) (by rw [ha,e,MB]),λ_ p hp=>q p _ (New.mk' (o:=.tup (xs++ys)) hp).same zq⟩
def eL:R2:=λx y H Q=>cL x y H Q\/gH x y H Q
theorem i4:OpR X (Ly .Add) eL:=bg.or Hm
theorem DU:eL (.int i) (.int j) H Q=Q (.int (i+j)) H:=by simp [eL,gH,cL]
theorem CQ:eL (.str i) (.str j) H Q=(i.length+j.length<=sizeLine/\Q (.str (i++j)) H):=by simp [eL,gH,cL]
theorem BB{a b:Addr}:eL (.ref a) (.ref b) H Q=((∃xs zs,H a=some (.lst xs)/\H b=some (.lst zs)/\xs.length+zs.length<=sizeLine/\∀p H2,New H p (.lst (xs++zs)) H2->Q (.ref p) H2) \/
  ∃xs ys,H a=some (.tup xs)/\H b=some (.tup ys)/\xs.length+ys.length<=sizeLine/\∀p H2,ze H H2->H2 p=some (.tup (xs++ys))->Q (.ref p) H2):=by
 unfold eL;rw [iq];apply propext;constructor
 .rintro (h|⟨G,J,xs,ys,z,F,h⟩)
  .exact .inl h
  .cases z;cases F;exact .inr ⟨xs,ys,h⟩
 .rintro (h|⟨xs,ys,h⟩)
  .exact .inl h
  .exact .inr ⟨a,b,xs,ys,rfl,rfl,h⟩
def rS:List V->Hp->VK->Prop:=λxs H Q=>∃i j,xs=[.int i,.int j]/\(0<j/\j<2 ^ 64)/\∀p H2,New H p (.tup [.int (i / j),.int (i % j)]) H2->Q (.ref p) H2
theorem BU:rS [.int i,.int j] H Q=((0<j/\j<2 ^ 64)/\∀p H2,New H p (.tup [.int (i / j),.int (i % j)]) H2->Q (.ref p) H2):=by
 apply propext;constructor
 .rintro ⟨F,z,e,h⟩;cases e;exact h
 .exact λh=>⟨i,j,rfl,h⟩
theorem yK:zI X (.builtin "divmod") rS:=by
 intro Go s σ H xs us Q I r h;obtain ⟨i,j,rfl,⟨h1,h2⟩,q⟩:=h;obtain ⟨u,w',rfl,⟨t,rfl⟩,⟨t',rfl⟩⟩:=ko r;have z:j.natAbs.log2<9000:=by
  have:j.natAbs.log2<64:=(Nat.log2_lt (by lia)).mpr (by lia);lia
 refine divmod_int (by lia) ?_ (.inl (PyProof.noPylong_of_log2 z));rw [Int.fdiv_eq_ediv_of_nonneg i (by lia),Int.fmod_eq_emod_of_nonneg i (by lia)];have F:H s.heap.objs.size=none:=I.hok.fresh (JY _);refine ⟨.ref s.heap.objs.size,_,?_,rfl,q _ _ (.mk' F)⟩;refine I.laid (λb o e=>JU _ e) (JY _) ⟨by simp only [Le,NC];rw [K8];decide,[.int (i / j) s.toks,.int (i % j) (s.toks+1)],.cons ⟨_,rfl⟩ (.cons ⟨_,rfl⟩ .nil),?_⟩;exact ⟨_,J7 s.heap rfl,rfl,0,rfl⟩
def il:R2:=λx y H Q=>rI0 (λi j=>.bl (decide (i<=j))) x y H Q\/∃i j,x = .str i/\y = .str j/\Q (.bl (!decide (j.cps.toList<i.cps.toList))) H
theorem Cd:OpR X (KG .LtE) il:=gb.or (by
 intro Go s σ H x y v u Q I z F h;obtain ⟨i,j,rfl,rfl,q⟩:=h;obtain ⟨t,rfl⟩:=z;obtain ⟨t',rfl⟩:=F;exact PySem.P.le_str (zV I q rfl))
theorem AV:il (.int i) (.int j) H Q=Q (.bl (decide (i<=j))) H:=by simp [il,rI0]
theorem GY:il (.str i) (.str j) H Q=Q (.bl (!decide (j.cps.toList<i.cps.toList))) H:=by simp [il,rI0]
def wN:TS:=λ_ _ _=>False
theorem bJ{st:Stmt}:W (PS X st wN):=⟨λ_ _ _ _ _ _ h=>h.elim⟩
def qR(to te:TE):TE:=λσ H Q=>to σ H λx H1=>uR x λl=>(∃xs,H1 l=some (.lst xs))/\te σ H1 λy H2=>uR y λb=>∃xs zs,H2 l=some (.lst xs)/\H2 b=some (.lst zs)/\xs.length+zs.length<=sizeLine/\Q .non (upd H2 l (.lst (xs++zs)))
theorem xC{to te:TE}:qR to te σ H Q=to σ H λx H1=>uR x λl=>(∃xs,H1 l=some (.lst xs))/\te σ H1 λy H2=>uR y λb=>∃xs zs,H2 l=some (.lst xs)/\H2 b=some (.lst zs)/\xs.length+zs.length<=sizeLine/\Q .non (upd H2 l (.lst (xs++zs))):=rfl
theorem iW{o e:Kf}{to te:TE}(ho:W (PE X o to))(he:W (PE X e te))(O:KU o "extend" X.env (KZ o X.env)=KZ o X.env:=by rfl)(Zs:(Z1.endLine==cpos.line)=true:=by rfl)(hp:aP e=true:=by rfl):W (PE X (.Call (.Attribute o "extend" Z1) [e] [] cpos) (qR to te)):=by
 refine ⟨?_⟩;have ho:=ho.h;have he:=he.h;intro Go s σ H Q I h;have hs:Kv [e] X.env=[(false,KZ e X.env)]:=dM hp;refine LL O (by rw [hs];rfl) Zs rfl (thn (ho Go s σ H _ I h) λv s1=>x5e λx H1 J G YH=>?_);obtain ⟨l,ex,⟨xs,hx⟩,q1⟩:=YH;subst ex;obtain ⟨h1,h2⟩:=fU (T:="list") J G (.inl ⟨rfl,xs,SqL.of hx⟩);refine ⟨"list","list.extend",Nq,PySem.F.slot_list_extend,PySem.F.type_list_extend,h1,h2,?_⟩;rw [hs];refine Calls.callWith_builtin rfl (Calls.evalArgs_plain ?_);refine Calls.spliced_cons (thn (he Go s1 σ H1 _ J q1) λu s2=>x5e λy H2 U S XI=>Calls.spliced_nil ?_);obtain ⟨b,Z,z,zs,hl,hb,hz,q⟩:=XI;subst Z;exact Eg Go s2 σ H2 (.ref l) [.ref b] v [u] Q U G (.cons S .nil) ⟨l,b,z,zs,rfl,rfl,hl,hb,hz,q⟩
end
section
variable {K:JV}{g:TG}{tb:TS}{D:aR}{σ:St}{H:Hp}{tl:TE}{R:It->Hp->Prop}{tt:TT}{te:TE}{Q:VK}{a:Addr}{o:Obj}{kvs:List (Key×V)}
theorem BQ:lh tl σ H R=tl σ H λx H1=>uR x λa=>∃o kvs,H1 a=some (.frz o (.dK kvs))/\R (Itd a o kvs) H1:=by
 unfold lh uR;congr;funext x H1;apply propext;constructor
 .rintro ⟨a,o,kvs,e,h⟩;exact ⟨a,e,o,kvs,h⟩
 .rintro ⟨a,e,o,kvs,h⟩;exact ⟨a,o,kvs,e,h⟩
theorem xO:kM tl σ H R=tl σ H λx H1=>uR x λa=>∃o kvs,H1 a=some (.frz o (.dK kvs))/\R (Itw a o kvs) H1:=by
 unfold kM uR;congr;funext x H1;apply propext;constructor
 .rintro ⟨a,o,kvs,e,h⟩;exact ⟨a,e,o,kvs,h⟩
 .rintro ⟨a,e,o,kvs,h⟩;exact ⟨a,o,kvs,e,h⟩
theorem aa.QM(F:Nat->St->Hp->Prop)(S:F 0 σ H)(hl:∀i σ H,i<=kvs.length->F i σ H->H a=some (.frz o (.dK kvs)))
  (hs:∀i p σ H,kvs[i]?=some p->F i σ H->g (kV p.1) σ H λG H2=>tb { D with nx:=F (i+1),ct:=F (i+1),bk:=D.nx } G H2) (hd:∀σ H,F kvs.length σ H->D.nx σ H):aa (Itd a o kvs) g tb D σ H:=by
 refine ⟨λi m σ H=>m=kvs.length-i/\i<=kvs.length/\F i σ H,⟨kvs.length,by simp,Lc _,S⟩,?_⟩;rintro i m σ H ⟨rfl,hi,p⟩;have q:=hl i σ H hi p;by_cases J:i<kvs.length
 .refine .inr ⟨⟨q,J⟩,F (i+1),λU H' O=>⟨kvs.length-(i+1),by lia,rfl,J,O⟩,λx H' y=>?_⟩;obtain ⟨e,z,hz,ex⟩:=y;subst e ex;exact hs i z σ _ hz p
 .have e:i=kvs.length:=by lia
  subst e;exact .inl ⟨⟨q,JY _⟩,hd σ H p⟩
theorem aa.QN(F:Nat->St->Hp->Prop)(S:F 0 σ H)(hl:∀i σ H,i<=kvs.length->F i σ H->H a=some (.frz o (.dK kvs)))
  (hs:∀i p σ H,kvs[i]?=some p->F i σ H->g p.2 σ H λG H2=>tb { D with nx:=F (i+1),ct:=F (i+1),bk:=D.nx } G H2) (hd:∀σ H,F kvs.length σ H->D.nx σ H):aa (Itw a o kvs) g tb D σ H:=by
 refine ⟨λi m σ H=>m=kvs.length-i/\i<=kvs.length/\F i σ H,⟨kvs.length,by simp,Lc _,S⟩,?_⟩;rintro i m σ H ⟨rfl,hi,p⟩;have q:=hl i σ H hi p;by_cases J:i<kvs.length
 .refine .inr ⟨⟨q,J⟩,F (i+1),λU H' O=>⟨kvs.length-(i+1),by lia,rfl,J,O⟩,λx H' y=>?_⟩;obtain ⟨e,z,hz,ex⟩:=y;subst e ex;exact hs i z σ _ hz p
 .have e:i=kvs.length:=by lia
  subst e;exact .inl ⟨⟨q,JY _⟩,hd σ H p⟩
theorem Fe{t:TS}:tFz t D σ H = ∃a kvs,H a=some (.dK kvs)/\∀o,t (D.L4 a kvs) σ (upd H a (.frz o (.dK kvs))):=rfl
theorem xA{t:TE}:wq t σ H Q = ∃a kvs,H a=some (.dK kvs)/\∀o,t σ (upd H a (.frz o (.dK kvs))) λv H'=>dH a kvs H' (Q v):=rfl
end
end L2
namespace L2
open PySem PySem.Spec PyProof.Rows
section
variable {α β:Type}
def look(t:List (Str×α))(n:Str):Option α:=(t.find? λp=>decide (p.1=n)).map (·.2)
def zU(t:List (Str×α))(n:Str)(a:α):List (Str×α):=if (look t n).isSome then t.map λp=>if p.1=n then (p.1,a) else p else t++[(n,a)]
def zE(t:List (Str×α))(n:Str):List (Str×α):=t.filter λp=>!decide (p.1=n)
def names(t:List (Str×α)):List Str:=t.map (·.1)
theorem vi:look ([]:List (Str×α)) n=none:=rfl
theorem bI{p:Str×α}{t:List (Str×α)}:look (p::t) n=if p.1=n then some p.2 else look t n:=by
 unfold look;by_cases h:p.1=n
 .rw [List.find?_cons_of_pos (by simpa using h),if_pos h];rfl
 .rw [List.find?_cons_of_neg (by simpa using h),if_neg h]
theorem bG{t:List (Str×α)}{a:α}(h:look t n=some a):(n,a)∈t:=by
 induction t with
 | nil=>cases h
 | cons p t z =>
  rw [bI] at h;by_cases e:p.1=n
  .rw [if_pos e] at h;cases h;subst e;exact Kg ..
  .rw [if_neg e] at h;exact Kc _ (z h)
theorem aV{t:List (Str×α)}:look t n=none↔n∉names t:=by
 induction t with
 | nil=>simp [look,names]
 | cons p t z =>
  rw [bI];by_cases e:p.1=n
  .rw [if_pos e];simp [names,e]
  .rw [if_neg e,z];simp [names];exact λ_=>λh=>e h.symm
theorem cZ{t:List (Str×α)}(nd:(names t).Nodup){a:α}(h:(n,a)∈t):look t n=some a:=by
 induction t with
 | nil=>cases h
 | cons p t F =>
  rw [bI];have z:p.1∉names t/\(names t).Nodup:=MO.mp nd;rcases J1.mp h with e|h
  .rw [<- e,if_pos rfl]
  .have:p.1≠n:=λe=>z.1 (by rw [e];exact List.mem_map_of_mem (f:=(·.1)) h);rw [if_neg this];exact F z.2 h
theorem tY{t:List (Str×α)}{a:α}:names (zU t n a)=if (look t n).isSome then names t else names t++[n]:=by
 unfold zU names;by_cases h:(look t n).isSome
 .rw [if_pos h,if_pos h,LM];refine LC λp _=>?_;show (if p.1=n then (p.1,a) else p).1=p.1;split<;>rfl
 .rw [if_neg h,if_neg h,Kz];rfl
theorem fW{t:List (Str×α)}{a:α}(nd:(names t).Nodup):(names (zU t n a)).Nodup:=by
 rw [tY];by_cases h:(look t n).isSome
 .rw [if_pos h];exact nd
 .rw [if_neg h];have:look t n=none:=by simpa using h
  rw [aV] at this;rw [NT];refine ⟨nd,by simp,λx hx y z e=>?_⟩;have:y=n:=by simpa using z
  subst this;subst e;contradiction
theorem g6{t:List (Str×α)}(nd:(names t).Nodup):(names (zE t n)).Nodup:=by
 unfold names zE;exact nd.sublist (List.Sublist.map _ List.filter_sublist)
theorem DV{t:List (Str×α)}{a:α}:look (t.map λp=>if p.1=n then (p.1,a) else p) m=if m=n then (if (look t n).isSome then some a else none) else look t m:=by
 induction t with
 | nil=>by_cases h:m=n<;>simp [look,h]
 | cons p t F =>
  rw [Li,bI,F,bI,bI];by_cases e:p.1=n
  .rw [if_pos e,if_pos e];show (if p.1=m then some a else _)=_;by_cases h:m=n
   .rw [if_pos (by rw [e,h]),if_pos h];rfl
   .rw [if_neg (λz=>h (by rw [<- z,e])),if_neg h,if_neg h,if_neg (λz=>h (by rw [<- z,e]))]
  .rw [if_neg e,if_neg e];by_cases h:m=n
   .rw [if_pos h,if_pos h,if_neg (λz=>e (by rw [z,h]))]
   .rw [if_neg h,if_neg h]
theorem FT{t u:List (Str×α)}:look (t++u) m=(look t m).or (look u m):=by
 induction t with
 | nil=>simp [vi]
 | cons p t z =>
  rw [Nm,bI,bI,z];by_cases h:p.1=m
  .rw [if_pos h,if_pos h];rfl
  .rw [if_neg h,if_neg h]
theorem cc{t:List (Str×α)}{a:α}:look (zU t n a) m=if m=n then some a else look t m:=by
 unfold zU;by_cases h:(look t n).isSome
 .rw [if_pos h,DV,if_pos h]
 .rw [if_neg h,FT,bI];have F:look t n=none:=by simpa using h
  by_cases e:m=n
  .rw [if_pos e,e,F,if_pos rfl];rfl
  .rw [if_neg e,if_neg (λz=>e z.symm),vi,Option.or_none]
theorem eI{t:List (Str×α)}:look (zE t n) m=if m=n then none else look t m:=by
 induction t with
 | nil=>by_cases h:m=n<;>simp [look,zE,h]
 | cons p t F =>
  by_cases e:p.1=n
  .have:zE (p::t) n=zE t n:=by unfold zE;rw [Mb (by simpa using e)]
   rw [this,F,bI];by_cases h:m=n
   .rw [if_pos h,if_pos h]
   .rw [if_neg h,if_neg h,if_neg (λz=>h (by rw [<- z,e]))]
  .have:zE (p::t) n=p::zE t n:=by unfold zE;rw [Ma (by simpa using e)]
   rw [this,bI,bI,F];by_cases h:m=n
   .rw [if_pos h,if_pos h,if_neg (λz=>e (by rw [z,h]))]
   .rw [if_neg h,if_neg h]
def zN(t u:List (Str×α)):Prop:=∀n,look t n=look u n
theorem zN.put{t u:List (Str×α)}(h:zN t u)(n:Str)(a:α):zN (zU t n a) (zU u n a):=λm=>by rw [cc,cc,h m]
theorem zN.drop{t u:List (Str×α)}(h:zN t u)(n:Str):zN (zE t n) (zE u n):=λm=>by rw [eI,eI,h m]
theorem zN.names{t u:List (Str×α)}(h:zN t u)(G:(names t).Nodup)(J:(L2.names u).Nodup):(L2.names t).Perm (L2.names u):=by
 refine (Lw G J).mpr λn=>?_;have h1:=h n;constructor
 .intro F;refine KY λz=>?_;rw [aV.mpr z] at h1;exact aV.mp h1 F
 .intro F;refine KY λz=>?_;rw [aV.mpr z] at h1;exact aV.mp h1.symm F
def Dct(R:V->α->Prop):List (Str×V)->List (Str×α)->Prop:=Paired λp q=>p.1=q.1/\R p.2 q.2
theorem Dct.names{t:List (Str×α)}(h:Dct R kvs t):kvs.map (·.1)=L2.names t:=by
 induction h with
 | nil=>rfl
 | @cons p q l m r _ z=>show p.1::l.map (·.1)=q.1::m.map (·.1);rw [r.1,z];rfl
theorem Dct.length{t:List (Str×α)}(h:Dct R kvs t):kvs.length=t.length:=Paired.length h
theorem Dct.imp{t:List (Str×α)}(h:Dct R kvs t)(f:∀v a,R v a->S v a):Dct S kvs t:=Paired.ri h λp q z=>⟨z.1,f _ _ z.2⟩
theorem Dct.look{t:List (Str×α)}(h:Dct R kvs t)(n:Str):(∃v a,L2.look kvs n=some v/\L2.look t n=some a/\R v a)\/(L2.look kvs n=none/\L2.look t n=none):=by
 induction h with
 | nil=>exact .inr ⟨rfl,rfl⟩
 | cons r _ z =>
  rw [bI,bI,<- r.1];split
  .exact .inl ⟨_,_,rfl,rfl,r.2⟩
  .exact z
theorem Dct.put{t:List (Str×α)}(h:Dct R kvs t)(n:Str){a:α}(r:R v a):Dct R (zU kvs n v) (zU t n a):=by
 have hs:(L2.look kvs n).isSome=(L2.look t n).isSome:=by
  rcases h.look n with ⟨v,a,F,G,_⟩|⟨F,G⟩<;>rw [F,G]<;>rfl
 have hm:Dct R (kvs.map λp=>if p.1=n then (p.1,v) else p) (t.map λp=>if p.1=n then (p.1,a) else p):=by
  clear hs
  induction h with
  | nil=>exact .nil
  | @cons p q _ _ r' _ z =>
   refine .cons ?_ z;show (if p.1=n then (p.1,v) else p).1=(if q.1=n then (q.1,a) else q).1/\R (if p.1=n then (p.1,v) else p).2 (if q.1=n then (q.1,a) else q).2;by_cases e:p.1=n
   .rw [if_pos e,if_pos (by rw [<- r'.1];exact e)];exact ⟨r'.1,r⟩
   .rw [if_neg e,if_neg (by rw [<- r'.1];exact e)];exact r'
 have ha:Dct R (kvs++[(n,v)]) (t++[(n,a)]):=by
  clear hs hm
  induction h with
  | nil=>exact .cons ⟨rfl,r⟩ .nil
  | cons r' _ z=>exact .cons r' z
 unfold zU;rw [hs];split
 .exact hm
 .exact ha
theorem Dct.drop{t:List (Str×α)}(h:Dct R kvs t)(n:Str):Dct R (zE kvs n) (zE t n):=by
 induction h with
 | nil=>exact .nil
 | @cons p q _ _ r _ z =>
  unfold zE at z ⊢;by_cases e:p.1=n
  .rw [Mb (by simpa using e),Mb (by rw [<- r.1];simpa using e)];exact z
  .rw [Ma (by simpa using e),Ma (by rw [<- r.1];simpa using e)];exact .cons r z
theorem Dct.at{t:List (Str×α)}(h:Dct R kvs t):∀{i:Nat}{p:Str×V},kvs[i]?=some p->∃a,t[i]?=some (p.1,a)/\R p.2 a:=by
 induction h with
 | nil=>intro i p e;simp at e
 | @cons x y _ _ r _ z =>
  intro i p e;cases i with
  | zero =>
   have F:x=p:=by simpa using e
   subst F;exact ⟨y.2,by rw [r.1];rfl,r.2⟩
  | succ i=>exact z (by simpa using e)
end
theorem aJ:zS (sk kvs) (.inr n)=look kvs n:=by
 induction kvs with
 | nil=>rfl
 | cons p t F =>
  rw [bI];by_cases e:p.1=n
  .rw [if_pos e];exact gQ (show (Sum.inr p.1:Key)=Sum.inr n by rw [e])
  .rw [if_neg e,<- F];exact ie (λz=>e (by injection z))
theorem eO:aE (sk kvs) (.inr n) v=sk (zU kvs n v):=by
 unfold aE zU;have hs:((sk kvs).any λz=>decide (z.1 = .inr n))=(look kvs n).isSome:=by rw [mM,aJ]
 rw [hs];split
 .unfold sk;rw [LM,LM];refine LC λp _=>?_;by_cases e:p.1=n
  .simp [e]
  .simp [e]
 .simp [sk]
theorem iU:br (sk kvs) (.inr n)=sk (zE kvs n):=by
 induction kvs with
 | nil=>rfl
 | cons p t F =>
  by_cases e:p.1=n
  .have:zE (p::t) n=zE t n:=by unfold zE;rw [Mb (by simpa using e)]
   rw [this,<- F];exact yk (show (Sum.inr p.1:Key)=Sum.inr n by rw [e])
  .have:zE (p::t) n=p::zE t n:=by unfold zE;rw [Ma (by simpa using e)]
   rw [this];show br ((Sum.inr p.1,p.2)::sk t) (Sum.inr n)=(Sum.inr p.1,p.2)::sk (zE t n);rw [<- F];exact Ho (λz=>e (by injection z))
theorem JC{a:Addr}:oG (.ref a) (.str z) H Q = ∃kvs,Rd H a (.dK kvs)/\∃v,zS kvs (.inr z)=some v/\Q v H:=by
 apply propext;constructor
 .rintro ⟨J,k,kvs,v,G,F,h1,h2,q⟩;cases G;cases k with
  | inl i=>cases F
  | inr x=>cases F;exact ⟨kvs,h1,v,h2,q⟩
 .rintro ⟨kvs,h1,v,h2,q⟩;exact ⟨a,.inr z,kvs,v,rfl,rfl,h1,h2,q⟩
theorem Cv{a b:Addr}:gH (.ref a) (.ref b) H Q = ∃xs ys,H a=some (.tup xs)/\H b=some (.tup ys)/\xs.length+ys.length<=sizeLine/\∀p H2,ze H H2->H2 p=some (.tup (xs++ys))->Q (.ref p) H2:=by
 apply propext;constructor
 .rintro ⟨G,J,xs,ys,z,F,h⟩;cases z;cases F;exact ⟨xs,ys,h⟩
 .rintro ⟨xs,ys,h⟩;exact ⟨a,b,xs,ys,rfl,rfl,h⟩
def tZ:List V->Hp->VK->Prop:=λxs H Q=>uR1 xs λa=>∃kvs,Rd H a (.dK kvs)/\Q (.int kvs.length) H
theorem Hb{a:Addr}:tZ [.ref a] H Q = ∃kvs,Rd H a (.dK kvs)/\Q (.int kvs.length) H:=dw
theorem lj:zI X (.builtin "len") tZ:=by
 intro Go s σ H xs us Q I r h;obtain ⟨a,rfl,kvs,ha,q⟩:=h;obtain ⟨u,rfl,z⟩:=bo r;cases z;exact Ew I ha λt s' F=>⟨.int kvs.length,H,F,⟨t,rfl⟩,q⟩
theorem FW{k j:Nat}{p pos:Pos}(G:GC X.prog X.w X.K X.mg X.base cm j x C ps sp)(hr:zT cm k X.A)(O:Gl X x)(z:j+1<=k:=by decide)(J:(x==("__debug__":Str))=false:=by decide):
  PE X (.Call (.Name x p) [] [] pos) (iD C sp cj):=by
 obtain ⟨f,fd,F,hm,M,hb⟩:=G.ex;intro Go s σ H Q I h;exact Bt M F (hr.mono z) O hm hb .nil fk J Go s σ H Q I (λy dx hx hd ne=>h y dx _ (.mk' hx hd ne))
theorem jR{k j:Nat}{p pos:Pos}(G:GC X.prog X.w X.K X.mg X.base cm j x C ps sp)(hr:zT cm k X.A)(J:Gl X x)(z:j+1<=k:=by decide)(F:(x==("__debug__":Str))=false:=by decide):
  W (PE X (.Call (.Name x p) [] [] pos) (iD C sp cj)):=⟨FW G hr J z F⟩
theorem bS:(sk kvs).length=kvs.length:=by simp [sk]
theorem tJ{i:Nat}{p:Key×V}(h:(sk kvs)[i]?=some p):∃q,kvs[i]?=some q/\p=(.inr q.1,q.2):=by
 unfold sk at h;rw [Kd] at h;obtain ⟨q,h1,h2⟩:=Km.mp h;exact ⟨q,h1,h2.symm⟩
theorem xa(hb:∀Go,PSs (pM X Go λ_ _ _=>False) G tb):PS X (.Try G (h₀::hs) [] [] pos) tb:=by
 intro Go s σ H Z I h;refine wpAny_Try_except (KJ (hb Go [] s σ H Z (I.p.L1 _) h) (λf s1 q=>?_) λe s1 q=>?_)
 .cases f with
  | next =>
   obtain ⟨z,H',J,q⟩:=q;exact Np ⟨z,H',Inv.QH I.ok J.tj,q⟩
  | brk=>obtain ⟨z,H',J,q⟩:=q;exact ⟨z,H',Inv.QH I.ok J.tj,q⟩
  | cont=>obtain ⟨z,H',J,q⟩:=q;exact ⟨z,H',Inv.QH I.ok J.tj,q⟩
  | ret u=>obtain ⟨v,z,H',J,r,q⟩:=q;exact ⟨v,z,H',Inv.QH I.ok J.tj,r,q⟩
 .obtain ⟨S,C,B,H',fl,z,U,rfl,J,y,os,bare,O,up,F⟩:=q;exact F.elim
theorem D7(hb:∀Go,W (PSs (pM X Go λ_ _ _=>False) z tb)):W (PS X (.Try z (h₀::hs) [] [] pos) tb):=⟨xa λGo=>(hb Go).h⟩
theorem cA{α β:Type}{R:α->β->Prop}:∀{l:List α}{m:List β},Paired R l m->∀{i:Nat}{a:α}{b:β},l[i]?=some a->m[i]?=some b->R a b
 | _,_,.nil,i,a,b,h,_=>by simp at h
 | _,_,.cons r t,0,a,b,h,h'=>by
  simp at h h';subst h h';exact r
 | _,_,.cons r t,i+1,a,b,h,h'=>cA t (by simpa using h) (by simpa using h')
theorem bA{α β:Type}{R:α->β->Prop}{l:List α}{m:List β}(h:Paired R l m):l.length=m.length:=Paired.length h
section
variable {X:Cx}
def sq(neg:Bool):R2:=λx y H Q=>∃a b xs ys,x = .ref a/\y = .ref b/\H a=some (.lst xs)/\H b=some (.lst ys)/\(xs.length=0\/ys.length=0)/\Q (.bl (if neg then !decide (xs.length=ys.length) else decide (xs.length=ys.length))) H
theorem tE(z:X.A.units<cLine):OpR X (KG .NotEq) (sq true):=by
 intro Go s σ H x y v u Q I J S h;obtain ⟨a,b,xs,ys,rfl,rfl,ha,hb,W,q⟩:=h;cases J;cases S;by_cases hz:xs.length=ys.length
 .have h1:xs=[]:=KM.mp (by lia);have h2:ys=[]:=KM.mp (by lia);subst h1 h2;exact pQ z Go s σ H (.ref a) (.ref b) (.ref a) (.ref b) Q I rfl rfl ⟨a,b,[],[],rfl,rfl,SqL.of ha,SqL.of hb,rfl,rfl,q⟩
 .obtain ⟨is,G,U,_⟩:=I.list (SqL.of (K:=X.K) ha);obtain ⟨js,O,p2,_⟩:=I.list (SqL.of (K:=X.K) hb);have l1:=G.length;have Z:=O.length;refine SeqAt.RcNeAt.lists_lengths U.isList p2.isList (by simp;lia) z _ _ _ _ ⟨.bl true,H,I,rfl,?_⟩;have F:Q (.bl (!decide (xs.length=ys.length))) H:=q;rw [decide_eq_false hz] at F;exact F
theorem Df{a b:Addr}:sq neg (.ref a) (.ref b) H Q = ∃xs ys,H a=some (.lst xs)/\H b=some (.lst ys)/\(xs.length=0\/ys.length=0)/\Q (.bl (if neg then !decide (xs.length=ys.length) else decide (xs.length=ys.length))) H:=by
 apply propext;constructor
 .rintro ⟨G,J,xs,ys,z,F,h⟩;cases z;cases F;exact ⟨xs,ys,h⟩
 .rintro ⟨xs,ys,h⟩;exact ⟨a,b,xs,ys,rfl,rfl,h⟩
def nG:List V->Hp->VK->Prop:=λxs H Q=>∃i,xs=[.int i]/\Q (.int (if i<0 then -i else i)) H
theorem GT:nG [.int i] H Q=Q (.int (if i<0 then -i else i)) H:=by simp [nG]
theorem Hc:zI X (.builtin "abs") nG:=by
 intro Go s σ H xs us Q I r h;obtain ⟨i,rfl,q⟩:=h;obtain ⟨u,rfl,t,rfl⟩:=bo r;exact call_abs_int λu tk=>⟨.int _,H,I.tok tk,⟨_,rfl⟩,q⟩
end
theorem HL{p:Addr}:j7 c (.int i) (.ref p) H Q = ∃kvs,Rd H p (.dK kvs)/\Q (.bl (if c then !(zS kvs (.inl i)).isSome else (zS kvs (.inl i)).isSome)) H:=by
 apply propext;constructor
 .rintro ⟨a,k,kvs,F,z,h,q⟩;cases F;cases k with
  | inl i=>cases z;exact ⟨kvs,h,q⟩
  | inr x=>cases z
 .rintro ⟨kvs,h,q⟩;exact ⟨p,.inl i,kvs,rfl,rfl,h,q⟩
def cM(f:Nat->Int):Nat->Option Int
 | 0=>none
 | j+1=>some (match cM f j with|none=>f j|some m=>if f j>m then f j else m)
def i5:Option Int->Array Value->Prop|none,Z7=>Z7 = #[]|some m,Z7=>∃t,Z7 = #[.int m t,.int m t]
def nE(d:Value):Option Int->Value->Prop|none,v=>v=d|some m,v=>∃t,v = .int m t
section
variable {prog:JZ}{w:Ke}{A:Kk}{E:Value->JR->Prop}{s:JR}
theorem De{St:Nat->Heap->Prop}{d:Value}(W:Walks prog w A.in1 I fp wr n P St)(f:Nat->Int)(hv:∀i v,P i v->∃t,v = .int (f i) t)(S:Addr)(a3:S∉fp)(a5:0<n\/kw=[(JW "default",d)]):
  ∀(k j:Nat)(s:JR)(c:Nat)(Z7:Array Value),n-j=k->j<=n->St j s.heap->i5 (cM f j) Z7 ->
  s.heap.get? S=some { cls:=.type "list",dict:=none,data:=.seq Z7 c,slots:=#[] } ->
  (∀v h' tk,nE d (cM f n) v->(∀b o,b∉wr->b≠S->s.heap.get? b=some o->h'.get? b=some o)->R (.ok (.ret v)) { s with heap:=h',toks:=tk }) ->
  LN (J6 prog w) A (.builtin "max.loop" ⟨[.ref I,.none,.ref S],kw⟩) R s:=by
 have av:S∉wr:=λh=>a3 (W.sub _ h);have Yi:(toString "max"++toString ".loop":String)="max.loop":=by decide
 intro k
 induction k with
 | zero =>
  intro j s c Z7 hk hj hst hC hS hR;have a0:j=n:=by lia
  refine Mm F.entry_max_loop ?_;rw [Kk.under_plainId F.plain_max_loop _];show J3 _ A.in1 (seqItems? (.ref S)>>=_) _ _ s;refine we (Ny hS rfl ?_);show J3 _ A.in1 (tryCatch (MW (.ref I)) _>>=_) _ _ s;refine we (wpAny_tryCatch (W.done s _ _ (a0 ▸ hst) λh' tk Yb=>?_));have YI:=Yb S _ av hS;rw [a0] at hC;cases hb:cM f n with
  | none =>
   rw [hb] at hC hR;cases (show Z7 = #[] from hC);have h0 : ¬ 0<n:=λz=>by
    cases n with
    | zero=>lia
    | succ m=>cases hb
   rcases a5 with z|rfl
   .exact absurd z h0
   show J3 _ A.in1 (rule _>>=_) _ _ _;exact we (Mc (JT (hR d _ tk rfl λb o G _ e=>Yb b o G e)))
  | some m =>
   rw [hb] at hC hR;obtain ⟨t,rfl⟩:=hC;show J3 _ A.in1 (updateSeq S (λ_=>#[])>>=_) _ _ _;refine we (MK YI rfl (we (wpAny_letGo (JT ?_))));exact hR _ _ tk ⟨t,rfl⟩ λb o G XB e=>(Ld _ _ (Lv XB)).trans (Yb b o G e)
 | succ k ih =>
  intro j s c Z7 hk hj hst hC hS hR;have ZK:j<n:=by lia
  refine Mm F.entry_max_loop ?_;rw [Kk.under_plainId F.plain_max_loop _];show J3 _ A.in1 (seqItems? (.ref S)>>=_) _ _ s;refine we (Ny hS rfl ?_);show J3 _ A.in1 (tryCatch (MW (.ref I)) _>>=_) _ _ s;refine we (wpAny_tryCatch (W.item j s _ _ ZK hst λv h' tk hP ab Yb=>?_));have YI:=Yb S _ av hS;obtain ⟨t,rfl⟩:=hv j v hP;have U:∀{b o}{g:Array Value->Array Value},b≠S->h'.get? b=some o->(h'.update S (Oq g)).get? b=some o:=λn e=>(Ld _ _ (Lv n)).trans e;have a4:∀{g:Array Value->Array Value},St (j+1) (h'.update S (Oq g)):=λ{g}=>W.frame _ _ _ ab λb hb o e=>U (λz=>a3 (z ▸ hb)) e;cases hb:cM f j with
  | none =>
   rw [hb] at hC;cases (show Z7 = #[] from hC);show J3 _ A.in1 (updateSeq S (λ_=>#[.int (f j) t,.int (f j) t])>>=_) _ _ _;refine we (MK YI rfl ?_);rw [Yi];refine JT ⟨Mp F.plain_max_loop _,ih (j+1) _ _ _ (by lia) ZK a4 ?_ (Lq _ YI rfl) λv' h2 Z J O=>?_⟩
   .show i5 (some _) _;rw [hb];exact ⟨t,rfl⟩
   .exact hR v' h2 Z J λb o G XB e=>O b o G XB (U XB (Yb b o G e))
  | some m =>
   rw [hb] at hC;obtain ⟨u,rfl⟩:=hC;show J3 _ A.in1 (tryCatch (MM [.int (f j) t,.int (f j) t] (richCompare .Gt (.int (f j) t) (.int m u)>>=_)) _>>=_) _ _ _;obtain ⟨bt,Xj,aI⟩:∃bt:Nat->Nat->Bool,bt 0 1=decide (f j>m)/\CmpOf prog w A.in1 .Gt (λi v=>(i=0/\v = .int (f j) t)\/(i=1/\v = .int m u)) bt:=⟨_,rfl,CmpOf.ints_gt (λi=>if i=0 then f j else m) λi v h=>by rcases h with ⟨rfl,rfl⟩|⟨rfl,rfl⟩<;>exact ⟨_,rfl⟩⟩;refine we (wpAny_tryCatch (Ks (we (aI 0 1 _ _ _ _ _ (.inl ⟨rfl,rfl⟩) (.inr ⟨rfl,rfl⟩) ?_))));refine we (Ks (LF ?_));refine we (wpAny_letGo (JT ?_));by_cases hg:f j>m
   .rw [Xj,decide_eq_true hg];simp only [if_true];refine we (MK YI rfl (we (wpAny_letGo ?_)));rw [Yi];refine JT ⟨Mp F.plain_max_loop _,ih (j+1) _ _ _ (by lia) ZK a4 ?_ (Lq _ YI rfl) λv' h2 Z J O=>?_⟩
    .show i5 (some _) _;rw [hb];simp only [if_pos hg];exact ⟨t,rfl⟩
    .exact hR v' h2 Z J λb o G XB e=>O b o G XB (U XB (Yb b o G e))
   .rw [Xj,decide_eq_false hg];simp only [LZ,if_false];refine we (wpAny_letGo ?_);rw [Yi];refine JT ⟨Mp F.plain_max_loop _,ih (j+1) _ _ _ (by lia) ZK ab ?_ YI λv' h2 Z J O=>?_⟩
    .show i5 (some _) _;rw [hb];simp only [if_neg hg];exact ⟨u,rfl⟩
    .exact hR v' h2 Z J λb o G XB e=>O b o G XB (Yb b o G e)
theorem Fk(a d:Value):NV "max" ⟨[a],[(JW "default",d)]⟩:=by unfold NV;kernel_rfl
theorem HF{d:Value}(hh:A.handled=none)(hl:s.heap.IsList l J)(hv:∀(i:Nat) v,J[i]?=some v->∃t,v = .int (f i) t)(G:(0<J.size/\kw=[])\/kw=[(JW "default",d)])(h:∀v h' tk,nE d (cM f J.size) v->(∀b o,s.heap.get? b=some o->h'.get? b=some o)->Q v { s with heap:=h',toks:=tk }):
  J3 (J6 prog w) A (call (.builtin "max") [.ref l] kw) Q E s:=by
 have Yi:(toString "max"++toString ".loop":String)="max.loop":=by decide
 have ZK:l<s.heap.objs.size:=by obtain ⟨_,e,_⟩:=hl;exact Kq e
 have S:NV "max" ⟨[.ref l],kw⟩:=by
  rcases G with ⟨_,rfl⟩|rfl
  .exact F.args_max1 _
  .exact Fk _ _
 refine PyProof.Rows.kmk_tree F.kind_max F.plain_max F.entry_max S ?_;obtain ⟨O,Z,hdk⟩:∃O:Option Value,Kb.Builtins.bindParams "max" ["key","default"] 0 ⟨[],kw⟩=pure [none,O]/\(O.toList.map λd=>((JW "default":Str),d))=kw:=by
  rcases G with ⟨_,rfl⟩|rfl
  .exact ⟨none,rfl,rfl⟩
  .exact ⟨some d,rfl,rfl⟩
 show J3 _ A.in1 (Kb.Builtins.bindParams "max" ["key","default"] 0 ⟨[],kw⟩>>=_) _ _ s;refine we (wpAny_of_eq Z ?_);refine we (JT ?_);refine we (MU hl ?_);refine we (KI ?_);rw [Yi];have U:(s.heap.push { cls:=.type "list_iterator",data:=.fields #[.ref l,.int 0 0] }).objs.size=s.heap.objs.size+1:=size_push' ..;have W:l≠s.heap.objs.size:=Ky ZK;refine JT ⟨Mp F.plain_max_loop _,?_⟩;show LN _ A (.builtin "max.loop" ⟨[_,.none,_],O.toList.map λd=>((JW "default":Str),d)⟩) _ _;rw [hdk];refine De (Walks.list (A:=A.in1) hh _ l W J) f hv _ (λhm=>?_) (G.imp (·.1) id) _ 0 _ _ #[] rfl (Lc _) ⟨⟨_,JU _ (J7 _ rfl),rfl,rfl⟩,(hl.push _).push _⟩ rfl (J7 _ rfl) λv h' tk hr hk=>?_
 .rcases J1.mp hm with e|hm
  .rw [U] at e;exact absurd e (N4 (MX _))
  .rcases J1.mp hm with e|hm
   .rw [U] at e;exact absurd (e ▸ Mq ZK) (K4 _)
   .cases hm
 .refine h v h' tk hr λb o e=>hk b o (λhm=>?_) (λz=>?_) (JU _ (JU _ e))
  .rcases J1.mp hm with e1|hm
   .exact absurd (e1 ▸ Kq e) (K4 _)
   .cases hm
  .have:=Kq e;rw [z,U] at this;exact absurd this (not_lt.mpr (NQ _))
end
section
variable {X:Cx}
def oi:Option Int->V|none=>.non|some m=>.int m
def ou:List V->Hp->VK->Prop:=λxs H Q=>m9 xs H Q\/∃(l:Addr)(ks:List Int),xs=[.ref l]/\H l=some (.lst (ks.map V.int))/\0<ks.length/\Q (oi (cM (λi=>ks.getD i 0) ks.length)) H
theorem AL{ks:List Int}(r:zm (ks.map V.int) z):∀(i:Nat) v,z.toArray[i]?=some v->∃t,v = .int (ks.getD i 0) t:=by
 intro i v h;rw [<- KQ] at h
 replace h:z[i]?=some v:=h
 induction ks generalizing z i with
 | nil=>cases r;simp at h
 | cons k ks F =>
  cases r with
  | cons r G =>
   cases i with
   | zero=>obtain ⟨t,rfl⟩:=r;simp at h;subst h;exact ⟨t,rfl⟩
   | succ i=>exact F G i (by simpa using h)
theorem EW{o:Option Int}(h:nE .none o v):zl (oi o) v:=by
 cases o with
 | none=>cases (show v = .none from h);rfl
 | some m=>obtain ⟨t,rfl⟩:=h;exact ⟨_,rfl⟩
theorem nT(hc:X.calm=true):zI X (.builtin "max") ou:=by
 intro Go s σ H xs us Q I r h;rcases h with h|⟨l,ks,rfl,hl,O,q⟩
 .exact Bx hc Go s σ H xs us Q I r h
 .obtain ⟨u,rfl,J⟩:=bo r;cases J;obtain ⟨S,z,p,hz⟩:=I.list (SqL.of (K:=X.K) hl);have F:=z.length;rw [JS] at F;refine HF (d:=.none) (f:=λi=>ks.getD i 0) (I.ok.hd hc) p.isList (AL z) (.inl ⟨by rw [J8];lia,rfl⟩) λv h' tk hr G=>⟨_,H,I.kept G,EW hr,?_⟩;rw [J8,<- F];exact q
theorem Eb:ou [.int i,.int j] H Q=Q (.int (if j>i then j else i)) H:=by
 apply propext;constructor
 .rintro (h|⟨l,ks,e,_⟩)
  .rw [pA] at h;exact h
  .cases e
 .exact λq=>.inl (by rw [pA];exact q)
theorem wQ:ou [.ref l] H Q = ∃ks:List Int,H l=some (.lst (ks.map V.int))/\0<ks.length/\Q (oi (cM (λi=>ks.getD i 0) ks.length)) H:=by
 apply propext;constructor
 .rintro (⟨i,j,e,_⟩|⟨l',ks,e,h⟩)
  .cases e
  .cases e;exact ⟨ks,h⟩
 .rintro ⟨ks,h⟩;exact .inr ⟨l,ks,rfl,h⟩
def mV(to te:TE):TE:=λσ H Q=>to σ H λx H1=>uR x λl=>(∃xs,H1 l=some (.lst xs))/\te σ H1 λy H2=>∃(xs:List V)(k:Nat)(v:V),y = .int k/\H2 l=some (.lst xs)/\xs[k]?=some v/\Q v (upd H2 l (.lst (xs.eraseIdx k)))
theorem AJ{to te:TE}:mV to te σ H Q=to σ H λx H1=>uR x λl=>(∃xs,H1 l=some (.lst xs))/\te σ H1 λy H2=>∃(xs:List V)(k:Nat)(v:V),y = .int k/\H2 l=some (.lst xs)/\xs[k]?=some v/\Q v (upd H2 l (.lst (xs.eraseIdx k))):=rfl
theorem EZ{o e:Kf}{to te:TE}(ho:PE X o to)(he:PE X e te)(Zt:KU o "pop" X.env (KZ o X.env)=KZ o X.env:=by rfl)(Zs:(Z1.endLine==cpos.line)=true:=by rfl)(hp:aP e=true:=by rfl):PE X (.Call (.Attribute o "pop" Z1) [e] [] cpos) (mV to te):=by
 intro Go s σ H Q I h;have hs:Kv [e] X.env=[(false,KZ e X.env)]:=dM hp;refine LL Zt (by rw [hs];rfl) Zs rfl (thn (ho Go s σ H _ I h) λv s1=>x5e λx H1 I1 S YH=>?_);obtain ⟨l,ex,⟨xs,hx⟩,q1⟩:=YH;subst ex;obtain ⟨h1,h2⟩:=fU (T:="list") I1 S (.inl ⟨rfl,xs,SqL.of hx⟩);refine ⟨"list","list.pop",Nq,PySem.F.slot_list_pop,PySem.F.type_list_pop,h1,h2,?_⟩;rw [hs];refine Calls.callWith_builtin rfl (Calls.evalArgs_plain ?_);have U:=dI he dP (hs:=hs) cpos Go s1 σ H1 (λys H2=>bY (λy=>∃(xs:List V)(k:Nat)(v:V),y = .int k/\H2 l=some (.lst xs)/\xs[k]?=some v/\Q v (upd H2 l (.lst (xs.eraseIdx k)))) ys) I1 q1;rw [hs] at U;refine thn U λus s2=>x5e λvs H2 W r2 J=>?_;obtain ⟨_,rfl,z,k,y,rfl,G,Z,J⟩:=bY.ex J;obtain ⟨hz,_⟩:=W.OQ G;have ZK:k<z.length:=(JX.mp Z).1;have O:k<sizeLine:=Kl ZK hz;rw [K8] at O;exact Jj Go s2 σ H2 (.ref l) [.int k] v us Q W S r2 ⟨l,z,k,k,y,rfl,rfl,G,by lia,by lia,by simp [seqIndex?];lia,Z,J⟩
theorem uP{o e:Kf}{to te:TE}(ho:W (PE X o to))(he:W (PE X e te))(z:KU o "pop" X.env (KZ o X.env)=KZ o X.env:=by rfl)(G:(Z1.endLine==cpos.line)=true:=by rfl)(F:aP e=true:=by rfl):W (PE X (.Call (.Attribute o "pop" Z1) [e] [] cpos) (mV to te)):=⟨EZ ho.h he.h z G F⟩
end
end L2
namespace L2
open PySem PySem.Spec PyProof.Rows PySem.W
end L2
namespace L2
open PySem PySem.Spec PyProof.Rows
def tDC(ix:List (Option Nat))(wi:TI)(g:TG)(tt:TT)(tk tv:TE):TE:=λσ H Q=>wi σ H λJ H1=>∃W:Nat->Nat->St->List (Key×V)->Hp->Prop,(∃m,W 0 m (bK ix σ) [] H1)/\∀i m O ys H2,W i m O ys H2->ys.length<sizeLine /\
 ((J.stop i H2 ∧ ∀ D, H2 D = none → D ≠ sysModules → Q (.ref D) (upd H2 D (.dK ys))) ∨
  (J.go i H2 ∧ ∀ x H3, J.Px i H2 x H3 → g x O H3 fun F H4 => tt F H4 fun ok H5 => if ok = true then tk F H5 fun y H6 => tv F H6 fun z H7 => uK y fun k => ∃ G, G < m ∧ W (i + 1) G F (aE ys k z) H7 else ∃ G, G < m ∧ W (i + 1) G F ys H5))
theorem Iy(hc:c=true->X.calm=true)(L:af X sc N' ix)(hi:PIc c X tg iter wi)(hg:∀Go C fp s H,PG (zy X sc N' Go C fp s H) tg g)(ht:∀Go C fp s H,PTs (zy X sc N' Go C fp s H) Zc tt)(hk:∀Go C fp s H,PE (zy X sc N' Go C fp s H) kx tk)(hv:∀Go C fp s H,PE (zy X sc N' Go C fp s H) F tv)(hs:∀x,Kw iter X.env x=pure x:=by intro _;rfl):PE X (.DictComp kx F [⟨tg,iter,Zc,0⟩] sc pos) (tDC ix wi g tt tk tv):=by
 intro Go s σ H Q I h;rw [arm_eval_DictComp];refine uV (e:=.DictComp kx F [⟨tg,iter,Zc,0⟩] sc pos) (use:=none) (em:=λD env=>do
  let kv<-KZ kx env
  let vv<-MM [kv] (KZ F env)
  Mt { kx.pos with endLine:=F.pos.endLine,endCol:=F.pos.endCol }
  MM [kv,vv] (dictSet D kv vv)) (T:="dict") (dt:=.dict #[]) length HO.dK [] (λys o=>∃vs es ep,KV ys vs/\o.ExactDict/\o.data = .dict es ep/\KeysOf (aw X.prog X.w) es/\Pairs (aw X.prog X.w) es.toList vs/\(vs.map (·.1)).Nodup) (λK ys S H=>tk S H λy H6=>tv S H6 λz H7=>uK y λk=>K (aE ys k z) H7) rfl (by size_fits) (λ_ _ _=>⟨λ_=>rfl,rfl⟩) codeAny_compStart_dict ?_ rfl ?_ ?_ ?_ hc L hi hg ht hs I h λC D oC H' s5 m5 W ns tu q=>?_
 .obtain ⟨o,es,ep,e,r⟩:=Heap.DictOf.new (knd:=aw X.prog X.w) s.heap;rw [J7 _ rfl] at e;cases e;exact ⟨[],es,ep,.nil,r⟩
 .rintro ys o ⟨vs,es,ep,_,_,d,_⟩ v z;rw [d] at z;cases z
 .rintro ys o H' h D ⟨vs,es,ep,U,dx,r⟩ hl n e;exact ⟨Nk hl,by simpa using n,vs,U,o,es,ep,e,dx,r⟩
 .rintro Go C fp s H pins' s8 S H8 ys ob D K I8 q8 ⟨vs,es,ep,U,r⟩ hl hD;refine we (thn (hk Go C fp s H _ s8 S H8 _ I8 q8) λy s9=>x5e λyv H9 I9 r9 q9=>we (Ks (thn (hv Go C fp s H _ s9 S H9 _ I9 q9) λz O=>x5e λzv a0 G av XI=>?_)));obtain ⟨kk,ek,w'⟩:=XI;subst ek;have lv:vs.length<sizeLine:=by rw [<- U.length];exact hl
  refine we (Ll (Ks (wpAny_dictSet_pairs (hsz:=Nk lv) (dE r9) ⟨ob,es,ep,(G.pin _ (J0 _ hD)).1,r⟩ λa3 J sb=>?_)));obtain ⟨o2,a4,Z,e2,r2⟩:=J;exact ⟨O,_,a0,o2,a3,O.toks+1,rfl,w',G,⟨_,a4,Z,U.put kk av,r2⟩,e2,sb⟩
 .obtain ⟨p6,aI,_⟩:=W.pin (C,oC) (J0 _ (J0 _ (KS.mpr rfl)));exact ⟨m5,ns p6,λh' ab=>⟨.ref D,H',tu (W.ti λp hp=>W.pin p (J0 _ (KC _ hp))) aI ab,rfl,q⟩⟩
end L2
namespace L2
open PySem PySem.Spec PyProof.Rows PySem.W PySem.Calls
section
variable {X:Cx}
def ik(kvs:List (Int×V)):List (Key×V):=kvs.map λp=>(.inl p.1,p.2)
def qt:List V->Hp->VK->Prop:=λxs H Q=>uR1 xs λa=>∃kvs:List (Int×V),Rd H a (.dK (ik kvs))/\kvs.length<64/\∀p (ns:List Int) H2,New H p (.lst (ns.map V.int)) H2->ns.Perm (kvs.map (·.1))->ns.Pairwise (·<=·)->Q (.ref p) H2
theorem BM{a:Addr}:qt [.ref a] H Q = ∃kvs:List (Int×V),Rd H a (.dK (ik kvs))/\kvs.length<64/\∀p (ns:List Int) H2,New H p (.lst (ns.map V.int)) H2->ns.Perm (kvs.map (·.1))->ns.Pairwise (·<=·)->Q (.ref p) H2:=dw
theorem sY:∀{vs:List Value}{ns:List Int},vs.length=ns.length->(∀(j:Nat)(v:Value),vs[j]?=some v->∃t,v=MI (ns.getD j 0) t)->Mv vs ns
 | [],[],_,_=>.nil
 | [],_::_,h,_=>absurd h (by simp)
 | _::_,[],h,_=>absurd h (by simp)
 | v::vs,x::ns,h,f=>by
  obtain ⟨t,e⟩:=f 0 v rfl;have F:v=MI x t:=e;rw [F];exact .cons x t (sY (by simpa using h) λj u z=>f (j+1) u z)
theorem tF(hc:X.calm=true):zI X (.builtin "sorted") qt:=by
 intro Go s σ H xs us Q I r h;obtain ⟨a,rfl,kvs,hq,XD,q⟩:=h;obtain ⟨u,rfl,ru⟩:=bo r;cases ru;obtain ⟨z,hd,vs,Zq,dd⟩:=bR I.hok hq;obtain ⟨ep,S⟩:=dd.dictAt;have ZS:vs.length=kvs.length:=by rw [<- Zq.length];simp [ik]
 refine call_function_entry kind_sorted plain_sorted entry_sorted (args_sorted1 _) ?_;unfold Kb.«sorted»
 refine we (m:=checkCount "sorted" 1 1 _) (JT (we (kdu_collect (A:=X.A.in1) (kdl_dict (knd:=aw X.prog X.w) (kvs:=vs) (ep:=ep) hd) (I.ok.hd hc) S (by rw [ZS,K8];lia) λh' tk ZQ Z Zn=>?_)));have hl:ZQ.toList.length=kvs.length:=by rw [Ln,<- ZS];exact Zn.1
 have hS:Mv ZQ.toList (kvs.map (·.1)):=sY (by rw [hl,JS]) λj v hv=>by
  obtain ⟨k,x,hx,Z⟩:=Zn.2 j v (by rw [<- KQ];exact hv);have hj:j<vs.length:=(JX.mp hx).1;have G:j<kvs.length:=by lia
  have J:(ik kvs)[j]?=some (.inl kvs[j].1,kvs[j].2):=by simp [ik,G]
  obtain ⟨u',F,_⟩:=Zq.at J;rw [hx] at F;cases F;rcases cG (show dz (Sum.inl kvs[j].1) v=true from Z) with ⟨i,t,O,J⟩|⟨y,t,O,J⟩
  .cases O;exact ⟨t,by rw [J,Kj,Kd,JQ G];rfl⟩
  .cases O
 have I1:Inv X Go σ H { s with heap:=h',toks:=tk }:=I.kept Z;refine we (wpAny_newList ?_ (by rw [hl,K8];lia));have W:(h'.push (seqObj "list" ZQ.toList.toArray 0)).get? h'.objs.size=some (seqObj "list" ZQ.toList.toArray 0):=J7 _ rfl;refine we (Ks (Lg slot_list_sort ⟨_,W,rfl⟩ entry_list_sort (list_sort_tree W hS (by rw [hl];exact XD) λout YB b1 b2 b3=>⟨_,rfl,?_⟩) (args_list_sort _)));obtain ⟨c,U⟩:=sortedHeap_at (vs:=ZQ.toList) (out:=out) W;refine JT ⟨_,rfl,.ref h'.objs.size,upd H h'.objs.size (.lst (YB.map V.int)),I1.laid (a:=h'.objs.size) (t':=tk) (λb o e=>?_) (JY _) ⟨?_,out.toList,c,lI b1,by rw [MV];exact U⟩,rfl,q _ YB _ (.mk' (I1.hok.fresh (JY _))) b2 b3⟩
 .have hb:b<h'.objs.size:=Kq e;rw [sortedHeap_old (Ky hb) (by rw [size_push'];exact Mq hb)];exact JU _ e
 .have:=b2.length_eq;rw [JS,this,JS,K8];lia
end
theorem yi(hc:c=true->X.calm=true)(L:af X sc N' ix)(hi:W (PIc c X tg iter wi))(O:∀Go C fp s H,W (PG (zy X sc N' Go C fp s H) tg g))(G:∀Go C fp s H,W (PTs (zy X sc N' Go C fp s H) z tt))(J:∀Go C fp s H,W (PE (zy X sc N' Go C fp s H) kx tk))(hv:∀Go C fp s H,W (PE (zy X sc N' Go C fp s H) F tv))(hs:∀x,Kw iter X.env x=pure x:=by intro _;rfl):W (PE X (.DictComp kx F [⟨tg,iter,z,0⟩] sc pos) (tDC ix wi g tt tk tv)):=⟨Iy hc L hi.h (λa b c d e=>(O a b c d e).h) (λa b c d e=>(G a b c d e).h) (λa b c d e=>(J a b c d e).h) (λa b c d e=>(hv a b c d e).h) hs⟩
theorem DX{a:Addr}:oG (.ref a) (.int i) H Q = ∃kvs,Rd H a (.dK kvs)/\∃v,zS kvs (.inl i)=some v/\Q v H:=by
 apply propext;constructor
 .rintro ⟨G,k,kvs,v,F,z,h1,h2,q⟩;cases F;cases k with
  | inl j=>cases z;exact ⟨kvs,h1,v,h2,q⟩
  | inr x=>cases z
 .rintro ⟨kvs,h1,v,h2,q⟩;exact ⟨a,.inl i,kvs,v,rfl,rfl,h1,h2,q⟩
section
variable {K:JV}{g:TG}{tt:TT}{te tk tv:TE}{σ:St}{H:Hp}{wi:TI}{ix:List (Option Nat)}{Q:VK}
def e9(J:It)(g:TG)(tt:TT)(tk tv:TE)(O:St)(H:Hp)(Q:VK):Prop:=∃W:Nat->Nat->St->List (Key×V)->Hp->Prop,(∃m,W 0 m O [] H)/\∀i m O ys H2,W i m O ys H2->ys.length<sizeLine /\
 ((J.stop i H2 ∧ ∀ D, H2 D = none → D ≠ sysModules → Q (.ref D) (upd H2 D (.dK ys))) ∨
  (J.go i H2 ∧ ∀ x H3, J.Px i H2 x H3 → g x O H3 fun F H4 => tt F H4 fun ok H5 => if ok = true then tk F H5 fun y H6 => tv F H6 fun z H7 => uK y fun k => ∃ G, G < m ∧ W (i + 1) G F (aE ys k z) H7 else ∃ G, G < m ∧ W (i + 1) G F ys H5))
theorem Jh:tDC ix wi g tt tk tv σ H Q=wi σ H λJ H1=>e9 J g tt tk tv (bK ix σ) H1 Q:=rfl
def gJ(N:St->List (Key×V)->Hp->Prop)(ys:List (Key×V))(F:St)(tk tv:TE)(ok:Bool)(H5:Hp):Prop:=if ok=true then tk F H5 λy H6=>tv F H6 λz H7=>uK y λk=>N F (aE ys k z) H7 else N F ys H5
theorem Ee:gJ N ys F tk tv true H=tk F H λy H6=>tv F H6 λz H7=>uK y λk=>N F (aE ys k z) H7:=rfl
theorem xY:gJ N ys z tk tv false H=N z ys H:=rfl
theorem e9.lst{a:Addr}{xs:List V}{z:St}(G:Nat->St->List (Key×V)->Hp->Prop)(hz:∀i z ys H,G i z ys H->ys.length<sizeLine)(ha:∀i z ys H,G i z ys H->SqL K H a xs)(S:G 0 z [] H)
  (hs:∀(N:St->List (Key×V)->Hp->Prop) i x z ys H,xs[i]?=some x->G i z ys H->(∀z ys H,G (i+1) z ys H->N z ys H)->g x z H λF H4=>tt F H4 λok H5=>gJ N ys F tk tv ok H5) (hd:∀z ys H,G xs.length z ys H->∀D H',New H D (.dK ys) H'->Q (.ref D) H'):e9 (Itl K a) g tt tk tv z H Q:=by
 refine ⟨λi m z ys H=>m=xs.length-i/\i<=xs.length/\G i z ys H,⟨xs.length,by simp,Lc _,S⟩,?_⟩;rintro i m z ys H2 ⟨rfl,hi,p⟩;refine ⟨hz i z ys H2 p,?_⟩;have q:=ha i z ys H2 p;by_cases O:i<xs.length
 .refine .inr ⟨⟨xs,xs[i],q,by simp [O]⟩,λx H' y=>?_⟩;obtain ⟨e,y⟩:=y;subst e;exact hs (λF ys H=>∃J,J<xs.length-i/\J=xs.length-(i+1)/\i+1<=xs.length/\G (i+1) F ys H) i x z ys _ (y xs q) p λF zs H q=>⟨xs.length-(i+1),by lia,rfl,O,q⟩
 .have e:i=xs.length:=by lia
  subst e;exact .inl ⟨⟨xs,q,JY _⟩,λD U _=>hd z ys H2 p D _ (.mk' U)⟩
end
end L2
namespace L2
open PySem PySem.Spec PyProof.Rows
def Ris(xs:Array Nat):Prop:=∀i j,i<j->j<xs.size->xs.getD i 0<xs.getD j 0
theorem IA{xs:Array Nat}{i a b:Nat}(h:i<xs.size):xs.getD i a=xs.getD i b:=by simp [getD,h]
structure wR(xs:Array Nat)(j b:Nat):Prop where
 le:b<=xs.size
 lo:∀i,i<b->xs.getD i 0<j
 hi:∀i,b<=i->i<xs.size->j<=xs.getD i 0
theorem kN(r:Ris xs):∀(f lo hi:Nat),lo<=hi->hi<=xs.size->hi<=lo+f->(∀i,i<lo->xs.getD i 0<j)->(∀i,hi<=i->i<xs.size->j<=xs.getD i 0)->wR xs j (Ki.below.go xs j f lo hi)
 | 0,lo,hi,h1,h2,G,a,b=>by
  have e:lo=hi:=by lia
  subst e;exact ⟨h2,a,b⟩
 | f+1,lo,hi,h1,h2,G,a,b=>by
  unfold Ki.below.go;split
  .rename_i h;have hm:(lo+hi) / 2<xs.size:=by lia
   dsimp only;rw [IA (a:=j) (b:=0) hm];by_cases c:xs.getD ((lo+hi) / 2) 0<j
   .rw [if_pos c];refine kN r f ((lo+hi) / 2+1) hi (by lia) h2 (by lia) (λi z=>?_) b;by_cases e:i=(lo+hi) / 2
    .subst e;exact c
    .have F:i<(lo+hi) / 2:=by lia
     exact Nj (r i ((lo+hi) / 2) F hm) c
   .rw [if_neg c];refine kN r f lo ((lo+hi) / 2) (by lia) (by lia) (by lia) a λi z hs=>?_;by_cases e:i=(lo+hi) / 2
    .subst e;lia
    .have F:(lo+hi) / 2<i:=by lia
     have:=r ((lo+hi) / 2) i F hs;lia
  .have e:lo=hi:=by lia
   subst e;exact ⟨h2,a,b⟩
theorem nr(r:Ris xs)(j:Nat):wR xs j (Ki.below xs j):=kN r _ _ _ (Lc _) (JY _) (by lia) (λi h=>by lia) λi h1 h2=>by lia
theorem wt{p x i:Nat}(z:p<=xs.size):(Ki.insertAt xs p x).getD i 0=if i<p then xs.getD i 0 else if i=p then x else xs.getD (i-1) 0:=by
 have hl:(xs.toList.take p).length=p:=by rw [Kr,Ln];lia
 rw [LS,<- KQ,Ki.toList_insertAt];by_cases h:i<p
 .rw [if_pos h,List.getElem?_append_left (by lia),List.getElem?_take_of_lt h,KQ,LS]
 .rw [if_neg h,MD (by lia),hl];by_cases e:i=p
  .rw [if_pos e,e,sub_self];rfl
  .rw [if_neg e,show i-p=(i-1-p)+1 by lia,MS,List.getElem?_drop,KQ,LS];congr 2;lia
theorem yl{p x:Nat}:(Ki.insertAt xs p x).size=xs.size+1:=by
 have:=(Ki.insertAt_perm xs p x).length_eq;simpa using this
theorem An(r:Ris xs)(hn : ¬ xs[Ki.below xs j]?=some j):Ris (Ki.insertAt xs (Ki.below xs j) j):=by
 have B:=nr r j;generalize Ki.below xs j=p at B hn;have F:=B.le;intro a b O hb;rw [yl] at hb;rw [wt F,wt F];have G:∀i,p<=i->i<xs.size->j<xs.getD i 0:=λi h1 h2=>by
  have J:=B.hi i h1 h2;by_cases e:i=p
  .subst e;rcases Nat.lt_or_eq_of_le J with z|z
   .exact z
   .exact absurd (by rw [Lx h2]; have : xs.getD i 0 = xs[i] := by simp [getD, h2]
                     rw [z, this]) hn
  .have:=r p i (by lia) h2;have:=B.hi p (JY _) (by lia);lia
 by_cases h1:b<p
 .rw [if_pos h1,if_pos (by lia)];exact r a b O (by lia)
 .rw [if_neg h1];by_cases h2:b=p
  .rw [if_pos h2,if_pos (by lia)];exact B.lo a (by lia)
  .rw [if_neg h2];by_cases J:a<p
   .rw [if_pos J];exact Nj (B.lo a J) (G (b-1) (by lia) (by lia))
   .rw [if_neg J];by_cases S:a=p
    .rw [if_pos S];exact G (b-1) (by lia) (by lia)
    .rw [if_neg S];exact r (a-1) (b-1) (by lia) (by lia)
structure cw(bt:Bool)(t:Ki):Prop where
 led:t.led = !bt
 QL:t.dummies = #[]
 ris:Ris t.place
theorem sx:Ki.has #[] j=false:=by simp [Ki.has]
theorem EX(n:Nat):Ris (Array.range n):=λi j h G=>by
 have F:j<n:=by simpa using G
 have z:i<n:=by lia
 simp [getD,z,F,h]
theorem jP{t:Ki}(h:cw bt t)(n:Nat):cw bt (t.standIn n):=⟨h.led,rfl,EX n⟩
theorem yt{t:Ki}(h:cw bt t)(n:Nat):cw bt (t.orStandIn n):=by
 unfold Ki.orStandIn;split
 .exact h
 .exact jP h n
theorem CK{t:Ki}(h:t.dummies = #[])(j:Nat):(t.slot j = .empty/\¬ t.place[Ki.below t.place j]?=some j)\/∃i,t.slot j = .live i:=by
 unfold Ki.slot;dsimp only;split
 .exact .inr ⟨_,rfl⟩
 .rename_i hc;rw [h,sx];exact .inl ⟨rfl,by simpa using hc⟩
theorem qH{t:Ki}(hd:t.dummies = #[]):∀(f:Nat)(p:Ki.Probe)(j:Nat)(d:Option Nat),p.dummy=none->Ki.probe.go t g h f p=some (.empty j d)->d=none/\¬ t.place[Ki.below t.place j]?=some j
 | 0,p,j,d,_,e=>by cases e
 | f+1,p,j,d,F,e=>by
  have z:∀q:Ki.Probe,(t.advance q).dummy=q.dummy:=λq=>by
   unfold Ki.advance;split
   .rfl
   .rfl
  unfold Ki.probe.go at e;rcases CK hd p.j with ⟨h1,h2⟩|⟨i,h1⟩
  .rw [h1] at e;cases e;exact ⟨F,h2⟩
  .rw [h1] at e;dsimp only at e;split at e
   .cases e
   .exact qH hd f _ j d (by rw [z];exact F) e
theorem yb{t:Ki}(h:cw bt t)(es:Array (Int×Value))(z:Int)(x:Value):cw bt (layNew t es z x).2.1:=by
 unfold layNew;split
 .rename_i slot wd e;refine yt ?_ _;unfold Ki.freeSlot at e;split at e
  .rename_i j d F;obtain ⟨rfl,G⟩:=qH h.QL _ _ _ _ rfl F;cases e;refine ⟨h.led,?_,An h.ris G⟩;show (if Ki.has t.dummies j=true then _ else t.dummies) = #[];rw [h.QL,sx];rfl
  .cases e
 .exact jP h _
theorem BJ{t:Ki}(h:cw bt t)(es:Array (Int×Value))(n:Nat):cw bt (relayAll t es n).2.1:=by
 unfold relayAll;split
 .rename_i t' J e;dsimp only;split
  .unfold Ki.relaid Ki.laid at e;obtain ⟨owner,_,e⟩:=Option.bind_eq_some_iff.mp e;cases e;refine ⟨h.led,rfl,λi j z F=>?_⟩;have S:(((KR (Ki.sizeAbove n-1+1)).filterMap λj=>(owner.getD j none).map (j,·)).map (·.1)).Pairwise (· < ·):=by
    rw [List.pairwise_map];refine List.Pairwise.filterMap _ (λa U O b hb W G=>?_) List.pairwise_lt_range;obtain ⟨_,_,rfl⟩:=Km.mp hb;obtain ⟨_,_,rfl⟩:=Km.mp G;exact O
   rw [J8] at F;have:=List.pairwise_iff_getElem.mp S i j (by lia) F z;rw [LS,LS,Na,Na,JQ F,JQ (Nj z F)];exact this
  .exact jP h _
 .exact jP h _
def btW(w:Ke):Bool:=w.params.followText "set-order"
def c7(e:Int×Value):Int:=numOf e.2
structure zR(prog:JZ)(w:Ke)(h:Heap)(a:Addr)(ns:List Int):Prop where
 ex:∃o es ep t,h.get? a=some o/\o.ExactSet/\o.data = .set es ep t/\ElemsOf (K5 prog w) es.toList/\t.fits es.size=true/\cw (btW w) t/\(es.toList.map c7).Perm ns
 few:ns.length<4000
section
variable {prog:JZ}{w:Ke}{A:Kk}{E:Value->JR->Prop}{s:JR}
theorem zR.size{h:Heap}{a:Addr}{ns:List Int}{es:Array (Int×Value)}(p:(es.toList.map c7).Perm ns):es.size=ns.length:=by
 have:=p.length_eq;rw [JS,Ln] at this;exact this
theorem zR.at{a:Addr}(x:zR prog w h a ns)(k:∀o,h.get? a=some o->h'.get? a=some o):zR prog w h' a ns :=
 let ⟨o,es,ep,t,ho,r⟩:=x.ex;⟨⟨o,es,ep,t,k o ho,r⟩,x.few⟩
theorem kQ(h:(K5 prog w).is n v=true):∃t,v = .int n t:=by
 cases v with
 | int m t =>
  have e:(m==n)=true:=by simpa [K5,NR] using h
  have e:m=n:=by simpa using e
  exact ⟨t,by rw [e]⟩
 | _=>exact absurd h (by simp [K5,NR])
theorem Gs(n:Int)(t:Tok):(K5 prog w).is n (.int n t)=true:=by simp [K5,NR]
theorem DY(h:∀o,zR prog w (s.heap.push o) s.heap.objs.size []->(∀v,o.data≠.cell v)->Q (.ref s.heap.objs.size) { s with heap:=s.heap.push o }):
  J3 (J6 prog w) A (newSet (.type "set")) Q E s:=by
 unfold newSet setsByText;refine we (we (L6 (JT ?_)));dsimp only;simp only [newObj];refine we (wpAny_alloc (JT (h _ ⟨⟨_,#[],0,_,J7 _ rfl,⟨rfl,rfl,rfl⟩,rfl,λe he=>by simp at he,by rfl,⟨rfl,rfl,λi j _ F=>by simp [Ki.fresh] at F⟩,Perm.refl _⟩,by decide⟩ λv z=>by cases z)))
theorem qB{h:Heap}{a:Addr}{o:Obj}{t:Ki}(ho:h.get? a=some o)(hd:o.data = .set es ep t)(z:Array (Int×Value))(t':Ki):
  (h.update a (Obj.putSet z t')).get? a=some { o with data:=.set z (ep+1) t' }:=by
 have:=Lq (Obj.putSet z t') ho (by rw [putSet_of z t' hd];rfl);rw [putSet_of z t' hd] at this;exact this
theorem Ga{a:Addr}(hS:zR prog w s.heap a ns)(hr:ns.length<3000)(h:∀h' b,Lr a s.heap h'->zR prog w h' a (if n∈ns then ns else ns++[n])->Q b { s with heap:=h',toks:=s.toks+1 }):
  J3 (J6 prog w) A (setAdd a (.int n tk)) Q E s:=by
 obtain ⟨o,es,ep,t,ho,Xk,hd,G,hf,gt,pm⟩:=hS.ex;have hsz:=zR.size (h:=s.heap) (a:=a) pm;have hb:es.size<scanBound:=by rw [hsz];exact Nj hr (by decide)
 have Xv:=Gs (prog:=prog) (w:=w) n tk;unfold setAdd;refine Ks (we ((K5 prog w).pyHash Xv ?_));have Y0:∀h',Lr a s.heap h'->zR prog w h' a (if n∈ns then ns else ns++[n])->∀b:Bool,Q b { s with heap:=h',toks:=s.toks+1 }:=λh' Z YI b=>h h' b Z YI;unfold setAddHashed setAddHashedIn;refine Ks (we (LG (s:={ s with toks:=s.toks+1 }) ho hd hf ?_));dsimp only;rw [byScan_of (x:=.int n tk) rfl hb G];simp only [↓reduceIte];unfold setAddByScan;refine we (we (Mc (we (wpAny_setScan_of (s:={ s with toks:=s.toks+1 }) Xv ho hd hf G ?_))));cases ab:List.findIdx? (λe=>(K5 prog w).is n e.2) es.toList with
 | some j =>
  dsimp only;obtain ⟨hj,a4,_⟩:=List.findIdx?_eq_some_iff_getElem.mp ab;have O:n∈ns:=by
   refine pm.mem_iff.mp (KL.mpr ⟨_,Lk hj,?_⟩);obtain ⟨t',e⟩:=kQ a4;show numOf (es.toList[j]).2=n;rw [e];rfl
  refine JT (JT ?_);have:=Y0 s.heap (Lr.refl a s.heap) (by rw [if_pos O];exact hS) false;exact this
 | none =>
  dsimp only;have a5:n∉ns:=λO=>by
   obtain ⟨e,he,ev⟩:=KL.mp (pm.mem_iff.mpr O);obtain ⟨⟨k,hk,_⟩,_⟩:=G e he;obtain ⟨t',e2⟩:=kQ hk;have:k=n:=by rw [<- ev];show k=numOf e.2;rw [e2];rfl
   subst this;have:=List.findIdx?_eq_none_iff.mp ab e he;rw [hk] at this;cases this
  rw [if_neg a5] at Y0;have W:=layNew_perm t es ((K5 prog w).hash n) (.int n tk);have XT:=layNew_fits t es ((K5 prog w).hash n) (.int n tk);have XS:=yb gt es ((K5 prog w).hash n) (.int n tk);generalize hL:layNew t es ((K5 prog w).hash n) (.int n tk)=L at W XT XS ⊢;obtain ⟨z,t1,Xi,a7⟩:=L;dsimp only at W XT XS ⊢;rw [Array.toList_push] at W;have av:ElemsOf (K5 prog w) z.toList:=(G.push Xv rfl).perm W;have aI:(z.toList.map c7).Perm (ns++[n]):=by
   have:=W.map c7;rw [Kz] at this;exact this.trans (pm.append (Perm.refl _))
  have a0:z.size=ns.length+1:=by have:=zR.size (h:=s.heap) (a:=a) aI;simpa using this
  have mk:∀{h':Heap}{F:Array (Int×Value)}{t2:Ki}{e:Nat},h'.get? a=some { o with data:=.set F e t2 }->F.toList.Perm z.toList->t2.fits F.size=true->cw (btW w) t2->zR prog w h' a (ns++[n]):=λ{h' F t2 e} Yk p f g=>⟨⟨_,F,e,t2,Yk,Xk,rfl,av.perm p,f,g,(p.map c7).trans aI⟩,by rw [KB,LA];lia⟩;have big:z.size<=sizeLine:=fits_of_scanBound (by rw [a0];exact Ku (Nat.succ_le_of_lt hr) (by decide));have a3:∀(b:Bool){s₁:JR}{Q':Unit->JR->Prop},Q' () s₁->J3 (J6 prog w) A (match b with|true=>rule "set.scan.the-table-gave-way" | false=>pure ()) Q' E s₁:=λb s₁ Q' hq=>by cases b<;>first|exact JT hq|exact Mc hq
  refine we (a3 _ ?_);have tail:∀(t2:Ki),t2.fits z.size=true->cw (btW w) t2->J3 (J6 prog w) A (do
    storeSet a z t2
    if (!Xi&&t2.tooFull)=true then do
      (match (relayAll t2 z (Ki.grown z.size)).2.2 with|true=>rule "set.scan.the-table-gave-way" | false=>pure ())
      storeSet a (relayAll t2 z (Ki.grown z.size)).1 (relayAll t2 z (Ki.grown z.size)).2.1
      pure (some true)
     else pure (some true)) (λr s'=>r=some true/\∃h',Lr a s.heap h'/\zR prog w h' a (ns++[n])/\s'={ s with heap:=h',toks:=s.toks+1 }) E { s with toks:=s.toks+1 }:=λt2 f2 g2=>by
   refine we (wpAny_storeSet_of (s:={ s with toks:=s.toks+1 }) ho hd ?_ big);have S:=qB ho hd z t2;have J:=Lr.update s.heap a (Obj.putSet z t2);split
   .have hp:=relayAll_perm t2 z (Ki.grown z.size);have Xn:=relayAll_fits t2 z (Ki.grown z.size);have U:=BJ g2 z (Ki.grown z.size);generalize a8:relayAll t2 z (Ki.grown z.size)=Rl at hp Xn U ⊢;obtain ⟨F,t3,a6⟩:=Rl;dsimp only at hp Xn U ⊢;have hsz:F.size=z.size:=by rw [<- Ln,hp.length_eq,Ln]
    refine we (a3 _ ?_);refine we (wpAny_storeSet_of S rfl ?_ (by rw [hsz];exact big));exact JT ⟨rfl,_,J.trans (Lr.update _ a _),mk (qB S rfl F t3) hp Xn U,rfl⟩
   .exact JT ⟨rfl,_,J,mk S (Perm.refl _) f2 g2,rfl⟩
  split
  .refine we ?_;rw [hashByValue_scannable 8 rfl];refine JT ?_
   try simp only [↓reduceIte]
   refine KJ (tail t1 XT XS) ?_ (λ_ _ q=>q);rintro r s' ⟨rfl,h',Z,YI,rfl⟩;dsimp only;exact JT (Y0 h' Z YI true)
  .refine we (JT ?_)
   try simp only [↓reduceIte]
   refine KJ (tail t1 XT XS) ?_ (λ_ _ q=>q);rintro r s' ⟨rfl,h',Z,YI,rfl⟩;dsimp only;exact JT (Y0 h' Z YI true)
theorem add_int{a:Addr}(z:zR prog w s.heap a ns)(hr:ns.length<3000)(h:∀h',Lr a s.heap h'->zR prog w h' a (if n∈ns then ns else ns++[n])->Q .none { s with heap:=h',toks:=s.toks+1 }):
  J3 (J6 prog w) A (call (.builtin "set.add") [.ref a,.int n tk]) Q E s:=by
 obtain ⟨o,es,ep,t,ho,G,hd,_⟩:=z.ex;have typ:s.TypeIs (.ref a) "set":=⟨o,ho,G.1⟩;refine Lg F.slot_set_add typ F.entry_set_add ?_ (F.args_set_add_2 _ _);unfold Kb.«set.add» Kb.Frozenset.oneOther
 simp only [List.isEmpty_nil,bind_assoc];unfold Kb.Frozenset.addrOf;refine we (JT (we (JT (we (Ga z hr λh' b O J=>JT ⟨_,rfl,h h' O J⟩)))))
end
def inB(e:Kf)(d:Nat)(iter:Kf)(ZQ:Value)(env:Env):Sem Unit:=do
 let x<-KZ iter env
 Mt iter.pos
 let x<-Kw iter env x
 let _<-runOwn (.compStart e d (<- MM [x] (pyIter x)) ZQ env) env
def emB(Zb:Kf)(ZQ:Value)(env:Env):Sem Unit:=do
 let v<-KZ Zb env
 Mt Zb.pos
 let _<-call (.builtin "set.add") [ZQ,v]
def c9(e:Kf)(d:Nat)(tg iter:Kf)(z:Sem Unit)(it ZQ:Value)(env:Env):Sem Fin:=do
 Mt iter.pos
 match<-MW it with
 | none=>pure (.done .next)
 | some v =>
  LK tg it v
  NU tg env v
  z
  again (.compLoop e d it ZQ env)
section
variable {Zb t0 i0 t1 i1 t2 i2:Kf}{sc:Scope}{pos:Pos}{it ZQ:Value}{env:Env}
theorem GE(he:e = .SetComp Zb [⟨t0,i0,[],0⟩,⟨t1,i1,[],0⟩,⟨t2,i2,[],0⟩] sc pos):N9 e 0 it ZQ env=c9 e 0 t0 i0 (inB e 1 i1 ZQ env) it ZQ env:=by
 subst he;unfold c9 inB;simp only [bind_assoc];rfl
theorem Dd(he:e = .SetComp Zb [⟨t0,i0,[],0⟩,⟨t1,i1,[],0⟩,⟨t2,i2,[],0⟩] sc pos):N9 e 1 it ZQ env=c9 e 1 t1 i1 (inB e 2 i2 ZQ env) it ZQ env:=by
 subst he;unfold c9 inB;simp only [bind_assoc];rfl
theorem Ib(he:e = .SetComp Zb [⟨t0,i0,[],0⟩,⟨t1,i1,[],0⟩,⟨t2,i2,[],0⟩] sc pos):N9 e 2 it ZQ env=c9 e 2 t2 i2 (emB Zb ZQ env) it ZQ env:=by
 subst he;unfold c9 emB;rfl
theorem vp(he:e = .SetComp Zb gs sc pos){d:Nat}(hd:(clausesOf e)[d]?=some ⟨tg,iter,[],0⟩)(F:LN (J6 prog w) A (.compLoop e d it ZQ env) R s)(h:J3 (J6 prog w) A (pyIter it) (λz s'=>LN (J6 prog w) A (.compLoop e d z ZQ env) R s') (notedBy (J6 prog w) A env λx s'=>R (.error x) s') s):
  LN (J6 prog w) A (.compStart e d it ZQ env) R s:=by
 subst he;refine codeAny_of_tree ?_;show J3 _ A ((compStart _ d it ZQ env).onRaise (λx=>do noteFrame x env;Mt theWindowsPlace)) _ _ s;refine wpAny_notedAt ?_;unfold compStart;rw [hd];show J3 _ A (ask>>=_) _ _ s;refine we (L6 (wpAny_ite ?_));split
 .first
   | exact we (JT (JT (And.intro rfl F)))
   | exact JT (And.intro rfl F)
 .first
   | exact we (Mc (we (Ll (we (KJ h (λz s' h'=>JT (And.intro rfl h')) λ_ _ x=>x)))))
   | (refine we (Mc ?_);show J3 _ _ (Mt iter.pos>>=_) _ _ s;exact we (Ll (we (KJ h (λz s' h'=>JT (And.intro rfl h')) λ_ _ x=>x))))
theorem Dz(he:e = .SetComp Zb gs sc pos){d:Nat}(W:N9 e d it ZQ env=c9 e d tg iter U it ZQ env)(I:Nat->JR->Prop)(Z:∀n s,I n s->J3 (J6 prog w) A (MW it) (λr s₁=>match r with
   | none=>R (.ok .next) s₁
   | some v=>J3 (J6 prog w) A (LK tg it v) (λ_ F=>J3 (J6 prog w) A (NU tg env v) (λ_ G =>
     J3 (J6 prog w) A U (λ_ s₃=>∃m,m<n/\I m s₃) (λ_ _=>False) G) (λ_ _=>False) F) (λ_ _=>False) s₁) (λ_ _=>False) s)(n:Nat)(h:I n s):LN (J6 prog w) A (.compLoop e d it ZQ env) R s:=by
 subst he;refine codeAny_loop rfl I (λn s hI=>?_) n h;show J3 _ A ((N9 _ d it ZQ env).onRaise (λx=>do noteFrame x env;theTreesLotGoes x)) _ _ s;refine wpAny_noted (KJ (E:=λ_ _=>False) ?_ (λ_ _ q=>q) λ_ _ z=>z.elim);rw [W];unfold c9;refine we (Ll (we (KJ (Z n s hI) (λr s₁ h₁=>?_) λ_ _ h'=>h')));cases r with
 | none=>exact JT h₁
 | some v =>
  refine we (KJ h₁ (λ_ F J=>?_) λ_ _ h'=>h');exact we (KJ J (λ_ G O=>we (KJ O (λok s₃ S=>JT ⟨rfl,S⟩) λ_ _ h'=>h')) λ_ _ h'=>h')
end
abbrev TB:=St->List Int->Hp->(St->List Int->Hp->Prop)->Prop
def zC(ns:List Int)(n:Int):List Int:=if n∈ns then ns else ns++[n]
def BP(X:Cx)(D:Addr)(Go:List (Addr×Obj))(Q:St->List Int->Hp->Prop)(s':JR):Prop :=
 ∃σ ns H,Inv X Go σ H s'/\H D=none/\zR X.prog X.w s'.heap D ns/\Q σ ns H
def PB(X:Cx)(D:Addr)(m:Sem Unit)(tb:TB):Prop :=
 ∀(Go:List (Addr×Obj))(s:JR)(σ:St)(H:Hp)(ns:List Int)(Q:St->List Int->Hp->Prop),Inv X Go σ H s->aA X Go H D->zR X.prog X.w s.heap D ns->tb σ ns H Q ->
  J3 (J6 X.prog X.w) X.A m (λ_ s'=>BP X D Go Q s') (λ_ _=>False) s
theorem aA.to{b:Addr}(f:aA X Go H b)(h:H' b=none):aA X Go H' b:=⟨h,f.2⟩
theorem aA.more{b:Addr}(f:aA X Go H b)(h:∀p∈pl,p.1≠b):aA X (Go++pl) H b :=
 ⟨f.1,f.2.1,f.2.2.1,f.2.2.2.1,f.2.2.2.2.1,λp F=>by
  rcases Kx.mp F with z|z
  .exact f.2.2.2.2.2 p (KC _ z)
  .rcases Kx.mp z with z|z
   .exact f.2.2.2.2.2 p (J0 _ z)
   .exact h p z⟩
theorem zR.obj(x:zR P w h D ns):∃o,h.get? D=some o/\∀v,o.data≠.cell v:=by
 obtain ⟨o,es,ep,t,ho,_,hd,_⟩:=x.ex;exact ⟨o,ho,λv z=>by rw [hd] at z;cases z⟩
section
variable {X:Cx}{D:Addr}
theorem Inv.holds{o:Obj}(I:Inv X Go σ H s)(f:aA X Go H D)(ho:s.heap.get? D=some o)(F:∀v,o.data≠.cell v):Inv X (Go++[(D,o)]) σ H s :=
 I.ti λp G=>(Kx.mp G).elim (λz=>I.pin p (J0 _ z)) λz=>by
  have e:p=(D,o):=by simpa using z
  subst e;exact ⟨ho,f.1,f.2.1,f.2.2.1,F⟩
theorem Inv.held{o:Obj}(I:Inv X (Go++[(D,o)]) σ H s):s.heap.get? D=some o/\H D=none :=
 let q:=I.pin (D,o) (J0 _ (J0 _ (KS.mpr rfl)));⟨q.1,q.2.1⟩
def eG(te:TE):TB:=λσ ns H Q=>te σ H λv H1=>∃n,v = .int n/\ns.length<3000/\Q σ (zC ns n) H1
theorem xc(hx:X.xe=λ_ _=>False)(he:PE X Zb te):PB X D (emB Zb (.ref D) X.env) (eG te):=by
 intro Go s σ H ns Q I f J h;obtain ⟨o,ho,hn⟩:=J.obj;unfold emB;have:=he (Go++[(D,o)]) s σ H _ (I.holds f ho hn) h;rw [hx] at this;refine we (thn this λv s1=>x5e λx H1 O S YH=>?_);obtain ⟨n,e,hl,q⟩:=YH;subst e;obtain ⟨tk,rfl⟩:=S;obtain ⟨G,z⟩:=O.held;have F:zR X.prog X.w s1.heap D ns:=J.at λo' e=>by rw [ho] at e;cases e;exact G
 refine we (Ll (we (add_int F hl λh' sb Z=>JT ?_)));obtain ⟨_,U,_,g3,W,g5⟩:=f.to z;exact ⟨σ,_,H1,(O.mu (Go:=Go)).turned (t':=s1.toks+1) (λb o hb e=>(sb.2 b hb).trans e) z U g3 W g5,z,Z,q⟩
def iL(W:Nat->Nat->St->List Int->Hp->Prop)(J:It)(g:TG)(tb:TB)(Fin:St->List Int->Hp->Prop):Prop :=
 ∀i m z ns H2,W i m z ns H2->(J.stop i H2/\Fin z ns H2)\/(J.go i H2/\∀x H3,J.Px i H2 x H3->g x z H3 λF H4=>tb F ns H4 λG ns2 H5=>∃O,O<m/\W (i+1) O G ns2 H5)
def eS(wi:TI)(g:TG)(tb:TB):TB:=λσ ns H Q=>wi σ H λJ H1=>∃W:Nat->Nat->St->List Int->Hp->Prop,(∃m,W 0 m σ ns H1)/\iL W J g tb Q
theorem qK{d:Nat}{W:Nat->Nat->St->List Int->Hp->Prop}{Fin:St->List Int->Hp->Prop}(he:e = .SetComp Zb gs sc pos)(ht:N9 e d (.ref it) (.ref D) X.env=c9 e d tg iter Zj (.ref it) (.ref D) X.env)(hx:X.xe=λ_ _=>False)(hc:c=true->X.calm=true)(hg:PG X tg g)(hb:PB X D Zj tb)(T:dq c X.prog X.w X.K tg J fp it tn)(Yu:D∉fp)(step:iL W J g tb Fin)(I:Inv X Go σ H s)(st:tn 0 s.heap)(ff:∀b∈fp,aA X Go H b)(fD:aA X Go H D)(hS:zR X.prog X.w s.heap D ns)(w0:W 0 m σ ns H):
  LN (J6 X.prog X.w) X.A (.compLoop e d (.ref it) (.ref D) X.env) (λr s'=>r = .ok .next/\∃a3 YB H',Inv X Go a3 H' s'/\(∀b∈fp,H' b=none)/\H' D=none/\zR X.prog X.w s'.heap D YB/\Fin a3 YB H') s:=by
 refine Dz he ht (λn s'=>∃i O ys H',Inv X Go O H' s'/\tn i s'.heap/\(∀b∈fp,H' b=none)/\H' D=none/\zR X.prog X.w s'.heap D ys/\W i n O ys H') ?_ m ⟨0,σ,ns,H,I,st,λb hb=>(ff b hb).1,fD.1,hS,w0⟩;rintro n s4 ⟨i,O,ys,H4,I4,a6,a5,a4,S,w4⟩;obtain ⟨ob,dg,a9⟩:=S.obj;have a8:=I4.holds (fD.to a4) dg a9;have a0:∀b∈fp,aA X (Go++[(D,ob)]) H4 b:=λb hb=>((ff b hb).to (a5 b hb)).more λp hp=>by
  have e:p=(D,ob):=by simpa using hp
  subst e;exact λq=>Yu (by have q':D=b:=q;rw [q'];exact hb)
 rcases step i n O ys H4 w4 with ⟨stop,Y0⟩|⟨go,step⟩
 .refine thn (T.done X rfl rfl rfl hc i (Go++[(D,ob)]) s4 O H4 (λ_ _=>False) a8 a0 a6 stop) λr s5=>x2e λhr I5=>?_;subst hr;exact ⟨rfl,O,ys,H4,I5.mu,a5,a4,S.at λo' e=>by rw [dg] at e;cases e;exact I5.held.1,Y0⟩
 .refine thn (T.item X rfl rfl rfl hc i (Go++[(D,ob)]) s4 O H4 (λ_ _=>False) a8 a0 a6 go) λr s5=>x3e λu hr h5=>?_;subst hr;refine thn h5 λ_ s6=>x5e λx H6 I6 r6 XI=>?_;obtain ⟨y6,U,b1⟩:=XI;obtain ⟨Z,b2⟩:=I6.held;have a7:∀b∈D::fp,aA X Go H6 b:=λb hb=>by
   rcases J1.mp hb with z|z
   .subst z;exact fD.to b2
   .exact (ff b z).to (b1 b z)
  have av:∀b∈D::fp,∃o,s6.heap.get? b=some o/\∀v,o.data≠.cell v:=λb hb=>by
   rcases J1.mp hb with z|z
   .subst z;exact ⟨_,Z,a9⟩
   .exact T.obj _ _ U b z
  have bq:=(I6.mu (Go:=Go)).pinned a7 av;have ab:=hg _ s6 O H6 x u _ bq r6 (step x H6 y6);rw [hx] at ab;refine thn ab λ_ s7=>x4e λaI H7 I7 q7=>?_;have G:∀b o,b∈D::fp->s6.heap.get? b=some o->s7.heap.get? b=some o/\H7 b=none:=λb o hb e=>by
   have q:=I7.pin (b,o) (J0 _ (J0 _ (fi hb e)));exact ⟨q.1,q.2.1⟩
  have bp:Inv X (Go++eP fp s6.heap) aI H7 s7:=I7.ti λp hp=>I7.pin p (J0 _ ((Kx.mp hp).elim (λz=>KC _ z) λz=>J0 _ (by
   obtain ⟨z1,z2⟩:=oV z;exact fi (Kc _ z1) z2)))
  have bx:aA X (Go++eP fp s6.heap) H7 D:=(fD.to (G D _ Kg Z).2).more λp hp z=>Yu (by rw [<- z];exact (oV hp).1);have bt:zR X.prog X.w s7.heap D ys:=S.at λo' e=>by rw [dg] at e;cases e;exact (G D _ Kg Z).1
  refine thn (hb _ s7 aI H7 ys _ bp bx bt q7) λ_ s8 bf=>?_;obtain ⟨b3,b0,H8,I8,bb,ba,m',hm,w'⟩:=bf;have F:∀b o,b∈fp->s6.heap.get? b=some o->s8.heap.get? b=some o/\H8 b=none:=λb o hb e=>by
   have q:=I8.pin (b,o) (J0 _ (J0 _ (fi hb e)));exact ⟨q.1,q.2.1⟩
  refine ⟨m',hm,i+1,b3,b0,H8,I8.mu,T.keep _ _ _ U λb hb o e=>(F b o hb e).1,λb hb=>?_,bb,ba,w'⟩;obtain ⟨o,e,_⟩:=T.obj _ _ U b hb;exact (F b o hb e).2
theorem pb_loop{d:Nat}(he:e = .SetComp Zb gs sc pos)(hd:(clausesOf e)[d]?=some ⟨tg,iter,[],0⟩)(ht:∀it,N9 e d (.ref it) (.ref D) X.env=c9 e d tg iter Zj (.ref it) (.ref D) X.env)(hx:X.xe=λ_ _=>False)(hm:X.A.mark none=X.A)(hc:c=true->X.calm=true)(hi:PIc c X tg iter wi)(hg:PG X tg g)(hb:PB X D Zj tb)(hs:∀x,Kw iter X.env x=pure x):PB X D (inB e d iter (.ref D) X.env) (eS wi g tb):=by
 intro Go s σ H ns Q I f hS h;obtain ⟨o,ho,hn⟩:=hS.obj;unfold inB;have G:=hi (Go++[(D,o)]) s σ H _ (I.holds f ho hn) h;rw [hx] at G;refine we (thn G λv s1 h1=>we (Ll ?_));rw [hs];refine we (JT (we (Ks (thn h1 λav s2 h2=>?_))));obtain ⟨it,fp,tn,J,H2,e',I2,T,F,f2,W,⟨m0,w0⟩,step⟩:=h2;subst e';obtain ⟨S,U⟩:=I2.held;have Yu:D∉fp:=λz=>(f2 D z).2.2.2.2.2 (D,o) (J0 _ (J0 _ (KS.mpr rfl))) rfl;have O:zR X.prog X.w s2.heap D ns:=hS.at λo' e=>by rw [ho] at e;cases e;exact S
 have ff:∀b∈fp,aA X Go H2 b:=λb hb=>by
  obtain ⟨g0,g1,g2,g3,g4,g5⟩:=f2 b hb;exact ⟨g0,g1,g2,g3,g4,λp hp=>g5 p ((Kx.mp hp).elim (KC _) λz=>J0 _ (KC _ z))⟩
 have L:=qK he (ht it) hx hc hg hb T Yu step (I2.mu (Go:=Go)) F ff (f.to U) O w0;refine we (wpAny_runOwn ?_);rw [hm];have L':=LW L (R':=λr s'=>match r with | .ok f=>J3 (J6 X.prog X.w) X.A (pure ()) (λ_ s'=>BP X D Go Q s') (λ_ _=>False) s' | .error e=>cameBackBy (J6 X.prog X.w) X.A X.env (λ_ _=>False) e s') λr s' ab=>by
  obtain ⟨hr,Z,YB,H',a,b,c,d,q⟩:=ab;subst hr;exact JT ⟨Z,YB,H',a,c,d,q⟩
 exact vp he hd L' (T.self _ 0 _ _ _ F L')
def jm(tb:TB):TB:=λσ ns H Q=>tb σ ns H Q\/∃a kvs,H a=some (.dK kvs)/\∀o,tb σ ns (upd H a (.frz o (.dK kvs))) λz F H'=>dH a kvs H' (Q z F)
theorem Ea(h:PB X D m tb):PB X D m (jm tb):=by
 intro Go s σ H ns Q I f U O;rcases O with O|⟨a,kvs,e,q⟩
 .exact h Go s σ H ns Q I f U O
 obtain ⟨h5,o,I'⟩:=I.freeze e;have S:D≠a:=λz=>by have:=f.1;rw [z,e] at this;cases this
 refine thn (h Go s σ _ ns _ I' (f.to (by rw [zf S];exact f.1)) U (q o)) λ_ s1 J=>?_;obtain ⟨G,F,H1,I1,d1,W,o1,Z,q1⟩:=J;exact ⟨G,F,_,I1.L4 Z h5,by rw [zf S];exact d1,W,q1⟩
end
def eQ(P:JZ)(w:Ke)(D:Addr)(ns:List Int):HO:=.ext λh=>zR P w h D ns
theorem EY(x:zR P w h D ns):z7 P w H h D (eQ P w D ns) :=
 ⟨x,let ⟨o,e,_⟩:=x.obj;⟨o,e⟩,λh1 h2 z k=>z.at k⟩
theorem BD(x:HOk P w H h)(e:H D=some (eQ P w D ns)):zR P w h D ns:=(x D _ e).1
def tSC(P:JZ)(w:Ke)(ix:List (Option Nat))(wi:TI)(g:TG)(tb:TB):TE:=λσ H Q=>wi σ H λJ H1=>∃W:Nat->Nat->St->List Int->Hp->Prop,(∃m,W 0 m (bK ix σ) [] H1) /\
 iL W J g tb λ_ ns H2=>∀D,H2 D=none->D≠sysModules->Q (.ref D) (upd H2 D (eQ P w D ns))
theorem BC{c c1 c2:Bool}(hc:c=true->X.calm=true)(a5:c1=true->X.calm=true)(Xr:c2=true->X.calm=true)(L:af X sc N' ix)(hi:PIc c X t0 i0 wi)(hg:∀Go C fp s H,PG (zy X sc N' Go C fp s H) t0 g)(bp:∀Go C fp s H,PIc c1 (zy X sc N' Go C fp s H) t1 i1 w1)(bt:∀Go C fp s H,PG (zy X sc N' Go C fp s H) t1 g1)(a6:∀Go C fp s H,PIc c2 (zy X sc N' Go C fp s H) t2 i2 w2)(bf:∀Go C fp s H,PG (zy X sc N' Go C fp s H) t2 g2)(he:∀Go C fp s H,PE (zy X sc N' Go C fp s H) Zb te)(hs:∀x,Kw i0 X.env x=pure x:=by intro _;rfl)(ba:∀env x,Kw i1 env x=pure x:=by intro _ _;rfl)(a9:∀env x,Kw i2 env x=pure x:=by intro _ _;rfl):
  PE X (.SetComp Zb [⟨t0,i0,[],0⟩,⟨t1,i1,[],0⟩,⟨t2,i2,[],0⟩] sc pos) (tSC X.prog X.w ix wi g (jm (eS w1 g1 (eS w2 g2 (eG te))))):=by
 intro Go s σ H Q I h;rw [arm_eval_SetComp];have Xm:closureFor sc X.env=pure (bQ X.env.cells sc.names []):=vL λy hy hk=>I.ok.has y.1 (.inl (L.free y hy hk).1);refine wpAny_comprehension_free (use:=none) rfl hs Xm L.kind L.names (thn (hi Go s σ H _ I h) λv s1 h1=>thn h1 λb0 s2 h2=>?_);obtain ⟨it,fp,tn,J,H2,e,I2,T,av,f2,W,⟨m0,w0⟩,Yp⟩:=h2;subst e;refine DY λon ab bx=>tU ?_;dsimp only;generalize a4:s2.heap.push on=F at ab ⊢;have hC:F.objs.size=s2.heap.objs.size+1:=by rw [<- a4,L7]
 have aI:s2.heap.objs.size≠F.objs.size:=by rw [hC];exact Ky (MX _)
 have Yv:s2.heap.objs.size<=F.objs.size:=by rw [hC];exact NQ _
 have below:∀b,b<s2.heap.objs.size->b≠F.objs.size/\b≠s2.heap.objs.size:=λb hb=>⟨by rw [hC];exact Ky (Mq hb),Ky hb⟩;have old:∀b o,s2.heap.get? b=some o->(L8 (F.push { cls:=.type "dict",data:=.dict #[] }) sc.names).get? b=some o:=λb o e=>Ml _ _ _ _ (JU _ (a4 ▸ JU _ e));have Xl:(L8 (F.push { cls:=.type "dict",data:=.dict #[] }) sc.names).Ns F.objs.size λ_=>none:=(Ns.new F (.type "dict")).keeps (Ml _ _);have own:gn X.env.cells sc F.objs.size (L8 (F.push { cls:=.type "dict",data:=.dict #[] }) sc.names):=.mk' (L7 ..);have Zn:zR X.prog X.w (L8 (F.push { cls:=.type "dict",data:=.dict #[] }) sc.names) s2.heap.objs.size []:=ab.at λo e=>Ml _ _ _ _ (JU _ e);generalize L8 (F.push { cls:=.type "dict",data:=.dict #[] }) sc.names=h₁ at old Xl own Zn ⊢;have fl:∀b∈fp,b<s2.heap.objs.size:=λb hb=>by
  obtain ⟨o,e,_⟩:=T.obj 0 _ av b hb;exact Kq e
 have Yu:s2.heap.objs.size∉fp:=λz=>K4 _ (fl _ z);generalize Z:s2.heap.objs.size=D at *
 generalize b2:F.objs.size=C at *
 have a3:tn 0 h₁:=T.keep _ _ _ av λb _ o e=>old b o e;have I3:Inv (zy X sc N' Go C fp s2 H2) [] (bK ix σ) H2 { s2 with heap:=h₁ }:=qc (tk:=s2.toks) I2 L f2 (λb hb=>by rw [Z];exact fl b hb) (by rw [Z];exact Yv) Xl old own;have D0:H2 D=none:=I2.hok.fresh (N6 Z);have fD:aA (zy X sc N' Go C fp s2 H2) [] H2 D:=by
  refine ⟨D0,aI,λz=>?_,.inr (N6 Z),λx c hx z=>?_,λp hp z=>?_⟩
  .obtain ⟨_,o,ho,_⟩:=I2.stack.mem (show D∈frs X.stack from z);exact absurd (Kq ho) (by rw [Z];exact K4 _)
  .rcases own.Py x c hx with a|a
   .have:=a.1;rw [z] at this;exact absurd this (not_lt.mpr Yv)
   .obtain ⟨v,q⟩:=I2.cell x c a.1;have:=q.lt;rw [z,Z] at this;exact K4 _ this
  .have Xo:p∈X.pn++Go:=by
    have:p∈(X.pn++Go)++[]:=hp;simpa using this
   have:=Kq (I2.pin p Xo).1;rw [z,Z] at this;exact K4 _ this
 have fF:∀b∈fp,aA (zy X sc N' Go C fp s2 H2) [] H2 b:=λb hb=>by
  obtain ⟨g0,g1,g2,g3,g4,g5⟩:=f2 b hb;refine ⟨g0,(below b (fl b hb)).1,λz=>?_,.inl hb,λx c hx=>?_,λp hp=>g5 p ?_⟩
  .rcases J1.mp (I2.Da b z) with e|e
   .exact g1 e
   .exact g2 e
  .rcases own.Py x c hx with a|a
   .have:=a.1;have:=fl b hb;exact λz=>by subst z;lia
   .exact g4 x c a.1
  .have:p∈(X.pn++Go)++[]:=hp;simpa using this
 generalize S:Kf.SetComp Zb [⟨t0,i0,[],0⟩,⟨t1,i1,[],0⟩,⟨t2,i2,[],0⟩] sc pos=E;have hb:=Ea <| pb_loop (X:=zy X sc N' Go C fp s2 H2) (D:=D) (c:=c1) S.symm (d:=1) (by rw [<- S];rfl) (λ_=>Dd S.symm) rfl rfl a5 (bp Go C fp s2 H2) (bt Go C fp s2 H2) (pb_loop (c:=c2) S.symm (d:=2) (by rw [<- S];rfl) (λ_=>Ib S.symm) rfl rfl Xr (a6 Go C fp s2 H2) (bf Go C fp s2 H2) (xc rfl (he Go C fp s2 H2)) (a9 _)) (ba _);have a0:=qK (X:=zy X sc N' Go C fp s2 H2) S.symm (GE S.symm) rfl hc (hg Go C fp s2 H2) hb T Yu Yp I3 a3 fF fD Zn w0;have G:=LW a0 (R':=compPost (J6 X.prog X.w) X.A X.xe none (EP X Go σ Q) (.ref D) C) λr s5 YH=>by
  obtain ⟨hr,b1,ns,H5,I5,b3,O,bq,Y0⟩:=YH;subst hr;obtain ⟨m5,a8,_⟩:=id I5.loc;refine ⟨m5,a8,λh' a7=>?_⟩;have kb:∀b u,b≠C->s5.heap.get? b=some u->h'.get? b=some u:=λb u hb e=>(a7.2 b hb).trans e;have ZK:∀b o,s2.heap.get? b=some o->b≠C/\b≠D:=λb o e=>by
   have:=Kq e;rw [Z] at this;exact below b this
  have bb:D≠sysModules:=by have h:J9<s2.heap.objs.size:=(I2.mod.glob.keeps I2.bk).lt;rw [Z] at h;exact N4 (Nj (by decide) h)
  have U:=I5.base;refine ⟨.ref D,upd H5 D (eQ X.prog X.w D ns),I2.P0 (s':={ s5 with heap:=h' }) (ch:=fp) I5.os ⟨λb o e n hb hx=>kb b o (ZK b o e).1 (U.keep b o e n hb hx),λb o e n hb hx=>?_,λb o e n hx=>?_,λb o e hx=>?_,λb xs e=>?_,λb o u e=>?_,λb ps e=>?_⟩ ?_ I5.bare (λb hb=>?_),rfl,Y0 D O bb⟩
  .obtain ⟨sl,q⟩:=U.slot b o e n hb hx;exact ⟨sl,kb b _ (ZK b o e).1 q⟩
  .rw [zf (ZK b o e).2];exact U.free b o e n hx
  .obtain ⟨o',q⟩:=U.there b o e hx;exact ⟨o',kb b _ (ZK b o e).1 q⟩
  .have q:=U.tups b xs e;rw [zf (zH q O)];exact q
  .have q:=U.frzs b o u e;rw [zf (zH q O)];exact q
  .obtain ⟨more,q⟩:=U.tbls b ps e;exact ⟨more,by rw [zf (zH q O)];exact q⟩
  .exact (I5.hok.but I5.free kb).add O (EY (bq.at λo e=>kb D o aI e))
  .obtain ⟨_,g1,g2,g3,g4,g5⟩:=f2 b hb;exact ⟨g3,g1,g4,g5⟩
 exact vp S.symm (by rw [<- S];rfl) G (T.self _ 0 _ _ _ a3 G)
theorem vb:Manifest.owners.lookup (String.ofList ['r','o','t','a','r','e','t','i','_','t','e','s'].reverse)=some Manifest.sig_set_iterator:=by kernel_rfl
theorem gh:Slot "set_iterator" "__next__" "set_iterator.__next__" :=
 .of (owner:="set_iterator") (n:="__next__") (by rw [typeLookup_type,builtinLookup_eq_fast];kernel_rfl) (f!"") (f!"") (f!"")
  (by first|exact .inl (f!"")|exact .inr (f!"")) (by rw [isSubtype_type];kernel_rfl)
theorem FA:entryFor table "set_iterator.__next__"=some Kb.«set_iterator.__next__»:=entryFor_of_tree (by kernel_rfl)
theorem xH(a:Value):NV "set_iterator.__next__" ⟨[a],[]⟩:=by
 unfold NV;rw [signature?_of (id:="set_iterator.__next__") (n:=['_','_','t','x','e','n','_','_']) (o:=['r','o','t','a','r','e','t','i','_','t','e','s']) (by kernel_rfl) vb];kernel_rfl
theorem qJ:Slot "set_iterator" "__iter__" "set_iterator.__iter__" :=
 .of (owner:="set_iterator") (n:="__iter__") (by rw [typeLookup_type,builtinLookup_eq_fast];kernel_rfl) (f!"") (f!"") (f!"")
  (by first|exact .inl (f!"")|exact .inr (f!"")) (by rw [isSubtype_type];kernel_rfl)
theorem IQ:entryFor table "set_iterator.__iter__"=some Kb.«dict_keyiterator.__iter__»:=entryFor_alias (id':="dict_keyiterator.__iter__") (by kernel_rfl) rfl (f!"") (by kernel_rfl)
theorem Hi(a:Value):NV "set_iterator.__iter__" ⟨[a],[]⟩:=by
 unfold NV;rw [signature?_of (id:="set_iterator.__iter__") (n:=['_','_','r','e','t','i','_','_']) (o:=['r','o','t','a','r','e','t','i','_','t','e','s']) (by kernel_rfl) vb];kernel_rfl
theorem Br:entryFor table "set.__iter__"=some Kb.«frozenset.__iter__»:=entryFor_alias (id':="frozenset.__iter__") (by kernel_rfl) rfl (f!"") (by kernel_rfl)
section
variable {prog:JZ}{w:Ke}{A:Kk}{E:Value->JR->Prop}{s:JR}
theorem BV(F:n≠0)(h:∀i d,i<n->Q i { s with drawn:=d }):J3 (J6 prog w) A (choose z n) Q E s:=by
 intro Γ p G;unfold choose;rw [Sem.wp_choose];exact ⟨F,h _ _ (Nat.mod_lt _ (Nat.pos_of_ne_zero F))⟩
theorem iA{α:Type}:∀{xs:List α}{i:Nat}(h:i<xs.length),(xs[i]::xs.eraseIdx i).Perm xs
 | x::xs,0,h=>Perm.refl _
 | x::xs,i+1,h=>by
  have:=iA (xs:=xs) (i:=i) (by simpa using h);exact (Perm.swap _ _ _).trans (this.cons x)
theorem qV{α:Type}:∀(n:Nat)(xs:List α)(s:JR)(Q:List α->JR->Prop),xs.length=n->(∀l d,l.Perm xs->Q l { s with drawn:=d })->J3 (J6 prog w) A (drawOrder n xs) Q E s
 | 0,xs,s,Q,hl,h=>by
  have:xs=[]:=KM.mp hl;subst this;exact JT (h [] s.drawn (Perm.refl _))
 | n+1,[],s,Q,hl,h=>by cases hl
 | n+1,x::xs,s,Q,hl,h=>by
  unfold drawOrder;refine we (BV (by simp) λi d hi=>?_);rw [JQ hi];dsimp only;have le:((x::xs).eraseIdx i).length=n:=by rw [LR hi];simpa using hl
  refine we (qV n _ _ _ le λl d' p=>JT ?_);exact h _ _ ((p.cons _).trans (iA hi))
def itO(a:Addr)(n ep:Nat)(first:Value)(i:Nat):Obj:={ cls:=.type "set_iterator",data:=.fields #[first,.int i 0,.ref a,.int n 0,.int ep 0] }
structure SIt(h:Heap)(I a:Addr)(n ep:Nat)(first:Value)(i:Nat):Prop where
 ex:∃o,h.get? I=some o/\o.cls = .type "set_iterator"/\o.data = .fields #[first,.int i 0,.ref a,.int n 0,.int ep 0]
theorem SIt.at{I a:Addr}(x:SIt h I a n ep first i)(k:∀o,h.get? I=some o->h'.get? I=some o):SIt h' I a n ep first i:=let ⟨o,ho,r⟩:=x.ex;⟨⟨o,k o ho,r⟩⟩
theorem SIt.typ{I a:Addr}(x:SIt s.heap I a n ep first i):s.TypeIs (.ref I) "set_iterator":=let ⟨o,ho,hc,_⟩:=x.ex;⟨o,ho,hc⟩
section
variable {a:Addr}{o:Obj}{es:Array (Int×Value)}{ep:Nat}{t:Ki}
theorem Fu(ho:s.heap.get? a=some o)(G:o.ExactSet)(hd:o.data = .set es ep t)(hf:t.fits es.size=true)(hz:es.size<=sizeLine)(h1:(btW w=true\/t.plain=true\/es.size<=1)->Q (.ref s.heap.objs.size) { s with heap:=s.heap.push (itO a es.size ep (.int 0 0) 0) })(h2:∀(ps:List Nat) d,btW w=false->ps.Perm (KR es.size)->Q (.ref (s.heap.objs.size+1)) { s with heap:=(s.heap.push { cls:=.type "tuple",data:=.seq (ps.map λ(i:Nat)=>Me i).toArray }).push (itO a es.size ep (.ref s.heap.objs.size) 0),drawn:=d }):
  J3 (J6 prog w) A (pyIter (.ref a)) Q E s:=by
 have z:s.TypeIs (.ref a) "set":=⟨o,ho,G.1⟩;refine wpAny_pyIter_slot z F.slot_set_iter (Lg F.slot_set_iter z Br ?_ (F.args_set_iter_1 _));unfold Kb.«frozenset.__iter__» Kb.Frozenset.slot0 slotArgs
 simp only [List.isEmpty_nil,Bool.not_true,LZ,↓reduceIte,bind_assoc,NC,bne_self_eq_false];unfold Kb.Frozenset.addrOf Kb.Frozenset.sizeOf;refine we (JT ?_)
 try dsimp only
 refine we (JT ?_);refine we (we (wpAny_setEntries_of ho hd hf (JT ?_)));unfold setDrawn;refine we (we (LG ho hd hf ?_));dsimp only;unfold setsByText;refine we (we (L6 (JT (JT ?_))));show J3 _ _ (if (!btW w&&(!t.plain&&decide (es.size>1)))=true then _ else _) _ _ _;by_cases c:(!btW w&&(!t.plain&&decide (es.size>1)))=true
 .rw [if_pos c];simp only [KD,Nv,decide_eq_true_eq] at c;refine we (qV es.size _ s _ MY λps d pm=>we (wpAny_newTuple ?_ (by rw [JS,pm.length_eq,MY];exact hz)));have O:((s.heap.push { cls:=.type "tuple",data:=.seq (ps.map λ(i:Nat)=>Me i).toArray }).get? a)=some o:=JU _ ho;unfold setEpoch;refine we (we (LG O hd hf (JT ?_)));refine we (KI (JT ⟨_,rfl,"set_iterator",_,⟨_,J7 _ rfl,rfl⟩,gh.lookup,?_⟩));have:=h2 ps d c.1 pm;rw [<- L7] at this;exact this
 .rw [if_neg c];have U:btW w=true\/t.plain=true\/es.size<=1:=by
   cases J:btW w
   .cases S:t.plain
    .rw [J,S] at c;right;right;simpa using c
    .right;left;rfl
   .left;rfl
  refine we (JT ?_);unfold setEpoch;refine we (we (LG ho hd hf (JT ?_)));exact we (KI (JT ⟨_,rfl,"set_iterator",_,⟨_,J7 _ rfl,rfl⟩,gh.lookup,h1 U⟩))
def bP(w:Ke)(a:Addr)(es:Array (Int×Value))(ep:Nat):Array (Int×Value):=if btW w=true then MR (w.params.setOrder a ep) es else es
theorem E9{k i:Nat}(ho:s.heap.get? a=some o)(hd:o.data = .set es ep t)(hf:t.fits es.size=true)(g:cw (btW w) t)(c:btW w=true\/t.plain=true\/es.size<=1)(hb:btW w=false->Ki.below t.place k=i)(h1:∀e k',(bP w a es ep)[i]?=some e->(btW w=false->Ki.below t.place k'=i+1)->Q (some (e.2,k')) s)(h2:(bP w a es ep)[i]?=none->Q none s):
  J3 (J6 prog w) A (setNext a k i ep) Q E s:=by
 unfold setNext;refine we (LG ho hd hf ?_);dsimp only;unfold setsByText;refine we (we (L6 (JT ?_)));show J3 _ _ (if btW w=true then _ else _) _ _ _;have Yo:t.place.size=es.size:=by
  unfold Ki.fits at hf;simp only [KD,beq_iff_eq] at hf;exact hf.1
 cases F:btW w
 .rw [if_neg Ka];have S:t.plain=true\/es.size<=1:=c.resolve_left (by rw [F];exact Ka);show J3 _ _ (if (!t.plain&&decide (es.size>1))=true then _ else _) _ _ _;rw [if_neg (show ¬ ((!t.plain&&decide (es.size>1))=true) from by
   simp only [KD,Nv,decide_eq_true_eq,not_and];intro W;rcases S with J|J
   .rw [W] at J;cases J
   .lia)]
  have G:t.led=true:=by rw [g.led,F];rfl
  have O:bP w a es ep=es:=by unfold bP;rw [if_neg (by rw [F];exact Ka)]
  rw [O] at h1 h2;refine we ?_;show J3 _ _ (if (!t.led && !es.isEmpty)=true then _ else _) _ _ _;rw [if_neg (show ¬ ((!t.led && !es.isEmpty)=true) from by rw [G];simp)];refine JT (JT ?_);rw [hb F];cases e:es[i]? with
  | none=>exact h2 e
  | some x =>
   have hi:i<es.size:=(NJ.mp e).1;have U:t.place[i]?=some t.place[i]:=Lx (by lia);rw [U];refine h1 x _ e λ_=>?_;have B:=nr g.ris (t.place[i]+1);have Z:t.place.getD i 0=t.place[i]:=by simp [getD,show i<t.place.size by lia]
   have lo:i<Ki.below t.place (t.place[i]+1):=by
    rcases Nat.lt_or_ge i (Ki.below t.place (t.place[i]+1)) with z|z
    .exact z
    .have:=B.hi i z (by lia);lia
   rcases Nat.lt_or_ge (i+1) (Ki.below t.place (t.place[i]+1)) with z|z
   .have l1:=B.lo (i+1) z;have l2:=g.ris i (i+1) (by lia) (by have:=B.le;lia);lia
   .lia
 .rw [if_pos rfl];rw [if_neg (by simp)];unfold setWalk;refine we (we (LG ho hd hf ?_));dsimp only;unfold setsByText;refine we (we (L6 (JT ?_)));show J3 _ _ (if btW w=true then _ else _) _ _ _;rw [if_pos F];refine we (L6 (JT (JT ?_)));have O:bP w a es ep=MR (w.params.setOrder a ep) es:=by unfold bP;rw [if_pos F]
  rw [O] at h1 h2;show Q (((MR (w.params.setOrder a ep) es)[i]?).map λe=>(e.2,k)) s;cases e:(MR (w.params.setOrder a ep) es)[i]? with
  | none=>exact h2 e
  | some x=>exact h1 x k e λz=>by rw [F] at z;cases z
end
end
section
variable {prog:JZ}{w:Ke}{A:Kk}{E:Value->JR->Prop}{s:JR}
variable {a I:Addr}{o:Obj}{es:Array (Int×Value)}{ep:Nat}{t:Ki}{i:Nat}
theorem SIt.Qs{n k':Nat}(x:SIt s.heap I a n ep first i):∀h':Heap,h'=s.heap.update I (Obj.mapFields (·.setIfInBounds 0 (Me k')))->SIt h' I a n ep (.int k' 0) i/\Lr I s.heap h':=λh' e=>by
 subst e;obtain ⟨o,ho,hc,hd⟩:=x.ex;exact ⟨⟨⟨_,Lq _ ho (M7 (Mj hd _)),(NS ..).trans hc,by rw [Mj hd];simp [Me]⟩⟩,Lr.update ..⟩
theorem SIt.Qr(x:SIt s.heap I a n ep first i):∀h':Heap,h'=s.heap.update I (Obj.mapFields (·.setIfInBounds 1 (Me ((i:Int)+1))))->SIt h' I a n ep first (i+1)/\Lr I s.heap h':=λh' e=>by
 subst e;obtain ⟨o,ho,hc,hd⟩:=x.ex;exact ⟨⟨⟨_,Lq _ ho (M7 (Mj hd _)),(NS ..).trans hc,by rw [Mj hd];simp [Me]⟩⟩,Lr.update ..⟩
theorem qb(G:SIt s.heap I a es.size ep first i)(ho:s.heap.get? a=some o)(hd:o.data = .set es ep t)(hf:t.fits es.size=true)(h:J3 (J6 prog w) A.in1 (match first with
   | .int slot _=>do
    match<-setNext a slot.toNat i ep with
    | some (x,next) =>
     N1 (.ref I) 0 (Me next)
     N1 (.ref I) 1 (Me ((i:Int)+1))
     ret x
    | none=>N1 (.ref I) 2 .none;N2 (<- newExc (.type "StopIteration") [])
   | _=>do
    let some places<-seqItems? first|unsupported "internal:set_iterator"
    match places[i]? with
    | some (.int z _) =>
     let x<-setNextDrawn a z.toNat ep
     N1 (.ref I) 1 (Me ((i:Int)+1))
     ret x
    | some _=>unsupported "internal:set_iterator"
    | none=>N1 (.ref I) 0 (Me 0);N1 (.ref I) 2 .none;N2 (<- newExc (.type "StopIteration") []))
   (λO s'=>∃v,O = .done (.ret v)/\Q (some v) s') (λe s'=>J3 (J6 prog w) A (do if<-isInstance e (.type "StopIteration") then pure none else throw e) Q E s') s):
  J3 (J6 prog w) A (MW (.ref I)) Q E s:=by
 obtain ⟨oi,F,S,J⟩:=G.ex;unfold MW;refine we (wpAny_attempt (L5 (name:=JW "__next__") G.typ gh (Lg gh G.typ FA ?_ (xH _))));unfold Kb.«set_iterator.__next__»
 refine we (JT ?_);refine we (wpAny_fieldsOf F J ?_);dsimp only;refine we (wpAny_setEntries_of ho hd hf ?_);rw [if_neg (by simp)];simp only [Mw];refine KJ h ?_ ?_
 .rintro O s' ⟨v,rfl,q⟩;exact ⟨_,rfl,JT q⟩
 .intro e s' q;exact q
theorem ue(J:A.handled=none)(z:ExtBut I s.heap h1)(F:∀h',ExtBut I s.heap h'->Q none { s with heap:=h' }):
  J3 (J6 prog w) A.in1 (do N2 (<- newExc (.type "StopIteration") []):Sem Fin) (λG s'=>∃v,G = .done (.ret v)/\Q (some v) s') (λe s'=>J3 (J6 prog w) A (do if<-isInstance e (.type "StopIteration") then pure none else throw e) Q E s') { s with heap:=h1 }:=by
 refine we ?_;simp only [newExc,newTuple];refine we (KI ?_ (by size_fits));refine we (m:=ND _ _) (wpAny_of_eq (a:=Mh) (by first|rfl|(simp only [ND];rfl)) ?_);refine KI ?_ (by size_fits);simp only [N2];refine we (wpAny_handled ?_);rw [show A.in1.handled=none from J];refine we (JT (wpAny_throw ?_));refine we (wpAny_isInstance (T:="StopIteration") (b:=true) ⟨_,J7 _ rfl,rfl⟩ isSubtype_stop ?_);exact JT (F _ ((z.push _).push _))
theorem vT{k:Nat}(hh:A.handled=none)(G:SIt s.heap I a es.size ep (.int k 0) i)(ho:s.heap.get? a=some o)(hd:o.data = .set es ep t)(hf:t.fits es.size=true)(g:cw (btW w) t)(c:btW w=true\/t.plain=true\/es.size<=1)(hb:btW w=false->Ki.below t.place k=i)(h1:∀e k' h',(bP w a es ep)[i]?=some e->(btW w=false->Ki.below t.place k'=i+1)->SIt h' I a es.size ep (.int k' 0) (i+1)->Lr I s.heap h'->Q (some e.2) { s with heap:=h' })(h2:(bP w a es ep)[i]?=none->∀h',ExtBut I s.heap h'->Q none { s with heap:=h' }):J3 (J6 prog w) A (MW (.ref I)) Q E s:=by
 refine qb G ho hd hf ?_;dsimp only;refine we (E9 ho hd hf g c (by simpa using hb) (λe k' he Yb=>?_) λhe=>?_)
 .dsimp only;obtain ⟨oi,z,W,F⟩:=G.ex;refine we (LP z F (by simp) ?_);obtain ⟨Z,J⟩:=G.Qs (k':=k') _ rfl;obtain ⟨oj,U,ab,S⟩:=Z.ex;refine we (LP U S (by simp) ?_);obtain ⟨x2,O⟩:=SIt.Qr (s:={ s with heap:=s.heap.update I (Obj.mapFields (·.setIfInBounds 0 (Me k'))) }) Z _ rfl;exact JT ⟨_,rfl,h1 e k' _ he Yb x2 (J.trans O)⟩
 .dsimp only;obtain ⟨oi,z,W,F⟩:=G.ex;refine we (LP z F (by simp) ?_);exact ue hh (Lr.update ..).extBut (h2 he)
theorem tX{ps:List Nat}(hh:A.handled=none)(G:SIt s.heap I a es.size ep (.ref T) i)(ho:s.heap.get? a=some o)(hd:o.data = .set es ep t)(hf:t.fits es.size=true)(hT:s.heap.get? T=some Z)(U:Z.data = .seq (ps.map λ(i:Nat)=>Me i).toArray c)(pm:ps.Perm (KR es.size))(h1:∀p e h',ps[i]?=some p->es[p]?=some e->SIt h' I a es.size ep (.ref T) (i+1)->Lr I s.heap h'->Q (some e.2) { s with heap:=h' })(h2:ps[i]?=none->∀h',ExtBut I s.heap h'->Q none { s with heap:=h' }):J3 (J6 prog w) A (MW (.ref I)) Q E s:=by
 refine qb G ho hd hf ?_;dsimp only;refine we (Ny hT U ?_);dsimp only;obtain ⟨oi,z,ab,F⟩:=G.ex;rw [Na,Kd];cases e:ps[i]? with
 | none =>
  dsimp only [Option.map_none];refine we (LP z F (by simp) ?_);obtain ⟨x1,J⟩:=G.Qs (k':=0) _ rfl;obtain ⟨oj,W,av,S⟩:=x1.ex;refine we (LP W S (by simp) ?_);exact ue (s:=s) (I:=I) hh (J.trans (Lr.update ..)).extBut (h2 e)
 | some p =>
  have hp:p<es.size:=by
   have:=pm.mem_iff.mp (Kn e);simpa using this
  have he:es[p]?=some es[p]:=Lx hp;dsimp only [Option.map_some,Me];unfold setNextDrawn;refine we (we (LG ho hd hf ?_));dsimp only;rw [if_neg (by simp),Mw,he];refine JT ?_;refine we (LP z F (by simp) ?_);obtain ⟨x2,O⟩:=G.Qr _ rfl;exact JT ⟨_,rfl,h1 p es[p] _ e he x2 O⟩
theorem vX(z:SIt s.heap I a n ep first i)(h:Q (.ref I) s):J3 (J6 prog w) A (pyIter (.ref I)) Q E s:=by
 refine wpAny_pyIter_slot z.typ qJ (Lg qJ z.typ IQ ?_ (Hi _));show J3 _ _ (ret (.ref I)) _ _ s;exact JT ⟨_,rfl,"set_iterator",_,z.typ,gh.lookup,h⟩
end
theorem vk{α:Type}(nx:Nat->Nat):∀(f k:Nat)(left:List α)(out:Array α),left.length=f->(MR.go nx f k left out).toList.Perm (out.toList++left)
 | 0,k,left,out,h=>by
  have:left=[]:=KM.mp h;subst this;unfold MR.go;simp
 | f+1,k,left,out,h=>by
  have z:0<left.length:=by lia
  have hi:nx k % left.length<left.length:=Nat.mod_lt _ z;unfold MR.go;rw [JQ hi];dsimp only;refine (vk nx f (k+1) _ _ (by rw [LR hi,h];rfl)).trans ?_;rw [Array.toList_push,LI];exact Perm.append_left _ (iA hi)
theorem AK{α:Type}(nx:Nat->Nat)(xs:Array α):(MR nx xs).toList.Perm xs.toList:=by
 have:=vk nx xs.size 0 xs.toList #[] (by simp);unfold MR;simpa using this
theorem JM{a:Addr}:(bP w a es ep).toList.Perm es.toList:=by
 unfold bP;split
 .exact AK _ _
 .exact Perm.refl _
theorem kA:∀{l:List (Int×Value)},ElemsOf (K5 prog w) l->Mv (l.map (·.2)) (l.map c7)
 | [],_=>.nil
 | e::l,h=>by
  obtain ⟨⟨k,z,_⟩,_⟩:=h e Kg;obtain ⟨t,F⟩:=kQ z;have:=kA (l:=l) λx hx=>h x (Kc _ hx);show Mv (e.2::_) (numOf e.2::_);rw [F];exact .cons _ _ this
structure B3(prog:JZ)(w:Ke)(A:Kk)(h0 h:Heap)(a I:Addr)(ns:List Int):Prop where
 new:h0.objs.size<=I
 old:∀b o,h0.get? b=some o->h.get? b=some o
 ex:∃(L:List Value)(ms:List Int)(fp:List Addr)(St:Nat->Heap->Prop),Mv L ms/\ms.Perm ns/\(∀b∈fp,b=a\/h0.objs.size<=b)/\Walks prog w A I fp [I] L.length (λi v=>L[i]?=some v) St/\St 0 h
section
variable {prog:JZ}{w:Ke}{A:Kk}{E:Value->JR->Prop}{s:JR}
theorem FH{a:Addr}(hh:A.handled=none)(hS:zR prog w s.heap a ns)(h:∀I h' d,B3 prog w A s.heap h' a I ns->Q (.ref I) { s with heap:=h',drawn:=d }):J3 (J6 prog w) A (pyIter (.ref a)) Q E s:=by
 obtain ⟨o,es,ep,t,ho,Xk,hd,av,hf,gt,pm⟩:=hS.ex;have hsz:=zR.size (h:=s.heap) (a:=a) pm;have hz:es.size<=sizeLine:=by rw [hsz,K8];have:=hS.few;lia
 have S:=Kq ho;refine Fu ho Xk hd hf hz (λc=>?_) λps d Xj pp=>?_
 .have W:=JM (w:=w) (a:=a) (es:=es) (ep:=ep);have U:=av.perm W;have F:(bP w a es ep).toList.length=es.size:=by rw [W.length_eq,Ln]
  have J:∀i,(bP w a es ep)[i]?=(bP w a es ep).toList[i]?:=λi=>(KQ).symm;have:=h s.heap.objs.size (s.heap.push (itO a es.size ep (.int 0 0) 0)) s.drawn ⟨JY _,λb o e=>JU _ e,(bP w a es ep).toList.map (·.2),(bP w a es ep).toList.map c7,[s.heap.objs.size,a],λi h=>(∃k:Nat,SIt h s.heap.objs.size a es.size ep (.int k 0) i/\(btW w=false->Ki.below t.place k=i))/\h.get? a=some o,kA U,(W.map c7).trans pm,λb hb=>?_,?_,?_⟩
  .exact this
  .simp only [J1,Kh,or_false] at hb;rcases hb with rfl|rfl
   .exact .inr (JY _)
   .exact .inl rfl
  .have aI:a≠s.heap.objs.size:=Ky S;refine ⟨λb hb=>?_,λi h h' st hk=>?_,λi s' Q E hi st G=>?_,λs' Q E st G=>?_,λi s' Q E st G=>?_⟩
   .simp at hb;simp [hb]
   .obtain ⟨⟨k,x,hb⟩,ha⟩:=st;exact ⟨⟨k,x.at λo e=>hk _ (by simp) o e,hb⟩,hk a (by simp) o ha⟩
   .obtain ⟨⟨k,x,hb⟩,ha⟩:=st;rw [JS,F] at hi;refine vT hh x ha hd hf gt c hb (λe k' h' he Yb x' O=>?_) λhe=>?_
    .refine G _ h' s'.toks ?_ ⟨⟨k',x',Yb⟩,O.extBut a _ aI ha⟩ λb o hb e=>O.extBut b o (λz=>hb (by simp [z])) e;rw [Kd,<- J,he];rfl
    .rw [J] at he;exact absurd (List.getElem?_eq_none_iff.mp he) (by lia)
   .obtain ⟨⟨k,x,hb⟩,ha⟩:=st;rw [JS,F] at x hb;refine vT hh x ha hd hf gt c hb (λe k' h' he Yb x' O=>?_) λhe h' eb=>?_
    .rw [J] at he;exact absurd (JX.mp he).1 (by lia)
    .exact G h' s'.toks λb o hb e=>eb b o (λz=>hb (by simp [z])) e
   .obtain ⟨⟨k,x,hb⟩,ha⟩:=st;exact vX x G
  .exact ⟨⟨0,⟨⟨_,J7 _ rfl,rfl,rfl⟩⟩,λ_=>by
    have B:=nr gt.ris 0;rcases NG (Ki.below t.place 0) with z|z
    .exact z
    .exact absurd (B.lo 0 z) (Nat.not_lt_zero _)⟩,JU _ ho⟩
 .have a0:s.heap.objs.size=s.heap.objs.size:=rfl
  let f:Nat->Int×Value:=λp=>es.getD p (0,.none)
  have ab:∀p,p<es.size->es[p]?=some (f p):=λp hp=>by rw [Lx hp];simp [f,getD,hp]
  have W:(ps.map f).Perm es.toList:=by
   have e:(KR es.size).map f=es.toList:=by
    apply List.ext_getElem?;intro i;rw [Kd,show es.toList[i]?=es[i]? from KQ];by_cases hi:i<es.size
    .rw [List.getElem?_range hi,ab i hi];rfl
    .rw [Array.getElem?_eq_none (by lia),LU (by simpa using hi)];rfl
   rw [<- e];exact pp.map f
  have U:=av.perm W;have F:ps.length=es.size:=by rw [pp.length_eq,MY]
  have:=h (s.heap.objs.size+1) ((s.heap.push { cls:=.type "tuple",data:=.seq (ps.map λ(i:Nat)=>Me i).toArray }).push (itO a es.size ep (.ref s.heap.objs.size) 0)) d ⟨NQ _,λb o e=>JU _ (JU _ e),(ps.map f).map (·.2),(ps.map f).map c7,[s.heap.objs.size+1,a,s.heap.objs.size],λi h=>SIt h (s.heap.objs.size+1) a es.size ep (.ref s.heap.objs.size) i/\h.get? a=some o/\h.get? s.heap.objs.size=some { cls:=.type "tuple",data:=.seq (ps.map λ(i:Nat)=>Me i).toArray },kA U,(W.map c7).trans pm,λb hb=>?_,?_,?_⟩
  .exact this
  .simp only [J1,Kh,or_false] at hb;rcases hb with rfl|rfl|rfl
   .exact .inr (NQ _)
   .exact .inl rfl
   .exact .inr (JY _)
  .have aI:a≠s.heap.objs.size+1:=Ky (Mq S);have tI:s.heap.objs.size≠s.heap.objs.size+1:=Ky (MX _);refine ⟨λb hb=>?_,λi h h' st hk=>?_,λi s' Q E hi st G=>?_,λs' Q E st G=>?_,λi s' Q E st G=>?_⟩
   .simp at hb;simp [hb]
   .obtain ⟨x,ha,Z⟩:=st;exact ⟨x.at λo e=>hk _ (by simp) o e,hk a (by simp) o ha,hk _ (by simp) _ Z⟩
   .obtain ⟨x,ha,Z⟩:=st;rw [JS,JS] at hi;refine tX hh x ha hd hf Z rfl pp (λp e h' hp he x' O=>?_) λhe=>?_
    .refine G _ h' s'.toks ?_ ⟨x',O.extBut a _ aI ha,O.extBut _ _ tI Z⟩ λb o hb e=>O.extBut b o (λz=>hb (by simp [z])) e;have Yo:p<es.size:=(NJ.mp he).1;rw [ab p Yo] at he;cases he;rw [Kd,Kd,hp];rfl
    .exact absurd (List.getElem?_eq_none_iff.mp he) (by lia)
   .obtain ⟨x,ha,Z⟩:=st;rw [JS,JS] at x;refine tX hh x ha hd hf Z rfl pp (λp e h' hp he x' O=>?_) λhe h' eb=>?_
    .exact absurd (JX.mp hp).1 (by lia)
    .exact G h' s'.toks λb o hb e=>eb b o (λz=>hb (by simp [z])) e
   .exact vX st.1 G
  .refine ⟨⟨⟨itO a es.size ep (.ref s.heap.objs.size) 0,?_,rfl,rfl⟩⟩,JU _ (JU _ ho),JU _ (J7 _ rfl)⟩;have:=J7 (s.heap.push { cls:=.type "tuple",data:=.seq (ps.map λ(i:Nat)=>Me i).toArray }) (o:=itO a es.size ep (.ref s.heap.objs.size) 0) rfl;rw [L7] at this;exact this
theorem G3{a:Addr}(J:s.TypeIs (.ref a) "set")(h:Q false s):J3 (J6 prog w) A (Kb.List.listLengthHint (.ref a)) Q E s:=by
 unfold Kb.List.listLengthHint;refine we (wpAny_specialOf J PySem.F.slot_set_len.lookup ?_);generalize G:("set.__len__":String)=O
 wp_delta
 rw [show splitId O=some ("set","__len__") from by subst G;decide +kernel];subst G;refine we (wpAny_isInstance (T:="set") (b:=true) J (by rw [isSubtype_type];kernel_rfl) ?_);refine wpAny_ite_split (λz=>absurd z (by decide)) (λ_=>?_);refine wpAny_ite_split (λ_=>?_) (λz=>absurd (f!"") z);refine we (MT J ?_);exact JT h
theorem zR.typ{a:Addr}(x:zR prog w s.heap a ns):s.TypeIs (.ref a) "set":=let ⟨o,_,_,_,ho,Xk,_⟩:=x.ex;⟨o,ho,Xk.1⟩
theorem HU(h:ItemsOf (λi v=>L[i]?=some v) ZQ L.length):ZQ.toList=L:=by
 apply List.ext_getElem?;intro i;by_cases hi:i<L.length
 .have hs:i<ZQ.size:=by rw [h.1];exact hi
  have e:ZQ[i]?=some ZQ[i]:=Lx hs;rw [KQ,e,h.2 i _ e]
 .rw [KQ,Array.getElem?_eq_none (by rw [h.1];lia),LU (by lia)]
theorem FR{a S:Addr}(hh:A.handled=none)(hS:zR prog w s.heap a ns)(ab:S≠a)(res:Value)(U:Nat)(hl:s.heap.get? S=some { cls:=.type "list",data:=.seq #[] U })(hR:∀h' tk d YY c' ms,(∀b o,b≠S->s.heap.get? b=some o->h'.get? b=some o)->h'.get? S=some { cls:=.type "list",dict:=none,data:=.seq YY c',slots:=#[] }->Mv YY.toList ms->ms.Perm ns->R (.ok (.ret res)) { s with heap:=h',toks:=tk,drawn:=d }):
  J3 (J6 prog w) A.in1 (Kb.List.listExtendWith (.ref S) (.ref a) res)
   (λY0 s'=>match Y0 with | .done f=>R (.ok f) s' | .again c'=>c'.quiet=true/\LN (J6 prog w) A c' R s') (λe s'=>R (.error e) s') s:=by
 unfold Kb.List.listExtendWith;refine we (MT (T:="set") hS.typ ?_);have h1:Kb.List.listSameRef (.ref S) (.ref a)=false:=by simp [Kb.List.listSameRef,ab]
 have n1:(type "set" == type "list")=false:=by decide
 have n2:(type "set" == type "tuple")=false:=by decide
 simp only [h1,n1,n2,NZ,LZ,if_false];refine we (FH hh hS λI h2 d sw=>?_);obtain ⟨L,ms,fp,St,hL,hp,aI,W,st⟩:=sw.ex;have ZS:L.length<=sizeLine:=by
  have e1:L.length=ms.length:=by
   clear W st hp
   induction hL with
   | nil=>rfl
   | cons _ _ _ ih=>simp [ih]
  rw [e1,hp.length_eq,K8];have:=hS.few;lia
 have O:=Kq hl;have av:S∉fp:=λz=>by
  rcases aI S z with q|q
  .exact ab q
  .exact K4 _ (Kl O q)
 have a0:S≠I:=Ky (Kl O sw.new);have XU:∀(h:Heap)(G tk:Nat),St 0 h->(∀b o,b≠S->s.heap.get? b=some o->h.get? b=some o) ->
   h.get? S=some { cls:=.type "list",data:=.seq #[] G }->LN (J6 prog w) A (.builtin "list.extend.loop" ⟨[.ref S,.ref I,res],[]⟩) R { s with heap:=h,toks:=tk,drawn:=d }:=by
  intro h G tk hst hk F;refine codeAny_extend_loopS W.toS ZS S av res L.length 0 _ #[] G rfl (Lc _) hst F (ItemsOf.nil _) λs' YY c' hm YI Zn=>?_;rw [Moved.eq_with hm];refine hR s'.heap s'.toks d YY c' ms (λb o hb e=>hm.heap b o (λYn=>?_) (hk b o hb e)) YI (by rw [HU Zn];exact hL) hp;rcases J1.mp Yn with e'|Yn
  .exact hb e'
  .have e3:=KS.mp Yn;exact absurd (Kq e) (by rw [e3];exact not_lt.mpr sw.new)
 have F:=sw.old _ _ hl;refine we (Ks (G3 (zR.typ (s:={ s with heap:=h2,drawn:=d }) (hS.at λo e=>sw.old _ _ e)) ?_));refine wpAny_ite_split (λ_=>?_) (λ_=>JT ⟨Mp NL _,XU _ U _ st (λb o _ e=>sw.old _ _ e) F⟩);refine we (Mc ?_);refine we ?_;show J3 _ _ (updateSeq S (·.push .none)>>=λ_=>updateSeq S (·.pop)) _ _ _;refine we (MK F rfl ?_);have J:=Lq (Oq (·.push Mh)) F rfl;refine MK (hz:=by seq_fits) J rfl ?_;have Z:=Lq (Oq (·.pop)) J rfl;refine JT ⟨Mp NL _,XU _ _ _ ?_ (λb o hb e=>?_) Z⟩
 .refine W.frame 0 _ _ st λb hb o e=>?_;have XB:b≠S:=λh=>av (h ▸ hb);exact (Ld _ _ (Lv XB)).trans ((Ld _ _ (Lv XB)).trans e)
 .exact (Ld _ _ (Lv hb)).trans ((Ld _ _ (Lv hb)).trans (sw.old _ _ e))
theorem Jv{a:Addr}(hh:A.handled=none)(hS:zR prog w s.heap a ns)(h:∀(h':Heap)(tk:Nat) d (ZQ:List Value) z,(∀b o,s.heap.get? b=some o->h'.get? b=some o)->Mv ZQ z->z.Perm ns->R ZQ { s with heap:=h',toks:=tk,drawn:=d }):
  J3 (J6 prog w) A (collect (.ref a)) R E s:=by
 have ZK:a<s.heap.objs.size:=let ⟨o,e,_⟩:=hS.obj;Kq e;unfold collect;refine we (wpAny_runValue (Mm entry_proto_collect' ?_));rw [Kk.under_plainId PySem.F.plain_proto_collect _];show J3 _ A.in1 (newList []>>=λl=>again (.builtin "list.__iadd__" ⟨[l,.ref a],[]⟩)) _ _ s;refine we (KI ?_);refine JT ⟨Mp Oa _,Mm entry_list_iadd' ?_⟩;rw [Kk.under_plainId Oa _];have G:(s.heap.push { cls:=.type "list",data:=.seq ([]:List Value).toArray }).get? s.heap.objs.size=some { cls:=.type "list",data:=.seq #[] }:=J7 _ rfl;show J3 _ A.in1 (Kb.List.listExtendWith (.ref s.heap.objs.size) (.ref a) (.ref s.heap.objs.size)) _ _ _;have XU:=FR (A:=A) (s:={ s with heap:=s.heap.push { cls:=.type "list",data:=.seq ([]:List Value).toArray } })
  (R:=λ(q:Result)(s':JR)=>∃(h':Heap)(tk:Nat)(d:Drawn)(J:Array Value)(Z:Nat)(z:List Int),q = .ok (.ret (.ref s.heap.objs.size))/\s'={ s with heap:=h',toks:=tk,drawn:=d } /\
   (∀b o,s.heap.get? b=some o->h'.get? b=some o)/\h'.get? s.heap.objs.size=some { cls:=.type "list",dict:=none,data:=.seq J Z,slots:=#[] }/\Mv J.toList z/\z.Perm ns)
  hh (hS.at λo e=>JU _ e) (N4 ZK) (.ref s.heap.objs.size) 0 G
  (λh' tk d J Z z U O S W=>⟨h',tk,d,J,Z,z,rfl,rfl,λb o e=>U b o (Ky (Kq e)) (JU _ e),O,S,W⟩)
 refine KJ XU (λY0 s' x=>?_) λe s' x=>?_
 .cases Y0 with
  | done f =>
   obtain ⟨h',tk,d,J,Z,z,e,rfl,U,O,S,W⟩:=x;cases e;show J3 _ A (load s.heap.objs.size>>=_) _ _ _;refine we (wpAny_load O ?_);exact JT (h h' tk d _ z U S W)
  | again ab =>
   refine ⟨x.1,LW x.2 λq av y=>?_⟩;obtain ⟨h',tk,d,J,Z,z,rfl,rfl,U,O,S,W⟩:=y;show J3 _ A (load s.heap.objs.size>>=_) _ _ _;refine we (wpAny_load O ?_);exact JT (h h' tk d _ z U S W)
 .obtain ⟨_,_,_,_,_,_,e',_⟩:=x;cases e'
end
end L2
namespace L2
open PySem PySem.Spec PyProof.Rows PySem.W PySem.Calls
def ql(P:JZ)(w:Ke):List V->Hp->VK->Prop:=λxs H Q=>uR1 xs λa=>∃z:List Int,H a=some (eQ P w a z)/\z.length<64/\∀p (ns:List Int) H2,New H p (.lst (ns.map V.int)) H2->ns.Perm z->ns.Pairwise (·<=·)->Q (.ref p) H2
theorem yY{a:Addr}:ql P w [.ref a] H Q = ∃z:List Int,H a=some (eQ P w a z)/\z.length<64/\∀p (ns:List Int) H2,New H p (.lst (ns.map V.int)) H2->ns.Perm z->ns.Pairwise (·<=·)->Q (.ref p) H2:=dw
theorem Bl(h:Mv vs ns):vs.length=ns.length:=by
 induction h with
 | nil=>rfl
 | cons _ _ _ z=>simp [z]
theorem Inv.drew{d:Drawn}(I:Inv X Go σ H s):Inv X Go σ H { s with drawn:=d }:=⟨I.ok,I.os,I.bare,I.base,I.loc,I.cell,I.free,I.wa,I.pin,I.hok,I.len,I.hdk⟩
section
variable {X:Cx}
theorem yn(hc:X.calm=true):zI X (.builtin "sorted") (ql X.prog X.w):=by
 intro Go s σ H xs us Q I r h;obtain ⟨a,rfl,ms,hq,XD,q⟩:=h;obtain ⟨u,rfl,ru⟩:=bo r;cases ru;have Z:=BD I.hok hq;refine call_function_entry kind_sorted plain_sorted entry_sorted (args_sorted1 _) ?_;unfold Kb.«sorted»
 refine we (m:=checkCount "sorted" 1 1 _) (JT (we (Jv (A:=X.A.in1) (I.ok.hd hc) Z λh' tk d ZQ ns hk G pm=>?_)));have hl:ZQ.length=ms.length:=by rw [Bl G,pm.length_eq]
 have S:Inv X Go σ H { s with heap:=h',toks:=tk,drawn:=d }:=(I.kept (t':=tk) hk).drew;refine we (wpAny_newList ?_ (by rw [hl,K8];lia));have F:(h'.push (seqObj "list" ZQ.toArray 0)).get? h'.objs.size=some (seqObj "list" ZQ.toArray 0):=J7 _ rfl;refine we (Ks (Lg slot_list_sort ⟨_,F,rfl⟩ entry_list_sort (list_sort_tree F G (by rw [hl];exact XD) λout J U O W=>⟨_,rfl,?_⟩) (args_list_sort _)));obtain ⟨c,z⟩:=sortedHeap_at (vs:=ZQ) (out:=out) F;refine JT ⟨_,rfl,.ref h'.objs.size,upd H h'.objs.size (.lst (J.map V.int)),S.laid (a:=h'.objs.size) (t':=tk) (λb o e=>?_) (JY _) ⟨?_,out.toList,c,lI U,by rw [MV];exact z⟩,rfl,q _ J _ (.mk' (S.hok.fresh (JY _))) (O.trans pm) W⟩
 .have hb:b<h'.objs.size:=Kq e;rw [sortedHeap_old (Ky hb) (by rw [size_push'];exact Mq hb)];exact JU _ e
 .have:=O.length_eq;rw [JS,this,pm.length_eq,K8];lia
end
theorem xb{c c1 c2:Bool}(hc:c=true->X.calm=true)(J:c1=true->X.calm=true)(Xr:c2=true->X.calm=true)(L:af X sc N' ix)(hi:W (PIc c X t0 i0 wi))(hg:∀Go C fp s H,W (PG (zy X sc N' Go C fp s H) t0 g))(O:∀Go C fp s H,W (PIc c1 (zy X sc N' Go C fp s H) t1 i1 w1))(U:∀Go C fp s H,W (PG (zy X sc N' Go C fp s H) t1 g1))(z:∀Go C fp s H,W (PIc c2 (zy X sc N' Go C fp s H) t2 i2 Z))(S:∀Go C fp s H,W (PG (zy X sc N' Go C fp s H) t2 g2))(he:∀Go C fp s H,W (PE (zy X sc N' Go C fp s H) Zb te))(hs:∀x,Kw i0 X.env x=pure x:=by intro _;rfl)(F:∀env x,Kw i1 env x=pure x:=by intro _ _;rfl)(G:∀env x,Kw i2 env x=pure x:=by intro _ _;rfl):
  W (PE X (.SetComp Zb [⟨t0,i0,[],0⟩,⟨t1,i1,[],0⟩,⟨t2,i2,[],0⟩] sc pos) (tSC X.prog X.w ix wi g (jm (eS w1 g1 (eS Z g2 (eG te)))))) :=
 ⟨BC hc J Xr L hi.h (λa b c d e=>(hg a b c d e).h) (λa b c d e=>(O a b c d e).h) (λa b c d e=>(U a b c d e).h) (λa b c d e=>(z a b c d e).h) (λa b c d e=>(S a b c d e).h) (λa b c d e=>(he a b c d e).h) hs F G⟩
section
variable {prog:JZ}{w:Ke}{A:Kk}{E:Value->JR->Prop}{s:JR}
def uniq(ns:List Int):List Int:=ns.foldl zC []
end
theorem FV{n k:Int}:k∈zC z n↔k∈z\/k=n:=by
 unfold zC;split
 .rename_i h;constructor
  .exact .inl
  .rintro (h'|rfl)
   .exact h'
   .exact h
 .simp
theorem yR(h:F.Nodup):(zC F n).Nodup:=by
 unfold zC;split
 .exact h
 .rename_i G;rw [NT];refine ⟨h,by simp,λa ha b hb=>?_⟩;have e:b=n:=by simpa using hb
  subst e;exact λz=>G (z ▸ ha)
theorem tw{k:Int}:∀{ns z:List Int},k∈ns.foldl zC z↔k∈z\/k∈ns
 | [],z=>by simp
 | n::ns,z=>by
  show k∈ns.foldl zC (zC z n)↔_;rw [tw,FV,J1,or_assoc]
theorem rj:∀{ns z:List Int},z.Nodup->(ns.foldl zC z).Nodup
 | [],z,h=>h
 | n::ns,z,h=>rj (ns:=ns) (yR h)
theorem bT{k:Int}:k∈uniq ns↔k∈ns:=by
 unfold uniq;rw [tw];simp
theorem cF:(uniq ns).Nodup:=rj List.nodup_nil
theorem o6{xs ys:List Int}(hx:xs.Pairwise (·<=·))(z:ys.Pairwise (·<=·))(nx:xs.Nodup)(F:ys.Nodup)(h:∀k,k∈xs↔k∈ys):xs=ys:=by
 have p:xs.Perm ys:=(Lw nx F).mpr h;exact p.eq_of_pairwise (λa b _ _ h1 h2=>Int.le_antisymm h1 h2) hx z
end L2
namespace L2
open PySem PySem.Spec PyProof.Rows
def uN(v:V)(k:Int->Prop):Prop:=match v with | .int n=>k n|_=>False
theorem DA{k:Int->Prop}:uN (.int n) k=k n:=rfl
def cn(J:It)(g:TG)(tb:TB)(σ:St)(ns:List Int)(H:Hp)(Q:St->List Int->Hp->Prop):Prop:=∃W:Nat->Nat->St->List Int->Hp->Prop,(∃m,W 0 m σ ns H)/\iL W J g tb Q
section
variable {P:JZ}{w:Ke}{K:JV}{ix:List (Option Nat)}{wi:TI}{g:TG}{tb:TB}{te:TE}{σ:St}{ns:List Int}{H:Hp}{Q:St->List Int->Hp->Prop}{R:VK}
theorem yO:tSC P w ix wi g tb σ H R=wi σ H λJ H1=>cn J g tb (bK ix σ) [] H1 λ_ ns H2=>∀D,H2 D=none->D≠sysModules->R (.ref D) (upd H2 D (eQ P w D ns)):=rfl
theorem w5:eS wi g tb σ ns H Q=wi σ H λJ H1=>cn J g tb σ ns H1 Q:=rfl
theorem Cs:jm tb σ ns H Q=(tb σ ns H Q\/∃a kvs,H a=some (.dK kvs)/\∀o,tb σ ns (upd H a (.frz o (.dK kvs))) λz F H'=>dH a kvs H' (Q z F)):=rfl
theorem Au:eG te σ ns H Q=te σ H λv H1=>uN v λn=>ns.length<3000/\Q σ (zC ns n) H1:=by
 unfold eG;congr 1;funext v H1;apply propext;constructor
 .rintro ⟨n,rfl,h⟩;exact h
 .intro h;cases v with
  | int n=>exact ⟨n,rfl,h⟩
  | _=>exact h.elim
theorem cn.lst{a:Addr}{xs:List V}(G:Nat->St->List Int->Hp->Prop)(ha:∀i z ns H,G i z ns H->SqL K H a xs)(S:G 0 σ ns H)
  (hs:∀(N:St->List Int->Hp->Prop) i x z ns H,xs[i]?=some x->G i z ns H->(∀z ns H,G (i+1) z ns H->N z ns H)->g x z H λF H4=>tb F ns H4 N) (hd:∀z ns H,G xs.length z ns H->Q z ns H):cn (Itl K a) g tb σ ns H Q:=by
 refine ⟨λi m z ns H=>m=xs.length-i/\i<=xs.length/\G i z ns H,⟨xs.length,by simp,Lc _,S⟩,?_⟩;rintro i m z ys H2 ⟨rfl,hi,p⟩;have q:=ha i z ys H2 p;by_cases O:i<xs.length
 .refine .inr ⟨⟨xs,xs[i],q,by simp [O]⟩,λx H' y=>?_⟩;obtain ⟨e,y⟩:=y;subst e;exact hs (λF ys H=>∃J,J<xs.length-i/\J=xs.length-(i+1)/\i+1<=xs.length/\G (i+1) F ys H) i x z ys _ (y xs q) p λF zs H q=>⟨xs.length-(i+1),by lia,rfl,O,q⟩
 .have e:i=xs.length:=by lia
  subst e;exact .inl ⟨⟨xs,q,JY _⟩,hd z ys H2 p⟩
theorem cn.tup{a:Addr}{xs:List V}(G:Nat->St->List Int->Hp->Prop)(ha:∀i z ns H,G i z ns H->SqT K H a xs)(S:G 0 σ ns H)
  (hs:∀(N:St->List Int->Hp->Prop) i x z ns H,xs[i]?=some x->G i z ns H->(∀z ns H,G (i+1) z ns H->N z ns H)->g x z H λF H4=>tb F ns H4 N) (hd:∀z ns H,G xs.length z ns H->Q z ns H):cn (Itt K a) g tb σ ns H Q:=by
 refine ⟨λi m z ns H=>m=xs.length-i/\i<=xs.length/\G i z ns H,⟨xs.length,by simp,Lc _,S⟩,?_⟩;rintro i m z ys H2 ⟨rfl,hi,p⟩;have q:=ha i z ys H2 p;by_cases O:i<xs.length
 .refine .inr ⟨⟨xs,xs[i],q,by simp [O]⟩,λx H' y=>?_⟩;obtain ⟨e,y⟩:=y;subst e;exact hs (λF ys H=>∃J,J<xs.length-i/\J=xs.length-(i+1)/\i+1<=xs.length/\G (i+1) F ys H) i x z ys _ (y xs q) p λF zs H q=>⟨xs.length-(i+1),by lia,rfl,O,q⟩
 .have e:i=xs.length:=by lia
  subst e;exact .inl ⟨⟨xs,q,JY _⟩,hd z ys H2 p⟩
theorem cn.vals{a:Addr}{o:Obj}(J:Nat->St->List Int->Hp->Prop)(ha:∀i F ns H,J i F ns H->H a=some (.frz o (.dK kvs)))(U:J 0 σ ns H)(hs:∀(N:St->List Int->Hp->Prop) i p F ns H,kvs[i]?=some p->J i F ns H->(∀F ns H,J (i+1) F ns H->N F ns H)->g p.2 F H λG H4=>tb G ns H4 N)(hd:∀F ns H,J kvs.length F ns H->Q F ns H):cn (Itw a o kvs) g tb σ ns H Q:=by
 refine ⟨λi m F ns H=>m=kvs.length-i/\i<=kvs.length/\J i F ns H,⟨kvs.length,by simp,Lc _,U⟩,?_⟩;rintro i m F ys H2 ⟨rfl,hi,p⟩;have q:=ha i F ys H2 p;by_cases S:i<kvs.length
 .refine .inr ⟨⟨q,S⟩,λx H' y=>?_⟩;obtain ⟨e,z,hz,ex⟩:=y;subst e ex;exact hs (λG ys H=>∃O,O<kvs.length-i/\O=kvs.length-(i+1)/\i+1<=kvs.length/\J (i+1) G ys H) i z F ys _ hz p λG zs H q=>⟨kvs.length-(i+1),by lia,rfl,S,q⟩
 .have e:i=kvs.length:=by lia
  subst e;exact .inl ⟨⟨q,JY _⟩,hd F ys H2 p⟩
theorem ak.vals{a:Addr}{o:Obj}(J:Nat->St->List V->Hp->Prop)(hz:∀i F ys H,J i F ys H->ys.length<sizeLine)(ha:∀i F ys H,J i F ys H->H a=some (.frz o (.dK kvs)))(U:J 0 F [] H)(hs:∀(N:St->List V->Hp->Prop) i p F ys H,kvs[i]?=some p->J i F ys H->(∀F ys H,J (i+1) F ys H->N F ys H)->g p.2 F H λG H4=>tt G H4 λok H5=>dB N ys G te ok H5)(hd:∀F ys H,J kvs.length F ys H->∀D H',New H D (.lst ys) H'->R (.ref D) H'):ak (Itw a o kvs) g tt te F H R:=by
 refine ⟨λi m F ys H=>m=kvs.length-i/\i<=kvs.length/\J i F ys H,⟨kvs.length,by simp,Lc _,U⟩,?_⟩;rintro i m F ys H2 ⟨rfl,hi,p⟩;refine ⟨hz i F ys H2 p,?_⟩;have q:=ha i F ys H2 p;by_cases S:i<kvs.length
 .refine .inr ⟨⟨q,S⟩,λx H' y=>?_⟩;obtain ⟨e,z,hz,ex⟩:=y;subst e ex;exact hs (λG ys H=>∃O,O<kvs.length-i/\O=kvs.length-(i+1)/\i+1<=kvs.length/\J (i+1) G ys H) i z F ys _ hz p λG zs H q=>⟨kvs.length-(i+1),by lia,rfl,S,q⟩
 .have e:i=kvs.length:=by lia
  subst e;exact .inl ⟨⟨q,JY _⟩,λD W _=>hd F ys H2 p D _ (.mk' W)⟩
theorem FY{H:Hp}(hl:W (PE (zy X sc N' Go C fp s H) l tl)):W (PIc true (zy X sc N' Go C fp s H) tg l (gB X.K tl)):=⟨tG (hl:=hl.h)⟩
end
section
variable {Y:Cx}{sc:Scope}{N':List Str}{Go:List (Addr×Obj)}{D:Addr}{fp:List Addr}{s:JR}{H:Hp}
def gSq(K:JV)(n:Nat)(t:TGs):TG:=λv σ H Q=>∃a xs,v = .ref a/\(SqT K H a xs\/SqL K H a xs)/\xs.length=n/\t xs σ H Q
theorem FL{k:Nat}{t:TGs}(hc:Y.calm=true)(h:W (PGs (zy Y sc N' Go D fp s H) es t))(hl:(La es (zy Y sc N' Go D fp s H).env).length=n:=by rfl)(hst:(La es (zy Y sc N' Go D fp s H).env).findIdx? (·.1)=none:=by rfl):W (PG (zy Y sc N' Go D fp s H) (.Tuple es k pos) (gSq Y.K n t)):=⟨λpins' s' σ H' v u Q I r q=>by
 obtain ⟨a,xs,rfl,h1|h1,z,q⟩:=q
 .exact qU h.h hl hst pins' s' σ H' _ u Q I r ⟨a,xs,rfl,h1,z,q⟩
 .exact Cf (X:=zy Y sc N' Go D fp s H) hc h.h hl hst pins' s' σ H' _ u Q I r ⟨a,xs,rfl,h1,z,q⟩⟩
end
section
variable {K:JV}{g:TG}{tt:TT}{tk tv:TE}{H:Hp}{Q:VK}
theorem e9.tup{a:Addr}{xs:List V}{z:St}(G:Nat->St->List (Key×V)->Hp->Prop)(hz:∀i z ys H,G i z ys H->ys.length<sizeLine)(ha:∀i z ys H,G i z ys H->SqT K H a xs)(S:G 0 z [] H)
  (hs:∀(N:St->List (Key×V)->Hp->Prop) i x z ys H,xs[i]?=some x->G i z ys H->(∀z ys H,G (i+1) z ys H->N z ys H)->g x z H λF H4=>tt F H4 λok H5=>gJ N ys F tk tv ok H5) (hd:∀z ys H,G xs.length z ys H->∀D H',New H D (.dK ys) H'->Q (.ref D) H'):e9 (Itt K a) g tt tk tv z H Q:=by
 refine ⟨λi m z ys H=>m=xs.length-i/\i<=xs.length/\G i z ys H,⟨xs.length,by simp,Lc _,S⟩,?_⟩;rintro i m z ys H2 ⟨rfl,hi,p⟩;refine ⟨hz i z ys H2 p,?_⟩;have q:=ha i z ys H2 p;by_cases O:i<xs.length
 .refine .inr ⟨⟨xs,xs[i],q,by simp [O]⟩,λx H' y=>?_⟩;obtain ⟨e,y⟩:=y;subst e;exact hs (λF ys H=>∃J,J<xs.length-i/\J=xs.length-(i+1)/\i+1<=xs.length/\G (i+1) F ys H) i x z ys _ (y xs q) p λF zs H q=>⟨xs.length-(i+1),by lia,rfl,O,q⟩
 .have e:i=xs.length:=by lia
  subst e;exact .inl ⟨⟨xs,q,JY _⟩,λD U _=>hd z ys H2 p D _ (.mk' U)⟩
end
section
variable {X:Cx}
def uJ:R2:=λx y H Q=>∃a b kvs,x = .ref a/\y = .ref b/\Rd H a (.dK kvs)/\H b=some (.dK [])/\Q (.bl (!decide (kvs=[]))) H
theorem FN{a b:Addr}:uJ (.ref a) (.ref b) H Q = ∃kvs,Rd H a (.dK kvs)/\H b=some (.dK [])/\Q (.bl (!decide (kvs=[]))) H:=by
 apply propext;constructor
 .rintro ⟨G,J,kvs,z,F,h⟩;cases z;cases F;exact ⟨kvs,h⟩
 .rintro ⟨kvs,h⟩;exact ⟨a,b,kvs,rfl,rfl,h⟩
theorem qq(hu:X.A.units<cLine):OpR X (KG .NotEq) uJ:=by
 intro Go s σ H x y v u Q I S Z h;obtain ⟨a,b,kvs,rfl,rfl,ha,hb,q⟩:=h;cases S;cases Z;obtain ⟨z,hd,vs,Zq,dd⟩:=bR I.hok ha;obtain ⟨z2,G,J,F,U⟩:=bR I.hok (.inl hb);have O:=Zq.length;have l2:=F.length;have e2:J=[]:=KM.mp (by rw [<- l2];rfl);subst e2;refine PySem.W.keq_ne (r:=true) hd G dd U hu (λhl=>?_) ⟨.bl (!decide (kvs=[])),H,I,?_,q⟩
 .have e1:vs=[]:=KM.mp hl;subst e1;exact .nil
 .show Mi _=Mi _;congr 1;rw [Bool.and_true];congr 1;by_cases e:kvs=[]
  .subst e;rw [<- O];rfl
  .rw [decide_eq_false e];have : ¬ vs.length=0:=λh=>e (KM.mp (by rw [O];exact h));simpa using this
def pP:List V->Hp->VK->Prop:=λxs H Q=>∃j:Int,xs=[.int j]/\∀p H2,New H p (.rng 0 j) H2->Q (.ref p) H2
theorem Jo:pP [.int j] H Q = ∀p H2,New H p (.rng 0 j) H2->Q (.ref p) H2:=by
 apply propext;constructor
 .rintro ⟨z,e,h⟩;cases e;exact h
 .exact λh=>⟨j,rfl,h⟩
theorem Ep:zI X (.type "range") pP:=by
 intro Go s σ H xs us Q I r h;obtain ⟨j,rfl,q⟩:=h;obtain ⟨u,rfl,z⟩:=bo r;obtain ⟨t,rfl⟩:=z;refine call_range_1 ?_;exact ⟨.ref s.heap.objs.size,upd H s.heap.objs.size (.rng 0 j),I.laid (a:=s.heap.objs.size) (t':=s.toks+1+1) (λb o e=>JU _ e) (JY _) ⟨_,_,_,J7 _ rfl⟩,rfl,q _ _ (.mk' (I.hok.fresh (JY _)))⟩
def pY:List V->Hp->VK->Prop:=λxs H Q=>uR1 xs λr=>∃n:Nat,H r=some (.rng 0 n)/\n<=1000000/\∀p H2,New H p (.lst ((KR n).map λ(i:Nat)=>V.int i)) H2->Q (.ref p) H2
theorem CI{r:Addr}:pY [.ref r] H Q = ∃n:Nat,H r=some (.rng 0 n)/\n<=1000000/\∀p H2,New H p (.lst ((KR n).map λ(i:Nat)=>V.int i)) H2->Q (.ref p) H2:=dw
theorem HB(hc:X.calm=true):zI X (.type "list") pY:=by
 intro Go s σ H xs us Q I r h;obtain ⟨a,rfl,n,ha,G,q⟩:=h;obtain ⟨u,rfl,Z⟩:=bo r;cases Z;obtain ⟨t,u,v,e⟩:=I.hok a _ ha;refine call_list_range (n:=n) (I.ok.hd hc) e ?_ ?_ (Kp G (by decide)) λh' tk z W U O F=>?_
 .exact small_one (by lia) (by lia) (by lia) (by lia)
 .rw [rangeSize_one];split<;>lia
 have hl:z.toList.length=n:=by rw [Ln];exact F.1
 refine ⟨.ref s.heap.objs.size,upd H s.heap.objs.size (.lst ((KR n).map λ(i:Nat)=>V.int i)),I.laid (a:=s.heap.objs.size) (t':=tk) U (JY _) ⟨by rw [JS,MY];exact Kp G (by decide),z.toList,W,k8 ?_ λj u J=>?_,by rw [MV];exact O⟩,rfl,q _ _ (.mk' (I.hok.fresh (JY _)))⟩
 .rw [JS,MY,hl]
 .obtain ⟨t',rfl⟩:=F.2 j u (by rw [<- KQ];exact J);have S:j<n:=by rw [<- hl];exact (JX.mp J).1
  refine ⟨V.int j,by rw [Kd,List.getElem?_range S];rfl,t',?_⟩;congr 1;lia
def EqR(H:Hp)(x y:V)(b:Bool):Prop:=∃p q zs ws,x = .ref p/\y = .ref q/\H p=some (.tup zs)/\H q=some (.tup ws)/\zs.all z5=true/\ws.all z5=true/\b=eqL zs ws
theorem EqR.at{b:Bool}(I:Inv X Go σ H s)(h:EqR H x y b)(rx:zl x u)(ry:zl y v)(hu:A.units<cLine):SeqAt.EqAt A s u v b:=by
 obtain ⟨p,q,xs,ys,rfl,rfl,ha,hb,J,fy,rfl⟩:=h;cases rx;cases ry;by_cases G:p=q
 .subst G;rw [ha] at hb;cases hb;rw [iO J λx hx b e=>by have:=KW.mp J x hx;rw [e] at this;cases this];exact SeqAt.EqAt.same _
 obtain ⟨is,O,p1,_⟩:=I.tuple (SqT.of (K:=X.K) ha);obtain ⟨F,Z,p2,_⟩:=I.tuple (SqT.of (K:=X.K) hb);have l1:=O.length;have l2:=Z.length;have z:=SeqAt.RcAt.tuples (A:=A) (e:=λj=>eqV (xs.getD j .non) (ys.getD j .non)) p1 p2 hu λj h1 h2=>by
  simp only [J8] at h1 h2;have S:xs[j]?=some (xs.getD j .non):=by rw [Kj,JQ (by lia)];rfl
  have U:ys[j]?=some (ys.getD j .non):=by rw [Kj,JQ (by lia)];rfl
  obtain ⟨u,W,q1⟩:=O.get S;obtain ⟨v,g2,q2⟩:=Z.get U;rw [JQ h1] at W;rw [JQ h2] at g2;have w1:is.toArray[j]=u:=by simpa using KE.inj W
  have w2:F.toArray[j]=v:=by simpa using KE.inj g2
  rw [w1,w2];exact oP q1 q2 (KW.mp J _ (Kn S)) (KW.mp fy _ (Kn U))
 have e:eqL xs ys=((KR (min is.toArray.size F.toArray.size)).all (λj=>eqV (xs.getD j .non) (ys.getD j .non))&&is.toArray.size==F.toArray.size):=by
  unfold eqL;simp only [J8];rw [l1,l2];by_cases hz:is.length=F.length
  .rw [hz];simp
  .have z:(is.length==F.length)=false:=by simpa using hz
   rw [z,NI,Bool.and_false]
 rw [e];exact .of_refs G z
def qh(neg:Bool):R2:=λx y H Q=>∃a b xs ys,x = .ref a/\y = .ref b/\H a=some (.lst xs)/\H b=some (.lst ys)/\((xs.length≠ys.length/\Q (.bl neg) H)\/(xs.length=ys.length/\∃e:Nat->Bool,(∀j p q,xs[j]?=some p->ys[j]?=some q->EqR H p q (e j))/\Q (.bl (if neg then !(KR xs.length).all e else (KR xs.length).all e)) H))
theorem xM{a b:Addr}:qh neg (.ref a) (.ref b) H Q = ∃xs ys,H a=some (.lst xs)/\H b=some (.lst ys)/\((xs.length≠ys.length/\Q (.bl neg) H)\/(xs.length=ys.length/\∃e:Nat->Bool,(∀j p q,xs[j]?=some p->ys[j]?=some q->EqR H p q (e j))/\Q (.bl (if neg then !(KR xs.length).all e else (KR xs.length).all e)) H)):=by
 apply propext;constructor
 .rintro ⟨G,J,xs,ys,z,F,h⟩;cases z;cases F;exact ⟨xs,ys,h⟩
 .rintro ⟨xs,ys,h⟩;exact ⟨a,b,xs,ys,rfl,rfl,h⟩
theorem G9{e:Nat->Bool}(I:Inv X Go σ H s)(F:zm xs is)(G:zm ys z)(hu:A.units<cLine)(h:∀j p q,xs[j]?=some p->ys[j]?=some q->EqR H p q (e j))(j:Nat)(h1:j<is.toArray.size)(h2:j<z.toArray.size):SeqAt.EqAt A s is.toArray[j] z.toArray[j] (e j):=by
 have l1:=F.length;have l2:=G.length;simp only [J8] at h1 h2;have J:xs[j]?=some (xs[j]'(by lia)):=JQ _;have O:ys[j]?=some (ys[j]'(by lia)):=JQ _;obtain ⟨u,S,q1⟩:=F.get J;obtain ⟨v,U,q2⟩:=G.get O;rw [JQ h1] at S;rw [JQ h2] at U;have Z:is.toArray[j]=u:=by simpa using KE.inj S
 have W:z.toArray[j]=v:=by simpa using KE.inj U
 rw [Z,W];exact (h j _ _ J O).at I q1 q2 hu
theorem GQ(z:X.A.units+1<cLine):OpR X (KG .NotEq) (qh true):=by
 intro Go s σ H x y v u Q I O S h;obtain ⟨a,b,xs,ys,rfl,rfl,ha,hb,h⟩:=h;cases O;cases S;obtain ⟨is,F,J,_⟩:=I.list (SqL.of (K:=X.K) ha);obtain ⟨Z,G,p2,_⟩:=I.list (SqL.of (K:=X.K) hb);have U:=F.length;have W:=G.length;rcases h with ⟨ne,q⟩|⟨hl,e,he,q⟩
 .exact SeqAt.RcNeAt.lists_lengths J.isList p2.isList (by simp;lia) (KH z) _ _ _ _ ⟨.bl true,H,I,rfl,q⟩
 .refine SeqAt.RcNeAt.lists (e:=e) J.isList p2.isList (by simp;lia) (KH z) (λj h1 h2=>G9 I F G (Ku (by first|exact JY _|exact NQ _|simp [Kk.in1]) z) he j h1 h2) _ _ _ _ ⟨.bl _,H,I,rfl,?_⟩;simp only [J8];rw [<- U];exact q
end
theorem CJ{α β:Type}{f:α->β}{a:α}{l:List α}:(a::l).map f=f a::l.map f:=rfl
theorem Fb{α β:Type}{f:α->β}:([]:List α).map f=[]:=rfl
theorem JK:(!true)=false:=rfl
theorem Je:(!false)=true:=rfl
theorem fsc(a:sc.kind = .function:=by rfl)(b:sc.isCoroutine=false:=by rfl)(c:sc.isGenerator=false:=by rfl)(d:N.Nodup:=by decide +kernel)(e:N.take P.length=P:=by rfl)(f:∀x∈P,sc.names.lookup x=some .local\/sc.names.lookup x=some .cell:=by decide +kernel)(g:∀y∈sc.names,y.2≠.free:=by decide +kernel):zu N P sc:=⟨a,b,c,d,e,f,g⟩
abbrev FnM(K:JV)(x:Str)(st:Stmt):Prop:=∃f fd,ME K J9 x=some (some (.ref f))/\Fun K x x st f fd
abbrev ae(K:JV)(C:Addr)(m q:Str)(st:Stmt):Prop:=∃f fd,Lo K (.ref C) m=some (some (.ref f))/\isFn K (.ref f)=true/\Fun K m q st f fd
theorem u1{α:Type}{p:List α->Prop}(h:∀a,p [a]):∀us,us.length=1->p us
 | [a],_=>h a
theorem u2{α:Type}{p:List α->Prop}(h:∀a b,p [a,b]):∀us,us.length=2->p us
 | [a,b],_=>h a b
theorem u3{α:Type}{p:List α->Prop}(h:∀a b c,p [a,b,c]):∀us,us.length=3->p us
 | [a,b,c],_=>h a b c
theorem u4{α:Type}{p:List α->Prop}(h:∀a b c d,p [a,b,c,d]):∀us,us.length=4->p us
 | [a,b,c,d],_=>h a b c d
theorem u5{α:Type}{p:List α->Prop}(h:∀a b c d e,p [a,b,c,d,e]):∀us,us.length=5->p us
 | [a,b,c,d,e],_=>h a b c d e
section
variable {w:Ke}{K:JV}{mg:Str->Option Value}{h:Heap}{k:Nat}{x q:Str}{C:Addr}{ps:List Str}{sp:Sp}{st:Stmt} (P:JZ) (base:Heap) (cm:Bool)
abbrev BdA(x q:Str)(st:Stmt)(ps:List Str):Prop:=∀(kV G pm:Value)(F:Option Addr)(z ct:Value)(us:List Value),us.length=ps.length->bindArgs (fnOf x q (kj st) (gP st) (zk st) .none kV G pm F z ct) ⟨us,[]⟩=pure (ps.zip us)
theorem gf(X:K.In h)(G:h.Ns J9 mg)(m:FnM K x st)(o:∀f fd,Fun K x x st f fd->zp P w K mg base CX0 cm k f fd ps sp)(b:BdA x x st ps):GF P w K mg base cm k x ps sp:=let ⟨f,fd,a,F⟩:=m;⟨f,fd,o f fd F,M6 X G a,F.kp,F.binds b⟩
theorem gm(m:ae K C x q st)(o:∀f fd,Fun K x q st f fd->zp P w K mg base CX0 cm k f fd ps sp)(b:BdA x q st ps):GM P w K mg base cm k C x ps sp:=let ⟨f,fd,a,i,F⟩:=m;⟨f,fd,o f fd F,⟨a,i,F.kp⟩,F.binds b⟩
theorem gc(X:K.In h)(G:h.Ns J9 mg)(c:ME K J9 x=some (some (.ref C)))(mk:makesIn K C=true)(z:Oe K (.ref C)=true)(m:ae K C WE q st)(o:∀f fd,Fun K WE q st f fd->zp P w K mg base CX0 cm k f fd ps sp)(b:BdA WE q st ps):GC P w K mg base cm k x C ps sp:=let ⟨f,fd,a,i,F⟩:=m;⟨f,fd,o f fd F,M6 X G c,⟨mk,a,i,z⟩,F.binds b⟩
end
def gZ(i:Nat):TE:=λσ H Q=>match σ[i]? with|some (some v)=>Q v H|_=>False
def rID(C:Int->Int->Prop)(g:Int->Int->V):R2:=λx y H Q=>match x,y with | .int i,.int j=>C i j/\Q (g i j) H|_,_=>False
section
variable {X:Cx}{f:Value->Value->Sem Value}{C:Int->Int->Prop}{g:Int->Int->V}
theorem pvD(i:Nat)(hN:X.N[i]?=some x:=by rfl)(hv:Vis X.env.scope x:=by first|exact J5 rfl|exact MJ (J5 rfl)|exact MJ (MJ rfl))(hd:(x==("__debug__":Str))=false:=by decide)(hcd:(x==("__classdict__":Str))=false:=by decide):PE X (.Name x pos) (gZ i):=λGo s σ H Q I h=>pv i hN hv hd hcd Go s σ H Q I (by
 unfold gZ at h;split at h
 .exact ⟨_,by assumption,h⟩
 .exact h.elim)
theorem zg(i:Nat)(hN:X.N[i]?=some x:=by rfl)(hv:Vis X.env.scope x:=by first|exact J5 rfl|exact MJ (J5 rfl)|exact MJ (MJ rfl))(hd:(x==("__debug__":Str))=false:=by decide)(hcd:(x==("__classdict__":Str))=false:=by decide):W (PE X (.Name x pos) (gZ i)):=⟨pvD i hN hv hd hcd⟩
theorem oI(h:OpR X f (rI C g)):OpR X f (rID C g):=h.weak λx y H Q q=>by
 cases x<;>cases y<;>first|exact q.elim|exact ⟨_,_,rfl,rfl,q⟩
end
section
variable {i j:Int}{H:Hp}{Q:VK}{C:Int->Int->Prop}{g:Int->Int->V}
theorem Fm:rID C g (.int i) (.int j) H Q=(C i j/\Q (g i j) H):=rfl
end
abbrev clT(t:TE):TE:=λσ H Q=>∃R:VK,t σ H R/\∀v H,R v H->Q v H
abbrev clR(r:R2):R2:=λx y H Q=>∃R:VK,r x y H R/\∀v H,R v H->Q v H
abbrev clA(t:TA):TA:=λσ H Q=>∃R:List V->Hp->Prop,t σ H R/\∀v H,R v H->Q v H
def bD(v:V)(q:Bool->Prop):Prop:=match v with | .bl c=>q c|_=>False
def aD(v:V)(q:Addr->Prop):Prop:=match v with | .ref a=>q a|_=>False
theorem IT:bD (.bl c) q=q c:=rfl
theorem A1{a:Addr}:aD (.ref a) q=q a:=rfl
theorem bD.ex(h:bD v q):∃c,v = .bl c/\q c:=by
 cases v<;>first|exact ⟨_,rfl,h⟩|exact h.elim
theorem aD.ex(h:aD v q):∃a,v = .ref a/\q a:=by
 cases v<;>first|exact ⟨_,rfl,h⟩|exact h.elim
def vm(t:TE):TT:=λσ H Q=>t σ H λx H1=>bD x λc=>Q c H1
def lM(C:Addr)(m:Str)(sp:Sp)(E:XK)(ta:TE)(t:TA):TE:=λσ H Q=>ta σ H λx H1=>aD x λa=>∃dx fs,H1 a=some (.ins C dx fs)/\fs.lookup m=none/\t σ H1 λvs H2=>sp (.ref a::vs) H2 Q E
def ux(sp:Sp)(E:XK)(t:TA):TE:=λσ H Q=>t σ H λvs H1=>sp vs H1 Q E
def rf(K:JV)(tl:TE):TI:=λσ H R=>tl σ H λx H1=>aD x λa=>(∃xs,SqL K H1 a xs)/\R (Itl K a) H1
def sX(t:TG)(u:TGs):TGs:=λvs σ H Q=>match vs with|v::r=>t v σ H λz H'=>u r z H' Q|[]=>False
theorem yD{t:TG}{r:List V}:sX t u (v::r) σ H Q=t v σ H λz H'=>u r z H' Q:=rfl
def oM:R2:=λx y H Q=>match x,y with
 | .ref a,.int i=>∃xs,(H a=some (.lst xs)\/H a=some (.tup xs))/\∃v,atI xs i=some v/\Q v H
 | .str x,.int i=>x.length<=sizeLine/\∃c,atI x.cps.toList i=some c/\Q (.str ⟨#[c]⟩) H
 | _,_=>False
def lg:List V->Hp->VK->Prop:=λxs H Q=>match xs with
 | [.ref a]=>∃ys,(H a=some (.lst ys)\/H a=some (.tup ys))/\Q (.int ys.length) H
 | [.str x]=>x.length<=sizeLine/\Q (.int x.length) H
 | _=>False
def gS(c:Bool):R2:=λx y H Q=>match x,y with
 | .int i,.int j=>Q (.bl (if c then !decide (i=j) else decide (i=j))) H
 | .str i,.str j=>Q (.bl (if c then !decide (i=j) else decide (i=j))) H
 | .bl i,.bl j=>Q (.bl (if c then !decide (i=j) else decide (i=j))) H
 | .ref a,.ref b=>∃xs ys,H a=some (.lst xs)/\H b=some (.lst ys)/\xs.all z5=true/\ys.all z5=true/\Q (.bl (if c then !eqL xs ys else eqL xs ys)) H
 | _,_=>False
def gR:R2:=λx y H Q=>match x,y with
 | .int i,.int j=>Q (.int (i+j)) H
 | .str x,.str y=>x.length+y.length<=sizeLine/\Q (.str (x++y)) H
 | .ref a,.ref b=>∃xs zs,H a=some (.lst xs)/\H b=some (.lst zs)/\xs.length+zs.length<=sizeLine/\∀p H2,New H p (.lst (xs++zs)) H2->Q (.ref p) H2
 | _,_=>False
section
variable {H:Hp}{Q:VK}{i j:Int}{x y:Str}{a b:Addr}{k k' c:Bool}
theorem A7:oM (.ref a) (.int i) H Q = ∃xs,(H a=some (.lst xs)\/H a=some (.tup xs))/\∃v,atI xs i=some v/\Q v H:=rfl
theorem DC:oM (.str x) (.int i) H Q=(x.length<=sizeLine/\∃c,atI x.cps.toList i=some c/\Q (.str ⟨#[c]⟩) H):=rfl
theorem AF:lg [.ref a] H Q = ∃ys,(H a=some (.lst ys)\/H a=some (.tup ys))/\Q (.int ys.length) H:=rfl
theorem xR:lg [.str x] H Q=(x.length<=sizeLine/\Q (.int x.length) H):=rfl
theorem Cw:gS c (.int i) (.int j) H Q=Q (.bl (if c then !decide (i=j) else decide (i=j))) H:=rfl
theorem DT:gS c (.str x) (.str y) H Q=Q (.bl (if c then !decide (x=y) else decide (x=y))) H:=rfl
theorem E7:gS c (.bl k) (.bl k') H Q=Q (.bl (if c then !decide (k=k') else decide (k=k'))) H:=rfl
theorem E8:gS c (.ref a) (.ref b) H Q = ∃xs ys,H a=some (.lst xs)/\H b=some (.lst ys)/\xs.all z5=true/\ys.all z5=true/\Q (.bl (if c then !eqL xs ys else eqL xs ys)) H:=rfl
theorem Iu:gR (.int i) (.int j) H Q=Q (.int (i+j)) H:=rfl
theorem ye:gR (.str x) (.str y) H Q=(x.length+y.length<=sizeLine/\Q (.str (x++y)) H):=rfl
theorem IP:gR (.ref a) (.ref b) H Q = ∃xs zs,H a=some (.lst xs)/\H b=some (.lst zs)/\xs.length+zs.length<=sizeLine/\∀p H2,New H p (.lst (xs++zs)) H2->Q (.ref p) H2:=rfl
end
section
variable {X:Cx}{e:Kf}{es:List Kf}{st:Stmt}{t ta tb tv:TE}{tA:TA}{r:R2}{f:Value->Value->Sem Value}{C:Addr}{m:Str}{sp:Sp}{E:XK}{Ex:Addr->St->Hp->Prop}{c:Bool}
theorem clE(h:W (PE X e t)):W (PE X e (clT t)):=⟨λGo s σ H Q I=>x3e λR q hw=>thn (h.h Go s σ H R I q) λ_ _=>x5e λv H' a b c=>⟨v,H',a,b,hw _ _ c⟩⟩
theorem clO(h:OpR X f r):OpR X f (clR r):=λGo s σ H x y v u Q I z F=>x3e λR q hw=>thn (h Go s σ H x y v u R I z F q) λ_ _=>x5e λv H' a b c=>⟨v,H',a,b,hw _ _ c⟩
theorem clP(h:W (PA X es tA)):W (PA X es (clA tA)):=⟨h.h.any⟩
theorem peD(h:W (PE X e t))(w:∀σ H Q,t' σ H Q->t σ H Q):W (PE X e t'):=⟨λGo s σ H Q I q=>h.h Go s σ H Q I (w σ H Q q)⟩
theorem tD(h:W (PT X e (jC (tOp (clR r) (clT ta) (clT tb))))):W (PT X e (vm (tOp r ta tb))):=⟨λGo s σ H Q I q=>h.h Go s σ H Q I ⟨_,q,λx H1 q1=>⟨_,q1,λy H2 F=>⟨_,F,λz H3 G=>G.ex⟩⟩⟩⟩
theorem mD(h:W (PE X e (dX C m sp [] E (clT ta) (clA tA)))):W (PE X e (lM C m sp E ta tA)):=peD h λσ H Q q=>⟨_,q,λx H1 q1=>by
 obtain ⟨a,rfl,dx,fs,h1,h2,z⟩:=q1.ex;exact ⟨a,dx,fs,rfl,h1,h2,_,z,λvs H2 F=>by dsimp only;rw [MB];exact F⟩⟩
theorem m0D(h:W (PE X e (dX C m sp [] E (clT ta) cj))):W (PE X e (lM C m sp E ta cj)):=peD h λσ H Q q=>⟨_,q,λx H1 q1=>by
 obtain ⟨a,rfl,dx,fs,h1,h2,z⟩:=q1.ex;exact ⟨a,dx,fs,rfl,h1,h2,z⟩⟩
theorem caD(h:W (PE X e (fu sp [] E (clA tA)))):W (PE X e (ux sp E tA)):=peD h λσ H Q q=>⟨_,q,λvs H2 z=>by dsimp only;rw [MB];exact z⟩
theorem liD(h:W (PIc c X tg e (pe X.K (clT ta)))):W (PIc c X tg e (rf X.K ta)):=⟨λGo s σ H R I q=>h.h Go s σ H R I ⟨_,q,λx H1 q1=>q1.ex⟩⟩
theorem gsD(h:W (PGs X ts (fO g u))):W (PGs X ts (sX g u)):=⟨λGo s σ H vs us Q I z q=>h.h Go s σ H vs us Q I z (by cases vs with|nil=>exact q.elim|cons v r=>exact ⟨v,r,rfl,q⟩)⟩
theorem bX:IxR X oM:=cu.weak λx y H Q h=>by
 cases x<;>cases y<;>first|exact h.elim|skip
 .rename_i a i;exact (oz (x:=a) (i:=i)).mpr h
 .rename_i a i;exact (gE (a:=a) (i:=i)).mpr h
theorem mn:zI X (.builtin "len") lg:=cP.weak λxs H Q h=>by
 match xs,h with
 | [.ref a],h=>exact (jL (a:=a)).mpr h
 | [.str x],h=>exact (wX (x:=x)).mpr h
theorem oE{f:Value->Value->Sem Value}(h:OpR X f (uEq c)):OpR X f (gS c):=h.weak λx y H Q h=>by
 cases x<;>cases y<;>first|exact h.elim|exact wB.mpr h|exact pU.mpr h|exact wc.mpr h|exact tN.mpr h
theorem cq:OpR X (Ly .Add) gR:=bg.weak λx y H Q h=>by
 cases x<;>cases y<;>first|exact h.elim|exact rJ.mpr h|exact q5.mpr h|exact iq.mpr h
end
end L2
namespace HT
open PySem PyProof.Rows
end HT
namespace L2
open PySem PySem.Spec PyProof.Rows
section
variable {P:JZ}{w:Ke}{K:JV}{mg:Str->Option Value}{base:Heap}{x Zy:Str}{st:Stmt}{f:Addr}{fd:J4}{N ps:List Str}{cm:Bool}{k:Nat}{sp:Sp}
theorem Fun.o(F:Fun K x Zy st f fd)(S:zu N ps (zk st))
  (hb:∀(z:Value)(A:Kk)(outer:List Env)(s:JR)(H:Hp)(vs:List V)(Q:VK)(E:XK),zT cm k (A.deeper (Oi Zy (zk st) s.heap.objs.size f z))->sp vs H Q E ->
   ∃t,PSs (eZ CX0 cm P w K mg base N Zy (zk st) f z A outer s H E).Qt (gP st) t/\t { nx:=λ_ H'=>Q .non H',rt:=Q } (start N vs) H)
  (len:∀vs H Q E,sp vs H Q E->vs.length=ps.length:=by intro _ _ _ _ h;repeat (first|(obtain ⟨rfl,_⟩:=h;rfl)|(obtain ⟨_,h⟩:=h))):zp P w K mg base CX0 cm (k+1) f fd ps sp:=F.ok S len hb
end
section
variable {X:Cx}
def pz:List V->Hp->VK->Prop:=λxs H Q=>∃(l:Addr)(ks:List Int),xs=[.ref l]/\H l=some (.lst (ks.map V.int))/\Q (.int ks.sum) H
theorem yL:pz [.ref l] H Q = ∃ks:List Int,H l=some (.lst (ks.map V.int))/\Q (.int ks.sum) H:=by
 unfold pz;apply propext;constructor
 .rintro ⟨l',ks,e,h⟩;injection e with e _
  injection e with e
  subst e;exact ⟨ks,h⟩
 .rintro ⟨ks,h⟩;exact ⟨l,ks,rfl,h⟩
theorem uH:∀{ks:List Int}{z:List Value},zm (ks.map V.int) z->Mv z ks
 | [],z,r=>by cases r;exact .nil
 | k::ks,z,r=>by
  cases r with
  | cons r F=>obtain ⟨t,rfl⟩:=r;exact .cons _ _ (uH F)
theorem Di(hc:X.calm=true):zI X (.builtin "sum") pz:=by
 intro Go s σ H xs us Q I r h;obtain ⟨l,ks,rfl,hl,q⟩:=h;obtain ⟨u,rfl,O⟩:=bo r;cases O;obtain ⟨S,z,p,hz⟩:=I.list (SqL.of (K:=X.K) hl);have hi:=uH z;obtain ⟨xs,hx⟩:=hi.allInts.items;refine sum_intListG (xs:=xs) (I.ok.hd hc) (hx ▸ p.isList) λh' tk t' J=>⟨.int ks.sum,H,I.kept J,⟨t',?_⟩,q⟩;have F:ks=xs.toList.map (·.1):=by
  rw [<- nums_intItems,<- hx];exact (show numsOf S.toArray.toList=ks from hi.numsOf).symm
 have G:preSum (numAt xs) xs.size=ks.sum:=by
  rw [preSum_eq,J2 (by simp),F]
 rw [G]
end
section
variable {K:JV}{g:TG}{tt:TT}{te:TE}{H:Hp}{Q:VK}
theorem ak.PK{k:Nat}(J:Nat->St->List V->Hp->Prop)(hz:∀i F ys H,J i F ys H->ys.length<sizeLine)(U:J 0 F [] H)(hs:∀(N:St->List V->Hp->Prop) i c p F ys H,z.cps[i]?=some c->J i F ys H->H p=none->(∀F ys H,J (i+1) F ys H->N F ys H)->g (.ref p) F (upd H p (.tup [.int ((i+k:Nat):Int),.str ⟨#[c]⟩])) λG H4=>tt G H4 λok H5=>dB N ys G te ok H5)(hd:∀F ys H,J z.cps.size F ys H->∀D H',New H D (.lst ys) H'->Q (.ref D) H'):ak (eA z k) g tt te F H Q:=by
 refine ⟨λi m F ys H=>m=z.cps.size-i/\i<=z.cps.size/\J i F ys H,⟨z.cps.size,by simp,Lc _,U⟩,?_⟩;rintro i m F ys H2 ⟨rfl,hi,p⟩;refine ⟨hz i F ys H2 p,?_⟩;by_cases S:i<z.cps.size
 .refine .inr ⟨S,λx H' y=>?_⟩;obtain ⟨T,c,W,rfl,hc,rfl⟩:=y;exact hs (λG ys H=>∃O,O<z.cps.size-i/\O=z.cps.size-(i+1)/\i+1<=z.cps.size/\J (i+1) G ys H) i c T F ys _ hc p W λG zs H q=>⟨z.cps.size-(i+1),by lia,rfl,S,q⟩
 .have e:i=z.cps.size:=by lia
  subst e;exact .inl ⟨rfl,λD Z _=>hd F ys H2 p D _ (.mk' Z)⟩
end
end L2
namespace K32
open PySem PySem.Spec PyProof.Rows L2
open PySem.W (Frag OpenLaw WalkO findIn)
local macro_rules | `(tactic| erw [$ls,*])=>do
 let l<-("di tC vo tOr qM tIf kE mR qr oO nQ bN yE Hz ir sj ipI tOp tUn cj g8 mB rL vS fu iD tCB rJ q5 iq pG HD gE oz jL wX Eu vO Ay wB pU wc tN Ej C9 JH pA xw IB xr Ei JN xQ Jd Fw xo ES IF xp Jy Hn Hd sQ Bp As DE yN xx EM yw AW bK Option.bind_some Option.bind_none Option.join_some jl and_assoc exists_and_left exists_and_right exists_eq_left' exists_eq_left exists_eq exists_eq' exists_eq_right exists_eq_right' and_true true_and and_false false_and or_false false_or exists_false exists_const KE.injEq V.int.injEq V.str.injEq V.ref.injEq V.bl.injEq V.ty.injEq HO.lst.injEq HO.tup.injEq HO.ins.injEq List.cons.injEq reduceCtorEq reduceIte LZ List.getElem?_cons_zero MS List.set_cons_zero List.set_cons_succ NA Nm MB Le NC L2.start CJ Fb K2 Nat.reduceSub Nat.reduceAdd JK Je vU DR CD Bi xq Jx AA rD uQ tSl wg G4 Ci tK pT Jf rM qz oF jY dw yW Ax Av Hs HM DQ IY HA Cr CF tW sD yp JB HH Ac FF AG GR Gc B8 D1 GN JC AH Hb Fz Em DB yG Dg Jc EI GI C4 xl Af Ip ER DU CQ BB Cv BU AV GY xC BQ xO Fe xA wN Df GT HL Eb wQ AJ BM DX Jh Ee xY yY yO w5 Cs Au DA FN Jo CI xM gZ Fm vm lM ux rf IT A1 yD A7 DC AF xR Cw DT E7 E8 Iu ye IP yL".splitOn " ").toArray.mapM fun s=>`(Lean.Parser.Tactic.simpLemma|$(Lean.mkIdent s.toName):ident)
 let k<-ls.getElems.mapM fun s=>match s with
  | `(Lean.Parser.Tactic.rwRule|$t:term)=>`(Lean.Parser.Tactic.simpLemma|$t:term)
  | _=>Lean.Macro.throwUnsupported
 let l:=l++k
 `(tactic| try simp only [$l,*])
local macro_rules | `(tactic| ac_rfl)=>`(tactic| erw [])
def top(i:Nat):Stmt:=PySem.Challenge.pw_cleanrows_k32_whole_marks_there_and_back.main.body.getD i (.Pass ⟨0,0,0,0⟩)
structure zj where
 Pp:Addr
 Qj:Addr
 PR:Addr
 Pm:Addr
 PQ:Addr
 Qi:Addr
 NoPart:Addr
 Words:Addr
 kn:Addr
 State:Addr
structure Txt(K:Frag)(mg:Str->Option Value)(A:zj):Prop where
 Qy:mg "abs"=none
 Qx:mg "all"=none
 Qe:mg "bool"=none
 Po:mg "dict"=none
 PC:mg "divmod"=none
 Hx:mg "enumerate"=none
 PY:mg "int"=none
 wh:mg "isinstance"=none
 r0:mg "len"=none
 Pn:mg "list"=none
 Pz:mg "max"=none
 Qw:mg "min"=none
 PX:mg "ord"=none
 rd:mg "range"=none
 ny:mg "sorted"=none
 nY:mg "str"=none
 Qv:mg "sum"=none
 Pw:∃u,mg "FIGURES"=some u/\zl (.str "0123456789") u
 Pv:∃u,mg "LETTERS"=some u/\zl (.str "abcdefghijklmnopqrstuvwxyz") u
 Ox:∃u,mg "MOST_FIGURES"=some u/\zl (.int 18) u
 Ow:∃u,mg "MOST_LETTERS"=some u/\zl (.int 6) u
 Pu:∃u,mg "MODULUS"=some u/\zl (.int 65521) u
 z3:∃u,mg "FIRST_WORD"=some u/\zl (.str "mark") u
 PL:mg "CleanError"=some (.ref A.Pp)
 Qm:mg "NoFile"=some (.ref A.Qj)
 Qg:mg "NoPlace"=some (.ref A.PR)
 PD:mg "HeldAlready"=some (.ref A.Pm)
 Qf:mg "NotHeld"=some (.ref A.PQ)
 Ql:mg "NoMark"=some (.ref A.Qi)
 Qk:mg "NoPart"=some (.ref A.NoPart)
 Qz:mg "Words"=some (.ref A.Words)
 QC:mg "Files"=some (.ref A.kn)
 QA:mg "State"=some (.ref A.State)
 kz:Cls K A.Words
 qs:bH K A.Words "taken"
 vl:bH K A.Words "words"
 hE:Cls K A.kn
 kc:bH K A.kn "births"
 lp:bH K A.kn "kept"
 mm:Cls K A.State
 vu:bH K A.State "next_mark"
 vx:bH K A.State "next_row"
 vr:bH K A.State "own_files"
 sI:bH K A.State "spot_of"
theorem DG:(("taken":Str) == "words")=false:=by decide +kernel
theorem yu:(("words":Str) == "taken")=false:=by decide +kernel
theorem ui:(("words":Str)="taken")=False:=by simpa using yu
theorem Ck:(("births":Str) == "kept")=false:=by decide +kernel
theorem Im:(("kept":Str) == "births")=false:=by decide +kernel
theorem vK:(("births":Str)="kept")=False:=by simpa using Ck
theorem HK:(("next_mark":Str) == "next_row")=false:=by decide +kernel
theorem Ft:(("next_mark":Str) == "own_files")=false:=by decide +kernel
theorem E4:(("next_mark":Str) == "spot_of")=false:=by decide +kernel
theorem Hh:(("next_row":Str) == "next_mark")=false:=by decide +kernel
theorem GD:(("next_row":Str) == "own_files")=false:=by decide +kernel
theorem Es:(("next_row":Str) == "spot_of")=false:=by decide +kernel
theorem Jw:(("own_files":Str) == "next_mark")=false:=by decide +kernel
theorem Ce:(("own_files":Str) == "next_row")=false:=by decide +kernel
theorem IV:(("own_files":Str) == "spot_of")=false:=by decide +kernel
theorem AI:(("spot_of":Str) == "next_mark")=false:=by decide +kernel
theorem Bg:(("spot_of":Str) == "next_row")=false:=by decide +kernel
theorem C8:(("spot_of":Str) == "own_files")=false:=by decide +kernel
theorem FE:((WG:Str) == "next_mark")=false:=by decide +kernel
theorem G5:((WG:Str) == "next_row")=false:=by decide +kernel
theorem Ad:((WG:Str) == "own_files")=false:=by decide +kernel
theorem Az:((WG:Str) == "spot_of")=false:=by decide +kernel
theorem B7:((Wu:Str) == "next_mark")=false:=by decide +kernel
theorem GS:((Wu:Str) == "next_row")=false:=by decide +kernel
theorem yc:((Wu:Str) == "own_files")=false:=by decide +kernel
theorem GO:((Wu:Str) == "spot_of")=false:=by decide +kernel
theorem xu:((WD:Str) == "next_mark")=false:=by decide +kernel
theorem HG:((WD:Str) == "next_row")=false:=by decide +kernel
theorem DH:((WD:Str) == "own_files")=false:=by decide +kernel
theorem yq:((WD:Str) == "spot_of")=false:=by decide +kernel
theorem Hu:((WC:Str) == "next_mark")=false:=by decide +kernel
theorem BW:((WC:Str) == "next_row")=false:=by decide +kernel
theorem GZ:((WC:Str) == "own_files")=false:=by decide +kernel
theorem GW:((WC:Str) == "spot_of")=false:=by decide +kernel
theorem Fp:(("next_row":Str)="next_mark")=False:=by simpa using Hh
theorem yg:(("own_files":Str)="next_mark")=False:=by simpa using Jw
theorem qm:(("own_files":Str)="next_row")=False:=by simpa using Ce
theorem kI:(("own_files":Str)="spot_of")=False:=by simpa using IV
theorem Hg:(("spot_of":Str)="next_mark")=False:=by simpa using AI
theorem tH:(("spot_of":Str)="next_row")=False:=by simpa using Bg
theorem aq(h:n<=1000000):n<=sizeLine:=Kp h (by decide)
abbrev mS:Stmt:=top 13
abbrev nA:Stmt:=top 14
inductive Thg(H:Hp):V->Prop
 | non:Thg H .non
 | bl (b:Bool):Thg H (.bl b)
 | int (i:Int):Thg H (.int i)
 | str (x:Str):Thg H (.str x)
 | lst {a:Addr}{xs:List V}:H a=some (.lst xs)->Thg H (.ref a)
 | tup {a:Addr}{xs:List V}:H a=some (.tup xs)->Thg H (.ref a)
 | dic {a:Addr}{kvs:List (Key×V)}:H a=some (.dK kvs)->Thg H (.ref a)
def CA:V->Bool | .int _=>true|_=>false
def jO(v:V)(a b:Int):Bool:=match v with | .int i=>decide (a<=i)&&decide (i<=b)|_=>false
def rK:Sp:=λvs H Q _=>∃v,vs=[v]/\Thg H v/\Q (.bl (CA v)) H
def jA:Sp:=λvs H Q _=>∃v a b,vs=[v,.int a,.int b]/\Thg H v/\Q (.bl (jO v a b)) H
section
variable {P:JZ}{w:Ke}{K:Frag}{mg:Str->Option Value}{base:Heap}{A:zj}
theorem IK{X:Cx}(t:Thg H v)(q:Q (.bl (match v with | .int _=>true | .bl _=>true|_=>false)) H):lP X.K [v,.ty "int"] H Q:=by
 cases t with
 | non=>exact ⟨_,_,_,_,_,rfl,rfl,.of .non,rfl,q⟩
 | bl b=>exact ⟨_,_,_,_,_,rfl,rfl,.of (.bl b),rfl,q⟩
 | int i=>exact ⟨_,_,_,_,_,rfl,rfl,.of (.int i),rfl,q⟩
 | str x=>exact ⟨_,_,_,_,_,rfl,rfl,.of (.str x),rfl,q⟩
 | lst h=>exact ⟨_,_,_,_,_,rfl,rfl,.of (.lst h),rfl,q⟩
 | tup h=>exact ⟨_,_,_,_,_,rfl,rfl,.of (.tup h),rfl,q⟩
 | dic h=>exact ⟨_,_,_,_,_,rfl,rfl,.of (.dK h),rfl,q⟩
theorem pS{X:Cx}(t:Thg H v)(q:Q (.bl (match v with | .bl _=>true|_=>false)) H):lP X.K [v,.ty "bool"] H Q:=by
 cases t with
 | non=>exact ⟨_,_,_,_,_,rfl,rfl,.of .non,rfl,q⟩
 | bl b=>exact ⟨_,_,_,_,_,rfl,rfl,.of (.bl b),rfl,q⟩
 | int i=>exact ⟨_,_,_,_,_,rfl,rfl,.of (.int i),rfl,q⟩
 | str x=>exact ⟨_,_,_,_,_,rfl,rfl,.of (.str x),rfl,q⟩
 | lst h=>exact ⟨_,_,_,_,_,rfl,rfl,.of (.lst h),rfl,q⟩
 | tup h=>exact ⟨_,_,_,_,_,rfl,rfl,.of (.tup h),rfl,q⟩
 | dic h=>exact ⟨_,_,_,_,_,rfl,rfl,.of (.dK h),rfl,q⟩
theorem Eo:zu ["value"] ["value"] (zk mS):=fsc
theorem Ig(F:Fun K "is_whole" "is_whole" mS f fd)(T:Txt K mg A):zp P w K mg base CX0 cm 1 f fd ["value"] rK:=by
 refine F.o Eo λz G outer s H vs Q E hr h=>?_;obtain ⟨v,rfl,th,q⟩:=h;refine ⟨_,(W.h (zi (zA (oA (zK pd rfl T.wh boot_isinstance (za (zb 0) (za (me rfl T.PY boot_int (v:=.ty "int") rfl) zd))) (iN (HN (zK pd rfl T.wh boot_isinstance (za (zb 0) (za (me rfl T.Qe boot_bool (v:=.ty "bool") rfl) zd))))))))),?_⟩;ac_rfl;refine IK th ?_;cases th with
 | int i=>exact ⟨true,rfl,lE (pS (.int i) ⟨false,rfl,q⟩)⟩
 | bl i=>exact ⟨true,rfl,lE (pS (.bl i) ⟨true,rfl,q⟩)⟩
 | _=>exact ⟨false,rfl,h7 q⟩
theorem IG:zu Xw Xw (zk nA):=fsc
theorem He(F:Fun K Wq Wq nA f fd)(T:Txt K mg A)(z:GF P w K mg base cm 1 "is_whole" ["value"] rK):zp P w K mg base CX0 cm 2 f fd Xw jA:=by
 refine F.o IG λG J outer s H vs Q E hr h=>?_;obtain ⟨v,a,b,rfl,th,q⟩:=h;refine ⟨_,(W.h (zi (zA (oA (zt z hr rfl (za (zb 0) zd)) (iN (va gb gb (zb 1) (zb 0) (zb 2))))))),?_⟩;ac_rfl;refine ⟨_,rfl,th,?_⟩;cases th with
 | int i =>
  refine ⟨true,rfl,lE ?_⟩;ac_rfl;refine dn (λh=>?_) (λh=>?_)
  .have e:jO (.int i) a b=decide (i<=b):=by show (decide (a<=i)&&_)=_;rw [h];rfl
   rw [<- e];exact q
  .have e:jO (.int i) a b=false:=by show (decide (a<=i)&&_)=_;rw [MG.mpr h];rfl
   rw [<- e];exact q
 | _=>exact ⟨false,rfl,h7 q⟩
abbrev oQ:Stmt:=top 43
abbrev kW:Stmt:=top 44
abbrev oq:Stmt:=top 45
abbrev nW:Stmt:=top 46
def But(b:Addr)(H H':Hp):Prop:=∀a o,a≠b->H a=some o->H' a=some o
theorem But.of{b:Addr}(s:ze H H'):But b H H':=λa o _ e=>s a o e
theorem But.trans{b:Addr}(x:But b H H1)(y:But b H1 H2):But b H H2:=λa o n e=>y a o n (x a o n e)
theorem iE{α:Type}{xs:List α}{i:Int}(G:0<=i)(h1:i<xs.length):∃v,atI xs i=some v/\v∈xs:=by
 have F:i.toNat<xs.length:=by omega
 have z:atI xs ((i.toNat:Nat):Int)=some xs[i.toNat]:=gj (JQ F);rw [show ((i.toNat:Nat):Int)=i by omega] at z;exact ⟨_,z,Lk F⟩
def atD(ns:List Int)(k:Int):Int:=if k<ns.length then ns.getD k.toNat 0 else 0
def qx(K:Frag):Sp:=λvs H Q _=>∃(a:Addr)(ns:List Int)(k:Int),vs=[.ref a,.int k]/\SqL K H a (ns.map V.int)/\0<=k/\Q (.int (atD ns k)) H
theorem AE:zu XY XY (zk oQ):=fsc
theorem JJ(F:Fun K "_law_cell" "_law_cell" oQ f fd)(T:Txt K mg A):zp P w K mg base CX0 true 1 f fd XY (qx K):=by
 refine F.o AE λS W outer s H vs Q E hr h=>?_;obtain ⟨a,ns,k,rfl,G,U,q⟩:=h;refine ⟨_,vc (wb (wG qo (pv 1) (vQ nR rfl T.r0 KA (dI (pv 0) dP)) (z6 _))
  (mx (nK (u7 rh (pv 0) (pv 1) (λ_ _=>rfl)))) su) (mx (nK nD)),?_⟩
 ac_rfl;refine ⟨_,.inl G,?_⟩;rw [JS];refine dn (λh=>?_) (λh=>?_)
 .have h':k<(ns.length:Int):=of_decide_eq_true h;have J:k.toNat<ns.length:=by omega
  have e:atD ns k=ns[k.toNat]:=by unfold atD;rw [if_pos h',Kj,JQ J];rfl
  refine ⟨a,ns.map V.int,k,.int (ns[k.toNat]),rfl,rfl,G,?_,by rw [<- e];exact q⟩;have z:atI (ns.map V.int) ((k.toNat:Nat):Int)=some (.int (ns[k.toNat])):=gj (by rw [Kd,JQ J];rfl);have O:((k.toNat:Nat):Int)=k:=by omega
  rw [O] at z;exact z
 .have h' : ¬ k<(ns.length:Int):=λz=>h (decide_eq_true z);have e:atD ns k=0:=by unfold atD;rw [if_neg h']
  rw [<- e];exact q
theorem eC{a b:V}:atI [a,b] 0=some a:=rfl
theorem eE{a b:V}:atI [a,b] 1=some b:=rfl
theorem BN:ixN 2 0=some 0:=rfl
theorem CN:ixN 2 1=some 1:=rfl
structure Pot(H:Hp)(a:Addr):Prop where
 ex:∃x y:Int,H a=some (.lst [.int x,.int y])/\0<=x/\0<=y/\y<2147483647
theorem Pot.same{a:Addr}(h:Pot H a)(s:ze H H'):Pot H' a:=let ⟨x,y,e,r⟩:=h.ex;⟨⟨x,y,s _ _ e,r⟩⟩
theorem Pot.ne{a l:Addr}(h:Pot H a)(n:H l=none):l≠a:=λz=>by
 obtain ⟨x,y,e,_⟩:=h.ex;rw [z,e] at n;cases n
def qP(K:Frag):Sp:=λvs H Q _=>∃(a:Addr)(ns:List Int)(k:Int),vs=[.ref a,.int k]/\SqL K H a (ns.map V.int)/\0<=k/\∀l H',ze H H'->H l=none->Pot H' l->Q (.ref l) H'
theorem wm:zu ["_law_script","_law_k","_law_cell_here"] XY (zk kW):=fsc
theorem wZ(F:Fun K "_law_pot" "_law_pot" kW f fd)(T:Txt K mg A)(O:GF P w K mg base true 1 "_law_cell" XY (qx K)):zp P w K mg base CX0 true 2 f fd XY (qP K):=by
 refine F.o wm λS U outer s H vs Q E hr h=>?_;obtain ⟨a,ns,k,rfl,G,J,q⟩:=h;refine ⟨_,(W.h (zh (zw (i:=2) wm.nd rfl (J5 rfl) (zt O hr rfl (za (zb 0) (za (zb 1) zd))))
   (zi (zA (aj (za (zK (nT rfl) rfl T.Pz boot_max (za zo (za (zB og (zb 2) (zB jQ zo zo)) zd))) (za (zB dG (zB bg (zB dG (zK Hc rfl T.Qy PyProof.Rows.boot_abs (za (zb 2) zd)) zo) (zB gp zo (zB bg (zb 1) zo))) zo) zd))))))),?_⟩
 ac_rfl;refine ⟨a,ns,k,rfl,G,J,?_⟩;ac_rfl;refine ⟨⟨by decide,by decide,by decide⟩,by decide,.inl ⟨by decide,by decide⟩,by decide,by decide,λl H1 z _=>q l H1 z.same z.no ⟨⟨_,_,z.at_,?_,?_,?_⟩⟩⟩
 .split<;>omega
 .omega
 .omega
def cK:Sp:=λvs H Q _=>∃(a:Addr)(m:Int),vs=[.ref a,.int m]/\Pot H a/\0<m/\m<2 ^ 64/\∀(r:Int) H',But a H H'->Pot H' a->0<=r->r<m->Q (.int r) H'
theorem uu:zu ["_law_pot_here","_law_many","_law_digit"] YR (zk oq):=fsc
theorem AQ(F:Fun K WH WH oq f fd)(T:Txt K mg A):zp P w K mg base CX0 true 1 f fd YR cK:=by
 refine F.o uu λZP Ar outer s H vs Q E hr h=>?_;obtain ⟨a,m,rfl,⟨x,y,e,S,Z,U⟩,z,m1,q⟩:=h;refine ⟨_,(W.h (zh (zW (ah rR (zQ cu (zb 0) zo (λ_ _=>rfl)) zo (z6 _))
   (zh (cT (zK yK rfl T.PC boot_divmod (za (zQ cu (zb 0) zo (λ_ _=>rfl)) (za (zb 1) zd))) (jn (n:=2) (bh (dj (zb 0) zo mf) (bh (zD (i:=2) uu.nd rfl (J5 rfl)) ef))))
   (zi (zA (zb 2))))
   z9)
   (zh (cT (zB dG (zB bg (zB gp (zQ cu (zb 0) zo (λ_ _=>rfl)) zo) zo) zo) (dj (zb 0) zo mf))
   (zi (zA (zB dG (zB o8 (zB dG (zB gp (zQ cu (zb 0) zo (λ_ _=>rfl)) (zQ cu (zb 0) zo (λ_ _=>rfl))) zo) zo) (zb 1))))))),?_⟩
 erw [e,eC,eE];refine dn (λh=>?_) (λh=>?_)
 .refine ⟨z,m1,λp H2 J=>⟨p,_,rfl,SqT.of J.at_,rfl,?_⟩⟩;have e2:=J.same _ _ e;erw [e2,BN,eC];refine q _ _ (λc o G O=>by rw [zf G];exact J.same _ _ O) ⟨⟨_,_,zq,Int.ediv_nonneg S (by omega),Z,U⟩⟩ (Int.emod_nonneg _ (by omega)) (Int.emod_lt_of_pos _ z)
 .erw [CN,zq,eE];refine ⟨.inr ⟨by decide,by decide⟩,by decide,.inl ⟨by omega,by omega⟩,by decide,⟨by decide,by decide⟩,z,q _ _ (λc o G O=>by rw [zf G];exact O) ⟨⟨_,_,zq,S,by omega,by omega⟩⟩ (Int.emod_nonneg _ (by omega)) (Int.emod_lt_of_pos _ z)⟩
def ij:Sp:=λvs H Q _=>∃(a:Addr),Pot H a/\((∃(l:Addr)(xs:List V),vs=[.ref a,.ref l]/\l≠a/\(H l=some (.lst xs)\/H l=some (.tup xs))/\0<xs.length/\xs.length<=1000/\∀v H',v∈xs->But a H H'->Pot H' a->Q v H') \/
 ∃z:Str,vs=[.ref a,.str z]/\0<z.length/\z.length<=1000/\∀c H',c∈sg z->But a H H'->Pot H' a->Q (.str (c1 c)) H')
theorem xV:zu Yy Yy (zk nW):=fsc
theorem w8(F:Fun K Wz Wz nW f fd)(T:Txt K mg A)(Z9:GF P w K mg base true 1 WH YR cK):zp P w K mg base CX0 true 2 f fd Yy ij:=by
 refine F.ok xV (λvs H Q E h=>?_) (λZP Ar outer s H vs Q E hr h=>?_)
 .obtain ⟨a,_,⟨l,xs,rfl,_⟩|⟨z,rfl,_⟩⟩:=h<;>rfl
 .refine ⟨_,(W.h (zi (zA (zQ cu (zb 1) (zt Z9 hr rfl (za (zb 0) (za (zK cP rfl T.r0 KA (za (zb 1) zd)) zd))) (λ_ _=>rfl))))),?_⟩;obtain ⟨a,S,⟨l,xs,rfl,ne,hl,x0,x1,q⟩|⟨z,rfl,z0,z1,q⟩⟩:=h
  .ac_rfl;refine ⟨xs,hl,a,_,rfl,S,by omega,Int.lt_of_le_of_lt (show (xs.length:Int)<=1000 by omega) (by decide),λr H' bt G O J=>?_⟩;obtain ⟨v,Z,hv⟩:=iE (xs:=xs) O J;rw [gE];exact ⟨xs,hl.imp (bt _ _ ne) (bt _ _ ne),v,Z,q v H' hv bt G⟩
  .ac_rfl;refine ⟨aq (by omega),a,_,rfl,S,by omega,Int.lt_of_le_of_lt (show (z.length:Int)<=1000 by omega) (by decide),λr H' bt G O J=>?_⟩;obtain ⟨c,U,hc⟩:=iE (xs:=sg z) O (by rw [ao];exact J);rw [oz];exact ⟨aq (by omega),c,U,q c H' hc bt G⟩
def bL(z y:Str)(m:Int):Bool:=decide (1<=(z.length:Int))&&decide ((z.length:Int)<=m)&&(sg z).all λc=>(sg y).contains c
def FIG:Str:="0123456789"
def LET:Str:="abcdefghijklmnopqrstuvwxyz"
def cR(z:Str):Bool:=bL z FIG 18&&(decide (z="0") || !decide (tx ((sg z).take 1)="0"))
def bC(z:Str):Bool:=bL z LET 6
def kZ:Sp:=λvs H Q _=>∃z y m,vs=[.str z,.str y,.int m]/\asc z=true/\z.length<=100000/\∀H',ze H H'->Q (.bl (bL z y m)) H'
def jt(p:Str->Bool):Sp:=λvs H Q _=>∃z,vs=[.str z]/\asc z=true/\z.length<=100000/\∀H',ze H H'->Q (.bl (p z)) H'
theorem aK(h:n<=1000000):n<sizeLine:=Ku h (by decide)
abbrev j8:Stmt:=top 15
abbrev mF:Stmt:=top 16
abbrev mC:Stmt:=top 17
structure Iq(H:Hp)(z y:Str)(i:Nat)(τ:L2.St)(ys:List V)(H':Hp):Prop where
 ex:∃t,τ=[t,some (V.str y)]
 ys:ys=(((sg z).take i).map λc=>(sg y).contains c).map V.bl
 same:H'=H
theorem D8:zu Xd Xd (zk j8):=fsc
theorem Bq:bc { kind:=.function,names:=[(JW ".0",.local),(JW "sign",.local),(JW "signs",.free)],isGenerator:=false,isCoroutine:=false,more:=[] } (zk j8).names Xd ["sign","signs"] [none,some 1]=true:=by decide +kernel
theorem JE:(["sign","signs"]:List Str).Nodup:=by decide +kernel
theorem AU(F:Fun K Wl Wl j8 f fd)(T:Txt K mg A):zp P w K mg base CX0 true 1 f fd Xd kZ:=by
 refine F.o D8 λU Z outer s H vs Q E hr h=>?_;obtain ⟨z,y,m,rfl,ha,hz,q⟩:=h;have S:_<cLine:=KH (zM hr);refine ⟨_,(W.h (zi (zA (oA (va gb gb zo (zK cP rfl T.r0 KA (za (zb 0) zd)) (zb 2)) (iN (zK (BK rfl) rfl T.Qx boot_all (za (cz (λ_=>rfl) (af.of Bq) (AY (zb 0)) (λ_ _ _ _ _=>(zD (i:=0) JE rfl (J5 rfl))) (λ_ _ _ _ _=>bB) (λ_ _ _ _ _=>(eR (Ir S) (zb 0) (zb 1) rfl))) zd))))))),?_⟩;erw [aq (Kp hz (by decide))];refine dn (λh1=>dn (λh2=>?_) λh2=>?_) λh1=>?_
 .refine ⟨ha,ak.str (Iq H z y) (λi J ys H' I=>?_) ⟨⟨_,rfl⟩,by simp,rfl⟩ ?_ ?_⟩
  .rw [I.ys,JS,JS,Kr];exact aK (by rw [ao];omega)
  .intro N i c J ys H' hc I hN;obtain ⟨t,rfl⟩:=I.ex;ac_rfl;rw [AS];have O:(sg z)[i]?=some c:=by simpa [sg] using hc
   exact hN _ _ _ ⟨⟨_,rfl⟩,by rw [I.ys,Kt,O];simp,I.same⟩
  .intro J ys H' I p H2 G;ac_rfl;refine ⟨_,by rw [G.at_,I.ys],?_⟩;have hs:ze H H2:=by have:=G.same;rw [I.same] at this;exact this
   have e:bL z y m=(((sg z).take z.cps.size).map λc=>(sg y).contains c).all id:=by
    unfold bL;rw [h1,h2,J2 (by rw [ao];exact JY _),List.all_map];rfl
   rw [<- e];exact q H2 hs
 .have e:bL z y m=false:=by unfold bL;rw [MG.mpr h2];simp
  rw [<- e];exact q H (ze.refl _)
 .have e:bL z y m=false:=by unfold bL;rw [MG.mpr h1];simp
  rw [<- e];exact q H (ze.refl _)
theorem xD:zu Xc Xc (zk mC):=fsc
theorem EN(F:Fun K "is_name" "is_name" mC f fd)(T:Txt K mg A)(G:GF P w K mg base true 1 Wl Xd kZ):zp P w K mg base CX0 true 2 f fd Xc (jt bC):=by
 refine F.o xD λJ O outer s H vs Q E hr h=>?_;obtain ⟨z,rfl,ha,hz,q⟩:=h;refine ⟨_,(W.h (zi (zA (zt G hr rfl (za (zb 0) (za (fj rfl T.Pv) (za (fj rfl T.Ow) zd))))))),?_⟩;ac_rfl;exact ⟨z,_,_,rfl,ha,hz,q⟩
theorem JF:zu Xc Xc (zk mF):=fsc
theorem Iw(F:Fun K Wn Wn mF f fd)(T:Txt K mg A)(O:GF P w K mg base true 1 Wl Xd kZ):zp P w K mg base CX0 true 2 f fd Xc (jt cR):=by
 refine F.o JF λS U outer s H vs Q E hr h=>?_;obtain ⟨z,rfl,ha,hz,q⟩:=h;have G:_<cLine:=KH (zM hr);refine ⟨_,(W.h (zh (zW (bW (bO (zt O hr rfl (za (zb 0) (za (fj rfl T.Pw) (za (fj rfl T.Ox) zd))))))
   (zi (zA ck))
   z9)
   (zi (zA (JG (eR (da G) (zb 0) aC (z6 _)) (iN (eR (dv G) (zQ cu (zb 0) zo (λ_ _=>rfl)) aC (z6 _)))))))),?_⟩
 ac_rfl;refine ⟨z,_,_,rfl,ha,hz,λH1 s1=>?_⟩;erw [aq (Kp hz (by decide))];refine dn (λh1=>?_) λh1=>?_
 .have e:cR z=false:=by
   unfold cR FIG;rw [show bL z "0123456789" 18=false by simpa using h1];rfl
  rw [<- e];exact q H1 s1
 .have h1:bL z "0123456789" 18=true:=by simpa using h1
  refine dn (λh2=>?_) λh2=>?_
  .have e:cR z=true:=by
    unfold cR FIG;rw [h1,h2];rfl
   rw [<- e];exact q H1 s1
  .have hl:0<(sg z).length:=by
    rw [ao];unfold bL at h1;rw [KD,KD,decide_eq_true_eq] at h1;omega
   have J:(sg z).take 1=[(sg z)[0]]:=by
    generalize sg z=l at hl;cases l with
    | nil=>cases hl
    | cons x l=>rfl
   refine ⟨(sg z)[0],gj (xs:=sg z) (j:=0) (JQ hl),?_⟩;have e:cR z = !decide (({ cps:=#[(sg z)[0]] }:Str)="0"):=by
    unfold cR FIG;rw [h1,MG.mpr h2,J];rfl
   rw [<- e];exact q H1 s1
abbrev o7:Stmt:=top 30
abbrev lW:Stmt:=top 31
abbrev kF:Stmt:=top 32
def cb:Nat->List Nat->Nat
 | _,[]=>0
 | k,c::l=>c*k+cb (k+1) l
def cy(z:Str):Int:=((cb 1 (sg z) % 65521:Nat):Int)
def cN(z:Str):Str:=z++(toString (cy z):Str)++";"
def cQ(z:Str):Str:=Mn z none (some (MN z (c1 32)+1))
def ia(z:Str):Option Str:=if z=cN (cQ z) then some (cQ z) else none
def ju:Sp:=λvs H Q _=>∃z,vs=[.str z]/\asc z=true/\z.length<=100000/\∀H',ze H H'->Q (.int (cy z)) H'
def kO:Sp:=λvs H Q _=>∃z,vs=[.str z]/\asc z=true/\z.length<=100000/\∀H',ze H H'->Q (.str (cN z)) H'
def vZ(o:Option Str):V:=match o with|some b=>.str b|none=>.non
def v9:Sp:=λvs H Q _=>∃z,vs=[.str z]/\asc z=true/\z.length<=100000/\∀H',ze H H'->Q (vZ (ia z)) H'
theorem mz:∀(k:Nat)(a b:List Nat),cb k (a++b)=cb k a+cb (k+a.length) b
 | k,[],b=>by simp [cb]
 | k,c::a,b=>by
  show c*k+cb (k+1) (a++b)=c*k+cb (k+1) a+_;rw [mz (k+1) a b,Le,show k+1+a.length=k+(a.length+1) by lia];lia
structure Fq(H:Hp)(z:Str)(i:Nat)(σ:L2.St)(H':Hp):Prop where
 ex:∃a b,σ=[some (V.str z),some (.int (cb 1 ((sg z).take i):Nat)),a,b]
 same:ze H H'
theorem gO:zu ["text","total","place","sign"] Xc (zk o7):=fsc
theorem BX(F:Fun K "sum_of" "sum_of" o7 f fd)(T:Txt K mg A):zp P w K mg base CX0 true 1 f fd Xc ju:=by
 refine F.o gO λS Z outer s H vs Q E hr h=>?_;obtain ⟨z,rfl,ha,hz,q⟩:=h;refine ⟨_,(W.h (zh (zw (i:=1) gO.nd rfl (J5 rfl) zo)
   (zh (aW Lh.never (λ_=>rfl) (HW rfl T.Hx (zg 0)) (jn (n:=2) (gsD (bh (zD (i:=2) gO.nd rfl (J5 rfl)) (gsD (bh (zD (i:=3) gO.nd rfl (J5 rfl)) ef)))))
   (zi (xS (i:=1) gO.nd rfl (J5 rfl) (zB gp (zK uT rfl T.PX boot_ord (za (zg 3) zd)) (zg 2)) xZ)))
   (zi (zA (zB (oI dG) (zg 1) (fj rfl T.Pu))))))),?_⟩
 ac_rfl;refine ⟨ha,aa.PK (Fq H z) ⟨⟨_,_,rfl⟩,ze.refl _⟩ ?_ ?_⟩
 .rintro i c p σ H' hc ⟨⟨a,b,rfl⟩,sm⟩ J;have G:(sg z)[i]?=some c:=by simpa [sg] using hc
  ac_rfl;refine ⟨p,_,rfl,SqT.of zq,rfl,?_⟩;ac_rfl;refine ⟨rfl,.inl ⟨by simp;lia,?_⟩,⟨⟨some (.int ((i+1:Nat):Int)),some (.str ⟨#[c]⟩),?_⟩,?_⟩⟩
  .have U:c<128:=by
    have O:=Kn G;rw [dN] at ha;simpa using KW.mp ha c O
   simp;lia
  .rw [Kt,G,mz];have hi:i<(sg z).length:=(JX.mp G).1;rw [Kr,Ol (by lia)];simp [cb];rw [Int.add_comm 1 (i:Int)]
  .exact sm.trans λb o e=>by rw [zf (zH e J)];exact e
 .rintro σ H' ⟨⟨a,b,rfl⟩,sm⟩;ac_rfl;refine ⟨by decide,?_⟩;have e:cy z=((cb 1 ((sg z).take z.cps.size):Nat):Int) % 65521:=by
   unfold cy;rw [J2 (by rw [ao];exact JY _)];lia
  rw [<- e];exact q H' sm
theorem BY:(" ":Str)=c1 32:=by decide +kernel
theorem aT(h:n<2 ^ 64):n.log2<1920:=by
 by_cases z:n=0
 .subst z;decide
 .exact Nj ((Nat.log2_lt z).mpr h) (by decide)
theorem fL(z:Str):0<=cy z/\cy z<65521:=by unfold cy;lia
theorem lL{i:Int}(z:0<=i)(h1:i<10 ^ 18):(toString i:Str).length<=19:=by
 have e:=int_text_length_le10 (a:=i) (k:=18) (by decide) (by lia);show (JW (toString i)).length<=19;rw [PySem.ofString_length];exact e
theorem yT:zu ["body"] ["body"] (zk lW):=fsc
theorem Gg(F:Fun K "summed" "summed" lW f fd)(T:Txt K mg A)(O:GF P w K mg base true 1 "sum_of" Xc ju):zp P w K mg base CX0 true 2 f fd ["body"] kO:=by
 refine F.o yT λS Z outer s H vs Q E hr h=>?_;obtain ⟨z,rfl,ha,hz,q⟩:=h;refine ⟨_,(W.h (zi (zA (HQ (mY (wO (zg 0)) (mY (wO (caD (zt O hr rfl (clP (za (zg 0) zd))))) (mY aC xU))))))),?_⟩;ac_rfl;have hs:=fL z;have U:=lL hs.1 (by lia);refine ⟨aq (by lia),by rw [Str.empty_append];exact aq (by lia),z,rfl,ha,hz,λH' s1=>?_⟩;ac_rfl;rw [Str.empty_append];have J:(z++(toString (cy z):Str)).length<=1000000:=by rw [Lu];lia
 have G:(z++(toString (cy z):Str)++";").length<=1000000:=by
  rw [Lu,Lu];have:(";":Str).length=1:=by decide
  lia
 exact ⟨aT (by lia),aq J,aq G,aq G,q H' s1⟩
theorem iK(l:List Nat):asc (tx l)=l.all (· < 128):=by rw [dN,cI]
theorem CW(h:asc z=true)(hl:∀c∈l,c∈sg z):asc (tx l)=true:=by
 rw [iK,KW];rw [dN,KW] at h;exact λc hc=>h c (hl c hc)
theorem uG(c:Nat):∀l:List Nat,c∈l->∃a b,l=a++c::b/\c∉b
 | [],h=>by cases h
 | x::l,h=>by
  by_cases hm:c∈l
  .obtain ⟨a,b,e,hb⟩:=uG c l hm;exact ⟨x::a,b,by rw [e];rfl,hb⟩
  .rcases J1.mp h with e|e
   .exact ⟨[],l,by rw [e];rfl,hm⟩
   .exact absurd e hm
theorem wj{a b:List Nat}(h:sg z=a++32::b)(hb:32∉b):cQ z=tx (a++[32]):=by
 unfold cQ;rw [I0 h hb];have e:((a.length:Int)+1)=((a.length+1:Nat):Int):=by lia
 rw [e,uv (by rw [h];simp),h];congr 1;rw [show a++32::b=(a++[32])++b by simp,List.take_left' (by simp)]
theorem Gz(h:32∉sg z):cQ z=tx []:=by
 unfold cQ;rw [Ie h];exact uv (j:=0) (Lc _)
theorem Ia(h:asc z=true):asc (cQ z)=true/\(cQ z).length<=z.length:=by
 refine ⟨?_,PySem.Txt.slice_le _ _ _⟩;by_cases hm:32∈sg z
 .obtain ⟨a,b,e,hb⟩:=uG 32 _ hm;rw [wj e hb];refine CW h λc hc=>?_;rw [e,show a++32::b=(a++[32])++b by simp];exact KC _ hc
 .rw [Gz hm,iK];rfl
theorem wJ:zu ["text","body"] Xc (zk kF):=fsc
theorem xW(F:Fun K "body_of" "body_of" kF f fd)(T:Txt K mg A)(S:GF P w K mg base true 2 "summed" ["body"] kO):zp P w K mg base CX0 true 3 f fd Xc v9:=by
 refine F.o wJ λU Z outer s H vs Q E hr h=>?_;have O:_<cLine:=KH (zM hr);refine ⟨_,(W.h (zh (zW (bW (bO (zK pd rfl T.wh boot_isinstance (za (zg 0) (za (me rfl T.nY Ls (v:=.ty "str") rfl) zd)))))
   (zi (zA h8))
   z9)
   (zh (zw (i:=1) wJ.nd rfl (J5 rfl) (dR fM (zg 0) dO (dS (zB cq (Fi (zg 0) aC) zo))))
   (zi (zA (yU (tD (ah (clO (oE (da O))) (clE (zg 0)) (clE (caD (zt S hr rfl (clP (za (zg 1) zd))))) (z6 _))) (zg 1) h8)))))),?_⟩
 obtain ⟨z,rfl,ha,hz,q⟩:=h;ac_rfl;refine ⟨_,_,_,_,_,rfl,rfl,.of (.str z),rfl,?_⟩;erw [aq (Kp hz (by decide)),BY];obtain ⟨J,b2⟩:=Ia ha;refine ⟨cQ z,rfl,J,by lia,λH' s1=>?_⟩;ac_rfl;have G:=q H' s1;refine dn (λh=>?_) λh=>?_
 .have e:ia z=some (cQ z):=if_pos (of_decide_eq_true h);rw [e] at G;exact G
 .have e:ia z=none:=if_neg λx=>h (decide_eq_true x);rw [e] at G;exact G
theorem qS:∀ys:List Str,sg (KF "" ys)=(ys.map sg).flatten:=by
 intro ys;have e:KF "" ys=Str.join "" ys:=StrLaws.glued_eq_join "" ys;rw [e]
 induction ys with
 | nil=>rfl
 | cons y ys z =>
  cases ys with
  | nil=>show sg y=_;simp
  | cons x ys =>
   have z:=z (StrLaws.glued_eq_join "" _);show sg (y++""++Str.join "" (x::ys))=_;rw [dD,dD,z];have:sg ("":Str)=[]:=by decide
   rw [this];simp
end
abbrev kK:Stmt:=ar (top 21) 0
abbrev lR:Stmt:=ar (top 21) 1
abbrev lA:Stmt:=ar (top 21) 2
abbrev nV:Stmt:=ar (top 21) 14
abbrev o9:Stmt:=ar (top 21) 15
abbrev Tab:=List (Str×List Int)
def aZ(H:Hp)(v:V)(l:List Int):Prop:=∃p,v = .ref p/\H p=some (.tup (l.map V.int))
def zG(b k:Addr):List (Str×V):=[("births",.ref b),("kept",.ref k)]
structure bZ(H:Hp)(b:Addr)(t:Tab):Prop where
 ex:∃kvs,H b=some (.dK (sk kvs))/\Dct (aZ H) kvs t
 nd:(names t).Nodup
structure cB(H:Hp)(b:Addr)(t:Tab):Prop where
 ex:∃kvs,Rd H b (.dK (sk kvs))/\Dct (aZ H) kvs t
 nd:(names t).Nodup
theorem bZ.r{b:Addr}{t:Tab}(h:bZ H b t):cB H b t:=let ⟨kvs,e,d⟩:=h.ex;⟨⟨kvs,.inl e,d⟩,h.nd⟩
structure aG(A:zj)(H:Hp)(q b k:Addr)(t:Tab):Prop where
 ob:∃dx,H q=some (.ins A.kn dx (zG b k))
 hX:cB H b t
 kept:Rd H k (.dK (sk []))
def cf(A:zj)(H:Hp)(b k:Addr)(v:V)(t:Tab):Prop:=∃q z k',v = .ref q/\aG A H q z k' t/\z≠b/\z≠k/\k'≠b/\k'≠k
structure zx(A:zj)(H:Hp)(p b k:Addr)(t:Tab)(ks:List (Str×Tab)):Prop where
 ob:∃dx,H p=some (.ins A.kn dx (zG b k))
 hX:bZ H b t
 kept:∃kk,H k=some (.dK (sk kk))/\Dct (cf A H b k) kk ks
 xy:(names ks).Nodup
 ne:b≠k
structure bj(A:zj)(H:Hp)(p b k:Addr)(t:Tab)(ks:List (Str×Tab)):Prop where
 ob:∃dx,H p=some (.ins A.kn dx (zG b k))
 hX:cB H b t
 kept:∃kk,Rd H k (.dK (sk kk))/\Dct (cf A H b k) kk ks
 xy:(names ks).Nodup
theorem zx.r{p b k:Addr}{t:Tab}(h:zx A H p b k t ks):bj A H p b k t ks:=let ⟨kk,e,d⟩:=h.kept;⟨h.ob,h.hX.r,⟨kk,.inl e,d⟩,h.xy⟩
structure FS(H H':Hp):Prop where
 Qb:∀a o,(∀kvs,o≠.dK kvs)->(∀ob kvs,o≠.frz ob (.dK kvs))->H a=some o->H' a=some o
 dic:∀a kvs,Rd H a (.dK kvs)->Rd H' a (.dK kvs)
theorem FS.of(s:ze H H'):FS H H':=⟨λa o _ _ e=>s a o e,λa kvs r=>r.elim (λe=>.inl (s _ _ e)) (λ⟨o,e⟩=>.inr ⟨o,s _ _ e⟩)⟩
theorem FS.trans(x:FS H H1)(y:FS H1 H2):FS H H2:=⟨λa o n m e=>y.Qb a o n m (x.Qb a o n m e),λa kvs r=>y.dic a kvs (x.dic a kvs r)⟩
theorem Rd.same{a:Addr}(h:Rd H a u)(s:ze H H'):Rd H' a u:=h.elim (λe=>.inl (s _ _ e)) (λ⟨o,e⟩=>.inr ⟨o,s _ _ e⟩)
theorem But.upd{b:Addr}{H:Hp}{o:HO}:But b H (upd H b o):=λa u n e=>by rw [zf n];exact e
theorem aZ.but{b:Addr}(h:aZ H v l)(s:But b H H')(hb:∀xs,H b≠some (.tup xs)):aZ H' v l:=by
 obtain ⟨p,e,F⟩:=h;exact ⟨p,e,s p _ (λz=>by subst z;exact hb _ F) F⟩
theorem aZ.same(h:aZ H v l)(s:ze H H'):aZ H' v l:=let ⟨p,e,hp⟩:=h;⟨p,e,s p _ hp⟩
theorem bZ.but{b:Addr}{t:Tab}(h:bZ H b t)(s:But x H H')(hx:∀xs,H x≠some (.tup xs))(n:b≠x):bZ H' b t:=by
 obtain ⟨kvs,e,d⟩:=h.ex;exact ⟨⟨kvs,s _ _ n e,d.imp λv a r=>r.but s hx⟩,h.nd⟩
theorem bZ.same{b:Addr}{t:Tab}(h:bZ H b t)(s:ze H H'):bZ H' b t:=by
 obtain ⟨kvs,e,d⟩:=h.ex;exact ⟨⟨kvs,s _ _ e,d.imp λv a r=>r.same s⟩,h.nd⟩
theorem cB.but{b:Addr}{t:Tab}(h:cB H b t)(s:But x H H')(hx:∀xs,H x≠some (.tup xs))(n:b≠x):cB H' b t:=by
 obtain ⟨kvs,e,d⟩:=h.ex;exact ⟨⟨kvs,e.elim (λe=>.inl (s _ _ n e)) (λ⟨o,e⟩=>.inr ⟨o,s _ _ n e⟩),d.imp λv a r=>r.but s hx⟩,h.nd⟩
theorem aZ.fs(h:aZ H v l)(s:FS H H'):aZ H' v l:=let ⟨p,e,hp⟩:=h;⟨p,e,s.Qb p _ (λ_=>nofun) (λ_ _=>nofun) hp⟩
theorem cB.fs{b:Addr}{t:Tab}(h:cB H b t)(s:FS H H'):cB H' b t:=by
 obtain ⟨kvs,e,d⟩:=h.ex;exact ⟨⟨kvs,s.dic _ _ e,d.imp λv a r=>r.fs s⟩,h.nd⟩
theorem aG.but{q b k:Addr}{t:Tab}(h:aG A H q b k t)(s:But x H H')(hx:H x=some (.dK kvs))(G:b≠x)(F:k≠x):aG A H' q b k t:=by
 obtain ⟨dx,e⟩:=h.ob;exact ⟨⟨dx,s _ _ (λz=>by subst z;rw [e] at hx;cases hx) e⟩,h.hX.but s (λxs z=>by rw [z] at hx;cases hx) G,h.kept.elim (λe=>.inl (s _ _ F e)) (λ⟨o,e⟩=>.inr ⟨o,s _ _ F e⟩)⟩
theorem aG.fs{q b k:Addr}{t:Tab}(h:aG A H q b k t)(s:FS H H'):aG A H' q b k t:=let ⟨dx,e⟩:=h.ob;⟨⟨dx,s.Qb _ _ (λ_=>nofun) (λ_ _=>nofun) e⟩,h.hX.fs s,s.dic _ _ h.kept⟩
theorem aG.same{q b k:Addr}{t:Tab}(h:aG A H q b k t)(s:ze H H'):aG A H' q b k t:=h.fs (.of s)
theorem cf.fs{b k:Addr}{t:Tab}(h:cf A H b k v t)(s:FS H H'):cf A H' b k v t:=let ⟨q,b',k',e,r,n⟩:=h;⟨q,b',k',e,r.fs s,n⟩
theorem bj.fs{p b k:Addr}{t:Tab}(h:bj A H p b k t ks)(s:FS H H'):bj A H' p b k t ks:=by
 obtain ⟨dx,e⟩:=h.ob;obtain ⟨kk,z,d⟩:=h.kept;exact ⟨⟨dx,s.Qb _ _ (λ_=>nofun) (λ_ _=>nofun) e⟩,h.hX.fs s,⟨kk,s.dic _ _ z,d.imp λv a r=>r.fs s⟩,h.xy⟩
theorem bj.same{p b k:Addr}{t:Tab}(h:bj A H p b k t ks)(s:ze H H'):bj A H' p b k t ks:=h.fs (.of s)
theorem zx.fs{p b k d:Addr}{t:Tab}(h:zx A H p b k t ks)(s:FS H H')(bt:But d H H')(z:b≠d)(O:k≠d):zx A H' p b k t ks:=by
 obtain ⟨dx,e⟩:=h.ob;obtain ⟨kk,F,d⟩:=h.kept;obtain ⟨kvs,G,J⟩:=h.hX.ex;exact ⟨⟨dx,s.Qb _ _ (λ_=>nofun) (λ_ _=>nofun) e⟩,⟨⟨kvs,bt _ _ z G,J.imp λv a r=>r.fs s⟩,h.hX.nd⟩,⟨kk,bt _ _ O F,d.imp λv a r=>r.fs s⟩,h.xy,h.ne⟩
theorem cf.same{b k:Addr}{t:Tab}(h:cf A H b k v t)(s:ze H H'):cf A H' b k v t:=let ⟨q,b',k',e,r,n⟩:=h;⟨q,b',k',e,r.same s,n⟩
theorem zx.same{p b k:Addr}{t:Tab}(h:zx A H p b k t ks)(s:ze H H'):zx A H' p b k t ks:=by
 obtain ⟨dx,e⟩:=h.ob;obtain ⟨kk,z,d⟩:=h.kept;exact ⟨⟨dx,s _ _ e⟩,h.hX.same s,⟨kk,s _ _ z,d.imp λv a r=>r.same s⟩,h.xy,h.ne⟩
theorem zx.setB{p b k:Addr}{t t':Tab}(h:zx A H p b k t ks)(s:But b H H')(e:H' b=some (.dK (sk F)))(d':Dct (aZ H') F t')(nd:(names t').Nodup):zx A H' p b k t' ks:=by
 obtain ⟨dx,O⟩:=h.ob;obtain ⟨kk,W,d⟩:=h.kept;obtain ⟨kvs,G,_⟩:=h.hX.ex;exact ⟨⟨dx,s _ _ (λz=>by subst z;rw [O] at G;cases G) O⟩,⟨⟨F,e,d'⟩,nd⟩,⟨kk,s _ _ (Lv h.ne) W,d.imp λv a ⟨q,b',k',ev,r,J,Z,S,U⟩=>⟨q,b',k',ev,r.but s G J S,J,Z,S,U⟩⟩,h.xy,h.ne⟩
theorem zx.Qq{p b k:Addr}{t:Tab}(h:zx A H p b k t ks)(s:But k H H')(e:H' k=some (.dK (sk F)))(d':Dct (cf A H' b k) F ks')(nd:(names ks').Nodup):zx A H' p b k t ks':=by
 obtain ⟨dx,J⟩:=h.ob;obtain ⟨kk,G,d⟩:=h.kept;exact ⟨⟨dx,s _ _ (λz=>by subst z;rw [J] at G;cases G) J⟩,h.hX.but s (λxs z=>by rw [z] at G;cases G) h.ne,⟨F,e,d'⟩,nd,h.ne⟩
theorem cf.but{b k:Addr}{t:Tab}(h:cf A H b k v t)(s:But k H H')(hx:H k=some (.dK kvs)):cf A H' b k v t:=let ⟨q,b',k',ev,r,n1,n2,n3,n4⟩:=h;⟨q,b',k',ev,r.but s hx n2 n4,n1,n2,n3,n4⟩
section
variable {P:JZ}{w:Ke}{K:Frag}{mg:Str->Option Value}{base:Heap}{A:zj}{b k:Addr}
theorem bw:(zG b k).lookup ("births":Str)=some (.ref b):=by simp only [zG,KP,beq_self_eq_true]
theorem cJ:(zG b k).lookup ("kept":Str)=some (.ref k):=by simp only [zG,KP,beq_self_eq_true,Im]
theorem rp:(zG b k).lookup ("names":Str)=none:=by kernel_rfl
theorem dU:(zG b k).lookup (Wp:Str)=none:=by kernel_rfl
theorem j2:(zG b k).lookup (WB:Str)=none:=by kernel_rfl
theorem oY:(zG b k).lookup ("put":Str)=none:=by kernel_rfl
theorem G0:(zG b k).lookup ("cut":Str)=none:=by kernel_rfl
theorem qu:(zG b k).lookup ("hold":Str)=none:=by kernel_rfl
theorem FU:(zG b k).lookup ("free":Str)=none:=by kernel_rfl
theorem je:(zG b k).lookup ("held":Str)=none:=by kernel_rfl
theorem u9:(zG b k).lookup ("of_held":Str)=none:=by kernel_rfl
theorem ug:(zG b k).lookup ("living":Str)=none:=by kernel_rfl
theorem qA:(zG b k).lookup ("copied":Str)=none:=by kernel_rfl
theorem mT:(zG b k).lookup ("bare":Str)=none:=by kernel_rfl
theorem uX:(zG b k).lookup ("keep":Str)=none:=by kernel_rfl
theorem jB:(zG b k).lookup (Wv:Str)=none:=by kernel_rfl
theorem jj:(zG b k).lookup (WA:Str)=none:=by kernel_rfl
def gF(A:zj):Sp:=λvs H Q _=>∃(p dx:Addr),vs=[.ref p]/\H p=some (.ins A.kn dx [])/\∀b k H',But p H H'->H b=none->H k=none->H' b=some (.dK (sk []))->H' k=some (.dK (sk []))->b≠k->H' p=some (.ins A.kn dx (zG b k))->Q .non H'
theorem HI:zu ZY ZY (zk kK):=fsc
theorem Ag(F:Fun K WE "Files.__init__" kK f fd)(T:Txt K mg A):zp P w K mg base CX0 true 1 f fd ZY (gF A):=by
 refine F.o HI λZP Ar outer s H vs Q E hr h=>?_;obtain ⟨p,dx,rfl,S,q⟩:=h;refine ⟨_,(W.h (zh (cW T.hE T.kc (zb 0) fe)
   (zi (cW T.hE T.lp (zb 0) fe)))),?_⟩
 ac_rfl;refine λb H1 G=>⟨dx,[],G.same _ _ S,by decide,λk H2 J=>⟨dx,_,J.same _ _ zq,by show 1<1000;decide,?_⟩⟩;have O:b≠p:=λz=>by have:=G.no;rw [z,S] at this;cases this
 have kp:k≠p:=λz=>by have:=J.no;rw [z,zq] at this;cases this
 have k1:H1 k=none:=by have:=J.no;rw [zf kp] at this;exact this
 have Z:zL ("kept":Str) (V.ref k) (zL ("births":Str) (V.ref b) [])=zG b k:=by simp only [zL,zG,vK,if_false]
 have U:H2 b=some (.dK []):=J.same _ _ (by rw [zf O];exact G.at_);rw [Z];refine q b k _ (λa o n e=>?_) G.no (G.same.free k1) (by rw [zf O];exact U) (by rw [zf kp];exact J.at_) (λz=>?_) zq
 .rw [zf n];exact J.same _ _ (by rw [zf n];exact G.same _ _ e)
 .have:=J.no;rw [<- z,zf O,G.at_] at this;cases this
def lG(A:zj):Sp:=λvs H Q _=>∃(p b k:Addr)(t:Tab)(ks:List (Str×Tab)),vs=[.ref p]/\bj A H p b k t ks/\t.length<64/\∀l H',New H l (.lst ((zr (names t)).map V.str)) H'->Q (.ref l) H'
theorem FJ:zu ZY ZY (zk lR):=fsc
theorem DW(F:Fun K "names" "Files.names" lR f fd)(T:Txt K mg A):zp P w K mg base CX0 true 1 f fd ZY (lG A):=by
 refine F.o FJ λO S outer s H vs Q E hr h=>?_;obtain ⟨p,b,k,t,ks,rfl,z,hl,q⟩:=h;refine ⟨_,(W.h (zi (zA (zK (dJ rfl) rfl T.ny LO (za (ag T.hE T.kc (zb 0)) zd))))),?_⟩;obtain ⟨dx,G⟩:=z.ob;obtain ⟨kvs,J,d⟩:=z.hX.ex;erw [G,bw];refine ⟨kvs,J,by rw [d.length];exact hl,?_⟩;rw [d.names];exact q
def lk(t:Tab)(n:Str):List Int:=(look t n).getD []
def fY(A:zj):Sp:=λvs H Q _=>∃(p b k:Addr)(t:Tab)(ks:List (Str×Tab))(n:Str),vs=[.ref p,.str n]/\bj A H p b k t ks/\∀H',ze H H'->Q (.int (lk t n).length) H'
theorem bZ.get{t:Tab}(d:Dct (aZ H) kvs t)(n:Str){p:Addr}(s:ze H H')(G:H' p=some (.tup [])):∃a,(look kvs n).getD (.ref p) = .ref a/\H' a=some (.tup ((lk t n).map V.int)):=by
 rcases d.look n with ⟨v,l,z,F,a,J,ha⟩|⟨z,F⟩
 .exact ⟨a,by rw [z,J];rfl,by unfold lk;rw [F];exact s _ _ ha⟩
 .exact ⟨p,by rw [z];rfl,by unfold lk;rw [F];exact G⟩
theorem Iz:zu Yt Yt (zk lA):=fsc
theorem GJ(F:Fun K Wp "Files.many" lA f fd)(T:Txt K mg A):zp P w K mg base CX0 true 1 f fd Yt (fY A):=by
 refine F.o Iz λU Ar outer s H vs Q E hr h=>?_;obtain ⟨p,b,k,t,ks,n,rfl,J,q⟩:=h;refine ⟨_,(W.h (zi (zA (zK cP rfl T.r0 KA (za (kT (zM hr) (ag T.hE T.kc (zb 0)) (zb 1) (dr zd)) zd))))),?_⟩;obtain ⟨dx,O⟩:=J.ob;obtain ⟨kvs,G,d⟩:=J.hX.ex;erw [O,bw];refine ⟨⟨_,G⟩,Lc _,λZ H2 z=>⟨_,Rd.same G z.same,?_⟩⟩;obtain ⟨a,S,ha⟩:=bZ.get d n z.same z.at_;rw [aJ,S,jL];exact ⟨_,.inr ha,by rw [JS];exact q H2 z.same⟩
theorem Dct.ot{α:Type}{R:V->α->Prop}{t:List (Str×α)}(d:Dct R kvs t)(n:Str):(look kvs n).isSome=(look t n).isSome:=by
 rcases d.look n with ⟨v,l,z,F,_⟩|⟨z,F⟩<;>rw [z,F]<;>rfl
def mv(A:zj):Sp:=λvs H Q _=>∃(p b k:Addr)(t:Tab)(ks:List (Str×Tab))(n:Str),vs=[.ref p,.str n]/\bj A H p b k t ks/\(look t n).isSome=true/\Q .non H
theorem EL:zu Yt Yt (zk nV):=fsc
theorem xB(F:Fun K Wv "Files.refuse_if_none" nV f fd)(T:Txt K mg A):zp P w K mg base CX0 true 1 f fd Yt (mv A):=by
 refine F.o EL λS U outer s H vs Q E hr h=>?_;obtain ⟨p,b,k,t,ks,n,rfl,z,O,q⟩:=h;refine ⟨_,(W.h (zi (zW (ah (nj (zM hr)) (zb 1) (ag T.hE T.kc (zb 0)) rfl)
   (zi bJ)
   z9))),?_⟩
 obtain ⟨dx,G⟩:=z.ob;obtain ⟨kvs,J,d⟩:=z.hX.ex;erw [G,bw];refine ⟨_,J,?_⟩;rw [aJ,Dct.ot d n,O];exact h7 q
def oy(A:zj):Sp:=λvs H Q _=>∃(p b k:Addr)(t:Tab)(ks:List (Str×Tab))(n:Str),vs=[.ref p,.str n]/\bj A H p b k t ks/\(look ks n).isSome=true/\Q .non H
theorem Ha:zu YD YD (zk o9):=fsc
theorem Ca(F:Fun K WA "Files.refuse_if_not_held" o9 f fd)(T:Txt K mg A):zp P w K mg base CX0 true 1 f fd YD (oy A):=by
 refine F.o Ha λS U outer s H vs Q E hr h=>?_;obtain ⟨p,b,k,t,ks,n,rfl,z,O,q⟩:=h;refine ⟨_,(W.h (zi (zW (ah (nj (zM hr)) (zb 1) (ag T.hE T.lp (zb 0)) rfl)
   (zi bJ)
   z9))),?_⟩
 obtain ⟨dx,G⟩:=z.ob;obtain ⟨kk,J,d⟩:=z.kept;erw [G,cJ];refine ⟨_,J,?_⟩;rw [aJ,Dct.ot d n,O];exact h7 q
abbrev mJ:Stmt:=ar (top 21) 3
abbrev kr:Stmt:=ar (top 21) 4
abbrev ow:Stmt:=ar (top 21) 5
theorem oU{i a b:Int}(h1:a<=i)(h2:i<=b):jO (.int i) a b=true:=by
 show (decide (a<=i)&&decide (i<=b))=true;rw [decide_eq_true h1,decide_eq_true h2];rfl
theorem j5(G:0<=i)(h1:i<=xs.length):aQ xs none (some i)=xs.take i.toNat:=by
 have z:HT.sIx xs.length 0 none=0:=rfl;have F:HT.sIx xs.length xs.length (some i)=i.toNat:=by
  unfold HT.sIx;simp only;split<;>omega
 unfold aQ;rw [z,F];simp
theorem sT{i:Int}(G:0<=i)(h1:i<=xs.length+1):aQ xs (some i) none=xs.drop i.toNat:=by
 have z:HT.sIx xs.length xs.length none=xs.length:=rfl;have F:HT.sIx xs.length 0 (some i)=min i.toNat xs.length:=by
  unfold HT.sIx;simp only;split<;>omega
 unfold aQ;rw [z,F];by_cases h:i.toNat<=xs.length
 .rw [Ol h,J2 (by rw [NP];omega)]
 .rw [Nat.min_eq_right (by omega),LH (JY _),LH (by omega)];simp
def nN(A:zj):Sp:=λvs H Q _=>∃(p b k:Addr)(t:Tab)(ks:List (Str×Tab))(n:Str)(l:List Int)(i:Int),vs=[.ref p,.str n,.int i]/\bj A H p b k t ks/\look t n=some l/\0<=i/\i<l.length/\∀H',ze H H'->Q (.int (l.getD i.toNat 0)) H'
theorem xP:zu W9 W9 (zk mJ):=fsc
theorem A9(F:Fun K WB "Files.birth" mJ f fd)(T:Txt K mg A)(Z:GM P w K mg base true 1 A.kn Wv Yt (mv A))(Z5:GM P w K mg base true 1 A.kn Wp Yt (fY A))(ZN:GF P w K mg base true 2 Wq Xw jA):zp P w K mg base CX0 true 4 f fd W9 (nN A):=by
 refine F.o xP λZP Ar outer s H vs Q E hr h=>?_;obtain ⟨p,b,k,t,ks,n,l,i,rfl,J,O,i0,i1,q⟩:=h;refine ⟨_,(W.h (zh (ai (aN (zb 0) T.hE Z hr (za (zb 1) zd)))
   (zh (zW (bW (bO (zt ZN hr rfl (za (zb 2) (za zo (za (zB og (aN (zb 0) T.hE Z5 hr (za (zb 1) zd)) zo) zd))))))
   (zi bJ)
   z9)
   (zi (zA (zQ cu (zQ (c0 (zM hr)) (ag T.hE T.kc (zb 0)) (zb 1) (λ_ _=>rfl)) (zb 2) (λ_ _=>rfl))))))),?_⟩
 obtain ⟨dx,S⟩:=J.ob;erw [S,bw,jB,dU];refine ⟨p,b,k,t,ks,n,rfl,J,by rw [O];rfl,?_⟩;erw [S,bw,jB,dU];refine ⟨p,b,k,t,ks,n,rfl,J,λH1 s1=>?_⟩;have U:=J.same s1;obtain ⟨XX,Xg⟩:=U.ob;obtain ⟨kvs,e2,d⟩:=U.hX.ex;have el:lk t n=l:=by unfold lk;rw [O];rfl
 ac_rfl;refine ⟨_,_,_,rfl,.int i,?_⟩;rw [oU i0 (by rw [el];omega)];erw [Xg,bw];refine ⟨_,e2,?_⟩;rcases d.look n with ⟨v,l',d1,G,a,ev,ha⟩|⟨_,G⟩
 .rw [O] at G;cases G;subst ev;refine ⟨.ref a,by rw [aJ];exact d1,?_⟩;rw [gE];have hi:i.toNat<l.length:=by omega
  refine ⟨_,.inr ha,.int (l.getD i.toNat 0),?_,q H1 s1⟩;have z:atI (l.map V.int) ((i.toNat:Nat):Int)=some (.int (l[i.toNat])):=gj (by rw [Kd,JQ hi];rfl);rw [show ((i.toNat:Nat):Int)=i by omega] at z;rw [z,Kj,JQ hi];rfl
 .rw [O] at G;cases G
def jU(A:zj):Sp:=λvs H Q _=>∃(p b k:Addr)(t:Tab)(ks:List (Str×Tab))(n:Str)(i x:Int),vs=[.ref p,.str n,.int i,.int x]/\zx A H p b k t ks/\0<=i/\i<=(lk t n).length/\(lk t n).length<=1000/\t.length<=1000 /\
 ∀H',But b H H'->zx A H' p b k (zU t n ((lk t n).take i.toNat++[x]++(lk t n).drop (i.toNat+1))) ks->Q .non H'
theorem pI:zu ["self","file","place",WB,"births"] XH (zk kr):=fsc
theorem Bs(F:Fun K "put" "Files.put" kr f fd)(T:Txt K mg A)(Z5:GM P w K mg base true 1 A.kn Wp Yt (fY A))(ZN:GF P w K mg base true 2 Wq Xw jA):zp P w K mg base CX0 true 4 f fd XH (jU A):=by
 refine F.o pI λZP Ar outer s H vs Q E hr h=>?_;obtain ⟨p,b,k,t,ks,n,i,x,rfl,U,i0,i1,l1,t1,q⟩:=h;refine ⟨_,(W.h (zh (zW (bW (bO (zt ZN hr rfl (za (zb 2) (za zo (za (aN (zb 0) T.hE Z5 hr (za (zb 1) zd)) zd))))))
   (zi bJ)
   z9)
   (zh (zw (i:=4) pI.nd rfl (J5 rfl) (kT (zM hr) (ag T.hE T.kc (zb 0)) (zb 1) (dr zd)))
   (zi (cT (zB i4 (zB i4 (dR ox (zb 4) dO (dS (zb 2))) (dr (za (zb 3) zd))) (dR ox (zb 4) (dS (zB i4 (zb 2) zo)) dO)) (dj (ag T.hE T.kc (zb 0)) (zb 1) (eB (zM hr)))))))),?_⟩
 obtain ⟨dx,e1⟩:=U.ob;erw [e1,bw,dU];refine ⟨p,b,k,t,ks,n,rfl,U.r,λH1 s1=>?_⟩;have F1:=U.same s1;obtain ⟨XX,Xg⟩:=F1.ob;obtain ⟨kvs,J,d⟩:=F1.hX.ex;ac_rfl;refine ⟨_,_,_,rfl,.int i,?_⟩;rw [oU i0 i1];erw [Xg,bw];refine ⟨⟨_,.inl J⟩,Lc _,λp1 H2 S=>⟨_,.inl (S.same _ _ J),?_⟩⟩;obtain ⟨a,ea,ha⟩:=bZ.get d n S.same S.at_;rw [aJ,ea];erw [ha];intro p2 H3 s3 e3;refine ⟨by decide,λp3 H4 O=>?_⟩;rw [j5 i0 (by rw [JS];exact i1)] at e3;have big:∀n:Nat,n<=100000->n<=sizeLine:=λn h=>Kp h (by decide);refine .inr ⟨_,O.same _ _ e3,_,O.at_,big _ (by simp;omega),λp4 H5 s5 e5=>?_⟩;have Z:=s5 _ _ (O.same _ _ (s3 _ _ ha));refine .inr ⟨_,Z,λp6 H6 s6 e6=>?_⟩;rw [sT (by omega) (by rw [JS];omega)] at e6;refine .inr ⟨_,s6 _ _ e5,_,e6,big _ (by simp;omega),λp7 H7 s7 e7=>?_⟩;have G:ze H1 H7:=((((S.same.trans s3).trans O.same).trans s5).trans s6).trans s7;have F7:=F1.same G;obtain ⟨av,ab⟩:=F7.ob;erw [ab,bw];refine ⟨_,G _ _ J,by rw [bS,d.length];exact Ku t1 (by decide),?_⟩;rw [eO];have bt:∀xs,H7 b≠some (.tup xs):=λxs z=>by rw [G _ _ J] at z;cases z
 have et:(i+1).toNat=i.toNat+1:=by omega
 have d7:Dct (aZ H7) kvs t:=d.imp λv a r=>r.same G;have r7:aZ H7 (.ref p7) ((lk t n).take i.toNat++[x]++(lk t n).drop (i.toNat+1)):=⟨p7,rfl,by rw [e7,et];simp [map_take,List.map_drop]⟩;refine q _ (λc o nc e=>by rw [zf nc];exact G _ _ (s1 _ _ e)) (F7.setB But.upd zq ((d7.put n r7).imp λv a r=>r.but But.upd bt) (fW U.hX.nd))
def cD(t:Tab)(n:Str)(m:Int):Tab:=if m=0 then zE t n else zU t n ((lk t n).take m.toNat)
def sJ(A:zj):Sp:=λvs H Q _=>∃(p b k:Addr)(t:Tab)(ks:List (Str×Tab))(n:Str)(l:List Int)(m:Int),vs=[.ref p,.str n,.int m]/\zx A H p b k t ks/\look t n=some l/\0<=m/\m<=l.length/\t.length<=1000/\∀H',But b H H'->zx A H' p b k (cD t n m) ks->Q .non H'
theorem HE:zu WW WW (zk ow):=fsc
theorem xk(F:Fun K "cut" "Files.cut" ow f fd)(T:Txt K mg A)(Z3:GM P w K mg base true 1 A.kn Wv Yt (mv A))(Z5:GM P w K mg base true 1 A.kn Wp Yt (fY A))(ZN:GF P w K mg base true 2 Wq Xw jA):zp P w K mg base CX0 true 4 f fd WW (sJ A):=by
 refine F.o HE λZP Ar outer s H vs Q E hr h=>?_;obtain ⟨p,b,k,t,ks,n,l,m,rfl,J,U,m0,m1,t1,q⟩:=h;have hu:_<cLine:=KH (zM hr);refine ⟨_,(W.h (zh (ai (aN (zb 0) T.hE Z3 hr (za (zb 1) zd)))
   (zh (zW (bW (bO (zt ZN hr rfl (za (zb 2) (za zo (za (aN (zb 0) T.hE Z5 hr (za (zb 1) zd)) zd))))))
   (zi bJ)
   z9)
   (zi (zW (ah (da hu) (zb 2) zo (z6 _))
   (zi (rB (ag T.hE T.kc (zb 0)) (zb 1)))
   (zi (cT (dR ox (zQ (c0 (zM hr)) (ag T.hE T.kc (zb 0)) (zb 1) (λ_ _=>rfl)) dO (dS (zb 2))) (dj (ag T.hE T.kc (zb 0)) (zb 1) (eB (zM hr)))))))))),?_⟩
 obtain ⟨dx,e1⟩:=J.ob;erw [e1,bw,jB,dU];refine ⟨p,b,k,t,ks,n,rfl,J.r,by rw [U];rfl,?_⟩;erw [e1,bw,jB,dU];refine ⟨p,b,k,t,ks,n,rfl,J.r,λH1 s1=>?_⟩;have Z:=J.same s1;obtain ⟨XX,Xg⟩:=Z.ob;obtain ⟨kvs,O,d⟩:=Z.hX.ex;have el:lk t n=l:=by unfold lk;rw [U];rfl
 ac_rfl;refine ⟨_,_,_,rfl,.int m,?_⟩;rw [oU m0 (by rw [el];omega)];erw [Xg,bw];have bt:∀xs,H1 b≠some (.tup xs):=λxs z=>by rw [O] at z;cases z
 obtain ⟨v,l',S,G,a,ev,ha⟩:∃v l',look kvs n=some v/\look t n=some l'/\aZ H1 v l':=by
  rcases d.look n with ⟨v,l',S,G,r⟩|⟨_,G⟩
  .exact ⟨v,l',S,G,r⟩
  .rw [U] at G;cases G
 rw [U] at G;cases G;subst ev;refine dn (λh=>?_) (λh=>?_)
 .have hm:m=0:=of_decide_eq_true h;refine ⟨_,O,by rw [aJ,S];rfl,?_⟩;rw [iU];have ec:cD t n m=zE t n:=if_pos hm;refine q _ (λc o nc e=>by rw [zf nc];exact s1 _ _ e) ?_;rw [ec];exact Z.setB But.upd zq ((d.drop n).imp λv a r=>r.but But.upd bt) (g6 J.hX.nd)
 .have hm : ¬ m=0:=λz=>h (decide_eq_true z);refine ⟨_,.inl O,.ref a,by rw [aJ];exact S,?_⟩;erw [ha];intro p2 H2 s2 ep;rw [j5 m0 (by rw [JS];exact m1)] at ep;have F2:=Z.same s2;obtain ⟨Ya,av⟩:=F2.ob;erw [av,bw];refine ⟨_,s2 _ _ O,by rw [bS,d.length];exact Ku t1 (by decide),?_⟩;rw [eO];have ab:∀xs,H2 b≠some (.tup xs):=λxs z=>by rw [s2 _ _ O] at z;cases z
  have G:Dct (aZ H2) kvs t:=d.imp λv a r=>r.same s2;have r2:aZ H2 (.ref p2) ((lk t n).take m.toNat):=⟨p2,rfl,by rw [ep,el,map_take]⟩;have ec:cD t n m=zU t n ((lk t n).take m.toNat):=if_neg hm;refine q _ (λc o nc e=>by rw [zf nc];exact s2 _ _ (s1 _ _ e)) ?_;rw [ec];exact F2.setB But.upd zq ((G.put n r2).imp λv a r=>r.but But.upd ab) (fW J.hX.nd)
abbrev mP:Stmt:=ar (top 21) 6
abbrev lq:Stmt:=ar (top 21) 7
abbrev mw:Stmt:=ar (top 21) 8
abbrev nB:Stmt:=ar (top 21) 9
abbrev kR:Stmt:=ar (top 21) 12
abbrev oJ:Stmt:=ar (top 21) 13
def oK(A:zj):Sp:=λvs H Q _=>∃(p b k:Addr)(t:Tab)(ks:List (Str×Tab)),vs=[.ref p]/\bj A H p b k t ks/\ks.length<64/\∀l H',New H l (.lst ((zr (names ks)).map V.str)) H'->Q (.ref l) H'
theorem GK:zu ZY ZY (zk mw):=fsc
theorem Co(F:Fun K "held" "Files.held" mw f fd)(T:Txt K mg A):zp P w K mg base CX0 true 1 f fd ZY (oK A):=by
 refine F.o GK λO S outer s H vs Q E hr h=>?_;obtain ⟨p,b,k,t,ks,rfl,z,hl,q⟩:=h;refine ⟨_,(W.h (zi (zA (zK (dJ rfl) rfl T.ny LO (za (ag T.hE T.lp (zb 0)) zd))))),?_⟩;obtain ⟨dx,G⟩:=z.ob;obtain ⟨kk,J,d⟩:=z.kept;erw [G,cJ];refine ⟨kk,J,by rw [d.length];exact hl,?_⟩;rw [d.names];exact q
structure Has(A:zj)(H:Hp)(p:Addr)(t:Tab):Prop where
 ob:∃b k dx,H p=some (.ins A.kn dx (zG b k))/\cB H b t
theorem zx.has{p:Addr}{t:Tab}(h:zx A H p b k t ks):Has A H p t:=let ⟨dx,e⟩:=h.ob;⟨b,k,dx,e,h.hX.r⟩
theorem aG.has{p:Addr}{t:Tab}(h:aG A H p b k t):Has A H p t:=let ⟨dx,e⟩:=h.ob;⟨b,k,dx,e,h.hX⟩
def jq(A:zj):Sp:=λvs H Q _=>∃(p:Addr)(t:Tab),vs=[.ref p]/\Has A H p t/\∀q z k' H',ze H H'->H z=none->H k'=none->H q=none->aG A H' q z k' t->bZ H' z t->Q (.ref q) H'
theorem pX:zu ["self","other"] ZY (zk kR):=fsc
theorem Dq(F:Fun K "bare" "Files.bare" kR f fd)(T:Txt K mg A)(Zr:GC P w K mg base true 1 "Files" A.kn ZY (gF A)):zp P w K mg base CX0 true 3 f fd ZY (jq A):=by
 refine F.o pX λZP Ar outer s H vs Q E hr h=>?_;obtain ⟨p,t,rfl,⟨b,k,dx,e1,hB⟩,q⟩:=h;refine ⟨_,(W.h (zh (zw (i:=1) pX.nd rfl (J5 rfl) (jR Zr hr rfl))
   (zh (cW T.hE T.kc (zb 1) (az kh rfl T.Po boot_dict (za (ag T.hE T.kc (zb 0)) zd)))
   (zi (zA (zb 1)))))),?_⟩
 obtain ⟨kvs,e2,d⟩:=hB.ex;erw [e1,bw];refine λx Z H2 U=>⟨x,Z,rfl,U.at_,λb1 k1 H3 s3 nb nk eb ek aI ex=>⟨rfl,?_⟩⟩;have px:∀c o,H c=some o->c≠x:=λc o e z=>by have:=U.no;rw [<- z,e] at this;cases this
 have G:∀c o,H c=some o->H3 c=some o:=λc o e=>s3 c o (px c o e) (U.same c o e);have ab:=G _ _ e1;erw [ab,bw];refine ⟨_,Rd.same e2 G,λO H4 J=>⟨Z,_,J.same _ _ ex,by show 2<1000;decide,?_⟩⟩;have eF:zL ("births":Str) (V.ref O) (zG b1 k1)=zG O k1:=by simp only [zL,zG,if_true]
 rw [eF];have S:O≠x:=λz=>by have:=J.no;rw [z,ex] at this;cases this
 have av:k1≠x:=λz=>by rw [z,ex] at ek;cases ek
 have sF:ze H (upd H4 x (.ins A.kn Z (zG O k1))):=λc o e=>by rw [zf (px c o e)];exact J.same _ _ (G c o e)
 have fr:∀c,H3 c=none->H c=none:=λc e=>by
  cases h:H c with
  | none=>rfl
  | some o=>rw [G c o h] at e;cases e
 have k0:H k1=none:=U.same.free nk;refine q x O k1 _ sF (fr O J.no) k0 U.no ⟨⟨Z,zq⟩,⟨⟨kvs,.inl (by rw [zf S];exact J.at_),d.imp λv a r=>r.same sF⟩,hB.nd⟩,.inl (by rw [zf av];exact J.same _ _ ek)⟩ ⟨⟨kvs,by rw [zf S];exact J.at_,d.imp λv a r=>r.same sF⟩,hB.nd⟩
theorem fN{α:Type}{t:List (Str×α)}{a:α}{p:Str×α}(h:p∈zU t n a):p∈t\/p=(n,a):=by
 unfold zU at h;split at h
 .obtain ⟨q,z,e⟩:=KL.mp h;by_cases c:q.1=n
  .rw [if_pos c] at e;right;rw [<- e,c]
  .rw [if_neg c] at e;left;rw [<- e];exact z
 .rcases Kx.mp h with h|h
  .exact .inl h
  .exact .inr (by simpa using h)
def zZ(A:zj)(H:Hp)(k c:Addr):Prop:=∀kvs,H k=some (.dK kvs)->∀pv∈kvs,∀q z k' dx,pv.2 = .ref q->H q=some (.ins A.kn dx (zG z k'))->z≠c/\k'≠c
theorem iM{b k z k':Addr}(h:zG b k=zG z k'):b=z/\k=k':=by
 unfold zG at h;injection h with h1 h2
 injection h1 with _ h1
 injection h2 with h2 _
 injection h2 with _ h2
 injection h1 with h1
 injection h2 with h2
 exact ⟨h1,h2⟩
def kS(A:zj):Sp:=λvs H Q _=>∃(p b k:Addr)(t:Tab)(ks:List (Str×Tab))(n:Str)(q:Addr)(u:Tab),vs=[.ref p,.str n,.ref q]/\zx A H p b k t ks/\Has A H q u/\ks.length<=1000/\∀H',But k H H'->zx A H' p b k t (zU ks n u)->(∀c,H c≠none->zZ A H k c->zZ A H' k c)->Q .non H'
theorem Cn:zu Xa Xa (zk oJ):=fsc
theorem DD(F:Fun K "keep" "Files.keep" oJ f fd)(T:Txt K mg A)(ZR:GM P w K mg base true 3 A.kn "bare" ZY (jq A)):zp P w K mg base CX0 true 4 f fd Xa (kS A):=by
 refine F.o Cn λZP Ar outer s H vs Q E hr h=>?_;obtain ⟨p,b,k,t,ks,n,qa,u,rfl,Z,hQ,kl,q⟩:=h;refine ⟨_,(W.h (zi (cT (zO (zb 2) T.hE ZR hr) (dj (ag T.hE T.lp (zb 0)) (zb 1) (eB (zM hr)))))),?_⟩;obtain ⟨dx,e1⟩:=Z.ob;obtain ⟨bq,kq,bb,a8,_⟩:=hQ.ob;erw [a8,mT];refine ⟨qa,u,rfl,hQ,λx b' k' H1 s1 nb nk nx hB _=>?_⟩;have F1:=Z.same s1;obtain ⟨XA,X9⟩:=F1.ob;obtain ⟨kk,e2,d⟩:=F1.kept;obtain ⟨bf,eb,_⟩:=Z.hX.ex;obtain ⟨ba,ek,_⟩:=Z.kept;erw [X9,cJ];refine ⟨_,e2,by rw [bS,d.length];exact Ku kl (by decide),?_⟩;rw [eO];have ne:∀c o,H c=some o->∀e,H e=none->e≠c:=λc o h e he z=>by rw [z,h] at he;cases he
 have r:cf A H1 b k (.ref x) u:=⟨x,b',k',rfl,hB,ne _ _ eb _ nb,ne _ _ ek _ nb,ne _ _ eb _ nk,ne _ _ ek _ nk⟩;refine q _ (λc o nc e=>by rw [zf nc];exact s1 _ _ e) (F1.Qq But.upd zq ((d.put n r).imp λv a r=>r.but But.upd e2) (fW Z.xy)) λc hc av kvs hk pv X6 q1 b1 k1 XA U J=>?_;rw [zq] at hk;cases hk;have qk:q1≠k:=λz=>by rw [z,zq] at J;cases J
 rw [zf qk] at J;unfold sk at X6;obtain ⟨ab,a3,rfl⟩:=KL.mp X6;have U:ab.2 = .ref q1:=U;rcases fN a3 with h|rfl
 .obtain ⟨S,aI,a6⟩:=Z.kept;have:=s1 _ _ aI;rw [e2] at this;have a9:S.map (·.2)=kk.map (·.2):=by
   have h2:sk S=sk kk:=by injection this with this;injection this with this;exact this.symm
   have h3:=congrArg (map (·.2)) h2;unfold sk at h3;rw [LM,LM] at h3;exact h3
  have hm:ab.2∈S.map (·.2):=by rw [a9];exact KL.mpr ⟨_,h,rfl⟩
  obtain ⟨pw,a4,a0⟩:=KL.mp hm;obtain ⟨j,hj,ej⟩:=LD a4;obtain ⟨a2,_,q2,b2,k2,a5,a7,_⟩:=Dct.at a6 (JQ hj);rw [ej,a0,U] at a5;cases a5;obtain ⟨Ya,O⟩:=a7.ob;have G:=s1 _ _ O;rw [J] at G;injection G with G
  injection G with _ _ G
  obtain ⟨r1,r2⟩:=iM G;subst r1 r2;exact av _ aI _ (by unfold sk;exact KL.mpr ⟨pw,a4,rfl⟩) q1 b1 k1 Ya (show pw.2=_ by rw [a0,U]) O
 .have U:V.ref x = .ref q1:=U;cases U;obtain ⟨Ya,O⟩:=hB.ob;rw [J] at O;injection O with O
  injection O with _ _ O
  obtain ⟨r1,r2⟩:=iM O;subst r1 r2;exact ⟨λz=>hc (by rw [<- z];exact nb),λz=>hc (by rw [<- z];exact nk)⟩
def qT(A:zj):Sp:=λvs H Q _=>∃(p b k:Addr)(t:Tab)(ks:List (Str×Tab))(n:Str),vs=[.ref p,.str n]/\zx A H p b k t ks/\look ks n=none/\ks.length<=1000/\∀H',But k H H'->zx A H' p b k t (zU ks n t)->(∀c,H c≠none->zZ A H k c->zZ A H' k c)->Q .non H'
theorem FM:zu YD YD (zk mP):=fsc
theorem xi(F:Fun K "hold" "Files.hold" mP f fd)(T:Txt K mg A)(U:GM P w K mg base true 4 A.kn "keep" Xa (kS A)):zp P w K mg base CX0 true 5 f fd YD (qT A):=by
 refine F.o FM λZ Ar outer s H vs Q E hr h=>?_;obtain ⟨p,b,k,t,ks,n,rfl,z,S,G,q⟩:=h;refine ⟨_,(W.h (zh (zW (ah (GH (zM hr)) (zb 1) (ag T.hE T.lp (zb 0)) rfl)
   (zi bJ)
   z9)
   (zi (ai (aN (zb 0) T.hE U hr (za (zb 1) (za (zb 0) zd))))))),?_⟩
 obtain ⟨dx,J⟩:=z.ob;obtain ⟨kk,O,d⟩:=z.kept;erw [J,cJ,uX];refine ⟨_,.inl O,?_⟩;rw [aJ,Dct.ot d n,S];exact h7 ⟨p,b,k,t,ks,n,p,t,rfl,z,z.has,G,q⟩
def vR(A:zj):Sp:=λvs H Q _=>∃(p b k:Addr)(t:Tab)(ks:List (Str×Tab))(n:Str),vs=[.ref p,.str n]/\zx A H p b k t ks/\(look ks n).isSome=true/\∀H',But k H H'->zx A H' p b k t (zE ks n)->(∀c,zZ A H k c->zZ A H' k c)->Q .non H'
theorem Jb:zu YD YD (zk lq):=fsc
theorem Cb(F:Fun K "free" "Files.free" lq f fd)(T:Txt K mg A)(Z6:GM P w K mg base true 1 A.kn WA YD (oy A)):zp P w K mg base CX0 true 3 f fd YD (vR A):=by
 refine F.o Jb λZP Ar outer s H vs Q E hr h=>?_;obtain ⟨p,b,k,t,ks,n,rfl,J,hn,q⟩:=h;refine ⟨_,(W.h (zh (ai (aN (zb 0) T.hE Z6 hr (za (zb 1) zd)))
   (zi (rB (ag T.hE T.lp (zb 0)) (zb 1))))),?_⟩
 obtain ⟨dx,Z⟩:=J.ob;obtain ⟨kk,S,d⟩:=J.kept;erw [Z,cJ,jj];refine ⟨p,b,k,t,ks,n,rfl,J.r,hn,?_⟩;erw [Z,cJ,jj];refine ⟨_,S,by rw [aJ,Dct.ot d n];exact hn,?_⟩;rw [iU];refine q _ But.upd (J.Qq But.upd zq ((d.drop n).imp λv a r=>r.but But.upd S) (g6 J.xy)) λc av kvs hk pv X6 q1 b1 k1 XA ev G=>?_;rw [zq] at hk;cases hk;have qk:q1≠k:=λz=>by rw [z,zq] at G;cases G
 rw [zf qk] at G;refine av _ S pv ?_ q1 b1 k1 XA ev G;unfold sk zE at X6;obtain ⟨U,O,rfl⟩:=KL.mp X6;unfold sk;exact KL.mpr ⟨U,(NB.mp O).1,rfl⟩
def lS(A:zj):Sp:=λvs H Q _=>∃(p b k:Addr)(t:Tab)(ks:List (Str×Tab))(n:Str)(u:Tab),vs=[.ref p,.str n]/\bj A H p b k t ks/\look ks n=some u/\∀q z k' H',ze H H'->H z=none->H k'=none->H q=none->aG A H' q z k' u->bZ H' z u->Q (.ref q) H'
theorem BA:zu YD YD (zk nB):=fsc
theorem yx(F:Fun K "of_held" "Files.of_held" nB f fd)(T:Txt K mg A)(Z6:GM P w K mg base true 1 A.kn WA YD (oy A))(ZR:GM P w K mg base true 3 A.kn "bare" ZY (jq A)):zp P w K mg base CX0 true 4 f fd YD (lS A):=by
 refine F.o BA λZP Ar outer s H vs Q E hr h=>?_;obtain ⟨p,b,k,t,ks,n,u,rfl,O,S,q⟩:=h;refine ⟨_,(W.h (zh (ai (aN (zb 0) T.hE Z6 hr (za (zb 1) zd)))
   (zi (zA (zO (zQ (c0 (zM hr)) (ag T.hE T.lp (zb 0)) (zb 1) (λ_ _=>rfl)) T.hE ZR hr))))),?_⟩
 obtain ⟨dx,Z⟩:=O.ob;obtain ⟨kk,e2,d⟩:=O.kept;erw [Z,cJ,jj];refine ⟨p,b,k,t,ks,n,rfl,O,by rw [S];rfl,?_⟩;erw [Z,cJ,jj];refine ⟨_,e2,?_⟩;rcases d.look n with ⟨v,u',d1,z,x,b',k',ev,U,_⟩|⟨_,z⟩
 .rw [S] at z;cases z;subst ev;obtain ⟨J,G⟩:=U.ob;refine ⟨.ref x,by rw [aJ];exact d1,x,rfl,J,_,G,mT,x,u,rfl,U.has,q⟩
 .rw [S] at z;cases z
theorem yV(a b:Str):leS a b\/leS b a:=by
 unfold leS;rw [ltCps_eq,ltCps_eq];by_cases h:LX.blt b.cps.toList a.cps.toList=true
 .exact .inr (KeyOrd.klt_asymm (O:=LX.toKeyOrd) h)
 .exact .inl (by simpa using h)
theorem Al{a b c:Str}(h1:leS a b)(h2:leS b c):leS a c:=by
 unfold leS at *
 rw [ltCps_eq] at *
 exact KeyOrd.kle_trans (O:=LX.toKeyOrd) h1 h2
theorem vt(x:Str):∀l:List Str,l.Pairwise leS->∃m:List Str,m.Perm (x::l)/\m.Pairwise leS
 | [],_=>⟨[x],Perm.refl _,by simp⟩
 | y::l,h=>by
  rcases yV x y with hx|hx
  .refine ⟨x::y::l,Perm.refl _,Lm.mpr ⟨λz hz=>?_,h⟩⟩;rcases J1.mp hz with rfl|hz
   .exact hx
   .exact Al hx ((Lm.mp h).1 z hz)
  .obtain ⟨m,p,hm⟩:=vt x l (Lm.mp h).2;refine ⟨y::m,(Perm.cons y p).trans (Perm.swap x y l),Lm.mpr ⟨λz hz=>?_,hm⟩⟩;rcases J1.mp (p.mem_iff.mp hz) with rfl|hz
   .exact hx
   .exact (Lm.mp h).1 z hz
theorem vA:∀ks:List Str,∃z:List Str,z.Perm ks/\z.Pairwise leS
 | []=>⟨[],Perm.refl _,.nil⟩
 | x::ks=>by
  obtain ⟨z,p,h⟩:=vA ks;obtain ⟨m,p2,h2⟩:=vt x z h;exact ⟨m,p2.trans (Perm.cons x p),h2⟩
theorem zY(ks:List Str):(zr ks).Perm ks/\(zr ks).Pairwise leS:=by
 obtain ⟨z,p,h⟩:=vA ks;have e:=vP p (sortedS_of_pairwise z h);rw [<- e];exact ⟨p,h⟩
theorem nP(p:ks.Perm ls):zr ks=zr ls:=mU (((zY ks).1.trans p).trans (zY ls).1.symm) (zY ks).2 (zY ls).2
theorem vz{α:Type}{t u:List (Str×α)}(h:zN t u)(z:(names t).Nodup)(F:(names u).Nodup):zr (names t)=zr (names u):=nP (h.names z F)
theorem fE{α:Type}{t u:List (Str×α)}(h:zN t u)(z:(names t).Nodup)(F:(names u).Nodup):t.length=u.length:=by
 have:=(h.names z F).length_eq;simpa [names] using this
theorem aG.files{t:Tab}(h:aG A H q b k t):bj A H q b k t []:=⟨h.ob,h.hX,⟨[],h.kept,.nil⟩,by simp [names]⟩
end
abbrev gI:Stmt:=ar (top 21) 10
theorem FS.freeze{d:Addr}{o:Obj}(e:H d=some (.dK kvs)):FS H (upd H d (.frz o (.dK kvs))):=by
 refine ⟨λa u n m h=>?_,λa xs r=>?_⟩
 .rw [zf (λz=>by subst z;rw [e] at h;cases h;exact n _ rfl)];exact h
 .by_cases z:a=d
  .subst z;rcases r with r|⟨o',r⟩
   .rw [e] at r;cases r;exact .inr ⟨o,zq⟩
   .rw [e] at r;cases r
  .unfold Rd;rw [zf z];exact r
theorem FS.L4{d:Addr}{o:Obj}(e:H d=some (.frz o (.dK kvs))):FS H (upd H d (.dK kvs)):=by
 refine ⟨λa u n m h=>?_,λa xs r=>?_⟩
 .rw [zf (λz=>by subst z;rw [e] at h;cases h;exact m _ _ rfl)];exact h
 .by_cases z:a=d
  .subst z;rcases r with r|⟨o',r⟩
   .rw [e] at r;cases r
   .rw [e] at r;cases r;exact .inl zq
  .unfold Rd;rw [zf z];exact r
theorem fR{α β:Type}{R:α->β->Prop}{G z:List α}{m1 F:List β}(h1:Paired R G m1)(h2:Paired R z F):Paired R (G++z) (m1++F):=by
 induction h1 with
 | nil=>exact h2
 | cons r _ J=>exact .cons r J
def zF(t:Tab):List Int:=t.flatMap (·.2)
def au(t:Tab)(ks:List (Str×Tab)):List Int:=zF t++ks.flatMap λp=>zF p.2
section
variable {P:JZ}{w:Ke}{K:Frag}{mg:Str->Option Value}{base:Heap}{A:zj}
def lN(H:Hp)(v:V)(t:Tab):Prop:=∃b,v = .ref b/\cB H b t
theorem EE:ns.length<=(zC ns n).length:=by
 unfold zC;split
 .exact JY _
 .simp
theorem fI:∀{l ns:List Int},ns.length<=(l.foldl zC ns).length
 | [],ns=>JY _
 | n::l,ns=>Kp (EE (n:=n)) (fI (l:=l) (ns:=zC ns n))
theorem rQ{l ns:List Int}:((l.take i).foldl zC ns).length<=(l.foldl zC ns).length:=by
 have h:=fI (l:=l.drop i) (ns:=(l.take i).foldl zC ns);rw [<- Lp,Mr] at h;exact h
theorem qi{l ns:List Int}(h:l[i]?=some n):(l.take (i+1)).foldl zC ns=zC ((l.take i).foldl zC ns) n:=by
 rw [Kt,h,Lp];rfl
theorem BF{a:Addr}{l:List Int}(h:G a=some (.tup (l.map V.int)))(few:(l.foldl zC ns).length<3000)(hN:∀F,N [x,y,F] (l.foldl zC ns) G):
  cn (Itt K a) (bN 2) (eG (di 2)) [x,y,z] ns G N:=by
 refine cn.tup (xs:=l.map V.int) (λi J S H'=>H'=G/\(∃F,J=[x,y,F])/\S=(l.take i).foldl zC ns) (λi J ns H ⟨e,_⟩=>e ▸ .inl (.inl h)) ⟨rfl,⟨z,rfl⟩,rfl⟩ ?_ ?_
 .rintro N' i v J S H' hv ⟨rfl,⟨F,rfl⟩,rfl⟩ O;rw [Kd] at hv;obtain ⟨n,U,rfl⟩:=Km.mp hv;ac_rfl;exact ⟨Ku rQ few,O _ _ _ ⟨rfl,⟨_,rfl⟩,(qi U).symm⟩⟩
 .rintro J S H' ⟨rfl,⟨F,rfl⟩,rfl⟩;rw [JS,J2 (JY _)];exact hN F
theorem oS{u:Tab}{p:Str×List Int}(h:u[i]?=some p):zF (u.take (i+1))=zF (u.take i)++p.2:=by
 unfold zF;rw [Kt,h,L9];simp
theorem tO:∃r,zF u=zF (u.take i)++r:=⟨zF (u.drop i),by unfold zF;rw [<- L9,Mr]⟩
theorem pE{d:Addr}{o:Obj}(h:J d=some (.frz o (.dK (sk kvs))))(Z:Dct (aZ J) kvs u)(few:((zF u).foldl zC ns).length<3000)(hN:∀F G,N [x,F,G] ((zF u).foldl zC ns) J):
  cn (Itw d o (sk kvs)) (bN 1) (eS (gB K (di 1)) (bN 2) (eG (di 2))) [x,y,z] ns J N:=by
 have hl:=Z.length;refine cn.vals (λi O W H'=>H'=J/\(∃F G,O=[x,F,G])/\W=(zF (u.take i)).foldl zC ns) (λi O ns H ⟨e,_⟩=>e ▸ h) ⟨rfl,⟨y,z,rfl⟩,rfl⟩ ?_ ?_
 .rintro N' i p O W H' U ⟨rfl,⟨F,G,rfl⟩,rfl⟩ S;obtain ⟨pv,X6,rfl⟩:∃pv,kvs[i]?=some pv/\p=(.inr pv.1,pv.2):=by
   unfold sk at U;rw [Kd] at U;obtain ⟨pv,e1,e2⟩:=Km.mp U;exact ⟨pv,e1,e2.symm⟩
  obtain ⟨l,hu,a,ea,ha⟩:=Dct.at Z X6;erw [ea];have fw:(l.foldl zC ((zF (u.take i)).foldl zC ns)).length<3000:=by
   have hs:=oS hu;rw [<- Lp,<- hs];obtain ⟨r,e⟩:=tO (u:=u) (i:=i+1);rw [e,Lp] at few;exact Ku fI few
  refine ⟨⟨_,.inl (.inl ha)⟩,BF ha fw λz2=>S _ _ _ ⟨rfl,⟨_,_,rfl⟩,?_⟩⟩;have hs:=oS hu;rw [<- Lp,<- hs]
 .rintro O W H' ⟨rfl,⟨F,G,rfl⟩,rfl⟩;have e:(sk kvs).length=u.length:=by rw [<- hl];simp [sk]
  rw [e,J2 (JY _)];exact hN F G
structure LvI(Hf:Hp)(k:Addr)(o:Obj)(kk:List (Str×V))(ks:List (Str×Tab))(i:Nat)(τ:L2.St)(ys:List V)(H':Hp):Prop where
 ex:∃t1,τ=[t1]
 ys:Paired (lN Hf) ys ((ks.take i).map (·.2))
 same:ze Hf H'
structure OuI(H4:Hp)(us:List Tab)(i:Nat)(τ:L2.St)(ns:List Int)(H':Hp):Prop where
 ex:∃x y z,τ=[x,y,z]
 ns:ns=((us.take i).flatMap zF).foldl zC []
 same:ze H4 H'
def mW(A:zj):Sp:=λvs H Q _=>∃(p b k:Addr)(t:Tab)(ks:List (Str×Tab)),vs=[.ref p]/\zx A H p b k t ks/\(uniq (au t ks)).length<64/\ks.length<=1000 /\
 ∀l (ns:List Int) H',ze H H'->H l=none->H' l=some (.lst (ns.map V.int))->ns.Perm (uniq (au t ks))->ns.Pairwise (·<=·)->Q (.ref l) H'
theorem wC:zu ["self","tables"] ZY (zk gI):=fsc
theorem D9:bc { kind:=.function,names:=[(JW ".0",.local),(JW "files",.local)],isGenerator:=false,isCoroutine:=false,more:=[] } (zk gI).names ["self","tables"] WQ [none]=true:=by decide +kernel
theorem DF:(WQ:List Str).Nodup:=by decide +kernel
theorem En:bc { kind:=.function,names:=[(JW ".0",.local),(JW "table",.local),(JW "births",.local),(JW "birth",.local)],isGenerator:=false,isCoroutine:=false,more:=[] } (zk gI).names ["self","tables"] ["table","births",WB] [none,none,none]=true:=by decide +kernel
theorem kD:(["table","births",WB]:List Str).Nodup:=by decide +kernel
theorem Eh(F:Fun K "living" "Files.living" gI f fd)(T:Txt K mg A):zp P w K mg base CX0 true 1 f fd ZY (mW A):=by
 refine F.o wC λZP Ar outer s H vs Q E hr h=>?_;obtain ⟨p,b,k,t,ks,rfl,hF,XD,hk,q⟩:=h;refine ⟨_,(W.h (zh (zw (i:=1) wC.nd rfl (J5 rfl) (zB bg (aj (za (ag T.hE T.kc (zb 0)) zd)) (yH (cz (λ_=>rfl) (af.of D9) (lX (ag T.hE T.lp (zb 0))) (λ_ _ _ _ _=>(zD (i:=0) DF rfl (J5 rfl))) (λ_ _ _ _ _=>bB) (λ_ _ _ _ _=>(ag T.hE T.kc (zb 0)))))))
   (zi (zA (zK (yn rfl) rfl T.ny LO (za (xb (λ_=>rfl) (λ_=>rfl) (λ_=>rfl) (af.of En) (bz (zb 1)) (λ_ _ _ _ _=>(zD (i:=0) kD rfl (J5 rfl))) (λ_ _ _ _ _=>(lX (zb 0))) (λ_ _ _ _ _=>(zD (i:=1) kD rfl (J5 rfl))) (λ_ _ _ _ _=>(FY (zb 1))) (λ_ _ _ _ _=>(zD (i:=2) kD rfl (J5 rfl))) (λ_ _ _ _ _=>(zb 2))) zd)))))),?_⟩
 obtain ⟨dx,S⟩:=hF.ob;obtain ⟨kk,U,d⟩:=hF.kept;erw [S,bw,cJ];refine ⟨by decide,λlb H1 J bf=>⟨k,sk kk,J.same _ _ U,λo=>?_⟩⟩;have pk:p≠k:=λz=>by rw [z,U] at S;cases S
 have hf:upd H1 k (.frz o (.dK (sk kk))) p=some (.ins A.kn dx (zG b k)):=by rw [zf pk];exact J.same _ _ S
 have fs:FS H (upd H1 k (.frz o (.dK (sk kk)))):=(FS.of J.same).trans (.freeze (J.same _ _ U));erw [hf,cJ];refine ⟨o,sk kk,zq,ak.vals (LvI (upd H1 k (.frz o (.dK (sk kk)))) k o kk ks) (λi Z ys H' I=>?_) (λi Z ys H' I=>I.same _ _ zq) ⟨⟨_,rfl⟩,by rw [Ou];exact .nil,ze.refl _⟩ ?_ ?_⟩
 .have:=I.ys.length;have h2:=MC i ks;rw [JS] at this;exact Ku (show ys.length<=1000 by omega) (by decide)
 .intro N i pv Z ys H' hp I hN;obtain ⟨t1,rfl⟩:=I.ex;obtain ⟨qv,a6,rfl⟩:∃qv,kk[i]?=some qv/\pv=(.inr qv.1,qv.2):=by
   unfold sk at hp;rw [Kd] at hp;obtain ⟨pv,S,U⟩:=Km.mp hp;exact ⟨pv,S,U.symm⟩
  obtain ⟨u,hu,q1,b1,k1,a3,hB,ba,bb,_⟩:=Dct.at d a6;have ab:=hB.fs fs;obtain ⟨XA,X9⟩:=ab.ob;have a7:=I.same _ _ X9;erw [a3,a7,bw];refine hN _ _ _ ⟨⟨_,rfl⟩,?_,I.same⟩;rw [Kt,hu,Kz];exact fR I.ys (.cons ⟨b1,rfl,ab.hX⟩ .nil)
 .intro Z ys H' I D H2 n2;have hz:H2 k=some (.frz o (.dK (sk kk))):=n2.same _ _ (I.same _ _ zq);refine ⟨o,hz,?_⟩;have a4:=J.same _ _ U;have s3:ze H1 (upd H2 k (.dK (sk kk))):=λc u G=>by
   by_cases z:c=k
   .subst z;rw [a4] at G;cases G;exact zq
   .rw [zf z];exact n2.same _ _ (I.same _ _ (by rw [zf z];exact G))
  have Dk:D≠k:=λz=>by have:=n2.no;rw [z,I.same _ _ zq] at this;cases this
  have hD:upd H2 k (.dK (sk kk)) D=some (.lst ys):=by rw [zf Dk];exact n2.at_
  have av:=s3 _ _ J.at_;have a0:FS (upd H1 k (.frz o (.dK (sk kk)))) (upd H2 k (.dK (sk kk))):=((FS.of I.same).trans (FS.of n2.same)).trans (.L4 hz);have py:Paired (lN (upd H2 k (.dK (sk kk)))) ys (ks.map (·.2)):=by
   have:=I.ys;rw [show (sk kk).length=ks.length by rw [<- d.length];simp [sk],J2 (JY _)] at this;exact Paired.ri this λv t ⟨b,e,hb⟩=>⟨b,e,hb.fs a0⟩
  have aI:cB (upd H2 k (.dK (sk kk))) b t:=hF.hX.r.fs ((FS.of J.same).trans (.of s3));generalize upd H2 k (.dK (sk kk))=H3 at s3 hD av py aI;ac_rfl;have ly:=py.length;rw [JS] at ly;refine ⟨[.ref b],av,ys,hD,by rw [LA];exact Kp (show 1+ys.length<=1001 by omega) (by decide),λtl H4 n4=>⟨⟨_,.inl (.inl n4.at_)⟩,?_⟩⟩;have X5:Paired (lN H4) ([.ref b]++ys) (t::ks.map (·.2)):=.cons ⟨b,rfl,aI.fs (.of n4.same)⟩ (Paired.ri py λv t ⟨b,e,hb⟩=>⟨b,e,hb.fs (.of n4.same)⟩);have eU:(t::ks.map (·.2)).flatMap zF=au t ks:=by
   unfold au;rw [List.flatMap_cons,List.flatMap_map]
  have O:=X5.length;generalize a9:t::ks.map (·.2)=us at X5 eU O;refine cn.lst (xs:=[.ref b]++ys) (OuI H4 us) (λi Z ns H' I=>.inl (.inl (I.same _ _ n4.at_))) ⟨⟨_,_,_,rfl⟩,rfl,ze.refl _⟩ ?_ ?_
  .intro N i v Z ns H' hv I hN;obtain ⟨x,y,z,rfl⟩:=I.ex;have hi:i<us.length:=by rw [<- O];exact (JX.mp hv).1
   have hu:us[i]?=some us[i]:=JQ hi;obtain ⟨bi,rfl,hb⟩:=cA X5 hv hu;have a8:=hb.fs (.of I.same);obtain ⟨kvs,Xz,dc⟩:=a8.ex;have es:(zF us[i]).foldl zC ns=((us.take (i+1)).flatMap zF).foldl zC []:=by
    rw [I.ns,<- Lp,Kt,hu,L9];simp
   have few:((zF us[i]).foldl zC ns).length<3000:=by
    rw [es];have h1:=fI (l:=(us.drop (i+1)).flatMap zF) (ns:=((us.take (i+1)).flatMap zF).foldl zC []);rw [<- Lp,<- L9,Mr,eU] at h1;exact Ku h1 (Nj XD (by decide))
   ac_rfl;rcases Xz with e|⟨o',e⟩
   .refine .inr ⟨bi,sk kvs,e,λo'=>⟨o',sk kvs,zq,pE zq (dc.imp λv l ⟨a,ea,ha⟩=>⟨a,ea,by rw [zf (λz=>by rw [z,e] at ha;cases ha)];exact ha⟩) few λy' z'=>⟨o',zq,hN _ _ _ ⟨⟨_,_,_,rfl⟩,es,λc u G=>?_⟩⟩⟩⟩;by_cases zc:c=bi
    .subst zc;have:=I.same _ _ G;rw [e] at this;cases this;exact zq
    .rw [zf zc,zf zc];exact I.same _ _ G
   .exact .inl ⟨o',sk kvs,e,pE e dc few λy' z'=>hN _ _ _ ⟨⟨_,_,_,rfl⟩,es,I.same⟩⟩
  .intro Z ns H' I D' a5 _;have en:ns=uniq (au t ks):=by
    rw [I.ns,O,J2 (JY _),eU];rfl
   subst en;refine ⟨_,zq,XD,λl YB H5 n5 pm so=>?_⟩;have sA:∀{o:HO},ze H (upd H' D' o):=λ{o} c u G=>by
    have h1:=I.same _ _ (n4.same _ _ (s3 _ _ (J.same _ _ G)));rw [zf (λz=>by rw [z,a5] at h1;cases h1)];exact h1
   exact q l YB H5 (sA.trans n5.same) (sA.free n5.no) n5.at_ pm so
end
abbrev kJ:Stmt:=ar (top 21) 11
abbrev jv:Stmt:=ar (top 34) 0
abbrev lr:Stmt:=ar (top 34) 1
abbrev ke:Stmt:=ar (top 34) 2
abbrev lH:Stmt:=ar (top 34) 4
abbrev mX:Stmt:=ar (top 34) 5
def fV{α:Type}(l:List (Int×α))(n:Int)(a:α):List (Int×α):=if n∈l.map (·.1) then l.map (λp=>if p.1=n then (p.1,a) else p) else l++[(n,a)]
theorem qL:((ik kvs).any λF=>decide (F.1=(.inl n:Key)))=true↔n∈kvs.map (·.1):=by
 unfold ik;rw [List.any_map,List.any_eq_true];constructor
 .rintro ⟨p,z,h⟩;have h:(Sum.inl p.1:Key) = .inl n:=of_decide_eq_true h;cases h;exact KL.mpr ⟨p,z,rfl⟩
 .intro h;obtain ⟨p,z,rfl⟩:=KL.mp h;exact ⟨p,z,by simp⟩
theorem vd:aE (ik kvs) (.inl n) v=ik (fV kvs n v):=by
 unfold aE fV;by_cases h:n∈kvs.map (·.1)
 .rw [if_pos (qL.mpr h),if_pos h];unfold ik;rw [LM,LM];refine LC λp _=>?_;show (if (Sum.inl p.1:Key) = .inl n then _ else _)=_;by_cases e:p.1=n
  .rw [if_pos (by rw [e])];show _=(Sum.inl (if p.1=n then (p.1,v) else p).1,(if p.1=n then (p.1,v) else p).2);rw [if_pos e]
  .rw [if_neg (λz=>e (by cases z;rfl))];show _=(Sum.inl (if p.1=n then (p.1,v) else p).1,(if p.1=n then (p.1,v) else p).2);rw [if_neg e]
 .rw [if_neg (λz=>h (qL.mp z)),if_neg h];unfold ik;rw [Kz];rfl
theorem uz:∀{kvs:List (Int×V)},(kvs.map (·.1)).Nodup->(n,v)∈kvs->zS (ik kvs) (.inl n)=some v
 | [],_,h=>by cases h
 | p::kvs,nd,h=>by
  have F:=MO.mp nd;show zS ((Sum.inl p.1,p.2)::ik kvs) (.inl n)=_;rcases J1.mp h with e|h
  .rw [<- e];exact gQ rfl
  .have ne : ¬ (Sum.inl p.1:Key) = .inl n:=λz=>by
    cases z;exact F.1 (KL.mpr ⟨_,h,rfl⟩)
   rw [ie ne];exact uz F.2 h
theorem wK:(ik kvs).length=kvs.length:=by simp [ik]
structure NoPart(u:HO):Prop where
 d:∀kvs,u≠.dK kvs
 f:∀o kvs,u≠.frz o (.dK kvs)
 t:∀xs,u≠.tup xs
 i:∀C dx b k,u≠.ins C dx (zG b k)
theorem NoPart.lst{xs:List V}:NoPart (.lst xs):=⟨λ_ z=>HO.noConfusion z,λ_ _ z=>HO.noConfusion z,λ_ z=>HO.noConfusion z,λ_ _ _ _ z=>HO.noConfusion z⟩
theorem IC{b k:Addr}:([]:List (Str×V))≠zG b k:=λz=>by have:=congrArg length z;exact absurd this (by show ¬ 0=2;decide)
theorem NoPart.QJ:NoPart (.ins C dx []):=⟨λ_ z=>(HO.noConfusion z),λ_ _ z=>(HO.noConfusion z),λ_ z=>(HO.noConfusion z),λ_ _ _ _ z=>IC (by injection z)⟩
theorem aG.PM{x q b k:Addr}{t:Tab}(h:aG A H q b k t)(s:But x H H')(hx:H x=some u)(F:NoPart u):aG A H' q b k t:=by
 have ne:∀{c:Addr}{o:HO},H c=some o->o≠u->H' c=some o:=λ{c o} e n=>s _ _ (λz=>n (by rw [z,hx] at e;exact (KE.inj e).symm)) e;have G:∀{c:Addr}{kvs:List (Key×V)},Rd H c (.dK kvs)->Rd H' c (.dK kvs):=λ{c kvs} r=>r.elim (λe=>.inl (ne e λz=>F.d _ z.symm)) λ⟨o,e⟩=>.inr ⟨o,ne e λz=>F.f _ _ z.symm⟩;obtain ⟨dx,e⟩:=h.ob;obtain ⟨kvs,J,d⟩:=h.hX.ex;exact ⟨⟨dx,ne e λz=>F.i _ _ _ _ z.symm⟩,⟨⟨kvs,G J,d.imp λv l ⟨a,O,ha⟩=>⟨a,O,ne ha λz=>F.t _ z.symm⟩⟩,h.hX.nd⟩,G h.kept⟩
theorem zx.PM{x p b k:Addr}{t:Tab}(h:zx A H p b k t ks)(s:But x H H')(hx:H x=some u)(F:NoPart u):zx A H' p b k t ks:=by
 have ne:∀{c:Addr}{o:HO},H c=some o->o≠u->H' c=some o:=λ{c o} e n=>s _ _ (λz=>n (by rw [z,hx] at e;exact (KE.inj e).symm)) e;obtain ⟨dx,e⟩:=h.ob;obtain ⟨kvs,G,d⟩:=h.hX.ex;obtain ⟨kk,J,O⟩:=h.kept;exact ⟨⟨dx,ne e λz=>F.i _ _ _ _ z.symm⟩,⟨⟨kvs,ne G λz=>F.d _ z.symm,d.imp λv l ⟨a,S,ha⟩=>⟨a,S,ne ha λz=>F.t _ z.symm⟩⟩,h.hX.nd⟩,⟨kk,ne J λz=>F.d _ z.symm,O.imp λv u ⟨q,W,k',U,r,n⟩=>⟨q,W,k',U,r.PM s hx F,n⟩⟩,h.xy,h.ne⟩
abbrev T3:=Int×Int×Int
def fC(H:Hp)(p:Int×V)(t:T3):Prop:=p.1=t.1/\∃a,p.2 = .ref a/\H a=some (.tup [.int t.2.1,.int t.2.2])
def aY(H:Hp)(a:Addr)(t:T3):Prop:=H a=some (.tup [.int t.1,.int t.2.1,.int t.2.2])
def T3S(H:Hp)(a:Addr)(t:T3):Prop:=H a=some (.tup [.int t.1,.int t.2.1,.int t.2.2])\/H a=some (.lst [.int t.1,.int t.2.1,.int t.2.2])
structure nh(ts:List T3):Prop where
 nd:(ts.map (·.1)).Nodup
 few:ts.length<40
def aM(f d:Addr)(n m:Int):List (Str×V):=[("own_files",.ref f),("spot_of",.ref d),("next_row",.int n),("next_mark",.int m)]
structure cv(A:zj)(H:Hp)(x fx b k d:Addr)(t:Tab)(ks:List (Str×Tab))(ts:List T3)(n m:Int):Prop where
 ob:∃dx,H x=some (.ins A.State dx (aM fx d n m))
 files:zx A H fx b k t ks
 PU:∃kvs,H d=some (.dK (ik kvs))/\Paired (fC H) kvs ts
 ok:nh ts
theorem fC.keep{p:Int×V}{t:T3}(h:fC H p t)(k:∀r xs,H r=some (.tup xs)->H' r=some (.tup xs)):fC H' p t:=let ⟨e,a,e2,e3⟩:=h;⟨e,a,e2,k _ _ e3⟩
theorem cv.same{x z b k d:Addr}{t:Tab}(h:cv A H x z b k d t ks ts n m)(s:ze H H'):cv A H' x z b k d t ks ts n m :=
 let ⟨dx,e⟩:=h.ob;let ⟨kvs,e2,p⟩:=h.PU;⟨⟨dx,s _ _ e⟩,h.files.same s,⟨kvs,s _ _ e2,Paired.ri p λ_ _ r=>r.keep λ_ _ e=>s _ _ e⟩,h.ok⟩
theorem r8(h:Paired (fC H) kvs ts):kvs.map (·.1)=ts.map (·.1):=by
 induction h with
 | nil=>rfl
 | cons r _ z=>rw [Li,Li,z,r.1]
section
variable {P:JZ}{w:Ke}{K:Frag}{mg:Str->Option Value}{base:Heap}{A:zj}{b k f d:Addr}{n m:Int}
theorem Bv:(aM f d n m).lookup ("own_files":Str)=some (.ref f):=by simp only [aM,KP,beq_self_eq_true]
theorem qN:(aM f d n m).lookup ("spot_of":Str)=some (.ref d):=by simp only [aM,KP,beq_self_eq_true,C8]
theorem FG:(aM f d n m).lookup ("next_row":Str)=some (.int n):=by simp only [aM,KP,beq_self_eq_true,GD,Es]
theorem Fh:(aM f d n m).lookup ("next_mark":Str)=some (.int m):=by simp only [aM,KP,beq_self_eq_true,Ft,E4,HK]
theorem mI:(aM f d n m).lookup (Wu:Str)=none:=by simp only [aM,KP,yc,GO,GS,B7]
theorem hU:(aM f d n m).lookup (WG:Str)=none:=by simp only [aM,KP,Ad,Az,G5,FE]
theorem gL:(aM f d n m).lookup (WD:Str)=none:=by simp only [aM,KP,DH,yq,HG,xu]
theorem gK:(aM f d n m).lookup (WC:Str)=none:=by simp only [aM,KP,GZ,GW,BW,Hu]
def my(A:zj):Sp:=λvs H Q _=>∃(p b k:Addr)(t:Tab)(ks:List (Str×Tab)),vs=[.ref p]/\zx A H p b k t ks /\
 ∀q z k' H',ze H H'->H q=none->H z=none->H k'=none->zx A H' q z k' t ks->H' k'=H k->Q (.ref q) H'
theorem vy:zu ["self","other"] ZY (zk kJ):=fsc
theorem Aq{f:Addr}(F:Fun K "copied" "Files.copied" kJ f fd)(T:Txt K mg A)(ZR:GM P w K mg base true 3 A.kn "bare" ZY (jq A)):zp P w K mg base CX0 true 4 f fd ZY (my A):=by
 refine F.o vy λZP Ar outer s H vs Q E hr h=>?_;obtain ⟨p,b,k,t,ks,rfl,hF,q⟩:=h;refine ⟨_,(W.h (zh (zw (i:=1) vy.nd rfl (J5 rfl) (zO (zb 0) T.hE ZR hr))
   (zh (cW T.hE T.lp (zb 1) (az kh rfl T.Po boot_dict (za (ag T.hE T.lp (zb 0)) zd)))
   (zi (zA (zb 1)))))),?_⟩
 obtain ⟨dx,e1⟩:=hF.ob;erw [e1,mT];refine ⟨p,t,rfl,hF.has,λx U k' H1 s1 nb nk nx hB av=>?_⟩;obtain ⟨XA,J⟩:=hB.ob;have F1:=hF.same s1;obtain ⟨XX,Xg⟩:=F1.ob;obtain ⟨aI,Z,d0⟩:=hF.kept;have e2:=s1 _ _ Z;erw [Xg,cJ];refine ⟨_,.inl e2,λkd H2 G=>⟨XA,_,G.same _ _ J,by show 2<1000;decide,?_⟩⟩;have eF:zL ("kept":Str) (V.ref kd) (zG U k')=zG U kd:=by simp only [zL,zG,vK,if_false,if_true]
 rw [eF];have px:∀c o,H c=some o->c≠x:=λc o e=>zH e nx;have sA:ze H (upd H2 x (.ins A.kn XA (zG U kd))):=λa o e=>by rw [zf (px a o e)];exact G.same _ _ (s1 _ _ e)
 have ab:kd≠x:=λz=>by have:=G.no;rw [z,J] at this;cases this
 have bx:U≠x:=λz=>by obtain ⟨kvs,er,_⟩:=hB.hX.ex;rw [z] at er;rcases er with e|⟨o,e⟩ <;> · rw [J] at e;cases e
 have S:H kd=none:=s1.free G.no;obtain ⟨kvs,eb,dd⟩:=av.ex;have a0:U≠kd:=λz=>by have:=G.no;rw [<- z,eb] at this;cases this
 refine q x U kd _ sA nx nb S ⟨⟨XA,zq⟩,⟨⟨kvs,by rw [zf bx];exact G.same _ _ eb,dd.imp λv l ⟨a,ea,ha⟩=>⟨a,ea,by rw [zf (λz=>by rw [z,J] at ha;cases ha)];exact G.same _ _ ha⟩⟩,hB.hX.nd⟩,⟨aI,by rw [zf ab];exact G.at_,d0.imp λv u r=>?_⟩,hF.xy,a0⟩ (by rw [zf ab,G.at_,Z]);obtain ⟨q1,b1,k1,ev,O,_⟩:=r;have hh:=O.same sA;obtain ⟨a4,a3,_⟩:=O.hX.ex;have live:∀{c:Addr}{u:HO},Rd H c u->∃o,H c=some o:=λh=>h.elim (λe=>⟨_,e⟩) λ⟨o,e⟩=>⟨_,e⟩;obtain ⟨o1,l1⟩:=live a3;obtain ⟨o2,l2⟩:=live O.kept;exact ⟨q1,b1,k1,ev,hh,zH l1 nb,zH l1 S,zH l2 nb,zH l2 S⟩
structure DcI(H:Hp)(ts:List T3)(i:Nat)(τ:L2.St)(ys:List (Key×V))(H':Hp):Prop where
 ex:∃t1 t2 t3,τ=[t1,t2,t3]
 ys:∃kvs,ys=ik kvs/\Paired (fC H') kvs (ts.take i)
 same:ze H H'
def jd(A:zj):Sp:=λvs H Q _=>∃(x p b k sl dx:Addr)(n m:Int)(t:Tab)(ks:List (Str×Tab))(as:List Addr)(ts:List T3),vs=[.ref x,.ref p,.ref sl,.int n,.int m]/\H x=some (.ins A.State dx [])/\zx A H p b k t ks/\(H sl=some (.lst (as.map V.ref))\/H sl=some (.tup (as.map V.ref)))/\Paired (T3S H) as ts/\nh ts /\
 ∀z F k' d H',But x H H'->H z=none->H F=none->H k'=none->H d=none->cv A H' x z F k' d t ks ts n m->H' k'=H k->Q .non H'
theorem ym:zu Zg Zg (zk jv):=fsc
theorem HZ:bc { kind:=.function,names:=[(JW ".0",.local),(JW "birth",.local),(JW "stretch",.local),(JW "place",.local)],isGenerator:=false,isCoroutine:=false,more:=[] } (zk jv).names Zg WZ [none,none,none]=true:=by decide +kernel
theorem lD:(WZ:List Str).Nodup:=by decide +kernel
theorem xF{f:Addr}(F:Fun K WE "State.__init__" jv f fd)(T:Txt K mg A)(ZJ:GM P w K mg base true 4 A.kn "copied" ZY (my A)):zp P w K mg base CX0 true 5 f fd Zg (jd A):=by
 refine F.o ym λZP Ar outer s H vs Q E hr h=>?_;obtain ⟨x,p,b,k,sl,dx,n,m,t,ks,as,ts,rfl,hx,hF,hs,hp,ok,q⟩:=h;refine ⟨_,(W.h (zh (cW T.mm T.vr (zb 0) (zO (zb 1) T.hE ZJ hr))
   (zh (cW T.mm T.sI (zb 0) (yi (λ_=>rfl) (af.of HZ) (BR (zb 2)) (λ_ _ _ _ _=>(FL rfl (n:=3) (bh (zD (i:=0) lD rfl (J5 rfl)) (bh (zD (i:=1) lD rfl (J5 rfl)) (bh (zD (i:=2) lD rfl (J5 rfl)) ef))))) (λ_ _ _ _ _=>bB) (λ_ _ _ _ _=>(zb 0)) (λ_ _ _ _ _=>(dr (za (zb 1) (za (zb 2) zd))))))
   (zh (cW T.mm T.vx (zb 0) (zb 3))
   (zi (cW T.mm T.vu (zb 0) (zb 4))))))),?_⟩
 obtain ⟨a8,e1⟩:=hF.ob;erw [e1,qA];refine ⟨p,b,k,t,ks,rfl,hF,λO b1 k1 H1 s1 nq nb nk Z a3=>⟨dx,[],s1 _ _ hx,by decide,?_⟩⟩;have G:∀{o:HO}{r:Addr}{u:HO},(∀C dx fs,u≠.ins C dx fs)->H1 r=some u->upd H1 x o r=some u:=λ{o r u} hu e=>by rw [zf (λz=>by rw [z,s1 _ _ hx] at e;exact hu _ _ _ (KE.inj e).symm)];exact e
 have ZS:=bA hp;have hz:∀i J ys H',DcI (upd H1 x (.ins A.State dx (zL "own_files" (V.ref O) []))) ts i J ys H'->ys.length<sizeLine:=λi J ys H' I=>by
  obtain ⟨kvs,e,pr⟩:=I.ys;have:=bA pr;have h2:=MC i ts;have:=ok.few;rw [e,wK];exact aK (by omega)
 have step:∀(N:L2.St->List (Key×V)->Hp->Prop) i v J ys H',(as.map V.ref)[i]?=some v->DcI (upd H1 x (.ins A.State dx (zL "own_files" (V.ref O) []))) ts i J ys H'->(∀J ys H,DcI (upd H1 x (.ins A.State dx (zL "own_files" (V.ref O) []))) ts (i+1) J ys H->N J ys H) ->
   gSq K 3 (fO (bN 0) (fO (bN 1) (fO (bN 2) mh))) v J H' λab H4=>jl ab H4 λok H5=>gJ N ys ab (di 0) (mB (g8 (di 1) (g8 (di 2) cj))) ok H5:=by
  intro N i v J ys H' hv I hN;obtain ⟨t1,t2,t3,rfl⟩:=I.ex;obtain ⟨kvs,e,pr⟩:=I.ys;rw [Kd] at hv;obtain ⟨a,ha,rfl⟩:=Km.mp hv;have hi:i<ts.length:=by rw [<- ZS];exact (JX.mp ha).1
  have Yg:ts[i]?=some ts[i]:=JQ hi;have ht:SqT K H' a [.int ts[i].1,.int ts[i].2.1,.int ts[i].2.2]\/SqL K H' a [.int ts[i].1,.int ts[i].2.1,.int ts[i].2.2]:=by
   rcases cA hp ha Yg with h|h
   .exact .inl (.inl (.inl (I.same _ _ (G (λ_ _ _=>nofun) (s1 _ _ h)))))
   .exact .inr (.inl (.inl (I.same _ _ (G (λ_ _ _=>nofun) (s1 _ _ h)))))
  refine ⟨a,_,rfl,ht,rfl,?_⟩;ac_rfl;refine ⟨by decide,λa2 H2 n2=>hN _ _ _ ⟨⟨_,_,_,rfl⟩,⟨kvs++[(ts[i].1,.ref a2)],?_,?_⟩,I.same.trans n2.same⟩⟩
  .have a4:ts[i].1∉kvs.map (·.1):=by
    rw [r8 pr];intro z;obtain ⟨u,hu,eu⟩:=KL.mp z;obtain ⟨j,hj,ej⟩:=LD hu;have a7:j<i:=by rw [Kr] at hj;omega
    rw [List.getElem_take] at ej;have a5:j<(ts.map (·.1)).length:=by rw [JS];omega
    have:=(List.getElem?_inj a5 ok.nd).mp (show (ts.map (·.1))[j]?=(ts.map (·.1))[i]? by rw [Kd,Kd,Yg,JQ (show j<ts.length by omega),ej];show some u.1=some ts[i].1;rw [eu]);omega
   rw [e,vd];unfold fV;rw [if_neg a4]
  .rw [Kt,Yg];exact fR (Paired.ri pr λp t r=>r.keep λr xs e=>n2.same _ _ e) (.cons ⟨rfl,a2,rfl,n2.at_⟩ .nil)
 rcases hs with hs|hs
 all_goals first
  | refine .inl ⟨⟨_,.inl (.inl (G (λ_ _ _=>nofun) (s1 _ _ hs)))⟩,e9.lst (xs:=as.map V.ref) (DcI _ ts) hz (λi J ys H' I=>.inl (.inl (I.same _ _ (G (λ_ _ _=>nofun) (s1 _ _ hs))))) ⟨⟨_,_,_,rfl⟩,⟨[],rfl,.nil⟩,ze.refl _⟩ step ?_⟩
  | refine .inr ⟨⟨_,.inl (.inl (G (λ_ _ _=>nofun) (s1 _ _ hs)))⟩,e9.tup (xs:=as.map V.ref) (DcI _ ts) hz (λi J ys H' I=>.inl (.inl (I.same _ _ (G (λ_ _ _=>nofun) (s1 _ _ hs))))) ⟨⟨_,_,_,rfl⟩,⟨[],rfl,.nil⟩,ze.refl _⟩ step ?_⟩
 all_goals
  intro J ys H3 I D H4 S;obtain ⟨kvs,e,pr⟩:=I.ys;rw [JS,ZS,J2 (JY _)] at pr;rw [e] at S;have x4:=S.same _ _ (I.same _ _ zq);refine ⟨dx,_,x4,by show 1<1000;decide,dx,_,zq,by simp only [zL,kI,if_false];show 2<1000;decide,dx,_,zq,by simp only [zL,kI,qm,tH,if_false];show 3<1000;decide,?_⟩;rw [qj,qj];have eF:zL ("next_mark":Str) (V.int m) (zL "next_row" (V.int n) (zL "spot_of" (V.ref D) (zL "own_files" (V.ref O) [])))=aM O D n m:=by
   simp only [zL,aM,kI,qm,tH,yg,Hg,Fp,if_false]
  rw [eF];have Dx:D≠x:=λz=>by have:=S.no;rw [z,I.same _ _ zq] at this;cases this
  have bt:But x H1 (upd H4 x (.ins A.State dx (aM O D n m))):=λc u nc e=>by
   rw [zf nc];exact S.same _ _ (I.same _ _ (by rw [zf nc];exact e))
  have a0:=Z.PM bt (s1 _ _ hx) .QJ;have aI:∀{r:Addr}{xs:List V},H3 r=some (.tup xs)->upd H4 x (.ins A.State dx (aM O D n m)) r=some (.tup xs):=λ{r xs} e=>by
   rw [zf (λz=>by rw [z,I.same _ _ zq] at e;cases e)];exact S.same _ _ e
  have a6:k1≠x:=λz=>by rw [z,hx] at nk;cases nk
  have D0:H D=none:=by
   cases eD:H D with
   | none=>rfl
   | some u =>
    have:=I.same D u (by rw [zf Dx];exact s1 _ _ eD);rw [S.no] at this;cases this
  refine q O b1 k1 D _ (λa o na ea=>bt _ _ na (s1 _ _ ea)) nq nb nk D0 ⟨⟨dx,zq⟩,a0,⟨kvs,by rw [zf Dx];exact S.at_,Paired.ri pr λp t r=>r.keep λr xs e=>aI e⟩,ok⟩ ?_;obtain ⟨kk,U,_⟩:=Z.kept;have av:=bt _ _ a6 U;rw [av,<- U,a3]
end
def cS(ts:List T3)(n:Int):T3:=(ts.find? λt=>decide (t.1=n)).getD (0,0,0)
theorem jf(nd:(ts.map (·.1)).Nodup){t:T3}(h:t∈ts):cS ts t.1=t:=by
 unfold cS
 induction ts with
 | nil=>cases h
 | cons u ts G =>
  obtain ⟨F,J⟩:=MO.mp nd;rw [Nd];rcases J1.mp h with rfl|h
  .rw [decide_eq_true rfl];rfl
  .have ne : ¬ u.1=t.1:=λz=>F (by show u.1∈_;rw [z];exact KL.mpr ⟨t,h,rfl⟩);rw [decide_eq_false ne];exact G J h
theorem Ah{ts:List T3}(nd:(ts.map (·.1)).Nodup):(ts.map (·.1)).map (cS ts)=ts:=by
 rw [LM];have:∀us:List T3,(∀u∈us,u∈ts)->us.map (cS ts∘(·.1))=us:=λus h=>by
  induction us with
  | nil=>rfl
  | cons u us z=>rw [Li,z λv hv=>h v (Kc _ hv)];show cS ts u.1::us=_;rw [jf nd (h u (Kg ..))]
 exact this ts λ_ h=>h
section
variable {P:JZ}{w:Ke}{K:Frag}{mg:Str->Option Value}{base:Heap}{A:zj}
def jw(A:zj):Sp:=λvs H Q _=>∃(x F b k d:Addr)(t:Tab)(ks:List (Str×Tab))(ts:List T3)(n m:Int),vs=[.ref x]/\cv A H x F b k d t ks ts n m /\
 ∀q z k' H',ze H H'->H q=none->H z=none->H k'=none->zx A H' q z k' t ks->H' k'=H k->Q (.ref q) H'
theorem CY:zu ZY ZY (zk lr):=fsc
theorem IM(F:Fun K WG "State.files" lr f fd)(T:Txt K mg A)(S:GM P w K mg base true 4 A.kn "copied" ZY (my A)):zp P w K mg base CX0 true 5 f fd ZY (jw A):=by
 refine F.o CY λU Ar outer s H vs Q E hr h=>?_;obtain ⟨x,O,b,k,d,t,ks,ts,n,m,rfl,z,q⟩:=h;refine ⟨_,(W.h (zi (zA (zO (ag T.mm T.vr (zb 0)) T.hE S hr)))),?_⟩;obtain ⟨dx,G⟩:=z.ob;obtain ⟨Z,J⟩:=z.files.ob;erw [G,J,Bv,qA];exact ⟨O,b,k,t,ks,rfl,z.files,q⟩
def k9(A:zj):Sp:=λvs H Q _=>∃(x z b k d:Addr)(t:Tab)(ks:List (Str×Tab))(ts:List T3)(n m:Int),vs=[.ref x]/\cv A H x z b k d t ks ts n m/\Q (.int n) H
theorem Cq:zu ZY ZY (zk lH):=fsc
theorem G6(F:Fun K WD "State.next_number" lH f fd)(T:Txt K mg A):zp P w K mg base CX0 true 1 f fd ZY (k9 A):=by
 refine F.o Cq λJ S outer s H vs Q E hr h=>?_;obtain ⟨x,O,b,k,d,t,ks,ts,n,m,rfl,z,q⟩:=h;refine ⟨_,(W.h (zi (zA (ag T.mm T.vx (zb 0))))),?_⟩;obtain ⟨dx,G⟩:=z.ob;erw [G,FG];exact q
def lF(A:zj):Sp:=λvs H Q _=>∃(x z b k d:Addr)(t:Tab)(ks:List (Str×Tab))(ts:List T3)(n m:Int),vs=[.ref x]/\cv A H x z b k d t ks ts n m/\Q (.int m) H
theorem Gy:zu ZY ZY (zk mX):=fsc
theorem IW(F:Fun K WC "State.mark_number" mX f fd)(T:Txt K mg A):zp P w K mg base CX0 true 1 f fd ZY (lF A):=by
 refine F.o Gy λJ S outer s H vs Q E hr h=>?_;obtain ⟨x,O,b,k,d,t,ks,ts,n,m,rfl,z,q⟩:=h;refine ⟨_,(W.h (zi (zA (ag T.mm T.vu (zb 0))))),?_⟩;obtain ⟨dx,G⟩:=z.ob;erw [G,Fh];exact q
def jr(A:zj):Sp:=λvs H Q _=>∃(x F b k d:Addr)(t:Tab)(ks:List (Str×Tab))(ts:List T3)(n m:Int),vs=[.ref x]/\cv A H x F b k d t ks ts n m /\
 ∀l as z H',ze H H'->H l=none->H' l=some (.lst (as.map V.ref))->Paired (aY H') as z->z.Perm ts->(z.map (·.1)).Pairwise (·<=·)->Q (.ref l) H'
structure SpI(H:Hp)(x:Addr)(ts:List T3)(ns:List Int)(i:Nat)(τ:L2.St)(ys:List V)(H':Hp):Prop where
 ex:∃t1,τ=[t1,some (.ref x)]
 ys:∃as:List Addr,ys=as.map V.ref/\Paired (aY H') as ((ns.take i).map (cS ts))
 same:ze H H'
theorem CZ:zu ZY ZY (zk ke):=fsc
theorem FB:bc { kind:=.function,names:=[(JW ".0",.local),(JW "birth",.local),(JW "self",.free)],isGenerator:=false,isCoroutine:=false,more:=[] } (zk ke).names ZY [WB,"self"] [none,some 0]=true:=by decide +kernel
theorem Ez:([WB,"self"]:List Str).Nodup:=by decide +kernel
theorem Ja(F:Fun K Wu "State.spots" ke f fd)(T:Txt K mg A):zp P w K mg base CX0 true 1 f fd ZY (jr A):=by
 refine F.o CZ λZP Ar outer s H vs Q E hr h=>?_;obtain ⟨x,fx,b,k,d,t,ks,ts,n,m,rfl,hS,q⟩:=h;refine ⟨_,(W.h (zi (zA (cz (λ_=>rfl) (af.of FB) (bz (zK (tF rfl) rfl T.ny LO (za (ag T.mm T.sI (zb 0)) zd))) (λ_ _ _ _ _=>(zD (i:=0) Ez rfl (J5 rfl))) (λ_ _ _ _ _=>bB) (λ_ _ _ _ _=>(zB i4 (dr (za (zb 0) zd)) (zQ (c0 (zM hr)) (ag T.mm T.sI (zb 1)) (zb 0) (λ_ _=>rfl)))))))),?_⟩;obtain ⟨dx,e1⟩:=hS.ob;obtain ⟨kvs,e2,e3⟩:=hS.PU;have ok:=hS.ok;have lk:=bA e3;have ky:=r8 e3;erw [e1,qN];refine ⟨kvs,.inl e2,by rw [lk];have:=ok.few;omega,λp ns H1 G pm so=>?_⟩;rw [ky] at pm;have a3:ns.length=ts.length:=by rw [pm.length_eq,JS]
 refine ⟨⟨_,SqL.of G.at_⟩,ak.lst (xs:=ns.map V.int) (SpI H1 x ts ns) (λi τ ys H' I=>?_) (λi τ ys H' I=>SqL.of (I.same _ _ G.at_)) ⟨⟨_,rfl⟩,⟨[],rfl,.nil⟩,ze.refl _⟩ ?_ ?_⟩
 .obtain ⟨as,e,pr⟩:=I.ys;have:=bA pr;rw [JS] at this;have h2:=MC i ns;have:=ok.few;rw [e,JS];exact aK (by omega)
 .intro N i v τ ys H' hv I hN;obtain ⟨t1,rfl⟩:=I.ex;obtain ⟨as,e,pr⟩:=I.ys;rw [Kd] at hv;obtain ⟨nb,J,rfl⟩:=Km.mp hv;have Xg:=I.same _ _ (G.same _ _ e1);have ab:=I.same _ _ (G.same _ _ e2);obtain ⟨t,Z,et⟩:=KL.mp (pm.mem_iff.mp (Kn J));obtain ⟨j,hj,ej⟩:=LD Z;have U:j<kvs.length:=by rw [lk];exact hj
  obtain ⟨s1,a,s2,s3⟩:=cA e3 (JQ U) (JQ hj);rw [ej] at s1 s3;have av:zS (ik kvs) (.inl nb)=some (.ref a):=by
   refine uz (by rw [ky];exact ok.nd) ?_;rw [<- et,<- s1,<- s2];exact Lk U
  ac_rfl;refine ⟨by decide,λp1 H2 z=>?_⟩;have aI:=z.same _ _ Xg;erw [aI,qN];refine ⟨_,.inl (z.same _ _ ab),_,av,?_⟩;ac_rfl;refine .inr ⟨_,z.at_,_,z.same _ _ (I.same _ _ (G.same _ _ s3)),by show 3<=sizeLine;decide,λp2 H3 S a0=>hN _ _ _ ⟨⟨_,rfl⟩,⟨as++[p2],by rw [e,Kz];rfl,?_⟩,I.same.trans (z.same.trans S)⟩⟩;rw [Kt,J,Kz];refine fR (Paired.ri pr λa t r=>S _ _ (z.same _ _ r)) (.cons ?_ .nil);show H3 p2=_;rw [a0,<- et,jf ok.nd Z];rfl
 .intro τ ys H' I D H2 z;obtain ⟨as,e,pr⟩:=I.ys;rw [JS,J2 (JY _)] at pr;rw [e] at z;have O:=pm.map (cS ts);rw [Ah ok.nd] at O;refine q D as _ H2 ((G.same.trans I.same).trans z.same) ((G.same.trans I.same).free z.no) z.at_ (Paired.ri pr λa t r=>z.same _ _ r) O ?_;rw [LM,show ns.map ((λx=>x.1)∘cS ts)=ns from ?_]
  .exact so
  .refine (LC λn hn=>?_).trans (map_id ns);obtain ⟨t,Z,rfl⟩:=KL.mp (pm.mem_iff.mp hn);show (cS ts t.1).1=t.1;rw [jf ok.nd Z]
abbrev k4:Stmt:=top 35
theorem Aj:zu [] [] (zk k4):=fsc
def wy(A:zj):Sp:=λvs H Q _=>vs=[]/\∀x z b k d H',ze H H'->H x=none->H z=none->H b=none->H k=none->H d=none->cv A H' x z b k d [] [] [] 0 0->Q (.ref x) H'
theorem Hw(F:Fun K Wg Wg k4 f fd)(T:Txt K mg A)(Zr:GC P w K mg base true 1 "Files" A.kn ZY (gF A))(Zi:GC P w K mg base true 5 "State" A.State Zg (jd A)):zp P w K mg base CX0 true 7 f fd [] (wy A):=by
 refine F.o Aj λZP Ar outer s H vs Q E hr h=>?_;obtain ⟨rfl,q⟩:=h;refine ⟨_,(W.h (zi (zA (iI Zi hr rfl (za (jR Zr hr rfl) (za (aj zd) (za zo (za zo zd)))))))),?_⟩;ac_rfl;refine λx dx H1 U=>⟨x,dx,rfl,U.at_,λb k H2 bt nb nk eb ek ab ex=>⟨rfl,by decide,λl H3 J _ y dy H4 z=>?_⟩⟩;have O:∀c o,H1 c=some o->c≠x->H3 c=some o:=λc o e n=>J.same _ _ (bt _ _ n e);have Z:ze H H3:=λc o e=>O c o (U.same _ _ e) (zH e U.no);have hF:zx A H4 x b k [] []:=⟨⟨dx,z.same _ _ (J.same _ _ ex)⟩,⟨⟨[],z.same _ _ (J.same _ _ eb),.nil⟩,by simp [names]⟩,⟨[],z.same _ _ (J.same _ _ ek),.nil⟩,by simp [names],ab⟩;have G:ze H H4:=Z.trans z.same;refine ⟨y,x,b,k,l,dy,0,0,[],[],[],[],rfl,z.at_,hF,.inl (z.same _ _ J.at_),.nil,⟨by simp,by decide⟩,λfx b' k' d H5 S n1 n2 n4 n5 st av=>⟨rfl,?_⟩⟩;exact q y fx b' k' d H5 (λc o e=>S _ _ (zH (Z _ _ e) z.no) (G _ _ e)) (Z.free z.no) (G.free n1) (G.free n2) (G.free n4) (G.free n5) st
end
abbrev ka:Stmt:=top 24
abbrev mK:Stmt:=top 23
theorem j4{α:Type}{t:List (Str×α)}{a:α}:(zU t n a).length<=t.length+1:=by
 unfold zU;split<;>simp
def MdR(H:Hp)(v:V)(l:List Int):Prop:=∃p,v = .ref p/\H p=some (.lst (l.map V.int))
structure iy(H:Hp)(d:Addr)(t:Tab):Prop where
 ex:∃kvs,H d=some (.dK (sk kvs))/\Dct (MdR H) kvs t
theorem MdR.same(h:MdR H v l)(s:ze H H'):MdR H' v l:=let ⟨p,e,hp⟩:=h;⟨p,e,s _ _ hp⟩
theorem iy.same{d:Addr}{t:Tab}(h:iy H d t)(s:ze H H'):iy H' d t:=let ⟨kvs,e,r⟩:=h.ex;⟨⟨kvs,s _ _ e,r.imp λv a z=>z.same s⟩⟩
structure aS(t:Tab):Prop where
 nd:(names t).Nodup
 len:t.length<=16
 nm:∀n∈names t,bC n=true
 ls:∀p∈t,1<=p.2.length/\p.2.length<=16/\∀x∈p.2,0<=x/\x<10 ^ 18
structure cx(ks:List (Str×Tab)):Prop where
 nd:(names ks).Nodup
 len:ks.length<=3
 nm:∀n∈names ks,bC n=true
 gm:∀p∈ks,aS p.2
def aF(t:Tab)(zs:List Str):List Str:=zs.flatMap λn=>n::(toString ((lk t n).length:Int):Str)::(lk t n).map λx=>(toString x:Str)
noncomputable def aH(t:Tab):List Str:=(toString (t.length:Int):Str)::aF t (zr (names t))
theorem uF{t u:Tab}(h:zN t u)(z:(names t).Nodup)(F:(names u).Nodup):aH t=aH u:=by
 have e:∀n,lk t n=lk u n:=λn=>by unfold lk;rw [h n]
 unfold aH aF;rw [vz h z F,fE h z F];simp only [e]
theorem jW{t:Tab}{zs:List Str}(h:zs[i]?=some n):aF t (zs.take (i+1))=aF t (zs.take i)++[n,(toString ((lk t n).length:Int):Str)]++(lk t n).map λx=>(toString x:Str):=by
 unfold aF;rw [Kt,h];simp
section
variable {P:JZ}{w:Ke}{K:Frag}{mg:Str->Option Value}{base:Heap}{A:zj}{b k:Addr}
theorem aS.lk{t:Tab}(h:aS t)(z:n∈names t):∃l,look t n=some l/\K32.lk t n=l/\1<=l.length/\l.length<=16/\∀x∈l,0<=x/\x<10 ^ 18:=by
 cases e:look t n with
 | none=>exact absurd z (aV.mp e)
 | some l=>exact ⟨l,rfl,by unfold K32.lk;rw [e];rfl,h.ls _ (bG e)⟩
structure E3(H:Hp)(p nl wl:Addr)(t:Tab)(i:Nat)(σ:L2.St)(H':Hp):Prop where
 ex:∃t1 t2,σ=[some (V.ref p),some (.ref nl),some (.ref wl),t1,t2]
 same:ze H H'
 hnl:H' nl=some (.lst ((zr (names t)).map V.str))
 hwl:H' wl=some (.lst (((toString (t.length:Int):Str)::aF t ((zr (names t)).take i)).map V.str))
 no:H wl=none
 ne:nl≠wl
 sz:(aF t ((zr (names t)).take i)).length<=18*i
 le:i<=16
structure TWc(H:Hp)(p:Addr)(n:Str)(l:List Int)(i:Nat)(τ:L2.St)(ys:List V)(H':Hp):Prop where
 ex:∃t,τ=[t,some (V.ref p),some (.str n)]
 ys:ys=((l.take i).map λx=>(toString x:Str)).map V.str
 same:ze H H'
 le:i<=16
def tM(A:zj):Sp:=λvs H Q _=>∃(p b k:Addr)(t:Tab)(ks:List (Str×Tab)),vs=[.ref p]/\bj A H p b k t ks/\aS t/\∀l H',ze H H'->H l=none->H' l=some (.lst ((aH t).map V.str))->Q (.ref l) H'
theorem ib:zu [WG,"names","words","name",Wp] WQ (zk ka):=fsc
theorem x9:bc { kind:=.function,names:=[(JW ".0",.local),(JW "place",.local),(JW "str",.globalImplicit),(JW "files",.free),(JW "name",.free)],isGenerator:=false,isCoroutine:=false,more:=[] } (zk ka).names [WG,"names","words","name",Wp] ["place",WG,"name"] [none,some 0,some 3]=true:=by decide +kernel
theorem C2:(["place",WG,"name"]:List Str).Nodup:=by decide +kernel
theorem C3(F:Fun K Wf Wf ka f fd)(T:Txt K mg A)(ZD:GM P w K mg base true 1 A.kn "names" ZY (lG A))(Z5:GM P w K mg base true 1 A.kn Wp Yt (fY A))(ZC:GM P w K mg base true 4 A.kn WB W9 (nN A)):zp P w K mg base CX0 true 5 f fd WQ (tM A):=by
 refine F.o ib λZP Ar outer s H vs Q E hr h=>?_;obtain ⟨p,b,k,t,ks,rfl,hF,gm,q⟩:=h;refine ⟨_,(W.h (zh (zw (i:=1) ib.nd rfl (J5 rfl) (zO (zb 0) T.hE ZD hr))
   (zh (zw (i:=2) ib.nd rfl (J5 rfl) (aj (za (az aU rfl T.nY Ls (za (zK cP rfl T.r0 KA (za (zb 1) zd)) zd)) zd)))
   (zh (aW Lh.never (λ_=>rfl) (bz (zb 1)) (zD (i:=3) ib.nd rfl (MJ rfl))
   (zh (zw (i:=4) ib.nd rfl (J5 rfl) (aN (zb 0) T.hE Z5 hr (za (zb 3) zd)))
   (zh (ai (iW (zb 2) (aj (za (zb 3) (za (az aU rfl T.nY Ls (za (zb 4) zd)) zd)))))
   (zi (ai (iW (zb 2) (cz (λ_=>rfl) (af.of x9) (dh rfl T.rd (za (zb 4) zd)) (λ_ _ _ _ _=>(zD (i:=0) C2 rfl (J5 rfl))) (λ_ _ _ _ _=>bB) (λ_ _ _ _ _=>(az aU rfl T.nY Ls (za (aN (zb 1) T.hE ZC hr (za (zb 2) (za (zb 0) zd))) zd))))))))))
   (zi (zA (zb 2))))))),?_⟩
 obtain ⟨dx,e1⟩:=hF.ob;have gl:=gm.len;erw [e1,rp,dU,j2];refine ⟨p,b,k,t,ks,rfl,hF,by omega,λnl H1 S=>?_⟩;erw [S.at_];have sl:(zr (names t)).length=t.length:=by rw [(zY _).1.length_eq];simp [names]
 rw [JS,sl];refine ⟨aT (by omega),by decide,λwl H2 U _=>⟨⟨_,SqL.of (U.same _ _ S.at_)⟩,?_⟩⟩;have G:H wl=none:=S.same.free U.no;have O:nl≠wl:=λz=>by have:=U.no;rw [<- z,S.at_] at this;cases this
 refine aa.lst (xs:=(zr (names t)).map V.str) (E3 H p nl wl t) ⟨⟨_,_,rfl⟩,S.same.trans U.same,U.same _ _ S.at_,by rw [U.at_];rfl,G,O,by simp [aF],by omega⟩ (λi σ H' _ I=>SqL.of I.hnl) ?_ ?_
 .rintro i x σ H' hx ⟨⟨t1,t2,rfl⟩,sm,hnl,hwl,G,O,sz,le⟩;rw [Kd] at hx;obtain ⟨n,hn,rfl⟩:=Km.mp hx;obtain ⟨l,hl,el,l1,l2,lx⟩:=gm.lk ((zY _).1.mem_iff.mp (Kn hn));have F':=hF.same sm;obtain ⟨XX,Xg⟩:=F'.ob;erw [Xg,dU,j2];refine ⟨p,b,k,t,ks,n,rfl,F',λH3 s3=>?_⟩;have F3:=F'.same s3;obtain ⟨a3,a4⟩:=F3.ob;have Z:=s3 _ _ hwl;erw [Z];have hi:i<(zr (names t)).length:=(JX.mp hn).1;rw [el];refine ⟨aT (by omega),by decide,λp1 H4 n4 _=>⟨_,n4.same _ _ Z,_,n4.at_,aq (by simp;omega),⟨_,zq⟩,by omega,by omega,?_⟩⟩;have ab:ze H H4:=(sm.trans s3).trans n4.same;have s5:∀o,ze H (upd H4 wl o):=λo c u ec=>by rw [zf (zH ec G)];exact ab c u ec
  refine ak.rng (TWc _ p n l) (λj τ ys H6 I=>?_) ⟨⟨_,rfl⟩,by simp,ze.refl _,by omega⟩ ?_ ?_
  .rw [I.ys,JS,JS,Kr];exact aK (by have:=I.le;omega)
  .intro N j τ ys H6 hj I hN;obtain ⟨tt,rfl⟩:=I.ex;have F6:=hF.same ((s5 _).trans I.same);obtain ⟨a5,av⟩:=F6.ob;have J:j<l.length:=by omega
   erw [av,j2];refine ⟨p,b,k,t,ks,n,l,_,rfl,F6,hl,by omega,by omega,λH7 s7=>?_⟩;have ej:(0+(j:Int)).toNat=j:=by omega
   have eg:l.getD j 0=l[j]:=by rw [Kj,JQ J];rfl
   have hx:=lx l[j] (Lk J);rw [ej,eg];ac_rfl;refine ⟨aT (by omega),hN _ _ _ ⟨⟨_,rfl⟩,?_,I.same.trans s7,by omega⟩⟩;rw [I.ys,Kt,JQ J,Kz,Kz];rfl
  .intro τ ys H6 I D H7 n7;have aI:=n7.same _ _ (I.same _ _ zq);have a0:H7 nl=some (.lst ((zr (names t)).map V.str)):=n7.same _ _ (I.same _ _ (by rw [zf O];exact n4.same _ _ (s3 _ _ hnl)));have Dw:D≠wl:=λz=>by have:=n7.no;rw [z,I.same _ _ zq] at this;cases this
   erw [aI,n7.at_];have ly:ys.length<=16:=by rw [I.ys,JS,JS,Kr];omega
   refine ⟨aq (by simp;omega),⟨_,_,rfl⟩,λc u ec=>?_,by rw [zf O];exact a0,?_,G,O,?_,by omega⟩
   .rw [zf (zH ec G)];exact n7.same _ _ (I.same _ _ (s5 _ _ _ ec))
   .rw [zq,jW hn,I.ys,el];have:l.take ((l.length:Nat):Int).toNat=l:=J2 (by omega);rw [this];simp
   .rw [jW hn,el];simp;omega
 .rintro σ H' ⟨⟨t1,t2,rfl⟩,sm,hnl,hwl,G,O,sz,le⟩;ac_rfl;refine q wl H' sm G ?_;rw [hwl,JS,J2 (JY _)];rfl
abbrev j9:Stmt:=top 58
theorem uA(m:Nat)(h:0<m):∃c r,(Oo 10 m).map Char.toNat=c::r/\49<=c:=by
 induction m using Nat.strongRecOn with
 | _ m z =>
  by_cases h1:m<10
  .rw [Nat.toDigits_of_lt_base h1];refine ⟨_,[],rfl,?_⟩;have:∀d:Nat,d<10->0<d->49<=(Nat.digitChar d).toNat:=by decide
   exact this m h1 h
  .have hm:m % 10<10:=Nat.mod_lt m (by decide);have t:Oo 10 (m / 10)++Oo 10 (m % 10)=Oo 10 (10*(m / 10)+m % 10):=Nat.toDigits_append_toDigits (by decide) (by omega) hm;rw [Nat.div_add_mod] at t;obtain ⟨c,r,e,hc⟩:=z (m / 10) (by omega) (by omega);rw [<- t,Kz,e];exact ⟨c,_,rfl,hc⟩
structure xK(i:Int):Prop where
 dig:∀c∈sg (toString i:Str),48<=c/\c<=57
 one:1<=(sg (toString i:Str)).length
 most:(sg (toString i:Str)).length<=18
 back:Ot (toString i:Str)=some i
 head:(toString i:Str)="0"\/∃c r,sg (toString i:Str)=c::r/\49<=c
theorem gx(G:0<=i)(h1:i<10 ^ 18):xK i:=by
 obtain ⟨m,rfl⟩:=Int.eq_ofNat_of_zero_le G;have hd:∀c∈sg (toString ((m:Nat):Int):Str),48<=c/\c<=57:=by
  intro c hc;rw [f9] at hc;obtain ⟨ch,O,e⟩:=KL.mp hc;have r:=Nat.isDigit_of_mem_toDigits (by decide) (by decide) O;rw [<- e];exact PyProof.Rows.digit_range r
 have F:1<=(sg (toString ((m:Nat):Int):Str)).length:=by
  rcases NG m with h|h
  .rw [h,f9];decide
  .obtain ⟨c,r,e,_⟩:=uA m h;rw [f9,e];simp
 have hl:(sg (toString ((m:Nat):Int):Str)).length<=18:=by
  have e:(Nat.repr m).length<=18:=(Nat.length_repr_le_iff (by decide)).mpr (by omega);rw [ao];show (JW (toString ((m:Nat):Int))).length<=18;rw [PySem.ofString_length];exact e
 refine ⟨hd,F,hl,?_,?_⟩
 .have e:=intText_digits (x:=(toString ((m:Nat):Int):Str)) hd (λz=>by rw [show sg (toString ((m:Nat):Int):Str)=[] from z] at F;cases F) (by rw [<- ao];omega);have J:(toString ((m:Nat):Int):Str).cps.toList=(Oo 10 m).map Char.toNat:=f9 m;rw [J,PySem.W.KIN.val_back] at e;exact e
 .rcases NG m with h|h
  .left;rw [h];rfl
  .obtain ⟨c,r,e,hc⟩:=uA m h;exact .inr ⟨c,r,by rw [f9,e],hc⟩
theorem uZ(h:∀c∈sg z,c∈sg y)(h1:1<=z.length)(h2:(z.length:Int)<=m):bL z y m=true:=by
 unfold bL;rw [decide_eq_true (show (1:Int)<=z.length by omega),decide_eq_true h2];rw [Bool.true_and,Bool.true_and,KW];exact λc hc=>MH.mpr (h c hc)
theorem Gm{i:Int}(h:0<=i/\i<10 ^ 18):cR (toString i:Str)=true:=by
 have F:=gx h.1 h.2;unfold cR;rw [KD];constructor
 .refine uZ (λc hc=>?_) (by rw [<- ao];exact F.one) (by rw [<- ao];have:=F.most;omega);have hf:sg FIG=[48,49,50,51,52,53,54,55,56,57]:=by decide
  rw [hf];have:=F.dig c hc;simp;omega
 .rcases F.head with h|⟨c,r,e,hc⟩
  .rw [decide_eq_true h];rfl
  .rw [e];have : ¬ tx (take 1 (c::r))=("0":Str):=λx=>by
    have:=congrArg sg x;rw [cI] at this;have z:sg ("0":Str)=[48]:=by decide
    rw [z] at this;injection this with h1 _
    omega
   rw [decide_eq_false this];simp
structure Wd(z:Str):Prop where
 a:asc z=true
 one:1<=z.length
 most:z.length<=20
 no:32∉sg z
theorem cC{i:Int}(z:0<=i)(h1:i<10 ^ 18):Wd (toString i:Str):=by
 have F:=gx z h1;refine ⟨?_,by rw [<- ao];exact F.one,by rw [<- ao];have:=F.most;omega,λh=>by have:=F.dig 32 h;omega⟩;rw [dN,KW];exact λc hc=>decide_eq_true (by have:=F.dig c hc;omega)
theorem fm(h:bC z=true):Wd z:=by
 unfold bC bL at h;rw [KD,KD,decide_eq_true_eq,decide_eq_true_eq,KW] at h;have hl:∀c∈sg LET,c<128/\c≠32:=by decide +kernel
 refine ⟨?_,by omega,by omega,λhz=>(hl 32 (MH.mp (h.2 32 hz))).2 rfl⟩;rw [dN,KW];exact λc hc=>decide_eq_true (hl c (MH.mp (h.2 c hc))).1
theorem qW{t:Tab}(gm:aS t):∀{zs:List Str},(∀n∈zs,n∈names t)->(∀z∈aF t zs,Wd z)/\(aF t zs).length<=18*zs.length
 | [],_=>by simp [aF]
 | n::zs,h=>by
  obtain ⟨i1,i2⟩:=qW gm (zs:=zs) λm hm=>h m (Kc _ hm);obtain ⟨l,hl,G,O,J,F⟩:=gm.lk (h n (Kg ..));have e:aF t (n::zs)=(n::(toString ((lk t n).length:Int):Str)::(lk t n).map λx=>(toString x:Str))++aF t zs:=by simp [aF]
  rw [e,G];refine ⟨λz hz=>?_,by simp;omega⟩;rcases Kx.mp hz with hz|hz
  .rcases J1.mp hz with rfl|hz
   .exact fm (gm.nm _ (h _ (Kg ..)))
   .rcases J1.mp hz with rfl|hz
    .exact cC (by omega) (by omega)
    .obtain ⟨x,hx,rfl⟩:=KL.mp hz;exact cC (F x hx).1 (F x hx).2
  .exact i1 z hz
theorem fZ{t:Tab}(gm:aS t):(∀z∈aH t,Wd z)/\(aH t).length<=289:=by
 have hl:=gm.len;obtain ⟨i1,i2⟩:=qW gm (zs:=zr (names t)) λn F=>(zY _).1.mem_iff.mp F;have sl:(zr (names t)).length=t.length:=by rw [(zY _).1.length_eq];simp [names]
 unfold aH;refine ⟨λz hz=>?_,by simp;omega⟩;rcases J1.mp hz with rfl|hz
 .exact cC (by omega) (by omega)
 .exact i1 z hz
def kkT(ks:List (Str×Tab))(n:Str):Tab:=(look ks n).getD []
noncomputable def ay(ks:List (Str×Tab))(zs:List Str):List Str:=zs.flatMap λn=>n::aH (kkT ks n)
noncomputable def aB(t:Tab)(ks:List (Str×Tab)):List Str:=aH t++(toString (ks.length:Int):Str)::ay ks (zr (names ks))
noncomputable def cH(t:Tab)(ks:List (Str×Tab)):Str:=KF " " (aB t ks)
theorem jh{zs:List Str}(h:zs[i]?=some n):ay ks (zs.take (i+1))=ay ks (zs.take i)++[n]++aH (kkT ks n):=by
 unfold ay;rw [Kt,h];simp
theorem cx.lk(h:cx ks)(z:n∈names ks):∃u,look ks n=some u/\kkT ks n=u/\aS u:=by
 cases e:look ks n with
 | none=>exact absurd z (aV.mp e)
 | some u=>exact ⟨u,rfl,by unfold kkT;rw [e];rfl,h.gm _ (bG e)⟩
theorem vg(gk:cx ks):∀{zs:List Str},(∀n∈zs,n∈names ks)->(∀z∈ay ks zs,Wd z)/\(ay ks zs).length<=290*zs.length
 | [],_=>by simp [ay]
 | n::zs,h=>by
  obtain ⟨i1,i2⟩:=vg gk (zs:=zs) λm hm=>h m (Kc _ hm);obtain ⟨u,S,F,J⟩:=gk.lk (h n (Kg ..));obtain ⟨G,O⟩:=fZ J;have e:ay ks (n::zs)=(n::aH (kkT ks n))++ay ks zs:=by simp [ay]
  rw [e,F];refine ⟨λz hz=>?_,by simp;omega⟩;rcases Kx.mp hz with hz|hz
  .rcases J1.mp hz with rfl|hz
   .exact fm (gk.nm _ (h _ (Kg ..)))
   .exact G z hz
  .exact i1 z hz
theorem iH{t:Tab}(gm:aS t)(gk:cx ks):(∀z∈aB t ks,Wd z)/\(aB t ks).length<=1200:=by
 obtain ⟨G,O⟩:=fZ gm;have J:=gk.len;obtain ⟨i1,i2⟩:=vg gk (zs:=zr (names ks)) λn F=>(zY _).1.mem_iff.mp F;have sl:(zr (names ks)).length=ks.length:=by rw [(zY _).1.length_eq];simp [names]
 unfold aB;refine ⟨λz hz=>?_,by simp;omega⟩;rcases Kx.mp hz with hz|hz
 .exact G z hz
 .rcases J1.mp hz with rfl|hz
  .exact cC (by omega) (by omega)
  .exact i1 z hz
theorem JA{zs:List Str}(h:∀z∈zs,Wd z)(hl:zs.length<=2000):(zs.map (·.length)).sum+zs.length*(" ":Str).length<=16777216:=by
 have:∀l:List Str,(∀z∈l,Wd z)->(l.map (·.length)).sum<=20*l.length:=by
  intro l
  induction l with
  | nil=>simp
  | cons z l G =>
   intro h;have h1:=(h z (Kg ..)).most;have h2:=G λy F=>h y (Kc _ F);rw [Li,List.sum_cons,Le];omega
 have:=this zs h;rw [show (" ":Str).length=1 by decide];omega
structure Gf(H:Hp)(p nl wl:Addr)(t:Tab)(ks:List (Str×Tab))(i:Nat)(σ:L2.St)(H':Hp):Prop where
 ex:∃t1,σ=[some (V.ref p),some (.ref wl),some (.ref nl),t1]
 same:ze H H'
 hnl:H' nl=some (.lst ((zr (names ks)).map V.str))
 hwl:H' wl=some (.lst ((aH t++(toString (ks.length:Int):Str)::ay ks ((zr (names ks)).take i)).map V.str))
 no:H wl=none
 ne:nl≠wl
 sz:(ay ks ((zr (names ks)).take i)).length<=290*i
 le:i<=3
def qQ(A:zj):Sp:=λvs H Q _=>∃(p b k:Addr)(t:Tab)(ks:List (Str×Tab)),vs=[.ref p]/\bj A H p b k t ks/\aS t/\cx ks/\∀H',ze H H'->Q (.str (cH t ks)) H'
theorem iJ:zu [WG,"words","held","name"] WQ (zk mK):=fsc
theorem Gi(F:Fun K "files_text" "files_text" mK f fd)(T:Txt K mg A)(Zk:GF P w K mg base true 5 Wf WQ (tM A))(ZF:GM P w K mg base true 1 A.kn "held" ZY (oK A))(ZO:GM P w K mg base true 4 A.kn "of_held" YD (lS A)):zp P w K mg base CX0 true 6 f fd WQ (qQ A):=by
 refine F.o iJ λZP Ar outer s H vs Q E hr h=>?_;obtain ⟨p,b,k,t,ks,rfl,hF,gm,gk,q⟩:=h;refine ⟨_,(W.h (zh (zw (i:=1) iJ.nd rfl (J5 rfl) (zt Zk hr rfl (za (zb 0) zd)))
   (zh (zw (i:=2) iJ.nd rfl (J5 rfl) (zO (zb 0) T.hE ZF hr))
   (zh (ai (fP (zb 1) (az aU rfl T.nY Ls (za (zK cP rfl T.r0 KA (za (zb 2) zd)) zd))))
   (zh (aW Lh.never (λ_=>rfl) (bz (zb 2)) (zD (i:=3) iJ.nd rfl (J5 rfl))
   (zh (ai (fP (zb 1) (zb 3)))
   (zi (ai (iW (zb 1) (zt Zk hr rfl (za (aN (zb 0) T.hE ZO hr (za (zb 3) zd)) zd)))))))
   (zi (zA (iR aC (zb 1))))))))),?_⟩
 ac_rfl;refine ⟨p,b,k,t,ks,rfl,hF,gm,λwl H1 s1 O ew=>?_⟩;have F1:=hF.same s1;obtain ⟨dx,e1⟩:=F1.ob;have kl:=gk.len;erw [e1,je];refine ⟨p,b,k,t,ks,rfl,F1,by omega,λnl H2 J=>?_⟩;have av:=J.same _ _ ew;erw [av,J.at_];have sl:(zr (names ks)).length=ks.length:=by rw [(zY _).1.length_eq];simp [names]
 have a0:=(fZ gm).2;have G:nl≠wl:=λz=>by have:=J.no;rw [z,ew] at this;cases this
 simp only [JS,sl];have U:∀H' o,ze H H'->ze H (upd H' wl o):=λH' o h c u ec=>by rw [zf (zH ec O)];exact h c u ec
 refine ⟨aT (by omega),aK (by omega),⟨_,SqL.of (by rw [zf G];exact J.at_)⟩,aa.lst (xs:=(zr (names ks)).map V.str) (Gf H p nl wl t ks) ⟨⟨_,rfl⟩,U _ _ (s1.trans J.same),by rw [zf G];exact J.at_,by rw [zq];simp [ay],O,G,by simp [ay],by omega⟩ (λi σ H' _ I=>SqL.of I.hnl) ?_ ?_⟩
 .rintro i x σ H' hx ⟨⟨t1,rfl⟩,sm,hnl,hwl,O,G,sz,le⟩;rw [Kd] at hx;obtain ⟨n,S,rfl⟩:=Km.mp hx;have hi:i<(zr (names ks)).length:=(JX.mp S).1;obtain ⟨u,hu,eu,gu⟩:=gk.lk ((zY _).1.mem_iff.mp (Kn S));have uw:=(fZ gu).2;erw [hwl];refine ⟨aK (by simp;omega),⟨_,zq⟩,?_⟩;have F4:=hF.same (U H' (.lst (map V.str (aH t++(toString (ks.length:Int):Str)::ay ks (take i (zr (names ks))))++[V.str n])) sm);obtain ⟨aI,e4⟩:=F4.ob;refine ⟨aI,_,e4,u9,p,b,k,t,ks,n,u,rfl,F4,hu,λx b' k' H5 s5 nb nk nx hB _=>⟨x,b',k',u,[],rfl,hB.files,gu,λl6 H6 s6 n6 e6=>?_⟩⟩;have ab:=s6 _ _ (s5 _ _ (zq (H:=H')));have Z:ze H H6:=((U H' _ sm).trans s5).trans s6;erw [ab,e6];refine ⟨aq (by simp;omega),⟨_,rfl⟩,U _ _ Z,?_,?_,O,G,?_,by omega⟩
  .rw [zf G];exact s6 _ _ (s5 _ _ (by rw [zf G];exact hnl))
  .rw [zq,jh S,eu];simp
  .rw [jh S,eu];simp;omega
 .rintro σ H' ⟨⟨t1,rfl⟩,sm,hnl,hwl,O,G,sz,le⟩;ac_rfl;rw [JS,J2 (JY _)] at hwl;obtain ⟨w1,w2⟩:=iH gm gk;exact ⟨aB t ks,hwl,JA w1 (by omega),q H' sm⟩
structure Bb(H:Hp)(d nl:Addr)(t:Tab)(i:Nat)(σ:L2.St)(H':Hp):Prop where
 ex:∃wl t1,σ=[some (V.ref d),some (.ref wl),t1]/\H' wl=some (.lst (((toString (t.length:Int):Str)::aF t ((zr (names t)).take i)).map V.str))/\H wl=none
 same:ze H H'
 hnl:H' nl=some (.lst ((zr (names t)).map V.str))
 sz:(aF t ((zr (names t)).take i)).length<=18*i
 le:i<=16
structure LWc(H:Hp)(l:List Int)(i:Nat)(τ:L2.St)(ys:List V)(H':Hp):Prop where
 ex:∃t,τ=[t]
 ys:ys=((l.take i).map λx=>(toString x:Str)).map V.str
 same:ze H H'
 le:i<=16
def tL:Sp:=λvs H Q _=>∃(d:Addr)(t:Tab),vs=[.ref d]/\iy H d t/\aS t/\∀l H',ze H H'->H l=none->H' l=some (.lst ((aH t).map V.str))->Q (.ref l) H'
theorem j3:zu WO ["_law_files_here"] (zk j9):=fsc
theorem Fc:bc { kind:=.function,names:=[(JW ".0",.local),(JW "_law_birth_here",.local),(JW "str",.globalImplicit)],isGenerator:=false,isCoroutine:=false,more:=[] } (zk j9).names WO ["_law_birth_here"] [none]=true:=by decide +kernel
theorem Gk:(["_law_birth_here"]:List Str).Nodup:=by decide +kernel
theorem Io(F:Fun K Wt Wt j9 f fd)(T:Txt K mg A):zp P w K mg base CX0 true 1 f fd ["_law_files_here"] tL:=by
 refine F.o j3 λZP Ar outer s H vs Q E hr h=>?_;obtain ⟨d,t,rfl,hM,gm,q⟩:=h;refine ⟨_,(W.h (zh (zw (i:=1) j3.nd rfl (J5 rfl) (aj (za (az aU rfl T.nY Ls (za (zK lj rfl T.r0 KA (za (zb 0) zd)) zd)) zd)))
   (zh (aW Lh.never (λ_=>rfl) (bz (zK (dJ rfl) rfl T.ny LO (za (zb 0) zd))) (zD (i:=2) j3.nd rfl (J5 rfl))
   (zi (zw (i:=1) j3.nd rfl (J5 rfl) (zB bg (zB bg (zb 1) (aj (za (zb 2) (za (az aU rfl T.nY Ls (za (zK cP rfl T.r0 KA (za (zQ (c0 (zM hr)) (zb 0) (zb 2) (λ_ _=>rfl)) zd)) zd)) zd)))) (cz (λ_=>rfl) (af.of Fc) (bz (zQ (c0 (zM hr)) (zb 0) (zb 2) (λ_ _=>rfl))) (λ_ _ _ _ _=>(zD (i:=0) Gk rfl (J5 rfl))) (λ_ _ _ _ _=>bB) (λ_ _ _ _ _=>(az aU rfl T.nY Ls (za (zb 0) zd))))))))
   (zi (zA (zb 1)))))),?_⟩
 obtain ⟨kvs,S,dc⟩:=hM.ex;have gl:=gm.len;ac_rfl;refine ⟨_,.inl S,?_⟩;rw [bS,dc.length];refine ⟨aT (by omega),by decide,λwl H1 n1 _=>⟨kvs,.inl (n1.same _ _ S),by rw [dc.length];omega,λnl H2 J=>?_⟩⟩;have sl:(zr (names t)).length=t.length:=by rw [(zY _).1.length_eq];simp [names]
 rw [dc.names] at J;refine ⟨⟨_,SqL.of J.at_⟩,aa.lst (xs:=(zr (names t)).map V.str) (Bb H d nl t) ⟨⟨wl,_,rfl,by rw [J.same _ _ n1.at_];rfl,n1.no⟩,n1.same.trans J.same,J.at_,by simp [aF],by omega⟩ (λi σ H' _ I=>SqL.of I.hnl) ?_ ?_⟩
 .rintro i x σ H' hx ⟨⟨wl',t1,rfl,hwl,wn⟩,sm,hnl,sz,le⟩;rw [Kd] at hx;obtain ⟨n,U,rfl⟩:=Km.mp hx;have hi:i<(zr (names t)).length:=(JX.mp U).1;obtain ⟨l,hl,el,l1,l2,lx⟩:=gm.lk ((zY _).1.mem_iff.mp (Kn U));obtain ⟨v,l',d1,O,r⟩:∃v l',look kvs n=some v/\look t n=some l'/\MdR H v l':=by
   rcases dc.look n with z|⟨_,O⟩
   .exact z
   .rw [hl] at O;cases O
  rw [hl] at O;cases O;obtain ⟨pl,rfl,Yo⟩:=r;have ab:=sm _ _ S;erw [hwl];refine ⟨_,.inl ab,.ref pl,by rw [aJ];exact d1,?_⟩;rw [jL];refine ⟨_,.inl (sm _ _ Yo),?_⟩;rw [JS];ac_rfl;refine ⟨aT (by omega),by decide,λp3 H3 n3 _=>⟨_,n3.same _ _ hwl,_,n3.at_,aq (by simp;omega),λp4 H4 n4=>?_⟩⟩;have G:=(sm.trans n3.same).trans n4.same;refine ⟨_,.inl (G _ _ S),.ref pl,by rw [aJ];exact d1,pl,rfl,⟨_,SqL.of (G _ _ Yo)⟩,ak.lst (xs:=l.map V.int) (LWc H4 l) (λj τ ys H6 I=>?_) (λj τ ys H6 I=>SqL.of (I.same _ _ (G _ _ Yo))) ⟨⟨_,rfl⟩,by simp,ze.refl _,by omega⟩ ?_ ?_⟩
  .rw [I.ys,JS,JS,Kr];exact aK (by have:=I.le;omega)
  .intro N j x τ ys H6 hx I hN;obtain ⟨tt,rfl⟩:=I.ex;rw [Kd] at hx;obtain ⟨y,hy,rfl⟩:=Km.mp hx;have av:j<l.length:=(JX.mp hy).1;have aI:=lx y (Kn hy);ac_rfl;refine ⟨aT (by omega),hN _ _ _ ⟨⟨_,rfl⟩,?_,I.same,by omega⟩⟩;rw [I.ys,Kt,hy,Kz,Kz];rfl
  .intro τ ys H6 I D H7 Z;have ly:ys.length<=16:=by rw [I.ys,JS,JS,Kr];omega
   rw [iq];refine ⟨_,_,Z.same _ _ (I.same _ _ n4.at_),Z.at_,aq (by simp;omega),λp8 H8 n8=>?_⟩;have s8:ze H4 H8:=(I.same.trans Z.same).trans n8.same;refine ⟨⟨p8,_,rfl,?_,?_⟩,G.trans s8,s8 _ _ (n4.same _ _ (n3.same _ _ hnl)),?_,by omega⟩
   .rw [n8.at_,jW U,I.ys,el];have:l.take (map V.int l).length=l:=J2 (by simp);rw [this];simp
   .exact ((G.trans I.same).trans Z.same).free n8.no
   .rw [jW U,el];simp;omega
 .rintro σ H' ⟨⟨wl',t1,rfl,hwl,wn⟩,sm,hnl,sz,le⟩;ac_rfl;refine q wl' H' sm wn ?_;rw [hwl,JS,J2 (JY _)];rfl
end
abbrev km:Stmt:=ar (top 19) 5
abbrev mZ:Stmt:=ar (top 19) 1
abbrev m8:Stmt:=ar (top 19) 2
abbrev lC:Stmt:=ar (top 19) 3
abbrev pf:Stmt:=ar (top 19) 6
abbrev mj:Stmt:=top 27
def bu(wl:Addr)(i:Int):List (Str×V):=[("words",.ref wl),("taken",.int i)]
structure zJ(A:zj)(H:Hp)(p:Addr)(ws:List Str):Prop where
 ex:∃(dx wl:Addr)(pre:List Str),H p=some (.ins A.Words dx (bu wl pre.length))/\H wl=some (.lst ((pre++ws).map V.str))/\(pre++ws).length<=2000/\pre++ws≠[]
theorem zJ.same{p:Addr}(h:zJ A H p ws)(s:ze H H'):zJ A H' p ws:=let ⟨dx,wl,pre,e1,e2,r⟩:=h.ex;⟨⟨dx,wl,pre,s _ _ e1,s _ _ e2,r⟩⟩
theorem zJ.but{p b:Addr}(h:zJ A H p ws)(s:But b H H')(hb:∃kvs,H b=some (.dK kvs)):zJ A H' p ws:=by
 obtain ⟨dx,wl,pre,F,G,r⟩:=h.ex;obtain ⟨kvs,hb⟩:=hb;exact ⟨⟨dx,wl,pre,s _ _ (λz=>by subst z;rw [F] at hb;cases hb) F,s _ _ (λz=>by subst z;rw [G] at hb;cases hb) G,r⟩⟩
section
variable {P:JZ}{w:Ke}{K:Frag}{mg:Str->Option Value}{base:Heap}{A:zj}{wl:Addr}{i:Int}
theorem wI:(bu wl i).lookup ("words":Str)=some (.ref wl):=by simp only [bu,KP,beq_self_eq_true]
theorem oZ:(bu wl i).lookup ("taken":Str)=some (.int i):=by simp only [bu,KP,beq_self_eq_true,DG]
theorem nH:(bu wl i).lookup (Wr:Str)=none:=by kernel_rfl
theorem cY:(bu wl i).lookup (Wy:Str)=none:=by kernel_rfl
theorem Gw:(bu wl i).lookup ("take_name":Str)=none:=by kernel_rfl
theorem uh:(bu wl i).lookup (Wj:Str)=none:=by kernel_rfl
theorem Ba:(bu wl i).lookup ("take_end":Str)=none:=by kernel_rfl
def lU(A:zj):Sp:=λvs H Q _=>∃(p:Addr)(ws:List Str),vs=[.ref p]/\zJ A H p ws/\Q (.bl (decide (ws=[]))) H
theorem x3:zu ZY ZY (zk km):=fsc
theorem Fs(F:Fun K Wj "Words.is_at_end" km f fd)(T:Txt K mg A):zp P w K mg base CX0 true 1 f fd ZY (lU A):=by
 refine F.o x3 λU Z outer s H vs Q E hr h=>?_;obtain ⟨p,ws,rfl,G,q⟩:=h;have S:_<cLine:=KH (zM hr);refine ⟨_,(W.h (zi (zA (eR (da S) (ag T.kz T.qs (zb 0)) (zK cP rfl T.r0 KA (za (ag T.kz T.vl (zb 0)) zd)) (z6 _))))),?_⟩;obtain ⟨dx,wl,pre,J,O,r⟩:=G.ex;erw [J,O,wI,oZ];have e:decide ((pre.length:Int)=((map V.str (pre++ws)).length:Nat))=decide (ws=[]):=by
  rw [JS,KB];cases ws with
  | nil=>simp
  | cons z ws=>simp;omega
 rw [e];exact q
def i6(A:zj):Sp:=λvs H Q _=>∃(p:Addr)(z:Str)(ws:List Str),vs=[.ref p]/\zJ A H p (z::ws)/\∀H',But p H H'->zJ A H' p ws->Q (.str z) H'
theorem II:zu ZY ZY (zk mZ):=fsc
theorem BL(F:Fun K Wr "Words.take_word" mZ f fd)(T:Txt K mg A)(U:GM P w K mg base true 1 A.Words Wj ZY (lU A)):zp P w K mg base CX0 true 2 f fd ZY (i6 A):=by
 refine F.o II λZP Ar outer s H vs Q E hr h=>?_;obtain ⟨p,z,ws,rfl,O,q⟩:=h;refine ⟨_,(W.h (zh (zW (bO (zO (zb 0) T.kz U hr))
   (zi bJ)
   z9)
   (zh (EV T.kz T.qs (zb 0) zo Gd)
   (zi (zA (zQ cu (ag T.kz T.vl (zb 0)) (zB og (ag T.kz T.qs (zb 0)) zo) (λ_ _=>rfl))))))),?_⟩
 obtain ⟨dx,wl,pre,J,G,r⟩:=O.ex;erw [J,uh];refine ⟨p,z::ws,rfl,O,?_⟩;have S:wl≠p:=λy=>by rw [y,J] at G;cases G
 erw [J,oZ,List.cons_ne_nil,decide_false];have eF:zL ("taken":Str) (V.int ((pre.length:Int)+1)) (bu wl pre.length)=bu wl ((pre.length:Int)+1):=by simp only [zL,bu,ui,if_false,if_true]
 rw [eF];refine ⟨by show 2<1000;decide,dx,_,zq,_,wI,dx,_,zq,_,oZ,?_⟩;rw [vO,gE];have Z:(pre.length:Int)+1-1=((pre.length:Nat):Int):=by omega
 refine ⟨_,.inl (by rw [zf S];exact G),.str z,by rw [Z];exact gj (by simp),q _ But.upd ⟨⟨dx,wl,pre++[z],?_,?_,?_⟩⟩⟩
 .rw [zq];simp
 .rw [zf S,G];simp
 .simpa using r
def iw(A:zj):Sp:=λvs H Q _=>∃(p:Addr)(i:Int)(ws:List Str),vs=[.ref p]/\zJ A H p ((toString i:Str)::ws)/\0<=i/\i<10 ^ 18/\∀H',But p H H'->zJ A H' p ws->Q (.int i) H'
theorem sE:zu ["self","word"] ZY (zk m8):=fsc
theorem DM(F:Fun K Wy "Words.take_number" m8 f fd)(T:Txt K mg A)(U:GM P w K mg base true 2 A.Words Wr ZY (i6 A))(S:GF P w K mg base true 2 Wn Xc (jt cR)):zp P w K mg base CX0 true 3 f fd ZY (iw A):=by
 refine F.o sE λZ Ar outer s H vs Q E hr h=>?_;obtain ⟨p,i,ws,rfl,G,i0,i1,q⟩:=h;refine ⟨_,(W.h (zh (zw (i:=1) sE.nd rfl (J5 rfl) (zO (zb 0) T.kz U hr))
   (zh (zW (bW (bO (zt S hr rfl (za (zb 1) zd))))
   (zi bJ)
   z9)
   (zi (zA (az Fo rfl T.PY boot_int (za (zb 1) zd))))))),?_⟩
 obtain ⟨dx,wl,pre,O,e2,r⟩:=G.ex;erw [O,nH];refine ⟨p,_,ws,rfl,G,λH1 J z=>?_⟩;have wd:=cC i0 i1;ac_rfl;refine ⟨_,rfl,wd.a,by have:=wd.most;omega,λH2 s2=>?_⟩;rw [Gm ⟨i0,i1⟩];ac_rfl;exact ⟨by rw [<- ao];have:=(gx i0 i1).most;omega,i,(gx i0 i1).back,q H2 (J.trans (But.of s2)) (z.same s2)⟩
def sS(A:zj):Sp:=λvs H Q _=>∃(p:Addr)(z:Str)(ws:List Str),vs=[.ref p]/\zJ A H p (z::ws)/\bC z=true/\∀H',But p H H'->zJ A H' p ws->Q (.str z) H'
theorem vh:zu ["self","word"] ZY (zk lC):=fsc
theorem DN(F:Fun K "take_name" "Words.take_name" lC f fd)(T:Txt K mg A)(Z:GM P w K mg base true 2 A.Words Wr ZY (i6 A))(S:GF P w K mg base true 2 "is_name" Xc (jt bC)):zp P w K mg base CX0 true 3 f fd ZY (sS A):=by
 refine F.o vh λZP Ar outer s H vs Q E hr h=>?_;obtain ⟨p,z,ws,rfl,J,hz,q⟩:=h;refine ⟨_,(W.h (zh (zw (i:=1) vh.nd rfl (J5 rfl) (zO (zb 0) T.kz Z hr))
   (zh (zW (bW (bO (zt S hr rfl (za (zb 1) zd))))
   (zi bJ)
   z9)
   (zi (zA (zb 1)))))),?_⟩
 obtain ⟨dx,wl,pre,U,e2,r⟩:=J.ex;erw [U,nH];refine ⟨p,z,ws,rfl,J,λH1 O G=>?_⟩;have wd:=fm hz;ac_rfl;refine ⟨_,rfl,wd.a,by have:=wd.most;omega,λH2 s2=>?_⟩;rw [hz];ac_rfl;exact q H2 (O.trans (But.of s2)) (G.same s2)
def uc(A:zj):Sp:=λvs H Q _=>∃(p:Addr),vs=[.ref p]/\zJ A H p []/\Q .non H
theorem Ae:zu ZY ZY (zk pf):=fsc
theorem Dt(F:Fun K "take_end" "Words.take_end" pf f fd)(T:Txt K mg A)(G:GM P w K mg base true 1 A.Words Wj ZY (lU A)):zp P w K mg base CX0 true 2 f fd ZY (uc A):=by
 refine F.o Ae λO U outer s H vs Q E hr h=>?_;obtain ⟨p,rfl,z,q⟩:=h;refine ⟨_,(W.h (zi (zW (bW (bO (zO (zb 0) T.kz G hr)))
   (zi bJ)
   z9))),?_⟩
 obtain ⟨dx,wl,pre,J,S,r⟩:=z.ex;erw [J,uh];refine ⟨p,[],rfl,z,?_⟩;erw [decide_true];exact q
def kC(A:zj):Sp:=λvs H Q _=>∃(p:Addr)(y z:Str)(ws:List Str),vs=[.ref p,.str y]/\zJ A H p (z::ws)/\bC z=true/\y.cps.toList<z.cps.toList/\∀H',But p H H'->zJ A H' p ws->Q (.str z) H'
theorem wW:zu ["words","name","later"] WN (zk mj):=fsc
theorem xf(F:Fun K Ww Ww mj f fd)(T:Txt K mg A)(O:GM P w K mg base true 3 A.Words "take_name" ZY (sS A)):zp P w K mg base CX0 true 4 f fd WN (kC A):=by
 refine F.o wW λZ Ar outer s H vs Q E hr h=>?_;obtain ⟨p,y,z,ws,rfl,J,hz,lt,q⟩:=h;refine ⟨_,(W.h (zh (zw (i:=2) wW.nd rfl (J5 rfl) (zO (zb 0) T.kz O hr))
   (zh (zW (ah Cd (zb 2) (zb 1) (z6 _))
   (zi bJ)
   z9)
   (zi (zA (zb 2)))))),?_⟩
 obtain ⟨dx,wl,pre,U,e2,r⟩:=J.ex;erw [U,Gw];refine ⟨p,z,ws,rfl,J,hz,λH1 S G=>?_⟩;ac_rfl;rw [decide_eq_true lt];ac_rfl;exact q H1 S G
end
abbrev nO:Stmt:=ar (top 19) 0
theorem ng:∀(v:Str)(ws:List Str),sg (KF " " (v::ws))=sg v++((ws.map sg).map (32::·)).flatten:=by
 intro v ws;have e:KF " " (v::ws)=Str.join " " (v::ws):=StrLaws.glued_eq_join " " (v::ws);rw [e]
 induction ws generalizing v with
 | nil=>show sg v=_;simp
 | cons x ws z =>
  have z:=z x (StrLaws.glued_eq_join " " _);show sg (v++" "++Str.join " " (x::ws))=_;rw [dD,dD,z];have:sg (" ":Str)=[32]:=by decide
  rw [this];simp
theorem yd(h:∀z∈v::ws,Wd z):K0 (KF " " (v::ws)) " "=v::ws:=by
 have e:=AB (KF " " (v::ws)) (c:=32) (by decide);have J:=oN (c:=32) (sg v) (ws.map sg) (λx hx=>by
  rcases J1.mp hx with rfl|hx
  .exact (h v (Kg ..)).no
  .obtain ⟨y,F,rfl⟩:=KL.mp hx;exact (h y (Kc _ F)).no)
 rw [ng] at e;have G:=e.trans (congrArg (map tx) J);have O:K0 (KF " " (v::ws)) " "=K0 (KF " " (v::ws)) (c1 32):=congrArg (K0 (KF " " (v::ws))) (show (" ":Str)=c1 32 from by decide);rw [O,G,Li,fT,LM];congr 1;have:(tx∘sg)=id:=funext λz=>fT z;rw [this,map_id]
theorem gD:∀ws:List Str,(∀z∈ws,Wd z)->(((ws.map sg).map (32::·)).flatten).length<=21*ws.length
 | [],_=>by simp
 | z::ws,h=>by
  have h1:=(h z (Kg ..)).most;have h2:=gD ws λy F=>h y (Kc _ F);rw [Li,Li,MF,KB,Le,Le,ao];omega
theorem qX(h:∀z∈v::ws,Wd z):(KF " " (v::ws)).length<=21*(ws.length+1):=by
 have h1:=(h v (Kg ..)).most;have h2:=gD ws λy F=>h y (Kc _ F);rw [<- ao,ng,KB,ao];omega
section
variable {P:JZ}{w:Ke}{K:Frag}{mg:Str->Option Value}{base:Heap}{A:zj}
def vj(A:zj):Sp:=λvs H Q _=>∃(p dx:Addr)(v:Str)(ws:List Str),vs=[.ref p,.str (KF " " (v::ws))]/\H p=some (.ins A.Words dx [])/\(∀z∈v::ws,Wd z)/\ws.length<=1900/\∀H',But p H H'->zJ A H' p (v::ws)->Q .non H'
theorem AN:zu WL WL (zk nO):=fsc
theorem Er(F:Fun K WE "Words.__init__" nO f fd)(T:Txt K mg A):zp P w K mg base CX0 true 1 f fd WL (vj A):=by
 refine F.o AN λU Z outer s H vs Q E hr h=>?_;obtain ⟨p,dx,v,ws,rfl,O,hw,hl,q⟩:=h;refine ⟨_,(W.h (zh (cW T.kz T.vl (zb 0) (xJ (zb 1) aC))
   (zi (cW T.kz T.qs (zb 0) zo)))),?_⟩
 have hm:=qX hw;ac_rfl;rw [yd hw];refine ⟨by decide,aK (by omega),aq (by simp;omega),λl H2 G=>⟨dx,[],G.same _ _ O,by decide,dx,_,zq,by show 1<1000;decide,?_⟩⟩;have S:zL ("taken":Str) (V.int 0) (zL ("words":Str) (V.ref l) [])=bu l 0:=by simp only [zL,bu,ui,if_false]
 rw [S];have J:l≠p:=λz=>by have:=G.no;rw [z,O] at this;cases this
 exact q _ (λa o n e=>by rw [zf n,zf n];exact G.same _ _ e) ⟨⟨dx,l,[],by rw [zq];rfl,by rw [zf J,zf J];exact G.at_,by simp;omega,by simp⟩⟩
abbrev mQ:Stmt:=top 26
theorem yy{a b:Str}(h:leS a b)(n:a≠b):a.cps.toList<b.cps.toList:=by
 refine KY λz=>n (uW h ?_);unfold leS;rw [<- lt_meets,decide_eq_false z]
theorem sh(nd:ks.Nodup):(zr ks).Pairwise (λa b=>a.cps.toList<b.cps.toList) :=
 ((zY ks).2.and ((zY ks).1.nodup_iff.mpr nd)).imp λh=>yy h.1 h.2
def i3(zs:List Str):Nat->Str
 | 0=>""
 | i+1=>zs.getD i ""
theorem qd(h:zs.Pairwise (λa b=>a.cps.toList<b.cps.toList))(F:zs[i]?=some n)(h1:1<=n.length):(i3 zs i).cps.toList<n.cps.toList:=by
 cases i with
 | zero =>
  have z:("":Str).cps.toList=[]:=by decide
  show ("":Str).cps.toList<n.cps.toList;rw [z];have hl:1<=n.cps.toList.length:=by rw [show n.cps.toList=sg n from rfl,ao];exact h1
  cases e:n.cps.toList with
  | nil=>rw [e] at hl;cases hl
  | cons c r=>exact List.nil_lt_cons c r
 | succ i =>
  obtain ⟨hi,e⟩:=JX.mp F;have:=List.pairwise_iff_getElem.mp h i (i+1) (by omega) hi (by omega);show (zs.getD i "").cps.toList<n.cps.toList;rw [Kj,JQ (by omega),<- e];exact this
theorem pR(z:zs[i]?=some n):i3 zs (i+1)=n:=by
 show zs.getD i ""=n;rw [Kj,z];rfl
theorem jk{α:Type}{zs:List α}{n m:α}(h:zs[i]?=some n):m∈zs.take (i+1)↔m∈zs.take i\/m=n:=by
 rw [Kt,h];simp
theorem xv{α:Type}{zs:List α}(nd:zs.Nodup){n:α}(h:zs[i]?=some n):n∉zs.take i:=by
 have h1:(zs.take (i+1)).Nodup:=nd.sublist (List.take_sublist _ _);rw [Kt,h,NT] at h1;intro z;exact h1.2.2 n z n (by simp) rfl
theorem jJ{α:Type}{zs:List α}{n:α}(h:zs[i]?=some n):zs.drop i=n::zs.drop (i+1):=by
 obtain ⟨hi,e⟩:=JX.mp h;rw [LV hi,e]
theorem CM{t:Tab}{zs:List Str}(h:zs[i]?=some n):aF t (zs.drop i)=n::(toString ((lk t n).length:Int):Str)::(((lk t n).map λx=>(toString x:Str))++aF t (zs.drop (i+1))):=by
 rw [jJ h];simp [aF]
theorem Jl{b k wl:Addr}:zG b k≠bu wl i:=by
 intro h;have h1:(zG b k).map (·.1)=(bu wl i).map (·.1):=by rw [h]
 have h2:("births":Str)=("words":Str):=by injection h1
 exact absurd h2 (by decide)
theorem But.fresh{p b:Addr}(x:But p H H1)(y:But b H1 H2)(n:H b=none):But p H H2:=λa o F e=>y a o (λz=>by rw [<- z,e] at n;cases n) (x a o F e)
theorem zJ.ne{p q b k dx:Addr}(h:zJ A H p ws)(e:H q=some (.ins A.kn dx (zG b k))):q≠p:=λz=>by
 obtain ⟨G,wl,pre,F,_⟩:=h.ex;rw [z,F] at e;injection e with e
 injection e with _ _ e
 exact Jl e.symm
theorem zJ.Qd{p q:Addr}(h:zJ A H p ws)(e:H q=some (.dK kvs)):q≠p:=λz=>by
 obtain ⟨G,wl,pre,F,_⟩:=h.ex;rw [z,F] at e;cases e
theorem zJ.nf{p q:Addr}{o:Obj}(h:zJ A H p ws)(e:H q=some (.frz o (.dK kvs))):q≠p:=λz=>by
 obtain ⟨G,wl,pre,F,_⟩:=h.ex;rw [z,F] at e;cases e
theorem zJ.nt{p:Addr}(h:zJ A H p ws)(xs:List V):H p≠some (.tup xs):=λz=>by
 obtain ⟨G,wl,pre,F,_⟩:=h.ex;rw [F] at z;cases z
theorem aG.OA{p q b k:Addr}{t:Tab}(h:aG A H q b k t)(s:But p H H')(z:zJ A H p ws):aG A H' q b k t:=by
 obtain ⟨dx,e⟩:=h.ob;have hd:∀a kvs,Rd H a (.dK kvs)->Rd H' a (.dK kvs):=λa kvs r=>r.elim (λe=>.inl (s _ _ (z.Qd e) e)) (λ⟨o,e⟩=>.inr ⟨o,s _ _ (z.nf e) e⟩);obtain ⟨kvs,F,d⟩:=h.hX.ex;exact ⟨⟨dx,s _ _ (z.ne e) e⟩,⟨⟨kvs,hd _ _ F,d.imp λv a r=>r.but s z.nt⟩,h.hX.nd⟩,hd _ _ h.kept⟩
theorem zx.OA{p q b k:Addr}{t:Tab}(h:zx A H q b k t ks)(s:But p H H')(z:zJ A H p ws):zx A H' q b k t ks:=by
 obtain ⟨dx,e⟩:=h.ob;obtain ⟨kvs,F,d⟩:=h.hX.ex;obtain ⟨kk,G,J⟩:=h.kept;exact ⟨⟨dx,s _ _ (z.ne e) e⟩,⟨⟨kvs,s _ _ (z.Qd F) F,d.imp λv a r=>r.but s z.nt⟩,h.hX.nd⟩,⟨kk,s _ _ (z.Qd G) G,J.imp λv a ⟨q,S,k',O,r,n⟩=>⟨q,S,k',O,r.OA s z,n⟩⟩,h.xy,h.ne⟩
structure C7(A:zj)(H:Hp)(p q b k:Addr)(t:Tab)(zs ZL:List Str)(i:Nat)(σ:L2.St)(H':Hp):Prop where
 ex:∃t1 t2 t3,σ=[some (V.ref p),some (.ref q),some (.str (i3 zs i)),t1,t2,t3]
 but:But p H H'
 wd:zJ A H' p (aF t (zs.drop i)++ZL)
 fl:∃u,zx A H' q b k u []/\(∀m,look u m=if m∈zs.take i then look t m else none)/\u.length<=16*i
structure FI(A:zj)(H:Hp)(p q b k:Addr)(n:Str)(l:List Int)(u:Tab)(ZL:List Str)(j:Nat)(σ:L2.St)(H':Hp):Prop where
 ex:∃t1 t3,σ=[some (V.ref p),some (.ref q),some (.str n),t1,some (.int l.length),t3]
 but:But p H H'
 wd:zJ A H' p (((l.drop j).map λx=>(toString x:Str))++ZL)
 fl:∃u',zx A H' q b k u' []/\lk u' n=l.take j/\(∀m,m≠n->look u' m=look u m)/\(0<j->look u' n=some (l.take j))/\u'.length<=u.length+j
def vB(A:zj):Sp:=λvs H Q _=>∃(p:Addr)(t:Tab)(ZL:List Str),vs=[.ref p]/\zJ A H p (aH t++ZL)/\aS t/\∀q b k u H',But p H H'->H q=none->H b=none->H k=none->zx A H' q b k u []->zN u t->zJ A H' p ZL->Q (.ref q) H'
theorem eY:zu ["words",WG,"name","number",Wp,"place"] W0 (zk mQ):=fsc
theorem CP(F:Fun K "take_table" "take_table" mQ f fd)(T:Txt K mg A)(Zr:GC P w K mg base true 1 "Files" A.kn ZY (gF A))(Z8:GM P w K mg base true 3 A.Words Wy ZY (iw A))(ZT:GF P w K mg base true 4 Ww WN (kC A))(ZM:GM P w K mg base true 4 A.kn "put" XH (jU A)):zp P w K mg base CX0 true 5 f fd W0 (vB A):=by
 refine F.o eY λZP Ar outer s H vs Q E hr h=>?_;obtain ⟨p,t,ZL,rfl,hW,gm,q⟩:=h;have hu:_<cLine:=KH (zM hr);refine ⟨_,(W.h (zh (zw (i:=1) eY.nd rfl (J5 rfl) (jR Zr hr rfl))
   (zh (zw (i:=2) eY.nd rfl (J5 rfl) aC)
   (zh (aW Lh.never (λ_=>rfl) (dh rfl T.rd (za (zO (zb 0) T.kz Z8 hr) zd)) (zD (i:=3) eY.nd rfl (J5 rfl))
   (zh (zw (i:=2) eY.nd rfl (J5 rfl) (zt ZT hr rfl (za (zb 0) (za (zb 2) zd))))
   (zh (zw (i:=4) eY.nd rfl (J5 rfl) (zO (zb 0) T.kz Z8 hr))
   (zh (zW (ah (da hu) (zb 4) zo (z6 _))
   (zi bJ)
   z9)
   (zi (aW Lh.never (λ_=>rfl) (dh rfl T.rd (za (zb 4) zd)) (zD (i:=5) eY.nd rfl (J5 rfl))
   (zi (ai (aN (zb 1) T.hE ZM hr (za (zb 2) (za (zb 5) (za (zO (zb 0) T.kz Z8 hr) zd))))))))))))
   (zi (zA (zb 1))))))),?_⟩
 have gl:=gm.len;ac_rfl;refine λx Ya H2 nI=>⟨x,Ya,rfl,nI.at_,λb1 k1 H3 s3 nb nk eb ek bp ex=>⟨rfl,?_⟩⟩;have px:∀c o,H c=some o->c≠x:=λc o e z=>by have:=nI.no;rw [<- z,e] at this;cases this
 have a3:ze H H3:=λc o e=>s3 c o (px c o e) (nI.same c o e);have b0:H b1=none:=nI.same.free nb;have k0:H k1=none:=nI.same.free nk;have F3:zx A H3 x b1 k1 [] []:=⟨⟨Ya,ex⟩,⟨⟨[],eb,.nil⟩,by simp [names]⟩,⟨[],ek,.nil⟩,by simp [names],bp⟩;have W3:=hW.same a3;obtain ⟨dx,wl,pre,e1,e2,r⟩:=W3.ex;erw [e1,cY];refine ⟨p,t.length,aF t (zr (names t))++ZL,rfl,W3,by omega,by omega,λH4 b4 ba=>?_⟩;have F4:=F3.OA b4 W3;ac_rfl;have sl:(zr (names t)).length=t.length:=by rw [(zY _).1.length_eq];simp [names]
 have ris:=sh gm.nd;have b2:(zr (names t)).Nodup:=(zY _).1.nodup_iff.mpr gm.nd;have el:((t.length:Nat):Int).toNat=(zr (names t)).length:=by rw [sl];omega
 rw [el];have bq:But p H H4:=(But.of a3).trans b4;refine ⟨by omega,by omega,aa.rng (C7 A H p x b1 k1 t (zr (names t)) ZL) ⟨⟨_,_,_,rfl⟩,bq,ba,⟨[],F4,by simp [look],by simp⟩⟩ ?_ ?_⟩
 .rintro i σ H' hi ⟨⟨t1,t2,t3,rfl⟩,bt,G,u,S,J,Xy⟩;have U:(zr (names t))[i]?=some (zr (names t))[i]:=JQ hi;generalize (zr (names t))[i]=n at U;have Yn:=(zY _).1.mem_iff.mp (Kn U);obtain ⟨l,hl,el,l1,l2,lx⟩:=gm.lk Yn;have a5:=gm.nm n Yn;rw [CM U,el] at G;ac_rfl;refine ⟨p,_,n,_,rfl,G,a5,qd ris U (fm a5).one,λH5 b5 Z=>?_⟩;have F5:=S.OA b5 G;obtain ⟨ct,c3,b7,b3,_⟩:=Z.ex;erw [b3,cY];refine ⟨p,l.length,_,rfl,Z,by omega,by omega,λH6 b6 a7=>?_⟩;have F6:=F5.OA b6 Z;have a8:decide ((l.length:Int)=0)=false:=decide_eq_false (by omega);erw [a8];have a9:((l.length:Nat):Int).toNat=l.length:=by omega
  rw [a9];have nu:look u n=none:=by rw [J,if_neg (xv b2 U)]
  refine ⟨by omega,by omega,aa.rng (FI A H p x b1 k1 n l u (aF t ((zr (names t)).drop (i+1))++ZL)) ⟨⟨_,_,rfl⟩,(bt.trans b5).trans b6,by simpa using a7,u,F6,by unfold lk;rw [nu];rfl,λ_ _=>rfl,λz=>absurd z (by omega),by omega⟩ ?_ ?_⟩
  .rintro j σ H' hj ⟨⟨t1,t3,rfl⟩,bt,G,u',S,O,ab,a0,a4⟩;obtain ⟨c5,bx⟩:=S.ob;obtain ⟨c4,c6,cp,bb,_⟩:=G.ex;have aI:l[j]?=some l[j]:=JQ hj;have av:=lx l[j] (Lk hj);generalize l[j]=y at aI av;rw [jJ aI] at G;erw [bx,bb,oY,cY];refine ⟨p,y,_,rfl,G,av.1,av.2,λH8 b8 a6=>?_⟩;have F8:=S.OA b8 G;have ej:(0+(j:Int)).toNat=j:=by omega
   refine ⟨x,b1,k1,u',[],n,_,y,rfl,F8,by omega,?_,?_,?_,λH9 b9 F9=>?_⟩
   .rw [O,Kr];omega
   .rw [O,Kr];omega
   .omega
   .rw [ej,O,LH (by rw [Kr];omega),List.take_take,Nat.min_self,MB] at F9;have et:l.take j++[y]=l.take (j+1):=by rw [Kt,aI];rfl
    rw [et] at F9;obtain ⟨c2,bf,_⟩:=F8.hX.ex;refine ⟨⟨_,_,rfl⟩,(bt.trans b8).fresh b9 b0,a6.but b9 ⟨_,bf⟩,_,F9,?_,λm hm=>?_,λ_=>?_,?_⟩
    .unfold lk;rw [cc,if_pos rfl];rfl
    .rw [cc,if_neg hm];exact ab m hm
    .rw [cc,if_pos rfl]
    .have:=j4 (t:=u') (n:=n) (a:=l.take (j+1));omega
  .rintro σ H' ⟨⟨t1,t3,rfl⟩,bt,G,u',S,O,ab,a0,a4⟩;have h3:=a0 (by omega);rw [J2 (JY _)] at h3;refine ⟨⟨_,_,_,by rw [pR U]⟩,bt,by simpa using G,u',S,λm=>?_,by omega⟩;by_cases hm:m=n
   .rw [hm,h3,if_pos ((jk U).mpr (.inr rfl)),hl]
   .rw [ab m hm,J];have:m∈(zr (names t)).take (i+1)↔m∈(zr (names t)).take i:=by rw [jk U];simp [hm]
    simp only [this]
 .rintro σ H' ⟨⟨t1,t2,t3,rfl⟩,bt,G,u,S,J,Xy⟩;ac_rfl;rw [LH (JY _)] at G;refine q x b1 k1 u H' bt nI.no b0 k0 S (λm=>?_) (by simpa [aF] using G);rw [J,J2 (JY _)];by_cases hm:m∈zr (names t)
  .rw [if_pos hm]
  .rw [if_neg hm];exact (aV.mpr λz=>hm ((zY _).1.mem_iff.mpr z)).symm
end
abbrev kH:Stmt:=top 25
def KAl(ks ku:List (Str×Tab)):Prop:=∀n,(∃v w,look ks n=some v/\look ku n=some w/\zN v w/\(names v).Nodup)\/(look ks n=none/\look ku n=none)
theorem HR{zs:List Str}(h:zs[i]?=some n):ay ks (zs.drop i)=n::(aH (kkT ks n)++ay ks (zs.drop (i+1))):=by
 rw [jJ h];simp [ay]
theorem But.gone{p:Addr}(x:But p H H')(n:H p=none):ze H H':=λa o e=>x a o (λz=>by rw [<- z,e] at n;cases n) e
section
variable {P:JZ}{w:Ke}{K:Frag}{mg:Str->Option Value}{base:Heap}{A:zj}
structure FQ(A:zj)(H:Hp)(p q b k:Addr)(t:Tab)(ks:List (Str×Tab))(zs ZL:List Str)(i:Nat)(σ:L2.St)(H':Hp):Prop where
 ex:∃t1,σ=[some (V.ref p),some (.ref q),some (.str (i3 zs i)),t1]
 but:But p H H'
 wd:zJ A H' p (ay ks (zs.drop i)++ZL)
 fl:∃u us,zx A H' q b k u us/\zN u t/\(∀m,(m∉zs.take i/\look us m=none)\/(m∈zs.take i/\∃x y,look us m=some x/\look ks m=some y/\zN x y/\(names x).Nodup))/\us.length<=i
def uj(A:zj):Sp:=λvs H Q _=>∃(p:Addr)(t:Tab)(ks:List (Str×Tab))(ZL:List Str),vs=[.ref p]/\zJ A H p (aB t ks++ZL)/\aS t/\cx ks/\∀q b k u us H',But p H H'->H q=none->H b=none->H k=none->zx A H' q b k u us->zN u t->KAl us ks->zJ A H' p ZL->Q (.ref q) H'
theorem gN:zu ["words",WG,"name","number"] W0 (zk kH):=fsc
theorem Be(F:Fun K "take_files" "take_files" kH f fd)(T:Txt K mg A)(Zh:GF P w K mg base true 5 "take_table" W0 (vB A))(Z8:GM P w K mg base true 3 A.Words Wy ZY (iw A))(ZT:GF P w K mg base true 4 Ww WN (kC A))(Zv:GM P w K mg base true 4 A.kn "keep" Xa (kS A)):zp P w K mg base CX0 true 6 f fd W0 (uj A):=by
 refine F.o gN λZP Ar outer s H vs Q E hr h=>?_;obtain ⟨p,t,ks,ZL,rfl,hW,gm,gk,q⟩:=h;have eW:aB t ks++ZL=aH t++((toString (ks.length:Int):Str)::(ay ks (zr (names ks))++ZL)):=by unfold aB;simp
 rw [eW] at hW;refine ⟨_,(W.h (zh (zw (i:=1) gN.nd rfl (J5 rfl) (zt Zh hr rfl (za (zb 0) zd)))
   (zh (zw (i:=2) gN.nd rfl (J5 rfl) aC)
   (zh (aW Lh.never (λ_=>rfl) (dh rfl T.rd (za (zO (zb 0) T.kz Z8 hr) zd)) (zD (i:=3) gN.nd rfl (J5 rfl))
   (zh (zw (i:=2) gN.nd rfl (J5 rfl) (zt ZT hr rfl (za (zb 0) (za (zb 2) zd))))
   (zi (ai (aN (zb 1) T.hE Zv hr (za (zb 2) (za (zt Zh hr rfl (za (zb 0) zd)) zd)))))))
   (zi (zA (zb 1))))))),?_⟩
 have kl:=gk.len;ac_rfl;refine ⟨p,t,_,rfl,hW,gm,λx b1 k1 u0 H3 a7 x0 b0 k0 F3 al W3=>?_⟩;obtain ⟨dx,wl,pre,e1,e2,r⟩:=W3.ex;erw [e1,cY];refine ⟨p,ks.length,ay ks (zr (names ks))++ZL,rfl,W3,by omega,by omega,λH4 b4 a3=>?_⟩;have F4:=F3.OA b4 W3;ac_rfl;have sl:(zr (names ks)).length=ks.length:=by rw [(zY _).1.length_eq];simp [names]
 have ris:=sh gk.nd;have a8:(zr (names ks)).Nodup:=(zY _).1.nodup_iff.mpr gk.nd;have el:((ks.length:Nat):Int).toNat=(zr (names ks)).length:=by rw [sl];omega
 rw [el];have aI:But p H H4:=a7.trans b4;refine ⟨by omega,by omega,aa.rng (FQ A H p x b1 k1 t ks (zr (names ks)) ZL) ⟨⟨_,rfl⟩,aI,a3,u0,[],F4,al,by simp [look],by simp⟩ ?_ ?_⟩
 .rintro i σ H' hi ⟨⟨t1,rfl⟩,bt,S,u,us,hF,O,J,Xy⟩;have G:(zr (names ks))[i]?=some (zr (names ks))[i]:=JQ hi;generalize (zr (names ks))[i]=n at G;have Yn:=(zY _).1.mem_iff.mp (Kn G);obtain ⟨y,hy,ey,gy⟩:=gk.lk Yn;have Z:=gk.nm n Yn;rw [HR G,ey,Nm,LI] at S;ac_rfl;refine ⟨p,_,n,_,rfl,S,Z,qd ris G (fm Z).one,λH5 b5 U=>?_⟩;have F5:=hF.OA b5 S;obtain ⟨a9,a4⟩:=F5.ob;erw [a4,uX];refine ⟨p,y,_,rfl,U,gy,λq6 b6 k6 u6 H6 av _ _ _ F6 a5 a6=>?_⟩;have ab:=F5.OA av U;obtain ⟨ba,a0,_⟩:=ab.kept;refine ⟨x,b1,k1,u,us,n,q6,u6,rfl,ab,F6.has,by omega,λH7 b7 F7 _=>⟨⟨_,by rw [pR G]⟩,((bt.trans b5).trans av).fresh b7 k0,a6.but b7 ⟨_,a0⟩,u,_,F7,O,λm=>?_,?_⟩⟩
  .by_cases hm:m=n
   .exact .inr ⟨(jk G).mpr (.inr hm),u6,y,by rw [cc,if_pos hm],by rw [hm];exact hy,a5,F6.hX.nd⟩
   .rw [cc,if_neg hm];have:m∈(zr (names ks)).take (i+1)↔m∈(zr (names ks)).take i:=by rw [jk G];simp [hm]
    rw [this];exact J m
  .have:=j4 (t:=us) (n:=n) (a:=u6);omega
 .rintro σ H' ⟨⟨t1,rfl⟩,bt,S,u,us,hF,O,J,Xy⟩;ac_rfl;rw [LH (JY _)] at S;refine q x b1 k1 u us H' bt x0 b0 k0 hF O (λm=>?_) (by simpa [ay] using S);have h:=J m;rw [J2 (JY _)] at h;rcases h with ⟨h1,h2⟩|⟨_,h⟩
  .exact .inr ⟨h2,aV.mpr λz=>h1 ((zY _).1.mem_iff.mpr z)⟩
  .exact .inl h
theorem AZ(t:Tab)(ks:List (Str×Tab)):∃v ws,aB t ks=v::ws:=⟨_,_,by unfold aB aH;rw [Nm]⟩
abbrev kP:Stmt:=top 47
abbrev mr:Stmt:=top 49
def MdP(H:Hp)(a:Addr)(v:V)(l:List Int):Prop:=∃p,v = .ref p/\H p=some (.lst (l.map V.int))/\p≠a
structure zX(H:Hp)(a d:Addr)(u:Tab):Prop where
 ex:∃kvs,H d=some (.dK (sk kvs))/\Dct (MdP H a) kvs u
 nd:(names u).Nodup
def cE(a b d:Addr)(H H':Hp):Prop:=∀c o,c≠a->c≠b->c≠d->H c=some o->H' c=some o
theorem cE.a{a b d:Addr}(s:But a H H'):cE a b d H H':=λc o n _ _ e=>s c o n e
theorem cE.b{a b d:Addr}(s:But b H H'):cE a b d H H':=λc o _ n _ e=>s c o n e
theorem cE.d{a b d:Addr}(s:But d H H'):cE a b d H H':=λc o _ _ n e=>s c o n e
theorem zX.same{a d:Addr}(h:zX H a d u)(s:ze H H'):zX H' a d u:=let ⟨kvs,e,r⟩:=h.ex;⟨⟨kvs,s _ _ e,r.imp λv l ⟨p,e,z,n⟩=>⟨p,e,s _ _ z,n⟩⟩,h.nd⟩
theorem zX.dic{a d c:Addr}(h:zX H a d u)(s:But c H H')(hc:H c=some (.dK J))(n:d≠c):zX H' a d u :=
 let ⟨kvs,e,r⟩:=h.ex;⟨⟨kvs,s _ _ n e,r.imp λv l ⟨p,G,F,n⟩=>⟨p,G,s _ _ (λz=>by rw [z,hc] at F;cases F) F,n⟩⟩,h.nd⟩
theorem zX.qf{a d:Addr}(h:zX H a d u)(s:But a H H')(G:Pot H a):zX H' a d u :=
 let ⟨kvs,e,r⟩:=h.ex;let ⟨_,_,ea,_⟩:=G.ex;⟨⟨kvs,s _ _ (λz=>by rw [z,ea] at e;cases e) e,r.imp λv l ⟨p,F,J,n⟩=>⟨p,F,s _ _ n J,n⟩⟩,h.nd⟩
theorem zx.qf{p b k a:Addr}{t:Tab}(h:zx A H p b k t ks)(s:But a H H')(z:Pot H a):zx A H' p b k t ks:=let ⟨_,_,e,_⟩:=z.ex;h.PM s e .lst
theorem Pot.dic{a c:Addr}(G:Pot H a)(s:But c H H')(e:H c=some (.dK kvs)):Pot H' a:=let ⟨x,y,F,r⟩:=G.ex;⟨⟨x,y,s _ _ (λz=>by rw [z,e] at F;cases F) F,r⟩⟩
theorem zZ.keep{p b k c:Addr}{t:Tab}(h:zx A H p b k t ks)(av:zZ A H k c)(s1:∀kv,H k=some (.dK kv)->H' k=some (.dK kv))(s2:∀{q C dx:Addr}{fs:List (Str×V)},H q=some (.ins C dx fs)->H' q=some (.ins C dx fs)):zZ A H' k c:=by
 obtain ⟨kk,Z,d2⟩:=h.kept;intro Xh hk pv X6 q b' k' XX J F;have h2:=s1 _ Z;rw [h2] at hk;cases hk;unfold sk at X6;obtain ⟨p',Xo,rfl⟩:=KL.mp X6;have hq:∃z S U,H q=some (.ins A.kn z (zG S U)):=by
  obtain ⟨j,hj,ej⟩:=LD Xo;obtain ⟨a2,_,q2,b2,k2,G,O,_⟩:=Dct.at d2 (JQ hj);have J:p'.2 = .ref q:=J;rw [ej,J] at G;cases G;obtain ⟨Ya,XG⟩:=O.ob;exact ⟨_,_,_,XG⟩
 obtain ⟨z,S,U,W⟩:=hq;have e3:=s2 W;rw [e3] at F;injection F with F
 injection F with _ _ F
 obtain ⟨r1,r2⟩:=iM F;subst r1 r2;exact av _ Z _ (by unfold sk;exact KL.mpr ⟨p',Xo,rfl⟩) q S U z J W
theorem zZ.same{p b k c:Addr}{t:Tab}(h:zx A H p b k t ks)(av:zZ A H k c)(s:ze H H'):zZ A H' k c:=av.keep h (λ_ e=>s _ _ e) λe=>s _ _ e
theorem zZ.qf{p b k c a:Addr}{t:Tab}(h:zx A H p b k t ks)(av:zZ A H k c)(s:But a H H')(F:Pot H a):zZ A H' k c :=
 let ⟨_,_,ea,_⟩:=F.ex;av.keep h (λ_ e=>s _ _ (λz=>by rw [z,ea] at e;cases e) e) λe=>s _ _ (λz=>by rw [z,ea] at e;cases e) e
theorem zZ.dic{p b k c x:Addr}{t:Tab}(h:zx A H p b k t ks)(av:zZ A H k c)(s:But x H H')(hx:H x=some (.dK F))(n:k≠x):zZ A H' k c :=
 av.keep h (λ_ e=>s _ _ n e) λe=>s _ _ (λz=>by rw [z,hx] at e;cases e) e
theorem zX.get{a:Addr}(d:Dct (MdP H a) kvs u)(n:Str){p:Addr}(s:ze H H')(O:H' p=some (.lst []))(G:p≠a):∃r,(look kvs n).getD (.ref p) = .ref r/\H' r=some (.lst ((lk u n).map V.int))/\r≠a:=by
 unfold lk;rcases d.look n with ⟨v,l,z,F,r,S,hr,J⟩|⟨z,F⟩
 .rw [z,F];exact ⟨r,S,s _ _ hr,J⟩
 .rw [z,F];exact ⟨p,rfl,O,G⟩
theorem zx.dic{p b k c:Addr}{t:Tab}(h:zx A H p b k t ks)(av:zZ A H k c)(s:But c H H')(hc:H c=some (.dK kv))(n1:b≠c)(n2:k≠c):zx A H' p b k t ks/\zZ A H' k c:=by
 obtain ⟨dx,e⟩:=h.ob;obtain ⟨kvs,e1,d⟩:=h.hX.ex;obtain ⟨kk,S,d2⟩:=h.kept;have ni:∀{q C dx:Addr}{fs:List (Str×V)},H q=some (.ins C dx fs)->H' q=some (.ins C dx fs):=λ{q C dx fs} e=>s _ _ (λz=>by rw [z,hc] at e;cases e) e;refine ⟨⟨⟨dx,ni e⟩,h.hX.but s (λxs z=>by rw [hc] at z;cases z) n1,⟨kk,s _ _ n2 S,?_⟩,h.xy,h.ne⟩,?_⟩
 .have mem:∀p∈kk,∀q J k' dx,p.2 = .ref q->H q=some (.ins A.kn dx (zG J k'))->J≠c/\k'≠c:=λp hp q J k' dx G F=>av _ S (.inr p.1,p.2) (by unfold sk;exact KL.mpr ⟨p,hp,rfl⟩) q J k' dx G F;clear S av h
  induction d2 with
  | nil=>exact .nil
  | cons z _ ih =>
   refine .cons ⟨z.1,?_⟩ (ih λp hp=>mem p (Kc _ hp));obtain ⟨q,J,k',G,hB,nn⟩:=z.2;obtain ⟨ab,F⟩:=hB.ob;obtain ⟨m1,m2⟩:=mem _ Kg q J k' ab G F;exact ⟨q,J,k',G,hB.but s hc m1 m2,nn⟩
 .intro Xh hk pv X6 q J k' XX G F;have h2:=s _ _ n2 S;rw [h2] at hk;cases hk;unfold sk at X6;obtain ⟨p',Xo,rfl⟩:=KL.mp X6;have hq:∃O Z k0,H q=some (.ins A.kn O (zG Z k0)):=by
   obtain ⟨j,hj,ej⟩:=LD Xo;obtain ⟨a2,_,q2,b2,k2,U,W,_⟩:=Dct.at d2 (JQ hj);have G:p'.2 = .ref q:=G;rw [ej,G] at U;cases U;obtain ⟨Ya,XG⟩:=W.ob;exact ⟨_,_,_,XG⟩
  obtain ⟨O,Z,k0,e0⟩:=hq;have e3:=ni e0;rw [e3] at F;injection F with F
  injection F with _ _ F
  obtain ⟨r1,r2⟩:=iM F;subst r1 r2;exact av _ S _ (by unfold sk;exact KL.mpr ⟨p',Xo,rfl⟩) q Z k0 O G e0
def wL:Sp:=λvs H Q _=>∃(a:Addr),vs=[.ref a]/\Pot H a/\∀(r:Int) H',But a H H'->Pot H' a->0<=r->r<10 ^ 17->Q (.int r) H'
theorem G7:zu XZ XZ (zk kP):=fsc
theorem Jn(F:Fun K "_law_birth" "_law_birth" kP f fd)(T:Txt K mg A)(S:GF P w K mg base true 1 WH YR cK):zp P w K mg base CX0 true 2 f fd XZ wL:=by
 refine F.o G7 λZP Ar outer s H vs Q E hr h=>?_;obtain ⟨a,rfl,hP,q⟩:=h;refine ⟨_,(W.h (zi (zA (zQ cu (aj (za (zt S hr rfl (za (zb 0) (za zo zd))) (za (zt S hr rfl (za (zb 0) (za (zB jQ zo zo) zd))) zd))) (zB o8 (zt S hr rfl (za (zb 0) (za zo zd))) zo) (λ_ _=>rfl))))),?_⟩;ac_rfl;refine ⟨a,12,rfl,hP,by decide,by decide,λr1 H1 b1 P1 O ab=>⟨⟨by decide,by decide,by decide⟩,a,_,rfl,P1,by decide,by decide,λr2 H2 b2 P2 U J=>⟨by decide,λp H3 G _=>⟨a,4,rfl,P2.same G.same,by decide,by decide,λZ H4 b4 P4 aI av=>?_⟩⟩⟩⟩;have pa:p≠a:=P2.ne G.no;have hp:=b4 _ _ pa G.at_;have bb:But a H H4:=((b1.trans b2).trans (.of G.same)).trans b4;ac_rfl;refine ⟨⟨by decide,by decide⟩,_,.inl hp,?_⟩;have z:r2<10 ^ 17:=J;by_cases h3:Z<3
 .have e:Z / 3=0:=by omega
  rw [e];exact ⟨_,eC,q r1 H4 bb P4 O (by omega)⟩
 .have e:Z / 3=1:=by omega
  rw [e];exact ⟨_,eE,q r2 H4 bb P4 U z⟩
def GdT(t:Tab):Prop:=∀p∈t,bC p.1=true/\∀x∈p.2,0<=x/\x<10 ^ 17
structure hJ(H:Hp)(a ml:Addr):Prop where
 ex:∃zs:List Str,H ml=some (.lst (zs.map V.str))/\0<zs.length/\zs.length<=10/\∀z∈zs,bC z=true
 ne:ml≠a
structure Bud(t:Tab)(ks:List (Str×Tab))(B:Nat):Prop where
 few:t.length<=B
 row:∀n,(lk t n).length<=B
 live:∃L:List Int,L.length<=B/\∀y∈au t ks,y∈L
 ne:∀n l,look t n=some l->l≠[]
 old:∀p∈ks,p.2.length<=B/\∀m,(lk p.2 m).length<=B
 gt:GdT t
 gk:∀p∈ks,bC p.1=true/\GdT p.2/\∀n l,look p.2 n=some l->l≠[]
theorem qw{t:Tab}:lk (zU t n l) m=if m=n then l else lk t m:=by
 unfold lk;rw [cc];split<;>rfl
theorem cO{t:Tab}:y∈zF t↔∃p∈t,y∈p.2:=by unfold zF;exact List.mem_flatMap
theorem Gv{t:Tab}(h:y∈zF (zU t z ((lk t z).take i++[x]++(lk t z).drop (i+1)))):y∈zF t\/y=x:=by
 obtain ⟨p,G,F⟩:=cO.mp h;have inl:y∈lk t z->y∈zF t:=λhl=>by
  unfold lk at hl;cases e:look t z with
  | none=>rw [e] at hl;cases hl
  | some l=>rw [e] at hl;exact cO.mpr ⟨_,bG e,hl⟩
 rcases fN G with G|rfl
 .exact .inl (cO.mpr ⟨p,G,F⟩)
 .rcases Kx.mp F with F|F
  .rcases Kx.mp F with F|F
   .exact .inl (inl (LJ F))
   .exact .inr (by simpa using F)
  .exact .inl (inl (List.mem_of_mem_drop F))
theorem Bud.put{t:Tab}(h:Bud t ks B)(hi:i<=(lk t z).length)(hz:bC z=true)(hx:0<=x/\x<10 ^ 17):Bud (zU t z ((lk t z).take i++[x]++(lk t z).drop (i+1))) ks (B+1):=by
 refine ⟨Kp j4 (Nat.succ_le_succ h.few),λn=>?_,?_,λn l e=>?_,λp G=>⟨LY (h.old p G).1,λm=>LY ((h.old p G).2 m)⟩,λp G=>?_,h.gk⟩
 .rw [qw];split
  .have:=h.row z;simp only [KB,Kr,NP,LA];omega
  .exact LY (h.row n)
 .obtain ⟨L,J,hm⟩:=h.live;refine ⟨L++[x],by rw [KB,LA];omega,λy F=>?_⟩;unfold au at F hm;rcases Kx.mp F with F|F
  .rcases Gv F with F|rfl
   .exact KC _ (hm y (KC _ F))
   .exact J0 _ (by simp)
  .exact KC _ (hm y (J0 _ F))
 .rw [cc] at e;split at e
  .cases e;simp
  .exact h.ne n l e
 .rcases fN G with G|rfl
  .exact h.gt p G
  .refine ⟨hz,λy F=>?_⟩;have inl:y∈lk t z->0<=y/\y<10 ^ 17:=λhl=>by
    unfold lk at hl;cases e:look t z with
    | none=>rw [e] at hl;cases hl
    | some l=>rw [e] at hl;exact (h.gt _ (bG e)).2 y hl
   rcases Kx.mp F with F|F
   .rcases Kx.mp F with F|F
    .exact inl (LJ F)
    .rw [KS] at F;rw [F];exact hx
   .exact inl (List.mem_of_mem_drop F)
def kG(A:zj):Sp:=λvs H Q _=>∃(a p d b k ml:Addr)(t u:Tab)(ks:List (Str×Tab))(B:Nat),vs=[.ref a,.ref p,.ref d,.ref ml]/\hJ H a ml/\Pot H a/\zx A H p b k t ks/\zX H a d u/\zN t u/\d≠b/\d≠k/\zZ A H k d/\Bud t ks B/\B<=100 /\
 ∀(t' z:Tab) H',cE a b d H H'->Pot H' a->zx A H' p b k t' ks->zX H' a d z->zN t' z->zZ A H' k d->Bud t' ks (B+1)->Q .non H'
theorem gA:zu ["_law_pot_here","_law_files_here","_law_plain","_law_menu","_law_name","_law_births","_law_place","_law_birth_here"] XE (zk mr):=fsc
theorem HS(F:Fun K "_law_put" "_law_put" mr f fd)(T:Txt K mg A)(Z2:GF P w K mg base true 2 Wz Yy ij)(Z9:GF P w K mg base true 1 WH YR cK)(Za:GF P w K mg base true 2 "_law_birth" XZ wL)(ZM:GM P w K mg base true 4 A.kn "put" XH (jU A)):zp P w K mg base CX0 true 5 f fd XE (kG A):=by
 refine F.o gA λZP Ar outer s H vs Q E hr h=>?_;obtain ⟨a,p,d,b,k,ml,t,u,ks,B,rfl,hM,hP,hF,hD,al,db,dk,av,bud,hB,q⟩:=h;refine ⟨_,(W.h (zh (zw (i:=4) gA.nd rfl (J5 rfl) (zt Z2 hr rfl (za (zb 0) (za (zb 3) zd))))
   (zh (zw (i:=5) gA.nd rfl (J5 rfl) (kT (zM hr) (zb 2) (zb 4) (aj zd)))
   (zh (zw (i:=6) gA.nd rfl (J5 rfl) (zt Z9 hr rfl (za (zb 0) (za (zB bg (zK cP rfl T.r0 KA (za (zb 5) zd)) zo) zd))))
   (zh (zw (i:=7) gA.nd rfl (J5 rfl) (zt Za hr rfl (za (zb 0) zd)))
   (zh (ai (aN (zb 1) T.hE ZM hr (za (zb 4) (za (zb 6) (za (zb 7) zd)))))
   (zi (cT (zB bg (zB bg (dR fM (zb 5) dO (dS (zb 6))) (aj (za (zb 7) zd))) (dR fM (zb 5) (dS (zB bg (zb 6) zo)) dO)) (dj (zb 2) (zb 4) (eB (zM hr))))))))))),?_⟩
 ac_rfl;obtain ⟨zs,ez,z0,z1,zn⟩:=hM.ex;refine ⟨a,hP,.inl ⟨ml,_,rfl,hM.ne,.inl ez,by rw [JS];exact z0,by rw [JS];omega,λv H2 hv b2 P2=>?_⟩⟩;obtain ⟨z,hz,rfl⟩:=KL.mp hv;have F2:=hF.qf b2 hP;have D2:=hD.qf b2 hP;have A2:=av.qf hF b2 hP;obtain ⟨kvs,aI,dd⟩:=D2.ex;ac_rfl;refine ⟨⟨_,.inl aI⟩,Lc _,λl3 H3 J _=>⟨_,.inl (J.same _ _ aI),?_⟩⟩;obtain ⟨r,er,a0,ra⟩:=zX.get dd z J.same J.at_ (P2.ne J.no);rw [aJ,er];have lz:(lk u z).length=(lk t z).length:=by unfold lk;rw [al z]
 have lB:=bud.row z;ac_rfl;refine ⟨_,.inl a0,?_⟩;rw [JS];have P3:=P2.same J.same;refine ⟨a,_,rfl,P3,by omega,by omega,λi H4 b4 P4 i0 i1=>⟨a,rfl,P4,λx H5 b5 P5 x0 x1=>?_⟩⟩;have F5:=((F2.same J.same).qf b4 P3).qf b5 P4;have D5:=((D2.same J.same).qf b4 P3).qf b5 P4;have A5:=((A2.same F2 J.same).qf (F2.same J.same) b4 P3).qf ((F2.same J.same).qf b4 P3) b5 P4;have ab:=b5 _ _ ra (b4 _ _ ra a0);obtain ⟨a8,e5⟩:=F5.ob;erw [e5,oY];refine ⟨p,b,k,t,ks,z,i,x,rfl,F5,i0,by omega,by omega,by have:=bud.few;omega,λH6 b6 F6=>?_⟩;ac_rfl;obtain ⟨a9,S,_⟩:=F5.hX.ex;have rb:r≠b:=λz=>by rw [z,S] at ab;cases ab
 have a3:=b6 _ _ rb ab;have D6:=D5.dic b6 S db;have A6:=A5.dic F5 b6 S hF.ne.symm;have P6:=P5.dic b6 S;have a5:=fE al hF.hX.nd hD.nd;have tB:=bud.few;have c1:aQ ((lk u z).map V.int) none (some i)=((lk u z).take i.toNat).map V.int:=by rw [j5 i0 (by rw [JS];omega),map_take]
 have c2:aQ ((lk u z).map V.int) (some (i+1)) none=((lk u z).drop (i.toNat+1)).map V.int:=by rw [sT (by omega) (by rw [JS];omega),show (i+1).toNat=i.toNat+1 by omega,List.map_drop]
 refine ⟨_,a3,λl7 H7 n7=>⟨by decide,λl8 H8 n8 _=>⟨_,n8.same _ _ n7.at_,_,n8.at_,?_,λl9 H9 n9=>⟨_,n9.same _ _ (n8.same _ _ (n7.same _ _ a3)),λba a6 O=>⟨_,O.same _ _ n9.at_,_,O.at_,?_,λU H11 Z=>?_⟩⟩⟩⟩⟩
 .rw [c1,JS,Kr];exact Kp (show _<=1000 by simp only [LA];omega) (by decide)
 .rw [c1,c2,KB,JS,JS,Kr,NP];exact Kp (show _<=1000 by simp only [LA];omega) (by decide)
 have G:ze H6 H11:=(((n7.same.trans n8.same).trans n9.same).trans O.same).trans Z.same;have a4:=D6.same G;obtain ⟨kv,eD,X7⟩:=a4.ex;refine ⟨_,eD,by rw [bS,X7.length,<- a5];exact Ku (show t.length<=1000 by omega) (by decide),?_⟩;rw [eO];have a7:Pot a6 a:=P6.same (((n7.same.trans n8.same).trans n9.same).trans O.same);have la:U≠a:=a7.ne Z.no;have X9:H11 U=some (.lst (((lk u z).take i.toNat++[x]++(lk u z).drop (i.toNat+1)).map V.int)):=by
  rw [Z.at_,c1,c2,Kz,Kz];rfl
 obtain ⟨F',A'⟩:=(F6.same G).dic (A6.same F6 G) But.upd eD db.symm dk.symm;have lu:lk u z=lk t z:=by unfold lk;rw [al z]
 rw [lu] at X9;refine q _ _ _ (λc o m1 m2 m3 e=>?_) ((P6.same G).dic But.upd eD) F' ⟨⟨_,zq,(X7.put z ⟨U,rfl,X9,la⟩).imp λv l ⟨p,ev,hp,n⟩=>⟨p,ev,by rw [zf (λzz=>by rw [zz,eD] at hp;cases hp)];exact hp,n⟩⟩,fW hD.nd⟩ (al.put z _) A' (bud.put (by omega) (zn z hz) ⟨x0,x1⟩);rw [zf m3];exact G _ _ (b6 _ _ m2 (b5 _ _ m1 (b4 _ _ m1 (J.same _ _ (b2 _ _ m1 e)))))
abbrev ph:Stmt:=top 50
theorem rY{t:Tab}{p:Str×List Int}(h:p∈zE t n):p∈t:=by unfold zE at h;exact (NB.mp h).1
theorem Fy{t:Tab}{l a:List Int}(h:look t n=some l):(zU t n a).length=t.length:=by
 have e:names (zU t n a)=names t:=by rw [tY,h];rfl
 have:=congrArg length e;unfold names at this;rw [JS,JS] at this;exact this
theorem Bud.cut{t:Tab}{m:Int}(h:Bud t ks B)(hl:look t z=some l)(m0:0<=m)(m1:m<=l.length):Bud (cD t z m) ks B:=by
 have O:lk t z=l:=by unfold lk;rw [hl];rfl
 have sub:∀y∈zF (cD t z m),y∈zF t:=λy G=>by
  obtain ⟨p,F,J⟩:=cO.mp G;unfold cD at F;split at F
  .exact cO.mpr ⟨p,rY F,J⟩
  .rcases fN F with F|rfl
   .exact cO.mpr ⟨p,F,J⟩
   .rw [O] at J;exact cO.mpr ⟨_,bG hl,LJ J⟩
 obtain ⟨L,W,hm⟩:=h.live;refine ⟨?_,λn=>?_,⟨L,W,λy G=>?_⟩,λn l' e=>?_,h.old,λp F=>?_,h.gk⟩
 .unfold cD;split
  .unfold zE;exact Kp (Ms ..) h.few
  .rw [Fy hl];exact h.few
 .unfold cD;split
  .unfold lk;rw [eI];split
   .exact Lc _
   .exact h.row n
  .rw [qw];split
   .rw [Kr];exact Kp (Nat.min_le_right _ _) (h.row z)
   .exact h.row n
 .unfold au at G hm;rcases Kx.mp G with G|G
  .exact hm y (KC _ (sub y G))
  .exact hm y (J0 _ G)
 .unfold cD at e;split at e
  .rw [eI] at e;split at e
   .cases e
   .exact h.ne n l' e
  .rename_i Z;rw [cc] at e;split at e
   .cases e;rw [O];intro S;have:=congrArg length S;rw [Kr,NC] at this;have U:=MZ.mpr (h.ne z l hl);omega
   .exact h.ne n l' e
 .unfold cD at F;split at F
  .exact h.gt p (rY F)
  .rcases fN F with F|rfl
   .exact h.gt p F
   .rw [O];have g:=h.gt _ (bG hl);exact ⟨g.1,λy G=>g.2 y (LJ G)⟩
def nM(A:zj):Sp:=λvs H Q _=>∃(a p d b k:Addr)(t u:Tab)(ks:List (Str×Tab))(B:Nat),vs=[.ref a,.ref p,.ref d]/\Pot H a/\zx A H p b k t ks/\zX H a d u/\zN t u/\d≠b/\d≠k/\zZ A H k d/\Bud t ks B/\B<=40/\u≠[] /\
 ∀(t' z:Tab) H',cE a b d H H'->Pot H' a->zx A H' p b k t' ks->zX H' a d z->zN t' z->zZ A H' k d->Bud t' ks B->Q .non H'
theorem jH:zu ["_law_pot_here","_law_files_here","_law_plain","_law_name","_law_many","_law_births"] Xb (zk ph):=fsc
theorem Gj(F:Fun K "_law_cut" "_law_cut" ph f fd)(T:Txt K mg A)(Z2:GF P w K mg base true 2 Wz Yy ij)(Z9:GF P w K mg base true 1 WH YR cK)(YV:GM P w K mg base true 4 A.kn "cut" WW (sJ A)):zp P w K mg base CX0 true 5 f fd Xb (nM A):=by
 refine F.o jH λZP Ar outer s H vs Q E hr h=>?_;obtain ⟨a,p,d,b,k,t,u,ks,B,rfl,hP,hF,hD,al,db,dk,av,bud,hB,a5,q⟩:=h;have hu:_<cLine:=KH (zM hr);refine ⟨_,(W.h (zh (zw (i:=3) jH.nd rfl (J5 rfl) (zt Z2 hr rfl (za (zb 0) (za (zK (dJ rfl) rfl T.ny LO (za (zb 2) zd)) zd))))
   (zh (zw (i:=4) jH.nd rfl (J5 rfl) (zt Z9 hr rfl (za (zb 0) (za (zB bg (zK cP rfl T.r0 KA (za (zQ (c0 (zM hr)) (zb 2) (zb 3) (λ_ _=>rfl)) zd)) zo) zd))))
   (zh (ai (aN (zb 1) T.hE YV hr (za (zb 3) (za (zb 4) zd))))
   (zh (zw (i:=5) jH.nd rfl (J5 rfl) (dR fM (rZ (zb 2) (zb 3)) dO (dS (zb 4))))
   (zi (zW (ah (tE hu) (zb 5) (aj zd) (z6 _))
   (zi (cT (zb 5) (dj (zb 2) (zb 3) (eB (zM hr)))))
   z9))))))),?_⟩
 ac_rfl;obtain ⟨kvs,eD,dd⟩:=hD.ex;have bx:=fE al hF.hX.nd hD.nd;have tB:=bud.few;have bp:=dd.length;have bb:0<u.length:=MZ.mpr a5;have sl:(zr (kvs.map (·.1))).length=kvs.length:=by rw [(zY _).1.length_eq,JS]
 refine ⟨kvs,.inl eD,by omega,λln H1 U=>⟨a,hP.same U.same,.inl ⟨ln,_,rfl,hP.ne U.no,.inl U.at_,by rw [JS,sl];omega,by rw [JS,sl];omega,λv H2 hv b2 P2=>?_⟩⟩⟩;obtain ⟨z,hz,rfl⟩:=KL.mp hv;have a7:z∈names u:=by rw [<- dd.names];exact (zY _).1.mem_iff.mp hz
 have P1:=hP.same U.same;have F1:=hF.same U.same;have F2:=F1.qf b2 P1;have D2:=(hD.same U.same).qf b2 P1;have A2:=(av.same hF U.same).qf F1 b2 P1;obtain ⟨b1,a3,X8⟩:=D2.ex;rcases X8.look z with ⟨v,l,e1,Z,r,rfl,a8,ra⟩|⟨_,Z⟩
 case inr=>exact absurd a7 (aV.mp Z)
 have lB:l.length<=B:=by have:=bud.row z;unfold lk at this;rw [al z,Z] at this;exact this
 ac_rfl;refine ⟨_,.inl a3,_,by rw [aJ];exact e1,?_⟩;ac_rfl;refine ⟨_,.inl a8,?_⟩;rw [JS];refine ⟨a,_,rfl,P2,by omega,by omega,λm H3 b3 P3 m0 m1=>?_⟩;have F3:=F2.qf b3 P2;have D3:=D2.qf b3 P2;have A3:=A2.qf F2 b3 P2;obtain ⟨b0,e3⟩:=F3.ob;erw [e3,G0];refine ⟨p,b,k,t,ks,z,l,m,rfl,F3,by rw [al z];exact Z,m0,by omega,by omega,λH4 b4 F4=>?_⟩;obtain ⟨bq,S,_⟩:=F3.hX.ex;have D4:=D3.dic b4 S db;have A4:=A3.dic F3 b4 S hF.ne.symm;have P4:=P3.dic b4 S;obtain ⟨XR,G,X4⟩:=D4.ex;rcases X4.look z with ⟨v4,l4,a6,O,r4,rfl,aI,bf⟩|⟨_,O⟩
 case inr=>rw [Z] at O;cases O
 rw [Z] at O;cases O;have ba:r4≠d:=λzz=>by rw [zz,G] at aI;cases aI
 ac_rfl;refine ⟨⟨_,.inl G⟩,_,G,_,by rw [aJ];exact a6,?_⟩;rw [iU];have a0:upd H4 d (.dK (sk (zE XR z))) r4=some (.lst (l.map V.int)):=by rw [zf ba];exact aI
 ac_rfl;refine ⟨_,a0,λl5 H5 n5=>⟨by decide,λl6 H6 n6 _=>?_⟩⟩;have c1:aQ (l.map V.int) none (some m)=(l.take m.toNat).map V.int:=by rw [j5 m0 (by rw [JS];omega),map_take]
 rw [c1] at n5;have h5:=n6.same _ _ n5.at_;ac_rfl;have s6:ze (upd H4 d (.dK (sk (zE XR z)))) H6:=n5.same.trans n6.same;have J:=s6 _ _ zq;obtain ⟨F0,A0⟩:=F4.dic (A3.dic F3 b4 S hF.ne.symm) But.upd G db.symm dk.symm (H':=upd H4 d (.dK (sk (zE XR z))));have F6:=F0.same s6;have A6:=A0.same F0 s6;have P6:=(P4.dic (But.upd (o:=.dK (sk (zE XR z)))) G).same s6;have ab:Dct (MdP H6 a) (zE XR z) (zE u z):=(X4.drop z).imp λv l ⟨p,ev,hp,n⟩=>⟨p,ev,s6 _ _ (by rw [zf (λzz=>by rw [zz,G] at hp;cases hp)];exact hp),n⟩;have a9:l5≠a:=(P4.dic (But.upd (o:=.dK (sk (zE XR z)))) G).ne n5.no;have bt:cE a b d H H6:=λc o m1 m2 m3 e=>s6 _ _ (by rw [zf m3];exact b4 _ _ m2 (b3 _ _ m1 (b2 _ _ m1 (U.same _ _ e))));have ZK:look t z=some l:=by rw [al z];exact Z
 have hb:=bud.cut ZK m0 (show m<=l.length by omega);have b5:=MZ.mpr (bud.ne z l ZK);refine ⟨_,h5,_,n6.at_,.inr rfl,?_⟩;by_cases hm:m=0
 .subst hm;rw [if_neg (by simp)];exact q _ (zE u z) H6 bt P6 F6 ⟨⟨_,J,ab⟩,g6 hD.nd⟩ (by unfold cD;rw [if_pos rfl];exact al.drop z) A6 hb
 .rw [if_pos (by simp only [JS,Kr,NC,Nv,decide_eq_false_iff_not];omega)];refine ⟨_,J,by rw [bS,ab.length];unfold zE;exact Ku (Kp (Ms ..) (show u.length<=1000 by omega)) (by decide),?_⟩;rw [eO];obtain ⟨F',A'⟩:=F6.dic A6 But.upd J db.symm dk.symm (H':=upd H6 d (.dK (sk (zU (zE XR z) z (.ref l5)))));refine q _ (zU (zE u z) z (l.take m.toNat)) _ (λc o m1 m2 m3 e=>by rw [zf m3];exact bt _ _ m1 m2 m3 e) (P6.dic But.upd J) F' ⟨⟨_,zq,(ab.put z ⟨l5,rfl,h5,a9⟩).imp λv l ⟨p,ev,hp,n⟩=>⟨p,ev,by rw [zf (λzz=>by rw [zz,J] at hp;cases hp)];exact hp,n⟩⟩,fW (g6 hD.nd)⟩ (λn=>?_) A' hb;unfold cD;rw [if_neg hm,cc,cc,eI];have a4:lk t z=l:=by unfold lk;rw [ZK];rfl
  rw [a4];by_cases hn:n=z
  .rw [if_pos hn,if_pos hn]
  .rw [if_neg hn,if_neg hn,if_neg hn,al n]
abbrev kU:Stmt:=top 51
def KvR(H:Hp)(a:Addr)(X:List Addr)(v:V)(u:Tab):Prop:=∃e,v = .ref e/\e∉X/\zX H a e u
structure bE(H:Hp)(a:Addr)(X:List Addr)(kd:Addr)(ku:List (Str×Tab)):Prop where
 ex:∃kvs,H kd=some (.dK (sk kvs))/\Dct (KvR H a X) kvs ku
 nd:(names ku).Nodup
def aO(X:List Addr)(H H':Hp):Prop:=∀c o,c∉X->H c=some o->H' c=some o
theorem aO.of(s:ze H H'):aO X H H':=λc o _ e=>s c o e
theorem aO.trans(x:aO X H H1)(y:aO X H1 H2):aO X H H2:=λc o n e=>y c o n (x c o n e)
structure Rnd(A:zj)(H:Hp)(a p d kd b k:Addr)(t u:Tab)(ks ku:List (Str×Tab))(B:Nat):Prop where
 qf:Pot H a
 files:zx A H p b k t ks
 plain:zX H a d u
 kept:bE H a [b,k,d,kd] kd ku
 al:zN t u
 kal:KAl ks ku
 av:zZ A H k d
 QG:zZ A H k kd
 bud:Bud t ks B
 few:ks.length<=3
 ap:d≠b/\d≠k/\kd≠b/\kd≠k/\d≠kd
theorem Pot.Qd{a c:Addr}(F:Pot H a)(e:H c=some (.dK kvs)):c≠a:=λz=>by obtain ⟨x,y,G,_⟩:=F.ex;rw [z,G] at e;cases e
theorem zX.yz{a e:Addr}(h:zX H a e u)(s:aO (a::X) H H')(J:∀x∈X,∃kvs,H x=some (.dK kvs))(ne:e∉X)(O:e≠a):zX H' a e u:=by
 obtain ⟨kvs,G,d⟩:=h.ex;refine ⟨⟨kvs,s _ _ (by simp only [J1,not_or];exact ⟨O,ne⟩) G,d.imp λv l ⟨p,S,F,n⟩=>⟨p,S,s _ _ ?_ F,n⟩⟩,h.nd⟩;simp only [J1,not_or];refine ⟨n,λz=>?_⟩;obtain ⟨U,ex⟩:=J p z;rw [F] at ex;cases ex
theorem KvR.yz{a:Addr}(h:KvR H a Y v u)(s:aO (a::X) H H')(J:Pot H a)(O:∀x∈X,∃kvs,H x=some (.dK kvs))(sub:∀x∈X,x∈Y):KvR H' a Y v u:=by
 obtain ⟨e,G,ne,pl⟩:=h;obtain ⟨kvs,F,_⟩:=pl.ex;exact ⟨e,G,ne,pl.yz s O (λz=>ne (sub e z)) (J.Qd F)⟩
theorem zx.L0{p b k:Addr}{t:Tab}(h:zx A H p b k t ks):(∃kvs,H b=some (.dK kvs))/\∃kvs,H k=some (.dK kvs):=⟨let ⟨_,e,_⟩:=h.hX.ex;⟨_,e⟩,let ⟨_,e,_⟩:=h.kept;⟨_,e⟩⟩
theorem bE.yz{a kd:Addr}(h:bE H a Y kd ku)(s:aO (a::X) H H')(z:Pot H a)(F:∀x∈X,∃kvs,H x=some (.dK kvs))(sub:∀x∈X,x∈Y)(G:kd∉X):bE H' a Y kd ku :=
 let ⟨kvs,e,d⟩:=h.ex;⟨⟨kvs,s _ _ (by simp only [J1,not_or];exact ⟨z.Qd e,G⟩) e,d.imp λv u r=>r.yz s z F sub⟩,h.nd⟩
theorem Rnd.same{a p d kd b k:Addr}{t u:Tab}(R:Rnd A H a p d kd b k t u ks ku B)(s:ze H H'):Rnd A H' a p d kd b k t u ks ku B :=
 ⟨R.qf.same s,R.files.same s,R.plain.same s,R.kept.yz (X:=[]) (.of s) R.qf (λ_ h=>by cases h) (λ_ h=>by cases h) (λh=>by cases h),R.al,R.kal,R.av.same R.files s,R.QG.same R.files s,R.bud,R.few,R.ap⟩
theorem Rnd.Pl{a p d kd b k:Addr}{t u:Tab}(R:Rnd A H a p d kd b k t u ks ku B)(s:But a H H')(F:Pot H' a):Rnd A H' a p d kd b k t u ks ku B :=
 ⟨F,R.files.qf s R.qf,R.plain.qf s R.qf,R.kept.yz (X:=[]) (λc o n e=>s c o (λz=>n (by simp [z])) e) R.qf (λ_ h=>by cases h) (λ_ h=>by cases h) (λh=>by cases h),R.al,R.kal,R.av.qf R.files s R.qf,R.QG.qf R.files s R.qf,R.bud,R.few,R.ap⟩
theorem Bud.up{t:Tab}(h:Bud t ks B):Bud t ks (B+1) :=
 let ⟨L,hL,hm⟩:=h.live;⟨LY h.few,λn=>LY (h.row n),⟨L,LY hL,hm⟩,h.ne,λp z=>⟨LY (h.old p z).1,λm=>LY ((h.old p z).2 m)⟩,h.gt,h.gk⟩
theorem Rnd.done{a p d kd b k:Addr}{t u t' F:Tab}(R:Rnd A H a p d kd b k t u ks ku B)(s:cE a b d H H')(P':Pot H' a)(Z:zx A H' p b k t' ks)(D':zX H' a d F)(al:zN t' F)(av:zZ A H' k d)(bud:Bud t' ks B'):Rnd A H' a p d kd b k t' F ks ku B':=by
 obtain ⟨⟨kb,J⟩,kk,ek⟩:=R.files.L0;obtain ⟨kv,G,_⟩:=R.plain.ex;obtain ⟨a1,O,U,a4,S⟩:=R.ap;have sL:aO (a::[b,d]) H H':=λc o n e=>by
  simp only [J1,Kh,or_false,not_or] at n;exact s c o n.1 n.2.1 n.2.2 e
 have W:∀x∈[b,d],∃kvs,H x=some (.dK kvs):=λx hx=>by
  simp only [J1,Kh,or_false] at hx;rcases hx with rfl|rfl
  .exact ⟨_,J⟩
  .exact ⟨_,G⟩
 refine ⟨P',Z,D',R.kept.yz sL R.qf W (λx hx=>?_) ?_,al,R.kal,av,R.QG.keep R.files (λkv e=>s _ _ (R.qf.Qd e) R.files.ne.symm O.symm e) (λ{q C dx fs} e=>s _ _ (λz=>?_) (λz=>?_) (λz=>?_) e),bud,R.few,R.ap⟩
 .simp only [J1,Kh,or_false] at hx;rcases hx with rfl|rfl<;>simp
 .simp only [J1,Kh,or_false,not_or];exact ⟨U,S.symm⟩
 .obtain ⟨x,y,ea,_⟩:=R.qf.ex;rw [z,ea] at e;cases e
 .rw [z,J] at e;cases e
 .rw [z,G] at e;cases e
theorem KAl.drop(h:KAl ks ku)(z:Str):KAl (zE ks z) (zE ku z):=λn=>by
 rw [eI,eI];by_cases e:n=z
 .rw [if_pos e,if_pos e];exact .inr ⟨rfl,rfl⟩
 .rw [if_neg e,if_neg e];exact h n
theorem KAl.put{ks ku:List (Str×Tab)}{t u:Tab}(h:KAl ks ku)(z:Str)(al:zN t u)(nd:(names t).Nodup):KAl (zU ks z t) (zU ku z u):=λn=>by
 rw [cc,cc];by_cases e:n=z
 .rw [if_pos e,if_pos e];exact .inl ⟨t,u,rfl,rfl,al,nd⟩
 .rw [if_neg e,if_neg e];exact h n
theorem KAl.len{ks ku:List (Str×Tab)}(h:KAl ks ku)(J:(names ks).Nodup)(O:(names ku).Nodup):ks.length=ku.length:=by
 have p:(names ks).Perm (names ku):=(Lw J O).mpr λn=>by
  rcases h n with ⟨v,w,F,G,_⟩|⟨F,G⟩
  .exact ⟨λ_=>KY λz=>(by rw [aV.mpr z] at G;cases G),λ_=>KY λz=>(by rw [aV.mpr z] at F;cases F)⟩
  .exact ⟨λz=>absurd z (aV.mp F),λz=>absurd z (aV.mp G)⟩
 have:=p.length_eq;unfold names at this;rw [JS,JS] at this;exact this
theorem eh{t:Tab}:y∈au t ks↔y∈zF t\/∃p∈ks,y∈zF p.2:=by
 unfold au;rw [Kx,List.mem_flatMap]
theorem Bud.sub{t:Tab}(h:Bud t ks B)(s:∀p∈ks',p∈ks\/(p.2=t/\bC p.1=true)):Bud t ks' B:=by
 obtain ⟨L,G,hm⟩:=h.live;refine ⟨h.few,h.row,⟨L,G,λy z=>?_⟩,h.ne,λp F=>(s p F).elim (h.old p) λe=>by rw [e.1];exact ⟨h.few,h.row⟩,h.gt,λp F=>(s p F).elim (h.gk p) λe=>by rw [e.1];exact ⟨e.2,h.gt,h.ne⟩⟩;rcases eh.mp z with z|⟨p,F,z⟩
 .exact hm y (eh.mpr (.inl z))
 .rcases s p F with F|e
  .exact hm y (eh.mpr (.inr ⟨p,F,z⟩))
  .rw [e.1] at z;exact hm y (eh.mpr (.inl z))
theorem Rnd.free{a p d kd b k:Addr}{t u:Tab}(R:Rnd A H a p d kd b k t u ks ku B)(J:But k H H5)(U:zx A H5 p b k t (zE ks z))(Z:∀c,zZ A H k c->zZ A H5 k c)(XF:H kd=some (.dK (sk G)))(dd:Dct (KvR H a [b,k,d,kd]) G ku):
  H5 kd=some (.dK (sk G))/\Rnd A (upd H5 kd (.dK (sk (zE G z)))) a p d kd b k t u (zE ks z) (zE ku z) (B+1):=by
 obtain ⟨_,kk,O⟩:=R.files.L0;obtain ⟨a1,a2,a3,S,a5⟩:=R.ap;have F:=J _ _ S XF;have W:=R.qf.dic J O;obtain ⟨F6,K6⟩:=U.dic (Z kd R.QG) But.upd F a3.symm S.symm (H':=upd H5 kd (.dK (sk (zE G z))));have D5:=R.plain.dic J O a2;refine ⟨F,W.dic But.upd F,F6,D5.dic But.upd F a5,⟨⟨_,zq,(dd.drop z).imp λv w r=>?_⟩,g6 R.kept.nd⟩,R.al,R.kal.drop z,(Z d R.av).dic U But.upd F S.symm,K6,(R.bud.sub λp hp=>.inl ?_).up,?_,R.ap⟩
 .have r5:KvR H5 a [b,k,d,kd] v w:=r.yz (X:=[k]) (λc o n e=>J c o (λz=>n (by simp [z])) e) R.qf (λx hx=>by simp only [J1,Kh,or_false] at hx;subst hx;exact ⟨_,O⟩) (λx hx=>by simp only [J1,Kh,or_false] at hx;subst hx;simp);exact r5.yz (X:=[kd]) (λc o n e=>by rw [zf (λz=>n (by simp [z]))];exact e) W (λx hx=>by simp only [J1,Kh,or_false] at hx;subst hx;exact ⟨_,F⟩) (λx hx=>by simp only [J1,Kh,or_false] at hx;subst hx;simp)
 .unfold zE at hp;exact (NB.mp hp).1
 .unfold zE;exact Kp (Ms ..) R.few
theorem Rnd.hold{a p d kd b k pn:Addr}{t u:Tab}(R:Rnd A H a p d kd b k t u ks ku B)(O:But k H H5)(U:zx A H5 p b k t (zU ks z t))(Xf:∀c,H c≠none->zZ A H k c->zZ A H5 k c)(XF:H kd=some (.dK (sk S)))(dd:Dct (KvR H a [b,k,d,kd]) S ku)(ed:H d=some (.dK (sk G)))(du:Dct (MdP H a) G u)(F:New H5 pn (.dK (sk G)) H6)(few:ku.length<3)(zn:bC z=true):
  H6 kd=some (.dK (sk S))/\Rnd A (upd H6 kd (.dK (sk (zU S z (.ref pn))))) a p d kd b k t u (zU ks z t) (zU ku z u) (B+1):=by
 obtain ⟨_,kk,Z⟩:=R.files.L0;obtain ⟨a1,a2,a3,a4,a5⟩:=R.ap;have e5:=O _ _ a4 XF;have J:=F.same _ _ e5;have P5:=R.qf.dic O Z;have P6:=P5.same F.same;have F6:=U.same F.same;have k5:=(Xf kd (by rw [XF];exact nofun) R.QG).same U F.same;have d5:=(Xf d (by rw [ed];exact nofun) R.av).same U F.same;obtain ⟨F7,K7⟩:=F6.dic k5 But.upd J a3.symm a4.symm (H':=upd H6 kd (.dK (sk (zU S z (.ref pn)))));have D6:=(R.plain.dic O Z a2).same F.same;have W:∀{c:Addr}{o:HO},H5 c=some o->pn≠c:=λ{c o} e z=>by have:=F.no;rw [z,e] at this;cases this
 obtain ⟨⟨a7,a6⟩,a8,a0⟩:=U.L0;have aI:=O _ _ a2 ed;have ab:zX H6 a pn u:=⟨⟨G,F.at_,du.imp λv l ⟨q,ev,hq,n⟩=>⟨q,ev,F.same _ _ (O _ _ (λz=>by rw [z,Z] at hq;cases hq) hq),n⟩⟩,R.plain.nd⟩;have rn:KvR H6 a [b,k,d,kd] (.ref pn) u:=⟨pn,rfl,by simp only [J1,Kh,or_false,not_or];exact ⟨W a6,W a0,W aI,W e5⟩,ab⟩;have old:∀v w,KvR H a [b,k,d,kd] v w->KvR H6 a [b,k,d,kd] v w:=λv w r=>by
  have r5:KvR H5 a [b,k,d,kd] v w:=r.yz (X:=[k]) (λc o n e=>O c o (λz=>n (by simp [z])) e) R.qf (λx hx=>by simp only [J1,Kh,or_false] at hx;subst hx;exact ⟨_,Z⟩) (λx hx=>by simp only [J1,Kh,or_false] at hx;subst hx;simp);exact r5.yz (X:=[]) (.of F.same) P5 (λ_ h=>by cases h) (λ_ h=>by cases h)
 have hl:=R.kal.len R.files.xy R.kept.nd;refine ⟨J,P6.dic But.upd J,F7,D6.dic But.upd J a5,⟨⟨_,zq,((dd.imp old).put z rn).imp λv w r=>?_⟩,fW R.kept.nd⟩,R.al,R.kal.put z R.al R.files.hX.nd,d5.dic F6 But.upd J a4.symm,K7,(R.bud.sub λp hp=>?_).up,?_,R.ap⟩
 .exact r.yz (X:=[kd]) (λc o n e=>by rw [zf (λz=>n (by simp [z]))];exact e) P6 (λx hx=>by simp only [J1,Kh,or_false] at hx;subst hx;exact ⟨_,J⟩) (λx hx=>by simp only [J1,Kh,or_false] at hx;subst hx;simp)
 .rcases fN hp with hp|rfl
  .exact .inl hp
  .exact .inr ⟨rfl,zn⟩
 .exact Kp j4 (by omega)
def wo(A:zj):Sp:=λvs H Q _=>∃(a p d kd b k ml:Addr)(t u:Tab)(ks ku:List (Str×Tab))(B:Nat),vs=[.ref a,.ref p,.ref d,.ref kd,.ref ml]/\hJ H a ml/\Rnd A H a p d kd b k t u ks ku B/\B<=30 /\
 ∀t' F ks' z H',aO [a,b,k,d,kd] H H'->Rnd A H' a p d kd b k t' F ks' z (B+1)->Q .non H'
theorem jc:zu ["_law_pot_here","_law_files_here","_law_plain","_law_kept","_law_menu","_law_way","_law_name"] X0 (zk kU):=fsc
theorem yP(F:Fun K "_law_deed" "_law_deed" kU f fd)(T:Txt K mg A)(Z9:GF P w K mg base true 1 WH YR cK)(Z2:GF P w K mg base true 2 Wz Yy ij)(Y9:GM P w K mg base true 3 A.kn "free" YD (vR A))(Y8:GM P w K mg base true 5 A.kn "hold" YD (qT A))(YO:GF P w K mg base true 5 "_law_cut" Xb (nM A))(YN:GF P w K mg base true 5 "_law_put" XE (kG A)):zp P w K mg base CX0 true 7 f fd X0 (wo A):=by
 refine F.o jc λZP Ar outer s H vs Q E hr h=>?_;obtain ⟨a,p,d,kd,b,k,ml,t,u,ks,ku,B,rfl,hM,R,hB,q⟩:=h;obtain ⟨zs,ez,z0,z1,a9⟩:=hM.ex;have hu:_<cLine:=KH (zM hr);refine ⟨_,(W.h (zh (zw (i:=5) jc.nd rfl (J5 rfl) (zt Z9 hr rfl (za (zb 0) (za zo zd))))
   (zi (zW (dQ (jK (ah (da hu) (zb 5) zo (z6 _)) (iF (ah (qq hu) (zb 3) fe (z6 _)))))
   (zh (zw (i:=6) jc.nd rfl (J5 rfl) (zt Z2 hr rfl (za (zb 0) (za (zK (dJ rfl) rfl T.ny LO (za (zb 3) zd)) zd))))
   (zh (ai (aN (zb 1) T.hE Y9 hr (za (zb 6) zd)))
   (zi (ai (rZ (zb 3) (zb 6))))))
   (zi (zW (dQ (jK (ah rR (zb 5) zo (z6 _)) (iF (ah qo (zK lj rfl T.r0 KA (za (zb 3) zd)) zo (z6 _)))))
   (zh (zw (i:=6) jc.nd rfl (J5 rfl) (zt Z2 hr rfl (za (zb 0) (za (zb 4) zd))))
   (zi (zW (ah (nj (zM hr)) (zb 6) (zb 3) rfl)
   (zh (ai (aN (zb 1) T.hE Y8 hr (za (zb 6) zd)))
   (zi (cT (az kh rfl T.Po boot_dict (za (zb 2) zd)) (dj (zb 3) (zb 6) (eB (zM hr))))))
   z9)))
   (zi (zW (dQ (jK (ah (da hu) (zb 5) zo (z6 _)) (iF (ah (qq hu) (zb 2) fe (z6 _)))))
   (zi (ai (zt YO hr rfl (za (zb 0) (za (zb 1) (za (zb 2) zd))))))
   (zi (ai (zt YN hr rfl (za (zb 0) (za (zb 1) (za (zb 2) (za (zb 4) zd))))))))))))))),?_⟩
 ac_rfl;refine ⟨a,10,rfl,R.qf,by decide,by decide,λa0 H1 b1 P1 w0 w1=>?_⟩;have R1:=R.Pl b1 P1;have M1:aO [a,b,k,d,kd] H H1:=λc o n e=>b1 c o (λz=>n (by simp [z])) e;have aI:∀{H2 H3:Hp},cE a b d H2 H3->aO [a,b,k,d,kd] H2 H3:=λ{H2 H3} s c o n e=>by
  simp only [J1,Kh,or_false,not_or] at n;exact s c o n.1 n.2.1 n.2.2.2.1 e
 have a4:∀{H2:Hp},aO [a,b,k,d,kd] H H2->H2 ml=some (.lst (zs.map V.str)):=λ{H2} M=>M _ _ (by
  obtain ⟨⟨kb,eb⟩,kk,ek⟩:=R.files.L0;obtain ⟨kv,ed,_⟩:=R.plain.ex;obtain ⟨b7,bb,_⟩:=R.kept.ex;simp only [J1,Kh,or_false,not_or];exact ⟨hM.ne,λz=>(by rw [z,eb] at ez;cases ez),λz=>(by rw [z,ek] at ez;cases ez),λz=>(by rw [z,ed] at ez;cases ez),λz=>(by rw [z,bb] at ez;cases ez)⟩) ez
 have XQ:∀(H2:Hp)(E':XK),Rnd A H2 a p d kd b k t u ks ku B->aO [a,b,k,d,kd] H H2->kG A [V.ref a,V.ref p,V.ref d,V.ref ml] H2 (λ_ H3=>Q V.non H3) E':=λH2 E' R2 M2 =>
  ⟨a,p,d,b,k,ml,t,u,ks,B,rfl,⟨⟨zs,a4 M2,z0,z1,a9⟩,hM.ne⟩,R2.qf,R2.files,R2.plain,R2.al,R2.ap.1,R2.ap.2.1,R2.av,R2.bud,by omega,λt' u' H3 s3 P3 F3 D3 a5 A3 ab=>q t' u' ks ku H3 (M2.trans (aI s3)) (R2.done s3 P3 F3 D3 a5 A3 ab)⟩
 have a7:∀(H2:Hp)(E':XK),u≠[]->Rnd A H2 a p d kd b k t u ks ku B->aO [a,b,k,d,kd] H H2->nM A [V.ref a,V.ref p,V.ref d] H2 (λ_ H3=>Q V.non H3) E':=λH2 E' b0 R2 M2 =>
  ⟨a,p,d,b,k,t,u,ks,B,rfl,R2.qf,R2.files,R2.plain,R2.al,R2.ap.1,R2.ap.2.1,R2.av,R2.bud,by omega,b0,λt' u' H3 s3 P3 F3 D3 a5 A3 ab=>q t' u' ks ku H3 (M2.trans (aI s3)) (R2.done s3 P3 F3 D3 a5 A3 ab.up)⟩
 ac_rfl;obtain ⟨kv,XF,dd⟩:=R1.kept.ex;by_cases h9:a0=9
 .rw [if_pos (by simp [h9])];refine λe0 H2 n2=>⟨_,.inl (n2.same _ _ XF),n2.at_,?_⟩;have R2:=R1.same n2.same;have M2:=M1.trans (.of n2.same);by_cases hk:kv=[]
  .rw [if_neg (by simp [hk,sk]),if_pos (by simp;omega)];obtain ⟨J,Xe,X8⟩:=R2.kept.ex;refine ⟨_,.inl Xe,?_⟩;by_cases a6:J.length<3
   .rw [if_pos (by rw [bS];simp;omega)];refine ⟨a,R2.qf,.inl ⟨ml,_,rfl,hM.ne,.inl (a4 M2),by rw [JS];exact z0,by rw [JS];omega,λv H4 hv b4 P4=>?_⟩⟩;obtain ⟨z,hz,rfl⟩:=KL.mp hv;have zn:=a9 z hz;have G:=R2.Pl b4 P4;have M4:aO [a,b,k,d,kd] H H4:=M2.trans λc o n e=>b4 c o (λz=>n (by simp [z])) e;obtain ⟨XR,X3,O⟩:=G.kept.ex;obtain ⟨bp,Z,a3⟩:=G.plain.ex;have l4:ku.length<3:=by rw [<- X8.length];exact a6
    ac_rfl;refine ⟨_,.inl X3,?_⟩;rw [aJ];rcases G.kal z with ⟨v1,w1,e1,U,_⟩|⟨e1,U⟩
    .rw [show (look XR z).isSome=true by rw [Dct.ot O z,U];rfl];exact q t u ks ku H4 M4 { G with bud:=G.bud.up }
    .rw [show (look XR z).isSome=false by rw [Dct.ot O z,U];rfl];obtain ⟨bf,S⟩:=G.files.ob;erw [S,qu];refine ⟨p,b,k,t,ks,z,rfl,G.files,e1,by have:=G.few;omega,λH5 b5 F5 Xf=>?_⟩;obtain ⟨_,bx,b6⟩:=G.files.L0;refine ⟨_,.inl (b5 _ _ G.ap.2.1 Z),λpn H6 n6=>?_⟩;obtain ⟨e6,R7⟩:=G.hold b5 F5 Xf X3 O Z a3 n6 l4 zn;ac_rfl;refine ⟨_,e6,by rw [bS,O.length];exact Kl l4 (by decide),?_⟩;rw [eO];refine q _ _ _ _ _ (λc o n e=>?_) R7;have n':=n;simp only [J1,Kh,or_false,not_or] at n';rw [zf n'.2.2.2.2];exact n6.same _ _ (b5 _ _ n'.2.2.1 (M4 _ _ n e))
   .rw [if_neg (by rw [bS];simp;omega),if_neg (by simp;omega)];exact XQ _ _ R2 M2
  .rw [if_pos (by simp [hk,sk])];obtain ⟨J,Xe,X8⟩:=R2.kept.ex;have hl:=R2.kal.len R2.files.xy R2.kept.nd;have hf:=R2.few;have b3:=X8.length;have sl:(zr (J.map (·.1))).length=J.length:=by rw [(zY _).1.length_eq,JS]
   have kpos:0<J.length:=by rw [b3,<- dd.length];exact MZ.mpr hk
   refine ⟨J,.inl Xe,by omega,λln H3 n3=>⟨a,R2.qf.same n3.same,.inl ⟨ln,_,rfl,R2.qf.ne n3.no,.inl n3.at_,by rw [JS,sl];exact kpos,by rw [JS,sl];omega,λv H4 hv b4 P4=>?_⟩⟩⟩;obtain ⟨z,hz,rfl⟩:=KL.mp hv;have b2:z∈names ku:=by rw [<- X8.names];exact (zY _).1.mem_iff.mp hz
   have G:=(R2.same n3.same).Pl b4 P4;have M4:aO [a,b,k,d,kd] H H4:=(M2.trans (.of n3.same)).trans λc o n e=>b4 c o (λz=>n (by simp [z])) e;obtain ⟨XR,X3,O⟩:=G.kept.ex;rcases G.kal z with ⟨v1,w1,e1,U,_⟩|⟨_,U⟩
   case inr=>exact absurd b2 (aV.mp U)
   obtain ⟨bf,S⟩:=G.files.ob;erw [S,FU];refine ⟨p,b,k,t,ks,z,rfl,G.files,by rw [e1];rfl,λH5 b5 F5 Xf=>?_⟩;obtain ⟨e5,R7⟩:=G.free b5 F5 Xf X3 O;ac_rfl;refine ⟨⟨_,.inl e5⟩,_,e5,?_,?_⟩
   .rw [aJ];exact M0.mp (by rw [Dct.ot O z,U];rfl)
   .rw [iU];refine q _ _ _ _ _ (λc o n e=>?_) R7;have n':=n;simp only [J1,Kh,or_false,not_or] at n';rw [zf n'.2.2.2.2];exact b5 _ _ n'.2.2.1 (M4 _ _ n e)
 .rw [if_neg (by simp [h9])];by_cases h6:6<a0
  .rw [if_pos (by simpa using h6)];obtain ⟨J,Xe,X8⟩:=R1.kept.ex;refine ⟨_,.inl Xe,?_⟩;by_cases a6:J.length<3
   .rw [if_pos (by rw [bS];simp;omega)];refine ⟨a,R1.qf,.inl ⟨ml,_,rfl,hM.ne,.inl (a4 M1),by rw [JS];exact z0,by rw [JS];omega,λv H4 hv b4 P4=>?_⟩⟩;obtain ⟨z,hz,rfl⟩:=KL.mp hv;have zn:=a9 z hz;have G:=R1.Pl b4 P4;have M4:aO [a,b,k,d,kd] H H4:=M1.trans λc o n e=>b4 c o (λz=>n (by simp [z])) e;obtain ⟨XR,X3,O⟩:=G.kept.ex;obtain ⟨bp,Z,a3⟩:=G.plain.ex;have l4:ku.length<3:=by rw [<- X8.length];exact a6
    ac_rfl;refine ⟨_,.inl X3,?_⟩;rw [aJ];rcases G.kal z with ⟨v1,w1,e1,U,_⟩|⟨e1,U⟩
    .rw [show (look XR z).isSome=true by rw [Dct.ot O z,U];rfl];exact q t u ks ku H4 M4 { G with bud:=G.bud.up }
    .rw [show (look XR z).isSome=false by rw [Dct.ot O z,U];rfl];obtain ⟨bf,S⟩:=G.files.ob;erw [S,qu];refine ⟨p,b,k,t,ks,z,rfl,G.files,e1,by have:=G.few;omega,λH5 b5 F5 Xf=>?_⟩;obtain ⟨_,bx,b6⟩:=G.files.L0;refine ⟨_,.inl (b5 _ _ G.ap.2.1 Z),λpn H6 n6=>?_⟩;obtain ⟨e6,R7⟩:=G.hold b5 F5 Xf X3 O Z a3 n6 l4 zn;ac_rfl;refine ⟨_,e6,by rw [bS,O.length];exact Kl l4 (by decide),?_⟩;rw [eO];refine q _ _ _ _ _ (λc o n e=>?_) R7;have n':=n;simp only [J1,Kh,or_false,not_or] at n';rw [zf n'.2.2.2.2];exact n6.same _ _ (b5 _ _ n'.2.2.1 (M4 _ _ n e))
   .rw [if_neg (by rw [bS];simp;omega),if_neg (by simp;omega)];exact XQ _ _ R1 M1
  .rw [if_neg (by simpa using h6)];by_cases w6:a0=6
   .rw [if_pos (by simp [w6])];obtain ⟨ba,bt,bq⟩:=R1.plain.ex;refine λe0 H3 n3=>⟨_,.inl (n3.same _ _ bt),n3.at_,?_⟩;have R3:=R1.same n3.same;have M3:=M1.trans (.of n3.same);by_cases a8:ba=[]
    .rw [if_neg (by simp [a8,sk])];exact XQ _ _ R3 M3
    .rw [if_pos (by simp [a8,sk])];refine a7 _ _ (λz=>a8 (KM.mp ?_)) R3 M3;rw [bq.length,z];rfl
   .rw [if_neg (by simp [w6])];exact XQ _ _ R1 M1
abbrev iZ:Stmt:=top 48
theorem DO(cs:List Nat):KF "" (cs.map c1)=tx cs:=by
 refine gz ?_;rw [qS,cI,LM]
 induction cs with
 | nil=>rfl
 | cons c cs z=>rw [Li,MF,z];rfl
structure CO(H:Hp)(a:Addr)(i:Nat)(τ:L2.St)(ys:List V)(H':Hp):Prop where
 ex:∃t,τ=[t,some (V.ref a),some (.str LET)]
 ys:∃cs:List Nat,ys=(cs.map c1).map V.str/\cs.length=i/\∀c∈cs,c∈sg LET
 but:But a H H'
 qf:Pot H' a
 le:i<=10
def vC:Sp:=λvs H Q _=>∃(a:Addr),vs=[.ref a]/\Pot H a/\∀(z:Str) H',But a H H'->Pot H' a->bC z=true->Q (.str z) H'
theorem qC:zu ["_law_pot_here","_law_letters"] XZ (zk iZ):=fsc
theorem Ic:bc { kind:=.function,names:=[(JW ".0",.local),(JW "_law_k",.local),(JW "_law_drawn",.globalImplicit),(JW "_law_pot_here",.free),(JW "_law_letters",.free)],isGenerator:=false,isCoroutine:=false,more:=[] } (zk iZ).names ["_law_pot_here","_law_letters"] WJ [none,some 0,some 1]=true:=by decide +kernel
theorem BZ:(WJ:List Str).Nodup:=by decide +kernel
theorem Gn(F:Fun K Wm Wm iZ f fd)(T:Txt K mg A)(Z9:GF P w K mg base true 1 WH YR cK)(Z2:GF P w K mg base true 2 Wz Yy ij):zp P w K mg base CX0 true 3 f fd XZ vC:=by
 refine F.o qC λZP Ar outer s H vs Q E hr h=>?_;obtain ⟨a,rfl,hP,q⟩:=h;refine ⟨_,(W.h (zh (zw (i:=1) qC.nd rfl (MJ rfl) aC)
   (zi (zA (iR aC (cz (λ_=>rfl) (af.of Ic) (dh rfl T.rd (za (zB bg zo (zt Z9 hr rfl (za (zb 0) (za zo zd)))) zd)) (λ_ _ _ _ _=>(zD (i:=0) BZ rfl (J5 rfl))) (λ_ _ _ _ _=>bB) (λ_ _ _ _ _=>(zt Z2 hr rfl (za (zb 1) (za (zb 2) zd)))))))))),?_⟩
 ac_rfl;refine ⟨a,_,rfl,hP,by decide,by decide,λm H2 b2 O m0 m1=>?_⟩;ac_rfl;refine ⟨by omega,by omega,ak.rng (CO H2 a) (λi U ys H' I=>?_) ⟨⟨_,rfl⟩,⟨[],rfl,rfl,by simp⟩,λ_ _ _ e=>e,O,by omega⟩ ?_ ?_⟩
 .obtain ⟨cs,e,z,_⟩:=I.ys;rw [e,JS,JS,z];exact aK (by have:=I.le;omega)
 .intro N i U ys H' hi I hN;obtain ⟨t,rfl⟩:=I.ex;obtain ⟨cs,e,z,hc⟩:=I.ys;ac_rfl;refine ⟨a,I.qf,.inr ⟨LET,rfl,by decide,by decide,λc H3 G b3 J=>hN _ _ _ ⟨⟨_,rfl⟩,⟨cs++[c],by rw [e];simp,by simp [z],λx hx=>?_⟩,I.but.trans b3,J,by omega⟩⟩⟩;rcases Kx.mp hx with h|h
  .exact hc x h
  .rw [KS] at h;rw [h];exact G
 .intro U ys H' I D H3 S;obtain ⟨cs,e,z,hc⟩:=I.ys;rw [jY];refine ⟨cs.map c1,by rw [S.at_,e],?_,?_⟩
  .rw [LM,show ("":Str).length=0 by decide,Nat.mul_zero,Nat.add_zero];have:∀l:List Nat,(l.map ((λx:Str=>x.length)∘c1)).sum=l.length:=λl=>by
    induction l with
    | nil=>rfl
    | cons a l Z=>rw [Li,List.sum_cons,Z];show 1+_=_;simp;omega
   rw [this];omega
  .rw [DO];refine q (tx cs) H3 ((b2.trans I.but).trans (But.of S.same)) (I.qf.same S.same) (uZ (by rw [cI];exact hc) (by rw [d6];omega) (by rw [d6];omega))
abbrev jy:Stmt:=top 52
structure MnI(H:Hp)(a:Addr)(i:Nat)(τ:L2.St)(ys:List V)(H':Hp):Prop where
 ex:∃t,τ=[t,some (V.ref a)]
 ys:∃zs:List Str,ys=zs.map V.str/\zs.length=i/\∀z∈zs,bC z=true
 but:But a H H'
 qf:Pot H' a
 le:i<=5
structure FdI(A:zj)(H2:Hp)(a p d kd b k ml:Addr)(i:Nat)(σ:L2.St)(H':Hp):Prop where
 ex:∃t1,σ=[some (.ref a),some (.ref p),some (.ref d),some (.ref kd),some (.ref ml),t1]
 men:hJ H' a ml
 rnd:∃t u ks ku,Rnd A H' a p d kd b k t u ks ku i
 but:aO [a,b,k,d,kd] H2 H'
def vH(A:zj):Sp:=λvs H Q _=>∃(a:Addr),vs=[.ref a]/\Pot H a /\
 ∀tp p d kd b k t u ks ku (B:Nat) H',But a H H'->H' tp=some (.tup [.ref p,.ref d,.ref kd])->Rnd A H' a p d kd b k t u ks ku B->B<=16->H p=none->H b=none->H k=none->H d=none->H kd=none->Q (.ref tp) H'
theorem fB:zu W7 XZ (zk jy):=fsc
theorem EO:bc { kind:=.function,names:=[(JW ".0",.local),(JW "_law_k",.local),(JW "_law_named",.globalImplicit),(JW "_law_pot_here",.free)],isGenerator:=false,isCoroutine:=false,more:=[] } (zk jy).names W7 ["_law_k","_law_pot_here"] [none,some 0]=true:=by decide +kernel
theorem Iv:(["_law_k","_law_pot_here"]:List Str).Nodup:=by decide +kernel
theorem w9(F:Fun K "_law_files" "_law_files" jy f fd)(T:Txt K mg A)(Zr:GC P w K mg base true 1 "Files" A.kn ZY (gF A))(Z9:GF P w K mg base true 1 WH YR cK)(Y7:GF P w K mg base true 3 Wm XZ vC)(YU:GF P w K mg base true 7 "_law_deed" X0 (wo A)):zp P w K mg base CX0 true 9 f fd XZ (vH A):=by
 refine F.o fB λZP Ar outer s H vs Q E hr h=>?_;obtain ⟨a,rfl,hP,q⟩:=h;refine ⟨_,(W.h (zh (zw (i:=1) fB.nd rfl (J5 rfl) (jR Zr hr rfl))
   (zh (zw (i:=2) fB.nd rfl (J5 rfl) fe)
   (zh (zw (i:=3) fB.nd rfl (J5 rfl) fe)
   (zh (zw (i:=4) fB.nd rfl (J5 rfl) (zB bg (cz (λ_=>rfl) (af.of EO) (dh rfl T.rd (za zo zd)) (λ_ _ _ _ _=>(zD (i:=0) Iv rfl (J5 rfl))) (λ_ _ _ _ _=>bB) (λ_ _ _ _ _=>(zt Y7 hr rfl (za (zb 1) zd)))) (aj (za aC zd))))
   (zh (aW Lh.never (λ_=>rfl) (dh rfl T.rd (za (zt Z9 hr rfl (za (zb 0) (za zo zd))) zd)) (zD (i:=5) fB.nd rfl (J5 rfl))
   (zi (ai (zt YU hr rfl (za (zb 0) (za (zb 1) (za (zb 2) (za (zb 3) (za (zb 4) zd)))))))))
   (zi (zA (dr (za (zb 1) (za (zb 2) (za (zb 3) zd)))))))))))),?_⟩
 ac_rfl;refine λp a0 H1 nI=>⟨p,a0,rfl,nI.at_,λb k H2 s2 nb nk eb ek a8 ex=>⟨rfl,λd H3 S kd H4 n4=>?_⟩⟩;have G:ze H H2:=λc o e=>s2 _ _ (zH e nI.no) (nI.same _ _ e);have s4:ze H2 H4:=S.same.trans n4.same;have P4:Pot H4 a:=(hP.same G).same s4;have ab:∀{c:Addr}{o:HO},H2 c=some o->d≠c:=λ{c o} e z=>by have:=S.no;rw [z,e] at this;cases this
 have J:∀{c:Addr}{o:HO},H3 c=some o->kd≠c:=λ{c o} e z=>by have:=n4.no;rw [z,e] at this;cases this
 have F4:zx A H4 p b k [] []:=zx.same ⟨⟨a0,ex⟩,⟨⟨[],eb,.nil⟩,by simp [names]⟩,⟨[],ek,.nil⟩,by simp [names],a8⟩ s4;have U:∀c,zZ A H4 k c:=λc kvs hk pv X6=>by
  rw [s4 _ _ ek] at hk;cases hk;cases X6
 have R4:Rnd A H4 a p d kd b k [] [] [] [] 0:=⟨P4,F4,⟨⟨[],n4.same _ _ S.at_,.nil⟩,by simp [names]⟩,⟨⟨[],n4.at_,.nil⟩,by simp [names]⟩,λ_=>rfl,λ_=>.inr ⟨rfl,rfl⟩,U d,U kd,⟨JY _,λn=>by simp [lk,look],⟨[],JY _,λy hy=>by simp [au,zF] at hy⟩,λn l e=>by simp [look] at e,(λp hp=>by cases hp),(λp hp=>by cases hp),(λp hp=>by cases hp)⟩,by simp,⟨ab eb,ab ek,J (S.same _ _ eb),J (S.same _ _ ek),(J S.at_).symm⟩⟩;refine ⟨by decide,by decide,ak.rng (MnI H4 a) (λi τ ys H' I=>?_) ⟨⟨_,rfl⟩,⟨[],rfl,rfl,by simp⟩,λ_ _ _ e=>e,P4,by omega⟩ ?_ ?_⟩
 .obtain ⟨zs,e,e2,_⟩:=I.ys;rw [e,JS,e2];exact aK (by have:=I.le;omega)
 .intro N i τ ys H' hi I hN;obtain ⟨t,rfl⟩:=I.ex;obtain ⟨zs,e,e2,hc⟩:=I.ys;ac_rfl;refine ⟨a,rfl,I.qf,λz H3 b3 a5 hz=>hN _ _ _ ⟨⟨_,rfl⟩,⟨zs++[z],by rw [e];simp,by simp [e2],λx hx=>?_⟩,I.but.trans b3,a5,by omega⟩⟩;rcases Kx.mp hx with h|h
  .exact hc x h
  .rw [KS] at h;rw [h];exact hz
 intro τ ys H5 I D H6 n6;obtain ⟨zs,e,e2,hc⟩:=I.ys;rw [e] at n6;ac_rfl;refine ⟨by decide,λlm H7 Z _=>⟨_,Z.same _ _ n6.at_,_,Z.at_,aq (by rw [JS,e2];have:=I.le;show _+1<=_;omega),λml H8 n8=>?_⟩⟩;have s8:ze H5 H8:=(n6.same.trans Z.same).trans n8.same;have av:But a H4 H8:=I.but.trans (.of s8);have P8:=I.qf.same s8;have R8:=R4.Pl av P8;have M8:hJ H8 a ml:=⟨⟨zs++[("mark":Str)],by rw [n8.at_,Kz];rfl,by simp,by rw [KB,e2];have:=I.le;show _+1<=_;omega,λz hz=>(Kx.mp hz).elim (hc z) λh=>by rw [KS] at h;rw [h];decide +kernel⟩,(I.qf.same (n6.same.trans Z.same)).ne n8.no⟩;refine ⟨a,16,rfl,P8,by decide,by decide,λj H9 b9 P9 j0 j1=>?_⟩;have R9:=R8.Pl b9 P9;obtain ⟨a7,a4,r'⟩:=M8.ex;have M9:hJ H9 a ml:=⟨⟨a7,b9 _ _ M8.ne a4,r'⟩,M8.ne⟩;have a6:But a H4 H9:=av.trans b9;ac_rfl;refine ⟨by omega,by omega,aa.rng (FdI A H4 a p d kd b k ml) ⟨⟨_,rfl⟩,M9,⟨_,_,_,_,R9⟩,λc o n e=>a6 c o (λz=>n (by simp [z])) e⟩ ?_ ?_⟩
 .rintro i σ H6 hi ⟨⟨t1,rfl⟩,men,⟨t,u,ks,ku,R6⟩,bt⟩;ac_rfl;refine ⟨a,p,d,kd,b,k,ml,t,u,ks,ku,i,rfl,men,R6,by omega,λt' u' ks' ba H7 b7 R7=>⟨⟨_,rfl⟩,?_,⟨_,_,_,_,R7⟩,bt.trans b7⟩⟩;obtain ⟨a3,O,ry⟩:=men.ex;obtain ⟨⟨kb,eb⟩,kk,ek⟩:=R6.files.L0;obtain ⟨kv,ed,_⟩:=R6.plain.ex;obtain ⟨a9,aI,_⟩:=R6.kept.ex;refine ⟨⟨a3,b7 _ _ ?_ O,ry⟩,men.ne⟩;simp only [J1,Kh,or_false,not_or];exact ⟨men.ne,λz=>(by rw [z,eb] at O;cases O),λz=>(by rw [z,ek] at O;cases O),λz=>(by rw [z,ed] at O;cases O),λz=>(by rw [z,aI] at O;cases O)⟩
 .rintro σ H6 ⟨⟨t1,rfl⟩,men,⟨t,u,ks,ku,R6⟩,bt⟩;ac_rfl;refine ⟨by decide,λtp H7 Z=>?_⟩;refine q tp p d kd b k t u ks ku _ H7 (λc o nc e=>Z.same _ _ (bt _ _ ?_ (s4 _ _ (G _ _ e)))) Z.at_ (R6.same Z.same) (by omega) nI.no (nI.same.free nb) (nI.same.free nk) (G.free S.no) (G.free (S.same.free n4.no));simp only [J1,Kh,or_false,not_or];have h2:=G _ _ e;exact ⟨nc,λz=>(by rw [z,nI.same.free nb] at e;cases e),λz=>(by rw [z,nI.same.free nk] at e;cases e),(ab h2).symm,(J (S.same _ _ h2)).symm⟩
abbrev nJ:Stmt:=top 53
theorem Jz{α:Type}{l:List (Int×α)}{a:α}:(fV l n a).map (·.1)=if n∈l.map (·.1) then l.map (·.1) else l.map (·.1)++[n]:=by
 unfold fV;split
 .rw [LM];refine LC λp _=>?_;show (if p.1=n then (p.1,a) else p).1=p.1;split<;>rfl
 .rw [Kz];rfl
theorem Ct{kvs:List (Int×V)}{n:Int}{v:V}:(fV kvs n v).map (·.1)=zC (kvs.map (·.1)) n:=by rw [Jz];rfl
def PlR(H:Hp)(a fo:Addr)(v:V)(u:Tab):Prop:=∃e,v = .ref e/\zX H a e u/\e≠fo
structure Fnd(H':Hp)(fo:Addr)(ks:List Int):Prop where
 ex:∃kvs,H' fo=some (.dK (ik kvs))/\kvs.map (·.1)=ks
structure LoI(d kd fo:Addr)(H5:Hp)(us:List Tab)(i:Nat)(σ:L2.St)(H':Hp):Prop where
 ex:∃t3 t4 t5,σ=[some (.ref d),some (.ref kd),some (.ref fo),t3,t4,t5]
 fnd:Fnd H' fo (((us.take i).flatMap zF).foldl zC [])
 but:But fo H5 H'
structure MiI(d kd fo e:Addr)(Hf:Hp)(ns:List Int)(u:Tab)(i:Nat)(σ:L2.St)(H':Hp):Prop where
 ex:∃t4 t5,σ=[some (.ref d),some (.ref kd),some (.ref fo),some (.ref e),t4,t5]
 fnd:Fnd H' fo ((zF (u.take i)).foldl zC ns)
 but:But fo Hf H'
structure InI(d kd fo e r:Addr)(Hf:Hp)(ns l:List Int)(i:Nat)(σ:L2.St)(H':Hp):Prop where
 ex:∃t5,σ=[some (.ref d),some (.ref kd),some (.ref fo),some (.ref e),some (.ref r),t5]
 fnd:Fnd H' fo ((l.take i).foldl zC ns)
 but:But fo Hf H'
def mG:Sp:=λvs H Q _=>∃(a d kd:Addr)(X:List Addr)(u:Tab)(ku:List (Str×Tab)),vs=[.ref d,.ref kd]/\zX H a d u/\bE H a X kd ku/\(uniq (au u ku)).length<64/\ku.length<=1000 /\
 ∀l (ns:List Int) H',ze H H'->H l=none->H' l=some (.lst (ns.map V.int))->ns.Perm (uniq (au u ku))->ns.Pairwise (·<=·)->Q (.ref l) H'
theorem hV:zu ["_law_plain","_law_kept","_law_found","_law_files_here","_law_births","_law_birth_here"] WY (zk nJ):=fsc
theorem FD(F:Fun K Wo Wo nJ f fd)(T:Txt K mg A):zp P w K mg base CX0 true 1 f fd WY mG:=by
 refine F.o hV λZP Ar outer s H vs Q E hr h=>?_;obtain ⟨a,d,kd,X,u,ku,rfl,hD,hK,XD,hk,q⟩:=h;have hu:_<cLine:=KH (zM hr);refine ⟨_,(W.h (zh (zw (i:=2) hV.nd rfl (J5 rfl) fe)
   (zh (aW Lh.never (λ_=>rfl) (bz (zB bg (aj (za (zb 0) zd)) (az (Jg rfl) rfl T.Pn boot_list (za (Bw (zb 1)) zd)))) (zD (i:=3) hV.nd rfl (J5 rfl))
   (zi (pq (aW Lh.never (λ_=>rfl) (lX (zb 3)) (zD (i:=4) hV.nd rfl (J5 rfl))
   (zi (aW Lh.never (λ_=>rfl) (bz (zb 4)) (zD (i:=5) hV.nd rfl (J5 rfl))
   (zi (cT ck (dj (zb 2) (zb 5) (eB (zM hr)))))))))))
   (zi (zA (zK (tF rfl) rfl T.ny LO (za (zb 2) zd))))))),?_⟩
 ac_rfl;obtain ⟨kv,XF,dk⟩:=hK.ex;obtain ⟨cp,ed,_⟩:=hD.ex;refine λfo H1 n1=>⟨by decide,λl2 H2 n2 _=>⟨⟨_,.inl (n2.same _ _ (n1.same _ _ XF))⟩,λv H3 n3=>⟨_,n3.at_,_,.inl (n3.same _ _ (n2.same _ _ (n1.same _ _ XF))),λl4 H4 n4=>⟨_,n4.same _ _ (n3.same _ _ n2.at_),_,n4.at_,?_,λl5 H5 n5=>⟨⟨_,SqL.of n5.at_⟩,?_⟩⟩⟩⟩⟩
 .rw [JS,bS,dk.length,LA];exact Kp (show 1+ku.length<=1001 by omega) (by decide)
 have b0:ze H1 H5:=((n2.same.trans n3.same).trans n4.same).trans n5.same;have aI:ze H H5:=n1.same.trans b0;have a8:=b0 _ _ n1.at_;have a3:∀{c:Addr}{o:HO},H c=some o->c≠fo:=λ{c o} e=>zH e n1.no;have ba:l5≠fo:=λz=>by have:=n5.no;rw [z,n4.same _ _ (n3.same _ _ (n2.same _ _ n1.at_))] at this;cases this
 have a7:[V.ref d]++(sk kv).map (·.2)=V.ref d::kv.map (·.2):=by unfold sk;rw [LM];rfl
 have X5:Paired (PlR H5 a fo) ([V.ref d]++(sk kv).map (·.2)) (u::ku.map (·.2)):=by
  rw [a7];refine .cons ⟨d,rfl,hD.same aI,a3 ed⟩ ?_;clear n4 n5 a7;have hh:=dk;clear hK XF dk XD hk q
  induction hh with
  | nil=>exact .nil
  | cons z _ ih =>
   refine .cons ?_ ih;obtain ⟨e,ev,_,pl⟩:=z.2;obtain ⟨G,ee,_⟩:=pl.ex;exact ⟨e,ev,pl.same aI,a3 ee⟩
 have eU:(u::ku.map (·.2)).flatMap zF=au u ku:=by
  unfold au;rw [List.flatMap_cons,List.flatMap_map]
 have a4:=X5.length;generalize u::ku.map (·.2)=us at X5 eU a4;have a0:∀i,(((us.take i).flatMap zF).foldl zC []).length<64:=λi=>by
  have h1:=fI (l:=(us.drop i).flatMap zF) (ns:=((us.take i).flatMap zF).foldl zC []);rw [<- Lp,<- L9,Mr,eU] at h1;exact Ku h1 XD
 refine aa.lst (xs:=[V.ref d]++(sk kv).map (·.2)) (LoI d kd fo H5 us) ⟨⟨_,_,_,rfl⟩,⟨⟨[],a8,rfl⟩⟩,λ_ _ _ e=>e⟩ (λi σ H' _ I=>SqL.of (I.but _ _ ba n5.at_)) ?_ ?_
 .rintro i x σ H6 hx ⟨⟨t3,t4,t5,rfl⟩,fnd,bt⟩;have hi:i<us.length:=by rw [<- a4];exact (JX.mp hx).1
  have bp:us[i]?=some us[i]:=JQ hi;obtain ⟨e,rfl,pl,Z⟩:=cA X5 hx bp;have b1:=pl.dic bt a8 Z;obtain ⟨G,ee,de⟩:=b1.ex;have es:(zF us[i]).foldl zC (((us.take i).flatMap zF).foldl zC [])=((us.take (i+1)).flatMap zF).foldl zC []:=by
   rw [<- Lp,Kt,bp,L9];simp
  ac_rfl;refine ⟨e,_,ee,λo=>?_⟩;ac_rfl;have bf:fo≠e:=Z.symm;have b4:Fnd (upd H6 e (.frz o (.dK (sk G)))) fo (((us.take i).flatMap zF).foldl zC []):=let ⟨kvs,ek,J⟩:=fnd.ex;⟨⟨kvs,by rw [zf bf];exact ek,J⟩⟩;have S:∃kvs,H6 fo=some (.dK kvs):=let ⟨kvs,ek,_⟩:=fnd.ex;⟨_,ek⟩;obtain ⟨b9,S⟩:=S;refine ⟨o,sk G,zq,aa.QN (MiI d kd fo e (upd H6 e (.frz o (.dK (sk G)))) (((us.take i).flatMap zF).foldl zC []) us[i]) ⟨⟨_,_,rfl⟩,b4,λ_ _ _ e=>e⟩ (λj σ H' _ I=>I.but _ _ Z zq) ?_ ?_⟩
  .rintro j pv σ H7 hp ⟨⟨b5,b7,rfl⟩,O,U⟩;obtain ⟨qv,b8,rfl⟩:∃qv,G[j]?=some qv/\pv=(.inr qv.1,qv.2):=by
    unfold sk at hp;rw [Kd] at hp;obtain ⟨pv,e1,e2⟩:=Km.mp hp;exact ⟨pv,e1,e2.symm⟩
   obtain ⟨l,Xy,r,ev,hr,ra⟩:=Dct.at de b8;have re:r≠e:=λz=>by rw [z,ee] at hr;cases hr
   have a9:r≠fo:=λz=>by rw [z,S] at hr;cases hr
   have bq:upd H6 e (.frz o (.dK (sk G))) r=some (.lst (l.map V.int)):=by rw [zf re];exact hr
   have b2:=U _ _ a9 bq;have a6:=oS Xy;erw [ev];refine ⟨⟨_,SqL.of b2⟩,aa.lst (xs:=l.map V.int) (InI d kd fo e r (upd H6 e (.frz o (.dK (sk G)))) ((zF (us[i].take j)).foldl zC (((us.take i).flatMap zF).foldl zC [])) l) ⟨⟨_,rfl⟩,O,U⟩ (λm σ H' _ I=>SqL.of (I.but _ _ a9 bq)) ?_ ?_⟩
   .rintro m x σ H8 hx ⟨⟨bx,rfl⟩,⟨bb,b6,av⟩,a5⟩;rw [Kd] at hx;obtain ⟨n,hn,rfl⟩:=Km.mp hx;have b3:bb.length<64:=by
     rw [<- JS (f:=(·.1)),av];refine Ku rQ ?_;rw [<- Lp,<- a6];obtain ⟨rr,er⟩:=tO (u:=us[i]) (i:=j+1);have h1:∀bs:List Int,((zF (us[i].take (j+1))).foldl zC bs).length<=((zF us[i]).foldl zC bs).length:=λbs=>by
      rw [er,Lp];exact fI
     have h2:=h1 (((us.take i).flatMap zF).foldl zC []);rw [es] at h2;exact Ku h2 (a0 (i+1))
    ac_rfl;refine .inr ⟨_,b6,by rw [wK];exact Kl b3 (by decide),?_⟩;rw [vd];exact ⟨⟨_,rfl⟩,⟨⟨_,zq,by rw [Ct,av,qi hn]⟩⟩,a5.trans But.upd⟩
   .rintro σ H8 ⟨⟨bx,rfl⟩,ab,a5⟩;rw [JS,J2 (JY _),<- Lp,<- a6] at ab;exact ⟨⟨_,_,rfl⟩,ab,a5⟩
  .rintro σ H7 ⟨⟨b5,b7,rfl⟩,O,U⟩;rw [show (sk G).length=us[i].length by rw [bS,de.length],J2 (JY _),es] at O;refine ⟨o,U _ _ Z zq,⟨⟨_,_,_,rfl⟩,let ⟨kvs,ek,J⟩:=O.ex;⟨⟨kvs,by rw [zf bf];exact ek,J⟩⟩,λc u' nc ec=>?_⟩⟩;by_cases z:c=e
   .subst z;have h6:=bt _ _ nc ec;rw [ee] at h6;cases h6;exact zq
   .rw [zf z];exact U _ _ nc (by rw [zf z];exact bt _ _ nc ec)
 .rintro σ H6 ⟨⟨t3,t4,t5,rfl⟩,⟨kvs,ek,J⟩,bt⟩;rw [a4,J2 (JY _),eU] at J;ac_rfl;refine ⟨kvs,.inl ek,by rw [<- JS (f:=(·.1)),J];exact XD,λl ns H7 n7 pm so=>?_⟩;have s6:ze H H6:=λc o e=>bt _ _ (a3 e) (aI _ _ e);rw [J] at pm;exact q l ns H7 (s6.trans n7.same) (s6.free n7.no) n7.at_ pm so
abbrev oh:Stmt:=top 54
theorem pj{α β:Type}{f:α->β}:∀{l:List α}{k:Nat},(l.map f).eraseIdx k=(l.eraseIdx k).map f
 | [],_=>rfl
 | _::_,0=>rfl
 | x::l,k+1=>by
  show f x::(l.map f).eraseIdx k=f x::(l.eraseIdx k).map f;rw [pj]
def iu(ts:List T3):Prop:=∀t∈ts,(0<=t.2.1/\t.2.1<512)/\0<=t.2.2/\t.2.2<512
structure SpL(H5:Hp)(a d kd lf fo:Addr)(ns:List Int)(i:Nat)(σ:L2.St)(H':Hp):Prop where
 ex:∃t5 t6,σ=[some (.ref a),some (.ref d),some (.ref kd),some (.ref lf),some (.ref fo),t5,t6]
 left:∃ls:List Int,H' lf=some (.lst (ls.map V.int))/\ls.length=512-i/\∀y∈ls,0<=y/\y<512
 found:∃as ts,H' fo=some (.lst (as.map V.ref))/\Paired (aY H') as ts/\ts.map (·.1)=ns.take i/\iu ts
 but:cE a lf fo H5 H'
 qf:Pot H' a
def sC:Sp:=λvs H Q _=>∃(a d kd:Addr)(X:List Addr)(u:Tab)(ku:List (Str×Tab)),vs=[.ref a,.ref d,.ref kd]/\Pot H a/\zX H a d u/\bE H a X kd ku/\(uniq (au u ku)).length<40/\ku.length<=1000 /\
 ∀l as (ts:List T3) H',But a H H'->Pot H' a->H l=none->H' l=some (.lst (as.map V.ref))->Paired (aY H') as ts->(ts.map (·.1)).Perm (uniq (au u ku))->(ts.map (·.1)).Pairwise (·<=·)->iu ts->Q (.ref l) H'
theorem gG:zu ["_law_pot_here","_law_plain","_law_kept","_law_left","_law_found","_law_birth_here","_law_code"] W6 (zk oh):=fsc
theorem IE(F:Fun K "_law_spots" "_law_spots" oh f fd)(T:Txt K mg A)(ZA:GF P w K mg base true 1 Wo WY mG)(Z9:GF P w K mg base true 1 WH YR cK):zp P w K mg base CX0 true 2 f fd W6 sC:=by
 refine F.o gG λZP Ar outer s H vs Q E hr h=>?_;obtain ⟨a,d,kd,X,u,ku,rfl,hP,hD,hK,ba,hk,q⟩:=h;refine ⟨_,(W.h (zh (zw (i:=3) gG.nd rfl (J5 rfl) (az (HB rfl) rfl T.Pn boot_list (za (az Ep rfl T.rd boot_range (za zo zd)) zd)))
   (zh (zw (i:=4) gG.nd rfl (J5 rfl) (aj zd))
   (zh (aW Lh.never (λ_=>rfl) (bz (zt ZA hr rfl (za (zb 1) (za (zb 2) zd)))) (zD (i:=5) gG.nd rfl (J5 rfl))
   (zh (zw (i:=6) gG.nd rfl (J5 rfl) (uP (zb 3) (zt Z9 hr rfl (za (zb 0) (za (zK cP rfl T.r0 KA (za (zb 3) zd)) zd)))))
   (zi (ai (fP (zb 4) (dr (za (zb 5) (za (zB dG (zb 6) zo) (za (zB o8 (zb 6) zo) zd)))))))))
   (zi (zA (zb 4))))))),?_⟩
 ac_rfl;refine λpr H1 U=>⟨512,U.at_,by decide,λlf H2 O=>⟨by decide,λfo H3 J _=>?_⟩⟩;have s3:ze H H3:=(U.same.trans O.same).trans J.same;have P3:=hP.same s3;have K3:bE H3 a X kd ku:=hK.yz (X:=[]) (.of s3) hP (λ_ h=>by cases h) (λ_ h=>by cases h) (λh=>by cases h);refine ⟨a,d,kd,X,u,ku,rfl,hD.same s3,K3,by omega,hk,λl ns H4 s4 nl el pm so=>?_⟩;have P4:=P3.same s4;have a0:lf≠a:=(hP.same U.same).ne O.no;have a3:fo≠a:=(hP.same (U.same.trans O.same)).ne J.no;have G:lf≠fo:=λz=>by have:=J.no;rw [<- z,O.at_] at this;cases this
 have la:l≠a:=P3.ne nl;have a7:l≠lf:=λz=>by rw [z,J.same _ _ O.at_] at nl;cases nl
 have a9:l≠fo:=λz=>by rw [z,J.at_] at nl;cases nl
 have a6:=s4 _ _ (J.same _ _ O.at_);have a5:=s4 _ _ J.at_;have bx:ns.length<40:=by rw [pm.length_eq];exact ba
 ac_rfl;refine ⟨⟨_,SqL.of el⟩,aa.lst (xs:=ns.map V.int) (SpL H4 a d kd lf fo ns) ⟨⟨_,_,rfl⟩,⟨(KR 512).map λ(i:Nat)=>(i:Int),by rw [a6,LM];rfl,by rw [JS,MY],λy hy=>by obtain ⟨j,hj,rfl⟩:=KL.mp hy;have:=N5.mp hj;omega⟩,⟨[],[],a5,.nil,rfl,(λt h=>by cases h)⟩,λ_ _ _ _ _ e=>e,P4⟩ (λi σ H' _ I=>SqL.of (I.but _ _ la a7 a9 el)) ?_ ?_⟩
 .rintro i x σ H5 hx ⟨⟨t5,t6,rfl⟩,⟨ls,e1,e2,ab⟩,⟨as,ts,e3,e4,e5,rg⟩,bt,P5⟩;rw [Kd] at hx;obtain ⟨bi,av,rfl⟩:=Km.mp hx;have hi:i<ns.length:=(JX.mp av).1;ac_rfl;refine ⟨⟨_,e1⟩,_,.inl e1,a,_,rfl,P5,by rw [JS];omega,by rw [JS];omega,λy H6 b6 P6 y0 y1=>?_⟩;rw [JS] at y1;have Z:y.toNat<ls.length:=by omega
  have a8:=b6 _ _ a0 e1;have aI:=b6 _ _ a3 e3;refine ⟨ls.map V.int,y.toNat,by rw [Int.toNat_of_nonneg y0],a8,.int ls[y.toNat],by rw [Kd,JQ Z];rfl,⟨_,by rw [zf G.symm];exact aI⟩,?_⟩;ac_rfl;refine ⟨by decide,⟨by decide,by decide⟩,by decide,λtp H7 n7=>?_⟩;have f7:H7 fo=some (.lst (as.map V.ref)):=n7.same _ _ (by rw [zf G.symm];exact aI);have bq:=bA e4;have bp:ts.length=i:=by have:=congrArg length e5;rw [JS,Kr] at this;omega
  refine ⟨_,f7,by rw [JS];exact aK (by omega),⟨_,_,rfl⟩,⟨ls.eraseIdx y.toNat,?_,?_,λy' bf=>ab y' (List.mem_of_mem_eraseIdx bf)⟩,⟨as++[tp],ts++[(bi,ls[y.toNat] % 16,ls[y.toNat] / 16)],?_,?_,?_,?_⟩,λc o m1 m2 m3 e=>?_,?_⟩
  .rw [zf G,<- pj];exact n7.same _ _ zq
  .rw [LR Z];omega
  .rw [zq,Kz];rfl
  .have S:∀{r:Addr}{xs:List V},H7 r=some (.tup xs)->upd H7 fo (.lst (as.map V.ref++[V.ref tp])) r=some (.tup xs):=λ{r xs} e=>by
    rw [zf (λz=>by rw [z,f7] at e;cases e)];exact e
   refine fR (Paired.ri e4 λr tt e=>S (n7.same _ _ ?_)) (.cons (S n7.at_) .nil);have e:H5 r=_:=e;have bb:r≠a:=λz=>by obtain ⟨x,y,ea,_⟩:=P5.ex;rw [z,ea] at e;cases e
   rw [zf (λz=>by rw [z,e1] at e;cases e)];exact b6 _ _ bb e
  .rw [Kz,e5,Kt,av];rfl
  .intro t' a4;rcases Kx.mp a4 with h|h
   .exact rg t' h
   .rw [KS] at h;subst h;have:=ab ls[y.toNat] (Lk Z);show (0<=ls[y.toNat] % 16/\ls[y.toNat] % 16<512)/\0<=ls[y.toNat] / 16/\ls[y.toNat] / 16<512;omega
  .rw [zf m3];exact n7.same _ _ (by rw [zf m2];exact b6 _ _ m1 (bt _ _ m1 m2 m3 e))
  .obtain ⟨x,y',ea,r⟩:=P6.ex;exact ⟨⟨x,y',by rw [zf a3.symm];exact n7.same _ _ (by rw [zf a0.symm];exact ea),r⟩⟩
 .rintro σ H5 ⟨⟨t5,t6,rfl⟩,_,⟨as,ts,e3,e4,e5,rg⟩,bt,P5⟩;rw [JS,J2 (JY _)] at e5;ac_rfl;refine q fo as ts H5 (λc o nc e=>?_) P5 ((U.same.trans O.same).free J.no) e3 e4 (by rw [e5];exact pm) (by rw [e5];exact so) rg;have h3:=(U.same.trans O.same) _ _ e;exact bt _ _ nc (λz=>by have h1:=U.same _ _ e;rw [z,O.no] at h1;cases h1) (λz=>by rw [z,J.no] at h3;cases h3) (s4 _ _ (J.same _ _ h3))
abbrev iz:Stmt:=top 55
theorem rW(f:Nat->Int):∀n,0<n->∃i,i<n/\cM f n=some (f i)
 | 1,_=>⟨0,by decide,rfl⟩
 | n+2,_=>by
  obtain ⟨i,hi,e⟩:=rW f (n+1) (by omega);have z:cM f (n+2)=some (match cM f (n+1) with|none=>f (n+1)|some m=>if f (n+1)>m then f (n+1) else m):=rfl;rw [z,e];show ∃j,j<n+2/\some (if f (n+1)>f i then f (n+1) else f i)=some (f j);split
  .exact ⟨n+1,by omega,rfl⟩
  .exact ⟨i,by omega,rfl⟩
structure AbI(H:Hp)(ts:List T3)(i:Nat)(τ:L2.St)(ys:List V)(H':Hp):Prop where
 ex:∃t1,τ=[t1]
 ys:ys=(ts.take i).map λt=>V.int (t.1+1)
 same:ze H H'
def uq:Sp:=λvs H Q _=>∃(a sl:Addr)(as:List Addr)(ts:List T3),vs=[.ref a,.ref sl]/\Pot H a/\H sl=some (.lst (as.map V.ref))/\Paired (aY H) as ts/\ts.length<40/\(∀t∈ts,0<=t.1/\t.1<10 ^ 17) /\
 ∀(z:Int) H',But a H H'->Pot H' a->0<=z->z<10 ^ 18->Q (.int z) H'
theorem Ef:zu XW XW (zk iz):=fsc
theorem Jm:bc { kind:=.function,names:=[(JW ".0",.local),(JW "_law_spot",.local)],isGenerator:=false,isCoroutine:=false,more:=[] } (zk iz).names XW ["_law_spot"] [none]=true:=by decide +kernel
theorem AM:(["_law_spot"]:List Str).Nodup:=by decide +kernel
theorem y4(F:Fun K "_law_above" "_law_above" iz f fd)(T:Txt K mg A)(Z9:GF P w K mg base true 1 WH YR cK):zp P w K mg base CX0 true 2 f fd XW uq:=by
 refine F.o Ef λZP Ar outer s H vs Q E hr h=>?_;obtain ⟨a,sl,as,ts,rfl,hP,hs,hp,a5,av,q⟩:=h;refine ⟨_,(W.h (zi (zA (zB bg (zK (nT rfl) rfl T.Pz boot_max (za (zB bg (aj (za zo zd)) (cz (λ_=>rfl) (af.of Jm) (bz (zb 1)) (λ_ _ _ _ _=>(zD (i:=0) AM rfl (J5 rfl))) (λ_ _ _ _ _=>bB) (λ_ _ _ _ _=>(zB bg (zQ cu (zb 0) zo (λ_ _=>rfl)) zo)))) zd)) (zQ cu (aj (za zo (za (zt Z9 hr rfl (za (zb 0) (za (zB jQ zo zo) zd))) zd))) (zt Z9 hr rfl (za (zb 0) (za zo zd))) (λ_ _=>rfl)))))),?_⟩;ac_rfl;have ZS:=bA hp;refine ⟨by decide,λlz H1 J _=>⟨⟨_,SqL.of (J.same _ _ hs)⟩,ak.lst (xs:=as.map V.ref) (AbI H1 ts) (λi τ ys H' I=>?_) (λi τ ys H' I=>SqL.of (I.same _ _ (J.same _ _ hs))) ⟨⟨_,rfl⟩,rfl,ze.refl _⟩ ?_ ?_⟩⟩
 .rw [I.ys,JS];exact aK (by have:=MC i ts;omega)
 .intro N i x τ ys H' hx I hN;obtain ⟨t1,rfl⟩:=I.ex;rw [Kd] at hx;obtain ⟨b,hb,rfl⟩:=Km.mp hx;have hi:i<ts.length:=by rw [<- ZS];exact (JX.mp hb).1
  have Yg:ts[i]?=some ts[i]:=JQ hi;have g1:=I.same _ _ (J.same _ _ (cA hp hb Yg));have i0:atI [V.int ts[i].1,V.int ts[i].2.1,V.int ts[i].2.2] 0=some (V.int ts[i].1):=rfl;erw [g1,i0];refine hN _ _ _ ⟨⟨_,rfl⟩,?_,I.same⟩;rw [Kt,Yg,I.ys,Kz];rfl
 .intro τ ys H' I D3 H3 U;have O:=I.ys;rw [JS,ZS,J2 (JY _)] at O;rw [O] at U;rw [iq];refine ⟨_,_,U.same _ _ (I.same _ _ J.at_),U.at_,aq (by simp;omega),λp4 H4 n4=>?_⟩;rw [wQ];refine ⟨0::ts.map λt=>t.1+1,by rw [n4.at_,Li,LM];rfl,by simp,?_⟩;obtain ⟨i,hi,eb⟩:=rW (λi=>(0::ts.map λt=>t.1+1).getD i 0) (0::ts.map λt=>t.1+1).length (by simp);rw [eb];have z:ze H H4:=J.same.trans (I.same.trans (U.same.trans n4.same));have P4:=hP.same z;refine ⟨⟨by decide,by decide,by decide⟩,a,_,rfl,P4,by decide,by decide,λr1 H5 b5 P5 aI a4=>⟨by decide,λp6 H6 S _=>⟨a,2,rfl,P5.same S.same,by decide,by decide,λr2 H7 b7 P7 a3 ab=>?_⟩⟩⟩;have a0:p6≠a:=P5.ne S.no;have e7:=b7 _ _ a0 S.at_;have bb:But a H H7:=(((But.of z).trans b5).trans (.of S.same)).trans b7;obtain ⟨v,ev,hv⟩:=iE (xs:=[V.int 0,.int r1]) a3 (by simpa using ab);obtain ⟨G,rfl,m0,m1⟩:∃G:Int,v = .int G/\0<=G/\G<10 ^ 17:=by
   simp only [J1,Kh,or_false] at hv;rcases hv with rfl|rfl
   .exact ⟨_,rfl,by decide,by decide⟩
   .exact ⟨_,rfl,aI,a4⟩
  have hb:0<=(0::ts.map λt=>t.1+1).getD i 0/\(0::ts.map λt=>t.1+1).getD i 0<=10 ^ 17:=by
   rw [Kj,JQ hi];show 0<=(0::ts.map λt=>t.1+1)[i]/\_;have hm:=Lk hi;generalize (0::ts.map λt=>t.1+1)[i]=y at hm;rcases J1.mp hm with h|h
   .subst h;exact ⟨by decide,by decide⟩
   .obtain ⟨t',Z,rfl⟩:=KL.mp h;have:=av t' Z;show 0<=t'.1+1/\t'.1+1<=10 ^ 17;omega
  erw [e7];refine ⟨_,ev,?_⟩;show cL (V.int ((0::ts.map λt=>t.1+1).getD i 0)) (V.int G) H7 Q;ac_rfl;exact q _ H7 bb P7 (by omega) (by omega)
abbrev jb:Stmt:=top 56
theorem gg{zs:List Str}:(zs.map V.str).all z5=true:=by simp [z5]
theorem vI(zs:List Str):eqL (zs.map V.str) (zs.map V.str)=true:=iO gg λx hx b e=>by
 obtain ⟨y,_,rfl⟩:=KL.mp hx;cases e
theorem eJ{zs:List Int}:(zs.map V.int).all z5=true:=by simp [z5]
theorem iP(zs:List Int):eqL (zs.map V.int) (zs.map V.int)=true:=iO eJ λx hx b e=>by
 obtain ⟨y,_,rfl⟩:=KL.mp hx;cases e
structure yC(H:Hp)(p d:Addr)(i:Nat)(σ:L2.St)(H':Hp):Prop where
 ex:∃t1 t2,σ=[some (V.ref p),some (.ref d),t1,t2]
 same:ze H H'
structure IMc(H:Hp)(p:Addr)(n:Str)(l:List Int)(i:Nat)(τ:L2.St)(ys:List V)(H':Hp):Prop where
 ex:∃t,τ=[t,some (V.ref p),some (.str n)]
 ys:ys=(l.take i).map V.int
 same:ze H H'
 le:i<=60
def pF(A:zj):Sp:=λvs H Q _=>∃(p b k d a:Addr)(t u:Tab)(ks:List (Str×Tab)),vs=[.ref p,.ref d]/\bj A H p b k t ks/\zX H a d u/\t.length<60/\(∀n,(lk t n).length<=60)/\zN t u/\∀H',ze H H'->Q (.bl true) H'
theorem oR:zu WU WV (zk jb):=fsc
theorem EA:bc { kind:=.function,names:=[(JW ".0",.local),(JW "_law_place",.local),(JW "_law_files_here",.free),(JW "_law_name",.free)],isGenerator:=false,isCoroutine:=false,more:=[] } (zk jb).names WU WM [none,some 0,some 2]=true:=by decide +kernel
theorem Jr:(WM:List Str).Nodup:=by decide +kernel
theorem HJ(F:Fun K Ws Ws jb f fd)(T:Txt K mg A)(ZD:GM P w K mg base true 1 A.kn "names" ZY (lG A))(Z5:GM P w K mg base true 1 A.kn Wp Yt (fY A))(ZC:GM P w K mg base true 4 A.kn WB W9 (nN A)):zp P w K mg base CX0 true 5 f fd WV (pF A):=by
 refine F.o oR λZP Ar outer s H vs Q E hr h=>?_;obtain ⟨p,b,k,d,a,t,u,ks,rfl,hF,hM,tl,U,al,q⟩:=h;have hu:_<cLine:=KH (zM hr);refine ⟨_,(W.h (zh (zW (ah (dv hu) (zO (zb 0) T.hE ZD hr) (zK (dJ rfl) rfl T.ny LO (za (zb 1) zd)) (z6 _))
   (zi (zA ck))
   z9)
   (zh (pq (aW Lh.never (λ_=>rfl) (rX (zb 1)) (zD (i:=2) oR.nd rfl (MJ rfl))
   (zh (uU (i0:=3) oR.nd rfl (J5 rfl) (λ_=>rfl) (af.of EA) (dh rfl T.rd (za (aN (zb 0) T.hE Z5 hr (za (zb 2) zd)) zd)) (λ_ _ _ _ _=>(zD (i:=0) Jr rfl (J5 rfl))) (λ_ _ _ _ _=>bB) (λ_ _ _ _ _=>(aN (zb 1) T.hE ZC hr (za (zb 2) (za (zb 0) zd)))))
   (zi (zW (ah (dv hu) (zb 3) (zQ (c0 (zM hr)) (zb 1) (zb 2) (λ_ _=>rfl)) (z6 _))
   (zi (zA ck))
   z9)))))
   (zi (zA ck))))),?_⟩
 obtain ⟨dx,e1⟩:=hF.ob;obtain ⟨kvs,ed,dc⟩:=hM.ex;have G:=fE al hF.hX.nd hM.nd;erw [e1,rp];refine ⟨p,b,k,t,ks,rfl,hF,by omega,λnl H1 n1=>⟨kvs,.inl (n1.same _ _ ed),by rw [dc.length];omega,λml H2 n2=>?_⟩⟩;rw [dc.names,<- vz al hF.hX.nd hM.nd] at n2;have aI:=n2.same _ _ n1.at_;erw [aI,n2.at_];refine ⟨gg,gg,?_⟩;rw [vI];ac_rfl;have s2:ze H H2:=n1.same.trans n2.same;have O:=s2 _ _ ed;refine ⟨d,sk kvs,O,λo=>⟨o,sk kvs,zq,aa.QM (yC (upd H2 d (.frz o (.dK (sk kvs)))) p d) ⟨⟨_,_,rfl⟩,ze.refl _⟩ (λi σ H _ I=>I.same _ _ zq) ?_ ?_⟩⟩
 .rintro i pr σ H3 av ⟨⟨t1,t2,rfl⟩,sm⟩;have F3:=(hF.same s2).fs ((FS.freeze O).trans (FS.of sm));have S:=sm _ _ (zq (H:=H2) (a:=d));obtain ⟨q0,a0,rfl⟩:=tJ av;obtain ⟨l,Xy,_⟩:=dc.at a0;generalize q0.1=n at Xy;have G:look u n=some l:=cZ hM.nd (Kn Xy);have a5:(names u)[i]?=some n:=by unfold names;rw [Kd,Xy];rfl
  have ZK:look t n=some l:=by rw [al n];exact G
  have l2:l.length<=60:=by have:=U n;unfold lk at this;rw [ZK] at this;exact this
  obtain ⟨v,l',d1,d2,pl,ev,Yo,_⟩:∃v l',look kvs n=some v/\look u n=some l'/\MdP H a v l':=by
   rcases dc.look n with z|⟨_,d2⟩
   .exact z
   .rw [G] at d2;cases d2
  rw [G] at d2;cases d2;subst ev;have ab:H3 pl=some (.lst (l.map V.int)):=((FS.freeze O).trans (FS.of sm)).Qb _ _ (λ_=>nofun) (λ_ _=>nofun) (s2 _ _ Yo);obtain ⟨a4,e3⟩:=F3.ob;show bN 2 (V.str n) _ H3 _;erw [e3,dU];refine ⟨p,b,k,t,ks,n,rfl,F3,λH4 s4=>?_⟩;have a3:lk t n=l:=by unfold lk;rw [ZK];rfl
  rw [a3];ac_rfl;refine ⟨by omega,by omega,ak.rng (IMc H4 p n l) (λj τ ys H6 I=>?_) ⟨⟨_,rfl⟩,by simp,ze.refl _,by omega⟩ ?_ ?_⟩
  .rw [I.ys,JS,Kr];exact aK (by have:=I.le;omega)
  .intro N j τ ys H6 hj I hN;obtain ⟨tt,rfl⟩:=I.ex;have F6:=(F3.same s4).same I.same;obtain ⟨a6,e6⟩:=F6.ob;have Z:j<l.length:=by omega
   erw [e6,j2];refine ⟨p,b,k,t,ks,n,l,_,rfl,F6,ZK,by omega,by omega,λH7 s7=>?_⟩;have ej:(0+(j:Int)).toNat=j:=by omega
   have eg:l.getD j 0=l[j]:=by rw [Kj,JQ Z];rfl
   rw [ej,eg];refine hN _ _ _ ⟨⟨_,rfl⟩,?_,I.same.trans s7,by omega⟩;rw [I.ys,Kt,JQ Z,Kz];rfl
  .intro τ ys H6 I D H7 n7;have J:ze H3 H7:=(s4.trans I.same).trans n7.same;have e7:=J _ _ ab;have ey:ys=l.map V.int:=by rw [I.ys,J2 (by omega)]
   rw [ey] at n7;ac_rfl;refine ⟨_,.inr ⟨o,J _ _ S⟩,.ref pl,by rw [aJ];exact d1,?_⟩;erw [n7.at_,e7];refine ⟨eJ,eJ,?_⟩;rw [iP];ac_rfl;exact ⟨⟨_,_,rfl⟩,sm.trans J⟩
 .rintro σ H3 ⟨⟨t1,t2,rfl⟩,sm⟩;have S:=sm _ _ (zq (H:=H2) (a:=d));refine ⟨o,S,?_⟩;ac_rfl;refine q _ λa oo e=>?_;by_cases z:a=d
  .subst z;rw [zq,<- e,ed]
  .rw [zf z];exact sm _ _ (by rw [zf z];exact s2 _ _ e)
end
abbrev lQ:Stmt:=top 57
theorem ip:∀{xs L:List Int},xs.Nodup->(∀y∈xs,y∈L)->xs.length<=L.length
 | [],_,_,_=>Lc _
 | x::xs,L,nd,s=>by
  have F:=MO.mp nd;have hx:x∈L:=s x Kg;have h1:=ip (xs:=xs) (L:=L.erase x) F.2 λy G=>(List.mem_erase_of_ne (λz:y=x=>F.1 (by rw [<- z];exact G))).mpr (s y (Kc _ G));rw [List.length_erase_of_mem hx] at h1;have:=List.length_pos_of_mem hx;rw [Le];omega
theorem Bud.uniq{t:Tab}(h:Bud t ks B):(L2.uniq (au t ks)).length<=B:=let ⟨L,hL,hm⟩:=h.live;Kp (ip cF λy z=>hm y (bT.mp z)) hL
theorem jE{t u:Tab}(al:zN t u)(nt:(names t).Nodup)(h:y∈zF t):y∈zF u:=by
 obtain ⟨p,F,z⟩:=cO.mp h;have e:=cZ nt (show (p.1,p.2)∈t from F);rw [al] at e;exact cO.mpr ⟨_,bG e,z⟩
theorem ic{t u:Tab}(h:zN t u):zN u t:=λn=>(h n).symm
theorem jX{t u:Tab}(al:zN t u)(nt:(names t).Nodup)(U:(names u).Nodup)(kal:KAl ks ku)(nks:(names ks).Nodup)(W:(names ku).Nodup)(S:∀p∈ku,(names p.2).Nodup)(y:Int):y∈au t ks↔y∈au u ku:=by
 rw [eh,eh];constructor
 .rintro (h|⟨p,G,h⟩)
  .exact .inl (jE al nt h)
  .have e:=cZ nks (show (p.1,p.2)∈ks from G);rcases kal p.1 with ⟨v,w,z,F,J,O⟩|⟨z,_⟩
   .rw [e] at z;cases z;exact .inr ⟨_,bG F,jE J O h⟩
   .rw [e] at z;cases z
 .rintro (h|⟨p,G,h⟩)
  .exact .inl (jE (ic al) U h)
  .have e:=cZ W (show (p.1,p.2)∈ku from G);rcases kal p.1 with ⟨v,w,z,F,J,O⟩|⟨_,F⟩
   .rw [e] at F;cases F;exact .inr ⟨_,bG z,jE (ic J) (S p G) h⟩
   .rw [e] at F;cases F
theorem KAl.names(h:KAl ks ku)(J:(L2.names ks).Nodup)(O:(L2.names ku).Nodup):(L2.names ks).Perm (L2.names ku):=(Lw J O).mpr λn=>by
 rcases h n with ⟨v,w,F,G,_⟩|⟨F,G⟩
 .exact ⟨λ_=>KY λz=>(by rw [aV.mpr z] at G;cases G),λ_=>KY λz=>(by rw [aV.mpr z] at F;cases F)⟩
 .exact ⟨λz=>absurd z (aV.mp F),λz=>absurd z (aV.mp G)⟩
theorem bE.PV{a kd:Addr}(h:bE H a X kd ku):∀p∈ku,(names p.2).Nodup:=λp J=>by
 obtain ⟨kvs,_,d⟩:=h.ex;obtain ⟨j,z,F⟩:=LD J;have G:j<kvs.length:=by rw [d.length];exact z
 obtain ⟨O,e,q,_,_,pl⟩:=Dct.at d (JQ G);rw [JQ z,F] at e;cases e;exact pl.nd
theorem bE.same{a kd:Addr}(h:bE H a X kd ku)(s:ze H H'):bE H' a X kd ku :=
 let ⟨kvs,e,d⟩:=h.ex;⟨⟨kvs,s _ _ e,d.imp λv u ⟨q,z,F,pl⟩=>⟨q,z,F,pl.same s⟩⟩,h.nd⟩
section
variable {P:JZ}{w:Ke}{K:Frag}{mg:Str->Option Value}{base:Heap}{A:zj}
structure SmI(H:Hp)(p d kd:Addr)(i:Nat)(σ:L2.St)(H':Hp):Prop where
 ex:∃t1 t2,σ=[some (V.ref p),some (.ref d),some (.ref kd),t1,t2]
 same:ze H H'
def sV(A:zj):Sp:=λvs H Q _=>∃(p b k d kd a:Addr)(X:List Addr)(t u:Tab)(ks ku:List (Str×Tab)),vs=[.ref p,.ref d,.ref kd]/\zx A H p b k t ks/\zX H a d u/\bE H a X kd ku/\kd∈X/\d≠kd/\zN t u/\KAl ks ku/\Bud t ks 50/\ks.length<=3 /\
 ∀H',ze H H'->Q (.bl true) H'
theorem mi:zu ["_law_files_here","_law_plain","_law_kept","_law_name","_law_own"] W8 (zk lQ):=fsc
theorem C0(F:Fun K "_law_same" "_law_same" lQ f fd)(T:Txt K mg A)(Zz:GF P w K mg base true 5 Ws WV (pF A))(ZF:GM P w K mg base true 1 A.kn "held" ZY (oK A))(ZO:GM P w K mg base true 4 A.kn "of_held" YD (lS A))(ZI:GM P w K mg base true 1 A.kn "living" ZY (mW A))(ZA:GF P w K mg base true 1 Wo WY mG):zp P w K mg base CX0 true 6 f fd W8 (sV A):=by
 refine F.o mi λZP Ar outer s H vs Q E hr h=>?_;obtain ⟨p,b,k,d,kd,a,X,t,u,ks,ku,rfl,Z,hD,hK,kX,b3,al,kal,bud,few,q⟩:=h;have hu:_<cLine:=KH (zM hr);refine ⟨_,(W.h (zh (zW (dQ (jg (bW (bO (zt Zz hr rfl (za (zb 0) (za (zb 1) zd))))) (jN (ah (dv hu) (zO (zb 0) T.hE ZF hr) (zK (dJ rfl) rfl T.ny LO (za (zb 2) zd)) (z6 _)))))
   (zi (zA ck))
   z9)
   (zh (pq (aW Lh.never (λ_=>rfl) (rX (zb 2)) (zD (i:=3) mi.nd rfl (J5 rfl))
   (zh (zw (i:=4) mi.nd rfl (J5 rfl) (aN (zb 0) T.hE ZO hr (za (zb 3) zd)))
   (zi (zW (dQ (jg (bW (bO (zt Zz hr rfl (za (zb 4) (za (zQ (c0 (zM hr)) (zb 2) (zb 3) (λ_ _=>rfl)) zd))))) (jN (ah (tE hu) (zO (zb 4) T.hE ZF hr) (aj zd) (z6 _)))))
   (zi (zA ck))
   z9)))))
   (zi (zA (eR (da hu) (zO (zb 0) T.hE ZI hr) (zt ZA hr rfl (za (zb 1) (za (zb 2) zd))) (z6 _))))))),?_⟩
 obtain ⟨dx,e1⟩:=Z.ob;have bf:=bud.few;have b2:=kal.len Z.xy hK.nd;erw [e1,je];refine ⟨p,b,k,d,a,t,u,ks,rfl,Z.r,hD,by omega,λn=>by have:=bud.row n;omega,al,λH1 s1=>?_⟩;have F1:=Z.same s1;obtain ⟨XA,X9⟩:=F1.ob;have K1:=hK.same s1;obtain ⟨J,XF,dk⟩:=K1.ex;erw [X9,je];refine ⟨p,b,k,t,ks,rfl,F1.r,by omega,λhl H2 n2=>⟨J,.inl (n2.same _ _ XF),by rw [dk.length];omega,λsl H3 n3=>?_⟩⟩;rw [dk.names,<- nP (kal.names Z.xy hK.nd)] at n3;have bx:=n3.same _ _ n2.at_;erw [bx,n3.at_];refine ⟨gg,gg,?_⟩;rw [vI];ac_rfl;have S:ze H1 H3:=n2.same.trans n3.same;have G:=S _ _ XF;have F3:=F1.same S;have a4:(names J).Nodup:=by show (J.map (·.1)).Nodup;rw [dk.names];exact hK.nd
 refine ⟨kd,sk J,G,λo=>⟨o,sk J,zq,aa.QM (SmI (upd H3 kd (.frz o (.dK (sk J)))) p d kd) ⟨⟨_,_,rfl⟩,ze.refl _⟩ (λi σ H _ I=>I.same _ _ zq) ?_ ?_⟩⟩
 .rintro i pr σ H4 bp ⟨⟨t1,t2,rfl⟩,sm⟩;have F4:=F3.r.fs ((FS.freeze G).trans (FS.of sm));obtain ⟨q0,aI,rfl⟩:=tJ bp;obtain ⟨w',Xy,e',ba,nX,pl⟩:=Dct.at dk aI;have a5:look J q0.1=some (.ref e'):=by rw [<- ba];exact cZ a4 (Kn aI)
  generalize q0.1=n at Xy a5;have av:look ku n=some w':=cZ hK.nd (Kn Xy);obtain ⟨U,ab,a8,_⟩:∃U,look ks n=some U/\zN U w'/\(names U).Nodup:=by
   rcases kal n with ⟨v,w,e1,e2,a1,nv⟩|⟨_,e2⟩
   .rw [av] at e2;cases e2;exact ⟨v,e1,a1,nv⟩
   .rw [av] at e2;cases e2
  have o1:U.length<=50:=(bud.old _ (bG ab)).1;have o2:∀m,(lk U m).length<=50:=(bud.old _ (bG ab)).2;obtain ⟨b8,e4⟩:=F4.ob;show bN 3 (V.str n) _ H4 _;erw [e4,u9];refine ⟨p,b,k,t,ks,n,U,rfl,F4,ab,λq' b' k' H5 s5 nb nk nq hB b6=>?_⟩;have bt:e'≠kd:=λz=>nX (z ▸ kX);have a6:zX H5 a e' w':=(((pl.same S).dic (But.upd (o:=.frz o (.dK (sk J)))) G bt).same sm).same s5;ac_rfl;refine ⟨_,.inr ⟨o,s5 _ _ (sm _ _ zq)⟩,.ref e',by rw [aJ];exact a5,?_⟩;refine ⟨q',b',k',e',a,U,w',[],rfl,hB.files,a6,by omega,λm=>by have:=o2 m;omega,a8,λH6 s6=>?_⟩;have B6:=hB.same s6;obtain ⟨b9,e6⟩:=B6.ob;erw [e6,je];refine ⟨q',b',k',U,[],rfl,B6.files,by decide,λl7 H7 n7=>⟨by decide,λl8 H8 n8 _=>?_⟩⟩;have a7:=n8.same _ _ n7.at_;ac_rfl;refine ⟨_,a7,_,n8.at_,.inr rfl,?_⟩;have z0:((zr (names ([]:List (Str×Tab)))).map V.str).length=0:=by rw [JS,(zY _).1.length_eq];rfl
  rw [if_neg (by rw [z0];simp)];exact ⟨⟨_,_,rfl⟩,sm.trans (((s5.trans s6).trans n7.same).trans n8.same)⟩
 .rintro σ H4 ⟨⟨t1,t2,rfl⟩,sm⟩;have b1:=sm _ _ (zq (H:=H3) (a:=kd));refine ⟨o,b1,?_⟩;have a3:ze H3 (upd H4 kd (.dK (sk J))):=λc oo e=>by
   by_cases z:c=kd
   .subst z;rw [G] at e;cases e;exact zq
   .rw [zf z];exact sm _ _ (by rw [zf z];exact e)
  generalize upd H4 kd (.dK (sk J))=H5 at a3;have O:ze H H5:=(s1.trans S).trans a3;have F5:=Z.same O;obtain ⟨b4,e5⟩:=F5.ob;have hq:=bud.uniq;have mem:=jX al Z.hX.nd hD.nd kal Z.xy hK.nd hK.PV;have b5:(uniq (au u ku)).length<=50:=Kp (ip cF λy hy=>bT.mpr ((mem y).mpr (bT.mp hy))) hq;erw [e5,ug];refine ⟨p,b,k,t,ks,rfl,F5,by omega,by omega,λl ns H6 s6 nl el pm so=>?_⟩;refine ⟨a,d,kd,X,u,ku,rfl,(hD.same O).same s6,(hK.same O).same s6,by omega,by omega,λl2 ns2 H7 s7 b7 a9 a0 bq=>?_⟩;have bb:=s7 _ _ el;have b0:ns=ns2:=o6 so bq (pm.nodup_iff.mpr cF) (a0.nodup_iff.mpr cF) λy=>by
   rw [pm.mem_iff,a0.mem_iff,bT,bT];exact mem y
  subst b0;erw [bb,a9];refine ⟨eJ,eJ,?_⟩;rw [iP];ac_rfl;exact q H7 ((O.trans s6).trans s7)
abbrev iY:Stmt:=top 38
def zP(ws:List Str):List Nat:=(ws.map λz=>sg z++[32]).flatten
def aL(ts:List T3):List Str:=ts.flatMap λt=>[(toString t.1:Str),(toString t.2.1:Str),(toString t.2.2:Str)]
noncomputable def ax(m n:Int)(t:Tab)(ks:List (Str×Tab))(ts:List T3):List Str:="mark"::(toString m:Str)::(toString n:Str)::(aB t ks++(toString (ts.length:Int):Str)::aL ts)
noncomputable def bM(m n:Int)(t:Tab)(ks:List (Str×Tab))(ts:List T3):Str:=cN (tx (zP (ax m n t ks ts)))
structure cV(ts:List T3)(m n:Int):Prop where
 b:∀t∈ts,0<=t.1/\t.1<10 ^ 17
 r:iu ts
 few:ts.length<40
 m:0<=m/\m<10 ^ 18
 n:0<=n/\n<10 ^ 18
theorem iC(a b:List Str):zP (a++b)=zP a++zP b:=by unfold zP;rw [Kz,List.flatten_append]
theorem tR(v:Str)(ws:List Str):sg (KF " " (v::ws))++[32]=zP (v::ws):=by
 rw [ng];have:∀ws:List Str,((ws.map sg).map (32::·)).flatten++[32]=32::zP ws:=by
  intro ws
  induction ws with
  | nil=>rfl
  | cons z ws F =>
   show (32::sg z++((ws.map sg).map (32::·)).flatten)++[32]=32::((sg z++[32])++zP ws);rw [LI,F];simp
 rw [LI,this];show _=(sg v++[32])++zP ws;simp
theorem jM:∀{ws:List Str},(∀z∈ws,Wd z)->(zP ws).length<=21*ws.length/\(zP ws).all (· < 128)=true
 | [],_=>⟨by simp [zP],rfl⟩
 | z::ws,h=>by
  obtain ⟨h1,h2⟩:=jM (ws:=ws) λu G=>h u (Kc _ G);have hz:=h z (Kg ..);have e:zP (z::ws)=sg z++[32]++zP ws:=by simp [zP]
  have F:=hz.most;have p2:=hz.a;rw [e];rw [<- ao] at F;rw [dN] at p2;refine ⟨by simp;omega,?_⟩;rw [all_append,all_append,p2,h2];rfl
theorem hG:∀{ts:List T3},(∀t∈ts,0<=t.1/\t.1<10 ^ 17)->iu ts->(∀z∈aL ts,Wd z)/\(aL ts).length=3*ts.length
 | [],_,_=>by simp [aL]
 | t::ts,h,r=>by
  obtain ⟨i1,i2⟩:=hG (ts:=ts) (λu F=>h u (Kc _ F)) (λu F=>r u (Kc _ F));have h1:=h t (Kg ..);have h2:=r t (Kg ..);have e:aL (t::ts)=[(toString t.1:Str),(toString t.2.1:Str),(toString t.2.2:Str)]++aL ts:=by simp [aL]
  rw [e];refine ⟨λz hz=>?_,by simp;omega⟩;rcases Kx.mp hz with hz|hz
  .simp only [J1,Kh,or_false] at hz;rcases hz with rfl|rfl|rfl
   .exact cC h1.1 (by omega)
   .exact cC h2.1.1 (by omega)
   .exact cC h2.2.1 (by omega)
  .exact i1 z hz
theorem fA{t:Tab}(gm:aS t)(gk:cx ks)(gs:cV ts m n):(∀z∈ax m n t ks ts,Wd z)/\(ax m n t ks ts).length<=1400:=by
 obtain ⟨F,G⟩:=iH gm gk;obtain ⟨s1,s2⟩:=hG gs.b gs.r;have few:=gs.few;refine ⟨λz hz=>?_,by unfold ax;simp;omega⟩;unfold ax at hz;rcases J1.mp hz with rfl|hz
 .exact fm (f!"")
 rcases J1.mp hz with rfl|hz
 .exact cC gs.m.1 gs.m.2
 rcases J1.mp hz with rfl|hz
 .exact cC gs.n.1 gs.n.2
 rcases Kx.mp hz with hz|hz
 .exact F z hz
 rcases J1.mp hz with rfl|hz
 .exact cC (by omega) (by omega)
 .exact s1 z hz
theorem sH{ts:List T3}{t:T3}(h:ts[i]?=some t):aL (ts.take (i+1))=aL (ts.take i)++[(toString t.1:Str),(toString t.2.1:Str),(toString t.2.2:Str)]:=by
 unfold aL;rw [Kt,h,L9];simp
def cX(m n:Int)(z:Str)(l:Int)(ts:List T3):List Str:=[("mark":Str),(toString m:Str),(toString n:Str),z,(toString l:Str)]++aL ts
theorem xj{t:Tab}(gm:aS t)(gk:cx ks)(gs:cV ts m n):((cX m n (cH t ks) ts.length ts).length<=200/\∀z∈cX m n (cH t ks) ts.length ts,z.length<=100000)/\zP (cX m n (cH t ks) ts.length ts)=zP (ax m n t ks ts):=by
 obtain ⟨J,G⟩:=iH gm gk;obtain ⟨s1,s2⟩:=hG gs.b gs.r;obtain ⟨S,_⟩:=fA gm gk gs;obtain ⟨v,ws,O⟩:=AZ t ks;have few:=gs.few;refine ⟨⟨by unfold cX;simp;omega,λz hz=>?_⟩,?_⟩
 .by_cases F:z=cH t ks
  .rw [F];unfold cH;rw [O] at J G ⊢;have:=qX J;simp only [Le] at G;omega
  .have:z∈ax m n t ks ts:=by
    unfold cX at hz;unfold ax;simp only [Nm,NA,J1,Kx] at hz ⊢;rcases hz with h|h|h|h|h|h<;>simp_all
   have:=(S z this).most;omega
 .have U:ax m n t ks ts=[("mark":Str),(toString m:Str),(toString n:Str)]++(aB t ks++([(toString (ts.length:Int):Str)]++aL ts)):=rfl;have W:cX m n (cH t ks) ts.length ts=[("mark":Str),(toString m:Str),(toString n:Str)]++([cH t ks]++([(toString (ts.length:Int):Str)]++aL ts)):=rfl;rw [U,W,iC,iC _ (aB t ks++_),iC [cH t ks],iC (aB t ks)];congr 2;unfold cH;rw [O];refine Eq.trans ?_ (tR v ws);simp [zP]
structure MtI(H:Hp)(x sl wl:Addr)(pm:List T3->List Str)(us:List T3)(i:Nat)(σ:L2.St)(H':Hp):Prop where
 ex:∃t1 t2 t3,σ=[some (V.ref x),some (.ref sl),some (.ref wl),t1,t2,t3]
 hw:H' wl=some (.lst ((pm (us.take i)).map V.str))
 same:∀c o,c≠wl->H c=some o->H' c=some o
structure MtC(H:Hp)(ws:List Str)(i:Nat)(τ:L2.St)(ys:List V)(H':Hp):Prop where
 ex:∃t,τ=[t]
 ys:ys=((ws.take i).map λz:Str=>z++(" ":Str)).map V.str
 same:ze H H'
theorem rG(l:List Str):((l.map λz:Str=>z++(" ":Str)).map (·.length)).sum=(zP l).length:=by
 unfold zP;rw [List.length_flatten,LM,LM];congr 1;refine LC λv _=>?_;show (v++(" ":Str)).length=(sg v++[32]).length;rw [Lu,KB,ao];rfl
theorem um(l:List Str):KF "" (l.map λz:Str=>z++(" ":Str))=tx (zP l):=by
 refine gz ?_;rw [qS,cI,LM];unfold zP;congr 1;refine LC λv _=>?_;show sg (v++(" ":Str))=_;rw [dD];rfl
theorem wx(hl:∀z∈ws,z.length<=100000):∀(N:L2.St->List V->Hp->Prop)(i:Nat)(v:V)(F:L2.St)(ys:List V)(H':Hp),(ws.map V.str)[i]?=some v->MtC H5 ws i F ys H'->(∀F ys H,MtC H5 ws (i+1) F ys H->N F ys H)->bN 0 v F H' λG H4=>jl G H4 λok H5=>dB N ys G (tOp gR (gZ 0) (tC (V.str " "))) ok H5:=by
 intro N i v F ys H' hv I hN;obtain ⟨t1,rfl⟩:=I.ex;rw [Kd] at hv;obtain ⟨z,hz,rfl⟩:=Km.mp hv;have hl:=hl z (Kn hz);ac_rfl;refine ⟨?_,hN _ _ _ ⟨⟨_,rfl⟩,?_,I.same⟩⟩
 .rw [show (" ":Str).length=1 by decide];exact aq (by omega)
 .rw [I.ys,Kt,hz];simp
def oH(A:zj):Sp:=λvs H Q _=>∃(x z b k d:Addr)(t:Tab)(ks:List (Str×Tab))(ts:List T3)(n m:Int),vs=[.ref x]/\cv A H x z b k d t ks ts n m/\aS t/\cx ks/\cV ts m n /\
 ∀us H',ze H H'->us.Perm ts->(us.map (·.1)).Pairwise (·<=·)->Q (.str (bM m n t ks us)) H'
theorem fG:zu WR ["state"] (zk iY):=fsc
theorem Bc:bc { kind:=.function,names:=[(JW ".0",.local),(JW "word",.local)],isGenerator:=false,isCoroutine:=false,more:=[] } (zk iY).names WR ["word"] [none]=true:=by decide +kernel
theorem Hl:(["word"]:List Str).Nodup:=by decide +kernel
theorem EJ(F:Fun K Wi Wi iY f fd)(T:Txt K mg A)(ZW:GM P w K mg base true 1 A.State Wu ZY (jr A))(Z0:GM P w K mg base true 1 A.State WC ZY (lF A))(ZZ:GM P w K mg base true 1 A.State WD ZY (k9 A))(ZV:GM P w K mg base true 5 A.State WG ZY (jw A))(Y6:GF P w K mg base true 6 "files_text" WQ (qQ A))(Zd:GF P w K mg base true 2 "summed" ["body"] kO):zp P w K mg base CX0 true 7 f fd ["state"] (oH A):=by
 refine F.o fG λZP Ar outer s H vs Q E hr h=>?_;obtain ⟨x,fx,b,k,d,t,ks,ts,n,m,rfl,hS,gm,gk,gs,q⟩:=h;refine ⟨_,(W.h (zh (zw (i:=1) fG.nd rfl (J5 rfl) (m0D (zO (clE (zg 0)) T.mm ZW hr)))
   (zh (zw (i:=2) fG.nd rfl (J5 rfl) (aj (za (fj rfl T.z3) (za (az aU rfl T.nY Ls (za (m0D (zO (clE (zg 0)) T.mm Z0 hr)) zd)) (za (az aU rfl T.nY Ls (za (m0D (zO (clE (zg 0)) T.mm ZZ hr)) zd)) (za (caD (zt Y6 hr rfl (clP (za (m0D (zO (clE (zg 0)) T.mm ZV hr)) zd)))) zd))))))
   (zh (ai (fP (zg 2) (az aU rfl T.nY Ls (za (zK mn rfl T.r0 KA (za (zg 1) zd)) zd))))
   (zh (aW Lh.never (λ_=>rfl) (liD (bz (clE (zg 1)))) (jn (n:=3) (gsD (bh (zD (i:=3) fG.nd rfl (J5 rfl)) (gsD (bh (zD (i:=4) fG.nd rfl (J5 rfl)) (gsD (bh (zD (i:=5) fG.nd rfl (J5 rfl)) ef)))))))
   (zi (ai (iW (zg 2) (aj (za (az aU rfl T.nY Ls (za (zg 3) zd)) (za (az aU rfl T.nY Ls (za (zg 4) zd)) (za (az aU rfl T.nY Ls (za (zg 5) zd)) zd))))))))
   (zi (zA (caD (zt Zd hr rfl (clP (za (iR aC (cz (λ_=>rfl) (af.of Bc) (liD (bz (clE (zg 2)))) (λ_ _ _ _ _=>(zD (i:=0) Hl rfl (J5 rfl))) (λ_ _ _ _ _=>bB) (λ_ _ _ _ _=>(zB cq (zg 0) aC)))) zd))))))))))),?_⟩
 obtain ⟨dx,e1⟩:=hS.ob;erw [e1,mI];refine ⟨x,fx,b,k,d,t,ks,ts,n,m,rfl,hS,λsl as us H1 s1 a0 Yl pr pm so=>?_⟩;have S1:=hS.same s1;obtain ⟨XA,X9⟩:=S1.ob;erw [X9,gK,gL,hU];refine ⟨x,fx,b,k,d,t,ks,ts,n,m,rfl,S1,?_⟩;have hm:=gs.m;have hn:=gs.n;erw [X9,gK,gL,hU];refine ⟨aT (by omega),x,fx,b,k,d,t,ks,ts,n,m,rfl,S1,?_⟩;erw [X9,gK,gL,hU];refine ⟨aT (by omega),x,fx,b,k,d,t,ks,ts,n,m,rfl,S1,λq' b' k' H2 s2 nq nb nk F2 _=>⟨q',b',k',t,ks,rfl,F2.r,gm,gk,λH3 s3=>?_⟩⟩;have G:=s3 _ _ (s2 _ _ Yl);have a3:=pm.length_eq;have Z:=bA pr;have few:=gs.few;refine ⟨by decide,λwl H4 J _=>⟨⟨_,J.at_⟩,_,.inl (J.same _ _ G),?_⟩⟩;rw [JS,Z];have U:H1 wl=none:=(s2.trans s3).free J.no;have ab:sl≠wl:=zH Yl U;have aI:∀{H':Hp},(∀c o,c≠wl->H4 c=some o->H' c=some o)->Paired (aY H') as us:=λ{H'} k'=>Paired.ri pr λr u e=>k' _ _ (zH e U) (J.same _ _ (s3 _ _ (s2 _ _ e)));have av:∀{H':Hp},(∀c o,c≠wl->H4 c=some o->H' c=some o)->H' sl=some (.lst (as.map V.ref)):=λ{H'} k'=>k' _ _ ab (J.same _ _ G);refine ⟨aT (by omega),_,J.at_,aK (by simp),⟨_,SqL.of (by rw [zf ab];exact J.same _ _ G)⟩,aa.lst (xs:=as.map V.ref) (MtI H4 x sl wl (cX m n (cH t ks) us.length) us) ⟨⟨_,_,_,rfl⟩,by rw [zq];rfl,λc o nc e=>by rw [zf nc];exact e⟩ (λi σ H' _ I=>SqL.of (av I.same)) ?_ ?_⟩
 .rintro i v σ H5 hv ⟨⟨t1,t2,t3,rfl⟩,hw,k5⟩;rw [Kd] at hv;obtain ⟨r,Xz,rfl⟩:=Km.mp hv;have hi:i<us.length:=by rw [<- Z];exact (JX.mp Xz).1
  have S:us[i]?=some us[i]:=JQ hi;have g1:=cA (aI k5) Xz S;have ub:=gs.b us[i] (pm.mem_iff.mp (Lk hi));have ur:=gs.r us[i] (pm.mem_iff.mp (Lk hi));generalize us[i]=u at S g1 ub ur;refine ⟨r,_,rfl,SqT.of g1,rfl,?_⟩;erw [hw];refine ⟨aT (by omega),aT (by omega),aT (by omega),by decide,λp H6 n6 _=>⟨_,n6.same _ _ hw,_,n6.at_,aq ?_,⟨_,_,_,rfl⟩,?_,λc o nc e=>by rw [zf nc];exact n6.same _ _ (k5 _ _ nc e)⟩⟩
  .have h1:=(hG (ts:=us.take i) (λt O=>gs.b t (pm.mem_iff.mp (LJ O))) (λt O=>gs.r t (pm.mem_iff.mp (LJ O)))).2;rw [Kr] at h1;rw [JS];unfold cX;simp;omega
  .rw [zq];unfold cX;rw [sH S];simp
 .rintro σ H5 ⟨⟨t1,t2,t3,rfl⟩,hw,k5⟩;rw [JS,Z,J2 (JY _)] at hw;erw [hw];have gu:cV us m n:=⟨λt O=>gs.b t (pm.mem_iff.mp O),λt O=>gs.r t (pm.mem_iff.mp O),by omega,gs.m,gs.n⟩;obtain ⟨p1,p2⟩:=xj gm gk gu;obtain ⟨m1,m2⟩:=fA gm gk gu;obtain ⟨b1,b2⟩:=jM m1;generalize cX m n (cH t ks) us.length us=ws at hw p1 p2;refine ⟨⟨_,SqL.of hw⟩,ak.lst (xs:=ws.map V.str) (MtC H5 ws) (λi τ ys H' I=>?_) (λi τ ys H' I=>SqL.of (I.same _ _ hw)) ⟨⟨_,rfl⟩,by simp,ze.refl _⟩ (wx p1.2) ?_⟩
  .rw [I.ys,JS,JS,Kr];exact aK (by omega)
  .intro τ ys H6 I D H7 n7;rw [jY];have ey:=I.ys;rw [JS,J2 (JY _)] at ey;refine ⟨ws.map λz:Str=>z++(" ":Str),by rw [n7.at_,ey],?_,tx (zP (ax m n t ks us)),?_,by rw [iK];exact b2,by rw [d6];omega,λH8 s8=>?_⟩
   .rw [rG,p2,show ("":Str).length=0 by decide];omega
   .rw [um,p2]
   .have s7:∀c o,c≠wl->H4 c=some o->H8 c=some o:=λc o nc e=>s8 _ _ (n7.same _ _ (I.same _ _ (k5 _ _ nc e)));exact q us H8 (λc o e=>s7 _ _ (zH (s1 _ _ e) U) (J.same _ _ (s3 _ _ (s2 _ _ (s1 _ _ e))))) pm so
abbrev lT:Stmt:=top 41
abbrev iB:Stmt:=top 40
abbrev o5:Stmt:=top 39
theorem Jk(hl:∃a,l=a++[32]):cQ (cN (tx l))=tx l:=by
 obtain ⟨a,rfl⟩:=hl;have F:=gx (fL (tx (a++[32]))).1 (by have:=(fL (tx (a++[32]))).2;lia);have e:sg (cN (tx (a++[32])))=a++32::(sg (toString (cy (tx (a++[32]))):Str)++[59]):=by
  unfold cN;rw [dD,dD,cI];simp;decide +kernel
 refine wj e λh=>?_;rcases Kx.mp h with h|h
 .have:=F.dig 32 h;lia
 .simp at h
theorem IR{ts:List T3}{t:T3}(h:ts[i]?=some t):aL (ts.drop i)=(toString t.1:Str)::(toString t.2.1:Str)::(toString t.2.2:Str)::aL (ts.drop (i+1)):=by
 rw [jJ h];simp [aL]
theorem zJ.yz{p sl:Addr}{as:List Addr}(h:zJ A H p ws)(s:But sl H H')(hs:H sl=some (.lst (as.map V.ref))):zJ A H' p ws:=by
 obtain ⟨dx,wl,pre,F,J,O,G⟩:=h.ex;refine ⟨⟨dx,wl,pre,s _ _ (λz=>by subst z;rw [F] at hs;cases hs) F,s _ _ (λz=>?_) J,O,G⟩⟩;subst z;rw [J] at hs;cases e:pre++ws with
 | nil=>exact G e
 | cons y ys =>
  rw [e] at hs;cases as with
  | nil=>cases hs
  | cons a as=>cases hs
structure TsI(A:zj)(H:Hp)(p sl:Addr)(ts:List T3)(ZL:List Str)(i:Nat)(σ:L2.St)(H':Hp):Prop where
 ex:∃t1 t2 t3,σ=[some (V.ref p),some (.ref sl),t1,t2,t3]
 but:But p H H'
 wd:zJ A H' p (aL (ts.drop i)++ZL)
 sp:∃as,H' sl=some (.lst (as.map V.ref))/\Paired (aY H') as (ts.take i)
def rV(A:zj):Sp:=λvs H Q _=>∃(p:Addr)(ts:List T3)(ZL:List Str),vs=[.ref p]/\zJ A H p ((toString (ts.length:Int):Str)::(aL ts++ZL))/\(∀t∈ts,0<=t.1/\t.1<10 ^ 17)/\iu ts/\ts.length<40 /\
 ∀l as H',But p H H'->H l=none->H' l=some (.lst (as.map V.ref))->Paired (aY H') as ts->zJ A H' p ZL->Q (.ref l) H'
theorem gU:zu ["words",Wu,"number",WB,"stretch"] W0 (zk lT):=fsc
theorem BS(F:Fun K "take_spots" "take_spots" lT f fd)(T:Txt K mg A)(Z8:GM P w K mg base true 3 A.Words Wy ZY (iw A)):zp P w K mg base CX0 true 4 f fd W0 (rV A):=by
 refine F.o gU λZP Ar outer s H vs Q E hr h=>?_;obtain ⟨p,ts,ZL,rfl,hW,hb,Xz,few,q⟩:=h;refine ⟨_,(W.h (zh (zw (i:=1) gU.nd rfl (J5 rfl) (aj zd))
   (zh (aW Lh.never (λ_=>rfl) (dh rfl T.rd (za (m0D (zO (clE (zg 0)) T.kz Z8 hr)) zd)) (zD (i:=2) gU.nd rfl (J5 rfl))
   (zh (zw (i:=3) gU.nd rfl (J5 rfl) (m0D (zO (clE (zg 0)) T.kz Z8 hr)))
   (zh (zw (i:=4) gU.nd rfl (J5 rfl) (m0D (zO (clE (zg 0)) T.kz Z8 hr)))
   (zi (ai (fP (zg 1) (dr (za (zg 3) (za (zg 4) (za (m0D (zO (clE (zg 0)) T.kz Z8 hr)) zd))))))))))
   (zi (zA (zg 1)))))),?_⟩
 ac_rfl;refine ⟨by decide,λsl H1 n1 _=>?_⟩;have W1:=hW.same n1.same;obtain ⟨dx,wl,pre,e1,_⟩:=W1.ex;erw [e1,cY];refine ⟨p,ts.length,_,rfl,W1,by omega,by omega,λH2 b2 W2=>?_⟩;have S:sl≠p:=λz=>by have:=n1.at_;rw [z,e1] at this;cases this
 have Yl:H2 sl=some (.lst (([]:List Addr).map V.ref)):=b2 _ _ S n1.at_;ac_rfl;rw [Mw];refine ⟨by omega,by omega,aa.rng (TsI A H p sl ts ZL) ⟨⟨_,_,_,rfl⟩,(But.of n1.same).trans b2,W2,[],Yl,.nil⟩ ?_ ?_⟩
 .rintro i σ H' hi ⟨⟨t1,t2,t3,rfl⟩,bt,Z,as,has,pr⟩;have Yg:ts[i]?=some ts[i]:=JQ hi;have ub:=hb ts[i] (Lk hi);have ur:=Xz ts[i] (Lk hi);generalize ts[i]=u at Yg ub ur;rw [IR Yg] at Z;obtain ⟨a0,a3,av,e3,_⟩:=Z.ex;erw [e3,cY];refine ⟨p,u.1,_,rfl,Z,ub.1,by omega,λH3 b3 W3=>?_⟩;obtain ⟨a6,a4,aI,e4,_⟩:=W3.ex;erw [e4,cY];refine ⟨p,u.2.1,_,rfl,W3,ur.1.1,by omega,λH4 b4 W4=>?_⟩;obtain ⟨a5,a7,ab,e5,_⟩:=W4.ex;have U:But p H' H4:=b3.trans b4;have O:=U _ _ S has;erw [e5,cY,O];refine ⟨p,u.2.2,_,rfl,W4,ur.2.1,by omega,λH5 b5 W5=>⟨by decide,λtp H6 n6=>?_⟩⟩;have G:=n6.same _ _ (b5 _ _ S O);have la:=bA pr;rw [Kr] at la;have J:∀{r:Addr}{xs:List V}{o:HO},H6 r=some (.tup xs)->upd H6 sl o r=some (.tup xs):=λ{r xs o} e=>by
   rw [zf (λz=>by rw [z,G] at e;cases e)];exact e
  refine ⟨_,G,by rw [JS];exact aK (by omega),⟨_,_,_,rfl⟩,λc o nc e=>?_,(W5.same n6.same).yz But.upd G,as++[tp],by rw [zq,Kz];rfl,?_⟩
  .rw [zf (λz=>by rw [z,n1.no] at e;cases e)];exact n6.same _ _ (b5 _ _ nc (U _ _ nc (bt _ _ nc e)))
  .rw [Kt,Yg];refine fR (Paired.ri pr λr v e=>J (n6.same _ _ (b5 _ _ ?_ (U _ _ ?_ e)))) (.cons (J n6.at_) .nil)
   .exact λz=>by have e:H' r=_:=e;rw [z,e3] at e;cases e
   .exact λz=>by have e:H' r=_:=e;rw [z,e3] at e;cases e
 .rintro σ H' ⟨⟨t1,t2,t3,rfl⟩,bt,Z,as,has,pr⟩;rw [J2 (JY _)] at pr;rw [LH (JY _)] at Z;ac_rfl;exact q sl as H' bt n1.no has pr Z
structure SoI(H:Hp)(ts:List T3)(i:Nat)(τ:L2.St)(ys:List V)(H':Hp):Prop where
 ex:∃t1 t2 t3,τ=[t1,t2,t3]
 ys:ys=((ts.take i).map (·.1)).map V.int
 same:ze H H'
structure jx(t:Tab)(ks:List (Str×Tab))(ts:List T3)(n m:Int):Prop where
 gm:aS t
 gk:cx ks
 gs:cV ts m n
 pm:(ts.map (·.1)).Perm (uniq (au t ks))
 so:(ts.map (·.1)).Pairwise (·<=·)
def wD(A:zj):Sp:=λvs H Q _=>∃(p:Addr)(t:Tab)(ks:List (Str×Tab))(ts:List T3)(n m:Int),vs=[.ref p]/\zJ A H p (ax m n t ks ts)/\jx t ks ts n m /\
 ∀x z b k d u us H',But p H H'->cv A H' x z b k d u us ts n (m+1)->zN u t->KAl us ks->Q (.ref x) H'
theorem gW:zu WT W0 (zk iB):=fsc
theorem Hv:bc { kind:=.function,names:=[(JW ".0",.local),(JW "birth",.local),(JW "stretch",.local),(JW "place",.local)],isGenerator:=false,isCoroutine:=false,more:=[] } (zk iB).names WT WZ [none,none,none]=true:=by decide +kernel
theorem mO:(WZ:List Str).Nodup:=by decide +kernel
theorem Gx(F:Fun K "state_of" "state_of" iB f fd)(T:Txt K mg A)(Z4:GM P w K mg base true 2 A.Words Wr ZY (i6 A))(Z8:GM P w K mg base true 3 A.Words Wy ZY (iw A))(Y5:GF P w K mg base true 6 "take_files" W0 (uj A))(Y4:GF P w K mg base true 4 "take_spots" W0 (rV A))(Zl:GM P w K mg base true 2 A.Words "take_end" ZY (uc A))(ZI:GM P w K mg base true 1 A.kn "living" ZY (mW A))(Zi:GC P w K mg base true 5 "State" A.State Zg (jd A)):zp P w K mg base CX0 true 7 f fd W0 (wD A):=by
 refine F.o gW λZP Ar outer s H vs Q E hr h=>?_;obtain ⟨p,t,ks,ts,n,m,rfl,hW,to,q⟩:=h;have hu:_<cLine:=KH (zM hr);refine ⟨_,(W.h (zh (zW (tD (ah (clO (oE (dv hu))) (clE (m0D (zO (clE (zg 0)) T.kz Z4 hr))) (clE (fj rfl T.z3)) (z6 _)))
   (zi bJ)
   z9)
   (zh (zw (i:=1) gW.nd rfl (J5 rfl) (m0D (zO (clE (zg 0)) T.kz Z8 hr)))
   (zh (zw (i:=2) gW.nd rfl (J5 rfl) (m0D (zO (clE (zg 0)) T.kz Z8 hr)))
   (zh (zw (i:=3) gW.nd rfl (J5 rfl) (caD (zt Y5 hr rfl (clP (za (zg 0) zd)))))
   (zh (zw (i:=4) gW.nd rfl (J5 rfl) (caD (zt Y4 hr rfl (clP (za (zg 0) zd)))))
   (zh (ai (m0D (zO (clE (zg 0)) T.kz Zl hr)))
   (zh (zW (tD (ah (clO (oE (dv hu))) (clE (cz (λ_=>rfl) (af.of Hv) (liD (bz (clE (zg 4)))) (λ_ _ _ _ _=>(pB (n:=3) (gsD (bh (zD (i:=0) mO rfl (J5 rfl)) (gsD (bh (zD (i:=1) mO rfl (J5 rfl)) (gsD (bh (zD (i:=2) mO rfl (J5 rfl)) ef)))))))) (λ_ _ _ _ _=>bB) (λ_ _ _ _ _=>(zg 0)))) (clE (m0D (zO (clE (zg 3)) T.hE ZI hr))) (z6 _)))
   (zi bJ)
   z9)
   (zi (zA (iI Zi hr rfl (za (zg 3) (za (zg 4) (za (zg 2) (za (zB cq (zg 1) zo) zd))))))))))))))),?_⟩
 obtain ⟨dx,wl,pre,e1,_⟩:=hW.ex;have hm:=to.gs.m;have hn:=to.gs.n;have few:=to.gs.few;erw [e1,nH];refine ⟨p,_,_,rfl,hW,λH1 b1 W1=>?_⟩;obtain ⟨XA,bp,a9,X9,_⟩:=W1.ex;erw [X9,cY];refine ⟨p,m,_,rfl,W1,hm.1,hm.2,λH2 b2 W2=>?_⟩;obtain ⟨Ya,ba,a8,a6,_⟩:=W2.ex;erw [a6,cY];refine ⟨p,n,_,rfl,W2,hn.1,hn.2,λH3 b3 W3=>?_⟩;ac_rfl;refine ⟨p,t,ks,(toString (ts.length:Int):Str)::(aL ts++[]),rfl,by rw [MB];exact W3,to.gm,to.gk,λfq b k u us H4 b4 _ _ _ F4 al kal W4=>?_⟩;ac_rfl;refine ⟨p,ts,[],rfl,W4,to.gs.b,to.gs.r,few,λsl as H5 b5 bb Yl pr W5=>?_⟩;have F5:=F4.OA b5 W4;obtain ⟨bq,bx,a7,a4,_⟩:=W5.ex;erw [a4,Ba];refine ⟨p,rfl,W5,?_⟩;ac_rfl;have U:=bA pr;refine ⟨⟨_,SqL.of Yl⟩,ak.lst (xs:=as.map V.ref) (SoI H5 ts) (λi τ ys H' I=>by rw [I.ys,JS,JS,Kr];exact aK (by omega)) (λi τ ys H' I=>SqL.of (I.same _ _ Yl)) ⟨⟨_,_,_,rfl⟩,rfl,ze.refl _⟩ ?_ ?_⟩
 .intro N i v τ ys H' hv I hN;obtain ⟨t1,t2,t3,rfl⟩:=I.ex;rw [Kd] at hv;obtain ⟨r,Xz,rfl⟩:=Km.mp hv;have hi:i<ts.length:=by rw [<- U];exact (JX.mp Xz).1
  have Yg:ts[i]?=some ts[i]:=JQ hi;have g1:=I.same _ _ (cA pr Xz Yg);refine ⟨r,_,rfl,SqT.of g1,rfl,?_⟩;ac_rfl;refine hN _ _ _ ⟨⟨_,_,_,rfl⟩,?_,I.same⟩;rw [I.ys,Kt,Yg,Kz,Kz];rfl
 .intro τ ys H6 I D H7 n7;have ey:=I.ys;rw [JS,U,J2 (JY _)] at ey;rw [ey] at n7;have z:ze H5 H7:=I.same.trans n7.same;have G:=F5.same z;obtain ⟨a3,aI⟩:=G.ob;have mem:=jX al G.hX.nd to.gm.nd kal G.xy to.gk.nd (λp hp=>(to.gk.gm p hp).nd);have bf:(uniq (au u us)).length<=(uniq (au t ks)).length:=ip cF λy hy=>bT.mpr ((mem y).mp (bT.mp hy));have av:=to.pm.length_eq;rw [JS] at av;have kl:=kal.len G.xy to.gk.nd;have bt:=to.gk.len;refine ⟨a3,_,aI,ug,fq,b,k,u,us,rfl,G,by omega,by omega,λl ns H8 Z nl el pm so=>?_⟩;have en:ns=ts.map (·.1):=o6 so to.so (pm.nodup_iff.mpr cF) (to.pm.nodup_iff.mpr cF) λy=>by rw [pm.mem_iff,to.pm.mem_iff,bT,bT];exact mem y
  subst en;have ab:=Z _ _ n7.at_;erw [ab,el];refine ⟨eJ,eJ,?_⟩;rw [iP,if_neg (by simp)];intro x dx H9 O;have F8:=G.same Z;have J:ze H5 H9:=(z.trans Z).trans O.same;refine ⟨x,fq,b,k,sl,dx,n,m+1,u,us,as,ts,rfl,O.at_,F8.same O.same,.inl (J _ _ Yl),Paired.ri pr λr v e=>.inl (J _ _ e),⟨to.pm.nodup_iff.mpr cF,few⟩,λfx b' k' d' a5 a0 _ _ _ _ st _=>⟨rfl,?_⟩⟩;refine q x fx b' k' d' u us a5 (λc o S e=>?_) st al kal;have e5:=z _ _ (b5 _ _ S (b4 _ _ S (b3 _ _ S (b2 _ _ S (b1 _ _ S e)))));have e8:=Z _ _ e5;exact a0 _ _ (zH e8 O.no) (O.same _ _ e8)
theorem GP(m n:Int)(t:Tab)(ks:List (Str×Tab))(ts:List T3):∃v ws,ax m n t ks ts=v::ws:=⟨_,_,rfl⟩
def vF(A:zj):Sp:=λvs H Q _=>∃(t:Tab)(ks:List (Str×Tab))(ts:List T3)(n m:Int),vs=[.str (bM m n t ks ts)]/\jx t ks ts n m /\
 ∀x z b k d u us H',ze H H'->cv A H' x z b k d u us ts n (m+1)->zN u t->KAl us ks->Q (.ref x) H'
theorem vD:zu ["text","body"] Xc (zk o5):=fsc
theorem Bz(F:Fun K "read_mark" "read_mark" o5 f fd)(T:Txt K mg A)(YE:GF P w K mg base true 3 "body_of" Xc v9)(Ym:GC P w K mg base true 1 "Words" A.Words WL (vj A))(YM:GF P w K mg base true 7 "state_of" W0 (wD A)):zp P w K mg base CX0 true 8 f fd Xc (vF A):=by
 refine F.o vD λZP Ar outer s H vs Q E hr h=>?_;obtain ⟨t,ks,ts,n,m,rfl,to,q⟩:=h;refine ⟨_,(W.h (zh (zw (i:=1) vD.nd rfl (J5 rfl) (caD (zt YE hr rfl (clP (za (zg 0) zd)))))
   (zh (zW (tD (ah (clO Fx) (clE (zg 1)) (clE h8) (z6 _)))
   (zi bJ)
   z9)
   (zi (D7 (λGo=>(zi (zA (caD (zt YM hr rfl (clP (za (iI Ym hr rfl (za (dR fM (zg 1) dO (dS (xm Fv zo))) zd)) zd)))))))))))),?_⟩
 obtain ⟨J,Z⟩:=fA to.gm to.gk to.gs;obtain ⟨b1,b2⟩:=jM J;obtain ⟨v,ws,G⟩:=GP m n t ks ts;have XU:zP (ax m n t ks ts)=sg (KF " " (v::ws))++[32]:=by rw [G];exact (tR v ws).symm
 have hb:ia (bM m n t ks ts)=some (tx (zP (ax m n t ks ts))):=by
  unfold ia bM;rw [Jk ⟨_,XU⟩];exact if_pos rfl
 have ZS:(bM m n t ks ts).length<=100000:=by
  unfold bM cN;have hs:=fL (tx (zP (ax m n t ks ts)));have hn:=lL hs.1 (by omega);rw [Lu,Lu,d6,show (";":Str).length=1 by decide];omega
 have z:asc (bM m n t ks ts)=true:=by
  unfold bM cN;have hs:=fL (tx (zP (ax m n t ks ts)));have wd:=cC hs.1 (by omega);have U:=wd.a;rw [dN] at U ⊢;rw [dD,dD,cI,all_append,all_append,b2,U];decide +kernel
 ac_rfl;refine ⟨_,rfl,z,ZS,λH1 s1=>?_⟩;rw [hb];have eo:vZ (some (tx (zP (ax m n t ks ts)))) = .str (tx (zP (ax m n t ks ts))):=rfl;rw [eo];have es:Mn (tx (zP (ax m n t ks ts))) none (some (-1))=KF " " (v::ws):=by
  rw [AR (by rw [cI,XU,KB];exact Kl (by decide) (Nat.le_add_left _ _)),cI,XU,List.dropLast_concat,fT]
 erw [es];refine ⟨by rw [d6];exact aq (by omega),λx dx H2 S=>?_⟩;rw [G] at J Z;refine ⟨x,dx,v,ws,rfl,S.at_,J,by simp only [Le] at Z;omega,λH3 b3 O=>⟨rfl,x,t,ks,ts,n,m,rfl,by rw [G];exact O,to,λy fx b k d u us H4 b4 st al kal=>?_⟩⟩;exact q y fx b k d u us H4 (s1.trans ((((But.of S.same).trans b3).trans b4).gone S.no)) st al kal
abbrev iG:Stmt:=top 59
abbrev ja:Stmt:=top 60
abbrev jz:Stmt:=top 61
theorem zX.md{a d:Addr}(h:zX H a d u):iy H d u:=let ⟨kvs,e,r⟩:=h.ex;⟨⟨kvs,e,r.imp λv l ⟨p,z,F,_⟩=>⟨p,z,F⟩⟩⟩
structure LsI(H:Hp)(d kd sl nl:Addr)(n m:Int)(u:Tab)(ku:List (Str×Tab))(i:Nat)(σ:L2.St)(H':Hp):Prop where
 ex:∃wl t1 t2,σ=[some (V.ref d),some (.ref kd),some (.ref sl),some (.int n),some (.int m),some (.ref wl),t1,t2]/\H' wl=some (.lst (([("mark":Str),(toString m:Str),(toString n:Str)]++(aH u++(toString (ku.length:Int):Str)::ay ku ((zr (names ku)).take i))).map V.str))/\H wl=none
 same:ze H H'
 hnl:H' nl=some (.lst ((zr (names ku)).map V.str))
 sz:(ay ku ((zr (names ku)).take i)).length<=290*i
 le:i<=3
structure LsJ(H:Hp)(d kd sl:Addr)(n m:Int)(ws:List Str)(ts:List T3)(i:Nat)(σ:L2.St)(H':Hp):Prop where
 ex:∃wl t1 t2,σ=[some (V.ref d),some (.ref kd),some (.ref sl),some (.int n),some (.int m),some (.ref wl),t1,t2]/\H' wl=some (.lst ((ws++aL (ts.take i)).map V.str))/\H wl=none
 same:ze H H'
structure LsC(H:Hp)(is:List Int)(i:Nat)(τ:L2.St)(ys:List V)(H':Hp):Prop where
 ex:∃t1,τ=[t1]
 ys:ys=((is.take i).map λx=>(toString x:Str)).map V.str
 same:ze H H'
def lV:Sp:=λvs H Q _=>∃(d kd sl a:Addr)(X:List Addr)(u:Tab)(ku:List (Str×Tab))(as:List Addr)(ts:List T3)(n m:Int),vs=[.ref d,.ref kd,.ref sl,.int n,.int m]/\zX H a d u/\bE H a X kd ku/\aS u/\cx ku/\H sl=some (.lst (as.map V.ref))/\Paired (aY H) as ts/\cV ts m n /\
 ∀l H',ze H H'->H l=none->H' l=some (.lst ((ax m n u ku ts).map V.str))->Q (.ref l) H'
theorem fX:zu XC YA (zk iG):=fsc
theorem FP:bc { kind:=.function,names:=[(JW ".0",.local),(JW "_law_number",.local),(JW "str",.globalImplicit)],isGenerator:=false,isCoroutine:=false,more:=[] } (zk iG).names XC ["_law_number"] [none]=true:=by decide +kernel
theorem Ek:(["_law_number"]:List Str).Nodup:=by decide +kernel
theorem Gb(F:Fun K Wk Wk iG f fd)(T:Txt K mg A)(ZE:GF P w K mg base true 1 Wt ["_law_files_here"] tL):zp P w K mg base CX0 true 2 f fd YA lV:=by
 refine F.o fX λZP Ar outer s H vs Q E hr h=>?_;obtain ⟨d,kd,sl,a,X,u,ku,as,ts,n,m,rfl,hD,hK,gm,gk,Yl,pr,gs,q⟩:=h;refine ⟨_,(W.h (zh (zw (i:=5) fX.nd rfl (J5 rfl) (zB cq (zB cq (aj (za aC (za (az aU rfl T.nY Ls (za (zg 4) zd)) (za (az aU rfl T.nY Ls (za (zg 3) zd)) zd)))) (caD (zt ZE hr rfl (clP (za (zg 0) zd))))) (aj (za (az aU rfl T.nY Ls (za (zK lj rfl T.r0 KA (za (zg 1) zd)) zd)) zd))))
   (zh (aW Lh.never (λ_=>rfl) (liD (bz (clE (zK (dJ rfl) rfl T.ny LO (za (zg 1) zd))))) (zD (i:=6) fX.nd rfl (J5 rfl))
   (zi (zw (i:=5) fX.nd rfl (J5 rfl) (zB cq (zB cq (zg 5) (aj (za (zg 6) zd))) (caD (zt ZE hr rfl (clP (za (zQ (c0 (zM hr)) (zg 1) (zg 6) (λ_ _=>rfl)) zd))))))))
   (zh (ai (fP (zg 5) (az aU rfl T.nY Ls (za (zK mn rfl T.r0 KA (za (zg 2) zd)) zd))))
   (zh (aW Lh.never (λ_=>rfl) (liD (bz (clE (zg 2)))) (zD (i:=7) fX.nd rfl (J5 rfl))
   (zi (zw (i:=5) fX.nd rfl (J5 rfl) (zB cq (zg 5) (cz (λ_=>rfl) (af.of FP) (Hy (zg 7)) (λ_ _ _ _ _=>(zD (i:=0) Ek rfl (J5 rfl))) (λ_ _ _ _ _=>bB) (λ_ _ _ _ _=>(az aU rfl T.nY Ls (za (zg 0) zd))))))))
   (zi (zA (zg 5)))))))),?_⟩
 obtain ⟨kvs,e1,dc⟩:=hK.ex;have kl:=gk.len;have a7:=(fZ gm).2;have hm:=gs.m;have hn:=gs.n;have few:=gs.few;have Z:=bA pr;ac_rfl;refine ⟨aT (by omega),aT (by omega),by decide,λl0 H0 n0 _=>?_⟩;refine ⟨d,u,rfl,hD.md.same n0.same,gm,λl H1 s1 nl el=>?_⟩;ac_rfl;refine ⟨_,s1 _ _ n0.at_,_,el,aq (by simp;omega),λp2 H2 n2=>⟨_,.inl (n2.same _ _ (s1 _ _ (n0.same _ _ e1))),?_⟩⟩;rw [bS,dc.length];refine ⟨aT (by omega),by decide,λp3 H3 n3 _=>⟨_,n3.same _ _ n2.at_,_,n3.at_,aq (by simp;omega),λwl H4 n4=>?_⟩⟩;have s4:ze H H4:=(((n0.same.trans s1).trans n2.same).trans n3.same).trans n4.same;refine ⟨kvs,.inl (s4 _ _ e1),by rw [dc.length];omega,λln H5 n5=>?_⟩;have a8:(zr (names ku)).length=ku.length:=by rw [(zY _).1.length_eq];simp [names]
 rw [dc.names] at n5;have wn:H wl=none:=(((n0.same.trans s1).trans n2.same).trans n3.same).free n4.no;refine ⟨⟨_,SqL.of n5.at_⟩,aa.lst (xs:=(zr (names ku)).map V.str) (LsI H d kd sl ln n m u ku) ⟨⟨wl,_,_,rfl,by rw [n5.same _ _ n4.at_];simp [ay],wn⟩,s4.trans n5.same,n5.at_,by simp [ay],by omega⟩ (λi σ H' _ I=>SqL.of I.hnl) ?_ ?_⟩
 .rintro i x σ H' hx ⟨⟨wl',t1,t2,rfl,hwl,_⟩,sm,hnl,sz,le⟩;rw [Kd] at hx;obtain ⟨z,hz,rfl⟩:=Km.mp hx;have hi:i<(zr (names ku)).length:=(JX.mp hz).1;obtain ⟨v,hv,ev,gv⟩:=gk.lk ((zY _).1.mem_iff.mp (Kn hz));have uw:=(fZ gv).2;obtain ⟨y,v',d1,d2,e,rfl,_,pl⟩:∃y v',look kvs z=some y/\look ku z=some v'/\KvR H a X y v':=by
   rcases dc.look z with h|⟨_,d2⟩
   .exact h
   .rw [hv] at d2;cases d2
  rw [hv] at d2;cases d2;erw [hwl];refine ⟨by decide,λp5 H6 n6 _=>⟨_,n6.same _ _ hwl,_,n6.at_,aq (by simp;omega),λp6 H7 n7=>?_⟩⟩;have s7:ze H H7:=(sm.trans n6.same).trans n7.same;refine ⟨_,.inl (s7 _ _ e1),.ref e,by rw [aJ];exact d1,e,v,rfl,pl.md.same s7,gv,λl8 H8 s8 n8 e8=>?_⟩;have a0:=s8 _ _ n7.at_;erw [a0,e8];refine ⟨aq (by simp;omega),λp9 H9 O=>⟨⟨p9,_,_,rfl,?_,?_⟩,(s7.trans s8).trans O.same,O.same _ _ (s8 _ _ (n7.same _ _ (n6.same _ _ hnl))),?_,by omega⟩⟩
  .rw [O.at_,jh hz,ev];simp
  .exact (s7.trans s8).free O.no
  .rw [jh hz,ev];simp;omega
 .rintro σ H' ⟨⟨wl',t1,t2,rfl,hwl,U⟩,sm,hnl,sz,le⟩;rw [JS,J2 (JY _)] at hwl sz;have S:=sm _ _ Yl;erw [hwl,S];rw [JS,Z];have a5:sl≠wl':=zH Yl U;have sU:∀o,ze H (upd H' wl' o):=λo c u ec=>by rw [zf (zH ec U)];exact sm c u ec
  refine ⟨aT (by omega),by rw [JS];exact aK (by simp;omega),⟨_,SqL.of (by rw [zf a5];exact S)⟩,aa.lst (xs:=as.map V.ref) (LsJ H d kd sl n m (("mark":Str)::(toString m:Str)::(toString n:Str)::(aB u ku++[(toString (ts.length:Int):Str)])) ts) ⟨⟨wl',_,_,rfl,by rw [zq];simp [aB,aL],U⟩,sU _⟩ (λi σ H' _ I=>SqL.of (I.same _ _ Yl)) ?_ ?_⟩
  .rintro i v σ H6 hv ⟨⟨ab,t1,t2,rfl,G,_⟩,J⟩;rw [Kd] at hv;obtain ⟨r,Xz,rfl⟩:=Km.mp hv;have hi:i<ts.length:=by rw [<- Z];exact (JX.mp Xz).1
   have Yg:ts[i]?=some ts[i]:=JQ hi;have g1:=J _ _ (cA pr Xz Yg);have ub:=gs.b ts[i] (Lk hi);have ur:=gs.r ts[i] (Lk hi);have a6:=(hG (ts:=ts.take i) (λt ht=>gs.b t (LJ ht)) (λt ht=>gs.r t (LJ ht))).2;rw [Kr] at a6;generalize ts[i]=w at Yg g1 ub ur;have al:=(iH gm gk).2;ac_rfl;have av:H6 r=some (.tup ([w.1,w.2.1,w.2.2].map V.int)):=g1;refine ⟨⟨_,SqT.of av⟩,ak.tup (xs:=[w.1,w.2.1,w.2.2].map V.int) (LsC H6 [w.1,w.2.1,w.2.2]) (λj τ ys H7 I=>by rw [I.ys,JS,JS,Kr];exact aK (by simp;omega)) (λj τ ys H7 I=>SqT.of (I.same _ _ av)) ⟨⟨_,rfl⟩,by simp,ze.refl _⟩ ?_ ?_⟩
   .intro N j x τ ys H7 hx I hN;obtain ⟨tt,rfl⟩:=I.ex;rw [Kd] at hx;obtain ⟨y,hy,rfl⟩:=Km.mp hx;have a9:0<=y/\y<10 ^ 17:=by
     have:=Kn hy;simp only [J1,Kh,or_false] at this;rcases this with rfl|rfl|rfl<;>omega
    ac_rfl;refine ⟨aT (by omega),hN _ _ _ ⟨⟨_,rfl⟩,?_,I.same⟩⟩;rw [I.ys,Kt,hy,Kz,Kz];rfl
   .intro τ ys H7 I D H8 n8;have ey:=I.ys;rw [JS,J2 (JY _)] at ey;rw [ey] at n8;have a3:=n8.same _ _ (I.same _ _ G);have aI:=n8.at_;erw [a3,aI];refine ⟨by rw [JS];exact aq (by simp;omega),λp9 H9 O=>⟨⟨p9,_,_,rfl,?_,?_⟩,((J.trans I.same).trans n8.same).trans O.same⟩⟩
    .rw [O.at_,sH Yg];simp
    .exact ((J.trans I.same).trans n8.same).free O.no
  .rintro σ H6 ⟨⟨ab,t1,t2,rfl,G,a4⟩,J⟩;rw [JS,Z,J2 (JY _)] at G;ac_rfl;refine q ab H6 J a4 ?_;rw [G];simp [ax]
structure LmC(H:Hp)(z:Str)(i:Nat)(τ:L2.St)(ys:List V)(H':Hp):Prop where
 ex:∃t1 t2,τ=[t1,t2]
 ys:∃ks:List Int,ys=ks.map V.int/\ks.sum=(cb 1 ((sg z).take i):Nat)/\ks.length=i
 same:ze H H'
 le:i<=100000
theorem Bf:zu WX WX (zk ja):=fsc
theorem DI:bc { kind:=.function,names:=[(JW ".0",.local),(JW "_law_k",.local),(JW "_law_sign",.local),(JW "ord",.globalImplicit)],isGenerator:=false,isCoroutine:=false,more:=[] } (zk ja).names WX ["_law_k","_law_sign"] [none,none]=true:=by decide +kernel
theorem uD:(["_law_k","_law_sign"]:List Str).Nodup:=by decide +kernel
theorem Cj(F:Fun K "_law_sum" "_law_sum" ja f fd)(T:Txt K mg A):zp P w K mg base CX0 true 1 f fd WX ju:=by
 refine F.o Bf λZP Ar outer s H vs Q E hr h=>?_;obtain ⟨z,rfl,ha,hz,q⟩:=h;refine ⟨_,(W.h (zi (zA (zB (oI dG) (zK (Di rfl) rfl T.Qv PyProof.Rows.boot_sum (za (cz (λ_=>rfl) (af.of DI) (Bh rfl T.Hx (zg 0)) (λ_ _ _ _ _=>(pB (n:=2) (gsD (bh (zD (i:=0) uD rfl (J5 rfl)) (gsD (bh (zD (i:=1) uD rfl (J5 rfl)) ef)))))) (λ_ _ _ _ _=>bB) (λ_ _ _ _ _=>(zB gp (zB cq (zg 0) zo) (zK uT rfl T.PX boot_ord (za (zg 1) zd))))) zd)) zo)))),?_⟩;ac_rfl;have ab:z.cps.size<=100000:=hz;refine ⟨ha,ak.PK (LmC H z) (λi S ys H' I=>?_) ⟨⟨_,_,rfl⟩,⟨[],rfl,by simp [cb],rfl⟩,ze.refl _,by omega⟩ ?_ ?_⟩
 .obtain ⟨ks,e,_,l⟩:=I.ys;rw [e,JS,l];exact aK (by have:=I.le;omega)
 .intro N i c p S ys H' hc I Z hN;obtain ⟨t1,t2,rfl⟩:=I.ex;obtain ⟨ks,e,es,l⟩:=I.ys;have J:(sg z)[i]?=some c:=by simpa [sg] using hc
  have hi:i<(sg z).length:=(JX.mp J).1;have G:i<100000:=by rw [ao] at hi;exact Kl hi hz
  refine ⟨p,_,rfl,SqT.of zq,rfl,?_⟩;ac_rfl;have Xr:c<128:=by
   have h3:=Kn J;rw [dN] at ha;simpa using KW.mp ha c h3
  refine ⟨rfl,.inl ⟨by simp;omega,by simp;omega⟩,hN _ _ _ ⟨⟨_,_,rfl⟩,⟨ks++[((i:Int)+1)*c],by rw [e,Kz];rfl,?_,by simp [l]⟩,I.same.trans λb o e=>by rw [zf (zH e Z)];exact e,G⟩⟩;rw [List.sum_append,es,Kt,J,mz,Kr,Ol (by omega)];simp [cb];rw [Int.mul_comm,Int.add_comm 1 (i:Int)]
 .intro S ys H1 I D H2 O;obtain ⟨ks,e,es,l⟩:=I.ys;rw [e] at O;erw [O.at_];refine ⟨ks,rfl,by decide,?_⟩;have U:ks.sum % 65521=cy z:=by
   rw [es];unfold cy;rw [J2 (by rw [ao];exact JY _)];omega
  rw [U];exact q H2 (I.same.trans O.same)
def m6:Sp:=λvs H Q _=>∃(l:Addr)(ws:List Str),vs=[.ref l]/\H l=some (.lst (ws.map V.str))/\(∀z∈ws,Wd z)/\ws.length<=1400/\∀H',ze H H'->Q (.str (cN (tx (zP ws)))) H'
theorem uk:zu ["_law_words_here","_law_body"] WS (zk jz):=fsc
theorem G1:bc { kind:=.function,names:=[(JW ".0",.local),(JW "_law_word",.local)],isGenerator:=false,isCoroutine:=false,more:=[] } (zk jz).names ["_law_words_here","_law_body"] ["_law_word"] [none]=true:=by decide +kernel
theorem Fl:(["_law_word"]:List Str).Nodup:=by decide +kernel
theorem EU(F:Fun K Wh Wh jz f fd)(T:Txt K mg A)(S:GF P w K mg base true 1 "_law_sum" WX ju):zp P w K mg base CX0 true 2 f fd WS m6:=by
 refine F.o uk λZP Ar outer s H vs Q E hr h=>?_;obtain ⟨l,ws,rfl,hl,hw,hn,q⟩:=h;refine ⟨_,(W.h (zh (zw (i:=1) uk.nd rfl (J5 rfl) (iR aC (cz (λ_=>rfl) (af.of G1) (liD (bz (clE (zg 0)))) (λ_ _ _ _ _=>(zD (i:=0) Fl rfl (J5 rfl))) (λ_ _ _ _ _=>bB) (λ_ _ _ _ _=>(zB cq (zg 0) aC)))))
   (zi (zA (zB cq (zB cq (zg 1) (az aU rfl T.nY Ls (za (caD (zt S hr rfl (clP (za (zg 1) zd)))) zd))) aC))))),?_⟩
 obtain ⟨b1,U⟩:=jM hw;ac_rfl;refine ⟨⟨_,SqL.of hl⟩,ak.lst (xs:=ws.map V.str) (MtC H ws) (λi O ys H' I=>?_) (λi O ys H' I=>SqL.of (I.same _ _ hl)) ⟨⟨_,rfl⟩,by simp,ze.refl _⟩ (wx (by intro z hz;have:=(hw z hz).most;omega)) ?_⟩
 .rw [I.ys,JS,JS,Kr];exact aK (by omega)
 .intro O ys H1 I D H2 G;have J:=I.ys;rw [JS,J2 (JY _)] at J;rw [J] at G;rw [jY];refine ⟨ws.map λz:Str=>z++(" ":Str),G.at_,?_,?_⟩
  .rw [rG,show ("":Str).length=0 by decide];omega
  .rw [um];ac_rfl;have hs:=fL (tx (zP ws));have hnl:=lL hs.1 (by omega);refine ⟨_,rfl,by rw [iK];exact U,by rw [d6];omega,λH3 Z=>?_⟩;ac_rfl;have l1:(tx (zP ws)++(toString (cy (tx (zP ws))):Str)).length<=100000:=by rw [Lu,d6];omega
   refine ⟨aT (by omega),by rw [<- Lu];exact aq (by omega),by rw [show (";":Str).length=1 by decide];exact aq (by omega),q H3 ((I.same.trans G.same).trans Z)⟩
end
abbrev lJ:Stmt:=top 62
theorem ig{ts us ws:List T3}(nd:(ts.map (·.1)).Nodup)(z:us.Perm ts)(s1:(us.map (·.1)).Pairwise (·<=·))(p2:ws.Perm ts)(s2:(ws.map (·.1)).Pairwise (·<=·)):us=ws:=by
 have e:us.map (·.1)=ws.map (·.1):=o6 s1 s2 ((z.map _).nodup_iff.mpr nd) ((p2.map _).nodup_iff.mpr nd) λy=>by rw [(z.map _).mem_iff,(p2.map _).mem_iff]
 have f:∀vs:List T3,vs.Perm ts->(vs.map (·.1)).map (cS ts)=vs:=λvs p=>by
  rw [LM];exact (LC λt F=>jf nd (p.mem_iff.mp F)).trans (map_id _)
 rw [<- f us z,e,f ws p2]
structure Fn(A:zj)(H:Hp)(x d kd sl nl fx b k sd a:Addr)(X as:List Addr)(t u:Tab)(ks ku:List (Str×Tab))(ts us:List T3)(n m:Int):Prop where
 st:cv A H x fx b k sd t ks ts n m
 pl:zX H a d u
 kp:bE H a X kd ku
 kx:kd∈X
 dk:d≠kd
 al:zN t u
 kal:KAl ks ku
 bud:Bud t ks 50
 few:ks.length<=3
 sl:H sl=some (.lst (as.map V.ref))
 pr:Paired (aY H) as us
 pm:us.Perm ts
 so:(us.map (·.1)).Pairwise (·<=·)
 nl:H nl=some (.lst [.int n,.int m])
def Rt(A:zj)(H:Hp)(x d kd sl nl:Addr):Prop:=∃F b k z a X as t u ks ku ts us n m,Fn A H x d kd sl nl F b k z a X as t u ks ku ts us n m
theorem KAl.trans(h:KAl ks ku)(g:KAl ku kw):KAl ks kw:=λn=>by
 rcases h n with ⟨v,w,G,F,a,nd⟩|⟨G,F⟩
 .rcases g n with ⟨v',w',z,J,O,_⟩|⟨z,_⟩
  .rw [F] at z;cases z;exact .inl ⟨v,w',G,J,λn=>(a n).trans (O n),nd⟩
  .rw [F] at z;cases z
 .rcases g n with ⟨v',w',z,_⟩|⟨_,J⟩
  .rw [F] at z;cases z
  .exact .inr ⟨G,J⟩
theorem KAl.symm(h:KAl ks ku)(nd:∀p∈ku,(L2.names p.2).Nodup):KAl ku ks:=λn=>by
 rcases h n with ⟨v,w,F,z,a,_⟩|⟨F,z⟩
 .exact .inl ⟨w,v,z,F,ic a,nd _ (bG z)⟩
 .exact .inr ⟨z,F⟩
theorem Bud.alike{t u:Tab}(h:Bud t ks B)(al:zN u t)(kal:KAl us ks)(O:(names u).Nodup)(nt:(names t).Nodup)(G:(names us).Nodup)(nks:(names ks).Nodup)(S:∀p∈ks,(names p.2).Nodup):Bud u us B:=by
 obtain ⟨L,Z,hm⟩:=h.live;have F:∀{v w:Tab},zN v w->∀n,lk v n=lk w n:=λa n=>by unfold lk;rw [a n]
 have kk:∀p∈us,∃w,(p.1,w)∈ks/\zN p.2 w/\(names p.2).Nodup:=λp z=>by
  have e:=cZ G (show (p.1,p.2)∈us from z);rcases kal p.1 with ⟨v,w,J,W,a,nd⟩|⟨J,_⟩
  .rw [e] at J;cases J;exact ⟨w,bG W,a,nd⟩
  .rw [e] at J;cases J
 have gd:∀{v w:Tab},zN v w->(names v).Nodup->GdT w->GdT v:=λa nd g p z=>by
  have e:=cZ nd (show (p.1,p.2)∈_ from z);rw [a] at e;exact g _ (bG e)
 refine ⟨by rw [fE al O nt];exact h.few,λn=>by rw [F al];exact h.row n,⟨L,Z,λy U=>hm y ((jX al O nt kal G nks S y).mp U)⟩,λn l e=>h.ne n l (by rw [<- al n];exact e),λp z=>?_,gd al O h.gt,λp z=>?_⟩
 .obtain ⟨w,hw,a,nd⟩:=kk p z;have o:=h.old _ hw;exact ⟨by rw [fE a nd (S _ hw)];exact o.1,λm=>by rw [F a];exact o.2 m⟩
 .obtain ⟨w,hw,a,nd⟩:=kk p z;have o:=h.gk _ hw;exact ⟨o.1,gd a nd o.2.1,λn l e=>o.2.2 n l (by rw [<- a n];exact e)⟩
theorem qY{t:Tab}(nd:(names t).Nodup)(few:t.length<=16)(row:∀n,(lk t n).length<=16)(ne:∀n l,look t n=some l->l≠[])(g:GdT t):aS t:=by
 refine ⟨nd,few,λn F=>?_,λp z=>?_⟩
 .obtain ⟨p,z,rfl⟩:=KL.mp F;exact (g p z).1
 .have e:=cZ nd (show (p.1,p.2)∈t from z);have G:lk t p.1=p.2:=by unfold lk;rw [e];rfl
  have h1:=MZ.mpr (ne _ _ e);have h2:=row p.1;rw [G] at h2;exact ⟨h1,h2,λx hx=>by have:=(g p z).2 x hx;omega⟩
theorem Bud.good{t:Tab}(h:Bud t ks B)(F:B<=16)(nt:(names t).Nodup)(nks:(names ks).Nodup)(J:∀p∈ks,(names p.2).Nodup)(few:ks.length<=3):aS t/\cx ks:=by
 refine ⟨qY nt (Kp h.few F) (λn=>Kp (h.row n) F) h.ne h.gt,nks,few,λn G=>?_,λp z=>?_⟩
 .obtain ⟨p,z,rfl⟩:=KL.mp G;exact (h.gk p z).1
 .have o:=h.old p z;have g:=h.gk p z;exact qY (J p z) (Kp o.1 F) (λn=>Kp (o.2 n) F) g.2.2 g.2.1
theorem wk{t u:Tab}(al:zN t u)(nt:(names t).Nodup)(O:(names u).Nodup)(kal:KAl ks ku)(nks:(names ks).Nodup)(G:(names ku).Nodup)(J:∀p∈ku,(names p.2).Nodup):aB t ks=aB u ku:=by
 have F:=uF al nt O;have z:zr (names ks)=zr (names ku):=nP (kal.names nks G);have S:∀n,aH (kkT ks n)=aH (kkT ku n):=λn=>by
  unfold kkT;rcases kal n with ⟨v,w,F,z,a,nd⟩|⟨F,z⟩
  .rw [F,z];exact uF a nd (J _ (bG z))
  .rw [F,z]
 unfold aB ay;rw [F,z,kal.len nks G];simp only [S]
section
variable {P:JZ}{w:Ke}{K:Frag}{mg:Str->Option Value}{base:Heap}{A:zj}
theorem E1{as bs:List Addr}(h1:Paired (aY H) as us)(h2:Paired (aY H) bs us)(j:Nat)(p q:V)(F:(as.map V.ref)[j]?=some p)(G:(bs.map V.ref)[j]?=some q):EqR H p q true:=by
 rw [Kd] at F G;obtain ⟨x,hx,rfl⟩:=Km.mp F;obtain ⟨y,J,rfl⟩:=Km.mp G;have O:j<us.length:=by rw [<- bA h1];exact (JX.mp hx).1
 have z:us[j]?=some us[j]:=JQ O;have f:[V.int us[j].1,.int us[j].2.1,.int us[j].2.2].all z5=true:=rfl;exact ⟨x,y,_,_,rfl,rfl,cA h1 hx z,cA h2 J z,f,f,(iO f λx hx b e=>by subst e;simp at hx).symm⟩
def kB(A:zj):Sp:=λvs H Q _=>∃(x d kd sl nl:Addr),vs=[.ref x,.ref d,.ref kd,.ref sl,.ref nl]/\Rt A H x d kd sl nl/\∀H',ze H H'->Q (.bl true) H'
theorem Ak:zu YF YF (zk lJ):=fsc
theorem AX(F:Fun K Wx Wx lJ f fd)(T:Txt K mg A)(ZZ:GM P w K mg base true 1 A.State WD ZY (k9 A))(Z0:GM P w K mg base true 1 A.State WC ZY (lF A))(ZW:GM P w K mg base true 1 A.State Wu ZY (jr A))(ZV:GM P w K mg base true 5 A.State WG ZY (jw A))(YT:GF P w K mg base true 6 "_law_same" W8 (sV A)):zp P w K mg base CX0 true 7 f fd YF (kB A):=by
 refine F.o Ak λZP Ar outer s H vs Q E hr h=>?_;obtain ⟨x,d,kd,sl,nl,rfl,⟨U,b,k,O,a,X,as,t,u,ks,ku,ts,us,n,m,R⟩,q⟩:=h;have hu:_<cLine:=KH (zM hr);obtain ⟨dx,J⟩:=R.st.ob;refine ⟨_,(W.h (zh (zW (dQ (jg (tD (ah (clO (oE (dv hu))) (clE (aj (za (m0D (zO (clE (zg 0)) T.mm ZZ hr)) (za (m0D (zO (clE (zg 0)) T.mm Z0 hr)) zd)))) (clE (zg 4)) (z6 _))) (jN (tD (ah (clO (GQ (zM hr))) (clE (m0D (zO (clE (zg 0)) T.mm ZW hr))) (clE (zg 3)) (z6 _))))))
   (zi (zA ck))
   z9)
   (zi (zA (caD (zt YT hr rfl (clP (za (m0D (zO (clE (zg 0)) T.mm ZV hr)) (za (zg 1) (za (zg 2) zd)))))))))),?_⟩
 erw [J,gL,gK];refine ⟨x,U,b,k,O,t,ks,ts,n,m,rfl,R.st,?_⟩;erw [J,gL,gK];refine ⟨x,U,b,k,O,t,ks,ts,n,m,rfl,R.st,?_⟩;ac_rfl;refine ⟨by decide,λp H1 S _=>⟨_,S.at_,_,S.same _ _ R.nl,rfl,rfl,?_⟩⟩;rw [show eqL [V.int n,V.int m] [V.int n,V.int m]=true from iP [n,m]];have S1:=R.st.same S.same;obtain ⟨XA,X9⟩:=S1.ob;erw [X9,mI];refine ⟨x,U,b,k,O,t,ks,ts,n,m,rfl,S1,λl bs vs H2 s2 aI hl pb pv sv=>?_⟩;have ev:vs=us:=ig R.st.ok.nd pv sv R.pm R.so;subst ev;have z:ze H H2:=S.same.trans s2;have ab:Paired (aY H2) as vs:=Paired.ri R.pr λ_ _ e=>z _ _ e;have la:=bA R.pr;have lb:=bA pb;have Z:=z _ _ R.sl;erw [hl,Z];refine .inr ⟨by rw [JS,JS];omega,λ_=>true,λj p q J e2=>E1 pb ab j p q J e2,?_⟩;rw [show (KR (bs.map V.ref).length).all (λ_=>true)=true by simp];have S2:=R.st.same z;obtain ⟨Ya,av⟩:=S2.ob;erw [av,hU];refine ⟨x,U,b,k,O,t,ks,ts,n,m,rfl,S2,λq' b' k' H4 s4 nq nb nk F4 _=>?_⟩;have G:=z.trans s4;ac_rfl;exact ⟨q',b',k',d,kd,a,X,t,u,ks,ku,rfl,F4,R.pl.same G,R.kp.same G,R.kx,R.dk,R.al,R.kal,R.bud,R.few,λH5 s5=>q _ (G.trans s5)⟩
end
abbrev kL:Stmt:=top 63
structure IZ(H:Hp)(z:Str)(d kd sl nl a:Addr)(X as:List Addr)(t u:Tab)(ks ku:List (Str×Tab))(us:List T3)(n m:Int):Prop where
 tx:z=bM m n t ks us
 pl:zX H a d u
 kp:bE H a X kd ku
 kx:kd∈X
 dk:d≠kd
 al:zN t u
 kal:KAl ks ku
 bud:Bud t ks 16
 few:ks.length<=3
 nt:(names t).Nodup
 nks:(names ks).Nodup
 sl:H sl=some (.lst (as.map V.ref))
 pr:Paired (aY H) as us
 told:jx t ks us n m
 m1:m<10 ^ 17
 nl:H nl=some (.lst [.int n,.int m])
def Bk(H:Hp)(z:Str)(d kd sl nl:Addr):Prop:=∃a X as t u ks ku us n m,IZ H z d kd sl nl a X as t u ks ku us n m
theorem Bk.same{d kd sl nl:Addr}(h:Bk H z d kd sl nl)(s:ze H H'):Bk H' z d kd sl nl:=by
 obtain ⟨a,X,as,t,u,ks,ku,us,n,m,R⟩:=h;exact ⟨a,X,as,t,u,ks,ku,us,n,m,R.tx,R.pl.same s,R.kp.same s,R.kx,R.dk,R.al,R.kal,R.bud,R.few,R.nt,R.nks,s _ _ R.sl,Paired.ri R.pr λ_ _ e=>s _ _ e,R.told,R.m1,s _ _ R.nl⟩
theorem Bud.mono{t:Tab}(h:Bud t ks B)(l:B<=C):Bud t ks C :=
 let ⟨L,hL,hm⟩:=h.live;⟨Kp h.few l,λn=>Kp (h.row n) l,⟨L,Kp hL l,hm⟩,h.ne,λp z=>⟨Kp (h.old p z).1 l,λm=>Kp ((h.old p z).2 m) l⟩,h.gt,h.gk⟩
theorem KAl.PV(h:KAl ks ku)(F:(L2.names ks).Nodup):∀p∈ks,(L2.names p.2).Nodup:=λp G=>by
 have e:=cZ F (show (p.1,p.2)∈ks from G);rcases h p.1 with ⟨v,w,z,_,_,nd⟩|⟨z,_⟩
 .rw [e] at z;cases z;exact nd
 .rw [e] at z;cases z
section
variable {P:JZ}{w:Ke}{K:Frag}{mg:Str->Option Value}{base:Heap}{A:zj}
def sN:Sp:=λvs H Q _=>∃(z:Str)(d kd sl nl:Addr),vs=[.str z,.ref d,.ref kd,.ref sl,.ref nl]/\Bk H z d kd sl nl/\∀H',ze H H'->Q (.bl true) H'
theorem oW:zu ["_law_text_here","_law_plain","_law_kept","_law_spots_here","_law_numbers","_law_told","_law_later"] Yh (zk kL):=fsc
theorem Fd(F:Fun K "_law_back" "_law_back" kL f fd)(T:Txt K mg A)(YS:GF P w K mg base true 8 "read_mark" Xc (vF A))(ZX:GF P w K mg base true 7 Wx YF (kB A))(ZW:GM P w K mg base true 1 A.State Wu ZY (jr A))(ZV:GM P w K mg base true 5 A.State WG ZY (jw A))(ZM:GM P w K mg base true 4 A.kn "put" XH (jU A))(ZG:GF P w K mg base true 7 Wi ["state"] (oH A))(Zu:GF P w K mg base true 2 Wk YA lV)(Zx:GF P w K mg base true 2 Wh WS m6):zp P w K mg base CX0 true 9 f fd Yh sN:=by
 refine F.o oW λZP Ar outer s H vs Q E hr h=>?_;obtain ⟨z,d,kd,sl,nl,rfl,⟨a,X,as,t,u,ks,ku,us,n,m,R⟩,q⟩:=h;have hu:_<cLine:=KH (zM hr);refine ⟨_,(W.h (zh (zw (i:=5) oW.nd rfl (J5 rfl) (caD (zt YS hr rfl (clP (za (zg 0) zd)))))
   (zh (zw (i:=6) oW.nd rfl (J5 rfl) (aj (za (zQ bX (zg 4) zo (λ_ _=>rfl)) (za (zB cq (zQ bX (zg 4) zo (λ_ _=>rfl)) zo) zd))))
   (zh (zW (bW (bO (caD (zt ZX hr rfl (clP (za (zg 5) (za (zg 1) (za (zg 2) (za (zg 3) (za (zg 6) zd))))))))))
   (zi (zA ck))
   z9)
   (zh (ai (JD (m0D (zO (clE (zg 5)) T.mm ZW hr))))
   (zh (ai (mD (aN (clE (m0D (zO (clE (zg 5)) T.mm ZV hr))) T.hE ZM hr (clP (za aC (za zo (za zo zd)))))))
   (zi (zA (eR (oE (da hu)) (caD (zt ZG hr rfl (clP (za (zg 5) zd)))) (caD (zt Zx hr rfl (clP (za (caD (zt Zu hr rfl (clP (za (zg 1) (za (zg 2) (za (zg 3) (za (zQ bX (zg 6) zo (λ_ _=>rfl)) (za (zQ bX (zg 6) zo (λ_ _=>rfl)) zd)))))))) zd)))) (z6 _)))))))))),?_⟩
 ac_rfl;refine ⟨t,ks,us,n,m,by rw [R.tx],R.told,λx fx b k sd u1 G H1 s1 st a3 O=>?_⟩;have a9:=s1 _ _ R.nl;erw [a9,eC,eE];refine ⟨by decide,λlt H2 n2 _=>?_⟩;have s2:ze H H2:=s1.trans n2.same;have S2:=st.same n2.same;have nk:=R.kal.PV R.nks;have Xx:=R.kp.PV;have J:=R.bud.alike a3 O st.files.hX.nd R.nt st.files.xy R.nks nk;have av:=R.bud.alike (ic R.al) (R.kal.symm Xx) R.pl.nd R.nt R.kp.nd R.nks nk;have b3:=O.len st.files.xy R.nks;have bx:=R.kal.len R.nks R.kp.nd;have few:=R.few;obtain ⟨ba,bf⟩:=J.good (JY _) st.files.hX.nd st.files.xy (O.PV st.files.xy) (by omega);obtain ⟨a4,aI⟩:=av.good (JY _) R.pl.nd R.kp.nd Xx (by omega);have a0:zN u1 u:=λn=>(a3 n).trans (R.al n);have U:=O.trans R.kal;have eW:aB u1 G=aB u ku:=wk a0 st.files.hX.nd R.pl.nd U st.files.xy R.kp.nd Xx;have m1:=R.m1;have g:=R.told.gs;have ab:cV us (m+1) n:=⟨g.b,g.r,g.few,⟨by have:=g.m;omega,by omega⟩,g.n⟩;ac_rfl;refine ⟨x,d,kd,sl,lt,rfl,⟨fx,b,k,sd,a,X,as,u1,u,G,ku,us,us,n,m+1,S2,R.pl.same s2,R.kp.same s2,R.kx,R.dk,a0,U,J.mono (by decide),by omega,s2 _ _ R.sl,Paired.ri R.pr λ_ _ e=>s2 _ _ e,.refl _,R.told.so,n2.at_⟩,λH3 s3=>?_⟩;have S3:=S2.same s3;obtain ⟨bq,e3⟩:=S3.ob;erw [e3,mI];refine ⟨x,fx,b,k,sd,u1,G,us,n,m+1,rfl,S3,λl bs vs H4 s4 bb hl pb pv sv=>?_⟩;ac_rfl;have s5:ze H3 (upd H4 l (.lst [])):=λc o e=>by rw [zf (zH e bb)];exact s4 _ _ e
 refine ⟨⟨_,hl⟩,?_⟩;generalize upd H4 l (.lst [])=H5 at s5;have S5:=S3.same s5;obtain ⟨b0,e5⟩:=S5.ob;erw [e5,hU];refine ⟨x,fx,b,k,sd,u1,G,us,n,m+1,rfl,S5,λq' b' k' H6 s6 nq nb bt F6 _=>?_⟩;obtain ⟨b2,e6⟩:=F6.ob;erw [e6,oY];refine ⟨q',b',k',u1,G,"a",0,1,rfl,F6,by decide,by omega,Kp (J.row _) (by decide),Kp J.few (by decide),λH7 b7 F7=>?_⟩;have Z:ze H5 H7:=λc o e=>b7 _ _ (zH e nb) (s6 _ _ e);have a5:ze H H7:=((s2.trans s3).trans s5).trans Z;ac_rfl;refine ⟨x,fx,b,k,sd,u1,G,us,n,m+1,rfl,S5.same Z,ba,bf,ab,λvs H8 s8 a7 bp=>?_⟩;have ev:vs=us:=ig st.ok.nd a7 bp (.refl _) R.told.so;subst ev;have S:=a5.trans s8;have a6:=s8 _ _ (Z _ _ (s5 _ _ (s3 _ _ n2.at_)));erw [a6,eC,eE];refine ⟨d,kd,sl,a,X,u,ku,as,vs,n,m+1,rfl,R.pl.same S,R.kp.same S,a4,aI,S _ _ R.sl,Paired.ri R.pr λ_ _ e=>S _ _ e,ab,λwl H9 s9 nw hw=>?_⟩;obtain ⟨w1,w2⟩:=fA a4 aI ab;refine ⟨wl,_,rfl,hw,w1,w2,λb1 a8=>?_⟩;have eT:bM (m+1) n u1 G vs=cN (tx (zP (ax (m+1) n u ku vs))):=by unfold bM ax;rw [eW]
 rw [eT];erw [decide_true];exact q _ ((S.trans s9).trans a8)
abbrev iS:Stmt:=top 64
theorem y7{α β:Type}{R:α->β->Prop}{l:List α}{m:List β}(h:Paired R l m):∀k,Paired R (l.eraseIdx k) (m.eraseIdx k):=by
 induction h with
 | nil=>exact λ_=>.nil
 | cons z r F =>
  intro k;cases k with
  | zero=>exact r
  | succ k=>exact .cons z (F k)
def Eld(H:Hp)(v:V):Prop:=v = .non\/∃e z d kd sl nl,v = .ref e/\H e=some (.tup [.str z,.ref d,.ref kd,.ref sl,.ref nl])/\Bk H z d kd sl nl
theorem Eld.same(h:Eld H v)(s:ze H H'):Eld H' v:=h.imp id λ⟨e,z,d,kd,sl,nl,F,G,b⟩=>⟨e,z,d,kd,sl,nl,F,s _ _ G,b.same s⟩
theorem SqL.sm{K:Frag}{a:Addr}(h:SqL K H a xs)(s:ze H H'):SqL K H' a xs:=by
 rcases h with (h|⟨o,h⟩)|h
 .exact .inl (.inl (s _ _ h))
 .exact .inl (.inr ⟨o,s _ _ h⟩)
 .exact .inr h
theorem Bud.rng{t:Tab}(h:Bud t ks B):∀y∈au t ks,0<=y/\y<10 ^ 17:=λy z=>by
 rcases eh.mp z with z|⟨p,F,z⟩
 .obtain ⟨p,F,z⟩:=cO.mp z;exact (h.gt p F).2 y z
 .obtain ⟨r,hr,z⟩:=cO.mp z;exact ((h.gk p F).2.1 r hr).2 y z
theorem Ih{a b c d e:V}:atI [a,b,c,d,e] 0=some a:=rfl
theorem GL{a b c d e:V}:atI [a,b,c,d,e] 1=some b:=rfl
theorem Dr{a b c d e:V}:atI [a,b,c,d,e] 2=some c:=rfl
theorem FO{a b c d e:V}:atI [a,b,c,d,e] 3=some d:=rfl
theorem Fg{a b c d e:V}:atI [a,b,c,d,e] 4=some e:=rfl
structure LwI(H0:Hp)(sc:Addr)(i:Nat)(σ:L2.St)(H':Hp):Prop where
 ex:∃v t2 t3 t4 t5 t6 t7 t8 t9 t10 t11 t12,σ=[some (.ref sc),some v,t2,t3,t4,t5,t6,t7,t8,t9,t10,t11,t12]/\Eld H' v
 same:ze H0 H'
structure HaI(H5:Hp)(a lf:Addr)(ts:List T3)(i:Nat)(τ:L2.St)(ys:List V)(H':Hp):Prop where
 ex:∃t,τ=[t,some (.ref lf),some (.ref a)]
 st:∃bs us fs ws,H' lf=some (.lst (bs.map V.ref))/\Paired (aY H') bs us/\ys=fs.map V.ref/\Paired (aY H') fs ws/\(us++ws).Perm ts/\us.length=ts.length-i
 but:∀c o,c≠a->c≠lf->H5 c=some o->H' c=some o
 qf:Pot H' a
 le:i<=ts.length
def iQ(K:Frag):Sp:=λvs H Q _=>∃(a:Addr)(ns:List Int),vs=[.ref a]/\SqL K H a (ns.map V.int)/\ns.length<=63/\∀H',Q (.bl true) H'
theorem bV:zu Yz WK (zk iS):=fsc
theorem xg:bc { kind:=.function,names:=[(JW ".0",.local),(JW "_law_one",.local),(JW "_law_left",.free),(JW "_law_draw",.globalImplicit),(JW "_law_pot_here",.free),(JW "len",.globalImplicit)],isGenerator:=false,isCoroutine:=false,more:=[] } (zk iS).names Yz WI [none,some 8,some 3]=true:=by decide +kernel
theorem IJ:(WI:List Str).Nodup:=by decide +kernel
theorem B0(F:Fun K "law" "law" iS f fd)(T:Txt K mg A)(YK:GF P w K mg base true 2 "_law_pot" XY (qP K))(Y3:GF P w K mg base true 9 "_law_files" XZ (vH A))(Y2:GF P w K mg base true 2 "_law_spots" W6 sC)(Y1:GF P w K mg base true 2 "_law_above" XW uq)(Z9:GF P w K mg base true 1 WH YR cK)(Zi:GC P w K mg base true 5 "State" A.State Zg (jd A))(ZG:GF P w K mg base true 7 Wi ["state"] (oH A))(Zu:GF P w K mg base true 2 Wk YA lV)(Zx:GF P w K mg base true 2 Wh WS m6)(Zf:GF P w K mg base true 9 "_law_back" Yh sN)(ZX:GF P w K mg base true 7 Wx YF (kB A))(Ze:GF P w K mg base true 7 Wg [] (wy A)):zp P w K mg base CX0 true 11 f fd WK (iQ K):=by
 refine F.o bV λZP Ar outer s H vs Q E hr h=>?_;obtain ⟨sc,ns,rfl,hS,hl,q⟩:=h;have hu:_<cLine:=KH (zM hr);refine ⟨_,(W.h (zh (zw (i:=1) bV.nd rfl (J5 rfl) h8)
   (zh (aW Lh.never (λ_=>rfl) (dh rfl T.rd (za (zK (nT rfl) rfl T.Pz boot_max (za zo (za (zK (Dh rfl) rfl T.Qw boot_min (za (zK nR rfl T.r0 KA (za (zg 0) zd)) (za zo zd))) zd))) zd)) (zD (i:=2) bV.nd rfl (J5 rfl))
   (zh (zw (i:=3) bV.nd rfl (MJ rfl) (caD (zt YK hr rfl (clP (za (zg 0) (za (zg 2) zd))))))
   (zh (cT (caD (zt Y3 hr rfl (clP (za (zg 3) zd)))) (jn (n:=3) (gsD (bh (zD (i:=4) bV.nd rfl (J5 rfl)) (gsD (bh (zD (i:=5) bV.nd rfl (J5 rfl)) (gsD (bh (zD (i:=6) bV.nd rfl (J5 rfl)) ef))))))))
   (zh (zw (i:=7) bV.nd rfl (J5 rfl) (caD (zt Y2 hr rfl (clP (za (zg 3) (za (zg 5) (za (zg 6) zd)))))))
   (zh (zw (i:=8) bV.nd rfl (MJ rfl) (az xn rfl T.Pn boot_list (za (zg 7) zd)))
   (zh (uU (i0:=9) bV.nd rfl (J5 rfl) (λ_=>rfl) (af.of xg) (liD (bz (clE (zg 7)))) (λ_ _ _ _ _=>(zD (i:=0) IJ rfl (J5 rfl))) (λ_ _ _ _ _=>bB) (λ_ _ _ _ _=>(uP (zg 1) (caD (zt Z9 hr rfl (clP (za (zg 2) (za (zK mn rfl T.r0 KA (za (zg 1) zd)) zd))))))))
   (zh (zw (i:=10) bV.nd rfl (J5 rfl) (aj (za (caD (zt Y1 hr rfl (clP (za (zg 3) (za (zg 7) zd))))) (za (caD (zt Z9 hr rfl (clP (za (zg 3) (za (zQ bX (aj (za zo (za (zB (oI jQ) zo zo) zd))) (caD (zt Z9 hr rfl (clP (za (zg 3) (za zo zd))))) (λ_ _=>rfl)) zd))))) zd))))
   (zh (zw (i:=11) bV.nd rfl (J5 rfl) (iI Zi hr rfl (za (zg 4) (za (zg 9) (za (zQ bX (zg 10) zo (λ_ _=>rfl)) (za (zQ bX (zg 10) zo (λ_ _=>rfl)) zd))))))
   (zh (zw (i:=12) bV.nd rfl (J5 rfl) (caD (zt ZG hr rfl (clP (za (zg 11) zd)))))
   (zh (zW (tD (ah (clO (oE (dv hu))) (clE (zg 12)) (clE (caD (zt Zx hr rfl (clP (za (caD (zt Zu hr rfl (clP (za (zg 5) (za (zg 6) (za (zg 7) (za (zQ bX (zg 10) zo (λ_ _=>rfl)) (za (zQ bX (zg 10) zo (λ_ _=>rfl)) zd)))))))) zd))))) (z6 _)))
   (zi (zA ck))
   z9)
   (zh (zW (bW (bO (caD (zt Zf hr rfl (clP (za (zg 12) (za (zg 5) (za (zg 6) (za (zg 7) (za (zg 10) zd))))))))))
   (zi (zA ck))
   z9)
   (zh (zW (dQ (jK (tD (ah (clO IH) (clE (zg 1)) (clE h8) (z6 _))) (iF (bW (bO (caD (zt Zf hr rfl (clP (za (zQ bX (zg 1) zo (λ_ _=>rfl)) (za (zQ bX (zg 1) zo (λ_ _=>rfl)) (za (zQ bX (zg 1) zo (λ_ _=>rfl)) (za (zQ bX (zg 1) zo (λ_ _=>rfl)) (za (zQ bX (zg 1) zo (λ_ _=>rfl)) zd)))))))))))))
   (zi (zA ck))
   z9)
   (zh (zW (dQ (jg (tD (ah (clO (oE (dv hu))) (clE (caD (zt ZG hr rfl (clP (za (zg 11) zd))))) (clE (zg 12)) (z6 _))) (jN (bW (bO (caD (zt ZX hr rfl (clP (za (zg 11) (za (zg 5) (za (zg 6) (za (zg 7) (za (zg 10) zd)))))))))))))
   (zi (zA ck))
   z9)
   (zi (zw (i:=1) bV.nd rfl (J5 rfl) (dr (za (zg 12) (za (zg 5) (za (zg 6) (za (zg 7) (za (zg 10) zd)))))))))))))))))))))
   (zi (zA (eR (oE (da hu)) (caD (zt ZG hr rfl (clP (za (Bu Ze hr rfl) zd)))) (caD (zt Zx hr rfl (clP (za (aj (za aC (za aC (za aC (za aC (za aC (za aC zd))))))) zd)))) (z6 _))))))),?_⟩
 ac_rfl;refine ⟨_,.inl hS,?_⟩;rw [JS];have hN:∃N:Nat,(if (if 3<(ns.length:Int) then 3 else (ns.length:Int))>1 then if 3<(ns.length:Int) then 3 else (ns.length:Int) else 1)=(N:Int)/\N<=3:=by
  by_cases h1:3<(ns.length:Int)
  .rw [if_pos h1];exact ⟨3,rfl,by decide⟩
  .rw [if_neg h1];split
   .exact ⟨ns.length,rfl,by omega⟩
   .exact ⟨1,rfl,by decide⟩
 obtain ⟨N,eN,fv⟩:=hN;rw [eN,Mw];refine ⟨by omega,by omega,aa.rng (LwI H sc) ⟨⟨_,_,_,_,_,_,_,_,_,_,_,_,rfl,.inl rfl⟩,ze.refl _⟩ ?_ ?_⟩
 .rintro i σ H0 hi ⟨⟨v,t2,t3,t4,t5,t6,t7,t8,t9,ec,el,en,rfl,El⟩,s0⟩;have ej:(0+(i:Int))=((i:Nat):Int):=by omega
  erw [ej];refine ⟨sc,ns,i,rfl,(SqL.sm hS s0),by omega,λa H1 s1 a0 ee=>?_⟩;ac_rfl;refine ⟨a,rfl,ee,λtp p d kd b k t u ks ku B H2 b2 ey R2 hB np nb nk nd e7=>?_⟩;refine ⟨tp,_,rfl,SqT.of ey,rfl,?_⟩;have mem:=jX R2.al R2.files.hX.nd R2.plain.nd R2.kal R2.files.xy R2.kept.nd R2.kept.PV;have eb:=R2.bud.uniq;have fa:(uniq (au u ku)).length<=B:=Kp (ip cF λy hy=>bT.mpr ((mem y).mpr (bT.mp hy))) eb;have e6:=R2.kal.len R2.files.xy R2.kept.nd;have e5:=R2.few;ac_rfl;refine ⟨a,d,kd,_,u,ku,rfl,R2.qf,R2.plain,R2.kept,by omega,by omega,λsl as ts H3 b3 P3 ei Yl a9 pm so rg=>?_⟩;have fo:ts.length<=B:=by have:=pm.length_eq;rw [JS] at this;omega
  ac_rfl;have cp:∀t∈ts,0<=t.1/\t.1<10 ^ 17:=λt' av=>R2.bud.rng _ ((mem _).mpr (bT.mp (pm.mem_iff.mp (KL.mpr ⟨t',av,rfl⟩))));have eo:=bA a9;have R3:=R2.Pl b3 P3;refine ⟨_,.inl Yl,λlf H4 n4=>?_⟩;have P4:=P3.same n4.same;have dy:lf≠a:=P3.ne n4.no;have b8:sl≠a:=R2.qf.ne ei;have eg:sl≠lf:=zH Yl n4.no;have bf:=n4.same _ _ Yl;refine ⟨⟨_,SqL.of bf⟩,ak.lst (xs:=as.map V.ref) (HaI H4 a lf ts) (λi τ ys H' I=>?_) (λi τ ys H' I=>SqL.of (I.but _ _ b8 eg bf)) ⟨⟨_,rfl⟩,⟨as,ts,[],[],n4.at_,Paired.ri a9 λ_ _ e=>n4.same _ _ e,rfl,.nil,by simp,by omega⟩,λ_ _ _ _ e=>e,P4,Lc _⟩ ?_ ?_⟩
  .obtain ⟨bs,us,fs,ws,_,_,e,pw,S,lu⟩:=I.st;have h1:=S.length_eq;rw [KB] at h1;have:=bA pw;rw [e,JS];exact aK (by omega)
  .intro N j x τ ys H5 hx I hN;obtain ⟨t1,rfl⟩:=I.ex;have hj:=(JX.mp hx).1;rw [JS] at hj;obtain ⟨bs,us,fs,ws,e1,p1,e2,p2,S,lu⟩:=I.st;have lb:=bA p1;have le:=I.le;ac_rfl;refine ⟨⟨_,e1⟩,_,.inl e1,a,_,rfl,I.qf,by rw [JS];omega,by rw [JS];omega,λy H6 b6 P6 y0 y1=>?_⟩;rw [JS] at y1;have de:y.toNat<bs.length:=by omega
   have b0:y.toNat<us.length:=by omega
   have ek:=b6 _ _ dy e1;have t5:aY H5 bs[y.toNat] us[y.toNat]:=cA p1 (JQ de) (JQ b0);have tl:∀{r:Addr}{xs:List V},H5 r=some (.tup xs)->upd H6 lf (.lst ((bs.map V.ref).eraseIdx y.toNat)) r=some (.tup xs):=λ{r xs} e=>by
    rw [zf (λz=>by rw [z,e1] at e;cases e)];exact b6 _ _ (λz=>by obtain ⟨x,y,ea,_⟩:=I.qf.ex;rw [z,ea] at e;cases e) e
   refine ⟨bs.map V.ref,y.toNat,by rw [Int.toNat_of_nonneg y0],ek,.ref bs[y.toNat],by rw [Kd,JQ de];rfl,hN _ _ _ ⟨⟨_,rfl⟩,⟨bs.eraseIdx y.toNat,us.eraseIdx y.toNat,fs++[bs[y.toNat]],ws++[us[y.toNat]],by rw [zq,pj],Paired.ri (y7 p1 _) λ_ _ e=>tl e,by rw [e2,Kz];rfl,fR (Paired.ri p2 λ_ _ e=>tl e) (.cons (tl t5) .nil),?_,by rw [LR b0];omega⟩,λc o nc nl e=>by rw [zf nl];exact b6 _ _ nc (I.but _ _ nc nl e),?_,by omega⟩⟩
   .have h1:(us.eraseIdx y.toNat++(ws++[us[y.toNat]])).Perm (us[y.toNat]::(us.eraseIdx y.toNat++ws)):=by rw [<- LI];exact List.perm_append_singleton _ _
    exact (h1.trans ((iA b0).append_right ws)).trans S
   .obtain ⟨x,y',ea,r⟩:=P6.ex;exact ⟨⟨x,y',by rw [zf dy.symm];exact ea,r⟩⟩
  .intro τ ys H5 I hd H6 n6;obtain ⟨bs,us,fs,ws,e1,p1,e2,p2,S,lu⟩:=I.st;rw [JS,eo,sub_self,KM] at lu;subst lu;rw [NA] at S;rw [e2] at n6;have bq:But a H3 H6:=λc o nc e=>n6.same _ _ (I.but _ _ nc (zH e n4.no) (n4.same _ _ e));have P6:=I.qf.same n6.same;have dk:=bq _ _ b8 Yl;have a3:∀{H':Hp}{r:Addr}{xs:List V},Pot H' a->H' r=some (.tup xs)->r≠a:=λ{H' r xs} P e z=>by obtain ⟨_,_,ea,_⟩:=P.ex;rw [z,ea] at e;cases e
   have dp:Paired (aY H6) as ts:=Paired.ri a9 λr tt e=>bq _ _ (a3 P3 e) e;ac_rfl;refine ⟨a,sl,as,ts,rfl,P6,dk,dp,by omega,cp,λz H7 b7 P7 z0 z1=>?_⟩;refine ⟨⟨by decide,by decide,by decide⟩,by decide,λp8 H8 n8 _=>?_⟩;have P8:=P7.same n8.same;refine ⟨a,2,rfl,P8,by decide,by decide,λr9 H9 b9 P9 d2 d0=>?_⟩;have h9:=b9 _ _ (P7.ne n8.no) n8.at_;obtain ⟨v7,eF,dg⟩:=iE (xs:=[V.int 4,.int (10 ^ 17)]) d2 (by simpa using d0);obtain ⟨m7,rfl,eu,e8⟩:∃m7:Int,v7 = .int m7/\0<m7/\m7<=10 ^ 17:=by
    simp only [J1,Kh,or_false] at dg;rcases dg with rfl|rfl
    .exact ⟨_,rfl,by decide,by decide⟩
    .exact ⟨_,rfl,by decide,by decide⟩
   erw [h9];refine ⟨_,eF,a,m7,rfl,P9,eu,by omega,λz8 ft d4 e4 dV fy=>⟨by decide,λnl H11 a8 _=>?_⟩⟩;have a5:But a H6 H11:=(((b7.trans (.of n8.same)).trans b9).trans d4).trans (.of a8.same);have U:But a H3 H11:=bq.trans a5;have dt:=R3.Pl U (e4.same a8.same);have ew:hd≠a:=I.qf.ne n6.no;have eU:=a8.at_;erw [eU,eC,eE];intro x dx d7 nI;have XO:=nI.same;have c6:Paired (T3S d7) fs ws:=Paired.ri p2 λr tt e=>.inl (XO _ _ (a5 _ _ (a3 P6 (n6.same _ _ e)) (n6.same _ _ e)));have fq:=S.length_eq;have bb:nh ws:=⟨((S.map (·.1)).trans pm).nodup_iff.mpr cF,by omega⟩;refine ⟨x,p,b,k,hd,dx,z,z8,t,ks,fs,ws,rfl,nI.at_,dt.files.same XO,.inl (XO _ _ (a5 _ _ ew n6.at_)),c6,bb,λfx b1 k1 sd H13 e3 _ _ _ _ st _=>⟨rfl,?_⟩⟩;have Yf:ze H11 H13:=λc o e=>e3 _ _ (zH e nI.no) (XO _ _ e);have G:=dt.same Yf;have Xx:=G.kept.PV;have nk:=G.kal.PV G.files.xy;have c5:=G.bud.alike (ic G.al) (G.kal.symm Xx) G.plain.nd G.files.hX.nd G.kept.nd G.files.xy nk;obtain ⟨a7,ba⟩:=G.bud.good hB G.files.hX.nd G.files.xy nk G.few;obtain ⟨df,dd⟩:=c5.good hB G.plain.nd G.kept.nd Xx (by omega);have eW:aB t ks=aB u ku:=wk G.al G.files.hX.nd G.plain.nd G.kal G.files.xy G.kept.nd Xx;have ct:cV ts z8 z:=⟨cp,rg,by omega,⟨dV,by omega⟩,z0,z1⟩;have bp:cV ws z8 z:=⟨λt' av=>cp t' (S.mem_iff.mp av),λt' av=>rg t' (S.mem_iff.mp av),by omega,⟨dV,by omega⟩,z0,z1⟩;have eT:bM z8 z t ks ts=cN (tx (zP (ax z8 z u ku ts))):=by unfold bM ax;rw [eW]
   have et:(ts.map (·.1)).Perm (uniq (au t ks)):=pm.trans ((Lw cF cF).mpr λy=>by rw [bT,bT];exact (mem y).symm);have told:jx t ks ts z z8:=⟨a7,ba,ct,et,so⟩;have XN:=Yf _ _ (U _ _ b8 Yl);have Z:=Yf _ _ a8.at_;have XM:Paired (aY H13) as ts:=Paired.ri a9 λr tt e=>Yf _ _ (U _ _ (a3 P3 e) e);refine ⟨x,fx,b1,k1,sd,t,ks,ws,z,z8,rfl,st,a7,ba,bp,λvs dc J pv sv=>?_⟩;have ev:vs=ts:=ig bb.nd pv sv S.symm so;subst ev;have dT:=J _ _ Z;erw [dT,eC,eE];have du:=G.same J;have c2:=J _ _ XN;refine ⟨d,kd,sl,a,[b,k,d,kd],u,ku,as,vs,z,z8,rfl,du.plain,du.kept,df,dd,c2,Paired.ri XM λ_ _ e=>J _ _ e,ct,λwl ff eD nw hw=>?_⟩;obtain ⟨w1,w2⟩:=fA df dd ct;refine ⟨wl,_,rfl,hw,w1,w2,λH16 d3=>?_⟩;rw [<- eT];erw [decide_true];have a6:ze dc H16:=eD.trans d3;have bk:∀H',ze H13 H'->Bk H' (bM z8 z t ks vs) d kd sl nl:=λH' s'=>⟨a,[b,k,d,kd],as,t,u,ks,ku,vs,z,z8,rfl,G.plain.same s',G.kept.same s',by simp,G.ap.2.2.2.2,G.al,G.kal,G.bud.mono hB,G.few,G.files.hX.nd,G.files.xy,s' _ _ XN,Paired.ri XM λ_ _ e=>s' _ _ e,told,by omega,s' _ _ Z⟩;refine ⟨_,d,kd,sl,nl,rfl,bk H16 (J.trans a6),λH17 d1=>?_⟩;have Ye:ze dc H17:=a6.trans d1;have ab:ze H0 H13:=λc o e=>by
    have ca:=zH e a0;exact Yf _ _ (U _ _ ca (b3 _ _ ca (b2 _ _ ca (s1 _ _ e))))
   rcases El.same ((ab.trans J).trans Ye) with rfl|⟨e,z',d',d5,er,eH,rfl,he,ed⟩
   .ac_rfl;refine ⟨x,fx,b1,k1,sd,t,ks,ws,z,z8,rfl,st.same (J.trans (Ye)),a7,ba,bp,λa4 H20 b4 bt b5=>?_⟩;have bx:a4=vs:=ig bb.nd bt b5 S.symm so;subst bx;have O:ze H13 H20:=(J.trans (Ye)).trans b4;erw [decide_true];refine ⟨x,d,kd,sl,nl,rfl,⟨fx,b1,k1,sd,a,[b,k,d,kd],as,t,u,ks,ku,ws,a4,z,z8,st.same O,G.plain.same O,G.kept.same O,by simp,G.ap.2.2.2.2,G.al,G.kal,G.bud.mono (by omega),G.few,O _ _ XN,Paired.ri XM λ_ _ e=>O _ _ e,S.symm,so,O _ _ Z⟩,λez c3=>?_⟩;ac_rfl;refine ⟨by decide,λe H22 aI=>?_⟩;have Yd:ze H13 H22:=(O.trans c3).trans aI.same;exact ⟨⟨_,_,_,_,_,_,_,_,_,_,_,_,rfl,.inr ⟨e,_,d,kd,sl,nl,rfl,aI.at_,(bk H13 (ze.refl _)).same Yd⟩⟩,s0.trans (ab.trans Yd)⟩
   .erw [he,Ih,GL,Dr,FO,Fg];refine ⟨z',d',d5,er,eH,rfl,ed,λfw c4=>?_⟩;ac_rfl;refine ⟨x,fx,b1,k1,sd,t,ks,ws,z,z8,rfl,st.same (J.trans (Ye.trans c4)),a7,ba,bp,λa4 H20 b4 bt b5=>?_⟩;have bx:a4=vs:=ig bb.nd bt b5 S.symm so;subst bx;have O:ze H13 H20:=(J.trans (Ye.trans c4)).trans b4;erw [decide_true];refine ⟨x,d,kd,sl,nl,rfl,⟨fx,b1,k1,sd,a,[b,k,d,kd],as,t,u,ks,ku,ws,a4,z,z8,st.same O,G.plain.same O,G.kept.same O,by simp,G.ap.2.2.2.2,G.al,G.kal,G.bud.mono (by omega),G.few,O _ _ XN,Paired.ri XM λ_ _ e=>O _ _ e,S.symm,so,O _ _ Z⟩,λez c3=>?_⟩;ac_rfl;refine ⟨by decide,λe H22 aI=>?_⟩;have Yd:ze H13 H22:=(O.trans c3).trans aI.same;exact ⟨⟨_,_,_,_,_,_,_,_,_,_,_,_,rfl,.inr ⟨e,_,d,kd,sl,nl,rfl,aI.at_,(bk H13 (ze.refl _)).same Yd⟩⟩,s0.trans (ab.trans Yd)⟩
 .rintro σ H1 ⟨⟨v,t2,t3,t4,t5,t6,t7,t8,t9,ec,el,en,rfl,El⟩,s1⟩;ac_rfl;refine ⟨rfl,λx fx b k d H2 s2 _ _ _ _ _ st=>?_⟩;have g0:aS []:=⟨by simp [names],by simp,by simp [names],by simp⟩;have k0:cx []:=⟨by simp [names],by simp,by simp [names],by simp⟩;have dK:cV [] 0 0:=⟨by simp,(λt h=>by cases h),by simp,⟨by decide,by decide⟩,by decide,by decide⟩;refine ⟨x,fx,b,k,d,[],[],[],0,0,rfl,st,g0,k0,dK,λus H3 s3 pm so=>?_⟩;obtain rfl:us=[]:=pm.eq_nil;refine ⟨by decide,λp H4 n4 _=>?_⟩;obtain ⟨w1,w2⟩:=fA g0 k0 dK;have e0:ax 0 0 [] [] []=[("mark":Str),"0","0","0","0","0"]:=by
   have z1:zr (names ([]:Tab))=[]:=KM.mp (by rw [(zY _).1.length_eq];rfl);have z2:zr (names ([]:List (Str×Tab)))=[]:=KM.mp (by rw [(zY _).1.length_eq];rfl);unfold ax aB aH;rw [z1,z2];rfl
  rw [e0] at w1 w2;refine ⟨p,[("mark":Str),"0","0","0","0","0"],rfl,n4.at_,w1,w2,λH5 s5=>?_⟩;unfold bM;rw [e0];erw [decide_true];exact q _
end
theorem all_mk{l:OpenLaw}{w:Ke}{K:Frag}{h:Heap}{mg:Str->Option Value}{fa:Addr}{a0 av a7 a5 ab Z a3 O z J:Addr}{b0 dK ht d1 d0 fx:Tok}(X:K.In h)(G:h.Ns J9 mg)(gy:mg "law"=some (.ref fa))
  (d7:ME K J9 "CleanError"=some (some (.ref a0)))
  (b4:ME K J9 "NoFile"=some (some (.ref av)))
  (ft:ME K J9 "NoPlace"=some (some (.ref a7)))
  (hv:ME K J9 "HeldAlready"=some (some (.ref a5)))
  (g0:ME K J9 "NotHeld"=some (some (.ref ab)))
  (dc:ME K J9 "NoMark"=some (some (.ref Z)))
  (el:ME K J9 "NoPart"=some (some (.ref a3)))
  (aI:ME K J9 "Words"=some (some (.ref O)))
  (a8:ME K J9 "Files"=some (some (.ref z)))
  (a6:ME K J9 "State"=some (some (.ref J)))
  (e5:FnM K "is_whole" mS)
  (hk:FnM K Wq nA)
  (f3:FnM K Wl j8)
  (bp:FnM K Wn mF)
  (hy:FnM K "is_name" mC)
  (fo:ae K O WE "Words.__init__" nO)
  (b2:ae K O Wr "Words.take_word" mZ)
  (v0:ae K O Wy "Words.take_number" m8)
  (fv:ae K O "take_name" "Words.take_name" lC)
  (eH:ae K O Wj "Words.is_at_end" km)
  (dt:ae K O "take_end" "Words.take_end" pf)
  (b1:ae K z WE "Files.__init__" kK)
  (e6:ae K z "names" "Files.names" lR)
  (ey:ae K z Wp "Files.many" lA)
  (d2:ae K z WB "Files.birth" mJ)
  (ek:ae K z "put" "Files.put" kr)
  (c3:ae K z "cut" "Files.cut" ow)
  (d4:ae K z "hold" "Files.hold" mP)
  (dd:ae K z "free" "Files.free" lq)
  (dT:ae K z "held" "Files.held" mw)
  (ea:ae K z "of_held" "Files.of_held" nB)
  (eg:ae K z "living" "Files.living" gI)
  (e7:ae K z "copied" "Files.copied" kJ)
  (hB:ae K z "bare" "Files.bare" kR)
  (bq:ae K z "keep" "Files.keep" oJ)
  (ut:ae K z Wv "Files.refuse_if_none" nV)
  (ul:ae K z WA "Files.refuse_if_not_held" o9)
  (hs:FnM K "files_text" mK)
  (bf:FnM K Wf ka)
  (hp:FnM K "take_files" kH)
  (hh:FnM K "take_table" mQ)
  (bb:FnM K Ww mj)
  (e1:FnM K "sum_of" o7)
  (fq:FnM K "summed" lW)
  (eN:FnM K "body_of" kF)
  (gd:ae K J WE "State.__init__" jv)
  (b9:ae K J WG "State.files" lr)
  (ez:ae K J Wu "State.spots" ke)
  (v6:ae K J WD "State.next_number" lH)
  (c5:ae K J WC "State.mark_number" mX)
  (hn:FnM K Wg k4)
  (hq:FnM K Wi iY)
  (cp:FnM K "read_mark" o5)
  (dg:FnM K "state_of" iB)
  (c6:FnM K "take_spots" lT)
  (dk:FnM K "_law_cell" oQ)
  (gk:FnM K "_law_pot" kW)
  (dp:FnM K WH oq)
  (eu:FnM K Wz nW)
  (bx:FnM K "_law_birth" kP)
  (ba:FnM K Wm iZ)
  (du:FnM K "_law_put" mr)
  (g4:FnM K "_law_cut" ph)
  (b5:FnM K "_law_deed" kU)
  (f6:FnM K "_law_files" jy)
  (d5:FnM K Wo nJ)
  (ha:FnM K "_law_spots" oh)
  (eb:FnM K "_law_above" iz)
  (de:FnM K Ws jb)
  (gv:FnM K "_law_same" lQ)
  (a9:FnM K Wt j9)
  (gs:FnM K Wk iG)
  (dy:FnM K "_law_sum" ja)
  (c2:FnM K Wh jz)
  (bt:FnM K Wx lJ)
  (hA:FnM K "_law_back" kL)
  (gu:FnM K "law" iS)
  (gr:ME K J9 "abs"=some none)
  (ec:ME K J9 "all"=some none)
  (hj:ME K J9 "bool"=some none)
  (er:ME K J9 "dict"=some none)
  (d3:ME K J9 "divmod"=some none)
  (fw:ME K J9 "enumerate"=some none)
  (et:ME K J9 "int"=some none)
  (fF:ME K J9 "isinstance"=some none)
  (e2:ME K J9 "len"=some none)
  (eD:ME K J9 "list"=some none)
  (eU:ME K J9 "max"=some none)
  (c4:ME K J9 "min"=some none)
  (ct:ME K J9 "ord"=some none)
  (hu:ME K J9 "range"=some none)
  (ed:ME K J9 "sorted"=some none)
  (ee:ME K J9 "str"=some none)
  (hb:ME K J9 "sum"=some none)
  (ho:ME K J9 "FIGURES"=some (some (.str "0123456789" b0)))
  (b7:ME K J9 "LETTERS"=some (some (.str "abcdefghijklmnopqrstuvwxyz" dK)))
  (ff:ME K J9 "MOST_FIGURES"=some (some (.int 18 ht)))
  (hz:ME K J9 "MOST_LETTERS"=some (some (.int 6 d1)))
  (gC:ME K J9 "MODULUS"=some (some (.int 65521 d0)))
  (hc:ME K J9 "FIRST_WORD"=some (some (.str "mark" fx)))
  (en:N3 K O Nx=true)
  (e3:N7 K O=true)
  (hg:plainOver K O=true)
  (f5:findIn K (.ref O) "__setattr__"=some (some (.builtin "object.__setattr__")))
  (e4:makesIn K O=true)
  (hl:Oe K (.ref O)=true)
  (ew:findIn K (.ref O) "taken"=some none)
  (e0:findIn K (.ref O) "words"=some none)
  (hx:N3 K z Nx=true)
  (df:N7 K z=true)
  (gi:plainOver K z=true)
  (eF:findIn K (.ref z) "__setattr__"=some (some (.builtin "object.__setattr__")))
  (ei:makesIn K z=true)
  (e8:Oe K (.ref z)=true)
  (eo:findIn K (.ref z) "births"=some none)
  (b8:findIn K (.ref z) "kept"=some none)
  (ej:N3 K J Nx=true)
  (eT:N7 K J=true)
  (b6:plainOver K J=true)
  (g5:findIn K (.ref J) "__setattr__"=some (some (.builtin "object.__setattr__")))
  (fD:makesIn K J=true)
  (eW:Oe K (.ref J)=true)
  (b3:findIn K (.ref J) "next_mark"=some none)
  (hr:findIn K (.ref J) "next_row"=some none)
  (f7:findIn K (.ref J) "own_files"=some none)
  (fy:findIn K (.ref J) "spot_of"=some none) :
  ∃fd:J4,(∀(s:JR)(v:Value),BindsTo s fd ⟨[v],[]⟩ [("_law_script",v)])/\∀base:Heap,K.In base->base.Ns J9 mg->zp l.prog w K mg base CX0 true 11 fa fd WK (iQ K):=by
 obtain ⟨hC,S,a4,W⟩:=gu;have e:=gy.symm.trans (M6 X G a4);cases e;have dV:∀(s:JR)(v:Value),BindsTo s S ⟨[v],[]⟩ [("_law_script",v)]:=by obtain ⟨_,_,_,_,_,_,_,_,_,rfl,_⟩:=W.ex;exact λs v=>.of_eq rfl
 have T:Txt K mg ⟨a0,av,a7,a5,ab,Z,a3,O,z,J⟩:=⟨Lj X G gr,Lj X G ec,Lj X G hj,Lj X G er,Lj X G d3,Lj X G fw,Lj X G et,Lj X G fF,Lj X G e2,Lj X G eD,Lj X G eU,Lj X G c4,Lj X G ct,Lj X G hu,Lj X G ed,Lj X G ee,Lj X G hb,⟨_,M6 X G ho,⟨_,rfl⟩⟩,⟨_,M6 X G b7,⟨_,rfl⟩⟩,⟨_,M6 X G ff,⟨_,rfl⟩⟩,⟨_,M6 X G hz,⟨_,rfl⟩⟩,⟨_,M6 X G gC,⟨_,rfl⟩⟩,⟨_,M6 X G hc,⟨_,rfl⟩⟩,M6 X G d7,M6 X G b4,M6 X G ft,M6 X G hv,M6 X G g0,M6 X G dc,M6 X G el,M6 X G aI,M6 X G a8,M6 X G a6,⟨en,e3,hg,f5⟩,ew,e0,⟨hx,df,gi,eF⟩,eo,b8,⟨ej,eT,b6,g5⟩,b3,hr,f7,fy⟩;refine ⟨S,dV,λbase _ _=>?_⟩;have YQ:=gf (w:=w) l.prog base true X G e5 (λ_ _ F=>Ig F T) λ_ _ _ _ _ _=>u1 λ_=>rfl;have ZN:=gf (w:=w) l.prog base true X G hk (λ_ _ F=>He F T YQ) λ_ _ _ _ _ _=>u3 λ_ _ _=>rfl;have YW:=gf (w:=w) l.prog base true X G dk (λ_ _ F=>JJ F T) λ_ _ _ _ _ _=>u2 λ_ _=>rfl;have YK:=gf (w:=w) l.prog base true X G gk (λ_ _ F=>wZ F T YW) λ_ _ _ _ _ _=>u2 λ_ _=>rfl;have U:=gf (w:=w) l.prog base true X G dp (λ_ _ F=>AQ F T) λ_ _ _ _ _ _=>u2 λ_ _=>rfl;have Z2:=gf (w:=w) l.prog base true X G eu (λ_ _ F=>w8 F T U) λ_ _ _ _ _ _=>u2 λ_ _=>rfl;have Zw:=gf (w:=w) l.prog base true X G f3 (λ_ _ F=>AU F T) λ_ _ _ _ _ _=>u3 λ_ _ _=>rfl;have YG:=gf (w:=w) l.prog base true X G hy (λ_ _ F=>EN F T Zw) λ_ _ _ _ _ _=>u1 λ_=>rfl;have Zm:=gf (w:=w) l.prog base true X G bp (λ_ _ F=>Iw F T Zw) λ_ _ _ _ _ _=>u1 λ_=>rfl;have Yx:=gf (w:=w) l.prog base true X G e1 (λ_ _ F=>BX F T) λ_ _ _ _ _ _=>u1 λ_=>rfl;have Zd:=gf (w:=w) l.prog base true X G fq (λ_ _ F=>Gg F T Yx) λ_ _ _ _ _ _=>u1 λ_=>rfl;have YE:=gf (w:=w) l.prog base true X G eN (λ_ _ F=>xW F T Zd) λ_ _ _ _ _ _=>u1 λ_=>rfl;have Zr:=gc (w:=w) l.prog base true X G a8 ei e8 b1 (λ_ _ F=>Ag F T) λ_ _ _ _ _ _=>u1 λ_=>rfl;have ZD:=gm (w:=w) l.prog base true e6 (λ_ _ F=>DW F T) λ_ _ _ _ _ _=>u1 λ_=>rfl;have Z5:=gm (w:=w) l.prog base true ey (λ_ _ F=>GJ F T) λ_ _ _ _ _ _=>u2 λ_ _=>rfl;have Z3:=gm (w:=w) l.prog base true ut (λ_ _ F=>xB F T) λ_ _ _ _ _ _=>u2 λ_ _=>rfl;have Z6:=gm (w:=w) l.prog base true ul (λ_ _ F=>Ca F T) λ_ _ _ _ _ _=>u2 λ_ _=>rfl;have ZC:=gm (w:=w) l.prog base true d2 (λ_ _ F=>A9 F T Z3 Z5 ZN) λ_ _ _ _ _ _=>u3 λ_ _ _=>rfl;have ZM:=gm (w:=w) l.prog base true ek (λ_ _ F=>Bs F T Z5 ZN) λ_ _ _ _ _ _=>u4 λ_ _ _ _=>rfl;have YV:=gm (w:=w) l.prog base true c3 (λ_ _ F=>xk F T Z3 Z5 ZN) λ_ _ _ _ _ _=>u3 λ_ _ _=>rfl;have ZF:=gm (w:=w) l.prog base true dT (λ_ _ F=>Co F T) λ_ _ _ _ _ _=>u1 λ_=>rfl;have ZR:=gm (w:=w) l.prog base true hB (λ_ _ F=>Dq F T Zr) λ_ _ _ _ _ _=>u1 λ_=>rfl;have Zv:=gm (w:=w) l.prog base true bq (λ_ _ F=>DD F T ZR) λ_ _ _ _ _ _=>u3 λ_ _ _=>rfl;have Y8:=gm (w:=w) l.prog base true d4 (λ_ _ F=>xi F T Zv) λ_ _ _ _ _ _=>u2 λ_ _=>rfl;have Y9:=gm (w:=w) l.prog base true dd (λ_ _ F=>Cb F T Z6) λ_ _ _ _ _ _=>u2 λ_ _=>rfl;have ZO:=gm (w:=w) l.prog base true ea (λ_ _ F=>yx F T Z6 ZR) λ_ _ _ _ _ _=>u2 λ_ _=>rfl;have ZI:=gm (w:=w) l.prog base true eg (λ_ _ F=>Eh F T) λ_ _ _ _ _ _=>u1 λ_=>rfl;have ZJ:=gm (w:=w) l.prog base true e7 (λ_ _ F=>Aq F T ZR) λ_ _ _ _ _ _=>u1 λ_=>rfl;have Zi:=gc (w:=w) l.prog base true X G a6 fD eW gd (λ_ _ F=>xF F T ZJ) λ_ _ _ _ _ _=>u5 λ_ _ _ _ _=>rfl;have ZV:=gm (w:=w) l.prog base true b9 (λ_ _ F=>IM F T ZJ) λ_ _ _ _ _ _=>u1 λ_=>rfl;have ZZ:=gm (w:=w) l.prog base true v6 (λ_ _ F=>G6 F T) λ_ _ _ _ _ _=>u1 λ_=>rfl;have Z0:=gm (w:=w) l.prog base true c5 (λ_ _ F=>IW F T) λ_ _ _ _ _ _=>u1 λ_=>rfl;have ZW:=gm (w:=w) l.prog base true ez (λ_ _ F=>Ja F T) λ_ _ _ _ _ _=>u1 λ_=>rfl;have Ze:=gf (w:=w) l.prog base true X G hn (λ_ _ F=>Hw F T Zr Zi) fun|_,_,_,_,_,_,[],_=>rfl;have Zk:=gf (w:=w) l.prog base true X G bf (λ_ _ F=>C3 F T ZD Z5 ZC) λ_ _ _ _ _ _=>u1 λ_=>rfl;have Y6:=gf (w:=w) l.prog base true X G hs (λ_ _ F=>Gi F T Zk ZF ZO) λ_ _ _ _ _ _=>u1 λ_=>rfl;have ZE:=gf (w:=w) l.prog base true X G a9 (λ_ _ F=>Io F T) λ_ _ _ _ _ _=>u1 λ_=>rfl;have ZU:=gm (w:=w) l.prog base true eH (λ_ _ F=>Fs F T) λ_ _ _ _ _ _=>u1 λ_=>rfl;have Z4:=gm (w:=w) l.prog base true b2 (λ_ _ F=>BL F T ZU) λ_ _ _ _ _ _=>u1 λ_=>rfl;have Z8:=gm (w:=w) l.prog base true v0 (λ_ _ F=>DM F T Z4 Zm) λ_ _ _ _ _ _=>u1 λ_=>rfl;have Zo:=gm (w:=w) l.prog base true fv (λ_ _ F=>DN F T Z4 YG) λ_ _ _ _ _ _=>u1 λ_=>rfl;have Zl:=gm (w:=w) l.prog base true dt (λ_ _ F=>Dt F T ZU) λ_ _ _ _ _ _=>u1 λ_=>rfl;have ZT:=gf (w:=w) l.prog base true X G bb (λ_ _ F=>xf F T Zo) λ_ _ _ _ _ _=>u2 λ_ _=>rfl;have Ym:=gc (w:=w) l.prog base true X G aI e4 hl fo (λ_ _ F=>Er F T) λ_ _ _ _ _ _=>u2 λ_ _=>rfl;have Zh:=gf (w:=w) l.prog base true X G hh (λ_ _ F=>CP F T Zr Z8 ZT ZM) λ_ _ _ _ _ _=>u1 λ_=>rfl;have Y5:=gf (w:=w) l.prog base true X G hp (λ_ _ F=>Be F T Zh Z8 ZT Zv) λ_ _ _ _ _ _=>u1 λ_=>rfl;have Za:=gf (w:=w) l.prog base true X G bx (λ_ _ F=>Jn F T U) λ_ _ _ _ _ _=>u1 λ_=>rfl;have YN:=gf (w:=w) l.prog base true X G du (λ_ _ F=>HS F T Z2 U Za ZM) λ_ _ _ _ _ _=>u4 λ_ _ _ _=>rfl;have YO:=gf (w:=w) l.prog base true X G g4 (λ_ _ F=>Gj F T Z2 U YV) λ_ _ _ _ _ _=>u3 λ_ _ _=>rfl;have YU:=gf (w:=w) l.prog base true X G b5 (λ_ _ F=>yP F T U Z2 Y9 Y8 YO YN) λ_ _ _ _ _ _=>u5 λ_ _ _ _ _=>rfl;have Y7:=gf (w:=w) l.prog base true X G ba (λ_ _ F=>Gn F T U Z2) λ_ _ _ _ _ _=>u1 λ_=>rfl;have Y3:=gf (w:=w) l.prog base true X G f6 (λ_ _ F=>w9 F T Zr U Y7 YU) λ_ _ _ _ _ _=>u1 λ_=>rfl;have ZA:=gf (w:=w) l.prog base true X G d5 (λ_ _ F=>FD F T) λ_ _ _ _ _ _=>u2 λ_ _=>rfl;have Y2:=gf (w:=w) l.prog base true X G ha (λ_ _ F=>IE F T ZA U) λ_ _ _ _ _ _=>u3 λ_ _ _=>rfl;have Y1:=gf (w:=w) l.prog base true X G eb (λ_ _ F=>y4 F T U) λ_ _ _ _ _ _=>u2 λ_ _=>rfl;have Zz:=gf (w:=w) l.prog base true X G de (λ_ _ F=>HJ F T ZD Z5 ZC) λ_ _ _ _ _ _=>u2 λ_ _=>rfl;have YT:=gf (w:=w) l.prog base true X G gv (λ_ _ F=>C0 F T Zz ZF ZO ZI ZA) λ_ _ _ _ _ _=>u3 λ_ _ _=>rfl;have ZG:=gf (w:=w) l.prog base true X G hq (λ_ _ F=>EJ F T ZW Z0 ZZ ZV Y6 Zd) λ_ _ _ _ _ _=>u1 λ_=>rfl;have Y4:=gf (w:=w) l.prog base true X G c6 (λ_ _ F=>BS F T Z8) λ_ _ _ _ _ _=>u1 λ_=>rfl;have YM:=gf (w:=w) l.prog base true X G dg (λ_ _ F=>Gx F T Z4 Z8 Y5 Y4 Zl ZI Zi) λ_ _ _ _ _ _=>u1 λ_=>rfl;have YS:=gf (w:=w) l.prog base true X G cp (λ_ _ F=>Bz F T YE Ym YM) λ_ _ _ _ _ _=>u1 λ_=>rfl;have Zu:=gf (w:=w) l.prog base true X G gs (λ_ _ F=>Gb F T ZE) λ_ _ _ _ _ _=>u5 λ_ _ _ _ _=>rfl;have YL:=gf (w:=w) l.prog base true X G dy (λ_ _ F=>Cj F T) λ_ _ _ _ _ _=>u1 λ_=>rfl;have Zx:=gf (w:=w) l.prog base true X G c2 (λ_ _ F=>EU F T YL) λ_ _ _ _ _ _=>u1 λ_=>rfl;have ZX:=gf (w:=w) l.prog base true X G bt (λ_ _ F=>AX F T ZZ Z0 ZW ZV YT) λ_ _ _ _ _ _=>u5 λ_ _ _ _ _=>rfl;have Zf:=gf (w:=w) l.prog base true X G hA (λ_ _ F=>Fd F T YS ZX ZW ZV ZM ZG Zu Zx) λ_ _ _ _ _ _=>u5 λ_ _ _ _ _=>rfl;exact B0 W T YK Y3 Y2 Y1 U Zi ZG Zu Zx Zf ZX Ze
theorem walk{l:OpenLaw}{d:DefRec}{K:Params->Frag}(W:l.most=some 63)(G:d.params.defaults=[])(S:∀(w:Ke)(h:Heap),J w h->(K w.params).In h)(F:∀(w:Ke)(mg:Str->Option Value)(O:Addr)(h:Heap),(K w.params).In h->h.Ns J9 mg->mg d.name=some (.ref O) ->
   ∃fd:J4,(∀(s:JR)(u:Value),BindsTo s fd ⟨[u],[]⟩ [("_law_script",u)])/\∀base:Heap,(K w.params).In base->base.Ns J9 mg->zp l.prog w (K w.params) mg base CX0 true 11 O fd WK (iQ (K w.params))):
  WalkO q Yq Z J l.row.toRowW d [] (λf vs=>PySem.call f vs) :=
 L2.walk_of (n:=63) (k:=11) (x:="_law_script") (CX:=λ_=>CX0) (sp:=λw=>iQ (K w.params)) W (by decide) G ⟨λ_=>rfl,by decide,by decide,rfl⟩ S F (λ_ _ a ns hl _ U=>⟨a,ns,rfl,U,hl,λ_=>rfl⟩) λ_ _ _ _ _ z=>z
end K32
def PySem.W.Fast.Pg:Nat:=0
def PySem.W.Fast.OY:Nat:=0
def PySem.W.Fast.OR:Nat:=0
def PySem.W.Fast.Pj:Nat:=0
def PySem.W.Fast.O5:Nat:=0
def PySem.W.Fast.Pf:Nat:=0
def PySem.W.Fast.O0:Nat:=0
def PySem.W.Fast.OE:Nat:=0
def PySem.W.Fast.OK:Nat:=0
def PySem.W.Fast.O7:Nat:=0
def PySem.W.Fast.O9:Nat:=0
def PySem.W.Fast.OM:Nat:=0
def PySem.W.Fast.OV:Nat:=0
def PySem.W.Fast.OH:Nat:=0
def PySem.W.Fast.O4:Nat:=0
def PySem.W.Fast.O6:Nat:=0
def PySem.W.Fast.OS:Nat:=0
def PySem.W.Fast.OD:Nat:=0
def PySem.W.Fast.O8:Nat:=0
def PySem.W.Fast.Pe:Nat:=0
def PySem.W.Fast.ON:Nat:=0
def PySem.W.Fast.OL:Nat:=0
def PySem.W.Fast.Ph:Nat:=0
def PySem.W.Fast.OG:Nat:=0
def PySem.W.Fast.OP:Nat:=0
def PySem.W.Fast.OC:Nat:=0
def PySem.W.Fast.Pk:Nat:=0
def PySem.W.Fast.Pd:Nat:=0
def PySem.W.Fast.OJ:Nat:=0
def PySem.W.Fast.OT:Nat:=0
def PySem.W.Fast.Pa:Nat:=0
def PySem.W.Fast.OU:Nat:=0
def PySem.W.Fast.OI:Nat:=0
def PySem.W.Fast.Pc:Nat:=0
def PySem.W.Fast.O3:Nat:=0
def PySem.W.Fast.OW:Nat:=0
def PySem.W.Fast.Pi:Nat:=0
def PySem.W.Fast.O1:Nat:=0
def PySem.W.Fast.OX:Nat:=0
def PySem.W.Fast.OZ:Nat:=0
def PySem.W.Fast.OF:Nat:=0
def PySem.W.Fast.OB:Nat:=0
def PySem.W.Fast.O2:Nat:=0
def PySem.W.Fast.OO:Nat:=0
def PySem.W.Fast.Pb:Nat:=0
structure PySem.W.Fast:Prop where(tw1031711779357682923 tw7145223944666661317 tw9353702943267279480 tw235581466774287006 tw4803085592389325258 tw1201682330033337465 tw6135172684061065536 tw15817540031218864842 tw12962693542267417984 tw4763707851656421004 tw3984488309333165194 tw12162605070007545487 tw7647650969077622776 tw14235176094699377658 tw5110992561148909433 tw4777966674602136211 tw9269719012048642467 tw16961840299419507767 tw4430759661475977399 tw1311298560137375480 tw11679405125273293642 tw12544221380594668282 tw782974943740860730 tw14759157538766427354 tw10536109432371027663 tw17479047162630382645 tw113063307918654631 tw1714474163314795581 tw13055936775321967455 tw9194177075498116469 tw3195941246897880348 tw8645598175720398902 tw13598786883333633942 tw2620372828162513268 tw5187655317116615852 tw7247603062917933072 tw362153908064162199 tw5737091856374616403 tw7231082602533988389 tw6707128456764834615 tw15806494782721932273 tw17664016284042211490 tw5279540341231419115 tw11502936262797201311 tw2804332587973519761 tw2804783576720337186 tw10961077677361352832 tw11766163927837483103 tw6987343989666885412 tw5184719280015768919 tw13871501267963857654 tw3508137122634836499 tw8567519221430848376 tw15876513023485073403 tw17514399436498914495 tw11817428958474012986 tw2739045760799679647 tw2689394937589348187 tw14507764088226817959 tw2400894295494177601 tw8759103698223204806 tw17239007208605823607 tw16608588372585119735 tw9763645249964519962 tw2566418584263648437 tw6720066979301424825 tw18258315850016415938 tw16703143083770915787 tw16929395544503882038 tw1518081564529780249 tw3757617489579125424 tw7077205845111516661 tw12110923604818574174 tw8768463911134347016 tw6884631060317116528 tw5693015696178686485 tw7201353741155934037 tw15624642497626777811 tw3842766815697966660 tw6202944079098697537 tw17809608328781644854 tw11503547747110588498 tw18186293930611262000 tw16055653962933135818 tw4148385857420058489 tw904275648893835005 tw5216488974311885031 tw4545247419186846088 tw16452928337749812460 tw15610558853144605092 tw3200220227050558437 tw8999450943541274945 tw9335791947410795610 tw6929874710626497111 tw5108126087954804016 tw668680071282597458 tw17334255422088898778 tw15022944735416592813 tw12549473770840048314 tw15520610994967606662 tw3328093354544186323 tw16122178332157167477 tw6365946651358368613 tw14860837005952809173 tw4892243400785744304 tw9481147665316219051 tw1535287081760346732 tw1133609183892207262 tw2668802356675850425 tw15610903625776877160 tw12824001795331100505 tw6825039640137716126 tw10851565784050533 tw16069824051008485590 tw11831579707562805526 tw10391863295463427086 tw13835369313081198816 tw2400380460349674911 tw4135119514947639088 tw8041976069616138883 tw6421034505103132764 tw5889962092221053999 tw3141240736789684677 tw14063375566071654473 tw1839184665711161765 tw12781647350070469727 tw1996734797168379191 tw14562407922214052102 tw8262063191244922363 tw13722310520225642915 tw16143563063756586778 tw545806123184932949 tw11113778454394045960 tw10067129994240534655 tw13252755658149403769 tw14158533843255789614 tw3835520335916197880 tw15236195216563041677 tw17953011876670059470 tw11031846800082456561 tw9790758557247192905 tw899395688675917174 tw2581710494627209490 tw13235665075881982435 tw11731497462667944005 tw10207053591359569 tw6333864406858115186 tw2600811998321059742 tw6706563330123382080 tw3364375191605919526 tw14805923698800232147 tw17323574665926754832 tw540684656083940923 tw6079020326932795038 tw10037088674612195153 tw10661890659420615474 tw11156428251855193384 tw14295497944959649056 tw12163790206641786938 tw16622084265242668893 tw17638767701526478371 tw982272896811869266 tw12610406629813498773 tw8514593888662027862 tw2207134644852243004 tw1879826954581432733 tw16938956549057048806 tw3102865121839806457 tw4537600049886559241 tw5958580205897065399 tw17528965103911947289 tw10207009169194627904 tw9305975407544503527 tw4908729631503156665 tw16545095854795184578 tw9191960664674090559 tw8859631257350248105 tw12763268275962176695 tw5663652274571339187 tw9318102016439950892 tw2320087981750901328 tw1907853465463187789 tw6148685998476556423 tw3285306787042680610 tw955618960270436702 tw8202870784350848072 tw9872617335379720962 tw13198784704045980983 tw4113087060819951903 tw6834071147720271858 tw10276290457947063224 tw10164917080462038085 tw12760825195132485350 tw11118301351179025023 tw14813141464609173797 tw12380263981061472052 tw18230700003464042742 tw9403112064676431880 tw2197027284982912388 tw18411154110411521997 tw11326412517263049125 tw15226456703851549173 tw10985033484764104078 tw17650428767105257184 tw15077443189183734576 tw1300943488355991918 tw997488362146017129 tw7135473726901020405 tw3917556874655410852 tw11255132227889422578 tw1534365497686894928 tw5769926904324068500 tw15438491329230915585 tw9159933022938971024 tw11952297223812082228 tw14346356855112685080 tw16861882610245636586 tw7250331180831675460 tw2620130911055711797 tw3064391922267558196 tw7402355483624727156 tw127789271231309724 tw9908328836320963656 tw3725816720206286701 tw16266374642185029272 tw13928571929370028046 tw12378952420210818198 tw947731707031251355 tw10132339450030949611 tw6821495056315243053 tw14214470717263637254 tw11978844583180212492 tw8569470485485965783 tw1652069273864160240 tw2767634968779154858 tw10510706223602854425 tw8016330710582533975 tw18273388777552475449 tw14409216970665486519 tw11679089218058237369 tw3414296814648343722 tw16190449850502391187 tw5276335189456409083 tw12207949320657400666 tw7108188235292936050 tw6569420959234654375 tw4199041693158045075 tw6029855570970105983 tw12650118688401774792 tw3162794827043641464 tw1050070654607267601 tw12064394688845138243 tw8715039300638549301 tw4863378169469660103 tw16085370634468772991 tw14425166774462521083 tw15677796395712845242 tw15467622276820946306 tw11194058965009919236 tw18360271590700857376 tw12680431216751654277 tw5924766331004965366 tw4834664375551001221 tw12159539011360320417 tw2965007309240514343 tw13124586739420949823 tw8028564607077036873 tw17906858120012998405 tw12362920094730414437 tw897919776926389889 tw9238401115261328677 tw6375641335329726640 tw17994696505988245742 tw16351459024243308766 tw1226825995603377732 tw10669264864650962918 tw8454985859626601957 tw4066078205225853432 tw132778049871220932 tw5366534173587428787 tw17819561913336558793 tw12258194839603932826 tw773514532359016584 tw10592359112919445605 tw9562630176558942254 tw7214511171148626244 tw10331833237025747789 tw16103136520901248013 tw12091409817017664155 tw8598445165959903792 tw4285752490865994846 tw3610165107512196571 tw13979917974675107331 tw602136645206252872 tw14404423446821320615 tw6675745677210210245 tw4048291942854215494 tw3007951964673414800 tw9799415084218330761 tw5984164439093909196 tw541217861800860551 tw14167217285156292969 tw1187761990850573746 tw3420421528804213696 tw18336504072217801108 tw3037865207500029248 tw3871794518336438581 tw7617306756821267021 tw5830516196017724089 tw5083552913773963772 tw2971312586154956738 tw13833981173361518516 tw736446566656733999 tw13151157711433524769 tw10855762086477971682 tw4150624044464551772 tw17377564965134996196 tw12243686830399843699 tw4063969379825005637 tw3783725833691321501:True)
open PySem PySem.W PyProof.Rows
set_option maxRecDepth 100000 in
set_option maxHeartbeats 0 in
theorem PySem.Challenge.cw_cleanrows_k32_whole_marks_there_and_back_holds : PySem.Challenge.rw_cleanrows_k32_whole_marks_there_and_back.Holds := by
 w_on;o_law;k_head;(case hw=>w_witness2)
 k_fill
 refine K32.walk (l:=PySem.Challenge.rw_cleanrows_k32_whole_marks_there_and_back) rfl rfl (λw h Y=>PySem.W.kIn_of Y) ?F
 case F =>
  intro w mg fa h KX G hmg
  refine' K32.all_mk KX G hmg ..
  all_goals try refine' ⟨_,_,?_,⟨⟨_,_,_,_,_,_,_,_,_,rfl,?_,?_⟩,?_⟩⟩
  all_goals try refine' ⟨_,_,?_,?_,⟨⟨_,_,_,_,_,_,_,_,_,rfl,?_,?_⟩,?_⟩⟩
  all_goals first|k_is|kit_is|k_exc|rfl|decide +kernel|skip
